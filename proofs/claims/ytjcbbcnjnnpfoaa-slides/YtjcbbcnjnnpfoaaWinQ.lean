/-
  plain's All, WALKED.
-/
import Derived.Test.YtjcbbcnjnnpfoaaWinP
import Derived.Test.YtjcbbcnjnnpfoaaWinH
namespace Go.Proofs.Ytjcbbcnjnnpfoaa
open Go.RowKit Go.Lib Go.Shelf

theorem equalIn_func_nil {P : Program} (w : World) (d : Nat) (t : TypeId) {ps rs : Array TypeId} {v : Bool} (f : Fn) (a b : Array Value) (h : P.underlying t = some (.func ps rs v)) : (Op.equalIn (d + 1) t (.func f a b) .nilFunc).run P w = .ok false w := by
  simp [Op.equalIn, run_underlying h]
theorem eql_func_nil {P : Program} (w : World) (t : TypeId) {ps rs : Array TypeId} {v : Bool} (f : Fn) (a b : Array Value) (h : P.underlying t = some (.func ps rs v)) : (binOp .eql t (.func f a b) .nilFunc).run P w = .ok (.bool false) w := by
  simp only [binOp]
  simp [Op.equal, Op.maxDepth, equalIn_func_nil w 9999 t f a b h]

theorem six_blocks (w : World) (a b c d e f : Array Value) (A B C D E F : TypeId) (W : World) (hW : W = (((((w.alloc (.cells a A)).alloc (.cells b B)).alloc (.cells c C)).alloc (.cells d D)).alloc (.cells e E)).alloc (.cells f F)) :
    W.heap[w.heap.size]? = some (.cells a A (0, 0)) ∧ W.heap[w.heap.size + 1]? = some (.cells b B (0, 0)) ∧ W.heap[w.heap.size + 1 + 1]? = some (.cells c C (0, 0)) ∧ W.heap[w.heap.size + 1 + 1 + 1]? = some (.cells d D (0, 0)) ∧ W.heap[w.heap.size + 1 + 1 + 1 + 1]? = some (.cells e E (0, 0)) ∧ W.heap[w.heap.size + 1 + 1 + 1 + 1 + 1]? = some (.cells f F (0, 0)) ∧ Below w.heap.size w W := by
  subst hW
  have h1 := block_new w a A
  have h2 := block_new (w.alloc (.cells a A)) b B
  have h3 := block_new ((w.alloc (.cells a A)).alloc (.cells b B)) c C
  have h4 := block_new (((w.alloc (.cells a A)).alloc (.cells b B)).alloc (.cells c C)) d D
  have h5 := block_new ((((w.alloc (.cells a A)).alloc (.cells b B)).alloc (.cells c C)).alloc (.cells d D)) e E
  have h6 := block_new (((((w.alloc (.cells a A)).alloc (.cells b B)).alloc (.cells c C)).alloc (.cells d D)).alloc (.cells e E)) f F
  simp only [World.size_alloc] at h2 h3 h4 h5 h6
  refine ⟨heap_alloc_old (heap_alloc_old (heap_alloc_old (heap_alloc_old (heap_alloc_old h1)))), heap_alloc_old (heap_alloc_old (heap_alloc_old (heap_alloc_old h2))), heap_alloc_old (heap_alloc_old (heap_alloc_old h3)), heap_alloc_old (heap_alloc_old h4), heap_alloc_old h5, h6, ?_⟩
  exact (((((((Below.refl _ w).alloc (Nat.le_refl _) _).alloc (by simp) _).alloc (by simp; omega) _).alloc (by simp; omega) _).alloc (by simp; omega) _).alloc (by simp; omega) _)

set_option maxRecDepth 1000000 in
set_option maxHeartbeats 2000000 in
theorem pall {w : World} {bw Rn Rs : Nat} {wid tm : Int} {k : List (Int × Int)} {mn ms : Value} (h : Both w bw Rn Rs wid tm k mn ms) (n : Int) (hn : 1 ≤ n) :
    Calls Try.prog 21 #[.pointer (some ⟨bw, 0, none⟩), .int .i64 n] w fun e w' => ∃ tv vv, e = .returned (.tuple #[tv, vv, .bool true]) ∧ Below w.heap.size w w' ∧ w'.ownsRow 0 2 1 tv (k.take n.toNat).length (ints ((k.take n.toNat).map (·.1))) ∧ w'.ownsRow 0 2 1 vv (k.take n.toNat).length (ints ((k.take n.toNat).map (·.2))) := by
  have hmf : ∀ (fn : Fn) (first cap : Array Value) (w : World), (Instr.makeFunc fn first cap).run Try.prog w = .ok (.func fn first cap) w := fun _ _ _ _ => rfl
  have c0 : w.cell? ⟨bw, 0, none⟩ = some (.pointer (some ⟨Rn, 0, none⟩)) := cell_of_heap (i := 0) h.blk rfl
  have H : Hid (Both w bw Rn Rs wid tm k mn ms) := h
  have c4 : ∀ a b c d, ((((w.alloc a).alloc b).alloc c).alloc d).cell? ⟨bw, 0, none⟩ = some (.pointer (some ⟨Rn, 0, none⟩)) := fun a b c d => cell_past (cell_past (cell_past (cell_past c0 a) b) c) d
  have hal := fun W => allI W Rn
  have hfn : ∀ (w : World) (f : Fn) (a b : Array Value), (binOp .eql 75 (.func f a b) .nilFunc).run Try.prog w = .ok (.bool false) w := fun w f a b => eql_func_nil w _ f a b Try.underlying75
  clear h
  go_enter Try.func21, Try.ntmps21
  go_wp2_with fail
  refine (hal _).mono ?_
  rintro e w' ⟨rfl, rfl⟩
  go_wp2_with fail
  obtain ⟨W, hW⟩ : ∃ W, W = ((((((w.alloc (.cells #[.int .i64 n] 3)).alloc (.cells #[.slice none 0 0] 61)).alloc (.cells #[.slice none 0 0] 61)).alloc (.cells #[.bool true] 4)).alloc (.cells #[.pointer (some ⟨Rn, 0, none⟩)] 33)).alloc (.cells #[.bool false] 4)) := ⟨_, rfl⟩
  obtain ⟨s0, s1, s2, s3, s4, s5, hB⟩ := six_blocks w _ _ _ _ _ _ _ _ _ _ _ _ W hW
  rw [← hW]
  clear hW c4 hal
  have HB : Hid (Below w.heap.size w W) := hB
  have hcol : Col W (w.heap.size + 1 + 1 + 1) (w.heap.size + 1 + 1 + 1 + 1 + 1) (w.heap.size + 1) (w.heap.size + 1 + 1) w.heap.size n false [] (.slice none 0 0) (.slice none 0 0) :=
    ⟨s3, s5, s1, s2, s0, by omega, by omega, World.ownsRow_nil _ _ _ _, World.ownsRow_nil _ _ _ _, fun g hg => by cases hg⟩
  have hrun := allRun (H.out.below hB).n s4 hn hcol H.out.len
  clear s0 s1 s2 s3 s4 s5 hB hcol c0
  refine hrun.mono ?_
  rintro e w2 ⟨rfl, st, tv, vv, hc2, ho2⟩
  have HC : Hid _ := hc2
  have HO : Hid _ := ho2
  obtain ⟨ta, tc, rfl⟩ := owns_slice hc2.ot
  obtain ⟨va, vc, rfl⟩ := owns_slice hc2.ov
  have ct : w2.cell? ⟨w.heap.size + 1, 0, none⟩ = some _ := cell_of_heap (i := 0) hc2.ht rfl
  have cv : w2.cell? ⟨w.heap.size + 1 + 1, 0, none⟩ = some _ := cell_of_heap (i := 0) hc2.hv rfl
  have cr : w2.cell? ⟨w.heap.size + 1 + 1 + 1, 0, none⟩ = some (.bool true) := cell_of_heap (i := 0) hc2.hr rfl
  have ft : w2.frozen? ⟨w.heap.size + 1, 0, none⟩ = false := frozen_of_heap hc2.ht
  have fv : w2.frozen? ⟨w.heap.size + 1 + 1, 0, none⟩ = false := frozen_of_heap hc2.hv
  have fr : w2.frozen? ⟨w.heap.size + 1 + 1 + 1, 0, none⟩ = false := frozen_of_heap hc2.hr
  generalize hm : (k.take n.toNat).length = m at *
  clear hc2 ho2 hrun
  go_wp2_with fail
  go_region
  obtain ⟨W3, hW3⟩ : ∃ W3, W3 = (((w2.setCell ⟨w.heap.size + 1, 0, none⟩ (.slice ta m tc)).setCell ⟨w.heap.size + 1 + 1, 0, none⟩ (.slice va m vc)).setCell ⟨w.heap.size + 1 + 1 + 1, 0, none⟩ (.bool true)).drew := ⟨_, rfl⟩
  rw [← hW3]
  have hc := HC.out
  have hb3 : Only (Box4 (w.heap.size + 1 + 1 + 1) (w.heap.size + 1 + 1 + 1 + 1 + 1) (w.heap.size + 1) (w.heap.size + 1 + 1)) w2 W3 := by
    rw [hW3]
    exact ((((Only.refl _ w2).setCell (a := ⟨w.heap.size + 1, 0, none⟩) (fun _ => .inr (.inr (.inl rfl))) _).setCell (a := ⟨w.heap.size + 1 + 1, 0, none⟩) (fun _ => .inr (.inr (.inr rfl))) _).setCell (a := ⟨w.heap.size + 1 + 1 + 1, 0, none⟩) (fun _ => .inl rfl) _).drew
  have e1 : W3.heap[w.heap.size + 1]? = some (.cells #[.slice ta m tc] 61 (0, 0)) := by
    rw [hW3]
    exact heap_set_other (heap_set_other (heap_set_same (i := 0) (v := .slice ta m tc) hc.ht) (by simp <;> omega)) (by simp <;> omega)
  have e2 : W3.heap[w.heap.size + 1 + 1]? = some (.cells #[.slice va m vc] 61 (0, 0)) := by
    rw [hW3]
    exact heap_set_other (heap_set_same (i := 0) (v := .slice va m vc) (heap_set_other hc.hv (by simp <;> omega))) (by simp <;> omega)
  have e3 : W3.heap[w.heap.size + 1 + 1 + 1]? = some (.cells #[.bool true] 4 (0, 0)) := by
    rw [hW3]
    exact heap_set_same (i := 0) (v := .bool true) (heap_set_other (heap_set_other hc.hr (by simp <;> omega)) (by simp <;> omega))
  have d1 : W3.cell? ⟨w.heap.size + 1, 0, none⟩ = some (.slice ta m tc) := cell_of_heap e1 rfl
  have d2 : W3.cell? ⟨w.heap.size + 1 + 1, 0, none⟩ = some (.slice va m vc) := cell_of_heap e2 rfl
  have d3 : W3.cell? ⟨w.heap.size + 1 + 1 + 1, 0, none⟩ = some (.bool true) := cell_of_heap e3 rfl
  have q : ∀ {x : Value} {xs : List Value}, w2.ownsRow 0 2 1 x m xs → ∀ g, x.ownBlock = some g → ¬ Box4 (w.heap.size + 1 + 1 + 1) (w.heap.size + 1 + 1 + 1 + 1 + 1) (w.heap.size + 1) (w.heap.size + 1 + 1) g := fun ho g hg q => by
    rcases q with q | q | q | q
    · subst q; exact row_ne hc.hr ho (by decide) hg
    · subst q; exact row_ne hc.hs ho (by decide) hg
    · subst q; exact row_ne hc.ht ho (by decide) hg
    · subst q; exact row_ne hc.hv ho (by decide) hg
  have FIN : Hid (Below w.heap.size w W3 ∧ W3.ownsRow 0 2 1 (.slice ta m tc) m (ints ((k.take n.toNat).map (·.1))) ∧ W3.ownsRow 0 2 1 (.slice va m vc) m (ints ((k.take n.toNat).map (·.2)))) := by
    have ht := hc.ot
    have hv := hc.ov
    rw [hm] at ht hv
    refine ⟨?_, hb3.owns ht (q ht), hb3.owns hv (q hv)⟩
    refine HB.out.trans (((HO.out.trans hb3 (fun _ _ q => q)).below HB.out.size (fun b q => ?_)))
    rcases q with q | q | q | q <;> omega
  clear hW3 hc hb3 e1 e2 e3 q HC HO ct cv cr ft fv fr
  go_wp2
  refine bodyPost_ret (v := .tuple #[.slice ta m tc, .slice va m vc, .bool true]) (by simp [results, Try.results21, go_sem, d1, d2, d3]) rfl ?_
  exact ⟨_, _, rfl, FIN.out.1, by rw [hm]; exact FIN.out.2⟩
end Go.Proofs.Ytjcbbcnjnnpfoaa
