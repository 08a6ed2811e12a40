/-
  Fold of a window of texts to how many there are; plain's Fold, WALKED.
-/
import Derived.Test.YtjcbbcnjnnpfoaaWinJI
import Derived.Test.YtjcbbcnjnnpfoaaWinJS
namespace Go.Proofs.Ytjcbbcnjnnpfoaa
open Go.RowKit Go.Lib Go.Shelf
attribute [local go_sem] Oper.semAt_some

set_option maxRecDepth 1000000 in
theorem stepN (n : Nat) (hn : n ≤ 100) (v : ByteArray) (w : World) : Calls Try.prog 38 #[.int .i64 n, .string v] w fun e w' => e = .returned (.int .i64 ((n + 1 : Nat) : Int)) ∧ w' = w := by
  go_enter Try.func38, Try.ntmps38
  go_wp2
  go_ret
  exact ⟨by go_num, rfl⟩

/-- What a fold to a number holds between two rounds. -/
structure FldN (w W : World) (n : Nat) : Prop where
  st : W.heap[w.heap.size]? = some (.cells #[.func (.func 38) #[] #[]] 82 (0, 0))
  hvb : W.heap[w.heap.size + 1]? = some (.cells #[.int .i64 n] 3 (0, 0))
  bel : Below w.heap.size w W
theorem FldN.grown {w W W' : World} {B n : Nat} {row : Option Nat} (h : FldN w W n) (hB : w.heap.size ≤ B) (hg : W.grownBy W' row) (hr : ∀ r, row = some r → B ≤ r ∧ ∃ o : Obj, W.heap[r]? = some o ∧ o.isCells = false) : FldN w W' n := by
  have hne : ∀ {b : Nat} {cs : Array Value} {T : Nat} {z : Nat × Nat}, W.heap[b]? = some (.cells cs T z) → some b ≠ row := fun hb e => by
    obtain ⟨-, o, ho, hc⟩ := hr _ e.symm
    rw [hb] at ho
    injection ho with ho
    subst ho
    cases hc
  exact ⟨(hg.block _ (heap_lt h.st) (hne h.st)).trans h.st, (hg.block _ (heap_lt h.hvb) (hne h.hvb)).trans h.hvb, h.bel.grown hg h.bel.size (fun k e => Nat.le_trans hB (hr k e).1)⟩
theorem FldN.next {w W : World} {n : Nat} (h : FldN w W n) (m : Nat) : KeepsOthers W (W.setCell ⟨w.heap.size + 1, 0, none⟩ (.int .i64 m)) ∧ KeepS W (W.setCell ⟨w.heap.size + 1, 0, none⟩ (.int .i64 m)) ∧ FldN w (W.setCell ⟨w.heap.size + 1, 0, none⟩ (.int .i64 m)) m := by
  refine ⟨KeepsOthers.setCell _ _ _, fun b cs z hb => Below.heap_setCell _ _ _ _ (kind_ne hb h.hvb (by decide)), ⟨heap_set_other h.st (by simp), heap_set_same (i := 0) (v := .int .i64 m) h.hvb, h.bel.setCell (p := ⟨w.heap.size + 1, 0, none⟩) (by simp) _⟩⟩

set_option maxRecDepth 1000000 in
set_option maxHeartbeats 2000000 in
theorem foldN {w : World} {R : Nat} {wid tm : Int} {k : List (Int × ByteArray)} {mv : Value} (h : WinS w R wid tm k mv) (hl : k.length ≤ 16) :
    Calls Try.prog 37 #[.pointer (some ⟨R, 0, none⟩), .int .i64 0, .func (.func 38) #[] #[]] w fun e w' => e = .returned (.int .i64 k.length) ∧ Below w.heap.size w w' := by
  have hfn : ∀ (w : World) (f : Fn) (a b : Array Value), (binOp .eql 82 (.func f a b) .nilFunc).run Try.prog w = .ok (.bool false) w := fun w f a b => eql_func_nil w _ f a b Try.underlying82
  have hal := fun W => callsIn_wide (n := 3 - 1).2 (allS W R)
  refine (callsIn_wide (n := 3)).1 ?_
  refine callsIn_of_wp_marks Try.func37 rfl trivial ?_ rfl
  simp only [Try.ntmps37, List.size_toArray, List.length_cons, List.length_nil, Nat.reduceAdd, Nat.reduceSub, Array.replicate_succ, Array.replicate_zero, List.push_toArray, List.append_toArray, List.nil_append, List.cons_append]
  gi_wp2_with fail
  refine ⟨trivial, (hal _).mono ?_⟩
  rintro e w' ⟨rfl, rfl⟩
  have b0 := block_new w #[.func (.func 38) #[] #[]] 82
  have b1 := block_new (w.alloc (.cells #[.func (.func 38) #[] #[]] 82)) #[.int .i64 0] 3
  have b2 := block_new ((w.alloc (.cells #[.func (.func 38) #[] #[]] 82)).alloc (.cells #[.int .i64 0] 3)) #[.pointer (some ⟨R, 0, none⟩)] 35
  simp only [World.size_alloc] at b1 b2
  have hB0 : Below w.heap.size w (((w.alloc (.cells #[.func (.func 38) #[] #[]] 82)).alloc (.cells #[.int .i64 0] 3)).alloc (.cells #[.pointer (some ⟨R, 0, none⟩)] 35)) := (((Below.refl _ w).alloc (Nat.le_refl _) _).alloc (by simp) _).alloc (by simp; omega) _
  have hwin := h.below hB0
  have F0 : FldN w (((w.alloc (.cells #[.func (.func 38) #[] #[]] 82)).alloc (.cells #[.int .i64 0] 3)).alloc (.cells #[.pointer (some ⟨R, 0, none⟩)] 35)) 0 :=
    ⟨heap_alloc_old (heap_alloc_old b0), heap_alloc_old b1, hB0⟩
  obtain ⟨W0, hW0⟩ : ∃ W0, W0 = (((w.alloc (.cells #[.func (.func 38) #[] #[]] 82)).alloc (.cells #[.int .i64 0] 3)).alloc (.cells #[.pointer (some ⟨R, 0, none⟩)] 35)) := ⟨_, rfl⟩
  rw [← hW0] at b2 hB0 hwin F0
  have hsz : w.heap.size ≤ W0.heap.size := hB0.size
  gi_wp2_with fail
  rw [← hW0]
  have hseq : SeqStopsK Fence.wide (3 - 1) Try.prog 54 #[.pointer (some ⟨w.heap.size + 1 + 1, 0, none⟩)] (fun x : Int × ByteArray => #[.int .i64 x.1, Value.string x.2]) KeepS (fun ys => ys = k) (fun _ => True) k.length W0 := fun l J Jx W hW hJ _ hY h0 => by
    have hw2 := hwin.below hW
    exact iterS 2 l (w.heap.size + 1 + 1) R mv k J Jx hY W hJ (cell_of_heap ((hW.block _ (heap_lt b2)).trans b2) rfl) (cell_of_heap (i := 2) hw2.blk rfl) hw2.own hl h0
  clear hW0 hfn hal
  refine wpIn_rangeFunc_ownF rfl (by decide) (gf := 54) (lb := #[.pointer (some ⟨w.heap.size + 1 + 1, 0, none⟩)]) rfl trivial (enters_of Try.func54 (by kernel_rfl) rfl) hseq KeepS.trans (fun W l o o' _ hl hc _ b cs z hb => by
      refine World.putObj_heap_other (fun e => ?_)
      subst e
      rw [hb] at hl
      injection hl with hl
      subst hl
      cases hc) (Below.refl _ _) (fun _ => rfl)
    (fun pre W => FldN w W pre.length) (fun _ _ _ => False) (fun pre W W' row h hg hr => h.grown hsz hg hr) (fun _ _ _ _ _ hs _ _ => hs) F0
    (fun x => { tmps := #[.pointer (some ⟨R, 0, none⟩), .int .i64 0, .func (.func 38) #[] #[], undef, undef, .pointer (some ⟨w.heap.size, 0, none⟩), .int .i64 0, .pointer (some ⟨w.heap.size + 1, 0, none⟩), undef, .string x.2, .pointer (some ⟨R, 0, none⟩), .bool false, .bool false, .func (.func 38) #[] #[], .bool false, .bool false, undef, .int .i64 0, .pointer (some ⟨R, 0, none⟩), .func (.func 54) #[] #[.pointer (some ⟨w.heap.size + 1 + 1, 0, none⟩)], .int .i64 x.1, .string x.2, undef, undef, undef, undef, undef], defers := [] }) ?assign ?body ?done ?stop
  case assign =>
    intro l x W K hK
    gi_wp2
    exact hK
  case body =>
    rintro l pre x W hF hlen
    have cs : W.cell? ⟨w.heap.size, 0, none⟩ = some (.func (.func 38) #[] #[]) := cell_of_heap hF.st rfl
    have ch : W.cell? ⟨w.heap.size + 1, 0, none⟩ = some (.int .i64 pre.length) := cell_of_heap hF.hvb rfl
    have ff : W.frozen? ⟨w.heap.size + 1, 0, none⟩ = false := frozen_of_heap hF.hvb
    have hst := stepN pre.length (by omega) x.2 W
    have HN : Hid _ := hF.next (pre.length + 1)
    clear hF F0 hseq hwin b0 b1 b2 hB0
    generalize hm : ((pre.length + 1 : Nat) : Int) = m at *
    gi_wp2_with fail
    refine ⟨trivial, (CallsIn.inRound l (callsIn_wide.2 hst)).mono ?_⟩
    rintro e W5 ⟨rfl, hw⟩
    have hw := hw.symm
    subst hw
    clear hst
    gi_wp2
    exact ⟨HN.out.1, HN.out.2.1, by show FldN w _ (pre ++ [x]).length; rw [List.length_append]; exact HN.out.2.2⟩
  case done =>
    rintro D ys W hD rfl hF hK
    have ch : W.cell? ⟨w.heap.size + 1, 0, none⟩ = some (.int .i64 ys.length) := cell_of_heap hF.hvb rfl
    have HF : Hid _ := hF
    clear hF F0 hseq hwin b0 b1 b2 hB0
    gi_wp2
    refine ⟨by simp, .inl ⟨_, _, rfl, run_takeDeferred hK, ?_⟩⟩
    have hE := HF.out.grown (B := w.heap.size) (Nat.le_refl _) (grownBy_putObj' W D (.deferred none)) (fun r e => by cases e; exact ⟨by omega, _, hK, rfl⟩)
    exact ⟨_, results_tmp rfl _ _ _, rfl, hE.bel⟩
  case stop =>
    rintro D c pre W _ _ h _
    exact h.elim

set_option maxRecDepth 1000000 in
set_option maxHeartbeats 1000000 in
theorem pfold {w : World} {bw Rn Rs : Nat} {wid tm : Int} {k : List (Int × Int)} {mn ms : Value} (h : Both w bw Rn Rs wid tm k mn ms) :
    Calls Try.prog 22 #[.pointer (some ⟨bw, 0, none⟩)] w fun e w' => ∃ nv sv, e = .returned (.tuple #[nv, sv, .int .i64 k.length]) ∧ Below w.heap.size w w' ∧ w'.ownsRow 0 2 1 nv k.length ((k.map (·.2)).map (Value.int .i64)) ∧ w'.ownsRow 0 9 1 sv k.length ((k.map (fun x => keyOf x.2)).map Value.string) := by
  have c0 : w.cell? ⟨bw, 0, none⟩ = some (.pointer (some ⟨Rn, 0, none⟩)) := cell_of_heap (i := 0) h.blk rfl
  have h1 := foldI h.n h.len
  have H : Hid (Both w bw Rn Rs wid tm k mn ms) := h
  clear h
  go_enter Try.func22, Try.ntmps22
  go_wp2_with fail
  refine h1.mono ?_
  rintro e w1 ⟨nv, rfl, hb1, ho1⟩
  have d1 : w1.cell? ⟨bw, 1, none⟩ = some (.pointer (some ⟨Rs, 0, none⟩)) := cell_of_heap (i := 1) (H.out.below hb1).blk rfl
  have h2 := foldS (H.out.below hb1).s (by simp; exact H.out.len)
  have G1 : Hid _ := And.intro hb1 ho1
  obtain ⟨na, nc, rfl⟩ := owns_slice ho1
  clear h1 hb1 ho1
  generalize hkl : k.length = m at *
  go_wp2_with fail
  refine h2.mono ?_
  rintro e w2 ⟨sv, rfl, hb2, ho2⟩
  have hb02 : Below w.heap.size w w2 := G1.out.1.trans (hb2.mono G1.out.1.size)
  have d2 : w2.cell? ⟨bw, 1, none⟩ = some (.pointer (some ⟨Rs, 0, none⟩)) := cell_of_heap (i := 1) (H.out.below hb02).blk rfl
  have h3 := foldN (H.out.below hb02).s (by simp; exact H.out.len)
  have G2 : Hid _ := And.intro hb2 (And.intro hb02 ho2)
  obtain ⟨sa, sc, rfl⟩ := owns_slice ho2
  clear h2 hb2 ho2 hb02 d1
  rw [List.length_map, hkl] at h3
  have hkm : (keyed k).length = m := by rw [List.length_map, hkl]
  rw [hkm] at *
  go_wp2_with fail
  refine h3.mono ?_
  rintro e w3 ⟨rfl, hb3⟩
  have G3 : Hid _ := hb3
  clear h3 hb3 d2
  go_wp2
  refine bodyPost_ret (v := .tuple #[.slice na m nc, .slice sa m sc, .int .i64 m]) (by simp [results, Try.results22, go_sem]) rfl ?_
  subst hkl
  refine ⟨_, _, rfl, G2.out.2.1.trans (G3.out.mono G2.out.2.1.size), ?_, ?_⟩
  · have := (Only.of_below (P := fun _ => False) G3.out).owns ((Only.of_below (P := fun _ => False) G2.out.1).owns G1.out.2 (fun _ _ => id)) (fun _ _ => id)
    simpa using this
  · have := (Only.of_below (P := fun _ => False) G3.out).owns G2.out.2.2 (fun _ _ => id)
    have e : ((keyed k).map (·.2)).map Value.string = (k.map (fun x => keyOf x.2)).map Value.string := by simp [keyed]
    have e2 : (keyed k).length = k.length := by simp [keyed]
    rw [e, e2] at this
    exact this
end Go.Proofs.Ytjcbbcnjnnpfoaa
