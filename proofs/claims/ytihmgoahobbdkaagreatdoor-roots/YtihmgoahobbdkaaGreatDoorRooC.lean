/-
  plain.taken, WALKED.
-/
import Derived.Test.YtihmgoahobbdkaaGreatDoorRooB
namespace Go.Proofs.YtihmgoahobbdkaaGreatDoor
open Go.RowKit Go.Lib

theorem equalIn_func_nil {P : Program} (w : World) (d : Nat) (t : TypeId) {ps rs : Array TypeId} {v : Bool} (f : Fn) (a b : Array Value) (h : P.underlying t = some (.func ps rs v)) : (Op.equalIn (d + 1) t (.func f a b) .nilFunc).run P w = .ok false w := by
  simp [Op.equalIn, run_underlying h]
theorem eql_func_nil {P : Program} (w : World) (t : TypeId) {ps rs : Array TypeId} {v : Bool} (f : Fn) (a b : Array Value) (h : P.underlying t = some (.func ps rs v)) : (binOp .eql t (.func f a b) .nilFunc).run P w = .ok (.bool false) w := by
  simp only [binOp]
  simp [Op.equal, Op.maxDepth, equalIn_func_nil w 9999 t f a b h]
theorem four_blocks (w : World) (a b c d : Array Value) (A B C D : TypeId) (W : World) (hW : W = (((w.alloc (.cells a A)).alloc (.cells b B)).alloc (.cells c C)).alloc (.cells d D)) :
    W.heap[w.heap.size]? = some (.cells a A (0, 0)) ∧ W.heap[w.heap.size + 1]? = some (.cells b B (0, 0)) ∧ W.heap[w.heap.size + 1 + 1]? = some (.cells c C (0, 0)) ∧ W.heap[w.heap.size + 1 + 1 + 1]? = some (.cells d D (0, 0)) ∧ Below w.heap.size w W := by
  subst hW
  have h1 := block_new w a A
  have h2 := block_new (w.alloc (.cells a A)) b B
  have h3 := block_new ((w.alloc (.cells a A)).alloc (.cells b B)) c C
  have h4 := block_new (((w.alloc (.cells a A)).alloc (.cells b B)).alloc (.cells c C)) d D
  simp only [World.size_alloc] at h2 h3 h4
  refine ⟨heap_alloc_old (heap_alloc_old (heap_alloc_old h1)), heap_alloc_old (heap_alloc_old h2), heap_alloc_old h3, h4, ?_⟩
  exact (((((Below.refl _ w).alloc (Nat.le_refl _) _).alloc (by simp) _).alloc (by simp; omega) _).alloc (by simp; omega) _)
theorem owns_below {w w' : World} {base e size n : Nat} {v : Value} {xs : List Value} (h : w.ownsRow base e size v n xs) (hb : Below w.heap.size w w') : w'.ownsRow base e size v n xs :=
  (Only.of_below (P := fun _ => False) hb).owns h (fun _ _ => id)
set_option maxRecDepth 1000000 in
set_option maxHeartbeats 1000000 in
theorem takenRun {w : World} {base : Nat} {lv : Value} {ms : List ByteArray} (hl : w.ownsRow base 9 1 lv ms.length (ms.map Value.string)) (h16 : ms.length ≤ 900) {Bx : Nat} (hBx : w.heap[Bx]? = some (.cells #[lv] 30 (0, 0))) (n : Int) :
    Calls Tryz.prog 29 #[.func (.func 75) #[] #[.pointer (some ⟨Bx, 0, none⟩)], .int .i64 n] w fun e w' => ∃ tv, e = .returned (.tuple #[tv, .bool true]) ∧ Below w.heap.size w w' ∧ w'.ownsRow 0 9 1 tv (firstN n ms).length ((firstN n ms).map Value.string) := by
  have hmf : ∀ (fn : Fn) (first cap : Array Value) (w : World), (Instr.makeFunc fn first cap).run Tryz.prog w = .ok (.func fn first cap) w := fun _ _ _ _ => rfl
  have hfn : ∀ (w : World) (f : Fn) (a b : Array Value), (binOp .eql 74 (.func f a b) .nilFunc).run Tryz.prog w = .ok (.bool false) w := fun w f a b => eql_func_nil w _ f a b Tryz.underlying74
  have HL : Hid (w.ownsRow base 9 1 lv ms.length (ms.map Value.string)) := hl
  have HBX : Hid (w.heap[Bx]? = some (.cells #[lv] 30 (0, 0))) := hBx
  clear hl hBx
  go_enter Tryz.func29, Tryz.ntmps29
  go_wp2_with fail
  obtain ⟨W, hW⟩ : ∃ W, W = ((((w.alloc (.cells #[.int .i64 n] 3)).alloc (.cells #[.slice none 0 0] 30)).alloc (.cells #[.bool false] 4)).alloc (.cells #[.bool false] 4)) := ⟨_, rfl⟩
  obtain ⟨s0, s1, s2, s3, hB⟩ := four_blocks w _ _ _ _ _ _ _ _ W hW
  rw [← hW]
  clear hW
  have hTk : Tk W (w.heap.size + 1 + 1 + 1) (w.heap.size + 1 + 1) (w.heap.size + 1) w.heap.size n false [] (.slice none 0 0) := ⟨s3, s2, s1, s0, by omega, World.ownsRow_nil _ _ _ _⟩
  have hrun := eachRun (owns_below HL.out hB) h16 ((hB.block _ (heap_lt HBX.out)).trans HBX.out) hTk
  have HB : Hid (Below w.heap.size w W) := hB
  clear s0 s1 s2 s3 hB hTk HL HBX
  refine hrun.mono ?_
  rintro e w2 ⟨rfl, st, tv, hc2, ho2⟩
  have FIN : Hid (Below w.heap.size w w2 ∧ w2.ownsRow 0 9 1 tv (firstN n ms).length ((firstN n ms).map Value.string)) := by
    refine ⟨HB.out.trans (ho2.below HB.out.size (fun b q => ?_)), hc2.own⟩
    rcases q with q | q | q <;> omega
  have ct := cell_of_heap (i := 0) hc2.ht rfl
  have co := cell_of_heap (i := 0) hc2.ho rfl
  clear hc2 ho2 hrun HB
  go_wp2_with fail
  go_quiet (fail)
  go_wp2
  refine bodyPost_ret (v := .tuple #[tv, .bool true]) (by simp [results, Tryz.results29, go_sem]) rfl ?_
  exact ⟨_, rfl, ⟨FIN.out.1.os, FIN.out.1.tape, FIN.out.1.output, FIN.out.1.size, FIN.out.1.block⟩, FIN.out.2⟩
end Go.Proofs.YtihmgoahobbdkaaGreatDoor
