/-
  plain.Parse AND scalerlaw.Parses, WALKED.
-/
import Derived.Test.YtihmgoahobbdkaaGreatDoorCodeO
namespace Go.Proofs.YtihmgoahobbdkaaGreatDoor
open Go.RowKit Go.Lib

set_option maxRecDepth 1000000 in
set_option maxHeartbeats 1000000 in
theorem plain_Parse (s : ByteArray) {A : Nat → Addr} {w : World} (hT : Tabs w) (hA : Sents A w) :
    Calls Tryz.prog 8 #[.string s] w fun e w' => ∃ (t : Option Tree) (f p : Nat), PRel s (t, f, p) ∧ e = .returned (.tuple #[.bool t.isSome, told f p]) ∧ Below w.heap.size w w' := by
  have hx : Below w.heap.size w (w.alloc (.cells #[.int .i64 0, .int .i64 0, .int .i64 0, .string { data := #[] }] 23)) := (Below.refl _ _).alloc (Nat.le_refl _) _
  have hA0 := hA.below hx
  have hp := code_Parse s _ (hT.below hx) (A 0) hA0.g0
  have HA : Hid _ := hA0
  have HX : Hid (Below w.heap.size w (w.alloc (.cells #[.int .i64 0, .int .i64 0, .int .i64 0, .string { data := #[] }] 23))) := hx
  clear hT hA hx hA0
  go_enter Tryz.func8, Tryz.ntmps8
  go_wp2_with fail
  refine hp.mono ?_
  rintro e w1 ⟨hb1, hc⟩
  clear hp
  have hof : ∃ (t : Option Tree) (f p : Nat) (pa : Option Addr) (ev : Value), PRel s (t, f, p) ∧ t.isSome = pa.isSome ∧ e = .returned (.tuple #[.pointer pa, ev]) ∧ Calls Tryz.prog 24 #[ev] w1 fun e w' => e = .returned (told f p) ∧ Below w1.heap.size w1 w' := by
    rcases hc with ⟨h1, rfl⟩ | ⟨h1, ⟨J, b, h2, rfl, h3⟩ | ⟨t, J, a, h2, h3, rfl, -⟩⟩
    · exact ⟨none, 1, 0, none, _, .inl ⟨h1, rfl⟩, rfl, rfl, of_long (HA.out.below hb1)⟩
    · refine ⟨none, 2, pl (toks s) J, none, _, .inr ⟨h1, ?_⟩, rfl, rfl, of_syntax w1 h3⟩
      rcases h2 with h2 | ⟨t, h2, h4⟩
      · exact .inl ⟨J, h2, rfl⟩
      · exact .inr (.inl ⟨t, J, h2, h4, rfl⟩)
    · exact ⟨some t, 0, 0, some a, _, .inr ⟨h1, .inr (.inr ⟨t, J, h2, h3, rfl⟩)⟩, rfl, rfl, of_nil w1⟩
  obtain ⟨t, f, p, pa, ev, hP, ht, rfl, hof⟩ := hof
  have HP : Hid (PRel s (t, f, p)) := hP
  have HB1 : Hid _ := hb1
  clear hP hc hb1
  have hne : ∀ W, (binOp .neq 58 (.pointer pa) (.pointer none)).run Tryz.prog W = .ok (.bool pa.isSome) W := fun W => by cases pa <;> kernel_rfl
  go_wp2_with fail
  refine hof.mono ?_
  rintro e w2 ⟨rfl, hb2⟩
  have bn : w2.heap[w.heap.size]? = some (.cells #[.int .i64 0, .int .i64 0, .int .i64 0, .string { data := #[] }] 23 (0, 0)) := (hb2.block _ (Nat.lt_of_lt_of_le (by simp) HB1.out.size)).trans ((HB1.out.block _ (by simp)).trans cells_new)
  have c0 := cell_of_heap (i := 0) bn rfl
  have c1 := cell_of_heap (i := 1) bn rfl
  have c2 := cell_of_heap (i := 2) bn rfl
  have c3 := cell_of_heap (i := 3) bn rfl
  have z0 := frozen_of_heap (i := 0) bn
  have z1 := frozen_of_heap (i := 1) bn
  have z2 := frozen_of_heap (i := 2) bn
  have z3 := frozen_of_heap (i := 3) bn
  have HB : Hid (Below w.heap.size w w2) := (HX.out.trans (HB1.out.mono (by simp))).trans (hb2.mono (by have := HB1.out.size; simp at this; omega))
  clear bn hb2 hof HX HB1 HA
  go_wp2
  refine bodyPost_ret (v := .tuple #[.bool t.isSome, told f p]) (by simp [results, Tryz.results8, go_sem, c0, c1, c2, c3, ht]) rfl ⟨t, f, p, HP.out, rfl, ?_⟩
  exact (((HB.out.setCell (Nat.le_refl _) _).setCell (Nat.le_refl _) _).setCell (Nat.le_refl _) _).setCell (Nat.le_refl _) _
end Go.Proofs.YtihmgoahobbdkaaGreatDoor
