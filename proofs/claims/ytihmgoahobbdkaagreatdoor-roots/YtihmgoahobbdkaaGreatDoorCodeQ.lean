/-
  scalerlaw.Parses, WALKED.
-/
import Derived.Test.YtihmgoahobbdkaaGreatDoorCodeP
namespace Go.Proofs.YtihmgoahobbdkaaGreatDoor
open Go.RowKit Go.Lib

theorem PRel.forms {s : ByteArray} {t : Option Tree} {f p : Nat} (h : PRel s (t, f, p)) : (t.isSome = false ∧ f = 1 ∧ p = 0) ∨ (t.isSome = false ∧ f = 2) ∨ (t.isSome = true ∧ f = 0 ∧ p = 0) := by
  rcases h with ⟨-, h⟩ | ⟨-, ⟨J, -, h⟩ | ⟨t, J, -, -, h⟩ | ⟨t, J, -, -, h⟩⟩
  · injection h with h1 h2; injection h2 with h2 h3; subst h1; exact .inl ⟨rfl, h2, h3⟩
  · injection h with h1 h2; injection h2 with h2 h3; subst h1; exact .inr (.inl ⟨rfl, h2⟩)
  · injection h with h1 h2; injection h2 with h2 h3; subst h1; exact .inr (.inl ⟨rfl, h2⟩)
  · injection h with h1 h2; injection h2 with h2 h3; subst h1; exact .inr (.inr ⟨rfl, h2, h3⟩)

set_option maxRecDepth 1000000 in
set_option maxHeartbeats 1000000 in
theorem law_Parses (s : ByteArray) (hs : s.size ≤ 9223372036854775807) {A : Nat → Addr} {w : World} (hT : Tabs w) (hA : Sents A w) :
    Calls Tryz.prog 3 #[.string s] w fun e w' => e = .returned (.bool true) ∧ Below w.heap.size w w' := by
  have hp := plain_Parse s hT hA
  have HT : Hid (Tabs w) := hT
  clear hT hA
  go_enter Tryz.func3, Tryz.ntmps3
  go_wp2_with fail
  refine hp.mono ?_
  rintro e w1 ⟨t, f, p, hP, rfl, hb1⟩
  have HP : Hid (PRel s (t, f, p)) := hP
  have HB1 : Hid (Below w.heap.size w w1) := hb1
  have hsz := hb1.size
  clear hp hP hb1
  go_wp2_with fail
  obtain ⟨X, hX⟩ : ∃ X, X = w1.alloc (.cells #[.int .i64 f, .int .i64 p, .int .i64 0, .string { data := #[] }] 23) := ⟨_, rfl⟩
  rw [← hX]
  have hBX : Below w.heap.size w X := by rw [hX]; exact HB1.out.alloc hsz _
  have bn : X.heap[w1.heap.size]? = some (.cells #[.int .i64 f, .int .i64 p, .int .i64 0, .string { data := #[] }] 23 (0, 0)) := by rw [hX]; exact cells_new
  have lX := heap_lt bn
  refine (ref_parse s hs X (HT.out.below hBX)).mono ?_
  rintro e w2 ⟨t2, f2, p2, pa, rfl, hP2, hb2, -⟩
  have hd := HP.out.det hP2
  injection hd with e1 e2
  injection e2 with e2 e3
  subst e1 e2 e3
  have bn2 := (hb2.block _ lX).trans bn
  have c0 := cell_of_heap (i := 0) bn2 rfl
  have c1 := cell_of_heap (i := 1) bn2 rfl
  have c2 := cell_of_heap (i := 2) bn2 rfl
  have c3 := cell_of_heap (i := 3) bn2 rfl
  have HB2 : Hid (Below w.heap.size w w2) := hBX.trans (hb2.mono hBX.size)
  have hfm := HP.out.forms
  clear hb2 hBX bn bn2 hX HB1 hP2 HP
  rcases hfm with ⟨ht, rfl, rfl⟩ | ⟨ht, rfl⟩ | ⟨ht, rfl, rfl⟩
  all_goals
    rw [ht]
    go_wp2
    go_ret
    exact ⟨rfl, HB2.out⟩
end Go.Proofs.YtihmgoahobbdkaaGreatDoor
