/-
  THE PROGRAM's tokenFrom AND THE READER's SMALL METHODS, WALKED.
-/
import Derived.Test.YtihmgoahobbdkaaGreatDoorCodeB
import Derived.Shelf.Strings.SlTrimAscii
import Derived.Deep.RegionWith
import Derived.BigRegion
namespace Go.Proofs.YtihmgoahobbdkaaGreatDoor
open Go.RowKit Go.Lib

theorem drop_skip (s : ByteArray) : ∀ f i, i ≤ s.size → s.size - i ≤ f → (s.data.toList.drop i).dropWhile ([32, 9, 10].contains ·) = s.data.toList.drop (skipFrom s f i)
  | 0, i, h1, h2 => by
    have : s.data.toList.drop i = [] := List.drop_eq_nil_of_le (by simp; omega)
    simp [skipFrom, this]
  | f + 1, i, h1, h2 => by
    unfold skipFrom
    rcases Nat.lt_or_ge i s.size with h | h
    · have e : s.data.toList.drop i = s[i] :: s.data.toList.drop (i + 1) := by
        rw [List.drop_eq_getElem_cons (by simpa using h)]
        rfl
      have hb : [32, 9, 10].contains s[i] = blank (byteAt s i) := by
        rw [byteAt_get h]
        simp only [blank, List.contains_eq_any_beq, List.any_cons, List.any_nil, Bool.or_false, Bool.or_assoc]
      rw [e, List.dropWhile_cons, hb]
      cases hbl : blank (byteAt s i) with
      | true =>
        simp only [h, true_and, if_true]
        exact drop_skip s f (i + 1) (by omega) (by omega)
      | false => simp [e]
    · have : s.data.toList.drop i = [] := List.drop_eq_nil_of_le (by simp; omega)
      rw [if_neg (by omega)]
      simp [this]
theorem trim_skip (s : ByteArray) (i : Nat) (hi : i ≤ s.size) : (⟨(Lib.trimLeftS (s.extract i s.size).data.toList [32, 9, 10]).toArray⟩ : ByteArray) = s.extract (skip s i) s.size := by
  have e1 : (s.extract i s.size).data.toList = s.data.toList.drop i := by
    rw [extract_list2, List.take_of_length_le (by simp)]
  have e2 : (s.extract (skip s i) s.size).data.toList = s.data.toList.drop (skip s i) := by
    rw [extract_list2, List.take_of_length_le (by simp)]
  apply ByteArray.ext
  rw [← Array.toList_inj, e2, e1]
  unfold Lib.trimLeftS skip
  rw [drop_skip s (s.size - i) i hi (Nat.le_refl _)]

set_option maxRecDepth 1000000 in
theorem code_tokenFrom (s : ByteArray) (i : Nat) (hs : s.size ≤ 1000) (hi : i ≤ s.size) (w : World) (hT : Tabs w) :
    Calls Tryz.prog 67 #[.string s, .int .i64 i] w fun e w' => ∃ tx, e = .returned (.agg #[.int .i64 (codeKind (tokFrom s i)), .string tx, .int .i64 (tokFrom s i).pos]) ∧ ((tokFrom s i).kind ≠ 33 → tx = (tokFrom s i).text s) ∧ Below w.heap.size w w' := by
  have hb0 : Below w.heap.size w (w.alloc (.cells #[.int .i64 0, .string { data := #[] }, .int .i64 0] 161)) := (Below.refl _ _).alloc (Nat.le_refl _) _
  have htr := Any.strings_TrimLeft_laid Tryz.lays161 (by kernel_rfl) (s.extract i s.size) ⟨#[32, 9, 10]⟩ (w.alloc (.cells #[.int .i64 0, .string { data := #[] }, .int .i64 0] 161)) (by decide) (ascii_of_all (by decide))
  have hsk := skip_le hi
  have hpos : (tokFrom s i).pos = skip s i := by
    unfold tokFrom tokAt
    repeat' split
    all_goals first | rfl | (simp only; omega)
  have htr' : Calls Tryz.prog 89 #[.string (s.extract i s.size), .string { data := #[32, 9, 10] }] (w.alloc (.cells #[.int .i64 0, .string { data := #[] }, .int .i64 0] 161)) fun e w' => e = .returned (.string (s.extract (skip s i) s.size)) ∧ Below (w.heap.size + 1) (w.alloc (.cells #[.int .i64 0, .string { data := #[] }, .int .i64 0] 161)) w' := by
    refine Calls.mono htr fun e w' ⟨h1, h2⟩ => ⟨?_, by simpa using h2⟩
    rw [h1, ← trim_skip s i hi]
  have HB0 : Hid (Below w.heap.size w (w.alloc (.cells #[.int .i64 0, .string { data := #[] }, .int .i64 0] 161))) := hb0
  have HT : Hid (Tabs w) := hT
  have HP : Hid ((tokFrom s i).pos = skip s i) := hpos
  have hF : tokFrom s i = tokAt s (skip s i) := rfl
  clear hb0 hT htr hpos
  go_enter Tryz.func67, Tryz.ntmps67
  go_wp2_with fail
  refine htr'.mono ?_
  rintro e w1 ⟨rfl, hb1⟩
  have c0 : w1.heap[w.heap.size]? = some (.cells #[.int .i64 0, .string { data := #[] }, .int .i64 0] 161 (0, 0)) := (hb1.block _ (by omega)).trans (heap_alloc_new w _)
  have HB1 : Hid (Below w.heap.size w w1) := HB0.out.trans (hb1.mono (by omega))
  have hT1 := HT.out.below HB1.out
  have hf := code_first s (skip s i) hs hsk.2 w1 hT1
  rw [← hF] at hf
  clear hF htr' hb1 hT1
  have HC0 : Hid (w1.heap[w.heap.size]? = some (.cells #[.int .i64 0, .string { data := #[] }, .int .i64 0] 161 (0, 0))) := c0
  clear c0
  go_wp2_with fail
  refine hf.mono ?_
  rintro e w2 ⟨tx, rfl, htx, hb2⟩
  have c2 : w2.heap[w.heap.size]? = some (.cells #[.int .i64 0, .string { data := #[] }, .int .i64 0] 161 (0, 0)) := (hb2.block _ (heap_lt HC0.out)).trans HC0.out
  have m0 := cell_of_heap (i := 0) c2 rfl
  have m1 := cell_of_heap (i := 1) c2 rfl
  have m2 := cell_of_heap (i := 2) c2 rfl
  have f0 := frozen_of_heap (i := 0) c2
  have f1 := frozen_of_heap (i := 1) c2
  have f2 := frozen_of_heap (i := 2) c2
  have HB2 : Hid (Below w.heap.size w w2) := below_size HB1.out hb2
  have HX : Hid ((tokFrom s i).kind ≠ 33 → tx = (tokFrom s i).text s) := htx
  clear hf htx hb2 c2 HC0
  have hsz : (s.extract (skip s i) s.size).size = s.size - skip s i := tail_size s _
  have hat : ((s.size : Int) - ((s.size - skip s i : Nat) : Int)) = ((tokFrom s i).pos : Int) := by rw [HP.out]; omega
  have HAT : Hid (((s.size : Int) - ((s.size - skip s i : Nat) : Int)) = ((tokFrom s i).pos : Int)) := hat
  clear hat
  go_wp2
  refine bodyPost_ret (v := .agg #[.int .i64 (codeKind (tokFrom s i)), .string tx, .int .i64 ((s.size : Int) - ((s.size - skip s i : Nat) : Int))]) (by simp [results, Tryz.results67, go_sem, m0, m1, m2]) rfl ⟨tx, by rw [HAT.out], HX.out, ?_⟩
  exact ((HB2.out.setCell (Nat.le_refl _) _).setCell (Nat.le_refl _) _).setCell (Nat.le_refl _) _
end Go.Proofs.YtihmgoahobbdkaaGreatDoor
