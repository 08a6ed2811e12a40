/-
  THE REFERENCE's Parse, WALKED: what it tells is what the grammar says.
-/
import Derived.Test.YtihmgoahobbdkaaGreatDoorRefL
namespace Go.Proofs.YtihmgoahobbdkaaGreatDoor
open Go.RowKit Go.Lib

theorem digFrom_all (s : ByteArray) : ∀ (f i k : Nat), i ≤ k → k < digFrom s f i → isDig (byteAt s k) = true
  | 0, i, k, h1, h2 => by simp [digFrom] at h2; omega
  | f + 1, i, k, h1, h2 => by
    unfold digFrom at h2
    split at h2
    · rename_i h
      rcases Nat.lt_or_ge i k with hlt | hge
      · exact digFrom_all s f (i + 1) k hlt h2
      · obtain rfl : k = i := by omega
        exact h.2
    · omega
theorem extract_list (s : ByteArray) (a b : Nat) : (s.extract a b).data.toList = (s.data.toList.take b).drop a := by
  simp [ByteArray.data_extract, List.extract_eq_drop_take']
theorem tokAt_digits {s : ByteArray} {i : Nat} (hi : i ≤ s.size) (h : (tokAt s i).kind = 110) : Digits ((tokAt s i).text s) := by
  revert h
  unfold tokAt
  have h1 := digEnd_le hi
  split
  · simp
  split
  · rename_i h2 hsg
    intro h
    rw [isSign_int] at hsg
    simp only at h
    rw [h] at hsg
    simp at hsg
  split
  · split
    · rename_i h9
      intro _
      refine ⟨fun x hx => ?_, ?_⟩
      · unfold Tok.text at hx
        simp only [extract_list] at hx
        obtain ⟨k, hk⟩ := List.getElem?_of_mem hx
        rw [List.getElem?_drop, List.getElem?_take] at hk
        split at hk
        · rename_i hlt
          have := digFrom_all s (s.size - i) i (i + k) (by omega) hlt
          unfold byteAt at this
          rw [hk] at this
          exact this
        · cases hk
      · unfold Tok.text
        simp only [ByteArray.size_extract]
        omega
    · simp
  · split
    · simp
    · simp
theorem toksAt_all (s : ByteArray) (P : Tok → Prop) (hP : ∀ i, i ≤ s.size → P (tokAt s i)) : ∀ n i, i ≤ s.size → s.size - i ≤ n → ∀ t ∈ toksAt s i, P t := by
  have one : ∀ i, i ≤ s.size → P (tokFrom s i) := fun i hi => hP _ (skip_le hi).2
  intro n
  induction n with
  | zero =>
    intro i hi hn t ht
    have hl : (tokFrom s i).last = true := by
      cases h : (tokFrom s i).last with
      | true => rfl
      | false => have := tokFrom_stop hi h; omega
    rw [toksAt_last hl] at ht
    simp at ht
    subst ht
    exact one i hi
  | succ n ih =>
    intro i hi hn t ht
    cases h : (tokFrom s i).last with
    | true =>
      rw [toksAt_last h] at ht
      simp at ht
      subst ht
      exact one i hi
    | false =>
      have h2 := tokFrom_stop hi h
      rw [toksAt_cons hi h] at ht
      rcases List.mem_cons.1 ht with rfl | ht
      · exact one i hi
      · exact ih _ h2.2 (by omega) t ht
theorem toksAt_ends (s : ByteArray) : ∀ n i, i ≤ s.size → s.size - i ≤ n → Ends (toksAt s i) ∧ (toksAt s i).length ≤ s.size - i + 1 := by
  have single : ∀ i, (tokFrom s i).last = true → Ends (toksAt s i) ∧ (toksAt s i).length ≤ s.size - i + 1 := by
    intro i h
    rw [toksAt_last h]
    exact ⟨⟨0, rfl, h⟩, by simp⟩
  intro n
  induction n with
  | zero =>
    intro i hi hn
    cases h : (tokFrom s i).last with
    | true => exact single i h
    | false => have := tokFrom_stop hi h; omega
  | succ n ih =>
    intro i hi hn
    cases h : (tokFrom s i).last with
    | true => exact single i h
    | false =>
      have h2 := tokFrom_stop hi h
      obtain ⟨⟨m, h3, h4⟩, h5⟩ := ih _ h2.2 (by omega)
      rw [toksAt_cons hi h]
      refine ⟨⟨m + 1, by simp [h3], by simpa using h4⟩, ?_⟩
      simp only [List.length_cons]
      omega
theorem toks_ends (s : ByteArray) : Ends (toks s) := (toksAt_ends s s.size 0 (by omega) (by omega)).1
theorem toks_length (s : ByteArray) : (toks s).length ≤ s.size + 1 := (toksAt_ends s s.size 0 (by omega) (by omega)).2
theorem toks_good (s : ByteArray) : Good s (toks s) := by
  intro i hi hk
  have := toksAt_all s (fun t => t.kind = 110 → Digits (t.text s)) (fun i hi h => tokAt_digits hi h) s.size 0 (by omega) (by omega) ((toks s).getD i default) (by
    rw [List.getD_eq_getElem?_getD, List.getElem?_eq_getElem hi]
    exact List.getElem_mem hi)
  exact this hk

/-- What the document asks of Parse: the tree, what the error is told as, its place. -/
def PRel (s : ByteArray) (r : Option Tree × Nat × Nat) : Prop :=
  (200 < s.size ∧ r = (none, 1, 0)) ∨
  (s.size ≤ 200 ∧ ((∃ J, D s (toks s) .choice 0 (.bad J) ∧ r = (none, 2, pl (toks s) J)) ∨
    (∃ t J, D s (toks s) .choice 0 (.ok [t] J) ∧ kd (toks s) J ≠ 101 ∧ r = (none, 2, pl (toks s) J)) ∨
    (∃ t J, D s (toks s) .choice 0 (.ok [t] J) ∧ kd (toks s) J = 101 ∧ r = (some t, 0, 0))))
theorem PRel.det {s : ByteArray} {r r' : Option Tree × Nat × Nat} (h : PRel s r) (h' : PRel s r') : r = r' := by
  rcases h with ⟨h0, rfl⟩ | ⟨h0, h⟩ <;> rcases h' with ⟨h0', rfl⟩ | ⟨h0', h'⟩
  · rfl
  · omega
  · omega
  · rcases h with ⟨J, d, rfl⟩ | ⟨t, J, d, k, rfl⟩ | ⟨t, J, d, k, rfl⟩ <;> rcases h' with ⟨J', d', rfl⟩ | ⟨t', J', d', k', rfl⟩ | ⟨t', J', d', k', rfl⟩ <;>
      (have e := d.det d'; first | (cases e; rfl) | (cases e; exact absurd k' k) | (cases e; exact absurd k k') | cases e)

/-- What Parse leaves: the tree in new blocks. -/
def TreeAt (lo : Nat) (w : World) (t : Option Tree) (v : Value) : Prop :=
  match t with
  | some t => IsNode (From lo) w t v
  | none => True

set_option maxRecDepth 1000000 in
set_option maxHeartbeats 2000000 in
theorem ref_parse (s : ByteArray) (hs : s.size ≤ 9223372036854775807) (w : World) (hT : Tabs w) :
    Calls Tryz.prog 9 #[.string s] w fun e w' => ∃ (t : Option Tree) (f p : Nat) (pa : Option Addr), e = .returned (.tuple #[.pointer pa, .int .i64 f, .int .i64 p]) ∧ PRel s (t, f, p) ∧ Below w.heap.size w w' ∧ TreeAt w.heap.size w' t (.pointer pa) := by
  have HT : Hid (Tabs w) := hT
  clear hT
  by_cases h2 : 200 < s.size
  · have h200 : (200 : Int) < (s.size : Int) := by omega
    go_enter Tryz.func9, Tryz.ntmps9
    go_wp2
    go_ret3
    exact ⟨none, 1, 0, _, rfl, .inl ⟨h2, rfl⟩, Below.refl _ _, trivial⟩
  have h200 : ¬ (200 : Int) < (s.size : Int) := by omega
  go_enter Tryz.func9, Tryz.ntmps9
  go_wp2_with fail
  have hb0 : Below w.heap.size w (w.alloc (.cells #[.slice none 0 0, .int .i64 0, .bool false] 67)) := (Below.refl _ _).alloc (Nat.le_refl _) _
  refine (ref_tokens s (by omega) _ (HT.out.below hb0)).mono ?_
  rintro e w1 ⟨v, rfl, hown, hb1⟩
  have hlen := toks_length s
  have hE := toks_ends s
  have hpos : 0 < (toks s).length := by obtain ⟨m, hm, -⟩ := hE; omega
  obtain ⟨bl, cap, rfl, hbl, cur, hcur, htake⟩ : ∃ bl cap, v = .slice (some ⟨bl, 0, none⟩) (toks s).length cap ∧ w.heap.size + 1 ≤ bl ∧ ∃ cur : Array Value, w1.heap[bl]? = some (.cells cur 71 (0, 0)) ∧ cur.toList.take ((toks s).length * 3) = toksCells s (toks s) := by
    rcases hown.2 with ⟨-, h0⟩ | ⟨g, cap, cur, h1, h2, h3, -, -, -, h7⟩
    · omega
    · exact ⟨g, cap, h1, by simpa using h2, cur, h3, h7⟩
  have hrd1 : RdAt (w1.setCell ⟨w.heap.size, 0, none⟩ (.slice (some ⟨bl, 0, none⟩) (toks s).length cap)) w.heap.size bl (toks s).length cap 0 false := by
    have : w1.heap[w.heap.size]? = some (.cells #[.slice none 0 0, .int .i64 0, .bool false] 67 (0, 0)) := (hb1.block _ (by simp)).trans cells_new
    exact heap_set_same this
  have hblk : w1.heap[w.heap.size]? = some (.cells #[.slice none 0 0, .int .i64 0, .bool false] 67 (0, 0)) := (hb1.block _ (by simp)).trans cells_new
  have m0 := cell_of_heap (i := 0) hblk rfl
  have f0 := frozen_of_heap (i := 0) hblk
  have lR := heap_lt hblk
  have lb := heap_lt hcur
  have hst : St s (toks s) w.heap.size bl cap w1.heap.size (w1.setCell ⟨w.heap.size, 0, none⟩ (.slice (some ⟨bl, 0, none⟩) (toks s).length cap)) 0 false :=
    ⟨hrd1, ⟨cur, heap_set_other hcur (by simp; omega), htake⟩, lR, lb, by omega, by simp, by omega⟩
  have HB1 : Hid (Below w.heap.size w (w1.setCell ⟨w.heap.size, 0, none⟩ (.slice (some ⟨bl, 0, none⟩) (toks s).length cap))) := by
    refine (hb0.trans (hb1.mono (by simp))).setCell (Nat.le_refl _) _
  have HST : Hid (St s (toks s) w.heap.size bl cap w1.heap.size (w1.setCell ⟨w.heap.size, 0, none⟩ (.slice (some ⟨bl, 0, none⟩) (toks s).length cap)) 0 false) := hst
  have hcon := (read_all (s := s) (R := w.heap.size) (bl := bl) (cap := cap) (base := w1.heap.size) hE (toks_good s) (toks s).length).2 _ 0 hpos (by omega) hst
  have HEND : Hid (Ends (toks s)) := hE
  clear hst hrd1 hblk hown hb1 hb0 hcur htake hE
  go_wp2_with fail
  refine hcon.mono ?_
  rintro e w2 ⟨o, pa, rfl, hD, hk, ha⟩
  have HD : Hid (D s (toks s) .choice 0 o) := hD
  have HB2 : Hid (Below w.heap.size w w2) := HB1.out.trans (hk.below (by simp; omega) (Nat.le_refl _))
  have hlo : w.heap.size ≤ w1.heap.size := by omega
  clear hD hk hcon m0 f0
  have hbad : ∀ (w3 : World) (J : Nat), St s (toks s) w.heap.size bl cap w1.heap.size w3 J true → J < (toks s).length → w3.cell? ⟨w.heap.size, 2, none⟩ = some (.bool true) ∧ w3.cell? ⟨w.heap.size, 0, none⟩ = some (.slice (some ⟨bl, 0, none⟩) (toks s).length cap) ∧ w3.cell? ⟨w.heap.size, 1, none⟩ = some (.int .i64 J) ∧ w3.cell? ⟨bl, J * 3 + 1, none⟩ = some (.int .i64 (pl (toks s) J)) :=
    fun w3 J h hJ => ⟨cell_of_heap h.rd rfl, cell_of_heap h.rd rfl, cell_of_heap h.rd rfl, h.c1 hJ⟩
  cases o with
  | bad J =>
    obtain ⟨hs2, hJ⟩ := ha
    go_wp2_with fail
    refine (st_take_bad hs2 hJ 101).mono ?_
    rintro e w3 ⟨rfl, hs3, hk3⟩
    obtain ⟨c2, c0, c1, cp⟩ := hbad w3 J hs3 hJ
    have HB3 : Hid (Below w.heap.size w w3) := HB2.out.trans (hk3.below HB2.out.size (Nat.le_refl _))
    have hJi : (J : Int) < ((toks s).length : Int) := by omega
    clear hs2 hs3 hk3 hbad
    go_wp2_with fail
    go_quiet (fail)
    go_wp2
    go_ret3
    exact ⟨none, 2, pl (toks s) J, _, rfl, .inr ⟨by omega, .inl ⟨J, HD.out, rfl⟩⟩, ⟨HB3.out.os, HB3.out.tape, HB3.out.output, HB3.out.size, HB3.out.block⟩, trivial⟩
  | ok ts J =>
    obtain ⟨hs2, hJ, t, rfl, hn⟩ := ha
    by_cases hk : kd (toks s) J = 101
    · go_wp2_with fail
      refine (st_take_hit hs2 hJ (k := 101) hk).mono ?_
      rintro e w3 ⟨rfl, hs3, hk3⟩
      have c2 : w3.cell? ⟨w.heap.size, 2, none⟩ = some (.bool false) := cell_of_heap hs3.rd rfl
      have HB3 : Hid (Below w.heap.size w w3) := HB2.out.trans (hk3.below HB2.out.size (Nat.le_refl _))
      have HN3 : Hid (IsNode (From w.heap.size) w3 t (.pointer pa)) := by simp at hn; exact hn.kept hk3 (by omega) (by omega)
      have HK : Hid (kd (toks s) J = 101) := hk
      clear hs2 hs3 hk3 hbad hk hn
      go_wp2
      go_ret3
      exact ⟨some t, 0, 0, _, rfl, .inr ⟨by omega, .inr (.inr ⟨t, J, HD.out, HK.out, rfl⟩)⟩, HB3.out, HN3.out⟩
    · go_wp2_with fail
      refine (st_take_miss hs2 hJ (k := 101) hk).mono ?_
      rintro e w3 ⟨rfl, hs3, hk3⟩
      obtain ⟨c2, c0, c1, cp⟩ := hbad w3 J hs3 hJ
      have HB3 : Hid (Below w.heap.size w w3) := HB2.out.trans (hk3.below HB2.out.size (Nat.le_refl _))
      have hJi : (J : Int) < ((toks s).length : Int) := by omega
      have HK : Hid (kd (toks s) J ≠ 101) := hk
      clear hs2 hs3 hk3 hbad hk hn
      go_wp2_with fail
      go_quiet (fail)
      go_wp2
      go_ret3
      exact ⟨none, 2, pl (toks s) J, _, rfl, .inr ⟨by omega, .inr (.inl ⟨t, J, HD.out, HK.out, rfl⟩)⟩, ⟨HB3.out.os, HB3.out.tape, HB3.out.output, HB3.out.size, HB3.out.block⟩, trivial⟩
end Go.Proofs.YtihmgoahobbdkaaGreatDoor
