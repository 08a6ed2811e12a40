/-
  THE PROGRAM's firstToken, WALKED.
-/
import Derived.Test.YtaghcjpoihkpjaaGreatDoorJM5
import Derived.Shelf.Strings.SlTrimAscii
import Derived.Deep.RegionWith
import Derived.BigRegion
import Derived.Test.YtaghcjpoihkpjaaGreatDoorJM1
import Derived.OwnWalk
namespace Go.Proofs.YtaghcjpoihkpjaaGreatDoor
open Go.RowKit Go.Lib

/-- The program's number of a token's kind. -/
def codeKind (t : Tok) : Nat := if t.kind = 101 then 0 else if t.kind = 110 then 2 else if t.kind = 97 then 3 else if t.kind = 33 then 4 else 1

theorem index_signs (c : UInt8) : decide (0 ≤ Lib.indexByte [63, 58, 60, 62, 61, 43, 45, 42, 47, 40, 41, 44] c) = isSign c := by
  have h : ∀ n : Fin 256, decide (0 ≤ Lib.indexByte [63, 58, 60, 62, 61, 43, 45, 42, 47, 40, 41, 44] (UInt8.ofNat n.val)) = isSign (UInt8.ofNat n.val) := by decide +kernel
  have := h ⟨c.toNat, c.toNat_lt⟩
  simpa using this
theorem extract_list2 (s : ByteArray) (a b : Nat) : (s.extract a b).data.toList = (s.data.toList.take b).drop a := by
  simp [ByteArray.data_extract, List.extract_eq_drop_take']
theorem fits_digit (w : World) : Fits 101 digR w := ⟨enters_of Tryz.func101 (by kernel_rfl) rfl, fun W x _ _ => code_isDigit x W⟩
theorem fits_part (w : World) (hT : Tabs w) : Fits 105 partR w := ⟨enters_of Tryz.func105 (by kernel_rfl) rfl, fun W x hx hb => code_isNamePart x hx W (hT.below hb)⟩

/-- More steps than there are bytes count nothing more. -/
theorem count_fuel (s : ByteArray) : ∀ f g k, s.size - k ≤ f → s.size - k ≤ g → runeCountFrom s f k = runeCountFrom s g k
  | 0, g, k, h, _ => by
    cases g with
    | zero => rfl
    | succ g => simp [runeCountFrom, show ¬ k < s.size by omega]
  | f + 1, 0, k, _, h => by simp [runeCountFrom, show ¬ k < s.size by omega]
  | f + 1, g + 1, k, hf, hg => by
    unfold runeCountFrom
    split
    · have := width_pos s k
      rw [count_fuel s f g _ (by omega) (by omega)]
    · rfl

set_option maxRecDepth 1000000 in
set_option maxHeartbeats 2000000 in
theorem code_first (s : ByteArray) (i : Nat) (hs : s.size ≤ 1000) (hi : i ≤ s.size) (w : World) (hT : Tabs w) :
    Calls Tryz.prog 58 #[.string (s.extract i s.size)] w fun e w' => ∃ tx, e = .returned (.tuple #[.int .i64 (codeKind (tokAt s i)), .string tx]) ∧ ((tokAt s i).kind ≠ 33 → tx = (tokAt s i).text s) ∧ Below w.heap.size w w' := by
  have HT : Hid (Tabs w) := hT
  clear hT
  rcases Nat.lt_or_ge i s.size with h8 | h8
  rotate_left 1
  · obtain rfl : i = s.size := by omega
    have ht : tokAt s s.size = ⟨101, s.size, s.size⟩ := by simp [tokAt]
    rw [extract_nil, ht]
    go_enter Tryz.func58, Tryz.ntmps58
    go_wp2
    go_ret2
    exact ⟨_, rfl, fun _ => (extract_nil s s.size).symm, Below.refl _ _⟩
  have hdec := Tryz.utf8_DecodeRuneInString (s.extract i s.size) w HT.out.utf
  rw [decodeGo_rest h8] at hdec
  obtain ⟨t, ht⟩ : ∃ t, t = s.extract i s.size := ⟨_, rfl⟩
  have hsz : t.size = s.size - i := by rw [ht, tail_size]
  have h0 : 0 < t.size := by omega
  have hg0 : t[0] = s[i] := by
    have : t.data.toList[0]? = s.data.toList[i]? := by rw [ht, extract_list2]; simp [List.getElem?_drop, List.getElem?_take]
    rw [byte_at h0, byte_at h8] at this
    exact Option.some.inj this
  rw [← ht] at hdec ⊢
  have hne : t.toList.isEmpty = false := by
    have : t.toList.length = t.size := by rw [ByteArray.toList_eq]; simp
    cases h : t.toList with
    | nil => rw [h] at this; simp at this; omega
    | cons a l => rfl
  have HX : Hid (t = s.extract i s.size) := ht
  have H0 : Hid (t[0] = s[i]) := hg0
  clear ht hg0
  go_enter Tryz.func58, Tryz.ntmps58
  go_wp2_with fail
  refine hdec.mono ?_
  rintro e w1 ⟨rfl, hb1⟩
  have HB1 : Hid (Below w.heap.size w w1) := hb1
  clear hdec hb1
  have hidx := Tryz.strings_IndexByte { data := #[63, 58, 60, 62, 61, 43, 45, 42, 47, 40, 41, 44] } (t[0].toNat : Int) w1
  have hix : Lib.indexByte [63, 58, 60, 62, 61, 43, 45, 42, 47, 40, 41, 44] ((t[0].toNat : Int)).toNat.toUInt8 = Lib.indexByte [63, 58, 60, 62, 61, 43, 45, 42, 47, 40, 41, 44] s[i] := by
    rw [H0.out]
    simp
  have hidx' : Calls Tryz.prog 100 #[.string { data := #[63, 58, 60, 62, 61, 43, 45, 42, 47, 40, 41, 44] }, .int .u8 (t[0].toNat : Int)] w1 fun e w' => e = .returned (.int .i64 (Lib.indexByte [63, 58, 60, 62, 61, 43, 45, 42, 47, 40, 41, 44] s[i])) ∧ w' = w1 := by
    rw [← hix]
    exact hidx
  have his := index_signs s[i]
  clear hidx hix
  generalize Lib.indexByte [63, 58, 60, 62, 61, 43, 45, 42, 47, 40, 41, 44] s[i] = n at hidx' his
  have hw1 := width_pos s i
  have hw2 := decode_le h8
  go_wp2_with fail
  refine hidx'.mono ?_
  rintro e w2 ⟨rfl, hw⟩
  have hw := hw.symm
  subst hw
  clear hidx'
  cases hsg : isSign s[i] with
  | true =>
    have hn : (0 : Int) ≤ n := by rw [hsg] at his; simpa using his
    have ha : s[i].toNat < 128 := by
      rw [isSign_int] at hsg
      simp only [Bool.or_eq_true, beq_iff_eq] at hsg
      omega
    have hd : Utf8.decode s i = (s[i].toNat, 1) := decode_ascii s i h8 ha
    have HTK : Hid (tokAt s i = ⟨s[i].toNat, i, i + 1⟩) := by
      show _ = _
      rw [tokAt, if_neg (by omega), if_pos (by rw [byteAt_get h8]; exact hsg), byteAt_get h8]
    have HCK : Hid (codeKind ⟨s[i].toNat, i, i + 1⟩ = 1) := by
      show _ = _
      rw [isSign_int] at hsg
      simp only [Bool.or_eq_true, beq_iff_eq] at hsg
      unfold codeKind
      simp only
      rw [if_neg (by omega), if_neg (by omega), if_neg (by omega), if_neg (by omega)]
    rw [hd]
    have q1 : (1 : Int) ≤ (t.size : Int) := by omega
    clear his hsg hd ha hw1 hw2
    go_wp2_with fail
    go_region
    all_goals go_wp2
    go_ret2
    refine ⟨t.extract 0 1, by rw [HTK.out, HCK.out]; rfl, fun _ => ?_, HB1.out.drew⟩
    rw [HTK.out, HX.out]
    have := extract_sub s i (i + 1) (by omega) (by omega)
    rw [show i + 1 - i = 1 by omega] at this
    exact this
  | false =>
    have hn : ¬ (0 : Int) ≤ n := by rw [hsg] at his; simpa using his
    have HSG : Hid (isSign (byteAt s i) = false) := by rw [byteAt_get h8]; exact hsg
    clear his hsg
    have HTs : Hid (Tabs w1) := HT.out.below HB1.out
    obtain ⟨hdig, -⟩ := dec_digit h8
    have hdigc := code_isDigit (Utf8.decode s i).1 w1
    rw [hdig] at hdigc
    cases hdg : isDig (byteAt s i) with
    | true =>
      rw [hdg] at hdigc
      have hlt : i < digEnd s i := by
        obtain ⟨f, hf⟩ : ∃ f, s.size - i = f + 1 := ⟨s.size - i - 1, by omega⟩
        unfold digEnd
        rw [hf, digFrom, if_pos ⟨h8, hdg⟩]
        have := digFrom_le s f (i + 1) (by omega)
        omega
      have hle := digEnd_le hi
      have hrun : runText digR t = s.extract i (digEnd s i) := by rw [HX.out, run_end digR s i hi, end_digits]; rfl
      have hsize : (s.extract i (digEnd s i)).size = digEnd s i - i := by simp; omega
      have HTK : Hid (tokAt s i = if digEnd s i - i ≤ 9 then ⟨110, i, digEnd s i⟩ else ⟨33, i, i⟩) := by
        show _ = _
        rw [tokAt, if_neg (by omega), if_neg (by rw [HSG.out]; decide), if_pos hlt]
      clear hdig hdg hw1 hw2
      generalize digEnd s i = E at *
      generalize hU : s.extract i E = U at *
      have HU : Hid (s.extract i E = U) := hU
      clear hU
      go_wp2_with fail
      refine hdigc.mono ?_
      rintro e w2 ⟨rfl, hb2⟩
      have hrc := code_run t 101 digR w2 (fits_digit w2)
      rw [hrun] at hrc
      have HB2 : Hid (Below w.heap.size w w2) := below_size HB1.out hb2
      clear hdigc hb2 hrun
      go_wp2_with fail
      refine hrc.mono ?_
      rintro e w3 ⟨rfl, hb3⟩
      have HB3 : Hid (Below w.heap.size w w3) := below_size HB2.out hb3
      clear hrc hb3
      have hlim := code_limited 2 (E - i) 9 w3
      obtain ⟨Kk, hKk⟩ : ∃ K, K = (if 9 < E - i then 4 else 2) := ⟨_, rfl⟩
      rw [← hKk] at hlim
      have HKk : Hid (Kk = (if 9 < E - i then 4 else 2)) := hKk
      clear hKk
      go_wp2_with fail
      refine hlim.mono ?_
      rintro e w4 ⟨rfl, hw⟩
      have hw := hw.symm
      subst hw
      go_wp2
      go_ret2
      refine ⟨U, ?_, fun hk => ?_, HB3.out⟩
      · rw [HTK.out, HKk.out]
        split <;> split <;> first | rfl | (exfalso; omega)
      · rw [HTK.out] at hk ⊢
        split at hk
        · rename_i h9
          rw [if_pos h9]
          exact HU.out.symm
        · exact absurd rfl hk
    | false =>
      rw [hdg] at hdigc
      have hde : digEnd s i = i := by
        unfold digEnd
        obtain ⟨f, hf⟩ : ∃ f, s.size - i = f + 1 := ⟨s.size - i - 1, by omega⟩
        rw [hf, digFrom, if_neg (by rw [hdg]; simp)]
      have HTK : Hid (tokAt s i = if (wordEnd s i).2 = 0 ∨ 12 < (wordEnd s i).2 then ⟨33, i, i⟩ else ⟨97, i, (wordEnd s i).1⟩) := by
        show _ = _
        rw [tokAt, if_neg (by omega), if_neg (by rw [HSG.out]; decide), if_neg (by omega)]
      have hrl := Lib.rune_le s i
      clear hdig hdg hde
      cases hlt : isLetterU ((Utf8.decode s i).1 : Int) with
      | true =>
        obtain ⟨hwe, hwp⟩ := word_first h8 hlt
        have hwl := wordFrom_le s (s.size - i) i 0 hi
        have hrun : runText partR t = s.extract i (wordEnd s i).1 := by rw [HX.out, run_end partR s i hi, hwe]
        have hcnt : Lib.runeCount (s.extract i (wordEnd s i).1) = (wordEnd s i).2 := by
          have h5 : (wordEnd s i).1 ≤ s.size := hwl.2.1
          have h6 : i ≤ (wordEnd s i).1 := hwl.1
          have hc := count_word s i (s.size - i) i 0 (Nat.le_refl _) hi (Nat.le_refl _) (.inr trivial) (wordEnd s i).1 rfl h5
          rw [extract_sub s i _ h5 h6, Nat.sub_self] at hc
          unfold Lib.runeCount
          have hz : (s.extract i (wordEnd s i).1).size = (wordEnd s i).1 - i := by simp; omega
          rw [hz]
          have hfu := count_fuel (s.extract i (wordEnd s i).1) ((wordEnd s i).1 - i) (s.size - i) 0 (by omega) (by omega)
          rw [hfu, hc]
          rfl
        have hletc := Tryz.unicode_IsLetter_all (Utf8.decode s i).1 w1 (by omega) (by omega)
        rw [hlt] at hletc
        have h13 : (wordEnd s i).1 ≤ s.size := hwl.2.1
        have h14 : i ≤ (wordEnd s i).1 := hwl.1
        clear hwl hwe hw1 hw2
        generalize (wordEnd s i).1 = E at *
        generalize (wordEnd s i).2 = M at *
        generalize hU : s.extract i E = U at *
        have HU : Hid (s.extract i E = U) := hU
        have hUs : U.size ≤ 1000 := by rw [← hU]; simp; omega
        clear hU
        go_wp2_with fail
        refine hdigc.mono ?_
        rintro e w2 ⟨rfl, hb2⟩
        have HB2 : Hid (Below w.heap.size w w2) := below_size HB1.out hb2
        have HT2 : Hid (Tabs w2) := HTs.out.below hb2
        clear hdigc hb2 hletc
        have hletc := Tryz.unicode_IsLetter_all (Utf8.decode s i).1 w2 (by omega) (by omega) HT2.out.props HT2.out.letter
        rw [hlt] at hletc
        go_wp2_with fail
        refine hletc.mono ?_
        rintro e w3 ⟨rfl, hb3⟩
        have HB3 : Hid (Below w.heap.size w w3) := below_size HB2.out hb3
        have hrc := code_run t 105 partR w3 (fits_part w3 (HT2.out.below hb3))
        rw [hrun] at hrc
        clear hletc hb3 hrun
        go_wp2_with fail
        refine hrc.mono ?_
        rintro e w4 ⟨rfl, hb4⟩
        have HB4 : Hid (Below w.heap.size w w4) := below_size HB3.out hb4
        have hct := Tryz.utf8_RuneCountInString U w4 (by omega)
        rw [hcnt] at hct
        clear hrc hb4 hcnt
        go_wp2_with fail
        refine hct.mono ?_
        rintro e w5 ⟨rfl, pos, hw⟩
        have HB5 : Hid (Below w.heap.size w w5) := by
          rw [hw]
          exact HB4.out.alloc HB4.out.size _
        clear hw hct
        have hlim := code_limited 3 M 12 w5
        obtain ⟨Kk, hKk⟩ : ∃ K, K = (if 12 < M then 4 else 3) := ⟨_, rfl⟩
        rw [← hKk] at hlim
        have HKk : Hid (Kk = (if 12 < M then 4 else 3)) := hKk
        clear hKk
        go_wp2_with fail
        refine hlim.mono ?_
        rintro e w6 ⟨rfl, hw⟩
        have hw := hw.symm
        subst hw
        go_wp2
        go_ret2
        refine ⟨U, ?_, fun hk => ?_, HB5.out⟩
        · rw [HTK.out, HKk.out]
          split <;> split <;> first | rfl | (exfalso; omega)
        · rw [HTK.out] at hk ⊢
          split at hk
          · exact absurd rfl hk
          · rename_i h9
            rw [if_neg h9]
            exact HU.out.symm
      | false =>
        have hz := word_none h8 hlt
        have HTZ : Hid (tokAt s i = ⟨33, i, i⟩) := by
          show _ = _
          rw [HTK.out, if_pos (.inl hz)]
        clear HTK hz
        have q1 : (0 : Int) ≤ ((Utf8.decode s i).2 : Int) := by omega
        have q2 : ((Utf8.decode s i).2 : Int) ≤ (t.size : Int) := by omega
        go_wp2_with fail
        refine hdigc.mono ?_
        rintro e w2 ⟨rfl, hb2⟩
        have HB2 : Hid (Below w.heap.size w w2) := below_size HB1.out hb2
        have HT2 : Hid (Tabs w2) := HTs.out.below hb2
        clear hdigc hb2
        have hletc := Tryz.unicode_IsLetter_all (Utf8.decode s i).1 w2 (by omega) (by omega) HT2.out.props HT2.out.letter
        rw [hlt] at hletc
        go_wp2_with fail
        refine hletc.mono ?_
        rintro e w3 ⟨rfl, hb3⟩
        have HB3 : Hid (Below w.heap.size w w3) := below_size HB2.out hb3
        clear hletc hb3
        go_wp2_with fail
        go_region
        all_goals go_wp2
        go_ret2
        exact ⟨_, by rw [HTZ.out]; rfl, fun hk => absurd (by rw [HTZ.out]) hk, HB3.out.drew⟩
end Go.Proofs.YtaghcjpoihkpjaaGreatDoor
namespace Go.Proofs.YtaghcjpoihkpjaaGreatDoor
open Go.RowKit Go.Lib

theorem drop_skip (s : ByteArray) : ∀ f i, i ≤ s.size → s.size - i ≤ f → (s.data.toList.drop i).dropWhile ([32, 9, 10].contains ·) = s.data.toList.drop (skipFrom s f i)
  | 0, i, h1, h2 => by
    have : s.data.toList.drop i = [] := List.drop_eq_nil_of_le (by simp; omega)
    simp [skipFrom, this]
  | f + 1, i, h1, h2 => by
    unfold skipFrom
    rcases Nat.lt_or_ge i s.size with h | h
    · have e : s.data.toList.drop i = s[i] :: s.data.toList.drop (i + 1) := by
        rw [List.drop_eq_getElem_cons (by simpa using h)]
        rfl
      have hb : [32, 9, 10].contains s[i] = blank (byteAt s i) := by
        rw [byteAt_get h]
        simp only [blank, List.contains_eq_any_beq, List.any_cons, List.any_nil, Bool.or_false, Bool.or_assoc]
      rw [e, List.dropWhile_cons, hb]
      cases hbl : blank (byteAt s i) with
      | true =>
        simp only [h, true_and, if_true]
        exact drop_skip s f (i + 1) (by omega) (by omega)
      | false => simp [e]
    · have : s.data.toList.drop i = [] := List.drop_eq_nil_of_le (by simp; omega)
      rw [if_neg (by omega)]
      simp [this]
theorem trim_skip (s : ByteArray) (i : Nat) (hi : i ≤ s.size) : (⟨(Lib.trimLeftS (s.extract i s.size).data.toList [32, 9, 10]).toArray⟩ : ByteArray) = s.extract (skip s i) s.size := by
  have e1 : (s.extract i s.size).data.toList = s.data.toList.drop i := by
    rw [extract_list2, List.take_of_length_le (by simp)]
  have e2 : (s.extract (skip s i) s.size).data.toList = s.data.toList.drop (skip s i) := by
    rw [extract_list2, List.take_of_length_le (by simp)]
  apply ByteArray.ext
  rw [← Array.toList_inj, e2, e1]
  unfold Lib.trimLeftS skip
  rw [drop_skip s (s.size - i) i hi (Nat.le_refl _)]

set_option maxRecDepth 1000000 in
theorem code_tokenFrom (s : ByteArray) (i : Nat) (hs : s.size ≤ 1000) (hi : i ≤ s.size) (w : World) (hT : Tabs w) :
    Calls Tryz.prog 44 #[.string s, .int .i64 i] w fun e w' => ∃ tx, e = .returned (.agg #[.int .i64 (codeKind (tokFrom s i)), .string tx, .int .i64 (tokFrom s i).pos]) ∧ ((tokFrom s i).kind ≠ 33 → tx = (tokFrom s i).text s) ∧ Below w.heap.size w w' := by
  have hb0 : Below w.heap.size w (w.alloc (.cells #[.int .i64 0, .string { data := #[] }, .int .i64 0] 129)) := (Below.refl _ _).alloc (Nat.le_refl _) _
  have htr := Any.strings_TrimLeft_laid Tryz.lays161 (by kernel_rfl) (s.extract i s.size) ⟨#[32, 9, 10]⟩ (w.alloc (.cells #[.int .i64 0, .string { data := #[] }, .int .i64 0] 129)) (by decide) (ascii_of_all (by decide))
  have hsk := skip_le hi
  have hpos : (tokFrom s i).pos = skip s i := by
    unfold tokFrom tokAt
    repeat' split
    all_goals first | rfl | (simp only; omega)
  have htr' : Calls Tryz.prog 57 #[.string (s.extract i s.size), .string { data := #[32, 9, 10] }] (w.alloc (.cells #[.int .i64 0, .string { data := #[] }, .int .i64 0] 129)) fun e w' => e = .returned (.string (s.extract (skip s i) s.size)) ∧ Below (w.heap.size + 1) (w.alloc (.cells #[.int .i64 0, .string { data := #[] }, .int .i64 0] 129)) w' := by
    refine Calls.mono htr fun e w' ⟨h1, h2⟩ => ⟨?_, by simpa using h2⟩
    rw [h1, ← trim_skip s i hi]
  have HB0 : Hid (Below w.heap.size w (w.alloc (.cells #[.int .i64 0, .string { data := #[] }, .int .i64 0] 129))) := hb0
  have HT : Hid (Tabs w) := hT
  have HP : Hid ((tokFrom s i).pos = skip s i) := hpos
  have hF : tokFrom s i = tokAt s (skip s i) := rfl
  clear hb0 hT htr hpos
  go_enter Tryz.func44, Tryz.ntmps44
  go_wp2_with fail
  refine htr'.mono ?_
  rintro e w1 ⟨rfl, hb1⟩
  have c0 : w1.heap[w.heap.size]? = some (.cells #[.int .i64 0, .string { data := #[] }, .int .i64 0] 129 (0, 0)) := (hb1.block _ (by omega)).trans (heap_alloc_new w _)
  have HB1 : Hid (Below w.heap.size w w1) := HB0.out.trans (hb1.mono (by omega))
  have hT1 := HT.out.below HB1.out
  have hf := code_first s (skip s i) hs hsk.2 w1 hT1
  rw [← hF] at hf
  clear hF htr' hb1 hT1
  have HC0 : Hid (w1.heap[w.heap.size]? = some (.cells #[.int .i64 0, .string { data := #[] }, .int .i64 0] 129 (0, 0))) := c0
  clear c0
  go_wp2_with fail
  refine hf.mono ?_
  rintro e w2 ⟨tx, rfl, htx, hb2⟩
  have c2 : w2.heap[w.heap.size]? = some (.cells #[.int .i64 0, .string { data := #[] }, .int .i64 0] 129 (0, 0)) := (hb2.block _ (heap_lt HC0.out)).trans HC0.out
  have m0 := cell_of_heap (i := 0) c2 rfl
  have m1 := cell_of_heap (i := 1) c2 rfl
  have m2 := cell_of_heap (i := 2) c2 rfl
  have f0 := frozen_of_heap (i := 0) c2
  have f1 := frozen_of_heap (i := 1) c2
  have f2 := frozen_of_heap (i := 2) c2
  have HB2 : Hid (Below w.heap.size w w2) := below_size HB1.out hb2
  have HX : Hid ((tokFrom s i).kind ≠ 33 → tx = (tokFrom s i).text s) := htx
  clear hf htx hb2 c2 HC0
  have hsz : (s.extract (skip s i) s.size).size = s.size - skip s i := tail_size s _
  have hat : ((s.size : Int) - ((s.size - skip s i : Nat) : Int)) = ((tokFrom s i).pos : Int) := by rw [HP.out]; omega
  have HAT : Hid (((s.size : Int) - ((s.size - skip s i : Nat) : Int)) = ((tokFrom s i).pos : Int)) := hat
  clear hat
  go_wp2
  refine bodyPost_ret (v := .agg #[.int .i64 (codeKind (tokFrom s i)), .string tx, .int .i64 ((s.size : Int) - ((s.size - skip s i : Nat) : Int))]) (by simp [results, Tryz.results44, go_sem, m0, m1, m2]) rfl ⟨tx, by rw [HAT.out], HX.out, ?_⟩
  exact ((HB2.out.setCell (Nat.le_refl _) _).setCell (Nat.le_refl _) _).setCell (Nat.le_refl _) _
end Go.Proofs.YtaghcjpoihkpjaaGreatDoor
namespace Go.Proofs.YtaghcjpoihkpjaaGreatDoor
open Go.RowKit Go.Lib

theorem toksCells_at (s : ByteArray) : ∀ (L : List Tok) (I j : Nat), j < 3 → (toksCells s L)[I * 3 + j]? = (L[I]?).bind fun t => (tokCells s t)[j]?
  | [], I, j, _ => by simp [toksCells]
  | t :: L, 0, j, hj => by
    have e : toksCells s (t :: L) = tokCells s t ++ toksCells s L := by simp [toksCells]
    rw [e, List.getElem?_append_left (by simp [tokCells]; omega)]
    simp
  | t :: L, I + 1, j, hj => by
    have e : toksCells s (t :: L) = tokCells s t ++ toksCells s L := by simp [toksCells]
    have e3 : (tokCells s t).length = 3 := rfl
    rw [e, List.getElem?_append_right (by rw [e3]; omega), e3, show (I + 1) * 3 + j - 3 = I * 3 + j by omega, toksCells_at s L I j hj]
    simp

section
variable (s : ByteArray) (L : List Tok) (R bl cap base : Nat)
end
section
variable {s : ByteArray} {L : List Tok} {R bl cap base : Nat} {w w' : World} {I J : Nat} {b b' : Bool}

end

abbrev noBytes : ByteArray := { data := #[] }
/-- From one world and kind of blocks to another: what lay in blocks of the first kind lies there still, and they are of the second kind. -/
def Moves (P Q : Nat → Prop) (w w' : World) : Prop := ∀ b, P b → b < w.heap.size → Q b ∧ w'.heap[b]? = w.heap[b]?
theorem Moves.heap {P Q : Nat → Prop} {w w' : World} (h : Moves P Q w w') {b : Nat} {o : Obj} (hb : P b) (ho : w.heap[b]? = some o) : Q b ∧ w'.heap[b]? = some o :=
  ⟨(h b hb (heap_lt ho)).1, (h b hb (heap_lt ho)).2.trans ho⟩
/-- The blocks from a number on. -/
abbrev From (lo : Nat) : Nat → Prop := fun b => lo ≤ b
end Go.Proofs.YtaghcjpoihkpjaaGreatDoor
namespace Go.Proofs.YtaghcjpoihkpjaaGreatDoor
open Go.RowKit Go.Lib

/-- How far a reader has to go. -/
def rdLeft (w : World) (R n : Nat) : Nat :=
  match w.heap[R]? with
  | some (.cells cs _ _) =>
    match (cs[2]? : Option Value), (cs[1]? : Option Value) with
    | some (Value.bool false), some (Value.int _ i) => n + 1 - i.toNat
    | _, _ => 0
  | _ => 0
section
variable (s : ByteArray) (L : List Tok) (R bl cap base : Nat)
end
/-- The list of tokens ends in the one token that is no part of a policy. -/
def Ends (L : List Tok) : Prop := ∃ m, L.length = m + 1 ∧ (L.getD m default).last = true
theorem Ends.next {L : List Tok} (h : Ends L) {i : Nat} (hi : i < L.length) (h1 : kd L i ≠ 101) (h2 : kd L i ≠ 33) : i + 1 < L.length := by
  obtain ⟨m, hm, hl⟩ := h
  rcases Nat.lt_or_ge i m with h' | h'
  · omega
  · obtain rfl : i = m := by omega
    simp [Tok.last] at hl
    rcases hl with hl | hl
    · exact absurd hl h1
    · exact absurd hl h2
theorem Ends.at_lt {s : ByteArray} {L : List Tok} (h : Ends L) {v : Lvl} {I : Nat} {o : Out} (hd : D s L v I o) (hI : I < L.length) : I ≤ o.at ∧ o.at < L.length := by
  obtain ⟨m, hm, hl⟩ := h
  have := hd.le hm hl (by omega)
  omega

/-- Whatever is read whole takes a token. -/
theorem read_lt {s : ByteArray} {L : List Tok} {v : Lvl} {I J : Nat} {ts : List Tree} (h : D s L v I (.ok ts J)) (hv : v.tail = false) : I < J := h.grow.2 hv rfl

theorem cells_new {w : World} {cs : Array Value} {t : TypeId} : (w.alloc (.cells cs t)).heap[w.heap.size]? = some (.cells cs t (0, 0)) := heap_alloc_new w _

theorem moves_new {lo R : Nat} {w : World} (o o' : Obj) (hR : R < lo) : Moves (From lo) (From lo) w ((w.alloc o).alloc o') := fun b hb hs => ⟨hb, (((Keep.refl R w).alloc o).alloc o').block b hs (fun e => by have hb : lo ≤ b := hb; omega)⟩
section
variable {s : ByteArray} {L : List Tok} {R bl cap base : Nat}

end
end Go.Proofs.YtaghcjpoihkpjaaGreatDoor
namespace Go.Proofs.YtaghcjpoihkpjaaGreatDoor
open Go.RowKit Go.Lib

/-- The tokens of numbers are short runs of digits. -/
def Digits (b : ByteArray) : Prop := (∀ x ∈ b.data.toList, isDig x = true) ∧ b.size ≤ 9
def Good (s : ByteArray) (L : List Tok) : Prop := ∀ i, i < L.length → kd L i = 110 → Digits (tx s L i)
theorem digits_none : Digits { data := #[] } := ⟨by simp, by decide⟩
section
variable (s : ByteArray) (L : List Tok) (R bl cap base : Nat)
end

section
variable {s : ByteArray} {L : List Tok} {R bl cap base : Nat}

end
end Go.Proofs.YtaghcjpoihkpjaaGreatDoor
namespace Go.Proofs.YtaghcjpoihkpjaaGreatDoor
open Go.RowKit Go.Lib

/-- What 'take' comes to. -/
def TakeRel (s : ByteArray) (L : List Tok) (I : Nat) (b : Bool) (k I' : Nat) (b' : Bool) (kt pt : Nat) (tt : ByteArray) : Prop :=
  (b = true ∧ I' = I ∧ b' = true ∧ kt = 0 ∧ pt = 0 ∧ tt = { data := #[] }) ∨ (b = false ∧ kd L I = k ∧ I' = I + 1 ∧ b' = false ∧ kt = k ∧ pt = pl L I ∧ tt = tx s L I) ∨ (b = false ∧ kd L I ≠ k ∧ I' = I ∧ b' = true ∧ kt = 0 ∧ pt = 0 ∧ tt = { data := #[] })
theorem TakeRel.lt {s : ByteArray} {L : List Tok} {I I' k kt pt : Nat} {b b' : Bool} {tt : ByteArray} (h : TakeRel s L I b k I' b' kt pt tt) (hE : Ends L) (hI : I < L.length) (h1 : k ≠ 101) (h2 : k ≠ 33) : I' < L.length := by
  rcases h with ⟨-, rfl, -⟩ | ⟨-, hk, rfl, -⟩ | ⟨-, -, rfl, -⟩
  · exact hI
  · exact hE.next hI (by omega) (by omega)
  · exact hI
theorem TakeRel.digits {s : ByteArray} {L : List Tok} {I I' kt pt : Nat} {b b' : Bool} {tt : ByteArray} (h : TakeRel s L I b 110 I' b' kt pt tt) (hG : Good s L) (hI : I < L.length) : Digits tt := by
  rcases h with ⟨-, -, -, -, -, rfl⟩ | ⟨-, hk, -, -, -, -, rfl⟩ | ⟨-, -, -, -, -, -, rfl⟩
  · exact digits_none
  · exact hG I hI hk
  · exact digits_none

theorem TakeRel.bad {s : ByteArray} {L : List Tok} {I k I' kt pt : Nat} {b' : Bool} {tt : ByteArray} (h : TakeRel s L I true k I' b' kt pt tt) : I' = I ∧ b' = true := by
  rcases h with ⟨-, h1, h2, -⟩ | ⟨h, -⟩ | ⟨h, -⟩
  · exact ⟨h1, h2⟩
  · cases h
  · cases h
theorem TakeRel.good {s : ByteArray} {L : List Tok} {I k I' kt pt : Nat} {b' : Bool} {tt : ByteArray} (h : TakeRel s L I false k I' b' kt pt tt) : (kd L I = k ∧ I' = I + 1 ∧ b' = false ∧ tt = tx s L I) ∨ (kd L I ≠ k ∧ I' = I ∧ b' = true) := by
  rcases h with ⟨h, -⟩ | ⟨-, h1, h2, h3, -, -, h4⟩ | ⟨-, h1, h2, h3, -⟩
  · cases h
  · exact .inl ⟨h1, h2, h3, h4⟩
  · exact .inr ⟨h1, h2, h3⟩

section
variable {s : ByteArray} {L : List Tok} {R bl cap base : Nat}

end
end Go.Proofs.YtaghcjpoihkpjaaGreatDoor
namespace Go.Proofs.YtaghcjpoihkpjaaGreatDoor
open Go.RowKit

theorem run_append_at {P : Program} (w : World) (base : Nat) (t ty e : TypeId) (i : TypeInfo) (z : Value) (size bytes : Nat) (ht : P.underlying t = some (.slice e)) (hi : P.info? e = some i) (hz : i.zero = some z)
    (hsize : i.size = size) (hby : i.bytes = bytes) (hzs : z.cells.size = size) (hsz : 0 < size)
    (v : Value) (n : Nat) (xs : List Value) (hown : w.ownsRow base e size v n xs)
    (a : Addr) (m c : Nat) (news : List Value) (hl : news.length = m * size) (hnews : ∀ j u, news[j]? = some u → w.cell? (a.add j) = some u) (h1 : ∀ u ∈ news, u.oneCell' = true)
    (h63 : n + m ≤ maxLen) (hbytes : (n + m) * bytes ≤ 140737488355328) (hbase : base ≤ w.heap.size) (hm : 0 < m) :
    ∃ v' w', (Builtin.append_ #[t, t] ty #[v, .slice (some a) m c]).run P w = .ok v' w' ∧ w'.ownsRow base e size v' (n + m) (xs ++ news) ∧ w.grownBy w' v.ownBlock ∧ (v'.ownBlock = v.ownBlock ∨ v'.ownBlock = some w.heap.size) := by
  obtain ⟨v', w', hr, h2, h3, -⟩ := run_append_own (P := P) w base t ty e i z size bytes ht hi hz hsize hby hzs hsz v n xs hown a m c news hl hnews h1 h63 hbytes hbase
  refine ⟨v', w', hr, h2, h3, ?_⟩
  subst hsize
  subst hby
  have hsmall : n + m ≤ 9223372036854775807 := by simp only [maxLen] at h63; omega
  rcases hown.2 with ⟨rfl, rfl⟩ | ⟨g, cap, cur, rfl, hbg, hg, hnc, hcm, hcs, htake⟩
  · have hr2 := run_append_nil (P := P) w t ty e i z ht hi hz a m c news hl hnews (by omega) (by omega) (by have hb := hbytes; simp only [Nat.zero_add] at hb; omega)
    rw [hr] at hr2
    injection hr2 with e1 e2
    subst e1
    exact .inr rfl
  · by_cases hroom : n + m ≤ cap
    · have hfit : n * i.size + news.length ≤ cur.size := by rw [hl, hcs, ← Nat.add_mul]; exact Nat.mul_le_mul_right _ hroom
      have hr2 := run_append_room (P := P) w t ty e i ht hi g n cap cur hg a m c news hl hnews h1 hroom hfit
      rw [hr] at hr2
      injection hr2 with e1 e2
      subst e1
      exact .inl rfl
    · have holds : ∀ j u, xs[j]? = some u → w.cell? ((⟨g, 0, none⟩ : Addr).add j) = some u := hown.cells (g := g) rfl
      have hr2 := run_append_grow (P := P) w t ty e i z ht hi hz ⟨g, 0, none⟩ n cap xs hown.1 holds a m c news hl hnews (by omega) (by omega) (growslice_fits (by omega) hbytes)
      rw [hr] at hr2
      injection hr2 with e1 e2
      subst e1
      exact .inr rfl

theorem wpList_append_at {P : Program} (w : World) {ops : Array Oper} {rest : List Oper} {o : Oper} {a : Act} {Q : Exit → Act → World → Prop} (hgd : o.guard = none) (s x : Operand) (t : TypeId)
    (ho : o.op = .call { callee := .builtin .append, args := #[s, x], argTypes := #[t, t] })
    (base : Nat) (e : TypeId) (i : TypeInfo) (z : Value) (size bytes : Nat) (ht : P.underlying t = some (.slice e)) (hi : P.info? e = some i) (hz : i.zero = some z)
    (hsize : i.size = size) (hby : i.bytes = bytes) (hzs : z.cells.size = size) (hsz : 0 < size)
    (v : Value) (n : Nat) (xs : List Value) (hs : a.eval s = v) (hown : w.ownsRow base e size v n xs)
    (ad : Addr) (m c : Nat) (news : List Value) (hx : a.eval x = .slice (some ad) m c) (hl : news.length = m * size) (hnews : ∀ j u, news[j]? = some u → w.cell? (ad.add j) = some u) (h1 : ∀ u ∈ news, u.oneCell' = true)
    (h63 : n + m ≤ maxLen) (hbytes : (n + m) * bytes ≤ 140737488355328) (hbase : base ≤ w.heap.size) (hm : 0 < m)
    (h : ∀ v' w', w'.ownsRow base e size v' (n + m) (xs ++ news) → w.grownBy w' v.ownBlock → (v'.ownBlock = v.ownBlock ∨ v'.ownBlock = some w.heap.size) → wpList P ops Q rest (a.put o.dst v') w') : wpList P ops Q (o :: rest) a w := by
  refine wpList_plain hgd fun K hK => ?_
  obtain ⟨v', w', hr, h2, h3, h4⟩ := run_append_at (P := P) w base t o.type e i z size bytes ht hi hz hsize hby hzs hsz v n xs hown ad m c news hl hnews h1 h63 hbytes hbase hm
  unfold Oper.wp execOp
  simp only [ho, resolve, invoke, builtin, Sem.run_bind, Sem.run_pure, Result.andThen_ok, List.map_toArray, List.map_cons, List.map_nil, hs, hx, hr]
  exact hK _ _ (h v' w' h2 h3 h4)
end Go.Proofs.YtaghcjpoihkpjaaGreatDoor
namespace Go.Proofs.YtaghcjpoihkpjaaGreatDoor
open Go.RowKit Go.Lib

theorem cell_one_new (w : World) (a : Value) (t : TypeId) : ∀ j u, [a][j]? = some u → (w.alloc (.cells #[a] t)).cell? ((⟨w.heap.size, 0, none⟩ : Addr).add j) = some u := by
  intro j u hj
  match j, hj with
  | 0, hj => simp at hj; subst hj; simp [Addr.add]
  | (j + 1), hj => simp at hj
theorem owns_slice {b e n : Nat} {w : World} {pv : Value} {vs : List Value} (h : w.ownsRow b e 1 pv n vs) : ∃ ao ln cp, pv = .slice ao ln cp := by
  rcases h.2 with ⟨h1, -⟩ | ⟨g, cap, cur, h1, -⟩
  · exact ⟨_, _, _, h1⟩
  · exact ⟨_, _, _, h1⟩
section
variable {s : ByteArray} {L : List Tok} {R bl cap base : Nat}

/-- The blocks of arguments: behind the node's, and not the row's own. -/
def AP (bn : Nat) (pv : Value) : Nat → Prop := fun b => bn < b ∧ pv.ownBlock ≠ some b

end
end Go.Proofs.YtaghcjpoihkpjaaGreatDoor
namespace Go.Proofs.YtaghcjpoihkpjaaGreatDoor
open Go.RowKit Go.Lib

theorem digFrom_all (s : ByteArray) : ∀ (f i k : Nat), i ≤ k → k < digFrom s f i → isDig (byteAt s k) = true
  | 0, i, k, h1, h2 => by simp [digFrom] at h2; omega
  | f + 1, i, k, h1, h2 => by
    unfold digFrom at h2
    split at h2
    · rename_i h
      rcases Nat.lt_or_ge i k with hlt | hge
      · exact digFrom_all s f (i + 1) k hlt h2
      · obtain rfl : k = i := by omega
        exact h.2
    · omega
theorem extract_list (s : ByteArray) (a b : Nat) : (s.extract a b).data.toList = (s.data.toList.take b).drop a := by
  simp [ByteArray.data_extract, List.extract_eq_drop_take']
theorem tokAt_digits {s : ByteArray} {i : Nat} (hi : i ≤ s.size) (h : (tokAt s i).kind = 110) : Digits ((tokAt s i).text s) := by
  revert h
  unfold tokAt
  have h1 := digEnd_le hi
  split
  · simp
  split
  · rename_i h2 hsg
    intro h
    rw [isSign_int] at hsg
    simp only at h
    rw [h] at hsg
    simp at hsg
  split
  · split
    · rename_i h9
      intro _
      refine ⟨fun x hx => ?_, ?_⟩
      · unfold Tok.text at hx
        simp only [extract_list] at hx
        obtain ⟨k, hk⟩ := List.getElem?_of_mem hx
        rw [List.getElem?_drop, List.getElem?_take] at hk
        split at hk
        · rename_i hlt
          have := digFrom_all s (s.size - i) i (i + k) (by omega) hlt
          unfold byteAt at this
          rw [hk] at this
          exact this
        · cases hk
      · unfold Tok.text
        simp only [ByteArray.size_extract]
        omega
    · simp
  · split
    · simp
    · simp
theorem toksAt_all (s : ByteArray) (P : Tok → Prop) (hP : ∀ i, i ≤ s.size → P (tokAt s i)) : ∀ n i, i ≤ s.size → s.size - i ≤ n → ∀ t ∈ toksAt s i, P t := by
  have one : ∀ i, i ≤ s.size → P (tokFrom s i) := fun i hi => hP _ (skip_le hi).2
  intro n
  induction n with
  | zero =>
    intro i hi hn t ht
    have hl : (tokFrom s i).last = true := by
      cases h : (tokFrom s i).last with
      | true => rfl
      | false => have := tokFrom_stop hi h; omega
    rw [toksAt_last hl] at ht
    simp at ht
    subst ht
    exact one i hi
  | succ n ih =>
    intro i hi hn t ht
    cases h : (tokFrom s i).last with
    | true =>
      rw [toksAt_last h] at ht
      simp at ht
      subst ht
      exact one i hi
    | false =>
      have h2 := tokFrom_stop hi h
      rw [toksAt_cons hi h] at ht
      rcases List.mem_cons.1 ht with rfl | ht
      · exact one i hi
      · exact ih _ h2.2 (by omega) t ht
theorem toksAt_ends (s : ByteArray) : ∀ n i, i ≤ s.size → s.size - i ≤ n → Ends (toksAt s i) ∧ (toksAt s i).length ≤ s.size - i + 1 := by
  have single : ∀ i, (tokFrom s i).last = true → Ends (toksAt s i) ∧ (toksAt s i).length ≤ s.size - i + 1 := by
    intro i h
    rw [toksAt_last h]
    exact ⟨⟨0, rfl, h⟩, by simp⟩
  intro n
  induction n with
  | zero =>
    intro i hi hn
    cases h : (tokFrom s i).last with
    | true => exact single i h
    | false => have := tokFrom_stop hi h; omega
  | succ n ih =>
    intro i hi hn
    cases h : (tokFrom s i).last with
    | true => exact single i h
    | false =>
      have h2 := tokFrom_stop hi h
      obtain ⟨⟨m, h3, h4⟩, h5⟩ := ih _ h2.2 (by omega)
      rw [toksAt_cons hi h]
      refine ⟨⟨m + 1, by simp [h3], by simpa using h4⟩, ?_⟩
      simp only [List.length_cons]
      omega
theorem toks_ends (s : ByteArray) : Ends (toks s) := (toksAt_ends s s.size 0 (by omega) (by omega)).1
theorem toks_length (s : ByteArray) : (toks s).length ≤ s.size + 1 := (toksAt_ends s s.size 0 (by omega) (by omega)).2
theorem toks_good (s : ByteArray) : Good s (toks s) := by
  intro i hi hk
  have := toksAt_all s (fun t => t.kind = 110 → Digits (t.text s)) (fun i hi h => tokAt_digits hi h) s.size 0 (by omega) (by omega) ((toks s).getD i default) (by
    rw [List.getD_eq_getElem?_getD, List.getElem?_eq_getElem hi]
    exact List.getElem_mem hi)
  exact this hk

/-- What the document asks of Parse: the tree, what the error is told as, its place. -/
def PRel (s : ByteArray) (r : Option Tree × Nat × Nat) : Prop :=
  (200 < s.size ∧ r = (none, 1, 0)) ∨
  (s.size ≤ 200 ∧ ((∃ J, D s (toks s) .choice 0 (.bad J) ∧ r = (none, 2, pl (toks s) J)) ∨
    (∃ t J, D s (toks s) .choice 0 (.ok [t] J) ∧ kd (toks s) J ≠ 101 ∧ r = (none, 2, pl (toks s) J)) ∨
    (∃ t J, D s (toks s) .choice 0 (.ok [t] J) ∧ kd (toks s) J = 101 ∧ r = (some t, 0, 0))))
theorem PRel.det {s : ByteArray} {r r' : Option Tree × Nat × Nat} (h : PRel s r) (h' : PRel s r') : r = r' := by
  rcases h with ⟨h0, rfl⟩ | ⟨h0, h⟩ <;> rcases h' with ⟨h0', rfl⟩ | ⟨h0', h'⟩
  · rfl
  · omega
  · omega
  · rcases h with ⟨J, d, rfl⟩ | ⟨t, J, d, k, rfl⟩ | ⟨t, J, d, k, rfl⟩ <;> rcases h' with ⟨J', d', rfl⟩ | ⟨t', J', d', k', rfl⟩ | ⟨t', J', d', k', rfl⟩ <;>
      (have e := d.det d'; first | (cases e; rfl) | (cases e; exact absurd k' k) | (cases e; exact absurd k k') | cases e)

end Go.Proofs.YtaghcjpoihkpjaaGreatDoor
