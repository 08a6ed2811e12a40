/-
  THE PROGRAM's firstToken, WALKED.
-/
import Derived.Test.YtaghcjpoihkpjaaGreatDoorJ2
namespace Go.Proofs.YtaghcjpoihkpjaaGreatDoor
open Go.RowKit Go.Lib

/-- The program's number of a token's kind. -/
def codeKind (t : Tok) : Nat := if t.kind = 101 then 0 else if t.kind = 110 then 2 else if t.kind = 97 then 3 else if t.kind = 33 then 4 else 1

theorem index_signs (c : UInt8) : decide (0 ≤ Lib.indexByte [63, 58, 60, 62, 61, 43, 45, 42, 47, 40, 41, 44] c) = isSign c := by
  have h : ∀ n : Fin 256, decide (0 ≤ Lib.indexByte [63, 58, 60, 62, 61, 43, 45, 42, 47, 40, 41, 44] (UInt8.ofNat n.val)) = isSign (UInt8.ofNat n.val) := by decide +kernel
  have := h ⟨c.toNat, c.toNat_lt⟩
  simpa using this
theorem extract_list2 (s : ByteArray) (a b : Nat) : (s.extract a b).data.toList = (s.data.toList.take b).drop a := by
  simp [ByteArray.data_extract, List.extract_eq_drop_take']
theorem fits_digit (w : World) : Fits 101 digR w := ⟨enters_of Tryz.func101 (by kernel_rfl) rfl, fun W x _ _ => code_isDigit x W⟩
theorem fits_part (w : World) (hT : Tabs w) : Fits 105 partR w := ⟨enters_of Tryz.func105 (by kernel_rfl) rfl, fun W x hx hb => code_isNamePart x hx W (hT.below hb)⟩

/-- More steps than there are bytes count nothing more. -/
theorem count_fuel (s : ByteArray) : ∀ f g k, s.size - k ≤ f → s.size - k ≤ g → runeCountFrom s f k = runeCountFrom s g k
  | 0, g, k, h, _ => by
    cases g with
    | zero => rfl
    | succ g => simp [runeCountFrom, show ¬ k < s.size by omega]
  | f + 1, 0, k, _, h => by simp [runeCountFrom, show ¬ k < s.size by omega]
  | f + 1, g + 1, k, hf, hg => by
    unfold runeCountFrom
    split
    · have := width_pos s k
      rw [count_fuel s f g _ (by omega) (by omega)]
    · rfl

set_option maxRecDepth 1000000 in
set_option maxHeartbeats 2000000 in
theorem code_first (s : ByteArray) (i : Nat) (hs : s.size ≤ 1000) (hi : i ≤ s.size) (w : World) (hT : Tabs w) :
    Calls Tryz.prog 58 #[.string (s.extract i s.size)] w fun e w' => ∃ tx, e = .returned (.tuple #[.int .i64 (codeKind (tokAt s i)), .string tx]) ∧ ((tokAt s i).kind ≠ 33 → tx = (tokAt s i).text s) ∧ Below w.heap.size w w' := by
  have HT : Hid (Tabs w) := hT
  clear hT
  rcases Nat.lt_or_ge i s.size with h8 | h8
  rotate_left 1
  · obtain rfl : i = s.size := by omega
    have ht : tokAt s s.size = ⟨101, s.size, s.size⟩ := by simp [tokAt]
    rw [extract_nil, ht]
    go_enter Tryz.func58, Tryz.ntmps58
    go_wp2
    go_ret2
    exact ⟨_, rfl, fun _ => (extract_nil s s.size).symm, Below.refl _ _⟩
  have hdec := Tryz.utf8_DecodeRuneInString (s.extract i s.size) w HT.out.utf
  rw [decodeGo_rest h8] at hdec
  obtain ⟨t, ht⟩ : ∃ t, t = s.extract i s.size := ⟨_, rfl⟩
  have hsz : t.size = s.size - i := by rw [ht, tail_size]
  have h0 : 0 < t.size := by omega
  have hg0 : t[0] = s[i] := by
    have : t.data.toList[0]? = s.data.toList[i]? := by rw [ht, extract_list2]; simp [List.getElem?_drop, List.getElem?_take]
    rw [byte_at h0, byte_at h8] at this
    exact Option.some.inj this
  rw [← ht] at hdec ⊢
  have hne : t.toList.isEmpty = false := by
    have : t.toList.length = t.size := by rw [ByteArray.toList_eq]; simp
    cases h : t.toList with
    | nil => rw [h] at this; simp at this; omega
    | cons a l => rfl
  have HX : Hid (t = s.extract i s.size) := ht
  have H0 : Hid (t[0] = s[i]) := hg0
  clear ht hg0
  go_enter Tryz.func58, Tryz.ntmps58
  go_wp2_with fail
  refine hdec.mono ?_
  rintro e w1 ⟨rfl, hb1⟩
  have HB1 : Hid (Below w.heap.size w w1) := hb1
  clear hdec hb1
  have hidx := Tryz.strings_IndexByte { data := #[63, 58, 60, 62, 61, 43, 45, 42, 47, 40, 41, 44] } (t[0].toNat : Int) w1
  have hix : Lib.indexByte [63, 58, 60, 62, 61, 43, 45, 42, 47, 40, 41, 44] ((t[0].toNat : Int)).toNat.toUInt8 = Lib.indexByte [63, 58, 60, 62, 61, 43, 45, 42, 47, 40, 41, 44] s[i] := by
    rw [H0.out]
    simp
  have hidx' : Calls Tryz.prog 100 #[.string { data := #[63, 58, 60, 62, 61, 43, 45, 42, 47, 40, 41, 44] }, .int .u8 (t[0].toNat : Int)] w1 fun e w' => e = .returned (.int .i64 (Lib.indexByte [63, 58, 60, 62, 61, 43, 45, 42, 47, 40, 41, 44] s[i])) ∧ w' = w1 := by
    rw [← hix]
    exact hidx
  have his := index_signs s[i]
  clear hidx hix
  generalize Lib.indexByte [63, 58, 60, 62, 61, 43, 45, 42, 47, 40, 41, 44] s[i] = n at hidx' his
  have hw1 := width_pos s i
  have hw2 := decode_le h8
  go_wp2_with fail
  refine hidx'.mono ?_
  rintro e w2 ⟨rfl, hw⟩
  have hw := hw.symm
  subst hw
  clear hidx'
  cases hsg : isSign s[i] with
  | true =>
    have hn : (0 : Int) ≤ n := by rw [hsg] at his; simpa using his
    have ha : s[i].toNat < 128 := by
      rw [isSign_int] at hsg
      simp only [Bool.or_eq_true, beq_iff_eq] at hsg
      omega
    have hd : Utf8.decode s i = (s[i].toNat, 1) := decode_ascii s i h8 ha
    have HTK : Hid (tokAt s i = ⟨s[i].toNat, i, i + 1⟩) := by
      show _ = _
      rw [tokAt, if_neg (by omega), if_pos (by rw [byteAt_get h8]; exact hsg), byteAt_get h8]
    have HCK : Hid (codeKind ⟨s[i].toNat, i, i + 1⟩ = 1) := by
      show _ = _
      rw [isSign_int] at hsg
      simp only [Bool.or_eq_true, beq_iff_eq] at hsg
      unfold codeKind
      simp only
      rw [if_neg (by omega), if_neg (by omega), if_neg (by omega), if_neg (by omega)]
    rw [hd]
    have q1 : (1 : Int) ≤ (t.size : Int) := by omega
    clear his hsg hd ha hw1 hw2
    go_wp2_with fail
    go_region
    all_goals go_wp2
    go_ret2
    refine ⟨t.extract 0 1, by rw [HTK.out, HCK.out]; rfl, fun _ => ?_, HB1.out.drew⟩
    rw [HTK.out, HX.out]
    have := extract_sub s i (i + 1) (by omega) (by omega)
    rw [show i + 1 - i = 1 by omega] at this
    exact this
  | false =>
    have hn : ¬ (0 : Int) ≤ n := by rw [hsg] at his; simpa using his
    have HSG : Hid (isSign (byteAt s i) = false) := by rw [byteAt_get h8]; exact hsg
    clear his hsg
    have HTs : Hid (Tabs w1) := HT.out.below HB1.out
    obtain ⟨hdig, -⟩ := dec_digit h8
    have hdigc := code_isDigit (Utf8.decode s i).1 w1
    rw [hdig] at hdigc
    cases hdg : isDig (byteAt s i) with
    | true =>
      rw [hdg] at hdigc
      have hlt : i < digEnd s i := by
        obtain ⟨f, hf⟩ : ∃ f, s.size - i = f + 1 := ⟨s.size - i - 1, by omega⟩
        unfold digEnd
        rw [hf, digFrom, if_pos ⟨h8, hdg⟩]
        have := digFrom_le s f (i + 1) (by omega)
        omega
      have hle := digEnd_le hi
      have hrun : runText digR t = s.extract i (digEnd s i) := by rw [HX.out, run_end digR s i hi, end_digits]; rfl
      have hsize : (s.extract i (digEnd s i)).size = digEnd s i - i := by simp; omega
      have HTK : Hid (tokAt s i = if digEnd s i - i ≤ 9 then ⟨110, i, digEnd s i⟩ else ⟨33, i, i⟩) := by
        show _ = _
        rw [tokAt, if_neg (by omega), if_neg (by rw [HSG.out]; decide), if_pos hlt]
      clear hdig hdg hw1 hw2
      generalize digEnd s i = E at *
      generalize hU : s.extract i E = U at *
      have HU : Hid (s.extract i E = U) := hU
      clear hU
      go_wp2_with fail
      refine hdigc.mono ?_
      rintro e w2 ⟨rfl, hb2⟩
      have hrc := code_run t 101 digR w2 (fits_digit w2)
      rw [hrun] at hrc
      have HB2 : Hid (Below w.heap.size w w2) := below_size HB1.out hb2
      clear hdigc hb2 hrun
      go_wp2_with fail
      refine hrc.mono ?_
      rintro e w3 ⟨rfl, hb3⟩
      have HB3 : Hid (Below w.heap.size w w3) := below_size HB2.out hb3
      clear hrc hb3
      have hlim := code_limited 2 (E - i) 9 w3
      obtain ⟨Kk, hKk⟩ : ∃ K, K = (if 9 < E - i then 4 else 2) := ⟨_, rfl⟩
      rw [← hKk] at hlim
      have HKk : Hid (Kk = (if 9 < E - i then 4 else 2)) := hKk
      clear hKk
      go_wp2_with fail
      refine hlim.mono ?_
      rintro e w4 ⟨rfl, hw⟩
      have hw := hw.symm
      subst hw
      go_wp2
      go_ret2
      refine ⟨U, ?_, fun hk => ?_, HB3.out⟩
      · rw [HTK.out, HKk.out]
        split <;> split <;> first | rfl | (exfalso; omega)
      · rw [HTK.out] at hk ⊢
        split at hk
        · rename_i h9
          rw [if_pos h9]
          exact HU.out.symm
        · exact absurd rfl hk
    | false =>
      rw [hdg] at hdigc
      have hde : digEnd s i = i := by
        unfold digEnd
        obtain ⟨f, hf⟩ : ∃ f, s.size - i = f + 1 := ⟨s.size - i - 1, by omega⟩
        rw [hf, digFrom, if_neg (by rw [hdg]; simp)]
      have HTK : Hid (tokAt s i = if (wordEnd s i).2 = 0 ∨ 12 < (wordEnd s i).2 then ⟨33, i, i⟩ else ⟨97, i, (wordEnd s i).1⟩) := by
        show _ = _
        rw [tokAt, if_neg (by omega), if_neg (by rw [HSG.out]; decide), if_neg (by omega)]
      have hrl := Lib.rune_le s i
      clear hdig hdg hde
      cases hlt : isLetterU ((Utf8.decode s i).1 : Int) with
      | true =>
        obtain ⟨hwe, hwp⟩ := word_first h8 hlt
        have hwl := wordFrom_le s (s.size - i) i 0 hi
        have hrun : runText partR t = s.extract i (wordEnd s i).1 := by rw [HX.out, run_end partR s i hi, hwe]
        have hcnt : Lib.runeCount (s.extract i (wordEnd s i).1) = (wordEnd s i).2 := by
          have h5 : (wordEnd s i).1 ≤ s.size := hwl.2.1
          have h6 : i ≤ (wordEnd s i).1 := hwl.1
          have hc := count_word s i (s.size - i) i 0 (Nat.le_refl _) hi (Nat.le_refl _) (.inr trivial) (wordEnd s i).1 rfl h5
          rw [extract_sub s i _ h5 h6, Nat.sub_self] at hc
          unfold Lib.runeCount
          have hz : (s.extract i (wordEnd s i).1).size = (wordEnd s i).1 - i := by simp; omega
          rw [hz]
          have hfu := count_fuel (s.extract i (wordEnd s i).1) ((wordEnd s i).1 - i) (s.size - i) 0 (by omega) (by omega)
          rw [hfu, hc]
          rfl
        have hletc := Tryz.unicode_IsLetter_all (Utf8.decode s i).1 w1 (by omega) (by omega)
        rw [hlt] at hletc
        have h13 : (wordEnd s i).1 ≤ s.size := hwl.2.1
        have h14 : i ≤ (wordEnd s i).1 := hwl.1
        clear hwl hwe hw1 hw2
        generalize (wordEnd s i).1 = E at *
        generalize (wordEnd s i).2 = M at *
        generalize hU : s.extract i E = U at *
        have HU : Hid (s.extract i E = U) := hU
        have hUs : U.size ≤ 1000 := by rw [← hU]; simp; omega
        clear hU
        go_wp2_with fail
        refine hdigc.mono ?_
        rintro e w2 ⟨rfl, hb2⟩
        have HB2 : Hid (Below w.heap.size w w2) := below_size HB1.out hb2
        have HT2 : Hid (Tabs w2) := HTs.out.below hb2
        clear hdigc hb2 hletc
        have hletc := Tryz.unicode_IsLetter_all (Utf8.decode s i).1 w2 (by omega) (by omega) HT2.out.props HT2.out.letter
        rw [hlt] at hletc
        go_wp2_with fail
        refine hletc.mono ?_
        rintro e w3 ⟨rfl, hb3⟩
        have HB3 : Hid (Below w.heap.size w w3) := below_size HB2.out hb3
        have hrc := code_run t 105 partR w3 (fits_part w3 (HT2.out.below hb3))
        rw [hrun] at hrc
        clear hletc hb3 hrun
        go_wp2_with fail
        refine hrc.mono ?_
        rintro e w4 ⟨rfl, hb4⟩
        have HB4 : Hid (Below w.heap.size w w4) := below_size HB3.out hb4
        have hct := Tryz.utf8_RuneCountInString U w4 (by omega)
        rw [hcnt] at hct
        clear hrc hb4 hcnt
        go_wp2_with fail
        refine hct.mono ?_
        rintro e w5 ⟨rfl, pos, hw⟩
        have HB5 : Hid (Below w.heap.size w w5) := by
          rw [hw]
          exact HB4.out.alloc HB4.out.size _
        clear hw hct
        have hlim := code_limited 3 M 12 w5
        obtain ⟨Kk, hKk⟩ : ∃ K, K = (if 12 < M then 4 else 3) := ⟨_, rfl⟩
        rw [← hKk] at hlim
        have HKk : Hid (Kk = (if 12 < M then 4 else 3)) := hKk
        clear hKk
        go_wp2_with fail
        refine hlim.mono ?_
        rintro e w6 ⟨rfl, hw⟩
        have hw := hw.symm
        subst hw
        go_wp2
        go_ret2
        refine ⟨U, ?_, fun hk => ?_, HB5.out⟩
        · rw [HTK.out, HKk.out]
          split <;> split <;> first | rfl | (exfalso; omega)
        · rw [HTK.out] at hk ⊢
          split at hk
          · exact absurd rfl hk
          · rename_i h9
            rw [if_neg h9]
            exact HU.out.symm
      | false =>
        have hz := word_none h8 hlt
        have HTZ : Hid (tokAt s i = ⟨33, i, i⟩) := by
          show _ = _
          rw [HTK.out, if_pos (.inl hz)]
        clear HTK hz
        have q1 : (0 : Int) ≤ ((Utf8.decode s i).2 : Int) := by omega
        have q2 : ((Utf8.decode s i).2 : Int) ≤ (t.size : Int) := by omega
        go_wp2_with fail
        refine hdigc.mono ?_
        rintro e w2 ⟨rfl, hb2⟩
        have HB2 : Hid (Below w.heap.size w w2) := below_size HB1.out hb2
        have HT2 : Hid (Tabs w2) := HTs.out.below hb2
        clear hdigc hb2
        have hletc := Tryz.unicode_IsLetter_all (Utf8.decode s i).1 w2 (by omega) (by omega) HT2.out.props HT2.out.letter
        rw [hlt] at hletc
        go_wp2_with fail
        refine hletc.mono ?_
        rintro e w3 ⟨rfl, hb3⟩
        have HB3 : Hid (Below w.heap.size w w3) := below_size HB2.out hb3
        clear hletc hb3
        go_wp2_with fail
        go_region
        all_goals go_wp2
        go_ret2
        exact ⟨_, by rw [HTZ.out]; rfl, fun hk => absurd (by rw [HTZ.out]) hk, HB3.out.drew⟩
end Go.Proofs.YtaghcjpoihkpjaaGreatDoor
