/-
  THE READER OF BYTES: IsName, name, number, WALKED.
-/
import Derived.Test.YtihmgoahobbdkaaGreatDoorJC32
import Derived.Test.YtihmgoahobbdkaaGreatDoorJC6
import Derived.Laws.IdiomStrings
namespace Go.Proofs.YtihmgoahobbdkaaGreatDoor
open Go.RowKit Go.Lib

theorem conv_bytes {w : World} {v : Value} {l : List UInt8} (h : BytesIn w v l) : (convert 78 9 v).run Tryz.prog w = .ok (.string ⟨l.toArray⟩) w := by
  obtain ⟨ao, cp, rfl, h2⟩ := h
  match l, h2 with
  | [], _ =>
    rw [run_convert_bytes_string w _ _ _ _ _ cp Tryz.underlying78 Tryz.underlying5 Tryz.underlying9]
    cases ao <;> simp [Conv.bytesToString, loadCells]
    all_goals rfl
  | x :: l, h2 =>
    obtain ⟨C, off, rfl, -⟩ := h2 0 x rfl
    refine run_convert_bytes_back w _ _ _ ⟨C, off, none⟩ cp (x :: l) Tryz.underlying78 Tryz.underlying5 Tryz.underlying9 fun j hj => ?_
    obtain ⟨C2, off2, e, h3⟩ := h2 j _ (List.getElem?_eq_getElem hj)
    injection e with e
    injection e with e1 e2
    subst e1 e2
    rw [show (⟨C, off, none⟩ : Addr).add j = ⟨C, off + j, none⟩ by unfold Addr.add; split <;> simp_all]
    exact h3
theorem tokAt_pos {s : ByteArray} {i : Nat} (h : (tokAt s i).kind = 97) : (tokAt s i).pos = i := by
  unfold tokAt at h ⊢
  (repeat' split) <;> simp_all
theorem extract_all (b : ByteArray) : b.extract 0 b.size = b := by
  apply ByteArray.ext
  rw [ByteArray.data_extract]
  simp
set_option maxRecDepth 1000000 in
theorem code_IsName (b : ByteArray) (hb : b.size ≤ 1000) (w : World) (hT : Tabs w) : Calls Tryz.prog 178 #[.string b] w fun e w' => e = .returned (.bool (isName b)) ∧ Below w.heap.size w w' := by
  have hf := code_first b 0 hb (Nat.zero_le _) w hT
  rw [extract_all] at hf
  clear hT
  go_enter Tryz.func178, Tryz.ntmps178
  go_wp2_with fail
  refine hf.mono ?_
  rintro e w1 ⟨tx, rfl, htx, hb1⟩
  have HB : Hid (Below w.heap.size w w1) := hb1
  clear hf hb1
  by_cases hk : (tokAt b 0).kind = 97
  · have hck : codeKind (tokAt b 0) = 3 := by unfold codeKind; simp [hk]
    have ht := htx (by omega)
    have hp := tokAt_pos hk
    rw [hck]
    by_cases he : tx = b
    · have HN : Hid (isName b = true) := by
        show isName b = true
        unfold isName
        rw [decide_eq_true_eq]
        have hs : (tokAt b 0).stop = b.size := by
          have h1 : (b.extract (tokAt b 0).pos (tokAt b 0).stop).size = b.size := by
            have : (tokAt b 0).text b = b := by rw [← ht]; exact he
            unfold Tok.text at this
            rw [this]
          have h2 := (tokAt_stop (s := b) (i := 0) (Nat.zero_le _) (by unfold Tok.last; simp [hk])).2.1
          rw [ByteArray.size_extract, hp] at h1
          omega
        have e : tokAt b 0 = ⟨(tokAt b 0).kind, (tokAt b 0).pos, (tokAt b 0).stop⟩ := rfl
        rw [e, hk, hp, hs]
      clear htx ht hp hck hk
      subst he
      go_wp2
      go_ret
      exact ⟨by rw [HN.out]; rfl, HB.out⟩
    · have HN : Hid (isName b = false) := by
        show isName b = false
        unfold isName
        rw [decide_eq_false_iff_not]
        intro e
        apply he
        rw [ht, e]
        exact extract_all b
      have hne : (tx.toList == b.toList) = false := by rw [beq_eq_false_iff_ne]; intro e; apply he; apply ByteArray.ext; rw [toList_data, toList_data] at e; exact Array.toList_inj.1 e
      clear htx ht hp hck hk
      go_wp2
      go_ret
      exact ⟨by rw [HN.out]; rfl, HB.out⟩
  · have HN : Hid (isName b = false) := by
      show isName b = false
      unfold isName
      rw [decide_eq_false_iff_not]
      intro e
      apply hk
      rw [e]
    have hck : ((codeKind (tokAt b 0) : Nat) : Int) ≠ 3 := by
      unfold codeKind
      (repeat' split) <;> omega
    have hcb : (((codeKind (tokAt b 0) : Nat) : Int) == 3) = false := by rw [beq_eq_false_iff_ne]; exact hck
    generalize codeKind (tokAt b 0) = K at *
    clear htx hk
    go_wp2
    go_ret
    exact ⟨by rw [HN.out]; rfl, HB.out⟩
theorem or_byte {N : Int} {c : Nat} (h0 : 0 ≤ N) (h1 : N < 1099511627776) (hc : c < 256) : bits .or .i64 (wrap64 (N * 256)) (wrap64 (c : Int)) = 256 * N + c := by
  obtain ⟨M, rfl⟩ := Int.eq_ofNat_of_zero_le h0
  have hM : M < 1099511627776 := by omega
  have e1 : wrap64 ((M : Int) * 256) = ((256 * M : Nat) : Int) := by unfold wrap64; omega
  have e2 : wrap64 (c : Int) = (c : Int) := by unfold wrap64; omega
  rw [e1, e2]
  have a1 : (BitVec.ofInt IntKind.i64.bits ((256 * M : Nat) : Int)).toNat = 256 * M := by
    rw [BitVec.ofInt_natCast, BitVec.toNat_ofNat]
    exact Nat.mod_eq_of_lt (by show _ < 2 ^ 64; omega)
  have a2 : (BitVec.ofInt IntKind.i64.bits (c : Int)).toNat = c := by
    rw [BitVec.ofInt_natCast, BitVec.toNat_ofNat]
    exact Nat.mod_eq_of_lt (by show _ < 2 ^ 64; omega)
  unfold bits
  simp only [BitVec.toNat_or, a1, a2]
  rw [show 256 * M ||| c = 256 * M + c from (Nat.two_pow_add_eq_or_of_lt (i := 8) (by omega) M).symm, IntKind.wrap_i64]
  omega
theorem num256_snoc (l : List UInt8) (b : UInt8) : num256 (l ++ [b]) = 256 * num256 l + b.toNat := by simp [num256]
theorem num256_take {l : List UInt8} {j : Nat} {b : UInt8} (h : l[j]? = some b) : num256 (l.take (j + 1)) = 256 * num256 (l.take j) + b.toNat := by
  rw [List.take_add_one, h]
  exact num256_snoc _ _
theorem num256_lt (l : List UInt8) : ∀ j, j ≤ l.length → 0 ≤ num256 (l.take j) ∧ num256 (l.take j) < 256 ^ j
  | 0, _ => by simp [num256]
  | j + 1, h => by
    have ih := num256_lt l j (by omega)
    rw [num256_take (List.getElem?_eq_getElem (by omega : j < l.length))]
    have hb : l[j].toNat < 256 := l[j].toNat_lt
    have e : (256 : Int) ^ (j + 1) = 256 * 256 ^ j := by rw [Int.pow_succ, Int.mul_comm]
    rw [e]
    omega
theorem below_grow8 (w : World) (q : Nat) (os : Array Obj) : Below w.heap.size w (Go.Sort.grow (w.drewN q) os) :=
  ⟨rfl, rfl, rfl, by simp [Go.Sort.grow], fun k hk => by simp [Go.Sort.grow, Array.getElem?_append_left hk]⟩
theorem nDigits_le : ∀ (k u : Nat), nDigits u ≤ k + 1 ↔ u < 10 ^ (k + 1)
  | 0, u => by
    unfold nDigits
    split
    · simp; omega
    · rename_i h
      have h2 : 1 ≤ nDigits (u / 10) := by unfold nDigits; split <;> omega
      constructor
      · intro h3; omega
      · intro h3; simp at h3; omega
  | k + 1, u => by
    unfold nDigits
    split
    · rename_i h
      have : 10 ≤ 10 ^ (k + 1 + 1) := by
        have := Nat.pow_le_pow_right (n := 10) (by omega) (show 1 ≤ k + 1 + 1 by omega)
        omega
      constructor
      · intro _; omega
      · intro _; omega
    · have ih := nDigits_le k (u / 10)
      have e : 10 ^ (k + 1 + 1) = 10 * 10 ^ (k + 1) := by rw [Nat.pow_succ, Nat.mul_comm]
      rw [e]
      constructor
      · intro h3
        have := ih.1 (by omega)
        omega
      · intro h3
        have := ih.2 (by omega)
        omega
theorem itoa_len {n : Int} (h0 : 0 ≤ n) : decide (((itoa n).length : Int) ≤ 9) = decide (n < 1000000000) := by
  obtain ⟨m, rfl⟩ := Int.eq_ofNat_of_zero_le h0
  have e : itoa (m : Int) = decDigits m := by unfold itoa; rw [if_neg (by omega)]; simp
  rw [e, decDigits_length]
  have h9 : nDigits m ≤ 9 ↔ m < 1000000000 := nDigits_le 8 m
  generalize nDigits m = q at *
  rw [decide_eq_decide]
  omega
section
variable {R : Nat} {w w' : World} {r r' : RS}
theorem RS.take_length (r : RS) (n : Nat) : (r.take n).1.length = n := by
  unfold RS.take
  split
  · simp
  · rename_i h
    have h2 := (RS.require_wrong (by simpa using h)).2
    have := of_decide_eq_true h2
    simp
    omega
set_option maxRecDepth 1000000 in
theorem rd_name (h : RSt R w r) : Calls Tryz.prog 151 #[.pointer (some ⟨R, 0, none⟩)] w fun e w' => e = .returned (.string r.name.1) ∧ RSt R w' r.name.2 ∧ KR R w w' := by
  have hnx := rd_next h
  clear h
  go_enter Tryz.func151, Tryz.ntmps151
  go_wp2_with fail
  refine hnx.mono ?_
  rintro e w1 ⟨rfl, h1, k1⟩
  have hx : r.next.1.toNat < 256 := r.next.1.toNat_lt
  have htk := rd_take h1 r.next.1.toNat (by omega)
  have K1 : Hid _ := k1
  clear hnx h1 k1
  have HN : Hid (r.name = (⟨(r.next.2.take r.next.1.toNat).1.toArray⟩, (r.next.2.take r.next.1.toNat).2.require (isName ⟨(r.next.2.take r.next.1.toNat).1.toArray⟩))) := rfl
  have hl := RS.take_length r.next.2 r.next.1.toNat
  generalize r.next.1.toNat = X at *
  generalize r.next.2.take X = Y at *
  go_wp2_with fail
  refine htk.mono ?_
  rintro e w2 ⟨v2, rfl, h2, k2, hb2⟩
  have hcv := conv_bytes hb2
  have hnm := code_IsName ⟨Y.1.toArray⟩ (by show Y.1.toArray.size ≤ 1000; simp; omega) w2 h2.tabs.tabs
  have K2 : Hid _ := K1.out.trans k2
  have H2 : Hid _ := h2
  clear htk h2 k2 hb2 hl
  go_wp2_with fail
  refine hnm.mono ?_
  rintro e w3 ⟨rfl, hb3⟩
  have hrq := rd_require (H2.out.later hb3) (isName ⟨Y.1.toArray⟩)
  have K3 : Hid _ := K2.out.trans (.of_below hb3 H2.out.lR)
  clear hnm hb3
  go_wp2_with fail
  refine hrq.mono ?_
  rintro e w4 ⟨rfl, h4, k4⟩
  have Q : Hid _ := And.intro h4 (K3.out.trans k4)
  clear hrq h4 k4
  go_wp2
  go_ret
  rw [HN.out]
  exact ⟨rfl, Q.out⟩
set_option maxRecDepth 1000000 in
theorem rd_number (h : RSt R w r) : Calls Tryz.prog 114 #[.pointer (some ⟨R, 0, none⟩)] w fun e w' => e = .returned (.int .i64 r.number.1) ∧ RSt R w' r.number.2 ∧ KR R w w' := by
  have htk := rd_take h 4 (by decide)
  clear h
  go_enter Tryz.func114, Tryz.ntmps114
  go_wp2_with fail
  refine htk.mono ?_
  rintro e w1 ⟨v1, rfl, h1, k1, hb1⟩
  have hl := RS.take_length r 4
  have HN : Hid (r.number = (num256 (r.take 4).1, (r.take 4).2.require (decide (num256 (r.take 4).1 < 1000000000)))) := rfl
  generalize r.take 4 = Y at *
  obtain ⟨ao, cp, rfl, hc⟩ := hb1
  obtain ⟨C, off, rfl, -⟩ := hc 0 _ (List.getElem?_eq_getElem (by omega))
  have H1 : Hid _ := And.intro h1 k1
  have HC : Hid (∀ (j : Nat) (b : UInt8), Y.1[j]? = some b → w1.cell? ⟨C, off + j, none⟩ = some (.int .u8 b.toNat)) := fun j b hj => by
    obtain ⟨C2, off2, e, h3⟩ := hc j b hj
    injection e with e
    injection e with e1 e2
    subst e1 e2
    exact h3
  clear htk h1 k1 hc
  rw [hl]
  go_wp2_with fail
  go_loopw [3, 9] (fun v3 v9 wr => ∃ j : Nat, v9 = .int .i64 j ∧ j ≤ 4 ∧ v3 = .int .i64 (num256 (Y.1.take j)) ∧ wr = w1) (fun _ v9 _ => 4 - (intOf v9).toNat)
  case atStart => exact ⟨0, rfl, by omega, rfl, rfl⟩
  case round =>
    obtain ⟨j, rfl, hj, rfl, rfl⟩ := hrel
    rcases Nat.lt_or_ge j 4 with hlt | hge
    · obtain ⟨b, hb⟩ : ∃ b, Y.1[j]? = some b := ⟨Y.1[j], List.getElem?_eq_getElem (by omega)⟩
      have c1 := HC.out j b hb
      have hlt2 : (j : Int) < 4 := by omega
      have HT : Hid (bits .or .i64 (wrap64 (num256 (Y.1.take j) * 256)) (wrap64 (b.toNat : Int)) = num256 (Y.1.take (j + 1))) := by
        show _ = _
        have q := num256_lt Y.1 j (by omega)
        have q2 : (256 : Int) ^ j ≤ 256 ^ 3 := by rcases (show j = 0 ∨ j = 1 ∨ j = 2 ∨ j = 3 by omega) with rfl | rfl | rfl | rfl <;> decide
        rw [num256_take hb, or_byte q.1 (by omega) b.toNat_lt]
      generalize num256 (Y.1.take j) = N at *
      clear hb
      go_wp2
      go_roundw
      case rel => exact ⟨j + 1, by go_num, by omega, by rw [HT.out], trivial⟩
      case measure => simp [intOf]; omega
    · have hge2 : ¬ (j : Int) < 4 := by omega
      have hj4 : j = 4 := by omega
      subst hj4
      have hall : Y.1.take 4 = Y.1 := List.take_of_length_le (by omega)
      rw [hall]
      have q := num256_lt Y.1 4 (by omega)
      rw [hall] at q
      have hfm := Tryz.strconv_FormatInt_10 (num256 Y.1) (by omega) (by omega) wr H1.out.1.tabs.pow
      have HI : Hid _ := itoa_len q.1
      clear hall q
      go_wp2_with fail
      refine hfm.mono ?_
      rintro e w2 ⟨rfl, kk, os, hw2⟩
      have hb2 : Below wr.heap.size wr w2 := by rw [hw2]; exact below_grow8 _ _ _
      have hrq := rd_require (H1.out.1.later hb2) (decide (((itoa (num256 Y.1)).length : Int) ≤ 9))
      have K2 : Hid _ := H1.out.2.trans (.of_below hb2 H1.out.1.lR)
      clear hfm hw2 hb2
      generalize (itoa (num256 Y.1)) = L at *
      go_wp2_with fail
      refine hrq.mono ?_
      rintro e w3 ⟨rfl, h3, k3⟩
      rw [HI.out] at h3
      have Q : Hid _ := And.intro h3 (K2.out.trans k3)
      clear hrq h3 k3
      go_wp2
      go_ret
      rw [HN.out]
      exact ⟨rfl, Q.out⟩
end
end Go.Proofs.YtihmgoahobbdkaaGreatDoor
