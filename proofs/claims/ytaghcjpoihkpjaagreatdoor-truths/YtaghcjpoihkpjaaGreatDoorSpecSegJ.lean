/-
  A TEXT THAT SITS IN ANOTHER ONE: its tokens stand there, further on; what is read of them is read there.
-/
import Derived.Test.YtaghcjpoihkpjaaGreatDoorJ2
namespace Go.Proofs.YtaghcjpoihkpjaaGreatDoor
open Go.Lib

/-- A text stands in another one from place o on. -/
structure Sits (s' s : ByteArray) (o : Nat) : Prop where
  le : o + s.size ≤ s'.size
  bytes : ∀ j, j < s.size → byteAt s' (o + j) = byteAt s j
/-- Nothing that a token could go on with stands there. -/
def TokEnds (s : ByteArray) (e : Nat) : Prop := e = s.size ∨ (e < s.size ∧ isSign (byteAt s e) = true)
theorem byteAt_getB (s : ByteArray) (i : Nat) : byteAt s i = s.get! i := by
  rw [← getD_get!']
  simp [byteAt, List.getD]
theorem sign_facts {b : UInt8} (h : isSign b = true) : b.toNat < 64 ∧ blank b = false ∧ isDig b = false ∧ b.toNat ≠ 101 ∧ b.toNat ≠ 33 ∧ b.toNat ≠ 97 ∧ b.toNat ≠ 110 := by
  simp [isSign] at h
  rcases h with ((((((((((h | h) | h) | h) | h) | h) | h) | h) | h) | h) | h) | h <;> subst h <;> decide
/-- A rune's bytes behind the first go on with it. -/
theorem decodeN_next (n b0 b1 b2 b3 : Nat) : (2 ≤ (decodeN n b0 b1 b2 b3).2 → b1 / 64 = 2) ∧ (3 ≤ (decodeN n b0 b1 b2 b3).2 → b2 / 64 = 2) ∧ (4 ≤ (decodeN n b0 b1 b2 b3).2 → b3 / 64 = 2) ∧ (decodeN n b0 b1 b2 b3).2 ≤ 4 := by
  unfold decodeN
  repeat' split
  all_goals (simp only; omega)
theorem decode_sits {s' s : ByteArray} {o i : Nat} (h : Sits s' s o) (he : TokEnds s' (o + s.size)) (hi : i < s.size) : Utf8.decode s' (o + i) = Utf8.decode s i := by
  rw [decode_at, decode_at]
  have hle := h.le
  have g : ∀ j, i + j < s.size → s'.get! (o + i + j) = s.get! (i + j) := fun j hj => by
    rw [← byteAt_getB, ← byteAt_getB, Nat.add_assoc, h.bytes _ hj]
  have g0 := g 0 (by omega)
  simp only [Nat.add_zero] at g0
  rw [g0]
  symm
  refine (decodeN_cut (s'.size - (o + i)) (s.size - i) _ _ _ _ _ _ _ (by omega) ?_ (fun h => ?_) (fun h => ?_) (fun h => ?_))
  · obtain ⟨c1, c2, c3, c4⟩ := decodeN_next (s'.size - (o + i)) (s.get! i).toNat (s'.get! (o + i + 1)).toNat (s'.get! (o + i + 2)).toNat (s'.get! (o + i + 3)).toNat
    have cl := decodeN_width_le (s'.size - (o + i)) (s.get! i).toNat (s'.get! (o + i + 1)).toNat (s'.get! (o + i + 2)).toNat (s'.get! (o + i + 3)).toNat (by omega)
    rcases he with he | ⟨he, hs⟩
    · omega
    · have hb := (sign_facts hs).1
      rw [byteAt_getB] at hb
      rcases Nat.lt_or_ge 3 (s.size - i) with h4 | h4
      · omega
      · have hcs : s.size - i = 1 ∨ s.size - i = 2 ∨ s.size - i = 3 := by omega
        rcases hcs with e | e | e
        · rw [show o + s.size = o + i + 1 by omega] at hb; omega
        · rw [show o + s.size = o + i + 2 by omega] at hb; omega
        · rw [show o + s.size = o + i + 3 by omega] at hb; omega
  · rw [g 1 (by omega)]
  · rw [g 2 (by omega)]
  · rw [g 3 (by omega)]
theorem skipFrom_sits {s' s : ByteArray} {o : Nat} (h : Sits s' s o) (he : TokEnds s' (o + s.size)) : ∀ f g i, s.size - i ≤ f → i ≤ s.size → skipFrom s' (f + g) (o + i) = o + skipFrom s f i
  | 0, g, i, h1, h2 => by
    obtain rfl : i = s.size := by omega
    simp only [Nat.zero_add, skipFrom]
    cases g with
    | zero => rfl
    | succ g =>
      rw [skipFrom, if_neg]
      rcases he with he | ⟨-, hs⟩
      · omega
      · simp [(sign_facts hs).2.1]
  | f + 1, g, i, h1, h2 => by
    rw [show f + 1 + g = f + g + 1 by omega, skipFrom, skipFrom]
    by_cases hi : i < s.size
    · have := h.le
      rw [h.bytes i hi]
      cases hb : blank (byteAt s i) with
      | true => rw [if_pos ⟨by omega, rfl⟩, if_pos ⟨hi, rfl⟩, Nat.add_assoc]; exact skipFrom_sits h he f g (i + 1) (by omega) (by omega)
      | false => rw [if_neg (by simp), if_neg (by simp)]
    · obtain rfl : i = s.size := by omega
      rw [if_neg (by rcases he with he | ⟨-, hs⟩; · omega
                     · simp [(sign_facts hs).2.1]), if_neg (by omega)]
theorem skip_sits {s' s : ByteArray} {o i : Nat} (h : Sits s' s o) (he : TokEnds s' (o + s.size)) (hi : i ≤ s.size) : skip s' (o + i) = o + skip s i := by
  unfold skip
  have hle := h.le
  rw [← skipFrom_sits h he (s.size - i) (s'.size - (o + i) - (s.size - i)) i (Nat.le_refl _) hi]
  congr 1
  omega
theorem digFrom_sits {s' s : ByteArray} {o : Nat} (h : Sits s' s o) (he : TokEnds s' (o + s.size)) : ∀ f g i, s.size - i ≤ f → i ≤ s.size → digFrom s' (f + g) (o + i) = o + digFrom s f i
  | 0, g, i, h1, h2 => by
    obtain rfl : i = s.size := by omega
    simp only [Nat.zero_add, digFrom]
    cases g with
    | zero => rfl
    | succ g =>
      rw [digFrom, if_neg]
      rcases he with he | ⟨-, hs⟩
      · omega
      · simp [(sign_facts hs).2.2.1]
  | f + 1, g, i, h1, h2 => by
    rw [show f + 1 + g = f + g + 1 by omega, digFrom, digFrom]
    by_cases hi : i < s.size
    · have := h.le
      rw [h.bytes i hi]
      cases hb : isDig (byteAt s i) with
      | true => rw [if_pos ⟨by omega, rfl⟩, if_pos ⟨hi, rfl⟩, Nat.add_assoc]; exact digFrom_sits h he f g (i + 1) (by omega) (by omega)
      | false => rw [if_neg (by simp), if_neg (by simp)]
    · obtain rfl : i = s.size := by omega
      rw [if_neg (by rcases he with he | ⟨-, hs⟩; · omega
                     · simp [(sign_facts hs).2.2.1]), if_neg (by omega)]
theorem digEnd_sits {s' s : ByteArray} {o i : Nat} (h : Sits s' s o) (he : TokEnds s' (o + s.size)) (hi : i ≤ s.size) : digEnd s' (o + i) = o + digEnd s i := by
  unfold digEnd
  have hle := h.le
  rw [← digFrom_sits h he (s.size - i) (s'.size - (o + i) - (s.size - i)) i (Nat.le_refl _) hi]
  congr 1
  omega
theorem decodeN_low {n b0 b1 b2 b3 : Nat} (h : b0 < 128) : decodeN n b0 b1 b2 b3 = (b0, 1) := by simp [decodeN, h]
theorem sign_noName {s : ByteArray} {e : Nat} (hs : isSign (byteAt s e) = true) (b : Bool) : namePart b (Utf8.decode s e).1 = false := by
  rw [decode_at, ← byteAt_getB, decodeN_low (by have := (sign_facts hs).1; omega)]
  simp [isSign] at hs
  rcases hs with ((((((((((h | h) | h) | h) | h) | h) | h) | h) | h) | h) | h) | h <;> rw [h] <;> cases b <;> decide
theorem wordFrom_sits {s' s : ByteArray} {o : Nat} (h : Sits s' s o) (he : TokEnds s' (o + s.size)) : ∀ f g i n, s.size - i ≤ f → i ≤ s.size → wordFrom s' (f + g) (o + i) n = (o + (wordFrom s f i n).1, (wordFrom s f i n).2)
  | 0, g, i, n, h1, h2 => by
    obtain rfl : i = s.size := by omega
    simp only [Nat.zero_add, wordFrom]
    cases g with
    | zero => rfl
    | succ g =>
      rw [wordFrom, if_neg]
      rcases he with he | ⟨-, hs⟩
      · omega
      · simp [sign_noName hs]
  | f + 1, g, i, n, h1, h2 => by
    rw [show f + 1 + g = f + g + 1 by omega, wordFrom, wordFrom]
    by_cases hi : i < s.size
    · have := h.le
      rw [decode_sits h he hi]
      have w1 := width_pos s i
      have w2 := decode_le hi
      cases hb : namePart (n == 0) (Utf8.decode s i).1 with
      | true => rw [if_pos ⟨by omega, rfl⟩, if_pos ⟨hi, rfl⟩, Nat.add_assoc]; exact wordFrom_sits h he f g _ (n + 1) (by omega) w2
      | false => rw [if_neg (by simp), if_neg (by simp)]
    · obtain rfl : i = s.size := by omega
      rw [if_neg (by rcases he with he | ⟨-, hs⟩; · omega
                     · simp [sign_noName hs]), if_neg (by omega)]
theorem wordEnd_sits {s' s : ByteArray} {o i : Nat} (h : Sits s' s o) (he : TokEnds s' (o + s.size)) (hi : i ≤ s.size) : wordEnd s' (o + i) = (o + (wordEnd s i).1, (wordEnd s i).2) := by
  unfold wordEnd
  have hle := h.le
  rw [← wordFrom_sits h he (s.size - i) (s'.size - (o + i) - (s.size - i)) i 0 (Nat.le_refl _) hi]
  congr 1
  omega
/-- A token further on. -/
def Tok.up (o : Nat) (t : Tok) : Tok := ⟨t.kind, o + t.pos, o + t.stop⟩
theorem tokAt_sits {s' s : ByteArray} {o i : Nat} (h : Sits s' s o) (he : TokEnds s' (o + s.size)) (hi : i < s.size) : tokAt s' (o + i) = (tokAt s i).up o := by
  have hle := h.le
  unfold tokAt
  rw [h.bytes i hi, digEnd_sits h he (by omega), wordEnd_sits h he (by omega), if_neg (show ¬ s'.size ≤ o + i by omega), if_neg (show ¬ s.size ≤ i by omega)]
  split
  · simp [Tok.up]; omega
  · by_cases hd : i < digEnd s i
    · rw [if_pos (by omega), if_pos hd, show o + digEnd s i - (o + i) = digEnd s i - i by omega]
      split <;> simp [Tok.up]
    · rw [if_neg (by omega), if_neg hd]
      dsimp only
      split <;> simp [Tok.up]
theorem tokAt_end (s : ByteArray) : tokAt s s.size = ⟨101, s.size, s.size⟩ := by simp [tokAt]
theorem tokAt_101 {s : ByteArray} {i : Nat} (h : (tokAt s i).kind = 101) : s.size ≤ i := by
  unfold tokAt at h
  split at h
  · assumption
  · split at h
    · rename_i hs
      exact absurd h (sign_facts hs).2.2.2.1
    · split at h
      · split at h <;> cases h
      · split at h <;> cases h
theorem toksAt_same {s : ByteArray} {i j : Nat} (hi : i ≤ s.size) (hj : j ≤ s.size) (e : tokFrom s i = tokFrom s j) : toksAt s i = toksAt s j := by
  cases h : (tokFrom s i).last with
  | true => rw [toksAt_last h, toksAt_last (e ▸ h), e]
  | false => rw [toksAt_cons hi h, toksAt_cons hj (e ▸ h), e]
theorem skip_ends {s : ByteArray} {e : Nat} (h : TokEnds s e) : skip s e = e := by
  rcases h with h | ⟨-, h⟩
  · rw [h, skip_end]
  · exact skip_here (sign_facts h).2.1
/-- The tokens of a text stand where it stands. -/
theorem toksAt_sits {s' s : ByteArray} {o : Nat} (h : Sits s' s o) (he : TokEnds s' (o + s.size)) : ∀ (l : List Tok) (i : Nat), i ≤ s.size → toksAt s i = l ++ [⟨101, s.size, s.size⟩] → toksAt s' (o + i) = l.map (Tok.up o) ++ toksAt s' (o + s.size)
  | [], i, hi, hl => by
    have hle := h.le
    simp only [List.nil_append] at hl
    have hk : (tokFrom s i).kind = 101 := by
      cases hb : (tokFrom s i).last with
      | true => rw [toksAt_last hb] at hl; injection hl with hl; rw [hl]
      | false =>
        rw [toksAt_cons hi hb] at hl
        injection hl with h1 h2
        rw [h1]
    have hs : skip s i = s.size := by
      have := tokAt_101 hk
      have := skip_le hi
      omega
    simp only [List.map_nil, List.nil_append]
    refine toksAt_same (by omega) hle ?_
    unfold tokFrom
    rw [skip_sits h he hi, hs, skip_ends he]
  | t :: l, i, hi, hl => by
    have hle := h.le
    cases hb : (tokFrom s i).last with
    | true => rw [toksAt_last hb] at hl; simp at hl
    | false =>
      rw [toksAt_cons hi hb] at hl
      simp only [List.cons_append] at hl
      injection hl with h1 h2
      have hst := tokFrom_stop hi hb
      have hsk := skip_le hi
      have hlt : skip s i < s.size := (tokAt_stop hsk.2 hb).2.2.1
      have e : tokFrom s' (o + i) = (tokFrom s i).up o := by
        unfold tokFrom
        rw [skip_sits h he hi, tokAt_sits h he hlt]
      have hb' : (tokFrom s' (o + i)).last = false := by rw [e]; exact hb
      rw [toksAt_cons (by omega) hb', e]
      simp only [List.map_cons, List.cons_append]
      rw [← h1]
      congr 1
      exact toksAt_sits h he l _ hst.2 h2
theorem toksAt_sign {s : ByteArray} {e : Nat} (he : e < s.size) (hs : isSign (byteAt s e) = true) : toksAt s e = ⟨(byteAt s e).toNat, e, e + 1⟩ :: toksAt s (e + 1) := by
  have ht : tokFrom s e = ⟨(byteAt s e).toNat, e, e + 1⟩ := by
    unfold tokFrom
    rw [skip_here (sign_facts hs).2.1]
    unfold tokAt
    rw [if_neg (by omega), if_pos hs]
  have hb : (tokFrom s e).last = false := by
    rw [ht]
    have := sign_facts hs
    simp [Tok.last]
    omega
  rw [toksAt_cons (by omega) hb, ht]
theorem toksAt_end (s : ByteArray) : toksAt s s.size = [⟨101, s.size, s.size⟩] := by
  have : tokFrom s s.size = ⟨101, s.size, s.size⟩ := by
    unfold tokFrom
    rw [skip_end, tokAt_end]
  rw [toksAt_last (by rw [this]; rfl), this]
theorem text_sits {s' s : ByteArray} {o : Nat} (h : Sits s' s o) {p q : Nat} (hq : q ≤ s.size) : s'.extract (o + p) (o + q) = s.extract p q := by
  apply ByteArray.ext
  simp only [ByteArray.data_extract]
  apply Array.ext_getElem?
  intro j
  have hle := h.le
  have e1 : s'.data.size = s'.size := rfl
  have e2 : s.data.size = s.size := rfl
  by_cases hj : j < q - p
  · have hb := h.bytes (p + j) (by omega)
    unfold byteAt at hb
    rw [Array.getElem?_extract, Array.getElem?_extract]
    rw [if_pos (by omega), if_pos (by omega)]
    rw [show o + p + j = o + (p + j) by omega]
    simp only [Array.getElem?_toList] at hb
    rw [Array.getElem?_eq_getElem (show o + (p + j) < s'.data.size by omega), Array.getElem?_eq_getElem (show p + j < s.data.size by omega)] at hb ⊢
    simpa using hb
  · rw [Array.getElem?_eq_none (by simp; omega), Array.getElem?_eq_none (by simp; omega)]
end Go.Proofs.YtaghcjpoihkpjaaGreatDoor
