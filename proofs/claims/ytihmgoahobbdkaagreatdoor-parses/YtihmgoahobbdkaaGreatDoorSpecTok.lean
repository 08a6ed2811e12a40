/-
  PLAIN FACTS ON TOKENS: how far each goes; a step more or less does nothing.
-/
import Derived.Test.YtihmgoahobbdkaaGreatDoorSpec
import Derived.Lib.TrimU
import Derived.Lib.QuoteLoop
namespace Go.Proofs.YtihmgoahobbdkaaGreatDoor
open Go.Lib

theorem decode_le {s : ByteArray} {i : Nat} (h : i < s.size) : i + (Utf8.decode s i).2 ≤ s.size := by
  rw [decode_at]
  have := decodeN_width_le (s.size - i) (s.get! i).toNat (s.get! (i + 1)).toNat (s.get! (i + 2)).toNat (s.get! (i + 3)).toNat (by omega)
  omega
/-- More steps than there are bytes do nothing. -/
theorem wordFrom_fuel (s : ByteArray) : ∀ (f g i n : Nat), s.size - i ≤ f → s.size - i ≤ g → wordFrom s f i n = wordFrom s g i n
  | 0, g, i, n, h, _ => by
    cases g with
    | zero => rfl
    | succ g => simp [wordFrom, show ¬ i < s.size by omega]
  | f + 1, 0, i, n, _, h => by simp [wordFrom, show ¬ i < s.size by omega]
  | f + 1, g + 1, i, n, hf, hg => by
    unfold wordFrom
    split
    · rename_i h
      have := width_pos s i
      exact wordFrom_fuel s f g _ _ (by omega) (by omega)
    · rfl
theorem wordFrom_le (s : ByteArray) : ∀ (f i n : Nat), i ≤ s.size → i ≤ (wordFrom s f i n).1 ∧ (wordFrom s f i n).1 ≤ s.size ∧ n ≤ (wordFrom s f i n).2 ∧ (n < (wordFrom s f i n).2 → i < (wordFrom s f i n).1) ∧ (wordFrom s f i n).2 - n ≤ (wordFrom s f i n).1 - i
  | 0, i, n, h => by simp [wordFrom]; exact h
  | f + 1, i, n, h => by
    unfold wordFrom
    split
    · rename_i hh
      have h1 := width_pos s i
      have h2 := decode_le hh.1
      have := wordFrom_le s f (i + (Utf8.decode s i).2) (n + 1) h2
      omega
    · simp; exact h
theorem digFrom_fuel (s : ByteArray) : ∀ (f g i : Nat), s.size - i ≤ f → s.size - i ≤ g → digFrom s f i = digFrom s g i
  | 0, g, i, h, _ => by
    cases g with
    | zero => rfl
    | succ g => simp [digFrom, show ¬ i < s.size by omega]
  | f + 1, 0, i, _, h => by simp [digFrom, show ¬ i < s.size by omega]
  | f + 1, g + 1, i, hf, hg => by
    unfold digFrom
    split
    · exact digFrom_fuel s f g _ (by omega) (by omega)
    · rfl
theorem digFrom_le (s : ByteArray) : ∀ (f i : Nat), i ≤ s.size → i ≤ digFrom s f i ∧ digFrom s f i ≤ s.size
  | 0, i, h => by simp [digFrom]; exact h
  | f + 1, i, h => by
    unfold digFrom
    split
    · have := digFrom_le s f (i + 1) (by omega)
      omega
    · exact ⟨Nat.le_refl _, h⟩
theorem skipFrom_fuel (s : ByteArray) : ∀ (f g i : Nat), s.size - i ≤ f → s.size - i ≤ g → skipFrom s f i = skipFrom s g i
  | 0, g, i, h, _ => by
    cases g with
    | zero => rfl
    | succ g => simp [skipFrom, show ¬ i < s.size by omega]
  | f + 1, 0, i, _, h => by simp [skipFrom, show ¬ i < s.size by omega]
  | f + 1, g + 1, i, hf, hg => by
    unfold skipFrom
    split
    · exact skipFrom_fuel s f g _ (by omega) (by omega)
    · rfl
theorem skipFrom_le (s : ByteArray) : ∀ (f i : Nat), i ≤ s.size → i ≤ skipFrom s f i ∧ skipFrom s f i ≤ s.size
  | 0, i, h => by simp [skipFrom]; exact h
  | f + 1, i, h => by
    unfold skipFrom
    split
    · have := skipFrom_le s f (i + 1) (by omega)
      omega
    · exact ⟨Nat.le_refl _, h⟩
theorem skip_le {s : ByteArray} {i : Nat} (h : i ≤ s.size) : i ≤ skip s i ∧ skip s i ≤ s.size := skipFrom_le s _ i h
theorem digEnd_le {s : ByteArray} {i : Nat} (h : i ≤ s.size) : i ≤ digEnd s i ∧ digEnd s i ≤ s.size := digFrom_le s _ i h
theorem skip_blank {s : ByteArray} {i : Nat} (h : i < s.size) (hb : blank (byteAt s i) = true) : skip s i = skip s (i + 1) := by
  unfold skip
  obtain ⟨f, hf⟩ : ∃ f, s.size - i = f + 1 := ⟨s.size - i - 1, by omega⟩
  rw [hf, skipFrom, if_pos ⟨h, hb⟩]
  exact skipFrom_fuel s _ _ _ (by omega) (by omega)
theorem skip_here {s : ByteArray} {i : Nat} (hb : blank (byteAt s i) = false) : skip s i = i := by
  unfold skip
  cases h : s.size - i with
  | zero => rfl
  | succ f => rw [skipFrom, if_neg (by simp [hb])]
theorem skip_end (s : ByteArray) : skip s s.size = s.size := by unfold skip; rw [Nat.sub_self]; rfl

/-- A token that is not the last one goes on by a byte at least. -/
theorem tokAt_stop {s : ByteArray} {i : Nat} (hi : i ≤ s.size) (h : (tokAt s i).last = false) : i < (tokAt s i).stop ∧ (tokAt s i).stop ≤ s.size ∧ i < s.size ∧ (tokAt s i).pos = i := by
  revert h
  unfold tokAt
  have h1 := digEnd_le hi
  have h2 := wordFrom_le s (s.size - i) i 0 hi
  repeat' split
  all_goals simp only [Tok.last] <;> simp
  · intro _; omega
  · omega
  · rename_i h3; unfold wordEnd at h3 ⊢; omega
theorem tokFrom_stop {s : ByteArray} {i : Nat} (hi : i ≤ s.size) (h : (tokFrom s i).last = false) : i < (tokFrom s i).stop ∧ (tokFrom s i).stop ≤ s.size := by
  have h1 := skip_le hi
  have := tokAt_stop h1.2 h
  unfold tokFrom
  omega
theorem toksFrom_fuel (s : ByteArray) : ∀ (f g i : Nat), i ≤ s.size → s.size - i ≤ f → s.size - i ≤ g → toksFrom s f i = toksFrom s g i := by
  have last : ∀ f, toksFrom s f s.size = [tokFrom s s.size] := by
    intro f
    have h : (tokFrom s s.size).last = true := by
      unfold tokFrom
      rw [skip_end]
      simp [tokAt, Tok.last]
    cases f with
    | zero => rfl
    | succ f => rw [toksFrom, if_pos h]
  intro f
  induction f with
  | zero =>
    intro g i hi h _
    obtain rfl : i = s.size := by omega
    rw [last, last]
  | succ f ih =>
    intro g i hi hf hg
    cases g with
    | zero =>
      obtain rfl : i = s.size := by omega
      rw [last, last]
    | succ g =>
      rw [toksFrom, toksFrom]
      cases h : (tokFrom s i).last with
      | true => rfl
      | false =>
        have := tokFrom_stop hi h
        simp only [Bool.false_eq_true, if_false]
        rw [ih g _ this.2 (by omega) (by omega)]
/-- The tokens from place i on. -/
def toksAt (s : ByteArray) (i : Nat) : List Tok := toksFrom s (s.size - i) i
theorem toks_at (s : ByteArray) : toks s = toksAt s 0 := rfl
theorem toksAt_last {s : ByteArray} {i : Nat} (h : (tokFrom s i).last = true) : toksAt s i = [tokFrom s i] := by
  unfold toksAt
  cases s.size - i with
  | zero => rfl
  | succ f => rw [toksFrom, if_pos h]
theorem toksAt_cons {s : ByteArray} {i : Nat} (hi : i ≤ s.size) (h : (tokFrom s i).last = false) : toksAt s i = tokFrom s i :: toksAt s (tokFrom s i).stop := by
  have h1 := tokFrom_stop hi h
  unfold toksAt
  obtain ⟨f, hf⟩ : ∃ f, s.size - i = f + 1 := ⟨s.size - i - 1, by omega⟩
  rw [hf, toksFrom, h]
  simp only [Bool.false_eq_true, if_false]
  rw [toksFrom_fuel s f _ _ h1.2 (by omega) (Nat.le_refl _)]
theorem toksAt_blank {s : ByteArray} {i : Nat} (hi : i < s.size) (hb : blank (byteAt s i) = true) : toksAt s i = toksAt s (i + 1) := by
  have e : tokFrom s i = tokFrom s (i + 1) := by unfold tokFrom; rw [skip_blank hi hb]
  cases h : (tokFrom s i).last with
  | true => rw [toksAt_last h, toksAt_last (e ▸ h), e]
  | false =>
    have h' : (tokFrom s (i + 1)).last = false := e ▸ h
    rw [toksAt_cons (i := i) (by omega) h, toksAt_cons (i := i + 1) (by omega) h', e]
end Go.Proofs.YtihmgoahobbdkaaGreatDoor
