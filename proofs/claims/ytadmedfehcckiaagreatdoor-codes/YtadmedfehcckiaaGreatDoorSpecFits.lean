/-
  TREES THAT ARE READ FIT IN THE CODE.
-/
import Derived.Test.YtadmedfehcckiaaGreatDoorSpecFine
import Derived.Test.YtadmedfehcckiaaGreatDoorSpecCode
import Derived.Test.YtadmedfehcckiaaGreatDoorSpecRun
namespace Go.Proofs.YtadmedfehcckiaaGreatDoor
open Go.Lib

theorem fits_append : ∀ a b, FitAll (a ++ b) ↔ FitAll a ∧ FitAll b
  | [], b => by simp [FitAll]
  | t :: a, b => by simp [FitAll, fits_append a b, and_assoc]
theorem sizes_append : ∀ a b, sizes (a ++ b) = sizes a + sizes b
  | [], b => by simp [sizes]
  | t :: a, b => by simp [sizes, sizes_append a b]; omega
theorem sizes_length : ∀ ts : List Tree, ts.length ≤ sizes ts
  | [] => by simp [sizes]
  | t :: ts => by have := sizes_length ts; have := size_pos t; simp [sizes]; omega
set_option maxHeartbeats 4000000 in
theorem D.fits {s : ByteArray} {L : List Tok} (hn : ∀ I, kd L I = 97 → isName (tx s L I) = true ∧ (tx s L I).size < 256) (hd : ∀ I, kd L I = 110 → 0 ≤ numOf (tx s L I).data.toList ∧ numOf (tx s L I).data.toList < 1000000000) (hp : ∀ I, kd L I ≠ 101 → pl L I < 200)
    {v : Lvl} {I : Nat} {o : Out} (h : D s L v I o) : I ≤ o.at ∧ (o.at ≤ 250 → FitAll v.got → FitAll o.trees ∧ (o.isOk = true → sizes o.trees + I ≤ sizes v.got + o.at)) := by
  have hl := sizes_length
  induction h <;> simp only [Out.at, Out.isOk, Out.trees, Lvl.got, FitAll, fits_append, sizes, sizes_append, Fit, size, isReck] at * <;> grind

theorem word_sub (s : ByteArray) (i : Nat) : ∀ f k n g, i ≤ k → k ≤ s.size → s.size - k ≤ f → f ≤ g → wordFrom (s.extract i (wordFrom s f k n).1) g (k - i) n = ((wordFrom s f k n).1 - i, (wordFrom s f k n).2)
  | 0, k, n, g, h1, h2, h3, h4 => by
    have hsz : (s.extract i k).size = k - i := by simp; omega
    simp only [wordFrom]
    cases g with
    | zero => simp [wordFrom]
    | succ g =>
      unfold wordFrom
      rw [if_neg (by rw [hsz]; omega)]
  | f + 1, k, n, 0, h1, h2, h3, h4 => by omega
  | f + 1, k, n, g + 1, h1, h2, h3, h4 => by
    rw [show wordFrom s (f + 1) k n = if k < s.size ∧ namePart (n == 0) (Utf8.decode s k).1 = true then wordFrom s f (k + (Utf8.decode s k).2) (n + 1) else (k, n) from by rw [wordFrom]]
    split
    · rename_i hh
      have w1 := width_pos s k
      have w2 := decode_le hh.1
      have hl := wordFrom_le s f (k + (Utf8.decode s k).2) (n + 1) w2
      have ih := word_sub s i f (k + (Utf8.decode s k).2) (n + 1) g (by omega) w2 (by omega) (by omega)
      generalize hE : (wordFrom s f (k + (Utf8.decode s k).2) (n + 1)).1 = e at *
      have hsz : (s.extract i e).size = e - i := by simp; omega
      have hx : s.extract i e = (s.extract i s.size).extract 0 (e - i) := (extract_sub s i e hl.2.1 (by omega)).symm
      have hd : Utf8.decode (s.extract i e) (k - i) = Utf8.decode s k := by
        have e1 : Utf8.decode (s.extract i s.size) (k - i) = Utf8.decode s k := by rw [tail_decode]; congr 1; omega
        rw [hx, decode_head (s.extract i s.size) (e - i) (k - i) (by rw [tail_size]; omega) (by omega) (by rw [e1]; omega), e1]
      conv => lhs; rw [wordFrom]
      rw [hd, hsz, if_pos ⟨by omega, hh.2⟩, show k - i + (Utf8.decode s k).2 = k + (Utf8.decode s k).2 - i by omega]
      exact ih
    · have hsz : (s.extract i k).size = k - i := by simp; omega
      unfold wordFrom
      rw [if_neg (by rw [hsz]; omega)]
theorem byteAt_sub {s : ByteArray} {i e : Nat} (h : i < e) (_he : e ≤ s.size) : byteAt (s.extract i e) 0 = byteAt s i := by
  unfold byteAt
  simp [ByteArray.data_extract]
  rw [List.getElem?_take_of_lt (by omega)]
  simp
theorem tok_name {s : ByteArray} {i : Nat} (hi : i ≤ s.size) (h : (tokAt s i).kind = 97) : isName ((tokAt s i).text s) = true ∧ ((tokAt s i).text s).size ≤ s.size := by
  unfold tokAt at h ⊢
  split at h
  · cases h
  rename_i h1
  rw [if_neg h1]
  split at h
  · rename_i h2
    have h' : (byteAt s i).toNat = 97 := h
    have e : byteAt s i = 97 := UInt8.toNat_inj.1 h'
    rw [e] at h2
    exact absurd h2 (by decide)
  rename_i h2
  rw [if_neg h2]
  split at h
  · split at h <;> cases h
  rename_i h3
  rw [if_neg h3]
  split at h
  · cases h
  rename_i h4
  rw [if_neg h4]
  have hl := wordFrom_le s (s.size - i) i 0 hi
  have hlt := hl.2.2.2.1 (by have : ¬ (wordEnd s i).2 = 0 := fun e => h4 (.inl e); unfold wordEnd at this; omega)
  have hw := word_sub s i (s.size - i) i 0 (s.size - i) (Nat.le_refl _) hi (Nat.le_refl _) (Nat.le_refl _)
  change isName (s.extract i (wordEnd s i).1) = true ∧ (s.extract i (wordEnd s i).1).size ≤ s.size
  have hsz : (s.extract i (wordEnd s i).1).size = (wordEnd s i).1 - i := by have : (wordEnd s i).1 ≤ s.size := hl.2.1; simp; omega
  refine ⟨?_, by have : (wordEnd s i).1 ≤ s.size := hl.2.1; omega⟩
  have hpos : i < (wordEnd s i).1 := hlt
  have hle : (wordEnd s i).1 ≤ s.size := hl.2.1
  have hb := byteAt_sub hpos hle
  have h3' : isDig (byteAt s i) = false := by
    cases e : isDig (byteAt s i) with
    | false => rfl
    | true =>
      exfalso
      apply h3
      unfold digEnd
      obtain ⟨f, hf⟩ : ∃ f, s.size - i = f + 1 := ⟨s.size - i - 1, by omega⟩
      rw [hf, digFrom, if_pos ⟨by omega, e⟩]
      have := digFrom_le s f (i + 1) (by omega)
      omega
  have hw2 : wordEnd (s.extract i (wordEnd s i).1) 0 = ((wordEnd s i).1 - i, (wordEnd s i).2) := by
    have e1 := wordFrom_fuel (s.extract i (wordEnd s i).1) (s.size - i) ((s.extract i (wordEnd s i).1).size - 0) 0 0 (by rw [hsz]; omega) (Nat.le_refl _)
    rw [Nat.sub_self] at hw
    exact e1.symm.trans hw
  have hd0 : digEnd (s.extract i (wordEnd s i).1) 0 = 0 := by
    unfold digEnd
    obtain ⟨f, hf⟩ : ∃ f, (s.extract i (wordEnd s i).1).size - 0 = f + 1 := ⟨(s.extract i (wordEnd s i).1).size - 0 - 1, by omega⟩
    rw [hf, digFrom, if_neg (by rw [hb, h3']; simp)]
  unfold isName tokAt
  rw [hb, hw2, hd0, hsz, if_neg (by omega), if_neg h2, if_neg (by omega), if_neg h4]
  simp
theorem toks_all {s : ByteArray} (P : Tok → Prop) (hP : ∀ i, i ≤ s.size → P (tokAt s i)) {I : Nat} (hI : I < (toks s).length) : P ((toks s).getD I default) :=
  toksAt_all s P hP s.size 0 (by omega) (by omega) _ (by
    rw [List.getD_eq_getElem?_getD, List.getElem?_eq_getElem hI]
    exact List.getElem_mem hI)
/-- What Parse reads fits in the code. -/
theorem read_fits {s : ByteArray} (hs : s.size ≤ 200) {t : Tree} {J : Nat} (h : D s (toks s) .choice 0 (.ok [t] J)) (hJ : kd (toks s) J = 101) : Fit t ∧ size t ≤ 200 := by
  have hlt := kd_lt hJ (by decide)
  have hlen := toks_length s
  have q := D.fits (s := s) (L := toks s) (fun I hk => by
      have := toks_all (s := s) (fun t => t.kind = 97 → isName (t.text s) = true ∧ (t.text s).size ≤ s.size) (fun i hi h => tok_name hi h) (kd_lt hk (by decide)) hk
      exact ⟨this.1, Nat.lt_of_le_of_lt this.2 (by omega)⟩)
    (fun I hk => by
      have hg : Digits (tx s (toks s) I) := toks_good s I (kd_lt hk (by decide)) hk
      have := numOf_lt hg.1 _ (Nat.le_refl _)
      have h9 := pow9 (k := (tx s (toks s) I).size) hg.2
      rw [List.take_of_length_le (by simp)] at this
      omega)
    (fun I hk => by
      by_cases hI : I < (toks s).length
      · have := toks_all (s := s) (fun t => t.kind ≠ 101 → t.pos < s.size) (fun i hi h => by
          unfold tokAt at h ⊢
          split at h
          · exact absurd rfl h
          · (repeat' split) <;> simp <;> omega) hI hk
        exact Nat.lt_of_lt_of_le this hs
      · unfold pl
        rw [List.getD_eq_getElem?_getD, List.getElem?_eq_none (by omega)]
        decide) h
  have q2 := q.2 (by simp only [Out.at]; omega) (by simp [Lvl.got, FitAll])
  simp only [Out.trees, FitAll, Out.isOk, sizes, Lvl.got, Out.at] at q2
  exact ⟨q2.1.1, by have := q2.2 trivial; omega⟩
end Go.Proofs.YtadmedfehcckiaaGreatDoor
