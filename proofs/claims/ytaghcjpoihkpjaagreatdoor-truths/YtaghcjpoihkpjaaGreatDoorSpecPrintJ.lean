/-
  HOW A TREE IS WRITTEN, and that what is written is read again: to the same tree, but for its places.
-/
import Derived.Test.YtaghcjpoihkpjaaGreatDoorSpecTruJ
namespace Go.Proofs.YtaghcjpoihkpjaaGreatDoor
open Go.Lib

mutual
/-- A tree as pieces of a text. -/
def prP : Tree → List Piece
  | .num _ n => [.num n.toNat]
  | .neg _ a => .sign 40 :: .sign 45 :: (prP a ++ [.sign 41])
  | .bin k _ a b => .sign 40 :: (prP a ++ .sign (UInt8.ofNat k) :: (prP b ++ [.sign 41]))
  | .ite _ a b c => .sign 40 :: (prP a ++ .sign 63 :: (prP b ++ .sign 58 :: (prP c ++ [.sign 41])))
  | .meas _ w m n => [.word w, .sign 40, .word m, .sign 44, .num n.toNat, .sign 41]
  | .probe _ w ts => .word w :: .sign 40 :: (prA ts ++ [.sign 41])
/-- Several, with commas between. -/
def prA : List Tree → List Piece
  | [] => []
  | t :: ts => prP t ++ prB ts
def prB : List Tree → List Piece
  | [] => []
  | t :: ts => .sign 44 :: (prP t ++ prB ts)
end
mutual
/-- A tree without places. -/
def strip : Tree → Tree
  | .num _ n => .num 0 n
  | .neg _ a => .neg 0 (strip a)
  | .bin k _ a b => .bin k 0 (strip a) (strip b)
  | .ite _ a b c => .ite 0 (strip a) (strip b) (strip c)
  | .meas _ w m n => .meas 0 w m n
  | .probe _ w ts => .probe 0 w (strips ts)
def strips : List Tree → List Tree
  | [] => []
  | t :: ts => strip t :: strips ts
end
theorem strips_append : ∀ a b, strips (a ++ b) = strips a ++ strips b
  | [], b => by simp [strips]
  | t :: a, b => by simp [strips, strips_append a b]
mutual
theorem prP_strip : ∀ t, prP (strip t) = prP t
  | .num _ _ => by simp [strip, prP]
  | .neg _ a => by simp [strip, prP, prP_strip a]
  | .bin _ _ a b => by simp [strip, prP, prP_strip a, prP_strip b]
  | .ite _ a b c => by simp [strip, prP, prP_strip a, prP_strip b, prP_strip c]
  | .meas _ _ _ _ => by simp [strip, prP]
  | .probe _ _ ts => by simp [strip, prP, prA_strip ts]
theorem prA_strip : ∀ ts, prA (strips ts) = prA ts
  | [] => by simp [strips, prA]
  | t :: ts => by simp [strips, prA, prP_strip t, prB_strip ts]
theorem prB_strip : ∀ ts, prB (strips ts) = prB ts
  | [] => by simp [strips, prB]
  | t :: ts => by simp [strips, prB, prP_strip t, prB_strip ts]
end
theorem prP_of_strip {t t' : Tree} (h : strip t = strip t') : prP t = prP t' := by rw [← prP_strip t, h, prP_strip]
theorem reck_sign {k : Nat} (h : isReck k = true ∨ k = 47) : isSign (UInt8.ofNat k) = true ∧ (UInt8.ofNat k).toNat = k := by
  simp [isReck] at h
  rcases h with (((((h | h) | h) | h) | h) | h) | h <;> subst h <;> decide
mutual
theorem pgood_pr : ∀ t ps, Fit t → pgood ps → noNum ps → pgood (prP t ++ ps)
  | .num _ n, ps, hf, hg, hh => by
    unfold Fit at hf
    exact ⟨by omega, hh, hg⟩
  | .neg _ a, ps, hf, hg, _ => by
    unfold Fit at hf
    simp only [prP, List.cons_append, List.append_assoc, List.nil_append]
    exact ⟨by decide, by decide, pgood_pr a _ hf ⟨by decide, hg⟩ trivial⟩
  | .bin k _ a b, ps, hf, hg, _ => by
    unfold Fit at hf
    simp only [prP, List.cons_append, List.append_assoc, List.nil_append]
    exact ⟨by decide, pgood_pr a _ hf.2.2.1 ⟨(reck_sign hf.1).1, pgood_pr b _ hf.2.2.2 ⟨by decide, hg⟩ trivial⟩ trivial⟩
  | .ite _ a b c, ps, hf, hg, _ => by
    unfold Fit at hf
    simp only [prP, List.cons_append, List.append_assoc, List.nil_append]
    exact ⟨by decide, pgood_pr a _ hf.1 ⟨by decide, pgood_pr b _ hf.2.1 ⟨by decide, pgood_pr c _ hf.2.2 ⟨by decide, hg⟩ trivial⟩ trivial⟩ trivial⟩
  | .meas _ w m n, ps, hf, hg, _ => by
    unfold Fit at hf
    simp only [prP, List.cons_append, List.nil_append]
    exact ⟨hf.2.1, trivial, by decide, hf.2.2.2.2.1, trivial, by decide, by omega, trivial, by decide, hg⟩
  | .probe _ w ts, ps, hf, hg, _ => by
    unfold Fit at hf
    simp only [prP, List.cons_append, List.append_assoc, List.nil_append]
    refine ⟨hf.2.1, trivial, by decide, ?_⟩
    have h41 : pgood (.sign 41 :: ps) := ⟨by decide, hg⟩
    cases ts with
    | nil => exact h41
    | cons t ts =>
      have hfa := hf.2.2.2.2.2
      unfold FitAll at hfa
      simp only [prA, List.append_assoc]
      have := pgood_prB ts _ hfa.2 h41 trivial
      exact pgood_pr t _ hfa.1 this.1 this.2
theorem pgood_prB : ∀ ts ps, FitAll ts → pgood ps → noNum ps → pgood (prB ts ++ ps) ∧ noNum (prB ts ++ ps)
  | [], ps, _, hg, hh => ⟨hg, hh⟩
  | t :: ts, ps, hf, hg, hh => by
    unfold FitAll at hf
    simp only [prB, List.cons_append, List.append_assoc]
    have := pgood_prB ts ps hf.2 hg hh
    exact ⟨⟨by decide, pgood_pr t _ hf.1 this.1 this.2⟩, trivial⟩
end
/-- Read, somewhere, to the same tree but for its places. -/
def Got (S : ByteArray) (v : Lvl) (k : Nat) (t : Tree) (J : Nat) : Prop := ∃ t', D S (toks S) v k (.ok [t'] J) ∧ strip t' = strip t
section
variable {S : ByteArray}
/-- Nothing goes on there. -/
def Closer (S : ByteArray) (J : Nat) : Prop := kd (toks S) J = 41 ∨ kd (toks S) J = 58 ∨ kd (toks S) J = 44 ∨ kd (toks S) J = 101
theorem Got.choice {k J : Nat} {t : Tree} (h : Got S .minus k t J) (hc : Closer S J) : Got S .choice k t J := by
  obtain ⟨t', d, e⟩ := h
  refine ⟨t', d.toChoice ?_ ?_ ?_, e⟩
  · unfold Closer at hc; unfold NoSum; omega
  · unfold Closer at hc; omega
  · unfold Closer at hc; omega
/-- With what a part begins. -/
theorem D.minus_start {L : List Tok} {k J : Nat} {t : Tree} (h : D S L .minus k (.ok [t] J)) : kd L k ≠ 41 ∧ True := by
  refine ⟨?_, trivial⟩
  cases h <;> omega
mutual
theorem read_pr : ∀ (t : Tree) (pre : ByteArray) (k : Nat) (ps : List Piece), Fit t → Cur S pre k (prP t ++ ps) → ∃ J pre', Got S .minus k t J ∧ Cur S pre' J ps
  | .num p n, pre, k, ps, hf, h => by
    unfold Fit at hf
    obtain ⟨k1, k2, k3, h⟩ := h.digits
    have d := D.nuGo (s := S) (L := toks S) k1
    rw [k3] at d
    exact ⟨_, _, ⟨_, d, by simp only [strip]; congr 1; omega⟩, h⟩
  | .neg p a, pre, k, ps, hf, h => by
    unfold Fit at hf
    simp only [prP, List.cons_append, List.append_assoc, List.nil_append] at h
    obtain ⟨k0, h⟩ := h.sign
    obtain ⟨k1, h⟩ := h.sign
    obtain ⟨J, pre', ⟨t1, d1, e1⟩, h⟩ := read_pr a _ _ _ hf h
    obtain ⟨k2, h⟩ := h.sign
    have k2 : kd (toks S) J = 41 := k2
    have d2 := D.ngGo (s := S) (L := toks S) k1 d1
    exact ⟨_, _, ⟨_, D.paGo (s := S) (L := toks S) k0 (d2.toChoice (by rw [k2]; unfold NoSum; decide) (by rw [k2]; decide) (by rw [k2]; decide)) k2, by simp only [strip, e1]⟩, h⟩
  | .bin c p a b, pre, k, ps, hf, h => by
    unfold Fit at hf
    simp only [prP, List.cons_append, List.append_assoc, List.nil_append] at h
    obtain ⟨k0, h⟩ := h.sign
    obtain ⟨J, pre', ⟨t1, d1, e1⟩, h⟩ := read_pr a _ _ _ hf.2.2.1 h
    obtain ⟨k1, h⟩ := h.sign
    rw [(reck_sign hf.1).2] at k1
    obtain ⟨J2, pre2, ⟨t2, d2, e2⟩, h⟩ := read_pr b _ _ _ hf.2.2.2 h
    obtain ⟨k2, h⟩ := h.sign
    have k2 : kd (toks S) J2 = 41 := k2
    have main : D S (toks S) .choice (k + 1) (.ok [.bin c (pl (toks S) J) t1 t2] J2) := by
      have hc := hf.1
      simp [isReck] at hc
      by_cases hp : c = 42 ∨ c = 47
      · have r := D.prGo (s := S) (L := toks S) d1 (.ptGo (by rw [k1]; exact hp) d2 (.ptEnd (by rw [k2]; decide)))
        rw [k1] at r
        exact .chOne (.cmOne (.suGo r (.stEnd (by rw [k2]; decide))) (by rw [k2]; decide)) (by rw [k2]; decide)
      · by_cases hs : c = 43 ∨ c = 45
        · have r := D.suGo (s := S) (L := toks S) (.prGo d1 (.ptEnd (by rw [k1]; exact hp))) (.stGo (by rw [k1]; exact hs) (.prGo d2 (.ptEnd (by rw [k2]; decide))) (.stEnd (by rw [k2]; decide)))
          rw [k1] at r
          exact .chOne (.cmOne r (by rw [k2]; decide)) (by rw [k2]; decide)
        · have r := D.cmTwo (s := S) (L := toks S) (d1.toSum (by rw [k1]; exact ⟨hp, hs⟩)) (by rw [k1]; omega) (d2.toSum (by rw [k2]; unfold NoSum; decide))
          rw [k1] at r
          exact .chOne r (by rw [k2]; decide)
    exact ⟨_, _, ⟨_, D.paGo (s := S) (L := toks S) k0 main k2, by simp only [strip, e1, e2]⟩, h⟩
  | .ite p a b c, pre, k, ps, hf, h => by
    unfold Fit at hf
    simp only [prP, List.cons_append, List.append_assoc, List.nil_append] at h
    obtain ⟨k0, h⟩ := h.sign
    obtain ⟨J, pre', ⟨t1, d1, e1⟩, h⟩ := read_pr a _ _ _ hf.1 h
    obtain ⟨k1, h⟩ := h.sign
    have k1 : kd (toks S) J = 63 := k1
    obtain ⟨J2, pre2, g2, h⟩ := read_pr b _ _ _ hf.2.1 h
    obtain ⟨k2, h⟩ := h.sign
    have k2 : kd (toks S) J2 = 58 := k2
    obtain ⟨t2, d2, e2⟩ := g2.choice (.inr (.inl k2))
    obtain ⟨J3, pre3, g3, h⟩ := read_pr c _ _ _ hf.2.2 h
    obtain ⟨k3, h⟩ := h.sign
    have k3 : kd (toks S) J3 = 41 := k3
    obtain ⟨t3, d3, e3⟩ := g3.choice (.inl k3)
    have r := D.chIf (s := S) (L := toks S) ((d1.toSum (by rw [k1]; unfold NoSum; decide)).toCompare (by rw [k1]; decide)) k1 d2 k2 d3
    exact ⟨_, _, ⟨_, D.paGo (s := S) (L := toks S) k0 r k3, by simp only [strip, e1, e2, e3]⟩, h⟩
  | .meas p w m n, pre, k, ps, hf, h => by
    unfold Fit at hf
    simp only [prP, List.cons_append, List.nil_append] at h
    obtain ⟨k0, -, t0, h⟩ := h.word
    obtain ⟨k1, h⟩ := h.sign
    obtain ⟨k2, -, t2, h⟩ := h.word
    obtain ⟨k3, h⟩ := h.sign
    obtain ⟨k4, -, t4, h⟩ := h.digits
    obtain ⟨k5, h⟩ := h.sign
    have d := D.meGo (s := S) (L := toks S) k0 k1 (by rw [t0]; exact hf.2.2.2.1) k2 k3 k4 k5
    rw [t0, t2, t4] at d
    exact ⟨_, _, ⟨_, d, by simp only [strip]; congr 1; omega⟩, h⟩
  | .probe p w ts, pre, k, ps, hf, h => by
    unfold Fit at hf
    simp only [prP, List.cons_append, List.append_assoc, List.nil_append] at h
    obtain ⟨k0, -, t0, h⟩ := h.word
    obtain ⟨k1, h⟩ := h.sign
    cases ts with
    | nil =>
      obtain ⟨k2, h⟩ := h.sign
      have d := D.pbNone (s := S) (L := toks S) k0 k1 (by rw [t0]; exact hf.2.2.2.1) k2
      rw [t0] at d
      exact ⟨_, _, ⟨_, d, by simp only [strip, strips]⟩, h⟩
    | cons t ts =>
      have hfa := hf.2.2.2.2.2
      unfold FitAll at hfa
      simp only [prA, List.append_assoc] at h
      obtain ⟨J, pre', g, h⟩ := read_pr t _ _ _ hfa.1 h
      obtain ⟨J2, pre2, ts', dd, e, k2, h⟩ := read_prB ts [] _ t _ _ _ hfa.2 g h
      have hne : kd (toks S) (k + 1 + 1) ≠ 41 := by
        obtain ⟨t1, d1, -⟩ := g
        exact d1.minus_start.1
      have d := D.pbGo (s := S) (L := toks S) k0 k1 (by rw [t0]; exact hf.2.2.2.1) hne dd k2
      rw [t0] at d
      exact ⟨_, _, ⟨_, d, by simp only [strip]; rw [e]; rfl⟩, h⟩
theorem read_prB : ∀ (ts : List Tree) (acc : List Tree) (k : Nat) (t : Tree) (J : Nat) (pre : ByteArray) (ps : List Piece), FitAll ts → Got S .minus k t J → Cur S pre J (prB ts ++ .sign 41 :: ps) →
    ∃ J2 pre2 ts', D S (toks S) (.args acc) k (.ok ts' J2) ∧ strips ts' = strips (acc ++ t :: ts) ∧ kd (toks S) J2 = 41 ∧ Cur S pre2 (J2 + 1) ps
  | [], acc, k, t, J, pre, ps, _, g, h => by
    obtain ⟨k1, h⟩ := h.sign
    have k1 : kd (toks S) J = 41 := k1
    obtain ⟨t1, d1, e1⟩ := g.choice (.inl k1)
    exact ⟨_, _, _, .arEnd d1 (by rw [k1]; decide), by simp [strips_append, strips, e1], k1, h⟩
  | u :: ts, acc, k, t, J, pre, ps, hf, g, h => by
    unfold FitAll at hf
    simp only [prB, List.cons_append, List.append_assoc] at h
    obtain ⟨k1, h⟩ := h.sign
    have k1 : kd (toks S) J = 44 := k1
    obtain ⟨t1, d1, e1⟩ := g.choice (.inr (.inr (.inl k1)))
    obtain ⟨J1, pre1, g1, h⟩ := read_pr u _ _ _ hf.1 h
    obtain ⟨J2, pre2, ts', dd, e, k2, h⟩ := read_prB ts (acc ++ [t1]) _ u _ _ _ hf.2 g1 h
    exact ⟨J2, pre2, ts', .arGo d1 k1 dd, by rw [e]; simp [strips_append, strips, e1], k2, h⟩
end
end
/-- What is written is read again. -/
theorem read_again {t : Tree} (hf : Fit t) : ∃ t', ReadTo (ptext (prP t)) t' ∧ strip t' = strip t := by
  have hc := Cur.start (pgood_pr t [] hf trivial trivial)
  rw [List.append_nil] at hc
  obtain ⟨J, pre', g, h⟩ := read_pr t _ _ [] hf (by rw [List.append_nil]; exact hc)
  have k := h.done
  obtain ⟨t1, d1, e1⟩ := g.choice (.inr (.inr (.inr k)))
  exact ⟨t1, ⟨J, d1, k⟩, e1⟩
/-- And in parentheses. -/
theorem read_paren {t : Tree} (hf : Fit t) : ∃ t', ReadTo (ptext (.sign 40 :: (prP t ++ [.sign 41]))) t' ∧ strip t' = strip t := by
  have hc := Cur.start (ps := .sign 40 :: (prP t ++ [.sign 41])) ⟨by decide, pgood_pr t [.sign 41] hf ⟨by decide, trivial⟩ trivial⟩
  generalize ptext (.sign 40 :: (prP t ++ [.sign 41])) = S at *
  obtain ⟨k0, h⟩ := hc.sign
  obtain ⟨J, pre', g, h⟩ := read_pr t _ _ [.sign 41] hf h
  obtain ⟨k1, h⟩ := h.sign
  have k1 : kd (toks S) J = 41 := k1
  have k := h.done
  obtain ⟨t1, d1, e1⟩ := g.choice (.inl k1)
  have d := D.paGo (s := S) (L := toks S) k0 d1 k1
  exact ⟨t1, ⟨_, d.toChoice (by rw [k]; unfold NoSum; decide) (by rw [k]; decide) (by rw [k]; decide), k⟩, e1⟩
end Go.Proofs.YtaghcjpoihkpjaaGreatDoor
