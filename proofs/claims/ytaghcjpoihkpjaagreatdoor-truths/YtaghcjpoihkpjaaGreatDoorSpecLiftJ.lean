/-
  WHAT IS READ OF A TEXT'S TOKENS IS READ OF THEM WHERE THEY STAND WITHIN OTHERS: the same tree, its places further on.
-/
import Derived.Test.YtaghcjpoihkpjaaGreatDoorSpecSegJ
namespace Go.Proofs.YtaghcjpoihkpjaaGreatDoor
open Go.Lib

mutual
/-- A tree whose places are further on. -/
def Tree.up (o : Nat) : Tree → Tree
  | .num p n => .num (o + p) n
  | .neg p a => .neg (o + p) (a.up o)
  | .bin k p a b => .bin k (o + p) (a.up o) (b.up o)
  | .ite p a b c => .ite (o + p) (a.up o) (b.up o) (c.up o)
  | .meas p wd m n => .meas (o + p) wd m n
  | .probe p wd ts => .probe (o + p) wd (ups o ts)
def ups (o : Nat) : List Tree → List Tree
  | [] => []
  | t :: ts => t.up o :: ups o ts
end
theorem ups_append (o : Nat) : ∀ a b, ups o (a ++ b) = ups o a ++ ups o b
  | [], b => rfl
  | t :: a, b => by simp [ups, ups_append o a b]
def Lvl.up (o : Nat) : Lvl → Lvl
  | .sumT a => .sumT (a.up o)
  | .prodT a => .prodT (a.up o)
  | .args acc => .args (ups o acc)
  | v => v
def Lvl.isArgs : Lvl → Bool
  | .args _ => true
  | _ => false
/-- Tokens stand within others, and behind them one that ends what they are read to. -/
structure Within (s : ByteArray) (L : List Tok) (m : Nat) (s' : ByteArray) (L' : List Tok) (o k : Nat) : Prop where
  stop : kd L m = 101
  close : kd L' (k + m) = 41 ∨ kd L' (k + m) = 58 ∨ kd L' (k + m) = 44 ∨ kd L' (k + m) = 101
  kind : ∀ i, i < m → kd L' (k + i) = kd L i
  place : ∀ i, i < m → pl L' (k + i) = o + pl L i
  text : ∀ i, i < m → tx s' L' (k + i) = tx s L i
section
variable {s : ByteArray} {L : List Tok} {m : Nat} {s' : ByteArray} {L' : List Tok} {o k : Nat}
theorem Within.lt (h : Within s L m s' L' o k) {i c : Nat} (hi : i ≤ m) (hc : kd L i = c) (hne : c ≠ 101) : i < m := by
  rcases Nat.lt_or_ge i m with h' | h'
  · exact h'
  · obtain rfl : i = m := by omega
    exact absurd (hc.symm.trans h.stop) hne
theorem Within.is (h : Within s L m s' L' o k) {i c : Nat} (hi : i ≤ m) (hc : kd L i = c) (hne : c ≠ 101) : kd L' (k + i) = c := (h.kind i (h.lt hi hc hne)).trans hc
theorem Within.not (h : Within s L m s' L' o k) {i c : Nat} (hi : i ≤ m) (hc : kd L i ≠ c) (h1 : c ≠ 41) (h2 : c ≠ 58) (h3 : c ≠ 44) (h4 : c ≠ 101) : kd L' (k + i) ≠ c := by
  rcases Nat.lt_or_ge i m with h' | h'
  · rw [h.kind i h']; exact hc
  · obtain rfl : i = m := by omega
    have := h.close
    omega
theorem D.upto {v : Lvl} {I : Nat} {out : Out} (h : D s L v I out) : I ≤ out.at := h.grow.1
set_option maxHeartbeats 4000000 in
theorem D.lift (hW : Within s L m s' L' o k) {v : Lvl} {I : Nat} {out : Out} (h : D s L v I out) : ∀ ts J, out = .ok ts J → J ≤ m → (v.isArgs = true → J < m) → D s' L' (v.up o) (k + I) (.ok (ups o ts) (k + J)) := by
  induction h with
  | chBad | chB1 | chB2 | chB3 | cmBad | cmB1 | suBad | stBad | prBad | ptBad | ngBad | paBad | paB1 | noGo | caB1 | meB2 | meB3 | meB4 | meB5 | pbBad | pbB1 | arBad => intro ts J e; cases e
  | chOne d hk ih =>
    intro ts J e hJ _
    injection e with e1 e2
    subst e1 e2
    exact .chOne (ih _ _ rfl hJ (by simp [Lvl.isArgs])) (hW.not hJ hk (by decide) (by decide) (by decide) (by decide))
  | @chIf I J a b c K M d1 hk1 d2 hk2 d3 ih1 ih2 ih3 =>
    intro ts J' e hJ _
    injection e with e1 e2
    subst e1 e2
    have g2 : J + 1 ≤ K := d2.upto
    have g3 : K + 1 ≤ M := d3.upto
    have l1 := hW.lt (by omega) hk1 (by decide)
    have i1 := ih1 _ _ rfl (by omega) (by simp [Lvl.isArgs])
    have i2 := ih2 _ _ rfl (by omega) (by simp [Lvl.isArgs])
    have i3 := ih3 _ _ rfl (by omega) (by simp [Lvl.isArgs])
    have q := D.chIf (s := s') (L := L') i1 (hW.is (by omega) hk1 (by decide)) i2 (hW.is (by omega) hk2 (by decide)) i3
    rw [hW.place _ l1] at q
    exact q
  | cmOne d hk ih =>
    intro ts J e hJ _
    injection e with e1 e2
    subst e1 e2
    refine .cmOne (ih _ _ rfl hJ (by simp [Lvl.isArgs])) ?_
    have n1 := hW.not hJ (fun e => hk (.inl e)) (by decide) (by decide) (by decide) (by decide)
    have n2 := hW.not hJ (fun e => hk (.inr (.inl e))) (by decide) (by decide) (by decide) (by decide)
    have n3 := hW.not hJ (fun e => hk (.inr (.inr e))) (by decide) (by decide) (by decide) (by decide)
    omega
  | @cmTwo I J a b K d1 hk d2 ih1 ih2 =>
    intro ts J' e hJ _
    injection e with e1 e2
    subst e1 e2
    have g2 : J + 1 ≤ K := d2.upto
    have l1 : J < m := by omega
    have i1 := ih1 _ _ rfl (by omega) (by simp [Lvl.isArgs])
    have i2 := ih2 _ _ rfl (by omega) (by simp [Lvl.isArgs])
    have q := D.cmTwo (s := s') (L := L') i1 (by rw [hW.kind _ l1]; exact hk) i2
    rw [hW.place _ l1, hW.kind _ l1] at q
    exact q
  | @suGo I J a o' d1 d2 ih1 ih2 =>
    intro ts J' e hJ _
    subst e
    have g2 : J ≤ J' := d2.upto
    exact .suGo (ih1 _ _ rfl (by omega) (by simp [Lvl.isArgs])) (ih2 _ _ rfl hJ (by simp [Lvl.isArgs]))
  | stEnd hk =>
    intro ts J e hJ _
    injection e with e1 e2
    subst e1 e2
    refine .stEnd ?_
    have n1 := hW.not hJ (fun e => hk (.inl e)) (by decide) (by decide) (by decide) (by decide)
    have n2 := hW.not hJ (fun e => hk (.inr e)) (by decide) (by decide) (by decide) (by decide)
    omega
  | @stGo a J b K o' hk d1 d2 ih1 ih2 =>
    intro ts J' e hJ _
    subst e
    have g1 : J + 1 ≤ K := d1.upto
    have g2 : K ≤ J' := d2.upto
    have l1 : J < m := by omega
    have i1 := ih1 _ _ rfl (by omega) (by simp [Lvl.isArgs])
    have i2 := ih2 _ _ rfl hJ (by simp [Lvl.isArgs])
    refine D.stGo (s := s') (L := L') (by rw [hW.kind _ l1]; exact hk) i1 ?_
    rw [hW.place _ l1, hW.kind _ l1]
    exact i2
  | @prGo I J a o' d1 d2 ih1 ih2 =>
    intro ts J' e hJ _
    subst e
    have g2 : J ≤ J' := d2.upto
    exact .prGo (ih1 _ _ rfl (by omega) (by simp [Lvl.isArgs])) (ih2 _ _ rfl hJ (by simp [Lvl.isArgs]))
  | ptEnd hk =>
    intro ts J e hJ _
    injection e with e1 e2
    subst e1 e2
    refine .ptEnd ?_
    have n1 := hW.not hJ (fun e => hk (.inl e)) (by decide) (by decide) (by decide) (by decide)
    have n2 := hW.not hJ (fun e => hk (.inr e)) (by decide) (by decide) (by decide) (by decide)
    omega
  | @ptGo a J b K o' hk d1 d2 ih1 ih2 =>
    intro ts J' e hJ _
    subst e
    have g1 : J + 1 ≤ K := d1.upto
    have g2 : K ≤ J' := d2.upto
    have l1 : J < m := by omega
    have i1 := ih1 _ _ rfl (by omega) (by simp [Lvl.isArgs])
    have i2 := ih2 _ _ rfl hJ (by simp [Lvl.isArgs])
    refine D.ptGo (s := s') (L := L') (by rw [hW.kind _ l1]; exact hk) i1 ?_
    rw [hW.place _ l1, hW.kind _ l1]
    exact i2
  | @ngGo I J a hk d ih =>
    intro ts J' e hJ _
    injection e with e1 e2
    subst e1 e2
    have g1 : I + 1 ≤ J := d.upto
    have l1 : I < m := by omega
    have q := D.ngGo (s := s') (L := L') (hW.is (by omega) hk (by decide)) (ih _ _ rfl hJ (by simp [Lvl.isArgs]))
    rw [hW.place _ l1] at q
    exact q
  | @paGo I J a hk d hk2 ih =>
    intro ts J' e hJ _
    injection e with e1 e2
    subst e1 e2
    have g1 : I + 1 ≤ J := d.upto
    exact D.paGo (s := s') (L := L') (hW.is (by omega) hk (by decide)) (ih _ _ rfl (by omega) (by simp [Lvl.isArgs])) (hW.is (by omega) hk2 (by decide))
  | @nuGo I hk =>
    intro ts J' e hJ _
    injection e with e1 e2
    subst e1 e2
    have q := D.nuGo (s := s') (L := L') (hW.is (by omega) hk (by decide))
    rw [hW.place _ (by omega), hW.text _ (by omega)] at q
    exact q
  | @meGo I h0 h1 h2 h3 h4 h5 h6 =>
    intro ts J' e hJ _
    injection e with e1 e2
    subst e1 e2
    have q := D.meGo (s := s') (L := L') (I := k + I) (hW.is (by omega) h0 (by decide)) (hW.is (i := I + 1) (by omega) h1 (by decide)) (by rw [hW.text _ (by omega)]; exact h2) (hW.is (i := I + 2) (by omega) h3 (by decide)) (hW.is (i := I + 3) (by omega) h4 (by decide)) (hW.is (i := I + 4) (by omega) h5 (by decide)) (hW.is (i := I + 5) (by omega) h6 (by decide))
    rw [hW.place _ (by omega), hW.text _ (by omega), Nat.add_assoc k I 2, hW.text (I + 2) (by omega), Nat.add_assoc k I 4, hW.text (I + 4) (by omega)] at q
    exact q
  | @pbNone I h0 h1 h2 h3 =>
    intro ts J' e hJ _
    injection e with e1 e2
    subst e1 e2
    have q := D.pbNone (s := s') (L := L') (I := k + I) (hW.is (by omega) h0 (by decide)) (hW.is (i := I + 1) (by omega) h1 (by decide)) (by rw [hW.text _ (by omega)]; exact h2) (hW.is (i := I + 2) (by omega) h3 (by decide))
    rw [hW.place _ (by omega), hW.text _ (by omega)] at q
    exact q
  | @pbGo I J ts0 h0 h1 h2 h3 d h4 ih =>
    intro ts J' e hJ _
    injection e with e1 e2
    subst e1 e2
    have g1 : I + 2 < J := d.grow.2 rfl rfl
    have q := D.pbGo (s := s') (L := L') (I := k + I) (hW.is (by omega) h0 (by decide)) (hW.is (i := I + 1) (by omega) h1 (by decide)) (by rw [hW.text _ (by omega)]; exact h2) (by rw [Nat.add_assoc, hW.kind _ (by omega)]; exact h3) (ih _ _ rfl (by omega) (fun _ => by omega)) (hW.is (by omega) h4 (by decide))
    rw [hW.place _ (by omega), hW.text _ (by omega)] at q
    exact q
  | @arEnd acc I J a d hk ih =>
    intro ts J' e hJ hl
    injection e with e1 e2
    subst e1 e2
    have hl := hl rfl
    have q := D.arEnd (s := s') (L := L') (acc := ups o acc) (ih _ _ rfl hJ (by simp [Lvl.isArgs])) (by rw [hW.kind _ hl]; exact hk)
    rw [ups_append]
    exact q
  | @arGo acc I J a o' d hk d2 ih ih2 =>
    intro ts J' e hJ hl
    subst e
    have g1 : J + 1 ≤ J' := d2.upto
    have i2 := ih2 _ _ rfl hJ (fun _ => hl rfl)
    simp only [Lvl.up, ups_append] at i2
    exact D.arGo (s := s') (L := L') (ih _ _ rfl (by omega) (by simp [Lvl.isArgs])) (hW.is (by omega) hk (by decide)) i2
end
end Go.Proofs.YtaghcjpoihkpjaaGreatDoor
