/-
  A TEXT THAT SITS IN ANOTHER ONE: its tokens stand there, further on; what is read of them is read there.
-/
import Derived.Test.YtihmgoahobbdkaaGreatDoorJG4
namespace Go.Proofs.YtihmgoahobbdkaaGreatDoor
open Go.Lib

/-- A text stands in another one from place o on. -/
structure Sits (s' s : ByteArray) (o : Nat) : Prop where
  le : o + s.size ≤ s'.size
  bytes : ∀ j, j < s.size → byteAt s' (o + j) = byteAt s j
/-- Nothing that a token could go on with stands there. -/
def TokEnds (s : ByteArray) (e : Nat) : Prop := e = s.size ∨ (e < s.size ∧ isSign (byteAt s e) = true)
theorem byteAt_getB (s : ByteArray) (i : Nat) : byteAt s i = s.get! i := by
  rw [← getD_get!']
  simp [byteAt, List.getD]
theorem sign_facts {b : UInt8} (h : isSign b = true) : b.toNat < 64 ∧ blank b = false ∧ isDig b = false ∧ b.toNat ≠ 101 ∧ b.toNat ≠ 33 ∧ b.toNat ≠ 97 ∧ b.toNat ≠ 110 := by
  simp [isSign] at h
  rcases h with ((((((((((h | h) | h) | h) | h) | h) | h) | h) | h) | h) | h) | h <;> subst h <;> decide
/-- A rune's bytes behind the first go on with it. -/
theorem decodeN_next (n b0 b1 b2 b3 : Nat) : (2 ≤ (decodeN n b0 b1 b2 b3).2 → b1 / 64 = 2) ∧ (3 ≤ (decodeN n b0 b1 b2 b3).2 → b2 / 64 = 2) ∧ (4 ≤ (decodeN n b0 b1 b2 b3).2 → b3 / 64 = 2) ∧ (decodeN n b0 b1 b2 b3).2 ≤ 4 := by
  unfold decodeN
  repeat' split
  all_goals (simp only; omega)
theorem decode_sits {s' s : ByteArray} {o i : Nat} (h : Sits s' s o) (he : TokEnds s' (o + s.size)) (hi : i < s.size) : Utf8.decode s' (o + i) = Utf8.decode s i := by
  rw [decode_at, decode_at]
  have hle := h.le
  have g : ∀ j, i + j < s.size → s'.get! (o + i + j) = s.get! (i + j) := fun j hj => by
    rw [← byteAt_getB, ← byteAt_getB, Nat.add_assoc, h.bytes _ hj]
  have g0 := g 0 (by omega)
  simp only [Nat.add_zero] at g0
  rw [g0]
  symm
  refine (decodeN_cut (s'.size - (o + i)) (s.size - i) _ _ _ _ _ _ _ (by omega) ?_ (fun h => ?_) (fun h => ?_) (fun h => ?_))
  · obtain ⟨c1, c2, c3, c4⟩ := decodeN_next (s'.size - (o + i)) (s.get! i).toNat (s'.get! (o + i + 1)).toNat (s'.get! (o + i + 2)).toNat (s'.get! (o + i + 3)).toNat
    have cl := decodeN_width_le (s'.size - (o + i)) (s.get! i).toNat (s'.get! (o + i + 1)).toNat (s'.get! (o + i + 2)).toNat (s'.get! (o + i + 3)).toNat (by omega)
    rcases he with he | ⟨he, hs⟩
    · omega
    · have hb := (sign_facts hs).1
      rw [byteAt_getB] at hb
      rcases Nat.lt_or_ge 3 (s.size - i) with h4 | h4
      · omega
      · have hcs : s.size - i = 1 ∨ s.size - i = 2 ∨ s.size - i = 3 := by omega
        rcases hcs with e | e | e
        · rw [show o + s.size = o + i + 1 by omega] at hb; omega
        · rw [show o + s.size = o + i + 2 by omega] at hb; omega
        · rw [show o + s.size = o + i + 3 by omega] at hb; omega
  · rw [g 1 (by omega)]
  · rw [g 2 (by omega)]
  · rw [g 3 (by omega)]
theorem skipFrom_sits {s' s : ByteArray} {o : Nat} (h : Sits s' s o) (he : TokEnds s' (o + s.size)) : ∀ f g i, s.size - i ≤ f → i ≤ s.size → skipFrom s' (f + g) (o + i) = o + skipFrom s f i
  | 0, g, i, h1, h2 => by
    obtain rfl : i = s.size := by omega
    simp only [Nat.zero_add, skipFrom]
    cases g with
    | zero => rfl
    | succ g =>
      rw [skipFrom, if_neg]
      rcases he with he | ⟨-, hs⟩
      · omega
      · simp [(sign_facts hs).2.1]
  | f + 1, g, i, h1, h2 => by
    rw [show f + 1 + g = f + g + 1 by omega, skipFrom, skipFrom]
    by_cases hi : i < s.size
    · have := h.le
      rw [h.bytes i hi]
      cases hb : blank (byteAt s i) with
      | true => rw [if_pos ⟨by omega, rfl⟩, if_pos ⟨hi, rfl⟩, Nat.add_assoc]; exact skipFrom_sits h he f g (i + 1) (by omega) (by omega)
      | false => rw [if_neg (by simp), if_neg (by simp)]
    · obtain rfl : i = s.size := by omega
      rw [if_neg (by rcases he with he | ⟨-, hs⟩; · omega
                     · simp [(sign_facts hs).2.1]), if_neg (by omega)]
theorem skip_sits {s' s : ByteArray} {o i : Nat} (h : Sits s' s o) (he : TokEnds s' (o + s.size)) (hi : i ≤ s.size) : skip s' (o + i) = o + skip s i := by
  unfold skip
  have hle := h.le
  rw [← skipFrom_sits h he (s.size - i) (s'.size - (o + i) - (s.size - i)) i (Nat.le_refl _) hi]
  congr 1
  omega
theorem digFrom_sits {s' s : ByteArray} {o : Nat} (h : Sits s' s o) (he : TokEnds s' (o + s.size)) : ∀ f g i, s.size - i ≤ f → i ≤ s.size → digFrom s' (f + g) (o + i) = o + digFrom s f i
  | 0, g, i, h1, h2 => by
    obtain rfl : i = s.size := by omega
    simp only [Nat.zero_add, digFrom]
    cases g with
    | zero => rfl
    | succ g =>
      rw [digFrom, if_neg]
      rcases he with he | ⟨-, hs⟩
      · omega
      · simp [(sign_facts hs).2.2.1]
  | f + 1, g, i, h1, h2 => by
    rw [show f + 1 + g = f + g + 1 by omega, digFrom, digFrom]
    by_cases hi : i < s.size
    · have := h.le
      rw [h.bytes i hi]
      cases hb : isDig (byteAt s i) with
      | true => rw [if_pos ⟨by omega, rfl⟩, if_pos ⟨hi, rfl⟩, Nat.add_assoc]; exact digFrom_sits h he f g (i + 1) (by omega) (by omega)
      | false => rw [if_neg (by simp), if_neg (by simp)]
    · obtain rfl : i = s.size := by omega
      rw [if_neg (by rcases he with he | ⟨-, hs⟩; · omega
                     · simp [(sign_facts hs).2.2.1]), if_neg (by omega)]
theorem digEnd_sits {s' s : ByteArray} {o i : Nat} (h : Sits s' s o) (he : TokEnds s' (o + s.size)) (hi : i ≤ s.size) : digEnd s' (o + i) = o + digEnd s i := by
  unfold digEnd
  have hle := h.le
  rw [← digFrom_sits h he (s.size - i) (s'.size - (o + i) - (s.size - i)) i (Nat.le_refl _) hi]
  congr 1
  omega
theorem decodeN_low {n b0 b1 b2 b3 : Nat} (h : b0 < 128) : decodeN n b0 b1 b2 b3 = (b0, 1) := by simp [decodeN, h]
theorem sign_noName {s : ByteArray} {e : Nat} (hs : isSign (byteAt s e) = true) (b : Bool) : namePart b (Utf8.decode s e).1 = false := by
  rw [decode_at, ← byteAt_getB, decodeN_low (by have := (sign_facts hs).1; omega)]
  simp [isSign] at hs
  rcases hs with ((((((((((h | h) | h) | h) | h) | h) | h) | h) | h) | h) | h) | h <;> rw [h] <;> cases b <;> decide
theorem wordFrom_sits {s' s : ByteArray} {o : Nat} (h : Sits s' s o) (he : TokEnds s' (o + s.size)) : ∀ f g i n, s.size - i ≤ f → i ≤ s.size → wordFrom s' (f + g) (o + i) n = (o + (wordFrom s f i n).1, (wordFrom s f i n).2)
  | 0, g, i, n, h1, h2 => by
    obtain rfl : i = s.size := by omega
    simp only [Nat.zero_add, wordFrom]
    cases g with
    | zero => rfl
    | succ g =>
      rw [wordFrom, if_neg]
      rcases he with he | ⟨-, hs⟩
      · omega
      · simp [sign_noName hs]
  | f + 1, g, i, n, h1, h2 => by
    rw [show f + 1 + g = f + g + 1 by omega, wordFrom, wordFrom]
    by_cases hi : i < s.size
    · have := h.le
      rw [decode_sits h he hi]
      have w1 := width_pos s i
      have w2 := decode_le hi
      cases hb : namePart (n == 0) (Utf8.decode s i).1 with
      | true => rw [if_pos ⟨by omega, rfl⟩, if_pos ⟨hi, rfl⟩, Nat.add_assoc]; exact wordFrom_sits h he f g _ (n + 1) (by omega) w2
      | false => rw [if_neg (by simp), if_neg (by simp)]
    · obtain rfl : i = s.size := by omega
      rw [if_neg (by rcases he with he | ⟨-, hs⟩; · omega
                     · simp [sign_noName hs]), if_neg (by omega)]
theorem wordEnd_sits {s' s : ByteArray} {o i : Nat} (h : Sits s' s o) (he : TokEnds s' (o + s.size)) (hi : i ≤ s.size) : wordEnd s' (o + i) = (o + (wordEnd s i).1, (wordEnd s i).2) := by
  unfold wordEnd
  have hle := h.le
  rw [← wordFrom_sits h he (s.size - i) (s'.size - (o + i) - (s.size - i)) i 0 (Nat.le_refl _) hi]
  congr 1
  omega
/-- A token further on. -/
def Tok.up (o : Nat) (t : Tok) : Tok := ⟨t.kind, o + t.pos, o + t.stop⟩
theorem tokAt_sits {s' s : ByteArray} {o i : Nat} (h : Sits s' s o) (he : TokEnds s' (o + s.size)) (hi : i < s.size) : tokAt s' (o + i) = (tokAt s i).up o := by
  have hle := h.le
  unfold tokAt
  rw [h.bytes i hi, digEnd_sits h he (by omega), wordEnd_sits h he (by omega), if_neg (show ¬ s'.size ≤ o + i by omega), if_neg (show ¬ s.size ≤ i by omega)]
  split
  · simp [Tok.up]; omega
  · by_cases hd : i < digEnd s i
    · rw [if_pos (by omega), if_pos hd, show o + digEnd s i - (o + i) = digEnd s i - i by omega]
      split <;> simp [Tok.up]
    · rw [if_neg (by omega), if_neg hd]
      dsimp only
      split <;> simp [Tok.up]
theorem tokAt_end (s : ByteArray) : tokAt s s.size = ⟨101, s.size, s.size⟩ := by simp [tokAt]
theorem tokAt_101 {s : ByteArray} {i : Nat} (h : (tokAt s i).kind = 101) : s.size ≤ i := by
  unfold tokAt at h
  split at h
  · assumption
  · split at h
    · rename_i hs
      exact absurd h (sign_facts hs).2.2.2.1
    · split at h
      · split at h <;> cases h
      · split at h <;> cases h
theorem toksAt_same {s : ByteArray} {i j : Nat} (hi : i ≤ s.size) (hj : j ≤ s.size) (e : tokFrom s i = tokFrom s j) : toksAt s i = toksAt s j := by
  cases h : (tokFrom s i).last with
  | true => rw [toksAt_last h, toksAt_last (e ▸ h), e]
  | false => rw [toksAt_cons hi h, toksAt_cons hj (e ▸ h), e]
theorem skip_ends {s : ByteArray} {e : Nat} (h : TokEnds s e) : skip s e = e := by
  rcases h with h | ⟨-, h⟩
  · rw [h, skip_end]
  · exact skip_here (sign_facts h).2.1
/-- The tokens of a text stand where it stands. -/
theorem toksAt_sits {s' s : ByteArray} {o : Nat} (h : Sits s' s o) (he : TokEnds s' (o + s.size)) : ∀ (l : List Tok) (i : Nat), i ≤ s.size → toksAt s i = l ++ [⟨101, s.size, s.size⟩] → toksAt s' (o + i) = l.map (Tok.up o) ++ toksAt s' (o + s.size)
  | [], i, hi, hl => by
    have hle := h.le
    simp only [List.nil_append] at hl
    have hk : (tokFrom s i).kind = 101 := by
      cases hb : (tokFrom s i).last with
      | true => rw [toksAt_last hb] at hl; injection hl with hl; rw [hl]
      | false =>
        rw [toksAt_cons hi hb] at hl
        injection hl with h1 h2
        rw [h1]
    have hs : skip s i = s.size := by
      have := tokAt_101 hk
      have := skip_le hi
      omega
    simp only [List.map_nil, List.nil_append]
    refine toksAt_same (by omega) hle ?_
    unfold tokFrom
    rw [skip_sits h he hi, hs, skip_ends he]
  | t :: l, i, hi, hl => by
    have hle := h.le
    cases hb : (tokFrom s i).last with
    | true => rw [toksAt_last hb] at hl; simp at hl
    | false =>
      rw [toksAt_cons hi hb] at hl
      simp only [List.cons_append] at hl
      injection hl with h1 h2
      have hst := tokFrom_stop hi hb
      have hsk := skip_le hi
      have hlt : skip s i < s.size := (tokAt_stop hsk.2 hb).2.2.1
      have e : tokFrom s' (o + i) = (tokFrom s i).up o := by
        unfold tokFrom
        rw [skip_sits h he hi, tokAt_sits h he hlt]
      have hb' : (tokFrom s' (o + i)).last = false := by rw [e]; exact hb
      rw [toksAt_cons (by omega) hb', e]
      simp only [List.map_cons, List.cons_append]
      rw [← h1]
      congr 1
      exact toksAt_sits h he l _ hst.2 h2
theorem toksAt_sign {s : ByteArray} {e : Nat} (he : e < s.size) (hs : isSign (byteAt s e) = true) : toksAt s e = ⟨(byteAt s e).toNat, e, e + 1⟩ :: toksAt s (e + 1) := by
  have ht : tokFrom s e = ⟨(byteAt s e).toNat, e, e + 1⟩ := by
    unfold tokFrom
    rw [skip_here (sign_facts hs).2.1]
    unfold tokAt
    rw [if_neg (by omega), if_pos hs]
  have hb : (tokFrom s e).last = false := by
    rw [ht]
    have := sign_facts hs
    simp [Tok.last]
    omega
  rw [toksAt_cons (by omega) hb, ht]
theorem toksAt_end (s : ByteArray) : toksAt s s.size = [⟨101, s.size, s.size⟩] := by
  have : tokFrom s s.size = ⟨101, s.size, s.size⟩ := by
    unfold tokFrom
    rw [skip_end, tokAt_end]
  rw [toksAt_last (by rw [this]; rfl), this]
theorem text_sits {s' s : ByteArray} {o : Nat} (h : Sits s' s o) {p q : Nat} (hq : q ≤ s.size) : s'.extract (o + p) (o + q) = s.extract p q := by
  apply ByteArray.ext
  simp only [ByteArray.data_extract]
  apply Array.ext_getElem?
  intro j
  have hle := h.le
  have e1 : s'.data.size = s'.size := rfl
  have e2 : s.data.size = s.size := rfl
  by_cases hj : j < q - p
  · have hb := h.bytes (p + j) (by omega)
    unfold byteAt at hb
    rw [Array.getElem?_extract, Array.getElem?_extract]
    rw [if_pos (by omega), if_pos (by omega)]
    rw [show o + p + j = o + (p + j) by omega]
    simp only [Array.getElem?_toList] at hb
    rw [Array.getElem?_eq_getElem (show o + (p + j) < s'.data.size by omega), Array.getElem?_eq_getElem (show p + j < s.data.size by omega)] at hb ⊢
    simpa using hb
  · rw [Array.getElem?_eq_none (by simp; omega), Array.getElem?_eq_none (by simp; omega)]
end Go.Proofs.YtihmgoahobbdkaaGreatDoor
namespace Go.Proofs.YtihmgoahobbdkaaGreatDoor
open Go.Lib

mutual
/-- A tree whose places are further on. -/
def Tree.up (o : Nat) : Tree → Tree
  | .num p n => .num (o + p) n
  | .neg p a => .neg (o + p) (a.up o)
  | .bin k p a b => .bin k (o + p) (a.up o) (b.up o)
  | .ite p a b c => .ite (o + p) (a.up o) (b.up o) (c.up o)
  | .meas p wd m n => .meas (o + p) wd m n
  | .probe p wd ts => .probe (o + p) wd (ups o ts)
def ups (o : Nat) : List Tree → List Tree
  | [] => []
  | t :: ts => t.up o :: ups o ts
end
theorem ups_append (o : Nat) : ∀ a b, ups o (a ++ b) = ups o a ++ ups o b
  | [], b => rfl
  | t :: a, b => by simp [ups, ups_append o a b]
def Lvl.up (o : Nat) : Lvl → Lvl
  | .sumT a => .sumT (a.up o)
  | .prodT a => .prodT (a.up o)
  | .args acc => .args (ups o acc)
  | v => v
def Lvl.isArgs : Lvl → Bool
  | .args _ => true
  | _ => false
/-- Tokens stand within others, and behind them one that ends what they are read to. -/
structure Within (s : ByteArray) (L : List Tok) (m : Nat) (s' : ByteArray) (L' : List Tok) (o k : Nat) : Prop where
  stop : kd L m = 101
  close : kd L' (k + m) = 41 ∨ kd L' (k + m) = 58 ∨ kd L' (k + m) = 44 ∨ kd L' (k + m) = 101
  kind : ∀ i, i < m → kd L' (k + i) = kd L i
  place : ∀ i, i < m → pl L' (k + i) = o + pl L i
  text : ∀ i, i < m → tx s' L' (k + i) = tx s L i
section
variable {s : ByteArray} {L : List Tok} {m : Nat} {s' : ByteArray} {L' : List Tok} {o k : Nat}
theorem Within.lt (h : Within s L m s' L' o k) {i c : Nat} (hi : i ≤ m) (hc : kd L i = c) (hne : c ≠ 101) : i < m := by
  rcases Nat.lt_or_ge i m with h' | h'
  · exact h'
  · obtain rfl : i = m := by omega
    exact absurd (hc.symm.trans h.stop) hne
theorem Within.is (h : Within s L m s' L' o k) {i c : Nat} (hi : i ≤ m) (hc : kd L i = c) (hne : c ≠ 101) : kd L' (k + i) = c := (h.kind i (h.lt hi hc hne)).trans hc
theorem Within.not (h : Within s L m s' L' o k) {i c : Nat} (hi : i ≤ m) (hc : kd L i ≠ c) (h1 : c ≠ 41) (h2 : c ≠ 58) (h3 : c ≠ 44) (h4 : c ≠ 101) : kd L' (k + i) ≠ c := by
  rcases Nat.lt_or_ge i m with h' | h'
  · rw [h.kind i h']; exact hc
  · obtain rfl : i = m := by omega
    have := h.close
    omega
theorem D.upto {v : Lvl} {I : Nat} {out : Out} (h : D s L v I out) : I ≤ out.at := h.grow.1
set_option maxHeartbeats 4000000 in
theorem D.lift (hW : Within s L m s' L' o k) {v : Lvl} {I : Nat} {out : Out} (h : D s L v I out) : ∀ ts J, out = .ok ts J → J ≤ m → (v.isArgs = true → J < m) → D s' L' (v.up o) (k + I) (.ok (ups o ts) (k + J)) := by
  induction h with
  | chBad | chB1 | chB2 | chB3 | cmBad | cmB1 | suBad | stBad | prBad | ptBad | ngBad | paBad | paB1 | noGo | caB1 | meB2 | meB3 | meB4 | meB5 | pbBad | pbB1 | arBad => intro ts J e; cases e
  | chOne d hk ih =>
    intro ts J e hJ _
    injection e with e1 e2
    subst e1 e2
    exact .chOne (ih _ _ rfl hJ (by simp [Lvl.isArgs])) (hW.not hJ hk (by decide) (by decide) (by decide) (by decide))
  | @chIf I J a b c K M d1 hk1 d2 hk2 d3 ih1 ih2 ih3 =>
    intro ts J' e hJ _
    injection e with e1 e2
    subst e1 e2
    have g2 : J + 1 ≤ K := d2.upto
    have g3 : K + 1 ≤ M := d3.upto
    have l1 := hW.lt (by omega) hk1 (by decide)
    have i1 := ih1 _ _ rfl (by omega) (by simp [Lvl.isArgs])
    have i2 := ih2 _ _ rfl (by omega) (by simp [Lvl.isArgs])
    have i3 := ih3 _ _ rfl (by omega) (by simp [Lvl.isArgs])
    have q := D.chIf (s := s') (L := L') i1 (hW.is (by omega) hk1 (by decide)) i2 (hW.is (by omega) hk2 (by decide)) i3
    rw [hW.place _ l1] at q
    exact q
  | cmOne d hk ih =>
    intro ts J e hJ _
    injection e with e1 e2
    subst e1 e2
    refine .cmOne (ih _ _ rfl hJ (by simp [Lvl.isArgs])) ?_
    have n1 := hW.not hJ (fun e => hk (.inl e)) (by decide) (by decide) (by decide) (by decide)
    have n2 := hW.not hJ (fun e => hk (.inr (.inl e))) (by decide) (by decide) (by decide) (by decide)
    have n3 := hW.not hJ (fun e => hk (.inr (.inr e))) (by decide) (by decide) (by decide) (by decide)
    omega
  | @cmTwo I J a b K d1 hk d2 ih1 ih2 =>
    intro ts J' e hJ _
    injection e with e1 e2
    subst e1 e2
    have g2 : J + 1 ≤ K := d2.upto
    have l1 : J < m := by omega
    have i1 := ih1 _ _ rfl (by omega) (by simp [Lvl.isArgs])
    have i2 := ih2 _ _ rfl (by omega) (by simp [Lvl.isArgs])
    have q := D.cmTwo (s := s') (L := L') i1 (by rw [hW.kind _ l1]; exact hk) i2
    rw [hW.place _ l1, hW.kind _ l1] at q
    exact q
  | @suGo I J a o' d1 d2 ih1 ih2 =>
    intro ts J' e hJ _
    subst e
    have g2 : J ≤ J' := d2.upto
    exact .suGo (ih1 _ _ rfl (by omega) (by simp [Lvl.isArgs])) (ih2 _ _ rfl hJ (by simp [Lvl.isArgs]))
  | stEnd hk =>
    intro ts J e hJ _
    injection e with e1 e2
    subst e1 e2
    refine .stEnd ?_
    have n1 := hW.not hJ (fun e => hk (.inl e)) (by decide) (by decide) (by decide) (by decide)
    have n2 := hW.not hJ (fun e => hk (.inr e)) (by decide) (by decide) (by decide) (by decide)
    omega
  | @stGo a J b K o' hk d1 d2 ih1 ih2 =>
    intro ts J' e hJ _
    subst e
    have g1 : J + 1 ≤ K := d1.upto
    have g2 : K ≤ J' := d2.upto
    have l1 : J < m := by omega
    have i1 := ih1 _ _ rfl (by omega) (by simp [Lvl.isArgs])
    have i2 := ih2 _ _ rfl hJ (by simp [Lvl.isArgs])
    refine D.stGo (s := s') (L := L') (by rw [hW.kind _ l1]; exact hk) i1 ?_
    rw [hW.place _ l1, hW.kind _ l1]
    exact i2
  | @prGo I J a o' d1 d2 ih1 ih2 =>
    intro ts J' e hJ _
    subst e
    have g2 : J ≤ J' := d2.upto
    exact .prGo (ih1 _ _ rfl (by omega) (by simp [Lvl.isArgs])) (ih2 _ _ rfl hJ (by simp [Lvl.isArgs]))
  | ptEnd hk =>
    intro ts J e hJ _
    injection e with e1 e2
    subst e1 e2
    refine .ptEnd ?_
    have n1 := hW.not hJ (fun e => hk (.inl e)) (by decide) (by decide) (by decide) (by decide)
    have n2 := hW.not hJ (fun e => hk (.inr e)) (by decide) (by decide) (by decide) (by decide)
    omega
  | @ptGo a J b K o' hk d1 d2 ih1 ih2 =>
    intro ts J' e hJ _
    subst e
    have g1 : J + 1 ≤ K := d1.upto
    have g2 : K ≤ J' := d2.upto
    have l1 : J < m := by omega
    have i1 := ih1 _ _ rfl (by omega) (by simp [Lvl.isArgs])
    have i2 := ih2 _ _ rfl hJ (by simp [Lvl.isArgs])
    refine D.ptGo (s := s') (L := L') (by rw [hW.kind _ l1]; exact hk) i1 ?_
    rw [hW.place _ l1, hW.kind _ l1]
    exact i2
  | @ngGo I J a hk d ih =>
    intro ts J' e hJ _
    injection e with e1 e2
    subst e1 e2
    have g1 : I + 1 ≤ J := d.upto
    have l1 : I < m := by omega
    have q := D.ngGo (s := s') (L := L') (hW.is (by omega) hk (by decide)) (ih _ _ rfl hJ (by simp [Lvl.isArgs]))
    rw [hW.place _ l1] at q
    exact q
  | @paGo I J a hk d hk2 ih =>
    intro ts J' e hJ _
    injection e with e1 e2
    subst e1 e2
    have g1 : I + 1 ≤ J := d.upto
    exact D.paGo (s := s') (L := L') (hW.is (by omega) hk (by decide)) (ih _ _ rfl (by omega) (by simp [Lvl.isArgs])) (hW.is (by omega) hk2 (by decide))
  | @nuGo I hk =>
    intro ts J' e hJ _
    injection e with e1 e2
    subst e1 e2
    have q := D.nuGo (s := s') (L := L') (hW.is (by omega) hk (by decide))
    rw [hW.place _ (by omega), hW.text _ (by omega)] at q
    exact q
  | @meGo I h0 h1 h2 h3 h4 h5 h6 =>
    intro ts J' e hJ _
    injection e with e1 e2
    subst e1 e2
    have q := D.meGo (s := s') (L := L') (I := k + I) (hW.is (by omega) h0 (by decide)) (hW.is (i := I + 1) (by omega) h1 (by decide)) (by rw [hW.text _ (by omega)]; exact h2) (hW.is (i := I + 2) (by omega) h3 (by decide)) (hW.is (i := I + 3) (by omega) h4 (by decide)) (hW.is (i := I + 4) (by omega) h5 (by decide)) (hW.is (i := I + 5) (by omega) h6 (by decide))
    rw [hW.place _ (by omega), hW.text _ (by omega), Nat.add_assoc k I 2, hW.text (I + 2) (by omega), Nat.add_assoc k I 4, hW.text (I + 4) (by omega)] at q
    exact q
  | @pbNone I h0 h1 h2 h3 =>
    intro ts J' e hJ _
    injection e with e1 e2
    subst e1 e2
    have q := D.pbNone (s := s') (L := L') (I := k + I) (hW.is (by omega) h0 (by decide)) (hW.is (i := I + 1) (by omega) h1 (by decide)) (by rw [hW.text _ (by omega)]; exact h2) (hW.is (i := I + 2) (by omega) h3 (by decide))
    rw [hW.place _ (by omega), hW.text _ (by omega)] at q
    exact q
  | @pbGo I J ts0 h0 h1 h2 h3 d h4 ih =>
    intro ts J' e hJ _
    injection e with e1 e2
    subst e1 e2
    have g1 : I + 2 < J := d.grow.2 rfl rfl
    have q := D.pbGo (s := s') (L := L') (I := k + I) (hW.is (by omega) h0 (by decide)) (hW.is (i := I + 1) (by omega) h1 (by decide)) (by rw [hW.text _ (by omega)]; exact h2) (by rw [Nat.add_assoc, hW.kind _ (by omega)]; exact h3) (ih _ _ rfl (by omega) (fun _ => by omega)) (hW.is (by omega) h4 (by decide))
    rw [hW.place _ (by omega), hW.text _ (by omega)] at q
    exact q
  | @arEnd acc I J a d hk ih =>
    intro ts J' e hJ hl
    injection e with e1 e2
    subst e1 e2
    have hl := hl rfl
    have q := D.arEnd (s := s') (L := L') (acc := ups o acc) (ih _ _ rfl hJ (by simp [Lvl.isArgs])) (by rw [hW.kind _ hl]; exact hk)
    rw [ups_append]
    exact q
  | @arGo acc I J a o' d hk d2 ih ih2 =>
    intro ts J' e hJ hl
    subst e
    have g1 : J + 1 ≤ J' := d2.upto
    have i2 := ih2 _ _ rfl hJ (fun _ => hl rfl)
    simp only [Lvl.up, ups_append] at i2
    exact D.arGo (s := s') (L := L') (ih _ _ rfl (by omega) (by simp [Lvl.isArgs])) (hW.is (by omega) hk (by decide)) i2
end
end Go.Proofs.YtihmgoahobbdkaaGreatDoor
