/-
  A POLICY IN PARENTHESES, AS A PART OF A CHOICE.
-/
import Derived.Test.YtaghcjpoihkpjaaGreatDoorSpecLiftJ
namespace Go.Proofs.YtaghcjpoihkpjaaGreatDoor
open Go.Lib

/-- Where the end stands among the tokens, and that all others lie within the text. -/
theorem toksAt_split (s : ByteArray) : ∀ n i J, i ≤ s.size → s.size - i ≤ n → kd (toksAt s i) J = 101 → ∃ l, toksAt s i = l ++ [⟨101, s.size, s.size⟩] ∧ l.length = J ∧ ∀ t ∈ l, t.stop ≤ s.size
  | n, i, J, hi, hn, hk => by
    cases hb : (tokFrom s i).last with
    | true =>
      rw [toksAt_last hb] at hk ⊢
      cases J with
      | zero =>
        have hk' : (tokFrom s i).kind = 101 := hk
        have h1 := tokAt_101 hk'
        have h2 := skip_le hi
        have e : tokFrom s i = ⟨101, s.size, s.size⟩ := by
          unfold tokFrom
          rw [show skip s i = s.size by omega, tokAt_end]
        exact ⟨[], by simp [e], rfl, by simp⟩
      | succ J =>
        have : kd [tokFrom s i] (J + 1) = 0 := rfl
        omega
    | false =>
      have hst := tokFrom_stop hi hb
      rw [toksAt_cons hi hb] at hk ⊢
      cases J with
      | zero =>
        have hk' : (tokFrom s i).kind = 101 := hk
        simp [Tok.last, hk'] at hb
      | succ J =>
        cases n with
        | zero => omega
        | succ n =>
          obtain ⟨l, h1, h2, h3⟩ := toksAt_split s n (tokFrom s i).stop J hst.2 (by omega) hk
          refine ⟨tokFrom s i :: l, by rw [h1]; rfl, by simp [h2], ?_⟩
          intro t ht
          rcases List.mem_cons.1 ht with rfl | ht
          · exact hst.2
          · exact h3 t ht
section
variable {s s' : ByteArray} {o : Nat} {l pre post : List Tok}
theorem getD_pre (i : Nat) (hi : i < pre.length) : (pre ++ l ++ post).getD i default = pre.getD i default := by
  simp only [List.getD_eq_getElem?_getD, List.append_assoc]
  rw [List.getElem?_append_left hi]
theorem getD_mid (i : Nat) (hi : i < l.length) : (pre ++ l ++ post).getD (pre.length + i) default = l.getD i default := by
  simp only [List.getD_eq_getElem?_getD, List.append_assoc]
  rw [List.getElem?_append_right (by omega), Nat.add_sub_cancel_left, List.getElem?_append_left hi]
theorem getD_post (i : Nat) : (pre ++ l ++ post).getD (pre.length + l.length + i) default = post.getD i default := by
  simp only [List.getD_eq_getElem?_getD, List.append_assoc]
  rw [List.getElem?_append_right (by omega), List.getElem?_append_right (by omega)]
  congr 2
  omega
theorem getD_up (i : Nat) (hi : i < l.length) : (l.map (Tok.up o)).getD i default = (l.getD i default).up o := by
  simp [List.getD_eq_getElem?_getD, hi]
theorem within_of (hs : Sits s' s o) (hl : ∀ t ∈ l, t.stop ≤ s.size) (hc : kd post 0 = 41 ∨ kd post 0 = 58 ∨ kd post 0 = 44 ∨ kd post 0 = 101) :
    Within s (l ++ [⟨101, s.size, s.size⟩]) l.length s' (pre ++ l.map (Tok.up o) ++ post) o pre.length := by
  have g : ∀ i, i < l.length → (pre ++ l.map (Tok.up o) ++ post).getD (pre.length + i) default = ((l ++ [(⟨101, s.size, s.size⟩ : Tok)]).getD i default).up o := fun i hi => by
    rw [getD_mid _ (by simpa using hi), getD_up i hi]
    simp [List.getD_eq_getElem?_getD, List.getElem?_append_left hi, hi]
  refine ⟨?_, ?_, fun i hi => ?_, fun i hi => ?_, fun i hi => ?_⟩
  · simp [kd, List.getD_eq_getElem?_getD]
  · have := getD_post (pre := pre) (l := l.map (Tok.up o)) (post := post) 0
    simp only [List.length_map, Nat.add_zero] at this
    unfold kd at hc ⊢
    rw [this]
    exact hc
  · unfold kd; rw [g i hi]; rfl
  · unfold pl; rw [g i hi]; rfl
  · unfold tx Tok.text
    rw [g i hi]
    refine text_sits hs ?_
    have : (l ++ [(⟨101, s.size, s.size⟩ : Tok)]).getD i default = l[i] := by simp [List.getD_eq_getElem?_getD, List.getElem?_append_left hi, hi]
    rw [this]
    exact hl _ (List.getElem_mem hi)
end
section
variable {s : ByteArray} {L : List Tok} {I J : Nat} {a : Tree}
/-- Nothing goes on with a sum there. -/
def NoSum (k : Nat) : Prop := ¬ (k = 42 ∨ k = 47) ∧ ¬ (k = 43 ∨ k = 45)
theorem D.toSum (h : D s L .minus I (.ok [a] J)) (hk : NoSum (kd L J)) : D s L .sum I (.ok [a] J) := .suGo (.prGo h (.ptEnd hk.1)) (.stEnd hk.2)
theorem D.toCompare (h : D s L .sum I (.ok [a] J)) (hk : ¬ (kd L J = 60 ∨ kd L J = 62 ∨ kd L J = 61)) : D s L .compare I (.ok [a] J) := .cmOne h hk
theorem D.toChoice (h : D s L .minus I (.ok [a] J)) (hk : NoSum (kd L J)) (h2 : ¬ (kd L J = 60 ∨ kd L J = 62 ∨ kd L J = 61)) (h3 : kd L J ≠ 63) : D s L .choice I (.ok [a] J) := .chOne ((h.toSum hk).toCompare h2) h3
end
theorem sits_append (a b : ByteArray) : Sits (a ++ b) a 0 := by
  refine ⟨by simp, fun j hj => ?_⟩
  unfold byteAt
  rw [Nat.zero_add]
  simp only [ByteArray.data_append, Array.toList_append]
  rw [List.getElem?_append_left (by simpa using hj)]
theorem sits_right (a b : ByteArray) : Sits (a ++ b) b a.size := by
  refine ⟨by simp, fun j hj => ?_⟩
  unfold byteAt
  simp only [ByteArray.data_append, Array.toList_append]
  rw [List.getElem?_append_right (by simp)]
  simp
theorem Sits.trans {a b c : ByteArray} {o p : Nat} (h : Sits a b o) (h' : Sits b c p) : Sits a c (o + p) := by
  refine ⟨by have := h.le; have := h'.le; omega, fun j hj => ?_⟩
  have := h'.le
  rw [Nat.add_assoc, h.bytes (p + j) (by omega), h'.bytes j hj]
/-- A byte within a text that stands in another one. -/
theorem Sits.byte {a b : ByteArray} {o : Nat} (h : Sits a b o) (j : Nat) (hj : j < b.size) {x : UInt8} (hx : byteAt b j = x) : byteAt a (o + j) = x := (h.bytes j hj).trans hx

def wOne : ByteArray := ⟨#[49, 63, 40]⟩
def wElse : ByteArray := ⟨#[41, 58, 98, 111, 111, 109, 40, 41]⟩
def wIf : ByteArray := ⟨#[48, 63, 98, 111, 111, 109, 40, 41, 58, 40]⟩
def wShut : ByteArray := ⟨#[41]⟩
def wBm : ByteArray := ⟨#[98, 111, 111, 109]⟩
theorem wOne_size : wOne.size = 3 := rfl
theorem wElse_size : wElse.size = 8 := rfl
theorem wIf_size : wIf.size = 10 := rfl
theorem wShut_size : wShut.size = 1 := rfl
theorem wBm_size : wBm.size = 4 := rfl
theorem boom_probe : isMeasure wBm = false := by
  unfold isMeasure
  rw [toList_data]
  decide
theorem toks_digit1 : toks ⟨#[49]⟩ = [⟨110, 0, 1⟩, ⟨101, 1, 1⟩] := by decide
theorem toks_digit0 : toks ⟨#[48]⟩ = [⟨110, 0, 1⟩, ⟨101, 1, 1⟩] := by decide
theorem toks_boom : toks wBm = [⟨97, 0, 4⟩, ⟨101, 4, 4⟩] := by decide
/-- '1?(' .. '):boom()' -/
theorem read_then {s : ByteArray} {t : Tree} {J : Nat} (h : D s (toks s) .choice 0 (.ok [t] J)) (hJ : kd (toks s) J = 101) :
    ∃ K, D (wOne ++ s ++ wElse) (toks (wOne ++ s ++ wElse)) .choice 0 (.ok [.ite 1 (.num 0 1) (t.up 3) (.probe (5 + s.size) wBm [])] K) ∧ kd (toks (wOne ++ s ++ wElse)) K = 101 := by
  obtain ⟨l, hl, hlen, hin⟩ := toksAt_split s s.size 0 J (by omega) (by omega) hJ
  generalize hS : wOne ++ s ++ wElse = S
  have hA : Sits S wOne 0 := by rw [← hS]; have := (sits_append (wOne ++ s) wElse).trans (sits_append wOne s); simpa using this
  have hB : Sits S s 3 := by rw [← hS]; have := (sits_append (wOne ++ s) wElse).trans (sits_right wOne s); rw [wOne_size] at this; simpa using this
  have hC : Sits S wElse (3 + s.size) := by rw [← hS]; have := sits_right (wOne ++ s) wElse; rw [ByteArray.size_append, wOne_size] at this; exact this
  have hsz : S.size = 11 + s.size := by rw [← hS, ByteArray.size_append, ByteArray.size_append, wOne_size, wElse_size]; omega
  have h1 : Sits S ⟨#[49]⟩ 0 := ⟨by show 0 + 1 ≤ _; omega, fun j hj => by
    have : j = 0 := by have : j < 1 := hj; omega
    subst this; exact hA.byte 0 (by decide) (by decide)⟩
  have hbm : Sits S wBm (5 + s.size) := ⟨by rw [wBm_size]; omega, fun j hj => by
    have hj4 : j < 4 := hj
    have := hC.bytes (2 + j) (by rw [wElse_size]; omega)
    rw [show 5 + s.size + j = 3 + s.size + (2 + j) by omega, this]
    have : j = 0 ∨ j = 1 ∨ j = 2 ∨ j = 3 := by omega
    rcases this with rfl | rfl | rfl | rfl <;> decide⟩
  have b1 : byteAt S 1 = 63 := hA.byte 1 (by decide) (by decide)
  have b2 : byteAt S 2 = 40 := hA.byte 2 (by decide) (by decide)
  have c0 : byteAt S (3 + s.size) = 41 := hC.byte 0 (by decide) (by decide)
  have c1 : byteAt S (4 + s.size) = 58 := by have := hC.byte 1 (by decide) (x := 58) (by decide); rw [← this]; congr 1; omega
  have c6 : byteAt S (9 + s.size) = 40 := by have := hC.byte 6 (by decide) (x := 40) (by decide); rw [← this]; congr 1; omega
  have c7 : byteAt S (10 + s.size) = 41 := by have := hC.byte 7 (by decide) (x := 41) (by decide); rw [← this]; congr 1; omega
  have k1 := toksAt_sits h1 (o := 0) (.inr ⟨by show 0 + 1 < _; omega, by show isSign (byteAt S (0 + 1)) = true; rw [Nat.zero_add, b1]; decide⟩) [⟨110, 0, 1⟩] 0 (by omega) toks_digit1
  have k2 := toksAt_sign (s := S) (e := 1) (by omega) (by rw [b1]; decide)
  have k3 := toksAt_sign (s := S) (e := 2) (by omega) (by rw [b2]; decide)
  have k4 := toksAt_sits hB (.inr ⟨by omega, by rw [c0]; decide⟩) l 0 (by omega) hl
  have k5 := toksAt_sign (s := S) (e := 3 + s.size) (by omega) (by rw [c0]; decide)
  have k6 := toksAt_sign (s := S) (e := 4 + s.size) (by omega) (by rw [c1]; decide)
  have k7 := toksAt_sits hbm (.inr ⟨by show 5 + s.size + 4 < _; omega, by show isSign (byteAt S (5 + s.size + 4)) = true; rw [show 5 + s.size + 4 = 9 + s.size by omega, c6]; decide⟩) [⟨97, 0, 4⟩] 0 (by omega) toks_boom
  have k8 := toksAt_sign (s := S) (e := 9 + s.size) (by omega) (by rw [c6]; decide)
  have k9 := toksAt_sign (s := S) (e := 10 + s.size) (by omega) (by rw [c7]; decide)
  have kE := toksAt_end S
  have hL : toks S = [⟨110, 0, 1⟩, ⟨63, 1, 2⟩, ⟨40, 2, 3⟩] ++ l.map (Tok.up 3) ++ [⟨41, 3 + s.size, 4 + s.size⟩, ⟨58, 4 + s.size, 5 + s.size⟩, ⟨97, 5 + s.size, 9 + s.size⟩, ⟨40, 9 + s.size, 10 + s.size⟩, ⟨41, 10 + s.size, 11 + s.size⟩, ⟨101, S.size, S.size⟩] := by
    rw [toks_at]
    have e1 : toksAt S 0 = ⟨110, 0, 1⟩ :: toksAt S 1 := k1
    have e4 : toksAt S 3 = l.map (Tok.up 3) ++ toksAt S (3 + s.size) := k4
    have e7 : toksAt S (5 + s.size) = ⟨97, 5 + s.size, 5 + s.size + 4⟩ :: toksAt S (5 + s.size + 4) := k7
    rw [e1, k2, k3, b1, b2, e4, k5, c0, show 3 + s.size + 1 = 4 + s.size by omega, k6, c1, show 4 + s.size + 1 = 5 + s.size by omega, e7, show 5 + s.size + 4 = 9 + s.size by omega, k8, c6, show 9 + s.size + 1 = 10 + s.size by omega, k9, c7, show 10 + s.size + 1 = 11 + s.size by omega, ← hsz, kE]
    simp
  have hW : Within s (toks s) J S (toks S) 3 3 := by
    rw [hL, toks_at, hl, ← hlen]
    exact within_of hB hin (.inl rfl)
  have hP : ∀ i, (toks S).getD (3 + J + i) default = [(⟨41, 3 + s.size, 4 + s.size⟩ : Tok), ⟨58, 4 + s.size, 5 + s.size⟩, ⟨97, 5 + s.size, 9 + s.size⟩, ⟨40, 9 + s.size, 10 + s.size⟩, ⟨41, 10 + s.size, 11 + s.size⟩, ⟨101, S.size, S.size⟩].getD i default := fun i => by
    rw [hL]
    have := getD_post (pre := [(⟨110, 0, 1⟩ : Tok), ⟨63, 1, 2⟩, ⟨40, 2, 3⟩]) (l := l.map (Tok.up 3)) (post := [(⟨41, 3 + s.size, 4 + s.size⟩ : Tok), ⟨58, 4 + s.size, 5 + s.size⟩, ⟨97, 5 + s.size, 9 + s.size⟩, ⟨40, 9 + s.size, 10 + s.size⟩, ⟨41, 10 + s.size, 11 + s.size⟩, ⟨101, S.size, S.size⟩]) i
    simp only [List.length_map, hlen] at this
    exact this
  have hF : ∀ i, i < 3 → (toks S).getD i default = [(⟨110, 0, 1⟩ : Tok), ⟨63, 1, 2⟩, ⟨40, 2, 3⟩].getD i default := fun i hi => by
    rw [hL]
    exact getD_pre i (by simpa using hi)
  have p0 : kd (toks S) (3 + J) = 41 := congrArg Tok.kind (hP 0)
  have p1 : kd (toks S) (3 + J + 1) = 58 := congrArg Tok.kind (hP 1)
  have p2 : kd (toks S) (3 + J + 2) = 97 := congrArg Tok.kind (hP 2)
  have p3 : kd (toks S) (3 + J + 3) = 40 := congrArg Tok.kind (hP 3)
  have p4 : kd (toks S) (3 + J + 4) = 41 := congrArg Tok.kind (hP 4)
  have p5 : kd (toks S) (3 + J + 5) = 101 := congrArg Tok.kind (hP 5)
  have q2 : pl (toks S) (3 + J + 2) = 5 + s.size := congrArg Tok.pos (hP 2)
  have t2 : tx S (toks S) (3 + J + 2) = wBm := by
    unfold tx
    rw [hP 2]
    show S.extract (5 + s.size) (9 + s.size) = wBm
    have := text_sits hbm (p := 0) (q := 4) (by decide)
    rw [show 5 + s.size + 4 = 9 + s.size by omega] at this
    exact this.trans (by decide)
  have f0 : kd (toks S) 0 = 110 := congrArg Tok.kind (hF 0 (by decide))
  have f1 : kd (toks S) 1 = 63 := congrArg Tok.kind (hF 1 (by decide))
  have f2 : kd (toks S) 2 = 40 := congrArg Tok.kind (hF 2 (by decide))
  have g0 : pl (toks S) 0 = 0 := congrArg Tok.pos (hF 0 (by decide))
  have g1 : pl (toks S) 1 = 1 := congrArg Tok.pos (hF 1 (by decide))
  have t0 : tx S (toks S) 0 = ⟨#[49]⟩ := by
    unfold tx
    rw [hF 0 (by decide)]
    exact (text_sits h1 (p := 0) (q := 1) (by decide)).trans (by decide)
  have d0 := D.nuGo (s := S) (L := toks S) f0
  rw [g0, t0] at d0
  have d3 := D.paGo (s := S) (L := toks S) f2 (D.lift hW h [t] J rfl (Nat.le_refl _) (by simp [Lvl.isArgs])) p0
  have d6 := D.pbNone (s := S) (L := toks S) (I := 3 + J + 2) p2 p3 (by rw [t2]; exact boom_probe) p4
  rw [q2, t2] at d6
  have r := D.chIf (s := S) (L := toks S) ((d0.toSum (by rw [f1]; unfold NoSum; decide)).toCompare (by rw [f1]; decide)) f1
    (d3.toChoice (by rw [p1]; unfold NoSum; decide) (by rw [p1]; decide) (by rw [p1]; decide)) p1
    (d6.toChoice (by rw [p5]; unfold NoSum; decide) (by rw [p5]; decide) (by rw [p5]; decide))
  rw [g1] at r
  exact ⟨_, r, p5⟩
/-- '0?boom():(' .. ')' -/
theorem read_else {s : ByteArray} {t : Tree} {J : Nat} (h : D s (toks s) .choice 0 (.ok [t] J)) (hJ : kd (toks s) J = 101) :
    ∃ K, D (wIf ++ s ++ wShut) (toks (wIf ++ s ++ wShut)) .choice 0 (.ok [.ite 1 (.num 0 0) (.probe 2 wBm []) (t.up 10)] K) ∧ kd (toks (wIf ++ s ++ wShut)) K = 101 := by
  obtain ⟨l, hl, hlen, hin⟩ := toksAt_split s s.size 0 J (by omega) (by omega) hJ
  generalize hS : wIf ++ s ++ wShut = S
  have hA : Sits S wIf 0 := by rw [← hS]; have := (sits_append (wIf ++ s) wShut).trans (sits_append wIf s); simpa using this
  have hB : Sits S s 10 := by rw [← hS]; have := (sits_append (wIf ++ s) wShut).trans (sits_right wIf s); rw [wIf_size] at this; simpa using this
  have hC : Sits S wShut (10 + s.size) := by rw [← hS]; have := sits_right (wIf ++ s) wShut; rw [ByteArray.size_append, wIf_size] at this; exact this
  have hsz : S.size = 11 + s.size := by rw [← hS, ByteArray.size_append, ByteArray.size_append, wIf_size, wShut_size]; omega
  have h1 : Sits S ⟨#[48]⟩ 0 := ⟨by show 0 + 1 ≤ _; omega, fun j hj => by
    have : j = 0 := by have : j < 1 := hj; omega
    subst this; exact hA.byte 0 (by decide) (by decide)⟩
  have hbm : Sits S wBm 2 := ⟨by rw [wBm_size]; omega, fun j hj => by
    have hj4 : j < 4 := hj
    have := hA.bytes (2 + j) (by rw [wIf_size]; omega)
    rw [Nat.zero_add] at this
    rw [this]
    have : j = 0 ∨ j = 1 ∨ j = 2 ∨ j = 3 := by omega
    rcases this with rfl | rfl | rfl | rfl <;> decide⟩
  have b1 : byteAt S 1 = 63 := hA.byte 1 (by decide) (by decide)
  have b6 : byteAt S 6 = 40 := hA.byte 6 (by decide) (by decide)
  have b7 : byteAt S 7 = 41 := hA.byte 7 (by decide) (by decide)
  have b8 : byteAt S 8 = 58 := hA.byte 8 (by decide) (by decide)
  have b9 : byteAt S 9 = 40 := hA.byte 9 (by decide) (by decide)
  have c0 : byteAt S (10 + s.size) = 41 := hC.byte 0 (by decide) (by decide)
  have k1 := toksAt_sits h1 (o := 0) (.inr ⟨by show 0 + 1 < _; omega, by show isSign (byteAt S (0 + 1)) = true; rw [Nat.zero_add, b1]; decide⟩) [⟨110, 0, 1⟩] 0 (by omega) toks_digit0
  have k2 := toksAt_sign (s := S) (e := 1) (by omega) (by rw [b1]; decide)
  have k3 := toksAt_sits hbm (.inr ⟨by show 2 + 4 < _; omega, by show isSign (byteAt S (2 + 4)) = true; rw [b6]; decide⟩) [⟨97, 0, 4⟩] 0 (by omega) toks_boom
  have k6 := toksAt_sign (s := S) (e := 6) (by omega) (by rw [b6]; decide)
  have k7 := toksAt_sign (s := S) (e := 7) (by omega) (by rw [b7]; decide)
  have k8 := toksAt_sign (s := S) (e := 8) (by omega) (by rw [b8]; decide)
  have k9 := toksAt_sign (s := S) (e := 9) (by omega) (by rw [b9]; decide)
  have k4 := toksAt_sits hB (.inr ⟨by omega, by rw [c0]; decide⟩) l 0 (by omega) hl
  have k5 := toksAt_sign (s := S) (e := 10 + s.size) (by omega) (by rw [c0]; decide)
  have kE := toksAt_end S
  have hL : toks S = [⟨110, 0, 1⟩, ⟨63, 1, 2⟩, ⟨97, 2, 6⟩, ⟨40, 6, 7⟩, ⟨41, 7, 8⟩, ⟨58, 8, 9⟩, ⟨40, 9, 10⟩] ++ l.map (Tok.up 10) ++ [⟨41, 10 + s.size, 11 + s.size⟩, ⟨101, S.size, S.size⟩] := by
    rw [toks_at]
    have e1 : toksAt S 0 = ⟨110, 0, 1⟩ :: toksAt S 1 := k1
    have e3 : toksAt S 2 = ⟨97, 2, 6⟩ :: toksAt S 6 := k3
    have e4 : toksAt S 10 = l.map (Tok.up 10) ++ toksAt S (10 + s.size) := k4
    rw [e1, k2, b1, e3, k6, b6, k7, b7, k8, b8, k9, b9, e4, k5, c0, show 10 + s.size + 1 = 11 + s.size by omega, ← hsz, kE]
    simp
  have hW : Within s (toks s) J S (toks S) 10 7 := by
    rw [hL, toks_at, hl, ← hlen]
    exact within_of hB hin (.inl rfl)
  have hP : ∀ i, (toks S).getD (7 + J + i) default = [(⟨41, 10 + s.size, 11 + s.size⟩ : Tok), ⟨101, S.size, S.size⟩].getD i default := fun i => by
    rw [hL]
    have := getD_post (pre := [(⟨110, 0, 1⟩ : Tok), ⟨63, 1, 2⟩, ⟨97, 2, 6⟩, ⟨40, 6, 7⟩, ⟨41, 7, 8⟩, ⟨58, 8, 9⟩, ⟨40, 9, 10⟩]) (l := l.map (Tok.up 10)) (post := [(⟨41, 10 + s.size, 11 + s.size⟩ : Tok), ⟨101, S.size, S.size⟩]) i
    simp only [List.length_map, hlen] at this
    exact this
  have hF : ∀ i, i < 7 → (toks S).getD i default = [(⟨110, 0, 1⟩ : Tok), ⟨63, 1, 2⟩, ⟨97, 2, 6⟩, ⟨40, 6, 7⟩, ⟨41, 7, 8⟩, ⟨58, 8, 9⟩, ⟨40, 9, 10⟩].getD i default := fun i hi => by
    rw [hL]
    exact getD_pre i (by simpa using hi)
  have p0 : kd (toks S) (7 + J) = 41 := congrArg Tok.kind (hP 0)
  have p1 : kd (toks S) (7 + J + 1) = 101 := congrArg Tok.kind (hP 1)
  have f0 : kd (toks S) 0 = 110 := congrArg Tok.kind (hF 0 (by decide))
  have f1 : kd (toks S) 1 = 63 := congrArg Tok.kind (hF 1 (by decide))
  have f2 : kd (toks S) 2 = 97 := congrArg Tok.kind (hF 2 (by decide))
  have f3 : kd (toks S) 3 = 40 := congrArg Tok.kind (hF 3 (by decide))
  have f4 : kd (toks S) 4 = 41 := congrArg Tok.kind (hF 4 (by decide))
  have f5 : kd (toks S) 5 = 58 := congrArg Tok.kind (hF 5 (by decide))
  have f6 : kd (toks S) 6 = 40 := congrArg Tok.kind (hF 6 (by decide))
  have g0 : pl (toks S) 0 = 0 := congrArg Tok.pos (hF 0 (by decide))
  have g1 : pl (toks S) 1 = 1 := congrArg Tok.pos (hF 1 (by decide))
  have g2 : pl (toks S) 2 = 2 := congrArg Tok.pos (hF 2 (by decide))
  have t0 : tx S (toks S) 0 = ⟨#[48]⟩ := by
    unfold tx
    rw [hF 0 (by decide)]
    exact (text_sits h1 (p := 0) (q := 1) (by decide)).trans (by decide)
  have t2 : tx S (toks S) 2 = wBm := by
    unfold tx
    rw [hF 2 (by decide)]
    exact (text_sits hbm (p := 0) (q := 4) (by decide)).trans (by decide)
  have d0 := D.nuGo (s := S) (L := toks S) f0
  rw [g0, t0] at d0
  have d3 := D.paGo (s := S) (L := toks S) f6 (D.lift hW h [t] J rfl (Nat.le_refl _) (by simp [Lvl.isArgs])) p0
  have d6 := D.pbNone (s := S) (L := toks S) (I := 2) f2 f3 (by rw [t2]; exact boom_probe) f4
  rw [g2, t2] at d6
  have r := D.chIf (s := S) (L := toks S) ((d0.toSum (by rw [f1]; unfold NoSum; decide)).toCompare (by rw [f1]; decide)) f1
    (d6.toChoice (by rw [f5]; unfold NoSum; decide) (by rw [f5]; decide) (by rw [f5]; decide)) f5
    (d3.toChoice (by rw [p1]; unfold NoSum; decide) (by rw [p1]; decide) (by rw [p1]; decide))
  rw [g1] at r
  exact ⟨_, r, p1⟩
end Go.Proofs.YtaghcjpoihkpjaaGreatDoor
