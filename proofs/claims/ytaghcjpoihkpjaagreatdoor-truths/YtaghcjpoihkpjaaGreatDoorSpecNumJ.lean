/-
  NUMBERS AS TEXTS, AND TEXTS MADE OF NUMBERS AND SIGNS: their tokens, and what is read of them.
-/
import Derived.Test.YtaghcjpoihkpjaaGreatDoorSpecWrapJ
import Derived.Test.YtaghcjpoihkpjaaGreatDoorJ17
namespace Go.Proofs.YtaghcjpoihkpjaaGreatDoor
open Go.Lib

/-- The digits of a number. -/
def decL (m : Nat) : List UInt8 := if m < 10 then [UInt8.ofNat (48 + m)] else decL (m / 10) ++ [UInt8.ofNat (48 + m % 10)]
termination_by m
theorem isDig_of {d : Nat} (h : d < 10) : isDig (UInt8.ofNat (48 + d)) = true ∧ ((UInt8.ofNat (48 + d)).toNat : Int) - 48 = d := by
  have : (UInt8.ofNat (48 + d)).toNat = 48 + d := by simp; omega
  unfold isDig
  rw [this]
  simp
  omega
theorem decL_dig (m : Nat) : ∀ b ∈ decL m, isDig b = true := by
  induction m using Nat.strongRecOn with
  | ind m ih =>
    intro b hb
    rw [decL] at hb
    split at hb
    · rw [List.mem_singleton.1 hb]; exact (isDig_of (by omega)).1
    · rcases List.mem_append.1 hb with hb | hb
      · exact ih (m / 10) (by omega) b hb
      · rw [List.mem_singleton.1 hb]; exact (isDig_of (by omega)).1
theorem decL_len : ∀ k m, m < 10 ^ (k + 1) → 1 ≤ (decL m).length ∧ (decL m).length ≤ k + 1
  | 0, m, h => by
    rw [decL, if_pos (by simpa using h)]
    simp
  | k + 1, m, h => by
    rw [decL]
    split
    · simp
    · have := decL_len k (m / 10) (by rw [Nat.pow_succ] at h; omega)
      simp
      omega
theorem numOf_digit1 (l : List UInt8) (b : UInt8) : numOf (l ++ [b]) = 10 * numOf l + (b.toNat - 48 : Int) := by simp [numOf, List.foldl_append]
theorem numOf_decL (m : Nat) : numOf (decL m) = m := by
  induction m using Nat.strongRecOn with
  | ind m ih =>
    rw [decL]
    split
    · have := (isDig_of (d := m) (by omega)).2
      simp only [numOf, List.foldl_cons, List.foldl_nil]
      omega
    · have := (isDig_of (d := m % 10) (by omega)).2
      rw [numOf_digit1, ih (m / 10) (by omega)]
      omega
def decT (m : Nat) : ByteArray := ⟨(decL m).toArray⟩
theorem decT_size (m : Nat) : (decT m).size = (decL m).length := by simp [decT, ByteArray.size]
theorem decT_byte {m i : Nat} (h : i < (decT m).size) : isDig (byteAt (decT m) i) = true := by
  rw [decT_size] at h
  refine decL_dig m _ ?_
  simp [byteAt, decT, h]
theorem dig_facts {b : UInt8} (h : isDig b = true) : isSign b = false ∧ blank b = false := by
  simp [isDig] at h
  constructor
  · cases hs : isSign b with
    | false => rfl
    | true =>
      simp [isSign] at hs
      rcases hs with ((((((((((h' | h') | h') | h') | h') | h') | h') | h') | h') | h') | h') | h' <;> subst h' <;> simp at h
  · cases hs : blank b with
    | false => rfl
    | true =>
      simp [blank] at hs
      rcases hs with (h' | h') | h' <;> subst h' <;> simp at h
theorem digFrom_run {s : ByteArray} (hd : ∀ i, i < s.size → isDig (byteAt s i) = true) : ∀ f i, s.size - i ≤ f → i ≤ s.size → digFrom s f i = s.size
  | 0, i, h1, h2 => by simp only [digFrom]; omega
  | f + 1, i, h1, h2 => by
    rw [digFrom]
    by_cases h : i < s.size
    · rw [if_pos ⟨h, hd i h⟩]
      exact digFrom_run hd f (i + 1) (by omega) (by omega)
    · rw [if_neg (by omega)]
      omega
theorem toks_digits {s : ByteArray} (h1 : 1 ≤ s.size) (h9 : s.size ≤ 9) (hd : ∀ i, i < s.size → isDig (byteAt s i) = true) : toks s = [⟨110, 0, s.size⟩, ⟨101, s.size, s.size⟩] := by
  have h0 := dig_facts (hd 0 (by omega))
  have he : digEnd s 0 = s.size := digFrom_run hd _ 0 (Nat.le_refl _) (by omega)
  have ht : tokFrom s 0 = ⟨110, 0, s.size⟩ := by
    unfold tokFrom
    rw [skip_here h0.2]
    unfold tokAt
    rw [if_neg (by omega), if_neg (by rw [h0.1]; decide), he, if_pos (by omega), if_pos (by omega)]
  rw [toks_at, toksAt_cons (by omega) (by rw [ht]; rfl), ht, toksAt_end]

/-! ### texts of numbers and signs -/
inductive Piece where
  | num (m : Nat)
  | sign (b : UInt8)
  | word (b : ByteArray)
def Piece.text : Piece → ByteArray
  | .num m => decT m
  | .sign b => ⟨#[b]⟩
  | .word b => b
def ptext : List Piece → ByteArray
  | [] => ByteArray.empty
  | p :: ps => p.text ++ ptext ps
def Piece.tok (o : Nat) : Piece → Tok
  | .num m => ⟨110, o, o + (decL m).length⟩
  | .sign b => ⟨b.toNat, o, o + 1⟩
  | .word b => ⟨97, o, o + b.size⟩
def ptoks : List Piece → Nat → List Tok
  | [], o => [⟨101, o, o⟩]
  | p :: ps, o => p.tok o :: ptoks ps (o + p.text.size)
/-- No two numbers stand side by side; they are short; signs are signs. -/
def noNum : List Piece → Prop
  | .num _ :: _ => False
  | .word _ :: _ => False
  | _ => True
def pgood : List Piece → Prop
  | [] => True
  | .num m :: ps => m < 1000000000 ∧ noNum ps ∧ pgood ps
  | .sign b :: ps => isSign b = true ∧ pgood ps
  | .word b :: ps => isName b = true ∧ noNum ps ∧ pgood ps
theorem toks_name {b : ByteArray} (h : isName b = true) : toks b = [⟨97, 0, b.size⟩, ⟨101, b.size, b.size⟩] := by
  have h : tokAt b 0 = ⟨97, 0, b.size⟩ := of_decide_eq_true h
  have hpos : 0 < b.size := by
    rcases Nat.eq_zero_or_pos b.size with h0 | h0
    · exfalso
      unfold tokAt at h
      rw [if_pos (by omega)] at h
      injection h with h
      cases h
    · exact h0
  have hb : blank (byteAt b 0) = false := by
    cases hb : blank (byteAt b 0) with
    | false => rfl
    | true =>
      exfalso
      have hd : (wordEnd b 0).2 = 0 := by
        unfold wordEnd
        obtain ⟨f, hf⟩ : ∃ f, b.size - 0 = f + 1 := ⟨b.size - 1, by omega⟩
        rw [hf, wordFrom, if_neg]
        rw [decode_at, ← byteAt_getB]
        simp [blank] at hb
        rcases hb with (hb | hb) | hb <;> rw [hb, decodeN_low (by decide)] <;> exact fun h => absurd h.2 (by decide)
      have hdig : ¬ 0 < digEnd b 0 := by
        unfold digEnd
        obtain ⟨f, hf⟩ : ∃ f, b.size - 0 = f + 1 := ⟨b.size - 1, by omega⟩
        rw [hf, digFrom, if_neg]
        · omega
        · simp [blank] at hb
          rcases hb with (hb | hb) | hb <;> rw [hb] <;> exact fun h => absurd h.2 (by decide)
      unfold tokAt at h
      rw [if_neg (by omega), if_neg (by simp [blank] at hb; rcases hb with (hb | hb) | hb <;> rw [hb] <;> decide), if_neg hdig, if_pos (.inl hd)] at h
      injection h with h
      cases h
  have ht : tokFrom b 0 = ⟨97, 0, b.size⟩ := by
    unfold tokFrom
    rw [skip_here hb, h]
  rw [toks_at, toksAt_cons (by omega) (by rw [ht]; rfl), ht, toksAt_end]
theorem decT_len {m : Nat} (h : m < 1000000000) : 1 ≤ (decT m).size ∧ (decT m).size ≤ 9 := by rw [decT_size]; exact decL_len 8 m h
theorem sz1 (b : UInt8) : (⟨#[b]⟩ : ByteArray).size = 1 := rfl
theorem toks_pieces : ∀ (ps : List Piece) (pre S : ByteArray), S = pre ++ ptext ps → pgood ps → toksAt S pre.size = ptoks ps pre.size
  | [], pre, S, hS, _ => by
    have : S.size = pre.size := by rw [hS]; simp [ptext]
    rw [← this, toksAt_end]
    rfl
  | .sign b :: ps, pre, S, hS, hg => by
    have hs : Sits S ⟨#[b]⟩ pre.size := by
      rw [hS]
      have := (sits_right pre (ptext (.sign b :: ps))).trans (sits_append ⟨#[b]⟩ (ptext ps))
      simpa using this
    have hb : byteAt S pre.size = b := hs.byte 0 (by rw [sz1]; decide) rfl
    have hlt : pre.size < S.size := by have := hs.le; rw [sz1] at this; exact this
    rw [toksAt_sign hlt (by rw [hb]; exact hg.1), hb]
    have ih := toks_pieces ps (pre ++ ⟨#[b]⟩) S (by rw [hS, ByteArray.append_assoc]; rfl) hg.2
    rw [ByteArray.size_append] at ih
    show _ = ⟨b.toNat, pre.size, pre.size + 1⟩ :: ptoks ps (pre.size + 1)
    rw [sz1] at ih
    rw [ih]
  | .num m :: ps, pre, S, hS, hg => by
    obtain ⟨hm, hn, hg⟩ := hg
    have hs : Sits S (decT m) pre.size := by
      rw [hS]
      have := (sits_right pre (ptext (.num m :: ps))).trans (sits_append (decT m) (ptext ps))
      simpa using this
    have hl := decT_len hm
    have ih := toks_pieces ps (pre ++ decT m) S (by rw [hS, ByteArray.append_assoc]; rfl) hg
    rw [ByteArray.size_append] at ih
    have he : TokEnds S (pre.size + (decT m).size) := by
      have hsz : S.size = pre.size + (decT m).size + (ptext ps).size := by rw [hS]; simp [ptext, Piece.text, ByteArray.size_append]; omega
      cases ps with
      | nil => left; rw [hsz]; simp [ptext]
      | cons p ps =>
        cases p with
        | num _ => exact hn.elim
        | word _ => exact hn.elim
        | sign b =>
          have hs2 : Sits S ⟨#[b]⟩ (pre.size + (decT m).size) := by
            rw [hS]
            have := (sits_right pre (ptext (.num m :: .sign b :: ps))).trans ((sits_right (decT m) (ptext (.sign b :: ps))).trans (sits_append ⟨#[b]⟩ (ptext ps)))
            simpa using this
          right
          refine ⟨by have := hs2.le; rw [sz1] at this; exact this, ?_⟩
          rw [show byteAt S (pre.size + (decT m).size) = b from hs2.byte 0 (by rw [sz1]; decide) rfl]
          exact hg.1
    have k := toksAt_sits hs he [⟨110, 0, (decT m).size⟩] 0 (by omega) (toks_digits hl.1 hl.2 fun i hi => decT_byte hi)
    rw [Nat.add_zero] at k
    rw [k, ih]
    show _ = ⟨110, pre.size, pre.size + (decL m).length⟩ :: ptoks ps (pre.size + (decT m).size)
    rw [← decT_size]
    rfl
  | .word m :: ps, pre, S, hS, hg => by
    obtain ⟨hm, hn, hg⟩ := hg
    have hs : Sits S m pre.size := by
      rw [hS]
      have := (sits_right pre (ptext (.word m :: ps))).trans (sits_append m (ptext ps))
      simpa using this
    have ih := toks_pieces ps (pre ++ m) S (by rw [hS, ByteArray.append_assoc]; rfl) hg
    rw [ByteArray.size_append] at ih
    have he : TokEnds S (pre.size + m.size) := by
      have hsz : S.size = pre.size + m.size + (ptext ps).size := by rw [hS]; simp [ptext, Piece.text, ByteArray.size_append]; omega
      cases ps with
      | nil => left; rw [hsz]; simp [ptext]
      | cons p ps =>
        cases p with
        | num _ => exact hn.elim
        | word _ => exact hn.elim
        | sign b =>
          have hs2 : Sits S ⟨#[b]⟩ (pre.size + m.size) := by
            rw [hS]
            have := (sits_right pre (ptext (.word m :: .sign b :: ps))).trans ((sits_right m (ptext (.sign b :: ps))).trans (sits_append ⟨#[b]⟩ (ptext ps)))
            simpa using this
          right
          refine ⟨by have := hs2.le; rw [sz1] at this; exact this, ?_⟩
          rw [show byteAt S (pre.size + m.size) = b from hs2.byte 0 (by rw [sz1]; decide) rfl]
          exact hg.1
    have k := toksAt_sits hs he [⟨97, 0, m.size⟩] 0 (by omega) (toks_name hm)
    rw [Nat.add_zero] at k
    rw [k, ih]
    rfl
theorem toks_ptext {ps : List Piece} (hg : pgood ps) : toks (ptext ps) = ptoks ps 0 := by
  have := toks_pieces ps ByteArray.empty (ptext ps) (by simp) hg
  exact this
/-! ### reading them, from the left to the right -/
section
variable {S : ByteArray} {L : List Tok} {k : Nat} {t : Tok} {r : List Tok}
theorem kd_drop (h : L.drop k = t :: r) : kd L k = t.kind ∧ pl L k = t.pos ∧ tx S L k = t.text S ∧ L.drop (k + 1) = r := by
  have h0 : L[k]? = some t := by
    have := congrArg (fun l => l[0]?) h
    simpa using this
  have hg : L.getD k default = t := by rw [List.getD_eq_getElem?_getD, h0]; rfl
  refine ⟨by unfold kd; rw [hg], by unfold pl; rw [hg], by unfold tx; rw [hg], ?_⟩
  rw [← List.drop_drop, h]
  rfl
end
/-- A number as a tree, at a place. -/
def numTree (o : Nat) (n : Int) : Tree := if n < 0 then .neg o (.num (o + 1) n.natAbs) else .num o n.natAbs
/-- A number as pieces. -/
def numP (n : Int) : List Piece := if n < 0 then [.sign 45, .num n.natAbs] else [.num n.natAbs]
def numLen (n : Int) : Nat := if n < 0 then 2 else 1
theorem ptext_append : ∀ a b, ptext (a ++ b) = ptext a ++ ptext b
  | [], b => by simp [ptext]
  | p :: a, b => by simp [ptext, ptext_append a b, ByteArray.append_assoc]
theorem decT_text {S pre post : ByteArray} {m : Nat} (hS : S = pre ++ (decT m ++ post)) : (⟨110, pre.size, pre.size + (decL m).length⟩ : Tok).text S = decT m := by
  have hs : Sits S (decT m) pre.size := by
    rw [hS]
    have := (sits_right pre (decT m ++ post)).trans (sits_append (decT m) post)
    simpa using this
  have := text_sits hs (p := 0) (q := (decT m).size) (Nat.le_refl _)
  unfold Tok.text
  rw [← decT_size]
  refine this.trans ?_
  simp
/-- A number is read where it stands. -/
theorem D.num {S pre : ByteArray} {L : List Tok} {k : Nat} {n : Int} {ps : List Piece} (hS : S = pre ++ ptext (numP n ++ ps)) (h : L.drop k = ptoks (numP n ++ ps) pre.size) :
    D S L .minus k (.ok [numTree pre.size n] (k + numLen n)) ∧ L.drop (k + numLen n) = ptoks ps (pre ++ ptext (numP n)).size ∧ S = pre ++ ptext (numP n) ++ ptext ps := by
  rw [ptext_append, ← ByteArray.append_assoc] at hS
  by_cases hn : n < 0
  · simp only [numP, numTree, numLen, if_pos hn, List.cons_append, List.nil_append, ptoks] at h hS ⊢
    obtain ⟨a1, a2, -, h⟩ := kd_drop (S := S) h
    obtain ⟨b1, b2, b3, h⟩ := kd_drop (S := S) h
    have e1 : (Piece.sign 45).text.size = 1 := rfl
    have ht : tx S L (k + 1) = decT n.natAbs := by
      rw [b3]
      have := decT_text (S := S) (pre := pre ++ ⟨#[45]⟩) (m := n.natAbs) (post := ptext ps) (by rw [hS]; simp [ptext, Piece.text, ByteArray.append_assoc])
      rw [ByteArray.size_append] at this
      exact this
    have d := D.nuGo (s := S) (L := L) b1
    rw [b2, ht, show (decT n.natAbs).data.toList = decL n.natAbs by simp [decT], numOf_decL] at d
    have d2 := D.ngGo (s := S) (L := L) a1 d
    rw [a2] at d2
    refine ⟨d2, ?_, hS⟩
    rw [h]
    simp [ptext, Piece.text, ByteArray.size_append, Nat.add_assoc]
  · simp only [numP, numTree, numLen, if_neg hn, List.cons_append, List.nil_append, ptoks] at h hS ⊢
    obtain ⟨b1, b2, b3, h⟩ := kd_drop (S := S) h
    have ht : tx S L k = decT n.natAbs := by
      rw [b3]
      exact decT_text (S := S) (pre := pre) (m := n.natAbs) (post := ptext ps) (by rw [hS]; simp [ptext, Piece.text, ByteArray.append_assoc])
    have d := D.nuGo (s := S) (L := L) b1
    rw [b2, ht, show (decT n.natAbs).data.toList = decL n.natAbs by simp [decT], numOf_decL] at d
    refine ⟨d, ?_, hS⟩
    rw [h]
    simp [ptext, Piece.text, ByteArray.size_append]
/-! ### going through a text, piece by piece -/
structure Cur (S pre : ByteArray) (k : Nat) (ps : List Piece) : Prop where
  text : S = pre ++ ptext ps
  toks : (toks S).drop k = ptoks ps pre.size
theorem Cur.start {ps : List Piece} (hg : pgood ps) : Cur (ptext ps) ByteArray.empty 0 ps := ⟨by simp, by rw [toks_ptext hg]; rfl⟩
theorem Cur.sign {S pre : ByteArray} {k : Nat} {b : UInt8} {ps : List Piece} (h : Cur S pre k (.sign b :: ps)) : kd (Proofs.YtaghcjpoihkpjaaGreatDoor.toks S) k = b.toNat ∧ Cur S (pre ++ ⟨#[b]⟩) (k + 1) ps := by
  obtain ⟨k1, -, -, h1⟩ := kd_drop (S := S) (h.toks.trans rfl)
  refine ⟨k1, ?_, ?_⟩
  · rw [h.text, ByteArray.append_assoc]; rfl
  · rw [h1, ByteArray.size_append]; rfl
theorem Cur.num {S pre : ByteArray} {k : Nat} {n : Int} {ps : List Piece} (h : Cur S pre k (numP n ++ ps)) : D S (Proofs.YtaghcjpoihkpjaaGreatDoor.toks S) .minus k (.ok [numTree pre.size n] (k + numLen n)) ∧ Cur S (pre ++ ptext (numP n)) (k + numLen n) ps := by
  obtain ⟨d, h1, h2⟩ := D.num h.text h.toks
  exact ⟨d, h2, h1⟩
theorem Cur.word {S pre b : ByteArray} {k : Nat} {ps : List Piece} (h : Cur S pre k (.word b :: ps)) : kd (Proofs.YtaghcjpoihkpjaaGreatDoor.toks S) k = 97 ∧ pl (Proofs.YtaghcjpoihkpjaaGreatDoor.toks S) k = pre.size ∧ tx S (Proofs.YtaghcjpoihkpjaaGreatDoor.toks S) k = b ∧ Cur S (pre ++ b) (k + 1) ps := by
  obtain ⟨k1, k2, k3, h1⟩ := kd_drop (S := S) (h.toks.trans rfl)
  refine ⟨k1, k2, ?_, ?_, ?_⟩
  · rw [k3]
    have hs : Sits S b pre.size := by
      rw [h.text]
      have := (sits_right pre (ptext (.word b :: ps))).trans (sits_append b (ptext ps))
      simpa using this
    have := text_sits hs (p := 0) (q := b.size) (Nat.le_refl _)
    exact this.trans (by simp)
  · rw [h.text, ByteArray.append_assoc]; rfl
  · rw [h1, ByteArray.size_append]; rfl
/-- A run of digits is read. -/
theorem Cur.digits {S pre : ByteArray} {k m : Nat} {ps : List Piece} (h : Cur S pre k (.num m :: ps)) : kd (Proofs.YtaghcjpoihkpjaaGreatDoor.toks S) k = 110 ∧ pl (Proofs.YtaghcjpoihkpjaaGreatDoor.toks S) k = pre.size ∧ numOf (tx S (Proofs.YtaghcjpoihkpjaaGreatDoor.toks S) k).data.toList = m ∧ Cur S (pre ++ decT m) (k + 1) ps := by
  obtain ⟨k1, k2, k3, h1⟩ := kd_drop (S := S) (h.toks.trans rfl)
  refine ⟨k1, k2, ?_, ?_, ?_⟩
  · rw [k3, show (Piece.num m).tok pre.size = ⟨110, pre.size, pre.size + (decL m).length⟩ from rfl, decT_text (post := ptext ps) (by rw [h.text]; rfl), show (decT m).data.toList = decL m by simp [decT], numOf_decL]
  · rw [h.text, ByteArray.append_assoc]; rfl
  · rw [h1, ByteArray.size_append]; rfl
theorem Cur.done {S pre : ByteArray} {k : Nat} (h : Cur S pre k []) : kd (Proofs.YtaghcjpoihkpjaaGreatDoor.toks S) k = 101 := (kd_drop (S := S) (h.toks.trans rfl)).1
end Go.Proofs.YtaghcjpoihkpjaaGreatDoor
