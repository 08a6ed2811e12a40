/-
  What a list of laid sentinels gives: each variable's cell, its own address; no two of them alike; each one's row is not frozen.
-/
import Derived.Test.YtaghcjpoihkpjaaGreatDoorRows
import Derived.ProofKit
import Derived.LaidLaws
import Derived.LaidHandle
import Derived.Lib.IsU
import Derived.Lib.RuneCount
import Derived.WalkKit
import Derived.Deep.Draws
import Derived.Below
import Derived.Test.YtaghcjpoihkpjaaGreatDoorProg
import Derived.Deep.QuietTactic
import Derived.BigQuiet
import Derived.BigRegion
import Derived.Lib.TrimU
import Derived.Lib.QuoteLoop
namespace Go.Proofs.YtaghcjpoihkpjaaGreatDoor
open Go.ChangeShapes Go.WideShapes Go.RowKit

/-- The datum of a sentinel. -/
def sentD (nm : String) (x : String × List UInt8) : String × DataW Unit := (x.1, .iface nm (.ptr (.agg [.lit (.string x.2)])))

theorem sentinels_of_laid {P : Program} {nm : String} {W : World} {ti tp te ts : TypeId} {ms : Array (String × TypeId)} {f : Field}
    (hi : P.underlying ti = some (.interface ms)) (hrow : ∀ u, P.typeName? 3 u = some nm → u = tp)
    (hp : P.underlying tp = some (.pointer te)) (he : P.underlying te = some (.struct #[f])) (hft : f.type = ts) (hfo : f.offset = 0) (hs : P.underlying ts = some .string) (hc : P.cellsOf te = 1) (hcs : P.cellsOf ts = 1) :
    ∀ (L : List (String × List UInt8)) (ps : List MemPlace), (∀ x ∈ L, ∀ g, P.globalNamed x.1 = some g → (P.globals[g]?).map (·.type) = some ti) →
      DataW.LaidVars P W (L.map (sentD nm)) ps → ps.Nodup → (∀ b off, MemPlace.cell b off ∈ ps → (∃ c t, W.heap[b]? = some (.cells c t (0, 0))) ∧ ∀ u v, W.cell? ⟨b, off, none⟩ = some (.iface u v) → Value.okWide P W .any 0 u v) →
      ∃ As : List Addr, As.length = L.length ∧ (∀ (i : Nat) x a, L[i]? = some x → As[i]? = some a → W.var? P x.1 = some #[.iface tp (.pointer (some a))] ∧ ∃ c t, W.heap[a.block]? = some (.cells c t (0, 0))) ∧
        As.Pairwise (fun a b => b ≠ a) ∧ ∀ a ∈ As, MemPlace.cell a.block a.off ∈ ps
  | [], ps, _, _, _, _ => ⟨[], rfl, by simp, List.Pairwise.nil, by simp⟩
  | x :: L, ps, hty, h, hnd, hrows => by
    obtain ⟨g, t, cs, fu, p, q, hg, ht, hv, hd, hr, e⟩ := h
    have ht' := hty x (List.mem_cons_self ..) g hg
    obtain rfl := Option.some.inj (ht'.symm.trans ht)
    subst e
    obtain ⟨l⟩ := cs
    have ok : ∀ u v, l = [.iface u v] → Value.okWide P W .any 0 u v := fun u v e => by
      subst e
      exact (hrows g 0 (by simp [MemPlace.row])).2 u v (by simpa using World.var?_cell hg hv 0)
    obtain ⟨a, s, rfl, hca, hsa, hza, rfl⟩ := errorString_of_trod hi hrow hp he hft hfo hs hc hcs hd ok
    rw [List.nodup_append] at hnd
    obtain ⟨hn1, hn2, hn3⟩ := hnd
    obtain ⟨As, hl, hAs, hpw, hmem⟩ := sentinels_of_laid hi hrow hp he hft hfo hs hc hcs L q (fun y hy => hty y (List.mem_cons_of_mem _ hy)) hr hn2 (fun b off hb => hrows b off (List.mem_append_right _ hb))
    refine ⟨a :: As, by simp [hl], ?_, ?_, ?_⟩
    · intro i y b hy hb
      cases i with
      | zero =>
        simp at hy hb
        subst hy; subst hb
        exact ⟨hv, (hrows a.block a.off (by simp [MemPlace.row])).1⟩
      | succ i =>
        simp at hy hb
        exact hAs i y b hy hb
    · refine List.Pairwise.cons ?_ hpw
      intro b hb hab
      subst hab
      exact hn3 _ (by simp [MemPlace.row]) _ (hmem _ hb) rfl
    · intro b hb
      rcases List.mem_cons.1 hb with rfl | hb
      · simp [MemPlace.row]
      · exact List.mem_append_right _ (hmem b hb)
end Go.Proofs.YtaghcjpoihkpjaaGreatDoor
namespace Go.Proofs.YtaghcjpoihkpjaaGreatDoor
open Go.Lib

def blank (b : UInt8) : Bool := b == 32 || b == 9 || b == 10
def isSign (b : UInt8) : Bool := b == 63 || b == 58 || b == 60 || b == 62 || b == 61 || b == 43 || b == 45 || b == 42 || b == 47 || b == 40 || b == 41 || b == 44
def isDig (b : UInt8) : Bool := decide (48 ≤ b.toNat) && decide (b.toNat ≤ 57)
def byteAt (s : ByteArray) (i : Nat) : UInt8 := (s.data.toList[i]?).getD 0
/-- May the rune at this place stand in a name? -/
def namePart (first : Bool) (r : Nat) : Bool := isLetterU r || (isDigitU r && !first)

def skipFrom (s : ByteArray) : Nat → Nat → Nat
  | 0, i => i
  | f + 1, i => if i < s.size ∧ blank (byteAt s i) = true then skipFrom s f (i + 1) else i
def skip (s : ByteArray) (i : Nat) : Nat := skipFrom s (s.size - i) i
def digFrom (s : ByteArray) : Nat → Nat → Nat
  | 0, i => i
  | f + 1, i => if i < s.size ∧ isDig (byteAt s i) = true then digFrom s f (i + 1) else i
def digEnd (s : ByteArray) (i : Nat) : Nat := digFrom s (s.size - i) i
/-- Where the name that begins at i ends, and how many runes it has (n of them are behind us). -/
def wordFrom (s : ByteArray) : Nat → Nat → Nat → Nat × Nat
  | 0, i, n => (i, n)
  | f + 1, i, n => if i < s.size ∧ namePart (n == 0) (Utf8.decode s i).1 = true then wordFrom s f (i + (Utf8.decode s i).2) (n + 1) else (i, n)
def wordEnd (s : ByteArray) (i : Nat) : Nat × Nat := wordFrom s (s.size - i) i 0

structure Tok where
  kind : Nat
  pos : Nat
  stop : Nat
deriving DecidableEq, Inhabited

/-- The token that begins at place i (no blank stands there). -/
def tokAt (s : ByteArray) (i : Nat) : Tok :=
  if s.size ≤ i then ⟨101, s.size, s.size⟩
  else if isSign (byteAt s i) = true then ⟨(byteAt s i).toNat, i, i + 1⟩
  else if i < digEnd s i then (if digEnd s i - i ≤ 9 then ⟨110, i, digEnd s i⟩ else ⟨33, i, i⟩)
  else if (wordEnd s i).2 = 0 ∨ 12 < (wordEnd s i).2 then ⟨33, i, i⟩ else ⟨97, i, (wordEnd s i).1⟩
def Tok.last (t : Tok) : Bool := t.kind == 101 || t.kind == 33
/-- The token behind place i. -/
def tokFrom (s : ByteArray) (i : Nat) : Tok := tokAt s (skip s i)
def toksFrom (s : ByteArray) : Nat → Nat → List Tok
  | 0, i => [tokFrom s i]
  | f + 1, i => if (tokFrom s i).last = true then [tokFrom s i] else tokFrom s i :: toksFrom s f (tokFrom s i).stop
def toks (s : ByteArray) : List Tok := toksFrom s s.size 0
def Tok.text (s : ByteArray) (t : Tok) : ByteArray := s.extract t.pos t.stop

/-- A run of digits as a number. -/
def numOf (l : List UInt8) : Int := l.foldl (fun n b => 10 * n + (b.toNat - 48 : Int)) 0
def isMeasure (b : ByteArray) : Bool :=
  [[115, 117, 109], [99, 111, 117, 110, 116], [108, 101, 97, 115, 116], [109, 111, 115, 116], [109, 101, 97, 110], [108, 97, 115, 116]].contains b.toList

inductive Tree where
  | num (pos : Nat) (n : Int)
  | neg (pos : Nat) (a : Tree)
  | bin (sign : Nat) (pos : Nat) (a b : Tree)
  | ite (pos : Nat) (a b c : Tree)
  | meas (pos : Nat) (word metric : ByteArray) (n : Int)
  | probe (pos : Nat) (word : ByteArray) (args : List Tree)

inductive Out where
  | ok (ts : List Tree) (i : Nat)
  | bad (i : Nat)
def Out.at : Out → Nat
  | .ok _ i => i
  | .bad i => i

inductive Lvl where
  | choice | compare | sum | sumT (a : Tree) | prod | prodT (a : Tree) | minus | args (acc : List Tree)

section
variable (s : ByteArray) (L : List Tok)
def kd (i : Nat) : Nat := (L.getD i default).kind
def pl (i : Nat) : Nat := (L.getD i default).pos
def tx (i : Nat) : ByteArray := (L.getD i default).text s

/-- Read at a level from token number I on, that comes out. -/
inductive D : Lvl → Nat → Out → Prop
  | chBad {I J} : D .compare I (.bad J) → D .choice I (.bad J)
  | chOne {I J a} : D .compare I (.ok [a] J) → kd L J ≠ 63 → D .choice I (.ok [a] J)
  | chB1 {I J a K} : D .compare I (.ok [a] J) → kd L J = 63 → D .choice (J + 1) (.bad K) → D .choice I (.bad K)
  | chB2 {I J a b K} : D .compare I (.ok [a] J) → kd L J = 63 → D .choice (J + 1) (.ok [b] K) → kd L K ≠ 58 → D .choice I (.bad K)
  | chB3 {I J a b K M} : D .compare I (.ok [a] J) → kd L J = 63 → D .choice (J + 1) (.ok [b] K) → kd L K = 58 → D .choice (K + 1) (.bad M) → D .choice I (.bad M)
  | chIf {I J a b c K M} : D .compare I (.ok [a] J) → kd L J = 63 → D .choice (J + 1) (.ok [b] K) → kd L K = 58 → D .choice (K + 1) (.ok [c] M) → D .choice I (.ok [.ite (pl L J) a b c] M)
  | cmBad {I J} : D .sum I (.bad J) → D .compare I (.bad J)
  | cmOne {I J a} : D .sum I (.ok [a] J) → ¬ (kd L J = 60 ∨ kd L J = 62 ∨ kd L J = 61) → D .compare I (.ok [a] J)
  | cmB1 {I J a K} : D .sum I (.ok [a] J) → (kd L J = 60 ∨ kd L J = 62 ∨ kd L J = 61) → D .sum (J + 1) (.bad K) → D .compare I (.bad K)
  | cmTwo {I J a b K} : D .sum I (.ok [a] J) → (kd L J = 60 ∨ kd L J = 62 ∨ kd L J = 61) → D .sum (J + 1) (.ok [b] K) → D .compare I (.ok [.bin (kd L J) (pl L J) a b] K)
  | suBad {I J} : D .prod I (.bad J) → D .sum I (.bad J)
  | suGo {I J a o} : D .prod I (.ok [a] J) → D (.sumT a) J o → D .sum I o
  | stEnd {a J} : ¬ (kd L J = 43 ∨ kd L J = 45) → D (.sumT a) J (.ok [a] J)
  | stBad {a J K} : (kd L J = 43 ∨ kd L J = 45) → D .prod (J + 1) (.bad K) → D (.sumT a) J (.bad K)
  | stGo {a J b K o} : (kd L J = 43 ∨ kd L J = 45) → D .prod (J + 1) (.ok [b] K) → D (.sumT (.bin (kd L J) (pl L J) a b)) K o → D (.sumT a) J o
  | prBad {I J} : D .minus I (.bad J) → D .prod I (.bad J)
  | prGo {I J a o} : D .minus I (.ok [a] J) → D (.prodT a) J o → D .prod I o
  | ptEnd {a J} : ¬ (kd L J = 42 ∨ kd L J = 47) → D (.prodT a) J (.ok [a] J)
  | ptBad {a J K} : (kd L J = 42 ∨ kd L J = 47) → D .minus (J + 1) (.bad K) → D (.prodT a) J (.bad K)
  | ptGo {a J b K o} : (kd L J = 42 ∨ kd L J = 47) → D .minus (J + 1) (.ok [b] K) → D (.prodT (.bin (kd L J) (pl L J) a b)) K o → D (.prodT a) J o
  | ngBad {I J} : kd L I = 45 → D .minus (I + 1) (.bad J) → D .minus I (.bad J)
  | ngGo {I J a} : kd L I = 45 → D .minus (I + 1) (.ok [a] J) → D .minus I (.ok [.neg (pl L I) a] J)
  | paBad {I J} : kd L I = 40 → D .choice (I + 1) (.bad J) → D .minus I (.bad J)
  | paB1 {I J a} : kd L I = 40 → D .choice (I + 1) (.ok [a] J) → kd L J ≠ 41 → D .minus I (.bad J)
  | paGo {I J a} : kd L I = 40 → D .choice (I + 1) (.ok [a] J) → kd L J = 41 → D .minus I (.ok [a] (J + 1))
  | nuGo {I} : kd L I = 110 → D .minus I (.ok [.num (pl L I) (numOf (tx s L I).data.toList)] (I + 1))
  | noGo {I} : ¬ (kd L I = 45 ∨ kd L I = 40 ∨ kd L I = 97 ∨ kd L I = 110) → D .minus I (.bad I)
  | caB1 {I} : kd L I = 97 → kd L (I + 1) ≠ 40 → D .minus I (.bad (I + 1))
  | meB2 {I} : kd L I = 97 → kd L (I + 1) = 40 → isMeasure (tx s L I) = true → kd L (I + 2) ≠ 97 → D .minus I (.bad (I + 2))
  | meB3 {I} : kd L I = 97 → kd L (I + 1) = 40 → isMeasure (tx s L I) = true → kd L (I + 2) = 97 → kd L (I + 3) ≠ 44 → D .minus I (.bad (I + 3))
  | meB4 {I} : kd L I = 97 → kd L (I + 1) = 40 → isMeasure (tx s L I) = true → kd L (I + 2) = 97 → kd L (I + 3) = 44 → kd L (I + 4) ≠ 110 → D .minus I (.bad (I + 4))
  | meB5 {I} : kd L I = 97 → kd L (I + 1) = 40 → isMeasure (tx s L I) = true → kd L (I + 2) = 97 → kd L (I + 3) = 44 → kd L (I + 4) = 110 → kd L (I + 5) ≠ 41 → D .minus I (.bad (I + 5))
  | meGo {I} : kd L I = 97 → kd L (I + 1) = 40 → isMeasure (tx s L I) = true → kd L (I + 2) = 97 → kd L (I + 3) = 44 → kd L (I + 4) = 110 → kd L (I + 5) = 41 →
      D .minus I (.ok [.meas (pl L I) (tx s L I) (tx s L (I + 2)) (numOf (tx s L (I + 4)).data.toList)] (I + 6))
  | pbNone {I} : kd L I = 97 → kd L (I + 1) = 40 → isMeasure (tx s L I) = false → kd L (I + 2) = 41 → D .minus I (.ok [.probe (pl L I) (tx s L I) []] (I + 3))
  | pbBad {I J} : kd L I = 97 → kd L (I + 1) = 40 → isMeasure (tx s L I) = false → kd L (I + 2) ≠ 41 → D (.args []) (I + 2) (.bad J) → D .minus I (.bad J)
  | pbB1 {I J ts} : kd L I = 97 → kd L (I + 1) = 40 → isMeasure (tx s L I) = false → kd L (I + 2) ≠ 41 → D (.args []) (I + 2) (.ok ts J) → kd L J ≠ 41 → D .minus I (.bad J)
  | pbGo {I J ts} : kd L I = 97 → kd L (I + 1) = 40 → isMeasure (tx s L I) = false → kd L (I + 2) ≠ 41 → D (.args []) (I + 2) (.ok ts J) → kd L J = 41 → D .minus I (.ok [.probe (pl L I) (tx s L I) ts] (J + 1))
  | arBad {acc I J} : D .choice I (.bad J) → D (.args acc) I (.bad J)
  | arEnd {acc I J a} : D .choice I (.ok [a] J) → kd L J ≠ 44 → D (.args acc) I (.ok (acc ++ [a]) J)
  | arGo {acc I J a o} : D .choice I (.ok [a] J) → kd L J = 44 → D (.args (acc ++ [a])) (J + 1) o → D (.args acc) I o
end

theorem D.det {s : ByteArray} {L : List Tok} {v : Lvl} {I : Nat} {o o' : Out} (h : D s L v I o) : D s L v I o' → o = o' := by
  intro h'
  induction h generalizing o' <;> cases h' <;> grind

/-- How far reading goes: never back; where something was read whole, by a token at least. -/
def Lvl.tail : Lvl → Bool
  | .sumT _ => true
  | .prodT _ => true
  | _ => false
def Out.isOk : Out → Bool
  | .ok _ _ => true
  | .bad _ => false
theorem D.grow {s : ByteArray} {L : List Tok} {v : Lvl} {I : Nat} {o : Out} (h : D s L v I o) : I ≤ o.at ∧ (v.tail = false → o.isOk = true → I < o.at) := by
  induction h <;> simp only [Out.at, Out.isOk, Lvl.tail] at * <;> grind

theorem kd_lt {L : List Tok} {i k : Nat} (h : kd L i = k) (hk : k ≠ 0) : i < L.length := by
  rcases Nat.lt_or_ge i L.length with h' | h'
  · exact h'
  · exfalso
    apply hk
    rw [← h]
    simp [kd, List.getD, List.getElem?_eq_none h', default]
    rfl

/-- Where the list ends in a token that is no part of a policy, reading never goes behind it. -/
theorem D.le {s : ByteArray} {L : List Tok} {m : Nat} (hm : L.length = m + 1) (hl : (L.getD m default).last = true) {v : Lvl} {I : Nat} {o : Out} (h : D s L v I o) : I ≤ m → I ≤ o.at ∧ o.at ≤ m := by
  have key : ∀ i, i ≤ m → kd L i ≠ 101 → kd L i ≠ 33 → i + 1 ≤ m := by
    intro i hi h1 h2
    rcases Nat.lt_or_ge i m with h' | h'
    · exact h'
    · obtain rfl : i = m := by omega
      simp [Tok.last] at hl
      rcases hl with hl | hl
      · exact absurd hl h1
      · exact absurd hl h2
  induction h <;> intro hI <;> simp only [Out.at] at * <;> grind
end Go.Proofs.YtaghcjpoihkpjaaGreatDoor
namespace Go.Proofs.YtaghcjpoihkpjaaGreatDoor
open Go.RowKit

/-- All blocks that were there, but number R, are as they were. -/
structure Keep (R : Nat) (w w' : World) : Prop where
  os : w'.os = w.os
  tape : w'.tape = w.tape
  output : w'.output = w.output
  size : w.heap.size ≤ w'.heap.size
  block : ∀ k, k < w.heap.size → k ≠ R → w'.heap[k]? = w.heap[k]?

theorem heap_lt {w : World} {k : Nat} {o : Obj} (h : w.heap[k]? = some o) : k < w.heap.size := by
  rcases Nat.lt_or_ge k w.heap.size with h' | h'
  · exact h'
  · rw [Array.getElem?_eq_none h'] at h; cases h
theorem heap_alloc_old {w : World} {k : Nat} {o x : Obj} (h : w.heap[k]? = some x) : (w.alloc o).heap[k]? = some x := (Below.heap_alloc w o k (heap_lt h)).trans h
theorem heap_set_other {w : World} {a : Addr} {v : Value} {k : Nat} {x : Obj} (h : w.heap[k]? = some x) (hne : k ≠ a.block) : (w.setCell a v).heap[k]? = some x := (Below.heap_setCell w a v k hne).trans h
theorem heap_set_same {w : World} {R i : Nat} {v : Value} {cs : Array Value} {t : TypeId} {z : Nat × Nat} (h : w.heap[R]? = some (.cells cs t z)) : (w.setCell ⟨R, i, none⟩ v).heap[R]? = some (.cells (cs.setIfInBounds i v) t z) := by
  simp [World.setCell, Array.getElem?_modify, h]
theorem cell_of_heap {w : World} {R i : Nat} {v : Value} {cs : Array Value} {t : TypeId} {z : Nat × Nat} (h : w.heap[R]? = some (.cells cs t z)) (hv : cs[i]? = some v) : w.cell? ⟨R, i, none⟩ = some v := by
  simp [World.cell?, h, hv]
theorem frozen_of_heap {w : World} {R i : Nat} {cs : Array Value} {t : TypeId} (h : w.heap[R]? = some (.cells cs t (0, 0))) : w.frozen? ⟨R, i, none⟩ = false := by
  simp [World.frozen?, h]

namespace Keep
variable {R : Nat} {w w1 w2 : World}
theorem refl (R : Nat) (w : World) : Keep R w w := ⟨rfl, rfl, rfl, Nat.le_refl _, fun _ _ _ => rfl⟩
theorem trans (h : Keep R w w1) (k : Keep R w1 w2) : Keep R w w2 :=
  ⟨k.os.trans h.os, k.tape.trans h.tape, k.output.trans h.output, Nat.le_trans h.size k.size, fun i hi hne => (k.block i (Nat.lt_of_lt_of_le hi h.size) hne).trans (h.block i hi hne)⟩
theorem of_below (h : Below w.heap.size w w1) : Keep R w w1 := ⟨h.os, h.tape, h.output, h.size, fun k hk _ => h.block k hk⟩
theorem below (h : Keep R w w1) {B : Nat} (hB : B ≤ w.heap.size) (hR : B ≤ R) : Below B w w1 := ⟨h.os, h.tape, h.output, h.size, fun k hk => h.block k (by omega) (by omega)⟩
theorem alloc (h : Keep R w w1) (o : Obj) : Keep R w (w1.alloc o) :=
  ⟨h.os, h.tape, h.output, by simp; exact Nat.le_succ_of_le h.size, fun k hk hne => (Below.heap_alloc w1 o k (Nat.lt_of_lt_of_le hk h.size)).trans (h.block k hk hne)⟩
theorem drew (h : Keep R w w1) : Keep R w w1.drew := ⟨h.os, h.tape, h.output, h.size, h.block⟩
theorem drewN (h : Keep R w w1) (n : Nat) : Keep R w (w1.drewN n) := ⟨h.os, h.tape, h.output, h.size, h.block⟩
theorem setR (h : Keep R w w1) (i : Nat) (v : Value) : Keep R w (w1.setCell ⟨R, i, none⟩ v) :=
  ⟨h.os, h.tape, h.output, by simp; exact h.size, fun k hk hne => (Below.heap_setCell w1 _ v k hne).trans (h.block k hk hne)⟩
theorem setNew (h : Keep R w w1) {a : Addr} (ha : w.heap.size ≤ a.block) (v : Value) : Keep R w (w1.setCell a v) :=
  ⟨h.os, h.tape, h.output, by simp; exact h.size, fun k hk hne => (Below.heap_setCell w1 _ v k (by omega)).trans (h.block k hk hne)⟩
theorem heap (h : Keep R w w1) {k : Nat} {o : Obj} (hk : w.heap[k]? = some o) (hne : k ≠ R) : w1.heap[k]? = some o := (h.block k (heap_lt hk) hne).trans hk
theorem cell (h : Keep R w w1) {a : Addr} {v : Value} (hc : w.cell? a = some v) (hne : a.block ≠ R) : w1.cell? a = some v :=
  (World.cell?_of_block (h.block a.block (World.block_lt_of_cell? w a hc) hne)).trans hc
end Keep
end Go.Proofs.YtaghcjpoihkpjaaGreatDoor
namespace Go.Proofs.YtaghcjpoihkpjaaGreatDoor
open Go.RowKit

theorem u8_beq (c d : UInt8) : (c == d) = ((c.toNat : Int) == (d.toNat : Int)) := by
  rw [Bool.eq_iff_iff]
  simp only [beq_iff_eq, ← UInt8.toNat_inj]
  omega
theorem isSign_int (c : UInt8) : isSign c = (((c.toNat : Int) == 63) || ((c.toNat : Int) == 58) || ((c.toNat : Int) == 60) || ((c.toNat : Int) == 62) || ((c.toNat : Int) == 61) || ((c.toNat : Int) == 43) || ((c.toNat : Int) == 45) || ((c.toNat : Int) == 42) || ((c.toNat : Int) == 47) || ((c.toNat : Int) == 40) || ((c.toNat : Int) == 41) || ((c.toNat : Int) == 44)) := by
  unfold isSign
  rw [u8_beq c 63, u8_beq c 58, u8_beq c 60, u8_beq c 62, u8_beq c 61, u8_beq c 43, u8_beq c 45, u8_beq c 42, u8_beq c 47, u8_beq c 40, u8_beq c 41, u8_beq c 44]
  rfl

/-- A token, as a value. -/
abbrev tokenOf (k p : Nat) (t : ByteArray) : Value := .agg #[.int .u8 k, .int .i64 p, .string t]
end Go.Proofs.YtaghcjpoihkpjaaGreatDoor
namespace Go.Proofs.YtaghcjpoihkpjaaGreatDoor
open Go.RowKit

theorem isMeasure_or (b : ByteArray) : isMeasure b = (b.toList == [115, 117, 109] || b.toList == [99, 111, 117, 110, 116] || b.toList == [108, 101, 97, 115, 116] || b.toList == [109, 111, 115, 116] || b.toList == [109, 101, 97, 110] || b.toList == [108, 97, 115, 116]) := by
  simp only [isMeasure, List.contains_eq_any_beq, List.any_cons, List.any_nil, Bool.or_false, Bool.or_assoc]

theorem numOf_snoc (l : List UInt8) (x : UInt8) : numOf (l ++ [x]) = 10 * numOf l + ((x.toNat : Int) - 48) := by simp [numOf]
theorem byte_at {b : ByteArray} {k : Nat} (h : k < b.size) : b.data.toList[k]? = some b[k] := by
  rw [List.getElem?_eq_getElem (by simpa using h)]
  rfl
theorem numOf_take {b : ByteArray} {k : Nat} (h : k < b.size) : numOf (b.data.toList.take (k + 1)) = 10 * numOf (b.data.toList.take k) + ((b[k].toNat : Int) - 48) := by
  rw [List.take_add_one, byte_at h]
  exact numOf_snoc _ _
theorem numOf_lt {b : ByteArray} (hd : ∀ x ∈ b.data.toList, isDig x = true) : ∀ k, k ≤ b.size → 0 ≤ numOf (b.data.toList.take k) ∧ numOf (b.data.toList.take k) < 10 ^ k
  | 0, _ => by simp [numOf]
  | k + 1, h => by
    have h1 := numOf_lt hd k (by omega)
    have h2 := hd _ (List.mem_of_getElem? (byte_at (b := b) (k := k) (by omega)))
    simp [isDig] at h2
    rw [numOf_take (by omega), Int.pow_succ]
    omega
theorem wrap_in {n : Int} (h : -9223372036854775808 ≤ n ∧ n ≤ 9223372036854775807) : wrap64 n = n := by unfold wrap64; omega
theorem pow9 {k : Nat} (h : k ≤ 9) : (10 : Int) ^ k ≤ 1000000000 := by
  have : ∀ k : Fin 10, (10 : Int) ^ k.val ≤ 1000000000 := by decide
  exact this ⟨k, by omega⟩

end Go.Proofs.YtaghcjpoihkpjaaGreatDoor
namespace Go.Proofs.YtaghcjpoihkpjaaGreatDoor
open Go.Lib

theorem decode_le {s : ByteArray} {i : Nat} (h : i < s.size) : i + (Utf8.decode s i).2 ≤ s.size := by
  rw [decode_at]
  have := decodeN_width_le (s.size - i) (s.get! i).toNat (s.get! (i + 1)).toNat (s.get! (i + 2)).toNat (s.get! (i + 3)).toNat (by omega)
  omega
/-- More steps than there are bytes do nothing. -/
theorem wordFrom_fuel (s : ByteArray) : ∀ (f g i n : Nat), s.size - i ≤ f → s.size - i ≤ g → wordFrom s f i n = wordFrom s g i n
  | 0, g, i, n, h, _ => by
    cases g with
    | zero => rfl
    | succ g => simp [wordFrom, show ¬ i < s.size by omega]
  | f + 1, 0, i, n, _, h => by simp [wordFrom, show ¬ i < s.size by omega]
  | f + 1, g + 1, i, n, hf, hg => by
    unfold wordFrom
    split
    · rename_i h
      have := width_pos s i
      exact wordFrom_fuel s f g _ _ (by omega) (by omega)
    · rfl
theorem wordFrom_le (s : ByteArray) : ∀ (f i n : Nat), i ≤ s.size → i ≤ (wordFrom s f i n).1 ∧ (wordFrom s f i n).1 ≤ s.size ∧ n ≤ (wordFrom s f i n).2 ∧ (n < (wordFrom s f i n).2 → i < (wordFrom s f i n).1) ∧ (wordFrom s f i n).2 - n ≤ (wordFrom s f i n).1 - i
  | 0, i, n, h => by simp [wordFrom]; exact h
  | f + 1, i, n, h => by
    unfold wordFrom
    split
    · rename_i hh
      have h1 := width_pos s i
      have h2 := decode_le hh.1
      have := wordFrom_le s f (i + (Utf8.decode s i).2) (n + 1) h2
      omega
    · simp; exact h
theorem digFrom_fuel (s : ByteArray) : ∀ (f g i : Nat), s.size - i ≤ f → s.size - i ≤ g → digFrom s f i = digFrom s g i
  | 0, g, i, h, _ => by
    cases g with
    | zero => rfl
    | succ g => simp [digFrom, show ¬ i < s.size by omega]
  | f + 1, 0, i, _, h => by simp [digFrom, show ¬ i < s.size by omega]
  | f + 1, g + 1, i, hf, hg => by
    unfold digFrom
    split
    · exact digFrom_fuel s f g _ (by omega) (by omega)
    · rfl
theorem digFrom_le (s : ByteArray) : ∀ (f i : Nat), i ≤ s.size → i ≤ digFrom s f i ∧ digFrom s f i ≤ s.size
  | 0, i, h => by simp [digFrom]; exact h
  | f + 1, i, h => by
    unfold digFrom
    split
    · have := digFrom_le s f (i + 1) (by omega)
      omega
    · exact ⟨Nat.le_refl _, h⟩
theorem skipFrom_fuel (s : ByteArray) : ∀ (f g i : Nat), s.size - i ≤ f → s.size - i ≤ g → skipFrom s f i = skipFrom s g i
  | 0, g, i, h, _ => by
    cases g with
    | zero => rfl
    | succ g => simp [skipFrom, show ¬ i < s.size by omega]
  | f + 1, 0, i, _, h => by simp [skipFrom, show ¬ i < s.size by omega]
  | f + 1, g + 1, i, hf, hg => by
    unfold skipFrom
    split
    · exact skipFrom_fuel s f g _ (by omega) (by omega)
    · rfl
theorem skipFrom_le (s : ByteArray) : ∀ (f i : Nat), i ≤ s.size → i ≤ skipFrom s f i ∧ skipFrom s f i ≤ s.size
  | 0, i, h => by simp [skipFrom]; exact h
  | f + 1, i, h => by
    unfold skipFrom
    split
    · have := skipFrom_le s f (i + 1) (by omega)
      omega
    · exact ⟨Nat.le_refl _, h⟩
theorem skip_le {s : ByteArray} {i : Nat} (h : i ≤ s.size) : i ≤ skip s i ∧ skip s i ≤ s.size := skipFrom_le s _ i h
theorem digEnd_le {s : ByteArray} {i : Nat} (h : i ≤ s.size) : i ≤ digEnd s i ∧ digEnd s i ≤ s.size := digFrom_le s _ i h
theorem skip_blank {s : ByteArray} {i : Nat} (h : i < s.size) (hb : blank (byteAt s i) = true) : skip s i = skip s (i + 1) := by
  unfold skip
  obtain ⟨f, hf⟩ : ∃ f, s.size - i = f + 1 := ⟨s.size - i - 1, by omega⟩
  rw [hf, skipFrom, if_pos ⟨h, hb⟩]
  exact skipFrom_fuel s _ _ _ (by omega) (by omega)
theorem skip_here {s : ByteArray} {i : Nat} (hb : blank (byteAt s i) = false) : skip s i = i := by
  unfold skip
  cases h : s.size - i with
  | zero => rfl
  | succ f => rw [skipFrom, if_neg (by simp [hb])]
theorem skip_end (s : ByteArray) : skip s s.size = s.size := by unfold skip; rw [Nat.sub_self]; rfl

/-- A token that is not the last one goes on by a byte at least. -/
theorem tokAt_stop {s : ByteArray} {i : Nat} (hi : i ≤ s.size) (h : (tokAt s i).last = false) : i < (tokAt s i).stop ∧ (tokAt s i).stop ≤ s.size ∧ i < s.size ∧ (tokAt s i).pos = i := by
  revert h
  unfold tokAt
  have h1 := digEnd_le hi
  have h2 := wordFrom_le s (s.size - i) i 0 hi
  repeat' split
  all_goals simp only [Tok.last] <;> simp
  · intro _; omega
  · omega
  · rename_i h3; unfold wordEnd at h3 ⊢; omega
theorem tokFrom_stop {s : ByteArray} {i : Nat} (hi : i ≤ s.size) (h : (tokFrom s i).last = false) : i < (tokFrom s i).stop ∧ (tokFrom s i).stop ≤ s.size := by
  have h1 := skip_le hi
  have := tokAt_stop h1.2 h
  unfold tokFrom
  omega
theorem toksFrom_fuel (s : ByteArray) : ∀ (f g i : Nat), i ≤ s.size → s.size - i ≤ f → s.size - i ≤ g → toksFrom s f i = toksFrom s g i := by
  have last : ∀ f, toksFrom s f s.size = [tokFrom s s.size] := by
    intro f
    have h : (tokFrom s s.size).last = true := by
      unfold tokFrom
      rw [skip_end]
      simp [tokAt, Tok.last]
    cases f with
    | zero => rfl
    | succ f => rw [toksFrom, if_pos h]
  intro f
  induction f with
  | zero =>
    intro g i hi h _
    obtain rfl : i = s.size := by omega
    rw [last, last]
  | succ f ih =>
    intro g i hi hf hg
    cases g with
    | zero =>
      obtain rfl : i = s.size := by omega
      rw [last, last]
    | succ g =>
      rw [toksFrom, toksFrom]
      cases h : (tokFrom s i).last with
      | true => rfl
      | false =>
        have := tokFrom_stop hi h
        simp only [Bool.false_eq_true, if_false]
        rw [ih g _ this.2 (by omega) (by omega)]
/-- The tokens from place i on. -/
def toksAt (s : ByteArray) (i : Nat) : List Tok := toksFrom s (s.size - i) i
theorem toks_at (s : ByteArray) : toks s = toksAt s 0 := rfl
theorem toksAt_last {s : ByteArray} {i : Nat} (h : (tokFrom s i).last = true) : toksAt s i = [tokFrom s i] := by
  unfold toksAt
  cases s.size - i with
  | zero => rfl
  | succ f => rw [toksFrom, if_pos h]
theorem toksAt_cons {s : ByteArray} {i : Nat} (hi : i ≤ s.size) (h : (tokFrom s i).last = false) : toksAt s i = tokFrom s i :: toksAt s (tokFrom s i).stop := by
  have h1 := tokFrom_stop hi h
  unfold toksAt
  obtain ⟨f, hf⟩ : ∃ f, s.size - i = f + 1 := ⟨s.size - i - 1, by omega⟩
  rw [hf, toksFrom, h]
  simp only [Bool.false_eq_true, if_false]
  rw [toksFrom_fuel s f _ _ h1.2 (by omega) (Nat.le_refl _)]
theorem toksAt_blank {s : ByteArray} {i : Nat} (hi : i < s.size) (hb : blank (byteAt s i) = true) : toksAt s i = toksAt s (i + 1) := by
  have e : tokFrom s i = tokFrom s (i + 1) := by unfold tokFrom; rw [skip_blank hi hb]
  cases h : (tokFrom s i).last with
  | true => rw [toksAt_last h, toksAt_last (e ▸ h), e]
  | false =>
    have h' : (tokFrom s (i + 1)).last = false := e ▸ h
    rw [toksAt_cons (i := i) (by omega) h, toksAt_cons (i := i + 1) (by omega) h', e]
end Go.Proofs.YtaghcjpoihkpjaaGreatDoor
