/-
  THE DOCUMENT'S GRAMMAR IN PLAIN LEAN (no program is named): tokens, trees, and which tree a list of tokens is read to, or where it cannot go on.
-/
import Derived.Lib.IsU
import Derived.Lib.RuneCount
import Derived.WalkKit
import Derived.Deep.Draws
import Derived.Below
import Derived.Test.YtihmgoahobbdkaaGreatDoorProg
import Derived.Deep.QuietTactic
import Derived.BigQuiet
import Derived.BigRegion
namespace Go.Proofs.YtihmgoahobbdkaaGreatDoor
open Go.Lib

def blank (b : UInt8) : Bool := b == 32 || b == 9 || b == 10
def isSign (b : UInt8) : Bool := b == 63 || b == 58 || b == 60 || b == 62 || b == 61 || b == 43 || b == 45 || b == 42 || b == 47 || b == 40 || b == 41 || b == 44
def isDig (b : UInt8) : Bool := decide (48 ≤ b.toNat) && decide (b.toNat ≤ 57)
def byteAt (s : ByteArray) (i : Nat) : UInt8 := (s.data.toList[i]?).getD 0
/-- May the rune at this place stand in a name? -/
def namePart (first : Bool) (r : Nat) : Bool := isLetterU r || (isDigitU r && !first)

def skipFrom (s : ByteArray) : Nat → Nat → Nat
  | 0, i => i
  | f + 1, i => if i < s.size ∧ blank (byteAt s i) = true then skipFrom s f (i + 1) else i
def skip (s : ByteArray) (i : Nat) : Nat := skipFrom s (s.size - i) i
def digFrom (s : ByteArray) : Nat → Nat → Nat
  | 0, i => i
  | f + 1, i => if i < s.size ∧ isDig (byteAt s i) = true then digFrom s f (i + 1) else i
def digEnd (s : ByteArray) (i : Nat) : Nat := digFrom s (s.size - i) i
/-- Where the name that begins at i ends, and how many runes it has (n of them are behind us). -/
def wordFrom (s : ByteArray) : Nat → Nat → Nat → Nat × Nat
  | 0, i, n => (i, n)
  | f + 1, i, n => if i < s.size ∧ namePart (n == 0) (Utf8.decode s i).1 = true then wordFrom s f (i + (Utf8.decode s i).2) (n + 1) else (i, n)
def wordEnd (s : ByteArray) (i : Nat) : Nat × Nat := wordFrom s (s.size - i) i 0

structure Tok where
  kind : Nat
  pos : Nat
  stop : Nat
deriving DecidableEq, Inhabited

/-- The token that begins at place i (no blank stands there). -/
def tokAt (s : ByteArray) (i : Nat) : Tok :=
  if s.size ≤ i then ⟨101, s.size, s.size⟩
  else if isSign (byteAt s i) = true then ⟨(byteAt s i).toNat, i, i + 1⟩
  else if i < digEnd s i then (if digEnd s i - i ≤ 9 then ⟨110, i, digEnd s i⟩ else ⟨33, i, i⟩)
  else if (wordEnd s i).2 = 0 ∨ 12 < (wordEnd s i).2 then ⟨33, i, i⟩ else ⟨97, i, (wordEnd s i).1⟩
def Tok.last (t : Tok) : Bool := t.kind == 101 || t.kind == 33
/-- The token behind place i. -/
def tokFrom (s : ByteArray) (i : Nat) : Tok := tokAt s (skip s i)
def toksFrom (s : ByteArray) : Nat → Nat → List Tok
  | 0, i => [tokFrom s i]
  | f + 1, i => if (tokFrom s i).last = true then [tokFrom s i] else tokFrom s i :: toksFrom s f (tokFrom s i).stop
def toks (s : ByteArray) : List Tok := toksFrom s s.size 0
def Tok.text (s : ByteArray) (t : Tok) : ByteArray := s.extract t.pos t.stop

/-- A run of digits as a number. -/
def numOf (l : List UInt8) : Int := l.foldl (fun n b => 10 * n + (b.toNat - 48 : Int)) 0
def isMeasure (b : ByteArray) : Bool :=
  [[115, 117, 109], [99, 111, 117, 110, 116], [108, 101, 97, 115, 116], [109, 111, 115, 116], [109, 101, 97, 110], [108, 97, 115, 116]].contains b.toList

inductive Tree where
  | num (pos : Nat) (n : Int)
  | neg (pos : Nat) (a : Tree)
  | bin (sign : Nat) (pos : Nat) (a b : Tree)
  | ite (pos : Nat) (a b c : Tree)
  | meas (pos : Nat) (word metric : ByteArray) (n : Int)
  | probe (pos : Nat) (word : ByteArray) (args : List Tree)

inductive Out where
  | ok (ts : List Tree) (i : Nat)
  | bad (i : Nat)
def Out.at : Out → Nat
  | .ok _ i => i
  | .bad i => i

inductive Lvl where
  | choice | compare | sum | sumT (a : Tree) | prod | prodT (a : Tree) | minus | args (acc : List Tree)

section
variable (s : ByteArray) (L : List Tok)
def kd (i : Nat) : Nat := (L.getD i default).kind
def pl (i : Nat) : Nat := (L.getD i default).pos
def tx (i : Nat) : ByteArray := (L.getD i default).text s

/-- Read at a level from token number I on, that comes out. -/
inductive D : Lvl → Nat → Out → Prop
  | chBad {I J} : D .compare I (.bad J) → D .choice I (.bad J)
  | chOne {I J a} : D .compare I (.ok [a] J) → kd L J ≠ 63 → D .choice I (.ok [a] J)
  | chB1 {I J a K} : D .compare I (.ok [a] J) → kd L J = 63 → D .choice (J + 1) (.bad K) → D .choice I (.bad K)
  | chB2 {I J a b K} : D .compare I (.ok [a] J) → kd L J = 63 → D .choice (J + 1) (.ok [b] K) → kd L K ≠ 58 → D .choice I (.bad K)
  | chB3 {I J a b K M} : D .compare I (.ok [a] J) → kd L J = 63 → D .choice (J + 1) (.ok [b] K) → kd L K = 58 → D .choice (K + 1) (.bad M) → D .choice I (.bad M)
  | chIf {I J a b c K M} : D .compare I (.ok [a] J) → kd L J = 63 → D .choice (J + 1) (.ok [b] K) → kd L K = 58 → D .choice (K + 1) (.ok [c] M) → D .choice I (.ok [.ite (pl L J) a b c] M)
  | cmBad {I J} : D .sum I (.bad J) → D .compare I (.bad J)
  | cmOne {I J a} : D .sum I (.ok [a] J) → ¬ (kd L J = 60 ∨ kd L J = 62 ∨ kd L J = 61) → D .compare I (.ok [a] J)
  | cmB1 {I J a K} : D .sum I (.ok [a] J) → (kd L J = 60 ∨ kd L J = 62 ∨ kd L J = 61) → D .sum (J + 1) (.bad K) → D .compare I (.bad K)
  | cmTwo {I J a b K} : D .sum I (.ok [a] J) → (kd L J = 60 ∨ kd L J = 62 ∨ kd L J = 61) → D .sum (J + 1) (.ok [b] K) → D .compare I (.ok [.bin (kd L J) (pl L J) a b] K)
  | suBad {I J} : D .prod I (.bad J) → D .sum I (.bad J)
  | suGo {I J a o} : D .prod I (.ok [a] J) → D (.sumT a) J o → D .sum I o
  | stEnd {a J} : ¬ (kd L J = 43 ∨ kd L J = 45) → D (.sumT a) J (.ok [a] J)
  | stBad {a J K} : (kd L J = 43 ∨ kd L J = 45) → D .prod (J + 1) (.bad K) → D (.sumT a) J (.bad K)
  | stGo {a J b K o} : (kd L J = 43 ∨ kd L J = 45) → D .prod (J + 1) (.ok [b] K) → D (.sumT (.bin (kd L J) (pl L J) a b)) K o → D (.sumT a) J o
  | prBad {I J} : D .minus I (.bad J) → D .prod I (.bad J)
  | prGo {I J a o} : D .minus I (.ok [a] J) → D (.prodT a) J o → D .prod I o
  | ptEnd {a J} : ¬ (kd L J = 42 ∨ kd L J = 47) → D (.prodT a) J (.ok [a] J)
  | ptBad {a J K} : (kd L J = 42 ∨ kd L J = 47) → D .minus (J + 1) (.bad K) → D (.prodT a) J (.bad K)
  | ptGo {a J b K o} : (kd L J = 42 ∨ kd L J = 47) → D .minus (J + 1) (.ok [b] K) → D (.prodT (.bin (kd L J) (pl L J) a b)) K o → D (.prodT a) J o
  | ngBad {I J} : kd L I = 45 → D .minus (I + 1) (.bad J) → D .minus I (.bad J)
  | ngGo {I J a} : kd L I = 45 → D .minus (I + 1) (.ok [a] J) → D .minus I (.ok [.neg (pl L I) a] J)
  | paBad {I J} : kd L I = 40 → D .choice (I + 1) (.bad J) → D .minus I (.bad J)
  | paB1 {I J a} : kd L I = 40 → D .choice (I + 1) (.ok [a] J) → kd L J ≠ 41 → D .minus I (.bad J)
  | paGo {I J a} : kd L I = 40 → D .choice (I + 1) (.ok [a] J) → kd L J = 41 → D .minus I (.ok [a] (J + 1))
  | nuGo {I} : kd L I = 110 → D .minus I (.ok [.num (pl L I) (numOf (tx s L I).data.toList)] (I + 1))
  | noGo {I} : ¬ (kd L I = 45 ∨ kd L I = 40 ∨ kd L I = 97 ∨ kd L I = 110) → D .minus I (.bad I)
  | caB1 {I} : kd L I = 97 → kd L (I + 1) ≠ 40 → D .minus I (.bad (I + 1))
  | meB2 {I} : kd L I = 97 → kd L (I + 1) = 40 → isMeasure (tx s L I) = true → kd L (I + 2) ≠ 97 → D .minus I (.bad (I + 2))
  | meB3 {I} : kd L I = 97 → kd L (I + 1) = 40 → isMeasure (tx s L I) = true → kd L (I + 2) = 97 → kd L (I + 3) ≠ 44 → D .minus I (.bad (I + 3))
  | meB4 {I} : kd L I = 97 → kd L (I + 1) = 40 → isMeasure (tx s L I) = true → kd L (I + 2) = 97 → kd L (I + 3) = 44 → kd L (I + 4) ≠ 110 → D .minus I (.bad (I + 4))
  | meB5 {I} : kd L I = 97 → kd L (I + 1) = 40 → isMeasure (tx s L I) = true → kd L (I + 2) = 97 → kd L (I + 3) = 44 → kd L (I + 4) = 110 → kd L (I + 5) ≠ 41 → D .minus I (.bad (I + 5))
  | meGo {I} : kd L I = 97 → kd L (I + 1) = 40 → isMeasure (tx s L I) = true → kd L (I + 2) = 97 → kd L (I + 3) = 44 → kd L (I + 4) = 110 → kd L (I + 5) = 41 →
      D .minus I (.ok [.meas (pl L I) (tx s L I) (tx s L (I + 2)) (numOf (tx s L (I + 4)).data.toList)] (I + 6))
  | pbNone {I} : kd L I = 97 → kd L (I + 1) = 40 → isMeasure (tx s L I) = false → kd L (I + 2) = 41 → D .minus I (.ok [.probe (pl L I) (tx s L I) []] (I + 3))
  | pbBad {I J} : kd L I = 97 → kd L (I + 1) = 40 → isMeasure (tx s L I) = false → kd L (I + 2) ≠ 41 → D (.args []) (I + 2) (.bad J) → D .minus I (.bad J)
  | pbB1 {I J ts} : kd L I = 97 → kd L (I + 1) = 40 → isMeasure (tx s L I) = false → kd L (I + 2) ≠ 41 → D (.args []) (I + 2) (.ok ts J) → kd L J ≠ 41 → D .minus I (.bad J)
  | pbGo {I J ts} : kd L I = 97 → kd L (I + 1) = 40 → isMeasure (tx s L I) = false → kd L (I + 2) ≠ 41 → D (.args []) (I + 2) (.ok ts J) → kd L J = 41 → D .minus I (.ok [.probe (pl L I) (tx s L I) ts] (J + 1))
  | arBad {acc I J} : D .choice I (.bad J) → D (.args acc) I (.bad J)
  | arEnd {acc I J a} : D .choice I (.ok [a] J) → kd L J ≠ 44 → D (.args acc) I (.ok (acc ++ [a]) J)
  | arGo {acc I J a o} : D .choice I (.ok [a] J) → kd L J = 44 → D (.args (acc ++ [a])) (J + 1) o → D (.args acc) I o
end

theorem D.det {s : ByteArray} {L : List Tok} {v : Lvl} {I : Nat} {o o' : Out} (h : D s L v I o) : D s L v I o' → o = o' := by
  intro h'
  induction h generalizing o' <;> cases h' <;> grind

/-- How far reading goes: never back; where something was read whole, by a token at least. -/
def Lvl.tail : Lvl → Bool
  | .sumT _ => true
  | .prodT _ => true
  | _ => false
def Out.isOk : Out → Bool
  | .ok _ _ => true
  | .bad _ => false
theorem D.grow {s : ByteArray} {L : List Tok} {v : Lvl} {I : Nat} {o : Out} (h : D s L v I o) : I ≤ o.at ∧ (v.tail = false → o.isOk = true → I < o.at) := by
  induction h <;> simp only [Out.at, Out.isOk, Lvl.tail] at * <;> grind

theorem kd_lt {L : List Tok} {i k : Nat} (h : kd L i = k) (hk : k ≠ 0) : i < L.length := by
  rcases Nat.lt_or_ge i L.length with h' | h'
  · exact h'
  · exfalso
    apply hk
    rw [← h]
    simp [kd, List.getD, List.getElem?_eq_none h', default]
    rfl

/-- Where the list ends in a token that is no part of a policy, reading never goes behind it. -/
theorem D.le {s : ByteArray} {L : List Tok} {m : Nat} (hm : L.length = m + 1) (hl : (L.getD m default).last = true) {v : Lvl} {I : Nat} {o : Out} (h : D s L v I o) : I ≤ m → I ≤ o.at ∧ o.at ≤ m := by
  have key : ∀ i, i ≤ m → kd L i ≠ 101 → kd L i ≠ 33 → i + 1 ≤ m := by
    intro i hi h1 h2
    rcases Nat.lt_or_ge i m with h' | h'
    · exact h'
    · obtain rfl : i = m := by omega
      simp [Tok.last] at hl
      rcases hl with hl | hl
      · exact absurd hl h1
      · exact absurd hl h2
  induction h <;> intro hI <;> simp only [Out.at] at * <;> grind
end Go.Proofs.YtihmgoahobbdkaaGreatDoor
namespace Go.Proofs.YtihmgoahobbdkaaGreatDoor
open Go.RowKit

/-- All blocks that were there, but number R, are as they were. -/
structure Keep (R : Nat) (w w' : World) : Prop where
  os : w'.os = w.os
  tape : w'.tape = w.tape
  output : w'.output = w.output
  size : w.heap.size ≤ w'.heap.size
  block : ∀ k, k < w.heap.size → k ≠ R → w'.heap[k]? = w.heap[k]?

theorem heap_lt {w : World} {k : Nat} {o : Obj} (h : w.heap[k]? = some o) : k < w.heap.size := by
  rcases Nat.lt_or_ge k w.heap.size with h' | h'
  · exact h'
  · rw [Array.getElem?_eq_none h'] at h; cases h
theorem heap_alloc_old {w : World} {k : Nat} {o x : Obj} (h : w.heap[k]? = some x) : (w.alloc o).heap[k]? = some x := (Below.heap_alloc w o k (heap_lt h)).trans h
theorem heap_set_other {w : World} {a : Addr} {v : Value} {k : Nat} {x : Obj} (h : w.heap[k]? = some x) (hne : k ≠ a.block) : (w.setCell a v).heap[k]? = some x := (Below.heap_setCell w a v k hne).trans h
theorem heap_set_same {w : World} {R i : Nat} {v : Value} {cs : Array Value} {t : TypeId} {z : Nat × Nat} (h : w.heap[R]? = some (.cells cs t z)) : (w.setCell ⟨R, i, none⟩ v).heap[R]? = some (.cells (cs.setIfInBounds i v) t z) := by
  simp [World.setCell, Array.getElem?_modify, h]
theorem cell_of_heap {w : World} {R i : Nat} {v : Value} {cs : Array Value} {t : TypeId} {z : Nat × Nat} (h : w.heap[R]? = some (.cells cs t z)) (hv : cs[i]? = some v) : w.cell? ⟨R, i, none⟩ = some v := by
  simp [World.cell?, h, hv]
theorem frozen_of_heap {w : World} {R i : Nat} {cs : Array Value} {t : TypeId} (h : w.heap[R]? = some (.cells cs t (0, 0))) : w.frozen? ⟨R, i, none⟩ = false := by
  simp [World.frozen?, h]

namespace Keep
variable {R : Nat} {w w1 w2 : World}
theorem refl (R : Nat) (w : World) : Keep R w w := ⟨rfl, rfl, rfl, Nat.le_refl _, fun _ _ _ => rfl⟩
theorem trans (h : Keep R w w1) (k : Keep R w1 w2) : Keep R w w2 :=
  ⟨k.os.trans h.os, k.tape.trans h.tape, k.output.trans h.output, Nat.le_trans h.size k.size, fun i hi hne => (k.block i (Nat.lt_of_lt_of_le hi h.size) hne).trans (h.block i hi hne)⟩
theorem of_below (h : Below w.heap.size w w1) : Keep R w w1 := ⟨h.os, h.tape, h.output, h.size, fun k hk _ => h.block k hk⟩
theorem below (h : Keep R w w1) {B : Nat} (hB : B ≤ w.heap.size) (hR : B ≤ R) : Below B w w1 := ⟨h.os, h.tape, h.output, h.size, fun k hk => h.block k (by omega) (by omega)⟩
theorem alloc (h : Keep R w w1) (o : Obj) : Keep R w (w1.alloc o) :=
  ⟨h.os, h.tape, h.output, by simp; exact Nat.le_succ_of_le h.size, fun k hk hne => (Below.heap_alloc w1 o k (Nat.lt_of_lt_of_le hk h.size)).trans (h.block k hk hne)⟩
theorem drew (h : Keep R w w1) : Keep R w w1.drew := ⟨h.os, h.tape, h.output, h.size, h.block⟩
theorem drewN (h : Keep R w w1) (n : Nat) : Keep R w (w1.drewN n) := ⟨h.os, h.tape, h.output, h.size, h.block⟩
theorem setR (h : Keep R w w1) (i : Nat) (v : Value) : Keep R w (w1.setCell ⟨R, i, none⟩ v) :=
  ⟨h.os, h.tape, h.output, by simp; exact h.size, fun k hk hne => (Below.heap_setCell w1 _ v k hne).trans (h.block k hk hne)⟩
theorem setNew (h : Keep R w w1) {a : Addr} (ha : w.heap.size ≤ a.block) (v : Value) : Keep R w (w1.setCell a v) :=
  ⟨h.os, h.tape, h.output, by simp; exact h.size, fun k hk hne => (Below.heap_setCell w1 _ v k (by omega)).trans (h.block k hk hne)⟩
theorem heap (h : Keep R w w1) {k : Nat} {o : Obj} (hk : w.heap[k]? = some o) (hne : k ≠ R) : w1.heap[k]? = some o := (h.block k (heap_lt hk) hne).trans hk
theorem cell (h : Keep R w w1) {a : Addr} {v : Value} (hc : w.cell? a = some v) (hne : a.block ≠ R) : w1.cell? a = some v :=
  (World.cell?_of_block (h.block a.block (World.block_lt_of_cell? w a hc) hne)).trans hc
end Keep
end Go.Proofs.YtihmgoahobbdkaaGreatDoor
namespace Go.Proofs.YtihmgoahobbdkaaGreatDoor
open Go.RowKit

theorem u8_beq (c d : UInt8) : (c == d) = ((c.toNat : Int) == (d.toNat : Int)) := by
  rw [Bool.eq_iff_iff]
  simp only [beq_iff_eq, ← UInt8.toNat_inj]
  omega
theorem isSign_int (c : UInt8) : isSign c = (((c.toNat : Int) == 63) || ((c.toNat : Int) == 58) || ((c.toNat : Int) == 60) || ((c.toNat : Int) == 62) || ((c.toNat : Int) == 61) || ((c.toNat : Int) == 43) || ((c.toNat : Int) == 45) || ((c.toNat : Int) == 42) || ((c.toNat : Int) == 47) || ((c.toNat : Int) == 40) || ((c.toNat : Int) == 41) || ((c.toNat : Int) == 44)) := by
  unfold isSign
  rw [u8_beq c 63, u8_beq c 58, u8_beq c 60, u8_beq c 62, u8_beq c 61, u8_beq c 43, u8_beq c 45, u8_beq c 42, u8_beq c 47, u8_beq c 40, u8_beq c 41, u8_beq c 44]
  rfl

set_option maxRecDepth 100000 in
theorem ref_sign (c : UInt8) (w : World) : Calls Tryz.prog 44 #[.int .u8 c.toNat] w fun e w' => e = .returned (.bool (isSign c)) ∧ w' = w := by
  go_enter Tryz.func44, Tryz.ntmps44
  go_wp2
  all_goals (go_ret; exact ⟨by rw [isSign_int]; simp [*], rfl⟩)

set_option maxRecDepth 100000 in
theorem ref_kind (R bl n cap : Nat) (I k : Nat) (w : World) (h0 : w.cell? ⟨R, 0, none⟩ = some (.slice (some ⟨bl, 0, none⟩) n cap)) (h1 : w.cell? ⟨R, 1, none⟩ = some (.int .i64 I))
    (hlt : (I : Int) < n) (hk : w.cell? ⟨bl, I * 3, none⟩ = some (.int .u8 k)) :
    Calls Tryz.prog 47 #[.pointer (some ⟨R, 0, none⟩)] w fun e w' => e = .returned (.int .u8 k) ∧ ∃ q, w' = w.drewN q := by
  go_enter Tryz.func47, Tryz.ntmps47
  go_wp2
  go_quiet (fail)
  go_wp2
  go_ret
  exact ⟨rfl, _, rfl⟩

/-- A token, as a value. -/
abbrev tokenOf (k p : Nat) (t : ByteArray) : Value := .agg #[.int .u8 k, .int .i64 p, .string t]
/-- The reader's block. -/
def RdAt (w : World) (R bl n cap I : Nat) (bad : Bool) : Prop := w.heap[R]? = some (.cells #[.slice (some ⟨bl, 0, none⟩) n cap, .int .i64 I, .bool bad] 67 (0, 0))

theorem RdAt.set1 {w : World} {R bl n cap I : Nat} {bad : Bool} (h : RdAt w R bl n cap I bad) (J : Nat) : RdAt (w.setCell ⟨R, 1, none⟩ (.int .i64 J)) R bl n cap J bad := heap_set_same h
theorem RdAt.set2 {w : World} {R bl n cap I : Nat} {bad : Bool} (h : RdAt w R bl n cap I bad) (b : Bool) : RdAt (w.setCell ⟨R, 2, none⟩ (.bool b)) R bl n cap I b := heap_set_same h
theorem RdAt.alloc {w : World} {R bl n cap I : Nat} {bad : Bool} (h : RdAt w R bl n cap I bad) (o : Obj) : RdAt (w.alloc o) R bl n cap I bad := heap_alloc_old h
theorem RdAt.drew {w : World} {R bl n cap I : Nat} {bad : Bool} (h : RdAt w R bl n cap I bad) : RdAt w.drew R bl n cap I bad := h
theorem RdAt.drewN {w : World} {R bl n cap I : Nat} {bad : Bool} (h : RdAt w R bl n cap I bad) (q : Nat) : RdAt (w.drewN q) R bl n cap I bad := h
theorem RdAt.below {w w' : World} {R bl n cap I : Nat} {bad : Bool} (h : RdAt w R bl n cap I bad) (hb : Below w.heap.size w w') : RdAt w' R bl n cap I bad := (hb.block R (heap_lt h)).trans h

set_option maxRecDepth 100000 in
theorem ref_take_hit (R bl n cap : Nat) (I k p : Nat) (t : ByteArray) (w : World) (hR : RdAt w R bl n cap I false) (hlt : (I : Int) < n) (hn : n ≤ 1000) (hk : w.cell? ⟨bl, I * 3, none⟩ = some (.int .u8 k))
    (hp : w.cell? ⟨bl, I * 3 + 1, none⟩ = some (.int .i64 p)) (ht : w.cell? ⟨bl, I * 3 + 2, none⟩ = some (.string t)) :
    Calls Tryz.prog 27 #[.pointer (some ⟨R, 0, none⟩), .int .u8 k] w fun e w' => e = .returned (tokenOf k p t) ∧ RdAt w' R bl n cap (I + 1) false ∧ Keep R w w' := by
  have h0 := cell_of_heap (i := 0) hR rfl
  have h1 := cell_of_heap (i := 1) hR rfl
  have h2 := cell_of_heap (i := 2) hR rfl
  have hf := frozen_of_heap (i := 1) hR
  have hf2 := frozen_of_heap (i := 2) hR
  have lR : R < w.heap.size := heap_lt hR
  have lb : bl < w.heap.size := World.block_lt_of_cell? _ _ hk
  have HR : Hid (RdAt w R bl n cap I false) := hR
  clear hR
  go_enter Tryz.func27, Tryz.ntmps27
  go_wp2
  go_region
  go_wp2
  refine bodyPost_ret (v := tokenOf k p t) (by simp [results, Tryz.results27, go_sem, tokenOf]) rfl ⟨rfl, ?_, ?_⟩
  · exact (((HR.out.set1 (I + 1)).alloc _).alloc _).drew
  · exact ((((Keep.refl R w).setR _ _).alloc _).alloc _).drew

set_option maxRecDepth 100000 in
theorem ref_take_miss (R bl n cap : Nat) (I k k' p : Nat) (t : ByteArray) (w : World) (hR : RdAt w R bl n cap I false) (hlt : (I : Int) < n) (hk : w.cell? ⟨bl, I * 3, none⟩ = some (.int .u8 k))
    (hp : w.cell? ⟨bl, I * 3 + 1, none⟩ = some (.int .i64 p)) (ht : w.cell? ⟨bl, I * 3 + 2, none⟩ = some (.string t)) (hne : ((k : Int) == (k' : Int)) = false) :
    Calls Tryz.prog 27 #[.pointer (some ⟨R, 0, none⟩), .int .u8 k'] w fun e w' => e = .returned (tokenOf 0 0 { data := #[] }) ∧ RdAt w' R bl n cap I true ∧ Keep R w w' := by
  have h0 := cell_of_heap (i := 0) hR rfl
  have h1 := cell_of_heap (i := 1) hR rfl
  have h2 := cell_of_heap (i := 2) hR rfl
  have hf := frozen_of_heap (i := 1) hR
  have hf2 := frozen_of_heap (i := 2) hR
  have lR : R < w.heap.size := heap_lt hR
  have lb : bl < w.heap.size := World.block_lt_of_cell? _ _ hk
  have HR : Hid (RdAt w R bl n cap I false) := hR
  clear hR
  go_enter Tryz.func27, Tryz.ntmps27
  go_wp2
  go_region
  go_wp2
  refine bodyPost_ret (v := tokenOf 0 0 { data := #[] }) (by simp [results, Tryz.results27, go_sem, tokenOf]) rfl ⟨rfl, ?_, ?_⟩
  · exact (((HR.out.set2 true).alloc _).alloc _).drew
  · exact ((((Keep.refl R w).setR _ _).alloc _).alloc _).drew

set_option maxRecDepth 100000 in
theorem ref_take_bad (R bl n cap : Nat) (I k k' p : Nat) (t : ByteArray) (w : World) (hR : RdAt w R bl n cap I true) (hlt : (I : Int) < n) (hk : w.cell? ⟨bl, I * 3, none⟩ = some (.int .u8 k))
    (hp : w.cell? ⟨bl, I * 3 + 1, none⟩ = some (.int .i64 p)) (ht : w.cell? ⟨bl, I * 3 + 2, none⟩ = some (.string t)) :
    Calls Tryz.prog 27 #[.pointer (some ⟨R, 0, none⟩), .int .u8 k'] w fun e w' => e = .returned (tokenOf 0 0 { data := #[] }) ∧ RdAt w' R bl n cap I true ∧ Keep R w w' := by
  have h0 := cell_of_heap (i := 0) hR rfl
  have h1 := cell_of_heap (i := 1) hR rfl
  have h2 := cell_of_heap (i := 2) hR rfl
  have hf := frozen_of_heap (i := 1) hR
  have hf2 := frozen_of_heap (i := 2) hR
  have lR : R < w.heap.size := heap_lt hR
  have lb : bl < w.heap.size := World.block_lt_of_cell? _ _ hk
  have HR : Hid (RdAt w R bl n cap I true) := hR
  clear hR
  go_enter Tryz.func27, Tryz.ntmps27
  go_wp2
  go_region
  go_wp2
  refine bodyPost_ret (v := tokenOf 0 0 { data := #[] }) (by simp [results, Tryz.results27, go_sem, tokenOf]) rfl ⟨rfl, ?_, ?_⟩
  · exact (((HR.out.set2 true).alloc _).alloc _).drew
  · exact ((((Keep.refl R w).setR _ _).alloc _).alloc _).drew
end Go.Proofs.YtihmgoahobbdkaaGreatDoor
