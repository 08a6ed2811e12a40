/-
  A TREE's METRICS, from left to right; a list of names, each once.
-/
import Derived.Test.YtihmgoahobbdkaaGreatDoorSpec
import Derived.Lib.SlicesS
namespace Go.Proofs.YtihmgoahobbdkaaGreatDoor

mutual
def mets : Tree → List ByteArray
  | .num _ _ => []
  | .neg _ a => mets a
  | .bin _ _ a b => mets a ++ mets b
  | .ite _ a b c => mets a ++ mets b ++ mets c
  | .meas _ _ m _ => [m]
  | .probe _ _ ts => metsAll ts
def metsAll : List Tree → List ByteArray
  | [] => []
  | t :: ts => mets t ++ metsAll ts
end
theorem metsAll_append : ∀ a b, metsAll (a ++ b) = metsAll a ++ metsAll b
  | [], b => by simp [metsAll]
  | t :: a, b => by simp [metsAll, metsAll_append a b]
/-- A name is put behind the list if it is not in it. -/
def note1 (ms : List ByteArray) (x : ByteArray) : List ByteArray := if Lib.containsS ms x = true then ms else ms ++ [x]
def notes (ms : List ByteArray) (xs : List ByteArray) : List ByteArray := xs.foldl note1 ms
theorem notes_nil (ms : List ByteArray) : notes ms [] = ms := rfl
theorem notes_one (ms : List ByteArray) (x : ByteArray) : notes ms [x] = note1 ms x := rfl
theorem notes_append (ms xs ys : List ByteArray) : notes ms (xs ++ ys) = notes (notes ms xs) ys := by simp [notes]
theorem note1_length (ms : List ByteArray) (x : ByteArray) : ms.length ≤ (note1 ms x).length ∧ (note1 ms x).length ≤ ms.length + 1 := by
  unfold note1
  split <;> simp
theorem notes_length : ∀ (xs ms : List ByteArray), ms.length ≤ (notes ms xs).length ∧ (notes ms xs).length ≤ ms.length + xs.length
  | [], ms => by simp [notes]
  | x :: xs, ms => by
    have h1 := note1_length ms x
    have h2 := notes_length xs (note1 ms x)
    have e : notes ms (x :: xs) = notes (note1 ms x) xs := rfl
    rw [e]
    simp only [List.length_cons]
    omega

/-- Reading gives no more measures than it passes tokens. -/
def Lvl.got : Lvl → List Tree
  | .sumT a => [a]
  | .prodT a => [a]
  | .args l => l
  | _ => []
def Out.mets : Out → Nat
  | .ok ts _ => (metsAll ts).length
  | .bad _ => 0
theorem D.mets_le {s : ByteArray} {L : List Tok} {v : Lvl} {I : Nat} {o : Out} (h : D s L v I o) : I ≤ o.at ∧ (o.isOk = true → o.mets + I ≤ (metsAll v.got).length + o.at) := by
  induction h <;> simp only [Out.at, Out.isOk, Out.mets, Lvl.got, metsAll, metsAll_append, mets, List.length_append, List.length_nil, List.append_nil, List.length_cons] at * <;> grind
end Go.Proofs.YtihmgoahobbdkaaGreatDoor
