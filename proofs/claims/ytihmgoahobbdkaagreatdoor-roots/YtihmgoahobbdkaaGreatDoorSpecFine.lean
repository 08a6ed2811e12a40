/-
  TREES THAT ARE READ ARE FINE.
-/
import Derived.Test.YtihmgoahobbdkaaGreatDoorRefO
namespace Go.Proofs.YtihmgoahobbdkaaGreatDoor

theorem fineAll_append : ∀ a b, FineAll (a ++ b) ↔ FineAll a ∧ FineAll b
  | [], b => by simp [FineAll]
  | t :: a, b => by simp [FineAll, fineAll_append a b, and_assoc]
def Out.trees : Out → List Tree
  | .ok ts _ => ts
  | .bad _ => []
theorem D.fine {s : ByteArray} {L : List Tok} {v : Lvl} {I : Nat} {o : Out} (h : D s L v I o) : I ≤ o.at ∧ (o.at ≤ 1000 → FineAll v.got → FineAll o.trees ∧ (o.isOk = true → o.trees.length + I ≤ v.got.length + o.at)) := by
  induction h <;> simp only [Out.at, Out.isOk, Out.trees, Lvl.got, FineAll, fineAll_append, Fine, List.length_append, List.length_nil, List.length_cons] at * <;> grind
end Go.Proofs.YtihmgoahobbdkaaGreatDoor
