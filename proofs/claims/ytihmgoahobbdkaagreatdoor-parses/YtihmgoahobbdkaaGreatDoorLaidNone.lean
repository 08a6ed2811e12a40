/-
  WHAT LISTED VARIABLES GIVE THE WALKS: what is of no one row.
-/
import Derived.Test.YtihmgoahobbdkaaGreatDoorLaid
import Derived.Test.YtihmgoahobbdkaaGreatDoorCodeO
import Derived.Test.YtihmgoahobbdkaaGreatDoorChecked
import Derived.PinnedBridge
import Derived.LaidSub
import Derived.Lay
import Derived.LaidMore
import Derived.MakeChecks
import Derived.Stop.Joined
import Derived.ProofKit
import Derived.Carry
namespace Go.Proofs.YtihmgoahobbdkaaGreatDoor
open Go.RowKit Go.Lib Go.Shelf

theorem Tryz.row_err (u : TypeId) (h : Tryz.prog.typeName? 3 u = some "*errors.errorString") : u = 355 :=
  typeName_ptr_named (nm := "errors.errorString") (by rw [show "*" ++ "errors.errorString" = "*errors.errorString" by decide]; kernel_rfl) (by kernel_rfl) (by decide) u (by rw [show "*" ++ "errors.errorString" = "*errors.errorString" by decide]; exact h)
theorem Tryz.cellsE : Tryz.prog.cellsOf 379 = 1 := by kernel_rfl
theorem Tryz.cellsS : Tryz.prog.cellsOf 9 = 1 := by kernel_rfl
def sentNames : List String := ["scaler/api.ErrLong", "scaler/api.ErrCode", "scaler/api.ErrLimits", "scaler/api.ErrStale", "scaler/api.ErrMetric", "scaler/api.ErrDivide", "scaler/api.ErrNoData", "scaler/api.ErrCooling"]
theorem Tryz.gE0 : Tryz.prog.globalNamed "scaler/api.ErrLong" = some 1 := by kernel_rfl
theorem Tryz.gE1 : Tryz.prog.globalNamed "scaler/api.ErrCode" = some 0 := by kernel_rfl
theorem Tryz.gE2 : Tryz.prog.globalNamed "scaler/api.ErrLimits" = some 4 := by kernel_rfl
theorem Tryz.gE3 : Tryz.prog.globalNamed "scaler/api.ErrStale" = some 5 := by kernel_rfl
theorem Tryz.gE4 : Tryz.prog.globalNamed "scaler/api.ErrMetric" = some 6 := by kernel_rfl
theorem Tryz.gE5 : Tryz.prog.globalNamed "scaler/api.ErrDivide" = some 2 := by kernel_rfl
theorem Tryz.gE6 : Tryz.prog.globalNamed "scaler/api.ErrNoData" = some 3 := by kernel_rfl
theorem Tryz.gE7 : Tryz.prog.globalNamed "scaler/api.ErrCooling" = some 7 := by kernel_rfl
theorem Tryz.u8x : U8Extra Tryz.prog Tryz.lays260_ren := ⟨by kernel_rfl, by kernel_rfl, by kernel_rfl, by kernel_rfl, by kernel_rfl, by kernel_rfl, by kernel_rfl⟩
theorem Tryz.rx : RExtra Tryz.prog Tryz.lays261_ren := ⟨by kernel_rfl, by kernel_rfl, by kernel_rfl, by kernel_rfl, by kernel_rfl, by kernel_rfl, by kernel_rfl, by kernel_rfl⟩
theorem Tryz.own : ownKnob Tryz.prog.godebug = none := by kernel_rfl
theorem laidMet_layVars_all {P : Program} {w0 : World} {laid : List (String × DataW Unit)} (hf : w0.layFits P laid [] = true) (hi : w0.layIfaces P laid (w0.layVars P laid) = true) : laidMet P laid (w0.layVars P laid) := by
  have e1 : (laid.filter fun x => (laid.map (·.1)).contains x.1) = laid := List.filter_eq_self.2 fun x hx => List.contains_iff_mem.2 (List.mem_map.2 ⟨x, hx, rfl⟩)
  have e2 : (laid.filter fun x => !(laid.map (·.1)).contains x.1) = [] := List.filter_eq_nil_iff.2 fun x hx => by rw [List.contains_iff_mem.2 (List.mem_map.2 ⟨x, hx, rfl⟩)]; simp
  exact laidMet_layVars (w0 := w0) (laid.map (·.1)) [] (by rw [e1]) (by rw [e1]; exact hf) (by rw [e1]; exact hi) (by rw [e2]; exact LaidIn.none)
/-- A world in which the handle lies. -/
noncomputable def witH (os : Os) : World := (World.holding Tryz.prog os ⟨#[], #[], []⟩).setCell ⟨8, 0, none⟩ (.iface 274 (.agg #[typeHandle Tryz.prog 60]))
theorem perm_ne {p : List Nat} {i j : Nat} (h : ∀ i, i < 8 → ∀ j, j < 8 → i ≠ j → p.getD i 0 ≠ p.getD j 0) (hi : i < 8) (hj : j < 8) (hne : i ≠ j) : p.getD i 0 ≠ p.getD j 0 := h i hi j hj hne
end Go.Proofs.YtihmgoahobbdkaaGreatDoor
