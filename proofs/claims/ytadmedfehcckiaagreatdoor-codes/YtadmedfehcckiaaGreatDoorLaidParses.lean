/-
  WHAT THE LISTED VARIABLES GIVE THE WALKS: the tables, and the sentinels.
-/
import Derived.Test.YtadmedfehcckiaaGreatDoorLaid
import Derived.Test.YtadmedfehcckiaaGreatDoorCodeQ
import Derived.Test.YtadmedfehcckiaaGreatDoorRows
import Derived.PinnedBridge
import Derived.LaidSub
import Derived.Lay
import Derived.LaidMore
import Derived.MakeChecks
namespace Go.Proofs.YtadmedfehcckiaaGreatDoor
open Go.RowKit Go.Lib Go.Shelf

def sents : List (String × List UInt8) := [("scaler/api.ErrLong", [116, 104, 101, 32, 116, 101, 120, 116, 32, 105, 115, 32, 116, 111, 111, 32, 108, 111, 110, 103]), ("scaler/api.ErrCode", [116, 104, 101, 115, 101, 32, 98, 121, 116, 101, 115, 32, 97, 114, 101, 32, 110, 111, 32, 99, 111, 100, 101]), ("scaler/api.ErrLimits", [116, 104, 101, 114, 101, 32, 97, 114, 101, 32, 110, 111, 32, 115, 117, 99, 104, 32, 108, 105, 109, 105, 116, 115]), ("scaler/api.ErrStale", [116, 104, 101, 32, 116, 105, 109, 101, 32, 105, 115, 32, 112, 97, 115, 116]), ("scaler/api.ErrMetric", [116, 104, 101, 32, 112, 111, 108, 105, 99, 121, 32, 104, 97, 115, 32, 110, 111, 32, 115, 117, 99, 104, 32, 109, 101, 116, 114, 105, 99]), ("scaler/api.ErrDivide", [97, 32, 100, 105, 118, 105, 115, 105, 111, 110, 32, 98, 121, 32, 48]), ("scaler/api.ErrNoData", [116, 104, 101, 114, 101, 32, 105, 115, 32, 110, 111, 116, 104, 105, 110, 103, 32, 116, 111, 32, 109, 101, 97, 115, 117, 114, 101]), ("scaler/api.ErrCooling", [105, 116, 32, 105, 115, 32, 116, 111, 111, 32, 115, 111, 111, 110, 32, 102, 111, 114, 32, 97, 32, 99, 104, 97, 110, 103, 101])]
theorem Tryz.row_err (u : TypeId) (h : Tryz.prog.typeName? 3 u = some "*errors.errorString") : u = 354 :=
  typeName_ptr_named (nm := "errors.errorString") (by rw [show "*" ++ "errors.errorString" = "*errors.errorString" by decide]; kernel_rfl) (by kernel_rfl) (by decide) u (by rw [show "*" ++ "errors.errorString" = "*errors.errorString" by decide]; exact h)
theorem Tryz.cellsE : Tryz.prog.cellsOf 378 = 1 := by kernel_rfl
theorem Tryz.cellsS : Tryz.prog.cellsOf 9 = 1 := by kernel_rfl
theorem Tryz.sentTypes : (sents.all fun x => match Tryz.prog.globalNamed x.1 with | some g => ((Tryz.prog.globals[g]?).map (·.type)) == some 61 | none => true) = true := by kernel_rfl
theorem sentTypes_of (x : String × List UInt8) (hx : x ∈ sents) (g : Nat) (hg : Tryz.prog.globalNamed x.1 = some g) : (Tryz.prog.globals[g]?).map (·.type) = some 61 := by
  have h := List.all_eq_true.1 Tryz.sentTypes x hx
  simp only [hg] at h
  exact eq_of_beq h
def sentNames : List String := ["scaler/api.ErrLong", "scaler/api.ErrCode", "scaler/api.ErrLimits", "scaler/api.ErrStale", "scaler/api.ErrMetric", "scaler/api.ErrDivide", "scaler/api.ErrNoData", "scaler/api.ErrCooling"]
theorem sents_listed : (Rows.parsesRow.laid.filter fun x => sentNames.contains x.1) = sents.map (sentD "*errors.errorString") := by kernel_rfl
theorem Tryz.gE0 : Tryz.prog.globalNamed "scaler/api.ErrLong" = some 1 := by kernel_rfl
theorem Tryz.gE1 : Tryz.prog.globalNamed "scaler/api.ErrCode" = some 0 := by kernel_rfl
theorem Tryz.gE2 : Tryz.prog.globalNamed "scaler/api.ErrLimits" = some 4 := by kernel_rfl
theorem Tryz.gE3 : Tryz.prog.globalNamed "scaler/api.ErrStale" = some 5 := by kernel_rfl
theorem Tryz.gE4 : Tryz.prog.globalNamed "scaler/api.ErrMetric" = some 6 := by kernel_rfl
theorem Tryz.gE5 : Tryz.prog.globalNamed "scaler/api.ErrDivide" = some 2 := by kernel_rfl
theorem Tryz.gE6 : Tryz.prog.globalNamed "scaler/api.ErrNoData" = some 3 := by kernel_rfl
theorem Tryz.gE7 : Tryz.prog.globalNamed "scaler/api.ErrCooling" = some 7 := by kernel_rfl
theorem sents_of_laid {W : World} (hL : laidMetH Tryz.prog Rows.parsesRow.laid W) : ∃ A, Sents A W := by
  have h1 := hL.filter fun x => sentNames.contains x.1
  rw [sents_listed, MakeChecks.laidMetH_plain _ _ _ (by kernel_rfl)] at h1
  obtain ⟨ps, hlv, hnd, hrows⟩ := h1
  obtain ⟨As, hlen, hAs, hpw, -⟩ := sentinels_of_laid Tryz.underlying61 Tryz.row_err Tryz.underlying354 Tryz.underlying378 rfl rfl Tryz.underlying9 Tryz.cellsE Tryz.cellsS sents ps sentTypes_of hlv hnd hrows
  have hl8 : As.length = 8 := hlen
  have at? : ∀ k, k < 8 → As[k]? = some (As.getD k default) := fun k hk => by
    rw [List.getElem?_eq_getElem (by omega), List.getD_eq_getElem?_getD, List.getElem?_eq_getElem (by omega), Option.getD_some]
  have cell : ∀ k, k < 8 → ∀ x, sents[k]? = some x → ∀ g, Tryz.prog.globalNamed x.1 = some g → W.cell? ⟨g, 0, none⟩ = some (.iface 354 (.pointer (some (As.getD k default)))) := fun k hk x hx g hg => by
    simpa using World.var?_cell hg (hAs k x _ hx (at? k hk)).1 0
  exact ⟨fun k => As.getD k default, cell 0 (by decide) _ rfl _ Tryz.gE0, cell 1 (by decide) _ rfl _ Tryz.gE1, cell 2 (by decide) _ rfl _ Tryz.gE2, cell 3 (by decide) _ rfl _ Tryz.gE3, cell 4 (by decide) _ rfl _ Tryz.gE4, cell 5 (by decide) _ rfl _ Tryz.gE5, cell 6 (by decide) _ rfl _ Tryz.gE6, cell 7 (by decide) _ rfl _ Tryz.gE7⟩

theorem Tryz.u8x : U8Extra Tryz.prog Tryz.lays260_ren := ⟨by kernel_rfl, by kernel_rfl, by kernel_rfl, by kernel_rfl, by kernel_rfl, by kernel_rfl, by kernel_rfl⟩
theorem Tryz.rx : RExtra Tryz.prog Tryz.lays261_ren := ⟨by kernel_rfl, by kernel_rfl, by kernel_rfl, by kernel_rfl, by kernel_rfl, by kernel_rfl, by kernel_rfl, by kernel_rfl⟩
def tabNames : List String := ["unicode.Digit", "unicode.Letter", "unicode/utf8.first", "unicode/utf8.acceptRanges"]
theorem tabs_listed : (Rows.parsesRow.laid.filter fun x => tabNames.contains x.1) = [("unicode/utf8.acceptRanges", acceptData), ("unicode.Digit", Pinned.digit), ("unicode.Letter", Pinned.letter), ("unicode/utf8.first", Pinned.utf8First)] := by kernel_rfl
theorem props_listed : (Rows.parsesRow.laid.filter fun x => x.1 == "unicode.properties") = [("unicode.properties", tabData .u8 propertiesTab)] := by kernel_rfl
theorem tabs_of_laid {W : World} (hL : laidMetH Tryz.prog Rows.parsesRow.laid W) : Tabs W := by
  have h1 := hL.filter fun x => tabNames.contains x.1
  have h2 := hL.filter fun x => x.1 == "unicode.properties"
  rw [tabs_listed, MakeChecks.laidMetH_plain _ _ _ (by kernel_rfl)] at h1
  rw [props_listed, MakeChecks.laidMetH_plain _ _ _ (by kernel_rfl)] at h2
  refine ⟨?_, ?_, ?_, ?_⟩
  · exact utf8Tabs_of_reads Tryz.lays260 Tryz.u8x (Pinned.utf8First_eq ▸ Lib.laidMet.reads h1 (.tail _ (.tail _ (.tail _ (.head _))))) (Lib.laidMet.reads h1 (.head _))
  · exact tabIs_of_head Tryz.gProps (by kernel_rfl) Tryz.underlying288 Tryz.underlying5 (by kernel_rfl) (by kernel_rfl) h2
  · exact rvar_of_reads Tryz.lays261 Tryz.rx (by kernel_rfl) (by kernel_rfl) (Pinned.letter_eq ▸ Lib.laidMet.reads h1 (.tail _ (.tail _ (.head _))))
  · exact rvar_of_reads Tryz.lays261 Tryz.rx (by kernel_rfl) (by kernel_rfl) (Pinned.digit_eq ▸ Lib.laidMet.reads h1 (.tail _ (.head _)))
end Go.Proofs.YtadmedfehcckiaaGreatDoor
