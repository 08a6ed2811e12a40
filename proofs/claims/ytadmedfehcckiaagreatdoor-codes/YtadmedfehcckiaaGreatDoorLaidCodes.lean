/-
  WHAT Codes' LISTED VARIABLES GIVE THE WALKS: the tables, and the sentinels.
-/
import Derived.Test.YtadmedfehcckiaaGreatDoorLaidParses
import Derived.Test.YtadmedfehcckiaaGreatDoorCoF
namespace Go.Proofs.YtadmedfehcckiaaGreatDoor
open Go.RowKit Go.Lib Go.Shelf

theorem sentsC_listed : (Rows.codesRow.laid.filter fun x => sentNames.contains x.1) = sents.map (sentD "*errors.errorString") := by kernel_rfl
theorem sentsC_of_laid {W : World} (hL : laidMetH Tryz.prog Rows.codesRow.laid W) : ∃ A, Sents A W := by
  have h1 := hL.filter fun x => sentNames.contains x.1
  rw [sentsC_listed, MakeChecks.laidMetH_plain _ _ _ (by kernel_rfl)] at h1
  obtain ⟨ps, hlv, hnd, hrows⟩ := h1
  obtain ⟨As, hlen, hAs, hpw, -⟩ := sentinels_of_laid Tryz.underlying61 Tryz.row_err Tryz.underlying354 Tryz.underlying378 rfl rfl Tryz.underlying9 Tryz.cellsE Tryz.cellsS sents ps sentTypes_of hlv hnd hrows
  have hl8 : As.length = 8 := hlen
  have at? : ∀ k, k < 8 → As[k]? = some (As.getD k default) := fun k hk => by
    rw [List.getElem?_eq_getElem (by omega), List.getD_eq_getElem?_getD, List.getElem?_eq_getElem (by omega), Option.getD_some]
  have cell : ∀ k, k < 8 → ∀ x, sents[k]? = some x → ∀ g, Tryz.prog.globalNamed x.1 = some g → W.cell? ⟨g, 0, none⟩ = some (.iface 354 (.pointer (some (As.getD k default)))) := fun k hk x hx g hg => by
    simpa using World.var?_cell hg (hAs k x _ hx (at? k hk)).1 0
  exact ⟨fun k => As.getD k default, cell 0 (by decide) _ rfl _ Tryz.gE0, cell 1 (by decide) _ rfl _ Tryz.gE1, cell 2 (by decide) _ rfl _ Tryz.gE2, cell 3 (by decide) _ rfl _ Tryz.gE3, cell 4 (by decide) _ rfl _ Tryz.gE4, cell 5 (by decide) _ rfl _ Tryz.gE5, cell 6 (by decide) _ rfl _ Tryz.gE6, cell 7 (by decide) _ rfl _ Tryz.gE7⟩

theorem tabsC_listed : (Rows.codesRow.laid.filter fun x => tabNames.contains x.1) = [("unicode/utf8.acceptRanges", acceptData), ("unicode.Digit", Pinned.digit), ("unicode.Letter", Pinned.letter), ("unicode/utf8.first", Pinned.utf8First)] := by kernel_rfl
theorem propsC_listed : (Rows.codesRow.laid.filter fun x => x.1 == "unicode.properties") = [("unicode.properties", tabData .u8 propertiesTab)] := by kernel_rfl
theorem powC_listed : (Rows.codesRow.laid.filter fun x => x.1 == "internal/strconv.uint64pow10") = [("internal/strconv.uint64pow10", tabData .u64 pow10Tab)] := by kernel_rfl
theorem tabsC_of_laid {W : World} (hL : laidMetH Tryz.prog Rows.codesRow.laid W) : Tabs W := by
  have h1 := hL.filter fun x => tabNames.contains x.1
  have h2 := hL.filter fun x => x.1 == "unicode.properties"
  rw [tabsC_listed, MakeChecks.laidMetH_plain _ _ _ (by kernel_rfl)] at h1
  rw [propsC_listed, MakeChecks.laidMetH_plain _ _ _ (by kernel_rfl)] at h2
  refine ⟨?_, ?_, ?_, ?_⟩
  · exact utf8Tabs_of_reads Tryz.lays260 Tryz.u8x (Pinned.utf8First_eq ▸ Lib.laidMet.reads h1 (.tail _ (.tail _ (.tail _ (.head _))))) (Lib.laidMet.reads h1 (.head _))
  · exact tabIs_of_head Tryz.gProps (by kernel_rfl) Tryz.underlying288 Tryz.underlying5 (by kernel_rfl) (by kernel_rfl) h2
  · exact rvar_of_reads Tryz.lays261 Tryz.rx (by kernel_rfl) (by kernel_rfl) (Pinned.letter_eq ▸ Lib.laidMet.reads h1 (.tail _ (.tail _ (.head _))))
  · exact rvar_of_reads Tryz.lays261 Tryz.rx (by kernel_rfl) (by kernel_rfl) (Pinned.digit_eq ▸ Lib.laidMet.reads h1 (.tail _ (.head _)))
theorem tabsRC_of_laid {W : World} (hL : laidMetH Tryz.prog Rows.codesRow.laid W) : TabsR W := by
  have h3 := hL.filter fun x => x.1 == "internal/strconv.uint64pow10"
  rw [powC_listed, MakeChecks.laidMetH_plain _ _ _ (by kernel_rfl)] at h3
  exact ⟨tabsC_of_laid hL, tabIs_of_head Tryz.gPow (by kernel_rfl) Tryz.underlying341 Tryz.underlying333 (by kernel_rfl) (by kernel_rfl) h3⟩
end Go.Proofs.YtadmedfehcckiaaGreatDoor
