/-
  WHAT Parses' LISTED VARIABLES GIVE THE WALKS: the tables, the sentinels.
-/
import Derived.Test.YtihmgoahobbdkaaGreatDoorLaidNone
namespace Go.Proofs.YtihmgoahobbdkaaGreatDoor
open Go.RowKit Go.Lib Go.Shelf

def sentsParses : List (String × List UInt8) := [("scaler/api.ErrLong", [116, 104, 101, 32, 116, 101, 120, 116, 32, 105, 115, 32, 116, 111, 111, 32, 108, 111, 110, 103]), ("scaler/api.ErrCode", [116, 104, 101, 115, 101, 32, 98, 121, 116, 101, 115, 32, 97, 114, 101, 32, 110, 111, 32, 99, 111, 100, 101]), ("scaler/api.ErrLimits", [116, 104, 101, 114, 101, 32, 97, 114, 101, 32, 110, 111, 32, 115, 117, 99, 104, 32, 108, 105, 109, 105, 116, 115]), ("scaler/api.ErrStale", [116, 104, 101, 32, 116, 105, 109, 101, 32, 105, 115, 32, 112, 97, 115, 116]), ("scaler/api.ErrMetric", [116, 104, 101, 32, 112, 111, 108, 105, 99, 121, 32, 104, 97, 115, 32, 110, 111, 32, 115, 117, 99, 104, 32, 109, 101, 116, 114, 105, 99]), ("scaler/api.ErrDivide", [97, 32, 100, 105, 118, 105, 115, 105, 111, 110, 32, 98, 121, 32, 48]), ("scaler/api.ErrNoData", [116, 104, 101, 114, 101, 32, 105, 115, 32, 110, 111, 116, 104, 105, 110, 103, 32, 116, 111, 32, 109, 101, 97, 115, 117, 114, 101]), ("scaler/api.ErrCooling", [105, 116, 32, 105, 115, 32, 116, 111, 111, 32, 115, 111, 111, 110, 32, 102, 111, 114, 32, 97, 32, 99, 104, 97, 110, 103, 101])]
theorem Tryz.sentTypesParses : (sentsParses.all fun x => match Tryz.prog.globalNamed x.1 with | some g => ((Tryz.prog.globals[g]?).map (·.type)) == some 60 | none => true) = true := by kernel_rfl
theorem sentTypesParses_of (x : String × List UInt8) (hx : x ∈ sentsParses) (g : Nat) (hg : Tryz.prog.globalNamed x.1 = some g) : (Tryz.prog.globals[g]?).map (·.type) = some 60 := by
  have h := List.all_eq_true.1 Tryz.sentTypesParses x hx
  simp only [hg] at h
  exact eq_of_beq h
theorem sentsParses_listed : (Rows.parsesRow.laid.filter fun x => sentNames.contains x.1) = sentsParses.map (sentD "*errors.errorString") := by kernel_rfl
theorem sentsParses_of_laid {W : World} (hL : laidMetH Tryz.prog Rows.parsesRow.laid W) : ∃ A, Sents A W := by
  have h1 := hL.filter fun x => sentNames.contains x.1
  rw [sentsParses_listed, MakeChecks.laidMetH_plain _ _ _ (by kernel_rfl)] at h1
  obtain ⟨ps, hlv, hnd, hrows⟩ := h1
  obtain ⟨As, hlen, hAs, -, -⟩ := sentinels_of_laid Tryz.underlying60 Tryz.row_err Tryz.underlying355 Tryz.underlying379 rfl rfl Tryz.underlying9 Tryz.cellsE Tryz.cellsS sentsParses ps sentTypesParses_of hlv hnd hrows
  have hl8 : As.length = 8 := hlen
  have at? : ∀ k, k < 8 → As[k]? = some (As.getD k default) := fun k hk => by
    rw [List.getElem?_eq_getElem (by omega), List.getD_eq_getElem?_getD, List.getElem?_eq_getElem (by omega), Option.getD_some]
  have cell : ∀ k, k < 8 → ∀ x, sentsParses[k]? = some x → ∀ g, Tryz.prog.globalNamed x.1 = some g → W.cell? ⟨g, 0, none⟩ = some (.iface 355 (.pointer (some (As.getD k default)))) := fun k hk x hx g hg => by
    simpa using World.var?_cell hg (hAs k x _ hx (at? k hk)).1 0
  exact ⟨fun k => As.getD (([0, 1, 2, 3, 4, 5, 6, 7] : List Nat).getD k 0) default, cell 0 (by decide) _ rfl _ Tryz.gE0, cell 1 (by decide) _ rfl _ Tryz.gE1, cell 2 (by decide) _ rfl _ Tryz.gE2, cell 3 (by decide) _ rfl _ Tryz.gE3, cell 4 (by decide) _ rfl _ Tryz.gE4, cell 5 (by decide) _ rfl _ Tryz.gE5, cell 6 (by decide) _ rfl _ Tryz.gE6, cell 7 (by decide) _ rfl _ Tryz.gE7⟩
theorem accParses_listed : (Rows.parsesRow.laid.filter fun x => x.1 == "unicode/utf8.acceptRanges") = [("unicode/utf8.acceptRanges", acceptData)] := by kernel_rfl
theorem digParses_listed : (Rows.parsesRow.laid.filter fun x => x.1 == "unicode.Digit") = [("unicode.Digit", Pinned.digit)] := by kernel_rfl
theorem letParses_listed : (Rows.parsesRow.laid.filter fun x => x.1 == "unicode.Letter") = [("unicode.Letter", Pinned.letter)] := by kernel_rfl
theorem firstParses_listed : (Rows.parsesRow.laid.filter fun x => x.1 == "unicode/utf8.first") = [("unicode/utf8.first", Pinned.utf8First)] := by kernel_rfl
theorem propsParses_listed : (Rows.parsesRow.laid.filter fun x => x.1 == "unicode.properties") = [("unicode.properties", tabData .u8 propertiesTab)] := by kernel_rfl
theorem tabsParses_of_laid {W : World} (hL : laidMetH Tryz.prog Rows.parsesRow.laid W) : Tabs W := by
  have h1 := hL.filter fun x => x.1 == "unicode/utf8.acceptRanges"
  have h2 := hL.filter fun x => x.1 == "unicode.properties"
  have h3 := hL.filter fun x => x.1 == "unicode.Digit"
  have h4 := hL.filter fun x => x.1 == "unicode.Letter"
  have h5 := hL.filter fun x => x.1 == "unicode/utf8.first"
  rw [accParses_listed, MakeChecks.laidMetH_plain _ _ _ (by kernel_rfl)] at h1
  rw [propsParses_listed, MakeChecks.laidMetH_plain _ _ _ (by kernel_rfl)] at h2
  rw [digParses_listed, MakeChecks.laidMetH_plain _ _ _ (by kernel_rfl)] at h3
  rw [letParses_listed, MakeChecks.laidMetH_plain _ _ _ (by kernel_rfl)] at h4
  rw [firstParses_listed, MakeChecks.laidMetH_plain _ _ _ (by kernel_rfl)] at h5
  refine ⟨?_, ?_, ?_, ?_⟩
  · exact utf8Tabs_of_reads Tryz.lays260 Tryz.u8x (Pinned.utf8First_eq ▸ Lib.laidMet.reads h5 (.head _)) (Lib.laidMet.reads h1 (.head _))
  · exact tabIs_of_head Tryz.gProps (by kernel_rfl) Tryz.underlying287 Tryz.underlying5 (by kernel_rfl) (by kernel_rfl) h2
  · exact rvar_of_reads Tryz.lays261 Tryz.rx (by kernel_rfl) (by kernel_rfl) (Pinned.letter_eq ▸ Lib.laidMet.reads h4 (.head _))
  · exact rvar_of_reads Tryz.lays261 Tryz.rx (by kernel_rfl) (by kernel_rfl) (Pinned.digit_eq ▸ Lib.laidMet.reads h3 (.head _))
end Go.Proofs.YtihmgoahobbdkaaGreatDoor
