/-
  WHAT Roots' LISTED VARIABLES GIVE THE WALKS: the tables, the sentinels.
-/
import Derived.Test.YtihmgoahobbdkaaGreatDoorLaidNone
namespace Go.Proofs.YtihmgoahobbdkaaGreatDoor
open Go.RowKit Go.Lib Go.Shelf

def sentsRoots : List (String × List UInt8) := [("scaler/api.ErrLong", [116, 104, 101, 32, 116, 101, 120, 116, 32, 105, 115, 32, 116, 111, 111, 32, 108, 111, 110, 103])]
theorem Tryz.sentTypesRoots : (sentsRoots.all fun x => match Tryz.prog.globalNamed x.1 with | some g => ((Tryz.prog.globals[g]?).map (·.type)) == some 60 | none => true) = true := by kernel_rfl
theorem sentTypesRoots_of (x : String × List UInt8) (hx : x ∈ sentsRoots) (g : Nat) (hg : Tryz.prog.globalNamed x.1 = some g) : (Tryz.prog.globals[g]?).map (·.type) = some 60 := by
  have h := List.all_eq_true.1 Tryz.sentTypesRoots x hx
  simp only [hg] at h
  exact eq_of_beq h
theorem sentsRoots_listed : (Rows.rootsRow.laid.filter fun x => sentNames.contains x.1) = sentsRoots.map (sentD "*errors.errorString") := by kernel_rfl
theorem sentsRoots_of_laid {W : World} (hL : laidMetH Tryz.prog Rows.rootsRow.laid W) : ∃ A, W.cell? ⟨1, 0, none⟩ = some (.iface 355 (.pointer (some A))) := by
  have h1 := hL.filter fun x => sentNames.contains x.1
  rw [sentsRoots_listed, MakeChecks.laidMetH_plain _ _ _ (by kernel_rfl)] at h1
  obtain ⟨ps, hlv, hnd, hrows⟩ := h1
  obtain ⟨As, hlen, hAs, -, -⟩ := sentinels_of_laid Tryz.underlying60 Tryz.row_err Tryz.underlying355 Tryz.underlying379 rfl rfl Tryz.underlying9 Tryz.cellsE Tryz.cellsS sentsRoots ps sentTypesRoots_of hlv hnd hrows
  have hl8 : As.length = 1 := hlen
  have at? : ∀ k, k < 1 → As[k]? = some (As.getD k default) := fun k hk => by
    rw [List.getElem?_eq_getElem (by omega), List.getD_eq_getElem?_getD, List.getElem?_eq_getElem (by omega), Option.getD_some]
  have cell : ∀ k, k < 1 → ∀ x, sentsRoots[k]? = some x → ∀ g, Tryz.prog.globalNamed x.1 = some g → W.cell? ⟨g, 0, none⟩ = some (.iface 355 (.pointer (some (As.getD k default)))) := fun k hk x hx g hg => by
    simpa using World.var?_cell hg (hAs k x _ hx (at? k hk)).1 0
  exact ⟨As.getD 0 default, cell 0 (by decide) _ rfl _ Tryz.gE0⟩
theorem accRoots_listed : (Rows.rootsRow.laid.filter fun x => x.1 == "unicode/utf8.acceptRanges") = [("unicode/utf8.acceptRanges", acceptData)] := by kernel_rfl
theorem digRoots_listed : (Rows.rootsRow.laid.filter fun x => x.1 == "unicode.Digit") = [("unicode.Digit", Pinned.digit)] := by kernel_rfl
theorem letRoots_listed : (Rows.rootsRow.laid.filter fun x => x.1 == "unicode.Letter") = [("unicode.Letter", Pinned.letter)] := by kernel_rfl
theorem firstRoots_listed : (Rows.rootsRow.laid.filter fun x => x.1 == "unicode/utf8.first") = [("unicode/utf8.first", Pinned.utf8First)] := by kernel_rfl
theorem propsRoots_listed : (Rows.rootsRow.laid.filter fun x => x.1 == "unicode.properties") = [("unicode.properties", tabData .u8 propertiesTab)] := by kernel_rfl
theorem tabsRoots_of_laid {W : World} (hL : laidMetH Tryz.prog Rows.rootsRow.laid W) : Tabs W := by
  have h1 := hL.filter fun x => x.1 == "unicode/utf8.acceptRanges"
  have h2 := hL.filter fun x => x.1 == "unicode.properties"
  have h3 := hL.filter fun x => x.1 == "unicode.Digit"
  have h4 := hL.filter fun x => x.1 == "unicode.Letter"
  have h5 := hL.filter fun x => x.1 == "unicode/utf8.first"
  rw [accRoots_listed, MakeChecks.laidMetH_plain _ _ _ (by kernel_rfl)] at h1
  rw [propsRoots_listed, MakeChecks.laidMetH_plain _ _ _ (by kernel_rfl)] at h2
  rw [digRoots_listed, MakeChecks.laidMetH_plain _ _ _ (by kernel_rfl)] at h3
  rw [letRoots_listed, MakeChecks.laidMetH_plain _ _ _ (by kernel_rfl)] at h4
  rw [firstRoots_listed, MakeChecks.laidMetH_plain _ _ _ (by kernel_rfl)] at h5
  refine ⟨?_, ?_, ?_, ?_⟩
  · exact utf8Tabs_of_reads Tryz.lays260 Tryz.u8x (Pinned.utf8First_eq ▸ Lib.laidMet.reads h5 (.head _)) (Lib.laidMet.reads h1 (.head _))
  · exact tabIs_of_head Tryz.gProps (by kernel_rfl) Tryz.underlying287 Tryz.underlying5 (by kernel_rfl) (by kernel_rfl) h2
  · exact rvar_of_reads Tryz.lays261 Tryz.rx (by kernel_rfl) (by kernel_rfl) (Pinned.letter_eq ▸ Lib.laidMet.reads h4 (.head _))
  · exact rvar_of_reads Tryz.lays261 Tryz.rx (by kernel_rfl) (by kernel_rfl) (Pinned.digit_eq ▸ Lib.laidMet.reads h3 (.head _))
end Go.Proofs.YtihmgoahobbdkaaGreatDoor
