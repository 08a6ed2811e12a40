/-
  WHAT Roots' LISTED VARIABLES GIVE THE WALKS: the tables, and ErrLong.
-/
import Derived.Test.YtadmedfehcckiaaGreatDoorLaid
import Derived.Test.YtadmedfehcckiaaGreatDoorRooG
import Derived.Test.YtadmedfehcckiaaGreatDoorRows
import Derived.PinnedBridge
import Derived.LaidSub
import Derived.Lay
import Derived.LaidMore
import Derived.MakeChecks
namespace Go.Proofs.YtadmedfehcckiaaGreatDoor
open Go.RowKit Go.Lib Go.Shelf

def sent1 : List (String × List UInt8) := [("scaler/api.ErrLong", [116, 104, 101, 32, 116, 101, 120, 116, 32, 105, 115, 32, 116, 111, 111, 32, 108, 111, 110, 103])]
theorem Tryz.row_err1 (u : TypeId) (h : Tryz.prog.typeName? 3 u = some "*errors.errorString") : u = 354 :=
  typeName_ptr_named (nm := "errors.errorString") (by rw [show "*" ++ "errors.errorString" = "*errors.errorString" by decide]; kernel_rfl) (by kernel_rfl) (by decide) u (by rw [show "*" ++ "errors.errorString" = "*errors.errorString" by decide]; exact h)
theorem Tryz.cellsE1 : Tryz.prog.cellsOf 378 = 1 := by kernel_rfl
theorem Tryz.cellsS1 : Tryz.prog.cellsOf 9 = 1 := by kernel_rfl
theorem Tryz.sent1Types : (sent1.all fun x => match Tryz.prog.globalNamed x.1 with | some g => ((Tryz.prog.globals[g]?).map (·.type)) == some 61 | none => true) = true := by kernel_rfl
theorem sent1Types_of (x : String × List UInt8) (hx : x ∈ sent1) (g : Nat) (hg : Tryz.prog.globalNamed x.1 = some g) : (Tryz.prog.globals[g]?).map (·.type) = some 61 := by
  have h := List.all_eq_true.1 Tryz.sent1Types x hx
  simp only [hg] at h
  exact eq_of_beq h
theorem sent1_listed : (Rows.rootsRow.laid.filter fun x => ["scaler/api.ErrLong"].contains x.1) = sent1.map (sentD "*errors.errorString") := by kernel_rfl
theorem Tryz.gE01 : Tryz.prog.globalNamed "scaler/api.ErrLong" = some 1 := by kernel_rfl
theorem long_of_laid {W : World} (hL : laidMetH Tryz.prog Rows.rootsRow.laid W) : ∃ A, W.cell? ⟨1, 0, none⟩ = some (.iface 354 (.pointer (some A))) := by
  have h1 := hL.filter fun x => ["scaler/api.ErrLong"].contains x.1
  rw [sent1_listed, MakeChecks.laidMetH_plain _ _ _ (by kernel_rfl)] at h1
  obtain ⟨ps, hlv, hnd, hrows⟩ := h1
  obtain ⟨As, hlen, hAs, hpw, -⟩ := sentinels_of_laid Tryz.underlying61 Tryz.row_err1 Tryz.underlying354 Tryz.underlying378 rfl rfl Tryz.underlying9 Tryz.cellsE1 Tryz.cellsS1 sent1 ps sent1Types_of hlv hnd hrows
  have hl8 : As.length = 1 := hlen
  have at0 : As[0]? = some (As.getD 0 default) := by
    rw [List.getElem?_eq_getElem (by omega), List.getD_eq_getElem?_getD, List.getElem?_eq_getElem (by omega), Option.getD_some]
  exact ⟨As.getD 0 default, by simpa using World.var?_cell Tryz.gE01 (hAs 0 _ _ rfl at0).1 0⟩

theorem Tryz.u8x1 : U8Extra Tryz.prog Tryz.lays260_ren := ⟨by kernel_rfl, by kernel_rfl, by kernel_rfl, by kernel_rfl, by kernel_rfl, by kernel_rfl, by kernel_rfl⟩
theorem Tryz.rx1 : RExtra Tryz.prog Tryz.lays261_ren := ⟨by kernel_rfl, by kernel_rfl, by kernel_rfl, by kernel_rfl, by kernel_rfl, by kernel_rfl, by kernel_rfl, by kernel_rfl⟩
def tabNames1 : List String := ["unicode.Digit", "unicode.Letter", "unicode/utf8.first", "unicode/utf8.acceptRanges"]
theorem tabs1_listed : (Rows.rootsRow.laid.filter fun x => tabNames1.contains x.1) = [("unicode/utf8.acceptRanges", acceptData), ("unicode.Digit", Pinned.digit), ("unicode.Letter", Pinned.letter), ("unicode/utf8.first", Pinned.utf8First)] := by kernel_rfl
theorem props1_listed : (Rows.rootsRow.laid.filter fun x => x.1 == "unicode.properties") = [("unicode.properties", tabData .u8 propertiesTab)] := by kernel_rfl
theorem tabs1_of_laid {W : World} (hL : laidMetH Tryz.prog Rows.rootsRow.laid W) : Tabs W := by
  have h1 := hL.filter fun x => tabNames1.contains x.1
  have h2 := hL.filter fun x => x.1 == "unicode.properties"
  rw [tabs1_listed, MakeChecks.laidMetH_plain _ _ _ (by kernel_rfl)] at h1
  rw [props1_listed, MakeChecks.laidMetH_plain _ _ _ (by kernel_rfl)] at h2
  refine ⟨?_, ?_, ?_, ?_⟩
  · exact utf8Tabs_of_reads Tryz.lays260 Tryz.u8x1 (Pinned.utf8First_eq ▸ Lib.laidMet.reads h1 (.tail _ (.tail _ (.tail _ (.head _))))) (Lib.laidMet.reads h1 (.head _))
  · exact tabIs_of_head Tryz.gProps (by kernel_rfl) Tryz.underlying288 Tryz.underlying5 (by kernel_rfl) (by kernel_rfl) h2
  · exact rvar_of_reads Tryz.lays261 Tryz.rx1 (by kernel_rfl) (by kernel_rfl) (Pinned.letter_eq ▸ Lib.laidMet.reads h1 (.tail _ (.tail _ (.head _))))
  · exact rvar_of_reads Tryz.lays261 Tryz.rx1 (by kernel_rfl) (by kernel_rfl) (Pinned.digit_eq ▸ Lib.laidMet.reads h1 (.tail _ (.head _)))
end Go.Proofs.YtadmedfehcckiaaGreatDoor
