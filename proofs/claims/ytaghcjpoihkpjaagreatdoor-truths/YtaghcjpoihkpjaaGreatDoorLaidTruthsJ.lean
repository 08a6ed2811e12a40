/-
  WHAT Truths' LISTED VARIABLES GIVE THE WALKS: the tables, the sentinels.
-/
import Derived.Test.YtaghcjpoihkpjaaGreatDoorJ34
import Derived.Test.YtaghcjpoihkpjaaGreatDoorJ19
namespace Go.Proofs.YtaghcjpoihkpjaaGreatDoor
open Go.RowKit Go.Lib Go.Shelf

def sentsTruths : List (String × List UInt8) := [("scaler/api.ErrLong", [116, 104, 101, 32, 116, 101, 120, 116, 32, 105, 115, 32, 116, 111, 111, 32, 108, 111, 110, 103]), ("scaler/api.ErrCode", [116, 104, 101, 115, 101, 32, 98, 121, 116, 101, 115, 32, 97, 114, 101, 32, 110, 111, 32, 99, 111, 100, 101]), ("scaler/api.ErrLimits", [116, 104, 101, 114, 101, 32, 97, 114, 101, 32, 110, 111, 32, 115, 117, 99, 104, 32, 108, 105, 109, 105, 116, 115]), ("scaler/api.ErrStale", [116, 104, 101, 32, 116, 105, 109, 101, 32, 105, 115, 32, 112, 97, 115, 116]), ("scaler/api.ErrMetric", [116, 104, 101, 32, 112, 111, 108, 105, 99, 121, 32, 104, 97, 115, 32, 110, 111, 32, 115, 117, 99, 104, 32, 109, 101, 116, 114, 105, 99]), ("scaler/api.ErrDivide", [97, 32, 100, 105, 118, 105, 115, 105, 111, 110, 32, 98, 121, 32, 48]), ("scaler/api.ErrNoData", [116, 104, 101, 114, 101, 32, 105, 115, 32, 110, 111, 116, 104, 105, 110, 103, 32, 116, 111, 32, 109, 101, 97, 115, 117, 114, 101]), ("scaler/api.ErrCooling", [105, 116, 32, 105, 115, 32, 116, 111, 111, 32, 115, 111, 111, 110, 32, 102, 111, 114, 32, 97, 32, 99, 104, 97, 110, 103, 101])]
theorem Tryz.sentTypesTruths : (sentsTruths.all fun x => match Tryz.prog.globalNamed x.1 with | some g => ((Tryz.prog.globals[g]?).map (·.type)) == some 50 | none => true) = true := by kernel_rfl
theorem sentTypesTruths_of (x : String × List UInt8) (hx : x ∈ sentsTruths) (g : Nat) (hg : Tryz.prog.globalNamed x.1 = some g) : (Tryz.prog.globals[g]?).map (·.type) = some 50 := by
  have h := List.all_eq_true.1 Tryz.sentTypesTruths x hx
  simp only [hg] at h
  exact eq_of_beq h
theorem sentsTruths_listed : (Rows.truthsRow.laid.filter fun x => sentNames.contains x.1) = sentsTruths.map (sentD "*errors.errorString") := by kernel_rfl
theorem handleTruths_listed : (Rows.truthsRow.laid.filter fun x => x.1 == "errors.errorType") = [("errors.errorType", Rows.laid_errors_errorType)] := by kernel_rfl
theorem sentsTruths_of_laid {W : World} (hL : laidMetH Tryz.prog Rows.truthsRow.laid W) : ∃ A, SentsX A W := by
  have h1 := hL.filter fun x => sentNames.contains x.1
  have hh0 := hL.filter fun x => x.1 == "errors.errorType"
  rw [handleTruths_listed] at hh0
  have hh : handlesMet Tryz.prog [("errors.errorType", Rows.laid_errors_errorType)] W := hh0.2
  rw [sentsTruths_listed, MakeChecks.laidMetH_plain _ _ _ (by kernel_rfl)] at h1
  obtain ⟨ps, hlv, hnd, hrows⟩ := h1
  obtain ⟨As, hlen, hAs, hpw, -⟩ := sentinels_of_laid Tryz.underlying50 Tryz.row_err Tryz.underlying349 Tryz.underlying368 rfl rfl Tryz.underlying9 Tryz.cellsE Tryz.cellsS sentsTruths ps sentTypesTruths_of hlv hnd hrows
  have hl8 : As.length = 8 := hlen
  have at? : ∀ k, k < 8 → As[k]? = some (As.getD k default) := fun k hk => by
    rw [List.getElem?_eq_getElem (by omega), List.getD_eq_getElem?_getD, List.getElem?_eq_getElem (by omega), Option.getD_some]
  have cell : ∀ k, k < 8 → ∀ x, sentsTruths[k]? = some x → ∀ g, Tryz.prog.globalNamed x.1 = some g → W.cell? ⟨g, 0, none⟩ = some (.iface 349 (.pointer (some (As.getD k default)))) := fun k hk x hx g hg => by
    simpa using World.var?_cell hg (hAs k x _ hx (at? k hk)).1 0
  have row : ∀ k, k < 8 → ∃ c t, W.heap[(As.getD k default).block]? = some (.cells c t (0, 0)) := fun k hk => by
    have : k < sentsTruths.length := hk
    exact (hAs k sentsTruths[k] _ (by simp [this]) (at? k hk)).2
  have lt : ∀ i j, i < j → j < 8 → As.getD i default ≠ As.getD j default := fun i j hij hj => by
    have q := List.pairwise_iff_getElem.1 hpw i j (by omega) (by omega) hij
    rw [List.getD_eq_getElem?_getD, List.getElem?_eq_getElem (by omega), List.getD_eq_getElem?_getD, List.getElem?_eq_getElem (by omega)]
    exact fun e => q e.symm
  have pl : ∀ i, i < 8 → ([0, 1, 2, 3, 4, 5, 6, 7] : List Nat).getD i 0 < 8 := by decide
  have pn : ∀ i, i < 8 → ∀ j, j < 8 → i ≠ j → ([0, 1, 2, 3, 4, 5, 6, 7] : List Nat).getD i 0 ≠ ([0, 1, 2, 3, 4, 5, 6, 7] : List Nat).getD j 0 := by decide
  refine ⟨fun k => As.getD (([0, 1, 2, 3, 4, 5, 6, 7] : List Nat).getD k 0) default, ⟨cell 0 (by decide) _ rfl _ Tryz.gE0, cell 1 (by decide) _ rfl _ Tryz.gE1, cell 2 (by decide) _ rfl _ Tryz.gE2, cell 3 (by decide) _ rfl _ Tryz.gE3, cell 4 (by decide) _ rfl _ Tryz.gE4, cell 5 (by decide) _ rfl _ Tryz.gE5, cell 6 (by decide) _ rfl _ Tryz.gE6, cell 7 (by decide) _ rfl _ Tryz.gE7⟩, fun i hi => row _ (pl i hi), fun i j hi hj hne => ?_, handle_of_laid hh⟩
  rcases Nat.lt_or_ge (([0, 1, 2, 3, 4, 5, 6, 7] : List Nat).getD i 0) (([0, 1, 2, 3, 4, 5, 6, 7] : List Nat).getD j 0) with h | h
  · exact lt _ _ h (pl j hj)
  · exact fun e => lt _ _ (Nat.lt_of_le_of_ne h fun e => pn i hi j hj hne e.symm) (pl i hi) e.symm
theorem accTruths_listed : (Rows.truthsRow.laid.filter fun x => x.1 == "unicode/utf8.acceptRanges") = [("unicode/utf8.acceptRanges", acceptData)] := by kernel_rfl
theorem digTruths_listed : (Rows.truthsRow.laid.filter fun x => x.1 == "unicode.Digit") = [("unicode.Digit", Pinned.digit)] := by kernel_rfl
theorem letTruths_listed : (Rows.truthsRow.laid.filter fun x => x.1 == "unicode.Letter") = [("unicode.Letter", Pinned.letter)] := by kernel_rfl
theorem firstTruths_listed : (Rows.truthsRow.laid.filter fun x => x.1 == "unicode/utf8.first") = [("unicode/utf8.first", Pinned.utf8First)] := by kernel_rfl
theorem propsTruths_listed : (Rows.truthsRow.laid.filter fun x => x.1 == "unicode.properties") = [("unicode.properties", tabData .u8 propertiesTab)] := by kernel_rfl
theorem tabsTruths_of_laid {W : World} (hL : laidMetH Tryz.prog Rows.truthsRow.laid W) : Tabs W := by
  have h1 := hL.filter fun x => x.1 == "unicode/utf8.acceptRanges"
  have h2 := hL.filter fun x => x.1 == "unicode.properties"
  have h3 := hL.filter fun x => x.1 == "unicode.Digit"
  have h4 := hL.filter fun x => x.1 == "unicode.Letter"
  have h5 := hL.filter fun x => x.1 == "unicode/utf8.first"
  rw [accTruths_listed, MakeChecks.laidMetH_plain _ _ _ (by kernel_rfl)] at h1
  rw [propsTruths_listed, MakeChecks.laidMetH_plain _ _ _ (by kernel_rfl)] at h2
  rw [digTruths_listed, MakeChecks.laidMetH_plain _ _ _ (by kernel_rfl)] at h3
  rw [letTruths_listed, MakeChecks.laidMetH_plain _ _ _ (by kernel_rfl)] at h4
  rw [firstTruths_listed, MakeChecks.laidMetH_plain _ _ _ (by kernel_rfl)] at h5
  refine ⟨?_, ?_, ?_, ?_⟩
  · exact utf8Tabs_of_reads Tryz.lays260 Tryz.u8x (Pinned.utf8First_eq ▸ Lib.laidMet.reads h5 (.head _)) (Lib.laidMet.reads h1 (.head _))
  · exact tabIs_of_head Tryz.gProps (by kernel_rfl) Tryz.underlying295 Tryz.underlying5 (by kernel_rfl) (by kernel_rfl) h2
  · exact rvar_of_reads Tryz.lays261 Tryz.rx (by kernel_rfl) (by kernel_rfl) (Pinned.letter_eq ▸ Lib.laidMet.reads h4 (.head _))
  · exact rvar_of_reads Tryz.lays261 Tryz.rx (by kernel_rfl) (by kernel_rfl) (Pinned.digit_eq ▸ Lib.laidMet.reads h3 (.head _))
theorem powTruths_listed : (Rows.truthsRow.laid.filter fun x => x.1 == "internal/strconv.uint64pow10") = [("internal/strconv.uint64pow10", tabData .u64 pow10Tab)] := by kernel_rfl
theorem tabsRTruths_of_laid {W : World} (hL : laidMetH Tryz.prog Rows.truthsRow.laid W) : TabsR W := by
  have h3 := hL.filter fun x => x.1 == "internal/strconv.uint64pow10"
  rw [powTruths_listed, MakeChecks.laidMetH_plain _ _ _ (by kernel_rfl)] at h3
  exact ⟨tabsTruths_of_laid hL, tabIs_of_head Tryz.gPow (by kernel_rfl) Tryz.underlying335 Tryz.underlying290 (by kernel_rfl) (by kernel_rfl) h3⟩
end Go.Proofs.YtaghcjpoihkpjaaGreatDoor
