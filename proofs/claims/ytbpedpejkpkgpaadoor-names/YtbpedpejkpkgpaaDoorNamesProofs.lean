/-
  scalerlaw.Names PROVED: the row's statement.
-/
import Derived.Test.YtbpedpejkpkgpaaDoorLaid
import Derived.Test.YtbpedpejkpkgpaaDoorSame
import Derived.LaidMore
import Derived.Stop.Joined
namespace Go.Proofs.YtbpedpejkpkgpaaDoor
open Go.ChangeShapes Go.WideShapes Go.ChangeAt Go.RowKit

theorem Tryd.own : ownKnob Tryd.prog.godebug = none := by kernel_rfl
theorem Tryd.g0 : Tryd.prog.globalNamed "scaler/api.ErrLong" = some 0 := by kernel_rfl
theorem Tryd.g1 : Tryd.prog.globalNamed "scaler/api.ErrCode" = some 1 := by kernel_rfl
theorem Tryd.g2 : Tryd.prog.globalNamed "scaler/api.ErrLimits" = some 2 := by kernel_rfl
theorem Tryd.g3 : Tryd.prog.globalNamed "scaler/api.ErrStale" = some 3 := by kernel_rfl
theorem Tryd.g4 : Tryd.prog.globalNamed "scaler/api.ErrMetric" = some 4 := by kernel_rfl
theorem Tryd.g5 : Tryd.prog.globalNamed "scaler/api.ErrDivide" = some 5 := by kernel_rfl
theorem Tryd.g6 : Tryd.prog.globalNamed "scaler/api.ErrNoData" = some 6 := by kernel_rfl
theorem Tryd.g7 : Tryd.prog.globalNamed "scaler/api.ErrCooling" = some 7 := by kernel_rfl
theorem Tryd.et : Tryd.prog.globalNamed "errors.errorType" = some 8 := by kernel_rfl
theorem Tryd.rt : (Tryd.prog.cutTypes.find? (·.1 == "internal/reflectlite.rtype")).map (·.2) = some 68 := by kernel_rfl
theorem Tryd.oneRow : ((List.range 118).filter fun t => Tryd.prog.rowNamed t [101, 114, 114, 111, 114]) = [28] := by kernel_rfl
theorem Tryd.size : Tryd.prog.types.size = 118 := by kernel_rfl
theorem Tryd.star : "*" ++ "errors.errorString" = "*errors.errorString" := by decide
theorem Tryd.row82 (u : TypeId) (h : Tryd.prog.typeName? 3 u = some "*errors.errorString") : u = 82 :=
  typeName_ptr_named (nm := "errors.errorString") (by rw [Tryd.star]; kernel_rfl) (by kernel_rfl) (by decide) u (by rw [Tryd.star]; exact h)
theorem Tryd.cells106 : Tryd.prog.cellsOf 106 = 1 := by kernel_rfl
theorem Tryd.cells9 : Tryd.prog.cellsOf 9 = 1 := by kernel_rfl

def sents : List (String × List UInt8) := [("scaler/api.ErrLong", [116, 104, 101, 32, 116, 101, 120, 116, 32, 105, 115, 32, 116, 111, 111, 32, 108, 111, 110, 103]), ("scaler/api.ErrCode", [116, 104, 101, 115, 101, 32, 98, 121, 116, 101, 115, 32, 97, 114, 101, 32, 110, 111, 32, 99, 111, 100, 101]), ("scaler/api.ErrLimits", [116, 104, 101, 114, 101, 32, 97, 114, 101, 32, 110, 111, 32, 115, 117, 99, 104, 32, 108, 105, 109, 105, 116, 115]), ("scaler/api.ErrStale", [116, 104, 101, 32, 116, 105, 109, 101, 32, 105, 115, 32, 112, 97, 115, 116]), ("scaler/api.ErrMetric", [116, 104, 101, 32, 112, 111, 108, 105, 99, 121, 32, 104, 97, 115, 32, 110, 111, 32, 115, 117, 99, 104, 32, 109, 101, 116, 114, 105, 99]), ("scaler/api.ErrDivide", [97, 32, 100, 105, 118, 105, 115, 105, 111, 110, 32, 98, 121, 32, 48]), ("scaler/api.ErrNoData", [116, 104, 101, 114, 101, 32, 105, 115, 32, 110, 111, 116, 104, 105, 110, 103, 32, 116, 111, 32, 109, 101, 97, 115, 117, 114, 101]), ("scaler/api.ErrCooling", [105, 116, 32, 105, 115, 32, 116, 111, 111, 32, 115, 111, 111, 110, 32, 102, 111, 114, 32, 97, 32, 99, 104, 97, 110, 103, 101])]
theorem Tryd.sentTypes : (sents.all fun x => match Tryd.prog.globalNamed x.1 with | some g => ((Tryd.prog.globals[g]?).map (·.type)) == some 28 | none => true) = true := by kernel_rfl
theorem sentTypes_of (x : String × List UInt8) (hx : x ∈ sents) (g : Nat) (hg : Tryd.prog.globalNamed x.1 = some g) : (Tryd.prog.globals[g]?).map (·.type) = some 28 := by
  have h := List.all_eq_true.1 Tryd.sentTypes x hx
  simp only [hg] at h
  exact eq_of_beq h

theorem handle_of_laid {W : World} (h : handlesMet Tryd.prog [("errors.errorType", Rows.laid_errors_errorType)] W) : W.cell? ⟨8, 0, none⟩ = some (.iface 68 (.agg #[.pointer (some ⟨9, 28, none⟩)])) := by
  obtain ⟨name, u, ty, e1, e2, e3, e4, e5⟩ := h _ (List.mem_singleton.2 rfl)
  have en : name = [101, 114, 114, 111, 114] := (Option.some.inj e1).symm
  subst en
  obtain rfl := Option.some.inj (Tryd.rt.symm.trans e2)
  have hm : ty ∈ (List.range 118).filter fun t => Tryd.prog.rowNamed t [101, 114, 114, 111, 114] := List.mem_filter.2 ⟨List.mem_range.2 (by rw [← Tryd.size]; exact e3), e4⟩
  rw [Tryd.oneRow] at hm
  obtain rfl := List.mem_singleton.1 hm
  have hh : typeHandle Tryd.prog 28 = .pointer (some ⟨9, 28, none⟩) := by kernel_rfl
  rw [hh] at e5
  simpa using World.var?_cell Tryd.et e5 0

/-- What the listed variables give the walk. -/
theorem walk_of_laid {W : World} (hL : laidMetH Tryd.prog Rows.namesRow.laid W) : Calls Tryd.prog 3 #[] W fun e w' => e = .returned (.bool true) ∧ W.Extends w' := by
  have h' : laidMet Tryd.prog (sents.map (sentD "*errors.errorString")) W ∧ handlesMet Tryd.prog [("errors.errorType", Rows.laid_errors_errorType)] W := hL
  obtain ⟨⟨ps, hlv, hnd, hrows⟩, hh⟩ := h'
  have hg := handle_of_laid hh
  obtain ⟨As, hlen, hAs, hpw, -⟩ := sentinels_of_laid Tryd.underlying28 Tryd.row82 Tryd.underlying82 Tryd.underlying106 rfl rfl Tryd.underlying9 Tryd.cells106 Tryd.cells9 sents ps sentTypes_of hlv hnd hrows
  have hl8 : As.length = 8 := hlen
  have at? : ∀ k, k < 8 → As[k]? = some (As.getD k default) := fun k hk => by
    rw [List.getElem?_eq_getElem (by omega), List.getD_eq_getElem?_getD, List.getElem?_eq_getElem (by omega), Option.getD_some]
  have cell : ∀ k, k < 8 → ∀ x, sents[k]? = some x → ∀ g, Tryd.prog.globalNamed x.1 = some g → W.cell? ⟨g, 0, none⟩ = some (.iface 82 (.pointer (some (As.getD k default)))) := fun k hk x hx g hg => by
    simpa using World.var?_cell hg (hAs k x _ hx (at? k hk)).1 0
  have g0 : W.cell? ⟨0, 0, none⟩ = some (.iface 82 (.pointer (some (As.getD 0 default)))) := cell 0 (by decide) _ rfl _ Tryd.g0
  have g1 : W.cell? ⟨1, 0, none⟩ = some (.iface 82 (.pointer (some (As.getD 1 default)))) := cell 1 (by decide) _ rfl _ Tryd.g1
  have g2 : W.cell? ⟨2, 0, none⟩ = some (.iface 82 (.pointer (some (As.getD 2 default)))) := cell 2 (by decide) _ rfl _ Tryd.g2
  have g3 : W.cell? ⟨3, 0, none⟩ = some (.iface 82 (.pointer (some (As.getD 3 default)))) := cell 3 (by decide) _ rfl _ Tryd.g3
  have g4 : W.cell? ⟨4, 0, none⟩ = some (.iface 82 (.pointer (some (As.getD 4 default)))) := cell 4 (by decide) _ rfl _ Tryd.g4
  have g5 : W.cell? ⟨5, 0, none⟩ = some (.iface 82 (.pointer (some (As.getD 5 default)))) := cell 5 (by decide) _ rfl _ Tryd.g5
  have g6 : W.cell? ⟨6, 0, none⟩ = some (.iface 82 (.pointer (some (As.getD 6 default)))) := cell 6 (by decide) _ rfl _ Tryd.g6
  have g7 : W.cell? ⟨7, 0, none⟩ = some (.iface 82 (.pointer (some (As.getD 7 default)))) := cell 7 (by decide) _ rfl _ Tryd.g7
  refine names_all (fun k => As.getD k default) W hg g0 g1 g2 g3 g4 g5 g6 g7 (fun i j hji hi => ?_) (fun i hi => ?_)
  · have hj := at? j (by omega)
    have hi' := at? i hi
    rw [List.pairwise_iff_getElem] at hpw
    have := hpw j i (by omega) (by omega) hji
    rw [List.getElem?_eq_getElem (by omega)] at hj hi'
    rw [Option.some.inj hj, Option.some.inj hi'] at this
    exact this
  · obtain ⟨x, hx⟩ : ∃ x, sents[i]? = some x := ⟨sents[i]'(by simpa [sents] using hi), List.getElem?_eq_getElem _⟩
    exact (hAs i x _ hx (at? i hi)).2

theorem door_met (os : Os) (args : Array Value) : laidMetH Tryd.prog Rows.namesRow.laid ((World.doorLaid Tryd.prog 400 os).forCall (fun _ _ => 0) ⟨#[], args, []⟩).memory :=
  laidMetH_of_parts3 (fuel := 8) (laidMet_of_run' 8 (by kernel_rfl) (by kernel_rfl)) (by kernel_rfl) (by kernel_rfl)

set_option maxRecDepth 100000 in
theorem names_lifted (os : Os) (started : os.Started) (H : Type) (enc : TypeId × Value → H) :
    ReturnsInHanded {} Tryd.checked os 3 .any (fun w args => (Rows.namesSpec.pre enc Tryd.prog Tryd.f3 [] false w args ∧ laidMetH Tryd.prog Rows.namesRow.laid w) ∧ sizedMet enc Tryd.prog Tryd.f3 (OpenSpec.ofChange Rows.namesSpec) false w args)
      (Rows.namesSpec.post enc Tryd.prog Tryd.f3 false true false false) := by
  refine returnsInHanded_of_change_and (C := Tryd.checked) (X := fun w _ => laidMetH Tryd.prog Rows.namesRow.laid w) (fun _ _ _ hh h => h.of_heap hh) Tryd.own started (by kernel_rfl) Tryd.func3
    (ChangeSpec.witness_shaped (enc := enc) (C := Tryd.checked) (os := os) (X := fun w _ => laidMetH Tryd.prog Rows.namesRow.laid w) false (World.doorLaid Tryd.prog 400 os) #[] 8 rfl (World.shaped_of_RefB (by kernel_rfl) (by kernel_rfl)) (by kernel_rfl) (by kernel_rfl) (by kernel_rfl) (door_met os _)) ?_
  intro W base args ds gs before hval0 hW _ _ hL _
  have hW' := hW
  obtain ⟨p, q, hA0, hV, rfl, hfz, hnd⟩ := hW
  have hA : DataW.TrodAll enc Tryd.prog W 0 (fun _ => true) true Tryd.f3.params.toList args.toList ds p := hA0
  rw [Tryd.params3] at hA
  obtain ⟨rfl, rfl, rfl⟩ := trodAll_none hA
  obtain ⟨rfl, rfl⟩ := trodVars_none hV
  have e1 : Rows.namesSpec.fn H ([] ++ []) = { results := [.lit (.bool true)], args := [] } := by simp [Rows.namesSpec]
  refine (walk_of_laid hL).mono fun e W' ⟨he, hx⟩ => ?_
  subst he
  refine ⟨_, rfl, _, _, _, [], [], [], hW', ?_, ?_, ?_, World.keptBut_mono (fun _ h => h.elim) (World.keptBut_none_iff.2 ⟨hx.os, hx.output, hx.block⟩), fun h => by cases h⟩
  · rw [e1]; exact trodAll_mk1 (shut_bool Tryd.underlying4 true)
  · rw [e1]; exact trodAll_mk0
  · rw [e1]; rfl

theorem names_holds : Rows.NamesSaid :=
  OpenClaim.holds_of_wide 3 Tryd.f3 rfl rfl rfl rfl rfl rfl rfl ⟨rfl, rfl, rfl, rfl, rfl⟩ rfl rfl rfl rfl rfl (by kernel_rfl) Tryd.func3 (by kernel_rfl)
    (of_decide_eq_true (by kernel_rfl)) (by unfold Func.isWrapper; rw [if_neg (of_decide_eq_false (by kernel_rfl))]; exact ⟨rfl, rfl⟩)
    (fun os started H enc _ => names_lifted os started H enc)
end Go.Proofs.YtbpedpejkpkgpaaDoor
