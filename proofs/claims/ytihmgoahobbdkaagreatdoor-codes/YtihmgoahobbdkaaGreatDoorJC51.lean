/-
  scalerlaw.Codes PROVED: the row's statement.
-/
import Derived.Test.YtihmgoahobbdkaaGreatDoorJC50
import Derived.Test.YtihmgoahobbdkaaGreatDoorJC49
namespace Go.Proofs.YtihmgoahobbdkaaGreatDoor
open Go.ChangeShapes Go.WideShapes Go.ChangeAt Go.RowKit Go.Lib
open Go.ChangeMaps (open_string shut_string)

/-- A world in which the listed variables lie as they are listed. -/
noncomputable def witCodes (os : Os) : World := (witH os).layVars Tryz.prog (Rows.codesRow.laid.filter fun x => x.2.handleName?.isNone)
theorem witCodes_met (os : Os) : laidMetH Tryz.prog Rows.codesRow.laid (witCodes os) :=
  laidMetH_of_parts3 (fuel := 8) (laidMet_layVars_all (w0 := witH os) (by kernel_rfl) (by kernel_rfl)) (by kernel_rfl) (by kernel_rfl)
set_option maxRecDepth 100000 in
theorem codes_lifted (os : Os) (started : os.Started) (H : Type) (enc : TypeId × Value → H) :
    ReturnsInHanded {} Tryz.checked os 5 .any (fun w args => (Rows.codesSpec.pre enc Tryz.prog Tryz.f5 [] false w args ∧ laidMetH Tryz.prog Rows.codesRow.laid w) ∧ sizedMet enc Tryz.prog Tryz.f5 (OpenSpec.ofChange Rows.codesSpec) false w args)
      (Rows.codesSpec.post enc Tryz.prog Tryz.f5 false true false false) := by
  refine returnsInHanded_of_change_and (C := Tryz.checked) (X := fun w _ => laidMetH Tryz.prog Rows.codesRow.laid w) (fun _ _ _ hh h => h.of_heap hh) Tryz.own started (by kernel_rfl) Tryz.func5
    (ChangeSpec.witness_shaped (enc := enc) (C := Tryz.checked) (os := os) (X := fun w _ => laidMetH Tryz.prog Rows.codesRow.laid w) false (witCodes os) #[.string ⟨#[]⟩, .int .i64 0, .int .i64 0] 8 (World.layVars_os _ _ _)
      (World.shaped_of_ZipB (by kernel_rfl) (by kernel_rfl)) (by kernel_rfl) (by kernel_rfl) (by kernel_rfl)
      ((witCodes_met os).of_heap (by simp [World.memory, World.forCall, Input.heap]))) ?_
  intro W base args ds gs before hval0 hW _ _ hL _
  have hval : ∀ (j : Nat) t v, Tryz.f5.params[j]? = some t → args[j]? = some v → Value.okWide Tryz.prog W .any base t v := hval0
  have hW' := hW
  obtain ⟨p, q, hA0, hV, rfl, _, _⟩ := hW
  have hA : DataW.TrodAll enc Tryz.prog W 0 (fun _ => true) true Tryz.f5.params.toList args.toList ds p := hA0
  rw [Tryz.params5] at hA hval
  obtain ⟨v0, v1, v2, d0, d1, d2, p0, p1, p2, rfl, rfl, rfl, h0, h1, h2⟩ := trodAll_three hA
  obtain ⟨rfl, rfl⟩ := trodVars_none hV
  obtain ⟨a0, rfl, rfl, rfl, w0⟩ := open_string Tryz.underlying9 (hval 0 9 v0 rfl rfl) h0
  obtain ⟨a1, rfl, rfl, rfl, w1⟩ := open_int Tryz.underlying3 (hval 1 3 v1 rfl rfl) h1
  obtain ⟨a2, rfl, rfl, rfl, w2⟩ := open_int Tryz.underlying3 (hval 2 3 v2 rfl rfl) h2
  simp only [List.append_nil] at hW'
  obtain ⟨A, hS⟩ := sentsCodes_of_laid hL
  refine (law_Codes _ a1 a2 (by simp [maxLen] at w0 ⊢; omega) (tabsRCodes_of_laid hL) hS).mono fun e W' ⟨he, hb⟩ => ?_
  subst he
  exact ⟨_, rfl, _, _, _, [], [], [], hW', trodAll_mk1 (shut_bool Tryz.underlying4 _), trodAll_mk3 (p := []) (p' := []) (shut_string Tryz.underlying9 w0) (shut_int Tryz.underlying3 w1) (shut_int Tryz.underlying3 w2), rfl, hb.frame _, fun h => by cases h⟩
theorem codes_f1 : (Rows.codesRow.inPlace == Tryz.prog.inPlace 5) = true := by kernel_rfl
theorem codes_f2 : (Rows.codesRow.unfollowed == Tryz.prog.unfollowed 5) = true := by kernel_rfl
theorem codes_f3 : (Rows.codesRow.recurses == Tryz.prog.recurses 5) = true := by kernel_rfl
theorem codes_f4 : (Rows.codesRow.named == Tryz.prog.varsNamed 5) = true := by kernel_rfl
theorem codes_facts : joinedFacts Tryz.prog 5 Tryz.f5 Rows.codesSpec Rows.codesRow = true := by
  unfold joinedFacts
  rw [codes_f1, codes_f2, codes_f3, codes_f4]
  kernel_rfl
theorem codes_fn : Tryz.prog.funcNamed Rows.codesRow.func = some 5 := by kernel_rfl
theorem codes_inst : Tryz.f5.isInstance Tryz.prog Rows.codesRow.origin Rows.codesRow.targs := of_decide_eq_true (by kernel_rfl)
theorem codes_wrap : Tryz.f5.isWrapper Tryz.prog Rows.codesRow.wrapper Rows.codesRow.mainSum := by
  unfold Func.isWrapper
  rw [if_neg (of_decide_eq_false (by kernel_rfl))]
  exact ⟨rfl, rfl⟩
theorem codes_holds : Rows.CodesSaid :=
  OpenClaim.holds_of_wide 5 Tryz.f5 rfl rfl rfl rfl rfl rfl rfl ⟨rfl, rfl, rfl, rfl, rfl⟩ rfl rfl rfl rfl rfl codes_fn Tryz.func5 codes_facts codes_inst codes_wrap
    (fun os started H enc _ => codes_lifted os started H enc)
end Go.Proofs.YtihmgoahobbdkaaGreatDoor
