/-
  scalerlaw.Parses PROVED: the row's statement.
-/
import Derived.Test.YtihmgoahobbdkaaGreatDoorLaidParses
import Derived.Test.YtihmgoahobbdkaaGreatDoorCodeQ
namespace Go.Proofs.YtihmgoahobbdkaaGreatDoor
open Go.ChangeShapes Go.WideShapes Go.ChangeAt Go.RowKit Go.Lib
open Go.ChangeMaps (open_string shut_string)

/-- A world in which the listed variables lie as they are listed. -/
noncomputable def witParses (os : Os) : World := (witH os).layVars Tryz.prog (Rows.parsesRow.laid.filter fun x => x.2.handleName?.isNone)
theorem witParses_met (os : Os) : laidMetH Tryz.prog Rows.parsesRow.laid (witParses os) :=
  laidMetH_of_parts3 (fuel := 8) (laidMet_layVars_all (w0 := witH os) (by kernel_rfl) (by kernel_rfl)) (by kernel_rfl) (by kernel_rfl)
set_option maxRecDepth 100000 in
theorem parses_lifted (os : Os) (started : os.Started) (H : Type) (enc : TypeId × Value → H) :
    ReturnsInHanded {} Tryz.checked os 3 .any (fun w args => (Rows.parsesSpec.pre enc Tryz.prog Tryz.f3 [] false w args ∧ laidMetH Tryz.prog Rows.parsesRow.laid w) ∧ sizedMet enc Tryz.prog Tryz.f3 (OpenSpec.ofChange Rows.parsesSpec) false w args)
      (Rows.parsesSpec.post enc Tryz.prog Tryz.f3 false true false false) := by
  refine returnsInHanded_of_change_and (C := Tryz.checked) (X := fun w _ => laidMetH Tryz.prog Rows.parsesRow.laid w) (fun _ _ _ hh h => h.of_heap hh) Tryz.own started (by kernel_rfl) Tryz.func3
    (ChangeSpec.witness_shaped (enc := enc) (C := Tryz.checked) (os := os) (X := fun w _ => laidMetH Tryz.prog Rows.parsesRow.laid w) false (witParses os) #[.string ⟨#[]⟩] 8 (World.layVars_os _ _ _)
      (World.shaped_of_ZipB (by kernel_rfl) (by kernel_rfl)) (by kernel_rfl) (by kernel_rfl) (by kernel_rfl)
      ((witParses_met os).of_heap (by simp [World.memory, World.forCall, Input.heap]))) ?_
  intro W base args ds gs before hval0 hW _ _ hL _
  have hval : ∀ (j : Nat) t v, Tryz.f3.params[j]? = some t → args[j]? = some v → Value.okWide Tryz.prog W .any base t v := hval0
  have hW' := hW
  obtain ⟨p, q, hA0, hV, rfl, _, _⟩ := hW
  have hA : DataW.TrodAll enc Tryz.prog W 0 (fun _ => true) true Tryz.f3.params.toList args.toList ds p := hA0
  rw [Tryz.params3] at hA hval
  obtain ⟨v0, d0, rfl, rfl, h0⟩ := trodAll_one hA
  obtain ⟨rfl, rfl⟩ := trodVars_none hV
  obtain ⟨a0, rfl, rfl, rfl, w0⟩ := open_string Tryz.underlying9 (hval 0 9 v0 rfl rfl) h0
  simp only [List.append_nil] at hW'
  obtain ⟨A, hS⟩ := sentsParses_of_laid hL
  refine (law_Parses _ (by simp [maxLen] at w0 ⊢; omega) (tabsParses_of_laid hL) hS).mono fun e W' ⟨he, hb⟩ => ?_
  subst he
  exact ⟨_, rfl, _, _, _, [], [], [], hW', trodAll_mk1 (shut_bool Tryz.underlying4 _), trodAll_mk1 (shut_string Tryz.underlying9 w0), rfl, hb.frame _, fun h => by cases h⟩
theorem parses_f1 : (Rows.parsesRow.inPlace == Tryz.prog.inPlace 3) = true := by kernel_rfl
theorem parses_f2 : (Rows.parsesRow.unfollowed == Tryz.prog.unfollowed 3) = true := by kernel_rfl
theorem parses_f3 : (Rows.parsesRow.recurses == Tryz.prog.recurses 3) = true := by kernel_rfl
theorem parses_f4 : (Rows.parsesRow.named == Tryz.prog.varsNamed 3) = true := by kernel_rfl
theorem parses_facts : joinedFacts Tryz.prog 3 Tryz.f3 Rows.parsesSpec Rows.parsesRow = true := by
  unfold joinedFacts
  rw [parses_f1, parses_f2, parses_f3, parses_f4]
  kernel_rfl
theorem parses_fn : Tryz.prog.funcNamed Rows.parsesRow.func = some 3 := by kernel_rfl
theorem parses_inst : Tryz.f3.isInstance Tryz.prog Rows.parsesRow.origin Rows.parsesRow.targs := of_decide_eq_true (by kernel_rfl)
theorem parses_wrap : Tryz.f3.isWrapper Tryz.prog Rows.parsesRow.wrapper Rows.parsesRow.mainSum := by
  unfold Func.isWrapper
  rw [if_neg (of_decide_eq_false (by kernel_rfl))]
  exact ⟨rfl, rfl⟩
theorem parses_holds : Rows.ParsesSaid :=
  OpenClaim.holds_of_wide 3 Tryz.f3 rfl rfl rfl rfl rfl rfl rfl ⟨rfl, rfl, rfl, rfl, rfl⟩ rfl rfl rfl rfl rfl parses_fn Tryz.func3 parses_facts parses_inst parses_wrap
    (fun os started H enc _ => parses_lifted os started H enc)
end Go.Proofs.YtihmgoahobbdkaaGreatDoor
