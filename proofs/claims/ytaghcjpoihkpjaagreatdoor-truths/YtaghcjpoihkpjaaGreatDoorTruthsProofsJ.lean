/-
  scalerkeep.Truths PROVED: the row's statement.
-/
import Derived.Test.YtaghcjpoihkpjaaGreatDoorLaidTruthsJ
import Derived.Test.YtaghcjpoihkpjaaGreatDoorTrCJ
namespace Go.Proofs.YtaghcjpoihkpjaaGreatDoor
open Go.ChangeShapes Go.WideShapes Go.ChangeAt Go.RowKit Go.Lib

/-- A world in which the listed variables lie as they are listed. -/
noncomputable def witTruths (os : Os) : World := (witH os).layVars Tryz.prog (Rows.truthsRow.laid.filter fun x => x.2.handleName?.isNone)
theorem witTruths_met (os : Os) : laidMetH Tryz.prog Rows.truthsRow.laid (witTruths os) :=
  laidMetH_of_parts3 (fuel := 8) (laidMet_layVars_all (w0 := witH os) (by kernel_rfl) (by kernel_rfl)) (by kernel_rfl) (by kernel_rfl)
set_option maxRecDepth 100000 in
theorem truths_lifted (os : Os) (started : os.Started) (H : Type) (enc : TypeId × Value → H) :
    ReturnsInHanded {} Tryz.checked os 4 .any (fun w args => (Rows.truthsSpec.pre enc Tryz.prog Tryz.f4 [] false w args ∧ laidMetH Tryz.prog Rows.truthsRow.laid w) ∧ sizedMet enc Tryz.prog Tryz.f4 (OpenSpec.ofChange Rows.truthsSpec) false w args)
      (Rows.truthsSpec.post enc Tryz.prog Tryz.f4 false true false false) := by
  refine returnsInHanded_of_change_and (C := Tryz.checked) (X := fun w _ => laidMetH Tryz.prog Rows.truthsRow.laid w) (fun _ _ _ hh h => h.of_heap hh) Tryz.own started (by kernel_rfl) Tryz.func4
    (ChangeSpec.witness_shaped (enc := enc) (C := Tryz.checked) (os := os) (X := fun w _ => laidMetH Tryz.prog Rows.truthsRow.laid w) false (witTruths os) #[.int .i32 0, .int .i32 0] 8 (World.layVars_os _ _ _)
      (World.shaped_of_ZipB (by kernel_rfl) (by kernel_rfl)) (by kernel_rfl) (by kernel_rfl) (by kernel_rfl)
      ((witTruths_met os).of_heap (by simp [World.memory, World.forCall, Input.heap]))) ?_
  intro W base args ds gs before hval0 hW _ _ hL _
  have hval : ∀ (j : Nat) t v, Tryz.f4.params[j]? = some t → args[j]? = some v → Value.okWide Tryz.prog W .any base t v := hval0
  have hW' := hW
  obtain ⟨p, q, hA0, hV, rfl, _, _⟩ := hW
  have hA : DataW.TrodAll enc Tryz.prog W 0 (fun _ => true) true Tryz.f4.params.toList args.toList ds p := hA0
  rw [Tryz.params4] at hA hval
  obtain ⟨v0, v1, d0, d1, p0, p1, rfl, rfl, rfl, h0, h1⟩ := trodAll_two hA
  obtain ⟨rfl, rfl⟩ := trodVars_none hV
  obtain ⟨a0, rfl, rfl, rfl, w0⟩ := open_int Tryz.underlying21 (hval 0 21 v0 rfl rfl) h0
  obtain ⟨a1, rfl, rfl, rfl, w1⟩ := open_int Tryz.underlying21 (hval 1 21 v1 rfl rfl) h1
  simp only [List.append_nil] at hW'
  obtain ⟨A, hS⟩ := sentsTruths_of_laid hL
  refine (law_Truths a0 a1 (i32_of_wf w0) (i32_of_wf w1) (tabsRTruths_of_laid hL) hS).mono fun e W' ⟨he, hb⟩ => ?_
  subst he
  exact ⟨_, rfl, _, _, _, [], [], [], hW', trodAll_mk1 (shut_bool Tryz.underlying4 _), trodAll_mk2 (p := []) (shut_int Tryz.underlying21 w0) (shut_int Tryz.underlying21 w1), rfl, hb.frame _, fun h => by cases h⟩
theorem truths_f1 : (Rows.truthsRow.inPlace == Tryz.prog.inPlace 4) = true := by kernel_rfl
theorem truths_f2 : (Rows.truthsRow.unfollowed == Tryz.prog.unfollowed 4) = true := by kernel_rfl
theorem truths_f3 : (Rows.truthsRow.recurses == Tryz.prog.recurses 4) = true := by kernel_rfl
theorem truths_f4 : (Rows.truthsRow.named == Tryz.prog.varsNamed 4) = true := by kernel_rfl
theorem truths_facts : joinedFacts Tryz.prog 4 Tryz.f4 Rows.truthsSpec Rows.truthsRow = true := by
  unfold joinedFacts
  rw [truths_f1, truths_f2, truths_f3, truths_f4]
  kernel_rfl
theorem truths_fn : Tryz.prog.funcNamed Rows.truthsRow.func = some 4 := by kernel_rfl
theorem truths_inst : Tryz.f4.isInstance Tryz.prog Rows.truthsRow.origin Rows.truthsRow.targs := of_decide_eq_true (by kernel_rfl)
theorem truths_wrap : Tryz.f4.isWrapper Tryz.prog Rows.truthsRow.wrapper Rows.truthsRow.mainSum := by
  unfold Func.isWrapper
  rw [if_neg (of_decide_eq_false (by kernel_rfl))]
  exact ⟨rfl, rfl⟩
theorem truths_holds : Rows.TruthsSaid :=
  OpenClaim.holds_of_wide 4 Tryz.f4 rfl rfl rfl rfl rfl rfl rfl ⟨rfl, rfl, rfl, rfl, rfl⟩ rfl rfl rfl rfl rfl truths_fn Tryz.func4 truths_facts truths_inst truths_wrap
    (fun os started H enc _ => truths_lifted os started H enc)
end Go.Proofs.YtaghcjpoihkpjaaGreatDoor
