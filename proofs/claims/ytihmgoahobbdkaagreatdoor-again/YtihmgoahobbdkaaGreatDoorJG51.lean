/-
  scalerkeep.Again PROVED: the row's statement.
-/
import Derived.Test.YtihmgoahobbdkaaGreatDoorJG50
import Derived.Test.YtihmgoahobbdkaaGreatDoorJG49
namespace Go.Proofs.YtihmgoahobbdkaaGreatDoor
open Go.ChangeShapes Go.WideShapes Go.ChangeAt Go.RowKit Go.Lib
open Go.ChangeMaps (open_string shut_string)

/-- A world in which the listed variables lie as they are listed. -/
noncomputable def witAgain (os : Os) : World := (witH os).layVars Tryz.prog (Rows.againRow.laid.filter fun x => x.2.handleName?.isNone)
theorem witAgain_met (os : Os) : laidMetH Tryz.prog Rows.againRow.laid (witAgain os) :=
  laidMetH_of_parts3 (fuel := 8) (laidMet_layVars_all (w0 := witH os) (by kernel_rfl) (by kernel_rfl)) (by kernel_rfl) (by kernel_rfl)
set_option maxRecDepth 100000 in
theorem again_lifted (os : Os) (started : os.Started) (H : Type) (enc : TypeId × Value → H) :
    ReturnsInHanded {} Tryz.checked os 7 .any (fun w args => (Rows.againSpec.pre enc Tryz.prog Tryz.f7 [] false w args ∧ laidMetH Tryz.prog Rows.againRow.laid w) ∧ sizedMet enc Tryz.prog Tryz.f7 (OpenSpec.ofChange Rows.againSpec) false w args)
      (Rows.againSpec.post enc Tryz.prog Tryz.f7 false true false false) := by
  refine returnsInHanded_of_change_and (C := Tryz.checked) (X := fun w _ => laidMetH Tryz.prog Rows.againRow.laid w) (fun _ _ _ hh h => h.of_heap hh) Tryz.own started (by kernel_rfl) Tryz.func7
    (ChangeSpec.witness_shaped (enc := enc) (C := Tryz.checked) (os := os) (X := fun w _ => laidMetH Tryz.prog Rows.againRow.laid w) false (witAgain os) #[.string ⟨#[]⟩] 8 (World.layVars_os _ _ _)
      (World.shaped_of_ZipB (by kernel_rfl) (by kernel_rfl)) (by kernel_rfl) (by kernel_rfl) (by kernel_rfl)
      ((witAgain_met os).of_heap (by simp [World.memory, World.forCall, Input.heap]))) ?_
  intro W base args ds gs before hval0 hW _ _ hL _
  have hval : ∀ (j : Nat) t v, Tryz.f7.params[j]? = some t → args[j]? = some v → Value.okWide Tryz.prog W .any base t v := hval0
  have hW' := hW
  obtain ⟨p, q, hA0, hV, rfl, _, _⟩ := hW
  have hA : DataW.TrodAll enc Tryz.prog W 0 (fun _ => true) true Tryz.f7.params.toList args.toList ds p := hA0
  rw [Tryz.params7] at hA hval
  obtain ⟨v0, d0, rfl, rfl, h0⟩ := trodAll_one hA
  obtain ⟨rfl, rfl⟩ := trodVars_none hV
  obtain ⟨a0, rfl, rfl, rfl, w0⟩ := open_string Tryz.underlying9 (hval 0 9 v0 rfl rfl) h0
  simp only [List.append_nil] at hW'
  obtain ⟨A, hS⟩ := sentsAgain_of_laid hL
  refine (law_Again _ (tabsRAgain_of_laid hL) hS).mono fun e W' ⟨he, hb⟩ => ?_
  subst he
  exact ⟨_, rfl, _, _, _, [], [], [], hW', trodAll_mk1 (shut_bool Tryz.underlying4 _), trodAll_mk1 (shut_string Tryz.underlying9 w0), rfl, hb.frame _, fun h => by cases h⟩
theorem again_f1 : (Rows.againRow.inPlace == Tryz.prog.inPlace 7) = true := by kernel_rfl
theorem again_f2 : (Rows.againRow.unfollowed == Tryz.prog.unfollowed 7) = true := by kernel_rfl
theorem again_f3 : (Rows.againRow.recurses == Tryz.prog.recurses 7) = true := by kernel_rfl
theorem again_f4 : (Rows.againRow.named == Tryz.prog.varsNamed 7) = true := by kernel_rfl
theorem again_facts : joinedFacts Tryz.prog 7 Tryz.f7 Rows.againSpec Rows.againRow = true := by
  unfold joinedFacts
  rw [again_f1, again_f2, again_f3, again_f4]
  kernel_rfl
theorem again_fn : Tryz.prog.funcNamed Rows.againRow.func = some 7 := by kernel_rfl
theorem again_inst : Tryz.f7.isInstance Tryz.prog Rows.againRow.origin Rows.againRow.targs := of_decide_eq_true (by kernel_rfl)
theorem again_wrap : Tryz.f7.isWrapper Tryz.prog Rows.againRow.wrapper Rows.againRow.mainSum := by
  unfold Func.isWrapper
  rw [if_neg (of_decide_eq_false (by kernel_rfl))]
  exact ⟨rfl, rfl⟩
theorem again_holds : Rows.AgainSaid :=
  OpenClaim.holds_of_wide 7 Tryz.f7 rfl rfl rfl rfl rfl rfl rfl ⟨rfl, rfl, rfl, rfl, rfl⟩ rfl rfl rfl rfl rfl again_fn Tryz.func7 again_facts again_inst again_wrap
    (fun os started H enc _ => again_lifted os started H enc)
end Go.Proofs.YtihmgoahobbdkaaGreatDoor
