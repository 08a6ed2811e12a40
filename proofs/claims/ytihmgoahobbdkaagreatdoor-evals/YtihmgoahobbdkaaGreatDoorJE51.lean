/-
  scalerlaw.Evals PROVED: the row's statement.
-/
import Derived.Test.YtihmgoahobbdkaaGreatDoorJE50
namespace Go.Proofs.YtihmgoahobbdkaaGreatDoor
open Go.ChangeShapes Go.WideShapes Go.ChangeAt Go.RowKit Go.Lib
open Go.ChangeMaps (open_string shut_string)

/-- A world in which the listed variables lie as they are listed. -/
noncomputable def witEvals (os : Os) : World := (witH os).layVars Tryz.prog (Rows.evalsRow.laid.filter fun x => x.2.handleName?.isNone)
theorem witEvals_met (os : Os) : laidMetH Tryz.prog Rows.evalsRow.laid (witEvals os) :=
  laidMetH_of_parts3 (fuel := 8) (laidMet_layVars_all (w0 := witH os) (by kernel_rfl) (by kernel_rfl)) (by kernel_rfl) (by kernel_rfl)
set_option maxRecDepth 100000 in
theorem evals_lifted (os : Os) (started : os.Started) (H : Type) (enc : TypeId × Value → H) :
    ReturnsInHanded {} Tryz.checked os 6 .any (fun w args => (Rows.evalsSpec.pre enc Tryz.prog Tryz.f6 [] false w args ∧ laidMetH Tryz.prog Rows.evalsRow.laid w) ∧ sizedMet enc Tryz.prog Tryz.f6 (OpenSpec.ofChange Rows.evalsSpec) false w args)
      (Rows.evalsSpec.post enc Tryz.prog Tryz.f6 false true false false) := by
  refine returnsInHanded_of_change_and (C := Tryz.checked) (X := fun w _ => laidMetH Tryz.prog Rows.evalsRow.laid w) (fun _ _ _ hh h => h.of_heap hh) Tryz.own started (by kernel_rfl) Tryz.func6
    (ChangeSpec.witness_shaped (enc := enc) (C := Tryz.checked) (os := os) (X := fun w _ => laidMetH Tryz.prog Rows.evalsRow.laid w) false (witEvals os) #[.string ⟨#[]⟩, .int .i64 0, .int .i64 0] 8 (World.layVars_os _ _ _)
      (World.shaped_of_ZipB (by kernel_rfl) (by kernel_rfl)) (by kernel_rfl) (by kernel_rfl) (by kernel_rfl)
      ((witEvals_met os).of_heap (by simp [World.memory, World.forCall, Input.heap]))) ?_
  intro W base args ds gs before hval0 hW _ _ hL _
  have hval : ∀ (j : Nat) t v, Tryz.f6.params[j]? = some t → args[j]? = some v → Value.okWide Tryz.prog W .any base t v := hval0
  have hW' := hW
  obtain ⟨p, q, hA0, hV, rfl, _, _⟩ := hW
  have hA : DataW.TrodAll enc Tryz.prog W 0 (fun _ => true) true Tryz.f6.params.toList args.toList ds p := hA0
  rw [Tryz.params6] at hA hval
  obtain ⟨v0, v1, v2, d0, d1, d2, p0, p1, p2, rfl, rfl, rfl, h0, h1, h2⟩ := trodAll_three hA
  obtain ⟨rfl, rfl⟩ := trodVars_none hV
  obtain ⟨a0, rfl, rfl, rfl, w0⟩ := open_string Tryz.underlying9 (hval 0 9 v0 rfl rfl) h0
  obtain ⟨a1, rfl, rfl, rfl, w1⟩ := open_int Tryz.underlying2 (hval 1 2 v1 rfl rfl) h1
  obtain ⟨a2, rfl, rfl, rfl, w2⟩ := open_int Tryz.underlying2 (hval 2 2 v2 rfl rfl) h2
  simp only [List.append_nil] at hW'
  obtain ⟨A, hS⟩ := sentsEvals_of_laid hL
  refine (law_Evals _ _ _ (by simp [maxLen] at w0 ⊢; omega) (tabsREvals_of_laid hL) hS).mono fun e W' ⟨he, hb⟩ => ?_
  subst he
  exact ⟨_, rfl, _, _, _, [], [], [], hW', trodAll_mk1 (shut_bool Tryz.underlying4 _), trodAll_mk3 (p := []) (p' := []) (shut_string Tryz.underlying9 w0) (shut_int Tryz.underlying2 w1) (shut_int Tryz.underlying2 w2), rfl, hb.frame _, fun h => by cases h⟩
theorem evals_f1 : (Rows.evalsRow.inPlace == Tryz.prog.inPlace 6) = true := by kernel_rfl
theorem evals_f2 : (Rows.evalsRow.unfollowed == Tryz.prog.unfollowed 6) = true := by kernel_rfl
theorem evals_f3 : (Rows.evalsRow.recurses == Tryz.prog.recurses 6) = true := by kernel_rfl
theorem evals_f4 : (Rows.evalsRow.named == Tryz.prog.varsNamed 6) = true := by kernel_rfl
theorem evals_facts : joinedFacts Tryz.prog 6 Tryz.f6 Rows.evalsSpec Rows.evalsRow = true := by
  unfold joinedFacts
  rw [evals_f1, evals_f2, evals_f3, evals_f4]
  kernel_rfl
theorem evals_fn : Tryz.prog.funcNamed Rows.evalsRow.func = some 6 := by kernel_rfl
theorem evals_inst : Tryz.f6.isInstance Tryz.prog Rows.evalsRow.origin Rows.evalsRow.targs := of_decide_eq_true (by kernel_rfl)
theorem evals_wrap : Tryz.f6.isWrapper Tryz.prog Rows.evalsRow.wrapper Rows.evalsRow.mainSum := by
  unfold Func.isWrapper
  rw [if_neg (of_decide_eq_false (by kernel_rfl))]
  exact ⟨rfl, rfl⟩
theorem evals_holds : Rows.EvalsSaid :=
  OpenClaim.holds_of_wide 6 Tryz.f6 rfl rfl rfl rfl rfl rfl rfl ⟨rfl, rfl, rfl, rfl, rfl⟩ rfl rfl rfl rfl rfl evals_fn Tryz.func6 evals_facts evals_inst evals_wrap
    (fun os started H enc _ => evals_lifted os started H enc)
end Go.Proofs.YtihmgoahobbdkaaGreatDoor
