/-
  scalerlaw.Roots PROVED: the row's statement.
-/
import Derived.Test.YtihmgoahobbdkaaGreatDoorLaidRoots
import Derived.Test.YtihmgoahobbdkaaGreatDoorRooG
namespace Go.Proofs.YtihmgoahobbdkaaGreatDoor
open Go.ChangeShapes Go.WideShapes Go.ChangeAt Go.RowKit Go.Lib
open Go.ChangeMaps (open_string shut_string)

/-- A world in which the listed variables lie as they are listed. -/
noncomputable def witRoots (os : Os) : World := (World.holding Tryz.prog os ⟨#[], #[], []⟩).layVars Tryz.prog Rows.rootsRow.laid
theorem witRoots_met (os : Os) : laidMetH Tryz.prog Rows.rootsRow.laid (witRoots os) :=
  by
  rw [MakeChecks.laidMetH_plain _ _ _ (by kernel_rfl)]
  exact laidMet_layVars_all (w0 := World.holding Tryz.prog os ⟨#[], #[], []⟩) (by kernel_rfl) (by kernel_rfl)
set_option maxRecDepth 100000 in
theorem roots_lifted (os : Os) (started : os.Started) (H : Type) (enc : TypeId × Value → H) :
    ReturnsInHanded {} Tryz.checked os 4 .any (fun w args => (Rows.rootsSpec.pre enc Tryz.prog Tryz.f4 [] false w args ∧ laidMetH Tryz.prog Rows.rootsRow.laid w) ∧ sizedMet enc Tryz.prog Tryz.f4 (OpenSpec.ofChange Rows.rootsSpec) false w args)
      (Rows.rootsSpec.post enc Tryz.prog Tryz.f4 false true false false) := by
  refine returnsInHanded_of_change_and (C := Tryz.checked) (X := fun w _ => laidMetH Tryz.prog Rows.rootsRow.laid w) (fun _ _ _ hh h => h.of_heap hh) Tryz.own started (by kernel_rfl) Tryz.func4
    (ChangeSpec.witness_shaped (enc := enc) (C := Tryz.checked) (os := os) (X := fun w _ => laidMetH Tryz.prog Rows.rootsRow.laid w) false (witRoots os) #[.string ⟨#[]⟩, .int .i64 0] 8 (World.layVars_os _ _ _)
      (World.shaped_of_ZipB (by kernel_rfl) (by kernel_rfl)) (by kernel_rfl) (by kernel_rfl) (by kernel_rfl)
      ((witRoots_met os).of_heap (by simp [World.memory, World.forCall, Input.heap]))) ?_
  intro W base args ds gs before hval0 hW _ _ hL _
  have hval : ∀ (j : Nat) t v, Tryz.f4.params[j]? = some t → args[j]? = some v → Value.okWide Tryz.prog W .any base t v := hval0
  have hW' := hW
  obtain ⟨p, q, hA0, hV, rfl, _, _⟩ := hW
  have hA : DataW.TrodAll enc Tryz.prog W 0 (fun _ => true) true Tryz.f4.params.toList args.toList ds p := hA0
  rw [Tryz.params4] at hA hval
  obtain ⟨v0, v1, d0, d1, p0, p1, rfl, rfl, rfl, h0, h1⟩ := trodAll_two hA
  obtain ⟨rfl, rfl⟩ := trodVars_none hV
  obtain ⟨a0, rfl, rfl, rfl, w0⟩ := open_string Tryz.underlying9 (hval 0 9 v0 rfl rfl) h0
  obtain ⟨a1, rfl, rfl, rfl, w1⟩ := open_int Tryz.underlying3 (hval 1 3 v1 rfl rfl) h1
  simp only [List.append_nil] at hW'
  obtain ⟨A, hS⟩ := sentsRoots_of_laid hL
  refine (law_Roots _ a1 (by simp [maxLen] at w0 ⊢; omega) (tabsRoots_of_laid hL) hS).mono fun e W' ⟨he, hb⟩ => ?_
  subst he
  exact ⟨_, rfl, _, _, _, [], [], [], hW', trodAll_mk1 (shut_bool Tryz.underlying4 _), trodAll_mk2 (p := []) (shut_string Tryz.underlying9 w0) (shut_int Tryz.underlying3 w1), rfl, hb.frame _, fun h => by cases h⟩
theorem roots_f1 : (Rows.rootsRow.inPlace == Tryz.prog.inPlace 4) = true := by kernel_rfl
theorem roots_f2 : (Rows.rootsRow.unfollowed == Tryz.prog.unfollowed 4) = true := by kernel_rfl
theorem roots_f3 : (Rows.rootsRow.recurses == Tryz.prog.recurses 4) = true := by kernel_rfl
theorem roots_f4 : (Rows.rootsRow.named == Tryz.prog.varsNamed 4) = true := by kernel_rfl
theorem roots_facts : joinedFacts Tryz.prog 4 Tryz.f4 Rows.rootsSpec Rows.rootsRow = true := by
  unfold joinedFacts
  rw [roots_f1, roots_f2, roots_f3, roots_f4]
  kernel_rfl
theorem roots_fn : Tryz.prog.funcNamed Rows.rootsRow.func = some 4 := by kernel_rfl
theorem roots_inst : Tryz.f4.isInstance Tryz.prog Rows.rootsRow.origin Rows.rootsRow.targs := of_decide_eq_true (by kernel_rfl)
theorem roots_wrap : Tryz.f4.isWrapper Tryz.prog Rows.rootsRow.wrapper Rows.rootsRow.mainSum := by
  unfold Func.isWrapper
  rw [if_neg (of_decide_eq_false (by kernel_rfl))]
  exact ⟨rfl, rfl⟩
theorem roots_holds : Rows.RootsSaid :=
  OpenClaim.holds_of_wide 4 Tryz.f4 rfl rfl rfl rfl rfl rfl rfl ⟨rfl, rfl, rfl, rfl, rfl⟩ rfl rfl rfl rfl rfl roots_fn Tryz.func4 roots_facts roots_inst roots_wrap
    (fun os started H enc _ => roots_lifted os started H enc)
end Go.Proofs.YtihmgoahobbdkaaGreatDoor
