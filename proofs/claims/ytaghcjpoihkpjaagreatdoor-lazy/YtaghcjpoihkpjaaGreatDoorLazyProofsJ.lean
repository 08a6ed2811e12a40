/-
  scalerkeep.Lazy PROVED: the row's statement.
-/
import Derived.Test.YtaghcjpoihkpjaaGreatDoorLaidLazyJ
import Derived.Test.YtaghcjpoihkpjaaGreatDoorLzBJ
import Derived.SizedLaws
namespace Go.Proofs.YtaghcjpoihkpjaaGreatDoor
open Go.ChangeShapes Go.WideShapes Go.ChangeAt Go.RowKit Go.Lib
open Go.ChangeMaps (open_string shut_string)

/-- A world in which the listed variables lie as they are listed. -/
noncomputable def witLazy (os : Os) : World := (witH os).layVars Tryz.prog (Rows.lazyRow.laid.filter fun x => x.2.handleName?.isNone)
theorem witLazy_met (os : Os) : laidMetH Tryz.prog Rows.lazyRow.laid (witLazy os) :=
  laidMetH_of_parts3 (fuel := 8) (laidMet_layVars_all (w0 := witH os) (by kernel_rfl) (by kernel_rfl)) (by kernel_rfl) (by kernel_rfl)
set_option maxRecDepth 100000 in
theorem lazy_lifted (os : Os) (started : os.Started) (H : Type) (enc : TypeId × Value → H) :
    ReturnsInHanded {} Tryz.checked os 3 .any (fun w args => (Rows.lazySpec.pre enc Tryz.prog Tryz.f3 [] false w args ∧ laidMetH Tryz.prog Rows.lazyRow.laid w) ∧ sizedMet enc Tryz.prog Tryz.f3 (OpenSpec.ofChange Rows.lazySpec) false w args)
      (Rows.lazySpec.post enc Tryz.prog Tryz.f3 false true false false) := by
  refine returnsInHanded_of_change_and (C := Tryz.checked) (X := fun w _ => laidMetH Tryz.prog Rows.lazyRow.laid w) (fun _ _ _ hh h => h.of_heap hh) Tryz.own started (by kernel_rfl) Tryz.func3
    (ChangeSpec.witness_shaped (enc := enc) (C := Tryz.checked) (os := os) (X := fun w _ => laidMetH Tryz.prog Rows.lazyRow.laid w) false (witLazy os) #[.string ⟨#[]⟩] 8 (World.layVars_os _ _ _)
      (World.shaped_of_ZipB (by kernel_rfl) (by kernel_rfl)) (by kernel_rfl) (by kernel_rfl) (by kernel_rfl)
      ((witLazy_met os).of_heap (by simp [World.memory, World.forCall, Input.heap]))) ?_
  intro W base args ds gs before hval0 hW _ hz hL _
  have hval : ∀ (j : Nat) t v, Tryz.f3.params[j]? = some t → args[j]? = some v → Value.okWide Tryz.prog W .any base t v := hval0
  have hW' := hW
  obtain ⟨p, q, hA0, hV, rfl, _, _⟩ := hW
  have hA : DataW.TrodAll enc Tryz.prog W 0 (fun _ => true) true Tryz.f3.params.toList args.toList ds p := hA0
  rw [Tryz.params3] at hA hval hz
  obtain ⟨v0, d0, rfl, rfl, h0⟩ := trodAll_one hA
  obtain ⟨rfl, rfl⟩ := trodVars_none hV
  obtain ⟨a0, rfl, rfl, rfl, w0⟩ := open_string Tryz.underlying9 (hval 0 9 v0 rfl rfl) h0
  have hz0 := sized_string hz (j := 0) (t := 9) rfl rfl
  simp only [List.append_nil] at hW'
  obtain ⟨A, hS⟩ := sentsLazy_of_laid hL
  refine (law_Lazy _ (Nat.le_trans hz0 (by decide)) (tabsRLazy_of_laid hL) hS).mono fun e W' ⟨he, hb⟩ => ?_
  subst he
  exact ⟨_, rfl, _, _, _, [], [], [], hW', trodAll_mk1 (shut_bool Tryz.underlying4 _), trodAll_mk1 (shut_string Tryz.underlying9 w0), rfl, hb.frame _, fun h => by cases h⟩
theorem lazy_f1 : (Rows.lazyRow.inPlace == Tryz.prog.inPlace 3) = true := by kernel_rfl
theorem lazy_f2 : (Rows.lazyRow.unfollowed == Tryz.prog.unfollowed 3) = true := by kernel_rfl
theorem lazy_f3 : (Rows.lazyRow.recurses == Tryz.prog.recurses 3) = true := by kernel_rfl
theorem lazy_f4 : (Rows.lazyRow.named == Tryz.prog.varsNamed 3) = true := by kernel_rfl
theorem lazy_facts : joinedFacts Tryz.prog 3 Tryz.f3 Rows.lazySpec Rows.lazyRow = true := by
  unfold joinedFacts
  rw [lazy_f1, lazy_f2, lazy_f3, lazy_f4]
  kernel_rfl
theorem lazy_fn : Tryz.prog.funcNamed Rows.lazyRow.func = some 3 := by kernel_rfl
theorem lazy_inst : Tryz.f3.isInstance Tryz.prog Rows.lazyRow.origin Rows.lazyRow.targs := of_decide_eq_true (by kernel_rfl)
theorem lazy_wrap : Tryz.f3.isWrapper Tryz.prog Rows.lazyRow.wrapper Rows.lazyRow.mainSum := by
  unfold Func.isWrapper
  rw [if_neg (of_decide_eq_false (by kernel_rfl))]
  exact ⟨rfl, rfl⟩
theorem lazy_holds : Rows.LazySaid :=
  OpenClaim.holds_of_wide 3 Tryz.f3 rfl rfl rfl rfl rfl rfl rfl ⟨rfl, rfl, rfl, rfl, rfl⟩ rfl rfl rfl rfl rfl lazy_fn Tryz.func3 lazy_facts lazy_inst lazy_wrap
    (fun os started H enc _ => lazy_lifted os started H enc)
end Go.Proofs.YtaghcjpoihkpjaaGreatDoor
