/-
  scalerkeep.Bytes PROVED: the row's statement.
-/
import Derived.Test.YtaghcjpoihkpjaaGreatDoorLaidBytesJ
import Derived.Test.YtaghcjpoihkpjaaGreatDoorByFJ
namespace Go.Proofs.YtaghcjpoihkpjaaGreatDoor
open Go.ChangeShapes Go.WideShapes Go.ChangeAt Go.RowKit Go.Lib
open Go.ChangeMaps (open_string shut_string)

/-- A world in which the listed variables lie as they are listed. -/
noncomputable def witBytes (os : Os) : World := (witH os).layVars Tryz.prog (Rows.bytesRow.laid.filter fun x => x.2.handleName?.isNone)
theorem witBytes_met (os : Os) : laidMetH Tryz.prog Rows.bytesRow.laid (witBytes os) :=
  laidMetH_of_parts3 (fuel := 8) (laidMet_layVars_all (w0 := witH os) (by kernel_rfl) (by kernel_rfl)) (by kernel_rfl) (by kernel_rfl)
set_option maxRecDepth 100000 in
theorem bytes_lifted (os : Os) (started : os.Started) (H : Type) (enc : TypeId × Value → H) :
    ReturnsInHanded {} Tryz.checked os 5 .any (fun w args => (Rows.bytesSpec.pre enc Tryz.prog Tryz.f5 [] false w args ∧ laidMetH Tryz.prog Rows.bytesRow.laid w) ∧ sizedMet enc Tryz.prog Tryz.f5 (OpenSpec.ofChange Rows.bytesSpec) false w args)
      (Rows.bytesSpec.post enc Tryz.prog Tryz.f5 false true false false) := by
  refine returnsInHanded_of_change_and (C := Tryz.checked) (X := fun w _ => laidMetH Tryz.prog Rows.bytesRow.laid w) (fun _ _ _ hh h => h.of_heap hh) Tryz.own started (by kernel_rfl) Tryz.func5
    (ChangeSpec.witness_shaped (enc := enc) (C := Tryz.checked) (os := os) (X := fun w _ => laidMetH Tryz.prog Rows.bytesRow.laid w) false (witBytes os) #[.string ⟨#[]⟩, .int .i64 0, .int .i64 0, .string ⟨#[]⟩] 8 (World.layVars_os _ _ _)
      (World.shaped_of_ZipB (by kernel_rfl) (by kernel_rfl)) (by kernel_rfl) (by kernel_rfl) (by kernel_rfl)
      ((witBytes_met os).of_heap (by simp [World.memory, World.forCall, Input.heap]))) ?_
  intro W base args ds gs before hval0 hW _ _ hL _
  have hval : ∀ (j : Nat) t v, Tryz.f5.params[j]? = some t → args[j]? = some v → Value.okWide Tryz.prog W .any base t v := hval0
  have hW' := hW
  obtain ⟨p, q, hA0, hV, rfl, _, _⟩ := hW
  have hA : DataW.TrodAll enc Tryz.prog W 0 (fun _ => true) true Tryz.f5.params.toList args.toList ds p := hA0
  rw [Tryz.params5] at hA hval
  obtain ⟨v0, v1, v2, v3, d0, d1, d2, d3, p0, p1, p2, p3, rfl, rfl, rfl, h0, h1, h2, h3⟩ := trodAll_four hA
  obtain ⟨rfl, rfl⟩ := trodVars_none hV
  obtain ⟨a0, rfl, rfl, rfl, w0⟩ := open_string Tryz.underlying9 (hval 0 9 v0 rfl rfl) h0
  obtain ⟨a1, rfl, rfl, rfl, w1⟩ := open_int Tryz.underlying3 (hval 1 3 v1 rfl rfl) h1
  obtain ⟨a2, rfl, rfl, rfl, w2⟩ := open_int Tryz.underlying3 (hval 2 3 v2 rfl rfl) h2
  obtain ⟨a3, rfl, rfl, rfl, w3⟩ := open_string Tryz.underlying9 (hval 3 9 v3 rfl rfl) h3
  simp only [List.append_nil] at hW'
  obtain ⟨A, hS⟩ := sentsBytes_of_laid hL
  refine (law_Bytes _ _ a1 a2 (in64_of_wf w1) (tabsRBytes_of_laid hL) hS).mono fun e W' ⟨he, hb⟩ => ?_
  subst he
  exact ⟨_, rfl, _, _, _, [], [], [], hW', trodAll_mk1 (shut_bool Tryz.underlying4 _), trodAll_mk4 (p := []) (p' := []) (p'' := []) (shut_string Tryz.underlying9 w0) (shut_int Tryz.underlying3 w1) (shut_int Tryz.underlying3 w2) (shut_string Tryz.underlying9 w3), rfl, hb.frame _, fun h => by cases h⟩
theorem bytes_f1 : (Rows.bytesRow.inPlace == Tryz.prog.inPlace 5) = true := by kernel_rfl
theorem bytes_f2 : (Rows.bytesRow.unfollowed == Tryz.prog.unfollowed 5) = true := by kernel_rfl
theorem bytes_f3 : (Rows.bytesRow.recurses == Tryz.prog.recurses 5) = true := by kernel_rfl
theorem bytes_f4 : (Rows.bytesRow.named == Tryz.prog.varsNamed 5) = true := by kernel_rfl
theorem bytes_facts : joinedFacts Tryz.prog 5 Tryz.f5 Rows.bytesSpec Rows.bytesRow = true := by
  unfold joinedFacts
  rw [bytes_f1, bytes_f2, bytes_f3, bytes_f4]
  kernel_rfl
theorem bytes_fn : Tryz.prog.funcNamed Rows.bytesRow.func = some 5 := by kernel_rfl
theorem bytes_inst : Tryz.f5.isInstance Tryz.prog Rows.bytesRow.origin Rows.bytesRow.targs := of_decide_eq_true (by kernel_rfl)
theorem bytes_wrap : Tryz.f5.isWrapper Tryz.prog Rows.bytesRow.wrapper Rows.bytesRow.mainSum := by
  unfold Func.isWrapper
  rw [if_neg (of_decide_eq_false (by kernel_rfl))]
  exact ⟨rfl, rfl⟩
theorem bytes_holds : Rows.BytesSaid :=
  OpenClaim.holds_of_wide 5 Tryz.f5 rfl rfl rfl rfl rfl rfl rfl ⟨rfl, rfl, rfl, rfl, rfl⟩ rfl rfl rfl rfl rfl bytes_fn Tryz.func5 bytes_facts bytes_inst bytes_wrap
    (fun os started H enc _ => bytes_lifted os started H enc)
end Go.Proofs.YtaghcjpoihkpjaaGreatDoor
