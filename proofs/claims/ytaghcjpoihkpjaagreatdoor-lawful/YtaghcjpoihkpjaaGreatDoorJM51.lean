/-
  scalerkeep.Lawful PROVED: the row's statement.
-/
import Derived.Test.YtaghcjpoihkpjaaGreatDoorJM50
namespace Go.Proofs.YtaghcjpoihkpjaaGreatDoor
open Go.ChangeShapes Go.WideShapes Go.ChangeAt Go.RowKit Go.Lib Go.Deep Go.Joins
open Go.ChangeMaps (open_string shut_string)

/-- A world in which the listed variables lie as they are listed. -/
noncomputable def witLawful (os : Os) : World := (witH os).layVars Tryz.prog (Rows.lawfulRow.laid.filter fun x => x.2.handleName?.isNone)
theorem witLawful_met (os : Os) : laidMetH Tryz.prog Rows.lawfulRow.laid (witLawful os) :=
  laidMetH_of_parts3 (fuel := 8) (laidMet_layVars_all (w0 := witH os) (by kernel_rfl) (by kernel_rfl)) (by kernel_rfl) (by kernel_rfl)
theorem Tryz.laidOut : laidOutB Tryz.prog = true := by kernel_rfl
set_option maxRecDepth 100000 in
theorem lawful_lifted (os : Os) (started : os.Started) (H : Type) (enc : TypeId × Value → H) :
    ReturnsInHanded {} Tryz.checked os 6 .any (fun w args => (Rows.lawfulSpec.pre enc Tryz.prog Tryz.f6 [] false w args ∧ laidMetH Tryz.prog Rows.lawfulRow.laid w) ∧ sizedMet enc Tryz.prog Tryz.f6 (OpenSpec.ofChange Rows.lawfulSpec) false w args)
      (Rows.lawfulSpec.post enc Tryz.prog Tryz.f6 false true false false) := by
  refine returnsInHanded_of_change_and (C := Tryz.checked) (X := fun w _ => laidMetH Tryz.prog Rows.lawfulRow.laid w) (fun _ _ _ hh h => h.of_heap hh) Tryz.own started (by kernel_rfl) Tryz.func6
    (ChangeSpec.witness_shaped (enc := enc) (C := Tryz.checked) (os := os) (X := fun w _ => laidMetH Tryz.prog Rows.lawfulRow.laid w) false (witLawful os) #[.string ⟨#[]⟩, .slice none 0 0, .int .i64 0, .slice none 0 0] 8 (World.layVars_os _ _ _)
      (World.shaped_of_ZipB (by kernel_rfl) (by kernel_rfl)) (by kernel_rfl) (by kernel_rfl) (by kernel_rfl)
      ((witLawful_met os).of_heap (by simp [World.memory, World.forCall, Input.heap]))) ?_
  intro W base args ds gs before hval0 hW _ _ hL _
  have hval : ∀ (j : Nat) t v, Tryz.f6.params[j]? = some t → args[j]? = some v → Value.okWide Tryz.prog W .any base t v := hval0
  have hW' := hW
  obtain ⟨p, q, hA0, hV, rfl, _, _⟩ := hW
  have hA : DataW.TrodAll enc Tryz.prog W 0 (fun _ => true) true Tryz.f6.params.toList args.toList ds p := hA0
  rw [Tryz.params6] at hA hval
  obtain ⟨v0, v1, v2, v3, d0, d1, d2, d3, p0, p1, p2, p3, rfl, rfl, rfl, h0, h1, h2, h3⟩ := trodAll_four hA
  obtain ⟨rfl, rfl⟩ := trodVars_none hV
  obtain ⟨a0, rfl, rfl, rfl, w0⟩ := open_string Tryz.underlying9 (hval 0 9 v0 rfl rfl) h0
  obtain ⟨s1, n1, k1, rfl⟩ := okWide_slice Tryz.underlying36 (hval 1 36 v1 rfl rfl)
  obtain ⟨a2, rfl, rfl, rfl, w2⟩ := open_int Tryz.underlying2 (hval 2 2 v2 rfl rfl) h2
  obtain ⟨s3, n3, k3, rfl⟩ := okWide_slice Tryz.underlying37 (hval 3 37 v3 rfl rfl)
  have h1k := h1
  have h3k := h3
  obtain ⟨fu1, hf1⟩ := h1
  obtain ⟨fu3, hf3⟩ := h3
  obtain ⟨L, rfl, hN, hN64⟩ := nums_of (by simpa [Value.cells] using hf1)
  obtain ⟨E, rfl, hE⟩ := evs_of (by simpa [Value.cells] using hf3)
  clear hA0 hval0 hf1 hf3
  simp only [List.append_nil, List.nil_append] at hW'
  obtain ⟨A, hS⟩ := sentsLawful_of_laid hL
  have hlt : ∀ x ∈ p1 ++ p3, x.block < W.heap.size := fun x hx => by simpa using hW'.lt x hx
  refine (law_Lawful a0 (tabsRLawful_of_laid hL) hS hN hN64 hE).mono fun e W' ⟨he, hb⟩ => ?_
  subst he
  exact ⟨_, rfl, _, _, _, [], p1 ++ p3, [], hW', trodAll_mk1 (shut_bool Tryz.underlying4 _), trodAll_mk4 (p := []) (p'' := []) (shut_string Tryz.underlying9 w0) (Below.trod Tryz.laidOut (by kernel_rfl) (of_decide_eq_true (by kernel_rfl)) h1k hb (fun x hx => hlt x (List.mem_append_left _ hx))) (shut_int Tryz.underlying2 w2) (Below.trod Tryz.laidOut (by kernel_rfl) (of_decide_eq_true (by kernel_rfl)) h3k hb (fun x hx => hlt x (List.mem_append_right _ hx))), rfl, hb.frame _, fun h => by cases h⟩
theorem lawful_f1 : (Rows.lawfulRow.inPlace == Tryz.prog.inPlace 6) = true := by kernel_rfl
theorem lawful_f2 : (Rows.lawfulRow.unfollowed == Tryz.prog.unfollowed 6) = true := by kernel_rfl
theorem lawful_f3 : (Rows.lawfulRow.recurses == Tryz.prog.recurses 6) = true := by kernel_rfl
theorem lawful_f4 : (Rows.lawfulRow.named == Tryz.prog.varsNamed 6) = true := by kernel_rfl
theorem lawful_facts : joinedFacts Tryz.prog 6 Tryz.f6 Rows.lawfulSpec Rows.lawfulRow = true := by
  unfold joinedFacts
  rw [lawful_f1, lawful_f2, lawful_f3, lawful_f4]
  kernel_rfl
theorem lawful_fn : Tryz.prog.funcNamed Rows.lawfulRow.func = some 6 := by kernel_rfl
theorem lawful_inst : Tryz.f6.isInstance Tryz.prog Rows.lawfulRow.origin Rows.lawfulRow.targs := of_decide_eq_true (by kernel_rfl)
theorem lawful_wrap : Tryz.f6.isWrapper Tryz.prog Rows.lawfulRow.wrapper Rows.lawfulRow.mainSum := by
  unfold Func.isWrapper
  rw [if_neg (of_decide_eq_false (by kernel_rfl))]
  exact ⟨rfl, rfl⟩
theorem lawful_holds : Rows.LawfulSaid :=
  OpenClaim.holds_of_wide 6 Tryz.f6 rfl rfl rfl rfl rfl rfl rfl ⟨rfl, rfl, rfl, rfl, rfl⟩ rfl rfl rfl rfl rfl lawful_fn Tryz.func6 lawful_facts lawful_inst lawful_wrap
    (fun os started H enc _ => lawful_lifted os started H enc)
end Go.Proofs.YtaghcjpoihkpjaaGreatDoor
