/-
 scalerlaw.Controls PROVED: the row's statement.
-/
import Derived.Test.YtbokdbaagacnlaaGreatDoorJK50
import Derived.Test.YtbokdbaagacnlaaGreatDoorJK49
namespace Go.Proofs.YtbokdbaagacnlaaGreatDoor
open Go.ChangeShapes Go.WideShapes Go.ChangeAt Go.RowKit Go.Lib Go.Deep Go.Joins
open Go.ChangeMaps (open_string shut_string)
noncomputable def witControls (os : Os) : World := (witH os).layVars Tryz.prog (Rows.controlsRow.laid.filter fun x => x.2.handleName?.isNone)
theorem witControls_met (os : Os) : laidMetH Tryz.prog Rows.controlsRow.laid (witControls os) :=
 laidMetH_of_parts3 (fuel := 8) (laidMet_layVars_all (w0 := witH os) (by kernel_rfl) (by kernel_rfl)) (by kernel_rfl) (by kernel_rfl)
theorem Tryz.laidOut : laidOutB Tryz.prog = true := by kernel_rfl
set_option maxRecDepth 100000 in
theorem controls_lifted (os : Os) (started : os.Started) (H : Type) (enc : TypeId × Value → H) :
  ReturnsInHanded {} Tryz.checked os 3 .any (fun w args => (Rows.controlsSpec.pre enc Tryz.prog Tryz.f3 [] false w args ∧ laidMetH Tryz.prog Rows.controlsRow.laid w) ∧ sizedMet enc Tryz.prog Tryz.f3 (OpenSpec.ofChange Rows.controlsSpec) false w args)
   (Rows.controlsSpec.post enc Tryz.prog Tryz.f3 false true false false) := by
 refine returnsInHanded_of_change_and (C := Tryz.checked) (X := fun w _ => laidMetH Tryz.prog Rows.controlsRow.laid w) (fun _ _ _ hh h => h.of_heap hh) Tryz.own started (by kernel_rfl) Tryz.func3
  (ChangeSpec.witness_shaped (enc := enc) (C := Tryz.checked) (os := os) (X := fun w _ => laidMetH Tryz.prog Rows.controlsRow.laid w) false (witControls os) #[.string ⟨#[]⟩, .slice none 0 0, .slice none 0 0, .int .i64 0, .slice none 0 0] 8 (World.layVars_os _ _ _)
   (World.shaped_of_ZipB (by kernel_rfl) (by kernel_rfl)) (by kernel_rfl) (by kernel_rfl) (by kernel_rfl)
   ((witControls_met os).of_heap (by simp [World.memory, World.forCall, Input.heap]))) ?_
 intro W base args ds gs before hval0 hW _ _ hL _
 have hval : ∀ (j : Nat) t v, Tryz.f3.params[j]? = some t → args[j]? = some v → Value.okWide Tryz.prog W .any base t v := hval0
 have hW' := hW
 obtain ⟨p, q, hA0, hV, rfl, _, _⟩ := hW
 have hA : DataW.TrodAll enc Tryz.prog W 0 (fun _ => true) true Tryz.f3.params.toList args.toList ds p := hA0
 rw [Tryz.params3] at hA hval
 obtain ⟨v0, v1, v2, v3, v4, d0, d1, d2, d3, d4, p0, p1, p2, p3, p4, rfl, rfl, rfl, h0, h1, h2, h3, h4⟩ := trodAll_five hA
 obtain ⟨rfl, rfl⟩ := trodVars_none hV
 obtain ⟨a0, rfl, rfl, rfl, w0⟩ := open_string Tryz.underlying9 (hval 0 9 v0 rfl rfl) h0
 obtain ⟨s1, n1, k1, rfl⟩ := okWide_slice Tryz.underlying22 (hval 1 22 v1 rfl rfl)
 obtain ⟨s2, n2, k2, rfl⟩ := okWide_slice Tryz.underlying22 (hval 2 22 v2 rfl rfl)
 obtain ⟨a3, rfl, rfl, rfl, w3⟩ := open_int Tryz.underlying2 (hval 3 2 v3 rfl rfl) h3
 obtain ⟨s4, n4, k4, rfl⟩ := okWide_slice Tryz.underlying23 (hval 4 23 v4 rfl rfl)
 have h1k := h1
 have h2k := h2
 have h4k := h4
 obtain ⟨fu1, hf1⟩ := h1
 obtain ⟨fu2, hf2⟩ := h2
 obtain ⟨fu4, hf4⟩ := h4
 obtain ⟨L, rfl, hN, hN64⟩ := nums_of (by simpa [Value.cells] using hf1)
 obtain ⟨O, rfl, hO, hO64⟩ := nums_of (by simpa [Value.cells] using hf2)
 obtain ⟨E, rfl, hE⟩ := evsL_of (by simpa [Value.cells] using hf4)
 clear hA0 hval0 hf1 hf2 hf4
 simp only [List.append_nil, List.nil_append, List.append_assoc] at hW'
 obtain ⟨A, hS⟩ := sentsControls_of_laid hL
 have hlt : ∀ x ∈ p1 ++ (p2 ++ p4), x.block < W.heap.size := fun x hx => by simpa using hW'.lt x hx
 refine (law_Controls (by simp [maxLen] at w0 ⊢; omega) (tabsRControls_of_laid hL) hS hN hN64 hO hO64 hE).mono fun e W' ⟨he, hb⟩ => ?_
 subst he
 exact ⟨_, rfl, _, _, _, [], p1 ++ (p2 ++ p4), [], hW', trodAll_mk1 (shut_bool Tryz.underlying4 _), trodAll_mk5 (p := []) (p3 := []) (shut_string Tryz.underlying9 w0) (Below.trod Tryz.laidOut (by kernel_rfl) (of_decide_eq_true (by kernel_rfl)) h1k hb (fun x hx => hlt x (by simp [hx]))) (Below.trod Tryz.laidOut (by kernel_rfl) (of_decide_eq_true (by kernel_rfl)) h2k hb (fun x hx => hlt x (by simp [hx]))) (shut_int Tryz.underlying2 w3) (Below.trod Tryz.laidOut (by kernel_rfl) (of_decide_eq_true (by kernel_rfl)) h4k hb (fun x hx => hlt x (by simp [hx]))), rfl, hb.frame _, fun h => by cases h⟩
theorem controls_f1 : (Rows.controlsRow.inPlace == Tryz.prog.inPlace 3) = true := by kernel_rfl
theorem controls_f2 : (Rows.controlsRow.unfollowed == Tryz.prog.unfollowed 3) = true := by kernel_rfl
theorem controls_f3 : (Rows.controlsRow.recurses == Tryz.prog.recurses 3) = true := by kernel_rfl
theorem controls_f4 : (Rows.controlsRow.named == Tryz.prog.varsNamed 3) = true := by kernel_rfl
theorem controls_facts : joinedFacts Tryz.prog 3 Tryz.f3 Rows.controlsSpec Rows.controlsRow = true := by
 unfold joinedFacts
 rw [controls_f1, controls_f2, controls_f3, controls_f4]
 kernel_rfl
theorem controls_fn : Tryz.prog.funcNamed Rows.controlsRow.func = some 3 := by kernel_rfl
theorem controls_inst : Tryz.f3.isInstance Tryz.prog Rows.controlsRow.origin Rows.controlsRow.targs := of_decide_eq_true (by kernel_rfl)
theorem controls_wrap : Tryz.f3.isWrapper Tryz.prog Rows.controlsRow.wrapper Rows.controlsRow.mainSum := by
 unfold Func.isWrapper
 rw [if_neg (of_decide_eq_false (by kernel_rfl))]
 exact ⟨rfl, rfl⟩
theorem controls_holds : Rows.ControlsSaid :=
 OpenClaim.holds_of_wide 3 Tryz.f3 rfl rfl rfl rfl rfl rfl rfl ⟨rfl, rfl, rfl, rfl, rfl⟩ rfl rfl rfl rfl rfl controls_fn Tryz.func3 controls_facts controls_inst controls_wrap
  (fun os started H enc _ => controls_lifted os started H enc)
end Go.Proofs.YtbokdbaagacnlaaGreatDoor
