/-
  THE PROGRAM's Write: probes and pairs; all of it; Code.
-/
import Derived.Test.YtaghcjpoihkpjaaGreatDoorJ30
namespace Go.Proofs.YtaghcjpoihkpjaaGreatDoor
open Go.RowKit Go.Lib

section
variable {B : Nat}
set_option maxRecDepth 1000000 in
set_option maxHeartbeats 2000000 in
theorem w_probe {p : Nat} {wd : ByteArray} {ts : List Tree} (hwd : wd.size < 256) (hlt : ts.length < 256) (hT : ∀ t ∈ ts, WCon B t) : WCon B (.probe p wd ts) := by
  intro w vo v l hn ho hB hl
  unfold CNode at hn
  obtain ⟨b, pv, vs, rfl, hb, hblk, ⟨hrow, hrowB⟩, hns⟩ := hn
  obtain ⟨i0, hi, hz0, hz1, hz2⟩ := info_parts Tryz.infoByte
  have hvl := hns.length
  obtain ⟨ao, cp, rfl⟩ := owns_len hrow
  have c0 := cell_of_heap (i := 0) hblk rfl
  have c1 := cell_of_heap (i := 1) hblk rfl
  have HBK : Hid (w.heap[b]? = some (.cells #[.int .i64 p, .string wd, .slice ao vs.length cp] 203 (0, 0))) := hblk
  have HO : Hid (Out8 B w vo l) := ho
  have HRW : Hid (w.ownsRow 0 134 1 (.slice ao vs.length cp) vs.length vs) := hrow
  have HNS : Hid (CNodes (Lt B) w ts vs) := hns
  have HT : Hid (∀ t ∈ ts, WCon B t) := hT
  have hln : l.length + 3 + (textB wd).length + (encs ts).length ≤ 1000000 := by simp [enc] at hl; omega
  have hx : bytesV [UInt8.ofNat ts.length] = [.int .u8 ((vs.length : Int) % 256)] := by rw [hvl]; exact byte_of _
  have HX : Hid _ := hx
  have h200 : ts.length ≤ 1000 := by omega
  have hm255 : vs.length < 256 := by omega
  have ta := Tryz.isProbe
  have tm0 := Tryz.notProbeNumber
  have tm1 := Tryz.notProbeMinus
  have tm2 := Tryz.notProbePair
  have tm3 := Tryz.notProbeChoice
  have tm4 := Tryz.notProbeMeasure
  clear ho hblk hl hrow hns hT hrowB hx hvl hlt
  generalize hM : vs.length = M at *
  have HM : Hid (vs.length = M) := hM
  clear hM
  go_enter Tryz.func48, Tryz.ntmps48
  go_wp2_with fail
  go_region_held3 (fun w' => w'.cell? ⟨b, 0, none⟩ = some (.int .i64 p) ∧ w'.cell? ⟨b, 1, none⟩ = some (.string wd)) (go_keep)
    (first
      | (refine step_append_lies _ (by rfl) (.tmp 90) (.tmp 91) _ (by rfl) B 5 i0 (.int .u8 0) 1 1 Tryz.underlying32 hi hz0 hz1 hz2 rfl (by omega) vo l.length (bytesV l) (by rfl) (World.ownsRow.alloc (World.ownsRow.drew HO.out) _) ⟨_, 0, none⟩ 1 1 [.int .u8 112] (by rfl) (by rfl) (news_one (heap_alloc_new _ _)) (by simp [Value.oneCell']) (by omega) (by unfold maxLen; omega) (by omega) (by simp; omega) _ (by rfl) ?_; intro g cap w5 hown hgrow hat hlt; have hQ := Out8.pushed (b := 112) hB HO.out rfl hown hgrow; have hB5 : B ≤ w5.heap.size := Nat.le_trans hB hQ.2.size; have c50 : w5.cell? ⟨b, 0, none⟩ = some (.int .i64 p) := hQ.2.cell HBK.out (by decide) rfl; have c51 : w5.cell? ⟨b, 1, none⟩ = some (.string wd) := hQ.2.cell HBK.out (by decide) rfl; have Q : Hid _ := hQ; clear hown hgrow hat hlt hQ)
      | (go_at_call 80; refine (code_appendPlace Q.out.1 hB5 (by simp; omega) p).mono ?_; rintro e w6 ⟨v6, rfl, h6⟩; have Q6 : Hid _ := And.intro h6.1 (Q.out.2.trans h6.2); have hB6 : B ≤ w6.heap.size := Nat.le_trans hB5 h6.2.size; clear h6; have c60 : w6.cell? ⟨b, 0, none⟩ = some (.int .i64 p) := Q6.out.2.cell HBK.out (by decide) rfl; have c61 : w6.cell? ⟨b, 1, none⟩ = some (.string wd) := Q6.out.2.cell HBK.out (by decide) rfl)
      | (go_at_call 79; refine (code_appendText Q6.out.1 hB6 (by simp; omega) wd (by omega)).mono ?_; rintro e w7 ⟨v7, rfl, h7⟩; have Q7 : Hid _ := And.intro h7.1 (Q6.out.2.trans h7.2); have hB7 : B ≤ w7.heap.size := Nat.le_trans hB6 h7.2.size; clear h7; have c70 : w7.cell? ⟨b, 0, none⟩ = some (.int .i64 p) := Q7.out.2.cell HBK.out (by decide) rfl; have c71 : w7.cell? ⟨b, 1, none⟩ = some (.string wd) := Q7.out.2.cell HBK.out (by decide) rfl))
  have c72 : w7.cell? ⟨b, 2, none⟩ = some (.slice ao M cp) := Q7.out.2.cell HBK.out (by decide) rfl
  obtain ⟨L7, hL7⟩ : ∃ L7, L7 = l ++ [112] ++ [UInt8.ofNat p] ++ textB wd := ⟨_, rfl⟩
  have Q8 : Hid (Out8 B w7 v7 L7 ∧ W8 B w w7) := by rw [hL7]; exact Q7.out
  have hl7 : L7.length + 1 + (encs ts).length ≤ 1000000 := by rw [hL7]; simp at hln ⊢; omega
  have HL7 : Hid (L7 = l ++ [112] ++ [UInt8.ofNat p] ++ textB wd) := hL7
  have HOO : Hid (Out8 B w7 v7 L7) := Q8.out.1
  clear hL7 Q7 Q6 Q hB5 hB6
  go_wp2_with fail
  go_region_held3 (fun w' => w'.cell? ⟨b, 2, none⟩ = some (.slice ao M cp)) (go_keep)
    (first
      | (refine step_append_lies _ (by rfl) (.tmp 103) (.tmp 110) _ (by rfl) B 5 i0 (.int .u8 0) 1 1 Tryz.underlying32 hi hz0 hz1 hz2 rfl (by omega) v7 L7.length (bytesV L7) (by rfl) (by repeat (first | with_reducible exact HOO.out | with_reducible apply World.ownsRow.drew | with_reducible apply World.ownsRow.alloc)) ⟨_, 0, none⟩ 1 1 [.int .u8 ((M : Int) % 256)] (by rfl) (by rfl) (news_one (by first | exact heap_new_at (by simp) | exact heap_alloc_old (heap_new_at (by simp)))) (by simp [Value.oneCell']) (by omega) (by unfold maxLen; omega) (by omega) (by first | exact hB7 | (simp; omega) | (simp; done)) _ (by rfl) ?_; intro g cap w5 hown hgrow hat hlt; have hQ := Out8.push (b := UInt8.ofNat ts.length) (x := .int .u8 ((M : Int) % 256)) (w := w) (l := L7) (v := v7) (by repeat (first | exact Q8.out.2 | with_reducible apply W8.drew | refine W8.alloc ?_ (by first | exact hB7 | (simp; omega) | (simp; done)) _)) (by repeat (first | with_reducible exact HOO.out | with_reducible apply World.ownsRow.drew | with_reducible apply World.ownsRow.alloc)) (by first | exact hB7 | (simp; omega) | (simp; done)) HX.out hown hgrow; have hB5 : B ≤ w5.heap.size := Nat.le_trans hB hQ.2.size; have HW : Hid _ := W8.grown (B := B) (v := v7) (n := L7.length) (xs := bytesV L7) (by repeat (first | with_reducible exact HOO.out | with_reducible apply World.ownsRow.drew | with_reducible apply World.ownsRow.alloc)) hgrow (by first | exact hB7 | (simp; omega) | (simp; done)); have Q : Hid _ := hQ; have c52 : w5.cell? ⟨b, 2, none⟩ = some (.slice ao M cp) := hQ.2.cell HBK.out (by decide) rfl; clear hown hgrow hat hlt hQ)
      | (go_at_call 78; refine (code_appendParts ts HT.out (vs := vs) (HNS.out.moves (nm_below Q.out.2.below)) (by rw [HM.out]; exact Q.out.2.owns HRW.out (by decide)) Q.out.1 hB5 (by simp; omega) h200).mono ?_; rintro e w9 ⟨v9, rfl, h9⟩; have Q9 : Hid _ := And.intro h9.1 (Q.out.2.trans h9.2); clear h9; have c92 : w9.cell? ⟨b, 2, none⟩ = some (.slice ao M cp) := Q9.out.2.cell HBK.out (by decide) rfl))
  all_goals
    go_wp2
    go_ret
    refine ⟨_, rfl, ?_, Q9.out.2⟩
    have := Q9.out.1
    rw [HL7.out] at this
    simpa [enc] using this

theorem byte_small {k : Nat} (h : k < 256) : bytesV [UInt8.ofNat k] = [.int .u8 (k : Int)] := by
  rw [byte_of]
  congr 2
  omega
set_option maxRecDepth 1000000 in
set_option maxHeartbeats 2000000 in
theorem code_appendPair {k p : Nat} {a c : Tree} (hA : WCon B a) (hC : WCon B c) (hk : k < 256) {w : World} {vo va vc : Value} {l : List UInt8} {b : Nat} (hblk : w.heap[b]? = some (.cells #[.int .i64 p, .int .u8 k, va, vc] 263 (0, 0))) (hca : CNode (Lt B) w a va) (hcc : CNode (Lt B) w c vc) (ho : Out8 B w vo l) (hB : B ≤ w.heap.size) (hl : l.length + (enc (.bin k p a c)).length ≤ 1000000) :
    Calls Tryz.prog 77 #[vo, ptr b] w fun e w' => ∃ vo', e = .returned vo' ∧ Out8 B w' vo' (l ++ enc (.bin k p a c)) ∧ W8 B w w' := by
  obtain ⟨tya, ba, rfl⟩ := hca.form
  obtain ⟨tyc, bc, rfl⟩ := hcc.form
  obtain ⟨i0, hi, hz0, hz1, hz2⟩ := info_parts Tryz.infoByte
  have c1 := cell_of_heap (i := 1) hblk rfl
  have HBK : Hid (w.heap[b]? = some (.cells #[.int .i64 p, .int .u8 k, (.iface tya (ptr ba)), (.iface tyc (ptr bc))] 263 (0, 0))) := hblk
  have HC : Hid (∀ w', W8 B w w' → CNodes (Lt B) w' [a, c] [(.iface tya (ptr ba)), (.iface tyc (ptr bc))]) := fun w' hw => by
    have hm := nm_below hw.below
    unfold CNodes
    refine ⟨_, _, rfl, hca.moves hm, ?_⟩
    unfold CNodes
    refine ⟨_, _, rfl, hcc.moves hm, ?_⟩
    unfold CNodes
    rfl
  have HT : Hid (∀ t ∈ [a, c], WCon B t) := by
    intro t ht
    simp at ht
    rcases ht with rfl | rfl
    · exact hA
    · exact hC
  have HO : Hid (Out8 B w vo l) := ho
  have hln : l.length + 1 + (if k = 47 then 1 else 0) + (encs [a, c]).length ≤ 1000000 := by
    simp only [enc, encs] at hl ⊢
    split at hl <;> simp_all <;> omega
  have HX : Hid _ := byte_small hk
  have HN : Hid (k < 256) := hk
  clear ho hblk hl hca hcc hA hC hk
  by_cases h47 : k = 47
  · subst h47
    simp only [if_true] at hln
    go_enter Tryz.func77, Tryz.ntmps77
    go_wp2_with (first
        | (at_builtin; refine wpList_append_at _ rfl _ _ 32 rfl B 5 i0 (.int .u8 0) 1 1 Tryz.underlying32 hi hz0 hz1 hz2 rfl (by decide) vo l.length (bytesV l) rfl (HO.out.alloc _) ⟨w.heap.size, 0, none⟩ 1 1 [.int .u8 ((47 : Nat) : Int)] (by simp [Act.eval]) rfl (cell_one8 rfl) (fun x hx => by simp at hx; subst hx; rfl) (by unfold maxLen; omega) (by omega) (by simp; omega) (by decide) ?_; intro v' w5 hown hgrow hnil; have hQ := Out8.push ((W8.refl B w).alloc hB _) (HO.out.alloc _) (by simp; omega) HX.out hown hgrow; have c50 : w5.cell? ⟨b, 0, none⟩ = some (.int .i64 p) := hQ.2.cell HBK.out (by decide) rfl; have c51 : w5.cell? ⟨b, 1, none⟩ = some (.int .u8 ((47 : Nat) : Int)) := hQ.2.cell HBK.out (by decide) rfl; have Q : Hid _ := hQ; have hB5 : B ≤ w5.heap.size := Nat.le_trans hB hQ.2.size; clear hown hgrow hnil hQ)
        | (go_at_call 80; refine (code_appendPlace Q.out.1 hB5 (by simp; omega) p).mono ?_; rintro e w6 ⟨v6, rfl, h6⟩; have Q6 : Hid _ := And.intro h6.1 (Q.out.2.trans h6.2); have hB6 : B ≤ w6.heap.size := Nat.le_trans hB5 h6.2.size; clear h6; have c62 : w6.cell? ⟨b, 2, none⟩ = some (.iface tya (ptr ba)) := Q6.out.2.cell HBK.out (by decide) rfl; have c63 : w6.cell? ⟨b, 3, none⟩ = some (.iface tyc (ptr bc)) := Q6.out.2.cell HBK.out (by decide) rfl)
        | fail)
    go_region_held3 (fun w' => w'.cell? ⟨b, 2, none⟩ = some (.iface tya (ptr ba)) ∧ w'.cell? ⟨b, 3, none⟩ = some (.iface tyc (ptr bc))) (go_keep)
      (first
        | (go_at_call 78; refine (code_appendParts [a, c] HT.out (vs := [(.iface tya (ptr ba)), (.iface tyc (ptr bc))]) (HC.out _ (Q6.out.2.drew.alloc hB6 _)) (owns_built (heap_new_at (by simp)) (by simp) rfl rfl) (World.ownsRow.alloc (World.ownsRow.drew Q6.out.1) _) (by simp; omega) (by simp at hln ⊢; omega) (by simp)).mono ?_; rintro e w7 ⟨v7, rfl, h7⟩; have Q7 : Hid _ := And.intro h7.1 ((Q6.out.2.drew.alloc hB6 _).trans h7.2); clear h7; have c72 : w7.cell? ⟨b, 2, none⟩ = some (.iface tya (ptr ba)) := Q7.out.2.cell HBK.out (by decide) rfl; have c73 : w7.cell? ⟨b, 3, none⟩ = some (.iface tyc (ptr bc)) := Q7.out.2.cell HBK.out (by decide) rfl))
    go_wp2
    go_ret
    refine ⟨_, rfl, ?_, Q7.out.2⟩
    have := Q7.out.1
    simpa [enc, encs] using this
  · have hb47 : (((k : Nat) : Int) == 47) = false := by rw [beq_eq_false_iff_ne]; omega
    have H47 : Hid (¬ k = 47) := h47
    simp only [if_neg h47] at hln
    clear h47
    go_enter Tryz.func77, Tryz.ntmps77
    go_wp2_with (first
        | (at_builtin; refine wpList_append_at _ rfl _ _ 32 rfl B 5 i0 (.int .u8 0) 1 1 Tryz.underlying32 hi hz0 hz1 hz2 rfl (by decide) vo l.length (bytesV l) rfl (HO.out.alloc _) ⟨w.heap.size, 0, none⟩ 1 1 [.int .u8 (k : Int)] (by simp [Act.eval]) rfl (cell_one8 rfl) (fun x hx => by simp at hx; subst hx; rfl) (by unfold maxLen; omega) (by omega) (by simp; omega) (by decide) ?_; intro v' w5 hown hgrow hnil; have hQ := Out8.push ((W8.refl B w).alloc hB _) (HO.out.alloc _) (by simp; omega) HX.out hown hgrow; have c51 : w5.cell? ⟨b, 1, none⟩ = some (.int .u8 (k : Int)) := hQ.2.cell HBK.out (by decide) rfl; have c62 : w5.cell? ⟨b, 2, none⟩ = some (.iface tya (ptr ba)) := hQ.2.cell HBK.out (by decide) rfl; have c63 : w5.cell? ⟨b, 3, none⟩ = some (.iface tyc (ptr bc)) := hQ.2.cell HBK.out (by decide) rfl; have Q6 : Hid _ := hQ; have hB6 : B ≤ w5.heap.size := Nat.le_trans hB hQ.2.size; clear hown hgrow hnil hQ)
        | fail)
    go_region_held3 (fun w' => w'.cell? ⟨b, 2, none⟩ = some (.iface tya (ptr ba)) ∧ w'.cell? ⟨b, 3, none⟩ = some (.iface tyc (ptr bc))) (go_keep)
      (first
        | (go_at_call 78; refine (code_appendParts [a, c] HT.out (vs := [(.iface tya (ptr ba)), (.iface tyc (ptr bc))]) (HC.out _ (Q6.out.2.drew.alloc hB6 _)) (owns_built (heap_new_at (by simp)) (by simp) rfl rfl) (World.ownsRow.alloc (World.ownsRow.drew Q6.out.1) _) (by simp; omega) (by simp at hln ⊢; omega) (by simp)).mono ?_; rintro e w7 ⟨v7, rfl, h7⟩; have Q7 : Hid _ := And.intro h7.1 ((Q6.out.2.drew.alloc hB6 _).trans h7.2); clear h7; have c72 : w7.cell? ⟨b, 2, none⟩ = some (.iface tya (ptr ba)) := Q7.out.2.cell HBK.out (by decide) rfl; have c73 : w7.cell? ⟨b, 3, none⟩ = some (.iface tyc (ptr bc)) := Q7.out.2.cell HBK.out (by decide) rfl))
    go_wp2
    go_ret
    refine ⟨_, rfl, ?_, Q7.out.2⟩
    have := Q7.out.1
    simpa [enc, encs, H47.out] using this
set_option maxRecDepth 1000000 in
theorem w_bin {k p : Nat} {a c : Tree} (hA : WCon B a) (hC : WCon B c) (hk : k < 256) : WCon B (.bin k p a c) := by
  intro w vo v l hn ho hB hl
  unfold CNode at hn
  obtain ⟨b, va, vc, rfl, hb, hblk, hca, hcc⟩ := hn
  have hpr := code_appendPair hA hC hk hblk hca hcc ho hB hl
  have ta := Tryz.isPair
  have tm0 := Tryz.notPairNumber
  have tm1 := Tryz.notPairMinus
  clear hblk hca hcc ho hl hA hC
  go_enter Tryz.func48, Tryz.ntmps48
  go_wp2_with fail
  refine hpr.mono ?_
  rintro e w6 ⟨v6, rfl, h6⟩
  have Q6 : Hid _ := h6
  clear h6 hpr
  go_wp2
  go_ret
  exact ⟨_, rfl, Q6.out⟩
theorem reck_lt {k : Nat} (h : isReck k = true ∨ k = 47) : k < 256 := by
  rcases h with h | h
  · simp [isReck] at h
    omega
  · omega
mutual
/-- Whatever fits is written. -/
theorem w_all : ∀ t : Tree, Fit t → WCon B t
  | .num _ _, h => by simp only [Fit] at h; exact w_num h.1 h.2
  | .neg _ a, h => by simp only [Fit] at h; exact w_neg (w_all a h)
  | .bin _ _ a c, h => by simp only [Fit] at h; exact w_bin (w_all a h.2.2.1) (w_all c h.2.2.2) (reck_lt h.1)
  | .ite _ a c d, h => by simp only [Fit] at h; exact w_ite (w_all a h.1) (w_all c h.2.1) (w_all d h.2.2)
  | .meas _ _ _ _, h => by simp only [Fit] at h; exact w_meas h.2.2.1 h.2.2.2.2.2.1 h.2.2.2.2.2.2.1 h.2.2.2.2.2.2.2
  | .probe _ _ ts, h => by simp only [Fit] at h; exact w_probe h.2.2.1 h.2.2.2.2.1 (w_alls ts h.2.2.2.2.2)
theorem w_alls : ∀ ts : List Tree, FitAll ts → ∀ t ∈ ts, WCon B t
  | [], _ => by intro t ht; simp at ht
  | a :: ts, h => by
    simp only [FitAll] at h
    have h1 := w_all a h.1
    have h2 := w_alls ts h.2
    intro t ht
    rcases List.mem_cons.1 ht with ht | ht
    · rw [ht]; exact h1
    · exact h2 t ht
end
mutual
theorem enc_length : ∀ t : Tree, Fit t → (enc t).length ≤ 600 * size t
  | .num _ _, h => by simp [enc, be4, size]
  | .neg _ a, h => by simp only [Fit] at h; have := enc_length a h; simp [enc, size]; omega
  | .bin k _ a c, h => by
    simp only [Fit] at h
    have h1 := enc_length a h.2.2.1
    have h2 := enc_length c h.2.2.2
    simp only [enc, size]
    split <;> simp <;> omega
  | .ite _ a c d, h => by
    simp only [Fit] at h
    have h1 := enc_length a h.1
    have h2 := enc_length c h.2.1
    have h3 := enc_length d h.2.2
    simp [enc, size]
    omega
  | .meas _ w m _, h => by simp only [Fit] at h; simp [enc, textB, be4, size]; omega
  | .probe _ w ts, h => by
    simp only [Fit] at h
    have := encs_length ts h.2.2.2.2.2
    simp [enc, textB, size]
    omega
theorem encs_length : ∀ ts : List Tree, FitAll ts → (encs ts).length ≤ 600 * sizes ts
  | [], _ => by simp [encs]
  | t :: ts, h => by
    simp only [FitAll] at h
    have h1 := enc_length t h.1
    have h2 := encs_length ts h.2
    simp [encs, sizes]
    omega
end
end
end Go.Proofs.YtaghcjpoihkpjaaGreatDoor
