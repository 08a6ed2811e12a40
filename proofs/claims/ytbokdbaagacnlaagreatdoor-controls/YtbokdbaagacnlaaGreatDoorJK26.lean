/-
 THE PROGRAM's Write: probes and pairs; all of it; Code.
-/
import Derived.Test.YtbokdbaagacnlaaGreatDoorJK25
import Derived.Test.YtbokdbaagacnlaaGreatDoorJK20
import Derived.Test.YtbokdbaagacnlaaGreatDoorProg
import Derived.BigQuiet
import Derived.BigRegion
import Derived.Deep.QuietTactic
import Derived.Test.YtbokdbaagacnlaaGreatDoorJK11
import Derived.Test.YtbokdbaagacnlaaGreatDoorJK3
import Derived.Test.YtbokdbaagacnlaaGreatDoorJK9
namespace Go.Proofs.YtbokdbaagacnlaaGreatDoor
open Go.RowKit Go.Lib
section
variable {B : Nat}
set_option maxRecDepth 1000000 in
set_option maxHeartbeats 2000000 in
theorem w_probe {p : Nat} {wd : ByteArray} {ts : List Tree} (hwd : wd.size < 256) (hlt : ts.length < 256) (hT : ∀ t ∈ ts, WCon B t) : WCon B (.probe p wd ts) := by
 intro w vo v l hn ho hB hl
 unfold CNode at hn
 obtain ⟨b, pv, vs, rfl, hb, hblk, ⟨hrow, hrowB⟩, hns⟩ := hn
 obtain ⟨i0, hi, hz0, hz1, hz2⟩ := info_parts Tryz.infoByte
 have hvl := hns.length
 obtain ⟨ao, cp, rfl⟩ := owns_len hrow
 have c0 := cell_of_heap (i := 0) hblk rfl
 have c1 := cell_of_heap (i := 1) hblk rfl
 have HBK : Hid (w.heap[b]? = some (.cells #[.int .i64 p, .string wd, .slice ao vs.length cp] 306 (0, 0))) := hblk
 have HO : Hid (Out8 B w vo l) := ho
 have HRW : Hid (w.ownsRow 0 226 1 (.slice ao vs.length cp) vs.length vs) := hrow
 have HNS : Hid (CNodes (Lt B) w ts vs) := hns
 have HT : Hid (∀ t ∈ ts, WCon B t) := hT
 have hln : l.length + 3 + (textB wd).length + (encs ts).length ≤ 1000000 := by simp [enc] at hl; omega
 have hx : bytesV [UInt8.ofNat ts.length] = [.int .u8 ((vs.length : Int) % 256)] := by rw [hvl]; exact byte_of _
 have HX : Hid _ := hx
 have h200 : ts.length ≤ 1000 := by omega
 have hm255 : vs.length < 256 := by omega
 have ta := Tryz.isProbe
 have tm0 := Tryz.notProbeNumber
 have tm1 := Tryz.notProbeMinus
 have tm2 := Tryz.notProbePair
 have tm3 := Tryz.notProbeChoice
 have tm4 := Tryz.notProbeMeasure
 clear ho hblk hl hrow hns hT hrowB hx hvl hlt
 generalize hM : vs.length = M at *
 have HM : Hid (vs.length = M) := hM
 clear hM
 go_enter Tryz.func99, Tryz.ntmps99
 go_wp2_with fail
 go_region_held3 (fun w' => w'.cell? ⟨b, 0, none⟩ = some (.int .i64 p) ∧ w'.cell? ⟨b, 1, none⟩ = some (.string wd)) (go_keep)
  (first
   | (refine step_append_lies _ (by rfl) (.tmp 90) (.tmp 91) _ (by rfl) B 5 i0 (.int .u8 0) 1 1 Tryz.underlying111 hi hz0 hz1 hz2 rfl (by omega) vo l.length (bytesV l) (by rfl) (World.ownsRow.alloc (World.ownsRow.drew HO.out) _) ⟨_, 0, none⟩ 1 1 [.int .u8 112] (by rfl) (by rfl) (news_one (heap_alloc_new _ _)) (by simp [Value.oneCell']) (by omega) (by unfold maxLen; omega) (by omega) (by simp; omega) _ (by rfl) ?_; intro g cap w5 hown hgrow hat hlt; have hQ := Out8.pushed (b := 112) hB HO.out rfl hown hgrow; have hB5 : B ≤ w5.heap.size := Nat.le_trans hB hQ.2.size; have c50 : w5.cell? ⟨b, 0, none⟩ = some (.int .i64 p) := hQ.2.cell HBK.out (by decide) rfl; have c51 : w5.cell? ⟨b, 1, none⟩ = some (.string wd) := hQ.2.cell HBK.out (by decide) rfl; have Q : Hid _ := hQ; clear hown hgrow hat hlt hQ)
   | (go_at_call 140; refine (code_appendPlace Q.out.1 hB5 (by simp; omega) p).mono ?_; rintro e w6 ⟨v6, rfl, h6⟩; have Q6 : Hid _ := And.intro h6.1 (Q.out.2.trans h6.2); have hB6 : B ≤ w6.heap.size := Nat.le_trans hB5 h6.2.size; clear h6; have c60 : w6.cell? ⟨b, 0, none⟩ = some (.int .i64 p) := Q6.out.2.cell HBK.out (by decide) rfl; have c61 : w6.cell? ⟨b, 1, none⟩ = some (.string wd) := Q6.out.2.cell HBK.out (by decide) rfl)
   | (go_at_call 139; refine (code_appendText Q6.out.1 hB6 (by simp; omega) wd (by omega)).mono ?_; rintro e w7 ⟨v7, rfl, h7⟩; have Q7 : Hid _ := And.intro h7.1 (Q6.out.2.trans h7.2); have hB7 : B ≤ w7.heap.size := Nat.le_trans hB6 h7.2.size; clear h7; have c70 : w7.cell? ⟨b, 0, none⟩ = some (.int .i64 p) := Q7.out.2.cell HBK.out (by decide) rfl; have c71 : w7.cell? ⟨b, 1, none⟩ = some (.string wd) := Q7.out.2.cell HBK.out (by decide) rfl))
 have c72 : w7.cell? ⟨b, 2, none⟩ = some (.slice ao M cp) := Q7.out.2.cell HBK.out (by decide) rfl
 obtain ⟨L7, hL7⟩ : ∃ L7, L7 = l ++ [112] ++ [UInt8.ofNat p] ++ textB wd := ⟨_, rfl⟩
 have Q8 : Hid (Out8 B w7 v7 L7 ∧ W8 B w w7) := by rw [hL7]; exact Q7.out
 have hl7 : L7.length + 1 + (encs ts).length ≤ 1000000 := by rw [hL7]; simp at hln ⊢; omega
 have HL7 : Hid (L7 = l ++ [112] ++ [UInt8.ofNat p] ++ textB wd) := hL7
 have HOO : Hid (Out8 B w7 v7 L7) := Q8.out.1
 clear hL7 Q7 Q6 Q hB5 hB6
 go_wp2_with fail
 go_region_held3 (fun w' => w'.cell? ⟨b, 2, none⟩ = some (.slice ao M cp)) (go_keep)
  (first
   | (refine step_append_lies _ (by rfl) (.tmp 103) (.tmp 110) _ (by rfl) B 5 i0 (.int .u8 0) 1 1 Tryz.underlying111 hi hz0 hz1 hz2 rfl (by omega) v7 L7.length (bytesV L7) (by rfl) (by repeat (first | with_reducible exact HOO.out | with_reducible apply World.ownsRow.drew | with_reducible apply World.ownsRow.alloc)) ⟨_, 0, none⟩ 1 1 [.int .u8 ((M : Int) % 256)] (by rfl) (by rfl) (news_one (by first | exact heap_new_at (by simp) | exact heap_alloc_old (heap_new_at (by simp)))) (by simp [Value.oneCell']) (by omega) (by unfold maxLen; omega) (by omega) (by first | exact hB7 | (simp; omega) | (simp; done)) _ (by rfl) ?_; intro g cap w5 hown hgrow hat hlt; have hQ := Out8.push (b := UInt8.ofNat ts.length) (x := .int .u8 ((M : Int) % 256)) (w := w) (l := L7) (v := v7) (by repeat (first | exact Q8.out.2 | with_reducible apply W8.drew | refine W8.alloc ?_ (by first | exact hB7 | (simp; omega) | (simp; done)) _)) (by repeat (first | with_reducible exact HOO.out | with_reducible apply World.ownsRow.drew | with_reducible apply World.ownsRow.alloc)) (by first | exact hB7 | (simp; omega) | (simp; done)) HX.out hown hgrow; have hB5 : B ≤ w5.heap.size := Nat.le_trans hB hQ.2.size; have HW : Hid _ := W8.grown (B := B) (v := v7) (n := L7.length) (xs := bytesV L7) (by repeat (first | with_reducible exact HOO.out | with_reducible apply World.ownsRow.drew | with_reducible apply World.ownsRow.alloc)) hgrow (by first | exact hB7 | (simp; omega) | (simp; done)); have Q : Hid _ := hQ; have c52 : w5.cell? ⟨b, 2, none⟩ = some (.slice ao M cp) := hQ.2.cell HBK.out (by decide) rfl; clear hown hgrow hat hlt hQ)
   | (go_at_call 138; refine (code_appendParts ts HT.out (vs := vs) (HNS.out.moves (nm_below Q.out.2.below)) (by rw [HM.out]; exact Q.out.2.owns HRW.out (by decide)) Q.out.1 hB5 (by simp; omega) h200).mono ?_; rintro e w9 ⟨v9, rfl, h9⟩; have Q9 : Hid _ := And.intro h9.1 (Q.out.2.trans h9.2); clear h9; have c92 : w9.cell? ⟨b, 2, none⟩ = some (.slice ao M cp) := Q9.out.2.cell HBK.out (by decide) rfl))
 all_goals
  go_wp2
  go_ret
  refine ⟨_, rfl, ?_, Q9.out.2⟩
  have := Q9.out.1
  rw [HL7.out] at this
  simpa [enc] using this
theorem byte_small {k : Nat} (h : k < 256) : bytesV [UInt8.ofNat k] = [.int .u8 (k : Int)] := by
 rw [byte_of]
 congr 2
 omega
set_option maxRecDepth 1000000 in
set_option maxHeartbeats 2000000 in
theorem code_appendPair {k p : Nat} {a c : Tree} (hA : WCon B a) (hC : WCon B c) (hk : k < 256) {w : World} {vo va vc : Value} {l : List UInt8} {b : Nat} (hblk : w.heap[b]? = some (.cells #[.int .i64 p, .int .u8 k, va, vc] 355 (0, 0))) (hca : CNode (Lt B) w a va) (hcc : CNode (Lt B) w c vc) (ho : Out8 B w vo l) (hB : B ≤ w.heap.size) (hl : l.length + (enc (.bin k p a c)).length ≤ 1000000) :
  Calls Tryz.prog 137 #[vo, ptr b] w fun e w' => ∃ vo', e = .returned vo' ∧ Out8 B w' vo' (l ++ enc (.bin k p a c)) ∧ W8 B w w' := by
 obtain ⟨tya, ba, rfl⟩ := hca.form
 obtain ⟨tyc, bc, rfl⟩ := hcc.form
 obtain ⟨i0, hi, hz0, hz1, hz2⟩ := info_parts Tryz.infoByte
 have c1 := cell_of_heap (i := 1) hblk rfl
 have HBK : Hid (w.heap[b]? = some (.cells #[.int .i64 p, .int .u8 k, (.iface tya (ptr ba)), (.iface tyc (ptr bc))] 355 (0, 0))) := hblk
 have HC : Hid (∀ w', W8 B w w' → CNodes (Lt B) w' [a, c] [(.iface tya (ptr ba)), (.iface tyc (ptr bc))]) := fun w' hw => by
  have hm := nm_below hw.below
  unfold CNodes
  refine ⟨_, _, rfl, hca.moves hm, ?_⟩
  unfold CNodes
  refine ⟨_, _, rfl, hcc.moves hm, ?_⟩
  unfold CNodes
  rfl
 have HT : Hid (∀ t ∈ [a, c], WCon B t) := by
  intro t ht
  simp at ht
  rcases ht with rfl | rfl
  ·exact hA
  ·exact hC
 have HO : Hid (Out8 B w vo l) := ho
 have hln : l.length + 1 + (if k = 47 then 1 else 0) + (encs [a, c]).length ≤ 1000000 := by
  simp only [enc, encs] at hl ⊢
  split at hl <;> simp_all <;> omega
 have HX : Hid _ := byte_small hk
 have HN : Hid (k < 256) := hk
 clear ho hblk hl hca hcc hA hC hk
 by_cases h47 : k = 47
 ·subst h47
  simp only [if_true] at hln
  go_enter Tryz.func137, Tryz.ntmps137
  go_wp2_with (first
    | (at_builtin; refine wpList_append_at _ rfl _ _ 111 rfl B 5 i0 (.int .u8 0) 1 1 Tryz.underlying111 hi hz0 hz1 hz2 rfl (by decide) vo l.length (bytesV l) rfl (HO.out.alloc _) ⟨w.heap.size, 0, none⟩ 1 1 [.int .u8 ((47 : Nat) : Int)] (by simp [Act.eval]) rfl (cell_one8 rfl) (fun x hx => by simp at hx; subst hx; rfl) (by unfold maxLen; omega) (by omega) (by simp; omega) (by decide) ?_; intro v' w5 hown hgrow hnil; have hQ := Out8.push ((W8.refl B w).alloc hB _) (HO.out.alloc _) (by simp; omega) HX.out hown hgrow; have c50 : w5.cell? ⟨b, 0, none⟩ = some (.int .i64 p) := hQ.2.cell HBK.out (by decide) rfl; have c51 : w5.cell? ⟨b, 1, none⟩ = some (.int .u8 ((47 : Nat) : Int)) := hQ.2.cell HBK.out (by decide) rfl; have Q : Hid _ := hQ; have hB5 : B ≤ w5.heap.size := Nat.le_trans hB hQ.2.size; clear hown hgrow hnil hQ)
    | (go_at_call 140; refine (code_appendPlace Q.out.1 hB5 (by simp; omega) p).mono ?_; rintro e w6 ⟨v6, rfl, h6⟩; have Q6 : Hid _ := And.intro h6.1 (Q.out.2.trans h6.2); have hB6 : B ≤ w6.heap.size := Nat.le_trans hB5 h6.2.size; clear h6; have c62 : w6.cell? ⟨b, 2, none⟩ = some (.iface tya (ptr ba)) := Q6.out.2.cell HBK.out (by decide) rfl; have c63 : w6.cell? ⟨b, 3, none⟩ = some (.iface tyc (ptr bc)) := Q6.out.2.cell HBK.out (by decide) rfl)
    | fail)
  go_region_held3 (fun w' => w'.cell? ⟨b, 2, none⟩ = some (.iface tya (ptr ba)) ∧ w'.cell? ⟨b, 3, none⟩ = some (.iface tyc (ptr bc))) (go_keep)
   (first
    | (go_at_call 138; refine (code_appendParts [a, c] HT.out (vs := [(.iface tya (ptr ba)), (.iface tyc (ptr bc))]) (HC.out _ (Q6.out.2.drew.alloc hB6 _)) (owns_built (heap_new_at (by simp)) (by simp) rfl rfl) (World.ownsRow.alloc (World.ownsRow.drew Q6.out.1) _) (by simp; omega) (by simp at hln ⊢; omega) (by simp)).mono ?_; rintro e w7 ⟨v7, rfl, h7⟩; have Q7 : Hid _ := And.intro h7.1 ((Q6.out.2.drew.alloc hB6 _).trans h7.2); clear h7; have c72 : w7.cell? ⟨b, 2, none⟩ = some (.iface tya (ptr ba)) := Q7.out.2.cell HBK.out (by decide) rfl; have c73 : w7.cell? ⟨b, 3, none⟩ = some (.iface tyc (ptr bc)) := Q7.out.2.cell HBK.out (by decide) rfl))
  go_wp2
  go_ret
  refine ⟨_, rfl, ?_, Q7.out.2⟩
  have := Q7.out.1
  simpa [enc, encs] using this
 ·have hb47 : (((k : Nat) : Int) == 47) = false := by rw [beq_eq_false_iff_ne]; omega
  have H47 : Hid (¬ k = 47) := h47
  simp only [if_neg h47] at hln
  clear h47
  go_enter Tryz.func137, Tryz.ntmps137
  go_wp2_with (first
    | (at_builtin; refine wpList_append_at _ rfl _ _ 111 rfl B 5 i0 (.int .u8 0) 1 1 Tryz.underlying111 hi hz0 hz1 hz2 rfl (by decide) vo l.length (bytesV l) rfl (HO.out.alloc _) ⟨w.heap.size, 0, none⟩ 1 1 [.int .u8 (k : Int)] (by simp [Act.eval]) rfl (cell_one8 rfl) (fun x hx => by simp at hx; subst hx; rfl) (by unfold maxLen; omega) (by omega) (by simp; omega) (by decide) ?_; intro v' w5 hown hgrow hnil; have hQ := Out8.push ((W8.refl B w).alloc hB _) (HO.out.alloc _) (by simp; omega) HX.out hown hgrow; have c51 : w5.cell? ⟨b, 1, none⟩ = some (.int .u8 (k : Int)) := hQ.2.cell HBK.out (by decide) rfl; have c62 : w5.cell? ⟨b, 2, none⟩ = some (.iface tya (ptr ba)) := hQ.2.cell HBK.out (by decide) rfl; have c63 : w5.cell? ⟨b, 3, none⟩ = some (.iface tyc (ptr bc)) := hQ.2.cell HBK.out (by decide) rfl; have Q6 : Hid _ := hQ; have hB6 : B ≤ w5.heap.size := Nat.le_trans hB hQ.2.size; clear hown hgrow hnil hQ)
    | fail)
  go_region_held3 (fun w' => w'.cell? ⟨b, 2, none⟩ = some (.iface tya (ptr ba)) ∧ w'.cell? ⟨b, 3, none⟩ = some (.iface tyc (ptr bc))) (go_keep)
   (first
    | (go_at_call 138; refine (code_appendParts [a, c] HT.out (vs := [(.iface tya (ptr ba)), (.iface tyc (ptr bc))]) (HC.out _ (Q6.out.2.drew.alloc hB6 _)) (owns_built (heap_new_at (by simp)) (by simp) rfl rfl) (World.ownsRow.alloc (World.ownsRow.drew Q6.out.1) _) (by simp; omega) (by simp at hln ⊢; omega) (by simp)).mono ?_; rintro e w7 ⟨v7, rfl, h7⟩; have Q7 : Hid _ := And.intro h7.1 ((Q6.out.2.drew.alloc hB6 _).trans h7.2); clear h7; have c72 : w7.cell? ⟨b, 2, none⟩ = some (.iface tya (ptr ba)) := Q7.out.2.cell HBK.out (by decide) rfl; have c73 : w7.cell? ⟨b, 3, none⟩ = some (.iface tyc (ptr bc)) := Q7.out.2.cell HBK.out (by decide) rfl))
  go_wp2
  go_ret
  refine ⟨_, rfl, ?_, Q7.out.2⟩
  have := Q7.out.1
  simpa [enc, encs, H47.out] using this
set_option maxRecDepth 1000000 in
theorem w_bin {k p : Nat} {a c : Tree} (hA : WCon B a) (hC : WCon B c) (hk : k < 256) : WCon B (.bin k p a c) := by
 intro w vo v l hn ho hB hl
 unfold CNode at hn
 obtain ⟨b, va, vc, rfl, hb, hblk, hca, hcc⟩ := hn
 have hpr := code_appendPair hA hC hk hblk hca hcc ho hB hl
 have ta := Tryz.isPair
 have tm0 := Tryz.notPairNumber
 have tm1 := Tryz.notPairMinus
 clear hblk hca hcc ho hl hA hC
 go_enter Tryz.func99, Tryz.ntmps99
 go_wp2_with fail
 refine hpr.mono ?_
 rintro e w6 ⟨v6, rfl, h6⟩
 have Q6 : Hid _ := h6
 clear h6 hpr
 go_wp2
 go_ret
 exact ⟨_, rfl, Q6.out⟩
theorem reck_lt {k : Nat} (h : isReck k = true ∨ k = 47) : k < 256 := by
 rcases h with h | h
 ·simp [isReck] at h
  omega
 ·omega
mutual
theorem w_all : ∀ t : Tree, Fit t → WCon B t
 | .num _ _, h => by simp only [Fit] at h; exact w_num h.1 h.2
 | .neg _ a, h => by simp only [Fit] at h; exact w_neg (w_all a h)
 | .bin _ _ a c, h => by simp only [Fit] at h; exact w_bin (w_all a h.2.2.1) (w_all c h.2.2.2) (reck_lt h.1)
 | .ite _ a c d, h => by simp only [Fit] at h; exact w_ite (w_all a h.1) (w_all c h.2.1) (w_all d h.2.2)
 | .meas _ _ _ _, h => by simp only [Fit] at h; exact w_meas h.2.2.1 h.2.2.2.2.2.1 h.2.2.2.2.2.2.1 h.2.2.2.2.2.2.2
 | .probe _ _ ts, h => by simp only [Fit] at h; exact w_probe h.2.2.1 h.2.2.2.2.1 (w_alls ts h.2.2.2.2.2)
theorem w_alls : ∀ ts : List Tree, FitAll ts → ∀ t ∈ ts, WCon B t
 | [], _ => by intro t ht; simp at ht
 | a :: ts, h => by
  simp only [FitAll] at h
  have h1 := w_all a h.1
  have h2 := w_alls ts h.2
  intro t ht
  rcases List.mem_cons.1 ht with ht | ht
  ·rw [ht]; exact h1
  ·exact h2 t ht
end
mutual
theorem enc_length : ∀ t : Tree, Fit t → (enc t).length ≤ 600 * size t
 | .num _ _, h => by simp [enc, be4, size]
 | .neg _ a, h => by simp only [Fit] at h; have := enc_length a h; simp [enc, size]; omega
 | .bin k _ a c, h => by
  simp only [Fit] at h
  have h1 := enc_length a h.2.2.1
  have h2 := enc_length c h.2.2.2
  simp only [enc, size]
  split <;> simp <;> omega
 | .ite _ a c d, h => by
  simp only [Fit] at h
  have h1 := enc_length a h.1
  have h2 := enc_length c h.2.1
  have h3 := enc_length d h.2.2
  simp [enc, size]
  omega
 | .meas _ w m _, h => by simp only [Fit] at h; simp [enc, textB, be4, size]; omega
 | .probe _ w ts, h => by
  simp only [Fit] at h
  have := encs_length ts h.2.2.2.2.2
  simp [enc, textB, size]
  omega
theorem encs_length : ∀ ts : List Tree, FitAll ts → (encs ts).length ≤ 600 * sizes ts
 | [], _ => by simp [encs]
 | t :: ts, h => by
  simp only [FitAll] at h
  have h1 := enc_length t h.1
  have h2 := encs_length ts h.2
  simp [encs, sizes]
  omega
end
end
end Go.Proofs.YtbokdbaagacnlaaGreatDoor
namespace Go.Proofs.YtbokdbaagacnlaaGreatDoor
open Go.RowKit Go.Lib
theorem row_at {w : World} {base e n cp : Nat} {ao : Option Addr} {xs : List Value} {j : Nat} {v : Value} (h : w.ownsRow base e 1 (.slice ao n cp) n xs) (hj : xs[j]? = some v) : ∃ g, ao = some ⟨g, 0, none⟩ ∧ w.cell? ⟨g, j, none⟩ = some v := by
 have hl := h.1
 rcases h.2 with ⟨he, h0⟩ | ⟨g, cap, cur, he, -, hg, -, -, -, ht⟩
 ·subst h0
  have : xs = [] := List.length_eq_zero_iff.1 (by omega)
  subst this
  simp at hj
 ·injection he with he _ _
  refine ⟨g, he, cell_of_heap hg ?_⟩
  rw [← ht, List.getElem?_take] at hj
  split at hj
  ·simpa using hj
  ·cases hj
end Go.Proofs.YtbokdbaagacnlaaGreatDoor
namespace Go.Proofs.YtbokdbaagacnlaaGreatDoor
open Go.RowKit Go.Lib
theorem equalIn_func_nil {P : Program} (w : World) (d : Nat) (t : TypeId) {ps rs : Array TypeId} {v : Bool} (f : Fn) (a b : Array Value) (h : P.underlying t = some (.func ps rs v)) : (Op.equalIn (d + 1) t (.func f a b) .nilFunc).run P w = .ok false w := by
 simp [Op.equalIn, run_underlying h]
theorem eql_func_nil {P : Program} (w : World) (t : TypeId) {ps rs : Array TypeId} {v : Bool} (f : Fn) (a b : Array Value) (h : P.underlying t = some (.func ps rs v)) : (binOp .eql t (.func f a b) .nilFunc).run P w = .ok (.bool false) w := by
 simp only [binOp]
 simp [Op.equal, Op.maxDepth, equalIn_func_nil w 9999 t f a b h]
end Go.Proofs.YtbokdbaagacnlaaGreatDoor
namespace Go.Proofs.YtbokdbaagacnlaaGreatDoor
open Go.RowKit Go.Lib
def Txts (w : World) (v : Value) (l : List ByteArray) : Prop :=
 ∃ (ao : Option Addr) (cp : Nat), v = .slice ao l.length cp ∧ l.length ≤ cp ∧ ∀ (j : Nat) x, l[j]? = some x → ∃ g, ao = some ⟨g, 0, none⟩ ∧ w.cell? ⟨g, j, none⟩ = some (.string x)
theorem Txts.of_owns {w : World} {base : Nat} {v : Value} {l : List ByteArray} (h : w.ownsRow base 9 1 v l.length (l.map Value.string)) : Txts w v l := by
 obtain ⟨ao, cp, rfl⟩ := owns_slice_len h
 refine ⟨ao, cp, rfl, ?_, fun j x hx => row_at h (by rw [List.getElem?_map, hx]; rfl)⟩
 rcases h.2 with ⟨he, h0⟩ | ⟨g, cap, cur, he, -, hg, hc, -⟩
 ·omega
 ·injection he with _ _ he; omega
theorem Txts.below {w w' : World} {v : Value} {l : List ByteArray} (h : Txts w v l) (hb : Below w.heap.size w w') : Txts w' v l := by
 obtain ⟨ao, cp, h1, h2, h3⟩ := h
 refine ⟨ao, cp, h1, h2, fun j x hx => ?_⟩
 obtain ⟨g, h4, h5⟩ := h3 j x hx
 exact ⟨g, h4, (World.cell?_of_block (hb.block g (World.block_lt_of_cell? w _ h5))).trans h5⟩
end Go.Proofs.YtbokdbaagacnlaaGreatDoor
namespace Go.Proofs.YtbokdbaagacnlaaGreatDoor
open Go.RowKit Go.Lib
set_option maxRecDepth 1000000 in
theorem code_empty {w : World} {pb : Nat} {a : Addr} (h : w.heap[pb]? = some (.cells #[.pointer (some a)] 177 (0, 0))) :
  Calls Tryz.prog 66 #[.pointer (some ⟨pb, 0, none⟩)] w fun e w' => e = .returned (.bool false) ∧ w' = w := by
 have c0 := cell_of_heap (i := 0) h rfl
 clear h
 go_enter Tryz.func66, Tryz.ntmps66
 go_wp2
 go_ret
 exact ⟨rfl, rfl⟩
end Go.Proofs.YtbokdbaagacnlaaGreatDoor
namespace Go.Proofs.YtbokdbaagacnlaaGreatDoor
open Go.RowKit Go.Lib
theorem Tryz.infoStrR : (Tryz.prog.info? 9).map (fun i => (i.zero, i.size, i.bytes)) = some (some (.string { data := #[] }), 1, 16) := by kernel_rfl
theorem bytes_inj {a b : ByteArray} (h : a.toList = b.toList) : a = b := by
 rw [Lib.toList_data, Lib.toList_data] at h
 exact ByteArray.ext (Array.toList_inj.1 h)
theorem take_note {ms : List ByteArray} {x : ByteArray} (h : x ∈ ms) : note1 ms x = ms := by
 unfold note1
 rw [if_pos ((containsS_iff _ _).2 h)]
theorem take_new {ms : List ByteArray} {x : ByteArray} (h : x ∉ ms) : note1 ms x = ms ++ [x] := by
 unfold note1
 rw [if_neg (fun e => h ((containsS_iff _ _).1 e))]
set_option maxRecDepth 1000000 in
set_option maxHeartbeats 1000000 in
theorem ref_metrics_meas {w : World} {b N p : Nat} {n : Int} {word metric : ByteArray} {pv lv : Value} {ms : List ByteArray} (hb : NodeBlk w b 109 p n word metric pv) (hN : N ≤ w.heap.size)
  (hown : w.ownsRow N 9 1 lv ms.length (ms.map Value.string)) (hl : ms.length ≤ 1000) :
  Calls Tryz.prog 22 #[.pointer (some ⟨b, 0, none⟩), lv] w fun e w' => ∃ lv', e = .returned lv' ∧ w'.ownsRow N 9 1 lv' (note1 ms metric).length ((note1 ms metric).map Value.string) ∧ Below N w w' := by
 obtain ⟨i0, hi, hz0, hz1, hz2⟩ := info_parts Tryz.infoStrR
 have c0 := cell_of_heap (i := 0) hb rfl
 have c4 := cell_of_heap (i := 4) hb rfl
 have HO : Hid (w.ownsRow N 9 1 lv ms.length (ms.map Value.string)) := hown
 obtain ⟨ao, ln, cp, rfl⟩ := owns_slice hown
 have hln : ln = ms.length := by
  rcases hown.2 with ⟨e, h0⟩ | ⟨g, cap, cur, e, -⟩
  ·injection e; omega
  ·injection e
 subst hln
 have hcell : ∀ k, k < ms.length → ∃ g, ao = some ⟨g, 0, none⟩ ∧ w.cell? ⟨g, k, none⟩ = some (.string (ms.getD k ByteArray.empty)) := by
  intro k hk
  rcases hown.2 with ⟨e, h0⟩ | ⟨g, cap, cur, e, -⟩
  ·omega
  ·injection e with e1 e2 e3
   refine ⟨g, e1, ?_⟩
   have := hown.cells (g := g) (by rw [e1]; rfl) k (.string (ms.getD k ByteArray.empty)) (by simp [List.getD_eq_getElem?_getD, List.getElem?_eq_getElem hk])
   have ha : (⟨g, 0, none⟩ : Addr).add k = ⟨g, k, none⟩ := by
    simp only [Addr.add]
    split
    ·rename_i h0; subst h0; rfl
    ·simp
   rw [ha] at this
   exact this
 have HC : Hid _ := hcell
 clear hcell hown hb
 go_enter Tryz.func22, Tryz.ntmps22
 go_wp2_with fail
 go_loopw [5] (fun i wr => ∃ k q : Nat, k ≤ ms.length ∧ i = .int .i64 k ∧ wr = w.drewN q ∧ Hid (∀ j, j < k → ms.getD j ByteArray.empty ≠ metric)) (fun i _ => ms.length - (intOf i).toNat)
 case atStart => exact ⟨0, 0, Nat.zero_le _, rfl, rfl, fun j hj => absurd hj (Nat.not_lt_zero _)⟩
 case round =>
  obtain ⟨k, q, hk, rfl, rfl, HN⟩ := hrel
  rcases Nat.lt_or_ge k ms.length with hkl | hkl
  ·obtain ⟨g, rfl, hck⟩ := HC.out k hkl
   have hkz : (k : Int) < (ms.length : Int) := by omega
   have hmem : ms.getD k ByteArray.empty ∈ ms := by
    rw [List.getD_eq_getElem?_getD, List.getElem?_eq_getElem hkl]
    exact List.getElem_mem hkl
   have HM : Hid (ms.getD k ByteArray.empty ∈ ms) := hmem
   by_cases hY : ms.getD k ByteArray.empty = metric
   ·rw [hY] at hck HM
    clear hY hmem
    go_wp2_with fail
    go_quiet (fail)
    go_wp2
    go_ret
    refine ⟨_, rfl, ?_, ?_⟩
    ·rw [take_note HM.out]
     exact HO.out.kept (row := none) ⟨rfl, rfl, rfl, Nat.le_refl _, fun _ _ _ => rfl⟩ (Classical.em _)
    ·exact ⟨rfl, rfl, rfl, Nat.le_refl _, fun _ _ => rfl⟩
   ·have HY : Hid (ms.getD k ByteArray.empty ≠ metric) := hY
    have hbq : ((ms.getD k ByteArray.empty).toList == metric.toList) = false := by rw [beq_eq_false_iff_ne]; exact fun e => hY (bytes_inj e)
    obtain ⟨Y, hYe⟩ : ∃ Y, Y = ms.getD k ByteArray.empty := ⟨_, rfl⟩
    rw [← hYe] at hck hY hbq
    clear hYe hmem
    go_wp2_with fail
    go_quiet (fail)
    go_wp2
    go_roundw
    case rel =>
     refine ⟨k + 1, _, hkl, ?_, rfl, fun j hj => ?_⟩
     ·go_num
     ·rcases Nat.lt_or_ge j k with h | h
      ·exact HN.out j h
      ·obtain rfl : j = k := by omega
       exact HY.out
    case measure => simp [intOf]; omega
  ·have hkz : ¬ (k : Int) < (ms.length : Int) := by omega
   have hnew : metric ∉ ms := by
    intro hm
    obtain ⟨j, hj, e⟩ := List.getElem_of_mem hm
    refine HN.out j (by omega) ?_
    rw [List.getD_eq_getElem?_getD, List.getElem?_eq_getElem hj]
    exact e
   have HW : Hid (metric ∉ ms) := hnew
   clear hnew HC
   go_wp2_with (first | (at_builtin; refine wpList_append_at _ rfl _ _ 65 rfl N 9 i0 (.string { data := #[] }) 1 16 Tryz.underlying65 hi hz0 hz1 hz2 rfl (by decide) (.slice ao ms.length cp) ms.length (ms.map Value.string) rfl (((HO.out.kept (w' := w.drewN q) (row := none) ⟨rfl, rfl, rfl, Nat.le_refl _, fun _ _ _ => rfl⟩ (Classical.em _))).alloc _) ⟨w.heap.size, 0, none⟩ 1 1 [.string metric] rfl rfl (cell_one_new _ _ _) (fun x hx => by simp at hx; subst hx; rfl) (by unfold maxLen; omega) (by omega) (by simp; omega) (by decide) ?_; intro v' w5 hown hgrow hnil
                         have HG : Hid _ := hgrow
                         have HV : Hid (w5.ownsRow N 9 1 v' (ms.length + 1) (ms.map Value.string ++ [.string metric])) := hown
                         obtain ⟨ao2, ln2, cp2, rfl⟩ := owns_slice hown
                         clear hgrow hown hnil))
   go_ret
   refine ⟨_, rfl, ?_, ?_⟩
   ·rw [take_new HW.out]
    simpa using HV.out
   ·refine ⟨HG.out.os, HG.out.tape, HG.out.output, by have := HG.out.size; simp at this; omega, fun k hk => ?_⟩
    exact (HG.out.block k (by simp; omega) (fun e => by have := (HO.out.lt _ e.symm).1; omega)).trans (Below.heap_alloc _ _ _ (by simp; omega))
end Go.Proofs.YtbokdbaagacnlaaGreatDoor
namespace Go.Proofs.YtbokdbaagacnlaaGreatDoor
open Go.RowKit Go.Lib
def MCon (t : Tree) : Prop :=
 ∀ (P : Nat → Prop) (N : Nat) (w : World) (v lv : Value) (ms : List ByteArray), (∀ b, P b → b < N) → N ≤ w.heap.size → IsNode P w t v → w.ownsRow N 9 1 lv ms.length (ms.map Value.string) → ms.length + (mets t).length ≤ 1000 →
  Calls Tryz.prog 22 #[v, lv] w fun e w' => ∃ lv', e = .returned lv' ∧ w'.ownsRow N 9 1 lv' (notes ms (mets t)).length ((notes ms (mets t)).map Value.string) ∧ Below N w w'
theorem isNodes_length {P : Nat → Prop} {w : World} : ∀ {ts : List Tree} {vs : List Value}, IsNodes P w ts vs → ts.length = vs.length
 | [], _, h => by unfold IsNodes at h; subst h; rfl
 | t :: ts, _, h => by
  unfold IsNodes at h
  obtain ⟨v, vs', rfl, -, h2⟩ := h
  simp [isNodes_length h2]
theorem isNodes_at {P : Nat → Prop} {w : World} : ∀ {ts : List Tree} {vs : List Value}, IsNodes P w ts vs → ∀ (k : Nat) t, ts[k]? = some t → ∃ v, vs[k]? = some v ∧ IsNode P w t v
 | [], _, _, k, t, h => by simp at h
 | t0 :: ts, _, h, 0, t, e => by
  unfold IsNodes at h
  obtain ⟨v, vs', rfl, h1, h2⟩ := h
  simp at e
  subst e
  exact ⟨v, rfl, h1⟩
 | t0 :: ts, _, h, k + 1, t, e => by
  unfold IsNodes at h
  obtain ⟨v, vs', rfl, h1, h2⟩ := h
  simp at e
  simpa using isNodes_at h2 k t e
theorem isNode_ptr {P : Nat → Prop} {w : World} : ∀ {t : Tree} {v : Value}, IsNode P w t v → ∃ a, v = .pointer (some a)
 | .num _ _, _, h => by unfold IsNode at h; obtain ⟨b, pv, h1, -⟩ := h; exact ⟨_, h1⟩
 | .neg _ _, _, h => by unfold IsNode at h; obtain ⟨va, ⟨b, pv, h1, -⟩, -⟩ := h; exact ⟨_, h1⟩
 | .bin _ _ _ _, _, h => by unfold IsNode at h; obtain ⟨va, vb, ⟨b, pv, h1, -⟩, -⟩ := h; exact ⟨_, h1⟩
 | .ite _ _ _ _, _, h => by unfold IsNode at h; obtain ⟨va, vb, vc, ⟨b, pv, h1, -⟩, -⟩ := h; exact ⟨_, h1⟩
 | .meas _ _ _ _, _, h => by unfold IsNode at h; obtain ⟨b, pv, h1, -⟩ := h; exact ⟨_, h1⟩
 | .probe _ _ _, _, h => by unfold IsNode at h; obtain ⟨vs, ⟨b, pv, h1, -⟩, -⟩ := h; exact ⟨_, h1⟩
theorem metsAll_take {ts : List Tree} {k : Nat} {t : Tree} (h : ts[k]? = some t) : metsAll (ts.take (k + 1)) = metsAll (ts.take k) ++ mets t := by
 rw [List.take_add_one, h, metsAll_append]
 simp [metsAll]
theorem metsAll_part {ts : List Tree} {k : Nat} : (metsAll (ts.take k)).length ≤ (metsAll ts).length := by
 have : metsAll ts = metsAll (ts.take k) ++ metsAll (ts.drop k) := by rw [← metsAll_append, List.take_append_drop]
 rw [this]
 simp
set_option maxRecDepth 1000000 in
set_option maxHeartbeats 1000000 in
theorem ref_metrics_parts {P : Nat → Prop} {w : World} {N k0 p : Nat} {n : Int} {word metric : ByteArray} {v lv : Value} {vs : List Value} {ts : List Tree} {ms : List ByteArray} (hk : k0 ≠ 109) (hP : ∀ b, P b → b < N) (hN : N ≤ w.heap.size)
  (hn : NodeAt P w v k0 p n word metric vs) (hts : IsNodes P w ts vs) (ih : ∀ t ∈ ts, MCon t) (hown : w.ownsRow N 9 1 lv ms.length (ms.map Value.string)) (hl : ms.length + (metsAll ts).length ≤ 1000) (hvl : vs.length ≤ 1000) :
  Calls Tryz.prog 22 #[v, lv] w fun e w' => ∃ lv', e = .returned lv' ∧ w'.ownsRow N 9 1 lv' (notes ms (metsAll ts)).length ((notes ms (metsAll ts)).map Value.string) ∧ Below N w w' := by
 obtain ⟨b, pv, rfl, hPb, hb, hpa⟩ := hn
 have c0 := cell_of_heap (i := 0) hb rfl
 have c5 := cell_of_heap (i := 5) hb rfl
 have hbN := hP b hPb
 have hlen := isNodes_length hts
 have hq : ∃ (ao : Option Addr) (cap : Nat), pv = .slice ao vs.length cap ∧ ∀ (W : World), Below N w W → ∀ k x, vs[k]? = some x → ∃ q, ao = some ⟨q, 0, none⟩ ∧ W.cell? ⟨q, k, none⟩ = some x := by
  rcases hpa with ⟨rfl, rfl⟩ | ⟨q, cap, cur, rfl, hPq, hcur, -, -, -, htake⟩
  ·exact ⟨none, 0, rfl, fun W hW k x hx => by simp at hx⟩
  ·refine ⟨some ⟨q, 0, none⟩, cap, rfl, fun W hW k x hx => ⟨q, rfl, ?_⟩⟩
   have hc : cur[k]? = some x := by
    rw [← htake, List.getElem?_take] at hx
    split at hx
    ·simpa using hx
    ·cases hx
   exact cell_of_heap ((hW.block q (hP q hPq)).trans hcur) hc
 obtain ⟨ao, cap, rfl, hq⟩ := hq
 have hne : ((k0 : Int) == 109) = false := by rw [beq_eq_false_iff_ne]; omega
 have HQ : Hid _ := hq
 have HTS : Hid (IsNodes P w ts vs) := hts
 have HIH : Hid (∀ t ∈ ts, MCon t) := ih
 have HP : Hid (∀ b, P b → b < N) := hP
 have HBK : Hid _ := hb
 have HO : Hid (w.ownsRow N 9 1 lv ms.length (ms.map Value.string)) := hown
 obtain ⟨lo, ll, lc, rfl⟩ := owns_slice hown
 clear hq hts ih hP hb hpa hown
 go_enter Tryz.func22, Tryz.ntmps22
 go_wp2_with fail
 go_loopw [1, 6] (fun l i wr => ∃ (k : Nat) (lo : Option Addr) (ll lc : Nat), k ≤ vs.length ∧ i = .int .i64 k ∧ l = .slice lo ll lc ∧ Hid (wr.ownsRow N 9 1 (.slice lo ll lc) (notes ms (metsAll (ts.take k))).length ((notes ms (metsAll (ts.take k))).map Value.string)) ∧ Hid (Below N w wr)) (fun _ i _ => vs.length - (intOf i).toNat)
 case atStart => exact ⟨0, lo, ll, lc, Nat.zero_le _, rfl, rfl, HO.out, Below.refl _ _⟩
 case round =>
  obtain ⟨k, lo, ll, lc, hkv, rfl, rfl, HOr, HBr⟩ := hrel
  have c5r : wr.cell? ⟨b, 5, none⟩ = _ := cell_of_heap (i := 5) ((HBr.out.block b hbN).trans HBK.out) rfl
  rcases Nat.lt_or_ge k vs.length with hkl | hkl
  ·have hkz : (k : Int) < (vs.length : Int) := by omega
   obtain ⟨t, ht⟩ : ∃ t, ts[k]? = some t := ⟨ts[k]'(by omega), List.getElem?_eq_getElem _⟩
   obtain ⟨x, hx, hnx⟩ := isNodes_at HTS.out k t ht
   obtain ⟨q, rfl, hcq⟩ := HQ.out wr HBr.out k x hx
   obtain ⟨xa, rfl⟩ := isNode_ptr hnx
   have hpart : (metsAll (ts.take (k + 1))).length ≤ (metsAll ts).length := metsAll_part
   have htk := metsAll_take ht
   have hcall := HIH.out t (List.mem_of_getElem? ht) P N wr (.pointer (some xa)) (.slice lo ll lc) _ HP.out (Nat.le_trans hN HBr.out.size) (hnx.moves fun c hc _ => ⟨hc, HBr.out.block c (HP.out c hc)⟩) HOr.out (by
    have := (notes_length (metsAll (ts.take k)) ms).2
    rw [htk, List.length_append] at hpart
    omega)
   rw [← notes_append, ← htk] at hcall
   clear htk hpart hnx
   go_wp2_with fail
   refine hcall.mono ?_
   rintro e w2 ⟨lv2, rfl, hown2, hb2⟩
   obtain ⟨lo2, ll2, lc2, rfl⟩ := owns_slice hown2
   have HO2 : Hid _ := hown2
   have HB2 : Hid (Below N w w2) := HBr.out.trans hb2
   clear hown2 hb2 hcall
   go_wp2
   go_roundw
   case rel => exact ⟨k + 1, lo2, ll2, lc2, hkl, by go_num, rfl, HO2, HB2⟩
   case measure => simp [intOf]; omega
  ·have hkz : ¬ (k : Int) < (vs.length : Int) := by omega
   have hke : ts.take k = ts := List.take_of_length_le (by omega)
   rw [hke] at HOr
   go_wp2
   go_ret
   exact ⟨_, rfl, HOr.out, HBr.out⟩
mutual
def Fine : Tree → Prop
 | .num _ _ => True
 | .neg _ a => Fine a
 | .bin k _ a b => k ≠ 109 ∧ Fine a ∧ Fine b
 | .ite _ a b c => Fine a ∧ Fine b ∧ Fine c
 | .meas _ _ _ _ => True
 | .probe _ _ ts => ts.length ≤ 1000 ∧ FineAll ts
def FineAll : List Tree → Prop
 | [] => True
 | t :: ts => Fine t ∧ FineAll ts
end
theorem isNodes_nil {P : Nat → Prop} {w : World} : IsNodes P w [] [] := by unfold IsNodes; rfl
theorem isNodes_cons {P : Nat → Prop} {w : World} {t : Tree} {v : Value} {ts : List Tree} {vs : List Value} (h : IsNode P w t v) (k : IsNodes P w ts vs) : IsNodes P w (t :: ts) (v :: vs) := by unfold IsNodes; exact ⟨v, vs, rfl, h, k⟩
mutual
theorem ref_metrics : ∀ t, Fine t → MCon t
 | .num _ _, _ => fun P N w v lv ms hP hN hn ho hl => by
  unfold IsNode at hn
  simpa [mets, metsAll] using ref_metrics_parts (ts := []) (by decide) hP hN hn isNodes_nil (fun t ht => by cases ht) ho (by simpa [mets, metsAll] using hl) (by simp)
 | .neg _ a, hf => fun P N w v lv ms hP hN hn ho hl => by
  unfold Fine at hf
  unfold IsNode at hn
  obtain ⟨va, hn, ha⟩ := hn
  have h1 := ref_metrics a hf
  simpa [mets, metsAll] using ref_metrics_parts (ts := [a]) (by decide) hP hN hn (isNodes_cons ha isNodes_nil) (fun t ht => by simp at ht; subst ht; exact h1) ho (by simpa [mets, metsAll] using hl) (by simp)
 | .bin _ _ a b, hf => fun P N w v lv ms hP hN hn ho hl => by
  unfold Fine at hf
  unfold IsNode at hn
  obtain ⟨va, vb, hn, ha, hb⟩ := hn
  have h1 := ref_metrics a hf.2.1
  have h2 := ref_metrics b hf.2.2
  simpa [mets, metsAll] using ref_metrics_parts (ts := [a, b]) hf.1 hP hN hn (isNodes_cons ha (isNodes_cons hb isNodes_nil)) (fun t ht => by simp at ht; rcases ht with rfl | rfl; exact h1; exact h2) ho (by simpa [mets, metsAll] using hl) (by simp)
 | .ite _ a b c, hf => fun P N w v lv ms hP hN hn ho hl => by
  unfold Fine at hf
  unfold IsNode at hn
  obtain ⟨va, vb, vc, hn, ha, hb, hc⟩ := hn
  have h1 := ref_metrics a hf.1
  have h2 := ref_metrics b hf.2.1
  have h3 := ref_metrics c hf.2.2
  simpa [mets, metsAll] using ref_metrics_parts (ts := [a, b, c]) (by decide) hP hN hn (isNodes_cons ha (isNodes_cons hb (isNodes_cons hc isNodes_nil))) (fun t ht => by simp at ht; rcases ht with rfl | rfl | rfl; exact h1; exact h2; exact h3) ho (by simpa [mets, metsAll, Nat.add_assoc] using hl) (by simp)
 | .meas _ _ m _, _ => fun P N w v lv ms hP hN hn ho hl => by
  unfold IsNode at hn
  obtain ⟨b, pv, rfl, -, hb, -⟩ := hn
  exact ref_metrics_meas hb hN ho (by omega)
 | .probe _ _ ts, hf => fun P N w v lv ms hP hN hn ho hl => by
  unfold Fine at hf
  unfold IsNode at hn
  obtain ⟨vs, hn, hts⟩ := hn
  have h1 := ref_metrics_all ts hf.2
  simpa [mets] using ref_metrics_parts (by decide) hP hN hn hts h1 ho (by simpa [mets] using hl) (by rw [← isNodes_length hts]; exact hf.1)
theorem ref_metrics_all : ∀ ts, FineAll ts → ∀ t ∈ ts, MCon t
 | [], _ => fun t ht => by cases ht
 | t0 :: ts, hf => fun t ht => by
  unfold FineAll at hf
  have h1 := ref_metrics t0 hf.1
  have h2 := ref_metrics_all ts hf.2
  rcases List.mem_cons.1 ht with rfl | h
  ·exact h1
  ·exact h2 t h
end
end Go.Proofs.YtbokdbaagacnlaaGreatDoor
