/-
 THE READER OF BYTES: part, WALKED.
-/
import Derived.Test.YtbokdbaagacnlaaGreatDoorJK22
namespace Go.Proofs.YtbokdbaagacnlaaGreatDoor
open Go.RowKit Go.Lib
section
variable {R : Nat}
theorem equalIn_func_nil9 {P : Program} (w : World) (d : Nat) (t : TypeId) {ps rs : Array TypeId} {v : Bool} (f : Fn) (a b : Array Value) (h : P.underlying t = some (.func ps rs v)) : (Op.equalIn (d + 1) t (.func f a b) .nilFunc).run P w = .ok false w := by
 simp [Op.equalIn, run_underlying h]
theorem neq_func_nil9 {P : Program} (w : World) (t : TypeId) {ps rs : Array TypeId} {v : Bool} (f : Fn) (a b : Array Value) (h : P.underlying t = some (.func ps rs v)) : (binOp .neq t (.func f a b) .nilFunc).run P w = .ok (.bool true) w := by
 simp only [binOp]
 simp [Op.equal, Op.maxDepth, equalIn_func_nil9 w 9999 t f a b h]
theorem equalIn_nil_nil9 {P : Program} (w : World) (d : Nat) (t : TypeId) {ps rs : Array TypeId} {v : Bool} (h : P.underlying t = some (.func ps rs v)) : (Op.equalIn (d + 1) t .nilFunc .nilFunc).run P w = .ok true w := by
 simp [Op.equalIn, run_underlying h]
theorem neq_nil_nil9 {P : Program} (w : World) (t : TypeId) {ps rs : Array TypeId} {v : Bool} (h : P.underlying t = some (.func ps rs v)) : (binOp .neq t .nilFunc .nilFunc).run P w = .ok (.bool false) w := by
 simp only [binOp]
 simp [Op.equal, Op.maxDepth, equalIn_nil_nil9 w 9999 t h]
theorem u8_eq {x c : UInt8} : ((x.toNat : Int) == (c.toNat : Int)) = decide (x = c) := by
 by_cases h : x = c
 ·subst h; simp
 ·have : x.toNat ≠ c.toNat := fun e => h (UInt8.toNat_inj.1 e)
  rw [decide_eq_false h, beq_eq_false_iff_ne]
  omega
theorem begin_wrong {r : RS} (hG : r.Good) (hF : r.Fu 0) : r.begin.wrong = true := by
 cases e : r.begin.wrong with
 | true => rfl
 | false =>
  have h := RS.begin_ok hG.1 e
  rcases hF with q | q
  ·rw [h.1] at q; cases q
  ·omega
theorem begin_fu {r : RS} {f : Nat} (hG : r.Good) (hF : r.Fu (f + 1)) : r.begin.Fu f := by
 cases e : r.begin.wrong with
 | true => exact .inl e
 | false =>
  have h := RS.begin_ok hG.1 e
  rcases hF with q | q
  ·rw [h.1] at q; cases q
  ·exact .inr (by omega)
set_option maxRecDepth 1000000 in
theorem rd_part0 : PCon R 0 := by
 intro w r h hG hF
 obtain ⟨rv, mv, sv, av, b1, b2, b3, b4⟩ := h.blk
 have c1 : w.cell? ⟨R, 1, none⟩ = some (.int .i64 r.parts) := cell_of_heap b1 rfl
 have z1 := frozen_of_heap (i := 1) b1
 have hset : RSt R (w.setCell ⟨R, 1, none⟩ (.int .i64 (wrap64 (r.parts + 1)))) { r with parts := wrap64 (r.parts + 1) } := h.change (heap_set_same (i := 1) b1) b2 b3 b4 rfl rfl rfl (by simp) (fun k _ hk => Below.heap_setCell _ _ _ _ hk)
 have K0 : Hid (KR R w (w.setCell ⟨R, 1, none⟩ (.int .i64 (wrap64 (r.parts + 1))))) := .setR _ b1 (by decide) (by decide) (by decide)
 have hrq := rd_require hset (decide (wrap64 (r.parts + 1) ≤ 200))
 have HG : Hid (r.Good) := hG
 have HF : Hid _ := hF
 have LR : Hid (R < w.heap.size) := h.lR
 clear h hG hF b1 b2 b3 b4 hset
 go_enter Tryz.func98, Tryz.ntmps98
 go_wp2_with fail
 refine hrq.mono ?_
 rintro e w1 ⟨rfl, h1, k1⟩
 have H1 : Hid (RSt R w1 r.begin) := h1
 have K1 : Hid (KR R w w1) := K0.out.trans k1
 obtain ⟨rv1, mv1, sv1, av1, b1, -⟩ := H1.out.blk
 have c2 : w1.cell? ⟨R, 2, none⟩ = some (.bool r.begin.wrong) := cell_of_heap b1 rfl
 clear hrq h1 k1 b1 c1 z1
 have hb := begin_wrong HG.out HF.out
 rw [hb] at c2
 have HB : Hid (r.begin.wrong = true) := hb
 have HM : Hid (RS.part 0 r = (.num 0 0, r.begin)) := by
  show RS.part 0 r = _
  unfold RS.part
  have e : r.begin = { r with parts := wrap64 (r.parts + 1), wrong := r.begin.wrong } := rfl
  rw [e, hb]
 clear hb
 go_wp2
 go_ret
 rw [HM.out]
 exact ⟨_, rfl, .inl rfl, H1.out, K1.out, fun q => by rw [HB.out] at q; cases q⟩
set_option maxRecDepth 1000000 in
set_option maxHeartbeats 4000000 in
theorem rd_partS {f : Nat} (hp : PCon R f) : PCon R (f + 1) := by
 intro w r h hG hF
 obtain ⟨rv, mv, sv, av, b1, b2, b3, b4⟩ := h.blk
 have c1 : w.cell? ⟨R, 1, none⟩ = some (.int .i64 r.parts) := cell_of_heap b1 rfl
 have z1 := frozen_of_heap (i := 1) b1
 have hset : RSt R (w.setCell ⟨R, 1, none⟩ (.int .i64 (wrap64 (r.parts + 1)))) { r with parts := wrap64 (r.parts + 1) } := h.change (heap_set_same (i := 1) b1) b2 b3 b4 rfl rfl rfl (by simp) (fun k _ hk => Below.heap_setCell _ _ _ _ hk)
 have K0 : Hid (KR R w (w.setCell ⟨R, 1, none⟩ (.int .i64 (wrap64 (r.parts + 1))))) := .setR _ b1 (by decide) (by decide) (by decide)
 have hrq := rd_require hset (decide (wrap64 (r.parts + 1) ≤ 200))
 have HG : Hid (r.Good) := hG
 have HF : Hid _ := hF
 have LR : Hid (R < w.heap.size) := h.lR
 clear h hG hF b1 b2 b3 b4 hset
 go_enter Tryz.func98, Tryz.ntmps98
 go_wp2_with fail
 refine hrq.mono ?_
 rintro e w1 ⟨rfl, h1, k1⟩
 have H1 : Hid (RSt R w1 r.begin) := h1
 have K1 : Hid (KR R w w1) := K0.out.trans k1
 obtain ⟨rv1, mv1, sv1, av1, b1, -⟩ := H1.out.blk
 have c2 : w1.cell? ⟨R, 2, none⟩ = some (.bool r.begin.wrong) := cell_of_heap b1 rfl
 clear hrq h1 k1 b1 c1 z1
 have HP : Hid (PCon R f) := hp
 clear hp
 cases hb : r.begin.wrong with
 | true =>
  rw [hb] at c2
  have HB : Hid (r.begin.wrong = true) := hb
  have HM : Hid (RS.part (f + 1) r = (.num 0 0, r.begin)) := by show RS.part (f + 1) r = _; rw [RS.part, if_pos hb]
  clear hb
  go_wp2
  go_ret
  rw [HM.out]
  exact ⟨_, rfl, .inl rfl, H1.out, K1.out, fun q => by rw [HB.out] at q; cases q⟩
 | false =>
  rw [hb] at c2
  have hnx := rd_next H1.out
  have HM0 : Hid (RS.part (f + 1) r = (if r.begin.next.1 = 110 then (Tree.num 0 r.begin.next.2.number.1, r.begin.next.2.number.2)
   else if r.begin.next.1 = 126 then (.neg 0 (RS.part f r.begin.next.2).1, (RS.part f r.begin.next.2).2)
   else if r.begin.next.1 = 47 then (.bin 47 r.begin.next.2.place.1 (RS.part f r.begin.next.2.place.2).1 (RS.part f (RS.part f r.begin.next.2.place.2).2).1, (RS.part f (RS.part f r.begin.next.2.place.2).2).2)
   else if r.begin.next.1 = 63 then (.ite 0 (RS.part f r.begin.next.2).1 (RS.part f (RS.part f r.begin.next.2).2).1 (RS.part f (RS.part f (RS.part f r.begin.next.2).2).2).1, (RS.part f (RS.part f (RS.part f r.begin.next.2).2).2).2)
   else if r.begin.next.1 = 109 then r.begin.next.2.measure
   else if r.begin.next.1 = 112 then r.begin.next.2.probe (RS.part f)
   else (.bin r.begin.next.1.toNat 0 (RS.part f (r.begin.next.2.require (isReck r.begin.next.1.toNat))).1 (RS.part f (RS.part f (r.begin.next.2.require (isReck r.begin.next.1.toNat))).2).1, (RS.part f (RS.part f (r.begin.next.2.require (isReck r.begin.next.1.toNat))).2).2))) := by show RS.part (f + 1) r = _; rw [RS.part, if_neg (by rw [hb]; decide)]
  have HGN : Hid (r.begin.next.2.Good) := HG.out.begin.same (.next _) (RS.mets_next _).1 (RS.mets_next _).2.1 (RS.mets_next _).2.2
  have HFN : Hid (r.begin.next.2.Fu f) := (begin_fu HG.out HF.out).step HG.out.begin.1 (.next _)
  have HRM : Hid _ := RS.begin_room HG.out hb
  have HLN : Hid (r.begin.next.2.mets.length ≤ 900 ∧ r.begin.next.2.asks.length ≤ 900 ∧ r.begin.next.2.spans.length ≤ 900) := by
   have q := HRM.out
   have e1 := (RS.mets_next r.begin).1
   have e2 := (RS.mets_next r.begin).2.1
   have e5 := (RS.mets_next r.begin).2.2
   have e3 : r.begin.mets = r.mets := rfl
   have e4 : r.begin.asks = r.asks := rfl
   have e6 : r.begin.spans = r.spans := rfl
   show _ ∧ _
   rw [e1, e2, e5, e3, e4, e6]
   omega
  have HPC : Hid (r.begin.next.2.probeC.2.Good) := by
   show RS.Good _
   have q := HRM.out
   refine RS.Good.one (r := r) HG.out.begin.1 ((((((RS.From.next _).trans (.place _)).trans (.name _)).trans (.require _ _)).trans (.asks _ _)).trans (.next _)) q.1 q.2.1 q.2.2.1 q.2.2.2.1 q.2.2.2.2 ?_ ?_ ?_
   ·unfold RS.probeC
    rw [(RS.mets_next _).1]
    simp only
    rw [(RS.mets_require _ _).1, (RS.mets_name _).1, (RS.mets_place _).1, (RS.mets_next _).1]
    exact Nat.le_succ _
   ·unfold RS.probeC
    rw [(RS.mets_next _).2.1]
    simp only
    rw [(RS.mets_require _ _).2.1, (RS.mets_name _).2.1, (RS.mets_place _).2.1, (RS.mets_next _).2.1]
    simp [RS.begin, RS.require]
   ·unfold RS.probeC
    rw [(RS.mets_next _).2.2]
    simp only
    rw [(RS.mets_require _ _).2.2, (RS.mets_name _).2.2, (RS.mets_place _).2.2, (RS.mets_next _).2.2]
    exact Nat.le_succ _
  have HPF : Hid (r.begin.next.2.probeC.2.Fu f) := HFN.out.step HGN.out.1 (((((RS.From.place _).trans (.name _)).trans (.require _ _)).trans (.asks _ _)).trans (.next _))
  clear hb HRM
  generalize r.begin.next = O at *
  go_wp2_with fail
  refine hnx.mono ?_
  rintro e w2 ⟨rfl, h2, k2⟩
  have H2 : Hid (RSt R w2 O.2) := h2
  have KWw2 : Hid (KR R w w2) := K1.out.trans k2
  clear hnx h2 k2 c2 H1 K1 K0
  by_cases h110 : O.1 = 110
  ·have hc : (O.1.toNat : Int) = 110 := by rw [h110]; rfl
   have HM : Hid (RS.part (f + 1) r = _) := HM0.out.trans (if_pos h110)
   have hnm := rd_number H2.out
   clear h110 HM0
   rw [hc]
   go_wp2_with fail
   refine hnm.mono ?_
   rintro e w3 ⟨rfl, h3, k3⟩
   have hmk := mk_num (lo := w.heap.size) h3 (KWw2.out.trans k3).size O.2.number.1
   have KWw3 : Hid (KR R w w3) := KWw2.out.trans k3
   clear hnm h3 k3 hc
   go_wp2_with fail
   refine (hmk).mono ?_
   rintro e w9 ⟨v9, rfl, hf9, h9, k9, hv9⟩
   have Q9 : Hid _ := And.intro hf9 (And.intro h9 (And.intro (KWw3.out.trans k9) hv9))
   clear hf9 h9 k9 hv9
   go_wp2
   go_ret
   rw [HM.out]
   exact ⟨_, rfl, Q9.out⟩
  have e110 : ((O.1.toNat : Int) == 110) = false := by rw [show (110 : Int) = ((110 : UInt8).toNat : Int) from rfl, u8_eq, decide_eq_false h110]
  by_cases h126 : O.1 = 126
  ·have hc : (O.1.toNat : Int) = 126 := by rw [h126]; rfl
   have HM : Hid (RS.part (f + 1) r = _) := HM0.out.trans ((if_neg h110).trans (if_pos h126))
   clear h110 h126 HM0 e110
   rw [hc]
   have hpc := HP.out w2 _ H2.out HGN.out HFN.out
   go_wp2_with fail
   refine hpc.mono ?_
   rintro e w3 ⟨v3, rfl, hf3, h3, k3, hv3⟩
   have HS3 : Hid (RSt R w3 (RS.part f O.2).2) := h3
   have KS3 : Hid (KR R w2 w3) := k3
   have HV3 : Hid (VOk R w.heap.size w3 (RS.part f O.2).2 (RS.part f O.2).1 v3) := hv3.lower KWw2.out.size
   have KWw3 : Hid (KR R w w3) := KWw2.out.trans k3
   have GS3 : Hid ((RS.part f O.2).2.Good) := RS.Good.part f _ HGN.out
   have FS3 : Hid ((RS.part f O.2).2.Fu f) := HFN.out.step HGN.out.1 (RS.From.part f _)
   have WS3 : Hid ((RS.part f O.2).2.wrong = false → (O.2 : RS).wrong = false) := fun q => ((RS.From.part f _ HGN.out.1).2 q).1
   have HFV3 : Hid (FuncV v3) := hf3
   clear hpc h3 k3 hv3 hf3
   have hmk := mk_neg (lo := w.heap.size) HS3.out KWw3.out.size HFV3.out HV3.out
   clear hc
   rcases HFV3.out with rfl | ⟨_, _, _, rfl⟩
   all_goals
    go_wp2_with fail
    refine (hmk).mono ?_
    rintro e w9 ⟨v9, rfl, hf9, h9, k9, hv9⟩
    have Q9 : Hid _ := And.intro hf9 (And.intro h9 (And.intro (KWw3.out.trans k9) hv9))
    clear hf9 h9 k9 hv9
    go_wp2
    go_ret
    rw [HM.out]
    exact ⟨_, rfl, Q9.out⟩
  have e126 : ((O.1.toNat : Int) == 126) = false := by rw [show (126 : Int) = ((126 : UInt8).toNat : Int) from rfl, u8_eq, decide_eq_false h126]
  by_cases h47 : O.1 = 47
  ·have hc : (O.1.toNat : Int) = 47 := by rw [h47]; rfl
   have HM : Hid (RS.part (f + 1) r = _) := HM0.out.trans ((if_neg h110).trans ((if_neg h126).trans (if_pos h47)))
   have hpl := rd_place H2.out
   have HGP : Hid (O.2.place.2.Good) := HGN.out.same (.place _) (RS.mets_place _).1 (RS.mets_place _).2.1 (RS.mets_place _).2.2
   have HFP : Hid (O.2.place.2.Fu f) := HFN.out.step HGN.out.1 (.place _)
   clear h110 h126 h47 HM0 e110 e126
   generalize O.2.place = P at *
   rw [hc]
   clear hc
   go_wp2_with fail
   refine hpl.mono ?_
   rintro e w3 ⟨rfl, h3, k3⟩
   have hbl : Below w3.heap.size w3 (w3.alloc (.cells #[.int .i64 (P.1 : Int)] 153)) := (Below.refl _ _).alloc (Nat.le_refl _) _
   have FRE : Hid (Free R (w3.alloc (.cells #[.int .i64 (P.1 : Int)] 153)) w3.heap.size) := h3.free_new hbl (Nat.le_refl _) (by simp)
   have HA : Hid (One (w3.alloc (.cells #[.int .i64 (P.1 : Int)] 153)) w3.heap.size (.int .i64 (P.1 : Int)) 153) := heap_alloc_new _ _
   have H3 : Hid (RSt R (w3.alloc (.cells #[.int .i64 (P.1 : Int)] 153)) P.2) := h3.later hbl
   have KWA : Hid (KR R w (w3.alloc (.cells #[.int .i64 (P.1 : Int)] 153))) := (KWw2.out.trans k3).trans (.of_below hbl h3.lR)
   have hpc := HP.out _ _ H3.out HGP.out HFP.out
   have GS4 : Hid ((RS.part f P.2).2.Good) := RS.Good.part f _ HGP.out
   have FS4 : Hid ((RS.part f P.2).2.Fu f) := HFP.out.step HGP.out.1 (RS.From.part f _)
   clear hpl h3 k3 hbl
   go_wp2_with fail
   refine hpc.mono ?_
   rintro e w4 ⟨v4, rfl, hf4, h4, k4, hv4⟩
   have H4 : Hid (RSt R w4 (RS.part f P.2).2) := h4
   have K4 : Hid (KR R (w3.alloc (.cells #[.int .i64 (P.1 : Int)] 153)) w4) := k4
   have V4 : Hid (VOk R w.heap.size w4 (RS.part f P.2).2 (RS.part f P.2).1 v4) := hv4.lower KWA.out.size
   have cA : w4.cell? ⟨w3.heap.size, 0, none⟩ = some (.int .i64 (P.1 : Int)) := cell_of_heap ((FRE.out.step k4).2.trans HA.out) rfl
   have HF4 : Hid (FuncV v4) := hf4
   clear hpc h4 k4 hv4
   rcases hf4 with rfl | ⟨f4, x4, y4, rfl⟩
   all_goals
    go_wp2_with fail
    go_region_held3 (fun w' => w'.cell? ⟨w3.heap.size, 0, none⟩ = some (.int .i64 (P.1 : Int))) (go_keep)
     (first
      | (go_at_call 98; refine (HP.out _ _ (H4.out.later (Below.refl _ _).drew) GS4.out FS4.out).mono ?_; rintro e w5 ⟨v5, rfl, hf5, h5, k5, hv5⟩; have kd5 : KR R w4 w5 := (KR.of_below (Below.refl _ _).drew H4.out.lR).trans k5; have H5 : Hid _ := h5; have K5 : Hid (KR R w4 w5) := kd5; have V5 : Hid (VOk R w.heap.size w5 (RS.part f (RS.part f P.2).2).2 (RS.part f (RS.part f P.2).2).1 v5) := hv5.lower (Nat.le_trans KWA.out.size K4.out.size); have V45 : Hid _ := V4.out.step kd5 (fun q => ((RS.From.part f _ GS4.out.1).2 q).1); have HF5 : Hid (FuncV v5) := hf5; have c5 : w5.cell? ⟨w3.heap.size, 0, none⟩ = some (.int .i64 (P.1 : Int)) := cell_of_heap ((FRE.out.step (K4.out.trans kd5)).2.trans HA.out) rfl; clear hf5 h5 k5 hv5 kd5)
      | (go_at_call 130; refine (mk_quot (lo := w.heap.size) H5.out ((KWA.out.trans K4.out).trans K5.out).size P.1 HF4.out HF5.out V45.out V5.out).mono ?_; rintro e w9 ⟨v9, rfl, hf9, h9, k9, hv9⟩; have Q9 : Hid _ := And.intro hf9 (And.intro h9 (And.intro (((KWA.out.trans K4.out).trans K5.out).trans k9) hv9)); have c9 : w9.cell? ⟨w3.heap.size, 0, none⟩ = some (.int .i64 (P.1 : Int)) := cell_of_heap ((FRE.out.step ((K4.out.trans K5.out).trans k9)).2.trans HA.out) rfl; clear hf9 h9 k9 hv9))
    go_wp2
    go_ret
    rw [HM.out]
    exact ⟨_, rfl, Q9.out⟩
  have e47 : ((O.1.toNat : Int) == 47) = false := by rw [show (47 : Int) = ((47 : UInt8).toNat : Int) from rfl, u8_eq, decide_eq_false h47]
  by_cases h63 : O.1 = 63
  ·have hc : (O.1.toNat : Int) = 63 := by rw [h63]; rfl
   have HM : Hid (RS.part (f + 1) r = _) := HM0.out.trans ((if_neg h110).trans ((if_neg h126).trans ((if_neg h47).trans (if_pos h63))))
   clear h110 h126 h47 h63 HM0 e110 e126 e47
   rw [hc]
   clear hc
   have hpc := HP.out w2 _ H2.out HGN.out HFN.out
   go_wp2_with fail
   refine hpc.mono ?_
   rintro e w3 ⟨v3, rfl, hf3, h3, k3, hv3⟩
   have HS3 : Hid (RSt R w3 (RS.part f O.2).2) := h3
   have KS3 : Hid (KR R w2 w3) := k3
   have HV3 : Hid (VOk R w.heap.size w3 (RS.part f O.2).2 (RS.part f O.2).1 v3) := hv3.lower KWw2.out.size
   have KWw3 : Hid (KR R w w3) := KWw2.out.trans k3
   have GS3 : Hid ((RS.part f O.2).2.Good) := RS.Good.part f _ HGN.out
   have FS3 : Hid ((RS.part f O.2).2.Fu f) := HFN.out.step HGN.out.1 (RS.From.part f _)
   have WS3 : Hid ((RS.part f O.2).2.wrong = false → (O.2 : RS).wrong = false) := fun q => ((RS.From.part f _ HGN.out.1).2 q).1
   have HFV3 : Hid (FuncV v3) := hf3
   clear hpc h3 k3 hv3 hf3
   have hpc := HP.out w3 _ HS3.out GS3.out FS3.out
   go_wp2_with fail
   refine hpc.mono ?_
   rintro e w4 ⟨v4, rfl, hf4, h4, k4, hv4⟩
   have HS4 : Hid (RSt R w4 (RS.part f (RS.part f O.2).2).2) := h4
   have KS4 : Hid (KR R w3 w4) := k4
   have HV4 : Hid (VOk R w.heap.size w4 (RS.part f (RS.part f O.2).2).2 (RS.part f (RS.part f O.2).2).1 v4) := hv4.lower KWw3.out.size
   have KWw4 : Hid (KR R w w4) := KWw3.out.trans k4
   have GS4 : Hid ((RS.part f (RS.part f O.2).2).2.Good) := RS.Good.part f _ GS3.out
   have FS4 : Hid ((RS.part f (RS.part f O.2).2).2.Fu f) := FS3.out.step GS3.out.1 (RS.From.part f _)
   have WS4 : Hid ((RS.part f (RS.part f O.2).2).2.wrong = false → ((RS.part f O.2).2 : RS).wrong = false) := fun q => ((RS.From.part f _ GS3.out.1).2 q).1
   have HFV4 : Hid (FuncV v4) := hf4
   clear hpc h4 k4 hv4 hf4
   have hpc := HP.out w4 _ HS4.out GS4.out FS4.out
   go_wp2_with fail
   refine hpc.mono ?_
   rintro e w5 ⟨v5, rfl, hf5, h5, k5, hv5⟩
   have HS5 : Hid (RSt R w5 (RS.part f (RS.part f (RS.part f O.2).2).2).2) := h5
   have KS5 : Hid (KR R w4 w5) := k5
   have HV5 : Hid (VOk R w.heap.size w5 (RS.part f (RS.part f (RS.part f O.2).2).2).2 (RS.part f (RS.part f (RS.part f O.2).2).2).1 v5) := hv5.lower KWw4.out.size
   have KWw5 : Hid (KR R w w5) := KWw4.out.trans k5
   have GS5 : Hid ((RS.part f (RS.part f (RS.part f O.2).2).2).2.Good) := RS.Good.part f _ GS4.out
   have FS5 : Hid ((RS.part f (RS.part f (RS.part f O.2).2).2).2.Fu f) := FS4.out.step GS4.out.1 (RS.From.part f _)
   have WS5 : Hid ((RS.part f (RS.part f (RS.part f O.2).2).2).2.wrong = false → ((RS.part f (RS.part f O.2).2).2 : RS).wrong = false) := fun q => ((RS.From.part f _ GS4.out.1).2 q).1
   have HFV5 : Hid (FuncV v5) := hf5
   clear hpc h5 k5 hv5 hf5
   have V34 : Hid (VOk R w.heap.size w4 (RS.part f (RS.part f O.2).2).2 (RS.part f O.2).1 v3) := VOk.step (r := (RS.part f O.2).2) HV3.out KS4.out WS4.out
   have V345 : Hid (VOk R w.heap.size w5 (RS.part f (RS.part f (RS.part f O.2).2).2).2 (RS.part f O.2).1 v3) := VOk.step (r := (RS.part f (RS.part f O.2).2).2) V34.out KS5.out WS5.out
   have V45 : Hid _ := HV4.out.step KS5.out WS5.out
   have hmk := mk_ite (lo := w.heap.size) HS5.out KWw5.out.size HFV3.out HFV4.out HFV5.out V345.out V45.out HV5.out
   go_wp2_with fail
   refine (hmk).mono ?_
   rintro e w9 ⟨v9, rfl, hf9, h9, k9, hv9⟩
   have Q9 : Hid _ := And.intro hf9 (And.intro h9 (And.intro (KWw5.out.trans k9) hv9))
   clear hf9 h9 k9 hv9
   go_wp2
   go_ret
   rw [HM.out]
   exact ⟨_, rfl, Q9.out⟩
  have e63 : ((O.1.toNat : Int) == 63) = false := by rw [show (63 : Int) = ((63 : UInt8).toNat : Int) from rfl, u8_eq, decide_eq_false h63]
  by_cases h109 : O.1 = 109
  ·have hc : (O.1.toNat : Int) = 109 := by rw [h109]; rfl
   have HM : Hid (RS.part (f + 1) r = _) := HM0.out.trans ((if_neg h110).trans ((if_neg h126).trans ((if_neg h47).trans ((if_neg h63).trans (if_pos h109)))))
   have hme := rd_measure H2.out HLN.out.1 HLN.out.2.2
   clear h110 h126 h47 h63 h109 HM0 e110 e126 e47 e63
   rw [hc]
   clear hc
   go_wp2_with fail
   refine hme.mono ?_
   rintro e w9 ⟨v9, rfl, hf9, h9, k9, hv9⟩
   have Q9 : Hid _ := And.intro hf9 (And.intro h9 (And.intro (KWw2.out.trans k9) (hv9.lower KWw2.out.size)))
   clear hme hf9 h9 k9 hv9
   go_wp2
   go_ret
   rw [HM.out]
   exact ⟨_, rfl, Q9.out⟩
  have e109 : ((O.1.toNat : Int) == 109) = false := by rw [show (109 : Int) = ((109 : UInt8).toNat : Int) from rfl, u8_eq, decide_eq_false h109]
  by_cases h112 : O.1 = 112
  ·have hc : (O.1.toNat : Int) = 112 := by rw [h112]; rfl
   have HM : Hid (RS.part (f + 1) r = _) := HM0.out.trans ((if_neg h110).trans ((if_neg h126).trans ((if_neg h47).trans ((if_neg h63).trans ((if_neg h109).trans (if_pos h112))))))
   have hme := rd_probe HP.out H2.out HLN.out.2.1 HPC.out HPF.out
   clear h110 h126 h47 h63 h109 h112 HM0 e110 e126 e47 e63 e109
   rw [hc]
   clear hc
   go_wp2_with fail
   refine hme.mono ?_
   rintro e w9 ⟨v9, rfl, hf9, h9, k9, hv9⟩
   have Q9 : Hid _ := And.intro hf9 (And.intro h9 (And.intro (KWw2.out.trans k9) (hv9.lower KWw2.out.size)))
   clear hme hf9 h9 k9 hv9
   go_wp2
   go_ret
   rw [HM.out]
   exact ⟨_, rfl, Q9.out⟩
  have e112 : ((O.1.toNat : Int) == 112) = false := by rw [show (112 : Int) = ((112 : UInt8).toNat : Int) from rfl, u8_eq, decide_eq_false h112]
  have HM : Hid (RS.part (f + 1) r = _) := HM0.out.trans ((if_neg h110).trans ((if_neg h126).trans ((if_neg h47).trans ((if_neg h63).trans ((if_neg h109).trans (if_neg h112))))))
  have hn47 : O.1.toNat ≠ 47 := fun e => h47 (UInt8.toNat_inj.1 e)
  have HN47 : Hid (O.1.toNat ≠ 47) := hn47
  have hrk := rd_reckonerOf O.1.toNat w2
  have hrs : FuncV (reckV O.1.toNat) ∧ ((isReck O.1.toNat = true ∧ ∃ F, reckV O.1.toNat = .func (.func F) #[] #[]) ∨ (isReck O.1.toNat = false ∧ reckV O.1.toNat = .nilFunc)) := by
   have q := reck_nil O.1.toNat
   refine ⟨?_, q⟩
   rcases q with ⟨-, F, e⟩ | ⟨-, e⟩ <;> rw [e]
   ·exact .inr ⟨_, _, _, rfl⟩
   ·exact .inl rfl
  have hrq := rd_require H2.out (isReck O.1.toNat)
  have HGQ : Hid ((O.2.require (isReck O.1.toNat)).Good) := HGN.out.same (.require _ _) rfl rfl rfl
  have HFQ : Hid ((O.2.require (isReck O.1.toNat)).Fu f) := HFN.out.step HGN.out.1 (.require _ _)
  clear h110 h126 h47 h63 h109 h112 HM0 hn47
  generalize O.1.toNat = c at *
  go_wp2_with fail
  refine hrk.mono ?_
  rintro e w' ⟨rfl, hw⟩
  have hw := hw.symm
  subst hw
  clear hrk e110 e126 e47 e63 e109 e112
  have hnq1 : ∀ (w : World) (f : Fn) (a b : Array Value), (binOp .neq 189 (.func f a b) .nilFunc).run Tryz.prog w = .ok (.bool true) w := fun w f a b => neq_func_nil9 w _ f a b Tryz.underlying189
  have hnq2 : ∀ (w : World), (binOp .neq 189 .nilFunc .nilFunc).run Tryz.prog w = .ok (.bool false) w := fun w => neq_nil_nil9 w _ Tryz.underlying189
  obtain ⟨hfr, hrs⟩ := hrs
  generalize hRK : reckV c = rk at *
  have HRK : Hid (reckV c = rk) := hRK
  clear hRK
  generalize hIR : isReck c = ir at *
  have HIR : Hid (isReck c = ir) := hIR
  clear hIR
  rcases hrs with ⟨rfl, F, rfl⟩ | ⟨rfl, rfl⟩
  ·clear hfr
   go_wp2_with fail
   refine hrq.mono ?_
   rintro e w3 ⟨rfl, h3, k3⟩
   have H3 : Hid _ := h3
   have KWw3 : Hid (KR R w w3) := KWw2.out.trans k3
   clear hrq h3 k3
   have hpc := HP.out w3 _ H3.out HGQ.out HFQ.out
   go_wp2_with fail
   refine hpc.mono ?_
   rintro e w4 ⟨v4, rfl, hf4, h4, k4, hv4⟩
   have HS4 : Hid (RSt R w4 (RS.part f (O.2.require true)).2) := h4
   have KS4 : Hid (KR R w3 w4) := k4
   have HV4 : Hid (VOk R w.heap.size w4 (RS.part f (O.2.require true)).2 (RS.part f (O.2.require true)).1 v4) := hv4.lower KWw3.out.size
   have KWw4 : Hid (KR R w w4) := KWw3.out.trans k4
   have GS4 : Hid ((RS.part f (O.2.require true)).2.Good) := RS.Good.part f _ HGQ.out
   have FS4 : Hid ((RS.part f (O.2.require true)).2.Fu f) := HFQ.out.step HGQ.out.1 (RS.From.part f _)
   have WS4 : Hid ((RS.part f (O.2.require true)).2.wrong = false → ((O.2.require true) : RS).wrong = false) := fun q => ((RS.From.part f _ HGQ.out.1).2 q).1
   have HFV4 : Hid (FuncV v4) := hf4
   clear hpc h4 k4 hv4 hf4
   have hpc := HP.out w4 _ HS4.out GS4.out FS4.out
   go_wp2_with fail
   refine hpc.mono ?_
   rintro e w5 ⟨v5, rfl, hf5, h5, k5, hv5⟩
   have HS5 : Hid (RSt R w5 (RS.part f (RS.part f (O.2.require true)).2).2) := h5
   have KS5 : Hid (KR R w4 w5) := k5
   have HV5 : Hid (VOk R w.heap.size w5 (RS.part f (RS.part f (O.2.require true)).2).2 (RS.part f (RS.part f (O.2.require true)).2).1 v5) := hv5.lower KWw4.out.size
   have KWw5 : Hid (KR R w w5) := KWw4.out.trans k5
   have GS5 : Hid ((RS.part f (RS.part f (O.2.require true)).2).2.Good) := RS.Good.part f _ GS4.out
   have FS5 : Hid ((RS.part f (RS.part f (O.2.require true)).2).2.Fu f) := FS4.out.step GS4.out.1 (RS.From.part f _)
   have WS5 : Hid ((RS.part f (RS.part f (O.2.require true)).2).2.wrong = false → ((RS.part f (O.2.require true)).2 : RS).wrong = false) := fun q => ((RS.From.part f _ GS4.out.1).2 q).1
   have HFV5 : Hid (FuncV v5) := hf5
   clear hpc h5 k5 hv5 hf5
   have V45 : Hid _ := HV4.out.step KS5.out WS5.out
   have hmk := mk_pair (lo := w.heap.size) HS5.out KWw5.out.size c HN47.out HFV4.out HFV5.out V45.out HV5.out
   rw [HRK.out] at hmk
   go_wp2_with fail
   refine (hmk).mono ?_
   rintro e w9 ⟨v9, rfl, hf9, h9, k9, hv9⟩
   have Q9 : Hid _ := And.intro hf9 (And.intro h9 (And.intro (KWw5.out.trans k9) hv9))
   clear hf9 h9 k9 hv9
   go_wp2
   go_ret
   rw [HM.out]
   exact ⟨_, rfl, Q9.out⟩
  ·clear hfr
   go_wp2_with fail
   refine hrq.mono ?_
   rintro e w3 ⟨rfl, h3, k3⟩
   have H3 : Hid _ := h3
   have KWw3 : Hid (KR R w w3) := KWw2.out.trans k3
   clear hrq h3 k3
   have hpc := HP.out w3 _ H3.out HGQ.out HFQ.out
   go_wp2_with fail
   refine hpc.mono ?_
   rintro e w4 ⟨v4, rfl, hf4, h4, k4, hv4⟩
   have HS4 : Hid (RSt R w4 (RS.part f (O.2.require false)).2) := h4
   have KS4 : Hid (KR R w3 w4) := k4
   have HV4 : Hid (VOk R w.heap.size w4 (RS.part f (O.2.require false)).2 (RS.part f (O.2.require false)).1 v4) := hv4.lower KWw3.out.size
   have KWw4 : Hid (KR R w w4) := KWw3.out.trans k4
   have GS4 : Hid ((RS.part f (O.2.require false)).2.Good) := RS.Good.part f _ HGQ.out
   have FS4 : Hid ((RS.part f (O.2.require false)).2.Fu f) := HFQ.out.step HGQ.out.1 (RS.From.part f _)
   have WS4 : Hid ((RS.part f (O.2.require false)).2.wrong = false → ((O.2.require false) : RS).wrong = false) := fun q => ((RS.From.part f _ HGQ.out.1).2 q).1
   have HFV4 : Hid (FuncV v4) := hf4
   clear hpc h4 k4 hv4 hf4
   have hpc := HP.out w4 _ HS4.out GS4.out FS4.out
   go_wp2_with fail
   refine hpc.mono ?_
   rintro e w5 ⟨v5, rfl, hf5, h5, k5, hv5⟩
   have HS5 : Hid (RSt R w5 (RS.part f (RS.part f (O.2.require false)).2).2) := h5
   have KS5 : Hid (KR R w4 w5) := k5
   have HV5 : Hid (VOk R w.heap.size w5 (RS.part f (RS.part f (O.2.require false)).2).2 (RS.part f (RS.part f (O.2.require false)).2).1 v5) := hv5.lower KWw4.out.size
   have KWw5 : Hid (KR R w w5) := KWw4.out.trans k5
   have GS5 : Hid ((RS.part f (RS.part f (O.2.require false)).2).2.Good) := RS.Good.part f _ GS4.out
   have FS5 : Hid ((RS.part f (RS.part f (O.2.require false)).2).2.Fu f) := FS4.out.step GS4.out.1 (RS.From.part f _)
   have WS5 : Hid ((RS.part f (RS.part f (O.2.require false)).2).2.wrong = false → ((RS.part f (O.2.require false)).2 : RS).wrong = false) := fun q => ((RS.From.part f _ GS4.out.1).2 q).1
   have HFV5 : Hid (FuncV v5) := hf5
   clear hpc h5 k5 hv5 hf5
   have V45 : Hid _ := HV4.out.step KS5.out WS5.out
   have hmk := mk_pair (lo := w.heap.size) HS5.out KWw5.out.size c HN47.out HFV4.out HFV5.out V45.out HV5.out
   rw [HRK.out] at hmk
   go_wp2_with fail
   refine (hmk).mono ?_
   rintro e w9 ⟨v9, rfl, hf9, h9, k9, hv9⟩
   have Q9 : Hid _ := And.intro hf9 (And.intro h9 (And.intro (KWw5.out.trans k9) hv9))
   clear hf9 h9 k9 hv9
   go_wp2
   go_ret
   rw [HM.out]
   exact ⟨_, rfl, Q9.out⟩
theorem rd_part : ∀ f, PCon R f
 | 0 => rd_part0
 | f + 1 => rd_partS (rd_part f)
end
end Go.Proofs.YtbokdbaagacnlaaGreatDoor
