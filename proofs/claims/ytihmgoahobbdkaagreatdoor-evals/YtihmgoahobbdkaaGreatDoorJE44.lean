/-
  A PROBE WITH ITS ARGUMENTS, WALKED, with so many asks to spend.
-/
import Derived.Test.YtihmgoahobbdkaaGreatDoorJE43
import Derived.Test.YtihmgoahobbdkaaGreatDoorJE28
import Derived.Test.YtihmgoahobbdkaaGreatDoorJE29
import Derived.Test.YtihmgoahobbdkaaGreatDoorJE33
namespace Go.Proofs.YtihmgoahobbdkaaGreatDoor
open Go.RowKit Go.Lib

section
variable {σ : Type} {A : Nat → Addr} {SF : Nat → σ → World → Prop} {R : Nat} {lv mv : Value} {w0 : World}
/-- One more. -/
theorem PA.pushF {N : Nat} {S S2 : σ → World → Prop} (hS : ∀ s w w', S2 s w → Below N w w' → S2 s w') {ms : List (σ → Res × σ)} {s si s1 : σ} {w wr w1 : World} {ba n i : Nat} {xs : List Int} {x : Int} (h : PA S R lv mv ms s w ba n wr i xs si) (hR : R < w.heap.size) (hN : N ≤ w.heap.size) (hba : w.heap.size + 1 < ba) (hi : i < n) {m : σ → Res × σ} (hm : ms[i]? = some m) (he : m si = (.val x, s1)) (hx : In64 x) (hk : Keep R wr w1) (hs : S2 s1 w1) :
    PA S2 R lv mv ms s w ba n (w1.setCell ⟨w.heap.size + 1, i, none⟩ (.int .i64 x)) (i + 1) (xs ++ [x]) s1 := by
  obtain ⟨l1, l2, l3⟩ := h.lt
  have hrow : w1.heap[w.heap.size + 1]? = _ := (hk.block _ l2 (by omega)).trans h.row
  refine ⟨(h.keep.trans hk).setNew (by show w.heap.size ≤ w.heap.size + 1; omega) _, ?_, ?_, ?_, by simp [h.len], ?_, ?_, ?_⟩
  · exact heap_set_other ((hk.block _ l1 (by omega)).trans h.box) (by show w.heap.size ≠ w.heap.size + 1; omega)
  · exact heap_set_other ((hk.block _ l3 (by omega)).trans h.var) (by show ba ≠ w.heap.size + 1; omega)
  · rw [heap_set_same hrow]
    congr 2
    apply Array.ext'
    have hl : (ints xs).length = i := by simp [ints, h.len]
    rw [Array.toList_setIfInBounds]
    simp only [ints, List.map_append, List.map_cons, List.map_nil, List.append_assoc]
    rw [List.set_append_right _ _ (by simp [h.len])]
    congr 1
    rw [show n - i = (n - (i + 1)) + 1 by omega, List.replicate_succ]
    simp [h.len]
  · intro y hy
    rcases List.mem_append.1 hy with hy | hy
    · exact h.i64 y hy
    · simp at hy; subst hy; exact hx
  · exact hS _ _ _ hs ⟨rfl, rfl, rfl, by simp, fun k lt => Below.heap_setCell _ _ _ k (by show k ≠ w.heap.size + 1; omega)⟩
  · intro k
    rw [h.eq k]
    have : ms.drop i = m :: ms.drop (i + 1) := by
      rw [List.drop_eq_getElem_cons (List.getElem?_eq_some_iff.1 hm).1]
      congr 1
      exact (List.getElem?_eq_some_iff.1 hm).2
    rw [this]
    show onVal m _ si = _
    rw [onVal_val he]
    simp
set_option maxRecDepth 1000000 in
set_option maxHeartbeats 2000000 in
theorem runsF_probe {N : Nat} (hS : Fuel N SF) (hR : R < w0.heap.size) (hN : N ≤ w0.heap.size) {p b1 b2 b3 g : Nat} {name : ByteArray} {G : ByteArray → Option Value} {fv : Value} {probe : List Int → σ → PFound × σ} {pv : Value} {vs : List Value} {ms : List (σ → Res × σ)} {cs : List Nat}
    (hp : ProbeF SF R N fv probe) (hm : MapF w0 g G) (hgR : g ≠ R) (hG : G name = some fv) (h1 : One w0 b1 pv 305) (h2 : One w0 b2 (.int .i64 (p : Int)) 112) (h3 : One w0 b3 (.string name) 9) (n1 : b1 ≠ R) (n2 : b2 ≠ R) (n3 : b3 ≠ R)
    (ho : w0.ownsRow 0 140 1 pv vs.length vs) (hoR : ∀ k, pv.ownBlock = some k → k ≠ R) (hlen : ms.length = vs.length) (h900 : vs.length ≤ 900) (hlc : cs.length = vs.length) (hall : ∀ (i : Nat) (v : Value) (m : σ → Res × σ) (c : Nat), vs[i]? = some v → ms[i]? = some m → cs[i]? = some c → RunsF A SF c R lv (.map (some g)) v m w0) :
    RunsF A SF (cs.sum + 1) R lv (.map (some g)) (.func (.func 183) #[] #[ptr b1, ptr b2, ptr b3]) (onAll ms fun xs s => probed p (probe xs s)) w0 := by
  obtain ⟨i1, hi1, hy0, hy1, hy2⟩ := info_parts Tryz.infoI64h
  refine ⟨_, _, rfl, fun args w => by rfl, fun kf s w hk hs => ?_⟩
  have hmf : ∀ (fn : Fn) (first cap : Array Value) (w : World), (Instr.makeFunc fn first cap).run Tryz.prog w = .ok (.func fn first cap) w := fun _ _ _ _ => rfl
  obtain ⟨ao, cp, rfl⟩ := owns_len ho
  have how : w.ownsRow 0 140 1 (.slice ao vs.length cp) vs.length vs := owns_block2 ho fun k q => hk.block k (ho.lt _ q).2 (hoR k q)
  have HO : Hid (w.ownsRow 0 140 1 (.slice ao vs.length cp) vs.length vs) := how
  have HH : Hid _ := And.intro (hk.heap h2 n2) (And.intro (hk.heap h3 n3) (And.intro hk hall))
  have c1 : w.cell? ⟨b1, 0, none⟩ = some (.slice ao vs.length cp) := cell_of_heap (hk.heap h1 n1) rfl
  have l1 := heap_lt (hk.heap h1 n1)
  have lw : w0.heap.size ≤ w.heap.size := hk.size
  have HB1 : Hid _ := hk.heap h1 n1
  have HMAP : Hid (MapF w g G) := hm.block (hk.block _ hm.lt hgR)
  have HP : Hid _ := And.intro hp hG
  have HS : Hid (Fuel N SF) := hS
  have HLC : Hid (cs.length = vs.length) := hlc
  have HLEN : Hid (ms.length = vs.length) := hlen
  have HS0 : Hid (SF (kf + 1 + cs.sum) s w) := by rw [show kf + 1 + cs.sum = kf + (cs.sum + 1) by omega]; exact hs
  clear hs hS hk ho how h1 h2 h3 hall hp hm hG hlen hlc
  generalize hn : vs.length = n at *
  have HNV : Hid (vs.length = n) := hn
  clear hn
  go_enter Tryz.func183, Tryz.ntmps183
  go_wp2_with (first
      | (at_make; refine wpList_make_full _ rfl _ _ 47 rfl w.heap.size 2 i1 (.int .i64 0) 1 Tryz.underlying47 hi1 hy0 hy1 _ _ _ _ n rfl rfl rfl rfl (by rw [hy2]; omega) (by unfold maxLen; omega) (by simp) ?_; intro w2 hown hgrow; have Q : Hid _ := And.intro hown hgrow; have d1 : w2.cell? ⟨b1, 0, none⟩ = some (.slice ao n cp) := cell_of_heap ((hgrow.block _ (by simp; omega) (by simp)).trans (heap_alloc_old HB1.out)) rfl; have l2 : w.heap.size + 1 ≤ w2.heap.size := (by have := hgrow.size; simp at this; omega); have l3 : b1 < w2.heap.size := (by omega); clear hown hgrow)
      | fail)
  have hg1 : w.heap.size + 1 < w2.heap.size := by have := (Q.out.1.lt _ rfl).2; simpa using this
  have hbx : Below w.heap.size w w2 := ⟨Q.out.2.os, Q.out.2.tape, Q.out.2.output, by omega, fun k lt => (Q.out.2.block k (by simp; omega) (by simp)).trans (Below.heap_alloc _ _ k lt)⟩
  have hb3 : Below w.heap.size w (w2.alloc (.cells #[.slice (some ⟨w.heap.size + 1, 0, none⟩) n n] 47)) := hbx.alloc hbx.size _
  have hPA : PA (SF (kf + 1 + (cs.drop 0).sum)) R lv (.map (some g)) ms s w w2.heap.size n (w2.alloc (.cells #[.slice (some ⟨w.heap.size + 1, 0, none⟩) n n] 47)) 0 [] s := by
    refine ⟨.of_below hb3, heap_alloc_old ((Q.out.2.block _ (by simp) (by simp)).trans (heap_alloc_new _ _)), heap_alloc_new _ _, heap_alloc_old ?_, rfl, by simp, HS.out.stable _ _ _ _ HS0.out hb3, fun k => by simp⟩
    rcases Q.out.1.2 with ⟨q, -⟩ | ⟨g2, cap, cur, q1, -, q3, -, -, q6, q7⟩
    · cases q
    · injection q1 with q1 q1b q1c
      injection q1 with q1
      injection q1 with q1
      simp at q1
      subst q1 q1c
      rw [q3]
      congr 2
      apply Array.ext'
      rw [Nat.mul_one] at q6 q7
      rw [List.take_of_length_le (by simp; omega)] at q7
      rw [q7, show (Value.int .i64 0).cells = #[.int .i64 0] from rfl, toList_madeCells_one]
      simp [ints]
  have HPL : Hid _ := hPA
  clear hPA hbx hb3 Q
  go_loopw [17] (fun v17 wr => ∃ (i : Nat) (xs : List Int) (si : σ), v17 = .int .i64 i ∧ i ≤ n ∧ Hid (PA (SF (kf + 1 + (cs.drop i).sum)) R lv (.map (some g)) ms s w w2.heap.size n wr i xs si)) (fun v17 _ => n - (intOf v17).toNat)
  case atStart => exact ⟨0, [], s, rfl, Nat.zero_le _, HPL.out⟩
  case round =>
    obtain ⟨i, xs, si, rfl, hi9, HI⟩ := hrel
    rcases Nat.lt_or_ge i n with hlt | hge
    · obtain ⟨vi, hvi⟩ : ∃ v, vs[i]? = some v := ⟨vs[i]'(by have := HNV.out; omega), List.getElem?_eq_getElem _⟩
      obtain ⟨m, hmi⟩ : ∃ m, ms[i]? = some m := ⟨ms[i]'(by have := HLEN.out; omega), List.getElem?_eq_getElem _⟩
      obtain ⟨c, hci⟩ : ∃ c, cs[i]? = some c := ⟨cs[i]'(by have := HLC.out; have := HNV.out; omega), List.getElem?_eq_getElem _⟩
      have hsum : (cs.drop i).sum = c + (cs.drop (i + 1)).sum := by
        rw [List.drop_eq_getElem_cons (List.getElem?_eq_some_iff.1 hci).1, List.sum_cons, (List.getElem?_eq_some_iff.1 hci).2]
      obtain ⟨f, caps, rfl, hcf, hrun⟩ := HH.out.2.2.2 i vi m c hvi hmi hci
      have hst : SF (kf + 1 + (cs.drop (i + 1)).sum + c) si wr := by rw [show kf + 1 + (cs.drop (i + 1)).sum + c = kf + 1 + (cs.drop i).sum by omega]; exact HI.out.st
      have hrow : wr.ownsRow 0 140 1 (.slice ao n cp) n vs := owns_block2 HO.out fun k q => HI.out.keep.block k (HO.out.lt _ q).2 (hoR k q)
      obtain ⟨gp, rfl, cv⟩ := owns_at hrow hvi
      have hlt2 : (i : Int) < n := by omega
      have d0 : wr.cell? ⟨w.heap.size, 0, none⟩ = some lv := cell_of_heap HI.out.box rfl
      have d1' : wr.cell? ⟨w.heap.size, 1, none⟩ = some (.map (some g)) := cell_of_heap HI.out.box rfl
      have hc := hrun (kf + 1 + (cs.drop (i + 1)).sum) si wr (HH.out.2.2.1.trans HI.out.keep) hst
      have hcf' := hcf #[.agg #[lv, .map (some g)]]
      have HMI : Hid _ := hmi
      clear hrow hrun hmi hvi hcf hci hsum hst
      go_wp2_with fail
      refine hc.mono ?_
      rintro e w7 ⟨hk7, he⟩
      have K7 : Hid (Keep R wr w7) := hk7
      have hba : w.heap.size + 1 < w2.heap.size := hg1
      have V7 : Hid (One w7 w2.heap.size (.slice (some ⟨w.heap.size + 1, 0, none⟩) n n) 47) := (hk7.block _ HI.out.lt.2.2 (by omega)).trans HI.out.var
      have W7 : Hid (w7.heap[w.heap.size + 1]? = _) := (hk7.block _ HI.out.lt.2.1 (by omega)).trans HI.out.row
      have dv : w7.cell? ⟨w2.heap.size, 0, none⟩ = some (.slice (some ⟨w.heap.size + 1, 0, none⟩) n n) := cell_of_heap V7.out rfl
      have dr : w7.cell? ⟨w.heap.size + 1, i, none⟩ = some (.int .i64 0) := cell_of_heap W7.out (by rw [List.getElem?_toArray, List.getElem?_append_right (by simp [ints, HI.out.len]), List.getElem?_replicate, if_pos (by simp [ints, HI.out.len]; omega)])
      have dz : w7.frozen? ⟨w.heap.size + 1, i, none⟩ = false := frozen_of_heap W7.out
      clear hc hk7
      generalize hM : m si = r at he
      have HM : Hid _ := hM
      clear hM
      obtain ⟨r, s1⟩ := r
      cases r with
      | held q y =>
        obtain ⟨b, T, z, rfl, he⟩ := he
        have H3 : Hid _ := he
        clear he
        go_wp2
        go_ret2
        refine ⟨HI.out.keep.trans K7.out, ?_⟩
        rw [HI.out.held HMI.out HM.out]
        refine ⟨b, T, z, rfl, H3.out.1, H3.out.2.1, HS.out.lessBy (1 + (cs.drop (i + 1)).sum) _ _ _ ?_⟩
        rw [← Nat.add_assoc]
        exact H3.out.2.2
      | val x =>
        obtain ⟨rfl, he⟩ := he
        have H3 : Hid _ := he
        clear he
        go_wp2
        go_roundw
        case rel => exact ⟨i + 1, xs ++ [x], s1, by go_num, by omega, HI.out.pushF (HS.out.same _) (by omega) (by omega) hg1 hlt HMI.out HM.out H3.out.1 K7.out H3.out.2⟩
        case measure => simp [intOf]; omega
    · have hge2 : ¬ (i : Int) < n := by omega
      obtain rfl : i = n := by omega
      have hl3 := HI.out.lt
      have hrow : wr.ownsRow N 2 1 (.slice (some ⟨w.heap.size + 1, 0, none⟩) xs.length i) xs.length (ints xs) := by
        refine ⟨by simp [ints], .inr ⟨w.heap.size + 1, i, (ints xs).toArray, rfl, by omega, ?_, by rw [HI.out.len]; exact Nat.le_refl _, by unfold maxLen; omega, by simp [ints, HI.out.len], by simp [ints, List.take_of_length_le]⟩⟩
        have := HI.out.row
        rw [Nat.sub_self] at this
        simpa using this
      rw [HI.out.len] at hrow
      have hvar : One wr w2.heap.size (.slice (some ⟨w.heap.size + 1, 0, none⟩) i i) 47 := HI.out.var
      have q2 := HI.out.keep.heap HH.out.1 n2
      have q3 := HI.out.keep.heap HH.out.2.1 n3
      have hst : SF (kf + 1) si wr := by
        have := HI.out.st
        rw [List.drop_eq_nil_of_le (by have := HLC.out; have := HNV.out; omega)] at this
        exact this
      have hmw : MapF wr g G := HMAP.out.block (HI.out.keep.block _ HMAP.out.lt hgR)
      have hask := code_ask (X := fun k => k = R ∨ (Value.slice (some ⟨w.heap.size + 1, 0, none⟩) i i).ownBlock = some k) (F := 184) (p := p) (caps := #[ptr w.heap.size, ptr b3, ptr w2.heap.size]) (w := wr)
        (Q := fun a w1 => AnsP (probe xs si).1 a ∧ SF kf (probe xs si).2 w1) (fun k q => by
          rcases q with q | q
          · omega
          · injection q with q
            have q : w.heap.size + 1 = k := q
            omega) (fun _ => by rfl) (fun W hW => codeF_probes (lv := lv) HP.out.1 (HS.out.stable _ _ _ _ hst hW) ((hW.block _ hl3.1).trans HI.out.box) (hmw.block (hW.block _ hmw.lt)) HP.out.2 ((hW.block _ (heap_lt q3)).trans q3) ((hW.block _ hl3.2.2).trans hvar) HI.out.i64 (by rw [HI.out.len]; omega) (by rw [HI.out.len]; exact owns_block2 hrow fun k q => hW.block k (hrow.lt _ q).2))
      have c2 : wr.cell? ⟨b2, 0, none⟩ = some (.int .i64 (p : Int)) := cell_of_heap q2 rfl
      clear hrow hvar q2 q3 hmw hst
      go_wp2_with fail
      refine hask.mono ?_
      rintro e w' ⟨a, w1, ⟨hq1, hq2⟩, hk1, hb2, ha⟩
      have K2 : Hid (Keep R w w') := by
        have l1 := hk1.size
        have l2 := hb2.size
        have l4 := HI.out.keep.size
        exact ⟨hb2.os.trans (hk1.os.trans HI.out.keep.os), hb2.tape.trans (hk1.tape.trans HI.out.keep.tape), hb2.output.trans (hk1.output.trans HI.out.keep.output), by omega, fun k lt ne => (hb2.block k (by omega) (by omega) (by omega)).trans ((hk1.block k (by omega) (fun q => by
          rcases q with q | q
          · exact ne q
          · injection q with q
            have q : w.heap.size + 1 = k := q
            omega)).trans (HI.out.keep.block k lt ne))⟩
      have S2 : Hid (SF kf (probe xs si).2 w') := by
        have l2 := hb2.size
        exact HS.out.same _ _ _ _ hq2 ⟨hb2.os, hb2.tape, hb2.output, l2, fun k lt => hb2.block k (by have := HS.out.base _ _ _ hq2; omega) (by omega) (by omega)⟩
      have EQ : Hid (onAll ms (fun xs s => probed p (probe xs s)) s = probed p (probe xs si)) := by
        have := HI.out.eq fun xs s => probed p (probe xs s)
        rw [List.drop_eq_nil_of_le (by have := HLEN.out; omega)] at this
        simp [onAll] at this
        exact this
      generalize hM : probe xs si = r at hq1 S2 EQ
      clear hask hk1 hb2 hq2 hM
      obtain ⟨r, s1⟩ := r
      cases r with
      | val x =>
        obtain ⟨rfl, hx⟩ := hq1
        have ha : e = _ := ha
        subst ha
        have H3 : Hid _ := hx
        clear hx
        go_wp2
        go_ret2
        refine ⟨K2.out, ?_⟩
        rw [EQ.out]
        exact ⟨rfl, H3.out, S2.out⟩
      | fail =>
        obtain ⟨m, x, rfl⟩ := hq1
        obtain ⟨b, rfl, hh⟩ := ha
        have H3 : Hid _ := hh
        clear hh
        go_wp2
        go_ret2
        refine ⟨K2.out, ?_⟩
        rw [EQ.out]
        exact ⟨b, _, _, rfl, H3.out, ⟨rfl, _, rfl⟩, S2.out⟩
      | pan x =>
        have hq1 : a = .pan 2 (.int .i64 x) := hq1
        subst hq1
        obtain ⟨b, c, rfl, hh, ho⟩ := ha
        have H3 : Hid _ := And.intro hh ho
        clear hh ho
        go_wp2
        go_ret2
        refine ⟨K2.out, ?_⟩
        rw [EQ.out]
        exact ⟨b, _, _, rfl, H3.out.1, ⟨rfl, c, rfl, H3.out.2⟩, S2.out⟩
end
end Go.Proofs.YtihmgoahobbdkaaGreatDoor
namespace Go.Proofs.YtihmgoahobbdkaaGreatDoor
open Go.RowKit Go.Lib

mutual
/-- How many asks a tree can spend. -/
def cost : Tree → Nat
  | .num _ _ => 0
  | .neg _ a => cost a
  | .bin _ _ a b => cost a + cost b
  | .ite _ a b c => cost a + (cost b + cost c)
  | .meas _ _ _ _ => 1
  | .probe _ _ ts => (costs ts).sum + 1
def costs : List Tree → List Nat
  | [] => []
  | t :: ts => cost t :: costs ts
end
theorem costs_length : ∀ ts, (costs ts).length = ts.length
  | [] => by simp [costs]
  | _ :: ts => by simp [costs, costs_length ts]
section
variable {σ : Type} {A : Nat → Addr} {SF : Nat → σ → World → Prop} {R N : Nat} {lv : Value} {w0 : World} {g : Nat} {G : ByteArray → Option Value} {E : Env σ}
/-- What is handed in does what is told of it. -/
structure EnvF (A : Nat → Addr) (SF : Nat → σ → World → Prop) (R N : Nat) (lv : Value) (E : Env σ) (w0 : World) (g : Nat) (G : ByteArray → Option Value) : Prop where
  stable : Fuel N SF
  sents : ∀ k s w, SF k s w → Sents A w
  room : R < w0.heap.size
  base : N ≤ w0.heap.size
  map : MapF w0 g G
  mapR : g ≠ R
  look : match E.look with
    | none => lv = .nilFunc
    | some l => LookF SF R lv l
mutual
theorem runsF_tree (hE : EnvF A SF R N lv E w0 g G) : ∀ (t : Tree) (v : Value), Fit t → VNode (fun b => b ≠ R) w0 t v → (∀ q ∈ asks t, ∃ fv, G q.2 = some fv ∧ ProbeF SF R N fv (E.probe q.2)) → RunsF A SF (cost t) R lv (.map (some g)) v (ev E t) w0
  | .num p n, v, hf, hv, _ => by
    unfold VNode at hv
    unfold Fit at hf
    obtain ⟨b, rfl, h2, h3⟩ := hv
    simp only [cost, ev]
    exact runsF_num hE.stable (by unfold In64; omega) h3 h2
  | .neg p a, v, hf, hv, hq => by
    unfold VNode at hv
    unfold Fit at hf
    obtain ⟨b, va, rfl, h2, h3, h4⟩ := hv
    simp only [cost, ev]
    exact runsF_neg hE.stable (runsF_tree hE a va hf h4 (by simpa [asks] using hq)) h3 h2
  | .bin k p a c, v, hf, hv, hq => by
    unfold VNode at hv
    unfold Fit at hf
    obtain ⟨b1, b2, b3, va, vc, rfl, ⟨p1, p2, p3⟩, h2, h3, h4, h5, h6⟩ := hv
    have ra := runsF_tree hE a va hf.2.2.1 h5 (fun q hm => hq q (by simp [asks, hm]))
    have rc := runsF_tree hE c vc hf.2.2.2 h6 (fun q hm => hq q (by simp [asks, hm]))
    by_cases hk : k = 47
    · subst hk
      simp only [cost, ev, if_true] at h4 ⊢
      exact runsF_quotient hE.stable hE.sents hE.room ra rc h2 h3 h4 p1 p2 p3
    · simp only [cost, ev, if_neg hk] at h4 ⊢
      exact runsF_pair hE.stable hE.room (isReck_cases (hf.1.resolve_right hk)) ra rc h2 h3 h4 p1 p2 p3
  | .ite p a c d, v, hf, hv, hq => by
    unfold VNode at hv
    unfold Fit at hf
    obtain ⟨b1, b2, b3, va, vc, vd, rfl, ⟨p1, p2, p3⟩, h2, h3, h4, h5, h6, h7⟩ := hv
    have ra := runsF_tree hE a va hf.1 h5 (fun q hm => hq q (by simp [asks, hm]))
    have rc := runsF_tree hE c vc hf.2.1 h6 (fun q hm => hq q (by simp [asks, hm]))
    have rd := runsF_tree hE d vd hf.2.2 h7 (fun q hm => hq q (by simp [asks, hm]))
    simp only [cost, ev]
    exact runsF_choice hE.stable hE.room ra (rc.more hE.stable (by omega)) (rd.more hE.stable (by omega)) h2 h3 h4 p1 p2 p3
  | .meas p wd m n, v, hf, hv, _ => by
    unfold VNode at hv
    unfold Fit at hf
    obtain ⟨b1, b2, b3, b4, rfl, ⟨p1, p2, p3, p4⟩, h2, h3, h4, h5⟩ := hv
    have hl := hE.look
    cases hlk : E.look with
    | none =>
      rw [hlk] at hl
      subst hl
      simp only [cost, ev, hlk]
      exact (runsF_measure_nil hE.stable hE.sents h2 p1).more hE.stable (Nat.zero_le _)
    | some l =>
      rw [hlk] at hl
      simp only [cost, ev, hlk]
      exact runsF_measure hE.stable hE.sents hE.room hE.base hl (by unfold In64; omega) (by omega) (by omega) h2 h3 h4 h5 p1 p2 p3 p4
  | .probe p wd ts, v, hf, hv, hq => by
    unfold VNode at hv
    unfold Fit at hf
    obtain ⟨b1, b2, b3, pv, vs, rfl, ⟨p1, p2, p3⟩, h2, h3, h4, ⟨h5, h6⟩, h7⟩ := hv
    obtain ⟨fv, hG, hP⟩ := hq (p, wd) (by simp [asks])
    have hlen := VNodes.length h7
    simp only [cost, ev]
    refine runsF_probe hE.stable hE.room hE.base hP hE.map hE.mapR hG h2 h3 h4 p1 p2 p3 h5 h6 (by rw [evAll_length, hlen]) (by omega) (by rw [costs_length, hlen]) ?_
    exact runsF_trees hE ts vs hf.2.2.2.2.2 h7 (fun q hm => hq q (by simp [asks, hm]))
theorem runsF_trees (hE : EnvF A SF R N lv E w0 g G) : ∀ (ts : List Tree) (vs : List Value), FitAll ts → VNodes (fun b => b ≠ R) w0 ts vs → (∀ q ∈ asksAll ts, ∃ fv, G q.2 = some fv ∧ ProbeF SF R N fv (E.probe q.2)) → ∀ (i : Nat) (v : Value) (m : σ → Res × σ) (c : Nat), vs[i]? = some v → (evAll E ts)[i]? = some m → (costs ts)[i]? = some c → RunsF A SF c R lv (.map (some g)) v m w0
  | [], vs, _, hv, _ => by
    unfold VNodes at hv
    subst hv
    intro i v m c h
    simp at h
  | t :: ts, vs, hf, hv, hq => by
    unfold VNodes at hv
    unfold FitAll at hf
    obtain ⟨v0, vs', rfl, h1, h2⟩ := hv
    have r0 := runsF_tree hE t v0 hf.1 h1 (fun q hm => hq q (by simp [asksAll, hm]))
    have rs := runsF_trees hE ts vs' hf.2 h2 (fun q hm => hq q (by simp [asksAll, hm]))
    intro i v m c hi hm hc
    cases i with
    | zero =>
      simp [evAll] at hi hm
      simp [costs] at hc
      subst hi hm hc
      exact r0
    | succ i => exact rs i v m c (by simpa using hi) (by simpa [evAll] using hm) (by simpa [costs] using hc)
end
end
end Go.Proofs.YtihmgoahobbdkaaGreatDoor
namespace Go.Proofs.YtihmgoahobbdkaaGreatDoor
open Go.RowKit Go.Lib

set_option maxRecDepth 1000000 in
set_option maxHeartbeats 1000000 in
theorem codeF_Eval {σ : Type} {A : Nat → Addr} {SF : Nat → σ → World → Prop} {R N kf : Nat} {lv : Value} {E : Env σ} {lo b : Nat} {w : World} {u : Tree} {ms : List ByteArray} {sp : List (ByteArray × Int)} {F : ByteArray → Option Value} (h : ProgB lo w b u ms (asks u) sp F) (hf : Fit u)
    (hst : Fuel N SF) (hsn : ∀ k s w, SF k s w → Sents A w) (hR : R < w.heap.size) (hRlo : R < lo) (hlook : match E.look with | none => lv = .nilFunc | some l => LookF SF R lv l)
    (hpr : ∀ q ∈ asks u, ∃ fv, F q.2 = some fv ∧ ProbeF SF R N fv (E.probe q.2)) {s : σ} (hs : SF (kf + cost u) s w) :
    Calls Tryz.prog 35 #[ptr b, lv] w fun e w' => Keep R w w' ∧ EvR A (SF kf) (ev E u s) w' e := by
  obtain ⟨lb, g, G, h1, ⟨⟨vv, mv, sv, av, h2, -, hvn, -, -⟩, hlb⟩, hm, hg, hG⟩ := h.blk
  have nb : b ≠ R := by have := h.lo; omega
  have nlb : lb ≠ R := by omega
  have hE : EnvF A SF R N lv E w g G := ⟨hst, hsn, hR, hst.base _ _ _ hs, hm, by omega, hlook⟩
  obtain ⟨f, caps, rfl, hcf, hrun⟩ := runsF_tree hE u vv hf (hvn.moves fun k hb => ⟨by omega, rfl⟩) (fun q hq => by
    obtain ⟨fv, a, c⟩ := hpr q hq
    exact ⟨fv, by rw [hG q hq]; exact a, c⟩)
  have hlv : FuncV lv := by
    cases hl : E.look with
    | none => rw [hl] at hlook; exact .inl hlook
    | some l =>
      rw [hl] at hlook
      obtain ⟨f2, x2, y2, e, -⟩ := hlook
      exact .inr ⟨_, _, _, e⟩
  have hc := hrun kf s w.drew (Keep.refl R w).drew (hst.stable _ _ _ _ hs (Below.refl _ _).drew)
  have hcf := hcf #[.agg #[lv, .map (some g)]]
  have c0 : w.cell? ⟨b, 0, none⟩ = some (ptr lb) := cell_of_heap h1 rfl
  have c1 : w.cell? ⟨b, 1, none⟩ = some (.map (some g)) := cell_of_heap h1 rfl
  have cv : w.cell? ⟨lb, 0, none⟩ = some (.func (.func f) #[] caps) := cell_of_heap h2 rfl
  have hem : Calls Tryz.prog 56 #[ptr b] w fun e w' => e = .returned (.bool false) ∧ w' = w := by
    clear h h1 h2 hc hcf hrun hE hpr hlook hG hvn hm hs hsn hst c1 cv
    go_enter Tryz.func56, Tryz.ntmps56
    go_wp2
    go_ret
    exact ⟨rfl, rfl⟩
  have HH : Hid _ := And.intro (And.intro h1 nb) (And.intro h2 nlb)
  clear h h1 h2 nb nlb hlb hrun hE hpr hlook hG hvn hm hs hsn hst
  rcases hlv with rfl | ⟨fl, xl, yl, rfl⟩
  all_goals
    go_enter Tryz.func35, Tryz.ntmps35
    go_wp2_with fail
    refine hem.mono ?_
    rintro e w' ⟨rfl, hw⟩
    have hw := hw.symm
    subst hw
    go_wp2_with fail
    go_region_held3 (fun w' => w'.cell? ⟨b, 0, none⟩ = some (ptr lb) ∧ w'.cell? ⟨b, 1, none⟩ = some (.map (some g)) ∧ w'.cell? ⟨lb, 0, none⟩ = some (.func (.func f) #[] caps)) (go_keep)
      (first
        | (refine hc.mono ?_; rintro e w1 ⟨hk, he⟩; obtain ⟨n1, v1, rfl⟩ := he.form; have HK : Hid _ := hk; have HE : Hid _ := he; have k0 : w1.cell? ⟨b, 0, none⟩ = some (ptr lb) := cell_of_heap (hk.heap (w := w.drew) HH.out.1.1 HH.out.1.2) rfl; have k1 : w1.cell? ⟨b, 1, none⟩ = some (.map (some g)) := cell_of_heap (hk.heap (w := w.drew) HH.out.1.1 HH.out.1.2) rfl; have k2 : w1.cell? ⟨lb, 0, none⟩ = some (.func (.func f) #[] caps) := cell_of_heap (hk.heap (w := w.drew) HH.out.2.1 HH.out.2.2) rfl; clear hk he))
    all_goals
      go_wp2
      go_ret2
      exact ⟨(Keep.refl R _).drew.trans HK.out, HE.out⟩
end Go.Proofs.YtihmgoahobbdkaaGreatDoor
namespace Go.Proofs.YtihmgoahobbdkaaGreatDoor
open Go.RowKit Go.Lib

/-- The world's block was made behind the sentinels, and they are there. -/
structure Ctx (A : Nat → Addr) (w0 w1 : World) (R : Nat) : Prop where
  sents : SentsX A w0
  below : Below w0.heap.size w0 w1
  ge : w0.heap.size ≤ R
  lt : R < w1.heap.size
theorem Ctx.under {A : Nat → Addr} {w0 w1 w : World} {R : Nat} (h : Ctx A w0 w1 R) (hk : Keep R w1 w) : Below w0.heap.size w0 w := h.below.trans (hk.below h.below.size h.ge)
theorem Ctx.at {A : Nat → Addr} {w0 w1 w : World} {R : Nat} (h : Ctx A w0 w1 R) (hk : Keep R w1 w) : SentsX A w := h.sents.below (h.under hk)
/-- What plain's world holds where so many asks are left. -/
def SP (w1 : World) (R : Nat) (av : Value) (seed : Int) (k : Nat) (tr : ByteArray) (w : World) : Prop := Keep R w1 w ∧ WorldP w R seed tr av false ∧ tr.size + 1000 * k ≤ 1000000000
/-- The same within a measurement. -/
def SI (w1 : World) (R : Nat) (av : Value) (seed : Int) (tr : ByteArray) (_ : Unit) (w : World) : Prop := Keep R w1 w ∧ WorldP w R seed tr av true ∧ tr.size ≤ 1000000000
theorem SP.fuel {w1 : World} {R : Nat} (av : Value) (seed : Int) (hR : R < w1.heap.size) : Fuel w1.heap.size (SP w1 R av seed) where
  base := fun _ _ _ h => h.1.size
  same := fun _ _ _ _ h hb => ⟨⟨hb.os.trans h.1.os, hb.tape.trans h.1.tape, hb.output.trans h.1.output, Nat.le_trans h.1.size hb.size, fun k lt ne => (hb.block k lt).trans (h.1.block k lt ne)⟩, (hb.block R hR).trans h.2.1, h.2.2⟩
  less := fun _ _ _ h => ⟨h.1, h.2.1, by have := h.2.2; omega⟩
theorem SI.stable {w1 : World} {R : Nat} (av : Value) (seed : Int) (tr : ByteArray) (hR : R < w1.heap.size) : StableN w1.heap.size (SI w1 R av seed tr) :=
  ⟨fun _ _ h => h.1.size, fun _ _ _ h hb => ⟨⟨hb.os.trans h.1.os, hb.tape.trans h.1.tape, hb.output.trans h.1.output, Nat.le_trans h.1.size hb.size, fun k lt ne => (hb.block k lt).trans (h.1.block k lt ne)⟩, (hb.block R hR).trans h.2.1, h.2.2⟩⟩
theorem keep_row {w1 w w' : World} {R : Nat} {v : Value} {n : Nat} {xs : List Value} (hk : Keep R w1 w) (ho : w.ownsRow w1.heap.size 2 1 v n xs) (h : KeepX (fun k => k = R ∨ v.ownBlock = some k) w w') : Keep R w1 w' :=
  ⟨h.os.trans hk.os, h.tape.trans hk.tape, h.output.trans hk.output, Nat.le_trans hk.size h.size, fun k lt ne => (h.block k (Nat.lt_of_lt_of_le lt hk.size) (fun q => by
    rcases q with q | q
    · exact ne q
    · have := (ho.lt _ q).1
      omega)).trans (hk.block k lt ne)⟩
section
variable {w1 : World} {R b1 b2 : Nat} {av : Value} {seed : Int} {nm : ByteArray}
set_option maxRecDepth 1000000 in
theorem probe_outside (h1 : One w1 b1 (ptr R) 87) (h2 : One w1 b2 (.string nm) 9) (n1 : b1 ≠ R) (n2 : b2 ≠ R) (hR : R < w1.heap.size) (hn : nm.size ≤ 300) :
    ProbeF (SP w1 R av seed) R w1.heap.size (.func (.func 77) #[] #[ptr b1, ptr b2]) (fun xs tr => (pfoundOf (asked nm xs), trProbe tr nm)) := by
  refine ⟨_, _, rfl, fun args w => by rfl, fun k xs v tr w hx hl ho hs => ?_⟩
  have hz := hs.2.2
  refine (plain_probe1 hs.2.1 (hs.1.heap h1 n1) (hs.1.heap h2 n2) hx hl ho hR (by omega) hn).mono ?_
  rintro e w' ⟨h4, h5, h6⟩
  have hS : SP w1 R av seed k (trProbe tr nm) w' := ⟨keep_row hs.1 ho h4, h5, by rw [trProbe_size]; omega⟩
  refine ⟨h4, ?_⟩
  show ProbeR (SP w1 R av seed k) (pfoundOf (asked nm xs), trProbe tr nm) w' e
  have hi := asked_in nm hx hl
  have he := asked_e nm xs
  generalize asked nm xs = z at h6 hi he ⊢
  obtain ⟨a, c⟩ := z
  simp only at he hi
  rcases he with rfl | rfl | rfl
  · exact ⟨h6, hi, hS⟩
  · exact ⟨h6, hS⟩
  · exact ⟨h6, hS⟩
set_option maxRecDepth 1000000 in
theorem probe_inside {tr : ByteArray} (h1 : One w1 b1 (ptr R) 87) (h2 : One w1 b2 (.string nm) 9) (n1 : b1 ≠ R) (n2 : b2 ≠ R) (hR : R < w1.heap.size) (hn : nm.size ≤ 300) :
    ProbeOk (SI w1 R av seed tr) R w1.heap.size (.func (.func 77) #[] #[ptr b1, ptr b2]) (fun xs s => (pfoundOf (asked nm xs), s)) := by
  refine ⟨_, _, rfl, fun args w => by rfl, fun xs v s w hx hl ho hs => ?_⟩
  refine (plain_probe1 hs.2.1 (hs.1.heap h1 n1) (hs.1.heap h2 n2) hx hl ho hR hs.2.2 hn).mono ?_
  rintro e w' ⟨h4, h5, h6⟩
  have hS : SI w1 R av seed tr s w' := ⟨keep_row hs.1 ho h4, h5, hs.2.2⟩
  refine ⟨h4, ?_⟩
  show ProbeR (SI w1 R av seed tr) (pfoundOf (asked nm xs), s) w' e
  have hi := asked_in nm hx hl
  have he := asked_e nm xs
  generalize asked nm xs = z at h6 hi he ⊢
  obtain ⟨a, c⟩ := z
  simp only at he hi
  rcases he with rfl | rfl | rfl
  · exact ⟨h6, hi, hS⟩
  · exact ⟨h6, hS⟩
  · exact ⟨h6, hS⟩
end
/-- What is handed over within a measurement: nothing to measure, and probes that write nothing down. -/
def envI : Env Unit where
  look := none
  probe := fun nm xs s => (pfoundOf (asked nm xs), s)
/-- A program, or none, that a measurement evaluates in between; its probes write down in block R. -/
def Nest (w1 : World) (R : Nat) (av : Value) : Prop := av = .pointer none ∨ ∃ b lo t, av = ptr b ∧ R < lo ∧ Fit t ∧ Asks (some ⟨R, 0, none⟩) lo w1 b t
theorem names_size : (∀ t : Tree, Fit t → ∀ q ∈ asks t, q.2.size < 256) ∧ ∀ ts : List Tree, FitAll ts → ∀ q ∈ asksAll ts, q.2.size < 256 := by
  refine ⟨fun t h => go t h, fun ts h => gos ts h⟩
where
  go : ∀ t : Tree, Fit t → ∀ q ∈ asks t, q.2.size < 256
    | .num .., _, q, hq => by simp [asks] at hq
    | .neg _ a, h, q, hq => by unfold Fit at h; simp only [asks] at hq; exact go a h q hq
    | .bin _ _ a b, h, q, hq => by
      unfold Fit at h
      simp only [asks, List.mem_append] at hq
      rcases hq with hq | hq
      · exact go a h.2.2.1 q hq
      · exact go b h.2.2.2 q hq
    | .ite _ a b c, h, q, hq => by
      unfold Fit at h
      simp only [asks, List.mem_append] at hq
      rcases hq with (hq | hq) | hq
      · exact go a h.1 q hq
      · exact go b h.2.1 q hq
      · exact go c h.2.2 q hq
    | .meas .., _, q, hq => by simp [asks] at hq
    | .probe p wd ts, h, q, hq => by
      unfold Fit at h
      simp only [asks, List.mem_cons] at hq
      rcases hq with rfl | hq
      · exact h.2.2.1
      · exact gos ts h.2.2.2.2.2 q hq
  gos : ∀ ts : List Tree, FitAll ts → ∀ q ∈ asksAll ts, q.2.size < 256
    | [], _, q, hq => by simp [asksAll] at hq
    | t :: ts, h, q, hq => by
      unfold FitAll at h
      simp only [asksAll, List.mem_append] at hq
      rcases hq with hq | hq
      · exact go t h.1 q hq
      · exact gos ts h.2 q hq
/-- Evaluated in between, without measurements. -/
theorem eval_inside {A : Nat → Addr} {w0 w1 w : World} {R b lo : Nat} {av : Value} {seed : Int} {tr : ByteArray} {t : Tree} (hx : Ctx A w0 w1 R) (hlo : R < lo) (hf : Fit t) (ha : Asks (some ⟨R, 0, none⟩) lo w1 b t) (hs : SI w1 R av seed tr () w) :
    Calls Tryz.prog 35 #[ptr b, .nilFunc] w fun e w' => Keep R w w' ∧ WorldP w' R seed tr av true ∧ ∃ n v, e = .returned (.tuple #[.int .i64 n, v]) := by
  obtain ⟨lo2, F, hl2, hpb, hq⟩ := ha.prog
  have hpw : ProgB lo2 w b (bare t) (notes [] (mets t)) (asks (bare t)) (spansOf t) F := by
    rw [asks_bare]
    exact hpb.above hs.1.size fun k lo lt => hs.1.block k lt (by omega)
  have hev := code_Eval (A := A) (S := SI w1 R av seed tr) (R := R) (N := w1.heap.size) (lv := .nilFunc) (E := envI) (s := ()) (u := bare t) hpw (fit_bare t hf) (SI.stable av seed tr hx.lt) (fun _ _ h => (hx.at h.1).sents) (Nat.lt_of_lt_of_le hx.lt hs.1.size) (by omega) rfl (fun q hm => by
    rw [asks_bare] at hm
    obtain ⟨b1, b2, e, l1, l2, o1, o2⟩ := hq q hm
    exact ⟨_, e, probe_inside o1 o2 (by omega) (by omega) hx.lt (by have := names_size.1 t hf q hm; omega)⟩) hs
  refine hev.mono ?_
  rintro e w' ⟨hk, he⟩
  refine ⟨hk, ?_, he.form⟩
  generalize ev envI (bare t) () = r at he
  obtain ⟨r, u⟩ := r
  cases r with
  | val n => exact he.2.2.2.1
  | held p y => obtain ⟨_, _, _, -, -, -, h4⟩ := he; exact h4.2.1
end Go.Proofs.YtihmgoahobbdkaaGreatDoor
