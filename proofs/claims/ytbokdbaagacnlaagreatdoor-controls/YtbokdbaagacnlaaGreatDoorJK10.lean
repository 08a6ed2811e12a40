/-
 THE REFERENCE's call AT A PROBE, WALKED.
-/
import Derived.Test.YtbokdbaagacnlaaGreatDoorJK9
namespace Go.Proofs.YtbokdbaagacnlaaGreatDoor
open Go.RowKit Go.Lib
theorem Tryz.infoPtr : (Tryz.prog.info? 31).map (fun i => (i.zero, i.size, i.bytes)) = some (some (.pointer none), 1, 8) := by kernel_rfl
theorem cell_one_new (w : World) (a : Value) (t : TypeId) : ∀ j u, [a][j]? = some u → (w.alloc (.cells #[a] t)).cell? ((⟨w.heap.size, 0, none⟩ : Addr).add j) = some u := by
 intro j u hj
 match j, hj with
 | 0, hj => simp at hj; subst hj; simp [Addr.add]
 | (j + 1), hj => simp at hj
theorem owns_slice {b e n : Nat} {w : World} {pv : Value} {vs : List Value} (h : w.ownsRow b e 1 pv n vs) : ∃ ao ln cp, pv = .slice ao ln cp := by
 rcases h.2 with ⟨h1, -⟩ | ⟨g, cap, cur, h1, -⟩
 ·exact ⟨_, _, _, h1⟩
 ·exact ⟨_, _, _, h1⟩
theorem parts_of_owns {P : Nat → Prop} {b : Nat} {w : World} {pv : Value} {vs : List Value} (h : w.ownsRow b 31 1 pv vs.length vs) (hb : ∀ g, pv.ownBlock = some g → P g) : PartsAre P w pv vs := by
 rcases h.2 with ⟨h1, h2⟩ | ⟨g, cap, cur, h1, h2, h3, h4, h5, h6, h7⟩
 ·exact .inl ⟨h1, List.eq_nil_of_length_eq_zero h2⟩
 ·exact .inr ⟨g, cap, cur, h1, hb g (by rw [h1]; rfl), h3, h4, h5, by simpa using h6, by simpa using h7⟩
theorem nodes_snoc {P : Nat → Prop} {w : World} : ∀ {ts : List Tree} {vs : List Value} {t : Tree} {v : Value}, IsNodes P w ts vs → IsNode P w t v → IsNodes P w (ts ++ [t]) (vs ++ [v])
 | [], vs, t, v, h, k => by
  unfold IsNodes at h
  subst h
  simp only [List.nil_append]
  unfold IsNodes
  exact ⟨v, [], rfl, k, by unfold IsNodes; rfl⟩
 | _ :: _, vs, t, v, h, k => by
  unfold IsNodes at h
  obtain ⟨x, xs, rfl, h1, h2⟩ := h
  simp only [List.cons_append]
  unfold IsNodes
  exact ⟨x, xs ++ [v], rfl, h1, nodes_snoc h2 k⟩
section
variable {s : ByteArray} {L : List Tok} {R bl cap base : Nat}
def AP (bn : Nat) (pv : Value) : Nat → Prop := fun b => bn < b ∧ pv.ownBlock ≠ some b
structure ArgsRel (s : ByteArray) (L : List Tok) (R bl cap base I bn : Nat) (w : World) (pv : Value) (vs : List Value) (J : Nat) (b : Bool) : Prop where
 node : NodeBlk w bn 112 (pl L I) 0 (tx s L I) { data := #[] } pv
 own : w.ownsRow (bn + 1) 31 1 pv vs.length vs
 st : St s L R bl cap base w J b
 lt : J < L.length
 cnt : vs.length ≤ J
 ge : I + 2 ≤ J
 bad : b = true → D s L (.args []) (I + 2) (.bad J)
 ok : b = false → ∃ acc, IsNodes (AP bn pv) w acc vs ∧ (kd L J ≠ 44 → D s L (.args []) (I + 2) (.ok acc J)) ∧ (kd L J = 44 → ∀ o, D s L (.args acc) (J + 1) o → D s L (.args []) (I + 2) o)
theorem args_kept {bn : Nat} {w w' : World} {p : Nat} {word : ByteArray} {pv : Value} {vs : List Value} {acc : List Tree} (hk : Keep R w w') (hR : R < bn)
  (h1 : NodeBlk w bn 112 p 0 word { data := #[] } pv) (h2 : w.ownsRow (bn + 1) 31 1 pv vs.length vs) (h3 : IsNodes (AP bn pv) w acc vs) :
  NodeBlk w' bn 112 p 0 word { data := #[] } pv ∧ w'.ownsRow (bn + 1) 31 1 pv vs.length vs ∧ IsNodes (AP bn pv) w' acc vs := by
 refine ⟨hk.heap h1 (by omega), h2.kept (row := some R) ⟨hk.os, hk.tape, hk.output, hk.size, fun k hk' hne => hk.block k hk' (fun e => hne (by rw [e]))⟩ (.inr fun e => ?_), h3.moves fun b hb hs => ⟨hb, hk.block b hs (fun e => ?_)⟩⟩
 ·have := (h2.lt _ e).1
  omega
 ·have := hb.1
  omega
theorem args_push {I bn J0 lo : Nat} {w4 w5 : World} {x : Obj} {pv pv' : Value} {vs : List Value} {acc : List Tree} {o4 : Out} {p4 : Option Addr}
  (hbn : base ≤ bn) (hlo : bn < lo) (hpv : ∀ g, pv.ownBlock = some g → g < lo)
  (hA : After s L R bl cap base lo w4 o4 (.pointer p4)) (hD : D s L .choice J0 o4) (hcnt : vs.length < J0) (hge : I + 2 ≤ J0)
  (h1 : NodeBlk w4 bn 112 (pl L I) 0 (tx s L I) { data := #[] } pv) (h2 : w4.ownsRow (bn + 1) 31 1 pv vs.length vs) (h3 : IsNodes (AP bn pv) w4 acc vs)
  (hC : ∀ o, D s L (.args acc) J0 o → D s L (.args []) (I + 2) o)
  (h5 : w5.ownsRow (bn + 1) 31 1 pv' (vs.length + 1) (vs ++ [Value.pointer p4])) (hg : World.grownBy (w4.alloc x) w5 pv.ownBlock)
  (hb : pv'.ownBlock = pv.ownBlock ∨ pv'.ownBlock = some (w4.heap.size + 1)) :
  ∃ J b, ArgsRel s L R bl cap base I bn (w5.setCell ⟨bn, 5, none⟩ pv') pv' (vs ++ [Value.pointer p4]) J b ∧ (b = false → J0 < J) := by
 have hold : ∀ b, b < w4.heap.size → b ≠ bn → pv.ownBlock ≠ some b → (w5.setCell ⟨bn, 5, none⟩ pv').heap[b]? = w4.heap[b]? := by
  intro b hs hne hrow
  rw [Below.heap_setCell _ _ _ _ hne, hg.block b (by simp; omega) (fun e => hrow e.symm), Below.heap_alloc _ _ _ hs]
 have l4 := heap_lt h1
 have hn5 : NodeBlk w5 bn 112 (pl L I) 0 (tx s L I) { data := #[] } pv := by
  have : w5.heap[bn]? = w4.heap[bn]? := by
   rw [hg.block bn (by simp; omega) (fun e => by have := (h2.lt _ e.symm).1; omega), Below.heap_alloc _ _ _ l4]
  exact this.trans h1
 have hnode : NodeBlk (w5.setCell ⟨bn, 5, none⟩ pv') bn 112 (pl L I) 0 (tx s L I) { data := #[] } pv' := heap_set_same hn5
 have hown : (w5.setCell ⟨bn, 5, none⟩ pv').ownsRow (bn + 1) 31 1 pv' (vs ++ [Value.pointer p4]).length (vs ++ [Value.pointer p4]) := by
  rw [List.length_append, List.length_singleton]
  refine h5.kept (row := some bn) ⟨rfl, rfl, rfl, by simp, fun k hk hne => Below.heap_setCell _ _ _ _ (fun e => hne (by rw [e]))⟩ (.inr fun e => ?_)
  have := (h5.lt _ e).1
  omega
 have hst : ∀ {J : Nat} {b : Bool}, St s L R bl cap base w4 J b → St s L R bl cap base (w5.setCell ⟨bn, 5, none⟩ pv') J b := by
  intro J b h
  obtain ⟨cur, t1, t2⟩ := h.tk
  have hR := h.hR
  have hbl := h.hbl
  have nrow : ∀ k, k < base → pv.ownBlock ≠ some k := fun k hk e => by have := (h2.lt _ e).1; omega
  refine ⟨(hold R (heap_lt h.rd) (by omega) (nrow R hR)).trans h.rd, ⟨cur, (hold bl (heap_lt t1) (by omega) (nrow bl hbl)).trans t1, t2⟩, hR, hbl, h.ne, ?_, h.len⟩
  have := hg.size
  have := h.size
  simp at *
  omega
 have hmv : ∀ {P : Nat → Prop}, (∀ b, P b → bn < b ∧ pv.ownBlock ≠ some b) → Moves P (AP bn pv') w4 (w5.setCell ⟨bn, 5, none⟩ pv') := by
  intro P hP b hb' hs
  obtain ⟨q1, q2⟩ := hP b hb'
  refine ⟨⟨q1, fun e => ?_⟩, hold b hs (by omega) q2⟩
  rcases hb with hb | hb
  ·exact q2 (hb.symm.trans e)
  ·have := Option.some.inj (hb.symm.trans e)
   omega
 have hgr := hD.grow
 cases o4 with
 | bad J =>
  obtain ⟨a1, a2⟩ := hA
  simp only [Out.at] at hgr
  exact ⟨J, true, ⟨hnode, hown, hst a1, a2, by simp; omega, by omega, fun _ => hC _ (.arBad hD), (fun e => by cases e)⟩, (fun e => by cases e)⟩
 | ok ts J =>
  obtain ⟨a1, a2, a, rfl, a4⟩ := hA
  have hlt := read_lt hD rfl
  refine ⟨J, false, ⟨hnode, hown, hst a1, a2, by simp; omega, by omega, (fun e => by cases e), fun _ => ⟨acc ++ [a], ?_, fun hk => hC _ (.arEnd hD hk), fun hk o ho => hC _ (.arGo hD hk ho)⟩⟩, fun _ => hlt⟩
  refine nodes_snoc (h3.moves (hmv fun b hb' => hb')) (a4.moves (hmv fun b hb' => ⟨?_, fun e => ?_⟩))
  ·have : lo ≤ b := hb'
   omega
  ·have : lo ≤ b := hb'
   have := hpv b e
   omega
set_option maxRecDepth 1000000 in
set_option maxHeartbeats 4000000 in
theorem call_probe (hE : Ends L) {N : Nat} (hcho : Con s L R bl cap base 60 .choice N) {w : World} {I : Nat} (hI : I < L.length) (hN : L.length - I ≤ N + 1) (hk : kd L I = 97) (hm : isMeasure (tx s L I) = false) (hst : St s L R bl cap base w I false) :
  Calls Tryz.prog 219 #[.pointer (some ⟨R, 0, none⟩)] w fun e w' => ∃ (o : Out) (pa : Option Addr), e = .returned (.pointer pa) ∧ D s L .minus I o ∧ Keep R w w' ∧ After s L R bl cap base w.heap.size w' o (.pointer pa) := by
 obtain ⟨i0, hi, hz0, hz1, hz2⟩ := info_parts Tryz.infoPtr
 have hlen := hst.len
 have hbR := hst.hR
 have hI1 : I + 1 < L.length := hE.next hI (by omega) (by omega)
 have HE : Hid (Ends L) := hE
 have HC : Hid (Con s L R bl cap base 60 .choice N) := hcho
 have HS : Hid (St s L R bl cap base w I false) := hst
 have HA : Hid (kd L I = 97) := hk
 have HME : Hid (isMeasure (tx s L I) = false) := hm
 clear hE hst hk hcho
 go_enter Tryz.func219, Tryz.ntmps219
 go_wp2_with fail
 refine (st_take_hit HS.out hI (k := 97) HA.out).mono ?_
 rintro e w1 ⟨rfl, hs1, hk1⟩
 have HK1 : Hid (Keep R w w1) := hk1
 have HS1 : Hid (St s L R bl cap base w1 (I + 1) false) := hs1
 have l1 : R < w1.heap.size := heap_lt hs1.rd
 clear hs1 hk1
 go_wp2_with fail
 refine (st_take (HS1.out.alloc _) hI1 40).mono ?_
 rintro e w2 ⟨I2, b2, kt2, pt2, tt2, rfl, hr2, hs2, hk2⟩
 have hI2 := hr2.lt HE.out hI1 (by omega) (by omega)
 have HR2 : Hid (TakeRel s L (I + 1) false 40 I2 b2 kt2 pt2 tt2) := hr2
 have HK2 : Hid (Keep R w w2) := (HK1.out.alloc _).trans hk2
 have HS2 : Hid (St s L R bl cap base w2 I2 b2) := hs2
 have a1 : w2.cell? ⟨w1.heap.size, 1, none⟩ = some (.int .i64 (pl L I)) := hk2.cell (World.cell?_alloc_at (w := w1) _ _ _ _ rfl) (by simp; omega)
 have a2 : w2.cell? ⟨w1.heap.size, 2, none⟩ = some (.string (tx s L I)) := hk2.cell (World.cell?_alloc_at (w := w1) _ _ _ _ rfl) (by simp; omega)
 have l12 : w1.heap.size < w2.heap.size := World.block_lt_of_cell? _ _ a1
 have lR2 : R < w2.heap.size := heap_lt hs2.rd
 have hsz2 := hs2.size
 have r2 : w2.cell? ⟨R, 2, none⟩ = some (.bool b2) := cell_of_heap hs2.rd rfl
 clear hs2 hk2 hr2
 cases b2 with
 | true =>
  go_wp2_with (first | (go_at_call 233; refine (ref_measure _ _).mono ?_; rintro e w' ⟨rfl, hw⟩; subst hw))
  go_ret
  rcases HR2.out.good with ⟨-, -, h, -⟩ | ⟨k2, rfl, -⟩
  ·cases h
  ·exact ⟨.bad (I + 1), _, rfl, .caB1 HA.out k2, HK2.out.alloc _, HS2.out.alloc _, hI2⟩
 | false =>
  have HP : Hid (kd L (I + 1) = 40) := by
   rcases HR2.out.good with ⟨k2, -⟩ | ⟨-, -, h⟩
   ·exact k2
   ·cases h
  obtain rfl : I2 = I + 2 := by
   rcases HR2.out.good with ⟨-, h, -⟩ | ⟨-, -, h⟩
   ·exact h
   ·cases h
  clear HR2
  have kk := st_kind (HS2.out.alloc (.cells #[.int .u8 112, .int .i64 (pl L I), .int .i64 0, .string (tx s L I), .string { data := #[] }, .slice none 0 0] 121)) hI2
  go_wp2_with (first | (go_at_call 233; refine (ref_measure _ _).mono ?_; rintro e w' ⟨rfl, hw⟩; subst hw))
  refine kk.mono ?_
  rintro e w3 ⟨rfl, q, rfl⟩
  clear kk
  by_cases hp : kd L (I + 2) = 41
  ·have h1 : ((kd L (I + 2) : Int) != 41) = false := by simp [hp]
   have HQ : Hid (kd L (I + 2) = 41) := hp
   have hI3 := HE.out.next hI2 (by omega) (by omega)
   clear hp
   go_wp2_with fail
   refine (st_take_hit ((HS2.out.alloc _).drewN q) hI2 (k := 41) HQ.out).mono ?_
   rintro e w4 ⟨rfl, hs4, hk4⟩
   have HN4 : Hid (NodeBlk w4 w2.heap.size 112 (pl L I) 0 (tx s L I) { data := #[] } (.slice none 0 0)) := hk4.heap cells_new (by omega)
   have HK4 : Hid (Keep R w w4) := ((HK2.out.alloc _).drewN q).trans hk4
   have HS4 : Hid (St s L R bl cap base w4 (I + 2 + 1) false) := hs4
   clear hs4 hk4
   go_wp2
   go_ret
   refine ⟨.ok [.probe (pl L I) (tx s L I) []] (I + 3), _, rfl, .pbNone HA.out HP.out HME.out HQ.out, HK4.out, HS4.out, hI3, _, rfl, ?_⟩
   unfold IsNode
   exact ⟨[], ⟨w2.heap.size, _, rfl, HK2.out.size, HN4.out, .inl ⟨rfl, rfl⟩⟩, by unfold IsNodes; rfl⟩
  ·have h1 : ((kd L (I + 2) : Int) != 41) = true := by simp; omega
   have HQ : Hid (kd L (I + 2) ≠ 41) := hp
   clear hp
   go_wp2_with fail
   refine (HC.out _ (I + 2) hI2 (by omega) ((HS2.out.alloc _).drewN q)).mono ?_
   rintro e w4 ⟨o4, p4, rfl, hD4, hk4, ha4⟩
   have HD4 : Hid (D s L .choice (I + 2) o4) := hD4
   have n4 : NodeBlk w4 w2.heap.size 112 (pl L I) 0 (tx s L I) { data := #[] } (.slice none 0 0) := hk4.heap cells_new (by omega)
   have HN4 : Hid (NodeBlk w4 w2.heap.size 112 (pl L I) 0 (tx s L I) { data := #[] } (.slice none 0 0)) := n4
   have HK4 : Hid (Keep R w w4) := ((HK2.out.alloc _).drewN q).trans hk4
   have HA4 : Hid (After s L R bl cap base (w2.heap.size + 1) w4 o4 (.pointer p4)) := by simp at ha4; exact ha4
   have m4 := cell_of_heap (i := 5) n4 rfl
   have l4 := heap_lt n4
   have hs4 : base ≤ w4.heap.size := by have := hk4.size; simp at this; omega
   clear hD4 hk4 ha4 n4
   go_wp2_with (first | (at_builtin; refine wpList_append_at _ rfl _ _ 119 rfl (w2.heap.size + 1) 31 i0 (.pointer none) 1 8 Tryz.underlying119 hi hz0 hz1 hz2 rfl (by decide) (.slice none 0 0) 0 [] rfl (World.ownsRow_nil _ _ _ _) ⟨w4.heap.size, 0, none⟩ 1 1 [.pointer p4] rfl rfl (cell_one_new _ _ _) (fun x hx => by simp at hx; subst hx; rfl) (by unfold maxLen; omega) (by omega) (by simp; omega) (by decide) ?_; intro v' w5 hown hgrow hnil
                         obtain ⟨ao, ln, cp, rfl⟩ := owns_slice hown
                         have HG5 : Hid (World.grownBy (w4.alloc (.cells #[.pointer p4] 31)) w5 none) := hgrow
                         have HO5 : Hid (w5.ownsRow (w2.heap.size + 1) 31 1 (.slice ao ln cp) 1 [.pointer p4]) := hown
                         have HB5 : Hid ((Value.slice ao ln cp).ownBlock = none ∨ (Value.slice ao ln cp).ownBlock = some (w4.heap.size + 1)) := by simp at hnil; exact hnil
                         have n5 : NodeBlk w5 w2.heap.size 112 (pl L I) 0 (tx s L I) { data := #[] } (.slice none 0 0) := (HG5.out.block _ (by simp; omega) (by intro h; cases h)).trans (heap_alloc_old HN4.out)
                         have m5 := cell_of_heap (i := 5) n5 rfl
                         have f5 := frozen_of_heap (i := 5) n5
                         clear n5 hgrow hown hnil))
   obtain ⟨J1, b1, hrel1, hJ1⟩ := args_push (I := I) (bn := w2.heap.size) (J0 := I + 2) (lo := w2.heap.size + 1)
    hsz2 (by omega) (fun g hg => by cases hg) HA4.out HD4.out (by simp) (Nat.le_refl _) HN4.out (World.ownsRow_nil _ _ _ _) (acc := []) (by unfold IsNodes; rfl) (fun o ho => ho) HO5.out HG5.out HB5.out
   have HK6 : Hid (Keep R w (w5.setCell ⟨w2.heap.size, 5, none⟩ (.slice ao ln cp))) := by
    refine Keep.setNew (HK4.out.trans ?_) HK2.out.size _
    exact ⟨HG5.out.os, HG5.out.tape, HG5.out.output, by have := HG5.out.size; simp at this; omega, fun k hk _ => (HG5.out.block k (by simp; omega) (by intro h; cases h)).trans (Below.heap_alloc _ _ _ hk)⟩
   have HREL : Hid (ArgsRel s L R bl cap base I w2.heap.size (w5.setCell ⟨w2.heap.size, 5, none⟩ (.slice ao ln cp)) (.slice ao ln cp) ([] ++ [.pointer p4]) J1 b1) := hrel1
   clear hrel1 hJ1 HO5 HG5 HB5 HA4 HN4 HD4 m4 m5 f5 hs4
   go_loopw [9] (fun v wr => ∃ (ao : Option Addr) (ln cp : Nat) (vs : List Value) (J : Nat) (b : Bool), Hid (Keep R w wr) ∧ Hid (ArgsRel s L R bl cap base I w2.heap.size wr (.slice ao ln cp) vs J b)) (fun _ wr => rdLeft wr R L.length)
   case atStart => exact ⟨ao, ln, cp, _, J1, b1, HK6, HREL⟩
   case round =>
    obtain ⟨ao, ln, cp, vs, J, b, HKr, HRel⟩ := hrel
    have hJ := HRel.out.lt
    have hcn := HRel.out.cnt
    have hRb : R < w2.heap.size := lR2
    have cb : wr.cell? ⟨R, 2, none⟩ = some (.bool b) := cell_of_heap HRel.out.st.rd rfl
    have hszr : base ≤ wr.heap.size := HRel.out.st.size
    have hszw := HKr.out.size
    have lnr : w2.heap.size < wr.heap.size := heap_lt HRel.out.node
    cases b with
    | true =>
     go_wp2_with fail
     refine (st_take_bad HRel.out.st hJ 41).mono ?_
     rintro e w7 ⟨rfl, hs7, hk7⟩
     have HS7 : Hid (St s L R bl cap base w7 J true) := hs7
     have HK7 : Hid (Keep R w w7) := HKr.out.trans hk7
     clear hs7 hk7
     go_wp2
     go_ret
     exact ⟨.bad J, _, rfl, .pbBad HA.out HP.out HME.out HQ.out (HRel.out.bad rfl), HK7.out, HS7.out, hJ⟩
    | false =>
     by_cases hcm : kd L J = 44
     rotate_left 1
     ·have h44 : ((kd L J : Int) != 44) = true := by simp; omega
      have HX : Hid (kd L J ≠ 44) := hcm
      clear hcm
      go_wp2_with fail
      refine (st_kind HRel.out.st hJ).mono ?_
      rintro e w7 ⟨rfl, q7, rfl⟩
      by_cases hcl : kd L J = 41
      ·have HY : Hid (kd L J = 41) := hcl
       clear hcl
       have hJ1 := HE.out.next hJ (by have := HY.out; omega) (by have := HY.out; omega)
       go_wp2_with fail
       refine (st_take_hit (HRel.out.st.drewN q7) hJ (k := 41) HY.out).mono ?_
       rintro e w8 ⟨rfl, hs8, hk8⟩
       have HKK : Hid (Keep R wr w8) := ((Keep.refl R wr).drewN q7).trans hk8
       have HS8 : Hid (St s L R bl cap base w8 (J + 1) false) := hs8
       clear hs8 hk8
       go_wp2
       go_ret
       obtain ⟨acc, g1, g2, -⟩ := HRel.out.ok rfl
       obtain ⟨k1, k2, k3⟩ := args_kept HKK.out hRb HRel.out.node HRel.out.own g1
       refine ⟨.ok [.probe (pl L I) (tx s L I) acc] (J + 1), _, rfl, .pbGo HA.out HP.out HME.out HQ.out (g2 HX.out) HY.out, HKr.out.trans HKK.out, HS8.out, hJ1, _, rfl, ?_⟩
       unfold IsNode
       have hw2 := HK2.out.size
       refine ⟨vs, ⟨w2.heap.size, _, rfl, hw2, k1, parts_of_owns k2 fun g hg => ?_⟩, k3.moves fun b hb hs => ⟨?_, rfl⟩⟩
       ·have := (k2.lt _ hg).1
        show _ ≤ _
        omega
       ·have := hb.1
        show _ ≤ _
        omega
      ·have HY : Hid (kd L J ≠ 41) := hcl
       clear hcl
       go_wp2_with fail
       refine (st_take_miss (HRel.out.st.drewN q7) hJ (k := 41) HY.out).mono ?_
       rintro e w8 ⟨rfl, hs8, hk8⟩
       have HKK : Hid (Keep R wr w8) := ((Keep.refl R wr).drewN q7).trans hk8
       have HS8 : Hid (St s L R bl cap base w8 J true) := hs8
       clear hs8 hk8
       go_wp2
       go_ret
       obtain ⟨acc, g1, g2, -⟩ := HRel.out.ok rfl
       exact ⟨.bad J, _, rfl, .pbB1 HA.out HP.out HME.out HQ.out (g2 HX.out) HY.out, HKr.out.trans HKK.out, HS8.out, hJ⟩
     have h44 : ((kd L J : Int) != 44) = false := by simp [hcm]
     have HX : Hid (kd L J = 44) := hcm
     clear hcm
     have hJ1 := HE.out.next hJ (by have := HX.out; omega) (by have := HX.out; omega)
     go_wp2_with fail
     refine (st_kind HRel.out.st hJ).mono ?_
     rintro e w7 ⟨rfl, q7, rfl⟩
     go_wp2_with fail
     refine (st_take_hit (HRel.out.st.drewN q7) hJ (k := 44) HX.out).mono ?_
     rintro e w8 ⟨rfl, hs8, hk8⟩
     have HKK : Hid (Keep R wr w8) := ((Keep.refl R wr).drewN q7).trans hk8
     have HS8 : Hid (St s L R bl cap base w8 (J + 1) false) := hs8
     clear hs8 hk8
     have hIJ := HRel.out.ge
     go_wp2_with fail
     refine (HC.out _ (J + 1) hJ1 (by omega) HS8.out).mono ?_
     rintro e w9 ⟨o9, p9, rfl, hD9, hk9, ha9⟩
     have HD9 : Hid (D s L .choice (J + 1) o9) := hD9
     have HK9 : Hid (Keep R wr w9) := HKK.out.trans hk9
     have HA9 : Hid (After s L R bl cap base w8.heap.size w9 o9 (.pointer p9)) := ha9
     clear hD9 hk9 ha9
     obtain ⟨acc, g1, -, g3⟩ := HRel.out.ok rfl
     obtain ⟨n9, own9, nd9⟩ := args_kept HK9.out hRb HRel.out.node HRel.out.own g1
     have HN9 : Hid (NodeBlk w9 w2.heap.size 112 (pl L I) 0 (tx s L I) { data := #[] } (.slice ao ln cp)) := n9
     have HND9 : Hid (IsNodes (AP w2.heap.size (.slice ao ln cp)) w9 acc vs) := nd9
     have HG3 : Hid (kd L J = 44 → ∀ o, D s L (.args acc) (J + 1) o → D s L (.args []) (I + 2) o) := g3
     have m9 := cell_of_heap (i := 5) n9 rfl
     have l9 := heap_lt n9
     have hs9 := HK9.out.size
     have hs8 := HKK.out.size
     clear n9 nd9 g1 g3
     go_wp2_with (first | (at_builtin; refine wpList_append_at _ rfl _ _ 119 rfl (w2.heap.size + 1) 31 i0 (.pointer none) 1 8 Tryz.underlying119 hi hz0 hz1 hz2 rfl (by decide) (.slice ao ln cp) vs.length vs rfl (own9.alloc _) ⟨w9.heap.size, 0, none⟩ 1 1 [.pointer p9] rfl rfl (cell_one_new _ _ _) (fun x hx => by simp at hx; subst hx; rfl) (by unfold maxLen; omega) (by omega) (by simp; omega) (by decide) ?_; intro v' w5 hown hgrow hnil
                           obtain ⟨ao', ln', cp', rfl⟩ := owns_slice hown
                           have HG5 : Hid (World.grownBy (w9.alloc (.cells #[.pointer p9] 31)) w5 (Value.slice ao ln cp).ownBlock) := hgrow
                           have HO5 : Hid (w5.ownsRow (w2.heap.size + 1) 31 1 (.slice ao' ln' cp') (vs.length + 1) (vs ++ [.pointer p9])) := hown
                           have HB5 : Hid ((Value.slice ao' ln' cp').ownBlock = (Value.slice ao ln cp).ownBlock ∨ (Value.slice ao' ln' cp').ownBlock = some (w9.heap.size + 1)) := by simp at hnil; exact hnil
                           have n5 : NodeBlk w5 w2.heap.size 112 (pl L I) 0 (tx s L I) { data := #[] } (.slice ao ln cp) := (HG5.out.block _ (by simp; omega) (fun e => by have := (own9.lt _ e.symm).1; omega)).trans (heap_alloc_old HN9.out)
                           have m5 := cell_of_heap (i := 5) n5 rfl
                           have f5 := frozen_of_heap (i := 5) n5
                           clear n5 hgrow hown hnil))
     obtain ⟨J2, b2, hrel2, hJ2⟩ := args_push (I := I) (bn := w2.heap.size) (J0 := J + 1) (lo := w8.heap.size) hsz2 (by omega) (fun g hg => by have := (HRel.out.own.lt _ hg).2; omega) HA9.out HD9.out (by omega) (by omega) HN9.out own9 HND9.out (fun o ho => HG3.out HX.out o ho) HO5.out HG5.out HB5.out
     have hw2 := HK2.out.size
     have HK6' : Hid (Keep R w (w5.setCell ⟨w2.heap.size, 5, none⟩ (.slice ao' ln' cp'))) := by
      have hk9 := HKr.out.trans HK9.out
      have z1 := HG5.out.size
      have z2 := hk9.size
      simp at z1
      refine ⟨HG5.out.os.trans hk9.os, HG5.out.tape.trans hk9.tape, HG5.out.output.trans hk9.output, by simp; omega, fun k hk hne => ?_⟩
      rw [Below.heap_setCell _ _ _ _ (by simp; omega), HG5.out.block k (by simp; omega) (fun e => by have := (own9.lt _ e.symm).1; omega), Below.heap_alloc _ _ _ (by omega)]
      exact hk9.block k hk hne
     go_roundw
     case rel => exact ⟨ao', ln', cp', _, J2, b2, HK6', hrel2⟩
     case measure =>
      rw [rdLeft_good HRel.out.st.rd]
      cases b2 with
      | true => rw [rdLeft_bad hrel2.st.rd]; omega
      | false =>
       rw [rdLeft_good hrel2.st.rd]
       have := hJ2 rfl
       omega
theorem call_of (hE : Ends L) (hG : Good s L) {N : Nat} (hcho : Con s L R bl cap base 60 .choice N) : ConCall s L R bl cap base (N + 1) := by
 intro w I hI hN hk hst
 cases hm : isMeasure (tx s L I) with
 | true => exact call_measure hE hG hI hk hm hst
 | false => exact call_probe hE hcho hI hN hk hm hst
theorem read_all (hE : Ends L) (hG : Good s L) : ∀ N, Con s L R bl cap base 198 .minus N ∧ Con s L R bl cap base 60 .choice N
 | 0 => ⟨fun w I hI hN => absurd hI (by omega), fun w I hI hN => absurd hI (by omega)⟩
 | N + 1 => by
  obtain ⟨h1, h2⟩ := read_all hE hG N
  have hm := minus_of hE hG h1 h2 (call_of hE hG h2)
  exact ⟨hm, choice_of hE (compare_of hE (sum_of hE (product_of hE hm))) h2⟩
end
end Go.Proofs.YtbokdbaagacnlaaGreatDoor
