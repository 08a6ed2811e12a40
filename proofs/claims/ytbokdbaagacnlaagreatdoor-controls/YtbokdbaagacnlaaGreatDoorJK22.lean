/-
 THE READER OF BYTES: its lists grow.
-/
import Derived.Test.YtbokdbaagacnlaaGreatDoorJK21
import Derived.Test.YtbokdbaagacnlaaGreatDoorJK13
import Derived.Deep.RegionHeld3
import Derived.Deep.AppendLies
import Derived.Laws.EntriesVeiled
namespace Go.Proofs.YtbokdbaagacnlaaGreatDoor
open Go.RowKit Go.Lib
theorem owns_kind2 {w : World} {base e size n : Nat} {v : Value} {xs : List Value} (h : w.ownsRow base e size v n xs) {g : Nat} (hg : v.ownBlock = some g) : ∃ c, w.heap[g]? = some (.cells c e (0, 0)) := by
 rcases h.2 with ⟨rfl, -⟩ | ⟨g2, cap, cur, rfl, -, h3, -⟩
 ·cases hg
 ·injection hg with hg
  subst hg
  exact ⟨cur, h3⟩
theorem owns_block2 {w w' : World} {base e size n : Nat} {v : Value} {xs : List Value} (h : w.ownsRow base e size v n xs) (hb : ∀ g, v.ownBlock = some g → w'.heap[g]? = w.heap[g]?) : w'.ownsRow base e size v n xs := owns_of_block h hb
theorem owns_apart {w : World} {b1 e1 s1 n1 b2 e2 s2 n2 : Nat} {v1 v2 : Value} {x1 x2 : List Value} (h1 : w.ownsRow b1 e1 s1 v1 n1 x1) (h2 : w.ownsRow b2 e2 s2 v2 n2 x2) (he : e1 ≠ e2) {g : Nat} (hg : v1.ownBlock = some g) : v2.ownBlock ≠ some g := fun hg2 => by
 obtain ⟨c1, q1⟩ := owns_kind2 h1 hg
 obtain ⟨c2, q2⟩ := owns_kind2 h2 hg2
 rw [q1] at q2
 injection q2 with q2
 injection q2 with _ q2
 exact he q2
section
variable {R : Nat} {w w5 : World} {r r' : RS}
theorem RSt.renew (h : RSt R w r) {rv mv sv av mv' sv' av' X v' : Value} {i : Nat} {o : Obj} (h1 : w.heap[R]? = some (.cells #[rv, .int .i64 r.parts, .bool r.wrong, mv, sv, av] 234 (0, 0))) (hX : X = mv ∨ X = sv ∨ X = av)
  (hg : (w.alloc o).grownBy w5 X.ownBlock) (h5 : (w5.setCell ⟨R, i, none⟩ v').heap[R]? = some (.cells #[rv, .int .i64 r'.parts, .bool r'.wrong, mv', sv', av'] 234 (0, 0)))
  (hrest : RestAt R w rv r'.rest) (hm : w5.ownsRow (R + 1) 9 1 mv' r'.mets.length (r'.mets.map Value.string)) (ha : w5.ownsRow (R + 1) 236 2 av' r'.asks.length (askCells r'.asks) ∧ w5.ownsRow (R + 1) 194 2 sv' r'.spans.length (spanCells r'.spans))
  (hm' : mv'.ownBlock = mv.ownBlock ∨ ∀ g, mv'.ownBlock = some g → w.heap.size ≤ g) (hs' : sv'.ownBlock = sv.ownBlock ∨ ∀ g, sv'.ownBlock = some g → w.heap.size ≤ g) (ha' : av'.ownBlock = av.ownBlock ∨ ∀ g, av'.ownBlock = some g → w.heap.size ≤ g) : RSt R (w5.setCell ⟨R, i, none⟩ v') r' ∧ KR R w (w5.setCell ⟨R, i, none⟩ v') := by
 have lR := heap_lt h1
 have r3 := rowAt_of h1 (k := 3) rfl
 have r4 := rowAt_of h1 (k := 4) rfl
 have r5 := rowAt_of h1 (k := 5) rfl
 have hk : KR R w (w5.setCell ⟨R, i, none⟩ v') := by
  refine ⟨hg.os, hg.tape, hg.output, by have := hg.size; simp at this ⊢; omega, fun k hk hR h3 h4 h5' => ?_, ?_, ?_, ?_⟩
  ·rw [Below.heap_setCell _ _ _ _ hR]
   refine (hg.block k (by simp; omega) fun e => ?_).trans (Below.heap_alloc _ _ _ hk)
   rcases hX with rfl | rfl | rfl
   ·rw [r3] at h3; exact h3 e.symm
   ·rw [r4] at h4; exact h4 e.symm
   ·rw [r5] at h5'; exact h5' e.symm
  ·rw [rowAt_of h5 (k := 3) rfl, r3]; exact hm'
  ·rw [rowAt_of h5 (k := 4) rfl, r4]; exact hs'
  ·rw [rowAt_of h5 (k := 5) rfl, r5]; exact ha'
 have hb := h.below_of hk
 refine ⟨⟨⟨rv, mv', sv', av', h5, hrest.below hb, owns_block2 hm fun g hg' => Below.heap_setCell _ _ _ _ (by have := (hm.lt _ hg').1; show g ≠ R; omega), owns_block2 ha.1 fun g hg' => Below.heap_setCell _ _ _ _ (by have := (ha.1.lt _ hg').1; show g ≠ R; omega), owns_block2 ha.2 fun g hg' => Below.heap_setCell _ _ _ _ (by have := (ha.2.lt _ hg').1; show g ≠ R; omega)⟩, h.tab_of hb⟩, hk⟩
theorem RSt.push3 (h : RSt R w r) {rv mv sv av v' : Value} {o : Obj} {x : ByteArray} (h1 : w.heap[R]? = some (.cells #[rv, .int .i64 r.parts, .bool r.wrong, mv, sv, av] 234 (0, 0))) (hrest : RestAt R w rv r.rest)
  (hm : w.ownsRow (R + 1) 9 1 mv r.mets.length (r.mets.map Value.string)) (ha : w.ownsRow (R + 1) 236 2 av r.asks.length (askCells r.asks) ∧ w.ownsRow (R + 1) 194 2 sv r.spans.length (spanCells r.spans))
  (hown : w5.ownsRow (R + 1) 9 1 v' (r.mets.length + 1) (r.mets.map Value.string ++ [.string x])) (hg : (w.alloc o).grownBy w5 mv.ownBlock) (hb : v'.ownBlock = mv.ownBlock ∨ v'.ownBlock = some (w.alloc o).heap.size) :
  RSt R (w5.setCell ⟨R, 3, none⟩ v') { r with mets := r.mets ++ [x] } ∧ KR R w (w5.setCell ⟨R, 3, none⟩ v') := by
 have lR := heap_lt h1
 have hR5 : w5.heap[R]? = some (.cells #[rv, .int .i64 r.parts, .bool r.wrong, mv, sv, av] 234 (0, 0)) := (hg.block R (by simp; omega) (fun e => by have := (hm.lt _ e.symm).1; omega)).trans (heap_alloc_old h1)
 refine h.renew h1 (.inl rfl) hg (heap_set_same (i := 3) hR5) hrest (by simpa using hown) ⟨?_, ?_⟩ ?_ (.inl rfl) (.inl rfl)
 ·exact owns_block2 ha.1 fun g hg' => (hg.block g (by have := (ha.1.lt _ hg').2; simp; omega) fun e => owns_apart ha.1 hm (by decide) hg' e.symm).trans (Below.heap_alloc _ _ _ (ha.1.lt _ hg').2)
 ·exact owns_block2 ha.2 fun g hg' => (hg.block g (by have := (ha.2.lt _ hg').2; simp; omega) fun e => owns_apart ha.2 hm (by decide) hg' e.symm).trans (Below.heap_alloc _ _ _ (ha.2.lt _ hg').2)
 ·rcases hb with hb | hb
  ·exact .inl hb
  ·exact .inr fun g hg' => by rw [hb] at hg'; injection hg' with hg'; simp at hg'; omega
theorem RSt.push4 (h : RSt R w r) {rv mv sv av v' : Value} {o : Obj} {p : Int} {x : ByteArray} (h1 : w.heap[R]? = some (.cells #[rv, .int .i64 r.parts, .bool r.wrong, mv, sv, av] 234 (0, 0))) (hrest : RestAt R w rv r.rest)
  (hm : w.ownsRow (R + 1) 9 1 mv r.mets.length (r.mets.map Value.string)) (ha : w.ownsRow (R + 1) 236 2 av r.asks.length (askCells r.asks) ∧ w.ownsRow (R + 1) 194 2 sv r.spans.length (spanCells r.spans))
  (hown : w5.ownsRow (R + 1) 194 2 v' (r.spans.length + 1) (spanCells r.spans ++ [.string x, .int .i64 p])) (hg : (w.alloc o).grownBy w5 sv.ownBlock) (hb : v'.ownBlock = sv.ownBlock ∨ ∀ g, v'.ownBlock = some g → w.heap.size ≤ g) :
  RSt R (w5.setCell ⟨R, 4, none⟩ v') { r with spans := r.spans ++ [(x, p)] } ∧ KR R w (w5.setCell ⟨R, 4, none⟩ v') := by
 have lR := heap_lt h1
 have hR5 : w5.heap[R]? = some (.cells #[rv, .int .i64 r.parts, .bool r.wrong, mv, sv, av] 234 (0, 0)) := (hg.block R (by simp; omega) (fun e => by have := (ha.2.lt _ e.symm).1; omega)).trans (heap_alloc_old h1)
 refine h.renew h1 (.inr (.inl rfl)) hg (heap_set_same (i := 4) hR5) hrest ?_ ⟨?_, ?_⟩ (.inl rfl) hb (.inl rfl)
 ·exact owns_block2 hm fun g hg' => (hg.block g (by have := (hm.lt _ hg').2; simp; omega) fun e => owns_apart hm ha.2 (by decide) hg' e.symm).trans (Below.heap_alloc _ _ _ (hm.lt _ hg').2)
 ·exact owns_block2 ha.1 fun g hg' => (hg.block g (by have := (ha.1.lt _ hg').2; simp; omega) fun e => owns_apart ha.1 ha.2 (by decide) hg' e.symm).trans (Below.heap_alloc _ _ _ (ha.1.lt _ hg').2)
 ·rw [spanCells_append, List.length_append]
  exact hown
theorem RSt.push5 (h : RSt R w r) {rv mv sv av v' : Value} {o : Obj} {p : Nat} {x : ByteArray} (h1 : w.heap[R]? = some (.cells #[rv, .int .i64 r.parts, .bool r.wrong, mv, sv, av] 234 (0, 0))) (hrest : RestAt R w rv r.rest)
  (hm : w.ownsRow (R + 1) 9 1 mv r.mets.length (r.mets.map Value.string)) (ha : w.ownsRow (R + 1) 236 2 av r.asks.length (askCells r.asks) ∧ w.ownsRow (R + 1) 194 2 sv r.spans.length (spanCells r.spans))
  (hown : w5.ownsRow (R + 1) 236 2 v' (r.asks.length + 1) (askCells r.asks ++ [.int .i64 (p : Int), .string x])) (hg : (w.alloc o).grownBy w5 av.ownBlock) (hb : v'.ownBlock = av.ownBlock ∨ ∀ g, v'.ownBlock = some g → w.heap.size ≤ g) :
  RSt R (w5.setCell ⟨R, 5, none⟩ v') { r with asks := r.asks ++ [(p, x)] } ∧ KR R w (w5.setCell ⟨R, 5, none⟩ v') := by
 have lR := heap_lt h1
 have hR5 : w5.heap[R]? = some (.cells #[rv, .int .i64 r.parts, .bool r.wrong, mv, sv, av] 234 (0, 0)) := (hg.block R (by simp; omega) (fun e => by have := (ha.1.lt _ e.symm).1; omega)).trans (heap_alloc_old h1)
 refine h.renew h1 (.inr (.inr rfl)) hg (heap_set_same (i := 5) hR5) hrest ?_ ⟨?_, ?_⟩ (.inl rfl) (.inl rfl) hb
 ·exact owns_block2 hm fun g hg' => (hg.block g (by have := (hm.lt _ hg').2; simp; omega) fun e => owns_apart hm ha.1 (by decide) hg' e.symm).trans (Below.heap_alloc _ _ _ (hm.lt _ hg').2)
 ·rw [askCells_append, List.length_append]
  exact hown
 ·exact owns_block2 ha.2 fun g hg' => (hg.block g (by have := (ha.2.lt _ hg').2; simp; omega) fun e => owns_apart ha.2 ha.1 (by decide) hg' e.symm).trans (Below.heap_alloc _ _ _ (ha.2.lt _ hg').2)
end
end Go.Proofs.YtbokdbaagacnlaaGreatDoor
namespace Go.Proofs.YtbokdbaagacnlaaGreatDoor
open Go.RowKit Go.Lib
theorem Tryz.infoSpan : (Tryz.prog.info? 194).map (fun i => (i.zero, i.size, i.bytes)) = some (some (.agg #[.string { data := #[] }, .int .i64 0]), 2, 24) := by kernel_rfl
theorem news_two {w : World} {k : Nat} {x y : Value} {t : TypeId} (h : w.heap[k]? = some (.cells #[x, y] t (0, 0))) : ∀ j u, [x, y][j]? = some u → w.cell? ((⟨k, 0, none⟩ : Addr).add j) = some u := by
 intro j u hu
 match j with
 | 0 =>
  simp at hu
  subst hu
  exact cell_of_heap h rfl
 | 1 =>
  simp at hu
  subst hu
  rw [show (⟨k, 0, none⟩ : Addr).add 1 = ⟨k, 1, none⟩ by unfold Addr.add; split <;> simp_all]
  exact cell_of_heap h rfl
 | j + 2 => simp at hu
theorem RSt.blk_of {R : Nat} {w : World} {r : RS} (h : RSt R w r) {rv x y mv sv av : Value} {T : TypeId} (hb : w.heap[R]? = some (.cells #[rv, x, y, mv, sv, av] T (0, 0))) : RestAt R w rv r.rest ∧ w.ownsRow (R + 1) 9 1 mv r.mets.length (r.mets.map Value.string) ∧ w.ownsRow (R + 1) 236 2 av r.asks.length (askCells r.asks) ∧ w.ownsRow (R + 1) 194 2 sv r.spans.length (spanCells r.spans) := by
 obtain ⟨rv', mv', sv', av', b1, b2, b3, b4⟩ := h.blk
 rw [hb] at b1
 injection b1 with b1
 injection b1 with b1
 injection b1 with b1
 injection b1 with e1 b1
 injection b1 with _ b1
 injection b1 with _ b1
 injection b1 with e4 b1
 injection b1 with e5 b1
 injection b1 with e6 b1
 subst e1 e4 e5 e6
 exact ⟨b2, b3, b4⟩
section
variable {R : Nat} {w : World} {r : RS}
set_option maxRecDepth 1000000 in
set_option maxHeartbeats 1000000 in
theorem rd_measure (h : RSt R w r) (hl : r.mets.length ≤ 900) (hls : r.spans.length ≤ 900) : Calls Tryz.prog 132 #[.pointer (some ⟨R, 0, none⟩)] w fun e w' => ∃ v, e = .returned v ∧ FuncV v ∧ RSt R w' r.measure.2 ∧ KR R w w' ∧ VOk R w.heap.size w' r.measure.2 r.measure.1 v := by
 obtain ⟨i0, hi, hz0, hz1, hz2⟩ := info_parts Tryz.infoStr
 obtain ⟨i1, hi1, hy0, hy1, hy2⟩ := info_parts Tryz.infoSpan
 have hpl := rd_place h
 have HM : Hid (r.measure = (.meas r.place.1 r.place.2.name.1 ((r.place.2.name.2.require (isMeasure r.place.2.name.1)).name).1 ((r.place.2.name.2.require (isMeasure r.place.2.name.1)).name).2.number.1, { ((r.place.2.name.2.require (isMeasure r.place.2.name.1)).name).2.number.2 with mets := note1 ((r.place.2.name.2.require (isMeasure r.place.2.name.1)).name).2.number.2.mets ((r.place.2.name.2.require (isMeasure r.place.2.name.1)).name).1, spans := ((r.place.2.name.2.require (isMeasure r.place.2.name.1)).name).2.number.2.spans ++ [(((r.place.2.name.2.require (isMeasure r.place.2.name.1)).name).1, ((r.place.2.name.2.require (isMeasure r.place.2.name.1)).name).2.number.1)] })) := rfl
 have hl2 : ((r.place.2.name.2.require (isMeasure r.place.2.name.1)).name).2.number.2.mets.length ≤ 900 := by rw [(RS.mets_number _).1, (RS.mets_name _).1, (RS.mets_require _ _).1, (RS.mets_name _).1, (RS.mets_place _).1]; exact hl
 have hl3 : ((r.place.2.name.2.require (isMeasure r.place.2.name.1)).name).2.number.2.spans.length ≤ 900 := by rw [(RS.mets_number _).2.2, (RS.mets_name _).2.2, (RS.mets_require _ _).2.2, (RS.mets_name _).2.2, (RS.mets_place _).2.2]; exact hls
 clear h hl hls
 generalize r.place = P at *
 go_enter Tryz.func132, Tryz.ntmps132
 go_wp2_with fail
 refine hpl.mono ?_
 rintro e w1 ⟨rfl, h1, k1⟩
 have hnm := rd_name h1
 have K1 : Hid _ := k1
 clear hpl h1 k1
 generalize P.2.name = K at *
 go_wp2_with fail
 refine hnm.mono ?_
 rintro e w2 ⟨rfl, h2, k2⟩
 have hbl : Below w2.heap.size w2 (w2.alloc (.cells #[.int .i64 (P.1 : Int)] 153)) := (Below.refl _ _).alloc (Nat.le_refl _) _
 have hik := code_isKind K.1 (w2.alloc (.cells #[.int .i64 (P.1 : Int)] 153))
 have hrq := rd_require (h2.later hbl) (isMeasure K.1)
 have K2 : Hid _ := (K1.out.trans k2).trans (.of_below hbl h2.lR)
 have FRE : Hid (Free R (w2.alloc (.cells #[.int .i64 (P.1 : Int)] 153)) w2.heap.size) := h2.free_new hbl (Nat.le_refl _) (by simp)
 have HA2 : Hid (One (w2.alloc (.cells #[.int .i64 (P.1 : Int)] 153)) w2.heap.size (.int .i64 (P.1 : Int)) 153) := heap_alloc_new _ _
 clear hnm h2 k2 hbl
 go_wp2_with fail
 refine hik.mono ?_
 rintro e w' ⟨rfl, hw⟩
 have hw := hw.symm
 subst hw
 clear hik
 go_wp2_with fail
 refine hrq.mono ?_
 rintro e w3 ⟨rfl, h3, k3⟩
 generalize K.2.require (isMeasure K.1) = r3 at *
 have hnm := rd_name h3
 have K3 : Hid _ := K2.out.trans k3
 have KA : Hid (KR R (w2.alloc (.cells #[.int .i64 (P.1 : Int)] 153)) w3) := k3
 clear hrq h3 k3
 generalize r3.name = M at *
 go_wp2_with fail
 refine hnm.mono ?_
 rintro e w4 ⟨rfl, h4, k4⟩
 have K4 : Hid _ := K3.out.trans k4
 have KB : Hid (KR R (w2.alloc (.cells #[.int .i64 (P.1 : Int)] 153)) w4) := KA.out.trans k4
 have hnb := rd_number h4
 clear hnm h4 k4
 generalize hNn : M.2.number = Nn at *
 go_wp2_with fail
 refine hnb.mono ?_
 rintro e w5 ⟨rfl, h5, k5⟩
 have KW5 : Hid (KR R w w5) := K4.out.trans k5
 have KC5 : Hid (KR R (w2.alloc (.cells #[.int .i64 (P.1 : Int)] 153)) w5) := KB.out.trans k5
 have H4 : Hid (RSt R w5 Nn.2) := h5
 obtain ⟨rv, mv, sv, av, b1, b2, b3, b4⟩ := h5.blk
 obtain ⟨ao, cp, rfl⟩ := owns_len b3
 obtain ⟨aos, cps, rfl⟩ := owns_len b4.2
 have c3 := cell_of_heap (i := 3) b1 rfl
 have z3 := frozen_of_heap (i := 3) b1
 have c4 := cell_of_heap (i := 4) b1 rfl
 have z4 := frozen_of_heap (i := 4) b1
 have hcn := contains_any b3 (by omega) M.1
 have lR4 := h5.lR
 have FR5 : Hid (Free R w5 w2.heap.size) := (FRE.out.step KC5.out).1
 have CA : Hid (w5.heap[w2.heap.size]? = some (.cells #[.int .i64 (P.1 : Int)] 153 (0, 0))) := (FRE.out.step KC5.out).2.trans HA2.out
 have cA : w5.cell? ⟨w2.heap.size, 0, none⟩ = some (.int .i64 (P.1 : Int)) := cell_of_heap CA.out rfl
 have la := heap_lt CA.out
 have hnR : ¬ R = w2.heap.size := fun e => FR5.out.ne e.symm
 have hnR2 : ¬ w2.heap.size = R := FR5.out.ne
 have HB1 : Hid _ := b1
 have r3 := rowAt_of b1 (k := 3) rfl
 have r4 := rowAt_of b1 (k := 4) rfl
 have HR34 : Hid _ := And.intro r3 r4
 have HNT : Hid (note1 Nn.2.mets M.1 = if containsS Nn.2.mets M.1 = true then Nn.2.mets else Nn.2.mets ++ [M.1]) := rfl
 clear hnb h5 k5 b1 b2 b3 b4 r3 r4
 go_wp2_with fail
 refine hcn.mono ?_
 rintro e w' ⟨rfl, hw⟩
 have hw := hw.symm
 subst hw
 clear hcn
 cases hcx : containsS Nn.2.mets M.1 with
 | true =>
  have HM : Hid (r.measure = (.meas P.1 K.1 M.1 Nn.1, { Nn.2 with spans := Nn.2.spans ++ [(M.1, Nn.1)] })) := by
   show r.measure = _
   rw [HM.out, HNT.out, if_pos hcx]
  clear hcx c3 z3
  go_wp2_with (first
    | (at_builtin; refine wpList_append_at _ rfl _ _ 144 rfl (R + 1) 194 i1 (.agg #[.string { data := #[] }, .int .i64 0]) 2 24 Tryz.underlying144 hi1 hy0 hy1 hy2 rfl (by decide) (.slice aos Nn.2.spans.length cps) Nn.2.spans.length (spanCells Nn.2.spans) rfl (World.ownsRow.alloc (H4.out.blk_of HB1.out).2.2.2 _) ⟨w5.heap.size, 0, none⟩ 1 1 [.string M.1, .int .i64 Nn.1] rfl rfl (news_two (heap_new8 (by simp))) (by simp [Value.oneCell']) (by unfold maxLen; omega) (by omega) (by simp; omega) (by decide) ?_; intro v' w6 hown hgrow hnil; have q := RSt.push4 (p := Nn.1) (x := M.1) H4.out HB1.out (H4.out.blk_of HB1.out).1 (H4.out.blk_of HB1.out).2.1 (H4.out.blk_of HB1.out).2.2 hown hgrow (hnil.elim .inl fun e => .inr fun g hg => (by rw [e] at hg; injection hg with hg; simp at hg ⊢; omega)); have n6 : w6.heap[R]? = _ := (hgrow.block R (by simp; omega) (fun e => by have := ((H4.out.blk_of HB1.out).2.2.2.lt _ e.symm).1; omega)).trans (heap_alloc_old HB1.out); have m6 := cell_of_heap (i := 4) n6 rfl; have g6 := frozen_of_heap (i := 4) n6; have cA6 : w6.cell? ⟨w2.heap.size, 0, none⟩ = some (.int .i64 (P.1 : Int)) := cell_of_heap ((hgrow.block w2.heap.size (by simp; omega) (fun e => by have := HR34.out.2; exact FR5.out.row4 (this.trans e.symm))).trans (heap_alloc_old CA.out)) rfl; have Q6 : Hid _ := q; obtain ⟨ao7, cp7, rfl⟩ := owns_len hown; clear n6 hgrow hown hnil q)
    | fail)
  have hmk := mk_meas (lo := w.heap.size) Q6.out.1 (Nat.le_trans KW5.out.size Q6.out.2.size) P.1 K.1 M.1 Nn.1
  refine hmk.mono ?_
  rintro e w8 ⟨v8, rfl, hf8, h8, k8, hv8⟩
  have Q8 : Hid _ := And.intro hf8 (And.intro h8 (And.intro ((KW5.out.trans Q6.out.2).trans k8) hv8))
  clear hf8 h8 k8 hv8 hmk m6 g6 cA6
  go_wp2
  go_ret
  rw [HM.out]
  exact ⟨_, rfl, Q8.out⟩
 | false =>
  have HM : Hid (r.measure = (.meas P.1 K.1 M.1 Nn.1, { ({ Nn.2 with mets := Nn.2.mets ++ [M.1] } : RS) with spans := Nn.2.spans ++ [(M.1, Nn.1)] })) := by
   show r.measure = _
   rw [HM.out, HNT.out, if_neg (by rw [hcx]; decide)]
  clear hcx
  go_wp2_with (first
    | (at_builtin; refine wpList_append_at _ rfl _ _ 65 rfl (R + 1) 9 i0 (.string { data := #[] }) 1 16 Tryz.underlying65 hi hz0 hz1 hz2 rfl (by decide) (.slice ao Nn.2.mets.length cp) Nn.2.mets.length (Nn.2.mets.map Value.string) rfl (World.ownsRow.alloc (H4.out.blk_of HB1.out).2.1 _) ⟨w5.heap.size, 0, none⟩ 1 1 [.string M.1] rfl rfl (cell_one8 rfl) (fun x hx => by simp at hx; subst hx; rfl) (by unfold maxLen; omega) (by omega) (by simp; omega) (by decide) ?_; intro v' w55 hown hgrow hnil; have q := RSt.push3 H4.out HB1.out (H4.out.blk_of HB1.out).1 (H4.out.blk_of HB1.out).2.1 (H4.out.blk_of HB1.out).2.2 hown hgrow hnil; have n5 : w55.heap[R]? = _ := (hgrow.block R (by simp; omega) (fun e => by have := ((H4.out.blk_of HB1.out).2.1.lt _ e.symm).1; omega)).trans (heap_alloc_old HB1.out); have m5 := cell_of_heap (i := 3) n5 rfl; have g5 := frozen_of_heap (i := 3) n5; have m54 := cell_of_heap (i := 4) n5 rfl; have g54 := frozen_of_heap (i := 4) n5; have Q5 : Hid _ := And.intro q.1 (And.intro q.2 n5); have l5 : w5.heap.size ≤ w55.heap.size := (by have := hgrow.size; simp at this; omega); obtain ⟨ao2, cp2, rfl⟩ := owns_len hown; have CA : Hid ((w55.setCell ⟨R, 3, none⟩ (.slice ao2 (Nn.2.mets.length + 1) cp2)).heap[w2.heap.size]? = some (.cells #[.int .i64 (P.1 : Int)] 153 (0, 0))) := (FR5.out.step Q5.out.2.1).2.trans CA.out; clear n5 hgrow hown hnil q c3 z3 c4 z4 cA)
    | (at_builtin; refine wpList_append_at _ rfl _ _ 144 rfl (R + 1) 194 i1 (.agg #[.string { data := #[] }, .int .i64 0]) 2 24 Tryz.underlying144 hi1 hy0 hy1 hy2 rfl (by decide) (.slice aos Nn.2.spans.length cps) Nn.2.spans.length (spanCells Nn.2.spans) rfl (World.ownsRow.alloc (Q5.out.1.blk_of (heap_set_same (i := 3) Q5.out.2.2)).2.2.2 _) ⟨w55.heap.size, 0, none⟩ 1 1 [.string M.1, .int .i64 Nn.1] rfl rfl (news_two (heap_new8 (by simp))) (by simp [Value.oneCell']) (by unfold maxLen; omega) (by omega) (by simp; omega) (by decide) ?_; intro v' w6 hown hgrow hnil; have q := RSt.push4 (p := Nn.1) (x := M.1) Q5.out.1 (heap_set_same (i := 3) Q5.out.2.2) (Q5.out.1.blk_of (heap_set_same (i := 3) Q5.out.2.2)).1 (Q5.out.1.blk_of (heap_set_same (i := 3) Q5.out.2.2)).2.1 (Q5.out.1.blk_of (heap_set_same (i := 3) Q5.out.2.2)).2.2 hown hgrow (hnil.elim .inl fun e => .inr fun g hg => (by rw [e] at hg; injection hg with hg; simp at hg ⊢; omega)); have n6 : w6.heap[R]? = _ := (hgrow.block R (by simp; omega) (fun e => by have := ((Q5.out.1.blk_of (heap_set_same (i := 3) Q5.out.2.2)).2.2.2.lt _ e.symm).1; omega)).trans (heap_alloc_old (heap_set_same (i := 3) Q5.out.2.2)); have m6 := cell_of_heap (i := 4) n6 rfl; have g6 := frozen_of_heap (i := 4) n6; have cA6 : w6.cell? ⟨w2.heap.size, 0, none⟩ = some (.int .i64 (P.1 : Int)) := cell_of_heap ((hgrow.block w2.heap.size (by simp; omega) (fun e => (FR5.out.step Q5.out.2.1).1.row4 ((rowAt_of (heap_set_same (i := 3) Q5.out.2.2) (k := 4) rfl).trans e.symm))).trans (heap_alloc_old CA.out)) rfl; have Q6 : Hid _ := q; obtain ⟨ao7, cp7, rfl⟩ := owns_len hown; clear n6 hgrow hown hnil q)
    | fail)
  have hmk := mk_meas (lo := w.heap.size) Q6.out.1 (Nat.le_trans (KW5.out.trans Q5.out.2.1).size Q6.out.2.size) P.1 K.1 M.1 Nn.1
  refine hmk.mono ?_
  rintro e w8 ⟨v8, rfl, hf8, h8, k8, hv8⟩
  have Q8 : Hid _ := And.intro hf8 (And.intro h8 (And.intro (((KW5.out.trans Q5.out.2.1).trans Q6.out.2).trans k8) hv8))
  clear hf8 h8 k8 hv8 hmk m6 g6 cA6
  go_wp2
  go_ret
  rw [HM.out]
  exact ⟨_, rfl, Q8.out⟩
end
end Go.Proofs.YtbokdbaagacnlaaGreatDoor
namespace Go.Proofs.YtbokdbaagacnlaaGreatDoor
open Go.RowKit Go.Lib
theorem Tryz.infoCall : (Tryz.prog.info? 236).map (fun i => (i.zero, i.size, i.bytes)) = some (some (.agg #[.int .i64 0, .string { data := #[] }]), 2, 24) := by kernel_rfl
theorem Tryz.infoValue : (Tryz.prog.info? 143).map (fun i => (i.zero, i.size, i.bytes)) = some (some .nilFunc, 1, 8) := by kernel_rfl
def RS.Fu (r : RS) (f : Nat) : Prop := r.wrong = true ∨ 200 ≤ r.parts + f
theorem RS.Fu.step {r r' : RS} {f : Nat} (h : r.Fu f) (hr : r.Ok) (hf : r.From r') : r'.Fu f := by
 cases e : r'.wrong with
 | true => exact .inl e
 | false =>
  have := (hf hr).2 e
  rcases h with h | h
  ·rw [this.1] at h; cases h
  ·exact .inr (by omega)
def PCon (R f : Nat) : Prop := ∀ (w : World) (r : RS), RSt R w r → r.Good → r.Fu f →
 Calls Tryz.prog 98 #[.pointer (some ⟨R, 0, none⟩)] w fun e w' => ∃ v, e = .returned v ∧ FuncV v ∧ RSt R w' (RS.part f r).2 ∧ KR R w w' ∧ VOk R w.heap.size w' (RS.part f r).2 (RS.part f r).1 v
def RS.probeC (r : RS) : UInt8 × RS := RS.next { (r.place.2.name.2.require (!isMeasure r.place.2.name.1)) with asks := (r.place.2.name.2.require (!isMeasure r.place.2.name.1)).asks ++ [(r.place.1, r.place.2.name.1)] }
theorem owns_built9 {w : World} {g : Nat} {cs : Array Value} {e : TypeId} (h : w.heap[g]? = some (.cells cs e (0, 0))) (hc : cs.size ≤ 1000) {n m : Nat} (hn : n = cs.size) (hm : m = cs.size) {xs : List Value} (hx : xs = cs.toList) : w.ownsRow 0 e 1 (.slice (some ⟨g, 0, none⟩) n n) m xs := by
 subst hn hm hx
 exact ⟨by simp, .inr ⟨g, _, cs, rfl, Nat.zero_le _, h, Nat.le_refl _, by first | (simp [maxLen]; omega) | omega, by simp, by rw [List.take_of_length_le (by simp)]⟩⟩
structure PL (R f lo g b3 n p : Nat) (X : RS) (w wr : World) (i : Nat) (vs : List Value) : Prop where
 st : RSt R wr (iter (RS.part f) i X).2
 kr : KR R w wr
 row : wr.heap[g]? = some (.cells (vs ++ List.replicate (n - i) Value.nilFunc).toArray 143 (0, 0))
 len : vs.length = i
 free : Fr R lo wr g
 nodes : (iter (RS.part f) i X).2.wrong = false → VNodes (fun b => Fr R lo wr b ∧ b ≠ g) wr (iter (RS.part f) i X).1 vs
 atb : One wr b3 (.int .i64 (p : Int)) 153
 fre : Free R wr b3
theorem free_set {R : Nat} {w : World} {b g i : Nat} (v : Value) (hg : g ≠ R) (h : Free R w b) : Free R (w.setCell ⟨g, i, none⟩ v) b := by
 have e : ∀ j, rowAt (w.setCell ⟨g, i, none⟩ v) R j = rowAt w R j := fun j => rowAt_same (Below.heap_setCell _ _ _ _ (fun q => hg q.symm))
 exact ⟨h.ne, by simpa using h.lt, by rw [e]; exact h.row3, by rw [e]; exact h.row4, by rw [e]; exact h.row5⟩
theorem PL.push {R f lo g b3 n p i : Nat} {X : RS} {w wr w7 : World} {vs : List Value} {v : Value} (h : PL R f lo g b3 n p X w wr i vs) (hlo : w.heap.size ≤ g) (hgw : g < wr.heap.size) (hi : i < n)
  (h7 : RSt R w7 (RS.part f (iter (RS.part f) i X).2).2) (k7 : KR R wr w7) (hv : VOk R wr.heap.size w7 (RS.part f (iter (RS.part f) i X).2).2 (RS.part f (iter (RS.part f) i X).2).1 v) (hf : (RS.part f (iter (RS.part f) i X).2).2.wrong = false → (iter (RS.part f) i X).2.wrong = false) (hlw : lo ≤ wr.heap.size) (hRw : R < w.heap.size) :
  PL R f lo g b3 n p X w (w7.setCell ⟨g, i, none⟩ v) (i + 1) (vs ++ [v]) := by
 have f7 := (h.free.1.step k7).1
 have r7 : w7.heap[g]? = _ := (h.free.1.step k7).2.trans h.row
 have hR : R < g := Nat.lt_of_lt_of_le hRw hlo
 have hne : g ≠ R := fun e => by omega
 have hgb : b3 ≠ g := fun e => by
  have q : wr.heap[b3]? = _ := h.atb
  subst e
  rw [h.row] at q
  injection q with q
  injection q with _ q
  revert q
  decide
 refine ⟨h7.setFree f7.ne hR f7.row3 f7.row4 f7.row5 v, (h.kr.trans k7).setNew hlo (fun e => by omega) v, ?_, by simp [h.len], ⟨free_set v hne f7, h.free.2⟩, fun hw => ?_, (Below.heap_setCell _ _ _ _ hgb).trans ((h.fre.step k7).2.trans h.atb), free_set v hne (h.fre.step k7).1⟩
 ·rw [heap_set_same r7]
  congr 2
  apply Array.ext'
  rw [Array.toList_setIfInBounds]
  have hl := h.len
  rw [show n - i = (n - (i + 1)) + 1 by omega, List.replicate_succ]
  subst hl
  simp
 ·have m1 : VMoves (fun b => Fr R lo wr b ∧ b ≠ g) (fun b => Fr R lo (w7.setCell ⟨g, i, none⟩ v) b ∧ b ≠ g) wr (w7.setCell ⟨g, i, none⟩ v) := fun b hb =>
   ⟨⟨⟨free_set v hne (hb.1.1.step k7).1, hb.1.2⟩, hb.2⟩, (Below.heap_setCell _ _ _ _ hb.2).trans (hb.1.1.step k7).2⟩
  have m2 : VMoves (Fr R wr.heap.size w7) (fun b => Fr R lo (w7.setCell ⟨g, i, none⟩ v) b ∧ b ≠ g) w7 (w7.setCell ⟨g, i, none⟩ v) := fun b hb => by
   have hbg : b ≠ g := fun e => by have := hb.2; omega
   exact ⟨⟨⟨free_set v hne hb.1, Nat.le_trans hlw hb.2⟩, hbg⟩, Below.heap_setCell _ _ _ _ hbg⟩
  exact ((h.nodes (hf hw)).moves m1).snoc ((hv hw).moves m2)
section
variable {R f : Nat} {w : World} {r : RS}
set_option maxRecDepth 1000000 in
set_option maxHeartbeats 1000000 in
theorem rd_probe (hp : PCon R f) (h : RSt R w r) (hl : r.asks.length ≤ 900) (hG : r.probeC.2.Good) (hF : r.probeC.2.Fu f) : Calls Tryz.prog 133 #[.pointer (some ⟨R, 0, none⟩)] w fun e w' => ∃ v, e = .returned v ∧ FuncV v ∧ RSt R w' (r.probe (RS.part f)).2 ∧ KR R w w' ∧ VOk R w.heap.size w' (r.probe (RS.part f)).2 (r.probe (RS.part f)).1 v := by
 obtain ⟨i0, hi, hz0, hz1, hz2⟩ := info_parts Tryz.infoCall
 obtain ⟨i1, hi1, hy0, hy1, hy2⟩ := info_parts Tryz.infoValue
 have hnot : ∀ (x : Bool) (w : World), (Op.unary .not (.bool x)).run Tryz.prog w = .ok (.bool (!x)) w := fun _ _ => rfl
 have hpl := rd_place h
 have HM : Hid (r.probe (RS.part f) = (.probe r.place.1 r.place.2.name.1 (iter (RS.part f) r.probeC.1.toNat r.probeC.2).1, (iter (RS.part f) r.probeC.1.toNat r.probeC.2).2)) := rfl
 have HC : Hid (r.probeC = RS.next { (r.place.2.name.2.require (!isMeasure r.place.2.name.1)) with asks := (r.place.2.name.2.require (!isMeasure r.place.2.name.1)).asks ++ [(r.place.1, r.place.2.name.1)] }) := rfl
 have hl2 : (r.place.2.name.2.require (!isMeasure r.place.2.name.1)).asks.length ≤ 900 := by rw [(RS.mets_require _ _).2.1, (RS.mets_name _).2.1, (RS.mets_place _).2.1]; exact hl
 have HG : Hid _ := And.intro hG hF
 have HP : Hid (PCon R f) := hp
 have LR : Hid (R < w.heap.size) := h.lR
 clear h hl hG hF hp
 generalize r.probeC = X at *
 generalize r.place = P at *
 go_enter Tryz.func133, Tryz.ntmps133
 go_wp2_with fail
 refine hpl.mono ?_
 rintro e w1 ⟨rfl, h1, k1⟩
 have hnm := rd_name h1
 have K1 : Hid _ := k1
 clear hpl h1 k1
 generalize P.2.name = K at *
 go_wp2_with fail
 refine hnm.mono ?_
 rintro e w2 ⟨rfl, h2, k2⟩
 have hbl : Below w2.heap.size w2 (w2.alloc (.cells #[.int .i64 (P.1 : Int)] 153)) := (Below.refl _ _).alloc (Nat.le_refl _) _
 have hik := code_isKind K.1 (w2.alloc (.cells #[.int .i64 (P.1 : Int)] 153))
 have hrq := rd_require (h2.later hbl) (!isMeasure K.1)
 have K2 : Hid _ := (K1.out.trans k2).trans (.of_below hbl h2.lR)
 have FRE : Hid (Free R (w2.alloc (.cells #[.int .i64 (P.1 : Int)] 153)) w2.heap.size) := h2.free_new hbl (Nat.le_refl _) (by simp)
 have HA2 : Hid (One (w2.alloc (.cells #[.int .i64 (P.1 : Int)] 153)) w2.heap.size (.int .i64 (P.1 : Int)) 153) := heap_alloc_new _ _
 clear hnm h2 k2 hbl
 go_wp2_with fail
 refine hik.mono ?_
 rintro e w' ⟨rfl, hw⟩
 have hw := hw.symm
 subst hw
 clear hik
 go_wp2_with fail
 refine hrq.mono ?_
 rintro e w3 ⟨rfl, h3, k3⟩
 generalize K.2.require (!isMeasure K.1) = r3 at *
 have K3 : Hid _ := K2.out.trans k3
 have KA : Hid (KR R (w2.alloc (.cells #[.int .i64 (P.1 : Int)] 153)) w3) := k3
 have H3 : Hid (RSt R w3 r3) := h3
 have cA : w3.cell? ⟨w2.heap.size, 0, none⟩ = some (.int .i64 (P.1 : Int)) := cell_of_heap ((FRE.out.step k3).2.trans HA2.out) rfl
 obtain ⟨rv, mv, sv, av, b1, b2, b3, b4⟩ := h3.blk
 obtain ⟨ao, cp, rfl⟩ := owns_len b4.1
 have c4 : w3.cell? ⟨R, 5, none⟩ = some (.slice ao r3.asks.length cp) := cell_of_heap b1 rfl
 have z4 := frozen_of_heap (i := 5) b1
 have lR3 := h3.lR
 have HBK : Hid _ := And.intro b1 (And.intro b2 (And.intro b3 b4))
 clear hrq h3 k3 b1 b2 b3 b4
 go_wp2_with fail
 refine Code.wp_mono (Q := Exit.then (fun a w' => ∃ (g cap : Nat), a = { tmps := #[.pointer (some ⟨R, 0, none⟩), undef, .nilFunc, .pointer (some ⟨w2.heap.size, 0, none⟩), .string K.1, undef, undef, .pointer (some ⟨R, 0, none⟩), .agg #[.int .i64 (P.1 : Int)], .pointer (some ⟨R, 0, none⟩), .string K.1, .pointer (some ⟨R, 0, none⟩), .string K.1, .bool (isMeasure K.1), .bool (!isMeasure K.1), .tuple #[], .pointer (some ⟨R, 0, none⟩), .pointer (some ⟨R, 0, none⟩), .pointer (some ⟨R, 0, none⟩), .pointer (some ⟨R, 5, none⟩), .slice ao r3.asks.length cp, .agg #[.int .i64 (P.1 : Int)], .string K.1, .agg #[.int .i64 (P.1 : Int), .string K.1], .slice (some ⟨w3.heap.size, 0, none⟩) 1 1, .slice (some ⟨g, 0, none⟩) (r3.asks.length + 1) cap, .pointer (some ⟨R, 0, none⟩), .pointer (some ⟨R, 5, none⟩), undef, undef, undef, undef, undef, undef, undef, undef, undef, undef, undef, undef, undef, undef, undef, undef, undef, undef], defers := [] } ∧ Hid (RSt R w' { r3 with asks := r3.asks ++ [(P.1, K.1)] } ∧ KR R w3 w')) (fun _ _ _ => False)) ?imp ?reg
 case reg =>
  go_region_law (first
    | (refine step_append_lies _ (by rfl) (.tmp 20) (.tmp 24) _ (by rfl) (R + 1) 236 i0 (.agg #[.int .i64 0, .string { data := #[] }]) 2 24 Tryz.underlying145 hi hz0 hz1 hz2 rfl (by omega) (.slice ao r3.asks.length cp) r3.asks.length (askCells r3.asks) (by rfl) (World.ownsRow.alloc (World.ownsRow.drew HBK.out.2.2.2.1) _) ⟨_, 0, none⟩ 1 1 [.int .i64 (P.1 : Int), .string K.1] (by rfl) (by rfl) (news_two (heap_alloc_new _ _)) (by simp [Value.oneCell']) (by omega) (by unfold maxLen; omega) (by omega) (by simp; omega) _ (by rfl) ?_; intro g cap w5 hown hgrow hat hlt; have q := H3.out.push5 (p := P.1) (x := K.1) HBK.out.1 HBK.out.2.1 HBK.out.2.2.1 HBK.out.2.2.2 hown ⟨hgrow.os, hgrow.tape, hgrow.output, hgrow.size, hgrow.block⟩ (hat.elim (fun e => .inl e.symm) (fun e => .inr fun g' hg' => (by injection hg' with h2; rw [← h2, e]; simp))); have n5 : w5.heap[R]? = _ := (hgrow.block R (by simp; omega) (fun e => by have := (HBK.out.2.2.2.1.lt _ e.symm).1; omega)).trans (heap_alloc_old (w := w3) HBK.out.1); have m5 := cell_of_heap (i := 5) n5 rfl; have g5 := frozen_of_heap (i := 5) n5; have Q5 : Hid _ := q; clear n5 hgrow hown hat hlt q))
  all_goals exact ⟨g, cap, rfl, Q5.out⟩
 case imp =>
  clear c4 z4 cA
  intro e a w4 hq
  cases e with
  | normal => ?_
  | _ => exact hq.elim
  obtain ⟨g4, cap4, rfl, H4⟩ := hq
  have hnx := rd_next H4.out.1
  have K4 : Hid (KR R w w4) := K3.out.trans H4.out.2
  have KB : Hid (KR R (w2.alloc (.cells #[.int .i64 (P.1 : Int)] 153)) w4) := KA.out.trans H4.out.2
  rw [← HC.out] at hnx
  go_wp2_with fail
  refine hnx.mono ?_
  rintro e w5 ⟨rfl, h5, k5⟩
  have hx : X.1.toNat < 256 := X.1.toNat_lt
  have K5 : Hid (KR R w w5) := K4.out.trans k5
  have KB5 : Hid (KR R (w2.alloc (.cells #[.int .i64 (P.1 : Int)] 153)) w5) := KB.out.trans k5
  have H5 : Hid (RSt R w5 X.2) := h5
  have lR5 := h5.lR
  clear hnx h5 k5 H4 K4 KB
  generalize hN : X.1.toNat = n at *
  clear hN
  go_wp2_with (first
    | (at_make; refine wpList_make_full _ rfl _ _ 351 rfl (R + 1) 143 i1 .nilFunc 1 Tryz.underlying351 hi1 hy0 hy1 _ _ _ _ n rfl rfl rfl rfl (by rw [hy2]; omega) (by unfold maxLen; omega) (by omega) ?_; intro w6 hown hgrow; have Q : Hid _ := And.intro hown hgrow; clear hown hgrow)
    | fail)
  have hbl : Below w5.heap.size w5 w6 := ⟨Q.out.2.os, Q.out.2.tape, Q.out.2.output, Q.out.2.size, fun k hk => Q.out.2.block k hk (by simp)⟩
  have hg0 : w5.heap.size < w6.heap.size := (Q.out.1.lt _ rfl).2
  have hPL : PL R f w.heap.size w5.heap.size w2.heap.size n P.1 X.2 w w6 0 [] := by
   refine ⟨H5.out.later hbl, K5.out.trans (.of_below hbl lR5), ?_, rfl, ⟨H5.out.free_new hbl (Nat.le_refl _) hg0, K5.out.size⟩, fun _ => by unfold iter VNodes; rfl, ?_, ?_⟩
   ·obtain ⟨c, hc⟩ := owns_kind2 Q.out.1 (g := w5.heap.size) rfl
    rcases Q.out.1.2 with ⟨q, -⟩ | ⟨g2, cap, cur, q1, -, q3, -, -, q6, q7⟩
    ·cases q
    ·injection q1 with q1 q1b q1c
     injection q1 with q1
     injection q1 with q1
     subst q1 q1c
     rw [q3]
     congr 2
     apply Array.ext'
     rw [Nat.mul_one] at q6 q7
     rw [List.take_of_length_le (by simp; omega)] at q7
     rw [q7, show (Value.nilFunc).cells = #[.nilFunc] from rfl, toList_madeCells_one]
     simp
   ·exact (FRE.out.step (KB5.out.trans (.of_below hbl lR5))).2.trans HA2.out
   ·exact (FRE.out.step (KB5.out.trans (.of_below hbl lR5))).1
  have HPL : Hid _ := hPL
  have hsz6 : Hid (w.heap.size ≤ w5.heap.size ∧ w5.heap.size < w6.heap.size) := And.intro K5.out.size hg0
  clear hPL hbl hg0 Q
  go_loopw [33] (fun v33 wr => ∃ (i : Nat) (vs : List Value), v33 = .int .i64 i ∧ i ≤ n ∧ Hid (PL R f w.heap.size w5.heap.size w2.heap.size n P.1 X.2 w wr i vs ∧ w5.heap.size < wr.heap.size)) (fun v33 _ => n - (intOf v33).toNat)
  case atStart => exact ⟨0, [], rfl, Nat.zero_le _, HPL.out, hsz6.out.2⟩
  case round =>
   obtain ⟨i, vs, rfl, hi9, HI⟩ := hrel
   rcases Nat.lt_or_ge i n with hlt | hge
   ·have hgd := RS.Good.iter (RS.Good.part f) i X.2 HG.out.1
    have hfr := RS.From.iter (RS.From.part f) i X.2
    have hpc := HP.out wr _ HI.out.1.st hgd (HG.out.2.step HG.out.1.1 hfr)
    have hff := (RS.From.part f (iter (RS.part f) i X.2).2) hgd.1
    have hlt2 : (i : Int) < n := by omega
    have HFF : Hid _ := hff
    clear hgd hfr hff
    go_wp2_with fail
    refine hpc.mono ?_
    rintro e w7 ⟨v7, rfl, hf7, h7, k7, hv7⟩
    have hnx := HI.out.1.push hsz6.out.1 HI.out.2 hlt h7 k7 hv7 (fun q => (HFF.out.2 q).1) HI.out.1.kr.size LR.out
    have r7 : w7.heap[w5.heap.size]? = _ := (HI.out.1.free.1.step k7).2.trans HI.out.1.row
    have hl := HI.out.1.len
    have c7 : w7.cell? ⟨w5.heap.size, i, none⟩ = some .nilFunc := cell_of_heap r7 (by rw [List.getElem?_toArray, List.getElem?_append_right (by omega), hl, Nat.sub_self, List.getElem?_replicate, if_pos (by omega)])
    have z7 := frozen_of_heap (i := i) r7
    have HNX : Hid _ := And.intro hnx (Nat.lt_of_lt_of_le HI.out.2 k7.size)
    clear hpc h7 k7 hv7 hnx r7 hl
    rcases hf7 with rfl | ⟨_, _, _, rfl⟩
    all_goals
     go_wp2
     go_roundw
     case rel => exact ⟨i + 1, _, by go_num, by omega, HNX.out.1, by simpa using HNX.out.2⟩
     case measure => simp [intOf]; omega
   ·have hge2 : ¬ (i : Int) < n := by omega
    have hin : i = n := by omega
    subst hin
    have cA : wr.cell? ⟨w2.heap.size, 0, none⟩ = some (.int .i64 (P.1 : Int)) := cell_of_heap HI.out.1.atb rfl
    have hmk := mk_probe (lo := w.heap.size) HI.out.1.st HI.out.1.kr.size P.1 K.1 (ts := (iter (RS.part f) i X.2).1) (vs := vs) (ao := some ⟨w5.heap.size, 0, none⟩) (ln := i) (cp := i) (fun hw => by
     have hr := HI.out.1.row
     have hl := HI.out.1.len
     rw [Nat.sub_self, List.replicate_zero, List.append_nil] at hr
     exact ⟨⟨owns_built9 hr (by simp; omega) (by simp [hl]) (by simp) (by simp), fun g' hg' => by injection hg' with hg'; subst hg'; exact HI.out.1.free⟩, (HI.out.1.nodes hw).moves fun b hb => ⟨hb.1, rfl⟩⟩)
    have HKW : Hid _ := HI.out.1.kr
    go_wp2_with fail
    refine hmk.mono ?_
    rintro e w8 ⟨v8, rfl, hf8, h8, k8, hv8⟩
    have Q8 : Hid _ := And.intro hf8 (And.intro h8 (And.intro (HKW.out.trans k8) hv8))
    clear hmk hf8 h8 k8 hv8
    go_wp2
    go_ret
    rw [HM.out]
    exact ⟨_, rfl, Q8.out⟩
end
end Go.Proofs.YtbokdbaagacnlaaGreatDoor
