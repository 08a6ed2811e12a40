/-
  plain.Safe AND plain.Bytes, WALKED.
-/
import Derived.Test.YtaghcjpoihkpjaaGreatDoorJ37
import Derived.Test.YtaghcjpoihkpjaaGreatDoorSpecReadJ
namespace Go.Proofs.YtaghcjpoihkpjaaGreatDoor
open Go.RowKit Go.Lib

/-! What any bytes are read to. -/
theorem readB_good (l : List UInt8) : (readB l).2.Good := RS.Good.part 200 _ ⟨fun _ => by simp, fun _ => by simp, by simp, by simp, by simp⟩
theorem okB_fit {l : List UInt8} (h : okB l) : Fit (readB l).1 := part_fit 200 _ (fun _ => by simp) h.1
theorem okB_asks {l : List UInt8} (h : okB l) : (readB l).2.asks = asks (readB l).1 := by
  have := part_asks 200 ⟨l, 0, false, [], [], []⟩ (fun _ => by simp) h.1
  rw [List.nil_append] at this
  exact this
theorem RestAt.up {R R' : Nat} {w : World} {v : Value} {l : List UInt8} (h : RestAt R w v l) (hR : R ≤ R') : RestAt R' w v l := by
  obtain ⟨ao, cp, h1, h2, h3⟩ := h
  refine ⟨ao, cp, h1, h2, fun j b hj => ?_⟩
  obtain ⟨C, off, hC, h4, h5⟩ := h3 j b hj
  exact ⟨C, off, Nat.lt_of_lt_of_le hC hR, h4, h5⟩
theorem keep_below {n : Nat} {w w1 w2 : World} (hn : 0 < n) (hk : Keep 0 w1 w2) (h1 : Below n w w1) (h2 : Below n w w2) : Below w1.heap.size w1 w2 :=
  ⟨hk.os, hk.tape, hk.output, hk.size, fun k lt => by
    by_cases e : k = 0
    · subst e; exact (h2.block 0 hn).trans (h1.block 0 hn).symm
    · exact hk.block k lt e⟩
theorem evr_state {σ : Type} {A : Nat → Addr} {S : σ → World → Prop} {r : Res} {s : σ} {w : World} {e : Ending} (h : EvR A S (r, s) w e) : S s w := by
  cases r with
  | val n => exact h.2.2
  | held p y => obtain ⟨b, T, x, -, -, -, h4⟩ := h; exact h4
/-- Three things told, in a row. -/
def row3 (a b c : Res) : Array Value := #[.int .i64 (resE a), .int .i64 (resP a), .int .i64 (resM a), .string { data := #[] }, .int .i64 (resE b), .int .i64 (resP b), .int .i64 (resM b), .string { data := #[] }, .int .i64 (resE c), .int .i64 (resP c), .int .i64 (resM c), .string { data := #[] }]
/-- How Safe answers. -/
def SafeR (w : World) (e : Ending) : Prop :=
  (∃ g r rn, e = .returned (.tuple #[.agg #[.int .i64 0, .int .i64 0, .int .i64 0, .string { data := #[] }], .bool true, .slice (some ⟨g, 0, none⟩) 3 3, .bool true]) ∧ w.heap[g]? = some (.cells (row3 r r rn) 24 (0, 0))) ∨
  (∃ f p s, (f = 3 ∨ f = 4) ∧ e = .returned (.tuple #[told4 f p s, .bool false, .slice none 0 0, .bool true]))
set_option maxRecDepth 1000000 in
set_option maxHeartbeats 4000000 in
theorem plain_Safe {A : Nat → Addr} {w : World} (hT : TabsR w) (hA : SentsX A w) {v : Value} {l : List UInt8} (hl : RestAt w.heap.size w v l) :
    Calls Tryz.prog 22 #[v] w fun e w' => Below w.heap.size w w' ∧ SafeR w' e := by
  have hx : Below w.heap.size w (w.alloc (.cells #[.int .i64 0, .int .i64 0, .int .i64 0, .string { data := #[] }] 24)) := (Below.refl _ _).alloc (Nat.le_refl _) _
  have hrb : (w.alloc (.cells #[.int .i64 0, .int .i64 0, .int .i64 0, .string { data := #[] }] 24)).heap[w.heap.size]? = some (.cells #[.int .i64 0, .int .i64 0, .int .i64 0, .string { data := #[] }] 24 (0, 0)) := heap_alloc_new _ _
  have hso : Calls Tryz.prog 18 #[] (w.alloc (.cells #[.int .i64 0, .int .i64 0, .int .i64 0, .string { data := #[] }] 24)) fun e w' => Below (w.heap.size + 1) (w.alloc (.cells #[.int .i64 0, .int .i64 0, .int .i64 0, .string { data := #[] }] 24)) w' ∧ e = .returned (.map (some (w.heap.size + 1))) ∧ MapF w' (w.heap.size + 1) someF := by
    have := plain_some (w.alloc (.cells #[.int .i64 0, .int .i64 0, .int .i64 0, .string { data := #[] }] 24))
    simpa using this
  have HX : Hid _ := And.intro hx (And.intro hT (And.intro hl hrb))
  have HA : Hid (SentsX A w) := hA
  have LW : Hid (0 < w.heap.size) := Nat.lt_of_le_of_lt (Nat.zero_le _) (World.block_lt_of_cell? _ _ hA.etype)
  obtain ⟨ao, cp, rfl, -⟩ := hl.slice
  clear hT hA hx hrb hl
  go_enter Tryz.func22, Tryz.ntmps22
  go_wp2_with fail
  refine hso.mono ?_
  rintro e w1 ⟨hb1, rfl, hm1⟩
  have B01 : Hid (Below w.heap.size w w1) := HX.out.1.trans (hb1.mono (by omega))
  have RB1 : Hid (w1.heap[w.heap.size]? = some (.cells #[.int .i64 0, .int .i64 0, .int .i64 0, .string { data := #[] }] 24 (0, 0))) := (hb1.block _ (by omega)).trans HX.out.2.2.2
  have hld := code_Load (HX.out.2.1.below B01.out) (HA.out.below B01.out).sents ((HX.out.2.2.1.below B01.out).up B01.out.size) (pv := .map (some (w.heap.size + 1))) (F := someF) ⟨.inr ⟨_, rfl, hm1⟩, fun _ _ h => someF_func h⟩ (by have := (readB_good l).2.2.2.1; omega)
  clear hso hb1 hm1
  go_wp2_with fail
  refine hld.mono ?_
  rintro e w2 ⟨hb2, hgot⟩
  have B02 : Hid (Below w.heap.size w w2) := B01.out.trans (hb2.mono B01.out.size)
  have RB2 : Hid (w2.heap[w.heap.size]? = some (.cells #[.int .i64 0, .int .i64 0, .int .i64 0, .string { data := #[] }] 24 (0, 0))) := (hb2.block _ (heap_lt RB1.out)).trans RB1.out
  have L2 : Hid (0 < w1.heap.size) := Nat.lt_of_lt_of_le LW.out B01.out.size
  clear hld hb2
  rcases hgot with ⟨hok, hall, b, rfl, hpb⟩ | ⟨hok, i, q, b, hq1, hq2, hq3, rfl, hq4⟩ | ⟨hok, rfl⟩
  · have HF : Hid (Fit (readB l).1) := okB_fit hok
    have HALL : Hid (∀ q ∈ asks (readB l).1, thereP someF q.2) := by
      show ∀ q ∈ asks (readB l).1, thereP someF q.2
      rw [← okB_asks hok]
      exact hall
    have PB2 : Hid (ProgB w1.heap.size w2 b (readB l).1 (readB l).2.mets (asks (readB l).1) (readB l).2.spans someF) := by
      show ProgB _ _ _ _ _ _ _ _
      rw [← okB_asks hok]
      exact hpb
    clear hok hall hpb
    obtain ⟨r, u, hrr⟩ : ∃ r u, ev envP (readB l).1 () = (r, u) := ⟨_, _, rfl⟩
    obtain ⟨rn, un, hrn⟩ : ∃ r u, ev envN (readB l).1 () = (r, u) := ⟨_, _, rfl⟩
    have HRRP : Hid (ev envP (readB l).1 () = (r, u)) := hrr
    have HRRN : Hid (ev envN (readB l).1 () = (rn, un)) := hrn
    clear hrr hrn
    have hev := code_Eval (A := A) (S := SB w) (R := 0) (N := w.heap.size) (E := envP) (s := ()) (u := (readB l).1) PB2.out HF.out (SB.stable w) (fun _ _ h => (HA.out.below h).sents) (Nat.lt_of_lt_of_le LW.out B02.out.size) L2.out look_all
      (fun q hq => by obtain ⟨fv, a1, a2, a3⟩ := someF_probe (SB w) 0 w.heap.size (HALL.out q hq); exact ⟨fv, a1, a2⟩) B02.out
    go_wp2_with fail
    refine hev.mono ?_
    rintro e w3 ⟨hk, he⟩
    have HR2 : Hid _ := HRRP.out
    rw [HR2.out] at he
    obtain ⟨iv2, rfl, hei, hs⟩ := he.told (HA.out.below (show Below w.heap.size w w3 from evr_state (S := SB w) he))
    have B03 : Hid (Below w.heap.size w w3) := hs
    have K3 : Hid (Below w2.heap.size w2 w3) := keep_below LW.out hk B02.out hs
    have EI2 : Hid _ := hei
    have PB3 : Hid (ProgB w1.heap.size w3 b (readB l).1 (readB l).2.mets (asks (readB l).1) (readB l).2.spans someF) := PB2.out.above K3.out.size (fun k _ lt => K3.out.block k lt)
    clear hev hk he hei hs
    have hev := code_Eval (A := A) (S := SB w) (R := 0) (N := w.heap.size) (E := envP) (s := ()) (u := (readB l).1) PB3.out HF.out (SB.stable w) (fun _ _ h => (HA.out.below h).sents) (Nat.lt_of_lt_of_le LW.out B03.out.size) L2.out look_all
      (fun q hq => by obtain ⟨fv, a1, a2, a3⟩ := someF_probe (SB w) 0 w.heap.size (HALL.out q hq); exact ⟨fv, a1, a2⟩) B03.out
    go_wp2_with fail
    refine hev.mono ?_
    rintro e w4 ⟨hk, he⟩
    have HR3 : Hid _ := HRRP.out
    rw [HR3.out] at he
    obtain ⟨iv3, rfl, hei, hs⟩ := he.told (HA.out.below (show Below w.heap.size w w4 from evr_state (S := SB w) he))
    have B04 : Hid (Below w.heap.size w w4) := hs
    have K4 : Hid (Below w3.heap.size w3 w4) := keep_below LW.out hk B03.out hs
    have EI3 : Hid _ := hei
    have PB4 : Hid (ProgB w1.heap.size w4 b (readB l).1 (readB l).2.mets (asks (readB l).1) (readB l).2.spans someF) := PB3.out.above K4.out.size (fun k _ lt => K4.out.block k lt)
    clear hev hk he hei hs
    have hev := code_Eval (A := A) (S := SB w) (R := 0) (N := w.heap.size) (E := envN) (s := ()) (u := (readB l).1) PB4.out HF.out (SB.stable w) (fun _ _ h => (HA.out.below h).sents) (Nat.lt_of_lt_of_le LW.out B04.out.size) L2.out rfl
      (fun q hq => by obtain ⟨fv, a1, a2, a3⟩ := someF_probe (SB w) 0 w.heap.size (HALL.out q hq); exact ⟨fv, a1, a3⟩) B04.out
    go_wp2_with fail
    refine hev.mono ?_
    rintro e w5 ⟨hk, he⟩
    have HR4 : Hid _ := HRRN.out
    rw [HR4.out] at he
    obtain ⟨iv4, rfl, hei, hs⟩ := he.told (HA.out.below (show Below w.heap.size w w5 from evr_state (S := SB w) he))
    have B05 : Hid (Below w.heap.size w w5) := hs
    have K5 : Hid (Below w4.heap.size w4 w5) := keep_below LW.out hk B04.out hs
    have EI4 : Hid _ := hei
    have PB5 : Hid (ProgB w1.heap.size w5 b (readB l).1 (readB l).2.mets (asks (readB l).1) (readB l).2.spans someF) := PB4.out.above K5.out.size (fun k _ lt => K5.out.block k lt)
    clear hev hk he hei hs
    have RB5 : Hid (w5.heap[w.heap.size]? = some (.cells #[.int .i64 0, .int .i64 0, .int .i64 0, .string { data := #[] }] 24 (0, 0))) := (K5.out.block _ (by have := heap_lt RB2.out; have := K3.out.size; have := K4.out.size; omega)).trans ((K4.out.block _ (by have := heap_lt RB2.out; have := K3.out.size; omega)).trans ((K3.out.block _ (heap_lt RB2.out)).trans RB2.out))
    have ho1 := EI2.out.2 w5 ((K4.out.trans (K5.out.mono K4.out.size)))
    unfold toldV at ho1
    go_wp2_with fail
    refine ho1.mono ?_
    rintro e w6 ⟨rfl, hb6⟩
    have K6 : Hid (Below w5.heap.size w5 w6) := hb6
    have ho2 := EI3.out.2 w6 (K5.out.trans (hb6.mono K5.out.size))
    unfold toldV at ho2
    clear ho1 hb6
    go_wp2_with fail
    refine ho2.mono ?_
    rintro e w7 ⟨rfl, hb7⟩
    have K7 : Hid (Below w5.heap.size w5 w7) := K6.out.trans (hb7.mono K6.out.size)
    have ho3 := EI4.out.2 w7 K7.out
    unfold toldV at ho3
    clear ho2 hb7
    go_wp2_with fail
    refine ho3.mono ?_
    rintro e w8 ⟨rfl, hb8⟩
    have B08 : Hid (Below w.heap.size w w8) := B05.out.trans ((K7.out.trans (hb8.mono K7.out.size)).mono B05.out.size)
    have RB8 := (hb8.block _ (by have := heap_lt RB5.out; have := K7.out.size; omega)).trans ((K7.out.block _ (heap_lt RB5.out)).trans RB5.out)
    have rc0 := cell_of_heap (i := 0) (v := .int .i64 0) RB8 rfl
    have rc1 := cell_of_heap (i := 1) (v := .int .i64 0) RB8 rfl
    have rc2 := cell_of_heap (i := 2) (v := .int .i64 0) RB8 rfl
    have rc3 := cell_of_heap (i := 3) (v := .string { data := #[] }) RB8 rfl
    have rz0 := frozen_of_heap (i := 0) RB8
    have rz1 := frozen_of_heap (i := 1) RB8
    have rz2 := frozen_of_heap (i := 2) RB8
    have rz3 := frozen_of_heap (i := 3) RB8
    have l8 := heap_lt RB8
    have HE4 : Hid _ := EI4.out.1
    have hie := EI4.out.1
    clear ho3 hb8 RB8
    rcases hie with ⟨n, rfl, rfl⟩ | ⟨p, y, T, x, rfl, rfl⟩
    all_goals
      go_wp2
      refine bodyPost_ret (v := .tuple #[.agg #[.int .i64 0, .int .i64 0, .int .i64 0, .string { data := #[] }], .bool true, .slice (some ⟨w8.heap.size, 0, none⟩) 3 3, .bool true]) (by simp [results, Tryz.results22, go_sem, resN, World.cell?_alloc_lt, l8, rc0, rc1, rc2, rc3]) rfl ?_
      have bb : ∀ W, Below w.heap.size w W → ∀ o, Below w.heap.size w (W.alloc o) := fun W h o => h.alloc h.size o
      refine ⟨bb _ (by (iterate 4 (refine Below.setCell ?_ (by exact Nat.le_refl _) _)); exact B08.out) _, .inl ⟨w8.heap.size, r, _, rfl, heap_new8 (by simp)⟩⟩
  · have hof := of_name w2 hq4
    unfold told4 at hof
    have HQ : Hid _ := hq1
    clear hok hq1 hq2 hq3 hq4
    go_wp2_with fail
    refine hof.mono ?_
    rintro e w3 ⟨rfl, hb3⟩
    have B03 : Hid (Below w.heap.size w w3) := B02.out.trans (hb3.mono B02.out.size)
    have RB3 := (hb3.block _ (heap_lt RB2.out)).trans RB2.out
    have rc0 := cell_of_heap (i := 0) (v := .int .i64 0) RB3 rfl
    have rc1 := cell_of_heap (i := 1) (v := .int .i64 0) RB3 rfl
    have rc2 := cell_of_heap (i := 2) (v := .int .i64 0) RB3 rfl
    have rc3 := cell_of_heap (i := 3) (v := .string { data := #[] }) RB3 rfl
    have rz0 := frozen_of_heap (i := 0) RB3
    have rz1 := frozen_of_heap (i := 1) RB3
    have rz2 := frozen_of_heap (i := 2) RB3
    have rz3 := frozen_of_heap (i := 3) RB3
    clear hof hb3 RB3
    go_wp2
    refine bodyPost_ret (v := .tuple #[told4 3 q.1 q.2, .bool false, .slice none 0 0, .bool true]) (by simp [told4, results, Tryz.results22, go_sem, rc0, rc1, rc2, rc3]) rfl ?_
    exact ⟨(by (iterate 4 (refine Below.setCell ?_ (by exact Nat.le_refl _) _)); exact B03.out), .inr ⟨3, q.1, q.2, .inl rfl, rfl⟩⟩
  · have hof := of_code (HA.out.below B02.out)
    unfold told4 at hof
    clear hok
    go_wp2_with fail
    refine hof.mono ?_
    rintro e w3 ⟨rfl, hb3⟩
    have B03 : Hid (Below w.heap.size w w3) := B02.out.trans (hb3.mono B02.out.size)
    have RB3 := (hb3.block _ (heap_lt RB2.out)).trans RB2.out
    have rc0 := cell_of_heap (i := 0) (v := .int .i64 0) RB3 rfl
    have rc1 := cell_of_heap (i := 1) (v := .int .i64 0) RB3 rfl
    have rc2 := cell_of_heap (i := 2) (v := .int .i64 0) RB3 rfl
    have rc3 := cell_of_heap (i := 3) (v := .string { data := #[] }) RB3 rfl
    have rz0 := frozen_of_heap (i := 0) RB3
    have rz1 := frozen_of_heap (i := 1) RB3
    have rz2 := frozen_of_heap (i := 2) RB3
    have rz3 := frozen_of_heap (i := 3) RB3
    clear hof hb3 RB3
    go_wp2
    refine bodyPost_ret (v := .tuple #[told4 4 0 ⟨#[]⟩, .bool false, .slice none 0 0, .bool true]) (by simp [told4, results, Tryz.results22, go_sem, rc0, rc1, rc2, rc3]) rfl ?_
    exact ⟨(by (iterate 4 (refine Below.setCell ?_ (by exact Nat.le_refl _) _)); exact B03.out), .inr ⟨4, 0, ⟨#[]⟩, .inr rfl, rfl⟩⟩
end Go.Proofs.YtaghcjpoihkpjaaGreatDoor
