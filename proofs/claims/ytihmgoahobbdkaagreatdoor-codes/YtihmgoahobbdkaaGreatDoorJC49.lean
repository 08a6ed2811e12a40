/-
  scalerlaw.Codes, WALKED.
-/
import Derived.Test.YtihmgoahobbdkaaGreatDoorJC48
import Derived.Test.YtihmgoahobbdkaaGreatDoorJC30
namespace Go.Proofs.YtihmgoahobbdkaaGreatDoor
open Go.RowKit Go.Lib

theorem PRel.zero {s : ByteArray} {t : Tree} {f p : Nat} (h : PRel s (some t, f, p)) : f = 0 := by
  rcases h.forms with ⟨q, -⟩ | ⟨q, -⟩ | ⟨-, q, -⟩
  · cases q
  · cases q
  · exact q
theorem PRel.wrong {s : ByteArray} {f p : Nat} (h : PRel s (none, f, p)) : (((f : Nat) : Int) != 0) = true := by
  rw [bne_iff_ne]
  rcases h.forms with ⟨-, q, -⟩ | ⟨-, q⟩ | ⟨q, -⟩
  · omega
  · omega
  · cases q
set_option maxRecDepth 1000000 in
set_option maxHeartbeats 4000000 in
theorem law_Codes (s : ByteArray) (h n : Int) (hs : s.size ≤ 9223372036854775807) {A : Nat → Addr} {w : World} (hT : TabsR w) (hA : Sents A w) :
    Calls Tryz.prog 5 #[.string s, .int .i64 h, .int .i64 n] w fun e w' => e = .returned (.bool true) ∧ Below w.heap.size w w' := by
  have hr := ref_parse s hs w hT.tabs
  have HT : Hid (TabsR w) := hT
  have HA : Hid (Sents A w) := hA
  clear hT hA
  go_enter Tryz.func5, Tryz.ntmps5
  go_wp2_with fail
  refine hr.mono ?_
  rintro e w1 ⟨t, f, p, pa, rfl, hP, hb1, htr⟩
  have hm := plain_Load s h n (HT.out.below hb1) (HA.out.below hb1)
  have HP : Hid (PRel s (t, f, p)) := hP
  have HB1 : Hid (Below w.heap.size w w1) := hb1
  have HTR : Hid (TreeAt w.heap.size w1 t (.pointer pa)) := htr
  clear hr hP hb1 htr HT HA
  go_wp2_with fail
  refine hm.mono ?_
  rintro e w2 ⟨t2, f2, p2, hP2, hb2, hM⟩
  have hd := HP.out.det hP2
  injection hd with e1 e2
  injection e2 with e2 e3
  subst e1 e2 e3
  have HB2 : Hid (Below w.heap.size w w2) := HB1.out.trans (hb2.mono HB1.out.size)
  have HB12 : Hid (Below w1.heap.size w1 w2) := hb2
  clear hP2 hb2 hm
  cases t with
  | none =>
    have hM : e = .returned (.agg #[.int .i64 0, .int .i64 0, .int .i64 0, .string ⟨#[]⟩, .bool false, .bool false, .bool false, .slice none 0 0, .bool false]) := hM
    subst hM
    have hfb := HP.out.wrong
    go_wp2
    go_ret
    exact ⟨rfl, HB2.out.alloc HB2.out.size _⟩
  | some t =>
    obtain ⟨hfit, hmb, hfi, hM⟩ := hM
    have hf := HP.out.zero
    subst hf
    have HF : Hid _ := And.intro hfit (And.intro hmb hfi)
    clear hfit hmb hfi
    cases hmi : missL (pnames h 4) (asks t) with
    | some q =>
      rw [hmi] at hM
      have hM : e = .returned (.agg #[.int .i64 3, .int .i64 (q.1 : Int), .int .i64 0, .string q.2, .bool false, .bool true, .bool false, .slice none 0 0, .bool false]) := hM
      subst hM
      have HMI : Hid _ := hmi
      have HB3 : Hid (Below w2.heap.size w2 (w2.alloc (.cells #[.int .i64 3, .int .i64 (q.1 : Int), .int .i64 0, .string q.2, .bool false, .bool true, .bool false, .slice none 0 0, .bool false] 38))) := (Below.refl _ _).alloc (Nat.le_refl _) _
      have LB : Hid ((w2.alloc (.cells #[.int .i64 3, .int .i64 (q.1 : Int), .int .i64 0, .string q.2, .bool false, .bool true, .bool false, .slice none 0 0, .bool false] 38)).heap[w2.heap.size]? = some (.cells #[.int .i64 3, .int .i64 (q.1 : Int), .int .i64 0, .string q.2, .bool false, .bool true, .bool false, .slice none 0 0, .bool false] 38 (0, 0))) := heap_alloc_new _ _
      have hnm := law_names h (w2.alloc (.cells #[.int .i64 3, .int .i64 (q.1 : Int), .int .i64 0, .string q.2, .bool false, .bool true, .bool false, .slice none 0 0, .bool false] 38))
      clear hmi
      go_wp2_with fail
      refine hnm.mono ?_
      rintro e w4 ⟨hv, rfl, hb4, ho4⟩
      have hb24 : Below w2.heap.size w2 w4 := HB3.out.trans (hb4.mono HB3.out.size)
      have L4 : Hid (w4.heap[w2.heap.size]? = _) := (hb4.block _ (heap_lt LB.out)).trans LB.out
      have HB4 : Hid (Below w.heap.size w w4) := HB2.out.trans (hb24.mono HB2.out.size)
      have hnode : IsNode (fun b => b < w4.heap.size) w4 t (.pointer pa) := by
        have q : IsNode (From w.heap.size) w1 t (.pointer pa) := HTR.out
        have hb := HB12.out.trans (hb24.mono HB12.out.size)
        exact q.moves fun b _ hlt => ⟨Nat.lt_of_lt_of_le hlt hb.size, hb.block b hlt⟩
      have hms := ref_missing t HF.out.1 _ w4 (.pointer pa) hv (pnames h 4) hnode (.of_owns ho4) (by have := pnames_length h 4; omega)
      obtain ⟨ho, hc, rfl⟩ := owns_slice_len ho4
      clear hnm hb4 ho4 hb24 hnode
      go_wp2_with fail
      refine hms.mono ?_
      rintro e w5 ⟨hb5, htold⟩
      rw [HMI.out] at htold
      obtain ⟨a, vs, rfl, b, pv, eb, -, hbk, -⟩ := htold
      injection eb with eb
      injection eb with eb
      subst eb
      have HB5 : Hid (Below w.heap.size w w5) := HB4.out.trans (hb5.mono HB4.out.size)
      have L5 : Hid (w5.heap[w2.heap.size]? = _) := (hb5.block _ (heap_lt L4.out)).trans L4.out
      have m1 : w5.cell? ⟨b, 1, none⟩ = some (.int .i64 (q.1 : Int)) := cell_of_heap hbk rfl
      have m3 : w5.cell? ⟨b, 3, none⟩ = some (.string q.2) := cell_of_heap hbk rfl
      have lb := heap_lt hbk
      have ll := heap_lt L5.out
      have lc0 := cell_of_heap (i := 0) (v := .int .i64 3) L5.out rfl
      have lc1 := cell_of_heap (i := 1) (v := .int .i64 (q.1 : Int)) L5.out rfl
      have lc2 := cell_of_heap (i := 2) (v := .int .i64 0) L5.out rfl
      have lc3 := cell_of_heap (i := 3) (v := .string q.2) L5.out rfl
      have lc4 := cell_of_heap (i := 4) (v := .bool false) L5.out rfl
      have lc5 := cell_of_heap (i := 5) (v := .bool true) L5.out rfl
      have lc6 := cell_of_heap (i := 6) (v := .bool false) L5.out rfl
      have lc7 := cell_of_heap (i := 7) (v := .slice none 0 0) L5.out rfl
      have lc8 := cell_of_heap (i := 8) (v := .bool false) L5.out rfl
      clear hms hb5 hbk
      go_wp2_with fail
      go_quiet (fail)
      go_wp2
      go_ret
      exact ⟨rfl, HB5.out.os, HB5.out.tape, HB5.out.output, HB5.out.size, HB5.out.block⟩
    | none =>
      rw [hmi] at hM
      obtain ⟨tv, rfl, htx⟩ := hM
      have HTX : Hid (Txts w2 tv (firstN n (notes [] (mets t)))) := htx
      obtain ⟨ta, tc, rfl, -⟩ := htx
      have HMI : Hid _ := hmi
      have HB3 : Hid (Below w2.heap.size w2 (w2.alloc (.cells #[.int .i64 0, .int .i64 0, .int .i64 0, .string ⟨#[]⟩, .bool true, .bool true, .bool false, .slice ta (firstN n (notes [] (mets t))).length tc, .bool true] 38))) := (Below.refl _ _).alloc (Nat.le_refl _) _
      have LB : Hid ((w2.alloc (.cells #[.int .i64 0, .int .i64 0, .int .i64 0, .string ⟨#[]⟩, .bool true, .bool true, .bool false, .slice ta (firstN n (notes [] (mets t))).length tc, .bool true] 38)).heap[w2.heap.size]? = some (.cells #[.int .i64 0, .int .i64 0, .int .i64 0, .string ⟨#[]⟩, .bool true, .bool true, .bool false, .slice ta (firstN n (notes [] (mets t))).length tc, .bool true] 38 (0, 0))) := heap_alloc_new _ _
      have hnm := law_names h (w2.alloc (.cells #[.int .i64 0, .int .i64 0, .int .i64 0, .string ⟨#[]⟩, .bool true, .bool true, .bool false, .slice ta (firstN n (notes [] (mets t))).length tc, .bool true] 38))
      clear hmi
      simp only [loadedV]
      go_wp2_with fail
      refine hnm.mono ?_
      rintro e w4 ⟨hv, rfl, hb4, ho4⟩
      have hb24 : Below w2.heap.size w2 w4 := HB3.out.trans (hb4.mono HB3.out.size)
      have HB24 : Hid _ := hb24
      have L4 : Hid (w4.heap[w2.heap.size]? = _) := (hb4.block _ (heap_lt LB.out)).trans LB.out
      have HB4 : Hid (Below w.heap.size w w4) := HB2.out.trans (hb24.mono HB2.out.size)
      have hnode : IsNode (fun b => b < w4.heap.size) w4 t (.pointer pa) := by
        have q : IsNode (From w.heap.size) w1 t (.pointer pa) := HTR.out
        have hb := HB12.out.trans (hb24.mono HB12.out.size)
        exact q.moves fun b _ hlt => ⟨Nat.lt_of_lt_of_le hlt hb.size, hb.block b hlt⟩
      have HN4 : Hid _ := hnode
      have hms := ref_missing t HF.out.1 _ w4 (.pointer pa) hv (pnames h 4) hnode (.of_owns ho4) (by have := pnames_length h 4; omega)
      obtain ⟨ho, hc, rfl⟩ := owns_slice_len ho4
      clear hnm hb4 ho4 hb24 hnode
      go_wp2_with fail
      refine hms.mono ?_
      rintro e w5 ⟨hb5, htold⟩
      rw [HMI.out] at htold
      have htold : e = .returned (.pointer none) := htold
      subst htold
      have HB5 : Hid (Below w.heap.size w w5) := HB4.out.trans (hb5.mono HB4.out.size)
      have L5 : Hid (w5.heap[w2.heap.size]? = _) := (hb5.block _ (heap_lt L4.out)).trans L4.out
      have hnode : IsNode (fun b => b < w5.heap.size) w5 t (.pointer pa) := HN4.out.moves fun b _ hlt => ⟨Nat.lt_of_lt_of_le hlt hb5.size, hb5.block b hlt⟩
      have hnb := notes_bound HF.out.2.1
      have hme := ref_metrics t HF.out.2.2 _ w5.heap.size w5 (.pointer pa) (.slice none 0 0) [] (fun b hb => hb) (Nat.le_refl _) hnode (World.ownsRow_nil _ _ _ _) (by simp; have := HF.out.2.1; omega)
      have HTX5 : Hid (Txts w5 _ (firstN n (notes [] (mets t)))) := (HTX.out.below HB24.out).below hb5
      have lc0 := cell_of_heap (i := 0) (v := .int .i64 0) L5.out rfl
      have lc1 := cell_of_heap (i := 1) (v := .int .i64 0) L5.out rfl
      have lc2 := cell_of_heap (i := 2) (v := .int .i64 0) L5.out rfl
      have lc3 := cell_of_heap (i := 3) (v := .string ⟨#[]⟩) L5.out rfl
      have lc4 := cell_of_heap (i := 4) (v := .bool true) L5.out rfl
      have lc5 := cell_of_heap (i := 5) (v := .bool true) L5.out rfl
      have lc6 := cell_of_heap (i := 6) (v := .bool false) L5.out rfl
      have lc7 := cell_of_heap (i := 7) (v := .slice ta (firstN n (notes [] (mets t))).length tc) L5.out rfl
      have lc8 := cell_of_heap (i := 8) (v := .bool true) L5.out rfl
      have ll := heap_lt L5.out
      clear hms hb5 hnode
      go_wp2_with fail
      refine hme.mono ?_
      rintro e w6 ⟨lv, rfl, ho6, hb6⟩
      have hfi := law_first (.of_owns ho6) n
      have HTX6 : Hid _ := HTX5.out.below hb6
      have HB6 : Hid (Below w.heap.size w w6) := HB5.out.trans (hb6.mono HB5.out.size)
      have L6 : Hid (w6.heap[w2.heap.size]? = _) := (hb6.block _ (heap_lt L5.out)).trans L5.out
      obtain ⟨lo, lc, rfl⟩ := owns_slice_len ho6
      clear hme hb6 ho6 lc0 lc1 lc2 lc3 lc4 lc5 lc6 lc7 lc8
      have lc0 := cell_of_heap (i := 0) (v := .int .i64 0) L6.out rfl
      have lc1 := cell_of_heap (i := 1) (v := .int .i64 0) L6.out rfl
      have lc2 := cell_of_heap (i := 2) (v := .int .i64 0) L6.out rfl
      have lc3 := cell_of_heap (i := 3) (v := .string ⟨#[]⟩) L6.out rfl
      have lc4 := cell_of_heap (i := 4) (v := .bool true) L6.out rfl
      have lc5 := cell_of_heap (i := 5) (v := .bool true) L6.out rfl
      have lc6 := cell_of_heap (i := 6) (v := .bool false) L6.out rfl
      have lc7 := cell_of_heap (i := 7) (v := .slice ta (firstN n (notes [] (mets t))).length tc) L6.out rfl
      have lc8 := cell_of_heap (i := 8) (v := .bool true) L6.out rfl
      go_wp2_with fail
      refine hfi.mono ?_
      rintro e w' ⟨⟨v', rfl, hv'⟩, hw⟩
      have hw := hw.symm
      subst hw
      have hs1 := law_same HTX6.out hv' (by
        unfold firstN
        split
        · rw [List.length_take]; omega
        · omega)
      obtain ⟨vo, vc, rfl, -⟩ := hv'
      clear hfi
      go_wp2_with fail
      refine hs1.mono ?_
      rintro e w7 ⟨rfl, hb7⟩
      have HB7 : Hid (Below w.heap.size w w7) := HB6.out.trans (hb7.mono HB6.out.size)
      have L7 : Hid (w7.heap[w2.heap.size]? = _) := (hb7.block _ (heap_lt L6.out)).trans L6.out
      clear hs1 hb7 lc0 lc1 lc2 lc3 lc4 lc5 lc6 lc7 lc8
      have lc0 := cell_of_heap (i := 0) (v := .int .i64 0) L7.out rfl
      have lc1 := cell_of_heap (i := 1) (v := .int .i64 0) L7.out rfl
      have lc2 := cell_of_heap (i := 2) (v := .int .i64 0) L7.out rfl
      have lc3 := cell_of_heap (i := 3) (v := .string ⟨#[]⟩) L7.out rfl
      have lc4 := cell_of_heap (i := 4) (v := .bool true) L7.out rfl
      have lc5 := cell_of_heap (i := 5) (v := .bool true) L7.out rfl
      have lc6 := cell_of_heap (i := 6) (v := .bool false) L7.out rfl
      have lc7 := cell_of_heap (i := 7) (v := .slice ta (firstN n (notes [] (mets t))).length tc) L7.out rfl
      have lc8 := cell_of_heap (i := 8) (v := .bool true) L7.out rfl
      go_wp2
      go_ret
      exact ⟨rfl, HB7.out⟩
end Go.Proofs.YtihmgoahobbdkaaGreatDoor
