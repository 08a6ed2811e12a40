/-
  scalerlaw.Codes, WALKED.
-/
import Derived.Test.YtihmgoahobbdkaaGreatDoorJE39
import Derived.Test.YtihmgoahobbdkaaGreatDoorJE35
import Derived.Test.YtihmgoahobbdkaaGreatDoorJE48
import Derived.Deep.QuietTactic
import Derived.BigQuiet
namespace Go.Proofs.YtihmgoahobbdkaaGreatDoor
open Go.RowKit Go.Lib

theorem PRel.zero {s : ByteArray} {t : Tree} {f p : Nat} (h : PRel s (some t, f, p)) : f = 0 := by
  rcases h.forms with ⟨q, -⟩ | ⟨q, -⟩ | ⟨-, q, -⟩
  · cases q
  · cases q
  · exact q
theorem PRel.wrong {s : ByteArray} {f p : Nat} (h : PRel s (none, f, p)) : (((f : Nat) : Int) != 0) = true := by
  rw [bne_iff_ne]
  rcases h.forms with ⟨-, q, -⟩ | ⟨-, q⟩ | ⟨q, -⟩
  · omega
  · omega
  · cases q
set_option maxRecDepth 1000000 in
set_option maxHeartbeats 4000000 in
theorem law_Codes (s : ByteArray) (h n : Int) (hs : s.size ≤ 9223372036854775807) {A : Nat → Addr} {w : World} (hT : TabsR w) (hA : Sents A w) :
    Calls Tryz.prog 5 #[.string s, .int .i64 h, .int .i64 n] w fun e w' => e = .returned (.bool true) ∧ Below w.heap.size w w' := by
  have hr := ref_parse s hs w hT.tabs
  have HT : Hid (TabsR w) := hT
  have HA : Hid (Sents A w) := hA
  clear hT hA
  go_enter Tryz.func5, Tryz.ntmps5
  go_wp2_with fail
  refine hr.mono ?_
  rintro e w1 ⟨t, f, p, pa, rfl, hP, hb1, htr⟩
  have hm := plain_Load s h n (HT.out.below hb1) (HA.out.below hb1)
  have HP : Hid (PRel s (t, f, p)) := hP
  have HB1 : Hid (Below w.heap.size w w1) := hb1
  have HTR : Hid (TreeAt w.heap.size w1 t (.pointer pa)) := htr
  clear hr hP hb1 htr HT HA
  go_wp2_with fail
  refine hm.mono ?_
  rintro e w2 ⟨t2, f2, p2, hP2, hb2, hM⟩
  have hd := HP.out.det hP2
  injection hd with e1 e2
  injection e2 with e2 e3
  subst e1 e2 e3
  have HB2 : Hid (Below w.heap.size w w2) := HB1.out.trans (hb2.mono HB1.out.size)
  have HB12 : Hid (Below w1.heap.size w1 w2) := hb2
  clear hP2 hb2 hm
  cases t with
  | none =>
    have hM : e = .returned (.agg #[.int .i64 0, .int .i64 0, .int .i64 0, .string ⟨#[]⟩, .bool false, .bool false, .bool false, .slice none 0 0, .bool false]) := hM
    subst hM
    have hfb := HP.out.wrong
    go_wp2
    go_ret
    exact ⟨rfl, HB2.out.alloc HB2.out.size _⟩
  | some t =>
    obtain ⟨hfit, hmb, hfi, hM⟩ := hM
    have hf := HP.out.zero
    subst hf
    have HF : Hid _ := And.intro hfit (And.intro hmb hfi)
    clear hfit hmb hfi
    cases hmi : missL (pnames h 4) (asks t) with
    | some q =>
      rw [hmi] at hM
      have hM : e = .returned (.agg #[.int .i64 3, .int .i64 (q.1 : Int), .int .i64 0, .string q.2, .bool false, .bool true, .bool false, .slice none 0 0, .bool false]) := hM
      subst hM
      have HMI : Hid _ := hmi
      have HB3 : Hid (Below w2.heap.size w2 (w2.alloc (.cells #[.int .i64 3, .int .i64 (q.1 : Int), .int .i64 0, .string q.2, .bool false, .bool true, .bool false, .slice none 0 0, .bool false] 38))) := (Below.refl _ _).alloc (Nat.le_refl _) _
      have LB : Hid ((w2.alloc (.cells #[.int .i64 3, .int .i64 (q.1 : Int), .int .i64 0, .string q.2, .bool false, .bool true, .bool false, .slice none 0 0, .bool false] 38)).heap[w2.heap.size]? = some (.cells #[.int .i64 3, .int .i64 (q.1 : Int), .int .i64 0, .string q.2, .bool false, .bool true, .bool false, .slice none 0 0, .bool false] 38 (0, 0))) := heap_alloc_new _ _
      have hnm := law_names h (w2.alloc (.cells #[.int .i64 3, .int .i64 (q.1 : Int), .int .i64 0, .string q.2, .bool false, .bool true, .bool false, .slice none 0 0, .bool false] 38))
      clear hmi
      go_wp2_with fail
      refine hnm.mono ?_
      rintro e w4 ⟨hv, rfl, hb4, ho4⟩
      have hb24 : Below w2.heap.size w2 w4 := HB3.out.trans (hb4.mono HB3.out.size)
      have L4 : Hid (w4.heap[w2.heap.size]? = _) := (hb4.block _ (heap_lt LB.out)).trans LB.out
      have HB4 : Hid (Below w.heap.size w w4) := HB2.out.trans (hb24.mono HB2.out.size)
      have hnode : IsNode (fun b => b < w4.heap.size) w4 t (.pointer pa) := by
        have q : IsNode (From w.heap.size) w1 t (.pointer pa) := HTR.out
        have hb := HB12.out.trans (hb24.mono HB12.out.size)
        exact q.moves fun b _ hlt => ⟨Nat.lt_of_lt_of_le hlt hb.size, hb.block b hlt⟩
      have hms := ref_missing t HF.out.1 _ w4 (.pointer pa) hv (pnames h 4) hnode (.of_owns ho4) (by have := pnames_length h 4; omega)
      obtain ⟨ho, hc, rfl⟩ := owns_slice_len ho4
      clear hnm hb4 ho4 hb24 hnode
      go_wp2_with fail
      refine hms.mono ?_
      rintro e w5 ⟨hb5, htold⟩
      rw [HMI.out] at htold
      obtain ⟨a, vs, rfl, b, pv, eb, -, hbk, -⟩ := htold
      injection eb with eb
      injection eb with eb
      subst eb
      have HB5 : Hid (Below w.heap.size w w5) := HB4.out.trans (hb5.mono HB4.out.size)
      have L5 : Hid (w5.heap[w2.heap.size]? = _) := (hb5.block _ (heap_lt L4.out)).trans L4.out
      have m1 : w5.cell? ⟨b, 1, none⟩ = some (.int .i64 (q.1 : Int)) := cell_of_heap hbk rfl
      have m3 : w5.cell? ⟨b, 3, none⟩ = some (.string q.2) := cell_of_heap hbk rfl
      have lb := heap_lt hbk
      have ll := heap_lt L5.out
      have lc0 := cell_of_heap (i := 0) (v := .int .i64 3) L5.out rfl
      have lc1 := cell_of_heap (i := 1) (v := .int .i64 (q.1 : Int)) L5.out rfl
      have lc2 := cell_of_heap (i := 2) (v := .int .i64 0) L5.out rfl
      have lc3 := cell_of_heap (i := 3) (v := .string q.2) L5.out rfl
      have lc4 := cell_of_heap (i := 4) (v := .bool false) L5.out rfl
      have lc5 := cell_of_heap (i := 5) (v := .bool true) L5.out rfl
      have lc6 := cell_of_heap (i := 6) (v := .bool false) L5.out rfl
      have lc7 := cell_of_heap (i := 7) (v := .slice none 0 0) L5.out rfl
      have lc8 := cell_of_heap (i := 8) (v := .bool false) L5.out rfl
      clear hms hb5 hbk
      go_wp2_with fail
      go_quiet (fail)
      go_wp2
      go_ret
      exact ⟨rfl, HB5.out.os, HB5.out.tape, HB5.out.output, HB5.out.size, HB5.out.block⟩
    | none =>
      rw [hmi] at hM
      obtain ⟨tv, rfl, htx⟩ := hM
      have HTX : Hid (Txts w2 tv (firstN n (notes [] (mets t)))) := htx
      obtain ⟨ta, tc, rfl, -⟩ := htx
      have HMI : Hid _ := hmi
      have HB3 : Hid (Below w2.heap.size w2 (w2.alloc (.cells #[.int .i64 0, .int .i64 0, .int .i64 0, .string ⟨#[]⟩, .bool true, .bool true, .bool false, .slice ta (firstN n (notes [] (mets t))).length tc, .bool true] 38))) := (Below.refl _ _).alloc (Nat.le_refl _) _
      have LB : Hid ((w2.alloc (.cells #[.int .i64 0, .int .i64 0, .int .i64 0, .string ⟨#[]⟩, .bool true, .bool true, .bool false, .slice ta (firstN n (notes [] (mets t))).length tc, .bool true] 38)).heap[w2.heap.size]? = some (.cells #[.int .i64 0, .int .i64 0, .int .i64 0, .string ⟨#[]⟩, .bool true, .bool true, .bool false, .slice ta (firstN n (notes [] (mets t))).length tc, .bool true] 38 (0, 0))) := heap_alloc_new _ _
      have hnm := law_names h (w2.alloc (.cells #[.int .i64 0, .int .i64 0, .int .i64 0, .string ⟨#[]⟩, .bool true, .bool true, .bool false, .slice ta (firstN n (notes [] (mets t))).length tc, .bool true] 38))
      clear hmi
      simp only [loadedV]
      go_wp2_with fail
      refine hnm.mono ?_
      rintro e w4 ⟨hv, rfl, hb4, ho4⟩
      have hb24 : Below w2.heap.size w2 w4 := HB3.out.trans (hb4.mono HB3.out.size)
      have HB24 : Hid _ := hb24
      have L4 : Hid (w4.heap[w2.heap.size]? = _) := (hb4.block _ (heap_lt LB.out)).trans LB.out
      have HB4 : Hid (Below w.heap.size w w4) := HB2.out.trans (hb24.mono HB2.out.size)
      have hnode : IsNode (fun b => b < w4.heap.size) w4 t (.pointer pa) := by
        have q : IsNode (From w.heap.size) w1 t (.pointer pa) := HTR.out
        have hb := HB12.out.trans (hb24.mono HB12.out.size)
        exact q.moves fun b _ hlt => ⟨Nat.lt_of_lt_of_le hlt hb.size, hb.block b hlt⟩
      have HN4 : Hid _ := hnode
      have hms := ref_missing t HF.out.1 _ w4 (.pointer pa) hv (pnames h 4) hnode (.of_owns ho4) (by have := pnames_length h 4; omega)
      obtain ⟨ho, hc, rfl⟩ := owns_slice_len ho4
      clear hnm hb4 ho4 hb24 hnode
      go_wp2_with fail
      refine hms.mono ?_
      rintro e w5 ⟨hb5, htold⟩
      rw [HMI.out] at htold
      have htold : e = .returned (.pointer none) := htold
      subst htold
      have HB5 : Hid (Below w.heap.size w w5) := HB4.out.trans (hb5.mono HB4.out.size)
      have L5 : Hid (w5.heap[w2.heap.size]? = _) := (hb5.block _ (heap_lt L4.out)).trans L4.out
      have hnode : IsNode (fun b => b < w5.heap.size) w5 t (.pointer pa) := HN4.out.moves fun b _ hlt => ⟨Nat.lt_of_lt_of_le hlt hb5.size, hb5.block b hlt⟩
      have hnb := notes_bound HF.out.2.1
      have hme := ref_metrics t HF.out.2.2 _ w5.heap.size w5 (.pointer pa) (.slice none 0 0) [] (fun b hb => hb) (Nat.le_refl _) hnode (World.ownsRow_nil _ _ _ _) (by simp; have := HF.out.2.1; omega)
      have HTX5 : Hid (Txts w5 _ (firstN n (notes [] (mets t)))) := (HTX.out.below HB24.out).below hb5
      have lc0 := cell_of_heap (i := 0) (v := .int .i64 0) L5.out rfl
      have lc1 := cell_of_heap (i := 1) (v := .int .i64 0) L5.out rfl
      have lc2 := cell_of_heap (i := 2) (v := .int .i64 0) L5.out rfl
      have lc3 := cell_of_heap (i := 3) (v := .string ⟨#[]⟩) L5.out rfl
      have lc4 := cell_of_heap (i := 4) (v := .bool true) L5.out rfl
      have lc5 := cell_of_heap (i := 5) (v := .bool true) L5.out rfl
      have lc6 := cell_of_heap (i := 6) (v := .bool false) L5.out rfl
      have lc7 := cell_of_heap (i := 7) (v := .slice ta (firstN n (notes [] (mets t))).length tc) L5.out rfl
      have lc8 := cell_of_heap (i := 8) (v := .bool true) L5.out rfl
      have ll := heap_lt L5.out
      clear hms hb5 hnode
      go_wp2_with fail
      refine hme.mono ?_
      rintro e w6 ⟨lv, rfl, ho6, hb6⟩
      have hfi := law_first (.of_owns ho6) n
      have HTX6 : Hid _ := HTX5.out.below hb6
      have HB6 : Hid (Below w.heap.size w w6) := HB5.out.trans (hb6.mono HB5.out.size)
      have L6 : Hid (w6.heap[w2.heap.size]? = _) := (hb6.block _ (heap_lt L5.out)).trans L5.out
      obtain ⟨lo, lc, rfl⟩ := owns_slice_len ho6
      clear hme hb6 ho6 lc0 lc1 lc2 lc3 lc4 lc5 lc6 lc7 lc8
      have lc0 := cell_of_heap (i := 0) (v := .int .i64 0) L6.out rfl
      have lc1 := cell_of_heap (i := 1) (v := .int .i64 0) L6.out rfl
      have lc2 := cell_of_heap (i := 2) (v := .int .i64 0) L6.out rfl
      have lc3 := cell_of_heap (i := 3) (v := .string ⟨#[]⟩) L6.out rfl
      have lc4 := cell_of_heap (i := 4) (v := .bool true) L6.out rfl
      have lc5 := cell_of_heap (i := 5) (v := .bool true) L6.out rfl
      have lc6 := cell_of_heap (i := 6) (v := .bool false) L6.out rfl
      have lc7 := cell_of_heap (i := 7) (v := .slice ta (firstN n (notes [] (mets t))).length tc) L6.out rfl
      have lc8 := cell_of_heap (i := 8) (v := .bool true) L6.out rfl
      go_wp2_with fail
      refine hfi.mono ?_
      rintro e w' ⟨⟨v', rfl, hv'⟩, hw⟩
      have hw := hw.symm
      subst hw
      have hs1 := law_same HTX6.out hv' (by
        unfold firstN
        split
        · rw [List.length_take]; omega
        · omega)
      obtain ⟨vo, vc, rfl, -⟩ := hv'
      clear hfi
      go_wp2_with fail
      refine hs1.mono ?_
      rintro e w7 ⟨rfl, hb7⟩
      have HB7 : Hid (Below w.heap.size w w7) := HB6.out.trans (hb7.mono HB6.out.size)
      have L7 : Hid (w7.heap[w2.heap.size]? = _) := (hb7.block _ (heap_lt L6.out)).trans L6.out
      clear hs1 hb7 lc0 lc1 lc2 lc3 lc4 lc5 lc6 lc7 lc8
      have lc0 := cell_of_heap (i := 0) (v := .int .i64 0) L7.out rfl
      have lc1 := cell_of_heap (i := 1) (v := .int .i64 0) L7.out rfl
      have lc2 := cell_of_heap (i := 2) (v := .int .i64 0) L7.out rfl
      have lc3 := cell_of_heap (i := 3) (v := .string ⟨#[]⟩) L7.out rfl
      have lc4 := cell_of_heap (i := 4) (v := .bool true) L7.out rfl
      have lc5 := cell_of_heap (i := 5) (v := .bool true) L7.out rfl
      have lc6 := cell_of_heap (i := 6) (v := .bool false) L7.out rfl
      have lc7 := cell_of_heap (i := 7) (v := .slice ta (firstN n (notes [] (mets t))).length tc) L7.out rfl
      have lc8 := cell_of_heap (i := 8) (v := .bool true) L7.out rfl
      go_wp2
      go_ret
      exact ⟨rfl, HB7.out⟩
end Go.Proofs.YtihmgoahobbdkaaGreatDoor
namespace Go.Proofs.YtihmgoahobbdkaaGreatDoor
open Go.RowKit Go.Lib

theorem PRel.fits {s : ByteArray} {t : Tree} {f p : Nat} (h : PRel s (some t, f, p)) : Fit t ∧ size t ≤ 200 := by
  rcases h with ⟨-, h⟩ | ⟨h1, ⟨J, -, h⟩ | ⟨u, J, -, -, h⟩ | ⟨u, J, h2, h3, h⟩⟩
  · cases h
  · cases h
  · cases h
  · injection h with h
    injection h with h
    subst h
    exact read_fits h1 h2 h3
theorem node_ne {P : Nat → Prop} {w : World} {t : Tree} {pa : Option Addr} (h : IsNode P w t (.pointer pa)) : pa ≠ none := by
  intro e
  subst e
  have key : ∀ {k p : Nat} {n : Int} {a b : ByteArray} {vs : List Value}, ¬ NodeAt P w (.pointer none) k p n a b vs := by
    rintro k p n a b vs ⟨x, pv, e, -⟩
    cases e
  cases t with
  | num p n => unfold IsNode at h; exact key h
  | neg p a => unfold IsNode at h; obtain ⟨va, h, -⟩ := h; exact key h
  | bin k p a b => unfold IsNode at h; obtain ⟨va, vb, h, -⟩ := h; exact key h
  | ite p a b c => unfold IsNode at h; obtain ⟨va, vb, vc, h, -⟩ := h; exact key h
  | meas p a b n => unfold IsNode at h; exact key h
  | probe p a ts => unfold IsNode at h; obtain ⟨vs, h, -⟩ := h; exact key h
/-- What scalerlaw.tree tells. -/
def TreeT (lo : Nat) (w : World) (pa : Option Addr) : Option Tree → Prop
  | none => pa = none
  | some t => Fit t ∧ size t ≤ 200 ∧ match missL (pnames 15 4) (asks t) with
    | none => IsNode (From lo) w t (.pointer pa) ∧ pa ≠ none
    | some _ => pa = none
set_option maxRecDepth 1000000 in
set_option maxHeartbeats 4000000 in
theorem law_tree (s : ByteArray) (hs : s.size ≤ 9223372036854775807) {w : World} (hT : TabsR w) :
    Calls Tryz.prog 17 #[.string s] w fun e w' => ∃ t pa, PTree s t ∧ e = .returned (.pointer pa) ∧ Below w.heap.size w w' ∧ TreeT w.heap.size w' pa t := by
  have hr := ref_parse s hs w hT.tabs
  clear hT
  go_enter Tryz.func17, Tryz.ntmps17
  go_wp2_with fail
  refine hr.mono ?_
  rintro e w1 ⟨t, f, p, pa, rfl, hP, hb1, htr⟩
  have HP : Hid (PTree s t) := ⟨f, p, hP⟩
  have HB1 : Hid (Below w.heap.size w w1) := hb1
  cases t with
  | none =>
    have hfb := hP.wrong
    clear hr hP hb1 htr
    go_wp2
    go_ret
    exact ⟨none, none, HP.out, rfl, HB1.out, rfl⟩
  | some t =>
    have hf := hP.zero
    subst hf
    have HF : Hid _ := hP.fits
    have HTR : Hid (IsNode (From w.heap.size) w1 t (.pointer pa)) := htr
    have hnm := law_names 15 w1
    clear hr hP hb1 htr
    go_wp2_with fail
    refine hnm.mono ?_
    rintro e w4 ⟨hv, rfl, hb4, ho4⟩
    have hnode : IsNode (fun b => b < w4.heap.size) w4 t (.pointer pa) := HTR.out.moves fun b _ hlt => ⟨Nat.lt_of_lt_of_le hlt hb4.size, hb4.block b hlt⟩
    have hms := ref_missing t HF.out.1 _ w4 (.pointer pa) hv (pnames 15 4) hnode (.of_owns ho4) (by have := pnames_length 15 4; omega)
    have HB4 : Hid (Below w1.heap.size w1 w4) := hb4
    obtain ⟨ho, hc, rfl⟩ := owns_slice_len ho4
    clear hnm hb4 ho4 hnode
    go_wp2_with fail
    refine hms.mono ?_
    rintro e w5 ⟨hb5, htold⟩
    have HB5 : Hid (Below w1.heap.size w1 w5) := HB4.out.trans (hb5.mono HB4.out.size)
    clear hms hb5
    cases hmi : missL (pnames 15 4) (asks t) with
    | some q =>
      rw [hmi] at htold
      obtain ⟨a, vs, rfl, b, pv, eb, -, hbk, -⟩ := htold
      injection eb with eb
      injection eb with eb
      subst eb
      have HMI : Hid _ := hmi
      clear hmi hbk
      go_wp2
      go_ret
      refine ⟨some t, none, HP.out, rfl, HB1.out.trans (HB5.out.mono HB1.out.size), HF.out.1, HF.out.2, ?_⟩
      rw [HMI.out]
    | none =>
      rw [hmi] at htold
      have htold : e = .returned (.pointer none) := htold
      subst htold
      have HMI : Hid _ := hmi
      clear hmi
      go_wp2
      go_ret
      refine ⟨some t, pa, HP.out, rfl, HB1.out.trans (HB5.out.mono HB1.out.size), HF.out.1, HF.out.2, ?_⟩
      rw [HMI.out]
      exact ⟨HTR.out.moves fun b hb hlt => ⟨hb, HB5.out.block b hlt⟩, node_ne HTR.out⟩
end Go.Proofs.YtihmgoahobbdkaaGreatDoor
namespace Go.Proofs.YtihmgoahobbdkaaGreatDoor
open Go.RowKit Go.Lib

theorem valP_at {t : Tree} : ∀ (seeds : List Int) (i : Nat) (x : Int) (j : Nat), seeds[i]? = some x → j < 6 → (valsP t seeds)[i * 6 + j]? = (valP (ev (envOf x) t noBytes))[j]?
  | [], i, x, j, h, _ => by simp at h
  | a :: l, 0, x, j, h, hj => by
    simp at h
    subst h
    have e : valsP t (a :: l) = valP (ev (envOf a) t noBytes) ++ valsP t l := by simp [valsP]
    rw [e, List.getElem?_append_left (by simp [valP]; omega)]
    simp
  | a :: l, i + 1, x, j, h, hj => by
    have e : valsP t (a :: l) = valP (ev (envOf a) t noBytes) ++ valsP t l := by simp [valsP]
    have e6 : (valP (ev (envOf a) t noBytes)).length = 6 := rfl
    rw [e, List.getElem?_append_right (by rw [e6]; omega), e6, show (i + 1) * 6 + j - 6 = i * 6 + j by omega]
    exact valP_at l i x j (by simpa using h) hj
/-- A cell of the row of values. -/
theorem vals_cell {w : World} {lo n m cp : Nat} {ao : Option Addr} {t : Tree} {seeds : List Int} (h : w.ownsRow lo 95 6 (.slice ao m cp) n (valsP t seeds)) {i : Nat} {x : Int} (hi : seeds[i]? = some x) : ∃ g, ao = some ⟨g, 0, none⟩ ∧ ∀ j v, (valP (ev (envOf x) t noBytes))[j]? = some v → w.cell? ⟨g, i * 6 + j, none⟩ = some v := by
  have q0 := valP_at (t := t) seeds i x 0 hi (by omega)
  rcases h.2 with ⟨h1, rfl⟩ | ⟨g, cap, cur, h1, -⟩
  · have : valsP t seeds = [] := List.eq_nil_of_length_eq_zero (by have := h.1; omega)
    rw [this] at q0
    simp [valP] at q0
  · injection h1 with h1 h2 h3
    subst h1
    refine ⟨g, rfl, fun j v hv => ?_⟩
    have hj : j < 6 := by have := (List.getElem?_eq_some_iff.1 hv).1; simpa [valP] using this
    have c := h.cells (g := g) rfl (i * 6 + j) v (by rw [valP_at seeds i x j hi hj]; exact hv)
    have ha : (⟨g, 0, none⟩ : Addr).add (i * 6 + j) = ⟨g, i * 6 + j, none⟩ := by unfold Addr.add; split <;> simp_all
    rw [ha] at c
    exact c
theorem meas_ok (w1 : World) (R : Nat) (seed T : Int) : MeasOk w1 R (.pointer none) seed T (fun kind metric n => made (mixed kind metric n seed)) :=
  ⟨meas_made w1 R seed T, fun _ _ _ => made_e _, fun kind metric n => made_in (mixed_in kind metric n seed)⟩
set_option maxRecDepth 1000000 in
set_option maxHeartbeats 4000000 in
theorem law_evals {t : Tree} {nv : Value} {seeds : List Int} {w : World} {lo g cp : Nat} {lv : Value} (hf : Fit t) (hz : size t ≤ 200) (hn : IsNode (fun _ => True) w t nv) (hl : w.ownsRow lo 95 6 lv seeds.length (valsP t seeds)) (hg : w.heap[g]? = some (.cells (ints seeds).toArray 2 (0, 0))) (h9 : seeds.length ≤ 900) :
    Calls Tryz.prog 19 #[nv, lv, .slice (some ⟨g, 0, none⟩) seeds.length cp] w fun e w' => e = .returned (.bool true) ∧ Below w.heap.size w w' := by
  obtain ⟨ao, cv, rfl⟩ := owns_len hl
  have HL : Hid (w.ownsRow lo 95 6 (.slice ao seeds.length cv) seeds.length (valsP t seeds)) := hl
  have HG : Hid _ := And.intro hg (And.intro hn (And.intro hf hz))
  clear hl hg hn hf hz
  go_enter Tryz.func19, Tryz.ntmps19
  go_wp2_with fail
  go_loopw [7] (fun v7 wr => ∃ i : Nat, v7 = .int .i64 i ∧ i ≤ seeds.length ∧ Hid (Below w.heap.size w wr)) (fun v7 _ => seeds.length - (intOf v7).toNat)
  case atStart => exact ⟨0, rfl, Nat.zero_le _, Below.refl _ _⟩
  case round =>
    obtain ⟨i, rfl, hi, HI⟩ := hrel
    rcases Nat.lt_or_ge i seeds.length with h8 | h8
    · have h8' : (i : Int) < seeds.length := by omega
      obtain ⟨x, hxi⟩ : ∃ x, seeds[i]? = some x := ⟨seeds[i], List.getElem?_eq_getElem _⟩
      have lg := heap_lt HG.out.1
      have lr := HI.out.size
      have cg : wr.cell? ⟨g, i, none⟩ = some (.int .i64 x) := cell_of_heap ((HI.out.block g lg).trans HG.out.1) (by simp [ints, hxi])
      have hW1 : WorldR (wr.alloc (.cells #[.pointer none, .int .i64 x, .int .i64 0, .string { data := #[] }] 99)) wr.heap.size (.pointer none) x 0 noBytes := heap_alloc_new _ _
      have hb1 : Below wr.heap.size wr (wr.alloc (.cells #[.pointer none, .int .i64 x, .int .i64 0, .string { data := #[] }] 99)) := (Below.refl _ _).alloc (Nat.le_refl _) _
      have hn1 : IsNode (fun b => b ≠ wr.heap.size) (wr.alloc (.cells #[.pointer none, .int .i64 x, .int .i64 0, .string { data := #[] }] 99)) t nv := HG.out.2.1.moves fun b _ hlt => ⟨by omega, (hb1.block b (by omega)).trans (HI.out.block b hlt)⟩
      have hc := ref_tree (meas_ok (wr.alloc (.cells #[.pointer none, .int .i64 x, .int .i64 0, .string { data := #[] }] 99)) wr.heap.size x 0) (by simp) t nv HG.out.2.2.1 hn1 0 noBytes (wr.alloc (.cells #[.pointer none, .int .i64 x, .int .i64 0, .string { data := #[] }] 99)) (Keep.refl _ _) ⟨Keep.refl _ _, hW1, by show 0 + 1000 * (0 + size t) ≤ _; have := HG.out.2.2.2; omega⟩
      obtain ⟨g2, rfl, hcells⟩ := vals_cell HL.out hxi
      have l2 : g2 < w.heap.size := (HL.out.lt _ rfl).2
      have hcells : ∀ j v, (valP (ev (envOf x) t noBytes))[j]? = some v → w.cell? ⟨g2, i * 6 + j, none⟩ = some v := hcells
      have henv : refEnv (fun kind metric n => made (mixed kind metric n x)) = envOf x := rfl
      rw [henv] at hc
      generalize hr : ev (envOf x) t noBytes = r at hc hcells
      obtain ⟨r, t2⟩ := r
      unfold valV at hc
      simp only at hc
      have HCL : Hid _ := hcells
      have HB1 : Hid _ := hb1
      clear hcells hn1 hW1 hb1 hr hxi henv
      go_wp2_with fail
      refine hc.mono ?_
      rintro e w7 ⟨hk7, rfl, hs7, -⟩
      have hb7 : Below w.heap.size w w7 := HI.out.trans ((HB1.out.trans (hk7.below HB1.out.size (Nat.le_refl _))).mono HI.out.size)
      have q0 : w7.cell? ⟨g2, i * 6, none⟩ = some (.int .i64 (resE r)) := cell_below hb7 (HCL.out 0 _ rfl)
      have q1 : w7.cell? ⟨g2, i * 6 + 1, none⟩ = some (.int .i64 (resP r)) := cell_below hb7 (HCL.out 1 _ rfl)
      have q2 : w7.cell? ⟨g2, i * 6 + 2, none⟩ = some (.int .i64 (resM r)) := cell_below hb7 (HCL.out 2 _ rfl)
      have q4 : w7.cell? ⟨g2, i * 6 + 4, none⟩ = some (.int .i64 (resN r)) := cell_below hb7 (HCL.out 4 _ rfl)
      have q5 : w7.cell? ⟨g2, i * 6 + 5, none⟩ = some (.string t2) := cell_below hb7 (HCL.out 5 _ rfl)
      have q6 : w7.cell? ⟨wr.heap.size, 3, none⟩ = some (.string t2) := cell_of_heap hs7.2.1 rfl
      have l7 : g2 < w7.heap.size := by have := hb7.size; omega
      have lw7 := heap_lt hs7.2.1
      have H7 : Hid (Below w.heap.size w w7) := hb7
      generalize resE r = E at *
      generalize resP r = P at *
      generalize resM r = M at *
      generalize resN r = N at *
      clear hc hk7 hs7 hb7
      go_wp2_with fail
      go_quiet (fail)
      go_wp2
      go_roundw
      case rel => exact ⟨i + 1, by go_num, by omega, below_drewN (H7.out.alloc H7.out.size _) _⟩
      case measure => simp [intOf]; omega
    · have h8' : ¬ (i : Int) < seeds.length := by omega
      go_wp2
      go_ret
      exact ⟨rfl, HI.out⟩
end Go.Proofs.YtihmgoahobbdkaaGreatDoor
