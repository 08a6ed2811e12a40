/-
  plain's pairs of windows: NewWindows, Push, Advance, Len, Ends, WALKED.
-/
import Derived.Test.YtjcbbcnjnnpfoaaWinR
import Derived.Deep.RegionHeld3
namespace Go.Proofs.Ytjcbbcnjnnpfoaa
open Go.RowKit Go.Lib Go.Shelf

noncomputable abbrev keyed (k : List (Int × Int)) : List (Int × ByteArray) := k.map (fun x => (x.1, keyOf x.2))
/-- A window of numbers and one of texts, with the same samples. -/
structure Both (w : World) (bw Rn Rs : Nat) (wid tm : Int) (k : List (Int × Int)) (mn ms : Value) : Prop where
  blk : w.heap[bw]? = some (.cells #[.pointer (some ⟨Rn, 0, none⟩), .pointer (some ⟨Rs, 0, none⟩)] 38 (0, 0))
  n : WinI w Rn wid tm k mn
  s : WinS w Rs wid tm (keyed k) ms
  len : k.length ≤ 16
  le : ∀ x ∈ k, x.1 ≤ tm
/-- The blocks of a pair. -/
abbrev BothP (Rn Rs : Nat) (mn ms : Value) : Nat → Prop := fun b => Mine Rn mn b ∨ Mine Rs ms b
theorem Both.only {w w' : World} {bw Rn Rs : Nat} {wid tm : Int} {k : List (Int × Int)} {mn ms : Value} {P : Nat → Prop} (h : Both w bw Rn Rs wid tm k mn ms) (ho : Only P w w') (h0 : ¬ P bw) (h1 : ¬ P Rn) (h2 : ¬ P Rs) (h3 : ∀ g, mn.ownBlock = some g → ¬ P g) (h4 : ∀ g, ms.ownBlock = some g → ¬ P g) : Both w' bw Rn Rs wid tm k mn ms :=
  ⟨ho.heap h.blk h0, h.n.only ho h1 h3, h.s.only ho h2 h4, h.len, h.le⟩
theorem Both.below {w w' : World} {bw Rn Rs : Nat} {wid tm : Int} {k : List (Int × Int)} {mn ms : Value} (h : Both w bw Rn Rs wid tm k mn ms) (hb : Below w.heap.size w w') : Both w' bw Rn Rs wid tm k mn ms :=
  h.only (P := fun _ => False) (.of_below hb) id id id (fun _ _ => id) (fun _ _ => id)
/-- What the window of numbers turns is not the pair's block, nor the window of texts. -/
theorem Both.apartN {w : World} {bw Rn Rs : Nat} {wid tm : Int} {k : List (Int × Int)} {mn ms : Value} (h : Both w bw Rn Rs wid tm k mn ms) : ¬ Mine Rn mn bw ∧ ¬ Mine Rn mn Rs ∧ ∀ g, ms.ownBlock = some g → ¬ Mine Rn mn g := by
  refine ⟨fun q => ?_, fun q => ?_, fun g hg q => ?_⟩
  · rcases q with q | q
    · exact kind_ne h.blk h.n.blk (by decide) q
    · exact row_ne h.blk h.n.own (by decide) q
  · rcases q with q | q
    · exact kind_ne h.s.blk h.n.blk (by decide) q
    · exact row_ne h.s.blk h.n.own (by decide) q
  · rcases q with q | q
    · subst q; exact row_ne h.n.blk h.s.own (by decide) hg
    · exact rows_ne h.s.own h.n.own (by decide) g hg q
theorem Both.apartS {w : World} {bw Rn Rs : Nat} {wid tm : Int} {k : List (Int × Int)} {mn ms : Value} (h : Both w bw Rn Rs wid tm k mn ms) : ¬ Mine Rs ms bw ∧ ¬ Mine Rs ms Rn ∧ ∀ g, mn.ownBlock = some g → ¬ Mine Rs ms g := by
  refine ⟨fun q => ?_, fun q => ?_, fun g hg q => ?_⟩
  · rcases q with q | q
    · exact kind_ne h.blk h.s.blk (by decide) q
    · exact row_ne h.blk h.s.own (by decide) q
  · rcases q with q | q
    · exact kind_ne h.n.blk h.s.blk (by decide) q
    · exact row_ne h.n.blk h.s.own (by decide) q
  · rcases q with q | q
    · subst q; exact row_ne h.s.blk h.n.own (by decide) hg
    · exact rows_ne h.n.own h.s.own (by decide) g hg q
/-- A row that is the old one, or a new one. -/
abbrev Renew (sz : Nat) (old new : Value) : Prop := new.ownBlock = old.ownBlock ∨ ∃ g, new.ownBlock = some g ∧ sz ≤ g
theorem Renew.mono {sz sz' : Nat} {a b : Value} (h : Renew sz a b) (hs : sz' ≤ sz) : Renew sz' a b := by
  rcases h with h | ⟨g, h, hg⟩
  · exact .inl h
  · exact .inr ⟨g, h, Nat.le_trans hs hg⟩

set_option maxRecDepth 1000000 in
theorem pnew (w : World) (wid : Int) (hw : I64 wid) :
    Calls Try.prog 4 #[.int .i64 wid] w fun e w' => ∃ bw Rn Rs, e = .returned (.pointer (some ⟨bw, 0, none⟩)) ∧ Below w.heap.size w w' ∧ w.heap.size ≤ bw ∧ w.heap.size ≤ Rn ∧ w.heap.size ≤ Rs ∧ Both w' bw Rn Rs wid (-9223372036854775808) [] (.slice none 0 0) (.slice none 0 0) := by
  have h1 := newI w wid hw
  go_enter Try.func4, Try.ntmps4
  go_wp2_with fail
  refine h1.mono ?_
  rintro e w1 ⟨rfl, hb1, hs1, hn⟩
  have h2 := newS w1 wid hw
  have HB1 : Hid (Below w.heap.size w w1) := hb1
  have HN : Hid (WinI w1 w.heap.size wid (-9223372036854775808) [] (.slice none 0 0)) := hn
  have z1 : w.heap.size ≤ w1.heap.size := hb1.size
  clear h1 hb1 hn hs1
  go_wp2_with fail
  refine h2.mono ?_
  rintro e w2 ⟨rfl, hb2, hs2, hn⟩
  have HB2 : Hid (Below w1.heap.size w1 w2) := hb2
  have HS : Hid (WinS w2 w1.heap.size wid (-9223372036854775808) [] (.slice none 0 0)) := hn
  have z2 : w1.heap.size ≤ w2.heap.size := hb2.size
  clear h2 hb2 hn hs2
  have n0 : (w2.alloc (.cells #[.pointer (some ⟨w.heap.size, 0, none⟩), .pointer (some ⟨w1.heap.size, 0, none⟩)] 38)).cell? ⟨w2.heap.size, 0, none⟩ = some (.pointer (some ⟨w.heap.size, 0, none⟩)) := cell_of_heap (block_new _ _ _) rfl
  have n1 : (w2.alloc (.cells #[.pointer (some ⟨w.heap.size, 0, none⟩), .pointer (some ⟨w1.heap.size, 0, none⟩)] 38)).cell? ⟨w2.heap.size, 1, none⟩ = some (.pointer (some ⟨w1.heap.size, 0, none⟩)) := cell_of_heap (block_new _ _ _) rfl
  go_wp2
  go_ret
  have bl := (Below.refl w2.heap.size w2).alloc (Nat.le_refl _) (.cells #[.pointer (some ⟨w.heap.size, 0, none⟩), .pointer (some ⟨w1.heap.size, 0, none⟩)] 38)
  refine ⟨w2.heap.size, w.heap.size, w1.heap.size, rfl, (HB1.out.trans (HB2.out.mono (by omega))).alloc (by omega) _, by omega, Nat.le_refl _, by omega, block_new _ _ _, ?_, ?_, by simp, by simp⟩
  · exact (HN.out.below HB2.out).below bl
  · exact HS.out.below bl

set_option maxRecDepth 1000000 in
theorem plen {w : World} {bw Rn Rs : Nat} {wid tm : Int} {k : List (Int × Int)} {mn ms : Value} (h : Both w bw Rn Rs wid tm k mn ms) :
    Calls Try.prog 10 #[.pointer (some ⟨bw, 0, none⟩)] w fun e w' => e = .returned (.tuple #[.int .i64 k.length, .int .i64 k.length]) ∧ Below w.heap.size w w' := by
  have c0 := cell_of_heap (i := 0) h.blk rfl
  have c1 := cell_of_heap (i := 1) h.blk rfl
  have H : Hid (Both w bw Rn Rs wid tm k mn ms) := h
  clear h
  go_enter Try.func10, Try.ntmps10
  go_wp2_with fail
  go_region_with (first | (go_at_call 18; refine (lenI (H.out.below (Below.refl _ _).drew).n).mono ?_; rintro e w' ⟨rfl, hw⟩; have hw := hw.symm; subst hw) | (go_at_call 19; refine (lenS (H.out.below (Below.refl _ _).drew).s).mono ?_; rintro e w' ⟨rfl, hw⟩; have hw := hw.symm; subst hw))
  all_goals
    go_wp2
    go_ret2
    exact ⟨rfl, (Below.refl _ _).drew⟩

set_option maxRecDepth 1000000 in
set_option maxHeartbeats 1000000 in
theorem ppush {w : World} {bw Rn Rs : Nat} {wid tm : Int} {k : List (Int × Int)} {mn ms : Value} (h : Both w bw Rn Rs wid tm k mn ms) (t v : Int) (ht : I64 t) (hle : tm ≤ t) :
    Calls Try.prog 15 #[.pointer (some ⟨bw, 0, none⟩), .int .i64 t, .int .i64 v, .string (keyOf v)] w fun e w' => e = .returned (.tuple #[.bool true, .bool true]) ∧ ∃ mn' ms', Both w' bw Rn Rs wid t (trim wid t (k ++ [(t, v)])) mn' ms' ∧ Renew w.heap.size mn mn' ∧ Renew w.heap.size ms ms' ∧ Only (BothP Rn Rs mn ms) w w' := by
  have c0 := cell_of_heap (i := 0) h.blk rfl
  have hp := pushI h.n h.len t v ht hle (fun x hx => Int.le_trans (h.le x hx) hle)
  have H : Hid (Both w bw Rn Rs wid tm k mn ms) := h
  clear h
  go_enter Try.func15, Try.ntmps15
  go_wp2_with fail
  refine hp.mono ?_
  rintro e w1 ⟨rfl, mn', hn', hr1, ho1⟩
  obtain ⟨a1, a2, a3⟩ := H.out.apartN
  have hs1 := H.out.s.only ho1 a2 a3
  have b1 := ho1.heap H.out.blk a1
  have d1 := cell_of_heap (i := 1) b1 rfl
  have hps := pushS hs1 (by simp; exact H.out.len) t (keyOf v) ht hle (fun x hx => by
    obtain ⟨y, hy, rfl⟩ := List.mem_map.1 hx
    exact Int.le_trans (H.out.le y hy) hle)
  have G1 : Hid _ := And.intro hn' (And.intro hr1 (And.intro ho1 (And.intro b1 hs1)))
  clear hp hn' hr1 ho1 a1 a2 a3 hs1 b1
  go_wp2_with fail
  refine hps.mono ?_
  rintro e w2 ⟨rfl, ms', hs', hr2, ho2⟩
  have G2 : Hid _ := And.intro hs' (And.intro hr2 ho2)
  clear hps hs' hr2 ho2
  go_wp2
  go_ret2
  obtain ⟨hn', hr1, ho1, b1, hs1⟩ := G1.out
  obtain ⟨hs', hr2, ho2⟩ := G2.out
  have e1 : trim wid t (keyed k ++ [(t, keyOf v)]) = keyed (trim wid t (k ++ [(t, v)])) := by
    unfold keyed
    rw [← trim_map]
    simp
  rw [e1] at hs'
  -- what the window of texts turns is not the pair's block, nor the window of numbers
  have q1 : ¬ Mine Rs ms bw := fun q => by
    rcases q with q | q
    · exact kind_ne b1 hs1.blk (by decide) q
    · exact row_ne b1 hs1.own (by decide) q
  have q2 : ¬ Mine Rs ms Rn := fun q => by
    rcases q with q | q
    · exact kind_ne hn'.blk hs1.blk (by decide) q
    · exact row_ne hn'.blk hs1.own (by decide) q
  have q3 : ∀ g, mn'.ownBlock = some g → ¬ Mine Rs ms g := fun g hg q => by
    rcases q with q | q
    · subst q; exact row_ne hs1.blk hn'.own (by decide) hg
    · exact rows_ne hn'.own hs1.own (by decide) g hg q
  have hl : (trim wid t (k ++ [(t, v)])).length ≤ 16 := by
    unfold trim
    refine Nat.le_trans (List.dropWhile_sublist _).length_le ?_
    rw [List.length_drop]
    omega
  have hm : ∀ x ∈ trim wid t (k ++ [(t, v)]), x.1 ≤ t := fun x hx => by
    have := List.mem_of_mem_drop ((List.dropWhile_sublist _).subset hx)
    rcases List.mem_append.1 this with q | q
    · exact Int.le_trans (H.out.le x q) hle
    · rw [List.mem_singleton.1 q]; exact Int.le_refl _
  refine ⟨rfl, mn', ms', ⟨ho2.heap b1 q1, hn'.only ho2 q2 q3, hs', hl, hm⟩, hr1, Renew.mono hr2 ho1.size, ?_⟩
  exact (ho1.mono (Q := BothP Rn Rs mn ms) (fun _ _ q => .inl q)).trans ho2 (fun b hb q => .inr q)

set_option maxRecDepth 1000000 in
set_option maxHeartbeats 1000000 in
theorem padvance {w : World} {bw Rn Rs : Nat} {wid tm : Int} {k : List (Int × Int)} {mn ms : Value} (h : Both w bw Rn Rs wid tm k mn ms) (t : Int) (ht : I64 t) (hle : tm ≤ t) :
    Calls Try.prog 16 #[.pointer (some ⟨bw, 0, none⟩), .int .i64 t] w fun e w' => e = .returned (.tuple #[.bool true, .bool true]) ∧ ∃ mn' ms', Both w' bw Rn Rs wid t (trim wid t k) mn' ms' ∧ Renew w.heap.size mn mn' ∧ Renew w.heap.size ms ms' ∧ Only (BothP Rn Rs mn ms) w w' := by
  have c0 := cell_of_heap (i := 0) h.blk rfl
  have hp := advanceI h.n t ht hle (fun x hx => Int.le_trans (h.le x hx) hle)
  have H : Hid (Both w bw Rn Rs wid tm k mn ms) := h
  clear h
  go_enter Try.func16, Try.ntmps16
  go_wp2_with fail
  refine hp.mono ?_
  rintro e w1 ⟨rfl, mn', hn', hr1, ho1⟩
  obtain ⟨a1, a2, a3⟩ := H.out.apartN
  have hs1 := H.out.s.only ho1 a2 a3
  have b1 := ho1.heap H.out.blk a1
  have d1 := cell_of_heap (i := 1) b1 rfl
  have hps := advanceS hs1 t ht hle (fun x hx => by
    obtain ⟨y, hy, rfl⟩ := List.mem_map.1 hx
    exact Int.le_trans (H.out.le y hy) hle)
  have G1 : Hid _ := And.intro hn' (And.intro hr1 (And.intro ho1 (And.intro b1 hs1)))
  clear hp hn' hr1 ho1 a1 a2 a3 hs1 b1
  go_wp2_with fail
  refine hps.mono ?_
  rintro e w2 ⟨rfl, ms', hs', hr2, ho2⟩
  have G2 : Hid _ := And.intro hs' (And.intro hr2 ho2)
  clear hps hs' hr2 ho2
  go_wp2
  go_ret2
  obtain ⟨hn', hr1, ho1, b1, hs1⟩ := G1.out
  obtain ⟨hs', hr2, ho2⟩ := G2.out
  have e1 : trim wid t (keyed k) = keyed (trim wid t k) := by
    unfold keyed
    rw [← trim_map]
  rw [e1] at hs'
  have q1 : ¬ Mine Rs ms bw := fun q => by
    rcases q with q | q
    · exact kind_ne b1 hs1.blk (by decide) q
    · exact row_ne b1 hs1.own (by decide) q
  have q2 : ¬ Mine Rs ms Rn := fun q => by
    rcases q with q | q
    · exact kind_ne hn'.blk hs1.blk (by decide) q
    · exact row_ne hn'.blk hs1.own (by decide) q
  have q3 : ∀ g, mn'.ownBlock = some g → ¬ Mine Rs ms g := fun g hg q => by
    rcases q with q | q
    · subst q; exact row_ne hs1.blk hn'.own (by decide) hg
    · exact rows_ne hn'.own hs1.own (by decide) g hg q
  have hl : (trim wid t k).length ≤ 16 := by
    unfold trim
    refine Nat.le_trans (List.dropWhile_sublist _).length_le ?_
    rw [List.length_drop]
    omega
  have hm : ∀ x ∈ trim wid t k, x.1 ≤ t := fun x hx => Int.le_trans (H.out.le x (List.mem_of_mem_drop ((List.dropWhile_sublist _).subset hx))) hle
  refine ⟨rfl, mn', ms', ⟨ho2.heap b1 q1, hn'.only ho2 q2 q3, hs', hl, hm⟩, .inl hr1, .inl hr2, ?_⟩
  exact (ho1.mono (Q := BothP Rn Rs mn ms) (fun _ _ q => .inl q)).trans ho2 (fun b hb q => .inr q)

set_option maxRecDepth 1000000 in
theorem ppushLate {w : World} {bw Rn Rs : Nat} {wid tm : Int} {k : List (Int × Int)} {mn ms : Value} (h : Both w bw Rn Rs wid tm k mn ms) (t v : Int) (b : ByteArray) (hlt : t < tm) :
    Calls Try.prog 15 #[.pointer (some ⟨bw, 0, none⟩), .int .i64 t, .int .i64 v, .string b] w fun e w' => e = .returned (.tuple #[.bool false, .bool false]) ∧ w' = w := by
  have c0 := cell_of_heap (i := 0) h.blk rfl
  have c1 := cell_of_heap (i := 1) h.blk rfl
  have hp := pushLateI h.n t v hlt
  have hq := pushLateS h.s t b hlt
  clear h
  go_enter Try.func15, Try.ntmps15
  go_wp2_with fail
  refine hp.mono ?_
  rintro e w1 ⟨rfl, hw⟩
  have hw := hw.symm
  subst hw
  clear hp
  go_wp2_with fail
  refine hq.mono ?_
  rintro e w1 ⟨rfl, hw⟩
  have hw := hw.symm
  subst hw
  clear hq
  go_wp2
  go_ret2
  exact ⟨rfl, rfl⟩
set_option maxRecDepth 1000000 in
theorem plate {w : World} {bw Rn Rs : Nat} {wid tm : Int} {k : List (Int × Int)} {mn ms : Value} (h : Both w bw Rn Rs wid tm k mn ms) (t : Int) (hlt : t < tm) :
    Calls Try.prog 16 #[.pointer (some ⟨bw, 0, none⟩), .int .i64 t] w fun e w' => e = .returned (.tuple #[.bool false, .bool false]) ∧ w' = w := by
  have c0 := cell_of_heap (i := 0) h.blk rfl
  have c1 := cell_of_heap (i := 1) h.blk rfl
  have hp := lateI h.n t hlt
  have hq := lateS h.s t hlt
  clear h
  go_enter Try.func16, Try.ntmps16
  go_wp2_with fail
  refine hp.mono ?_
  rintro e w1 ⟨rfl, hw⟩
  have hw := hw.symm
  subst hw
  clear hp
  go_wp2_with fail
  refine hq.mono ?_
  rintro e w1 ⟨rfl, hw⟩
  have hw := hw.symm
  subst hw
  clear hq
  go_wp2
  go_ret2
  exact ⟨rfl, rfl⟩

/-- What Ends tells. -/
def endsVal (o : Option Int) (p : Option ByteArray) : Ending := .returned (.tuple #[.int .i64 (o.getD 0), .bool o.isSome, .string (p.getD { data := #[] }), .bool p.isSome])
def ahead (most : Bool) (a b : Int) : Bool := if most then lessI b a else lessI a b
def aheadS (most : Bool) (a b : ByteArray) : Bool := if most then lessS b a else lessS a b
theorem foreEndI_eq (o : Option Int) : foreEndI o = .returned (.tuple #[.int .i64 (o.getD 0), .bool o.isSome]) := by cases o <;> rfl
theorem foreEndS_eq (o : Option ByteArray) : foreEndS o = .returned (.tuple #[.string (o.getD { data := #[] }), .bool o.isSome]) := by cases o <;> rfl
set_option maxRecDepth 1000000 in
set_option maxHeartbeats 1000000 in
theorem pends {w : World} {bw Rn Rs : Nat} {wid tm : Int} {k : List (Int × Int)} {mn ms : Value} (h : Both w bw Rn Rs wid tm k mn ms) (most : Bool) :
    Calls Try.prog 20 #[.pointer (some ⟨bw, 0, none⟩), .bool most] w fun e w' => e = endsVal (foremost (ahead most) (k.map (·.2))) (foremost (aheadS most) ((keyed k).map (·.2))) ∧ Below w.heap.size w w' := by
  have c0 : w.cell? ⟨bw, 0, none⟩ = some (.pointer (some ⟨Rn, 0, none⟩)) := cell_of_heap (i := 0) h.blk rfl
  have H : Hid (Both w bw Rn Rs wid tm k mn ms) := h
  cases most with
  | true =>
    have h1 := mostI h.n
    have ea : foremost (ahead true) (k.map (·.2)) = foremost (fun a b => lessI b a) (k.map (·.2)) := rfl
    have eb : foremost (aheadS true) ((keyed k).map (·.2)) = foremost (fun a b => lessS b a) ((keyed k).map (·.2)) := rfl
    rw [ea, eb]
    rw [foreEndI_eq] at h1
    have h2 : ∀ w1, Below w.heap.size w w1 → _ := fun w1 hb => mostS (h.below hb).s
    simp only [foreEndS_eq] at h2
    have H2 : Hid _ := h2
    clear h ea eb h2
    generalize foremost (fun a b => lessI b a) (k.map (·.2)) = o at *
    generalize foremost (fun a b => lessS b a) ((keyed k).map (·.2)) = p at *
    unfold endsVal
    go_enter Try.func20, Try.ntmps20
    go_wp2_with fail
    refine h1.mono ?_
    rintro e w1 ⟨rfl, hb1⟩
    have d1 : w1.cell? ⟨bw, 1, none⟩ = some (.pointer (some ⟨Rs, 0, none⟩)) := cell_of_heap (i := 1) (H.out.below hb1).blk rfl
    have h2 := H2.out w1 hb1
    have HB1 : Hid (Below w.heap.size w w1) := hb1
    clear hb1 h1 H2
    go_wp2_with fail
    refine h2.mono ?_
    rintro e w2 ⟨rfl, hb2⟩
    have HB2 : Hid (Below w.heap.size w w2) := HB1.out.trans (hb2.mono HB1.out.size)
    clear hb2 h2
    go_wp2
    refine bodyPost_ret (v := .tuple #[.int .i64 (o.getD 0), .bool o.isSome, .string (p.getD { data := #[] }), .bool p.isSome]) (by simp [results, Try.results20, go_sem]) rfl ?_
    exact ⟨rfl, HB2.out⟩
  | false =>
    have h1 := leastI h.n
    have ea : foremost (ahead false) (k.map (·.2)) = foremost lessI (k.map (·.2)) := rfl
    have eb : foremost (aheadS false) ((keyed k).map (·.2)) = foremost lessS ((keyed k).map (·.2)) := rfl
    rw [ea, eb]
    rw [foreEndI_eq] at h1
    have h2 : ∀ w1, Below w.heap.size w w1 → _ := fun w1 hb => leastS (h.below hb).s
    simp only [foreEndS_eq] at h2
    have H2 : Hid _ := h2
    clear h ea eb h2
    generalize foremost lessI (k.map (·.2)) = o at *
    generalize foremost lessS ((keyed k).map (·.2)) = p at *
    unfold endsVal
    go_enter Try.func20, Try.ntmps20
    go_wp2_with fail
    refine h1.mono ?_
    rintro e w1 ⟨rfl, hb1⟩
    have d1 : w1.cell? ⟨bw, 1, none⟩ = some (.pointer (some ⟨Rs, 0, none⟩)) := cell_of_heap (i := 1) (H.out.below hb1).blk rfl
    have h2 := H2.out w1 hb1
    have HB1 : Hid (Below w.heap.size w w1) := hb1
    clear hb1 h1 H2
    go_wp2_with fail
    refine h2.mono ?_
    rintro e w2 ⟨rfl, hb2⟩
    have HB2 : Hid (Below w.heap.size w w2) := HB1.out.trans (hb2.mono HB1.out.size)
    clear hb2 h2
    go_wp2
    refine bodyPost_ret (v := .tuple #[.int .i64 (o.getD 0), .bool o.isSome, .string (p.getD { data := #[] }), .bool p.isSome]) (by simp [results, Try.results20, go_sem]) rfl ?_
    exact ⟨rfl, HB2.out⟩
end Go.Proofs.Ytjcbbcnjnnpfoaa
