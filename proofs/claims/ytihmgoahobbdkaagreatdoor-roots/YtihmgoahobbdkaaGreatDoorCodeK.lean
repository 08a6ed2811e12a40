/-
  THE PROGRAM's measure, WALKED.
-/
import Derived.Test.YtihmgoahobbdkaaGreatDoorCodeJ
namespace Go.Proofs.YtihmgoahobbdkaaGreatDoor
open Go.RowKit Go.Lib

section
variable {s : ByteArray} {R : Nat}

/-- A block with the place where reading failed. -/
abbrev BadAt (s : ByteArray) (w : World) (b J : Nat) : Prop := w.heap[b]? = some (.cells #[.int .i64 (pl (toks s) J)] 114 (0, 0))

set_option maxRecDepth 1000000 in
set_option maxHeartbeats 1000000 in
theorem code_measure {w : World} {I : Nat} {ms : List ByteArray} (h : CStM s R w (I + 2) ms) (k0 : kd (toks s) I = 97) (k1 : kd (toks s) (I + 1) = 40) (km : isMeasure (tx s (toks s) I) = true) :
    Calls Tryz.prog 210 #[.pointer (some ⟨R, 0, none⟩), .agg #[.int .i64 (pl (toks s) I)], .string (tx s (toks s) I)] w fun e w' => ∃ o, D s (toks s) .minus I o ∧ KC R w w' ∧ CAfter s R ms w.heap.size w' o e := by
  have hb0 : Below w.heap.size w (w.alloc (.cells #[.int .i64 (pl (toks s) I)] 112)) := (Below.refl _ _).alloc (Nat.le_refl _) _
  have h0 := h.later hb0
  have htk := code_take h0 3 (.inr rfl)
  have HB0 : Hid (KC R w (w.alloc (.cells #[.int .i64 (pl (toks s) I)] 112))) := KC.of_below hb0 (by obtain ⟨a, b, c, -⟩ := h.blk; exact heap_lt c)
  have AK0 : Hid (∀ w', KC R (w.alloc (.cells #[.int .i64 (pl (toks s) I)] 112)) w' → AtIs (pl (toks s) I) w.heap.size w') := fun w' hk => h0.at_kept hk (heap_alloc_new _ _)
  have hml : ms.length ≤ I + 2 := h.len
  have hI : I ≤ 400 := by have := h.lt; have := toks_length s; have := h.small; omega
  clear h h0 hb0
  go_enter Tryz.func210, Tryz.ntmps210
  go_wp2_with fail
  refine htk.mono ?_
  rintro e w1 ⟨hb1, ha⟩
  have AT1 : Hid _ := AK0.out _ hb1
  have HB1 : Hid (KC R w w1) := HB0.out.trans hb1
  clear hb1 htk AK0 HB0
  rcases ha with ⟨k2, rfl, hs⟩ | ⟨k2, b1, rfl, hbk⟩
  rotate_left
  · have HBK : Hid (BadAt s w1 b1 (I + 2)) := hbk
    have k2 : kd (toks s) (I + 2) ≠ 97 := fun e => k2 (ck3.2 e)
    clear hbk
    go_wp2
    go_ret2
    exact ⟨.bad (I + 2), .meB2 k0 k1 km k2, HB1.out, b1, rfl, HBK.out⟩
  have k2 : kd (toks s) (I + 2) = 97 := ck3.1 k2
  have htk := code_takeSign hs [44] (by decide)
  have AK1 : Hid (∀ w', KC R w1 w' → AtIs (pl (toks s) I) w.heap.size w') := fun w' hk => hs.at_kept hk AT1.out
  clear hs AT1
  go_wp2_with fail
  refine htk.mono ?_
  rintro e w2 ⟨hb2, ha⟩
  have HB2 : Hid (KC R w w2) := HB1.out.trans hb2
  have AT2 : Hid _ := AK1.out _ hb2
  clear hb2 htk HB1 AK1
  rcases ha with ⟨k3, rfl, hs⟩ | ⟨k3, b1, rfl, hbk⟩
  rotate_left
  · have HBK : Hid (BadAt s w2 b1 (I + 3)) := hbk
    have k3 : kd (toks s) (I + 3) ≠ 44 := fun e => not_sees k3 (sees1.2 e)
    clear hbk
    go_wp2
    go_ret2
    exact ⟨.bad (I + 3), .meB3 k0 k1 km k2 k3, HB2.out, b1, rfl, HBK.out⟩
  have k3 : kd (toks s) (I + 3) = 44 := sees1.1 k3
  have htk := code_takeNumber hs
  have AK2 : Hid (∀ w', KC R w2 w' → AtIs (pl (toks s) I) w.heap.size w') := fun w' hk => hs.at_kept hk AT2.out
  clear hs AT2
  go_wp2_with fail
  refine htk.mono ?_
  rintro e w3 ⟨hb3, ha⟩
  have HB3 : Hid (KC R w w3) := HB2.out.trans hb3
  have AT3 : Hid _ := AK2.out _ hb3
  clear hb3 htk HB2 AK2
  rcases ha with ⟨k4, rfl, hs⟩ | ⟨k4, n, b1, rfl, hbk⟩
  rotate_left
  · have HBK : Hid (BadAt s w3 b1 (I + 4)) := hbk
    have k4 : kd (toks s) (I + 4) ≠ 110 := fun e => k4 (ck2.2 e)
    clear hbk
    go_wp2
    go_ret2
    exact ⟨.bad (I + 4), .meB4 k0 k1 km k2 k3 k4, HB3.out, b1, rfl, HBK.out⟩
  have k4 : kd (toks s) (I + 4) = 110 := ck2.1 k4
  have htk := code_takeSign hs [41] (by decide)
  have AK3 : Hid (∀ w', KC R w3 w' → AtIs (pl (toks s) I) w.heap.size w') := fun w' hk => hs.at_kept hk AT3.out
  clear hs AT3
  go_wp2_with fail
  refine htk.mono ?_
  rintro e w4 ⟨hb4, ha⟩
  have HB4 : Hid (KC R w w4) := HB3.out.trans hb4
  have AT4 : Hid _ := AK3.out _ hb4
  clear hb4 htk HB3 AK3
  rcases ha with ⟨k5, rfl, hs⟩ | ⟨k5, b1, rfl, hbk⟩
  rotate_left
  · have HBK : Hid (BadAt s w4 b1 (I + 5)) := hbk
    have k5 : kd (toks s) (I + 5) ≠ 41 := fun e => not_sees k5 (sees1.2 e)
    clear hbk
    go_wp2
    go_ret2
    exact ⟨.bad (I + 5), .meB5 k0 k1 km k2 k3 k4 k5, HB4.out, b1, rfl, HBK.out⟩
  have k5 : kd (toks s) (I + 5) = 41 := sees1.1 k5
  have hnt := code_note hs (by omega) (tx s (toks s) (I + 2))
  have AK4 : Hid (∀ w', KC R w4 w' → AtIs (pl (toks s) I) w.heap.size w') := fun w' hk => hs.at_kept hk AT4.out
  clear hs AT4
  go_wp2_with fail
  refine hnt.mono ?_
  rintro e w5 ⟨rfl, hs, hb5⟩
  have HB5 : Hid (KC R w w5) := HB4.out.trans hb5
  have cA : w5.cell? ⟨w.heap.size, 0, none⟩ = some (.int .i64 (pl (toks s) I)) := cell_of_heap (AK4.out _ hb5) rfl
  have HS : Hid (CStM s R w5 (I + 5 + 1) (note1 ms (tx s (toks s) (I + 2)))) := hs
  have lR : R < w5.heap.size := by obtain ⟨a, b, c, -⟩ := hs.blk; exact heap_lt c
  clear hs hb5 hnt HB4
  go_wp2
  go_ret2
  have bl := (Below.refl w5.heap.size w5).alloc (Nat.le_refl _)
  refine ⟨.ok [_] (I + 6), .meGo k0 k1 km k2 k3 k4 k5, HB5.out.alloc lR _, _, _, _, rfl, rfl, ?_, by rw [mets_meas, notes_one]; exact HS.out.later (bl _)⟩
  unfold CNode
  exact ⟨_, rfl, HB5.out.size, heap_alloc_new _ _⟩
end
end Go.Proofs.YtihmgoahobbdkaaGreatDoor
