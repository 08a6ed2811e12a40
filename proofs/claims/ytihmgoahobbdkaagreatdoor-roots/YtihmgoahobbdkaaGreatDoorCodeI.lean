/-
  THE PROGRAM's negative AND inner, WALKED.
-/
import Derived.Test.YtihmgoahobbdkaaGreatDoorCodeH
namespace Go.Proofs.YtihmgoahobbdkaaGreatDoor
open Go.RowKit Go.Lib

section
variable {s : ByteArray} {R : Nat}

set_option maxRecDepth 1000000 in
set_option maxHeartbeats 1000000 in
theorem code_negative {N : Nat} (hp : CCon s R 188 .minus N) {w : World} {I : Nat} {ms : List ByteArray} (hN : (toks s).length - (I + 1) ≤ N) (h : CStM s R w I ms) (hb : seesB s I [45] = true) :
    Calls Tryz.prog 199 #[.pointer (some ⟨R, 0, none⟩)] w fun e w' => ∃ o, D s (toks s) .minus I o ∧ KC R w w' ∧ CAfter s R ms w.heap.size w' o e := by
  have hst := code_step h (sign_last2 (by decide) hb)
  have HP : Hid (CCon s R 188 .minus N) := hp
  have HK : Hid (kd (toks s) I = 45) := sees1.1 hb
  clear h hp hb
  go_enter Tryz.func199, Tryz.ntmps199
  go_wp2_with fail
  refine hst.mono ?_
  rintro e w1 ⟨rfl, hs1, hb1⟩
  have hpc := HP.out w1 (I + 1) ms hN hs1
  have lR1 : R < w1.heap.size := by obtain ⟨a, b, c, -⟩ := hs1.blk; exact heap_lt c
  have HB1 : Hid (KC R w w1) := hb1
  clear hs1 hb1 hst
  go_wp2_with fail
  refine hpc.mono ?_
  rintro e w2 ⟨o, hD, hb2, ha⟩
  have HD : Hid (D s (toks s) .minus (I + 1) o) := hD
  have HB2 : Hid (KC R w w2) := HB1.out.trans hb2
  have hs2 := hb2.size
  clear hD hb2 hpc
  cases o with
  | ok ts J =>
    obtain ⟨t, ty2, pa2, rfl, rfl, hn, hs⟩ := ha
    have HS : Hid (CStM s R w2 J (notes ms (mets t))) := hs
    have HN : Hid (CNode (Hi w.heap.size) w2 t (.iface ty2 (.pointer pa2))) := hn.up HB1.out.size
    clear hs hn
    go_wp2
    go_ret2
    have bl := (Below.refl w2.heap.size w2).alloc (Nat.le_refl _)
    refine ⟨.ok [_] J, .ngGo HK.out HD.out, HB2.out.alloc (by omega) _, _, _, _, rfl, rfl, ?_, by rw [mets_neg]; exact HS.out.later (bl _)⟩
    unfold CNode
    exact ⟨_, _, rfl, HB2.out.size, heap_alloc_new _ _, HN.out.below (bl _)⟩
  | bad J =>
    obtain ⟨b, rfl, hbk⟩ := ha
    have HBK : Hid (w2.heap[b]? = some (.cells #[.int .i64 (pl (toks s) J)] 114 (0, 0))) := hbk
    clear hbk
    go_wp2
    go_ret2
    exact ⟨.bad J, .ngBad HK.out HD.out, HB2.out, b, rfl, HBK.out⟩

set_option maxRecDepth 1000000 in
set_option maxHeartbeats 1000000 in
theorem code_inner {N : Nat} (hp : CCon s R 68 .choice N) {w : World} {I : Nat} {ms : List ByteArray} (hN : (toks s).length - (I + 1) ≤ N) (h : CStM s R w I ms) (hb : seesB s I [40] = true) :
    Calls Tryz.prog 200 #[.pointer (some ⟨R, 0, none⟩)] w fun e w' => ∃ o, D s (toks s) .minus I o ∧ KC R w w' ∧ CAfter s R ms w.heap.size w' o e := by
  have hst := code_step h (sign_last2 (by decide) hb)
  have HP : Hid (CCon s R 68 .choice N) := hp
  have HK : Hid (kd (toks s) I = 40) := sees1.1 hb
  clear h hp hb
  go_enter Tryz.func200, Tryz.ntmps200
  go_wp2_with fail
  refine hst.mono ?_
  rintro e w1 ⟨rfl, hs1, hb1⟩
  have hpc := HP.out w1 (I + 1) ms hN hs1
  have HB1 : Hid (KC R w w1) := hb1
  clear hs1 hb1 hst
  go_wp2_with fail
  refine hpc.mono ?_
  rintro e w2 ⟨o, hD, hb2, ha⟩
  have HD : Hid (D s (toks s) .choice (I + 1) o) := hD
  have HB2 : Hid (KC R w w2) := HB1.out.trans hb2
  clear hD hb2 hpc
  cases o with
  | ok ts J =>
    obtain ⟨t, ty2, pa2, rfl, rfl, hn, hs⟩ := ha
    have htk := code_takeSign hs [41] (by decide)
    have HN : Hid (∀ w', KC R w2 w' → CNode (Hi w.heap.size) w' t (.iface ty2 (.pointer pa2))) := fun w' hk => (hn.up HB1.out.size).moves (hs.nmoves hk)
    clear hs hn
    go_wp2_with fail
    refine htk.mono ?_
    rintro e w3 ⟨hb3, ha⟩
    have HB3 : Hid (KC R w w3) := HB2.out.trans hb3
    have HN3 : Hid (CNode (Hi w.heap.size) w3 t (.iface ty2 (.pointer pa2))) := HN.out _ hb3
    clear hb3 htk HN
    rcases ha with ⟨hb, rfl, hs⟩ | ⟨hb, b, rfl, hbk⟩
    · have HS : Hid (CStM s R w3 (J + 1) (notes ms (mets t))) := hs
      have HK2 : Hid (kd (toks s) J = 41) := sees1.1 hb
      clear hs hb
      go_wp2
      go_ret2
      exact ⟨.ok [t] (J + 1), .paGo HK.out HD.out HK2.out, HB3.out, _, _, _, rfl, rfl, HN3.out, HS.out⟩
    · have HBK : Hid (w3.heap[b]? = some (.cells #[.int .i64 (pl (toks s) J)] 114 (0, 0))) := hbk
      have HK2 : Hid (kd (toks s) J ≠ 41) := fun k => not_sees hb (sees1.2 k)
      clear hbk hb
      go_wp2
      go_ret2
      exact ⟨.bad J, .paB1 HK.out HD.out HK2.out, HB3.out, b, rfl, HBK.out⟩
  | bad J =>
    obtain ⟨b, rfl, hbk⟩ := ha
    have HBK : Hid (w2.heap[b]? = some (.cells #[.int .i64 (pl (toks s) J)] 114 (0, 0))) := hbk
    clear hbk
    go_wp2
    go_ret2
    exact ⟨.bad J, .paBad HK.out HD.out, HB2.out, b, rfl, HBK.out⟩
end
end Go.Proofs.YtihmgoahobbdkaaGreatDoor
