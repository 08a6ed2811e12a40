/-
  HOW THE PROGRAM WRITES A TREE, WALKED: numbers, minus, pairs, choices.
-/
import Derived.Test.YtihmgoahobbdkaaGreatDoorJG37
import Derived.Test.YtihmgoahobbdkaaGreatDoorJG41
import Derived.Test.YtihmgoahobbdkaaGreatDoorJG22
import Derived.Lib.ItoaNum
import Derived.Test.YtihmgoahobbdkaaGreatDoorJG30
import Derived.Deep.RegionHeld3
import Derived.Test.YtihmgoahobbdkaaGreatDoorJG15
namespace Go.Proofs.YtihmgoahobbdkaaGreatDoor
open Go.RowKit

theorem decL_lib (m : Nat) : decL m = Lib.decDigits m := by
  induction m using Nat.strongRecOn with
  | ind m ih =>
    rw [decL, Lib.decDigits]
    split
    · rfl
    · rw [ih (m / 10) (by omega)]
/-- A part writes these bytes into a builder behind all that was there. -/
def Writes (w0 : World) (v : Value) (l : List UInt8) : Prop := ∃ (T : TypeId) (x : Addr) (f : Nat), v = .iface T (.pointer (some x)) ∧
  (∀ w : World, (method 489 T (.pointer (some x)) "scaler/syntax.write").run Tryz.prog w = .ok (f, .pointer (some x)) w) ∧
  (∀ (args : Array Value) (w : World), (callFunc f args).run Tryz.prog w = .ok (.enter f args) w) ∧
  ∀ (b : Nat) (w : World) (acc : List UInt8), Below w0.heap.size w0 w → Bld w0.heap.size b acc w → acc.length + l.length ≤ 1000000 → Calls Tryz.prog f #[.pointer (some x), .pointer (some ⟨b, 0, none⟩)] w fun e w' => e = .returned (.tuple #[]) ∧ BldU w0.heap.size b (acc ++ l) w' ∧ Below w0.heap.size w w'
/-- A builder lasts while nothing that was there is turned. -/
theorem bld_below {B b : Nat} {l : List UInt8} {w w' : World} (h : Bld B b l w) (hb : Below w.heap.size w w') : Bld B b l w' := by
  have go : ∀ p, Lib.BuilderAt 197 5 B b p (bytesV l) w → Lib.BuilderAt 197 5 B b p (bytesV l) w' := by
    rintro p ⟨h1, v, h2, h3, h4⟩
    exact ⟨h1, v, (hb.block b (heap_lt h2)).trans h2, owns_of_block h3 fun g hg => hb.block g (h3.lt g hg).2, h4⟩
  exact h.elim (fun x => .inl (go _ x)) (fun x => .inr (go _ x))
section
variable {w0 : World} {c : Nat}
set_option maxRecDepth 1000000 in
set_option maxHeartbeats 1000000 in
theorem writes_num (hT : TabsR w0) {n : Int} (h0 : 0 ≤ n) (h1 : n < 1000000000) (hb : w0.heap[c]? = some (.cells #[.int .i64 n] 225 (0, 0))) : Writes w0 (.iface 222 (ptr c)) (decL n.toNat) := by
  refine ⟨_, _, 250, rfl, fun w => by kernel_rfl, fun args w => by rfl, fun b w acc hw hB hl => ?_⟩
  have hc := heap_lt hb
  have c0 : w.cell? ⟨c, 0, none⟩ = some (.int .i64 n) := cell_of_heap ((hw.block c hc).trans hb) rfl
  have hfm := Tryz.strconv_FormatInt_10 n (by omega) (by omega) w (hT.below hw).pow
  have hi : Lib.itoa n = decL n.toNat := by unfold Lib.itoa; rw [if_neg (by omega), decL_lib]
  rw [hi] at hfm
  have HB : Hid _ := And.intro hB hw
  have HL : Hid _ := hl
  clear hB hw hT hi hl
  go_enter Tryz.func250, Tryz.ntmps250
  go_wp2_with fail
  refine hfm.mono ?_
  rintro e w1 ⟨rfl, kk, os, hw1⟩
  have hb1 : Below w.heap.size w w1 := by rw [hw1]; exact below_grow8 _ _ _
  have hbd : Bld w0.heap.size b acc w1 := bld_below HB.out.1 hb1
  have hws := bu_string w0.heap.size b acc ⟨(decL n.toNat).toArray⟩ w1 hbd (by have := HL.out; omega) (by have := HL.out; simp [ByteArray.size]; omega) (Nat.le_trans HB.out.2.size hb1.size)
  have K1 : Hid (Below w0.heap.size w w1) := hb1.mono HB.out.2.size
  clear hfm hw1 hb1 hbd
  go_wp2_with fail
  refine hws.mono ?_
  rintro e w2 ⟨rfl, hbu, hb2⟩
  have Q : Hid _ := And.intro hbu (K1.out.trans hb2)
  clear hws hbu hb2
  go_wp2
  go_end0
  exact ⟨rfl, by simpa using Q.out.1, Q.out.2⟩
set_option maxRecDepth 1000000 in
set_option maxHeartbeats 1000000 in
theorem writes_neg {va : Value} {l : List UInt8} (ha : Writes w0 va l) (hb : w0.heap[c]? = some (.cells #[va] 228 (0, 0))) : Writes w0 (.iface 226 (ptr c)) ([40, 45] ++ l ++ [41]) := by
  obtain ⟨T, x, f, rfl, hme, hcf, ha⟩ := ha
  refine ⟨_, _, 252, rfl, fun w => by kernel_rfl, fun args w => by rfl, fun b w acc hw hB hl => ?_⟩
  have hc := heap_lt hb
  have hlen : acc.length + l.length + 3 ≤ 1000000 := by simp at hl; omega
  have h1 := bu_string w0.heap.size b acc ⟨#[40, 45]⟩ w hB (by omega) (by decide) hw.size
  have HW : Hid (Below w0.heap.size w0 w) := hw
  have HA : Hid _ := ha
  have hcf := fun W : World => hcf #[.pointer (some x), .pointer (some ⟨b, 0, none⟩)] W
  clear hw hB hl ha
  go_enter Tryz.func252, Tryz.ntmps252
  go_wp2_with fail
  refine h1.mono ?_
  rintro e w1 ⟨rfl, hb1, hk1⟩
  have c0 : w1.cell? ⟨c, 0, none⟩ = some (.iface T (.pointer (some x))) := cell_of_heap ((hk1.block c hc).trans ((HW.out.block c hc).trans hb)) rfl
  have h2 := HA.out b w1 (acc ++ [40, 45]) (HW.out.trans hk1) (.inr hb1) (by simp; omega)
  have K1 : Hid _ := hk1
  clear h1 hb1 hk1
  go_wp2_with fail
  refine h2.mono ?_
  rintro e w2 ⟨rfl, hb2, hk2⟩
  have K2 : Hid (Below w0.heap.size w w2) := K1.out.trans hk2
  have h3 := bu_byte w0.heap.size b (acc ++ [40, 45] ++ l) 41 w2 (.inr hb2) (by simp; omega) (Nat.le_trans HW.out.size K2.out.size)
  clear h2 hb2 hk2
  go_wp2_with fail
  refine h3.mono ?_
  rintro e w3 ⟨rfl, hb3, hk3⟩
  have Q : Hid _ := And.intro hb3 (K2.out.trans hk3)
  clear h3 hb3 hk3
  go_wp2
  go_end0
  exact ⟨rfl, by simpa using Q.out.1, Q.out.2⟩
set_option maxRecDepth 1000000 in
set_option maxHeartbeats 1000000 in
theorem writes_pair {va vd : Value} {la ld : List UInt8} {p k : Nat} (hk : k < 256) (ha : Writes w0 va la) (hd : Writes w0 vd ld) (hb : w0.heap[c]? = some (.cells #[.int .i64 p, .int .u8 k, va, vd] 295 (0, 0))) : Writes w0 (.iface 229 (ptr c)) ([40] ++ la ++ [UInt8.ofNat k] ++ ld ++ [41]) := by
  obtain ⟨Ta, xa, fa, rfl, hmea, hcfa, ha⟩ := ha
  obtain ⟨Td, xd, fd, rfl, hmed, hcfd, hd⟩ := hd
  refine ⟨_, _, 253, rfl, fun w => by kernel_rfl, fun args w => by rfl, fun b w acc hw hB hl => ?_⟩
  have hc := heap_lt hb
  have hlen : acc.length + la.length + ld.length + 3 ≤ 1000000 := by simp at hl; omega
  have hk8 : (UInt8.ofNat k).toNat = k := by simp; omega
  have HW : Hid (Below w0.heap.size w0 w) := hw
  have HAa : Hid _ := ha
  have hcfa := fun W : World => hcfa #[.pointer (some xa), .pointer (some ⟨b, 0, none⟩)] W
  have HAd : Hid _ := hd
  have hcfd := fun W : World => hcfd #[.pointer (some xd), .pointer (some ⟨b, 0, none⟩)] W
  have HB : Hid (Bld w0.heap.size b acc w) := hB
  have K0 : Hid (Below w0.heap.size w w) := Below.refl _ _
  clear hw hB hl ha hd
  have hblk : w.heap[c]? = some (.cells #[.int .i64 p, .int .u8 k, .iface Ta (.pointer (some xa)), .iface Td (.pointer (some xd))] 295 (0, 0)) := (HW.out.block c hc).trans hb
  go_enter Tryz.func253, Tryz.ntmps253
  have s0 := bu_byte w0.heap.size b (acc) 40 w (HB.out) (by first | omega | (simp; omega)) (Nat.le_trans HW.out.size K0.out.size)
  go_wp2_with fail
  refine s0.mono ?_
  rintro e w1 ⟨rfl, hb1, hk1⟩
  have K1 : Hid (Below w0.heap.size w w1) := K0.out.trans hk1
  have HU1 : Hid _ := hb1
  have B1 := (K1.out.block c hc).trans hblk
  clear s0 hb1 hk1
  have s1 := HAa.out b w1 (acc ++ [40]) (HW.out.trans K1.out) (.inr HU1.out) (by first | omega | (simp; omega))
  have c2 : w1.cell? ⟨c, 2, none⟩ = some (.iface Ta (.pointer (some xa))) := cell_of_heap B1 rfl
  go_wp2_with fail
  refine s1.mono ?_
  rintro e w2 ⟨rfl, hb2, hk2⟩
  have K2 : Hid (Below w0.heap.size w w2) := K1.out.trans hk2
  have HU2 : Hid _ := hb2
  have B2 := (K2.out.block c hc).trans hblk
  clear s1 hb2 hk2
  have s2 := bu_byte w0.heap.size b (acc ++ [40] ++ la) (UInt8.ofNat k) w2 (.inr HU2.out) (by first | omega | (simp; omega)) (Nat.le_trans HW.out.size K2.out.size)
  rw [hk8] at s2
  have ck : w2.cell? ⟨c, 1, none⟩ = some (.int .u8 k) := cell_of_heap B2 rfl
  go_wp2_with fail
  refine s2.mono ?_
  rintro e w3 ⟨rfl, hb3, hk3⟩
  have K3 : Hid (Below w0.heap.size w w3) := K2.out.trans hk3
  have HU3 : Hid _ := hb3
  have B3 := (K3.out.block c hc).trans hblk
  clear s2 hb3 hk3
  have s3 := HAd.out b w3 (acc ++ [40] ++ la ++ [(UInt8.ofNat k)]) (HW.out.trans K3.out) (.inr HU3.out) (by first | omega | (simp; omega))
  have c3 : w3.cell? ⟨c, 3, none⟩ = some (.iface Td (.pointer (some xd))) := cell_of_heap B3 rfl
  go_wp2_with fail
  refine s3.mono ?_
  rintro e w4 ⟨rfl, hb4, hk4⟩
  have K4 : Hid (Below w0.heap.size w w4) := K3.out.trans hk4
  have HU4 : Hid _ := hb4
  have B4 := (K4.out.block c hc).trans hblk
  clear s3 hb4 hk4
  have s4 := bu_byte w0.heap.size b (acc ++ [40] ++ la ++ [(UInt8.ofNat k)] ++ ld) 41 w4 (.inr HU4.out) (by first | omega | (simp; omega)) (Nat.le_trans HW.out.size K4.out.size)
  go_wp2_with fail
  refine s4.mono ?_
  rintro e w5 ⟨rfl, hb5, hk5⟩
  have K5 : Hid (Below w0.heap.size w w5) := K4.out.trans hk5
  have HU5 : Hid _ := hb5
  have B5 := (K5.out.block c hc).trans hblk
  clear s4 hb5 hk5
  go_wp2
  go_end0
  refine ⟨rfl, ?_, K5.out⟩
  have q := HU5.out
  simp only [List.append_assoc, List.cons_append, List.nil_append] at q ⊢
  exact q
set_option maxRecDepth 1000000 in
set_option maxHeartbeats 1000000 in
theorem writes_choice {va vd vg : Value} {la ld lg : List UInt8}  (ha : Writes w0 va la) (hd : Writes w0 vd ld) (hg : Writes w0 vg lg) (hb : w0.heap[c]? = some (.cells #[va, vd, vg] 205 (0, 0))) : Writes w0 (.iface 203 (ptr c)) ([40] ++ la ++ [63] ++ ld ++ [58] ++ lg ++ [41]) := by
  obtain ⟨Ta, xa, fa, rfl, hmea, hcfa, ha⟩ := ha
  obtain ⟨Td, xd, fd, rfl, hmed, hcfd, hd⟩ := hd
  obtain ⟨Tg, xg, fg, rfl, hmeg, hcfg, hg⟩ := hg
  refine ⟨_, _, 243, rfl, fun w => by kernel_rfl, fun args w => by rfl, fun b w acc hw hB hl => ?_⟩
  have hc := heap_lt hb
  have hlen : acc.length + la.length + ld.length + lg.length + 4 ≤ 1000000 := by simp at hl; omega
  have HW : Hid (Below w0.heap.size w0 w) := hw
  have HAa : Hid _ := ha
  have hcfa := fun W : World => hcfa #[.pointer (some xa), .pointer (some ⟨b, 0, none⟩)] W
  have HAd : Hid _ := hd
  have hcfd := fun W : World => hcfd #[.pointer (some xd), .pointer (some ⟨b, 0, none⟩)] W
  have HAg : Hid _ := hg
  have hcfg := fun W : World => hcfg #[.pointer (some xg), .pointer (some ⟨b, 0, none⟩)] W
  have HB : Hid (Bld w0.heap.size b acc w) := hB
  have K0 : Hid (Below w0.heap.size w w) := Below.refl _ _
  clear hw hB hl ha hd hg
  have hblk : w.heap[c]? = some (.cells #[.iface Ta (.pointer (some xa)), .iface Td (.pointer (some xd)), .iface Tg (.pointer (some xg))] 205 (0, 0)) := (HW.out.block c hc).trans hb
  go_enter Tryz.func243, Tryz.ntmps243
  have s0 := bu_byte w0.heap.size b (acc) 40 w (HB.out) (by first | omega | (simp; omega)) (Nat.le_trans HW.out.size K0.out.size)
  go_wp2_with fail
  refine s0.mono ?_
  rintro e w1 ⟨rfl, hb1, hk1⟩
  have K1 : Hid (Below w0.heap.size w w1) := K0.out.trans hk1
  have HU1 : Hid _ := hb1
  have B1 := (K1.out.block c hc).trans hblk
  clear s0 hb1 hk1
  have s1 := HAa.out b w1 (acc ++ [40]) (HW.out.trans K1.out) (.inr HU1.out) (by first | omega | (simp; omega))
  have c0 : w1.cell? ⟨c, 0, none⟩ = some (.iface Ta (.pointer (some xa))) := cell_of_heap B1 rfl
  go_wp2_with fail
  refine s1.mono ?_
  rintro e w2 ⟨rfl, hb2, hk2⟩
  have K2 : Hid (Below w0.heap.size w w2) := K1.out.trans hk2
  have HU2 : Hid _ := hb2
  have B2 := (K2.out.block c hc).trans hblk
  clear s1 hb2 hk2
  have s2 := bu_byte w0.heap.size b (acc ++ [40] ++ la) 63 w2 (.inr HU2.out) (by first | omega | (simp; omega)) (Nat.le_trans HW.out.size K2.out.size)
  go_wp2_with fail
  refine s2.mono ?_
  rintro e w3 ⟨rfl, hb3, hk3⟩
  have K3 : Hid (Below w0.heap.size w w3) := K2.out.trans hk3
  have HU3 : Hid _ := hb3
  have B3 := (K3.out.block c hc).trans hblk
  clear s2 hb3 hk3
  have s3 := HAd.out b w3 (acc ++ [40] ++ la ++ [63]) (HW.out.trans K3.out) (.inr HU3.out) (by first | omega | (simp; omega))
  have c1 : w3.cell? ⟨c, 1, none⟩ = some (.iface Td (.pointer (some xd))) := cell_of_heap B3 rfl
  go_wp2_with fail
  refine s3.mono ?_
  rintro e w4 ⟨rfl, hb4, hk4⟩
  have K4 : Hid (Below w0.heap.size w w4) := K3.out.trans hk4
  have HU4 : Hid _ := hb4
  have B4 := (K4.out.block c hc).trans hblk
  clear s3 hb4 hk4
  have s4 := bu_byte w0.heap.size b (acc ++ [40] ++ la ++ [63] ++ ld) 58 w4 (.inr HU4.out) (by first | omega | (simp; omega)) (Nat.le_trans HW.out.size K4.out.size)
  go_wp2_with fail
  refine s4.mono ?_
  rintro e w5 ⟨rfl, hb5, hk5⟩
  have K5 : Hid (Below w0.heap.size w w5) := K4.out.trans hk5
  have HU5 : Hid _ := hb5
  have B5 := (K5.out.block c hc).trans hblk
  clear s4 hb5 hk5
  have s5 := HAg.out b w5 (acc ++ [40] ++ la ++ [63] ++ ld ++ [58]) (HW.out.trans K5.out) (.inr HU5.out) (by first | omega | (simp; omega))
  have c2 : w5.cell? ⟨c, 2, none⟩ = some (.iface Tg (.pointer (some xg))) := cell_of_heap B5 rfl
  go_wp2_with fail
  refine s5.mono ?_
  rintro e w6 ⟨rfl, hb6, hk6⟩
  have K6 : Hid (Below w0.heap.size w w6) := K5.out.trans hk6
  have HU6 : Hid _ := hb6
  have B6 := (K6.out.block c hc).trans hblk
  clear s5 hb6 hk6
  have s6 := bu_byte w0.heap.size b (acc ++ [40] ++ la ++ [63] ++ ld ++ [58] ++ lg) 41 w6 (.inr HU6.out) (by first | omega | (simp; omega)) (Nat.le_trans HW.out.size K6.out.size)
  go_wp2_with fail
  refine s6.mono ?_
  rintro e w7 ⟨rfl, hb7, hk7⟩
  have K7 : Hid (Below w0.heap.size w w7) := K6.out.trans hk7
  have HU7 : Hid _ := hb7
  have B7 := (K7.out.block c hc).trans hblk
  clear s6 hb7 hk7
  go_wp2
  go_end0
  refine ⟨rfl, ?_, K7.out⟩
  have q := HU7.out
  simp only [List.append_assoc, List.cons_append, List.nil_append] at q ⊢
  exact q
end
end Go.Proofs.YtihmgoahobbdkaaGreatDoor
namespace Go.Proofs.YtihmgoahobbdkaaGreatDoor
open Go.RowKit

theorem fmt_int {w : World} (hT : TabsR w) {n : Int} (h0 : 0 ≤ n) (h1 : n < 1000000000) : Calls Tryz.prog 143 #[.int .i64 n, .int .i64 10] w fun e w' => e = .returned (.string (decT n.toNat)) ∧ Below w.heap.size w w' := by
  have hi : Lib.itoa n = decL n.toNat := by unfold Lib.itoa; rw [if_neg (by omega), decL_lib]
  refine (Tryz.strconv_FormatInt_10 n (by omega) (by omega) w hT.pow).mono ?_
  rintro e w1 ⟨rfl, kk, os, rfl⟩
  rw [hi]
  exact ⟨rfl, below_grow8 _ _ _⟩
theorem tl_size (s : ByteArray) : s.data.toList.length = s.size := by simp
section
variable {w0 : World} {c : Nat}
set_option maxRecDepth 1000000 in
set_option maxHeartbeats 1000000 in
theorem writes_meas (hT : TabsR w0) {p : Nat} {kd mt : ByteArray} (hk : kd.size < 256) (hm : mt.size < 256) {n : Int} (h0 : 0 ≤ n) (h1 : n < 1000000000) (hb : w0.heap[c]? = some (.cells #[.int .i64 p, .string kd, .string mt, .int .i64 n] 236 (0, 0))) :
    Writes w0 (.iface 232 (ptr c)) (kd.data.toList ++ [40] ++ mt.data.toList ++ [44] ++ decL n.toNat ++ [41]) := by
  refine ⟨_, _, 254, rfl, fun w => by kernel_rfl, fun args w => by rfl, fun b w acc hw hB hl => ?_⟩
  have hc := heap_lt hb
  have hdt : decL n.toNat = (decT n.toNat).data.toList := by simp [decT]
  have hd9 : (decT n.toNat).size ≤ 9 := by rw [decT_size]; exact (decL_len 8 n.toNat (by omega)).2
  rw [hdt] at hl ⊢
  have hlen : acc.length + kd.size + mt.size + (decT n.toNat).size + 3 ≤ 1000000 := by simp at hl; omega
  have hblk : w.heap[c]? = some (.cells #[.int .i64 p, .string kd, .string mt, .int .i64 n] 236 (0, 0)) := (hw.block c hc).trans hb
  have c1 : w.cell? ⟨c, 1, none⟩ = some (.string kd) := cell_of_heap hblk rfl
  have c2 : w.cell? ⟨c, 2, none⟩ = some (.string mt) := cell_of_heap hblk rfl
  have c3 : w.cell? ⟨c, 3, none⟩ = some (.int .i64 n) := cell_of_heap hblk rfl
  have hfm := fmt_int (hT.below hw.drew) h0 h1
  generalize decT n.toNat = dt at *
  have z1 : ¬ 9223372036854775807 < kd.size + 1 := by omega
  have z2 : ¬ 9223372036854775807 < kd.size + 1 + mt.size := by omega
  have z3 : ¬ 9223372036854775807 < kd.size + 1 + mt.size + 1 := by omega
  have z4 : ¬ 9223372036854775807 < kd.size + 1 + mt.size + 1 + dt.size := by omega
  have z5 : ¬ 9223372036854775807 < kd.size + 1 + mt.size + 1 + dt.size + 1 := by omega
  have HB : Hid _ := And.intro hB hw
  have HBL : Hid _ := hblk
  clear hB hw hT hl hblk hdt
  go_enter Tryz.func254, Tryz.ntmps254
  go_wp2_with fail
  go_region_held3 (fun w' => w'.cell? ⟨c, 1, none⟩ = some (.string kd) ∧ w'.cell? ⟨c, 2, none⟩ = some (.string mt) ∧ w'.cell? ⟨c, 3, none⟩ = some (.int .i64 n)) (go_keep)
    (first
      | (go_at_call 143; refine hfm.mono ?_; rintro e w1 ⟨rfl, hb1⟩; have HBD : Hid (Bld w0.heap.size b acc w1 ∧ Below w0.heap.size w w1) := ⟨bld_below HB.out.1 ((Below.refl _ w).drew.trans hb1), ((Below.refl _ w).drew.trans hb1).mono HB.out.2.size⟩; have k1 : w1.cell? ⟨c, 1, none⟩ = some (.string kd) := cell_of_heap ((HBD.out.2.block c hc).trans HBL.out) rfl; have k2 : w1.cell? ⟨c, 2, none⟩ = some (.string mt) := cell_of_heap ((HBD.out.2.block c hc).trans HBL.out) rfl; have k3 : w1.cell? ⟨c, 3, none⟩ = some (.int .i64 n) := cell_of_heap ((HBD.out.2.block c hc).trans HBL.out) rfl; clear hb1)
      | (go_at_call 251; refine (bu_string w0.heap.size b acc _ w1 HBD.out.1 (by omega) (by simp [sz1]; omega) (Nat.le_trans HB.out.2.size HBD.out.2.size)).mono ?_; rintro e w2 ⟨rfl, hbu, hk2⟩; have Q : Hid _ := And.intro hbu (HBD.out.2.trans hk2); have m1 : w2.cell? ⟨c, 1, none⟩ = some (.string kd) := cell_of_heap ((Q.out.2.block c hc).trans HBL.out) rfl; have m2 : w2.cell? ⟨c, 2, none⟩ = some (.string mt) := cell_of_heap ((Q.out.2.block c hc).trans HBL.out) rfl; have m3 : w2.cell? ⟨c, 3, none⟩ = some (.int .i64 n) := cell_of_heap ((Q.out.2.block c hc).trans HBL.out) rfl; clear hbu hk2))
  all_goals
    go_wp2
    go_end0
    refine ⟨rfl, ?_, Q.out.2⟩
    have q := Q.out.1
    simp only [ByteArray.data_append, Array.toList_append, List.append_assoc, List.cons_append, List.nil_append] at q ⊢
    exact q
end
end Go.Proofs.YtihmgoahobbdkaaGreatDoor
namespace Go.Proofs.YtihmgoahobbdkaaGreatDoor
open Go.RowKit

/-- Texts with commas between. -/
def restL : List (List UInt8) → List UInt8
  | [] => []
  | l :: ls => 44 :: (l ++ restL ls)
def joinL : List (List UInt8) → List UInt8
  | [] => []
  | l :: ls => l ++ restL ls
theorem restL_snoc : ∀ (a : List (List UInt8)) (x : List UInt8), restL (a ++ [x]) = restL a ++ 44 :: x
  | [], x => by simp [restL]
  | l :: a, x => by simp [restL, restL_snoc a x]
theorem joinL_snoc (a : List (List UInt8)) (x : List UInt8) (h : a ≠ []) : joinL (a ++ [x]) = joinL a ++ 44 :: x := by
  cases a with
  | nil => exact absurd rfl h
  | cons l a => simp [joinL, restL_snoc]
theorem restL_take : ∀ (a : List (List UInt8)) (i : Nat), (restL (a.take i)).length ≤ (restL a).length
  | [], i => by simp
  | l :: a, 0 => by simp [restL]
  | l :: a, i + 1 => by have := restL_take a i; simp [restL]; omega
theorem joinL_take (a : List (List UInt8)) (i : Nat) : (joinL (a.take i)).length ≤ (joinL a).length := by
  cases a with
  | nil => simp
  | cons l a =>
    cases i with
    | zero => simp [joinL]
    | succ i => have := restL_take a i; simp [joinL]; omega
theorem take_succ_of {α : Type} {l : List α} {i : Nat} {x : α} (h : l[i]? = some x) : l.take (i + 1) = l.take i ++ [x] := by
  rw [List.take_add_one, h]
  rfl
section
variable {w0 : World} {c : Nat}
set_option maxRecDepth 1000000 in
set_option maxHeartbeats 2000000 in
theorem writes_probe {p : Nat} {nm : ByteArray} (hn : nm.size < 256) {pv : Value} {vs : List Value} {ls : List (List UInt8)} (hls : ls.length = vs.length) (hv : vs.length < 256) (hrow : w0.ownsRow 0 127 1 pv vs.length vs) (hks : ∀ (i : Nat) (v : Value) (l : List UInt8), vs[i]? = some v → ls[i]? = some l → Writes w0 v l)
    (hb : w0.heap[c]? = some (.cells #[.int .i64 p, .string nm, pv] 240 (0, 0))) :
    Writes w0 (.iface 237 (ptr c)) (nm.data.toList ++ [40] ++ joinL ls ++ [41]) := by
  refine ⟨_, _, 255, rfl, fun w => by kernel_rfl, fun args w => by rfl, fun b w acc hw hB hl => ?_⟩
  have hc := heap_lt hb
  have hlen : acc.length + nm.size + (joinL ls).length + 2 ≤ 1000000 := by simp at hl; omega
  obtain ⟨ao, cp, rfl⟩ := owns_len hrow
  generalize hN : vs.length = N at *
  have hblk : w.heap[c]? = some (.cells #[.int .i64 p, .string nm, .slice ao N cp] 240 (0, 0)) := (hw.block c hc).trans hb
  have c1 : w.cell? ⟨c, 1, none⟩ = some (.string nm) := cell_of_heap hblk rfl
  have z1 : ¬ 9223372036854775807 < nm.size + 1 := by omega
  have h1 := bu_string w0.heap.size b acc (nm ++ ⟨#[40]⟩) w hB (by omega) (by simp [sz1]; omega) hw.size
  have HW : Hid (Below w0.heap.size w0 w) := hw
  have HR : Hid (w0.ownsRow 0 127 1 (.slice ao N cp) N vs) := hrow
  have HK : Hid _ := hks
  have HBL : Hid _ := hblk
  have HJ : Hid (∀ i, (joinL (ls.take i)).length ≤ (joinL ls).length) := joinL_take ls
  have HN : Hid _ := And.intro hN hls
  clear hw hB hl hrow hks hblk hN hls
  go_enter Tryz.func255, Tryz.ntmps255
  go_wp2_with fail
  refine h1.mono ?_
  rintro e w1 ⟨rfl, hb1, hk1⟩
  have Q1 : Hid (BldU w0.heap.size b (acc ++ nm.data.toList ++ [40]) w1 ∧ Below w0.heap.size w w1) := ⟨by simpa using hb1, hk1⟩
  have c2 : w1.cell? ⟨c, 2, none⟩ = some (.slice ao N cp) := cell_of_heap ((hk1.block c hc).trans HBL.out) rfl
  clear h1 hb1 hk1
  go_wp2_with fail
  go_loopw [18] (fun v18 wr => ∃ i : Nat, v18 = .int .i64 i ∧ i ≤ N ∧ Hid (BldU w0.heap.size b (acc ++ nm.data.toList ++ [40] ++ joinL (ls.take i)) wr ∧ Below w0.heap.size w wr)) (fun v18 _ => N - (intOf v18).toNat)
  case atStart => exact ⟨0, rfl, Nat.zero_le _, by show BldU _ _ _ _ ∧ _; simpa [joinL] using Q1.out⟩
  case round =>
    obtain ⟨i, rfl, hi, HI⟩ := hrel
    rcases Nat.lt_or_ge i N with hlt | hge
    · obtain ⟨vi, hvi⟩ : ∃ v, vs[i]? = some v := ⟨vs[i]'(by have := HN.out.1; omega), List.getElem?_eq_getElem _⟩
      obtain ⟨li, hli⟩ : ∃ l, ls[i]? = some l := ⟨ls[i]'(by have := HN.out.2; omega), List.getElem?_eq_getElem _⟩
      obtain ⟨T, x, f, rfl, hme, hcf, ha⟩ := HK.out i vi li hvi hli
      have hrr : wr.ownsRow 0 127 1 (.slice ao N cp) N vs := owns_block2 HR.out fun k q => ((HW.out.trans HI.out.2).block k (HR.out.lt _ q).2)
      obtain ⟨gp, rfl, cv⟩ := owns_at hrr hvi
      have hlt2 : (i : Int) < N := by omega
      have hcf := fun W : World => hcf #[.pointer (some x), .pointer (some ⟨b, 0, none⟩)] W
      have hsz : w0.heap.size ≤ wr.heap.size := Nat.le_trans HW.out.size HI.out.2.size
      have hj1 := HJ.out i
      have hj2 := HJ.out (i + 1)
      have hjt := take_succ_of hli
      have HA : Hid _ := ha
      have HLI : Hid _ := And.intro hli hvi
      clear hrr ha hli hvi
      rcases Nat.eq_zero_or_pos i with rfl | hpos
      · have hj0 : joinL (ls.take 1) = li := by rw [hjt]; simp [joinL, restL]
        rw [hj0] at hj2
        have h2 := HA.out b wr _ (HW.out.trans HI.out.2) (.inr HI.out.1) (by simp [joinL]; omega)
        go_wp2_with fail
        refine h2.mono ?_
        rintro e w2 ⟨rfl, hb2, hk2⟩
        have Q2 : Hid (BldU w0.heap.size b (acc ++ nm.data.toList ++ [40] ++ joinL (ls.take 1)) w2 ∧ Below w0.heap.size w w2) := ⟨by rw [hj0]; simpa [joinL] using hb2, HI.out.2.trans hk2⟩
        clear h2 hb2 hk2 hj0 hj1 hj2 hjt
        go_wp2
        go_roundw
        case rel => exact ⟨1, rfl, by omega, Q2.out⟩
        case measure => simp [intOf]; omega
      · have hne : ls.take i ≠ [] := by
          intro e
          have q : (ls.take i).length = 0 := by rw [e]; rfl
          rw [List.length_take] at q
          have := HN.out.2
          omega
        have hj0 : joinL (ls.take (i + 1)) = joinL (ls.take i) ++ 44 :: li := by rw [hjt, joinL_snoc _ _ hne]
        rw [hj0] at hj2
        simp only [List.length_append, List.length_cons] at hj2
        have hip : (0 : Int) < i := by omega
        have h2 := bu_byte w0.heap.size b _ 44 wr (.inr HI.out.1) (by simp; omega) hsz
        go_wp2_with fail
        refine h2.mono ?_
        rintro e w2 ⟨rfl, hb2, hk2⟩
        have h3 := HA.out b w2 _ (HW.out.trans (HI.out.2.trans hk2)) (.inr hb2) (by simp; omega)
        have K2 : Hid _ := hk2
        clear h2 hb2 hk2
        go_wp2_with fail
        refine h3.mono ?_
        rintro e w3 ⟨rfl, hb3, hk3⟩
        have Q2 : Hid (BldU w0.heap.size b (acc ++ nm.data.toList ++ [40] ++ joinL (ls.take (i + 1))) w3 ∧ Below w0.heap.size w w3) := ⟨by rw [hj0]; simpa using hb3, HI.out.2.trans (K2.out.trans hk3)⟩
        clear h3 hb3 hk3 hj0 hj1 hj2 hjt hne
        go_wp2
        go_roundw
        case rel => exact ⟨i + 1, by go_num, by omega, Q2.out⟩
        case measure => simp [intOf]; omega
    · have hge2 : ¬ (i : Int) < N := by omega
      have hall : ls.take i = ls := List.take_of_length_le (by have := HN.out.2; omega)
      have HI2 : Hid (BldU w0.heap.size b (acc ++ nm.data.toList ++ [40] ++ joinL ls) wr ∧ Below w0.heap.size w wr) := by
        have := HI.out
        rw [hall] at this
        exact this
      have h2 := bu_byte w0.heap.size b _ 41 wr (.inr HI2.out.1) (by simp; omega) (Nat.le_trans HW.out.size HI2.out.2.size)
      go_wp2_with fail
      refine h2.mono ?_
      rintro e w2 ⟨rfl, hb2, hk2⟩
      have Q2 : Hid _ := And.intro hb2 (HI2.out.2.trans hk2)
      clear h2 hb2 hk2
      go_wp2
      go_end0
      refine ⟨rfl, ?_, Q2.out.2⟩
      have q := Q2.out.1
      simp only [List.append_assoc, List.cons_append, List.nil_append] at q ⊢
      exact q
end
end Go.Proofs.YtihmgoahobbdkaaGreatDoor
