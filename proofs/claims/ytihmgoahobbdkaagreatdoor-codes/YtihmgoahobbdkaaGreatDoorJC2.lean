/-
  SMALL LAWS: what a call leaves alone but for one block ('Keep'); a block of cells that is known whole ('Blk').
-/
import Derived.WalkKit
import Derived.Deep.Draws
import Derived.Below
import Derived.Test.YtihmgoahobbdkaaGreatDoorProg
import Derived.Test.YtihmgoahobbdkaaGreatDoorJC1
import Derived.Deep.QuietTactic
import Derived.BigQuiet
import Derived.BigRegion
namespace Go.Proofs.YtihmgoahobbdkaaGreatDoor
open Go.RowKit

/-- All blocks that were there, but number R, are as they were. -/
structure Keep (R : Nat) (w w' : World) : Prop where
  os : w'.os = w.os
  tape : w'.tape = w.tape
  output : w'.output = w.output
  size : w.heap.size ≤ w'.heap.size
  block : ∀ k, k < w.heap.size → k ≠ R → w'.heap[k]? = w.heap[k]?

theorem heap_lt {w : World} {k : Nat} {o : Obj} (h : w.heap[k]? = some o) : k < w.heap.size := by
  rcases Nat.lt_or_ge k w.heap.size with h' | h'
  · exact h'
  · rw [Array.getElem?_eq_none h'] at h; cases h
theorem heap_alloc_old {w : World} {k : Nat} {o x : Obj} (h : w.heap[k]? = some x) : (w.alloc o).heap[k]? = some x := (Below.heap_alloc w o k (heap_lt h)).trans h
theorem heap_set_other {w : World} {a : Addr} {v : Value} {k : Nat} {x : Obj} (h : w.heap[k]? = some x) (hne : k ≠ a.block) : (w.setCell a v).heap[k]? = some x := (Below.heap_setCell w a v k hne).trans h
theorem heap_set_same {w : World} {R i : Nat} {v : Value} {cs : Array Value} {t : TypeId} {z : Nat × Nat} (h : w.heap[R]? = some (.cells cs t z)) : (w.setCell ⟨R, i, none⟩ v).heap[R]? = some (.cells (cs.setIfInBounds i v) t z) := by
  simp [World.setCell, Array.getElem?_modify, h]
theorem cell_of_heap {w : World} {R i : Nat} {v : Value} {cs : Array Value} {t : TypeId} {z : Nat × Nat} (h : w.heap[R]? = some (.cells cs t z)) (hv : cs[i]? = some v) : w.cell? ⟨R, i, none⟩ = some v := by
  simp [World.cell?, h, hv]
theorem frozen_of_heap {w : World} {R i : Nat} {cs : Array Value} {t : TypeId} (h : w.heap[R]? = some (.cells cs t (0, 0))) : w.frozen? ⟨R, i, none⟩ = false := by
  simp [World.frozen?, h]

namespace Keep
variable {R : Nat} {w w1 w2 : World}
theorem refl (R : Nat) (w : World) : Keep R w w := ⟨rfl, rfl, rfl, Nat.le_refl _, fun _ _ _ => rfl⟩
theorem trans (h : Keep R w w1) (k : Keep R w1 w2) : Keep R w w2 :=
  ⟨k.os.trans h.os, k.tape.trans h.tape, k.output.trans h.output, Nat.le_trans h.size k.size, fun i hi hne => (k.block i (Nat.lt_of_lt_of_le hi h.size) hne).trans (h.block i hi hne)⟩
theorem of_below (h : Below w.heap.size w w1) : Keep R w w1 := ⟨h.os, h.tape, h.output, h.size, fun k hk _ => h.block k hk⟩
theorem below (h : Keep R w w1) {B : Nat} (hB : B ≤ w.heap.size) (hR : B ≤ R) : Below B w w1 := ⟨h.os, h.tape, h.output, h.size, fun k hk => h.block k (by omega) (by omega)⟩
theorem alloc (h : Keep R w w1) (o : Obj) : Keep R w (w1.alloc o) :=
  ⟨h.os, h.tape, h.output, by simp; exact Nat.le_succ_of_le h.size, fun k hk hne => (Below.heap_alloc w1 o k (Nat.lt_of_lt_of_le hk h.size)).trans (h.block k hk hne)⟩
theorem drew (h : Keep R w w1) : Keep R w w1.drew := ⟨h.os, h.tape, h.output, h.size, h.block⟩
theorem drewN (h : Keep R w w1) (n : Nat) : Keep R w (w1.drewN n) := ⟨h.os, h.tape, h.output, h.size, h.block⟩
theorem setR (h : Keep R w w1) (i : Nat) (v : Value) : Keep R w (w1.setCell ⟨R, i, none⟩ v) :=
  ⟨h.os, h.tape, h.output, by simp; exact h.size, fun k hk hne => (Below.heap_setCell w1 _ v k hne).trans (h.block k hk hne)⟩
theorem setNew (h : Keep R w w1) {a : Addr} (ha : w.heap.size ≤ a.block) (v : Value) : Keep R w (w1.setCell a v) :=
  ⟨h.os, h.tape, h.output, by simp; exact h.size, fun k hk hne => (Below.heap_setCell w1 _ v k (by omega)).trans (h.block k hk hne)⟩
theorem heap (h : Keep R w w1) {k : Nat} {o : Obj} (hk : w.heap[k]? = some o) (hne : k ≠ R) : w1.heap[k]? = some o := (h.block k (heap_lt hk) hne).trans hk
theorem cell (h : Keep R w w1) {a : Addr} {v : Value} (hc : w.cell? a = some v) (hne : a.block ≠ R) : w1.cell? a = some v :=
  (World.cell?_of_block (h.block a.block (World.block_lt_of_cell? w a hc) hne)).trans hc
end Keep
end Go.Proofs.YtihmgoahobbdkaaGreatDoor
namespace Go.Proofs.YtihmgoahobbdkaaGreatDoor
open Go.RowKit

theorem u8_beq (c d : UInt8) : (c == d) = ((c.toNat : Int) == (d.toNat : Int)) := by
  rw [Bool.eq_iff_iff]
  simp only [beq_iff_eq, ← UInt8.toNat_inj]
  omega
theorem isSign_int (c : UInt8) : isSign c = (((c.toNat : Int) == 63) || ((c.toNat : Int) == 58) || ((c.toNat : Int) == 60) || ((c.toNat : Int) == 62) || ((c.toNat : Int) == 61) || ((c.toNat : Int) == 43) || ((c.toNat : Int) == 45) || ((c.toNat : Int) == 42) || ((c.toNat : Int) == 47) || ((c.toNat : Int) == 40) || ((c.toNat : Int) == 41) || ((c.toNat : Int) == 44)) := by
  unfold isSign
  rw [u8_beq c 63, u8_beq c 58, u8_beq c 60, u8_beq c 62, u8_beq c 61, u8_beq c 43, u8_beq c 45, u8_beq c 42, u8_beq c 47, u8_beq c 40, u8_beq c 41, u8_beq c 44]
  rfl

set_option maxRecDepth 100000 in
theorem ref_sign (c : UInt8) (w : World) : Calls Tryz.prog 44 #[.int .u8 c.toNat] w fun e w' => e = .returned (.bool (isSign c)) ∧ w' = w := by
  go_enter Tryz.func44, Tryz.ntmps44
  go_wp2
  all_goals (go_ret; exact ⟨by rw [isSign_int]; simp [*], rfl⟩)

set_option maxRecDepth 100000 in
theorem ref_kind (R bl n cap : Nat) (I k : Nat) (w : World) (h0 : w.cell? ⟨R, 0, none⟩ = some (.slice (some ⟨bl, 0, none⟩) n cap)) (h1 : w.cell? ⟨R, 1, none⟩ = some (.int .i64 I))
    (hlt : (I : Int) < n) (hk : w.cell? ⟨bl, I * 3, none⟩ = some (.int .u8 k)) :
    Calls Tryz.prog 47 #[.pointer (some ⟨R, 0, none⟩)] w fun e w' => e = .returned (.int .u8 k) ∧ ∃ q, w' = w.drewN q := by
  go_enter Tryz.func47, Tryz.ntmps47
  go_wp2
  go_quiet (fail)
  go_wp2
  go_ret
  exact ⟨rfl, _, rfl⟩

/-- A token, as a value. -/
abbrev tokenOf (k p : Nat) (t : ByteArray) : Value := .agg #[.int .u8 k, .int .i64 p, .string t]
/-- The reader's block. -/
def RdAt (w : World) (R bl n cap I : Nat) (bad : Bool) : Prop := w.heap[R]? = some (.cells #[.slice (some ⟨bl, 0, none⟩) n cap, .int .i64 I, .bool bad] 67 (0, 0))

theorem RdAt.set1 {w : World} {R bl n cap I : Nat} {bad : Bool} (h : RdAt w R bl n cap I bad) (J : Nat) : RdAt (w.setCell ⟨R, 1, none⟩ (.int .i64 J)) R bl n cap J bad := heap_set_same h
theorem RdAt.set2 {w : World} {R bl n cap I : Nat} {bad : Bool} (h : RdAt w R bl n cap I bad) (b : Bool) : RdAt (w.setCell ⟨R, 2, none⟩ (.bool b)) R bl n cap I b := heap_set_same h
theorem RdAt.alloc {w : World} {R bl n cap I : Nat} {bad : Bool} (h : RdAt w R bl n cap I bad) (o : Obj) : RdAt (w.alloc o) R bl n cap I bad := heap_alloc_old h
theorem RdAt.drew {w : World} {R bl n cap I : Nat} {bad : Bool} (h : RdAt w R bl n cap I bad) : RdAt w.drew R bl n cap I bad := h
theorem RdAt.drewN {w : World} {R bl n cap I : Nat} {bad : Bool} (h : RdAt w R bl n cap I bad) (q : Nat) : RdAt (w.drewN q) R bl n cap I bad := h
theorem RdAt.below {w w' : World} {R bl n cap I : Nat} {bad : Bool} (h : RdAt w R bl n cap I bad) (hb : Below w.heap.size w w') : RdAt w' R bl n cap I bad := (hb.block R (heap_lt h)).trans h

set_option maxRecDepth 100000 in
theorem ref_take_hit (R bl n cap : Nat) (I k p : Nat) (t : ByteArray) (w : World) (hR : RdAt w R bl n cap I false) (hlt : (I : Int) < n) (hn : n ≤ 1000) (hk : w.cell? ⟨bl, I * 3, none⟩ = some (.int .u8 k))
    (hp : w.cell? ⟨bl, I * 3 + 1, none⟩ = some (.int .i64 p)) (ht : w.cell? ⟨bl, I * 3 + 2, none⟩ = some (.string t)) :
    Calls Tryz.prog 27 #[.pointer (some ⟨R, 0, none⟩), .int .u8 k] w fun e w' => e = .returned (tokenOf k p t) ∧ RdAt w' R bl n cap (I + 1) false ∧ Keep R w w' := by
  have h0 := cell_of_heap (i := 0) hR rfl
  have h1 := cell_of_heap (i := 1) hR rfl
  have h2 := cell_of_heap (i := 2) hR rfl
  have hf := frozen_of_heap (i := 1) hR
  have hf2 := frozen_of_heap (i := 2) hR
  have lR : R < w.heap.size := heap_lt hR
  have lb : bl < w.heap.size := World.block_lt_of_cell? _ _ hk
  have HR : Hid (RdAt w R bl n cap I false) := hR
  clear hR
  go_enter Tryz.func27, Tryz.ntmps27
  go_wp2
  go_region
  go_wp2
  refine bodyPost_ret (v := tokenOf k p t) (by simp [results, Tryz.results27, go_sem, tokenOf]) rfl ⟨rfl, ?_, ?_⟩
  · exact (((HR.out.set1 (I + 1)).alloc _).alloc _).drew
  · exact ((((Keep.refl R w).setR _ _).alloc _).alloc _).drew

set_option maxRecDepth 100000 in
theorem ref_take_miss (R bl n cap : Nat) (I k k' p : Nat) (t : ByteArray) (w : World) (hR : RdAt w R bl n cap I false) (hlt : (I : Int) < n) (hk : w.cell? ⟨bl, I * 3, none⟩ = some (.int .u8 k))
    (hp : w.cell? ⟨bl, I * 3 + 1, none⟩ = some (.int .i64 p)) (ht : w.cell? ⟨bl, I * 3 + 2, none⟩ = some (.string t)) (hne : ((k : Int) == (k' : Int)) = false) :
    Calls Tryz.prog 27 #[.pointer (some ⟨R, 0, none⟩), .int .u8 k'] w fun e w' => e = .returned (tokenOf 0 0 { data := #[] }) ∧ RdAt w' R bl n cap I true ∧ Keep R w w' := by
  have h0 := cell_of_heap (i := 0) hR rfl
  have h1 := cell_of_heap (i := 1) hR rfl
  have h2 := cell_of_heap (i := 2) hR rfl
  have hf := frozen_of_heap (i := 1) hR
  have hf2 := frozen_of_heap (i := 2) hR
  have lR : R < w.heap.size := heap_lt hR
  have lb : bl < w.heap.size := World.block_lt_of_cell? _ _ hk
  have HR : Hid (RdAt w R bl n cap I false) := hR
  clear hR
  go_enter Tryz.func27, Tryz.ntmps27
  go_wp2
  go_region
  go_wp2
  refine bodyPost_ret (v := tokenOf 0 0 { data := #[] }) (by simp [results, Tryz.results27, go_sem, tokenOf]) rfl ⟨rfl, ?_, ?_⟩
  · exact (((HR.out.set2 true).alloc _).alloc _).drew
  · exact ((((Keep.refl R w).setR _ _).alloc _).alloc _).drew

set_option maxRecDepth 100000 in
theorem ref_take_bad (R bl n cap : Nat) (I k k' p : Nat) (t : ByteArray) (w : World) (hR : RdAt w R bl n cap I true) (hlt : (I : Int) < n) (hk : w.cell? ⟨bl, I * 3, none⟩ = some (.int .u8 k))
    (hp : w.cell? ⟨bl, I * 3 + 1, none⟩ = some (.int .i64 p)) (ht : w.cell? ⟨bl, I * 3 + 2, none⟩ = some (.string t)) :
    Calls Tryz.prog 27 #[.pointer (some ⟨R, 0, none⟩), .int .u8 k'] w fun e w' => e = .returned (tokenOf 0 0 { data := #[] }) ∧ RdAt w' R bl n cap I true ∧ Keep R w w' := by
  have h0 := cell_of_heap (i := 0) hR rfl
  have h1 := cell_of_heap (i := 1) hR rfl
  have h2 := cell_of_heap (i := 2) hR rfl
  have hf := frozen_of_heap (i := 1) hR
  have hf2 := frozen_of_heap (i := 2) hR
  have lR : R < w.heap.size := heap_lt hR
  have lb : bl < w.heap.size := World.block_lt_of_cell? _ _ hk
  have HR : Hid (RdAt w R bl n cap I true) := hR
  clear hR
  go_enter Tryz.func27, Tryz.ntmps27
  go_wp2
  go_region
  go_wp2
  refine bodyPost_ret (v := tokenOf 0 0 { data := #[] }) (by simp [results, Tryz.results27, go_sem, tokenOf]) rfl ⟨rfl, ?_, ?_⟩
  · exact (((HR.out.set2 true).alloc _).alloc _).drew
  · exact ((((Keep.refl R w).setR _ _).alloc _).alloc _).drew
end Go.Proofs.YtihmgoahobbdkaaGreatDoor
