/-
  THE PROGRAM's takeNumber AND note, WALKED.
-/
import Derived.Test.YtegmclcccmbanaaGreatDoorCodeG
import Derived.Lib.OthersKept
import Derived.WalkSmall
namespace Go.Proofs.YtegmclcccmbanaaGreatDoor
open Go.RowKit Go.Lib

section
variable {s : ByteArray} {R : Nat}

set_option maxRecDepth 1000000 in
set_option maxHeartbeats 1000000 in
theorem code_takeNumber {w : World} {I M : Nat} (h : CStM s R w I M) :
    Calls Tryz.prog 103 #[.pointer (some ⟨R, 0, none⟩)] w fun e w' => KC R w w' ∧
      ((codeKind ((toks s).getD I default) = 2 ∧ (∃ n : Int, e = .returned (.tuple #[.int .i64 n, .nilIface])) ∧ CStM s R w' (I + 1) M) ∨ (codeKind ((toks s).getD I default) ≠ 2 ∧ ∃ (n : Int) (b : Nat), e = .returned (.tuple #[.int .i64 n, .iface 70 (.pointer (some ⟨b, 0, none⟩))]) ∧ w'.heap[b]? = some (.cells #[.int .i64 (pl (toks s) I)] 74 (0, 0)))) := by
  have htk := code_take h 2 (.inl rfl)
  have LR : Hid (R < w.heap.size) := by obtain ⟨a, b, c, -⟩ := h.blk; exact heap_lt c
  clear h
  go_enter Tryz.func103, Tryz.ntmps103
  go_wp2_with fail
  refine htk.mono ?_
  rintro e w1 ⟨hk1, ha⟩
  clear htk
  obtain ⟨tx, er, rfl⟩ : ∃ tx er, e = .returned (.tuple #[.string tx, er]) := by
    rcases ha with ⟨-, rfl, -⟩ | ⟨-, b, rfl, -⟩
    · exact ⟨_, _, rfl⟩
    · exact ⟨_, _, rfl⟩
  have HA : Hid _ := ha
  have HK : Hid (KC R w w1) := hk1
  have LR1 : Hid (R < w1.heap.size) := Nat.lt_of_lt_of_le LR.out hk1.size
  clear ha hk1 LR
  go_wp2_with fail
  go_loopw [6] (fun v wr => ∃ (n : Int) (pos : Nat), v = .int .i64 n ∧ pos ≤ tx.size ∧ wr.heap[w1.heap.size]? = some (.stringIter tx pos) ∧ Hid (Below w1.heap.size w1 wr)) (fun _ wr => tx.size - wr.iterPos w1.heap.size)
  case atStart => exact ⟨0, 0, rfl, Nat.zero_le _, World.iter_heap w1 tx 0, (Below.refl _ _).alloc (Nat.le_refl _) _⟩
  case round =>
    obtain ⟨n, pos, rfl, hpz, hit, HB⟩ := hrel
    have hpos0 := iterPos_of hit
    by_cases hp : pos < tx.size
    · have hnx : ∀ ty, (Instr.next (.pointer (some ⟨w1.heap.size, 0, none⟩)) true ty).run Tryz.prog wr = _ := fun ty => Lib.run_next_any_at wr w1.heap.size tx pos ty hit hp
      have hwd := width_pos tx pos
      have hwl := decode_le hp
      have hit2 := Lib.iterAt_heap wr w1.heap.size tx pos (pos + (Utf8.decode tx pos).2) hit
      have hb2 := Lib.below_iterAt HB.out (k := w1.heap.size) (Nat.le_refl _) tx (pos + (Utf8.decode tx pos).2)
      obtain ⟨W1, hW1⟩ : ∃ W1, W1 = wr.iterAt w1.heap.size tx (pos + (Utf8.decode tx pos).2) := ⟨_, rfl⟩
      rw [← hW1] at hnx hit2 hb2
      have HI2 : Hid (W1.heap[w1.heap.size]? = some (.stringIter tx (pos + (Utf8.decode tx pos).2))) := hit2
      have HB2 : Hid (Below w1.heap.size w1 W1) := hb2
      clear hW1 hit hit2 hb2
      go_wp2
      go_roundw
      case rel => exact ⟨_, _, rfl, hwl, HI2.out, HB2⟩
      case measure =>
        rw [iterPos_of HI2.out, hpos0]
        omega
    · have hnx : ∀ ty, (Instr.next (.pointer (some ⟨w1.heap.size, 0, none⟩)) true ty).run Tryz.prog wr = _ := fun ty => Lib.run_next_end_at wr w1.heap.size tx pos ty hit hp
      go_wp2
      go_ret2
      rcases HA.out with ⟨k1, he, hs⟩ | ⟨k1, b, he, hbk⟩
      · injection he with he
        injection he with he
        have e2 : er = .nilIface := by
          have h3 := congrArg Array.toList he
          injection h3 with _ h4
          injection h4
        subst e2
        have lR : R < w1.heap.size := by obtain ⟨a, b, c, -⟩ := hs.blk; exact heap_lt c
        exact ⟨HK.out.trans (KC.of_below HB.out lR), .inl ⟨k1, ⟨_, rfl⟩, hs.later HB.out⟩⟩
      · injection he with he
        injection he with he
        have e2 : er = .iface 70 (.pointer (some ⟨b, 0, none⟩)) := by
          have h3 := congrArg Array.toList he
          injection h3 with _ h4
          injection h4
        subst e2
        exact ⟨HK.out.trans (KC.of_below HB.out LR1.out), .inr ⟨k1, _, b, rfl, (HB.out.block b (heap_lt hbk)).trans hbk⟩⟩
end
end Go.Proofs.YtegmclcccmbanaaGreatDoor
