/-
  THE PROGRAM's takeNumber AND note, WALKED.
-/
import Derived.Test.YtihmgoahobbdkaaGreatDoorCodeG
import Derived.Lib.OthersKept
import Derived.WalkSmall
namespace Go.Proofs.YtihmgoahobbdkaaGreatDoor
open Go.RowKit Go.Lib

section
variable {s : ByteArray} {R : Nat}

theorem ck3 {I : Nat} : codeKind ((toks s).getD I default) = 3 ↔ kd (toks s) I = 97 := by
  unfold codeKind kd
  split
  · constructor
    · intro h; cases h
    · intro h; omega
  split
  · constructor
    · intro h; cases h
    · intro h; omega
  split
  · rename_i h
    exact ⟨fun _ => h, fun _ => rfl⟩
  split
  · constructor
    · intro h; cases h
    · intro h; omega
  · constructor
    · intro h; cases h
    · intro h; omega
theorem ck2 {I : Nat} : codeKind ((toks s).getD I default) = 2 ↔ kd (toks s) I = 110 := by
  unfold codeKind kd
  split
  · constructor
    · intro h; cases h
    · intro h; omega
  split
  · rename_i h
    exact ⟨fun _ => h, fun _ => rfl⟩
  split
  · constructor
    · intro h; cases h
    · intro h; omega
  split
  · constructor
    · intro h; cases h
    · intro h; omega
  · constructor
    · intro h; cases h
    · intro h; omega
set_option maxRecDepth 1000000 in
set_option maxHeartbeats 1000000 in
theorem code_takeNumber {w : World} {I : Nat} {ms : List ByteArray} (h : CStM s R w I ms) :
    Calls Tryz.prog 202 #[.pointer (some ⟨R, 0, none⟩)] w fun e w' => KC R w w' ∧
      ((codeKind ((toks s).getD I default) = 2 ∧ e = .returned (.tuple #[.int .i64 (numOf (tx s (toks s) I).data.toList), .nilIface]) ∧ CStM s R w' (I + 1) ms) ∨ (codeKind ((toks s).getD I default) ≠ 2 ∧ ∃ (n : Int) (b : Nat), e = .returned (.tuple #[.int .i64 n, .iface 110 (.pointer (some ⟨b, 0, none⟩))]) ∧ w'.heap[b]? = some (.cells #[.int .i64 (pl (toks s) I)] 114 (0, 0)))) := by
  have htk := code_take h 2 (.inl rfl)
  have LR : Hid (R < w.heap.size) := by obtain ⟨a, b, c, -⟩ := h.blk; exact heap_lt c
  have HG : Hid (codeKind ((toks s).getD I default) = 2 → Digits (tx s (toks s) I)) := fun hk => toks_good s I h.lt (ck2.1 hk)
  clear h
  go_enter Tryz.func202, Tryz.ntmps202
  go_wp2_with fail
  refine htk.mono ?_
  rintro e w1 ⟨hk1, ha⟩
  clear htk
  obtain ⟨tx, er, rfl, hdg⟩ : ∃ tx er, e = .returned (.tuple #[.string tx, er]) ∧ Digits tx := by
    rcases ha with ⟨k1, rfl, -⟩ | ⟨-, b, rfl, -⟩
    · exact ⟨_, _, rfl, HG.out k1⟩
    · exact ⟨_, _, rfl, digits_none⟩
  have HDG : Hid (Digits tx) := hdg
  have HA : Hid _ := ha
  have HK : Hid (KC R w w1) := hk1
  have LR1 : Hid (R < w1.heap.size) := Nat.lt_of_lt_of_le LR.out hk1.size
  clear ha hk1 LR HG hdg
  go_wp2_with fail
  go_loopw [6] (fun v wr => ∃ (n : Int) (pos : Nat), v = .int .i64 n ∧ n = numOf (tx.data.toList.take pos) ∧ pos ≤ tx.size ∧ wr.heap[w1.heap.size]? = some (.stringIter tx pos) ∧ Hid (Below w1.heap.size w1 wr)) (fun _ wr => tx.size - wr.iterPos w1.heap.size)
  case atStart => exact ⟨0, 0, rfl, rfl, Nat.zero_le _, World.iter_heap w1 tx 0, (Below.refl _ _).alloc (Nat.le_refl _) _⟩
  case round =>
    obtain ⟨n, pos, rfl, hnn, hpz, hit, HB⟩ := hrel
    have hpos0 := iterPos_of hit
    by_cases hp : pos < tx.size
    · have hnx : ∀ ty, (Instr.next (.pointer (some ⟨w1.heap.size, 0, none⟩)) true ty).run Tryz.prog wr = _ := fun ty => Lib.run_next_any_at wr w1.heap.size tx pos ty hit hp
      have h6 := HDG.out.1 _ (List.mem_of_getElem? (byte_at (b := tx) (k := pos) hp))
      have ha : tx[pos].toNat < 128 := by simp [isDig] at h6; omega
      have hdec := decode_ascii tx pos hp ha
      have hNN : Hid (n = numOf (tx.data.toList.take pos)) := hnn
      have hDD : Hid (48 ≤ tx[pos].toNat ∧ tx[pos].toNat ≤ 57) := by simp [isDig] at h6; exact h6
      have hTT : Hid (∀ x ∈ tx.data.toList, isDig x = true) := HDG.out.1
      have h9 : Hid (tx.size ≤ 9) := HDG.out.2
      have hlt2 := numOf_lt hTT.out pos hpz
      have hlt3 := numOf_lt hTT.out (pos + 1) hp
      have hp9 := pow9 (k := pos) (by have := h9.out; omega)
      have hp10 := pow9 (k := pos + 1) (by have := h9.out; omega)
      have HN3 : Hid _ := And.intro hlt2 (And.intro hlt3 (And.intro hp9 hp10))
      have HNT : Hid _ := numOf_take hp
      rw [hdec] at hnx
      clear h6 hnn hlt2 hlt3 hp9 hp10
      have hit2 := Lib.iterAt_heap wr w1.heap.size tx pos (pos + 1) hit
      have hb2 := Lib.below_iterAt HB.out (k := w1.heap.size) (Nat.le_refl _) tx (pos + 1)
      obtain ⟨W1, hW1⟩ : ∃ W1, W1 = wr.iterAt w1.heap.size tx (pos + 1) := ⟨_, rfl⟩
      rw [← hW1] at hnx hit2 hb2
      have HI2 : Hid (W1.heap[w1.heap.size]? = some (.stringIter tx (pos + 1))) := hit2
      have HB2 : Hid (Below w1.heap.size w1 W1) := hb2
      clear hW1 hit hit2 hb2 hdec ha
      go_wp2
      go_roundw
      case rel =>
        refine ⟨_, _, rfl, ?_, hp, HI2.out, HB2⟩
        have q1 := HN3.out
        have q2 := hDD.out
        rw [HNT.out]
        have q4 := hNN.out
        rw [← q4] at q1 ⊢
        rw [IntWalk.wrap32_in _ (by omega), wrap_in (n := (tx[pos].toNat : Int) - 48) (by omega), wrap_in (n := n * 10) (by omega), wrap_in (by omega)]
        omega
      case measure =>
        rw [iterPos_of HI2.out, hpos0]
        omega
    · have hnx : ∀ ty, (Instr.next (.pointer (some ⟨w1.heap.size, 0, none⟩)) true ty).run Tryz.prog wr = _ := fun ty => Lib.run_next_end_at wr w1.heap.size tx pos ty hit hp
      have hfin : n = numOf tx.data.toList := by rw [hnn, List.take_of_length_le (by simp; omega)]
      clear hnn
      go_wp2
      go_ret2
      rcases HA.out with ⟨k1, he, hs⟩ | ⟨k1, b, he, hbk⟩
      · injection he with he
        injection he with he
        have h3 := congrArg Array.toList he
        injection h3 with h3 h4
        injection h3 with h3
        injection h4 with e2
        subst e2
        rw [hfin, h3]
        have lR : R < w1.heap.size := by obtain ⟨a, b, c, -⟩ := hs.blk; exact heap_lt c
        exact ⟨HK.out.trans (KC.of_below HB.out lR), .inl ⟨k1, rfl, hs.later HB.out⟩⟩
      · injection he with he
        injection he with he
        have e2 : er = .iface 110 (.pointer (some ⟨b, 0, none⟩)) := by
          have h3 := congrArg Array.toList he
          injection h3 with _ h4
          injection h4
        subst e2
        exact ⟨HK.out.trans (KC.of_below HB.out LR1.out), .inr ⟨k1, _, b, rfl, (HB.out.block b (heap_lt hbk)).trans hbk⟩⟩
end
end Go.Proofs.YtihmgoahobbdkaaGreatDoor
