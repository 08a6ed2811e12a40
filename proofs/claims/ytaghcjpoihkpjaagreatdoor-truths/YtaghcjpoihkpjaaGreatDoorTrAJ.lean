/-
  scalerkeep.number, WALKED.
-/
import Derived.Test.YtaghcjpoihkpjaaGreatDoorJ20
import Derived.Test.YtaghcjpoihkpjaaGreatDoorJ22
import Derived.Test.YtaghcjpoihkpjaaGreatDoorSpecTruJ
namespace Go.Proofs.YtaghcjpoihkpjaaGreatDoor
open Go.RowKit Go.Lib

theorem conv_one {w : World} {b : UInt8} {x : Int} (hx : x = b.toNat) : (convert 32 9 (.slice (some ⟨w.heap.size, 0, none⟩) 1 1)).run Tryz.prog (w.alloc (.cells #[.int .u8 x] 5)) = .ok (.string ⟨#[b]⟩) (w.alloc (.cells #[.int .u8 x] 5)) := by
  have h : BytesIn (w.alloc (.cells #[.int .u8 x] 5)) (.slice (some ⟨w.heap.size, 0, none⟩) 1 1) [b] := ⟨some ⟨w.heap.size, 0, none⟩, 1, rfl, fun j c hj => by
    cases j with
    | zero =>
      simp at hj
      subst hj hx
      exact ⟨w.heap.size, 0, rfl, cell_of_heap (heap_alloc_new _ _) rfl⟩
    | succ j => simp at hj⟩
  exact conv_bytes h
theorem decL_big {m : Nat} (h : ¬ m < 10) : decL m = decL (m / 10) ++ [UInt8.ofNat (48 + m % 10)] := by rw [decL, if_neg h]
theorem decL_small {m : Nat} (h : m < 10) : decL m = [UInt8.ofNat (48 + m)] := by rw [decL, if_pos h]
theorem decT_cons (b : UInt8) (l : List UInt8) : (⟨#[b]⟩ : ByteArray) ++ ⟨l.toArray⟩ = ⟨(b :: l).toArray⟩ := by
  apply ByteArray.ext
  simp
theorem decT_mk (m : Nat) : decT m = ⟨(decL m).toArray⟩ := rfl
theorem numT_neg {k : Int} (h : k < 0) : ptext (numP k) = ⟨#[45]⟩ ++ decT k.natAbs := by simp [numP, h, ptext, Piece.text]
theorem numT_pos {k : Int} (h : ¬ k < 0) : ptext (numP k) = decT k.natAbs := by simp [numP, h, ptext, Piece.text]
set_option maxRecDepth 1000000 in
set_option maxHeartbeats 1000000 in
theorem keep_number (n : Int) (w : World) :
    Calls Tryz.prog 9 #[.int .i64 n] w fun e w' => e = .returned (.string (ptext (numP (n.tmod 1000000000)))) ∧ Below w.heap.size w w' := by
  have ht1 := Int.tmod_lt_of_pos n (b := 1000000000) (by decide)
  have ht2 := Int.lt_tmod_of_pos n (b := 1000000000) (by decide)
  generalize hn : n.tmod 1000000000 = k at *
  rcases Int.lt_or_le k 0 with hneg | hpos
  · have hm : -k = (k.natAbs : Int) := by omega
    have hlt : k.natAbs < 1000000000 := by omega
    have HL : Hid ((decL k.natAbs).length ≤ 9) := (decL_len 8 k.natAbs hlt).2
    generalize hM : k.natAbs = M at *
    have HM : Hid _ := hM
    clear hM
    have HT : Hid (ptext (numP k) = ⟨#[45]⟩ ++ decT M) := by
      have := numT_neg hneg
      rw [HM.out] at this
      exact this
    go_enter Tryz.func9, Tryz.ntmps9
    go_wp2_with fail
    go_loopw [3, 4] (fun v3 v4 wr => ∃ (l : List UInt8) (m : Nat), v3 = .string ⟨l.toArray⟩ ∧ v4 = .int .i64 m ∧ m < 1000000000 ∧ Hid (decL M = decL m ++ l ∧ Below w.heap.size w wr)) (fun _ v4 _ => (intOf v4).toNat)
    case atStart => exact ⟨[], M, rfl, rfl, by omega, by simp, Below.refl _ _⟩
    case round =>
      obtain ⟨l, m, rfl, rfl, hm9, HR⟩ := hrel
      have hll : l.length + 1 ≤ 10 := by
        have := HL.out
        rw [HR.out.1, List.length_append] at this
        have := (decL_len 8 m hm9).1
        omega
      have hsz : (⟨l.toArray⟩ : ByteArray).size = l.length := by simp [ByteArray.size]
      have z1 : ¬ 9223372036854775807 < 1 + (⟨l.toArray⟩ : ByteArray).size := by rw [hsz]; omega
      by_cases hbig : m < 10
      · have hb9 : ¬ (9 : Int) < m := by omega
        have hu := (isDig_of hbig).2
        have HD0 : decT M = ⟨(UInt8.ofNat (48 + m) :: l).toArray⟩ := by
          rw [decT_mk, HR.out.1, decL_small hbig]
          rfl
        generalize UInt8.ofNat (48 + m) = c at *
        have HD : Hid _ := HD0
        have hcv := conv_one (w := wr) (b := c) (x := 48 + (m : Int)) (by omega)
        have hw8 : (48 + (m : Int)) % 256 = 48 + m := by omega
        have HC : Hid _ := decT_cons c l
        clear HD0 hu
        have z2 : ¬ 9223372036854775807 < 1 + ((⟨#[c]⟩ : ByteArray) ++ ⟨l.toArray⟩).size := by rw [ByteArray.size_append, hsz, sz1]; omega
        have z3 : ¬ 9223372036854775807 < 1 + (1 + (⟨l.toArray⟩ : ByteArray).size) := by rw [hsz]; omega
        go_wp2
        go_ret
        refine ⟨?_, HR.out.2.alloc HR.out.2.size _⟩
        rw [HT.out, HD.out, ← HC.out]
        rfl
      · have hb9 : (9 : Int) < m := by omega
        have hu := (isDig_of (d := m % 10) (by omega)).2
        have HD0 : decL M = decL (m / 10) ++ ([UInt8.ofNat (48 + m % 10)] ++ l) := by
          rw [HR.out.1, decL_big hbig, List.append_assoc]
        generalize UInt8.ofNat (48 + m % 10) = c at *
        have HD : Hid _ := HD0
        have hcv := conv_one (w := wr) (b := c) (x := 48 + (m : Int) % 10) (by omega)
        have hw8 : (48 + (m : Int) % 10) % 256 = 48 + (m : Int) % 10 := by omega
        have HC : Hid _ := decT_cons c l
        clear HD0 hu
        go_wp2
        go_roundw
        case rel => exact ⟨c :: l, m / 10, by rw [← HC.out], by simp, by omega, HD.out, HR.out.2.alloc HR.out.2.size _⟩
        case measure => simp [intOf]; omega
  · have hm : k = (k.natAbs : Int) := by omega
    have hnn : ¬ k < 0 := by omega
    have hlt : k.natAbs < 1000000000 := by omega
    have HL : Hid ((decL k.natAbs).length ≤ 9) := (decL_len 8 k.natAbs hlt).2
    generalize hM : k.natAbs = M at *
    have HM : Hid _ := hM
    clear hM
    have HT : Hid (ptext (numP k) = decT M) := by
      have := numT_pos hnn
      rw [HM.out] at this
      exact this
    have HKM : Hid (k = (M : Int)) := hm
    clear hm
    go_enter Tryz.func9, Tryz.ntmps9
    go_wp2_with fail
    go_loopw [3, 4] (fun v3 v4 wr => ∃ (l : List UInt8) (m : Nat), v3 = .string ⟨l.toArray⟩ ∧ v4 = .int .i64 m ∧ m < 1000000000 ∧ Hid (decL M = decL m ++ l ∧ Below w.heap.size w wr)) (fun _ v4 _ => (intOf v4).toNat)
    case atStart => exact ⟨[], M, rfl, by rw [HKM.out], by omega, by simp, Below.refl _ _⟩
    case round =>
      obtain ⟨l, m, rfl, rfl, hm9, HR⟩ := hrel
      have hll : l.length + 1 ≤ 10 := by
        have := HL.out
        rw [HR.out.1, List.length_append] at this
        have := (decL_len 8 m hm9).1
        omega
      have hsz : (⟨l.toArray⟩ : ByteArray).size = l.length := by simp [ByteArray.size]
      have z1 : ¬ 9223372036854775807 < 1 + (⟨l.toArray⟩ : ByteArray).size := by rw [hsz]; omega
      by_cases hbig : m < 10
      · have hb9 : ¬ (9 : Int) < m := by omega
        have hu := (isDig_of hbig).2
        have HD0 : decT M = ⟨(UInt8.ofNat (48 + m) :: l).toArray⟩ := by
          rw [decT_mk, HR.out.1, decL_small hbig]
          rfl
        generalize UInt8.ofNat (48 + m) = c at *
        have HD : Hid _ := HD0
        have hcv := conv_one (w := wr) (b := c) (x := 48 + (m : Int)) (by omega)
        have hw8 : (48 + (m : Int)) % 256 = 48 + m := by omega
        have HC : Hid _ := decT_cons c l
        clear HD0 hu
        go_wp2
        go_ret
        refine ⟨?_, HR.out.2.alloc HR.out.2.size _⟩
        rw [HT.out, HD.out, ← HC.out]
        rfl
      · have hb9 : (9 : Int) < m := by omega
        have hu := (isDig_of (d := m % 10) (by omega)).2
        have HD0 : decL M = decL (m / 10) ++ ([UInt8.ofNat (48 + m % 10)] ++ l) := by
          rw [HR.out.1, decL_big hbig, List.append_assoc]
        generalize UInt8.ofNat (48 + m % 10) = c at *
        have HD : Hid _ := HD0
        have hcv := conv_one (w := wr) (b := c) (x := 48 + (m : Int) % 10) (by omega)
        have hw8 : (48 + (m : Int) % 10) % 256 = 48 + (m : Int) % 10 := by omega
        have HC : Hid _ := decT_cons c l
        clear HD0 hu
        go_wp2
        go_roundw
        case rel => exact ⟨c :: l, m / 10, by rw [← HC.out], by simp, by omega, HD.out, HR.out.2.alloc HR.out.2.size _⟩
        case measure => simp [intOf]; omega
end Go.Proofs.YtaghcjpoihkpjaaGreatDoor
