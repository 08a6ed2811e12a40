/-
  THE REFERENCE's SMALL FUNCTIONS, WALKED: Measure, number.
-/
import Derived.Test.YtihmgoahobbdkaaGreatDoorRefA
namespace Go.Proofs.YtihmgoahobbdkaaGreatDoor
open Go.RowKit

theorem isMeasure_or (b : ByteArray) : isMeasure b = (b.toList == [115, 117, 109] || b.toList == [99, 111, 117, 110, 116] || b.toList == [108, 101, 97, 115, 116] || b.toList == [109, 111, 115, 116] || b.toList == [109, 101, 97, 110] || b.toList == [108, 97, 115, 116]) := by
  simp only [isMeasure, List.contains_eq_any_beq, List.any_cons, List.any_nil, Bool.or_false, Bool.or_assoc]

set_option maxRecDepth 100000 in
theorem ref_measure (b : ByteArray) (w : World) : Calls Tryz.prog 190 #[.string b] w fun e w' => e = .returned (.bool (isMeasure b)) ∧ w' = w := by
  go_enter Tryz.func190, Tryz.ntmps190
  go_wp2
  all_goals (go_ret; exact ⟨by first | (rw [isMeasure_or]; done) | (rw [isMeasure_or]; simp [*]), rfl⟩)

theorem numOf_snoc (l : List UInt8) (x : UInt8) : numOf (l ++ [x]) = 10 * numOf l + ((x.toNat : Int) - 48) := by simp [numOf]
theorem byte_at {b : ByteArray} {k : Nat} (h : k < b.size) : b.data.toList[k]? = some b[k] := by
  rw [List.getElem?_eq_getElem (by simpa using h)]
  rfl
theorem numOf_take {b : ByteArray} {k : Nat} (h : k < b.size) : numOf (b.data.toList.take (k + 1)) = 10 * numOf (b.data.toList.take k) + ((b[k].toNat : Int) - 48) := by
  rw [List.take_add_one, byte_at h]
  exact numOf_snoc _ _
theorem numOf_lt {b : ByteArray} (hd : ∀ x ∈ b.data.toList, isDig x = true) : ∀ k, k ≤ b.size → 0 ≤ numOf (b.data.toList.take k) ∧ numOf (b.data.toList.take k) < 10 ^ k
  | 0, _ => by simp [numOf]
  | k + 1, h => by
    have h1 := numOf_lt hd k (by omega)
    have h2 := hd _ (List.mem_of_getElem? (byte_at (b := b) (k := k) (by omega)))
    simp [isDig] at h2
    rw [numOf_take (by omega), Int.pow_succ]
    omega
theorem wrap_in {n : Int} (h : -9223372036854775808 ≤ n ∧ n ≤ 9223372036854775807) : wrap64 n = n := by unfold wrap64; omega
theorem pow9 {k : Nat} (h : k ≤ 9) : (10 : Int) ^ k ≤ 1000000000 := by
  have : ∀ k : Fin 10, (10 : Int) ^ k.val ≤ 1000000000 := by decide
  exact this ⟨k, by omega⟩

set_option maxRecDepth 100000 in
theorem ref_number (b : ByteArray) (w : World) (hd : ∀ x ∈ b.data.toList, isDig x = true) (hl : b.size ≤ 9) : Calls Tryz.prog 176 #[.string b] w fun e w' => e = .returned (.int .i64 (numOf b.data.toList)) ∧ w' = w := by
  go_enter Tryz.func176, Tryz.ntmps176
  go_wp2
  have HD : Hid (∀ x ∈ b.data.toList, isDig x = true) := hd
  clear hd
  go_loop [3, 4] (fun n i => ∃ k : Nat, k ≤ b.size ∧ i = .int .i64 k ∧ n = .int .i64 (numOf (b.data.toList.take k)))
                 (fun _ i => b.size - (intOf i).toNat)
  case atStart => exact ⟨0, Nat.zero_le _, rfl, rfl⟩
  case round =>
    obtain ⟨k, hk, rfl, rfl⟩ := hrel
    rcases Nat.lt_or_ge k b.size with h8 | h8
    · have h2 := numOf_lt HD.out k hk
      have h3 := numOf_lt HD.out (k + 1) h8
      have h4 := pow9 (k := k) (by omega)
      have h5 := pow9 (k := k + 1) (by omega)
      have h6 := HD.out _ (List.mem_of_getElem? (byte_at (b := b) (k := k) h8))
      simp [isDig] at h6
      have h7 := numOf_take h8
      have H2 : Hid _ := h2
      have H3 : Hid _ := h3
      have H4 : Hid _ := h4
      have H5 : Hid _ := h5
      have H6 : Hid _ := h6
      have H7 : Hid _ := h7
      clear h2 h3 h4 h5 h6 h7
      go_wp2
      go_round
      case rel =>
        refine ⟨k + 1, by omega, by go_num, ?_⟩
        have h2 := H2.out
        have h3 := H3.out
        have h4 := H4.out
        have h5 := H5.out
        have h6 := H6.out
        have h7 := H7.out
        rw [h7, wrap_in (n := 10 * numOf (b.data.toList.take k)) (by omega), wrap_in (by omega)]
        congr 1
        omega
      case measure => simp [intOf]; omega
    · obtain rfl : k = b.size := by omega
      go_wp2
      go_ret
      have e : b.data.toList.take b.size = b.data.toList := List.take_of_length_le (by simp)
      rw [e]
      exact ⟨rfl, rfl⟩
end Go.Proofs.YtihmgoahobbdkaaGreatDoor
