/-
 THE REFERENCE's SMALL FUNCTIONS, WALKED: sign, Measure, number, (*Reader).kind, (*Reader).take.
-/
import Derived.Test.YtbokdbaagacnlaaGreatDoorProg
import Derived.Test.YtbokdbaagacnlaaGreatDoorJK3
import Derived.Test.YtbokdbaagacnlaaGreatDoorJK1
import Derived.Deep.QuietTactic
import Derived.BigQuiet
import Derived.BigRegion
import Derived.Lib.TrimU
import Derived.Lib.QuoteLoop
import Derived.Test.YtbokdbaagacnlaaGreatDoorJKS
import Derived.Lib.RuneCountTail
import Derived.Deep.DeepFit
namespace Go.Proofs.YtbokdbaagacnlaaGreatDoor
open Go.RowKit
theorem u8_beq (c d : UInt8) : (c == d) = ((c.toNat : Int) == (d.toNat : Int)) := by
 rw [Bool.eq_iff_iff]
 simp only [beq_iff_eq, ← UInt8.toNat_inj]
 omega
theorem isSign_int (c : UInt8) : isSign c = (((c.toNat : Int) == 63) || ((c.toNat : Int) == 58) || ((c.toNat : Int) == 60) || ((c.toNat : Int) == 62) || ((c.toNat : Int) == 61) || ((c.toNat : Int) == 43) || ((c.toNat : Int) == 45) || ((c.toNat : Int) == 42) || ((c.toNat : Int) == 47) || ((c.toNat : Int) == 40) || ((c.toNat : Int) == 41) || ((c.toNat : Int) == 44)) := by
 unfold isSign
 rw [u8_beq c 63, u8_beq c 58, u8_beq c 60, u8_beq c 62, u8_beq c 61, u8_beq c 43, u8_beq c 45, u8_beq c 42, u8_beq c 47, u8_beq c 40, u8_beq c 41, u8_beq c 44]
 rfl
set_option maxRecDepth 100000 in
theorem ref_sign (c : UInt8) (w : World) : Calls Tryz.prog 88 #[.int .u8 c.toNat] w fun e w' => e = .returned (.bool (isSign c)) ∧ w' = w := by
 go_enter Tryz.func88, Tryz.ntmps88
 go_wp2
 all_goals (go_ret; exact ⟨by rw [isSign_int]; simp [*], rfl⟩)
set_option maxRecDepth 100000 in
theorem ref_kind (R bl n cap : Nat) (I k : Nat) (w : World) (h0 : w.cell? ⟨R, 0, none⟩ = some (.slice (some ⟨bl, 0, none⟩) n cap)) (h1 : w.cell? ⟨R, 1, none⟩ = some (.int .i64 I))
  (hlt : (I : Int) < n) (hk : w.cell? ⟨bl, I * 3, none⟩ = some (.int .u8 k)) :
  Calls Tryz.prog 91 #[.pointer (some ⟨R, 0, none⟩)] w fun e w' => e = .returned (.int .u8 k) ∧ ∃ q, w' = w.drewN q := by
 go_enter Tryz.func91, Tryz.ntmps91
 go_wp2
 go_quiet (fail)
 go_wp2
 go_ret
 exact ⟨rfl, _, rfl⟩
abbrev tokenOf (k p : Nat) (t : ByteArray) : Value := .agg #[.int .u8 k, .int .i64 p, .string t]
def RdAt (w : World) (R bl n cap I : Nat) (bad : Bool) : Prop := w.heap[R]? = some (.cells #[.slice (some ⟨bl, 0, none⟩) n cap, .int .i64 I, .bool bad] 165 (0, 0))
theorem RdAt.set1 {w : World} {R bl n cap I : Nat} {bad : Bool} (h : RdAt w R bl n cap I bad) (J : Nat) : RdAt (w.setCell ⟨R, 1, none⟩ (.int .i64 J)) R bl n cap J bad := heap_set_same h
theorem RdAt.set2 {w : World} {R bl n cap I : Nat} {bad : Bool} (h : RdAt w R bl n cap I bad) (b : Bool) : RdAt (w.setCell ⟨R, 2, none⟩ (.bool b)) R bl n cap I b := heap_set_same h
theorem RdAt.alloc {w : World} {R bl n cap I : Nat} {bad : Bool} (h : RdAt w R bl n cap I bad) (o : Obj) : RdAt (w.alloc o) R bl n cap I bad := heap_alloc_old h
theorem RdAt.drew {w : World} {R bl n cap I : Nat} {bad : Bool} (h : RdAt w R bl n cap I bad) : RdAt w.drew R bl n cap I bad := h
theorem RdAt.drewN {w : World} {R bl n cap I : Nat} {bad : Bool} (h : RdAt w R bl n cap I bad) (q : Nat) : RdAt (w.drewN q) R bl n cap I bad := h
set_option maxRecDepth 100000 in
theorem ref_take_hit (R bl n cap : Nat) (I k p : Nat) (t : ByteArray) (w : World) (hR : RdAt w R bl n cap I false) (hlt : (I : Int) < n) (hn : n ≤ 1000) (hk : w.cell? ⟨bl, I * 3, none⟩ = some (.int .u8 k))
  (hp : w.cell? ⟨bl, I * 3 + 1, none⟩ = some (.int .i64 p)) (ht : w.cell? ⟨bl, I * 3 + 2, none⟩ = some (.string t)) :
  Calls Tryz.prog 61 #[.pointer (some ⟨R, 0, none⟩), .int .u8 k] w fun e w' => e = .returned (tokenOf k p t) ∧ RdAt w' R bl n cap (I + 1) false ∧ Keep R w w' := by
 have h0 := cell_of_heap (i := 0) hR rfl
 have h1 := cell_of_heap (i := 1) hR rfl
 have h2 := cell_of_heap (i := 2) hR rfl
 have hf := frozen_of_heap (i := 1) hR
 have hf2 := frozen_of_heap (i := 2) hR
 have lR : R < w.heap.size := heap_lt hR
 have lb : bl < w.heap.size := World.block_lt_of_cell? _ _ hk
 have HR : Hid (RdAt w R bl n cap I false) := hR
 clear hR
 go_enter Tryz.func61, Tryz.ntmps61
 go_wp2
 go_region
 go_wp2
 refine bodyPost_ret (v := tokenOf k p t) (by simp [results, Tryz.results61, go_sem, tokenOf]) rfl ⟨rfl, ?_, ?_⟩
 ·exact (((HR.out.set1 (I + 1)).alloc _).alloc _).drew
 ·exact ((((Keep.refl R w).setR _ _).alloc _).alloc _).drew
set_option maxRecDepth 100000 in
theorem ref_take_miss (R bl n cap : Nat) (I k k' p : Nat) (t : ByteArray) (w : World) (hR : RdAt w R bl n cap I false) (hlt : (I : Int) < n) (hk : w.cell? ⟨bl, I * 3, none⟩ = some (.int .u8 k))
  (hp : w.cell? ⟨bl, I * 3 + 1, none⟩ = some (.int .i64 p)) (ht : w.cell? ⟨bl, I * 3 + 2, none⟩ = some (.string t)) (hne : ((k : Int) == (k' : Int)) = false) :
  Calls Tryz.prog 61 #[.pointer (some ⟨R, 0, none⟩), .int .u8 k'] w fun e w' => e = .returned (tokenOf 0 0 { data := #[] }) ∧ RdAt w' R bl n cap I true ∧ Keep R w w' := by
 have h0 := cell_of_heap (i := 0) hR rfl
 have h1 := cell_of_heap (i := 1) hR rfl
 have h2 := cell_of_heap (i := 2) hR rfl
 have hf := frozen_of_heap (i := 1) hR
 have hf2 := frozen_of_heap (i := 2) hR
 have lR : R < w.heap.size := heap_lt hR
 have lb : bl < w.heap.size := World.block_lt_of_cell? _ _ hk
 have HR : Hid (RdAt w R bl n cap I false) := hR
 clear hR
 go_enter Tryz.func61, Tryz.ntmps61
 go_wp2
 go_region
 go_wp2
 refine bodyPost_ret (v := tokenOf 0 0 { data := #[] }) (by simp [results, Tryz.results61, go_sem, tokenOf]) rfl ⟨rfl, ?_, ?_⟩
 ·exact (((HR.out.set2 true).alloc _).alloc _).drew
 ·exact ((((Keep.refl R w).setR _ _).alloc _).alloc _).drew
set_option maxRecDepth 100000 in
theorem ref_take_bad (R bl n cap : Nat) (I k k' p : Nat) (t : ByteArray) (w : World) (hR : RdAt w R bl n cap I true) (hlt : (I : Int) < n) (hk : w.cell? ⟨bl, I * 3, none⟩ = some (.int .u8 k))
  (hp : w.cell? ⟨bl, I * 3 + 1, none⟩ = some (.int .i64 p)) (ht : w.cell? ⟨bl, I * 3 + 2, none⟩ = some (.string t)) :
  Calls Tryz.prog 61 #[.pointer (some ⟨R, 0, none⟩), .int .u8 k'] w fun e w' => e = .returned (tokenOf 0 0 { data := #[] }) ∧ RdAt w' R bl n cap I true ∧ Keep R w w' := by
 have h0 := cell_of_heap (i := 0) hR rfl
 have h1 := cell_of_heap (i := 1) hR rfl
 have h2 := cell_of_heap (i := 2) hR rfl
 have hf := frozen_of_heap (i := 1) hR
 have hf2 := frozen_of_heap (i := 2) hR
 have lR : R < w.heap.size := heap_lt hR
 have lb : bl < w.heap.size := World.block_lt_of_cell? _ _ hk
 have HR : Hid (RdAt w R bl n cap I true) := hR
 clear hR
 go_enter Tryz.func61, Tryz.ntmps61
 go_wp2
 go_region
 go_wp2
 refine bodyPost_ret (v := tokenOf 0 0 { data := #[] }) (by simp [results, Tryz.results61, go_sem, tokenOf]) rfl ⟨rfl, ?_, ?_⟩
 ·exact (((HR.out.set2 true).alloc _).alloc _).drew
 ·exact ((((Keep.refl R w).setR _ _).alloc _).alloc _).drew
end Go.Proofs.YtbokdbaagacnlaaGreatDoor
namespace Go.Proofs.YtbokdbaagacnlaaGreatDoor
open Go.RowKit
theorem isMeasure_or (b : ByteArray) : isMeasure b = (b.toList == [115, 117, 109] || b.toList == [99, 111, 117, 110, 116] || b.toList == [108, 101, 97, 115, 116] || b.toList == [109, 111, 115, 116] || b.toList == [109, 101, 97, 110] || b.toList == [108, 97, 115, 116]) := by
 simp only [isMeasure, List.contains_eq_any_beq, List.any_cons, List.any_nil, Bool.or_false, Bool.or_assoc]
set_option maxRecDepth 100000 in
theorem ref_measure (b : ByteArray) (w : World) : Calls Tryz.prog 233 #[.string b] w fun e w' => e = .returned (.bool (isMeasure b)) ∧ w' = w := by
 go_enter Tryz.func233, Tryz.ntmps233
 go_wp2
 all_goals (go_ret; exact ⟨by first | (rw [isMeasure_or]; done) | (rw [isMeasure_or]; simp [*]), rfl⟩)
theorem numOf_snoc (l : List UInt8) (x : UInt8) : numOf (l ++ [x]) = 10 * numOf l + ((x.toNat : Int) - 48) := by simp [numOf]
theorem byte_at {b : ByteArray} {k : Nat} (h : k < b.size) : b.data.toList[k]? = some b[k] := by
 rw [List.getElem?_eq_getElem (by simpa using h)]
 rfl
theorem numOf_take {b : ByteArray} {k : Nat} (h : k < b.size) : numOf (b.data.toList.take (k + 1)) = 10 * numOf (b.data.toList.take k) + ((b[k].toNat : Int) - 48) := by
 rw [List.take_add_one, byte_at h]
 exact numOf_snoc _ _
theorem numOf_lt {b : ByteArray} (hd : ∀ x ∈ b.data.toList, isDig x = true) : ∀ k, k ≤ b.size → 0 ≤ numOf (b.data.toList.take k) ∧ numOf (b.data.toList.take k) < 10 ^ k
 | 0, _ => by simp [numOf]
 | k + 1, h => by
  have h1 := numOf_lt hd k (by omega)
  have h2 := hd _ (List.mem_of_getElem? (byte_at (b := b) (k := k) (by omega)))
  simp [isDig] at h2
  rw [numOf_take (by omega), Int.pow_succ]
  omega
theorem wrap_in {n : Int} (h : -9223372036854775808 ≤ n ∧ n ≤ 9223372036854775807) : wrap64 n = n := by unfold wrap64; omega
theorem pow9 {k : Nat} (h : k ≤ 9) : (10 : Int) ^ k ≤ 1000000000 := by
 have : ∀ k : Fin 10, (10 : Int) ^ k.val ≤ 1000000000 := by decide
 exact this ⟨k, by omega⟩
set_option maxRecDepth 100000 in
theorem ref_number (b : ByteArray) (w : World) (hd : ∀ x ∈ b.data.toList, isDig x = true) (hl : b.size ≤ 9) : Calls Tryz.prog 220 #[.string b] w fun e w' => e = .returned (.int .i64 (numOf b.data.toList)) ∧ w' = w := by
 go_enter Tryz.func220, Tryz.ntmps220
 go_wp2
 have HD : Hid (∀ x ∈ b.data.toList, isDig x = true) := hd
 clear hd
 go_loop [3, 4] (fun n i => ∃ k : Nat, k ≤ b.size ∧ i = .int .i64 k ∧ n = .int .i64 (numOf (b.data.toList.take k)))
                (fun _ i => b.size - (intOf i).toNat)
 case atStart => exact ⟨0, Nat.zero_le _, rfl, rfl⟩
 case round =>
  obtain ⟨k, hk, rfl, rfl⟩ := hrel
  rcases Nat.lt_or_ge k b.size with h8 | h8
  ·have h2 := numOf_lt HD.out k hk
   have h3 := numOf_lt HD.out (k + 1) h8
   have h4 := pow9 (k := k) (by omega)
   have h5 := pow9 (k := k + 1) (by omega)
   have h6 := HD.out _ (List.mem_of_getElem? (byte_at (b := b) (k := k) h8))
   simp [isDig] at h6
   have h7 := numOf_take h8
   have H2 : Hid _ := h2
   have H3 : Hid _ := h3
   have H4 : Hid _ := h4
   have H5 : Hid _ := h5
   have H6 : Hid _ := h6
   have H7 : Hid _ := h7
   clear h2 h3 h4 h5 h6 h7
   go_wp2
   go_round
   case rel =>
    refine ⟨k + 1, by omega, by go_num, ?_⟩
    have h2 := H2.out
    have h3 := H3.out
    have h4 := H4.out
    have h5 := H5.out
    have h6 := H6.out
    have h7 := H7.out
    rw [h7, wrap_in (n := 10 * numOf (b.data.toList.take k)) (by omega), wrap_in (by omega)]
    congr 1
    omega
   case measure => simp [intOf]; omega
  ·obtain rfl : k = b.size := by omega
   go_wp2
   go_ret
   have e : b.data.toList.take b.size = b.data.toList := List.take_of_length_le (by simp)
   rw [e]
   exact ⟨rfl, rfl⟩
end Go.Proofs.YtbokdbaagacnlaaGreatDoor
namespace Go.Proofs.YtbokdbaagacnlaaGreatDoor
open Go.Lib
theorem decode_le {s : ByteArray} {i : Nat} (h : i < s.size) : i + (Utf8.decode s i).2 ≤ s.size := by
 rw [decode_at]
 have := decodeN_width_le (s.size - i) (s.get! i).toNat (s.get! (i + 1)).toNat (s.get! (i + 2)).toNat (s.get! (i + 3)).toNat (by omega)
 omega
theorem wordFrom_fuel (s : ByteArray) : ∀ (f g i n : Nat), s.size - i ≤ f → s.size - i ≤ g → wordFrom s f i n = wordFrom s g i n
 | 0, g, i, n, h, _ => by
  cases g with
  | zero => rfl
  | succ g => simp [wordFrom, show ¬ i < s.size by omega]
 | f + 1, 0, i, n, _, h => by simp [wordFrom, show ¬ i < s.size by omega]
 | f + 1, g + 1, i, n, hf, hg => by
  unfold wordFrom
  split
  ·rename_i h
   have := width_pos s i
   exact wordFrom_fuel s f g _ _ (by omega) (by omega)
  ·rfl
theorem wordFrom_le (s : ByteArray) : ∀ (f i n : Nat), i ≤ s.size → i ≤ (wordFrom s f i n).1 ∧ (wordFrom s f i n).1 ≤ s.size ∧ n ≤ (wordFrom s f i n).2 ∧ (n < (wordFrom s f i n).2 → i < (wordFrom s f i n).1) ∧ (wordFrom s f i n).2 - n ≤ (wordFrom s f i n).1 - i
 | 0, i, n, h => by simp [wordFrom]; exact h
 | f + 1, i, n, h => by
  unfold wordFrom
  split
  ·rename_i hh
   have h1 := width_pos s i
   have h2 := decode_le hh.1
   have := wordFrom_le s f (i + (Utf8.decode s i).2) (n + 1) h2
   omega
  ·simp; exact h
theorem digFrom_fuel (s : ByteArray) : ∀ (f g i : Nat), s.size - i ≤ f → s.size - i ≤ g → digFrom s f i = digFrom s g i
 | 0, g, i, h, _ => by
  cases g with
  | zero => rfl
  | succ g => simp [digFrom, show ¬ i < s.size by omega]
 | f + 1, 0, i, _, h => by simp [digFrom, show ¬ i < s.size by omega]
 | f + 1, g + 1, i, hf, hg => by
  unfold digFrom
  split
  ·exact digFrom_fuel s f g _ (by omega) (by omega)
  ·rfl
theorem digFrom_le (s : ByteArray) : ∀ (f i : Nat), i ≤ s.size → i ≤ digFrom s f i ∧ digFrom s f i ≤ s.size
 | 0, i, h => by simp [digFrom]; exact h
 | f + 1, i, h => by
  unfold digFrom
  split
  ·have := digFrom_le s f (i + 1) (by omega)
   omega
  ·exact ⟨Nat.le_refl _, h⟩
theorem skipFrom_fuel (s : ByteArray) : ∀ (f g i : Nat), s.size - i ≤ f → s.size - i ≤ g → skipFrom s f i = skipFrom s g i
 | 0, g, i, h, _ => by
  cases g with
  | zero => rfl
  | succ g => simp [skipFrom, show ¬ i < s.size by omega]
 | f + 1, 0, i, _, h => by simp [skipFrom, show ¬ i < s.size by omega]
 | f + 1, g + 1, i, hf, hg => by
  unfold skipFrom
  split
  ·exact skipFrom_fuel s f g _ (by omega) (by omega)
  ·rfl
theorem skipFrom_le (s : ByteArray) : ∀ (f i : Nat), i ≤ s.size → i ≤ skipFrom s f i ∧ skipFrom s f i ≤ s.size
 | 0, i, h => by simp [skipFrom]; exact h
 | f + 1, i, h => by
  unfold skipFrom
  split
  ·have := skipFrom_le s f (i + 1) (by omega)
   omega
  ·exact ⟨Nat.le_refl _, h⟩
theorem skip_le {s : ByteArray} {i : Nat} (h : i ≤ s.size) : i ≤ skip s i ∧ skip s i ≤ s.size := skipFrom_le s _ i h
theorem digEnd_le {s : ByteArray} {i : Nat} (h : i ≤ s.size) : i ≤ digEnd s i ∧ digEnd s i ≤ s.size := digFrom_le s _ i h
theorem skip_blank {s : ByteArray} {i : Nat} (h : i < s.size) (hb : blank (byteAt s i) = true) : skip s i = skip s (i + 1) := by
 unfold skip
 obtain ⟨f, hf⟩ : ∃ f, s.size - i = f + 1 := ⟨s.size - i - 1, by omega⟩
 rw [hf, skipFrom, if_pos ⟨h, hb⟩]
 exact skipFrom_fuel s _ _ _ (by omega) (by omega)
theorem skip_here {s : ByteArray} {i : Nat} (hb : blank (byteAt s i) = false) : skip s i = i := by
 unfold skip
 cases h : s.size - i with
 | zero => rfl
 | succ f => rw [skipFrom, if_neg (by simp [hb])]
theorem skip_end (s : ByteArray) : skip s s.size = s.size := by unfold skip; rw [Nat.sub_self]; rfl
theorem tokAt_stop {s : ByteArray} {i : Nat} (hi : i ≤ s.size) (h : (tokAt s i).last = false) : i < (tokAt s i).stop ∧ (tokAt s i).stop ≤ s.size ∧ i < s.size ∧ (tokAt s i).pos = i := by
 revert h
 unfold tokAt
 have h1 := digEnd_le hi
 have h2 := wordFrom_le s (s.size - i) i 0 hi
 repeat' split
 all_goals simp only [Tok.last] <;> simp
 ·intro _; omega
 ·omega
 ·rename_i h3; unfold wordEnd at h3 ⊢; omega
theorem tokFrom_stop {s : ByteArray} {i : Nat} (hi : i ≤ s.size) (h : (tokFrom s i).last = false) : i < (tokFrom s i).stop ∧ (tokFrom s i).stop ≤ s.size := by
 have h1 := skip_le hi
 have := tokAt_stop h1.2 h
 unfold tokFrom
 omega
theorem toksFrom_fuel (s : ByteArray) : ∀ (f g i : Nat), i ≤ s.size → s.size - i ≤ f → s.size - i ≤ g → toksFrom s f i = toksFrom s g i := by
 have last : ∀ f, toksFrom s f s.size = [tokFrom s s.size] := by
  intro f
  have h : (tokFrom s s.size).last = true := by
   unfold tokFrom
   rw [skip_end]
   simp [tokAt, Tok.last]
  cases f with
  | zero => rfl
  | succ f => rw [toksFrom, if_pos h]
 intro f
 induction f with
 | zero =>
  intro g i hi h _
  obtain rfl : i = s.size := by omega
  rw [last, last]
 | succ f ih =>
  intro g i hi hf hg
  cases g with
  | zero =>
   obtain rfl : i = s.size := by omega
   rw [last, last]
  | succ g =>
   rw [toksFrom, toksFrom]
   cases h : (tokFrom s i).last with
   | true => rfl
   | false =>
    have := tokFrom_stop hi h
    simp only [Bool.false_eq_true, if_false]
    rw [ih g _ this.2 (by omega) (by omega)]
def toksAt (s : ByteArray) (i : Nat) : List Tok := toksFrom s (s.size - i) i
theorem toksAt_last {s : ByteArray} {i : Nat} (h : (tokFrom s i).last = true) : toksAt s i = [tokFrom s i] := by
 unfold toksAt
 cases s.size - i with
 | zero => rfl
 | succ f => rw [toksFrom, if_pos h]
theorem toksAt_cons {s : ByteArray} {i : Nat} (hi : i ≤ s.size) (h : (tokFrom s i).last = false) : toksAt s i = tokFrom s i :: toksAt s (tokFrom s i).stop := by
 have h1 := tokFrom_stop hi h
 unfold toksAt
 obtain ⟨f, hf⟩ : ∃ f, s.size - i = f + 1 := ⟨s.size - i - 1, by omega⟩
 rw [hf, toksFrom, h]
 simp only [Bool.false_eq_true, if_false]
 rw [toksFrom_fuel s f _ _ h1.2 (by omega) (Nat.le_refl _)]
theorem toksAt_blank {s : ByteArray} {i : Nat} (hi : i < s.size) (hb : blank (byteAt s i) = true) : toksAt s i = toksAt s (i + 1) := by
 have e : tokFrom s i = tokFrom s (i + 1) := by unfold tokFrom; rw [skip_blank hi hb]
 cases h : (tokFrom s i).last with
 | true => rw [toksAt_last h, toksAt_last (e ▸ h), e]
 | false =>
  have h' : (tokFrom s (i + 1)).last = false := e ▸ h
  rw [toksAt_cons (i := i) (by omega) h, toksAt_cons (i := i + 1) (by omega) h', e]
end Go.Proofs.YtbokdbaagacnlaaGreatDoor
namespace Go.Proofs.YtbokdbaagacnlaaGreatDoor
open Go.RowKit Go.Lib
structure Tabs (w : World) : Prop where
 utf : Utf8Tabs 9 10 w
 props : TabIs Tryz.prog w "unicode.properties" .u8 propertiesTab
 letter : RVar 12 letterT w
 digit : RVar 13 digitT w
theorem Tryz.gProps : Tryz.prog.globalNamed "unicode.properties" = some 11 := by kernel_rfl
theorem Tabs.below {w w' : World} (h : Tabs w) (hb : Below w.heap.size w w') : Tabs w' :=
 ⟨⟨fun c hc => cell_below hb (h.utf.1 c hc), fun i hi => ⟨cell_below hb (h.utf.2 i hi).1, cell_below hb (h.utf.2 i hi).2⟩⟩, TabIs_below Tryz.gProps h.props hb, RVar_below h.letter hb, RVar_below h.digit hb⟩
theorem below_size {w w' w'' : World} (h : Below w.heap.size w w') (k : Below w'.heap.size w' w'') : Below w.heap.size w w'' := h.trans (k.mono h.size)
set_option maxRecDepth 100000 in
theorem ref_letter (r : Nat) (hr : r ≤ 1114111) (first : Bool) (w : World) (hT : Tabs w) :
  Calls Tryz.prog 112 #[.int .i32 r, .bool first] w fun e w' => e = .returned (.bool (namePart first r)) ∧ Below w.heap.size w w' := by
 have hl := fun W hW => Tryz.unicode_IsLetter_all r W (by omega) (by omega) (Tabs.props (Tabs.below hT hW)) (Tabs.letter (Tabs.below hT hW))
 have hd := fun W hW => Tryz.unicode_IsDigit_all r W (by omega) (by omega) (Tabs.digit (Tabs.below hT hW))
 have hN : namePart first r = (isLetterU r || (isDigitU r && !first)) := rfl
 rw [hN]
 clear hN
 generalize isLetterU (r : Int) = A at hl ⊢
 generalize isDigitU (r : Int) = B at hd ⊢
 go_enter Tryz.func112, Tryz.ntmps112
 go_wp2_with fail
 refine (hl w (Below.refl _ _)).mono ?_
 rintro e w1 ⟨rfl, hb1⟩
 go_wp2_with fail
 refine (hd w1 hb1).mono ?_
 rintro e w2 ⟨rfl, hb2⟩
 have hb3 := below_size hb1 hb2
 clear hl hd hb1 hb2
 cases A <;> cases B <;> cases first
 all_goals go_wp2
 all_goals go_ret
 all_goals exact ⟨rfl, hb3⟩
theorem decodeGo_rest {s : ByteArray} {i : Nat} (h : i < s.size) : decodeGo (s.extract i s.size) = Utf8.decode s i := by
 unfold decodeGo
 rw [if_neg (by simp; omega), tail_decode]
 simp
set_option maxRecDepth 100000 in
theorem ref_word (s : ByteArray) (i0 : Nat) (hs : s.size ≤ 1000) (hi0 : i0 ≤ s.size) (w : World) (hT : Tabs w) :
  Calls Tryz.prog 89 #[.string s, .int .i64 i0] w fun e w' => e = .returned (.tuple #[.int .i64 (wordEnd s i0).1, .int .i64 (wordEnd s i0).2]) ∧ Below w.heap.size w w' := by
 have HT : Hid (Tabs w) := hT
 clear hT
 go_enter Tryz.func89, Tryz.ntmps89
 go_wp2_with fail
 go_loopw [1, 6] (fun i n wr => ∃ k c : Nat, k ≤ s.size ∧ c ≤ k ∧ i = .int .i64 k ∧ n = .int .i64 c ∧ Hid (wordFrom s (s.size - k) k c = wordEnd s i0) ∧ Hid (Below w.heap.size w wr))
                (fun i _ _ => s.size - (intOf i).toNat)
 case atStart => exact ⟨i0, 0, hi0, Nat.zero_le _, rfl, rfl, rfl, Below.refl _ _⟩
 case round =>
  obtain ⟨k, c, hk, hc, rfl, rfl, HE, HB⟩ := hrel
  rcases Nat.lt_or_ge k s.size with h8 | h8
  ·have HT1 := HT.out.below HB.out
   have hle := decode_le h8
   have hpos := Lib.width_pos s k
   have hrl := Lib.rune_le s k
   have hdec := Tryz.utf8_DecodeRuneInString (s.extract k s.size) wr HT1.utf
   rw [decodeGo_rest h8] at hdec
   have HE' : Hid ((if namePart (c == 0) (Utf8.decode s k).1 = true then wordFrom s (s.size - (k + (Utf8.decode s k).2)) (k + (Utf8.decode s k).2) (c + 1) else (k, c)) = wordEnd s i0) := by
    rw [← HE.out]
    obtain ⟨f, hf⟩ : ∃ f, s.size - k = f + 1 := ⟨s.size - k - 1, by omega⟩
    rw [hf, wordFrom]
    simp only [h8, true_and]
    split
    ·exact wordFrom_fuel s _ _ _ _ (by omega) (by omega)
    ·rfl
   generalize (Utf8.decode s k).1 = r at *
   generalize (Utf8.decode s k).2 = d at *
   clear HE
   go_wp2_with fail
   refine hdec.mono ?_
   rintro e w1 ⟨rfl, hb1⟩
   have hlt := ref_letter r hrl ((c : Int) == 0) w1 (HT1.below hb1)
   have ec : (c == 0) = ((c : Int) == 0) := by rw [Bool.eq_iff_iff]; simp
   rw [ec] at HE'
   clear ec
   clear hdec
   go_wp2_with fail
   go_fit hlt
   rintro e w2 ⟨rfl, hb2⟩
   have HB2 : Hid (Below w.heap.size w w2) := below_size (below_size HB.out hb1) hb2
   clear hlt hb1 hb2 HB HT1
   generalize namePart ((c : Int) == 0) r = np at *
   cases np
   ·go_wp2
    go_ret2
    have e := HE'.out
    simp at e
    rw [← e]
    exact ⟨rfl, HB2.out⟩
   ·go_wp2
    go_roundw
    case rel => exact ⟨k + d, c + 1, by omega, by omega, by go_num, by go_num, HE'.out, HB2⟩
    case measure => simp [intOf]; omega
  ·obtain rfl : k = s.size := by omega
   go_wp2
   go_ret2
   have e := HE.out
   simp [wordFrom] at e
   rw [← e]
   exact ⟨rfl, HB.out⟩
end Go.Proofs.YtbokdbaagacnlaaGreatDoor
