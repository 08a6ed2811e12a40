/-
  THE PROGRAM's Write: appendPlace, appendText, appendNumber, WALKED.
-/
import Derived.Test.YtaghcjpoihkpjaaGreatDoorProg
import Derived.Test.YtaghcjpoihkpjaaGreatDoorJM6
import Derived.Test.YtaghcjpoihkpjaaGreatDoorJM3
import Derived.Test.YtaghcjpoihkpjaaGreatDoorJM14
import Derived.Deep.QuietTactic
import Derived.BigQuiet
import Derived.BigRegion
import Derived.Lib.AppendStr
import Derived.Deep.AppendLies
namespace Go.Proofs.YtaghcjpoihkpjaaGreatDoor
open Go.RowKit Go.Lib

/-- Bytes as cells. -/
def bytesV (l : List UInt8) : List Value := l.map fun b => Value.int .u8 b.toNat
theorem bytesV_append (a b : List UInt8) : bytesV (a ++ b) = bytesV a ++ bytesV b := by simp [bytesV]
theorem bytesV_length (a : List UInt8) : (bytesV a).length = a.length := by simp [bytesV]
theorem Tryz.infoByte : (Tryz.prog.info? 5).map (fun i => (i.zero, i.size, i.bytes)) = some (some (.int .u8 0), 1, 1) := by kernel_rfl
/-- A row of bytes of the call's own, from block B on. -/
abbrev Out8 (B : Nat) (w : World) (v : Value) (l : List UInt8) : Prop := w.ownsRow B 5 1 v l.length (bytesV l)
theorem Out8.nil (B : Nat) (w : World) : Out8 B w (.slice none 0 0) [] := World.ownsRow_nil _ _ _ _
theorem grown_below {w w' : World} {B e size n : Nat} {v : Value} {xs : List Value} (ho : w.ownsRow B e size v n xs) (hg : w.grownBy w' v.ownBlock) (hB : B ≤ w.heap.size) : Below B w w' :=
  ⟨hg.os, hg.tape, hg.output, hg.size, fun k hk => hg.block k (by omega) fun e => by have := (ho.lt k e.symm).1; omega⟩
/-- What writing leaves alone: the blocks below a number, and those that hold no bytes. -/
structure W8 (B : Nat) (w w' : World) : Prop where
  below : Below B w w'
  kind : ∀ (k : Nat) (cs : Array Value) (T : TypeId) (z : Nat × Nat), w.heap[k]? = some (.cells cs T z) → T ≠ 5 → w'.heap[k]? = some (.cells cs T z)
namespace W8
variable {B : Nat} {w w1 w2 : World}
theorem refl (B : Nat) (w : World) : W8 B w w := ⟨.refl _ _, fun _ _ _ _ h _ => h⟩
theorem trans (h : W8 B w w1) (k : W8 B w1 w2) : W8 B w w2 := ⟨h.below.trans k.below, fun b cs T z hb hT => k.kind b cs T z (h.kind b cs T z hb hT) hT⟩
theorem alloc (h : W8 B w w1) (hB : B ≤ w1.heap.size) (o : Obj) : W8 B w (w1.alloc o) := ⟨h.below.alloc hB o, fun b cs T z hb hT => heap_alloc_old (h.kind b cs T z hb hT)⟩
theorem drew (h : W8 B w w1) : W8 B w w1.drew := ⟨h.below.drew, fun b cs T z hb hT => h.kind b cs T z hb hT⟩
theorem grown {n : Nat} {v : Value} {xs : List Value} (ho : w.ownsRow B 5 1 v n xs) (hg : w.grownBy w1 v.ownBlock) (hB : B ≤ w.heap.size) : W8 B w w1 :=
  ⟨grown_below ho hg hB, fun b cs T z hb hT => (hg.block b (heap_lt hb) fun e => by
    obtain ⟨c, fz, q⟩ := ownsRow_kind ho b e.symm
    rw [hb] at q
    injection q with q
    injection q with _ q
    exact hT q).trans hb⟩
theorem size (h : W8 B w w1) : w.heap.size ≤ w1.heap.size := h.below.size
end W8
theorem cell_one8 {w : World} {o : Obj} {x : Value} {t : TypeId} (h : o = .cells #[x] t) : ∀ j u, [x][j]? = some u → (w.alloc o).cell? ((⟨w.heap.size, 0, none⟩ : Addr).add j) = some u := by
  subst h
  intro j u hu
  cases j with
  | zero =>
    simp at hu
    subst hu
    exact cell_of_heap (heap_alloc_new _ _) rfl
  | succ j => simp at hu
theorem byte_of (n : Nat) : bytesV [UInt8.ofNat n] = [.int .u8 ((n : Int) % 256)] := by simp [bytesV]
/-- One byte more. -/
theorem Out8.push {B : Nat} {w w1 w2 : World} {v v' : Value} {l : List UInt8} {b : UInt8} {x : Value} (hb : W8 B w w1) (ho : Out8 B w1 v l) (hB : B ≤ w1.heap.size) (hx : bytesV [b] = [x])
    (h2 : w2.ownsRow B 5 1 v' (l.length + 1) (bytesV l ++ [x])) (hg : w1.grownBy w2 v.ownBlock) : Out8 B w2 v' (l ++ [b]) ∧ W8 B w w2 := by
  refine ⟨?_, hb.trans (.grown ho hg hB)⟩
  unfold Out8
  rw [bytesV_append, hx, List.length_append]
  exact h2

section
variable {B : Nat} {w : World} {v : Value} {l : List UInt8}
set_option maxRecDepth 1000000 in
theorem code_appendPlace (ho : Out8 B w v l) (hB : B ≤ w.heap.size) (hl : l.length ≤ 1000000) (p : Nat) :
    Calls Tryz.prog 80 #[v, .agg #[.int .i64 p]] w fun e w' => ∃ v', e = .returned v' ∧ Out8 B w' v' (l ++ [UInt8.ofNat p]) ∧ W8 B w w' := by
  obtain ⟨i0, hi, hz0, hz1, hz2⟩ := info_parts Tryz.infoByte
  have HO : Hid (Out8 B w v l) := ho
  clear ho
  go_enter Tryz.func80, Tryz.ntmps80
  go_wp2_with (first | (at_builtin; refine wpList_append_at _ rfl _ _ 32 rfl B 5 i0 (.int .u8 0) 1 1 Tryz.underlying32 hi hz0 hz1 hz2 rfl (by decide) v l.length (bytesV l) rfl ((HO.out.alloc _).alloc _) ⟨(w.alloc (.cells #[.int .i64 p] 105)).heap.size, 0, none⟩ 1 1 [.int .u8 ((p : Int) % 256)] (by simp [Act.eval]) rfl (cell_one8 rfl) (fun x hx => by simp at hx; subst hx; rfl) (by unfold maxLen; omega) (by omega) (by simp; omega) (by decide) ?_; intro v' w5 hown hgrow hnil; have Q : Hid _ := Out8.push (((W8.refl B w).alloc hB _).alloc (by simp; omega) _) ((HO.out.alloc _).alloc _) (by simp; omega) (byte_of p) hown hgrow; clear hown hgrow hnil) | fail)
  go_ret
  exact ⟨_, rfl, Q.out⟩
set_option maxRecDepth 1000000 in
theorem code_appendText (ho : Out8 B w v l) (hB : B ≤ w.heap.size) (hl : l.length ≤ 1000000) (s : ByteArray) (hs : s.size ≤ 1000) :
    Calls Tryz.prog 79 #[v, .string s] w fun e w' => ∃ v', e = .returned v' ∧ Out8 B w' v' (l ++ textB s) ∧ W8 B w w' := by
  obtain ⟨i0, hi, hz0, hz1, hz2⟩ := info_parts Tryz.infoByte
  have HO : Hid (Out8 B w v l) := ho
  clear ho
  go_enter Tryz.func79, Tryz.ntmps79
  go_wp2_with (first
      | (at_builtin; refine wpList_append_at _ rfl _ _ 32 rfl B 5 i0 (.int .u8 0) 1 1 Tryz.underlying32 hi hz0 hz1 hz2 rfl (by decide) v l.length (bytesV l) rfl (HO.out.alloc _) ⟨w.heap.size, 0, none⟩ 1 1 [.int .u8 ((s.size : Int) % 256)] (by simp [Act.eval]) rfl (cell_one8 rfl) (fun x hx => by simp at hx; subst hx; rfl) (by unfold maxLen; omega) (by omega) (by simp; omega) (by decide) ?_; intro v' w5 hown hgrow hnil; have hQ := Out8.push ((W8.refl B w).alloc hB _) (HO.out.alloc _) (by simp; omega) (byte_of s.size) hown hgrow; have Q : Hid _ := hQ; have hB5 : B ≤ w5.heap.size := Nat.le_trans hB hQ.2.size; clear hown hgrow hnil hQ)
      | (at_builtin; refine wpList_append_own_string _ rfl _ _ 32 9 rfl B 5 i0 Tryz.underlying32 Tryz.underlying9 hi hz0 hz1 hz2 v' (l.length + 1) (bytesV (l ++ [UInt8.ofNat s.size])) rfl (by have := Q.out.1; unfold Out8 at this; rw [List.length_append] at this; exact this) s rfl (by unfold maxLen; omega) (by omega) hB5 ?_; intro v2 w6 hown2 hgrow2 hnil2; have Q2 : Hid _ := And.intro hown2 hgrow2; clear hown2 hgrow2 hnil2)
      | fail)
  go_ret
  refine ⟨_, rfl, ?_, Q.out.2.trans (.grown Q.out.1 Q2.out.2 hB5)⟩
  have := Q2.out.1
  unfold Out8 textB
  rw [show l ++ UInt8.ofNat s.size :: s.data.toList = l ++ [UInt8.ofNat s.size] ++ s.data.toList by simp, bytesV_append, List.length_append, List.length_append, show s.data.toList.length = s.size by simp]
  exact this
set_option maxRecDepth 1000000 in
theorem code_appendNumber (ho : Out8 B w v l) (hB : B ≤ w.heap.size) (hl : l.length ≤ 1000000) {n : Int} (h0 : 0 ≤ n) (h1 : n < 1000000000) :
    Calls Tryz.prog 76 #[v, .int .i64 n] w fun e w' => ∃ v', e = .returned v' ∧ Out8 B w' v' (l ++ be4 n) ∧ W8 B w w' := by
  obtain ⟨i0, hi, hz0, hz1, hz2⟩ := info_parts Tryz.infoByte
  have HO : Hid (Out8 B w v l) := ho
  clear ho
  go_enter Tryz.func76, Tryz.ntmps76
  go_wp2_with fail
  go_loopw [0, 6] (fun v0 v6 wr => ∃ k : Nat, v6 = .int .i64 k ∧ k ≤ 4 ∧ Hid (Out8 B wr v0 (l ++ (be4 n).take k) ∧ W8 B w wr)) (fun _ v6 _ => 4 - (intOf v6).toNat)
  case atStart => exact ⟨0, rfl, by omega, by simpa using HO.out, W8.refl _ _⟩
  case round =>
    obtain ⟨k, rfl, hk, HR⟩ := hrel
    by_cases h4 : k = 4
    · subst h4
      go_wp2
      go_ret
      exact ⟨_, rfl, by simpa [be4] using HR.out.1, HR.out.2⟩
    · have hk3 : k = 0 ∨ k = 1 ∨ k = 2 ∨ k = 3 := by omega
      rcases hk3 with rfl | rfl | rfl | rfl
      · have hx : bytesV [(be4 n)[0]'(by simp [be4])] = [.int .u8 (n / 16777216)] := by
          obtain ⟨m, rfl⟩ := Int.eq_ofNat_of_zero_le h0
          simp [be4, bytesV]
          try omega
        have ht : l ++ (be4 n).take 1 = l ++ (be4 n).take 0 ++ [(be4 n)[0]'(by simp [be4])] := by simp [be4]
        have hln : (l ++ (be4 n).take 0).length ≤ 1000010 := by simp [be4]; omega
        have hBr : B ≤ wr.heap.size := Nat.le_trans hB HR.out.2.size
        go_wp2_with (first
            | (at_builtin; refine wpList_append_at _ rfl _ _ 32 rfl B 5 i0 (.int .u8 0) 1 1 Tryz.underlying32 hi hz0 hz1 hz2 rfl (by decide) _ (l ++ (be4 n).take 0).length (bytesV (l ++ (be4 n).take 0)) rfl (HR.out.1.alloc _) ⟨wr.heap.size, 0, none⟩ 1 1 [.int .u8 (n / 16777216)] (by simp [Act.eval]) rfl (cell_one8 rfl) (fun x hx => by simp at hx; subst hx; rfl) (by unfold maxLen; omega) (by omega) (by simp; omega) (by decide) ?_; intro v' w5 hown hgrow hnil; have Q : Hid _ := Out8.push (HR.out.2.alloc hBr _) (HR.out.1.alloc _) (by simp; omega) hx hown hgrow; clear hown hgrow hnil)
            | fail)
        go_roundw
        case rel => exact ⟨1, rfl, by omega, by rw [ht]; exact Q.out⟩
        case measure => simp [intOf]
      · have hx : bytesV [(be4 n)[1]'(by simp [be4])] = [.int .u8 (n / 65536 % 256)] := by
          obtain ⟨m, rfl⟩ := Int.eq_ofNat_of_zero_le h0
          simp [be4, bytesV]
          try omega
        have ht : l ++ (be4 n).take 2 = l ++ (be4 n).take 1 ++ [(be4 n)[1]'(by simp [be4])] := by simp [be4]
        have hln : (l ++ (be4 n).take 1).length ≤ 1000010 := by simp [be4]; omega
        have hBr : B ≤ wr.heap.size := Nat.le_trans hB HR.out.2.size
        go_wp2_with (first
            | (at_builtin; refine wpList_append_at _ rfl _ _ 32 rfl B 5 i0 (.int .u8 0) 1 1 Tryz.underlying32 hi hz0 hz1 hz2 rfl (by decide) _ (l ++ (be4 n).take 1).length (bytesV (l ++ (be4 n).take 1)) rfl (HR.out.1.alloc _) ⟨wr.heap.size, 0, none⟩ 1 1 [.int .u8 (n / 65536 % 256)] (by simp [Act.eval]) rfl (cell_one8 rfl) (fun x hx => by simp at hx; subst hx; rfl) (by unfold maxLen; omega) (by omega) (by simp; omega) (by decide) ?_; intro v' w5 hown hgrow hnil; have Q : Hid _ := Out8.push (HR.out.2.alloc hBr _) (HR.out.1.alloc _) (by simp; omega) hx hown hgrow; clear hown hgrow hnil)
            | fail)
        go_roundw
        case rel => exact ⟨2, rfl, by omega, by rw [ht]; exact Q.out⟩
        case measure => simp [intOf]
      · have hx : bytesV [(be4 n)[2]'(by simp [be4])] = [.int .u8 (n / 256 % 256)] := by
          obtain ⟨m, rfl⟩ := Int.eq_ofNat_of_zero_le h0
          simp [be4, bytesV]
          try omega
        have ht : l ++ (be4 n).take 3 = l ++ (be4 n).take 2 ++ [(be4 n)[2]'(by simp [be4])] := by simp [be4]
        have hln : (l ++ (be4 n).take 2).length ≤ 1000010 := by simp [be4]; omega
        have hBr : B ≤ wr.heap.size := Nat.le_trans hB HR.out.2.size
        go_wp2_with (first
            | (at_builtin; refine wpList_append_at _ rfl _ _ 32 rfl B 5 i0 (.int .u8 0) 1 1 Tryz.underlying32 hi hz0 hz1 hz2 rfl (by decide) _ (l ++ (be4 n).take 2).length (bytesV (l ++ (be4 n).take 2)) rfl (HR.out.1.alloc _) ⟨wr.heap.size, 0, none⟩ 1 1 [.int .u8 (n / 256 % 256)] (by simp [Act.eval]) rfl (cell_one8 rfl) (fun x hx => by simp at hx; subst hx; rfl) (by unfold maxLen; omega) (by omega) (by simp; omega) (by decide) ?_; intro v' w5 hown hgrow hnil; have Q : Hid _ := Out8.push (HR.out.2.alloc hBr _) (HR.out.1.alloc _) (by simp; omega) hx hown hgrow; clear hown hgrow hnil)
            | fail)
        go_roundw
        case rel => exact ⟨3, rfl, by omega, by rw [ht]; exact Q.out⟩
        case measure => simp [intOf]
      · have hx : bytesV [(be4 n)[3]'(by simp [be4])] = [.int .u8 (n % 256)] := by
          obtain ⟨m, rfl⟩ := Int.eq_ofNat_of_zero_le h0
          simp [be4, bytesV]
          try omega
        have ht : l ++ (be4 n).take 4 = l ++ (be4 n).take 3 ++ [(be4 n)[3]'(by simp [be4])] := by simp [be4]
        have hln : (l ++ (be4 n).take 3).length ≤ 1000010 := by simp [be4]; omega
        have hBr : B ≤ wr.heap.size := Nat.le_trans hB HR.out.2.size
        go_wp2_with (first
            | (at_builtin; refine wpList_append_at _ rfl _ _ 32 rfl B 5 i0 (.int .u8 0) 1 1 Tryz.underlying32 hi hz0 hz1 hz2 rfl (by decide) _ (l ++ (be4 n).take 3).length (bytesV (l ++ (be4 n).take 3)) rfl (HR.out.1.alloc _) ⟨wr.heap.size, 0, none⟩ 1 1 [.int .u8 (n % 256)] (by simp [Act.eval]) rfl (cell_one8 rfl) (fun x hx => by simp at hx; subst hx; rfl) (by unfold maxLen; omega) (by omega) (by simp; omega) (by decide) ?_; intro v' w5 hown hgrow hnil; have Q : Hid _ := Out8.push (HR.out.2.alloc hBr _) (HR.out.1.alloc _) (by simp; omega) hx hown hgrow; clear hown hgrow hnil)
            | fail)
        go_roundw
        case rel => exact ⟨4, rfl, by omega, by rw [ht]; exact Q.out⟩
        case measure => simp [intOf]
end
end Go.Proofs.YtaghcjpoihkpjaaGreatDoor
