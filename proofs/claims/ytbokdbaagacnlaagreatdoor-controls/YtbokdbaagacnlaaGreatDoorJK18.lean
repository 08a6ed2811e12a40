/-
 THE PROGRAM's Write: appendPlace, appendText, appendNumber, WALKED.
-/
import Derived.Test.YtbokdbaagacnlaaGreatDoorProg
import Derived.Test.YtbokdbaagacnlaaGreatDoorJK9
import Derived.Test.YtbokdbaagacnlaaGreatDoorJK3
import Derived.Test.YtbokdbaagacnlaaGreatDoorJK17
import Derived.Deep.QuietTactic
import Derived.BigQuiet
import Derived.BigRegion
import Derived.Lib.AppendStr
import Derived.Deep.AppendLies
import Derived.Deep.RegionHeldLaw
import Derived.Deep.RegionHeld3
namespace Go.Proofs.YtbokdbaagacnlaaGreatDoor
open Go.RowKit Go.Lib
def bytesV (l : List UInt8) : List Value := l.map fun b => Value.int .u8 b.toNat
theorem bytesV_append (a b : List UInt8) : bytesV (a ++ b) = bytesV a ++ bytesV b := by simp [bytesV]
theorem Tryz.infoByte : (Tryz.prog.info? 5).map (fun i => (i.zero, i.size, i.bytes)) = some (some (.int .u8 0), 1, 1) := by kernel_rfl
abbrev Out8 (B : Nat) (w : World) (v : Value) (l : List UInt8) : Prop := w.ownsRow B 5 1 v l.length (bytesV l)
theorem Out8.nil (B : Nat) (w : World) : Out8 B w (.slice none 0 0) [] := World.ownsRow_nil _ _ _ _
theorem grown_below {w w' : World} {B e size n : Nat} {v : Value} {xs : List Value} (ho : w.ownsRow B e size v n xs) (hg : w.grownBy w' v.ownBlock) (hB : B ≤ w.heap.size) : Below B w w' :=
 ⟨hg.os, hg.tape, hg.output, hg.size, fun k hk => hg.block k (by omega) fun e => by have := (ho.lt k e.symm).1; omega⟩
structure W8 (B : Nat) (w w' : World) : Prop where
 below : Below B w w'
 kind : ∀ (k : Nat) (cs : Array Value) (T : TypeId) (z : Nat × Nat), w.heap[k]? = some (.cells cs T z) → T ≠ 5 → w'.heap[k]? = some (.cells cs T z)
namespace W8
variable {B : Nat} {w w1 w2 : World}
theorem refl (B : Nat) (w : World) : W8 B w w := ⟨.refl _ _, fun _ _ _ _ h _ => h⟩
theorem trans (h : W8 B w w1) (k : W8 B w1 w2) : W8 B w w2 := ⟨h.below.trans k.below, fun b cs T z hb hT => k.kind b cs T z (h.kind b cs T z hb hT) hT⟩
theorem alloc (h : W8 B w w1) (hB : B ≤ w1.heap.size) (o : Obj) : W8 B w (w1.alloc o) := ⟨h.below.alloc hB o, fun b cs T z hb hT => heap_alloc_old (h.kind b cs T z hb hT)⟩
theorem drew (h : W8 B w w1) : W8 B w w1.drew := ⟨h.below.drew, fun b cs T z hb hT => h.kind b cs T z hb hT⟩
theorem grown {n : Nat} {v : Value} {xs : List Value} (ho : w.ownsRow B 5 1 v n xs) (hg : w.grownBy w1 v.ownBlock) (hB : B ≤ w.heap.size) : W8 B w w1 :=
 ⟨grown_below ho hg hB, fun b cs T z hb hT => (hg.block b (heap_lt hb) fun e => by
  obtain ⟨c, fz, q⟩ := ownsRow_kind ho b e.symm
  rw [hb] at q
  injection q with q
  injection q with _ q
  exact hT q).trans hb⟩
theorem size (h : W8 B w w1) : w.heap.size ≤ w1.heap.size := h.below.size
end W8
theorem cell_one8 {w : World} {o : Obj} {x : Value} {t : TypeId} (h : o = .cells #[x] t) : ∀ j u, [x][j]? = some u → (w.alloc o).cell? ((⟨w.heap.size, 0, none⟩ : Addr).add j) = some u := by
 subst h
 intro j u hu
 cases j with
 | zero =>
  simp at hu
  subst hu
  exact cell_of_heap (heap_alloc_new _ _) rfl
 | succ j => simp at hu
theorem byte_of (n : Nat) : bytesV [UInt8.ofNat n] = [.int .u8 ((n : Int) % 256)] := by simp [bytesV]
theorem Out8.push {B : Nat} {w w1 w2 : World} {v v' : Value} {l : List UInt8} {b : UInt8} {x : Value} (hb : W8 B w w1) (ho : Out8 B w1 v l) (hB : B ≤ w1.heap.size) (hx : bytesV [b] = [x])
  (h2 : w2.ownsRow B 5 1 v' (l.length + 1) (bytesV l ++ [x])) (hg : w1.grownBy w2 v.ownBlock) : Out8 B w2 v' (l ++ [b]) ∧ W8 B w w2 := by
 refine ⟨?_, hb.trans (.grown ho hg hB)⟩
 unfold Out8
 rw [bytesV_append, hx, List.length_append]
 exact h2
section
variable {B : Nat} {w : World} {v : Value} {l : List UInt8}
set_option maxRecDepth 1000000 in
theorem code_appendPlace (ho : Out8 B w v l) (hB : B ≤ w.heap.size) (hl : l.length ≤ 1000000) (p : Nat) :
  Calls Tryz.prog 140 #[v, .agg #[.int .i64 p]] w fun e w' => ∃ v', e = .returned v' ∧ Out8 B w' v' (l ++ [UInt8.ofNat p]) ∧ W8 B w w' := by
 obtain ⟨i0, hi, hz0, hz1, hz2⟩ := info_parts Tryz.infoByte
 have HO : Hid (Out8 B w v l) := ho
 clear ho
 go_enter Tryz.func140, Tryz.ntmps140
 go_wp2_with (first | (at_builtin; refine wpList_append_at _ rfl _ _ 111 rfl B 5 i0 (.int .u8 0) 1 1 Tryz.underlying111 hi hz0 hz1 hz2 rfl (by decide) v l.length (bytesV l) rfl ((HO.out.alloc _).alloc _) ⟨(w.alloc (.cells #[.int .i64 p] 153)).heap.size, 0, none⟩ 1 1 [.int .u8 ((p : Int) % 256)] (by simp [Act.eval]) rfl (cell_one8 rfl) (fun x hx => by simp at hx; subst hx; rfl) (by unfold maxLen; omega) (by omega) (by simp; omega) (by decide) ?_; intro v' w5 hown hgrow hnil; have Q : Hid _ := Out8.push (((W8.refl B w).alloc hB _).alloc (by simp; omega) _) ((HO.out.alloc _).alloc _) (by simp; omega) (byte_of p) hown hgrow; clear hown hgrow hnil) | fail)
 go_ret
 exact ⟨_, rfl, Q.out⟩
set_option maxRecDepth 1000000 in
theorem code_appendText (ho : Out8 B w v l) (hB : B ≤ w.heap.size) (hl : l.length ≤ 1000000) (s : ByteArray) (hs : s.size ≤ 1000) :
  Calls Tryz.prog 139 #[v, .string s] w fun e w' => ∃ v', e = .returned v' ∧ Out8 B w' v' (l ++ textB s) ∧ W8 B w w' := by
 obtain ⟨i0, hi, hz0, hz1, hz2⟩ := info_parts Tryz.infoByte
 have HO : Hid (Out8 B w v l) := ho
 clear ho
 go_enter Tryz.func139, Tryz.ntmps139
 go_wp2_with (first
   | (at_builtin; refine wpList_append_at _ rfl _ _ 111 rfl B 5 i0 (.int .u8 0) 1 1 Tryz.underlying111 hi hz0 hz1 hz2 rfl (by decide) v l.length (bytesV l) rfl (HO.out.alloc _) ⟨w.heap.size, 0, none⟩ 1 1 [.int .u8 ((s.size : Int) % 256)] (by simp [Act.eval]) rfl (cell_one8 rfl) (fun x hx => by simp at hx; subst hx; rfl) (by unfold maxLen; omega) (by omega) (by simp; omega) (by decide) ?_; intro v' w5 hown hgrow hnil; have hQ := Out8.push ((W8.refl B w).alloc hB _) (HO.out.alloc _) (by simp; omega) (byte_of s.size) hown hgrow; have Q : Hid _ := hQ; have hB5 : B ≤ w5.heap.size := Nat.le_trans hB hQ.2.size; clear hown hgrow hnil hQ)
   | (at_builtin; refine wpList_append_own_string _ rfl _ _ 111 9 rfl B 5 i0 Tryz.underlying111 Tryz.underlying9 hi hz0 hz1 hz2 v' (l.length + 1) (bytesV (l ++ [UInt8.ofNat s.size])) rfl (by have := Q.out.1; unfold Out8 at this; rw [List.length_append] at this; exact this) s rfl (by unfold maxLen; omega) (by omega) hB5 ?_; intro v2 w6 hown2 hgrow2 hnil2; have Q2 : Hid _ := And.intro hown2 hgrow2; clear hown2 hgrow2 hnil2)
   | fail)
 go_ret
 refine ⟨_, rfl, ?_, Q.out.2.trans (.grown Q.out.1 Q2.out.2 hB5)⟩
 have := Q2.out.1
 unfold Out8 textB
 rw [show l ++ UInt8.ofNat s.size :: s.data.toList = l ++ [UInt8.ofNat s.size] ++ s.data.toList by simp, bytesV_append, List.length_append, List.length_append, show s.data.toList.length = s.size by simp]
 exact this
set_option maxRecDepth 1000000 in
theorem code_appendNumber (ho : Out8 B w v l) (hB : B ≤ w.heap.size) (hl : l.length ≤ 1000000) {n : Int} (h0 : 0 ≤ n) (h1 : n < 1000000000) :
  Calls Tryz.prog 136 #[v, .int .i64 n] w fun e w' => ∃ v', e = .returned v' ∧ Out8 B w' v' (l ++ be4 n) ∧ W8 B w w' := by
 obtain ⟨i0, hi, hz0, hz1, hz2⟩ := info_parts Tryz.infoByte
 have HO : Hid (Out8 B w v l) := ho
 clear ho
 go_enter Tryz.func136, Tryz.ntmps136
 go_wp2_with fail
 go_loopw [0, 6] (fun v0 v6 wr => ∃ k : Nat, v6 = .int .i64 k ∧ k ≤ 4 ∧ Hid (Out8 B wr v0 (l ++ (be4 n).take k) ∧ W8 B w wr)) (fun _ v6 _ => 4 - (intOf v6).toNat)
 case atStart => exact ⟨0, rfl, by omega, by simpa using HO.out, W8.refl _ _⟩
 case round =>
  obtain ⟨k, rfl, hk, HR⟩ := hrel
  by_cases h4 : k = 4
  ·subst h4
   go_wp2
   go_ret
   exact ⟨_, rfl, by simpa [be4] using HR.out.1, HR.out.2⟩
  ·have hk3 : k = 0 ∨ k = 1 ∨ k = 2 ∨ k = 3 := by omega
   rcases hk3 with rfl | rfl | rfl | rfl
   ·have hx : bytesV [(be4 n)[0]'(by simp [be4])] = [.int .u8 (n / 16777216)] := by
     obtain ⟨m, rfl⟩ := Int.eq_ofNat_of_zero_le h0
     simp [be4, bytesV]
     try omega
    have ht : l ++ (be4 n).take 1 = l ++ (be4 n).take 0 ++ [(be4 n)[0]'(by simp [be4])] := by simp [be4]
    have hln : (l ++ (be4 n).take 0).length ≤ 1000010 := by simp [be4]; omega
    have hBr : B ≤ wr.heap.size := Nat.le_trans hB HR.out.2.size
    go_wp2_with (first
      | (at_builtin; refine wpList_append_at _ rfl _ _ 111 rfl B 5 i0 (.int .u8 0) 1 1 Tryz.underlying111 hi hz0 hz1 hz2 rfl (by decide) _ (l ++ (be4 n).take 0).length (bytesV (l ++ (be4 n).take 0)) rfl (HR.out.1.alloc _) ⟨wr.heap.size, 0, none⟩ 1 1 [.int .u8 (n / 16777216)] (by simp [Act.eval]) rfl (cell_one8 rfl) (fun x hx => by simp at hx; subst hx; rfl) (by unfold maxLen; omega) (by omega) (by simp; omega) (by decide) ?_; intro v' w5 hown hgrow hnil; have Q : Hid _ := Out8.push (HR.out.2.alloc hBr _) (HR.out.1.alloc _) (by simp; omega) hx hown hgrow; clear hown hgrow hnil)
      | fail)
    go_roundw
    case rel => exact ⟨1, rfl, by omega, by rw [ht]; exact Q.out⟩
    case measure => simp [intOf]
   ·have hx : bytesV [(be4 n)[1]'(by simp [be4])] = [.int .u8 (n / 65536 % 256)] := by
     obtain ⟨m, rfl⟩ := Int.eq_ofNat_of_zero_le h0
     simp [be4, bytesV]
     try omega
    have ht : l ++ (be4 n).take 2 = l ++ (be4 n).take 1 ++ [(be4 n)[1]'(by simp [be4])] := by simp [be4]
    have hln : (l ++ (be4 n).take 1).length ≤ 1000010 := by simp [be4]; omega
    have hBr : B ≤ wr.heap.size := Nat.le_trans hB HR.out.2.size
    go_wp2_with (first
      | (at_builtin; refine wpList_append_at _ rfl _ _ 111 rfl B 5 i0 (.int .u8 0) 1 1 Tryz.underlying111 hi hz0 hz1 hz2 rfl (by decide) _ (l ++ (be4 n).take 1).length (bytesV (l ++ (be4 n).take 1)) rfl (HR.out.1.alloc _) ⟨wr.heap.size, 0, none⟩ 1 1 [.int .u8 (n / 65536 % 256)] (by simp [Act.eval]) rfl (cell_one8 rfl) (fun x hx => by simp at hx; subst hx; rfl) (by unfold maxLen; omega) (by omega) (by simp; omega) (by decide) ?_; intro v' w5 hown hgrow hnil; have Q : Hid _ := Out8.push (HR.out.2.alloc hBr _) (HR.out.1.alloc _) (by simp; omega) hx hown hgrow; clear hown hgrow hnil)
      | fail)
    go_roundw
    case rel => exact ⟨2, rfl, by omega, by rw [ht]; exact Q.out⟩
    case measure => simp [intOf]
   ·have hx : bytesV [(be4 n)[2]'(by simp [be4])] = [.int .u8 (n / 256 % 256)] := by
     obtain ⟨m, rfl⟩ := Int.eq_ofNat_of_zero_le h0
     simp [be4, bytesV]
     try omega
    have ht : l ++ (be4 n).take 3 = l ++ (be4 n).take 2 ++ [(be4 n)[2]'(by simp [be4])] := by simp [be4]
    have hln : (l ++ (be4 n).take 2).length ≤ 1000010 := by simp [be4]; omega
    have hBr : B ≤ wr.heap.size := Nat.le_trans hB HR.out.2.size
    go_wp2_with (first
      | (at_builtin; refine wpList_append_at _ rfl _ _ 111 rfl B 5 i0 (.int .u8 0) 1 1 Tryz.underlying111 hi hz0 hz1 hz2 rfl (by decide) _ (l ++ (be4 n).take 2).length (bytesV (l ++ (be4 n).take 2)) rfl (HR.out.1.alloc _) ⟨wr.heap.size, 0, none⟩ 1 1 [.int .u8 (n / 256 % 256)] (by simp [Act.eval]) rfl (cell_one8 rfl) (fun x hx => by simp at hx; subst hx; rfl) (by unfold maxLen; omega) (by omega) (by simp; omega) (by decide) ?_; intro v' w5 hown hgrow hnil; have Q : Hid _ := Out8.push (HR.out.2.alloc hBr _) (HR.out.1.alloc _) (by simp; omega) hx hown hgrow; clear hown hgrow hnil)
      | fail)
    go_roundw
    case rel => exact ⟨3, rfl, by omega, by rw [ht]; exact Q.out⟩
    case measure => simp [intOf]
   ·have hx : bytesV [(be4 n)[3]'(by simp [be4])] = [.int .u8 (n % 256)] := by
     obtain ⟨m, rfl⟩ := Int.eq_ofNat_of_zero_le h0
     simp [be4, bytesV]
     try omega
    have ht : l ++ (be4 n).take 4 = l ++ (be4 n).take 3 ++ [(be4 n)[3]'(by simp [be4])] := by simp [be4]
    have hln : (l ++ (be4 n).take 3).length ≤ 1000010 := by simp [be4]; omega
    have hBr : B ≤ wr.heap.size := Nat.le_trans hB HR.out.2.size
    go_wp2_with (first
      | (at_builtin; refine wpList_append_at _ rfl _ _ 111 rfl B 5 i0 (.int .u8 0) 1 1 Tryz.underlying111 hi hz0 hz1 hz2 rfl (by decide) _ (l ++ (be4 n).take 3).length (bytesV (l ++ (be4 n).take 3)) rfl (HR.out.1.alloc _) ⟨wr.heap.size, 0, none⟩ 1 1 [.int .u8 (n % 256)] (by simp [Act.eval]) rfl (cell_one8 rfl) (fun x hx => by simp at hx; subst hx; rfl) (by unfold maxLen; omega) (by omega) (by simp; omega) (by decide) ?_; intro v' w5 hown hgrow hnil; have Q : Hid _ := Out8.push (HR.out.2.alloc hBr _) (HR.out.1.alloc _) (by simp; omega) hx hown hgrow; clear hown hgrow hnil)
      | fail)
    go_roundw
    case rel => exact ⟨4, rfl, by omega, by rw [ht]; exact Q.out⟩
    case measure => simp [intOf]
end
end Go.Proofs.YtbokdbaagacnlaaGreatDoor
namespace Go.Proofs.YtbokdbaagacnlaaGreatDoor
open Go.RowKit Go.Lib
abbrev Lt (B : Nat) : Nat → Prop := fun b => b < B
theorem nm_below {B : Nat} {w w' : World} (h : Below B w w') : NMoves (Lt B) (Lt B) w w' := fun b hP _ _ _ _ => ⟨hP, h.block b hP⟩
theorem CNodes.length {P : Nat → Prop} {w : World} : ∀ {ts : List Tree} {vs : List Value}, CNodes P w ts vs → vs.length = ts.length
 | [], vs, h => by unfold CNodes at h; rw [h]; rfl
 | t :: ts, vs, h => by
  unfold CNodes at h
  obtain ⟨v, vs', rfl, h2, h3⟩ := h
  simp [CNodes.length h3]
theorem CNodes.get {P : Nat → Prop} {w : World} : ∀ {ts : List Tree} {vs : List Value}, CNodes P w ts vs → ∀ (j : Nat) (t : Tree), ts[j]? = some t → ∃ v, vs[j]? = some v ∧ CNode P w t v
 | [], vs, h, j, t, hj => by simp at hj
 | a :: ts, vs, h, j, t, hj => by
  unfold CNodes at h
  obtain ⟨v, vs', rfl, h2, h3⟩ := h
  cases j with
  | zero => simp at hj; subst hj; exact ⟨v, rfl, h2⟩
  | succ j => simp at hj; simpa using CNodes.get h3 j t hj
theorem encs_append : ∀ a b, encs (a ++ b) = encs a ++ encs b
 | [], b => by simp [encs]
 | t :: a, b => by simp [encs, encs_append a b]
theorem encs_take {ts : List Tree} {j : Nat} {t : Tree} (h : ts[j]? = some t) : encs (ts.take (j + 1)) = encs (ts.take j) ++ enc t := by
 rw [List.take_add_one, h, encs_append]
 simp [encs]
theorem encs_take_le {ts : List Tree} (j : Nat) : (encs (ts.take j)).length ≤ (encs ts).length := by
 have h := encs_append (ts.take j) (ts.drop j)
 rw [List.take_append_drop] at h
 rw [h, List.length_append]
 omega
theorem owns_len {w : World} {base e size n : Nat} {v : Value} {xs : List Value} (h : w.ownsRow base e size v n xs) : ∃ ao cp, v = .slice ao n cp := by
 rcases h.2 with ⟨rfl, rfl⟩ | ⟨g, cap, cur, rfl, -⟩
 ·exact ⟨_, _, rfl⟩
 ·exact ⟨_, _, rfl⟩
theorem owns_at {w : World} {base e n : Nat} {ao : Option Addr} {cp m : Nat} {xs : List Value} (h : w.ownsRow base e 1 (.slice ao m cp) n xs) {j : Nat} {x : Value} (hj : xs[j]? = some x) : ∃ g, ao = some ⟨g, 0, none⟩ ∧ w.cell? ⟨g, j, none⟩ = some x := by
 rcases h.2 with ⟨h1, rfl⟩ | ⟨g, cap, cur, h1, -⟩
 ·have : xs = [] := List.eq_nil_of_length_eq_zero (by have := h.1; omega)
  subst this
  simp at hj
 ·injection h1 with h1 h2 h3
  subst h1
  refine ⟨g, rfl, ?_⟩
  have := h.cells (g := g) rfl j x hj
  rwa [show (⟨g, 0, none⟩ : Addr).add j = ⟨g, j, none⟩ by unfold Addr.add; split <;> simp_all] at this
theorem W8.owns {B : Nat} {w w' : World} (h : W8 B w w') {base e n : Nat} {v : Value} {xs : List Value} (ho : w.ownsRow base e 1 v n xs) (he : e ≠ 5) : w'.ownsRow base e 1 v n xs :=
 owns_of_block ho fun g hg => by
  obtain ⟨c, fz, q⟩ := ownsRow_kind ho g hg
  rw [h.kind g c e fz q he, q]
def WCon (B : Nat) (t : Tree) : Prop := ∀ (w : World) (vo v : Value) (l : List UInt8), CNode (Lt B) w t v → Out8 B w vo l → B ≤ w.heap.size → l.length + (enc t).length ≤ 1000000 →
 Calls Tryz.prog 99 #[vo, v] w fun e w' => ∃ vo', e = .returned vo' ∧ Out8 B w' vo' (l ++ enc t) ∧ W8 B w w'
set_option maxRecDepth 1000000 in
theorem code_appendParts {B : Nat} (ts : List Tree) (hts : ∀ t ∈ ts, WCon B t) {w : World} {vo lv : Value} {l : List UInt8} {vs : List Value} (hn : CNodes (Lt B) w ts vs) (hr : w.ownsRow 0 226 1 lv vs.length vs) (ho : Out8 B w vo l) (hB : B ≤ w.heap.size) (hl : l.length + (encs ts).length ≤ 1000000) (h200 : ts.length ≤ 1000) :
  Calls Tryz.prog 138 #[vo, lv] w fun e w' => ∃ vo', e = .returned vo' ∧ Out8 B w' vo' (l ++ encs ts) ∧ W8 B w w' := by
 obtain ⟨ao, cp, rfl⟩ := owns_len hr
 have hlen := hn.length
 have HN : Hid (CNodes (Lt B) w ts vs) := hn
 have HR : Hid (w.ownsRow 0 226 1 (.slice ao vs.length cp) vs.length vs) := hr
 have HO : Hid (Out8 B w vo l) := ho
 have HT : Hid (∀ t ∈ ts, WCon B t) := hts
 clear hn hr ho hts
 generalize vs.length = m at *
 have HL : Hid (m = ts.length) := hlen
 have hm : m ≤ 1000 := by omega
 clear hlen h200
 go_enter Tryz.func138, Tryz.ntmps138
 go_wp2_with fail
 go_loopw [0, 9] (fun v0 v9 wr => ∃ j : Nat, v9 = .int .i64 j ∧ j ≤ m ∧ Hid (Out8 B wr v0 (l ++ encs (ts.take j)) ∧ W8 B w wr)) (fun _ v9 _ => m - (intOf v9).toNat)
 case atStart => exact ⟨0, rfl, Nat.zero_le _, by simpa [encs] using HO.out, W8.refl _ _⟩
 case round =>
  obtain ⟨j, rfl, hj, HI⟩ := hrel
  rcases Nat.lt_or_ge j m with hlt | hge
  ·obtain ⟨t, ht⟩ : ∃ t, ts[j]? = some t := ⟨ts[j], List.getElem?_eq_getElem (by have := HL.out; omega)⟩
   obtain ⟨v, hv, hcn⟩ := HN.out.get j t ht
   obtain ⟨g, rfl, c1⟩ := owns_at (HI.out.2.owns HR.out (by decide)) hv
   have hlt2 : (j : Int) < m := by omega
   have hbd : (l ++ encs (ts.take j)).length + (enc t).length ≤ 1000000 := by
    have h1 := encs_take ht
    have h2 := encs_take_le (ts := ts) (j + 1)
    rw [h1, List.length_append] at h2
    rw [List.length_append]
    omega
   have hpc := HT.out t (List.mem_of_getElem? ht) wr _ v (l ++ encs (ts.take j)) (hcn.moves (nm_below HI.out.2.below)) HI.out.1 (Nat.le_trans hB HI.out.2.size) hbd
   have HE : Hid (encs (ts.take (j + 1)) = encs (ts.take j) ++ enc t) := encs_take ht
   clear ht hv hcn hbd
   go_wp2_with fail
   refine hpc.mono ?_
   rintro e w2 ⟨v2, rfl, h2⟩
   have H2 : Hid _ := h2
   clear h2 hpc
   go_wp2
   go_roundw
   case rel => exact ⟨j + 1, by go_num, by omega, by rw [HE.out, ← List.append_assoc]; exact H2.out.1, HI.out.2.trans H2.out.2⟩
   case measure => simp [intOf]; omega
  ·have hge2 : ¬ (j : Int) < m := by omega
   have HJ : Hid (j = ts.length) := by have := HL.out; show j = ts.length; omega
   go_wp2
   go_ret
   refine ⟨_, rfl, ?_, HI.out.2⟩
   have := HI.out.1
   rw [HJ.out, List.take_length] at this
   exact this
end Go.Proofs.YtbokdbaagacnlaaGreatDoor
namespace Go.Proofs.YtbokdbaagacnlaaGreatDoor
open Go.Lib
open Go.RowKit (wrap64)
def RS.Len (r : RS) : Prop := (r.wrong = false → (r.mets.length : Int) ≤ r.parts ∧ (r.asks.length : Int) ≤ r.parts ∧ (r.spans.length : Int) ≤ r.parts) ∧ r.mets.length ≤ 200 ∧ r.asks.length ≤ 200 ∧ r.spans.length ≤ 200
def RS.Good (r : RS) : Prop := r.Ok ∧ r.Len
theorem RS.Good.same {r r' : RS} (h : r.Good) (hf : r.From r') (hm : r'.mets = r.mets) (ha : r'.asks = r.asks) (hs : r'.spans = r.spans) : r'.Good := by
 have h2 := hf h.1
 refine ⟨h2.1, ?_, by rw [hm]; exact h.2.2.1, by rw [ha]; exact h.2.2.2.1, by rw [hs]; exact h.2.2.2.2⟩
 intro hw
 have h3 := h2.2 hw
 have h4 := h.2.1 h3.1
 rw [hm, ha, hs]
 omega
theorem RS.mets_require (r : RS) (b : Bool) : (r.require b).mets = r.mets ∧ (r.require b).asks = r.asks ∧ (r.require b).spans = r.spans := ⟨rfl, rfl, rfl⟩
theorem RS.mets_take (r : RS) (n : Nat) : (r.take n).2.mets = r.mets ∧ (r.take n).2.asks = r.asks ∧ (r.take n).2.spans = r.spans := by
 unfold RS.take
 split <;> exact ⟨rfl, rfl, rfl⟩
theorem RS.mets_next (r : RS) : r.next.2.mets = r.mets ∧ r.next.2.asks = r.asks ∧ r.next.2.spans = r.spans := RS.mets_take r 1
theorem RS.mets_place (r : RS) : r.place.2.mets = r.mets ∧ r.place.2.asks = r.asks ∧ r.place.2.spans = r.spans := RS.mets_next r
theorem RS.mets_number (r : RS) : r.number.2.mets = r.mets ∧ r.number.2.asks = r.asks ∧ r.number.2.spans = r.spans := RS.mets_take r 4
theorem RS.mets_name (r : RS) : r.name.2.mets = r.mets ∧ r.name.2.asks = r.asks ∧ r.name.2.spans = r.spans := ⟨(RS.mets_take _ _).1.trans (RS.mets_next r).1, (RS.mets_take _ _).2.1.trans (RS.mets_next r).2.1, (RS.mets_take _ _).2.2.trans (RS.mets_next r).2.2⟩
theorem RS.mets_measure (r : RS) : r.measure.2.mets.length ≤ r.mets.length + 1 ∧ r.measure.2.asks = r.asks ∧ r.measure.2.spans.length = r.spans.length + 1 := by
 unfold RS.measure
 dsimp only
 refine ⟨?_, ?_, ?_⟩
 ·have h := note1_length (((r.place.2.name).2.require (isMeasure (r.place.2.name).1)).name).2.number.2.mets (((r.place.2.name).2.require (isMeasure (r.place.2.name).1)).name).1
  rw [(RS.mets_number _).1, (RS.mets_name _).1, (RS.mets_require _ _).1, (RS.mets_name _).1, (RS.mets_place _).1] at h
  rw [(RS.mets_number _).1, (RS.mets_name _).1, (RS.mets_require _ _).1, (RS.mets_name _).1, (RS.mets_place _).1]
  omega
 ·rw [(RS.mets_number _).2.1, (RS.mets_name _).2.1, (RS.mets_require _ _).2.1, (RS.mets_name _).2.1, (RS.mets_place _).2.1]
 ·rw [List.length_append, (RS.mets_number _).2.2, (RS.mets_name _).2.2, (RS.mets_require _ _).2.2, (RS.mets_name _).2.2, (RS.mets_place _).2.2]
  simp
theorem RS.Good.begin {r : RS} (h : r.Good) : r.begin.Good := h.same (.begin r) rfl rfl rfl
theorem RS.begin_room {r : RS} (h : r.Good) (hb : r.begin.wrong = false) : r.begin.parts = r.parts + 1 ∧ r.parts < 200 ∧ (r.mets.length : Int) ≤ r.parts ∧ (r.asks.length : Int) ≤ r.parts ∧ (r.spans.length : Int) ≤ r.parts := by
 have h1 := RS.begin_ok h.1 hb
 have h2 := h.2.1 h1.1
 exact ⟨h1.2.1, h1.2.2.2, h2.1, h2.2⟩
theorem RS.Good.one {r r1 r' : RS} (hr1 : r1.Ok) (hf : r1.From r') (hp : r1.parts = r.parts + 1) (h200 : r.parts < 200) (h1 : (r.mets.length : Int) ≤ r.parts) (h2 : (r.asks.length : Int) ≤ r.parts) (h5 : (r.spans.length : Int) ≤ r.parts) (hm : r'.mets.length ≤ r.mets.length + 1) (ha : r'.asks.length ≤ r.asks.length + 1) (hs : r'.spans.length ≤ r.spans.length + 1) : r'.Good := by
 have h3 := hf hr1
 refine ⟨h3.1, fun hw => ?_, by omega, by omega, by omega⟩
 have := (h3.2 hw).2
 omega
theorem RS.Good.iter {g : RS → Tree × RS} (hg : ∀ r : RS, r.Good → (g r).2.Good) : ∀ (n : Nat) (r : RS), r.Good → (iter g n r).2.Good
 | 0, _, h => h
 | n + 1, r, h => hg _ (RS.Good.iter hg n r h)
theorem RS.Good.part : ∀ (f : Nat) (r : RS), r.Good → (RS.part f r).2.Good
 | 0, r, h => ⟨fun hw => (by cases hw), fun hw => (by cases hw), h.2.2⟩
 | f + 1, r, h => by
  have ih := RS.Good.part f
  have hB := h.begin
  unfold RS.part
  dsimp only
  split
  ·exact hB
  ·rename_i hw
   have hw : r.begin.wrong = false := by cases e : r.begin.wrong <;> simp_all
   have hroom := RS.begin_room h hw
   have hN := hB.same (.next _) (RS.mets_next _).1 (RS.mets_next _).2.1 (RS.mets_next _).2.2
   (repeat' split)
   ·exact hN.same (.number _) (RS.mets_number _).1 (RS.mets_number _).2.1 (RS.mets_number _).2.2
   ·exact ih _ hN
   ·exact ih _ (ih _ (hN.same (.place _) (RS.mets_place _).1 (RS.mets_place _).2.1 (RS.mets_place _).2.2))
   ·exact ih _ (ih _ (ih _ hN))
   ·have hm := RS.mets_measure r.begin.next.2
    rw [(RS.mets_next _).1, (RS.mets_next _).2.1, (RS.mets_next _).2.2] at hm
    exact RS.Good.one (r := r) hB.1 ((RS.From.next _).trans (.measure _)) hroom.1 hroom.2.1 hroom.2.2.1 hroom.2.2.2.1 hroom.2.2.2.2 hm.1 (by rw [hm.2.1]; exact Nat.le_succ _) (by rw [hm.2.2]; exact Nat.le_refl _)
   ·unfold RS.probe
    dsimp only
    refine RS.Good.iter ih _ _ ?_
    refine RS.Good.one (r := r) hB.1 ((((((RS.From.next _).trans (.place _)).trans (.name _)).trans (.require _ _)).trans (.asks _ _)).trans (.next _)) hroom.1 hroom.2.1 hroom.2.2.1 hroom.2.2.2.1 hroom.2.2.2.2 ?_ ?_ ?_
    ·rw [(RS.mets_next _).1]
     simp only
     rw [(RS.mets_require _ _).1, (RS.mets_name _).1, (RS.mets_place _).1, (RS.mets_next _).1]
     exact Nat.le_succ _
    ·rw [(RS.mets_next _).2.1]
     simp only
     rw [(RS.mets_require _ _).2.1, (RS.mets_name _).2.1, (RS.mets_place _).2.1, (RS.mets_next _).2.1]
     simp [RS.begin, RS.require]
    ·rw [(RS.mets_next _).2.2]
     simp only
     rw [(RS.mets_require _ _).2.2, (RS.mets_name _).2.2, (RS.mets_place _).2.2, (RS.mets_next _).2.2]
     exact Nat.le_succ _
   ·exact ih _ (ih _ (hN.same (.require _ _) rfl rfl rfl))
end Go.Proofs.YtbokdbaagacnlaaGreatDoor
