/-
 THE READER OF BYTES: IsName, name, number, WALKED.
-/
import Derived.Test.YtbokdbaagacnlaaGreatDoorJK19
import Derived.Test.YtbokdbaagacnlaaGreatDoorJK7
import Derived.Laws.IdiomStrings
import Derived.Test.YtbokdbaagacnlaaGreatDoorJK9
import Derived.Lib.OwnKind
import Derived.Lib.SliceRun
namespace Go.Proofs.YtbokdbaagacnlaaGreatDoor
open Go.RowKit Go.Lib
theorem conv_bytes {w : World} {v : Value} {l : List UInt8} (h : BytesIn w v l) : (convert 111 9 v).run Tryz.prog w = .ok (.string ⟨l.toArray⟩) w := by
 obtain ⟨ao, cp, rfl, h2⟩ := h
 match l, h2 with
 | [], _ =>
  rw [run_convert_bytes_string w _ _ _ _ _ cp Tryz.underlying111 Tryz.underlying5 Tryz.underlying9]
  cases ao <;> simp [Conv.bytesToString, loadCells]
  all_goals rfl
 | x :: l, h2 =>
  obtain ⟨C, off, rfl, -⟩ := h2 0 x rfl
  refine run_convert_bytes_back w _ _ _ ⟨C, off, none⟩ cp (x :: l) Tryz.underlying111 Tryz.underlying5 Tryz.underlying9 fun j hj => ?_
  obtain ⟨C2, off2, e, h3⟩ := h2 j _ (List.getElem?_eq_getElem hj)
  injection e with e
  injection e with e1 e2
  subst e1 e2
  rw [show (⟨C, off, none⟩ : Addr).add j = ⟨C, off + j, none⟩ by unfold Addr.add; split <;> simp_all]
  exact h3
theorem tokAt_pos {s : ByteArray} {i : Nat} (h : (tokAt s i).kind = 97) : (tokAt s i).pos = i := by
 unfold tokAt at h ⊢
 (repeat' split) <;> simp_all
theorem extract_all (b : ByteArray) : b.extract 0 b.size = b := by
 apply ByteArray.ext
 rw [ByteArray.data_extract]
 simp
set_option maxRecDepth 1000000 in
theorem code_IsName (b : ByteArray) (hb : b.size ≤ 1000) (w : World) (hT : Tabs w) : Calls Tryz.prog 208 #[.string b] w fun e w' => e = .returned (.bool (isName b)) ∧ Below w.heap.size w w' := by
 have hf := code_first b 0 hb (Nat.zero_le _) w hT
 rw [extract_all] at hf
 clear hT
 go_enter Tryz.func208, Tryz.ntmps208
 go_wp2_with fail
 refine hf.mono ?_
 rintro e w1 ⟨tx, rfl, htx, hb1⟩
 have HB : Hid (Below w.heap.size w w1) := hb1
 clear hf hb1
 by_cases hk : (tokAt b 0).kind = 97
 ·have hck : codeKind (tokAt b 0) = 3 := by unfold codeKind; simp [hk]
  have ht := htx (by omega)
  have hp := tokAt_pos hk
  rw [hck]
  by_cases he : tx = b
  ·have HN : Hid (isName b = true) := by
    show isName b = true
    unfold isName
    rw [decide_eq_true_eq]
    have hs : (tokAt b 0).stop = b.size := by
     have h1 : (b.extract (tokAt b 0).pos (tokAt b 0).stop).size = b.size := by
      have : (tokAt b 0).text b = b := by rw [← ht]; exact he
      unfold Tok.text at this
      rw [this]
     have h2 := (tokAt_stop (s := b) (i := 0) (Nat.zero_le _) (by unfold Tok.last; simp [hk])).2.1
     rw [ByteArray.size_extract, hp] at h1
     omega
    have e : tokAt b 0 = ⟨(tokAt b 0).kind, (tokAt b 0).pos, (tokAt b 0).stop⟩ := rfl
    rw [e, hk, hp, hs]
   clear htx ht hp hck hk
   subst he
   go_wp2
   go_ret
   exact ⟨by rw [HN.out]; rfl, HB.out⟩
  ·have HN : Hid (isName b = false) := by
    show isName b = false
    unfold isName
    rw [decide_eq_false_iff_not]
    intro e
    apply he
    rw [ht, e]
    exact extract_all b
   have hne : (tx.toList == b.toList) = false := by rw [beq_eq_false_iff_ne]; intro e; apply he; apply ByteArray.ext; rw [toList_data, toList_data] at e; exact Array.toList_inj.1 e
   clear htx ht hp hck hk
   go_wp2
   go_ret
   exact ⟨by rw [HN.out]; rfl, HB.out⟩
 ·have HN : Hid (isName b = false) := by
   show isName b = false
   unfold isName
   rw [decide_eq_false_iff_not]
   intro e
   apply hk
   rw [e]
  have hck : ((codeKind (tokAt b 0) : Nat) : Int) ≠ 3 := by
   unfold codeKind
   (repeat' split) <;> omega
  have hcb : (((codeKind (tokAt b 0) : Nat) : Int) == 3) = false := by rw [beq_eq_false_iff_ne]; exact hck
  generalize codeKind (tokAt b 0) = K at *
  clear htx hk
  go_wp2
  go_ret
  exact ⟨by rw [HN.out]; rfl, HB.out⟩
theorem or_byte {N : Int} {c : Nat} (h0 : 0 ≤ N) (h1 : N < 1099511627776) (hc : c < 256) : bits .or .i64 (wrap64 (N * 256)) (wrap64 (c : Int)) = 256 * N + c := by
 obtain ⟨M, rfl⟩ := Int.eq_ofNat_of_zero_le h0
 have hM : M < 1099511627776 := by omega
 have e1 : wrap64 ((M : Int) * 256) = ((256 * M : Nat) : Int) := by unfold wrap64; omega
 have e2 : wrap64 (c : Int) = (c : Int) := by unfold wrap64; omega
 rw [e1, e2]
 have a1 : (BitVec.ofInt IntKind.i64.bits ((256 * M : Nat) : Int)).toNat = 256 * M := by
  rw [BitVec.ofInt_natCast, BitVec.toNat_ofNat]
  exact Nat.mod_eq_of_lt (by show _ < 2 ^ 64; omega)
 have a2 : (BitVec.ofInt IntKind.i64.bits (c : Int)).toNat = c := by
  rw [BitVec.ofInt_natCast, BitVec.toNat_ofNat]
  exact Nat.mod_eq_of_lt (by show _ < 2 ^ 64; omega)
 unfold bits
 simp only [BitVec.toNat_or, a1, a2]
 rw [show 256 * M ||| c = 256 * M + c from (Nat.two_pow_add_eq_or_of_lt (i := 8) (by omega) M).symm, IntKind.wrap_i64]
 omega
theorem num256_snoc (l : List UInt8) (b : UInt8) : num256 (l ++ [b]) = 256 * num256 l + b.toNat := by simp [num256]
theorem num256_take {l : List UInt8} {j : Nat} {b : UInt8} (h : l[j]? = some b) : num256 (l.take (j + 1)) = 256 * num256 (l.take j) + b.toNat := by
 rw [List.take_add_one, h]
 exact num256_snoc _ _
theorem num256_lt (l : List UInt8) : ∀ j, j ≤ l.length → 0 ≤ num256 (l.take j) ∧ num256 (l.take j) < 256 ^ j
 | 0, _ => by simp [num256]
 | j + 1, h => by
  have ih := num256_lt l j (by omega)
  rw [num256_take (List.getElem?_eq_getElem (by omega : j < l.length))]
  have hb : l[j].toNat < 256 := l[j].toNat_lt
  have e : (256 : Int) ^ (j + 1) = 256 * 256 ^ j := by rw [Int.pow_succ, Int.mul_comm]
  rw [e]
  omega
theorem below_grow8 (w : World) (q : Nat) (os : Array Obj) : Below w.heap.size w (Go.Sort.grow (w.drewN q) os) :=
 ⟨rfl, rfl, rfl, by simp [Go.Sort.grow], fun k hk => by simp [Go.Sort.grow, Array.getElem?_append_left hk]⟩
theorem nDigits_le : ∀ (k u : Nat), nDigits u ≤ k + 1 ↔ u < 10 ^ (k + 1)
 | 0, u => by
  unfold nDigits
  split
  ·simp; omega
  ·rename_i h
   have h2 : 1 ≤ nDigits (u / 10) := by unfold nDigits; split <;> omega
   constructor
   ·intro h3; omega
   ·intro h3; simp at h3; omega
 | k + 1, u => by
  unfold nDigits
  split
  ·rename_i h
   have : 10 ≤ 10 ^ (k + 1 + 1) := by
    have := Nat.pow_le_pow_right (n := 10) (by omega) (show 1 ≤ k + 1 + 1 by omega)
    omega
   constructor
   ·intro _; omega
   ·intro _; omega
  ·have ih := nDigits_le k (u / 10)
   have e : 10 ^ (k + 1 + 1) = 10 * 10 ^ (k + 1) := by rw [Nat.pow_succ, Nat.mul_comm]
   rw [e]
   constructor
   ·intro h3
    have := ih.1 (by omega)
    omega
   ·intro h3
    have := ih.2 (by omega)
    omega
theorem itoa_len {n : Int} (h0 : 0 ≤ n) : decide (((itoa n).length : Int) ≤ 9) = decide (n < 1000000000) := by
 obtain ⟨m, rfl⟩ := Int.eq_ofNat_of_zero_le h0
 have e : itoa (m : Int) = decDigits m := by unfold itoa; rw [if_neg (by omega)]; simp
 rw [e, decDigits_length]
 have h9 : nDigits m ≤ 9 ↔ m < 1000000000 := nDigits_le 8 m
 generalize nDigits m = q at *
 rw [decide_eq_decide]
 omega
section
variable {R : Nat} {w w' : World} {r r' : RS}
theorem RS.take_length (r : RS) (n : Nat) : (r.take n).1.length = n := by
 unfold RS.take
 split
 ·simp
 ·rename_i h
  have h2 := (RS.require_wrong (by simpa using h)).2
  have := of_decide_eq_true h2
  simp
  omega
set_option maxRecDepth 1000000 in
theorem rd_name (h : RSt R w r) : Calls Tryz.prog 177 #[.pointer (some ⟨R, 0, none⟩)] w fun e w' => e = .returned (.string r.name.1) ∧ RSt R w' r.name.2 ∧ KR R w w' := by
 have hnx := rd_next h
 clear h
 go_enter Tryz.func177, Tryz.ntmps177
 go_wp2_with fail
 refine hnx.mono ?_
 rintro e w1 ⟨rfl, h1, k1⟩
 have hx : r.next.1.toNat < 256 := r.next.1.toNat_lt
 have htk := rd_take h1 r.next.1.toNat (by omega)
 have K1 : Hid _ := k1
 clear hnx h1 k1
 have HN : Hid (r.name = (⟨(r.next.2.take r.next.1.toNat).1.toArray⟩, (r.next.2.take r.next.1.toNat).2.require (isName ⟨(r.next.2.take r.next.1.toNat).1.toArray⟩))) := rfl
 have hl := RS.take_length r.next.2 r.next.1.toNat
 generalize r.next.1.toNat = X at *
 generalize r.next.2.take X = Y at *
 go_wp2_with fail
 refine htk.mono ?_
 rintro e w2 ⟨v2, rfl, h2, k2, hb2⟩
 have hcv := conv_bytes hb2
 have hnm := code_IsName ⟨Y.1.toArray⟩ (by show Y.1.toArray.size ≤ 1000; simp; omega) w2 h2.tabs.tabs
 have K2 : Hid _ := K1.out.trans k2
 have H2 : Hid _ := h2
 clear htk h2 k2 hb2 hl
 go_wp2_with fail
 refine hnm.mono ?_
 rintro e w3 ⟨rfl, hb3⟩
 have hrq := rd_require (H2.out.later hb3) (isName ⟨Y.1.toArray⟩)
 have K3 : Hid _ := K2.out.trans (.of_below hb3 H2.out.lR)
 clear hnm hb3
 go_wp2_with fail
 refine hrq.mono ?_
 rintro e w4 ⟨rfl, h4, k4⟩
 have Q : Hid _ := And.intro h4 (K3.out.trans k4)
 clear hrq h4 k4
 go_wp2
 go_ret
 rw [HN.out]
 exact ⟨rfl, Q.out⟩
set_option maxRecDepth 1000000 in
theorem rd_number (h : RSt R w r) : Calls Tryz.prog 127 #[.pointer (some ⟨R, 0, none⟩)] w fun e w' => e = .returned (.int .i64 r.number.1) ∧ RSt R w' r.number.2 ∧ KR R w w' := by
 have htk := rd_take h 4 (by decide)
 clear h
 go_enter Tryz.func127, Tryz.ntmps127
 go_wp2_with fail
 refine htk.mono ?_
 rintro e w1 ⟨v1, rfl, h1, k1, hb1⟩
 have hl := RS.take_length r 4
 have HN : Hid (r.number = (num256 (r.take 4).1, (r.take 4).2.require (decide (num256 (r.take 4).1 < 1000000000)))) := rfl
 generalize r.take 4 = Y at *
 obtain ⟨ao, cp, rfl, hc⟩ := hb1
 obtain ⟨C, off, rfl, -⟩ := hc 0 _ (List.getElem?_eq_getElem (by omega))
 have H1 : Hid _ := And.intro h1 k1
 have HC : Hid (∀ (j : Nat) (b : UInt8), Y.1[j]? = some b → w1.cell? ⟨C, off + j, none⟩ = some (.int .u8 b.toNat)) := fun j b hj => by
  obtain ⟨C2, off2, e, h3⟩ := hc j b hj
  injection e with e
  injection e with e1 e2
  subst e1 e2
  exact h3
 clear htk h1 k1 hc
 rw [hl]
 go_wp2_with fail
 go_loopw [3, 9] (fun v3 v9 wr => ∃ j : Nat, v9 = .int .i64 j ∧ j ≤ 4 ∧ v3 = .int .i64 (num256 (Y.1.take j)) ∧ wr = w1) (fun _ v9 _ => 4 - (intOf v9).toNat)
 case atStart => exact ⟨0, rfl, by omega, rfl, rfl⟩
 case round =>
  obtain ⟨j, rfl, hj, rfl, rfl⟩ := hrel
  rcases Nat.lt_or_ge j 4 with hlt | hge
  ·obtain ⟨b, hb⟩ : ∃ b, Y.1[j]? = some b := ⟨Y.1[j], List.getElem?_eq_getElem (by omega)⟩
   have c1 := HC.out j b hb
   have hlt2 : (j : Int) < 4 := by omega
   have HT : Hid (bits .or .i64 (wrap64 (num256 (Y.1.take j) * 256)) (wrap64 (b.toNat : Int)) = num256 (Y.1.take (j + 1))) := by
    show _ = _
    have q := num256_lt Y.1 j (by omega)
    have q2 : (256 : Int) ^ j ≤ 256 ^ 3 := by rcases (show j = 0 ∨ j = 1 ∨ j = 2 ∨ j = 3 by omega) with rfl | rfl | rfl | rfl <;> decide
    rw [num256_take hb, or_byte q.1 (by omega) b.toNat_lt]
   generalize num256 (Y.1.take j) = N at *
   clear hb
   go_wp2
   go_roundw
   case rel => exact ⟨j + 1, by go_num, by omega, by rw [HT.out], trivial⟩
   case measure => simp [intOf]; omega
  ·have hge2 : ¬ (j : Int) < 4 := by omega
   have hj4 : j = 4 := by omega
   subst hj4
   have hall : Y.1.take 4 = Y.1 := List.take_of_length_le (by omega)
   rw [hall]
   have q := num256_lt Y.1 4 (by omega)
   rw [hall] at q
   have hfm := Tryz.strconv_FormatInt_10 (num256 Y.1) (by omega) (by omega) wr H1.out.1.tabs.pow
   have HI : Hid _ := itoa_len q.1
   clear hall q
   go_wp2_with fail
   refine hfm.mono ?_
   rintro e w2 ⟨rfl, kk, os, hw2⟩
   have hb2 : Below wr.heap.size wr w2 := by rw [hw2]; exact below_grow8 _ _ _
   have hrq := rd_require (H1.out.1.later hb2) (decide (((itoa (num256 Y.1)).length : Int) ≤ 9))
   have K2 : Hid _ := H1.out.2.trans (.of_below hb2 H1.out.1.lR)
   clear hfm hw2 hb2
   generalize (itoa (num256 Y.1)) = L at *
   go_wp2_with fail
   refine hrq.mono ?_
   rintro e w3 ⟨rfl, h3, k3⟩
   rw [HI.out] at h3
   have Q : Hid _ := And.intro h3 (K2.out.trans k3)
   clear hrq h3 k3
   go_wp2
   go_ret
   rw [HN.out]
   exact ⟨rfl, Q.out⟩
end
end Go.Proofs.YtbokdbaagacnlaaGreatDoor
namespace Go.Proofs.YtbokdbaagacnlaaGreatDoor
open Go.RowKit Go.Lib
def reckV (k : Nat) : Value :=
 if k = 43 then .func (.func 182) #[] #[] else if k = 45 then .func (.func 183) #[] #[] else if k = 42 then .func (.func 184) #[] #[]
 else if k = 60 then .func (.func 185) #[] #[] else if k = 62 then .func (.func 187) #[] #[] else if k = 61 then .func (.func 188) #[] #[] else .nilFunc
abbrev One (w : World) (b : Nat) (x : Value) (T : TypeId) : Prop := w.heap[b]? = some (.cells #[x] T (0, 0))
mutual
def VNode (P : Nat → Prop) (w : World) : Tree → Value → Prop
 | .num _ n, v => ∃ b, v = .func (.func 169) #[] #[ptr b] ∧ P b ∧ One w b (.int .i64 n) 2
 | .neg _ a, v => ∃ b va, v = .func (.func 171) #[] #[ptr b] ∧ P b ∧ One w b va 143 ∧ VNode P w a va
 | .bin k p a c, v => ∃ b1 b2 b3 va vc, v = .func (.func (if k = 47 then 173 else 189)) #[] #[ptr b1, ptr b2, ptr b3] ∧ (P b1 ∧ P b2 ∧ P b3) ∧ One w b1 va 143 ∧ One w b2 vc 143 ∧
   One w b3 (if k = 47 then .int .i64 (p : Int) else reckV k) (if k = 47 then 153 else 189) ∧ VNode P w a va ∧ VNode P w c vc
 | .ite _ a c d, v => ∃ b1 b2 b3 va vc vd, v = .func (.func 176) #[] #[ptr b1, ptr b2, ptr b3] ∧ (P b1 ∧ P b2 ∧ P b3) ∧ One w b1 va 143 ∧ One w b2 vc 143 ∧ One w b3 vd 143 ∧ VNode P w a va ∧ VNode P w c vc ∧ VNode P w d vd
 | .meas p wd m n, v => ∃ b1 b2 b3 b4, v = .func (.func 210) #[] #[ptr b1, ptr b2, ptr b3, ptr b4] ∧ (P b1 ∧ P b2 ∧ P b3 ∧ P b4) ∧ One w b1 (.int .i64 (p : Int)) 153 ∧ One w b2 (.string wd) 9 ∧ One w b3 (.string m) 9 ∧ One w b4 (.int .i64 n) 2
 | .probe p wd ts, v => ∃ b1 b2 b3 pv vs, v = .func (.func 213) #[] #[ptr b1, ptr b2, ptr b3] ∧ (P b1 ∧ P b2 ∧ P b3) ∧ One w b1 pv 351 ∧ One w b2 (.int .i64 (p : Int)) 153 ∧ One w b3 (.string wd) 9 ∧
   (w.ownsRow 0 143 1 pv vs.length vs ∧ ∀ g, pv.ownBlock = some g → P g) ∧ VNodes P w ts vs
def VNodes (P : Nat → Prop) (w : World) : List Tree → List Value → Prop
 | [], vs => vs = []
 | t :: ts, vs => ∃ v vs', vs = v :: vs' ∧ VNode P w t v ∧ VNodes P w ts vs'
end
def VMoves (P Q : Nat → Prop) (w w' : World) : Prop := ∀ b, P b → Q b ∧ w'.heap[b]? = w.heap[b]?
section
variable {P Q : Nat → Prop} {w w' : World}
mutual
theorem VNode.moves (hm : VMoves P Q w w') : ∀ {t : Tree} {v : Value}, VNode P w t v → VNode Q w' t v
 | .num _ _, _, h => by
  unfold VNode at h ⊢
  obtain ⟨b, h1, h2, h3⟩ := h
  exact ⟨b, h1, (hm b h2).1, (hm b h2).2.trans h3⟩
 | .neg _ _, _, h => by
  unfold VNode at h ⊢
  obtain ⟨b, va, h1, h2, h3, h4⟩ := h
  exact ⟨b, va, h1, (hm b h2).1, (hm b h2).2.trans h3, h4.moves hm⟩
 | .bin _ _ _ _, _, h => by
  unfold VNode at h ⊢
  obtain ⟨b1, b2, b3, va, vc, h1, ⟨p1, p2, p3⟩, h2, h3, h4, h5, h6⟩ := h
  exact ⟨b1, b2, b3, va, vc, h1, ⟨(hm _ p1).1, (hm _ p2).1, (hm _ p3).1⟩, (hm _ p1).2.trans h2, (hm _ p2).2.trans h3, (hm _ p3).2.trans h4, h5.moves hm, h6.moves hm⟩
 | .ite _ _ _ _, _, h => by
  unfold VNode at h ⊢
  obtain ⟨b1, b2, b3, va, vc, vd, h1, ⟨p1, p2, p3⟩, h2, h3, h4, h5, h6, h7⟩ := h
  exact ⟨b1, b2, b3, va, vc, vd, h1, ⟨(hm _ p1).1, (hm _ p2).1, (hm _ p3).1⟩, (hm _ p1).2.trans h2, (hm _ p2).2.trans h3, (hm _ p3).2.trans h4, h5.moves hm, h6.moves hm, h7.moves hm⟩
 | .meas _ _ _ _, _, h => by
  unfold VNode at h ⊢
  obtain ⟨b1, b2, b3, b4, h1, ⟨p1, p2, p3, p4⟩, h2, h3, h4, h5⟩ := h
  exact ⟨b1, b2, b3, b4, h1, ⟨(hm _ p1).1, (hm _ p2).1, (hm _ p3).1, (hm _ p4).1⟩, (hm _ p1).2.trans h2, (hm _ p2).2.trans h3, (hm _ p3).2.trans h4, (hm _ p4).2.trans h5⟩
 | .probe _ _ _, _, h => by
  unfold VNode at h ⊢
  obtain ⟨b1, b2, b3, pv, vs, h1, ⟨p1, p2, p3⟩, h2, h3, h4, ⟨h5, h6⟩, h7⟩ := h
  exact ⟨b1, b2, b3, pv, vs, h1, ⟨(hm _ p1).1, (hm _ p2).1, (hm _ p3).1⟩, (hm _ p1).2.trans h2, (hm _ p2).2.trans h3, (hm _ p3).2.trans h4, ⟨owns_of_block h5 fun g hg => (hm g (h6 g hg)).2, fun g hg => (hm g (h6 g hg)).1⟩, h7.moves hm⟩
theorem VNodes.moves (hm : VMoves P Q w w') : ∀ {ts : List Tree} {vs : List Value}, VNodes P w ts vs → VNodes Q w' ts vs
 | [], _, h => by unfold VNodes at h ⊢; exact h
 | _ :: _, _, h => by
  unfold VNodes at h ⊢
  obtain ⟨v, vs', h1, h2, h3⟩ := h
  exact ⟨v, vs', h1, h2.moves hm, h3.moves hm⟩
end
theorem VNodes.snoc : ∀ {ts : List Tree} {vs : List Value} {t : Tree} {v : Value}, VNodes P w ts vs → VNode P w t v → VNodes P w (ts ++ [t]) (vs ++ [v])
 | [], vs, t, v, h, k => by
  unfold VNodes at h
  subst h
  unfold VNodes
  exact ⟨v, [], rfl, k, by unfold VNodes; rfl⟩
 | a :: ts, vs, t, v, h, k => by
  unfold VNodes at h
  obtain ⟨x, vs', rfl, h2, h3⟩ := h
  show VNodes P w (a :: (ts ++ [t])) _
  unfold VNodes
  exact ⟨x, vs' ++ [v], rfl, h2, VNodes.snoc h3 k⟩
end
def FuncV (v : Value) : Prop := v = .nilFunc ∨ ∃ f x y, v = .func f x y
section
variable {R : Nat} {w w' : World} {r r' : RS}
abbrev Fr (R lo : Nat) (w : World) (b : Nat) : Prop := Free R w b ∧ lo ≤ b
def VOk (R lo : Nat) (w : World) (r : RS) (t : Tree) (v : Value) : Prop := r.wrong = false → VNode (Fr R lo w) w t v
theorem KR.vmoves {lo : Nat} (k : KR R w w') : VMoves (Fr R lo w) (Fr R lo w') w w' := fun _ f => ⟨⟨(f.1.step k).1, f.2⟩, (f.1.step k).2⟩
theorem VOk.step {lo : Nat} {t : Tree} {v : Value} (h : VOk R lo w r t v) (k : KR R w w') (hw : r'.wrong = false → r.wrong = false) : VOk R lo w' r' t v := fun q => (h (hw q)).moves k.vmoves
theorem VOk.lower {lo lo' : Nat} {t : Tree} {v : Value} (h : VOk R lo w r t v) (hl : lo' ≤ lo) : VOk R lo' w r t v := fun q => (h q).moves fun _ f => ⟨⟨f.1, Nat.le_trans hl f.2⟩, rfl⟩
end
set_option maxRecDepth 1000000 in
theorem rd_reckonerOf (k : Nat) (w : World) : Calls Tryz.prog 134 #[.int .u8 k] w fun e w' => e = .returned (reckV k) ∧ w' = w := by
 by_cases h1 : k = 43
 ·subst h1
  go_enter Tryz.func134, Tryz.ntmps134
  go_wp2
  go_ret
  exact ⟨rfl, rfl⟩
 by_cases h2 : k = 45
 ·subst h2
  go_enter Tryz.func134, Tryz.ntmps134
  go_wp2
  go_ret
  exact ⟨rfl, rfl⟩
 by_cases h3 : k = 42
 ·subst h3
  go_enter Tryz.func134, Tryz.ntmps134
  go_wp2
  go_ret
  exact ⟨rfl, rfl⟩
 by_cases h4 : k = 60
 ·subst h4
  go_enter Tryz.func134, Tryz.ntmps134
  go_wp2
  go_ret
  exact ⟨rfl, rfl⟩
 by_cases h5 : k = 62
 ·subst h5
  go_enter Tryz.func134, Tryz.ntmps134
  go_wp2
  go_ret
  exact ⟨rfl, rfl⟩
 by_cases h6 : k = 61
 ·subst h6
  go_enter Tryz.func134, Tryz.ntmps134
  go_wp2
  go_ret
  exact ⟨rfl, rfl⟩
 have HR : Hid (reckV k = .nilFunc) := by show reckV k = .nilFunc; simp [reckV, h1, h2, h3, h4, h5, h6]
 have e1 : ((k : Int) == 43) = false := by rw [beq_eq_false_iff_ne]; omega
 have e2 : ((k : Int) == 45) = false := by rw [beq_eq_false_iff_ne]; omega
 have e3 : ((k : Int) == 42) = false := by rw [beq_eq_false_iff_ne]; omega
 have e4 : ((k : Int) == 60) = false := by rw [beq_eq_false_iff_ne]; omega
 have e5 : ((k : Int) == 62) = false := by rw [beq_eq_false_iff_ne]; omega
 have e6 : ((k : Int) == 61) = false := by rw [beq_eq_false_iff_ne]; omega
 clear h1 h2 h3 h4 h5 h6
 go_enter Tryz.func134, Tryz.ntmps134
 go_wp2
 go_ret
 exact ⟨by rw [HR.out]; rfl, rfl⟩
theorem reck_nil (k : Nat) : (isReck k = true ∧ ∃ F, reckV k = .func (.func F) #[] #[]) ∨ (isReck k = false ∧ reckV k = .nilFunc) := by
 by_cases h : isReck k = true
 ·refine .inl ⟨h, ?_⟩
  simp [isReck] at h
  rcases h with ((((rfl | rfl) | rfl) | rfl) | rfl) | rfl <;> exact ⟨_, rfl⟩
 ·have h : isReck k = false := by simpa using h
  refine .inr ⟨h, ?_⟩
  simp [isReck] at h
  simp [reckV, h]
end Go.Proofs.YtbokdbaagacnlaaGreatDoor
namespace Go.Proofs.YtbokdbaagacnlaaGreatDoor
open Go.RowKit Go.Lib
structure Only (P : Nat → Prop) (w w' : World) : Prop where
 os : w'.os = w.os
 tape : w'.tape = w.tape
 output : w'.output = w.output
 size : w.heap.size ≤ w'.heap.size
 block : ∀ k, k < w.heap.size → ¬ P k → w'.heap[k]? = w.heap[k]?
namespace Only
variable {P Q : Nat → Prop} {w w1 w2 : World}
theorem refl (P : Nat → Prop) (w : World) : Only P w w := ⟨rfl, rfl, rfl, Nat.le_refl _, fun _ _ _ => rfl⟩
theorem trans (h : Only P w w1) (k : Only Q w1 w2) (hq : ∀ b, b < w.heap.size → Q b → P b) : Only P w w2 :=
 ⟨k.os.trans h.os, k.tape.trans h.tape, k.output.trans h.output, Nat.le_trans h.size k.size, fun i hi hne => (k.block i (Nat.lt_of_lt_of_le hi h.size) (fun q => hne (hq i hi q))).trans (h.block i hi hne)⟩
theorem of_below (h : Below w.heap.size w w1) : Only P w w1 := ⟨h.os, h.tape, h.output, h.size, fun k hk _ => h.block k hk⟩
theorem alloc (h : Only P w w1) (o : Obj) : Only P w (w1.alloc o) :=
 ⟨h.os, h.tape, h.output, by simp; exact Nat.le_succ_of_le h.size, fun k hk hne => (Below.heap_alloc w1 o k (Nat.lt_of_lt_of_le hk h.size)).trans (h.block k hk hne)⟩
theorem drew (h : Only P w w1) : Only P w w1.drew := ⟨h.os, h.tape, h.output, h.size, h.block⟩
theorem setCell (h : Only P w w1) {a : Addr} (ha : a.block < w.heap.size → P a.block) (v : Value) : Only P w (w1.setCell a v) :=
 ⟨h.os, h.tape, h.output, by simp; exact h.size, fun k hk hne => (Below.heap_setCell w1 _ v k (fun e => by subst e; exact hne (ha hk))).trans (h.block k hk hne)⟩
theorem grown (h : Only P w w1) {row : Option Nat} (hg : w1.grownBy w2 row) (hr : ∀ b, b < w.heap.size → row = some b → P b) : Only P w w2 :=
 ⟨hg.os.trans h.os, hg.tape.trans h.tape, hg.output.trans h.output, Nat.le_trans h.size hg.size, fun k hk hne => (hg.block k (Nat.lt_of_lt_of_le hk h.size) (fun e => hne (hr k hk e.symm))).trans (h.block k hk hne)⟩
theorem heap (h : Only P w w1) {k : Nat} {o : Obj} (hk : w.heap[k]? = some o) (hne : ¬ P k) : w1.heap[k]? = some o := (h.block k (heap_lt hk) hne).trans hk
theorem owns (h : Only P w w1) {base e size n : Nat} {v : Value} {xs : List Value} (ho : w.ownsRow base e size v n xs) (hne : ∀ g, v.ownBlock = some g → ¬ P g) : w1.ownsRow base e size v n xs := by
 refine ⟨ho.1, ?_⟩
 rcases ho.2 with hn | ⟨g, cap, cur, rfl, hbg, hg, rest⟩
 ·exact .inl hn
 ·exact .inr ⟨g, cap, cur, rfl, hbg, h.heap hg (hne g rfl), rest⟩
end Only
theorem below_drewN {B : Nat} {w w1 : World} (h : Below B w w1) (n : Nat) : Below B w (w1.drewN n) := ⟨h.os, h.tape, h.output, h.size, h.block⟩
theorem cell_past {w : World} {a : Addr} {v : Value} (h : w.cell? a = some v) (o : Obj) : (w.alloc o).cell? a = some v :=
 (World.cell?_of_block (Below.heap_alloc w o a.block (World.block_lt_of_cell? w a h))).trans h
theorem block_new (w : World) (cs : Array Value) (T : TypeId) : (w.alloc (.cells cs T)).heap[w.heap.size]? = some (.cells cs T (0, 0)) := heap_alloc_new w _
theorem cells_two_new (w : World) (a b : Value) (T : TypeId) : ∀ (j : Nat) (u : Value), [a, b][j]? = some u → (w.alloc (.cells #[a, b] T)).cell? ((⟨w.heap.size, 0, none⟩ : Addr).add j) = some u := by
 intro j u hu
 rw [Addr.add_lit]
 refine cell_of_heap (block_new w #[a, b] T) ?_
 rw [Nat.zero_add]
 simpa using hu
theorem two_one {a b : Value} (ha : a.oneCell' = true) (hb : b.oneCell' = true) : ∀ u ∈ [a, b], u.oneCell' = true := by
 intro u hu
 simp only [List.mem_cons, List.not_mem_nil, or_false] at hu
 rcases hu with rfl | rfl
 ·exact ha
 ·exact hb
theorem kind_ne {w : World} {a b : Nat} {cs ds : Array Value} {T U : Nat} {y z : Nat × Nat} (h : w.heap[a]? = some (.cells cs T y)) (k : w.heap[b]? = some (.cells ds U z)) (hne : T ≠ U) : a ≠ b := by
 intro e
 subst e
 rw [h] at k
 injection k with k
 injection k with _ k
 exact hne k
theorem row_ne {w : World} {a base e size n : Nat} {cs : Array Value} {T : Nat} {y : Nat × Nat} {v : Value} {xs : List Value} (h : w.heap[a]? = some (.cells cs T y)) (ho : w.ownsRow base e size v n xs) (hne : e ≠ T) : v.ownBlock ≠ some a := by
 intro e'
 obtain ⟨c, fz, q⟩ := ownsRow_kind ho a e'
 exact kind_ne q h hne rfl
theorem owns_slice_len {w : World} {base e size n : Nat} {v : Value} {xs : List Value} (h : w.ownsRow base e size v n xs) : ∃ ao cp, v = .slice ao n cp := by
 rcases h.2 with ⟨rfl, rfl⟩ | ⟨g, cap, cur, rfl, -⟩
 ·exact ⟨_, _, rfl⟩
 ·exact ⟨_, _, rfl⟩
end Go.Proofs.YtbokdbaagacnlaaGreatDoor
