/-
  plain.Bytes AND scalerkeep.Bytes, WALKED.
-/
import Derived.Test.YtaghcjpoihkpjaaGreatDoorByEJ
import Derived.Lib.ConvBytes
import Derived.Laws.AppendOwn
namespace Go.Proofs.YtaghcjpoihkpjaaGreatDoor
open Go.RowKit Go.Lib

set_option maxRecDepth 1000000 in
set_option maxHeartbeats 1000000 in
theorem plain_Bytes (s : ByteArray) {A : Nat → Addr} {w : World} (hT : TabsR w) (hA : SentsX A w) :
    Calls Tryz.prog 11 #[.string s] w fun e w' => Below w.heap.size w w' ∧ (e = .returned (.tuple #[.slice none 0 0, .bool false]) ∨ ∃ t v, e = .returned (.tuple #[v, .bool true]) ∧ Out8 w.heap.size w' v (enc t) ∧ (enc t).length ≤ 120000) := by
  have hp := code_Parse s w hT.tabs (A 0) hA.sents.g0
  clear hT hA
  go_enter Tryz.func11, Tryz.ntmps11
  go_wp2_with fail
  refine hp.mono ?_
  rintro e w1 ⟨hb1, hc⟩
  have HB1 : Hid (Below w.heap.size w w1) := hb1
  clear hp hb1
  rcases hc with ⟨h1, rfl⟩ | ⟨h1, ⟨J, b, h2, rfl, h3⟩ | ⟨t, J, a, h2, h3, rfl, h4⟩⟩
  · clear h1
    go_wp2
    go_ret2
    exact ⟨HB1.out, .inl rfl⟩
  · clear h1 h2 h3
    go_wp2
    go_ret2
    exact ⟨HB1.out, .inl rfl⟩
  · obtain ⟨hf, hsz⟩ := read_fits h1 h2 h3
    obtain ⟨pb, a', rfl, hpr⟩ := h4
    have hle : (enc t).length ≤ 120000 := by have := enc_length t hf; omega
    have HL : Hid _ := hle
    have hc1 := code_Code hf hsz (⟨pb, a', rfl, hpr⟩ : CPol _ w1 t ⟨pb, 0, none⟩)
    clear h1 h2 h3 hf hsz hpr hle
    go_wp2_with fail
    refine hc1.mono ?_
    rintro e w2 ⟨c, rfl, ho2, hb2⟩
    have O2 : Hid _ := And.intro ho2 hb2
    obtain ⟨ca, cp, rfl⟩ := owns_len ho2
    clear hc1 ho2 hb2
    go_wp2
    go_ret2
    exact ⟨HB1.out.trans (O2.out.2.mono HB1.out.size), .inr ⟨t, _, rfl, owns_lower O2.out.1 HB1.out.size, HL.out⟩⟩
/-- A row of bytes. -/
def Rowb (w : World) (g : Nat) (l : List UInt8) : Prop := ∃ cur, w.heap[g]? = some (.cells cur 5 (0, 0)) ∧ ∀ (j : Nat) (b : UInt8), l[j]? = some b → cur[j]? = some (.int .u8 (b.toNat : Int))
theorem rowb_of {B : Nat} {w : World} {v : Value} {l : List UInt8} (h : Out8 B w v l) (hne : l ≠ []) : ∃ g cap, v = .slice (some ⟨g, 0, none⟩) l.length cap ∧ B ≤ g ∧ l.length ≤ cap ∧ cap ≤ maxLen ∧ Rowb w g l := by
  rcases h.2 with ⟨-, h1⟩ | ⟨g, cap, cur, rfl, h2, h3, h4, h5, h6, h7⟩
  · exact absurd (List.eq_nil_of_length_eq_zero h1) hne
  · refine ⟨g, cap, rfl, h2, h4, h5, cur, h3, fun j b hj => ?_⟩
    have hjl : j < l.length := by
      rcases Nat.lt_or_ge j l.length with q | q
      · exact q
      · rw [List.getElem?_eq_none q] at hj; cases hj
    have e : (cur.toList.take (l.length * 1))[j]? = cur.toList[j]? := by rw [List.getElem?_take, if_pos (by omega)]
    rw [← Array.getElem?_toList, ← e, h7]
    simp [bytesV, hj]
theorem Rowb.lt {w : World} {g : Nat} {l : List UInt8} (h : Rowb w g l) : g < w.heap.size := by obtain ⟨cur, h1, -⟩ := h; exact heap_lt h1
theorem Rowb.below {w w' : World} {g : Nat} {l : List UInt8} (h : Rowb w g l) (hb : Below w.heap.size w w') : Rowb w' g l := by
  obtain ⟨cur, h1, h2⟩ := h
  exact ⟨cur, (hb.block g (heap_lt h1)).trans h1, h2⟩
theorem Rowb.cell {w : World} {g : Nat} {l : List UInt8} (h : Rowb w g l) {j : Nat} {b : UInt8} (hj : l[j]? = some b) : w.cell? ⟨g, j, none⟩ = some (.int .u8 (b.toNat : Int)) := by
  obtain ⟨cur, h1, h2⟩ := h
  exact cell_of_heap h1 (h2 j b hj)
theorem Rowb.head {w : World} {g : Nat} {l : List UInt8} (h : Rowb w g l) {k cap : Nat} (hk : k ≤ l.length) (hc : k ≤ cap) : RestAt w.heap.size w (.slice (some ⟨g, 0, none⟩) k cap) (l.take k) := by
  have e : (l.take k).length = k := by simp; omega
  refine ⟨some ⟨g, 0, none⟩, cap, by rw [e], by omega, fun j b hj => ⟨g, 0, h.lt, rfl, ?_⟩⟩
  rw [Nat.zero_add]
  refine h.cell (b := b) ?_
  rw [List.getElem?_take] at hj
  split at hj
  · exact hj
  · cases hj
theorem Rowb.rest {w : World} {g : Nat} {l : List UInt8} (h : Rowb w g l) {n cap : Nat} (hn : n = l.length) (hc : n ≤ cap) : RestAt w.heap.size w (.slice (some ⟨g, 0, none⟩) n cap) l := by
  have := h.head (k := n) (by omega) hc
  rwa [List.take_of_length_le (by omega)] at this
theorem Rowb.set {w : World} {g : Nat} {l : List UInt8} (h : Rowb w g l) {i : Nat} (hi : i < l.length) (x : UInt8) : Rowb (w.setCell ⟨g, i, none⟩ (.int .u8 (x.toNat : Int))) g (l.set i x) := by
  obtain ⟨cur, h1, h2⟩ := h
  refine ⟨_, heap_set_same (i := i) h1, fun j b hj => ?_⟩
  have hci := h2 i l[i] (by simp [hi])
  have hcl : i < cur.size := by
    rcases Nat.lt_or_ge i cur.size with q | q
    · exact q
    · rw [Array.getElem?_eq_none q] at hci; cases hci
  by_cases e : i = j
  · subst e
    rw [List.getElem?_set_self hi] at hj
    injection hj with hj
    subst hj
    rw [Array.getElem?_setIfInBounds_self_of_lt hcl]
  · rw [List.getElem?_set_ne e] at hj
    rw [Array.getElem?_setIfInBounds_ne e]
    exact h2 j b hj
theorem Rowb.back {w : World} {g : Nat} {l : List UInt8} {i : Nat} {x b : UInt8} (h : Rowb w g (l.set i x)) (hb : l[i]? = some b) (hi : i < l.length) : Rowb (w.setCell ⟨g, i, none⟩ (.int .u8 (b.toNat : Int))) g l := by
  have := h.set (i := i) (by simpa using hi) b
  rw [List.set_set] at this
  have e : l.set i b = l := by
    have : l[i] = b := by
      rw [List.getElem?_eq_getElem hi] at hb
      injection hb
    rw [← this]
    simp
  rwa [e] at this
theorem below_bytes (w : World) (e : TypeId) (s : ByteArray) : Below w.heap.size w (bytesWorld w e s) := ⟨rfl, rfl, rfl, by rw [bytesWorld_size]; omega, fun k hk => bytesWorld_at_old w e s k hk⟩
theorem rest_bytes (w : World) (e : TypeId) (s : ByteArray) : RestAt (bytesWorld w e s).heap.size (bytesWorld w e s) (.slice (some ⟨w.heap.size, 0, none⟩) s.size (grownCap w s.size 0 e)) s.data.toList := by
  refine ⟨_, _, rfl, grownCap_ge w _ _ _, fun j b hj => ⟨w.heap.size, 0, by rw [bytesWorld_size]; omega, rfl, ?_⟩⟩
  have hl : j < s.size := by
    rcases Nat.lt_or_ge j s.data.toList.length with q | q
    · exact q
    · rw [List.getElem?_eq_none q] at hj; cases hj
  rw [Nat.zero_add, bytesWorld_cell w e s j hl, List.getD_eq_getElem?_getD, hj]
  rfl
set_option maxRecDepth 1000000 in
set_option maxHeartbeats 4000000 in
theorem law_Bytes (s any : ByteArray) (n to : Int) (hn : In64 n) {A : Nat → Addr} {w : World} (hT : TabsR w) (hA : SentsX A w) :
    Calls Tryz.prog 5 #[.string s, .int .i64 n, .int .i64 to, .string any] w fun e w' => e = .returned (.bool true) ∧ Below w.heap.size w w' := by
  have hal := keep_alive hT hA
  have HT : Hid (TabsR w) := hT
  have HA : Hid (SentsX A w) := hA
  clear hT hA
  go_enter Tryz.func5, Tryz.ntmps5
  go_wp2_with fail
  refine hal.mono ?_
  rintro e w1 ⟨rfl, hb1⟩
  have B1 : Hid (Below w.heap.size w w1) := hb1
  have hcv := Go.Lib.run_convert_string_bytes (P := Tryz.prog) w1 9 32 5 any Tryz.underlying9 Tryz.underlying32 Tryz.underlying5
  have B2 : Hid (Below w.heap.size w (bytesWorld w1 5 any)) := B1.out.trans ((below_bytes w1 _ any).mono B1.out.size)
  have hsf := keep_safe (HT.out.below B2.out) (HA.out.below B2.out) (rest_bytes w1 5 any)
  clear hal hb1
  generalize hcap : grownCap w1 any.size 0 5 = cap0 at hcv hsf
  generalize hbw : bytesWorld w1 5 any = wb at hcv hsf B2
  have HCV : Hid _ := hcv
  clear hbw hcap hcv
  go_wp2_with fail
  rw [HCV.out]
  go_wp2_with fail
  refine hsf.mono ?_
  rintro e w2 ⟨rfl, hb2⟩
  have B3 : Hid (Below w.heap.size w w2) := B2.out.trans (hb2.mono B2.out.size)
  have hby := plain_Bytes s (HT.out.below B3.out) (HA.out.below B3.out)
  clear hsf hb2 HCV
  go_wp2_with fail
  refine hby.mono ?_
  rintro e w3 ⟨hb3, hc⟩
  have B4 : Hid (Below w.heap.size w w3) := B3.out.trans (hb3.mono B3.out.size)
  have LB : Hid (w.heap.size ≤ w2.heap.size) := B3.out.size
  clear hby hb3
  rcases hc with rfl | ⟨t, v, rfl, ho, hle⟩
  · go_wp2
    go_ret
    exact ⟨rfl, B4.out⟩
  obtain ⟨g, cap, rfl, hlo, hcap, hmax, hrow⟩ := rowb_of ho (enc_ne t)
  have HR : Hid (Rowb w3 g (enc t)) := hrow
  have hne : (((enc t).length : Int) == 0) = false := by
    have := enc_ne t
    rw [beq_eq_false_iff_ne]
    intro e
    exact this (List.eq_nil_of_length_eq_zero (by omega))
  clear ho hrow
  have LG : Hid (w.heap.size ≤ g) := Nat.le_trans LB.out hlo
  have HN : Hid (In64 n) := hn
  generalize hL : enc t = L at *
  clear hL hlo
  have hmx : cap ≤ 9223372036854775807 := by unfold maxLen at hmax; omega
  obtain ⟨k, hkl, hk⟩ : ∃ k : Nat, k ≤ L.length ∧ (if n < 0 then (-(n + 1)).tmod ((L.length : Int) + 1) else n.tmod ((L.length : Int) + 1)) = (k : Int) := by
    have hp : (0 : Int) < (L.length : Int) + 1 := by omega
    split
    · rename_i h0
      have a := Int.tmod_nonneg ((L.length : Int) + 1) (a := -(n + 1)) (by omega)
      have b := Int.tmod_lt_of_pos (-(n + 1)) hp
      exact ⟨((-(n + 1)).tmod ((L.length : Int) + 1)).toNat, by omega, by omega⟩
    · rename_i h0
      have a := Int.tmod_nonneg ((L.length : Int) + 1) (a := n) (by omega)
      have b := Int.tmod_lt_of_pos n hp
      exact ⟨(n.tmod ((L.length : Int) + 1)).toNat, by omega, by omega⟩
  have n1 := hn.1
  have n2 := hn.2
  have hd : ((L.length : Int) + 1 == 0) = false := by rw [beq_eq_false_iff_ne]; omega
  have hd2 : ¬ ((L.length : Int) + 1 = 0) := by omega
  have hkc : (k : Int) ≤ (cap : Int) := by omega
  have HKL : Hid (k ≤ L.length) := hkl
  have HC : Hid (L.length ≤ cap) := hcap
  have lg := HR.out.lt
  clear hn hmax
  have hsf := keep_safe (HT.out.below B4.out) (HA.out.below B4.out) (HR.out.head (k := k) (cap := cap) hkl (by omega))
  by_cases h0 : n < 0
  all_goals
    simp only [h0, if_true, if_false] at hk
    go_wp2_with fail
    refine hsf.mono ?_
    rintro e w4 ⟨rfl, hb4⟩
    have B5 : Hid (Below w.heap.size w w4) := B4.out.trans (hb4.mono B4.out.size)
    have HR4 : Hid (Rowb w4 g L) := HR.out.below hb4
    clear hsf hb4 hk hd hd2 hkc
    go_wp2_with fail
    go_loopw [9, 13] (fun v9 v13 wr => ∃ i : Nat, v9 = .bool true ∧ v13 = .int .i64 i ∧ i ≤ L.length ∧ Hid (Rowb wr g L ∧ Below w.heap.size w wr)) (fun _ v13 _ => L.length - (intOf v13).toNat)
    case atStart => exact ⟨0, rfl, rfl, Nat.zero_le _, HR4.out, B5.out⟩
    case round =>
      obtain ⟨i, rfl, rfl, hi, HI⟩ := hrel
      rcases Nat.lt_or_ge i L.length with hlt | hge
      · obtain ⟨b, hb⟩ : ∃ b, L[i]? = some b := ⟨L[i], by simp [hlt]⟩
        have ci := HI.out.1.cell hb
        have zi : wr.frozen? ⟨g, i, none⟩ = false := by obtain ⟨cur, h1, -⟩ := HI.out.1; exact frozen_of_heap h1
        have hlt2 : (i : Int) < (L.length : Int) := by omega
        have h0i : (0 : Int) ≤ (i : Int) := by omega
        go_wp2_with fail
        have hx : to % 256 = ((UInt8.ofNat (to % 256).toNat).toNat : Int) := by simp; omega
        rw [hx]
        generalize UInt8.ofNat (to % 256).toNat = x
        have r1 := HI.out.1.set hlt x
        have hbW : Below w.heap.size w (wr.setCell ⟨g, i, none⟩ (.int .u8 (x.toNat : Int))) := HI.out.2.setCell (by exact LG.out) _
        refine (keep_safe (HT.out.below hbW) (HA.out.below hbW) (r1.rest (by simp) HC.out)).mono ?_
        rintro e w5 ⟨rfl, hb5⟩
        have r5 := r1.below hb5
        have c5 := r5.cell (j := i) (b := x) (by simp [hlt])
        have z5 : w5.frozen? ⟨g, i, none⟩ = false := by obtain ⟨cur, h1, -⟩ := r5; exact frozen_of_heap h1
        have R6 : Hid (Rowb (w5.setCell ⟨g, i, none⟩ (.int .u8 (b.toNat : Int))) g L) := r5.back hb hlt
        have B6 : Hid (Below w.heap.size w (w5.setCell ⟨g, i, none⟩ (.int .u8 (b.toNat : Int)))) := (hbW.trans (hb5.mono hbW.size)).setCell (by exact LG.out) _
        have hl9 : L.length ≤ 120000 := hle
        clear hx r1 hbW hb5 r5 ci zi
        go_wp2_with fail
        go_roundw
        case rel => exact ⟨i + 1, rfl, by go_num, by omega, R6.out, B6.out⟩
        case measure => simp [intOf]; omega
      · have hn : ¬ (i : Int) < (L.length : Int) := by omega
        go_wp2
        go_ret
        exact ⟨rfl, HI.out.2⟩
end Go.Proofs.YtaghcjpoihkpjaaGreatDoor
