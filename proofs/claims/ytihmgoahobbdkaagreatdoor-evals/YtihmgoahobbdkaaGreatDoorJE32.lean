/-
  THE REFERENCE's Metrics AT A MEASURE, WALKED.
-/
import Derived.Test.YtihmgoahobbdkaaGreatDoorJE9
import Derived.Test.YtihmgoahobbdkaaGreatDoorJE10
import Derived.Test.YtihmgoahobbdkaaGreatDoorJE7
namespace Go.Proofs.YtihmgoahobbdkaaGreatDoor
open Go.RowKit Go.Lib

theorem Tryz.infoStrR : (Tryz.prog.info? 9).map (fun i => (i.zero, i.size, i.bytes)) = some (some (.string { data := #[] }), 1, 16) := by kernel_rfl
theorem bytes_inj {a b : ByteArray} (h : a.toList = b.toList) : a = b := by
  rw [Lib.toList_data, Lib.toList_data] at h
  exact ByteArray.ext (Array.toList_inj.1 h)
theorem take_note {ms : List ByteArray} {x : ByteArray} (h : x ∈ ms) : note1 ms x = ms := by
  unfold note1
  rw [if_pos ((containsS_iff _ _).2 h)]
theorem take_new {ms : List ByteArray} {x : ByteArray} (h : x ∉ ms) : note1 ms x = ms ++ [x] := by
  unfold note1
  rw [if_neg (fun e => h ((containsS_iff _ _).1 e))]

set_option maxRecDepth 1000000 in
set_option maxHeartbeats 1000000 in
theorem ref_metrics_meas {w : World} {b N p : Nat} {n : Int} {word metric : ByteArray} {pv lv : Value} {ms : List ByteArray} (hb : NodeBlk w b 109 p n word metric pv) (hN : N ≤ w.heap.size)
    (hown : w.ownsRow N 9 1 lv ms.length (ms.map Value.string)) (hl : ms.length ≤ 1000) :
    Calls Tryz.prog 11 #[.pointer (some ⟨b, 0, none⟩), lv] w fun e w' => ∃ lv', e = .returned lv' ∧ w'.ownsRow N 9 1 lv' (note1 ms metric).length ((note1 ms metric).map Value.string) ∧ Below N w w' := by
  obtain ⟨i0, hi, hz0, hz1, hz2⟩ := info_parts Tryz.infoStrR
  have c0 := cell_of_heap (i := 0) hb rfl
  have c4 := cell_of_heap (i := 4) hb rfl
  have HO : Hid (w.ownsRow N 9 1 lv ms.length (ms.map Value.string)) := hown
  obtain ⟨ao, ln, cp, rfl⟩ := owns_slice hown
  have hln : ln = ms.length := by
    rcases hown.2 with ⟨e, h0⟩ | ⟨g, cap, cur, e, -⟩
    · injection e; omega
    · injection e
  subst hln
  have hcell : ∀ k, k < ms.length → ∃ g, ao = some ⟨g, 0, none⟩ ∧ w.cell? ⟨g, k, none⟩ = some (.string (ms.getD k ByteArray.empty)) := by
    intro k hk
    rcases hown.2 with ⟨e, h0⟩ | ⟨g, cap, cur, e, -⟩
    · omega
    · injection e with e1 e2 e3
      refine ⟨g, e1, ?_⟩
      have := hown.cells (g := g) (by rw [e1]; rfl) k (.string (ms.getD k ByteArray.empty)) (by simp [List.getD_eq_getElem?_getD, List.getElem?_eq_getElem hk])
      have ha : (⟨g, 0, none⟩ : Addr).add k = ⟨g, k, none⟩ := by
        simp only [Addr.add]
        split
        · rename_i h0; subst h0; rfl
        · simp
      rw [ha] at this
      exact this
  have HC : Hid _ := hcell
  clear hcell hown hb
  go_enter Tryz.func11, Tryz.ntmps11
  go_wp2_with fail
  go_loopw [5] (fun i wr => ∃ k q : Nat, k ≤ ms.length ∧ i = .int .i64 k ∧ wr = w.drewN q ∧ Hid (∀ j, j < k → ms.getD j ByteArray.empty ≠ metric)) (fun i _ => ms.length - (intOf i).toNat)
  case atStart => exact ⟨0, 0, Nat.zero_le _, rfl, rfl, fun j hj => absurd hj (Nat.not_lt_zero _)⟩
  case round =>
    obtain ⟨k, q, hk, rfl, rfl, HN⟩ := hrel
    rcases Nat.lt_or_ge k ms.length with hkl | hkl
    · obtain ⟨g, rfl, hck⟩ := HC.out k hkl
      have hkz : (k : Int) < (ms.length : Int) := by omega
      have hmem : ms.getD k ByteArray.empty ∈ ms := by
        rw [List.getD_eq_getElem?_getD, List.getElem?_eq_getElem hkl]
        exact List.getElem_mem hkl
      have HM : Hid (ms.getD k ByteArray.empty ∈ ms) := hmem
      by_cases hY : ms.getD k ByteArray.empty = metric
      · rw [hY] at hck HM
        clear hY hmem
        go_wp2_with fail
        go_quiet (fail)
        go_wp2
        go_ret
        refine ⟨_, rfl, ?_, ?_⟩
        · rw [take_note HM.out]
          exact HO.out.kept (row := none) ⟨rfl, rfl, rfl, Nat.le_refl _, fun _ _ _ => rfl⟩ (Classical.em _)
        · exact ⟨rfl, rfl, rfl, Nat.le_refl _, fun _ _ => rfl⟩
      · have HY : Hid (ms.getD k ByteArray.empty ≠ metric) := hY
        have hbq : ((ms.getD k ByteArray.empty).toList == metric.toList) = false := by rw [beq_eq_false_iff_ne]; exact fun e => hY (bytes_inj e)
        obtain ⟨Y, hYe⟩ : ∃ Y, Y = ms.getD k ByteArray.empty := ⟨_, rfl⟩
        rw [← hYe] at hck hY hbq
        clear hYe hmem
        go_wp2_with fail
        go_quiet (fail)
        go_wp2
        go_roundw
        case rel =>
          refine ⟨k + 1, _, hkl, ?_, rfl, fun j hj => ?_⟩
          · go_num
          · rcases Nat.lt_or_ge j k with h | h
            · exact HN.out j h
            · obtain rfl : j = k := by omega
              exact HY.out
        case measure => simp [intOf]; omega
    · have hkz : ¬ (k : Int) < (ms.length : Int) := by omega
      have hnew : metric ∉ ms := by
        intro hm
        obtain ⟨j, hj, e⟩ := List.getElem_of_mem hm
        refine HN.out j (by omega) ?_
        rw [List.getD_eq_getElem?_getD, List.getElem?_eq_getElem hj]
        exact e
      have HW : Hid (metric ∉ ms) := hnew
      clear hnew HC
      go_wp2_with (first | (at_builtin; refine wpList_append_at _ rfl _ _ 30 rfl N 9 i0 (.string { data := #[] }) 1 16 Tryz.underlying30 hi hz0 hz1 hz2 rfl (by decide) (.slice ao ms.length cp) ms.length (ms.map Value.string) rfl (((HO.out.kept (w' := w.drewN q) (row := none) ⟨rfl, rfl, rfl, Nat.le_refl _, fun _ _ _ => rfl⟩ (Classical.em _))).alloc _) ⟨w.heap.size, 0, none⟩ 1 1 [.string metric] rfl rfl (cell_one_new _ _ _) (fun x hx => by simp at hx; subst hx; rfl) (by unfold maxLen; omega) (by omega) (by simp; omega) (by decide) ?_; intro v' w5 hown hgrow hnil
                            have HG : Hid _ := hgrow
                            have HV : Hid (w5.ownsRow N 9 1 v' (ms.length + 1) (ms.map Value.string ++ [.string metric])) := hown
                            obtain ⟨ao2, ln2, cp2, rfl⟩ := owns_slice hown
                            clear hgrow hown hnil))
      go_ret
      refine ⟨_, rfl, ?_, ?_⟩
      · rw [take_new HW.out]
        simpa using HV.out
      · refine ⟨HG.out.os, HG.out.tape, HG.out.output, by have := HG.out.size; simp at this; omega, fun k hk => ?_⟩
        exact (HG.out.block k (by simp; omega) (fun e => by have := (HO.out.lt _ e.symm).1; omega)).trans (Below.heap_alloc _ _ _ (by simp; omega))
end Go.Proofs.YtihmgoahobbdkaaGreatDoor
namespace Go.Proofs.YtihmgoahobbdkaaGreatDoor
open Go.RowKit Go.Lib

/-- What Metrics does at a tree. -/
def MCon (t : Tree) : Prop :=
  ∀ (P : Nat → Prop) (N : Nat) (w : World) (v lv : Value) (ms : List ByteArray), (∀ b, P b → b < N) → N ≤ w.heap.size → IsNode P w t v → w.ownsRow N 9 1 lv ms.length (ms.map Value.string) → ms.length + (mets t).length ≤ 1000 →
    Calls Tryz.prog 11 #[v, lv] w fun e w' => ∃ lv', e = .returned lv' ∧ w'.ownsRow N 9 1 lv' (notes ms (mets t)).length ((notes ms (mets t)).map Value.string) ∧ Below N w w'

theorem isNodes_length {P : Nat → Prop} {w : World} : ∀ {ts : List Tree} {vs : List Value}, IsNodes P w ts vs → ts.length = vs.length
  | [], _, h => by unfold IsNodes at h; subst h; rfl
  | t :: ts, _, h => by
    unfold IsNodes at h
    obtain ⟨v, vs', rfl, -, h2⟩ := h
    simp [isNodes_length h2]
theorem isNodes_at {P : Nat → Prop} {w : World} : ∀ {ts : List Tree} {vs : List Value}, IsNodes P w ts vs → ∀ (k : Nat) t, ts[k]? = some t → ∃ v, vs[k]? = some v ∧ IsNode P w t v
  | [], _, _, k, t, h => by simp at h
  | t0 :: ts, _, h, 0, t, e => by
    unfold IsNodes at h
    obtain ⟨v, vs', rfl, h1, h2⟩ := h
    simp at e
    subst e
    exact ⟨v, rfl, h1⟩
  | t0 :: ts, _, h, k + 1, t, e => by
    unfold IsNodes at h
    obtain ⟨v, vs', rfl, h1, h2⟩ := h
    simp at e
    simpa using isNodes_at h2 k t e
theorem isNode_ptr {P : Nat → Prop} {w : World} : ∀ {t : Tree} {v : Value}, IsNode P w t v → ∃ a, v = .pointer (some a)
  | .num _ _, _, h => by unfold IsNode at h; obtain ⟨b, pv, h1, -⟩ := h; exact ⟨_, h1⟩
  | .neg _ _, _, h => by unfold IsNode at h; obtain ⟨va, ⟨b, pv, h1, -⟩, -⟩ := h; exact ⟨_, h1⟩
  | .bin _ _ _ _, _, h => by unfold IsNode at h; obtain ⟨va, vb, ⟨b, pv, h1, -⟩, -⟩ := h; exact ⟨_, h1⟩
  | .ite _ _ _ _, _, h => by unfold IsNode at h; obtain ⟨va, vb, vc, ⟨b, pv, h1, -⟩, -⟩ := h; exact ⟨_, h1⟩
  | .meas _ _ _ _, _, h => by unfold IsNode at h; obtain ⟨b, pv, h1, -⟩ := h; exact ⟨_, h1⟩
  | .probe _ _ _, _, h => by unfold IsNode at h; obtain ⟨vs, ⟨b, pv, h1, -⟩, -⟩ := h; exact ⟨_, h1⟩
theorem metsAll_take {ts : List Tree} {k : Nat} {t : Tree} (h : ts[k]? = some t) : metsAll (ts.take (k + 1)) = metsAll (ts.take k) ++ mets t := by
  rw [List.take_add_one, h, metsAll_append]
  simp [metsAll]
theorem metsAll_part {ts : List Tree} {k : Nat} : (metsAll (ts.take k)).length ≤ (metsAll ts).length := by
  have : metsAll ts = metsAll (ts.take k) ++ metsAll (ts.drop k) := by rw [← metsAll_append, List.take_append_drop]
  rw [this]
  simp

set_option maxRecDepth 1000000 in
set_option maxHeartbeats 1000000 in
theorem ref_metrics_parts {P : Nat → Prop} {w : World} {N k0 p : Nat} {n : Int} {word metric : ByteArray} {v lv : Value} {vs : List Value} {ts : List Tree} {ms : List ByteArray} (hk : k0 ≠ 109) (hP : ∀ b, P b → b < N) (hN : N ≤ w.heap.size)
    (hn : NodeAt P w v k0 p n word metric vs) (hts : IsNodes P w ts vs) (ih : ∀ t ∈ ts, MCon t) (hown : w.ownsRow N 9 1 lv ms.length (ms.map Value.string)) (hl : ms.length + (metsAll ts).length ≤ 1000) (hvl : vs.length ≤ 1000) :
    Calls Tryz.prog 11 #[v, lv] w fun e w' => ∃ lv', e = .returned lv' ∧ w'.ownsRow N 9 1 lv' (notes ms (metsAll ts)).length ((notes ms (metsAll ts)).map Value.string) ∧ Below N w w' := by
  obtain ⟨b, pv, rfl, hPb, hb, hpa⟩ := hn
  have c0 := cell_of_heap (i := 0) hb rfl
  have c5 := cell_of_heap (i := 5) hb rfl
  have hbN := hP b hPb
  have hlen := isNodes_length hts
  have hq : ∃ (ao : Option Addr) (cap : Nat), pv = .slice ao vs.length cap ∧ ∀ (W : World), Below N w W → ∀ k x, vs[k]? = some x → ∃ q, ao = some ⟨q, 0, none⟩ ∧ W.cell? ⟨q, k, none⟩ = some x := by
    rcases hpa with ⟨rfl, rfl⟩ | ⟨q, cap, cur, rfl, hPq, hcur, -, -, -, htake⟩
    · exact ⟨none, 0, rfl, fun W hW k x hx => by simp at hx⟩
    · refine ⟨some ⟨q, 0, none⟩, cap, rfl, fun W hW k x hx => ⟨q, rfl, ?_⟩⟩
      have hc : cur[k]? = some x := by
        rw [← htake, List.getElem?_take] at hx
        split at hx
        · simpa using hx
        · cases hx
      exact cell_of_heap ((hW.block q (hP q hPq)).trans hcur) hc
  obtain ⟨ao, cap, rfl, hq⟩ := hq
  have hne : ((k0 : Int) == 109) = false := by rw [beq_eq_false_iff_ne]; omega
  have HQ : Hid _ := hq
  have HTS : Hid (IsNodes P w ts vs) := hts
  have HIH : Hid (∀ t ∈ ts, MCon t) := ih
  have HP : Hid (∀ b, P b → b < N) := hP
  have HBK : Hid _ := hb
  have HO : Hid (w.ownsRow N 9 1 lv ms.length (ms.map Value.string)) := hown
  obtain ⟨lo, ll, lc, rfl⟩ := owns_slice hown
  clear hq hts ih hP hb hpa hown
  go_enter Tryz.func11, Tryz.ntmps11
  go_wp2_with fail
  go_loopw [1, 6] (fun l i wr => ∃ (k : Nat) (lo : Option Addr) (ll lc : Nat), k ≤ vs.length ∧ i = .int .i64 k ∧ l = .slice lo ll lc ∧ Hid (wr.ownsRow N 9 1 (.slice lo ll lc) (notes ms (metsAll (ts.take k))).length ((notes ms (metsAll (ts.take k))).map Value.string)) ∧ Hid (Below N w wr)) (fun _ i _ => vs.length - (intOf i).toNat)
  case atStart => exact ⟨0, lo, ll, lc, Nat.zero_le _, rfl, rfl, HO.out, Below.refl _ _⟩
  case round =>
    obtain ⟨k, lo, ll, lc, hkv, rfl, rfl, HOr, HBr⟩ := hrel
    have c5r : wr.cell? ⟨b, 5, none⟩ = _ := cell_of_heap (i := 5) ((HBr.out.block b hbN).trans HBK.out) rfl
    rcases Nat.lt_or_ge k vs.length with hkl | hkl
    · have hkz : (k : Int) < (vs.length : Int) := by omega
      obtain ⟨t, ht⟩ : ∃ t, ts[k]? = some t := ⟨ts[k]'(by omega), List.getElem?_eq_getElem _⟩
      obtain ⟨x, hx, hnx⟩ := isNodes_at HTS.out k t ht
      obtain ⟨q, rfl, hcq⟩ := HQ.out wr HBr.out k x hx
      obtain ⟨xa, rfl⟩ := isNode_ptr hnx
      have hpart : (metsAll (ts.take (k + 1))).length ≤ (metsAll ts).length := metsAll_part
      have htk := metsAll_take ht
      have hcall := HIH.out t (List.mem_of_getElem? ht) P N wr (.pointer (some xa)) (.slice lo ll lc) _ HP.out (Nat.le_trans hN HBr.out.size) (hnx.moves fun c hc _ => ⟨hc, HBr.out.block c (HP.out c hc)⟩) HOr.out (by
        have := (notes_length (metsAll (ts.take k)) ms).2
        rw [htk, List.length_append] at hpart
        omega)
      rw [← notes_append, ← htk] at hcall
      clear htk hpart hnx
      go_wp2_with fail
      refine hcall.mono ?_
      rintro e w2 ⟨lv2, rfl, hown2, hb2⟩
      obtain ⟨lo2, ll2, lc2, rfl⟩ := owns_slice hown2
      have HO2 : Hid _ := hown2
      have HB2 : Hid (Below N w w2) := HBr.out.trans hb2
      clear hown2 hb2 hcall
      go_wp2
      go_roundw
      case rel => exact ⟨k + 1, lo2, ll2, lc2, hkl, by go_num, rfl, HO2, HB2⟩
      case measure => simp [intOf]; omega
    · have hkz : ¬ (k : Int) < (vs.length : Int) := by omega
      have hke : ts.take k = ts := List.take_of_length_le (by omega)
      rw [hke] at HOr
      go_wp2
      go_ret
      exact ⟨_, rfl, HOr.out, HBr.out⟩

mutual
/-- Trees as they are read: a sign is no measure's mark, and a probe has no more arguments than a text can hold. -/
def Fine : Tree → Prop
  | .num _ _ => True
  | .neg _ a => Fine a
  | .bin k _ a b => k ≠ 109 ∧ Fine a ∧ Fine b
  | .ite _ a b c => Fine a ∧ Fine b ∧ Fine c
  | .meas _ _ _ _ => True
  | .probe _ _ ts => ts.length ≤ 1000 ∧ FineAll ts
def FineAll : List Tree → Prop
  | [] => True
  | t :: ts => Fine t ∧ FineAll ts
end
theorem isNodes_nil {P : Nat → Prop} {w : World} : IsNodes P w [] [] := by unfold IsNodes; rfl
theorem isNodes_cons {P : Nat → Prop} {w : World} {t : Tree} {v : Value} {ts : List Tree} {vs : List Value} (h : IsNode P w t v) (k : IsNodes P w ts vs) : IsNodes P w (t :: ts) (v :: vs) := by unfold IsNodes; exact ⟨v, vs, rfl, h, k⟩
mutual
theorem ref_metrics : ∀ t, Fine t → MCon t
  | .num _ _, _ => fun P N w v lv ms hP hN hn ho hl => by
    unfold IsNode at hn
    simpa [mets, metsAll] using ref_metrics_parts (ts := []) (by decide) hP hN hn isNodes_nil (fun t ht => by cases ht) ho (by simpa [mets, metsAll] using hl) (by simp)
  | .neg _ a, hf => fun P N w v lv ms hP hN hn ho hl => by
    unfold Fine at hf
    unfold IsNode at hn
    obtain ⟨va, hn, ha⟩ := hn
    have h1 := ref_metrics a hf
    simpa [mets, metsAll] using ref_metrics_parts (ts := [a]) (by decide) hP hN hn (isNodes_cons ha isNodes_nil) (fun t ht => by simp at ht; subst ht; exact h1) ho (by simpa [mets, metsAll] using hl) (by simp)
  | .bin _ _ a b, hf => fun P N w v lv ms hP hN hn ho hl => by
    unfold Fine at hf
    unfold IsNode at hn
    obtain ⟨va, vb, hn, ha, hb⟩ := hn
    have h1 := ref_metrics a hf.2.1
    have h2 := ref_metrics b hf.2.2
    simpa [mets, metsAll] using ref_metrics_parts (ts := [a, b]) hf.1 hP hN hn (isNodes_cons ha (isNodes_cons hb isNodes_nil)) (fun t ht => by simp at ht; rcases ht with rfl | rfl; exact h1; exact h2) ho (by simpa [mets, metsAll] using hl) (by simp)
  | .ite _ a b c, hf => fun P N w v lv ms hP hN hn ho hl => by
    unfold Fine at hf
    unfold IsNode at hn
    obtain ⟨va, vb, vc, hn, ha, hb, hc⟩ := hn
    have h1 := ref_metrics a hf.1
    have h2 := ref_metrics b hf.2.1
    have h3 := ref_metrics c hf.2.2
    simpa [mets, metsAll] using ref_metrics_parts (ts := [a, b, c]) (by decide) hP hN hn (isNodes_cons ha (isNodes_cons hb (isNodes_cons hc isNodes_nil))) (fun t ht => by simp at ht; rcases ht with rfl | rfl | rfl; exact h1; exact h2; exact h3) ho (by simpa [mets, metsAll, Nat.add_assoc] using hl) (by simp)
  | .meas _ _ m _, _ => fun P N w v lv ms hP hN hn ho hl => by
    unfold IsNode at hn
    obtain ⟨b, pv, rfl, -, hb, -⟩ := hn
    exact ref_metrics_meas hb hN ho (by omega)
  | .probe _ _ ts, hf => fun P N w v lv ms hP hN hn ho hl => by
    unfold Fine at hf
    unfold IsNode at hn
    obtain ⟨vs, hn, hts⟩ := hn
    have h1 := ref_metrics_all ts hf.2
    simpa [mets] using ref_metrics_parts (by decide) hP hN hn hts h1 ho (by simpa [mets] using hl) (by rw [← isNodes_length hts]; exact hf.1)
theorem ref_metrics_all : ∀ ts, FineAll ts → ∀ t ∈ ts, MCon t
  | [], _ => fun t ht => by cases ht
  | t0 :: ts, hf => fun t ht => by
    unfold FineAll at hf
    have h1 := ref_metrics t0 hf.1
    have h2 := ref_metrics_all ts hf.2
    rcases List.mem_cons.1 ht with rfl | h
    · exact h1
    · exact h2 t h
end
end Go.Proofs.YtihmgoahobbdkaaGreatDoor
