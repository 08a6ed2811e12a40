/-
  THE REFERENCE's Missing AND THE LAW's names, WALKED.
-/
import Derived.Test.YtihmgoahobbdkaaGreatDoorJE35
import Derived.Test.YtihmgoahobbdkaaGreatDoorJE17
import Derived.Test.YtihmgoahobbdkaaGreatDoorJE36
namespace Go.Proofs.YtihmgoahobbdkaaGreatDoor
open Go.RowKit Go.Lib

/-- Is a name in a list? -/
def inL (hl : List ByteArray) (s : ByteArray) : Bool := hl.any fun x => x.toList == s.toList
def missL (hl : List ByteArray) (qs : List (Nat × ByteArray)) : Option (Nat × ByteArray) := qs.find? fun q => !inL hl q.2
theorem missL_append (hl : List ByteArray) (a b : List (Nat × ByteArray)) : missL hl (a ++ b) = (missL hl a).or (missL hl b) := by simp [missL, List.find?_append]
/-- What Missing tells. -/
def MissTold (P : Nat → Prop) (w : World) (m : Option (Nat × ByteArray)) (e : Ending) : Prop :=
  match m with
  | none => e = .returned (.pointer none)
  | some q => ∃ a vs, e = .returned (.pointer (some a)) ∧ NodeAt P w (.pointer (some a)) 112 q.1 0 q.2 noBytes vs
def XCon (t : Tree) : Prop :=
  ∀ (P : Nat → Prop) (w : World) (v hv : Value) (hl : List ByteArray), IsNode P w t v → Txts w hv hl → hl.length ≤ 900 →
    Calls Tryz.prog 16 #[v, hv] w fun e w' => Below w.heap.size w w' ∧ MissTold P w' (missL hl (asks t)) e
theorem asksAll_take {ts : List Tree} {k : Nat} {t : Tree} (h : ts[k]? = some t) : asksAll (ts.take (k + 1)) = asksAll (ts.take k) ++ asks t := by
  rw [List.take_add_one, h]
  have : ∀ a b, asksAll (a ++ b) = asksAll a ++ asksAll b := by
    intro a b
    induction a with
    | nil => simp [asksAll]
    | cons x a ih => simp [asksAll, ih]
  rw [this]
  simp [asksAll]
theorem asksAll_split (ts : List Tree) (k : Nat) : asksAll ts = asksAll (ts.take k) ++ asksAll (ts.drop k) := by
  have : ∀ a b, asksAll (a ++ b) = asksAll a ++ asksAll b := by
    intro a b
    induction a with
    | nil => simp [asksAll]
    | cons x a ih => simp [asksAll, ih]
  rw [← this, List.take_append_drop]
set_option maxRecDepth 1000000 in
set_option maxHeartbeats 1000000 in
/-- The parts, one behind the other: from the second loop on (the node's own name is there). -/
theorem ref_missing_parts {P : Nat → Prop} {w : World} {k0 p : Nat} {n : Int} {word metric : ByteArray} {v hv : Value} {vs : List Value} {ts : List Tree} {hl : List ByteArray} (hk : k0 ≠ 112)
    (hn : NodeAt P w v k0 p n word metric vs) (hts : IsNodes P w ts vs) (ih : ∀ t ∈ ts, XCon t) (hh : Txts w hv hl) (h9 : hl.length ≤ 900) (hvl : vs.length ≤ 1000) :
    Calls Tryz.prog 16 #[v, hv] w fun e w' => Below w.heap.size w w' ∧ MissTold P w' (missL hl (asksAll ts)) e := by
  obtain ⟨b, pv, rfl, hPb, hb, hpa⟩ := hn
  have c0 := cell_of_heap (i := 0) hb rfl
  have hlen := isNodes_length hts
  have hq : ∃ (ao : Option Addr) (cap : Nat), pv = .slice ao vs.length cap ∧ ∀ (W : World), Below w.heap.size w W → ∀ k x, vs[k]? = some x → ∃ q, ao = some ⟨q, 0, none⟩ ∧ W.cell? ⟨q, k, none⟩ = some x := by
    rcases hpa with ⟨rfl, rfl⟩ | ⟨q, cap, cur, rfl, hPq, hcur, -, -, -, htake⟩
    · exact ⟨none, 0, rfl, fun W hW k x hx => by simp at hx⟩
    · refine ⟨some ⟨q, 0, none⟩, cap, rfl, fun W hW k x hx => ⟨q, rfl, ?_⟩⟩
      have hc : cur[k]? = some x := by
        rw [← htake, List.getElem?_take] at hx
        split at hx
        · simpa using hx
        · cases hx
      exact cell_of_heap ((hW.block q (heap_lt hcur)).trans hcur) hc
  obtain ⟨ao, cap, rfl, hq⟩ := hq
  have hne : ((k0 : Int) == 112) = false := by rw [beq_eq_false_iff_ne]; omega
  obtain ⟨ho, hc, rfl, -⟩ : ∃ ho hc, hv = .slice ho hl.length hc ∧ True := by obtain ⟨ho, hc, h1, -⟩ := hh; exact ⟨ho, hc, h1, trivial⟩
  have HQ : Hid _ := hq
  have HTS : Hid (IsNodes P w ts vs) := hts
  have HIH : Hid (∀ t ∈ ts, XCon t) := ih
  have HBK : Hid _ := hb
  have HH : Hid (Txts w (.slice ho hl.length hc) hl) := hh
  have H9 : Hid (hl.length ≤ 900) := h9
  have HLN : Hid (ts.length = vs.length) := hlen
  clear hq hts ih hb hpa hh hlen h9
  generalize vs.length = m at *
  go_enter Tryz.func16, Tryz.ntmps16
  go_wp2_with fail
  go_loopw [7] (fun i wr => ∃ k : Nat, k ≤ m ∧ i = .int .i64 k ∧ Hid (Below w.heap.size w wr ∧ missL hl (asksAll (ts.take k)) = none)) (fun i _ => m - (intOf i).toNat)
  case atStart => exact ⟨0, Nat.zero_le _, rfl, Below.refl _ _, by simp [asksAll, missL]⟩
  case round =>
    obtain ⟨k, hkv, rfl, HBr⟩ := hrel
    have c5r : wr.cell? ⟨b, 5, none⟩ = some (.slice ao m cap) := cell_of_heap (i := 5) ((HBr.out.1.block b (heap_lt HBK.out)).trans HBK.out) rfl
    rcases Nat.lt_or_ge k m with hkl | hkl
    · have hkz : (k : Int) < (m : Int) := by omega
      obtain ⟨t, ht⟩ : ∃ t, ts[k]? = some t := ⟨ts[k]'(by have := HLN.out; omega), List.getElem?_eq_getElem _⟩
      obtain ⟨x, hx, hnx⟩ := isNodes_at HTS.out k t ht
      obtain ⟨q, rfl, hcq⟩ := HQ.out wr HBr.out.1 k x hx
      obtain ⟨xa, rfl⟩ := isNode_ptr hnx
      have hcall := HIH.out t (List.mem_of_getElem? ht) P wr (.pointer (some xa)) (.slice ho hl.length hc) hl (hnx.moves fun c hc hlt => ⟨hc, HBr.out.1.block c hlt⟩) (HH.out.below HBr.out.1) H9.out
      have HTK : Hid (asksAll (ts.take (k + 1)) = asksAll (ts.take k) ++ asks t) := asksAll_take ht
      have HSP : Hid (asksAll ts = asksAll (ts.take (k + 1)) ++ asksAll (ts.drop (k + 1))) := asksAll_split ts _
      clear hx ht
      go_wp2_with fail
      refine hcall.mono ?_
      rintro e w2 ⟨hb2, hm⟩
      have HB2 : Hid (Below w.heap.size w w2) := HBr.out.1.trans (hb2.mono HBr.out.1.size)
      clear hcall hb2
      cases hms : missL hl (asks t) with
      | none =>
        rw [hms] at hm
        have hm : e = .returned (.pointer none) := hm
        subst hm
        have HN1 : Hid (missL hl (asksAll (ts.take (k + 1))) = none) := by
          show _ = _
          rw [HTK.out, missL_append, HBr.out.2, hms]
          rfl
        clear hms
        go_wp2
        go_roundw
        case rel => exact ⟨k + 1, hkl, by go_num, HB2.out, HN1.out⟩
        case measure => simp [intOf]; omega
      | some z =>
        rw [hms] at hm
        obtain ⟨a, vs2, rfl, hnd⟩ := hm
        have HN1 : Hid (missL hl (asksAll ts) = some z) := by
          show _ = _
          rw [HSP.out, missL_append, HTK.out, missL_append, HBr.out.2, hms]
          rfl
        have HND : Hid _ := hnd
        clear hms hnd
        go_wp2
        go_ret
        refine ⟨HB2.out, ?_⟩
        rw [HN1.out]
        exact ⟨a, vs2, rfl, HND.out⟩
    · have hkz : ¬ (k : Int) < (m : Int) := by omega
      have HKE : Hid (missL hl (asksAll ts) = none) := by
        show _ = _
        have := HBr.out.2
        rwa [List.take_of_length_le (by have := HLN.out; omega)] at this
      go_wp2
      go_ret
      exact ⟨HBr.out.1, by rw [HKE.out]; rfl⟩
set_option maxRecDepth 1000000 in
set_option maxHeartbeats 1000000 in
/-- A probe whose name is not there. -/
theorem ref_missing_none {P : Nat → Prop} {w : World} {p : Nat} {n : Int} {word metric : ByteArray} {v hv : Value} {vs : List Value} {hl : List ByteArray} (hin : inL hl word = false) (hn : NodeAt P w v 112 p n word metric vs) (hh : Txts w hv hl) (h9 : hl.length ≤ 900) :
    Calls Tryz.prog 16 #[v, hv] w fun e w' => Below w.heap.size w w' ∧ ∃ a, e = .returned (.pointer (some a)) ∧ NodeAt P w' (.pointer (some a)) 112 p n word metric vs := by
  have HN : Hid (NodeAt P w v 112 p n word metric vs) := hn
  obtain ⟨b, pv, rfl, hPb, hb, hpa⟩ := hn
  have c0 := cell_of_heap (i := 0) hb rfl
  obtain ⟨ho, hc, rfl, -⟩ : ∃ ho hc, hv = .slice ho hl.length hc ∧ True := by obtain ⟨ho, hc, h1, -⟩ := hh; exact ⟨ho, hc, h1, trivial⟩
  have HBK : Hid _ := hb
  have HH : Hid (Txts w (.slice ho hl.length hc) hl) := hh
  have HIN : Hid (inL hl word = false) := hin
  have hnot : ∀ (x : Bool) (w : World), (Op.unary .not (.bool x)).run Tryz.prog w = .ok (.bool (!x)) w := fun _ _ => rfl
  clear hb hpa hh hin
  go_enter Tryz.func16, Tryz.ntmps16
  go_wp2_with fail
  have c3 : w.cell? ⟨b, 3, none⟩ = some (.string word) := cell_of_heap HBK.out rfl
  have HHX : Hid (∀ (j : Nat) (x : ByteArray), hl[j]? = some x → ∃ g, ho = some ⟨g, 0, none⟩ ∧ w.cell? ⟨g, j, none⟩ = some (.string x)) := by
    obtain ⟨o2, c2, e, -, hx⟩ := HH.out
    injection e with e1
    subst e1
    exact hx
  generalize hM9 : hl.length = M9 at *
  have HM9 : Hid (hl.length = M9) := hM9
  have h9m : M9 ≤ 900 := by first | exact H9.out | exact h9
  clear hM9
  go_loopw [5, 6] (fun v5 v6 wr => ∃ (j q : Nat), v6 = .int .i64 j ∧ j ≤ M9 ∧ v5 = .bool (inL (hl.take j) word) ∧ wr = w.drewN q) (fun _ v6 _ => M9 - (intOf v6).toNat)
  case atStart => exact ⟨0, 0, rfl, Nat.zero_le _, rfl, rfl⟩
  case round =>
    obtain ⟨j, q, rfl, hj, rfl, rfl⟩ := hrel
    rcases Nat.lt_or_ge j M9 with hlt | hge
    · obtain ⟨x, hx⟩ : ∃ x, hl[j]? = some x := ⟨hl[j]'(by have := HM9.out; omega), List.getElem?_eq_getElem _⟩
      obtain ⟨g, rfl, cg⟩ := HHX.out j x hx
      have hlt2 : (j : Int) < M9 := by omega
      have HJ : Hid (inL (hl.take (j + 1)) word = (inL (hl.take j) word || (x.toList == word.toList))) := by
        show _ = _
        rw [List.take_add_one, hx]
        simp [inL]
      clear hx
      cases hin2 : inL (hl.take j) word with
      | true =>
        rw [hin2] at HJ
        clear hin2
        go_wp2_with fail
        go_quiet (fail)
        go_wp2
        go_roundw
        case rel => exact ⟨j + 1, _, by go_num, by omega, by rw [HJ.out]; rfl, rfl⟩
        case measure => simp [intOf]; omega
      | false =>
        rw [hin2] at HJ
        clear hin2
        cases hxe : (x.toList == word.toList) with
        | true =>
          rw [hxe] at HJ
          go_wp2_with fail
          go_quiet (fail)
          go_wp2
          go_roundw
          case rel => exact ⟨j + 1, _, by go_num, by omega, by rw [HJ.out]; rfl, rfl⟩
          case measure => simp [intOf]; omega
        | false =>
          rw [hxe] at HJ
          go_wp2_with fail
          go_quiet (fail)
          go_wp2
          go_roundw
          case rel => exact ⟨j + 1, _, by go_num, by omega, by rw [HJ.out]; rfl, rfl⟩
          case measure => simp [intOf]; omega
    · have hge2 : ¬ (j : Int) < M9 := by omega
      have HFU : Hid (inL (hl.take j) word = inL hl word) := by show _ = _; rw [List.take_of_length_le (by have := HM9.out; omega)]
      rw [HFU.out]
      rw [HIN.out]
      go_wp2
      go_ret
      exact ⟨⟨rfl, rfl, rfl, Nat.le_refl _, fun _ _ => rfl⟩, _, rfl, HN.out⟩
set_option maxRecDepth 1000000 in
set_option maxHeartbeats 1000000 in
/-- A probe whose name is there: its parts, as of any other. -/
theorem ref_missing_probe {P : Nat → Prop} {w : World} {p : Nat} {n : Int} {word metric : ByteArray} {v hv : Value} {vs : List Value} {ts : List Tree} {hl : List ByteArray} (hin : inL hl word = true)
    (hn : NodeAt P w v 112 p n word metric vs) (hts : IsNodes P w ts vs) (ih : ∀ t ∈ ts, XCon t) (hh : Txts w hv hl) (h9 : hl.length ≤ 900) (hvl : vs.length ≤ 1000) :
    Calls Tryz.prog 16 #[v, hv] w fun e w' => Below w.heap.size w w' ∧ MissTold P w' (missL hl (asksAll ts)) e := by
  obtain ⟨b, pv, rfl, hPb, hb, hpa⟩ := hn
  have c0 := cell_of_heap (i := 0) hb rfl
  have hlen := isNodes_length hts
  have hq : ∃ (ao : Option Addr) (cap : Nat), pv = .slice ao vs.length cap ∧ ∀ (W : World), Below w.heap.size w W → ∀ k x, vs[k]? = some x → ∃ q, ao = some ⟨q, 0, none⟩ ∧ W.cell? ⟨q, k, none⟩ = some x := by
    rcases hpa with ⟨rfl, rfl⟩ | ⟨q, cap, cur, rfl, hPq, hcur, -, -, -, htake⟩
    · exact ⟨none, 0, rfl, fun W hW k x hx => by simp at hx⟩
    · refine ⟨some ⟨q, 0, none⟩, cap, rfl, fun W hW k x hx => ⟨q, rfl, ?_⟩⟩
      have hc : cur[k]? = some x := by
        rw [← htake, List.getElem?_take] at hx
        split at hx
        · simpa using hx
        · cases hx
      exact cell_of_heap ((hW.block q (heap_lt hcur)).trans hcur) hc
  obtain ⟨ao, cap, rfl, hq⟩ := hq
  obtain ⟨ho, hc, rfl, -⟩ : ∃ ho hc, hv = .slice ho hl.length hc ∧ True := by obtain ⟨ho, hc, h1, -⟩ := hh; exact ⟨ho, hc, h1, trivial⟩
  have HQ : Hid _ := hq
  have HTS : Hid (IsNodes P w ts vs) := hts
  have HIH : Hid (∀ t ∈ ts, XCon t) := ih
  have HBK : Hid _ := hb
  have HH : Hid (Txts w (.slice ho hl.length hc) hl) := hh
  have H9 : Hid (hl.length ≤ 900) := h9
  have HLN : Hid (ts.length = vs.length) := hlen
  have HIN : Hid (inL hl word = true) := hin
  have hnot : ∀ (x : Bool) (w : World), (Op.unary .not (.bool x)).run Tryz.prog w = .ok (.bool (!x)) w := fun _ _ => rfl
  clear hq hts ih hb hpa hh hlen h9 hin
  generalize vs.length = m at *
  go_enter Tryz.func16, Tryz.ntmps16
  go_wp2_with fail
  have c3 : w.cell? ⟨b, 3, none⟩ = some (.string word) := cell_of_heap HBK.out rfl
  have HHX : Hid (∀ (j : Nat) (x : ByteArray), hl[j]? = some x → ∃ g, ho = some ⟨g, 0, none⟩ ∧ w.cell? ⟨g, j, none⟩ = some (.string x)) := by
    obtain ⟨o2, c2, e, -, hx⟩ := HH.out
    injection e with e1
    subst e1
    exact hx
  generalize hM9 : hl.length = M9 at *
  have HM9 : Hid (hl.length = M9) := hM9
  have h9m : M9 ≤ 900 := by first | exact H9.out | exact h9
  clear hM9
  go_loopw [5, 6] (fun v5 v6 wr => ∃ (j q : Nat), v6 = .int .i64 j ∧ j ≤ M9 ∧ v5 = .bool (inL (hl.take j) word) ∧ wr = w.drewN q) (fun _ v6 _ => M9 - (intOf v6).toNat)
  case atStart => exact ⟨0, 0, rfl, Nat.zero_le _, rfl, rfl⟩
  case round =>
    obtain ⟨j, q, rfl, hj, rfl, rfl⟩ := hrel
    rcases Nat.lt_or_ge j M9 with hlt | hge
    · obtain ⟨x, hx⟩ : ∃ x, hl[j]? = some x := ⟨hl[j]'(by have := HM9.out; omega), List.getElem?_eq_getElem _⟩
      obtain ⟨g, rfl, cg⟩ := HHX.out j x hx
      have hlt2 : (j : Int) < M9 := by omega
      have HJ : Hid (inL (hl.take (j + 1)) word = (inL (hl.take j) word || (x.toList == word.toList))) := by
        show _ = _
        rw [List.take_add_one, hx]
        simp [inL]
      clear hx
      cases hin2 : inL (hl.take j) word with
      | true =>
        rw [hin2] at HJ
        clear hin2
        go_wp2_with fail
        go_quiet (fail)
        go_wp2
        go_roundw
        case rel => exact ⟨j + 1, _, by go_num, by omega, by rw [HJ.out]; rfl, rfl⟩
        case measure => simp [intOf]; omega
      | false =>
        rw [hin2] at HJ
        clear hin2
        cases hxe : (x.toList == word.toList) with
        | true =>
          rw [hxe] at HJ
          go_wp2_with fail
          go_quiet (fail)
          go_wp2
          go_roundw
          case rel => exact ⟨j + 1, _, by go_num, by omega, by rw [HJ.out]; rfl, rfl⟩
          case measure => simp [intOf]; omega
        | false =>
          rw [hxe] at HJ
          go_wp2_with fail
          go_quiet (fail)
          go_wp2
          go_roundw
          case rel => exact ⟨j + 1, _, by go_num, by omega, by rw [HJ.out]; rfl, rfl⟩
          case measure => simp [intOf]; omega
    · have hge2 : ¬ (j : Int) < M9 := by omega
      have HFU : Hid (inL (hl.take j) word = inL hl word) := by show _ = _; rw [List.take_of_length_le (by have := HM9.out; omega)]
      rw [HFU.out]
      rw [HIN.out]
      go_wp2_with fail
      go_loopw [7] (fun i wr => ∃ k : Nat, k ≤ m ∧ i = .int .i64 k ∧ Hid (Below w.heap.size w wr ∧ missL hl (asksAll (ts.take k)) = none)) (fun i _ => m - (intOf i).toNat)
      case atStart => exact ⟨0, Nat.zero_le _, rfl, ⟨rfl, rfl, rfl, Nat.le_refl _, fun _ _ => rfl⟩, by simp [asksAll, missL]⟩
      case round =>
        obtain ⟨k, hkv, rfl, HBr⟩ := hrel
        have c5r : wr.cell? ⟨b, 5, none⟩ = some (.slice ao m cap) := cell_of_heap (i := 5) ((HBr.out.1.block b (heap_lt HBK.out)).trans HBK.out) rfl
        rcases Nat.lt_or_ge k m with hkl | hkl
        · have hkz : (k : Int) < (m : Int) := by omega
          obtain ⟨t, ht⟩ : ∃ t, ts[k]? = some t := ⟨ts[k]'(by have := HLN.out; omega), List.getElem?_eq_getElem _⟩
          obtain ⟨x, hx, hnx⟩ := isNodes_at HTS.out k t ht
          obtain ⟨q, rfl, hcq⟩ := HQ.out wr HBr.out.1 k x hx
          obtain ⟨xa, rfl⟩ := isNode_ptr hnx
          have hcall := HIH.out t (List.mem_of_getElem? ht) P wr (.pointer (some xa)) (.slice ho M9 hc) hl (hnx.moves fun c hc hlt => ⟨hc, HBr.out.1.block c hlt⟩) (HH.out.below HBr.out.1) (by rw [HM9.out]; exact h9m)
          have HTK : Hid (asksAll (ts.take (k + 1)) = asksAll (ts.take k) ++ asks t) := asksAll_take ht
          have HSP : Hid (asksAll ts = asksAll (ts.take (k + 1)) ++ asksAll (ts.drop (k + 1))) := asksAll_split ts _
          clear hx ht
          go_wp2_with fail
          refine hcall.mono ?_
          rintro e w2 ⟨hb2, hm⟩
          have HB2 : Hid (Below w.heap.size w w2) := HBr.out.1.trans (hb2.mono HBr.out.1.size)
          clear hcall hb2
          cases hms : missL hl (asks t) with
          | none =>
            rw [hms] at hm
            have hm : e = .returned (.pointer none) := hm
            subst hm
            have HN1 : Hid (missL hl (asksAll (ts.take (k + 1))) = none) := by
              show _ = _
              rw [HTK.out, missL_append, HBr.out.2, hms]
              rfl
            clear hms
            go_wp2
            go_roundw
            case rel => exact ⟨k + 1, hkl, by go_num, HB2.out, HN1.out⟩
            case measure => simp [intOf]; omega
          | some z =>
            rw [hms] at hm
            obtain ⟨a, vs2, rfl, hnd⟩ := hm
            have HN1 : Hid (missL hl (asksAll ts) = some z) := by
              show _ = _
              rw [HSP.out, missL_append, HTK.out, missL_append, HBr.out.2, hms]
              rfl
            have HND : Hid _ := hnd
            clear hms hnd
            go_wp2
            go_ret
            refine ⟨HB2.out, ?_⟩
            rw [HN1.out]
            exact ⟨a, vs2, rfl, HND.out⟩
        · have hkz : ¬ (k : Int) < (m : Int) := by omega
          have HKE : Hid (missL hl (asksAll ts) = none) := by
            show _ = _
            have := HBr.out.2
            rwa [List.take_of_length_le (by have := HLN.out; omega)] at this
          go_wp2
          go_ret
          exact ⟨HBr.out.1, by rw [HKE.out]; rfl⟩
mutual
/-- Missing at every tree. -/
theorem ref_missing : ∀ t, Fit t → XCon t
  | .num _ _, _ => fun P w v hv hl hn hh h9 => by
    unfold IsNode at hn
    simpa [asks, asksAll] using ref_missing_parts (ts := []) (by decide) hn isNodes_nil (fun t ht => by cases ht) hh h9 (by simp)
  | .neg _ a, hf => fun P w v hv hl hn hh h9 => by
    unfold Fit at hf
    unfold IsNode at hn
    obtain ⟨va, hn, ha⟩ := hn
    have h1 := ref_missing a hf
    simpa [asks, asksAll] using ref_missing_parts (ts := [a]) (by decide) hn (isNodes_cons ha isNodes_nil) (fun t ht => by simp at ht; subst ht; exact h1) hh h9 (by simp)
  | .bin _ _ a b, hf => fun P w v hv hl hn hh h9 => by
    unfold Fit at hf
    unfold IsNode at hn
    obtain ⟨va, vb, hn, ha, hb⟩ := hn
    have h1 := ref_missing a hf.2.2.1
    have h2 := ref_missing b hf.2.2.2
    simpa [asks, asksAll] using ref_missing_parts (ts := [a, b]) (by have := hf.1; simp [isReck] at this; omega) hn (isNodes_cons ha (isNodes_cons hb isNodes_nil)) (fun t ht => by simp at ht; rcases ht with rfl | rfl; exact h1; exact h2) hh h9 (by simp)
  | .ite _ a b c, hf => fun P w v hv hl hn hh h9 => by
    unfold Fit at hf
    unfold IsNode at hn
    obtain ⟨va, vb, vc, hn, ha, hb, hc⟩ := hn
    have h1 := ref_missing a hf.1
    have h2 := ref_missing b hf.2.1
    have h3 := ref_missing c hf.2.2
    simpa [asks, asksAll] using ref_missing_parts (ts := [a, b, c]) (by decide) hn (isNodes_cons ha (isNodes_cons hb (isNodes_cons hc isNodes_nil))) (fun t ht => by simp at ht; rcases ht with rfl | rfl | rfl; exact h1; exact h2; exact h3) hh h9 (by simp)
  | .meas _ _ _ _, _ => fun P w v hv hl hn hh h9 => by
    unfold IsNode at hn
    simpa [asks, asksAll] using ref_missing_parts (ts := []) (by decide) hn isNodes_nil (fun t ht => by cases ht) hh h9 (by simp)
  | .probe p word ts, hf => fun P w v hv hl hn hh h9 => by
    unfold Fit at hf
    unfold IsNode at hn
    obtain ⟨vs, hn, hts⟩ := hn
    have h1 := ref_missing_all ts hf.2.2.2.2.2
    cases hin : inL hl word with
    | true =>
      have e : missL hl (asks (.probe p word ts)) = missL hl (asksAll ts) := by simp [missL, asks, hin]
      rw [e]
      exact ref_missing_probe hin hn hts h1 hh h9 (by rw [← isNodes_length hts]; omega)
    | false =>
      have e : missL hl (asks (.probe p word ts)) = some (p, word) := by simp [missL, asks, hin]
      rw [e]
      exact (ref_missing_none hin hn hh h9).mono fun e w' ⟨q1, a, q2, q3⟩ => ⟨q1, a, vs, q2, q3⟩
theorem ref_missing_all : ∀ ts, FitAll ts → ∀ t ∈ ts, XCon t
  | [], _ => fun t ht => by cases ht
  | t0 :: ts, hf => by
    unfold FitAll at hf
    have h1 := ref_missing t0 hf.1
    have h2 := ref_missing_all ts hf.2
    intro t ht
    rcases List.mem_cons.1 ht with h | h
    · rw [h]; exact h1
    · exact h2 t h
end
end Go.Proofs.YtihmgoahobbdkaaGreatDoor
