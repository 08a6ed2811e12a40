/-
  THE PROGRAM's product, sum, compare, choice, negative, inner, WALKED.
-/
import Derived.Test.YtaghcjpoihkpjaaGreatDoorJ7
import Derived.Lib.OthersKept
import Derived.WalkSmall
namespace Go.Proofs.YtaghcjpoihkpjaaGreatDoor
open Go.RowKit Go.Lib

section
variable {s : ByteArray} {R : Nat}
theorem sees1 {I : Nat} {a : UInt8} : seesB s I [a] = true ↔ kd (toks s) I = a.toNat := by
  simp [seesB]
  exact eq_comm
theorem sees2 {I : Nat} {a b : UInt8} : seesB s I [a, b] = true ↔ (kd (toks s) I = a.toNat ∨ kd (toks s) I = b.toNat) := by
  simp [seesB]
  constructor
  · rintro (h | h)
    · exact .inl h.symm
    · exact .inr h.symm
  · rintro (h | h)
    · exact .inl h.symm
    · exact .inr h.symm
theorem sees3 {I : Nat} {a b c : UInt8} : seesB s I [a, b, c] = true ↔ (kd (toks s) I = a.toNat ∨ kd (toks s) I = b.toNat ∨ kd (toks s) I = c.toNat) := by
  simp [seesB]
  constructor
  · rintro (h | h | h)
    · exact .inl h.symm
    · exact .inr (.inl h.symm)
    · exact .inr (.inr h.symm)
  · rintro (h | h | h)
    · exact .inl h.symm
    · exact .inr (.inl h.symm)
    · exact .inr (.inr h.symm)
theorem not_sees {I : Nat} {cs : List UInt8} (h : seesB s I cs = false) : ¬ seesB s I cs = true := by rw [h]; decide

/-- A result that is handed on as it came. -/
theorem CAfter.up {ms : List ByteArray} {lo lo' : Nat} {w' : World} {o : Out} {e : Ending} (h : CAfter s R ms lo w' o e) (hl : lo' ≤ lo) : CAfter s R ms lo' w' o e := by
  cases o with
  | ok ts J => obtain ⟨t, ty, pa, h1, h2, h3, h4⟩ := h; exact ⟨t, ty, pa, h1, h2, h3.up hl, h4⟩
  | bad J => exact h
theorem hand_on {ms : List ByteArray} {w' : World} {o : Out} {e : Ending} {lo : Nat} (h : CAfter s R ms lo w' o e) : ∃ a b, e = .returned (.tuple #[a, b]) := by
  cases o with
  | ok ts J => obtain ⟨t, ty, pa, -, rfl, -⟩ := h; exact ⟨_, _, rfl⟩
  | bad J => obtain ⟨b, rfl, -⟩ := h; exact ⟨_, _, rfl⟩

set_option maxRecDepth 1000000 in
theorem cproduct_of {N : Nat} (hp : CCon s R 174 .minus N) : CCon s R 154 .prod N := by
  intro w I ms hN h
  have hc := code_chain (v := .prod) (vT := .prodT) 174 (enters_of Tryz.func174 (by kernel_rfl) rfl) hp (cs := [42, 47]) (by decide) (fun _ _ h => .prBad h) (fun _ _ _ _ h k => .prGo h k)
    (fun a J h => .ptEnd (fun k => not_sees h (sees2.2 k))) (fun a J K h k => .ptBad (sees2.1 h) k) (fun a J b K o h k l => .ptGo (sees2.1 h) k l) rfl hN h
  clear h hp
  go_enter Tryz.func154, Tryz.ntmps154
  go_wp2_with fail
  refine hc.mono ?_
  rintro e w' ⟨o, hD, hb, ha⟩
  obtain ⟨a, b, rfl⟩ := hand_on ha
  have HA : Hid (CAfter s R ms w.heap.size w' o (.returned (.tuple #[a, b]))) := ha
  have HD : Hid (D s (toks s) .prod I o) := hD
  have HB : Hid (KC R w w') := hb
  clear ha hD hb hc
  go_wp2
  go_ret2
  exact ⟨o, HD.out, HB.out, HA.out⟩

set_option maxRecDepth 1000000 in
theorem csum_of {N : Nat} (hp : CCon s R 154 .prod N) : CCon s R 107 .sum N := by
  intro w I ms hN h
  have hc := code_chain (v := .sum) (vT := .sumT) 154 (enters_of Tryz.func154 (by kernel_rfl) rfl) hp (cs := [43, 45]) (by decide) (fun _ _ h => .suBad h) (fun _ _ _ _ h k => .suGo h k)
    (fun a J h => .stEnd (fun k => not_sees h (sees2.2 k))) (fun a J K h k => .stBad (sees2.1 h) k) (fun a J b K o h k l => .stGo (sees2.1 h) k l) rfl hN h
  clear h hp
  go_enter Tryz.func107, Tryz.ntmps107
  go_wp2_with fail
  refine hc.mono ?_
  rintro e w' ⟨o, hD, hb, ha⟩
  obtain ⟨a, b, rfl⟩ := hand_on ha
  have HA : Hid (CAfter s R ms w.heap.size w' o (.returned (.tuple #[a, b]))) := ha
  have HD : Hid (D s (toks s) .sum I o) := hD
  have HB : Hid (KC R w w') := hb
  clear ha hD hb hc
  go_wp2
  go_ret2
  exact ⟨o, HD.out, HB.out, HA.out⟩

set_option maxRecDepth 1000000 in
theorem ccompare_of {N : Nat} (hp : CCon s R 107 .sum N) : CCon s R 59 .compare N := by
  intro w I ms hN h
  have hpc := hp w I ms hN h
  have HP : Hid (CCon s R 107 .sum N) := hp
  clear h hp
  go_enter Tryz.func59, Tryz.ntmps59
  go_wp2_with fail
  refine hpc.mono ?_
  rintro e w1 ⟨o, hD, hb1, ha⟩
  clear hpc
  have HB1 : Hid (KC R w w1) := hb1
  have HD : Hid (D s (toks s) .sum I o) := hD
  clear hb1 hD
  cases o with
  | bad J =>
    obtain ⟨b, rfl, hbk⟩ := ha
    have HBK : Hid (w1.heap[b]? = some (.cells #[.int .i64 (pl (toks s) J)] 107 (0, 0))) := hbk
    clear hbk
    go_wp2
    go_ret2
    exact ⟨.bad J, .cmBad HD.out, HB1.out, b, rfl, HBK.out⟩
  | ok ts J =>
    obtain ⟨t, ty, pa, rfl, rfl, hn, hs⟩ := ha
    have HS : Hid (CStM s R w1 J (notes ms (mets t))) := hs
    have HN : Hid (CNode (Hi w.heap.size) w1 t (.iface ty (.pointer pa))) := hn
    clear hn
    have hse := code_sees hs [60, 62, 61] (by decide)
    have hIJ : I < J := read_lt HD.out rfl
    clear hs
    cases hb : seesB s J [60, 62, 61] with
    | false =>
      rw [hb] at hse
      have HB : Hid (seesB s J [60, 62, 61] = false) := hb
      clear hb
      go_wp2_with fail
      refine hse.mono ?_
      rintro e w' ⟨rfl, hw⟩
      have hw := hw.symm
      subst hw
      go_wp2
      go_ret2
      exact ⟨.ok [t] J, .cmOne HD.out (fun k => not_sees HB.out (sees3.2 k)), HB1.out, t, _, _, rfl, rfl, HN.out, HS.out⟩
    | true =>
      rw [hb] at hse
      have hpr := code_pair 107 (enters_of Tryz.func107 (by kernel_rfl) rfl) HP.out (I := J) (by omega) HS.out (by decide) hb ty pa t HB1.out.size HN.out
      have HB : Hid (seesB s J [60, 62, 61] = true) := hb
      clear hb
      go_wp2_with fail
      refine hse.mono ?_
      rintro e w' ⟨rfl, hw⟩
      have hw := hw.symm
      subst hw
      go_wp2_with fail
      refine hpr.mono ?_
      rintro e w2 ⟨o, hD, hb2, ha⟩
      have HB2 : Hid (KC R w w2) := HB1.out.trans hb2
      have HD2 : Hid (D s (toks s) .sum (J + 1) o) := hD
      clear hb2 hpr hse hD
      cases o with
      | ok ts K =>
        obtain ⟨t2, ty2, pa2, rfl, rfl, hn, hs⟩ := ha
        have HS2 : Hid (CStM s R w2 K (notes (notes ms (mets t)) (mets t2))) := hs
        have HN2 : Hid (CNode (Hi w.heap.size) w2 (.bin (kd (toks s) J) (pl (toks s) J) t t2) (.iface ty2 (.pointer pa2))) := hn
        clear hs hn
        go_wp2
        go_ret2
        exact ⟨.ok [_] K, .cmTwo HD.out (sees3.1 HB.out) HD2.out, HB2.out, _, _, _, rfl, rfl, HN2.out, by rw [mets_bin, notes_append]; exact HS2.out⟩
      | bad K =>
        obtain ⟨b, rfl, hbk⟩ := ha
        have HBK : Hid (w2.heap[b]? = some (.cells #[.int .i64 (pl (toks s) K)] 107 (0, 0))) := hbk
        clear hbk
        go_wp2
        go_ret2
        exact ⟨.bad K, .cmB1 HD.out (sees3.1 HB.out) HD2.out, HB2.out, b, rfl, HBK.out⟩

set_option maxRecDepth 1000000 in
set_option maxHeartbeats 1000000 in
theorem cchoice_of {N : Nat} (hp : CCon s R 59 .compare (N + 1)) (hc : CCon s R 45 .choice N) : CCon s R 45 .choice (N + 1) := by
  intro w I ms hN h
  have hpc := hp w I ms hN h
  have HC : Hid (CCon s R 45 .choice N) := hc
  clear h hp hc
  go_enter Tryz.func45, Tryz.ntmps45
  go_wp2_with fail
  refine hpc.mono ?_
  rintro e w1 ⟨o, hD, hb1, ha⟩
  clear hpc
  have HB1 : Hid (KC R w w1) := hb1
  have HD : Hid (D s (toks s) .compare I o) := hD
  clear hb1 hD
  cases o with
  | bad J =>
    obtain ⟨b, rfl, hbk⟩ := ha
    have HBK : Hid (w1.heap[b]? = some (.cells #[.int .i64 (pl (toks s) J)] 107 (0, 0))) := hbk
    clear hbk
    go_wp2
    go_ret2
    exact ⟨.bad J, .chBad HD.out, HB1.out, b, rfl, HBK.out⟩
  | ok ts J =>
    obtain ⟨t, ty, pa, rfl, rfl, hn, hs⟩ := ha
    have HS : Hid (CStM s R w1 J (notes ms (mets t))) := hs
    have HN : Hid (CNode (Hi w.heap.size) w1 t (.iface ty (.pointer pa))) := hn
    clear hn
    have hse := code_sees hs [63] (by decide)
    have hIJ : I < J := read_lt HD.out rfl
    clear hs
    cases hb : seesB s J [63] with
    | false =>
      rw [hb] at hse
      have HB : Hid (seesB s J [63] = false) := hb
      clear hb
      go_wp2_with fail
      refine hse.mono ?_
      rintro e w' ⟨rfl, hw⟩
      have hw := hw.symm
      subst hw
      go_wp2
      go_ret2
      exact ⟨.ok [t] J, .chOne HD.out (fun k => not_sees HB.out (sees1.2 k)), HB1.out, t, _, _, rfl, rfl, HN.out, HS.out⟩
    | true =>
      rw [hb] at hse
      have hst := code_step HS.out (sign_last2 (by decide) hb)
      have HB : Hid (seesB s J [63] = true) := hb
      clear hb
      go_wp2_with fail
      refine hse.mono ?_
      rintro e w' ⟨rfl, hw⟩
      have hw := hw.symm
      subst hw
      go_wp2_with fail
      refine hst.mono ?_
      rintro e w2 ⟨rfl, hs2, hb2⟩
      have HB2 : Hid (KC R w w2) := HB1.out.trans hb2
      have HN2 : Hid (CNode (Hi w.heap.size) w2 t (.iface ty (.pointer pa))) := HN.out.moves (HS.out.nmoves hb2)
      have HS2 : Hid (CStM s R w2 (J + 1) (notes ms (mets t))) := hs2
      have hcc := HC.out w2 (J + 1) _ (by omega) hs2
      clear hb2 hs2 hst hse
      go_wp2_with fail
      refine hcc.mono ?_
      rintro e w3 ⟨o, hD, hb3, ha⟩
      have HB3 : Hid (KC R w w3) := HB2.out.trans hb3
      have HN3 : Hid (CNode (Hi w.heap.size) w3 t (.iface ty (.pointer pa))) := HN2.out.moves (HS2.out.nmoves hb3)
      have HD3 : Hid (D s (toks s) .choice (J + 1) o) := hD
      clear hb3 hcc hD
      cases o with
      | bad K =>
        obtain ⟨b, rfl, hbk⟩ := ha
        have HBK : Hid (w3.heap[b]? = some (.cells #[.int .i64 (pl (toks s) K)] 107 (0, 0))) := hbk
        clear hbk
        go_wp2
        go_ret2
        exact ⟨.bad K, .chB1 HD.out (sees1.1 HB.out) HD3.out, HB3.out, b, rfl, HBK.out⟩
      | ok ts K =>
        obtain ⟨t2, ty2, pa2, rfl, rfl, hn, hs⟩ := ha
        have HS3 : Hid (CStM s R w3 K (notes (notes ms (mets t)) (mets t2))) := hs
        have HM3 : Hid (CNode (Hi w.heap.size) w3 t2 (.iface ty2 (.pointer pa2))) := hn.up HB2.out.size
        have hts := code_takeSign hs [58] (by decide)
        have hJK : J + 1 < K := read_lt HD3.out rfl
        clear hs hn
        go_wp2_with fail
        refine hts.mono ?_
        rintro e w4 ⟨hb4, ht⟩
        have HB4 : Hid (KC R w w4) := HB3.out.trans hb4
        have MV4 : Hid (NMoves (Hi w.heap.size) (Hi w.heap.size) w3 w4) := HS3.out.nmoves hb4
        clear hb4 hts
        rcases ht with ⟨k1, rfl, hs4⟩ | ⟨k1, b, rfl, hbk⟩
        · have hcc := HC.out w4 (K + 1) _ (by omega) hs4
          have HS4 : Hid (CStM s R w4 (K + 1) (notes (notes ms (mets t)) (mets t2))) := hs4
          have lR4 : R < w4.heap.size := by obtain ⟨a, b, c, -⟩ := hs4.blk; exact heap_lt c
          have HK1 : Hid (seesB s K [58] = true) := k1
          clear hs4 k1
          go_wp2_with fail
          refine hcc.mono ?_
          rintro e w5 ⟨o, hD, hb5, ha⟩
          have HB5 : Hid (KC R w w5) := HB4.out.trans hb5
          have MV5 : Hid (NMoves (Hi w.heap.size) (Hi w.heap.size) w3 w5) := MV4.out.trans (HS4.out.nmoves hb5)
          have HD5 : Hid (D s (toks s) .choice (K + 1) o) := hD
          have hs5 := hb5.size
          clear hb5 hcc hD
          cases o with
          | bad M =>
            obtain ⟨b, rfl, hbk⟩ := ha
            have HBK : Hid (w5.heap[b]? = some (.cells #[.int .i64 (pl (toks s) M)] 107 (0, 0))) := hbk
            clear hbk
            go_wp2
            go_ret2
            exact ⟨.bad M, .chB3 HD.out (sees1.1 HB.out) HD3.out (sees1.1 HK1.out) HD5.out, HB5.out, b, rfl, HBK.out⟩
          | ok ts M =>
            obtain ⟨t3, ty3, pa3, rfl, rfl, hn, hs⟩ := ha
            have HS5 : Hid (CStM s R w5 M (notes (notes (notes ms (mets t)) (mets t2)) (mets t3))) := hs
            have HN5 : Hid (CNode (Hi w.heap.size) w5 t3 (.iface ty3 (.pointer pa3))) := hn.up HB4.out.size
            clear hs hn
            go_wp2
            go_ret2
            have bl := (Below.refl w5.heap.size w5).alloc (Nat.le_refl _)
            refine ⟨.ok [_] M, .chIf HD.out (sees1.1 HB.out) HD3.out (sees1.1 HK1.out) HD5.out, HB5.out.alloc (by omega) _, _, _, _, rfl, rfl, ?_, by rw [mets_ite, notes_append, notes_append]; exact HS5.out.later (bl _)⟩
            unfold CNode
            exact ⟨_, _, _, _, rfl, HB5.out.size, heap_alloc_new _ _, (HN3.out.moves MV5.out).below (bl _), (HM3.out.moves MV5.out).below (bl _), HN5.out.below (bl _)⟩
        · have HBK : Hid (w4.heap[b]? = some (.cells #[.int .i64 (pl (toks s) K)] 107 (0, 0))) := hbk
          have HK1 : Hid (seesB s K [58] = false) := k1
          clear hbk k1
          go_wp2
          go_ret2
          exact ⟨.bad K, .chB2 HD.out (sees1.1 HB.out) HD3.out (fun k => not_sees HK1.out (sees1.2 k)), HB4.out, b, rfl, HBK.out⟩
end
end Go.Proofs.YtaghcjpoihkpjaaGreatDoor
namespace Go.Proofs.YtaghcjpoihkpjaaGreatDoor
open Go.RowKit Go.Lib

section
variable {s : ByteArray} {R : Nat}

theorem ck3 {I : Nat} : codeKind ((toks s).getD I default) = 3 ↔ kd (toks s) I = 97 := by
  unfold codeKind kd
  split
  · constructor
    · intro h; cases h
    · intro h; omega
  split
  · constructor
    · intro h; cases h
    · intro h; omega
  split
  · rename_i h
    exact ⟨fun _ => h, fun _ => rfl⟩
  split
  · constructor
    · intro h; cases h
    · intro h; omega
  · constructor
    · intro h; cases h
    · intro h; omega
theorem ck2 {I : Nat} : codeKind ((toks s).getD I default) = 2 ↔ kd (toks s) I = 110 := by
  unfold codeKind kd
  split
  · constructor
    · intro h; cases h
    · intro h; omega
  split
  · rename_i h
    exact ⟨fun _ => h, fun _ => rfl⟩
  split
  · constructor
    · intro h; cases h
    · intro h; omega
  split
  · constructor
    · intro h; cases h
    · intro h; omega
  · constructor
    · intro h; cases h
    · intro h; omega
set_option maxRecDepth 1000000 in
set_option maxHeartbeats 1000000 in
theorem code_takeNumber {w : World} {I : Nat} {ms : List ByteArray} (h : CStM s R w I ms) :
    Calls Tryz.prog 189 #[.pointer (some ⟨R, 0, none⟩)] w fun e w' => KC R w w' ∧
      ((codeKind ((toks s).getD I default) = 2 ∧ e = .returned (.tuple #[.int .i64 (numOf (tx s (toks s) I).data.toList), .nilIface]) ∧ CStM s R w' (I + 1) ms) ∨ (codeKind ((toks s).getD I default) ≠ 2 ∧ ∃ (n : Int) (b : Nat), e = .returned (.tuple #[.int .i64 n, .iface 103 (.pointer (some ⟨b, 0, none⟩))]) ∧ w'.heap[b]? = some (.cells #[.int .i64 (pl (toks s) I)] 107 (0, 0)))) := by
  have htk := code_take h 2 (.inl rfl)
  have LR : Hid (R < w.heap.size) := by obtain ⟨a, b, c, -⟩ := h.blk; exact heap_lt c
  have HG : Hid (codeKind ((toks s).getD I default) = 2 → Digits (tx s (toks s) I)) := fun hk => toks_good s I h.lt (ck2.1 hk)
  clear h
  go_enter Tryz.func189, Tryz.ntmps189
  go_wp2_with fail
  refine htk.mono ?_
  rintro e w1 ⟨hk1, ha⟩
  clear htk
  obtain ⟨tx, er, rfl, hdg⟩ : ∃ tx er, e = .returned (.tuple #[.string tx, er]) ∧ Digits tx := by
    rcases ha with ⟨k1, rfl, -⟩ | ⟨-, b, rfl, -⟩
    · exact ⟨_, _, rfl, HG.out k1⟩
    · exact ⟨_, _, rfl, digits_none⟩
  have HDG : Hid (Digits tx) := hdg
  have HA : Hid _ := ha
  have HK : Hid (KC R w w1) := hk1
  have LR1 : Hid (R < w1.heap.size) := Nat.lt_of_lt_of_le LR.out hk1.size
  clear ha hk1 LR HG hdg
  go_wp2_with fail
  go_loopw [6] (fun v wr => ∃ (n : Int) (pos : Nat), v = .int .i64 n ∧ n = numOf (tx.data.toList.take pos) ∧ pos ≤ tx.size ∧ wr.heap[w1.heap.size]? = some (.stringIter tx pos) ∧ Hid (Below w1.heap.size w1 wr)) (fun _ wr => tx.size - wr.iterPos w1.heap.size)
  case atStart => exact ⟨0, 0, rfl, rfl, Nat.zero_le _, World.iter_heap w1 tx 0, (Below.refl _ _).alloc (Nat.le_refl _) _⟩
  case round =>
    obtain ⟨n, pos, rfl, hnn, hpz, hit, HB⟩ := hrel
    have hpos0 := iterPos_of hit
    by_cases hp : pos < tx.size
    · have hnx : ∀ ty, (Instr.next (.pointer (some ⟨w1.heap.size, 0, none⟩)) true ty).run Tryz.prog wr = _ := fun ty => Lib.run_next_any_at wr w1.heap.size tx pos ty hit hp
      have h6 := HDG.out.1 _ (List.mem_of_getElem? (byte_at (b := tx) (k := pos) hp))
      have ha : tx[pos].toNat < 128 := by simp [isDig] at h6; omega
      have hdec := decode_ascii tx pos hp ha
      have hNN : Hid (n = numOf (tx.data.toList.take pos)) := hnn
      have hDD : Hid (48 ≤ tx[pos].toNat ∧ tx[pos].toNat ≤ 57) := by simp [isDig] at h6; exact h6
      have hTT : Hid (∀ x ∈ tx.data.toList, isDig x = true) := HDG.out.1
      have h9 : Hid (tx.size ≤ 9) := HDG.out.2
      have hlt2 := numOf_lt hTT.out pos hpz
      have hlt3 := numOf_lt hTT.out (pos + 1) hp
      have hp9 := pow9 (k := pos) (by have := h9.out; omega)
      have hp10 := pow9 (k := pos + 1) (by have := h9.out; omega)
      have HN3 : Hid _ := And.intro hlt2 (And.intro hlt3 (And.intro hp9 hp10))
      have HNT : Hid _ := numOf_take hp
      rw [hdec] at hnx
      clear h6 hnn hlt2 hlt3 hp9 hp10
      have hit2 := Lib.iterAt_heap wr w1.heap.size tx pos (pos + 1) hit
      have hb2 := Lib.below_iterAt HB.out (k := w1.heap.size) (Nat.le_refl _) tx (pos + 1)
      obtain ⟨W1, hW1⟩ : ∃ W1, W1 = wr.iterAt w1.heap.size tx (pos + 1) := ⟨_, rfl⟩
      rw [← hW1] at hnx hit2 hb2
      have HI2 : Hid (W1.heap[w1.heap.size]? = some (.stringIter tx (pos + 1))) := hit2
      have HB2 : Hid (Below w1.heap.size w1 W1) := hb2
      clear hW1 hit hit2 hb2 hdec ha
      go_wp2
      go_roundw
      case rel =>
        refine ⟨_, _, rfl, ?_, hp, HI2.out, HB2⟩
        have q1 := HN3.out
        have q2 := hDD.out
        rw [HNT.out]
        have q4 := hNN.out
        rw [← q4] at q1 ⊢
        rw [IntWalk.wrap32_in _ (by omega), wrap_in (n := (tx[pos].toNat : Int) - 48) (by omega), wrap_in (n := n * 10) (by omega), wrap_in (by omega)]
        omega
      case measure =>
        rw [iterPos_of HI2.out, hpos0]
        omega
    · have hnx : ∀ ty, (Instr.next (.pointer (some ⟨w1.heap.size, 0, none⟩)) true ty).run Tryz.prog wr = _ := fun ty => Lib.run_next_end_at wr w1.heap.size tx pos ty hit hp
      have hfin : n = numOf tx.data.toList := by rw [hnn, List.take_of_length_le (by simp; omega)]
      clear hnn
      go_wp2
      go_ret2
      rcases HA.out with ⟨k1, he, hs⟩ | ⟨k1, b, he, hbk⟩
      · injection he with he
        injection he with he
        have h3 := congrArg Array.toList he
        injection h3 with h3 h4
        injection h3 with h3
        injection h4 with e2
        subst e2
        rw [hfin, h3]
        have lR : R < w1.heap.size := by obtain ⟨a, b, c, -⟩ := hs.blk; exact heap_lt c
        exact ⟨HK.out.trans (KC.of_below HB.out lR), .inl ⟨k1, rfl, hs.later HB.out⟩⟩
      · injection he with he
        injection he with he
        have e2 : er = .iface 103 (.pointer (some ⟨b, 0, none⟩)) := by
          have h3 := congrArg Array.toList he
          injection h3 with _ h4
          injection h4
        subst e2
        exact ⟨HK.out.trans (KC.of_below HB.out LR1.out), .inr ⟨k1, _, b, rfl, (HB.out.block b (heap_lt hbk)).trans hbk⟩⟩
end
end Go.Proofs.YtaghcjpoihkpjaaGreatDoor
