/-
  THE PROGRAM's probe, WALKED.
-/
import Derived.Test.YtaghcjpoihkpjaaGreatDoorJM9
import Derived.Lib.OwnKind
import Derived.Deep.RegionHeld3
namespace Go.Proofs.YtaghcjpoihkpjaaGreatDoor
open Go.RowKit Go.Lib

section
variable {s : ByteArray} {R : Nat}

theorem CStM.lR {w : World} {I : Nat} {ms : List ByteArray} (h : CStM s R w I ms) : R < w.heap.size := by obtain ⟨a, b, c, -⟩ := h.blk; exact heap_lt c
/-- The list of metrics lies in no row of another type. -/
theorem CStM.row_ne {w : World} {I : Nat} {ms : List ByteArray} (h : CStM s R w I ms) {base e n : Nat} {v : Value} {xs : List Value} (ho : w.ownsRow base e 1 v n xs) (he : e ≠ 9) : ∀ g, v.ownBlock = some g → mrow w R ≠ some g := by
  intro g hg hm
  obtain ⟨txt, mv, h1, h2, h3⟩ := h.blk
  rw [mrow_of h1] at hm
  obtain ⟨c, fz, q1⟩ := ownsRow_kind ho g hg
  obtain ⟨c2, fz2, q2⟩ := ownsRow_kind h3 g hm
  rw [q1] at q2
  injection q2 with q2
  injection q2 with _ q3
  exact he q3
theorem CStM.grown {w w' : World} {I : Nat} {ms : List ByteArray} {row : Option Nat} (h : CStM s R w I ms) (hg : w.grownBy w' row) (hr : ∀ g, row = some g → R < g ∧ mrow w R ≠ some g) : CStM s R w' I ms := by
  have lR := h.lR
  obtain ⟨txt, mv, h1, h2, h3⟩ := h.blk
  have hne : some R ≠ row := fun e => by have := (hr _ e.symm).1; omega
  refine ⟨⟨txt, mv, (hg.block R lR hne).trans h1, h2, ?_⟩, h.len, ?_, h.lt, h.small⟩
  · refine owns_of_block h3 fun g hgm => hg.block g (h3.lt _ hgm).2 fun e => ?_
    exact (hr g e.symm).2 ((mrow_of h1).trans hgm)
  · exact h.tab_of ⟨hg.os, hg.tape, hg.output, hg.size, fun k hk => hg.block k (by omega) fun e => by have := (hr k e.symm).1; omega⟩
theorem KC.grown {w0 w w' : World} {row : Option Nat} (h : KC R w0 w) (hg : w.grownBy w' row) (lR : R < w0.heap.size) (hr : ∀ g, row = some g → w0.heap.size ≤ g) : KC R w0 w' := by
  have hb : ∀ k, k < w0.heap.size → w'.heap[k]? = w.heap[k]? := fun k hk => hg.block k (Nat.lt_of_lt_of_le hk h.size) fun e => by have := hr k e.symm; omega
  have hm : mrow w' R = mrow w R := by unfold mrow; rw [hb R lR]
  exact ⟨hg.os.trans h.os, hg.tape.trans h.tape, hg.output.trans h.output, Nat.le_trans h.size hg.size, fun k hk hne hrow => (hb k hk).trans (h.block k hk hne hrow), by rw [hm]; exact h.row⟩
theorem Tryz.infoNode : (Tryz.prog.info? 134).map (fun i => (i.zero, i.size, i.bytes)) = some (some .nilIface, 1, 16) := by kernel_rfl

/-- The blocks from a number on, but for a row's. -/
abbrev Off (lo : Nat) (v : Value) : Nat → Prop := fun b => lo ≤ b ∧ v.ownBlock ≠ some b
theorem notes_snoc (ms : List ByteArray) (acc : List Tree) (t : Tree) : notes ms (metsAll (acc ++ [t])) = notes (notes ms (metsAll acc)) (mets t) := by
  rw [metsAll_append, notes_append]
  simp [metsAll]
/-- What holds of the arguments read so far: those in hand, and where the reader stands. -/
structure ArgsC (s : ByteArray) (R : Nat) (I : Nat) (ms : List ByteArray) (w wr : World) (v : Value) (vs : List Value) (acc : List Tree) (J : Nat) : Prop where
  st : CStM s R wr J (notes ms (metsAll acc))
  nodes : CNodes (Off w.heap.size v) wr acc vs
  kc : KC R w wr
  own : wr.ownsRow w.heap.size 134 1 v vs.length vs
  cnt : vs.length ≤ J
  ge : I + 2 ≤ J
  rest : ∀ o, D s (toks s) (.args acc) J o → D s (toks s) (.args []) (I + 2) o
  at_ : AtIs (pl (toks s) I) w.heap.size wr
theorem ArgsC.pushed {I J K : Nat} {ms ms2 : List ByteArray} {w wr w2 w5 : World} {v v' x : Value} {vs : List Value} {acc : List Tree} {t : Tree} (h : ArgsC s R I ms w wr v vs acc J) (lR : R < w.heap.size) (h2 : CStM s R w2 K ms2) (hn : CNode (Hi wr.heap.size) w2 t x) (k2 : KC R wr w2) (hJK : J < K) {o : Obj}
    (hown : w5.ownsRow w.heap.size 134 1 v' (vs.length + 1) (vs ++ [x])) (hg : (w2.alloc o).grownBy w5 v.ownBlock) (hw : v'.ownBlock = v.ownBlock ∨ v'.ownBlock = some (w2.alloc o).heap.size) :
    CStM s R w5 K ms2 ∧ KC R w w5 ∧ w5.ownsRow w.heap.size 134 1 v' (vs ++ [x]).length (vs ++ [x]) ∧ (vs ++ [x]).length ≤ K ∧ CNodes (Off w.heap.size v') w5 (acc ++ [t]) (vs ++ [x]) ∧ AtIs (pl (toks s) I) w.heap.size w5 := by
  have hne := h.st.row_ne h.own (by decide)
  have ho2 : w2.ownsRow w.heap.size 134 1 v vs.length vs := owns_of_block h.own fun g hgv => k2.block g (h.own.lt _ hgv).2 (by have := (h.own.lt _ hgv).1; omega) (hne g hgv)
  have hne2 := h2.row_ne ho2 (by decide)
  have s1 : CStM s R (w2.alloc o) K ms2 := h2.later ((Below.refl _ _).alloc (Nat.le_refl _) o)
  have kk : KC R w (w2.alloc o) := (h.kc.trans k2).alloc h2.lR o
  have hm1 : mrow (w2.alloc o) R = mrow w2 R := by unfold mrow; rw [Below.heap_alloc _ _ _ h2.lR]
  refine ⟨s1.grown hg fun g hgv => ⟨by have := (ho2.lt _ hgv).1; omega, by rw [hm1]; exact hne2 g hgv⟩, kk.grown hg lR fun g hgv => (ho2.lt _ hgv).1, ?_, ?_⟩
  · simpa using hown
  refine ⟨by have := h.cnt; simp; omega, ?_⟩
  have mv : NMoves (Off w.heap.size v) (Off w.heap.size v') w2 w5 := by
    intro b hP cs T hb hT
    have hlt := heap_lt hb
    have hlt1 : b < (w2.alloc o).heap.size := by simp; omega
    refine ⟨⟨hP.1, fun e => ?_⟩, (hg.block b hlt1 fun e => hP.2 e.symm).trans (Below.heap_alloc _ _ _ hlt)⟩
    rcases hw with hw | hw
    · rw [hw] at e; exact hP.2 e
    · rw [hw] at e; injection e with e; omega
  have ha2 := h.st.at_kept k2 h.at_
  have ha3 : AtIs (pl (toks s) I) w.heap.size w5 := (hg.block _ (by simp; have := heap_lt ha2; omega) fun e => by
    obtain ⟨cc, fz, q⟩ := ownsRow_kind ho2 _ e.symm
    rw [ha2] at q
    injection q with q
    injection q with _ q
    revert q
    decide).trans (heap_alloc_old ha2)
  refine ⟨?_, ha3⟩
  exact ((h.nodes.moves (h.st.nmoves k2)).moves mv).snoc ((hn.moves (.weak fun b hb => ⟨Nat.le_trans h.kc.size hb, fun e => by have := (h.own.lt _ e).2; have hb : wr.heap.size ≤ b := hb; omega⟩)).moves mv)

set_option maxRecDepth 1000000 in
set_option maxHeartbeats 2000000 in
theorem code_probe {N : Nat} (hp : CCon s R 45 .choice N) {w : World} {I : Nat} {ms : List ByteArray} (hN : (toks s).length - (I + 2) ≤ N) (h : CStM s R w (I + 2) ms) (k0 : kd (toks s) I = 97) (k1 : kd (toks s) (I + 1) = 40) (km : isMeasure (tx s (toks s) I) = false) :
    Calls Tryz.prog 200 #[.pointer (some ⟨R, 0, none⟩), .agg #[.int .i64 (pl (toks s) I)], .string (tx s (toks s) I)] w fun e w' => ∃ o, D s (toks s) .minus I o ∧ KC R w w' ∧ CAfter s R ms w.heap.size w' o e := by
  obtain ⟨i0, hi, hz0, hz1, hz2⟩ := info_parts Tryz.infoNode
  have hb0 : Below w.heap.size w (w.alloc (.cells #[.int .i64 (pl (toks s) I)] 105)) := (Below.refl _ _).alloc (Nat.le_refl _) _
  have h0 := h.later hb0
  have hse := code_sees h0 [41] (by decide)
  have lR := h.lR
  have hsm := h.small
  have htl := toks_length s
  have HP : Hid (CCon s R 45 .choice N) := hp
  have HB0 : Hid (KC R w (w.alloc (.cells #[.int .i64 (pl (toks s) I)] 105))) := KC.of_below hb0 h.lR
  have AK0 : Hid (∀ w', KC R (w.alloc (.cells #[.int .i64 (pl (toks s) I)] 105)) w' → AtIs (pl (toks s) I) w.heap.size w') := fun w' hk => h0.at_kept hk (heap_alloc_new _ _)
  have H : Hid (CStM s R (w.alloc (.cells #[.int .i64 (pl (toks s) I)] 105)) (I + 2) ms) := h0
  clear hp h h0 hb0
  cases hb : seesB s (I + 2) [41] with
  | true =>
    rw [hb] at hse
    have hst := code_step H.out (sign_last2 (by decide) hb)
    have k2 : kd (toks s) (I + 2) = 41 := sees1.1 hb
    clear hb
    go_enter Tryz.func200, Tryz.ntmps200
    go_wp2_with fail
    refine hse.mono ?_
    rintro e w' ⟨rfl, hw⟩
    have hw := hw.symm
    subst hw
    go_wp2_with fail
    refine hst.mono ?_
    rintro e w1 ⟨rfl, hs1, hb1⟩
    have HS : Hid (CStM s R w1 (I + 2 + 1) ms) := hs1
    have cA : w1.cell? ⟨w.heap.size, 0, none⟩ = some (.int .i64 (pl (toks s) I)) := cell_of_heap (AK0.out _ hb1) rfl
    have HB : Hid (KC R w w1) := HB0.out.trans hb1
    have lR1 := hs1.lR
    clear hs1 hb1 hst hse
    go_wp2
    go_ret2
    have bl := (Below.refl w1.heap.size w1).alloc (Nat.le_refl _)
    refine ⟨.ok [_] (I + 3), .pbNone k0 k1 km k2, HB.out.alloc lR1 _, _, _, _, rfl, rfl, ?_, by rw [mets_probe]; exact HS.out.later (bl _)⟩
    unfold CNode
    exact ⟨_, _, [], rfl, HB.out.size, heap_alloc_new _ _, ⟨World.ownsRow_nil _ _ _ _, fun g hg => by cases hg⟩, by unfold CNodes; rfl⟩
  | false =>
    rw [hb] at hse
    have k2 : kd (toks s) (I + 2) ≠ 41 := fun e => not_sees hb (sees1.2 e)
    clear hb
    have HI : Hid (ArgsC s R I ms w (w.alloc (.cells #[.int .i64 (pl (toks s) I)] 105)) (.slice none 0 0) [] [] (I + 2)) := ⟨H.out, by unfold CNodes; rfl, HB0.out, World.ownsRow_nil _ _ _ _, by simp, Nat.le_refl _, fun o ho => ho, heap_alloc_new _ _⟩
    clear H
    go_enter Tryz.func200, Tryz.ntmps200
    go_wp2_with fail
    refine hse.mono ?_
    rintro e w' ⟨rfl, hw⟩
    have hw := hw.symm
    subst hw
    clear hse
    go_wp2_with fail
    go_loopw [8] (fun v wr => ∃ (ao : Option Addr) (ln cp : Nat) (vs : List Value) (acc : List Tree) (J : Nat), v = .slice ao ln cp ∧ Hid (ArgsC s R I ms w wr (.slice ao ln cp) vs acc J)) (fun _ wr => cLeft wr R 300)
    case atStart => exact ⟨none, 0, 0, [], [], I + 2, rfl, HI⟩
    case round =>
      obtain ⟨ao, ln, cp, vs, acc, J, rfl, HR⟩ := hrel
      clear HI
      have hge := HR.out.ge
      have hJl := HR.out.st.lt
      have hcn := HR.out.cnt
      have hch := HP.out wr J _ (by omega) HR.out.st
      go_wp2_with fail
      refine hch.mono ?_
      rintro e w2 ⟨o, hD, hb2, ha⟩
      have HD : Hid (D s (toks s) .choice J o) := hD
      have HB2 : Hid (KC R wr w2) := hb2
      clear hD hb2 hch
      cases o with
      | bad K =>
        obtain ⟨b1, rfl, hbk⟩ := ha
        have HBK : Hid (BadAt s w2 b1 K) := hbk
        clear hbk
        go_wp2
        go_ret2
        exact ⟨.bad K, .pbBad k0 k1 km k2 (HR.out.rest _ (.arBad HD.out)), HR.out.kc.trans HB2.out, b1, rfl, HBK.out⟩
      | ok ts K =>
        obtain ⟨t, ty, pa, rfl, rfl, hn2, hs2⟩ := ha
        have HS2 : Hid (CStM s R w2 K (notes (notes ms (metsAll acc)) (mets t))) := hs2
        have HN2 : Hid (CNode (Hi wr.heap.size) w2 t (.iface ty (.pointer pa))) := hn2
        have hJK : J < K := read_lt HD.out rfl
        have own2 : w2.ownsRow w.heap.size 134 1 (.slice ao ln cp) vs.length vs := owns_of_block HR.out.own fun g hgv => HB2.out.block g (HR.out.own.lt _ hgv).2 (by have := (HR.out.own.lt _ hgv).1; omega) (HR.out.st.row_ne HR.out.own (by decide) g hgv)
        have OWN2 : Hid (w2.ownsRow w.heap.size 134 1 (.slice ao ln cp) vs.length vs) := own2
        have hz2s : w.heap.size ≤ w2.heap.size := Nat.le_trans HR.out.kc.size HB2.out.size
        clear hs2 own2 hn2
        go_wp2_with (first | (at_builtin; refine wpList_append_at _ rfl _ _ 201 rfl w.heap.size 134 i0 .nilIface 1 16 Tryz.underlying201 hi hz0 hz1 hz2 rfl (by decide) (.slice ao ln cp) vs.length vs rfl (OWN2.out.alloc _) ⟨w2.heap.size, 0, none⟩ 1 1 [.iface ty (.pointer pa)] rfl rfl (cell_one_new _ _ _) (fun x hx => by simp at hx; subst hx; rfl) (by unfold maxLen; omega) (by omega) (by simp; omega) (by decide) ?_; intro v' w5 hown hgrow hnil
                              have q := HR.out.pushed lR HS2.out HN2.out HB2.out hJK hown hgrow hnil
                              obtain ⟨ao2, ln2, cp2, rfl⟩ := owns_slice hown
                              have Q : Hid (_ ∧ _) := q
                              clear hgrow hown hnil q
                              have hse := code_sees Q.out.1 [44] (by decide)
                              have hst : seesB s K [44] = true → _ := fun e => code_step Q.out.1 (sign_last2 (by decide) e)
                              have hts := code_takeSign Q.out.1 [41] (by decide))
                           | fail)
        cases hb : seesB s K [44] with
        | true =>
          rw [hb] at hse
          have hst := hst hb
          have k3 : kd (toks s) K = 44 := sees1.1 hb
          clear hts hb
          refine hse.mono ?_
          rintro e w' ⟨rfl, hw⟩
          have hw := hw.symm
          subst hw
          clear hse
          go_wp2_with fail
          refine hst.mono ?_
          rintro e w6 ⟨rfl, hs6, hb6⟩
          have HS6 : Hid (CStM s R w6 (K + 1) (notes (notes ms (metsAll acc)) (mets t))) := hs6
          have HB6 : Hid (KC R w5 w6) := hb6
          clear hst hs6 hb6
          go_wp2
          go_roundw
          case rel =>
            refine ⟨ao2, ln2, cp2, _, acc ++ [t], K + 1, rfl, ⟨by rw [notes_snoc]; exact HS6.out, Q.out.2.2.2.2.1.moves (Q.out.1.nmoves HB6.out), Q.out.2.1.trans HB6.out, ?_, Nat.le_succ_of_le Q.out.2.2.2.1, by omega, fun o ho => HR.out.rest _ (.arGo HD.out k3 ho), Q.out.1.at_kept HB6.out Q.out.2.2.2.2.2⟩⟩
            have ho5 := Q.out.2.2.1
            exact owns_of_block ho5 fun g hgv => HB6.out.block g (ho5.lt _ hgv).2 (by have := (ho5.lt _ hgv).1; omega) (Q.out.1.row_ne ho5 (by decide) g hgv)
          case measure =>
            have l6 := HS6.out.lt
            have := pl_lt s (show J < K + 1 by omega) l6
            have := pl_le s l6
            rw [cLeft_at HS6.out, cLeft_at HR.out.st]
            omega
        | false =>
          rw [hb] at hse
          have k3 : kd (toks s) K ≠ 44 := fun e => not_sees hb (sees1.2 e)
          clear hst hb
          refine hse.mono ?_
          rintro e w' ⟨rfl, hw⟩
          have hw := hw.symm
          subst hw
          clear hse
          go_wp2_with fail
          refine hts.mono ?_
          rintro e w6 ⟨hb6, ha⟩
          have HB6 : Hid (KC R w w6) := Q.out.2.1.trans hb6
          have HN6 : Hid (CNodes (Off w.heap.size (.slice ao2 ln2 cp2)) w6 (acc ++ [t]) (vs ++ [Value.iface ty (.pointer pa)])) := Q.out.2.2.2.2.1.moves (Q.out.1.nmoves hb6)
          have cA : w6.cell? ⟨w.heap.size, 0, none⟩ = some (.int .i64 (pl (toks s) I)) := cell_of_heap (Q.out.1.at_kept hb6 Q.out.2.2.2.2.2) rfl
          have HO6 : Hid (w6.ownsRow w.heap.size 134 1 (.slice ao2 ln2 cp2) (vs ++ [Value.iface ty (.pointer pa)]).length (vs ++ [Value.iface ty (.pointer pa)])) := owns_of_block Q.out.2.2.1 fun g hgv => hb6.block g (Q.out.2.2.1.lt _ hgv).2 (by have := (Q.out.2.2.1.lt _ hgv).1; omega) (Q.out.1.row_ne Q.out.2.2.1 (by decide) g hgv)
          clear hts hb6
          rcases ha with ⟨k4, rfl, hs⟩ | ⟨k4, b1, rfl, hbk⟩
          · have HS : Hid (CStM s R w6 (K + 1) (notes (notes ms (metsAll acc)) (mets t))) := hs
            have k4 : kd (toks s) K = 41 := sees1.1 k4
            have lR6 := hs.lR
            clear hs
            go_wp2
            go_ret2
            have bl := (Below.refl w6.heap.size w6).alloc (Nat.le_refl _)
            refine ⟨.ok [_] (K + 1), .pbGo k0 k1 km k2 (HR.out.rest _ (.arEnd HD.out k3)) k4, HB6.out.alloc lR6 _, _, _, _, rfl, rfl, ?_, by rw [mets_probe, notes_snoc]; exact HS.out.later (bl _)⟩
            unfold CNode
            refine ⟨_, _, vs ++ [.iface ty (.pointer pa)], rfl, HB6.out.size, heap_alloc_new _ _, ⟨owns_lower (HO6.out.alloc _) (Nat.zero_le _), fun g hg => (HO6.out.lt _ hg).1⟩, (HN6.out.moves (.of_below (bl _))).moves (.weak fun b hb => hb.1)⟩
          · have HBK : Hid (BadAt s w6 b1 K) := hbk
            have k4 : kd (toks s) K ≠ 41 := fun e => not_sees k4 (sees1.2 e)
            clear hbk
            go_wp2
            go_ret2
            exact ⟨.bad K, .pbB1 k0 k1 km k2 (HR.out.rest _ (.arEnd HD.out k3)) k4, HB6.out, b1, rfl, HBK.out⟩
end
end Go.Proofs.YtaghcjpoihkpjaaGreatDoor
namespace Go.Proofs.YtaghcjpoihkpjaaGreatDoor
open Go.RowKit Go.Lib

section
variable {s : ByteArray} {R : Nat}

theorem name_last {I : Nat} (h : kd (toks s) I = 97) : ((toks s).getD I default).last = false := by
  have h : ((toks s).getD I default).kind = 97 := h
  simp only [Tok.last, h]
  decide

set_option maxRecDepth 1000000 in
set_option maxHeartbeats 1000000 in
theorem code_call {N : Nat} (hp : CCon s R 45 .choice N) {w : World} {I : Nat} {ms : List ByteArray} (hN : (toks s).length - (I + 1) ≤ N) (h : CStM s R w I ms) (k0 : kd (toks s) I = 97) :
    Calls Tryz.prog 188 #[.pointer (some ⟨R, 0, none⟩)] w fun e w' => ∃ o, D s (toks s) .minus I o ∧ KC R w w' ∧ CAfter s R ms w.heap.size w' o e := by
  have c2 : w.cell? ⟨R, 2, none⟩ = some (.string (tx s (toks s) I)) := by
    obtain ⟨txt, mv, h1, h2, -⟩ := h.blk
    rw [← h2 (by omega)]
    exact cell_of_heap h1 rfl
  have H0 : Hid (CStM s R w I ms) := h
  have HSB : Hid (((toks s).getD I default).last = false) := name_last k0
  have LR : Hid (R < w.heap.size) := h.lR
  have HP : Hid (CCon s R 45 .choice N) := hp
  have hne1 : ¬ w.heap.size = R := by have := LR.out; omega
  have hne2 : ¬ R = w.heap.size := by have := LR.out; omega
  clear h hp
  go_enter Tryz.func188, Tryz.ntmps188
  go_wp2_with fail
  refine Code.wp_mono (Q := Exit.then (fun a w' => ∃ b8 : Nat, a = { tmps := #[.pointer (some ⟨R, 0, none⟩), undef, .nilIface, .nilIface, .pointer (some ⟨b8, 0, none⟩), .string (tx s (toks s) I), undef, .pointer (some ⟨R, 0, none⟩), .agg #[.int .i64 (pl (toks s) I)], .pointer (some ⟨R, 0, none⟩), .pointer (some ⟨R, 0, none⟩), .pointer (some ⟨R, 1, none⟩), .pointer (some ⟨R, 2, none⟩), .string (tx s (toks s) I), undef, undef, undef, undef, undef, undef, undef, undef, undef, undef, undef, undef, undef, undef, undef, undef, undef, undef, undef, undef, undef], defers := [] } ∧ Hid (CStM s R w' I ms ∧ KC R w w' ∧ AtIs (pl (toks s) I) b8 w')) (fun _ _ _ => False)) ?imp ?reg
  case reg =>
    go_region_held3 (fun w' => w'.cell? ⟨R, 2, none⟩ = some (.string (tx s (toks s) I))) (go_keep)
      (first
        | (go_at_call 63; refine (code_place (s := s) (I := I) (ms := ms) (H0.out.later (by repeat (first | exact Below.refl _ _ | apply Below.drew | refine Below.alloc ?_ (Nat.le_refl _) _)))).mono ?_; rintro e w0 ⟨rfl, hb0⟩; have c20 : w0.cell? ⟨R, 2, none⟩ = some (.string (tx s (toks s) I)) := cell_below hb0 (by assumption); have HX0 : Hid _ := hb0; (first | (have b0 : w0.heap[w.heap.size]? = some (.cells #[.int .i64 0] 105 (0, 0)) := (hb0.block _ (by simp)).trans (heap_alloc_new w _); have q0 := cell_of_heap (i := 0) b0 rfl; have z0 := frozen_of_heap (i := 0) b0; have HB0 : Hid _ := b0; clear b0) | skip); clear hb0))
    all_goals first
      | exact ⟨w0.heap.size, rfl, (H0.out.later (HX0.out.mono (Nat.le_refl _) |> fun q => ((Below.refl w.heap.size w).drew.trans q).alloc (Nat.le_trans (Nat.le_refl _) q.size) _)), KC.of_below (((Below.refl w.heap.size w).drew.trans HX0.out).alloc HX0.out.size _) LR.out, heap_alloc_new _ _⟩
      | exact ⟨w.heap.size, rfl, H0.out.later ((((Below.refl w.heap.size w).alloc (Nat.le_refl _) _).drew.trans (HX0.out.mono (by simp))).setCell (p := ⟨w.heap.size, 0, none⟩) (Nat.le_refl _) _), KC.of_below ((((Below.refl w.heap.size w).alloc (Nat.le_refl _) _).drew.trans (HX0.out.mono (by simp))).setCell (p := ⟨w.heap.size, 0, none⟩) (Nat.le_refl _) _) LR.out, heap_set_same (i := 0) HB0.out⟩
  case imp =>
    clear c2
    intro e a w0 hq
    cases e with
    | normal => ?_
    | _ => exact hq.elim
    obtain ⟨b8, rfl, HW⟩ := hq
    have hst := code_step HW.out.1 HSB.out
    have AK : Hid (∀ w', KC R w0 w' → AtIs (pl (toks s) I) b8 w') := fun w' hk => HW.out.1.at_kept hk HW.out.2.2
    go_wp2_with fail
    refine hst.mono ?_
    rintro e w1 ⟨rfl, hs1, hb1⟩
    have AT1 : Hid _ := AK.out _ hb1
    have hb1 := HW.out.2.1.trans hb1
    have HB1 : Hid (KC R w w1) := hb1
    have htk := code_takeSign hs1 [40] (by decide)
    have AK1 : Hid (∀ w', KC R w1 w' → AtIs (pl (toks s) I) b8 w') := fun w' hk => hs1.at_kept hk AT1.out
    clear hs1 hb1 hst HW AK AT1
    go_wp2_with fail
    refine htk.mono ?_
    rintro e w2 ⟨hb2, ha⟩
    have HB2 : Hid (KC R w w2) := HB1.out.trans hb2
    have cA : w2.cell? ⟨b8, 0, none⟩ = some (.int .i64 (pl (toks s) I)) := cell_of_heap (AK1.out _ hb2) rfl
    clear hb2 htk HB1
    rcases ha with ⟨k1, rfl, hs⟩ | ⟨k1, b1, rfl, hbk⟩
    rotate_left
    · have HBK : Hid (BadAt s w2 b1 (I + 1)) := hbk
      have k1 : kd (toks s) (I + 1) ≠ 40 := fun e => not_sees k1 (sees1.2 e)
      clear hbk
      go_wp2
      go_ret2
      exact ⟨.bad (I + 1), .caB1 k0 k1, HB2.out, b1, rfl, HBK.out⟩
    have k1 : kd (toks s) (I + 1) = 40 := sees1.1 k1
    have hki := code_isKind (tx s (toks s) I) w2
    cases hm : isMeasure (tx s (toks s) I) with
    | true =>
      have hme := code_measure hs k0 k1 hm
      rw [hm] at hki
      clear hs hm
      go_wp2_with fail
      refine hki.mono ?_
      rintro e w' ⟨rfl, hw⟩
      have hw := hw.symm
      subst hw
      clear hki
      go_wp2_with fail
      refine hme.mono ?_
      rintro e w3 ⟨o, hD, hb3, ha⟩
      obtain ⟨a, b, rfl⟩ := hand_on ha
      have HA : Hid (CAfter s R ms w.heap.size w3 o (.returned (.tuple #[a, b]))) := ha.up HB2.out.size
      have HD : Hid (D s (toks s) .minus I o) := hD
      have HB : Hid (KC R w w3) := HB2.out.trans hb3
      clear ha hD hb3 hme
      go_wp2
      go_ret2
      exact ⟨o, HD.out, HB.out, HA.out⟩
    | false =>
      have hme := code_probe HP.out (by omega) hs k0 k1 hm
      rw [hm] at hki
      clear hs hm
      go_wp2_with fail
      refine hki.mono ?_
      rintro e w' ⟨rfl, hw⟩
      have hw := hw.symm
      subst hw
      clear hki
      go_wp2_with fail
      refine hme.mono ?_
      rintro e w3 ⟨o, hD, hb3, ha⟩
      obtain ⟨a, b, rfl⟩ := hand_on ha
      have HA : Hid (CAfter s R ms w.heap.size w3 o (.returned (.tuple #[a, b]))) := ha.up HB2.out.size
      have HD : Hid (D s (toks s) .minus I o) := hD
      have HB : Hid (KC R w w3) := HB2.out.trans hb3
      clear ha hD hb3 hme
      go_wp2
      go_ret2
      exact ⟨o, HD.out, HB.out, HA.out⟩

set_option maxRecDepth 1000000 in
set_option maxHeartbeats 1000000 in
theorem cminus_of {N : Nat} (hm : CCon s R 174 .minus N) (hp : CCon s R 45 .choice N) : CCon s R 174 .minus (N + 1) := by
  intro w I ms hN h
  have hN : (toks s).length - (I + 1) ≤ N := by omega
  have h45 := code_sees h [45] (by decide)
  have h40 := code_sees h [40] (by decide)
  cases b45 : seesB s I [45] with
  | true =>
    have hcl := code_negative hm hN h b45
    rw [b45] at h45
    clear h h40 b45 hm hp
    go_enter Tryz.func174, Tryz.ntmps174
    go_wp2_with fail
    refine h45.mono ?_
    rintro e w' ⟨rfl, hw⟩
    have hw := hw.symm
    subst hw
    clear h45
    go_wp2_with fail
    refine hcl.mono ?_
    rintro e w3 ⟨o, hD, hb3, ha⟩
    obtain ⟨a, b, rfl⟩ := hand_on ha
    have HA : Hid (CAfter s R ms w.heap.size w3 o (.returned (.tuple #[a, b]))) := ha
    have HD : Hid (D s (toks s) .minus I o) := hD
    have HB : Hid (KC R w w3) := hb3
    clear ha hD hb3 hcl
    go_wp2
    go_ret2
    exact ⟨o, HD.out, HB.out, HA.out⟩
  | false =>
    have n45 : kd (toks s) I ≠ 45 := fun e => not_sees b45 (sees1.2 e)
    rw [b45] at h45
    clear b45
    cases b40 : seesB s I [40] with
    | true =>
      have hcl := code_inner hp hN h b40
      rw [b40] at h40
      clear h b40 hm hp
      go_enter Tryz.func174, Tryz.ntmps174
      go_wp2_with fail
      refine h45.mono ?_
      rintro e w' ⟨rfl, hw⟩
      have hw := hw.symm
      subst hw
      clear h45
      go_wp2_with fail
      refine h40.mono ?_
      rintro e w' ⟨rfl, hw⟩
      have hw := hw.symm
      subst hw
      clear h40
      go_wp2_with fail
      refine hcl.mono ?_
      rintro e w3 ⟨o, hD, hb3, ha⟩
      obtain ⟨a, b, rfl⟩ := hand_on ha
      have HA : Hid (CAfter s R ms w.heap.size w3 o (.returned (.tuple #[a, b]))) := ha
      have HD : Hid (D s (toks s) .minus I o) := hD
      have HB : Hid (KC R w w3) := hb3
      clear ha hD hb3 hcl
      go_wp2
      go_ret2
      exact ⟨o, HD.out, HB.out, HA.out⟩
    | false =>
      have n40 : kd (toks s) I ≠ 40 := fun e => not_sees b40 (sees1.2 e)
      rw [b40] at h40
      clear b40
      obtain ⟨txt, mv, h1, -⟩ := h.blk
      have c1 := cell_of_heap (i := 1) h1 rfl
      clear h1
      by_cases k0 : kd (toks s) I = 97
      · have hcl := code_call hp hN h k0
        rw [ck3.2 k0] at c1
        clear h hm hp
        go_enter Tryz.func174, Tryz.ntmps174
        go_wp2_with fail
        refine h45.mono ?_
        rintro e w' ⟨rfl, hw⟩
        have hw := hw.symm
        subst hw
        clear h45
        go_wp2_with fail
        refine h40.mono ?_
        rintro e w' ⟨rfl, hw⟩
        have hw := hw.symm
        subst hw
        clear h40
        go_wp2_with fail
        refine hcl.mono ?_
        rintro e w3 ⟨o, hD, hb3, ha⟩
        obtain ⟨a, b, rfl⟩ := hand_on ha
        have HA : Hid (CAfter s R ms w.heap.size w3 o (.returned (.tuple #[a, b]))) := ha
        have HD : Hid (D s (toks s) .minus I o) := hD
        have HB : Hid (KC R w w3) := hb3
        clear ha hD hb3 hcl
        go_wp2
        go_ret2
        exact ⟨o, HD.out, HB.out, HA.out⟩
      · have hcl := code_takeNumber h
        have k3 : codeKind ((toks s).getD I default) ≠ 3 := fun e => k0 (ck3.1 e)
        have kb : (((codeKind ((toks s).getD I default) : Nat) : Int) == 3) = false := by rw [beq_eq_false_iff_ne]; omega
        obtain ⟨K, hK⟩ : ∃ K, codeKind ((toks s).getD I default) = K := ⟨_, rfl⟩
        rw [hK] at c1 kb
        clear h hm hp
        go_enter Tryz.func174, Tryz.ntmps174
        go_wp2_with fail
        refine h45.mono ?_
        rintro e w' ⟨rfl, hw⟩
        have hw := hw.symm
        subst hw
        clear h45
        go_wp2_with fail
        refine h40.mono ?_
        rintro e w' ⟨rfl, hw⟩
        have hw := hw.symm
        subst hw
        clear h40
        go_wp2_with fail
        refine hcl.mono ?_
        rintro e w3 ⟨hb3, ha⟩
        have HB : Hid (KC R w w3) := hb3
        clear hb3 hcl
        rcases ha with ⟨k4, rfl, hs⟩ | ⟨k4, n, b1, rfl, hbk⟩
        · have k4 : kd (toks s) I = 110 := ck2.1 k4
          have HS : Hid (CStM s R w3 (I + 1) ms) := hs
          have lR3 := hs.lR
          clear hs
          go_wp2
          go_ret2
          have bl := (Below.refl w3.heap.size w3).alloc (Nat.le_refl _)
          refine ⟨.ok [_] (I + 1), .nuGo k4, HB.out.alloc lR3 _, _, _, _, rfl, rfl, ?_, by rw [mets_num]; exact HS.out.later (bl _)⟩
          unfold CNode
          exact ⟨_, rfl, HB.out.size, heap_alloc_new _ _⟩
        · have k4 : kd (toks s) I ≠ 110 := fun e => k4 (ck2.2 e)
          have HBK : Hid (BadAt s w3 b1 I) := hbk
          clear hbk
          go_wp2
          go_ret2
          exact ⟨.bad I, .noGo (by omega), HB.out, b1, rfl, HBK.out⟩

theorem code_levels : ∀ N, CCon s R 174 .minus N ∧ CCon s R 45 .choice N
  | 0 => ⟨fun w I ms hN h => by have := h.lt; omega, fun w I ms hN h => by have := h.lt; omega⟩
  | N + 1 => by
    have ih := code_levels N
    have h1 := cminus_of ih.1 ih.2
    exact ⟨h1, cchoice_of (ccompare_of (csum_of (cproduct_of h1))) ih.2⟩
end
end Go.Proofs.YtaghcjpoihkpjaaGreatDoor
