/-
  THE PROGRAM's Read, WALKED.
-/
import Derived.Test.YtaghcjpoihkpjaaGreatDoorJM10
import Derived.LaidEql
import Derived.Test.YtaghcjpoihkpjaaGreatDoorProg
import Derived.WalkKit
import Derived.Stop.Asserts
import Derived.RowKitTokens
namespace Go.Proofs.YtaghcjpoihkpjaaGreatDoor
open Go.RowKit Go.Lib

theorem tok0 (s : ByteArray) : (toks s).getD 0 default = tokFrom s 0 := by
  show (toksAt s 0).getD 0 default = tokFrom s 0
  cases h4 : (tokFrom s 0).last with
  | true => rw [toksAt_last h4]; rfl
  | false => rw [toksAt_cons (Nat.zero_le _) h4]; rfl
theorem toks_pos (s : ByteArray) : 0 < (toks s).length := by obtain ⟨m, hm, -⟩ := toks_ends s; omega

/-- A tree that was read, with its metrics. -/
def CTree (lo : Nat) (w : World) (t : Tree) (a : Addr) : Prop :=
  ∃ tb ty pa mv, a = ⟨tb, 0, none⟩ ∧ lo ≤ tb ∧ w.heap[tb]? = some (.cells #[.iface ty (.pointer pa), mv] 139 (0, 0)) ∧ CNode (Hi lo) w t (.iface ty (.pointer pa)) ∧ w.ownsRow lo 9 1 mv (notes [] (mets t)).length ((notes [] (mets t)).map Value.string)
theorem CTree.below {lo : Nat} {w w' : World} {t : Tree} {a : Addr} (h : CTree lo w t a) (hb : Below w.heap.size w w') : CTree lo w' t a := by
  obtain ⟨tb, ty, pa, mv, h1, h2, h3, h4, h5⟩ := h
  exact ⟨tb, ty, pa, mv, h1, h2, (hb.block _ (heap_lt h3)).trans h3, h4.below hb, owns_of_block h5 fun g hg => hb.block g (h5.lt _ hg).2⟩
/-- What Read gives. -/
def CRead (s : ByteArray) (v : Value) (T : World → Tree → Addr → Prop) (w : World) (e : Ending) : Prop :=
  (200 < s.size ∧ e = .returned (.tuple #[.pointer none, v])) ∨
  (s.size ≤ 200 ∧ ((∃ J b, (D s (toks s) .choice 0 (.bad J) ∨ ∃ t, D s (toks s) .choice 0 (.ok [t] J) ∧ kd (toks s) J ≠ 101) ∧ e = .returned (.tuple #[.pointer none, .iface 103 (.pointer (some ⟨b, 0, none⟩))]) ∧ BadAt s w b J) ∨
    (∃ t J a, D s (toks s) .choice 0 (.ok [t] J) ∧ kd (toks s) J = 101 ∧ e = .returned (.tuple #[.pointer (some a), .nilIface]) ∧ T w t a)))

set_option maxRecDepth 1000000 in
theorem code_Clone (s : ByteArray) (w : World) (hs : s.size ≤ 1000) : Calls Tryz.prog 43 #[.string s] w fun e w' => e = .returned (.string s) ∧ Below w.heap.size w w' := by
  have hc := Tryz.stringslite_Clone s w (by omega)
  go_enter Tryz.func43, Tryz.ntmps43
  go_wp2_with fail
  refine hc.mono ?_
  rintro e w' ⟨rfl, hb⟩
  have HB : Hid (Below w.heap.size w w') := hb
  clear hb hc
  go_wp2
  go_ret
  exact ⟨rfl, HB.out⟩

theorem ck0 {s : ByteArray} {I : Nat} : codeKind ((toks s).getD I default) = 0 ↔ kd (toks s) I = 101 := by
  unfold codeKind kd
  split
  · rename_i h
    exact ⟨fun _ => h, fun _ => rfl⟩
  split
  · constructor
    · intro h; cases h
    · intro h; omega
  split
  · constructor
    · intro h; cases h
    · intro h; omega
  split
  · constructor
    · intro h; cases h
    · intro h; omega
  · constructor
    · intro h; cases h
    · intro h; omega

theorem start_state {s t2 : ByteArray} {w w2 : World} {R : Nat} (hT : Tabs w) (hs : s.size ≤ 200) (hR : w.heap.size ≤ R) (hb : Below w.heap.size w w2)
    (h1 : w2.heap[R]? = some (.cells #[.string s, .int .i64 0, .string { data := #[] }, .int .i64 0, .slice none 0 0] 131 (0, 0))) (h2 : (tokFrom s 0).kind ≠ 33 → t2 = (tokFrom s 0).text s) :
    CStM s R (((w2.setCell ⟨R, 1, none⟩ (.int .i64 (codeKind (tokFrom s 0)))).setCell ⟨R, 2, none⟩ (.string t2)).setCell ⟨R, 3, none⟩ (.int .i64 (tokFrom s 0).pos)) 0 [] ∧
      Below w.heap.size w (((w2.setCell ⟨R, 1, none⟩ (.int .i64 (codeKind (tokFrom s 0)))).setCell ⟨R, 2, none⟩ (.string t2)).setCell ⟨R, 3, none⟩ (.int .i64 (tokFrom s 0).pos)) := by
  have e := heap_set_same (i := 3) (v := .int .i64 (tokFrom s 0).pos) (heap_set_same (i := 2) (v := .string t2) (heap_set_same (i := 1) (v := .int .i64 (codeKind (tokFrom s 0))) h1))
  have hb' : Below w.heap.size w (((w2.setCell ⟨R, 1, none⟩ (.int .i64 (codeKind (tokFrom s 0)))).setCell ⟨R, 2, none⟩ (.string t2)).setCell ⟨R, 3, none⟩ (.int .i64 (tokFrom s 0).pos)) :=
    ((hb.setCell (p := ⟨R, 1, none⟩) hR _).setCell (p := ⟨R, 2, none⟩) hR _).setCell (p := ⟨R, 3, none⟩) hR _
  refine ⟨⟨⟨t2, .slice none 0 0, ?_, ?_, World.ownsRow_nil _ _ _ _⟩, Nat.le_refl _, ⟨w, hT, hR, hb'⟩, toks_pos s, hs⟩, hb'⟩
  · unfold CBlk pl
    rw [tok0]
    exact e
  · unfold kd tx
    rw [tok0]
    exact h2

set_option maxRecDepth 1000000 in
set_option maxHeartbeats 1000000 in
theorem code_Read (s : ByteArray) (w : World) (hT : Tabs w) (v : Value) (hv : w.cell? ⟨4, 0, none⟩ = some v) :
    Calls Tryz.prog 28 #[.string s] w fun e w' => Below w.heap.size w w' ∧ CRead s v (CTree w.heap.size) w' e := by
  have HT : Hid (Tabs w) := hT
  clear hT
  by_cases h2 : 200 < s.size
  · have h200 : (200 : Int) < (s.size : Int) := by omega
    go_enter Tryz.func28, Tryz.ntmps28
    go_wp2_with fail
    go_quiet (fail)
    go_wp2
    go_ret2
    exact ⟨⟨rfl, rfl, rfl, Nat.le_refl _, fun _ _ => rfl⟩, .inl ⟨h2, rfl⟩⟩
  have h200 : ¬ (200 : Int) < (s.size : Int) := by omega
  have hcl := code_Clone s w (by omega)
  go_enter Tryz.func28, Tryz.ntmps28
  go_wp2_with fail
  refine hcl.mono ?_
  rintro e w1 ⟨rfl, hb1⟩
  clear hcl
  have hT1 := HT.out.below hb1
  have bn : (w1.alloc (.cells #[.string s, .int .i64 0, .string { data := #[] }, .int .i64 0, .slice none 0 0] 131)).heap[w1.heap.size]? = some (.cells #[.string s, .int .i64 0, .string { data := #[] }, .int .i64 0, .slice none 0 0] 131 (0, 0)) := cells_new
  have htf := code_tokenFrom s 0 (by omega) (Nat.zero_le _) (w1.alloc (.cells #[.string s, .int .i64 0, .string { data := #[] }, .int .i64 0, .slice none 0 0] 131)) (hT1.below ((Below.refl _ _).alloc (Nat.le_refl _) _))
  have BN : Hid _ := bn
  have HB1 : Hid (Below w.heap.size w w1) := hb1
  have hsz1 := hb1.size
  clear bn hT1 hb1
  go_wp2_with fail
  refine htf.mono ?_
  rintro e w2 ⟨t2, rfl, ht2, hb2⟩
  clear htf
  have k4 := (hb2.block _ (by simp)).trans BN.out
  have z1 := frozen_of_heap (i := 1) k4
  have z2 := frozen_of_heap (i := 2) k4
  have z3 := frozen_of_heap (i := 3) k4
  have k0 := cell_of_heap (i := 0) k4 rfl
  have k1 := cell_of_heap (i := 1) k4 rfl
  have k2 := cell_of_heap (i := 2) k4 rfl
  have k3 := cell_of_heap (i := 3) k4 rfl
  have hbw : Below w.heap.size w w2 := (HB1.out.alloc (by omega) _).trans (hb2.mono (by simp; omega))
  obtain ⟨hs0, hbw'⟩ := start_state (R := w1.heap.size) HT.out (by omega) (by omega) hbw k4 ht2
  have HS0 : Hid _ := hs0
  have HBW : Hid _ := hbw'
  have hszs := hbw'.size
  have hch := (code_levels (s := s) (R := w1.heap.size) (toks s).length).2 _ 0 [] (by omega) hs0
  clear hs0 hbw' hbw hb2 k4 ht2
  go_wp2_with fail
  refine hch.mono ?_
  rintro e w3 ⟨o, hD, hb3, ha⟩
  have HD : Hid (D s (toks s) .choice 0 o) := hD
  have hbl : Below w1.heap.size _ w3 := hb3.below HS0.out.lR (fun g hg => by
    obtain ⟨txt, mv, q1, q2, q3⟩ := HS0.out.blk
    rw [mrow_of q1] at hg
    exact (q3.lt _ hg).1)
  have HB3 : Hid (Below w.heap.size w w3) := HBW.out.trans (hbl.mono (by omega))
  have hle3 : w.heap.size ≤ w3.heap.size := HB3.out.size
  have HA : Hid _ := ha
  clear ha
  clear hD hb3 hch hbl HBW HS0 k0 k1 k2 k3 z1 z2 z3
  cases o with
  | bad J =>
    obtain ⟨b, rfl, hbk⟩ := HA.out
    clear HA
    have HBK : Hid (BadAt s w3 b J) := hbk
    clear hbk
    go_wp2
    go_ret2
    exact ⟨HB3.out, .inr ⟨by omega, .inl ⟨J, b, .inl HD.out, rfl, HBK.out⟩⟩⟩
  | ok ts J =>
    obtain ⟨t, ty, pa, rfl, rfl, hn3, hs3⟩ := HA.out
    have HN : Hid (CNode (Hi w.heap.size) w3 t (.iface ty (.pointer pa))) := hn3.up hszs
    clear HA hn3
    have hst := code_stuck hs3
    obtain ⟨txt, mv, q1, q2, q3⟩ := hs3.blk
    have c1 := cell_of_heap (i := 1) q1 rfl
    have c4 := cell_of_heap (i := 4) q1 rfl
    obtain ⟨ao, ln, cp, rfl⟩ := owns_slice q3
    have HO : Hid (w3.ownsRow (w1.heap.size + 1) 9 1 (.slice ao ln cp) (notes [] (mets t)).length ((notes [] (mets t)).map Value.string)) := q3
    clear q1 q2 q3 hs3
    by_cases k101 : kd (toks s) J = 101
    · rw [ck0.2 k101] at c1
      clear hst
      go_wp2
      go_ret2
      exact ⟨HB3.out.alloc hle3 _, .inr ⟨by omega, .inr ⟨t, J, _, HD.out, k101, rfl, _, _, _, _, rfl, hle3, heap_alloc_new _ _, HN.out.below ((Below.refl _ _).alloc (Nat.le_refl _) _), owns_lower (HO.out.alloc _) (by omega)⟩⟩⟩
    · have k0 : codeKind ((toks s).getD J default) ≠ 0 := fun e => k101 (ck0.1 e)
      have kb : (((codeKind ((toks s).getD J default) : Nat) : Int) != 0) = true := by rw [bne_iff_ne]; omega
      obtain ⟨K, hK⟩ : ∃ K, codeKind ((toks s).getD J default) = K := ⟨_, rfl⟩
      rw [hK] at c1 kb
      go_wp2_with fail
      refine hst.mono ?_
      rintro e w4 ⟨b4, rfl, hb4, hk4⟩
      have HQ4 : Hid _ := And.intro hb4 hk4
      clear hst hb4 hk4
      go_wp2
      go_ret2
      exact ⟨HB3.out.trans (HQ4.out.1.mono hle3), .inr ⟨by omega, .inl ⟨J, _, .inr ⟨t, HD.out, k101⟩, rfl, HQ4.out.2⟩⟩⟩
end Go.Proofs.YtaghcjpoihkpjaaGreatDoor
namespace Go.Proofs.YtaghcjpoihkpjaaGreatDoor
open Go.RowKit Go.Lib

/-- A policy that was read. -/
def CPol (lo : Nat) (w : World) (t : Tree) (p : Addr) : Prop :=
  ∃ pb a, p = ⟨pb, 0, none⟩ ∧ lo ≤ pb ∧ w.heap[pb]? = some (.cells #[.pointer (some a)] 83 (0, 0)) ∧ CTree lo w t a
theorem CPol.below {lo : Nat} {w w' : World} {t : Tree} {p : Addr} (h : CPol lo w t p) (hb : Below w.heap.size w w') : CPol lo w' t p := by
  obtain ⟨pb, a, h1, h2, h3, h4⟩ := h
  exact ⟨pb, a, h1, h2, (hb.block _ (heap_lt h3)).trans h3, h4.below hb⟩
set_option maxRecDepth 1000000 in
set_option maxHeartbeats 1000000 in
theorem code_Parse (s : ByteArray) (w : World) (hT : Tabs w) (A : Addr) (hv : w.cell? ⟨4, 0, none⟩ = some (.iface 349 (.pointer (some A)))) :
    Calls Tryz.prog 15 #[.string s] w fun e w' => Below w.heap.size w w' ∧ CRead s (.iface 349 (.pointer (some A))) (CPol w.heap.size) w' e := by
  have hr := code_Read s w hT _ hv
  clear hT
  go_enter Tryz.func15, Tryz.ntmps15
  go_wp2_with fail
  refine hr.mono ?_
  rintro e w1 ⟨hb, hc⟩
  have HB : Hid (Below w.heap.size w w1) := hb
  have hsz := hb.size
  clear hr hb
  rcases hc with ⟨h1, rfl⟩ | ⟨h1, ⟨J, b, h2, rfl, h3⟩ | ⟨t, J, a, h2, h3, rfl, h4⟩⟩
  · go_wp2
    go_ret2
    exact ⟨HB.out, .inl ⟨h1, rfl⟩⟩
  · have H2 : Hid _ := h2
    have H3 : Hid (BadAt s w1 b J) := h3
    clear h2 h3
    go_wp2
    go_ret2
    exact ⟨HB.out, .inr ⟨h1, .inl ⟨J, b, H2.out, rfl, H3.out⟩⟩⟩
  · have H2 : Hid _ := h2
    have H4 : Hid (CTree w.heap.size w1 t a) := h4
    clear h2 h4
    go_wp2
    go_ret2
    exact ⟨HB.out.alloc hsz _, .inr ⟨h1, .inr ⟨t, J, _, H2.out, h3, rfl, _, a, rfl, hsz, heap_alloc_new _ _, H4.out.below ((Below.refl _ _).alloc (Nat.le_refl _) _)⟩⟩⟩

/-- The sentinels, each where it lies. -/
structure Sents (A : Nat → Addr) (w : World) : Prop where
  g0 : w.cell? ⟨4, 0, none⟩ = some (.iface 349 (.pointer (some (A 0))))
  g1 : w.cell? ⟨0, 0, none⟩ = some (.iface 349 (.pointer (some (A 1))))
  g2 : w.cell? ⟨1, 0, none⟩ = some (.iface 349 (.pointer (some (A 2))))
  g3 : w.cell? ⟨2, 0, none⟩ = some (.iface 349 (.pointer (some (A 3))))
  g4 : w.cell? ⟨3, 0, none⟩ = some (.iface 349 (.pointer (some (A 4))))
  g5 : w.cell? ⟨5, 0, none⟩ = some (.iface 349 (.pointer (some (A 5))))
  g6 : w.cell? ⟨6, 0, none⟩ = some (.iface 349 (.pointer (some (A 6))))
  g7 : w.cell? ⟨7, 0, none⟩ = some (.iface 349 (.pointer (some (A 7))))
theorem Sents.below {A : Nat → Addr} {w w' : World} (h : Sents A w) (hb : Below w.heap.size w w') : Sents A w' :=
  ⟨cell_below hb h.g0, cell_below hb h.g1, cell_below hb h.g2, cell_below hb h.g3, cell_below hb h.g4, cell_below hb h.g5, cell_below hb h.g6, cell_below hb h.g7⟩

theorem Tryz.isComp : (Tryz.prog.info? 349).map (·.comparable) = some true := by kernel_rfl
theorem Tryz.isSize : (Tryz.prog.info? 368).map (·.size) = some 1 := by kernel_rfl
set_option maxRecDepth 1000000 in
set_option maxHeartbeats 1000000 in
theorem code_sentinel {A : Nat → Addr} {w : World} (h : Sents A w) :
    Calls Tryz.prog 38 #[.iface 349 (.pointer (some (A 0)))] w fun e w' => e = .returned (.int .i64 1) ∧ Below w.heap.size w w' := by
  obtain ⟨g0, g1, g2, g3, g4, g5, g6, g7⟩ := h
  obtain ⟨ti, hi, hcmp⟩ := Option.map_eq_some_iff.1 Tryz.isComp
  obtain ⟨tj, hj, hjs⟩ := Option.map_eq_some_iff.1 Tryz.isSize
  have heq := fun W => run_eql_iface_ptr_same (P := Tryz.prog) W (A 0) Tryz.underlying50 Tryz.underlying349 hi hcmp hj
  clear hi hcmp hj hjs
  go_enter Tryz.func38, Tryz.ntmps38
  go_wp2_with fail
  obtain ⟨X, hX⟩ : ∃ X, X = w.alloc (.cells #[.nilIface, .iface 349 (.pointer (some (A 0))), .nilIface, .nilIface, .iface 349 (.pointer (some (A 1))), .iface 349 (.pointer (some (A 2))), .iface 349 (.pointer (some (A 3))), .iface 349 (.pointer (some (A 4))), .iface 349 (.pointer (some (A 5))), .iface 349 (.pointer (some (A 6))), .nilIface, .nilIface, .iface 349 (.pointer (some (A 7)))] 50) := ⟨_, rfl⟩
  rw [← hX]
  have x0 : X.cell? ⟨w.heap.size, 0, none⟩ = some .nilIface := by rw [hX]; go_simp
  have x1 : X.cell? ⟨w.heap.size, 1, none⟩ = some (.iface 349 (.pointer (some (A 0)))) := by rw [hX]; go_simp
  have HX : Hid (Below w.heap.size w X) := by rw [hX]; exact (Below.refl _ _).alloc (Nat.le_refl _) _
  clear hX g0 g1 g2 g3 g4 g5 g6 g7
  refine wp_loop_rounds 2 ?_
  rw [rounds_succ]
  go_wp2_with fail
  rw [rounds_succ]
  go_wp2
  go_ret
  exact ⟨rfl, HX.out⟩

/-- What plain.Of gives: a Told. -/
abbrev told (e at_ : Int) : Value := .agg #[.int .i64 e, .int .i64 at_, .int .i64 0, .string { data := #[] }]
theorem Tryz.assertS (v : Value) (xT : TypeId) (w : World) : (Instr.typeAssert (.iface 103 v) xT 103 true).run Tryz.prog w = .ok (.tuple #[v, .bool true]) w := by kernel_rfl
theorem Tryz.assertE1 (v : Value) (xT : TypeId) (w : World) : (Instr.typeAssert (.iface 349 v) xT 103 true).run Tryz.prog w = .ok (.tuple #[.pointer none, .bool false]) w := by kernel_rfl
theorem Tryz.assertE2 (v : Value) (xT : TypeId) (w : World) : (Instr.typeAssert (.iface 349 v) xT 108 true).run Tryz.prog w = .ok (.tuple #[.pointer none, .bool false]) w := by kernel_rfl
theorem Tryz.assertE3 (v : Value) (xT : TypeId) (w : World) : (Instr.typeAssert (.iface 349 v) xT 111 true).run Tryz.prog w = .ok (.tuple #[.pointer none, .bool false]) w := by kernel_rfl

set_option maxRecDepth 1000000 in
set_option maxHeartbeats 1000000 in
theorem of_nil (w : World) : Calls Tryz.prog 21 #[.nilIface] w fun e w' => e = .returned (told 0 0) ∧ Below w.heap.size w w' := by
  have HX : Hid (Below w.heap.size w (w.alloc (.cells #[.int .i64 0, .int .i64 0, .int .i64 0, .string { data := #[] }] 24))) := (Below.refl _ _).alloc (Nat.le_refl _) _
  go_enter Tryz.func21, Tryz.ntmps21
  go_wp2
  refine bodyPost_ret (v := told 0 0) (by simp [results, Tryz.results21, go_sem]) rfl ⟨rfl, ?_⟩
  exact (Below.refl _ _).alloc (Nat.le_refl _) _

set_option maxRecDepth 1000000 in
set_option maxHeartbeats 1000000 in
theorem of_syntax {b : Nat} {n : Int} (w : World) (h : w.heap[b]? = some (.cells #[.int .i64 n] 107 (0, 0))) : Calls Tryz.prog 21 #[.iface 103 (.pointer (some ⟨b, 0, none⟩))] w fun e w' => e = .returned (told 2 n) ∧ Below w.heap.size w w' := by
  have c0 := cell_of_heap (i := 0) h rfl
  have lb := heap_lt h
  have ts := Tryz.assertS
  have HX : Hid (Below w.heap.size w (w.alloc (.cells #[.int .i64 0, .int .i64 0, .int .i64 0, .string { data := #[] }] 24))) := (Below.refl _ _).alloc (Nat.le_refl _) _
  clear h
  go_enter Tryz.func21, Tryz.ntmps21
  go_wp2
  refine bodyPost_ret (v := told 2 n) (by simp [results, Tryz.results21, go_sem]) rfl ⟨rfl, ?_⟩
  exact (Below.refl _ _).alloc (Nat.le_refl _) _

set_option maxRecDepth 1000000 in
set_option maxHeartbeats 1000000 in
theorem of_long {A : Nat → Addr} {w : World} (h : Sents A w) : Calls Tryz.prog 21 #[.iface 349 (.pointer (some (A 0)))] w fun e w' => e = .returned (told 1 0) ∧ Below w.heap.size w w' := by
  have t1 := Tryz.assertE1
  have t2 := Tryz.assertE2
  have t3 := Tryz.assertE3
  have hx : Below w.heap.size w (w.alloc (.cells #[.int .i64 0, .int .i64 0, .int .i64 0, .string { data := #[] }] 24)) := (Below.refl _ _).alloc (Nat.le_refl _) _
  have hse := code_sentinel (h.below hx)
  have HX : Hid (Below w.heap.size w (w.alloc (.cells #[.int .i64 0, .int .i64 0, .int .i64 0, .string { data := #[] }] 24))) := hx
  clear h hx
  go_enter Tryz.func21, Tryz.ntmps21
  go_wp2_with fail
  refine hse.mono ?_
  rintro e w1 ⟨rfl, hb1⟩
  have bn : w1.heap[w.heap.size]? = some (.cells #[.int .i64 0, .int .i64 0, .int .i64 0, .string { data := #[] }] 24 (0, 0)) := (hb1.block _ (by simp)).trans cells_new
  have c0 := cell_of_heap (i := 0) bn rfl
  have c1 := cell_of_heap (i := 1) bn rfl
  have c2 := cell_of_heap (i := 2) bn rfl
  have c3 := cell_of_heap (i := 3) bn rfl
  have z0 := frozen_of_heap (i := 0) bn
  have z1 := frozen_of_heap (i := 1) bn
  have z2 := frozen_of_heap (i := 2) bn
  have z3 := frozen_of_heap (i := 3) bn
  have HB : Hid (Below w.heap.size w w1) := HX.out.trans (hb1.mono (by simp))
  clear bn hb1 hse HX
  go_wp2
  refine bodyPost_ret (v := told 1 0) (by simp [results, Tryz.results21, go_sem, c0, c1, c2, c3]) rfl ⟨rfl, ?_⟩
  exact (((HB.out.setCell (Nat.le_refl _) _).setCell (Nat.le_refl _) _).setCell (Nat.le_refl _) _).setCell (Nat.le_refl _) _
end Go.Proofs.YtaghcjpoihkpjaaGreatDoor
namespace Go.Proofs.YtaghcjpoihkpjaaGreatDoor
open Go.RowKit Go.Extern.Stop Go.Stop Go.Extern

theorem rlm (z : Sem Value) (f : TypeId → Addr → Nat → Nat → Sem Value) (v : Value) :
    ReflectliteValue.method z f #[v] = (do match ← ReflectliteValue.parts v with | none => z | some (t, a, fl) => f t a fl (fl % 32)) := rfl
theorem rls (v x : Value) : ReflectliteValue.set #[v, x] = (do
    let (some (dst, a, fl), some (src, b, _)) := (← ReflectliteValue.parts v, ← ReflectliteValue.parts x)
      | unsupported (.noEntry "extern/(internal/reflectlite.Value).Set.zeroValue")
    if fl / ReflectliteValue.flagAddr % 2 == 0 then unsupported (.noEntry "extern/(internal/reflectlite.Value).Set.unaddressable")
    let val ← loadVar src b
    if ← Rtype.directlyAssignable dst src then storeVar dst a val
    else if ← Rtype.implements dst src then
      if (← Rtype.kind src) == 20 then
        match val with
        | .nilIface => unsupported (.noEntry "extern/reflectlite: a nil value of one interface type handed on as a value of another")
        | _ => storeVar dst a val
      else storeVar dst a (.iface src val)
    else panicString ("reflectlite.Set: value of type " ++ (← Rtype.spelt src) ++ " is not assignable to type " ++ (← Rtype.spelt dst))
    pure (.tuple #[])) := rfl
theorem Tryz.methodKind (h : Value) (w : World) : (Go.method 481 265 (.agg #[h]) "Kind").run Tryz.prog w = .ok (220, h) w := by kernel_rfl
theorem Tryz.methodElem (h : Value) (w : World) : (Go.method 481 265 (.agg #[h]) "Elem").run Tryz.prog w = .ok (245, .agg #[h]) w := by kernel_rfl
theorem Tryz.methodImplements (h : Value) (w : World) : (Go.method 481 265 (.agg #[h]) "Implements").run Tryz.prog w = .ok (246, .agg #[h]) w := by kernel_rfl
theorem Tryz.methodAssignableTo (h : Value) (w : World) : (Go.method 481 265 (.agg #[h]) "AssignableTo").run Tryz.prog w = .ok (243, .agg #[h]) w := by kernel_rfl
theorem Tryz.methodComparable (v : Value) (w : World) : (Go.method 481 265 v "Comparable").run Tryz.prog w = .ok (244, v) w := by kernel_rfl
theorem Tryz.methodUnwrap (v : Value) (w : World) : (Go.method 481 111 v "Unwrap").run Tryz.prog w = .ok (229, v) w := by kernel_rfl
theorem Tryz.hasUnwrapH (v : Value) (xT : TypeId) (w : World) : (Instr.typeAssert (.iface 111 v) xT 272 true).run Tryz.prog w = .ok (.tuple #[.iface 111 v, .bool true]) w := run_typeAssert_hasB Tryz.underlying272 (by kernel_rfl) v xT w
theorem Tryz.noIsH (v : Value) (xT : TypeId) (w : World) : (Instr.typeAssert (.iface 111 v) xT 275 true).run Tryz.prog w = .ok (.tuple #[.nilIface, .bool false]) w := run_typeAssert_lacksB Tryz.underlying275 (by kernel_rfl) (by kernel_rfl) v xT w
theorem Tryz.noIsE (v : Value) (xT : TypeId) (w : World) : (Instr.typeAssert (.iface 349 v) xT 275 true).run Tryz.prog w = .ok (.tuple #[.nilIface, .bool false]) w := run_typeAssert_lacksB Tryz.underlying275 (by kernel_rfl) (by kernel_rfl) v xT w
theorem Tryz.typeOfH (v : Value) (w : World) : (ReflectliteType.typeOf #[.iface 111 v]).run Tryz.prog w = .ok (.iface 265 (.agg #[.pointer (some ⟨18, 111, none⟩)])) w := by kernel_rfl
theorem Tryz.noAsH (v : Value) (xT : TypeId) (w : World) : (Instr.typeAssert (.iface 111 v) xT 269 true).run Tryz.prog w = .ok (.tuple #[.nilIface, .bool false]) w := run_typeAssert_lacksB Tryz.underlying269 (by kernel_rfl) (by kernel_rfl) v xT w
theorem Tryz.typeOfE (v : Value) (w : World) : (ReflectliteType.typeOf #[.iface 349 v]).run Tryz.prog w = .ok (.iface 265 (.agg #[.pointer (some ⟨18, 349, none⟩)])) w := by kernel_rfl
theorem Tryz.noAsE (v : Value) (xT : TypeId) (w : World) : (Instr.typeAssert (.iface 349 v) xT 269 true).run Tryz.prog w = .ok (.tuple #[.nilIface, .bool false]) w := run_typeAssert_lacksB Tryz.underlying269 (by kernel_rfl) (by kernel_rfl) v xT w
theorem Tryz.noUnwrapE (v : Value) (xT : TypeId) (w : World) : (Instr.typeAssert (.iface 349 v) xT 272 true).run Tryz.prog w = .ok (.tuple #[.nilIface, .bool false]) w := run_typeAssert_lacksB Tryz.underlying272 (by kernel_rfl) (by kernel_rfl) v xT w
theorem Tryz.noUnwrapsE (v : Value) (xT : TypeId) (w : World) : (Instr.typeAssert (.iface 349 v) xT 273 true).run Tryz.prog w = .ok (.tuple #[.nilIface, .bool false]) w := run_typeAssert_lacksB Tryz.underlying273 (by kernel_rfl) (by kernel_rfl) v xT w
theorem Tryz.typeOfP (v : Value) (w : World) : (ReflectliteType.typeOf #[.iface 149 v]).run Tryz.prog w = .ok (.iface 265 (.agg #[.pointer (some ⟨18, 149, none⟩)])) w := by kernel_rfl
theorem Tryz.noAsP (v : Value) (xT : TypeId) (w : World) : (Instr.typeAssert (.iface 149 v) xT 269 true).run Tryz.prog w = .ok (.tuple #[.nilIface, .bool false]) w := run_typeAssert_lacksB Tryz.underlying269 (by kernel_rfl) (by kernel_rfl) v xT w
theorem Tryz.noUnwrapP (v : Value) (xT : TypeId) (w : World) : (Instr.typeAssert (.iface 149 v) xT 272 true).run Tryz.prog w = .ok (.tuple #[.nilIface, .bool false]) w := run_typeAssert_lacksB Tryz.underlying272 (by kernel_rfl) (by kernel_rfl) v xT w
theorem Tryz.noUnwrapsP (v : Value) (xT : TypeId) (w : World) : (Instr.typeAssert (.iface 149 v) xT 273 true).run Tryz.prog w = .ok (.tuple #[.nilIface, .bool false]) w := run_typeAssert_lacksB Tryz.underlying273 (by kernel_rfl) (by kernel_rfl) v xT w
theorem Tryz.typeOfO (v : Value) (w : World) : (ReflectliteType.typeOf #[.iface 150 v]).run Tryz.prog w = .ok (.iface 265 (.agg #[.pointer (some ⟨18, 150, none⟩)])) w := by kernel_rfl
theorem Tryz.noAsO (v : Value) (xT : TypeId) (w : World) : (Instr.typeAssert (.iface 150 v) xT 269 true).run Tryz.prog w = .ok (.tuple #[.nilIface, .bool false]) w := run_typeAssert_lacksB Tryz.underlying269 (by kernel_rfl) (by kernel_rfl) v xT w
theorem Tryz.noUnwrapO (v : Value) (xT : TypeId) (w : World) : (Instr.typeAssert (.iface 150 v) xT 272 true).run Tryz.prog w = .ok (.tuple #[.nilIface, .bool false]) w := run_typeAssert_lacksB Tryz.underlying272 (by kernel_rfl) (by kernel_rfl) v xT w
theorem Tryz.noUnwrapsO (v : Value) (xT : TypeId) (w : World) : (Instr.typeAssert (.iface 150 v) xT 273 true).run Tryz.prog w = .ok (.tuple #[.nilIface, .bool false]) w := run_typeAssert_lacksB Tryz.underlying273 (by kernel_rfl) (by kernel_rfl) v xT w
theorem Tryz.valueOf2P (t : Addr) (w : World) : (ReflectliteValue.unpack (.iface 152 (.pointer (some t)))).run Tryz.prog w
    = .ok (.agg #[.pointer (some ⟨18, 152, none⟩), .pointer (some ⟨w.heap.size, 0, none⟩), .int .u64 150]) (w.alloc (.cells #[.pointer (some t)] 152)) := by kernel_rfl
theorem Tryz.type2P (a : Addr) (w : World) : (ReflectliteValue.methodAny (ReflectliteValue.valueError "reflectlite.Value.Type" 0) (fun t _ _ _ => ReflectliteType.toType t) #[.agg #[.pointer (some ⟨18, 152, none⟩), .pointer (some a), .int .u64 150]]).run Tryz.prog w
    = .ok (.iface 265 (.agg #[.pointer (some ⟨18, 152, none⟩)])) w := by kernel_rfl
theorem Tryz.kind2P (w : World) : ((ReflectliteType.abiMethod fun t => (fun a : Nat => Value.int IntKind.u8 (a : Int)) <$> Rtype.kind t) #[.pointer (some ⟨18, 152, none⟩)]).run Tryz.prog w = .ok (.int .u8 22) w := by kernel_rfl
theorem Tryz.kind1P (w : World) : ((ReflectliteType.abiMethod fun t => (fun a : Nat => Value.int IntKind.u8 (a : Int)) <$> Rtype.kind t) #[.pointer (some ⟨18, 149, none⟩)]).run Tryz.prog w = .ok (.int .u8 22) w := by kernel_rfl
theorem Tryz.parts2P (a : Addr) (w : World) : (ReflectliteValue.parts (.agg #[.pointer (some ⟨18, 152, none⟩), .pointer (some a), .int .u64 150])).run Tryz.prog w = .ok (some (152, a, 150)) w := by kernel_rfl
theorem Tryz.isNil2P (a p : Addr) (W : World) (ha : W.cell? a = some (.pointer (some p))) :
    (ReflectliteValue.method (ReflectliteValue.valueError "reflectlite.Value.IsNil" 0) ReflectliteValue.isNil #[.agg #[.pointer (some ⟨18, 152, none⟩), .pointer (some a), .int .u64 150]]).run Tryz.prog W = .ok (.bool false) W := by
  rw [rlm]
  simp only [Sem.run_bind, Tryz.parts2P, Result.andThen]
  simp [ReflectliteValue.isNil, loadVar, isAgg, underlying, Tryz.underlying152, ha, Result.andThen]
theorem Tryz.elem2P (w : World) : (ReflectliteType.method ReflectliteType.elem #[.agg #[.pointer (some ⟨18, 152, none⟩)]]).run Tryz.prog w = .ok (.iface 265 (.agg #[.pointer (some ⟨18, 149, none⟩)])) w := by kernel_rfl
theorem Tryz.implementsP (w : World) : (ReflectliteType.relation "Implements" ReflectliteType.implements_ #[.agg #[.pointer (some ⟨18, 149, none⟩)], .iface 265 (.agg #[.pointer (some ⟨18, 50, none⟩)])]).run Tryz.prog w = .ok (.bool true) w := by kernel_rfl
theorem Tryz.valueOf1P (e : Addr) (w : World) : (ReflectliteValue.unpack (.iface 149 (.pointer (some e)))).run Tryz.prog w
    = .ok (.agg #[.pointer (some ⟨18, 149, none⟩), .pointer (some ⟨w.heap.size, 0, none⟩), .int .u64 150]) (w.alloc (.cells #[.pointer (some e)] 149)) := by kernel_rfl
theorem Tryz.elemOf2P (w : World) : (Rtype.elem? 152).run Tryz.prog w = .ok (some 149) w := by kernel_rfl
theorem Tryz.mk1P (p : Addr) (w : World) : (ReflectliteValue.mk 149 p ReflectliteValue.flagAddr).run Tryz.prog w = .ok (.agg #[.pointer (some ⟨18, 149, none⟩), .pointer (some p), .int .u64 406]) w := by kernel_rfl
theorem Tryz.elemV2P (a p : Addr) (W : World) (ha : W.cell? a = some (.pointer (some p))) :
    (ReflectliteValue.method (ReflectliteValue.valueError "reflectlite.Value.Elem" 0) ReflectliteValue.elem #[.agg #[.pointer (some ⟨18, 152, none⟩), .pointer (some a), .int .u64 150]]).run Tryz.prog W
      = .ok (.agg #[.pointer (some ⟨18, 149, none⟩), .pointer (some p), .int .u64 406]) W := by
  rw [rlm]
  simp only [Sem.run_bind, Tryz.parts2P, Result.andThen]
  simp [ReflectliteValue.elem, loadVar, isAgg, underlying, Tryz.underlying152, ha, Result.andThen, Tryz.elemOf2P, Tryz.mk1P]
theorem Tryz.parts1aP (a : Addr) (w : World) : (ReflectliteValue.parts (.agg #[.pointer (some ⟨18, 149, none⟩), .pointer (some a), .int .u64 406])).run Tryz.prog w = .ok (some (149, a, 406)) w := by kernel_rfl
theorem Tryz.parts1P (a : Addr) (w : World) : (ReflectliteValue.parts (.agg #[.pointer (some ⟨18, 149, none⟩), .pointer (some a), .int .u64 150])).run Tryz.prog w = .ok (some (149, a, 150)) w := by kernel_rfl
theorem Tryz.direct1P (w : World) : (Rtype.directlyAssignable 149 149).run Tryz.prog w = .ok true w := by kernel_rfl
theorem Tryz.set1P (ta b e : Addr) (old : Value) (W : World) (hb : W.cell? b = some (.pointer (some e))) (ht : W.cell? ta = some old) (hf : W.frozen? ta = false) :
    (ReflectliteValue.set #[.agg #[.pointer (some ⟨18, 149, none⟩), .pointer (some ta), .int .u64 406], .agg #[.pointer (some ⟨18, 149, none⟩), .pointer (some b), .int .u64 150]]).run Tryz.prog W
      = .ok (.tuple #[]) (W.setCell ta (.pointer (some e))) := by
  rw [rls]
  simp only [Sem.run_bind, Tryz.parts1aP, Tryz.parts1P, Result.andThen]
  simp [ReflectliteValue.flagAddr, loadVar, isAgg, underlying, Tryz.underlying149, hb, Result.andThen, Tryz.direct1P, storeVar, Value.cells, storeCells, Addr.add]
  rw [run_store Tryz.prog W ta _ _ (by rfl)]
  simp [ht, hf]
theorem Tryz.assignHP (w : World) : (ReflectliteType.relation "AssignableTo" ReflectliteType.assignableTo #[.agg #[.pointer (some ⟨18, 111, none⟩)], .iface 265 (.agg #[.pointer (some ⟨18, 149, none⟩)])]).run Tryz.prog w = .ok (.bool false) w := by kernel_rfl
theorem Tryz.assignEP (w : World) : (ReflectliteType.relation "AssignableTo" ReflectliteType.assignableTo #[.agg #[.pointer (some ⟨18, 349, none⟩)], .iface 265 (.agg #[.pointer (some ⟨18, 149, none⟩)])]).run Tryz.prog w = .ok (.bool false) w := by kernel_rfl
theorem Tryz.assignPP (w : World) : (ReflectliteType.relation "AssignableTo" ReflectliteType.assignableTo #[.agg #[.pointer (some ⟨18, 149, none⟩)], .iface 265 (.agg #[.pointer (some ⟨18, 149, none⟩)])]).run Tryz.prog w = .ok (.bool true) w := by kernel_rfl
theorem Tryz.assignOP (w : World) : (ReflectliteType.relation "AssignableTo" ReflectliteType.assignableTo #[.agg #[.pointer (some ⟨18, 150, none⟩)], .iface 265 (.agg #[.pointer (some ⟨18, 149, none⟩)])]).run Tryz.prog w = .ok (.bool false) w := by kernel_rfl
theorem Tryz.valueOf2O (t : Addr) (w : World) : (ReflectliteValue.unpack (.iface 156 (.pointer (some t)))).run Tryz.prog w
    = .ok (.agg #[.pointer (some ⟨18, 156, none⟩), .pointer (some ⟨w.heap.size, 0, none⟩), .int .u64 150]) (w.alloc (.cells #[.pointer (some t)] 156)) := by kernel_rfl
theorem Tryz.type2O (a : Addr) (w : World) : (ReflectliteValue.methodAny (ReflectliteValue.valueError "reflectlite.Value.Type" 0) (fun t _ _ _ => ReflectliteType.toType t) #[.agg #[.pointer (some ⟨18, 156, none⟩), .pointer (some a), .int .u64 150]]).run Tryz.prog w
    = .ok (.iface 265 (.agg #[.pointer (some ⟨18, 156, none⟩)])) w := by kernel_rfl
theorem Tryz.kind2O (w : World) : ((ReflectliteType.abiMethod fun t => (fun a : Nat => Value.int IntKind.u8 (a : Int)) <$> Rtype.kind t) #[.pointer (some ⟨18, 156, none⟩)]).run Tryz.prog w = .ok (.int .u8 22) w := by kernel_rfl
theorem Tryz.kind1O (w : World) : ((ReflectliteType.abiMethod fun t => (fun a : Nat => Value.int IntKind.u8 (a : Int)) <$> Rtype.kind t) #[.pointer (some ⟨18, 150, none⟩)]).run Tryz.prog w = .ok (.int .u8 22) w := by kernel_rfl
theorem Tryz.parts2O (a : Addr) (w : World) : (ReflectliteValue.parts (.agg #[.pointer (some ⟨18, 156, none⟩), .pointer (some a), .int .u64 150])).run Tryz.prog w = .ok (some (156, a, 150)) w := by kernel_rfl
theorem Tryz.isNil2O (a p : Addr) (W : World) (ha : W.cell? a = some (.pointer (some p))) :
    (ReflectliteValue.method (ReflectliteValue.valueError "reflectlite.Value.IsNil" 0) ReflectliteValue.isNil #[.agg #[.pointer (some ⟨18, 156, none⟩), .pointer (some a), .int .u64 150]]).run Tryz.prog W = .ok (.bool false) W := by
  rw [rlm]
  simp only [Sem.run_bind, Tryz.parts2O, Result.andThen]
  simp [ReflectliteValue.isNil, loadVar, isAgg, underlying, Tryz.underlying156, ha, Result.andThen]
theorem Tryz.elem2O (w : World) : (ReflectliteType.method ReflectliteType.elem #[.agg #[.pointer (some ⟨18, 156, none⟩)]]).run Tryz.prog w = .ok (.iface 265 (.agg #[.pointer (some ⟨18, 150, none⟩)])) w := by kernel_rfl
theorem Tryz.implementsO (w : World) : (ReflectliteType.relation "Implements" ReflectliteType.implements_ #[.agg #[.pointer (some ⟨18, 150, none⟩)], .iface 265 (.agg #[.pointer (some ⟨18, 50, none⟩)])]).run Tryz.prog w = .ok (.bool true) w := by kernel_rfl
theorem Tryz.valueOf1O (e : Addr) (w : World) : (ReflectliteValue.unpack (.iface 150 (.pointer (some e)))).run Tryz.prog w
    = .ok (.agg #[.pointer (some ⟨18, 150, none⟩), .pointer (some ⟨w.heap.size, 0, none⟩), .int .u64 150]) (w.alloc (.cells #[.pointer (some e)] 150)) := by kernel_rfl
theorem Tryz.elemOf2O (w : World) : (Rtype.elem? 156).run Tryz.prog w = .ok (some 150) w := by kernel_rfl
theorem Tryz.mk1O (p : Addr) (w : World) : (ReflectliteValue.mk 150 p ReflectliteValue.flagAddr).run Tryz.prog w = .ok (.agg #[.pointer (some ⟨18, 150, none⟩), .pointer (some p), .int .u64 406]) w := by kernel_rfl
theorem Tryz.elemV2O (a p : Addr) (W : World) (ha : W.cell? a = some (.pointer (some p))) :
    (ReflectliteValue.method (ReflectliteValue.valueError "reflectlite.Value.Elem" 0) ReflectliteValue.elem #[.agg #[.pointer (some ⟨18, 156, none⟩), .pointer (some a), .int .u64 150]]).run Tryz.prog W
      = .ok (.agg #[.pointer (some ⟨18, 150, none⟩), .pointer (some p), .int .u64 406]) W := by
  rw [rlm]
  simp only [Sem.run_bind, Tryz.parts2O, Result.andThen]
  simp [ReflectliteValue.elem, loadVar, isAgg, underlying, Tryz.underlying156, ha, Result.andThen, Tryz.elemOf2O, Tryz.mk1O]
theorem Tryz.parts1aO (a : Addr) (w : World) : (ReflectliteValue.parts (.agg #[.pointer (some ⟨18, 150, none⟩), .pointer (some a), .int .u64 406])).run Tryz.prog w = .ok (some (150, a, 406)) w := by kernel_rfl
theorem Tryz.parts1O (a : Addr) (w : World) : (ReflectliteValue.parts (.agg #[.pointer (some ⟨18, 150, none⟩), .pointer (some a), .int .u64 150])).run Tryz.prog w = .ok (some (150, a, 150)) w := by kernel_rfl
theorem Tryz.direct1O (w : World) : (Rtype.directlyAssignable 150 150).run Tryz.prog w = .ok true w := by kernel_rfl
theorem Tryz.set1O (ta b e : Addr) (old : Value) (W : World) (hb : W.cell? b = some (.pointer (some e))) (ht : W.cell? ta = some old) (hf : W.frozen? ta = false) :
    (ReflectliteValue.set #[.agg #[.pointer (some ⟨18, 150, none⟩), .pointer (some ta), .int .u64 406], .agg #[.pointer (some ⟨18, 150, none⟩), .pointer (some b), .int .u64 150]]).run Tryz.prog W
      = .ok (.tuple #[]) (W.setCell ta (.pointer (some e))) := by
  rw [rls]
  simp only [Sem.run_bind, Tryz.parts1aO, Tryz.parts1O, Result.andThen]
  simp [ReflectliteValue.flagAddr, loadVar, isAgg, underlying, Tryz.underlying150, hb, Result.andThen, Tryz.direct1O, storeVar, Value.cells, storeCells, Addr.add]
  rw [run_store Tryz.prog W ta _ _ (by rfl)]
  simp [ht, hf]
theorem Tryz.assignHO (w : World) : (ReflectliteType.relation "AssignableTo" ReflectliteType.assignableTo #[.agg #[.pointer (some ⟨18, 111, none⟩)], .iface 265 (.agg #[.pointer (some ⟨18, 150, none⟩)])]).run Tryz.prog w = .ok (.bool false) w := by kernel_rfl
theorem Tryz.assignEO (w : World) : (ReflectliteType.relation "AssignableTo" ReflectliteType.assignableTo #[.agg #[.pointer (some ⟨18, 349, none⟩)], .iface 265 (.agg #[.pointer (some ⟨18, 150, none⟩)])]).run Tryz.prog w = .ok (.bool false) w := by kernel_rfl
theorem Tryz.assignPO (w : World) : (ReflectliteType.relation "AssignableTo" ReflectliteType.assignableTo #[.agg #[.pointer (some ⟨18, 149, none⟩)], .iface 265 (.agg #[.pointer (some ⟨18, 150, none⟩)])]).run Tryz.prog w = .ok (.bool false) w := by kernel_rfl
theorem Tryz.assignOO (w : World) : (ReflectliteType.relation "AssignableTo" ReflectliteType.assignableTo #[.agg #[.pointer (some ⟨18, 150, none⟩)], .iface 265 (.agg #[.pointer (some ⟨18, 150, none⟩)])]).run Tryz.prog w = .ok (.bool true) w := by kernel_rfl
end Go.Proofs.YtaghcjpoihkpjaaGreatDoor
