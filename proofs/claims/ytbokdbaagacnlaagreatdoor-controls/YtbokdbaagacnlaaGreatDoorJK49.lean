/-
 WITHOUT A PROGRAM THERE IS NO CONTROLLER.
-/
import Derived.Test.YtbokdbaagacnlaaGreatDoorJK27
import Derived.Test.YtbokdbaagacnlaaGreatDoorJK36
import Derived.Test.YtbokdbaagacnlaaGreatDoorJK35
import Derived.Test.YtbokdbaagacnlaaGreatDoorJK39
import Derived.Test.YtbokdbaagacnlaaGreatDoorJK48
import Derived.Deep.Slices
import Derived.Deep.Strs
import Derived.Lib.SmallJoins
import Derived.Carry
import Derived.ProofKit
namespace Go.Proofs.YtbokdbaagacnlaaGreatDoor
open Go.RowKit Go.Lib
set_option maxRecDepth 1000000 in
set_option maxHeartbeats 1000000 in
theorem code_none (w : World) : Calls Tryz.prog 54 #[.pointer none] w fun e w' => e = .returned (.bool true) ∧ w' = w := by
 go_enter Tryz.func54, Tryz.ntmps54
 go_wp2
 go_ret
 exact ⟨rfl, rfl⟩
set_option maxRecDepth 1000000 in
set_option maxHeartbeats 1000000 in
theorem code_New_nil {A : Nat → Addr} {w : World} (hS : Sents A w) {min max step up down count : Int} :
  Calls Tryz.prog 34 #[.pointer none, .agg #[.int .i64 min, .int .i64 max, .int .i64 step, .int .i64 up, .int .i64 down], .int .i64 count] w fun e w' => e = .returned (.tuple #[.pointer none, .iface 416 (.pointer (some (A 2)))]) ∧ Below w.heap.size w w' := by
 have hB0 : Below w.heap.size w (w.alloc (.cells #[.int .i64 min, .int .i64 max, .int .i64 step, .int .i64 up, .int .i64 down] 99)) := (Below.refl _ _).alloc (Nat.le_refl _) _
 have hem := code_none (w.alloc (.cells #[.int .i64 min, .int .i64 max, .int .i64 step, .int .i64 up, .int .i64 down] 99))
 have g2 := (hS.below hB0).g2
 have HB : Hid _ := hB0
 clear hB0 hS
 go_enter Tryz.func34, Tryz.ntmps34
 go_wp2_with fail
 refine hem.mono ?_
 rintro e w1 ⟨rfl, rfl⟩
 clear hem
 go_wp2_with fail
 go_region
 all_goals
  go_wp2
  go_ret2
  exact ⟨rfl, HB.out.drew⟩
set_option maxRecDepth 1000000 in
set_option maxHeartbeats 1000000 in
theorem controller_nil {w : World} {ao : Option Addr} {cp : Nat} {L : List Int} {count : Int} (hL : NumsAt w ao L) {a : Addr}
  (hnew : ∀ W, Below w.heap.size w W → Calls Tryz.prog 34 #[.pointer none, limV L, .int .i64 count] W fun e w' => e = .returned (.tuple #[.pointer none, .iface 416 (.pointer (some a))]) ∧ Below W.heap.size W w')
  (hof : ∀ W, Below w.heap.size w W → Calls Tryz.prog 35 #[.iface 416 (.pointer (some a))] W fun e w' => e = .returned (.agg #[.int .i64 5, .int .i64 0, .int .i64 0, .string { data := #[] }]) ∧ Below W.heap.size W w') :
  Calls Tryz.prog 17 #[.pointer none, .slice ao L.length cp, .int .i64 count] w fun e w' => e = .returned (.tuple #[.pointer none, begV false false 5]) ∧ Below w.heap.size w w' := by
 have hB1 : Below w.heap.size w ((w.alloc (.cells #[.bool false, .bool false, .int .i64 0, .int .i64 0, .int .i64 0, .string { data := #[] }] 27)).alloc (.cells #[.int .i64 0, .int .i64 0, .int .i64 0, .int .i64 0, .int .i64 0] 95)) := ((Below.refl _ _).alloc (Nat.le_refl _) _).alloc (by simp) _
 have hg : ((w.alloc (.cells #[.bool false, .bool false, .int .i64 0, .int .i64 0, .int .i64 0, .string { data := #[] }] 27)).alloc (.cells #[.int .i64 0, .int .i64 0, .int .i64 0, .int .i64 0, .int .i64 0] 95)).heap[w.heap.size + 1]? = some (.cells #[.int .i64 0, .int .i64 0, .int .i64 0, .int .i64 0, .int .i64 0] 95 (0, 0)) := by
  have := heap_alloc_new (w.alloc (.cells #[.bool false, .bool false, .int .i64 0, .int .i64 0, .int .i64 0, .string { data := #[] }] 27)) (.cells #[.int .i64 0, .int .i64 0, .int .i64 0, .int .i64 0, .int .i64 0] 95)
  simpa using this
 obtain ⟨m, w2, hrun, h5, hk⟩ := run_copy5 hg (hL.below hB1) (cp := cp) 3
 have a0 := cell_of_heap (i := 0) (v := .int .i64 (L.getD 0 0)) h5 rfl
 have a1 := cell_of_heap (i := 1) (v := .int .i64 (L.getD 1 0)) h5 rfl
 have a2 := cell_of_heap (i := 2) (v := .int .i64 (L.getD 2 0)) h5 rfl
 have a3 := cell_of_heap (i := 3) (v := .int .i64 (L.getD 3 0)) h5 rfl
 have a4 := cell_of_heap (i := 4) (v := .int .i64 (L.getD 4 0)) h5 rfl
 have hB2 : Below w.heap.size w w2 := ⟨hk.os.trans hB1.os, hk.tape.trans hB1.tape, hk.output.trans hB1.output, Nat.le_trans hB1.size hk.size, fun k lt => (hk.block k (Nat.lt_of_lt_of_le lt hB1.size) (by omega)).trans (hB1.block k lt)⟩
 have hres : w2.heap[w.heap.size]? = some (.cells #[.bool false, .bool false, .int .i64 0, .int .i64 0, .int .i64 0, .string { data := #[] }] 27 (0, 0)) := (hk.block _ (by simp; omega) (by omega)).trans (heap_alloc_old (heap_alloc_new _ _))
 have hnw := hnew w2 hB2
 have HB : Hid _ := And.intro hB1 (And.intro hg (And.intro hres hB2))
 clear hB1 hg hL hk h5 hB2 hnew hres
 unfold limV at hnw
 generalize L.getD 0 0 = l0 at *
 generalize L.getD 1 0 = l1 at *
 generalize L.getD 2 0 = l2 at *
 generalize L.getD 3 0 = l3 at *
 generalize L.getD 4 0 = l4 at *
 generalize L.length = n at *
 go_enter Tryz.func17, Tryz.ntmps17
 go_wp2_with fail
 refine hnw.mono ?_
 rintro e w3 ⟨rfl, hb3⟩
 have hB3 : Below w.heap.size w w3 := HB.out.2.2.2.trans (hb3.mono HB.out.2.2.2.size)
 have hr3 := (hb3.block _ (heap_lt HB.out.2.2.1)).trans HB.out.2.2.1
 have hof := hof w3 hB3
 have H3 : Hid _ := And.intro hB3 hr3
 clear hnw hb3 hB3 hr3
 go_wp2_with fail
 refine hof.mono ?_
 rintro e w4 ⟨rfl, hb4⟩
 have hr4 := (hb4.block _ (heap_lt H3.out.2)).trans H3.out.2
 have H4 : Hid (Below w.heap.size w w4) := H3.out.1.trans (hb4.mono H3.out.1.size)
 have rc0 := cell_of_heap (i := 0) (v := .bool false) hr4 rfl
 have rc1 := cell_of_heap (i := 1) (v := .bool false) hr4 rfl
 have rc2 := cell_of_heap (i := 2) (v := .int .i64 0) hr4 rfl
 have rc3 := cell_of_heap (i := 3) (v := .int .i64 0) hr4 rfl
 have rc4 := cell_of_heap (i := 4) (v := .int .i64 0) hr4 rfl
 have rc5 := cell_of_heap (i := 5) (v := .string { data := #[] }) hr4 rfl
 have rz0 := frozen_of_heap (i := 0) hr4
 have rz1 := frozen_of_heap (i := 1) hr4
 have rz2 := frozen_of_heap (i := 2) hr4
 have rz3 := frozen_of_heap (i := 3) hr4
 have rz4 := frozen_of_heap (i := 4) hr4
 have rz5 := frozen_of_heap (i := 5) hr4
 clear hof hb4 hr4
 go_wp2
 refine bodyPost_ret (v := .tuple #[.pointer none, begV false false 5]) (by simp [results, Tryz.results17, go_sem, rc0, rc1, rc2, rc3, rc4, rc5]) rfl ?_
 exact ⟨rfl, by (iterate 6 (refine Below.setCell ?_ (by exact Nat.le_refl _) _)); exact H4.out⟩
end Go.Proofs.YtbokdbaagacnlaaGreatDoor
namespace Go.Proofs.YtbokdbaagacnlaaGreatDoor
open Go.RowKit Go.Lib
theorem nums091 {w : World} {g : Nat} (h : w.heap[g]? = some (Obj.cells #[.int .i64 0, .int .i64 9, .int .i64 1] 2 (0, 0))) : NumsAt w (some ⟨g, 0, none⟩) [0, 9, 1] := fun j v hv => by
 refine ⟨g, 0, rfl, ?_⟩
 rw [Nat.zero_add]
 match j, hv with
 | 0, hv => simp at hv; subst hv; exact cell_of_heap h rfl
 | 1, hv => simp at hv; subst hv; exact cell_of_heap h rfl
 | 2, hv => simp at hv; subst hv; exact cell_of_heap h rfl
 | n + 3, hv => simp at hv
theorem nil_call {A : Nat → Addr} {w : World} (hs : SentsX A w) {g : Nat} (h : w.heap[g]? = some (Obj.cells #[.int .i64 0, .int .i64 9, .int .i64 1] 2 (0, 0))) :
  Calls Tryz.prog 17 #[.pointer none, .slice (some ⟨g, 0, none⟩) 3 3, .int .i64 0] w fun e w' => e = .returned (.tuple #[.pointer none, begV false false 5]) ∧ Below w.heap.size w w' :=
 controller_nil (L := [0, 9, 1]) (count := 0) (cp := 3) (nums091 h) (fun _ hW => code_New_nil (hs.below hW).sents) (fun _ hW => of_limits (hs.below hW))
set_option maxRecDepth 1000000 in
set_option maxHeartbeats 1000000 in
theorem plain_NoProgram {A : Nat → Addr} {w : World} (hA : SentsX A w) :
  Calls Tryz.prog 5 #[] w fun e w' => e = .returned (begV false false 5) ∧ Below w.heap.size w w' := by
 have HA : Hid _ := hA
 clear hA
 go_enter Tryz.func5, Tryz.ntmps5
 go_wp2_with fail
 have hb1 : Below w.heap.size w ((w.alloc (.cells #[.bool false, .bool false, .int .i64 0, .int .i64 0, .int .i64 0, .string { data := #[] }] 27)).alloc (.cells #[.int .i64 0, .int .i64 9, .int .i64 1] 2)) := ((Below.refl _ _).alloc (Nat.le_refl _) _).alloc (by simp) _
 have hr1 : ((w.alloc (.cells #[.bool false, .bool false, .int .i64 0, .int .i64 0, .int .i64 0, .string { data := #[] }] 27)).alloc (.cells #[.int .i64 0, .int .i64 9, .int .i64 1] 2)).heap[w.heap.size]? = some (Obj.cells #[.bool false, .bool false, .int .i64 0, .int .i64 0, .int .i64 0, .string { data := #[] }] 27 (0, 0)) := heap_alloc_old (heap_alloc_new _ _)
 have hl1 : ((w.alloc (.cells #[.bool false, .bool false, .int .i64 0, .int .i64 0, .int .i64 0, .string { data := #[] }] 27)).alloc (.cells #[.int .i64 0, .int .i64 9, .int .i64 1] 2)).heap[w.heap.size + 1]? = some (Obj.cells #[.int .i64 0, .int .i64 9, .int .i64 1] 2 (0, 0)) := heap_alloc_new9 _ _ (by simp)
 have hcall := nil_call (HA.out.below hb1) hl1
 refine hcall.mono ?_
 rintro e w2 ⟨rfl, hb2⟩
 have hr2 := (hb2.block _ (heap_lt hr1)).trans hr1
 have HB : Hid (Below w.heap.size w w2) := hb1.trans (hb2.mono (by simp; omega))
 have rc0 := cell_of_heap (i := 0) (v := .bool false) hr2 rfl
 have rc1 := cell_of_heap (i := 1) (v := .bool false) hr2 rfl
 have rc2 := cell_of_heap (i := 2) (v := .int .i64 0) hr2 rfl
 have rc3 := cell_of_heap (i := 3) (v := .int .i64 0) hr2 rfl
 have rc4 := cell_of_heap (i := 4) (v := .int .i64 0) hr2 rfl
 have rc5 := cell_of_heap (i := 5) (v := .string { data := #[] }) hr2 rfl
 have rz0 := frozen_of_heap (i := 0) hr2
 have rz1 := frozen_of_heap (i := 1) hr2
 have rz2 := frozen_of_heap (i := 2) hr2
 have rz3 := frozen_of_heap (i := 3) hr2
 have rz4 := frozen_of_heap (i := 4) hr2
 have rz5 := frozen_of_heap (i := 5) hr2
 have lw := heap_lt hr2
 clear hb1 hr1 hl1 hcall hb2 hr2
 go_wp2
 refine bodyPost_ret (v := begV false false 5) (by simp [results, Tryz.results5, go_sem, rc0, rc1, rc2, rc3, rc4, rc5, lw]) rfl ?_
 refine ⟨rfl, Below.alloc ?_ (by simp; omega) _⟩
 iterate 6 (refine Below.setCell ?_ (by exact Nat.le_refl _) _)
 exact HB.out
end Go.Proofs.YtbokdbaagacnlaaGreatDoor
namespace Go.Proofs.YtbokdbaagacnlaaGreatDoor
open Go.RowKit Go.Lib Go.Shelf
def EvsL (w : World) (bo : Option Addr) (E : List (Bool × Int × Int × Int)) : Prop := ∀ (i : Nat) (q : Bool × Int × Int × Int), E[i]? = some q → In64 q.2.1 ∧ In64 q.2.2.1 ∧ In64 q.2.2.2 ∧ ∃ C off, bo = some ⟨C, off, none⟩ ∧ w.cell? ⟨C, off + i * 4, none⟩ = some (.bool q.1) ∧ w.cell? ⟨C, off + i * 4 + 1, none⟩ = some (.int .i64 q.2.1) ∧ w.cell? ⟨C, off + i * 4 + 2, none⟩ = some (.int .i64 q.2.2.1) ∧ w.cell? ⟨C, off + i * 4 + 3, none⟩ = some (.int .i64 q.2.2.2)
set_option maxRecDepth 1000000 in
set_option maxHeartbeats 4000000 in
theorem law_Controls {s : ByteArray} (hs : s.size ≤ 9223372036854775807) {A : Nat → Addr} {w : World} (hT : TabsR w) (hA : SentsX A w) {ao oo bo : Option Addr} {cp co cq : Nat} {L O : List Int} {count : Int} {E : List (Bool × Int × Int × Int)} (hL : NumsAt w ao L) (hl : ∀ v ∈ L, In64 v) (hO : NumsAt w oo O) (ho : ∀ v ∈ O, In64 v) (hE : EvsL w bo E) :
  Calls Tryz.prog 3 #[.string s, .slice ao L.length cp, .slice oo O.length co, .int .i64 count, .slice bo E.length cq] w fun e w' => e = .returned (.bool true) ∧ Below w.heap.size w w' := by
 have hnp := plain_NoProgram hA
 have HBG : Hid (∀ W, Below w.heap.size w W → Calls Tryz.prog 6 #[.string s, .slice ao L.length cp, .int .i64 count] W fun e w' => BegunP A s W e w') := fun W hW => law_begun hs (hT.below hW) (hA.below hW) (hL.below hW) hl
 have HBO : Hid (∀ W, Below w.heap.size w W → Calls Tryz.prog 6 #[.string s, .slice oo O.length co, .int .i64 count] W fun e w' => BegunP A s W e w') := fun W hW => law_begun hs (hT.below hW) (hA.below hW) (hO.below hW) ho
 have HX : Hid _ := And.intro hA hE
 clear hT hA hL hl hO ho hE
 by_cases hbig : 1073741824 < (E.length : Int)
 ·go_enter Tryz.func3, Tryz.ntmps3
  go_wp2_with fail
  refine hnp.mono ?_
  rintro e w1 ⟨rfl, hb1⟩
  have H1 : Hid _ := hb1
  clear hnp hb1
  go_wp2
  go_ret
  exact ⟨rfl, H1.out.alloc H1.out.size _⟩
 go_enter Tryz.func3, Tryz.ntmps3
 go_wp2_with fail
 refine hnp.mono ?_
 rintro e w0 ⟨rfl, hb0⟩
 have hW1 : Below w.heap.size w (w0.alloc (.cells #[.bool false, .bool false, .int .i64 5, .int .i64 0, .int .i64 0, .string { data := #[] }] 27)) := hb0.alloc hb0.size _
 have hbg := HBG.out _ hW1
 have HW1 : Hid _ := hW1
 clear hnp hb0 hW1
 go_wp2_with fail
 refine hbg.mono ?_
 rintro e w2 ⟨cv, rv, nv, rfl, hb2, hc⟩
 have hW2 : Below w.heap.size w w2 := HW1.out.trans (hb2.mono HW1.out.size)
 have hbo := HBO.out _ hW2
 have HB2 : Hid _ := And.intro hb2 hW2
 clear hbg hb2 hW2
 rcases hc with rfl | ⟨t, x, r, Z, N, hpt, rfl, rfl, hn, hp, hz, hN⟩
 ·go_wp2_with fail
  refine hbo.mono ?_
  rintro e w3 ⟨cv2, rv2, nv2, rfl, hb3, hc2⟩
  have H3 : Hid (Below w.heap.size w w3) := HB2.out.2.trans (hb3.mono HB2.out.2.size)
  clear hbo hb3 hc2
  go_wp2
  go_ret
  exact ⟨rfl, H3.out⟩
 have HP : Hid _ := And.intro hpt (And.intro hn hp)
 clear hpt hn hp hz hN
 go_wp2_with fail
 refine hbo.mono ?_
 rintro e w3 ⟨cv2, rv2, nv2, rfl, hb3, hc2⟩
 have H0 : Hid _ := two_new (HX.out.1.below HW1.out) HB2.out.1 HP.out.1 HP.out.2.1 HP.out.2.2 hb3 hc2
 clear hbo hb3 hc2
 have HBW : Hid (∀ {i x r : Nat} {dv sv : Value} {wr : World}, Two A (w0.alloc (.cells #[.bool false, .bool false, .int .i64 5, .int .i64 0, .int .i64 0, .string { data := #[] }] 27)) t N (.pointer nv) i x r dv sv wr → Below w.heap.size w wr) := fun h => HW1.out.trans (h.below.mono HW1.out.size)
 go_wp2_with fail
 go_loopw [12, 13, 15, 16, 17, 20] (fun v7 v8 v10 v11 v12 v15 wr => ∃ (i x r : Nat), v15 = .int .i64 i ∧ i ≤ E.length ∧ v7 = ptr x ∧ v8 = ptr r ∧ v10 = .bool true ∧ (∃ d s, v11 = .pointer d ∧ v12 = .pointer s) ∧ Hid (Two A (w0.alloc (.cells #[.bool false, .bool false, .int .i64 5, .int .i64 0, .int .i64 0, .string { data := #[] }] 27)) t N (.pointer nv) i x r v11 v12 wr)) (fun _ _ _ _ _ v15 _ => E.length - (intOf v15).toNat)
 case atStart => exact ⟨0, _, _, rfl, Nat.zero_le _, rfl, rfl, rfl, ⟨_, _, rfl, rfl⟩, H0⟩
 case round =>
  clear H0
  obtain ⟨i, x, r, rfl, hi, rfl, rfl, rfl, ⟨dv, sv, rfl, rfl⟩, HI⟩ := hrel
  rcases Nat.lt_or_ge i E.length with hlt | hge
  ·obtain ⟨⟨tk, M, v, tm⟩, hq⟩ : ∃ q, E[i]? = some q := ⟨E[i], List.getElem?_eq_getElem hlt⟩
   obtain ⟨hM, hv, ht, C, off, rfl, c0, c1, c2, c3⟩ := HX.out.2 i _ hq
   have hbr : Below w.heap.size w wr := HBW.out HI.out
   have HC : Hid _ := And.intro c0 (And.intro c1 (And.intro c2 c3))
   have c0 := cell_up hbr c0
   have c1 := cell_up hbr c1
   have c2 := cell_up hbr c2
   have c3 := cell_up hbr c3
   have hlt2 : (i : Int) < E.length := by omega
   have hev := HI.out.event (tk := tk) (M := M) (v := v) (tm := tm)
   have HBR : Hid _ := hbr
   clear hq hbr
   simp only at c0 c1 c2 c3 hv ht hM
   go_wp2_with fail
   refine hev.mono ?_
   rintro e w4 ⟨name, rfl, hb4⟩
   have hb4w := HBR.out.trans (hb4.mono HBR.out.size)
   have m1 := cell_up hb4w HC.out.2.1
   have HE2 : Hid _ := And.intro hb4 hb4w
   have lC := World.block_lt_of_cell? _ _ m1
   simp only at lC
   have m1 : w4.cell? ⟨C, off + i * 4 + 1, none⟩ = some (.int .i64 M) := m1
   clear hev c0 c1 c2 c3 hb4 hb4w
   rcases HI.out.mate with ⟨hd, -⟩ | ⟨y, q, hd, hq2, htw2⟩
   ·injection hd with hd
    subst hd
    cases tk with
    | false =>
     have hfd := ((Two.go HI.out HE2.out.1).go ((Below.refl _ _).alloc (Nat.le_refl _) (.cells #[.bool false, .string name, .int .i64 v, .int .i64 tm] 35))).feed (tk := false) (by omega) name hv ht
     go_wp2_with fail
     refine hfd.mono ?_
     rintro e w5 ⟨rfl, htw⟩
     have HTW : Hid _ := htw
     clear hfd htw
     go_wp2
     go_roundw
     case rel => exact ⟨i + 1, _, _, by go_num, by omega, rfl, rfl, rfl, ⟨_, _, rfl, rfl⟩, HTW⟩
     case measure => simp [intOf]; omega
    | true =>
     have htk := ((Two.go HI.out HE2.out.1).go ((Below.refl _ _).alloc (Nat.le_refl _) (.cells #[.bool true, .string name, .int .i64 v, .int .i64 tm] 35))).tick ht
     go_wp2_with fail
     refine htk.mono ?_
     rintro e w5 ⟨n, d, p, m, rfl, hkq, hrt⟩
     have ho5 := hkq _ _ _ (.inr (.inl rfl)) (heap_alloc_new w4 (.cells #[.bool true, .string name, .int .i64 v, .int .i64 tm] 35))
     have o3 := cell_of_heap (i := 3) (v := .int .i64 tm) ho5 rfl
     have lo5 := heap_lt ho5
     have hrt2 := hrt _ ((Below.refl _ _).alloc (Nat.le_refl _) (.cells #[.int .i64 tm, .int .i64 n, .int .i64 0, .int .i64 0, .int .i64 d, .int .i64 p, .int .i64 m, .string { data := #[] }] 40))
     have HO5 : Hid _ := ho5
     clear htk hkq hrt ho5
     go_wp2_with fail
     refine hrt2.mono ?_
     rintro e w6 ⟨rfl, hkq2, htw⟩
     have ho6 := hkq2 _ _ _ (.inr (.inl rfl)) (heap_alloc_old HO5.out)
     have hx6 := hkq2 _ _ _ (.inr (.inr (.inl rfl))) (heap_alloc_new w5 (.cells #[.int .i64 tm, .int .i64 n, .int .i64 0, .int .i64 0, .int .i64 d, .int .i64 p, .int .i64 m, .string { data := #[] }] 40))
     have o3 := cell_of_heap (i := 3) (v := .int .i64 tm) ho6 rfl
     have x0 := cell_of_heap (i := 0) (v := .int .i64 tm) hx6 rfl
     have x1 := cell_of_heap (i := 1) (v := .int .i64 n) hx6 rfl
     have x2 := cell_of_heap (i := 2) (v := .int .i64 0) hx6 rfl
     have x3 := cell_of_heap (i := 3) (v := .int .i64 0) hx6 rfl
     have x4 := cell_of_heap (i := 4) (v := .int .i64 d) hx6 rfl
     have x5 := cell_of_heap (i := 5) (v := .int .i64 p) hx6 rfl
     have x6 := cell_of_heap (i := 6) (v := .int .i64 m) hx6 rfl
     have x7 := cell_of_heap (i := 7) (v := .string { data := #[] }) hx6 rfl
     have lo6 := heap_lt ho6
     have lx6 := heap_lt hx6
     have HTW : Hid _ := htw
     clear hrt2 hkq2 htw ho6 hx6
     go_wp2_with fail
     refine (law_same _ tm n d p m).mono ?_
     rintro e w7 ⟨rfl, hb7⟩
     have HF : Hid _ := ((Two.go HTW.out ((Below.refl _ _).alloc (Nat.le_refl _) _)).go hb7).more (Nat.le_succ i)
     clear hb7
     go_wp2
     go_roundw
     case rel => exact ⟨i + 1, _, _, by go_num, by omega, rfl, rfl, rfl, ⟨_, _, rfl, rfl⟩, HF⟩
     case measure => simp [intOf]; omega
   ·injection hd with hd
    injection hq2 with hq2
    subst hd hq2
    have HS : Hid _ := htw2
    clear htw2
    by_cases hM2 : M = 2
    ·subst hM2
     cases tk with
     | false =>
      have hfd := ((Two.go HS.out HE2.out.1).go ((Below.refl _ _).alloc (Nat.le_refl _) (.cells #[.bool false, .string name, .int .i64 v, .int .i64 tm] 35))).feed (tk := false) (by omega) name hv ht
      go_wp2_with fail
      refine hfd.mono ?_
      rintro e w5 ⟨rfl, htw⟩
      have HTW : Hid _ := htw
      clear hfd htw
      go_wp2
      go_roundw
      case rel => exact ⟨i + 1, _, _, by go_num, by omega, rfl, rfl, rfl, ⟨_, _, rfl, rfl⟩, HTW⟩
      case measure => simp [intOf]; omega
     | true =>
      have htk := ((Two.go HS.out HE2.out.1).go ((Below.refl _ _).alloc (Nat.le_refl _) (.cells #[.bool true, .string name, .int .i64 v, .int .i64 tm] 35))).tick ht
      go_wp2_with fail
      refine htk.mono ?_
      rintro e w5 ⟨n, d, p, m, rfl, hkq, hrt⟩
      have ho5 := hkq _ _ _ (.inr (.inl rfl)) (heap_alloc_new w4 (.cells #[.bool true, .string name, .int .i64 v, .int .i64 tm] 35))
      have o3 := cell_of_heap (i := 3) (v := .int .i64 tm) ho5 rfl
      have lo5 := heap_lt ho5
      have hrt2 := hrt _ ((Below.refl _ _).alloc (Nat.le_refl _) (.cells #[.int .i64 tm, .int .i64 n, .int .i64 0, .int .i64 0, .int .i64 d, .int .i64 p, .int .i64 m, .string { data := #[] }] 40))
      have HO5 : Hid _ := ho5
      clear htk hkq hrt ho5
      go_wp2_with fail
      refine hrt2.mono ?_
      rintro e w6 ⟨rfl, hkq2, htw⟩
      have ho6 := hkq2 _ _ _ (.inr (.inl rfl)) (heap_alloc_old HO5.out)
      have hx6 := hkq2 _ _ _ (.inr (.inr (.inl rfl))) (heap_alloc_new w5 (.cells #[.int .i64 tm, .int .i64 n, .int .i64 0, .int .i64 0, .int .i64 d, .int .i64 p, .int .i64 m, .string { data := #[] }] 40))
      have o3 := cell_of_heap (i := 3) (v := .int .i64 tm) ho6 rfl
      have x0 := cell_of_heap (i := 0) (v := .int .i64 tm) hx6 rfl
      have x1 := cell_of_heap (i := 1) (v := .int .i64 n) hx6 rfl
      have x2 := cell_of_heap (i := 2) (v := .int .i64 0) hx6 rfl
      have x3 := cell_of_heap (i := 3) (v := .int .i64 0) hx6 rfl
      have x4 := cell_of_heap (i := 4) (v := .int .i64 d) hx6 rfl
      have x5 := cell_of_heap (i := 5) (v := .int .i64 p) hx6 rfl
      have x6 := cell_of_heap (i := 6) (v := .int .i64 m) hx6 rfl
      have x7 := cell_of_heap (i := 7) (v := .string { data := #[] }) hx6 rfl
      have lo6 := heap_lt ho6
      have lx6 := heap_lt hx6
      have HTW : Hid _ := htw
      clear hrt2 hkq2 htw ho6 hx6
      go_wp2_with fail
      refine (law_same _ tm n d p m).mono ?_
      rintro e w7 ⟨rfl, hb7⟩
      have HF : Hid _ := ((Two.go HTW.out ((Below.refl _ _).alloc (Nat.le_refl _) _)).go hb7).more (Nat.le_succ i)
      clear hb7
      go_wp2
      go_roundw
      case rel => exact ⟨i + 1, _, _, by go_num, by omega, rfl, rfl, rfl, ⟨_, _, rfl, rfl⟩, HF⟩
      case measure => simp [intOf]; omega
    ·have hM3 : (M == 2) = false := by simpa using hM2
     cases tk with
     | false =>
      have hfd := ((Two.go HI.out HE2.out.1).go ((Below.refl _ _).alloc (Nat.le_refl _) (.cells #[.bool false, .string name, .int .i64 v, .int .i64 tm] 35))).feed (tk := false) (by omega) name hv ht
      go_wp2_with fail
      refine hfd.mono ?_
      rintro e w5 ⟨rfl, htw⟩
      have HTW : Hid _ := htw
      clear hfd htw
      go_wp2
      go_roundw
      case rel => exact ⟨i + 1, _, _, by go_num, by omega, rfl, rfl, rfl, ⟨_, _, rfl, rfl⟩, HTW⟩
      case measure => simp [intOf]; omega
     | true =>
      have htk := ((Two.go HI.out HE2.out.1).go ((Below.refl _ _).alloc (Nat.le_refl _) (.cells #[.bool true, .string name, .int .i64 v, .int .i64 tm] 35))).tick ht
      go_wp2_with fail
      refine htk.mono ?_
      rintro e w5 ⟨n, d, p, m, rfl, hkq, hrt⟩
      have ho5 := hkq _ _ _ (.inr (.inl rfl)) (heap_alloc_new w4 (.cells #[.bool true, .string name, .int .i64 v, .int .i64 tm] 35))
      have o3 := cell_of_heap (i := 3) (v := .int .i64 tm) ho5 rfl
      have lo5 := heap_lt ho5
      have hrt2 := hrt _ ((Below.refl _ _).alloc (Nat.le_refl _) (.cells #[.int .i64 tm, .int .i64 n, .int .i64 0, .int .i64 0, .int .i64 d, .int .i64 p, .int .i64 m, .string { data := #[] }] 40))
      have HO5 : Hid _ := ho5
      clear htk hkq hrt ho5
      go_wp2_with fail
      refine hrt2.mono ?_
      rintro e w6 ⟨rfl, hkq2, htw⟩
      have ho6 := hkq2 _ _ _ (.inr (.inl rfl)) (heap_alloc_old HO5.out)
      have hx6 := hkq2 _ _ _ (.inr (.inr (.inl rfl))) (heap_alloc_new w5 (.cells #[.int .i64 tm, .int .i64 n, .int .i64 0, .int .i64 0, .int .i64 d, .int .i64 p, .int .i64 m, .string { data := #[] }] 40))
      have o3 := cell_of_heap (i := 3) (v := .int .i64 tm) ho6 rfl
      have x0 := cell_of_heap (i := 0) (v := .int .i64 tm) hx6 rfl
      have x1 := cell_of_heap (i := 1) (v := .int .i64 n) hx6 rfl
      have x2 := cell_of_heap (i := 2) (v := .int .i64 0) hx6 rfl
      have x3 := cell_of_heap (i := 3) (v := .int .i64 0) hx6 rfl
      have x4 := cell_of_heap (i := 4) (v := .int .i64 d) hx6 rfl
      have x5 := cell_of_heap (i := 5) (v := .int .i64 p) hx6 rfl
      have x6 := cell_of_heap (i := 6) (v := .int .i64 m) hx6 rfl
      have x7 := cell_of_heap (i := 7) (v := .string { data := #[] }) hx6 rfl
      have lo6 := heap_lt ho6
      have lx6 := heap_lt hx6
      have HTW : Hid _ := htw
      clear hrt2 hkq2 htw ho6 hx6
      go_wp2_with fail
      refine (law_same _ tm n d p m).mono ?_
      rintro e w7 ⟨rfl, hb7⟩
      have HF : Hid _ := ((Two.go HTW.out ((Below.refl _ _).alloc (Nat.le_refl _) _)).go hb7).more (Nat.le_succ i)
      clear hb7
      go_wp2
      go_roundw
      case rel => exact ⟨i + 1, _, _, by go_num, by omega, rfl, rfl, rfl, ⟨_, _, rfl, rfl⟩, HF⟩
      case measure => simp [intOf]; omega
  ·have hge2 : ¬ (i : Int) < E.length := by omega
   go_wp2
   go_ret
   exact ⟨rfl, HBW.out HI.out⟩
end Go.Proofs.YtbokdbaagacnlaaGreatDoor
namespace Go.Proofs.YtbokdbaagacnlaaGreatDoor
open Go.ChangeShapes Go.WideShapes Go.ChangeAt Go.RowKit Go.Lib Go.Deep Go.Joins
theorem Tryz.cellsEvent : Tryz.prog.cellsOf 38 = 4 := by kernel_rfl
theorem Tryz.cellsI64 : Tryz.prog.cellsOf 2 = 1 := by kernel_rfl
theorem Tryz.cellsInt : Tryz.prog.cellsOf 3 = 1 := by kernel_rfl
theorem Tryz.cellsBool : Tryz.prog.cellsOf 4 = 1 := by kernel_rfl
theorem in64_of_wf2 {n : Int} (h : (Lit.int .i64 n).wf = true) : In64 n := by
 have h1 : IntKind.i64.min = -9223372036854775808 := by decide
 have h2 : IntKind.i64.max = 9223372036854775807 := by decide
 simp [Lit.wf, h1, h2] at h
 unfold In64
 omega
theorem list4 {α : Type} {cs : List α} (h : cs.length = 4) : ∃ v0 v1 v2 v3, cs = [v0, v1, v2, v3] := by
 match cs, h with
 | [v0, v1, v2, v3], _ => exact ⟨v0, v1, v2, v3, rfl⟩
theorem list1 {α : Type} {cs : List α} (h : cs.length = 1) : ∃ v0, cs = [v0] := by
 match cs, h with
 | [v0], _ => exact ⟨v0, rfl⟩
theorem get_range {α : Type} {f : Nat → α} {n i : Nat} {x : α} (h : ((List.range n).map f)[i]? = some x) : i < n ∧ f i = x := by
 rw [List.getElem?_map] at h
 have hi : i < n := by
  rcases Nat.lt_or_ge i n with h' | h'
  ·exact h'
  ·rw [List.getElem?_eq_none (by simpa using h')] at h; simp at h
 rw [List.getElem?_range hi] at h
 simp at h
 exact ⟨hi, h⟩
section
variable {H : Type} {enc : TypeId × Value → H} {P : Program} {w : World} {base : Nat} {spare : Nat → Bool} {held : Bool}
theorem trodAll_five {t t' t'' t3 t4 : TypeId} {args : Array Value} {ds : List (DataW H)} {ps : List MemPlace} (h : DataW.TrodAll enc P w base spare held [t, t', t'', t3, t4] args.toList ds ps) :
  ∃ v v' v'' v3 v4 d d' d'' d3 d4 p p' p'' p3 p4, args = #[v, v', v'', v3, v4] ∧ ds = [d, d', d'', d3, d4] ∧ ps = p ++ p' ++ p'' ++ p3 ++ p4 ∧ DataW.Trod enc P w base spare held t v d p ∧ DataW.Trod enc P w base spare held t' v' d' p' ∧ DataW.Trod enc P w base spare held t'' v'' d'' p'' ∧ DataW.Trod enc P w base spare held t3 v3 d3 p3 ∧ DataW.Trod enc P w base spare held t4 v4 d4 p4 := by
 obtain ⟨v, vs, d, ds1, p, q, hargs, rfl, rfl, hd, hr⟩ := trodAll_cons h
 obtain ⟨v', vs', d', ds2, p', q', rfl, rfl, rfl, hd', hr'⟩ := trodAll_cons hr
 obtain ⟨v'', vs'', d'', ds3, p'', q'', rfl, rfl, rfl, hd'', hr''⟩ := trodAll_cons hr'
 obtain ⟨v3, vs3, d3, ds4, p3, q3, rfl, rfl, rfl, hd3, hr3⟩ := trodAll_cons hr''
 obtain ⟨v4, vs4, d4, ds5, p4, q4, rfl, rfl, rfl, hd4, hr4⟩ := trodAll_cons hr3
 obtain ⟨rfl, rfl, rfl⟩ := trodAll_nil hr4
 exact ⟨v, v', v'', v3, v4, d, d', d'', d3, d4, p, p', p'', p3, p4, by cases args; simp_all, rfl, by simp, hd, hd', hd'', hd3, hd4⟩
theorem trodAll_mk5 {t t' t'' t3 t4 : TypeId} {v v' v'' v3 v4 : Value} {d d' d'' d3 d4 : DataW H} {p p' p'' p3 p4 : List MemPlace} (h : DataW.Trod enc P w base spare held t v d p) (h' : DataW.Trod enc P w base spare held t' v' d' p') (h'' : DataW.Trod enc P w base spare held t'' v'' d'' p'') (h3 : DataW.Trod enc P w base spare held t3 v3 d3 p3) (h4 : DataW.Trod enc P w base spare held t4 v4 d4 p4) : DataW.TrodAll enc P w base spare held [t, t', t'', t3, t4] [v, v', v'', v3, v4] [d, d', d'', d3, d4] (p ++ (p' ++ (p'' ++ (p3 ++ p4)))) := ⟨p, p' ++ (p'' ++ (p3 ++ p4)), h, trodAll_mk4 h' h'' h3 h4, rfl⟩
end
theorem nums_of {H : Type} {enc : TypeId × Value → H} {W : World} {fuel : Nat} {sa : Option Addr} {len cap : Nat} {x : DataW H × List MemPlace} (h : DataW.trod enc Tryz.prog W 0 (fun _ => true) true fuel 22 [.slice sa len cap] = some x) :
  ∃ L : List Int, L.length = len ∧ NumsAt W sa L ∧ ∀ v ∈ L, In64 v := by
 rcases open_slice Tryz.underlying22 h with ⟨hc, -⟩ | ⟨a, len', cap', m, n, D, Pl, hc, -, hl, hm, hmm, -, hall⟩
 ·simp at hc
  obtain ⟨rfl, rfl, rfl⟩ := hc
  exact ⟨[], rfl, fun i v h => by simp at h, fun v hv => by cases hv⟩
 ·simp at hc
  obtain ⟨rfl, rfl, rfl⟩ := hc
  simp only [if_true] at hmm
  subst hmm
  rw [Tryz.cellsI64] at hall
  have each : ∀ i, i < len → ∃ q : Int, In64 q ∧ W.cell? (a.add i) = some (.int .i64 q) := by
   intro i hi
   obtain ⟨cs, h1, h2⟩ := hall i (by omega)
   obtain ⟨_, hlen, hcell⟩ := World.cells?_some h1
   obtain ⟨v0, rfl⟩ := list1 hlen
   obtain ⟨k, e0, -, w0⟩ := DataW.trod_int Tryz.underlying2 h2
   simp at e0
   subst e0
   have c0 := hcell 0 (by omega)
   rw [add_add] at c0
   exact ⟨k, in64_of_wf2 w0, by simpa using c0⟩
  obtain ⟨f, hf⟩ := choose_lt each
  refine ⟨(List.range len).map f, by simp, fun i v hx => ?_, fun v hv => ?_⟩
  ·obtain ⟨hi, rfl⟩ := get_range hx
   obtain ⟨b, off, spot⟩ := a
   have hspot : spot = none := by
    have := World.cell?_spot (hf 0 (by omega)).2
    simpa [Addr.add] using this
   subst hspot
   have := (hf i hi).2
   rw [Addr.add_lit] at this
   exact ⟨b, off, rfl, this⟩
  ·obtain ⟨i, hi, rfl⟩ := List.mem_map.1 hv
   exact (hf i (by simpa using hi)).1
theorem evsL_of {H : Type} {enc : TypeId × Value → H} {W : World} {fuel : Nat} {sa : Option Addr} {len cap : Nat} {x : DataW H × List MemPlace} (h : DataW.trod enc Tryz.prog W 0 (fun _ => true) true fuel 23 [.slice sa len cap] = some x) :
  ∃ E : List (Bool × Int × Int × Int), E.length = len ∧ EvsL W sa E := by
 rcases open_slice Tryz.underlying23 h with ⟨hc, -⟩ | ⟨a, len', cap', m, n, D, Pl, hc, -, hl, hm, hmm, -, hall⟩
 ·simp at hc
  obtain ⟨rfl, rfl, rfl⟩ := hc
  exact ⟨[], rfl, fun i q h => by simp at h⟩
 ·simp at hc
  obtain ⟨rfl, rfl, rfl⟩ := hc
  simp only [if_true] at hmm
  subst hmm
  rw [Tryz.cellsEvent] at hall
  have each : ∀ i, i < len → ∃ q : Bool × Int × Int × Int, In64 q.2.1 ∧ In64 q.2.2.1 ∧ In64 q.2.2.2 ∧ W.cell? (a.add (i * 4)) = some (.bool q.1) ∧ W.cell? (a.add (i * 4 + 1)) = some (.int .i64 q.2.1) ∧ W.cell? (a.add (i * 4 + 2)) = some (.int .i64 q.2.2.1) ∧ W.cell? (a.add (i * 4 + 3)) = some (.int .i64 q.2.2.2) := by
   intro i hi
   obtain ⟨cs, h1, h2⟩ := hall i (by omega)
   obtain ⟨_, hlen, hcell⟩ := World.cells?_some h1
   obtain ⟨y0, y1, y2, y3, n', hxy, -, t0, t1, t2, t3⟩ := trod_struct4 Tryz.underlying38 h2
   obtain ⟨v0, v1, v2, v3, rfl⟩ := list4 hlen
   simp [Tryz.cellsI64, Tryz.cellsInt, Tryz.cellsBool] at t0 t1 t2 t3
   obtain ⟨b, e0, -⟩ := DataW.trod_bool Tryz.underlying4 t0
   obtain ⟨A, e1, -, w1⟩ := DataW.trod_int Tryz.underlying3 t1
   obtain ⟨B, e2, -, w2⟩ := DataW.trod_int Tryz.underlying2 t2
   obtain ⟨C, e3, -, w3⟩ := DataW.trod_int Tryz.underlying2 t3
   simp at e0 e1 e2 e3
   subst e0 e1 e2 e3
   have c0 := hcell 0 (by omega)
   have c1 := hcell 1 (by omega)
   have c2 := hcell 2 (by omega)
   have c3 := hcell 3 (by omega)
   rw [add_add] at c0 c1 c2 c3
   exact ⟨(b, A, B, C), in64_of_wf2 w1, in64_of_wf2 w2, in64_of_wf2 w3, by simpa using c0, by simpa using c1, by simpa using c2, by simpa using c3⟩
  obtain ⟨f, hf⟩ := choose_lt each
  refine ⟨(List.range len).map f, by simp, fun i q hx => ?_⟩
  obtain ⟨hi, rfl⟩ := get_range hx
  obtain ⟨g1, g2, g2', g3, g4, g5, g6⟩ := hf i hi
  obtain ⟨b, off, spot⟩ := a
  have hspot : spot = none := by
   have := World.cell?_spot (hf 0 (by omega)).2.2.2.1
   simpa [Addr.add] using this
  subst hspot
  rw [Addr.add_lit] at g3 g4 g5 g6
  exact ⟨g1, g2, g2', b, off, rfl, g3, by rw [Nat.add_assoc]; exact g4, by rw [Nat.add_assoc]; exact g5, by rw [Nat.add_assoc]; exact g6⟩
end Go.Proofs.YtbokdbaagacnlaaGreatDoor
