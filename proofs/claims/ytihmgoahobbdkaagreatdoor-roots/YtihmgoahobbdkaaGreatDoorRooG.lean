/-
  scalerlaw.Roots, WALKED.
-/
import Derived.Test.YtihmgoahobbdkaaGreatDoorRooF
import Derived.Test.YtihmgoahobbdkaaGreatDoorCodeQ
namespace Go.Proofs.YtihmgoahobbdkaaGreatDoor
open Go.RowKit Go.Lib

set_option maxRecDepth 1000000 in
set_option maxHeartbeats 1000000 in
theorem law_Roots (s : ByteArray) (n : Int) (hs : s.size ≤ 9223372036854775807) {A : Addr} {w : World} (hT : Tabs w) (hA : w.cell? ⟨1, 0, none⟩ = some (.iface 355 (.pointer (some A)))) :
    Calls Tryz.prog 4 #[.string s, .int .i64 n] w fun e w' => e = .returned (.bool true) ∧ Below w.heap.size w w' := by
  have hr := ref_parse s hs w hT
  have HT : Hid (Tabs w) := hT
  have HA : Hid (w.cell? ⟨1, 0, none⟩ = some (.iface 355 (.pointer (some A)))) := hA
  clear hT hA
  go_enter Tryz.func4, Tryz.ntmps4
  go_wp2_with fail
  refine hr.mono ?_
  rintro e w1 ⟨t, f, p, pa, rfl, hP, hb1, htr⟩
  have hm := plain_Metrics s n (HT.out.below hb1) ((World.cell?_of_block (hb1.block _ (World.block_lt_of_cell? w _ HA.out))).trans HA.out)
  have HP : Hid (PRel s (t, f, p)) := hP
  have HB1 : Hid (Below w.heap.size w w1) := hb1
  have HTR : Hid (TreeAt w.heap.size w1 t (.pointer pa)) := htr
  clear hr hP hb1 htr HT HA
  go_wp2_with fail
  refine hm.mono ?_
  rintro e w2 ⟨t2, f2, p2, hP2, hb2, hM⟩
  have hd := HP.out.det hP2
  injection hd with e1 e2
  injection e2 with e2 e3
  subst e1 e2 e3
  have HB2 : Hid (Below w.heap.size w w2) := HB1.out.trans (hb2.mono HB1.out.size)
  have hfm := HP.out.forms
  have HB12 : Hid (Below w1.heap.size w1 w2) := hb2
  clear hP2 hb2 hm HP
  cases t with
  | none =>
    have hM : e = .returned (.tuple #[.slice none 0 0, .slice none 0 0, .bool false]) := hM
    subst hM
    have hf : f ≠ 0 := by
      rcases hfm with ⟨-, h, -⟩ | ⟨-, h⟩ | ⟨h, -⟩
      · omega
      · omega
      · cases h
    have hfb : (((f : Nat) : Int) != 0) = true := by rw [bne_iff_ne]; omega
    go_wp2
    go_ret
    exact ⟨rfl, HB2.out⟩
  | some t =>
    obtain ⟨hmb, hfi, va, vb, rfl, hta, htb⟩ := hM
    have hf : f = 0 := by
      rcases hfm with ⟨h, -⟩ | ⟨h, -⟩ | ⟨-, h, -⟩
      · cases h
      · cases h
      · exact h
    subst hf
    have hnb := notes_bound hmb
    have hnode : IsNode (fun b => b < w2.heap.size) w2 t (.pointer pa) := by
      have q : IsNode (From w.heap.size) w1 t (.pointer pa) := HTR.out
      exact q.moves fun b hb hlt => ⟨Nat.lt_of_lt_of_le hlt HB12.out.size, HB12.out.block b hlt⟩
    have hme := ref_metrics t hfi _ w2.heap.size w2 (.pointer pa) (.slice none 0 0) [] (fun b hb => hb) (Nat.le_refl _) hnode (World.ownsRow_nil _ _ _ _) (by simp; omega)
    have HTA : Hid (Txts w2 va (firstN n (notes [] (mets t)))) := hta
    have HTB : Hid (Txts w2 vb (notes [] (mets t))) := htb
    obtain ⟨ta, tac, rfl, -⟩ := hta
    obtain ⟨ub, ubc, rfl, -⟩ := htb
    clear hmb hfi hnode hfm
    go_wp2_with fail
    refine hme.mono ?_
    rintro e w3 ⟨lv, rfl, ho3, hb3⟩
    have hfi := law_first (.of_owns ho3) n
    have hs2 : ∀ W, Below w3.heap.size w3 W → Calls Tryz.prog 13 #[.slice ub (notes [] (mets t)).length ubc, lv] W fun e w' => e = .returned (.bool true) ∧ Below W.heap.size W w' := fun W hW => law_same ((HTB.out.below hb3).below hW) ((Txts.of_owns ho3).below hW) (by omega)
    have HTA3 : Hid _ := HTA.out.below hb3
    have HB3 : Hid (Below w.heap.size w w3) := HB2.out.trans (hb3.mono HB2.out.size)
    obtain ⟨lo, lc, rfl⟩ := owns_slice_len ho3
    clear hme hb3 ho3 HTA HTB
    go_wp2_with fail
    refine hfi.mono ?_
    rintro e w' ⟨⟨v', rfl, hv'⟩, hw⟩
    have hw := hw.symm
    subst hw
    have hs1 := law_same HTA3.out hv' (by
      unfold firstN
      split
      · rw [List.length_take]; omega
      · omega)
    obtain ⟨vo, vc, rfl, -⟩ := hv'
    clear hfi
    go_wp2_with fail
    refine hs1.mono ?_
    rintro e w4 ⟨rfl, hb4⟩
    have hs2 := hs2 w4 hb4
    have HB4 : Hid (Below w.heap.size w w4) := HB3.out.trans (hb4.mono HB3.out.size)
    clear hs1 hb4
    go_wp2_with fail
    refine hs2.mono ?_
    rintro e w5 ⟨rfl, hb5⟩
    have HB5 : Hid (Below w.heap.size w w5) := HB4.out.trans (hb5.mono HB4.out.size)
    clear hs2 hb5
    go_wp2
    go_ret
    exact ⟨rfl, HB5.out⟩
end Go.Proofs.YtihmgoahobbdkaaGreatDoor
