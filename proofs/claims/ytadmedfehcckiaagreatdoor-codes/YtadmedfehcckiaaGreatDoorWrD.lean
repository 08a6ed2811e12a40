/-
  THE PROGRAM's Write: choices, probes, pairs; all of it.
-/
import Derived.Test.YtadmedfehcckiaaGreatDoorWrC
namespace Go.Proofs.YtadmedfehcckiaaGreatDoor
open Go.RowKit Go.Lib

/-- A list that was just built. -/
theorem owns_built {w : World} {g : Nat} {cs : Array Value} {e : TypeId} (h : w.heap[g]? = some (.cells cs e (0, 0))) (hc : cs.size ≤ 1000) {n : Nat} (hn : n = cs.size) {xs : List Value} (hx : xs = cs.toList) : w.ownsRow 0 e 1 (.slice (some ⟨g, 0, none⟩) n n) n xs := by
  subst hn hx
  exact ⟨by simp, .inr ⟨g, _, cs, rfl, Nat.zero_le _, h, Nat.le_refl _, by first | (simp [maxLen]; omega) | omega, by simp, by rw [List.take_of_length_le (by simp)]⟩⟩
theorem heap_new_at {w : World} {o : Obj} {k : Nat} (h : k = w.heap.size) : (w.alloc o).heap[k]? = some o := by subst h; exact heap_alloc_new _ _
theorem CNode.form {P : Nat → Prop} {w : World} {t : Tree} {v : Value} (h : CNode P w t v) : ∃ ty b, v = .iface ty (ptr b) := by
  cases t <;> unfold CNode at h
  · obtain ⟨b, rfl, -⟩ := h; exact ⟨_, _, rfl⟩
  · obtain ⟨b, _, rfl, -⟩ := h; exact ⟨_, _, rfl⟩
  · obtain ⟨b, _, _, rfl, -⟩ := h; exact ⟨_, _, rfl⟩
  · obtain ⟨b, _, _, _, rfl, -⟩ := h; exact ⟨_, _, rfl⟩
  · obtain ⟨b, rfl, -⟩ := h; exact ⟨_, _, rfl⟩
  · obtain ⟨b, _, _, rfl, -⟩ := h; exact ⟨_, _, rfl⟩
section
variable {B : Nat}
set_option maxRecDepth 1000000 in
set_option maxHeartbeats 1000000 in
theorem w_ite {p : Nat} {a c d : Tree} (hA : WCon B a) (hC : WCon B c) (hD : WCon B d) : WCon B (.ite p a c d) := by
  intro w vo v l hn ho hB hl
  unfold CNode at hn
  obtain ⟨b, va, vc, vd, rfl, hb, hblk, hca, hcc, hcd⟩ := hn
  obtain ⟨tya, ba, rfl⟩ := hca.form
  obtain ⟨tyc, bc, rfl⟩ := hcc.form
  obtain ⟨tyd, bd, rfl⟩ := hcd.form
  obtain ⟨i0, hi, hz0, hz1, hz2⟩ := info_parts Tryz.infoByte
  have c0 := cell_of_heap (i := 0) hblk rfl
  have c1 := cell_of_heap (i := 1) hblk rfl
  have c2 := cell_of_heap (i := 2) hblk rfl
  have HBK : Hid (w.heap[b]? = some (.cells #[(.iface tya (ptr ba)), (.iface tyc (ptr bc)), (.iface tyd (ptr bd))] 206 (0, 0))) := hblk
  have HC : Hid (∀ w', W8 B w w' → CNodes (Lt B) w' [a, c, d] [(.iface tya (ptr ba)), (.iface tyc (ptr bc)), (.iface tyd (ptr bd))]) := fun w' hw => by
    have hm := nm_below hw.below
    unfold CNodes
    refine ⟨(.iface tya (ptr ba)), _, rfl, hca.moves hm, ?_⟩
    unfold CNodes
    refine ⟨(.iface tyc (ptr bc)), _, rfl, hcc.moves hm, ?_⟩
    unfold CNodes
    refine ⟨(.iface tyd (ptr bd)), _, rfl, hcd.moves hm, ?_⟩
    unfold CNodes
    rfl
  have HT : Hid (∀ t ∈ [a, c, d], WCon B t) := by
    intro t ht
    simp at ht
    rcases ht with rfl | rfl | rfl
    · exact hA
    · exact hC
    · exact hD
  have HO : Hid (Out8 B w vo l) := ho
  have hln : l.length + 1 + (encs [a, c, d]).length ≤ 1000000 := by simp [enc, encs] at hl ⊢; omega
  have ta := Tryz.isChoice
  have tm0 := Tryz.notChoiceNumber
  have tm1 := Tryz.notChoiceMinus
  have tm2 := Tryz.notChoicePair
  clear ho hblk hl hca hcc hcd hA hC hD
  go_enter Tryz.func80, Tryz.ntmps80
  go_wp2_with fail
  go_region_held3 (fun w' => w'.cell? ⟨b, 0, none⟩ = some (.iface tya (ptr ba)) ∧ w'.cell? ⟨b, 1, none⟩ = some (.iface tyc (ptr bc)) ∧ w'.cell? ⟨b, 2, none⟩ = some (.iface tyd (ptr bd))) (go_keep)
    (first
      | (refine step_append_lies _ (by rfl) (.tmp 43) (.tmp 44) _ (by rfl) B 5 i0 (.int .u8 0) 1 1 Tryz.underlying76 hi hz0 hz1 hz2 rfl (by omega) vo l.length (bytesV l) (by rfl) (by repeat (first | with_reducible exact HO.out | with_reducible apply World.ownsRow.drew | with_reducible apply World.ownsRow.alloc)) ⟨_, 0, none⟩ 1 1 [.int .u8 63] (by rfl) (by rfl) (news_one (by first | exact heap_new_at (by simp) | exact heap_alloc_old (heap_new_at (by simp)))) (by simp [Value.oneCell']) (by omega) (by unfold maxLen; omega) (by omega) (by first | exact hB | (simp; omega) | (simp; done)) _ (by rfl) ?_; intro g cap w5 hown hgrow hat hlt; have hQ := Out8.push (b := 63) (x := .int .u8 63) (w := w) (l := l) (v := vo) (by repeat (first | exact W8.refl _ _ | with_reducible apply W8.drew | refine W8.alloc ?_ (by first | exact hB | (simp; omega) | (simp; done)) _)) (by repeat (first | with_reducible exact HO.out | with_reducible apply World.ownsRow.drew | with_reducible apply World.ownsRow.alloc)) (by first | exact hB | (simp; omega) | (simp; done)) rfl hown hgrow; have hB5 : B ≤ w5.heap.size := Nat.le_trans hB hQ.2.size; have HW : Hid _ := W8.grown (B := B) (v := vo) (n := l.length) (xs := bytesV l) (by repeat (first | with_reducible exact HO.out | with_reducible apply World.ownsRow.drew | with_reducible apply World.ownsRow.alloc)) hgrow (by first | exact hB | (simp; omega) | (simp; done)); have Q : Hid _ := hQ; have c50 : w5.cell? ⟨b, 0, none⟩ = some (.iface tya (ptr ba)) := hQ.2.cell HBK.out (by decide) rfl; have c51 : w5.cell? ⟨b, 1, none⟩ = some (.iface tyc (ptr bc)) := hQ.2.cell HBK.out (by decide) rfl; have c52 : w5.cell? ⟨b, 2, none⟩ = some (.iface tyd (ptr bd)) := hQ.2.cell HBK.out (by decide) rfl; clear hown hgrow hat hlt hQ)
      | (go_at_call 111; refine (code_appendParts [a, c, d] HT.out (vs := [(.iface tya (ptr ba)), (.iface tyc (ptr bc)), (.iface tyd (ptr bd))]) (HC.out _ (by first | exact Q.out.2 | exact Q.out.2.alloc hB5 _)) (owns_built (by first | exact heap_new_at (by simp) | exact HW.out.kind _ _ _ _ (heap_new_at (by simp)) (by decide) | exact HW.out.kind _ _ _ _ (heap_alloc_old (heap_new_at (by simp))) (by decide)) (by simp) rfl rfl) (by first | exact Q.out.1 | exact World.ownsRow.alloc Q.out.1 _) (by first | exact hB5 | (simp; omega)) (by simp at hln ⊢; omega) (by simp)).mono ?_; rintro e w6 ⟨v6, rfl, h6⟩; have Q6 : Hid _ := And.intro h6.1 (W8.trans (by first | exact Q.out.2 | exact Q.out.2.alloc hB5 _) h6.2); clear h6; have c60 : w6.cell? ⟨b, 0, none⟩ = some (.iface tya (ptr ba)) := Q6.out.2.cell HBK.out (by decide) rfl; have c61 : w6.cell? ⟨b, 1, none⟩ = some (.iface tyc (ptr bc)) := Q6.out.2.cell HBK.out (by decide) rfl; have c62 : w6.cell? ⟨b, 2, none⟩ = some (.iface tyd (ptr bd)) := Q6.out.2.cell HBK.out (by decide) rfl))
  all_goals
    go_wp2
    go_ret
    refine ⟨_, rfl, ?_, Q6.out.2⟩
    have := Q6.out.1
    simpa [enc, encs] using this
end
end Go.Proofs.YtadmedfehcckiaaGreatDoor
