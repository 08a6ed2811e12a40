/-
  THE PROGRAM's Write: appendParts, WALKED, for whatever appendPart does.
-/
import Derived.Test.YtadmedfehcckiaaGreatDoorWrA
import Derived.Deep.RegionHeldLaw
import Derived.Deep.RegionHeld3
namespace Go.Proofs.YtadmedfehcckiaaGreatDoor
open Go.RowKit Go.Lib

/-- The blocks below a number. -/
abbrev Lt (B : Nat) : Nat → Prop := fun b => b < B
theorem nm_below {B : Nat} {w w' : World} (h : Below B w w') : NMoves (Lt B) (Lt B) w w' := fun b hP _ _ _ _ => ⟨hP, h.block b hP⟩
theorem CNodes.length {P : Nat → Prop} {w : World} : ∀ {ts : List Tree} {vs : List Value}, CNodes P w ts vs → vs.length = ts.length
  | [], vs, h => by unfold CNodes at h; rw [h]; rfl
  | t :: ts, vs, h => by
    unfold CNodes at h
    obtain ⟨v, vs', rfl, h2, h3⟩ := h
    simp [CNodes.length h3]
theorem CNodes.get {P : Nat → Prop} {w : World} : ∀ {ts : List Tree} {vs : List Value}, CNodes P w ts vs → ∀ (j : Nat) (t : Tree), ts[j]? = some t → ∃ v, vs[j]? = some v ∧ CNode P w t v
  | [], vs, h, j, t, hj => by simp at hj
  | a :: ts, vs, h, j, t, hj => by
    unfold CNodes at h
    obtain ⟨v, vs', rfl, h2, h3⟩ := h
    cases j with
    | zero => simp at hj; subst hj; exact ⟨v, rfl, h2⟩
    | succ j => simp at hj; simpa using CNodes.get h3 j t hj
theorem encs_append : ∀ a b, encs (a ++ b) = encs a ++ encs b
  | [], b => by simp [encs]
  | t :: a, b => by simp [encs, encs_append a b]
theorem encs_take {ts : List Tree} {j : Nat} {t : Tree} (h : ts[j]? = some t) : encs (ts.take (j + 1)) = encs (ts.take j) ++ enc t := by
  rw [List.take_add_one, h, encs_append]
  simp [encs]
theorem encs_take_le {ts : List Tree} (j : Nat) : (encs (ts.take j)).length ≤ (encs ts).length := by
  have h := encs_append (ts.take j) (ts.drop j)
  rw [List.take_append_drop] at h
  rw [h, List.length_append]
  omega
theorem owns_len {w : World} {base e size n : Nat} {v : Value} {xs : List Value} (h : w.ownsRow base e size v n xs) : ∃ ao cp, v = .slice ao n cp := by
  rcases h.2 with ⟨rfl, rfl⟩ | ⟨g, cap, cur, rfl, -⟩
  · exact ⟨_, _, rfl⟩
  · exact ⟨_, _, rfl⟩
/-- An element of a row. -/
theorem owns_at {w : World} {base e n : Nat} {ao : Option Addr} {cp m : Nat} {xs : List Value} (h : w.ownsRow base e 1 (.slice ao m cp) n xs) {j : Nat} {x : Value} (hj : xs[j]? = some x) : ∃ g, ao = some ⟨g, 0, none⟩ ∧ w.cell? ⟨g, j, none⟩ = some x := by
  rcases h.2 with ⟨h1, rfl⟩ | ⟨g, cap, cur, h1, -⟩
  · have : xs = [] := List.eq_nil_of_length_eq_zero (by have := h.1; omega)
    subst this
    simp at hj
  · injection h1 with h1 h2 h3
    subst h1
    refine ⟨g, rfl, ?_⟩
    have := h.cells (g := g) rfl j x hj
    rwa [show (⟨g, 0, none⟩ : Addr).add j = ⟨g, j, none⟩ by unfold Addr.add; split <;> simp_all] at this
theorem W8.owns {B : Nat} {w w' : World} (h : W8 B w w') {base e n : Nat} {v : Value} {xs : List Value} (ho : w.ownsRow base e 1 v n xs) (he : e ≠ 5) : w'.ownsRow base e 1 v n xs :=
  owns_of_block ho fun g hg => by
    obtain ⟨c, fz, q⟩ := ownsRow_kind ho g hg
    rw [h.kind g c e fz q he, q]

/-- What appendPart does at a tree. -/
def WCon (B : Nat) (t : Tree) : Prop := ∀ (w : World) (vo v : Value) (l : List UInt8), CNode (Lt B) w t v → Out8 B w vo l → B ≤ w.heap.size → l.length + (enc t).length ≤ 1000000 →
  Calls Tryz.prog 80 #[vo, v] w fun e w' => ∃ vo', e = .returned vo' ∧ Out8 B w' vo' (l ++ enc t) ∧ W8 B w w'

set_option maxRecDepth 1000000 in
theorem code_appendParts {B : Nat} (ts : List Tree) (hts : ∀ t ∈ ts, WCon B t) {w : World} {vo lv : Value} {l : List UInt8} {vs : List Value} (hn : CNodes (Lt B) w ts vs) (hr : w.ownsRow 0 129 1 lv vs.length vs) (ho : Out8 B w vo l) (hB : B ≤ w.heap.size) (hl : l.length + (encs ts).length ≤ 1000000) (h200 : ts.length ≤ 1000) :
    Calls Tryz.prog 111 #[vo, lv] w fun e w' => ∃ vo', e = .returned vo' ∧ Out8 B w' vo' (l ++ encs ts) ∧ W8 B w w' := by
  obtain ⟨ao, cp, rfl⟩ := owns_len hr
  have hlen := hn.length
  have HN : Hid (CNodes (Lt B) w ts vs) := hn
  have HR : Hid (w.ownsRow 0 129 1 (.slice ao vs.length cp) vs.length vs) := hr
  have HO : Hid (Out8 B w vo l) := ho
  have HT : Hid (∀ t ∈ ts, WCon B t) := hts
  clear hn hr ho hts
  generalize vs.length = m at *
  have HL : Hid (m = ts.length) := hlen
  have hm : m ≤ 1000 := by omega
  clear hlen h200
  go_enter Tryz.func111, Tryz.ntmps111
  go_wp2_with fail
  go_loopw [0, 9] (fun v0 v9 wr => ∃ j : Nat, v9 = .int .i64 j ∧ j ≤ m ∧ Hid (Out8 B wr v0 (l ++ encs (ts.take j)) ∧ W8 B w wr)) (fun _ v9 _ => m - (intOf v9).toNat)
  case atStart => exact ⟨0, rfl, Nat.zero_le _, by simpa [encs] using HO.out, W8.refl _ _⟩
  case round =>
    obtain ⟨j, rfl, hj, HI⟩ := hrel
    rcases Nat.lt_or_ge j m with hlt | hge
    · obtain ⟨t, ht⟩ : ∃ t, ts[j]? = some t := ⟨ts[j], List.getElem?_eq_getElem (by have := HL.out; omega)⟩
      obtain ⟨v, hv, hcn⟩ := HN.out.get j t ht
      obtain ⟨g, rfl, c1⟩ := owns_at (HI.out.2.owns HR.out (by decide)) hv
      have hlt2 : (j : Int) < m := by omega
      have hbd : (l ++ encs (ts.take j)).length + (enc t).length ≤ 1000000 := by
        have h1 := encs_take ht
        have h2 := encs_take_le (ts := ts) (j + 1)
        rw [h1, List.length_append] at h2
        rw [List.length_append]
        omega
      have hpc := HT.out t (List.mem_of_getElem? ht) wr _ v (l ++ encs (ts.take j)) (hcn.moves (nm_below HI.out.2.below)) HI.out.1 (Nat.le_trans hB HI.out.2.size) hbd
      have HE : Hid (encs (ts.take (j + 1)) = encs (ts.take j) ++ enc t) := encs_take ht
      clear ht hv hcn hbd
      go_wp2_with fail
      refine hpc.mono ?_
      rintro e w2 ⟨v2, rfl, h2⟩
      have H2 : Hid _ := h2
      clear h2 hpc
      go_wp2
      go_roundw
      case rel => exact ⟨j + 1, by go_num, by omega, by rw [HE.out, ← List.append_assoc]; exact H2.out.1, HI.out.2.trans H2.out.2⟩
      case measure => simp [intOf]; omega
    · have hge2 : ¬ (j : Int) < m := by omega
      have HJ : Hid (j = ts.length) := by have := HL.out; show j = ts.length; omega
      go_wp2
      go_ret
      refine ⟨_, rfl, ?_, HI.out.2⟩
      have := HI.out.1
      rw [HJ.out, List.take_length] at this
      exact this
end Go.Proofs.YtadmedfehcckiaaGreatDoor
