/-
  The law's first and sameTexts; scaler's each, empty and Names, WALKED.
-/
import Derived.Test.YtihmgoahobbdkaaGreatDoorRooC
import Derived.Deep.QuietTactic
namespace Go.Proofs.YtihmgoahobbdkaaGreatDoor
open Go.RowKit Go.Lib

/-- A list of texts that can be read. -/
def Txts (w : World) (v : Value) (l : List ByteArray) : Prop :=
  ∃ (ao : Option Addr) (cp : Nat), v = .slice ao l.length cp ∧ l.length ≤ cp ∧ ∀ (j : Nat) x, l[j]? = some x → ∃ g, ao = some ⟨g, 0, none⟩ ∧ w.cell? ⟨g, j, none⟩ = some (.string x)
theorem Txts.of_owns {w : World} {base : Nat} {v : Value} {l : List ByteArray} (h : w.ownsRow base 9 1 v l.length (l.map Value.string)) : Txts w v l := by
  obtain ⟨ao, cp, rfl⟩ := owns_slice_len h
  refine ⟨ao, cp, rfl, ?_, fun j x hx => row_at h (by rw [List.getElem?_map, hx]; rfl)⟩
  rcases h.2 with ⟨he, h0⟩ | ⟨g, cap, cur, he, -, hg, hc, -⟩
  · omega
  · injection he with _ _ he; omega
theorem Txts.below {w w' : World} {v : Value} {l : List ByteArray} (h : Txts w v l) (hb : Below w.heap.size w w') : Txts w' v l := by
  obtain ⟨ao, cp, h1, h2, h3⟩ := h
  refine ⟨ao, cp, h1, h2, fun j x hx => ?_⟩
  obtain ⟨g, h4, h5⟩ := h3 j x hx
  exact ⟨g, h4, (World.cell?_of_block (hb.block g (World.block_lt_of_cell? w _ h5))).trans h5⟩

set_option maxRecDepth 1000000 in
theorem law_first {w : World} {v : Value} {l : List ByteArray} (h : Txts w v l) (n : Int) :
    Calls Tryz.prog 12 #[v, .int .i64 n] w fun e w' => (∃ v', e = .returned v' ∧ Txts w v' (firstN n l)) ∧ w' = w := by
  obtain ⟨ao, cp, rfl, hcp, hx⟩ := h
  have HX : Hid _ := hx
  clear hx
  generalize hm : l.length = m at *
  by_cases h1 : n < 1
  · have HF : Hid (Txts w (.slice ao m cp) (firstN n l)) := by
      unfold firstN
      rw [if_neg (by omega)]
      exact ⟨ao, cp, by rw [hm], by omega, HX.out⟩
    go_enter Tryz.func12, Tryz.ntmps12
    go_wp2
    go_ret
    exact ⟨⟨_, rfl, HF.out⟩, rfl⟩
  · by_cases h2 : n ≥ (m : Int)
    · have HF : Hid (Txts w (.slice ao m cp) (firstN n l)) := by
        unfold firstN
        rw [if_pos (by omega), List.take_of_length_le (by omega)]
        exact ⟨ao, cp, by rw [hm], by omega, HX.out⟩
      go_enter Tryz.func12, Tryz.ntmps12
      go_wp2
      go_ret
      exact ⟨⟨_, rfl, HF.out⟩, rfl⟩
    · obtain ⟨k, rfl⟩ : ∃ k : Nat, n = (k : Int) := ⟨n.toNat, by omega⟩
      have HF : Hid (Txts w (.slice ao k cp) (firstN k l)) := by
        unfold firstN
        rw [if_pos (by omega)]
        have hl : (l.take (k : Int).toNat).length = k := by simp; omega
        refine ⟨ao, cp, by rw [hl], by omega, fun j x hj => ?_⟩
        rw [List.getElem?_take] at hj
        split at hj
        · exact HX.out j x hj
        · cases hj
      have hkc : k ≤ cp := by omega
      go_enter Tryz.func12, Tryz.ntmps12
      go_wp2
      go_ret
      exact ⟨⟨_, rfl, HF.out⟩, rfl⟩

set_option maxRecDepth 1000000 in
theorem law_same {w : World} {va vb : Value} {l : List ByteArray} (ha : Txts w va l) (hb : Txts w vb l) (hl : l.length ≤ 900) :
    Calls Tryz.prog 13 #[va, vb] w fun e w' => e = .returned (.bool true) ∧ Below w.heap.size w w' := by
  obtain ⟨ao, ca, rfl, -, hxa⟩ := ha
  obtain ⟨bo, cb, rfl, -, hxb⟩ := hb
  have HA : Hid _ := hxa
  have HB : Hid _ := hxb
  clear hxa hxb
  generalize hm : l.length = m at *
  go_enter Tryz.func13, Tryz.ntmps13
  go_wp2_with fail
  go_loopw [5] (fun v5 wr => ∃ (j q : Nat), v5 = .int .i64 j ∧ j ≤ m ∧ wr = w.drewN q) (fun v5 _ => m - (intOf v5).toNat)
  case atStart => exact ⟨0, 0, rfl, Nat.zero_le _, rfl⟩
  case round =>
    obtain ⟨j, q, rfl, hj, rfl⟩ := hrel
    rcases Nat.lt_or_ge j m with hlt | hge
    · obtain ⟨x, hx⟩ : ∃ x, l[j]? = some x := ⟨l[j], List.getElem?_eq_getElem (by omega)⟩
      obtain ⟨g, he, c1⟩ := HA.out j x hx
      obtain ⟨g2, he2, c2⟩ := HB.out j x hx
      subst he he2
      have hlt2 : (j : Int) < m := by omega
      clear hx
      go_wp2_with fail
      go_quiet (fail)
      go_wp2
      go_roundw
      case rel => exact ⟨j + 1, _, by go_num, by omega, rfl⟩
      case measure => simp [intOf]; omega
    · have hge2 : ¬ (j : Int) < m := by omega
      go_wp2
      go_ret
      exact ⟨rfl, below_drewN (Below.refl _ _) q⟩
end Go.Proofs.YtihmgoahobbdkaaGreatDoor
