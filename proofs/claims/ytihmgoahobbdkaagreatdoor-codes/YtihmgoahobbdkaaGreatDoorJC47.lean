/-
  THE LAW's names, WALKED; clear.
-/
import Derived.Test.YtihmgoahobbdkaaGreatDoorJC37
import Derived.Test.YtihmgoahobbdkaaGreatDoorJC45
import Derived.Test.YtihmgoahobbdkaaGreatDoorJC46
namespace Go.Proofs.YtihmgoahobbdkaaGreatDoor
open Go.RowKit Go.Lib

theorem pnames_length (h : Int) : ∀ k, (pnames h k).length ≤ k
  | 0 => by simp [pnames]
  | k + 1 => by
    have := pnames_length h k
    unfold pnames
    split
    · simp; omega
    · omega
set_option maxRecDepth 1000000 in
set_option maxHeartbeats 1000000 in
theorem law_names (h : Int) (w : World) : Calls Tryz.prog 15 #[.int .i64 h] w fun e w' => ∃ v, e = .returned v ∧ Below w.heap.size w w' ∧ w'.ownsRow 0 9 1 v (pnames h 4).length ((pnames h 4).map Value.string) := by
  obtain ⟨i0, hi, hz0, hz1, hz2⟩ := info_parts Tryz.infoStr
  have hrow : (w.alloc (.cells (pwords.map Value.string).toArray 9)).heap[w.heap.size]? = some (.cells (pwords.map Value.string).toArray 9 (0, 0)) := heap_alloc_new _ _
  have HB0 : Hid (Below w.heap.size w (w.alloc (.cells (pwords.map Value.string).toArray 9))) := (Below.refl _ _).alloc (Nat.le_refl _) _
  have HR : Hid _ := hrow
  clear hrow
  go_enter Tryz.func15, Tryz.ntmps15
  go_wp2_with fail
  go_loopw [4, 5] (fun v4 v5 wr => ∃ (k : Nat) (ao : Option Addr) (ln cp : Nat), v5 = .int .i64 k ∧ k ≤ 4 ∧ v4 = .slice ao ln cp ∧ Hid (wr.ownsRow (w.heap.size + 1) 9 1 (.slice ao ln cp) (pnames h k).length ((pnames h k).map Value.string) ∧ Below (w.heap.size + 1) (w.alloc (.cells (pwords.map Value.string).toArray 9)) wr)) (fun _ v5 _ => 4 - (intOf v5).toNat)
  case atStart => exact ⟨0, none, 0, 0, rfl, by omega, rfl, World.ownsRow_nil _ _ _ _, Below.refl _ _⟩
  case round =>
    obtain ⟨k, ao, ln, cp, rfl, hk, rfl, HK⟩ := hrel
    by_cases h4 : k = 4
    · subst h4
      go_wp2
      go_ret
      exact ⟨_, rfl, HB0.out.trans (HK.out.2.mono (by omega)), owns_lower HK.out.1 (Nat.zero_le _)⟩
    have hk4 : k = 0 ∨ k = 1 ∨ k = 2 ∨ k = 3 := by omega
    have hszr : w.heap.size + 1 ≤ wr.heap.size := by have := HK.out.2.size; simpa using this
    clear h4
    rcases hk4 with rfl | rfl | rfl | rfl
    · have c : wr.cell? ⟨w.heap.size, 0, none⟩ = some (.string ⟨#[109, 97, 120]⟩) := cell_of_heap ((HK.out.2.block _ (by omega)).trans HR.out) rfl
      have hln := pnames_length h 0
      cases hb : (bits BinOp.and IntKind.i64 h 1 == 1) with
      | true =>
        have HP : Hid (pnames h 1 = pnames h 0 ++ [⟨#[109, 97, 120]⟩]) := by
          have e : bitB h 0 = true := hb
          show pnames h 1 = _
          conv => lhs; unfold pnames
          rw [if_pos e]
          rfl
        go_wp2_with (first
            | (at_builtin; refine wpList_append_at _ rfl _ _ 30 rfl (w.heap.size + 1) 9 i0 (.string { data := #[] }) 1 16 Tryz.underlying30 hi hz0 hz1 hz2 rfl (by decide) (.slice ao ln cp) (pnames h 0).length ((pnames h 0).map Value.string) rfl (HK.out.1.alloc _) ⟨wr.heap.size, 0, none⟩ 1 1 [.string ⟨#[109, 97, 120]⟩] rfl rfl (cell_one8 rfl) (fun x hx => by simp at hx; subst hx; rfl) (by unfold maxLen; omega) (by omega) (by simp; omega) (by decide) ?_; intro v' w5 hown hgrow hnil; have Q : Hid _ := And.intro hown hgrow; obtain ⟨ao2, cp2, rfl⟩ := owns_len hown; clear hown hgrow hnil)
            | fail)
        go_roundw
        case rel =>
          refine ⟨1, _, _, _, by go_num, by omega, rfl, ?_, ?_⟩
          · rw [HP.out, List.length_append, List.map_append]
            exact Q.out.1
          · exact (HK.out.2.alloc hszr _).trans (grown_below (HK.out.1.alloc _) Q.out.2 (by simp; omega))
        case measure => simp [intOf]
      | false =>
        have HP : Hid (pnames h 1 = pnames h 0) := by
          have e : bitB h 0 = false := hb
          show pnames h 1 = _
          conv => lhs; unfold pnames
          rw [if_neg (by rw [e]; decide)]
        go_wp2
        go_roundw
        case rel => exact ⟨1, ao, ln, cp, by go_num, by omega, rfl, by rw [HP.out]; exact HK.out.1, HK.out.2⟩
        case measure => simp [intOf]
    · have c : wr.cell? ⟨w.heap.size, 1, none⟩ = some (.string ⟨#[116, 119, 105, 99, 101]⟩) := cell_of_heap ((HK.out.2.block _ (by omega)).trans HR.out) rfl
      have hln := pnames_length h 1
      cases hb : (bits BinOp.and IntKind.i64 (h / 2) 1 == 1) with
      | true =>
        have HP : Hid (pnames h 2 = pnames h 1 ++ [⟨#[116, 119, 105, 99, 101]⟩]) := by
          have e : bitB h 1 = true := hb
          show pnames h 2 = _
          conv => lhs; unfold pnames
          rw [if_pos e]
          rfl
        go_wp2_with (first
            | (at_builtin; refine wpList_append_at _ rfl _ _ 30 rfl (w.heap.size + 1) 9 i0 (.string { data := #[] }) 1 16 Tryz.underlying30 hi hz0 hz1 hz2 rfl (by decide) (.slice ao ln cp) (pnames h 1).length ((pnames h 1).map Value.string) rfl (HK.out.1.alloc _) ⟨wr.heap.size, 0, none⟩ 1 1 [.string ⟨#[116, 119, 105, 99, 101]⟩] rfl rfl (cell_one8 rfl) (fun x hx => by simp at hx; subst hx; rfl) (by unfold maxLen; omega) (by omega) (by simp; omega) (by decide) ?_; intro v' w5 hown hgrow hnil; have Q : Hid _ := And.intro hown hgrow; obtain ⟨ao2, cp2, rfl⟩ := owns_len hown; clear hown hgrow hnil)
            | fail)
        go_roundw
        case rel =>
          refine ⟨2, _, _, _, by go_num, by omega, rfl, ?_, ?_⟩
          · rw [HP.out, List.length_append, List.map_append]
            exact Q.out.1
          · exact (HK.out.2.alloc hszr _).trans (grown_below (HK.out.1.alloc _) Q.out.2 (by simp; omega))
        case measure => simp [intOf]
      | false =>
        have HP : Hid (pnames h 2 = pnames h 1) := by
          have e : bitB h 1 = false := hb
          show pnames h 2 = _
          conv => lhs; unfold pnames
          rw [if_neg (by rw [e]; decide)]
        go_wp2
        go_roundw
        case rel => exact ⟨2, ao, ln, cp, by go_num, by omega, rfl, by rw [HP.out]; exact HK.out.1, HK.out.2⟩
        case measure => simp [intOf]
    · have c : wr.cell? ⟨w.heap.size, 2, none⟩ = some (.string ⟨#[98, 111, 111, 109]⟩) := cell_of_heap ((HK.out.2.block _ (by omega)).trans HR.out) rfl
      have hln := pnames_length h 2
      cases hb : (bits BinOp.and IntKind.i64 (h / 4) 1 == 1) with
      | true =>
        have HP : Hid (pnames h 3 = pnames h 2 ++ [⟨#[98, 111, 111, 109]⟩]) := by
          have e : bitB h 2 = true := hb
          show pnames h 3 = _
          conv => lhs; unfold pnames
          rw [if_pos e]
          rfl
        go_wp2_with (first
            | (at_builtin; refine wpList_append_at _ rfl _ _ 30 rfl (w.heap.size + 1) 9 i0 (.string { data := #[] }) 1 16 Tryz.underlying30 hi hz0 hz1 hz2 rfl (by decide) (.slice ao ln cp) (pnames h 2).length ((pnames h 2).map Value.string) rfl (HK.out.1.alloc _) ⟨wr.heap.size, 0, none⟩ 1 1 [.string ⟨#[98, 111, 111, 109]⟩] rfl rfl (cell_one8 rfl) (fun x hx => by simp at hx; subst hx; rfl) (by unfold maxLen; omega) (by omega) (by simp; omega) (by decide) ?_; intro v' w5 hown hgrow hnil; have Q : Hid _ := And.intro hown hgrow; obtain ⟨ao2, cp2, rfl⟩ := owns_len hown; clear hown hgrow hnil)
            | fail)
        go_roundw
        case rel =>
          refine ⟨3, _, _, _, by go_num, by omega, rfl, ?_, ?_⟩
          · rw [HP.out, List.length_append, List.map_append]
            exact Q.out.1
          · exact (HK.out.2.alloc hszr _).trans (grown_below (HK.out.1.alloc _) Q.out.2 (by simp; omega))
        case measure => simp [intOf]
      | false =>
        have HP : Hid (pnames h 3 = pnames h 2) := by
          have e : bitB h 2 = false := hb
          show pnames h 3 = _
          conv => lhs; unfold pnames
          rw [if_neg (by rw [e]; decide)]
        go_wp2
        go_roundw
        case rel => exact ⟨3, ao, ln, cp, by go_num, by omega, rfl, by rw [HP.out]; exact HK.out.1, HK.out.2⟩
        case measure => simp [intOf]
    · have c : wr.cell? ⟨w.heap.size, 3, none⟩ = some (.string ⟨#[195, 164, 104]⟩) := cell_of_heap ((HK.out.2.block _ (by omega)).trans HR.out) rfl
      have hln := pnames_length h 3
      cases hb : (bits BinOp.and IntKind.i64 (h / 8) 1 == 1) with
      | true =>
        have HP : Hid (pnames h 4 = pnames h 3 ++ [⟨#[195, 164, 104]⟩]) := by
          have e : bitB h 3 = true := hb
          show pnames h 4 = _
          conv => lhs; unfold pnames
          rw [if_pos e]
          rfl
        go_wp2_with (first
            | (at_builtin; refine wpList_append_at _ rfl _ _ 30 rfl (w.heap.size + 1) 9 i0 (.string { data := #[] }) 1 16 Tryz.underlying30 hi hz0 hz1 hz2 rfl (by decide) (.slice ao ln cp) (pnames h 3).length ((pnames h 3).map Value.string) rfl (HK.out.1.alloc _) ⟨wr.heap.size, 0, none⟩ 1 1 [.string ⟨#[195, 164, 104]⟩] rfl rfl (cell_one8 rfl) (fun x hx => by simp at hx; subst hx; rfl) (by unfold maxLen; omega) (by omega) (by simp; omega) (by decide) ?_; intro v' w5 hown hgrow hnil; have Q : Hid _ := And.intro hown hgrow; obtain ⟨ao2, cp2, rfl⟩ := owns_len hown; clear hown hgrow hnil)
            | fail)
        go_roundw
        case rel =>
          refine ⟨4, _, _, _, by go_num, by omega, rfl, ?_, ?_⟩
          · rw [HP.out, List.length_append, List.map_append]
            exact Q.out.1
          · exact (HK.out.2.alloc hszr _).trans (grown_below (HK.out.1.alloc _) Q.out.2 (by simp; omega))
        case measure => simp [intOf]
      | false =>
        have HP : Hid (pnames h 4 = pnames h 3) := by
          have e : bitB h 3 = false := hb
          show pnames h 4 = _
          conv => lhs; unfold pnames
          rw [if_neg (by rw [e]; decide)]
        go_wp2
        go_roundw
        case rel => exact ⟨4, ao, ln, cp, by go_num, by omega, rfl, by rw [HP.out]; exact HK.out.1, HK.out.2⟩
        case measure => simp [intOf]
/-- clear of a row of bytes of the call's own: nothing else is turned. -/
theorem run_clear8 {B : Nat} {w : World} {v : Value} {l : List UInt8} (ho : Out8 B w v l) (ty : TypeId) : ∃ w', (Builtin.clear_ #[78] ty #[v]).run Tryz.prog w = .ok (.tuple #[]) w' ∧ w.grownBy w' v.ownBlock := by
  obtain ⟨i0, hi, hz0, hz1, hz2⟩ := info_parts Tryz.infoByte
  rcases ho.2 with ⟨rfl, h1⟩ | ⟨g, cap, cur, rfl, hbg, hg, hnc, hcm, hcs, htake⟩
  · refine ⟨w, ?_, ⟨rfl, rfl, rfl, Nat.le_refl _, fun _ _ _ => rfl⟩⟩
    simp [Builtin.clear_, run_underlying Tryz.underlying78, Result.andThen]
  · cases hn : l.length with
    | zero =>
      refine ⟨w, ?_, ⟨rfl, rfl, rfl, Nat.le_refl _, fun _ _ _ => rfl⟩⟩
      simp [Builtin.clear_, run_underlying Tryz.underlying78, Result.andThen]
    | succ n =>
      rw [hn] at hnc
      have hz : (zeroValue 5).run Tryz.prog w = .ok (.int .u8 0) w := by kernel_rfl
      obtain ⟨cs, hst⟩ : ∃ cs, (storeCells ⟨g, 0, none⟩ (Builtin.zeroCells (Value.int .u8 0).cells (n + 1)).toList).run Tryz.prog w = .ok () (w.setRow g cs) := ⟨_, run_storeCells_at (P := Tryz.prog) g 0 5 (Builtin.zeroCells (Value.int .u8 0).cells (n + 1)).toList 0 cur w hg (by simp [Builtin.zeroCells, Value.cells]; omega) (fun x hx => by
        simp [Builtin.zeroCells, Value.cells] at hx
        obtain ⟨-, -, rfl⟩ := hx
        rw [Nat.mod_one]
        rfl)⟩
      refine ⟨w.setRow g cs, ?_, ?_⟩
      · simp only [Builtin.clear_, run_underlying Tryz.underlying78, Sem.run_bind, Sem.run_pure, Result.andThen_ok, List.getElem?_toArray, List.getElem?_cons_zero, hz, hst]
      · refine ⟨rfl, rfl, rfl, by simp [World.setRow], fun k hk hne => ?_⟩
        have : g ≠ k := fun e => hne (by rw [e]; rfl)
        exact setRow_other w g k _ (fun e => this e.symm)
/-- clear at the operation. -/
theorem wpList_clear8 (w : World) {ops : Array Oper} {rest : List Oper} {o : Oper} {a : Act} {Q : Exit → Act → World → Prop} (hg : o.guard = none) (x : Operand) (hop : o.op = .call { callee := .builtin .clear, args := #[x], argTypes := #[78] })
    {B : Nat} {v : Value} {l : List UInt8} (hx : a.eval x = v) (ho : Out8 B w v l) (hK : ∀ w', w.grownBy w' v.ownBlock → wpList Tryz.prog ops Q rest (a.put o.dst (.tuple #[])) w') : wpList Tryz.prog ops Q (o :: rest) a w := by
  refine wpList_plain hg fun K hK' => ?_
  obtain ⟨w', hr, h2⟩ := run_clear8 ho o.type
  unfold Oper.wp execOp
  simp only [hop, resolve, invoke, builtin, Sem.run_bind, Sem.run_pure, Result.andThen_ok, List.map_toArray, List.map_cons, List.map_nil, hx, hr]
  exact hK' _ _ (hK w' h2)
end Go.Proofs.YtihmgoahobbdkaaGreatDoor
