/-
  A WINDOW OF int64: NewWindow, Len, Push, and what comes too late, WALKED.
-/
import Derived.Test.YtaghcjpoihkpjaaGreatDoorJM31
import Derived.Shelf.Abstract
import Derived.RangeFuncNested
import Derived.RangeFuncBound
import Derived.RangeFuncCalls
import Derived.RangeFuncLeaves
import Derived.Shelf.RegionOpen
import Derived.OwnWalkIn
import Derived.TacticsInMore
import Derived.LoopNIn
import Derived.LoopIn
import Derived.Test.YtaghcjpoihkpjaaGreatDoorJM2
import Derived.Test.YtaghcjpoihkpjaaGreatDoorJM28
namespace Go.Proofs.YtaghcjpoihkpjaaGreatDoor.Win
open Go.RowKit Go.Lib

set_option maxRecDepth 1000000 in
theorem lateI {w : World} {R : Nat} {wid tm : Int} {k : List (Int × Int)} {mv : Value} (h : WinI w R wid tm k mv) (t : Int) (hlt : t < tm) :
    Calls Tryz.prog 91 #[.pointer (some ⟨R, 0, none⟩), .int .i64 t] w fun e w' => e = .returned (.bool false) ∧ w' = w := by
  have c1 := cell_of_heap (i := 1) h.blk rfl
  clear h
  go_enter Tryz.func91, Tryz.ntmps91
  go_wp2
  go_ret
  exact ⟨rfl, rfl⟩
set_option maxRecDepth 1000000 in
theorem pushLateI {w : World} {R : Nat} {wid tm : Int} {k : List (Int × Int)} {mv : Value} (h : WinI w R wid tm k mv) (t : Int) (v : Int) (hlt : t < tm) :
    Calls Tryz.prog 53 #[.pointer (some ⟨R, 0, none⟩), .int .i64 t, (Value.int .i64) v] w fun e w' => e = .returned (.bool false) ∧ w' = w := by
  have c1 := cell_of_heap (i := 1) h.blk rfl
  clear h
  go_enter Tryz.func53, Tryz.ntmps53
  go_wp2
  go_ret
  exact ⟨rfl, rfl⟩
set_option maxRecDepth 1000000 in
theorem lenI {w : World} {R : Nat} {wid tm : Int} {k : List (Int × Int)} {mv : Value} (h : WinI w R wid tm k mv) :
    Calls Tryz.prog 140 #[.pointer (some ⟨R, 0, none⟩)] w fun e w' => e = .returned (.int .i64 k.length) ∧ w' = w := by
  obtain ⟨ao, cp, rfl⟩ := owns_slice h.own
  have c2 := cell_of_heap (i := 2) h.blk rfl
  clear h
  go_enter Tryz.func140, Tryz.ntmps140
  go_wp2
  go_ret
  exact ⟨rfl, rfl⟩
set_option maxRecDepth 1000000 in
theorem newI (w : World) (wid : Int) (hw : I64 wid) :
    Calls Tryz.prog 137 #[.int .i64 wid] w fun e w' => e = .returned (.pointer (some ⟨w.heap.size, 0, none⟩)) ∧ Below w.heap.size w w' ∧ w'.heap.size = w.heap.size + 1 ∧ WinI w' w.heap.size wid (-9223372036854775808) [] (.slice none 0 0) := by
  go_enter Tryz.func137, Tryz.ntmps137
  go_wp2
  go_ret
  exact ⟨rfl, (Below.refl _ _).alloc (Nat.le_refl _) _, by simp, block_new _ _ _, World.ownsRow_nil _ _ _ _, hw, by unfold I64; omega, by simp, by simp⟩

/-- A sample is behind the others, the time still as it was. -/
theorem pushedI {w w5 : World} {R : Nat} {wid tm : Int} {k : List (Int × Int)} {mv v' : Value} {t : Int} {v : Int} (h : WinI w R wid tm k mv) (h16 : k.length ≤ 16) (ht : I64 t) {o : Obj} (hown : w5.ownsRow 0 227 2 v' (k.length + 1) (sCells (Value.int .i64) k ++ [.int .i64 t, (Value.int .i64) v])) (hg : (w.alloc o).grownBy w5 mv.ownBlock) :
    WinI (w5.setCell ⟨R, 2, none⟩ v') R wid tm (k ++ [(t, v)]) v' ∧ Only (Mine R mv) w (w5.setCell ⟨R, 2, none⟩ v') := by
  have hne := row_ne h.blk h.own (by decide)
  have b5 : w5.heap[R]? = some (.cells #[.int .i64 wid, .int .i64 tm, mv] 225 (0, 0)) := (hg.block R (by simp; have := heap_lt h.blk; omega) (fun e => hne e.symm)).trans (heap_alloc_old h.blk)
  have hne5 := row_ne b5 hown (by decide)
  refine ⟨⟨heap_set_same (i := 2) (v := v') b5, ?_, h.wid64, h.tm64, ?_, by simp; omega⟩, ?_⟩
  · have := ((Only.refl (fun b => b = R) w5).setCell (a := ⟨R, 2, none⟩) (fun _ => rfl) v').owns hown (fun g hg e => by subst e; exact hne5 hg)
    rw [sCells_append]
    simpa [sCells] using this
  · intro x hx
    rcases List.mem_append.1 hx with hx | hx
    · exact h.times x hx
    · rw [List.mem_singleton.1 hx]; exact ht
  · exact (((Only.refl _ w).alloc o).grown hg (fun b _ e => .inr e)).setCell (a := ⟨R, 2, none⟩) (fun _ => .inl rfl) v'

set_option maxRecDepth 1000000 in
set_option maxHeartbeats 1000000 in
theorem pushI {w : World} {R : Nat} {wid tm : Int} {k : List (Int × Int)} {mv : Value} (h : WinI w R wid tm k mv) (h16 : k.length ≤ 16) (t : Int) (v : Int) (ht : I64 t) (hle : tm ≤ t) (hts : ∀ x ∈ k, x.1 ≤ t) :
    Calls Tryz.prog 53 #[.pointer (some ⟨R, 0, none⟩), .int .i64 t, (Value.int .i64) v] w fun e w' => e = .returned (.bool true) ∧ ∃ mv', WinI w' R wid t (trim wid t (k ++ [(t, v)])) mv' ∧ (mv'.ownBlock = mv.ownBlock ∨ ∃ g, mv'.ownBlock = some g ∧ w.heap.size ≤ g) ∧ Only (Mine R mv) w w' := by
  obtain ⟨i0, hi0, hz0, hz1, hz2⟩ := info_parts infoSamI
  obtain ⟨ao, cp, rfl⟩ := owns_slice h.own
  have c1 := cell_of_heap (i := 1) h.blk rfl
  have c2 := cell_of_heap (i := 2) h.blk rfl
  have hlt : ¬ t < tm := by omega
  have H : Hid (WinI w R wid tm k (.slice ao k.length cp)) := h
  have HTS : Hid (∀ x ∈ k, x.1 ≤ t) := hts
  clear hts h
  go_enter Tryz.func53, Tryz.ntmps53
  go_wp2_with (first | (at_builtin; refine wpList_append_at _ rfl _ _ 223 rfl 0 227 i0 (.agg #[.int .i64 0, (Value.int .i64) 0]) 2 16 Tryz.underlying223 hi0 hz0 hz1 hz2 rfl (by decide) (.slice ao k.length cp) k.length (sCells (Value.int .i64) k) rfl (H.out.own.alloc _) ⟨w.heap.size, 0, none⟩ 1 1 [.int .i64 t, (Value.int .i64) v] rfl rfl (cells_two_new _ _ _ _) (two_one rfl rfl) (by unfold maxLen; omega) (by omega) (by omega) (by decide) ?_; intro v' w5 hown hgrow hnil
                        have hQ := pushedI H.out h16 ht hown hgrow
                        have hne := row_ne H.out.blk H.out.own (by decide)
                        have b5 : w5.heap[R]? = some (.cells #[.int .i64 wid, .int .i64 tm, .slice ao k.length cp] 225 (0, 0)) := (hgrow.block R (by simp; have := heap_lt H.out.blk; omega) (fun e => hne e.symm)).trans (heap_alloc_old H.out.blk)
                        have m5 := cell_of_heap (i := 2) b5 rfl
                        have f5 := frozen_of_heap (i := 2) b5
                        obtain ⟨ao2, cp2, rfl⟩ := owns_slice hown
                        have had := advanceI hQ.1 t ht hle (fun x hx => by rcases List.mem_append.1 hx with hx | hx; exact HTS.out x hx; rw [List.mem_singleton.1 hx]; exact Int.le_refl _)
                        have HQ : Hid _ := hQ
                        have HNIL : Hid _ := hnil
                        clear hQ hown hgrow hnil b5 hne))
  refine had.mono ?_
  rintro e w6 ⟨rfl, mv', hw, he, ho⟩
  have HR : Hid _ := And.intro hw (And.intro he ho)
  clear hw he ho had
  go_wp2
  go_ret
  refine ⟨rfl, mv', HR.out.1, ?_, ?_⟩
  · rw [HR.out.2.1]
    rcases HNIL.out with h | h
    · exact .inl h
    · exact .inr ⟨_, h, by simp⟩
  · refine HQ.out.2.trans HR.out.2.2 fun b hb q => ?_
    rcases q with q | q
    · exact .inl q
    · rcases HNIL.out with h | h
      · exact .inr (h ▸ q)
      · rw [h] at q
        injection q with q
        simp at q
        omega
end Go.Proofs.YtaghcjpoihkpjaaGreatDoor.Win
namespace Go.Proofs.YtaghcjpoihkpjaaGreatDoor.Win
open Go.RowKit Go.Lib Go.Shelf

def lessI (a b : Int) : Bool := decide (a < b)
set_option maxRecDepth 1000000 in
theorem clessI (a b : Int) (w : World) : Calls Tryz.prog 166 #[(Value.int .i64) a, (Value.int .i64) b] w fun e w' => e = .returned (.bool (lessI a b)) ∧ w' = w := by
  unfold lessI
  go_enter Tryz.func166, Tryz.ntmps166
  go_wp2
  all_goals go_ret
  all_goals exact ⟨rfl, rfl⟩
set_option maxRecDepth 1000000 in
theorem cmostI (a b : Int) (w : World) : Calls Tryz.prog 167 #[(Value.int .i64) a, (Value.int .i64) b] w fun e w' => e = .returned (.bool (lessI b a)) ∧ w' = w := by
  have h := clessI b a w
  generalize lessI b a = B at *
  go_enter Tryz.func167, Tryz.ntmps167
  go_wp2_with fail
  refine h.mono ?_
  rintro e w' ⟨rfl, hw⟩
  have hw := hw.symm
  subst hw
  clear h
  go_wp2
  go_ret
  exact ⟨rfl, rfl⟩

def foreEndI (o : Option Int) : Ending := match o with | none => .returned (.tuple #[(Value.int .i64) 0, .bool false]) | some a => .returned (.tuple #[(Value.int .i64) a, .bool true])
set_option maxRecDepth 1000000 in
set_option maxHeartbeats 1000000 in
theorem foremostI {w : World} {R : Nat} {wid tm : Int} {k : List (Int × Int)} {mv : Value} (h : WinI w R wid tm k mv) (f : Nat) (ef : ∀ args W, (callFunc f args).run Tryz.prog W = .ok (.enter f args) W) (ahead : Int → Int → Bool) (hf : ∀ a b w, Calls Tryz.prog f #[(Value.int .i64) a, (Value.int .i64) b] w fun e w' => e = .returned (.bool (ahead a b)) ∧ w' = w) :
    Calls Tryz.prog 165 #[.pointer (some ⟨R, 0, none⟩), .func (.func f) #[] #[]] w fun e w' => e = foreEndI (foremost ahead (k.map (·.2))) ∧ Below w.heap.size w w' := by
  obtain ⟨ao, cp, rfl⟩ := owns_slice h.own
  have c2 : w.cell? ⟨R, 2, none⟩ = some (.slice ao k.length cp) := cell_of_heap (i := 2) h.blk rfl
  have H : Hid (WinI w R wid tm k (.slice ao k.length cp)) := h
  cases k with
  | nil =>
    clear h
    go_enter Tryz.func165, Tryz.ntmps165
    go_wp2
    go_ret2
    exact ⟨rfl, Below.refl _ _⟩
  | cons x0 l =>
    obtain ⟨g, cp', he, q1, q2⟩ := h.cells (i := 0) (x := x0) rfl
    injection he with he1 he2 he3
    subst he1
    rw [Nat.zero_mul] at q2
    have hl : l.length + 1 ≤ 17 := h.len
    have HF : Hid (∀ a b w, Calls Tryz.prog f #[(Value.int .i64) a, (Value.int .i64) b] w fun e w' => e = .returned (.bool (ahead a b)) ∧ w' = w) := hf
    clear h he2 he3 q1 hf
    have hlc : l.length + 1 ≤ cp := by
      rcases H.out.own.2 with ⟨-, h0⟩ | ⟨g, cap, cur, he, -, -, hnc, -⟩
      · simp at h0
      · injection he with _ _ he; subst he; simpa using hnc
    have hcm : cp ≤ 9223372036854775807 := by
      rcases H.out.own.2 with ⟨-, h0⟩ | ⟨g, cap, cur, he, -, -, -, hcm, -⟩
      · simp at h0
      · injection he with _ _ he; subst he; unfold maxLen at hcm; omega
    rw [List.length_cons] at c2
    generalize hn : l.length = n at *
    have hnz : (((n : Int) + 1) == 0) = false := beq_eq_false_iff_ne.2 (by omega)
    by_cases hc1 : cp = 1
    · have h0 : n = 0 := by omega
      subst h0
      subst hc1
      obtain rfl : l = [] := List.length_eq_zero_iff.1 hn
      go_enter Tryz.func165, Tryz.ntmps165
      go_wp2_with fail
      refine wp_loop_rounds 1 ?_
      rw [rounds_succ]
      go_wp2
      go_ret2
      exact ⟨rfl, Below.refl _ _⟩
    · go_enter Tryz.func165, Tryz.ntmps165
      go_wp2_with fail
      go_loopw [7, 30] (fun v7 v30 wr => ∃ i : Nat, v30 = .int .i64 i ∧ i ≤ n ∧ v7 = (Value.int .i64) (((l.take i).map (·.2)).foldl (fun f x => if ahead x f = true then x else f) x0.2) ∧ Hid (Below w.heap.size w wr)) (fun _ v30 _ => n - (intOf v30).toNat)
      case atStart => exact ⟨0, rfl, Nat.zero_le _, rfl, Below.refl _ _⟩
      case round =>
        obtain ⟨i, rfl, hi, rfl, HB⟩ := hrel
        rcases Nat.lt_or_ge i n with hlt | hge
        · obtain ⟨x, hx⟩ : ∃ x, l[i]? = some x := ⟨l[i], List.getElem?_eq_getElem (by omega)⟩
          obtain ⟨g', cp', he, r1, r2⟩ := (H.out.below HB.out).cells (i := i + 1) (x := x) (by simpa using hx)
          injection he with he1 he2 he3
          injection he1 with he1
          injection he1 with he1
          subst he1
          clear he2 he3
          rw [show (i + 1) * 2 = 2 + i * 2 by omega] at r1 r2
          have ht : (l.take (i + 1)).map (·.2) = (l.take i).map (·.2) ++ [x.2] := by
            rw [List.take_add_one, hx]
            simp
          have HT : Hid ((l.take (i + 1)).map (·.2) = (l.take i).map (·.2) ++ [x.2]) := ht
          clear ht
          obtain ⟨x1, x2⟩ := x
          dsimp only at r1 r2
          obtain ⟨y, hy⟩ : ∃ y, ((l.take i).map (·.2)).foldl (fun f x => if ahead x f = true then x else f) x0.2 = y := ⟨_, rfl⟩
          have HY : Hid (((l.take i).map (·.2)).foldl (fun f x => if ahead x f = true then x else f) x0.2 = y) := hy
          rw [hy]
          clear hy
          have hlt2 : (i : Int) < n := by omega
          have hca := HF.out x2 y
          go_wp2_with fail
          refine (hca _).mono ?_
          rintro e w2 ⟨rfl, hw2⟩
          have HB2 : Hid (Below w.heap.size w w2) := by rw [hw2]; exact HB.out.alloc HB.out.size _
          have n1 : w2.cell? ⟨wr.heap.size, 1, none⟩ = some ((Value.int .i64) x2) := by rw [hw2]; exact cell_of_heap (block_new _ _ _) rfl
          clear hw2 hca r1 r2
          cases hah : ahead x2 y with
          | true =>
            have HAH : Hid (ahead x2 y = true) := hah
            clear hah
            go_wp2
            go_roundw
            case rel => exact ⟨i + 1, by go_num, by omega, by rw [HT.out, List.foldl_append, HY.out]; simp [HAH.out], HB2⟩
            case measure => simp [intOf]; omega
          | false =>
            have HAH : Hid (ahead x2 y = false) := hah
            clear hah
            go_wp2
            go_roundw
            case rel => exact ⟨i + 1, by go_num, by omega, by rw [HT.out, List.foldl_append, HY.out]; simp [HAH.out], HB2⟩
            case measure => simp [intOf]; omega
        · obtain rfl : i = n := by omega
          have ht : l.take i = l := List.take_of_length_le (by omega)
          have HT : Hid (foremost ahead ((x0 :: l).map (·.2)) = some (((l.take i).map (·.2)).foldl (fun f x => if ahead x f = true then x else f) x0.2)) := by rw [ht]; rfl
          clear ht
          generalize ((l.take i).map (·.2)).foldl (fun f x => if ahead x f = true then x else f) x0.2 = y at *
          go_wp2
          go_ret2
          rw [HT.out]
          exact ⟨rfl, HB.out⟩

set_option maxRecDepth 1000000 in
theorem leastI {w : World} {R : Nat} {wid tm : Int} {k : List (Int × Int)} {mv : Value} (h : WinI w R wid tm k mv) :
    Calls Tryz.prog 142 #[.pointer (some ⟨R, 0, none⟩)] w fun e w' => e = foreEndI (foremost lessI (k.map (·.2))) ∧ Below w.heap.size w w' := by
  have hf := foremostI h 166 (enters_of Tryz.func166 (by kernel_rfl) rfl) lessI clessI
  clear h
  generalize foremost lessI (k.map (·.2)) = o at *
  go_enter Tryz.func142, Tryz.ntmps142
  go_wp2_with fail
  refine hf.mono ?_
  rintro e w' ⟨rfl, hb⟩
  have HB : Hid (Below w.heap.size w w') := hb
  clear hb hf
  cases o <;> (unfold foreEndI; go_wp2; go_ret2; exact ⟨rfl, HB.out⟩)
set_option maxRecDepth 1000000 in
theorem mostI {w : World} {R : Nat} {wid tm : Int} {k : List (Int × Int)} {mv : Value} (h : WinI w R wid tm k mv) :
    Calls Tryz.prog 143 #[.pointer (some ⟨R, 0, none⟩)] w fun e w' => e = foreEndI (foremost (fun a b => lessI b a) (k.map (·.2))) ∧ Below w.heap.size w w' := by
  have hf := foremostI h 167 (enters_of Tryz.func167 (by kernel_rfl) rfl) (fun a b => lessI b a) cmostI
  clear h
  generalize foremost (fun a b => lessI b a) (k.map (·.2)) = o at *
  go_enter Tryz.func143, Tryz.ntmps143
  go_wp2_with fail
  refine hf.mono ?_
  rintro e w' ⟨rfl, hb⟩
  have HB : Hid (Below w.heap.size w w') := hb
  clear hb hf
  cases o <;> (unfold foreEndI; go_wp2; go_ret2; exact ⟨rfl, HB.out⟩)
end Go.Proofs.YtaghcjpoihkpjaaGreatDoor.Win
namespace Go.Proofs.YtaghcjpoihkpjaaGreatDoor.Win
open Go.RowKit Go.Lib Go.Shelf

set_option maxHeartbeats 2000000 in
set_option maxRecDepth 1000000 in
theorem cloneI {w : World} {mv : Value} {k : List (Int × Int)} (own : w.ownsRow 0 227 2 mv k.length (sCells (Value.int .i64) k)) (hl : k.length ≤ 17) :
    Calls Tryz.prog 198 #[mv] w fun e w' =>
      ∃ v', e = .returned v' ∧ w'.ownsRow w.heap.size 227 2 v' k.length (sCells (Value.int .i64) k) ∧ Below w.heap.size w w' := by
  obtain ⟨i0, hi0, hz0, hz1, hz2⟩ := info_parts infoSamI
  have q22 : ∀ (w : World) (a : Option Addr) (n c n' c' : Nat), (binOp .eql 223 (.slice a n c) (.slice none n' c')).run Tryz.prog w = .ok (.bool a.isNone) w := fun w a n c n' c' => Lib.run_eql_slice_nil w _ _ a n c n' c' Tryz.underlying223
  have OWN : Hid (w.ownsRow 0 227 2 mv k.length (sCells (Value.int .i64) k)) := own
  rcases own.2 with ⟨rfl, h0⟩ | ⟨g, cap, cur, rfl, -, hg, hnc, hcm, hcs, htake⟩
  · clear own
    have hk : k = [] := List.length_eq_zero_iff.1 h0
    subst hk
    go_enter Tryz.func198, Tryz.ntmps198
    go_wp2
    go_ret
    exact ⟨_, rfl, World.ownsRow_nil _ _ _ _, Below.refl _ _⟩
  · have hcc := own.cells (g := g) rfl
    have A : Hid (∀ j u, (sCells (Value.int .i64) k)[j]? = some u → w.cell? ((⟨g, 0, none⟩ : Addr).add j) = some u) := hcc
    clear hcc own hg hcs htake
    generalize hn : k.length = n at *
    go_enter Tryz.func198, Tryz.ntmps198
    go_wp2_with (at_builtin; refine wpList_append_own _ rfl _ _ 223 rfl w.heap.size 227 i0 (.agg #[.int .i64 0, (Value.int .i64) 0]) 2 16 Tryz.underlying223 hi0 hz0 hz1 hz2 rfl (by decide) _ _ _ rfl (World.ownsRow_made w #[] 0 (Nat.le_refl _) (Nat.zero_le _) (by simp)) ⟨g, 0, none⟩ n cap (sCells (Value.int .i64) k) rfl ?qc1 ?qc2 ?qc3 ?qc4 ?qc5 ?qc6 ?_)
    case qc1 => rw [sCells_length, hn]
    case qc2 => exact fun j u hj => cell_past (A.out j u hj) _
    case qc3 => exact sCells_one _ (fun _ => rfl) _
    case qc4 => unfold maxLen; omega
    case qc5 => omega
    case qc6 => simp
    intro v' w1 hown hgrow hnil
    have hB : Below w.heap.size w w1 := ((Below.refl _ w).alloc (Nat.le_refl _) _).grown hgrow (by simp) (by intro k hk; simp [Value.ownBlock] at hk; omega)
    have HO : Hid (w1.ownsRow w.heap.size 227 2 v' n (sCells (Value.int .i64) k)) := hown
    have HB : Hid _ := hB
    clear hB hown hgrow hnil
    go_wp2
    go_ret
    exact ⟨v', rfl, HO.out, HB.out⟩

set_option maxRecDepth 1000000 in
theorem allI (w : World) (R : Nat) : Calls Tryz.prog 181 #[.pointer (some ⟨R, 0, none⟩)] w fun e w' =>
    e = .returned (.func (.func 197) #[] #[.pointer (some ⟨w.heap.size, 0, none⟩)]) ∧ w' = w.alloc (.cells #[.pointer (some ⟨R, 0, none⟩)] 164) := by
  have hmf : ∀ (fn : Fn) (first cap : Array Value) (w : World), (Instr.makeFunc fn first cap).run Tryz.prog w = .ok (.func fn first cap) w := fun _ _ _ _ => rfl
  go_enter Tryz.func181, Tryz.ntmps181
  go_wp2
  go_ret
  exact ⟨rfl, rfl⟩
end Go.Proofs.YtaghcjpoihkpjaaGreatDoor.Win
namespace Go.Proofs.YtaghcjpoihkpjaaGreatDoor.Win
open Go.RowKit Go.Lib Go.Shelf
attribute [local go_sem] Oper.semAt_some

/-- The rows of samples lie as they lay. -/
def KeepI (W W' : World) : Prop := ∀ (b : Nat) (cs : Array Value) (z : Nat × Nat), W.heap[b]? = some (Obj.cells cs 227 z) → W'.heap[b]? = W.heap[b]?
theorem KeepI.trans {A B C : World} (h : KeepI A B) (k : KeepI B C) : KeepI A C := fun b cs z hb => (k b cs z ((h b cs z hb).trans hb)).trans (h b cs z hb)
theorem KeepI.owns {W W' : World} (h : KeepI W W') {base n : Nat} {v : Value} {xs : List Value} (ho : W.ownsRow base 227 2 v n xs) : W'.ownsRow base 227 2 v n xs := by
  refine ⟨ho.1, ?_⟩
  rcases ho.2 with hn | ⟨g, cap, cur, rfl, hbg, hg, rest⟩
  · exact .inl hn
  · exact .inr ⟨g, cap, cur, rfl, hbg, (h g _ _ hg).trans hg, rest⟩
theorem cellsI {w : World} {base : Nat} {v : Value} {l : List (Int × Int)} (h : w.ownsRow base 227 2 v l.length (sCells (Value.int .i64) l)) {i : Nat} {x : Int × Int} (hx : l[i]? = some x) :
    ∃ g cp, v = .slice (some ⟨g, 0, none⟩) l.length cp ∧ w.cell? ⟨g, i * 2, none⟩ = some (.int .i64 x.1) ∧ w.cell? ⟨g, i * 2 + 1, none⟩ = some ((Value.int .i64) x.2) := by
  have hi : i < l.length := (List.getElem?_eq_some_iff.1 hx).1
  obtain ⟨q1, q2⟩ := sCells_get (Value.int .i64) l i x hx
  rcases h.2 with ⟨-, h0⟩ | ⟨g, cap, cur, rfl, -, hg, hnc, hcm, hcs, htake⟩
  · omega
  refine ⟨g, cap, rfl, ?_, ?_⟩
  · rw [← htake, List.getElem?_take, if_pos (by omega)] at q1
    simpa [World.cell?, hg] using q1
  · rw [← htake, List.getElem?_take, if_pos (by omega)] at q2
    simpa [World.cell?, hg] using q2

set_option maxRecDepth 1000000 in
set_option maxHeartbeats 2000000 in
theorem iterI (n : Nat) (l Bx R : Nat) (mv : Value) (k : List (Int × Int)) (J Jx : List (Int × Int) → World → Prop)
    (hY : ∀ pre x W, J pre W → pre.length < k.length → YieldAt Fence.wide (n - 1) Tryz.prog l #[.int .i64 x.1, (Value.int .i64) x.2] W fun e W' =>
      (e = .returned (.bool true) ∧ J (pre ++ [x]) W' ∧ KeepI W W') ∨ (e = .returned (.bool false) ∧ Jx (pre ++ [x]) W'))
    (W : World) (hJ : AbidesFrom W.heap.size J) (hBx : W.cell? ⟨Bx, 0, none⟩ = some (.pointer (some ⟨R, 0, none⟩))) (hc2 : W.cell? ⟨R, 2, none⟩ = some mv) (own : W.ownsRow 0 227 2 mv k.length (sCells (Value.int .i64) k)) (hl : k.length ≤ 16) (h0 : J [] W) :
    CallsIn Fence.wide n Tryz.prog 197 #[.func (.yield l) #[] #[], .pointer (some ⟨Bx, 0, none⟩)] W fun e W' => (∃ v, e = .returned v) ∧ ((∃ ys, ys = k ∧ J ys W') ∨ (∃ pre, True ∧ Jx pre W')) := by
  have hcl := cloneI own (by omega)
  obtain ⟨ao, cp, rfl⟩ := owns_slice own
  clear own
  generalize hm : k.length = m at *
  refine callsIn_of_wp Tryz.func197 rfl trivial ?_ rfl
  simp only [Tryz.ntmps197, List.size_toArray, List.length_cons, List.length_nil, Nat.reduceAdd, Nat.reduceSub, Array.replicate_succ, Array.replicate_zero, List.push_toArray, List.append_toArray, List.nil_append, List.cons_append]
  gi_wp2_with fail
  refine ⟨trivial, fun h => (by cases h), (callsIn_wide.2 hcl).mono ?_⟩
  rintro e w1 ⟨cv, rfl, hown, hb1⟩
  obtain ⟨co, cc, rfl⟩ := owns_slice hown
  have hJ1 : J [] w1 := hJ [] W w1 none h0 ⟨hb1.os, hb1.tape, hb1.output, hb1.size, fun k hk _ => hb1.block k hk⟩ (fun r e => by cases e)
  have HROW : Hid (w1.ownsRow 0 227 2 (.slice co m cc) k.length (sCells (Value.int .i64) k)) := by rw [hm]; exact ⟨hown.1, hown.2.imp id (fun ⟨g, cap, cur, a1, _, a3⟩ => ⟨g, cap, cur, a1, Nat.zero_le _, a3⟩)⟩
  have HJ0 : Hid (J [] w1) := hJ1
  have HY : Hid _ := hY
  have HJ : Hid (AbidesFrom W.heap.size J) := hJ
  clear hown hb1 hcl hBx hc2 hJ1 hJ h0 hY
  gi_wp2_with fail
  gi_loopw [11] (fun v11 wr => ∃ j : Nat, v11 = .int .i64 j ∧ j ≤ m ∧ Hid (J (k.take j) wr) ∧ Hid (wr.ownsRow 0 227 2 (.slice co m cc) k.length (sCells (Value.int .i64) k))) (fun v11 _ => m - (intOf v11).toNat)
  case atStart => exact ⟨0, rfl, Nat.zero_le _, HJ0, HROW⟩
  case round =>
    obtain ⟨j, rfl, hj, HJr, HR⟩ := hrel
    clear HJ0 HROW
    rcases Nat.lt_or_ge j m with hlt | hge
    · obtain ⟨x, hx⟩ : ∃ x, k[j]? = some x := ⟨k[j], List.getElem?_eq_getElem (by omega)⟩
      obtain ⟨g, cp', he, q1, q2⟩ := cellsI HR.out hx
      injection he with he1 he2 he3
      subst he1
      clear he2 he3
      have HTK : Hid (k.take (j + 1) = k.take j ++ [x]) := (by rw [List.take_add_one, hx]; rfl : k.take (j + 1) = k.take j ++ [x])
      have hJa : J (k.take j) (wr.alloc (.cells #[.int .i64 x.1, (Value.int .i64) x.2] 227)) := HJ.out _ _ _ none HJr.out (World.grownBy_alloc wr _ none) (fun r e => by cases e)
      obtain ⟨fn, tmps, assign, body, hy, hR⟩ := HY.out (k.take j) x _ hJa (by rw [List.length_take]; omega)
      obtain ⟨x1, x2⟩ := x
      dsimp only at q1 q2 hy
      have hlt2 : (j : Int) < m := by omega
      clear hx hJa
      gi_wp2_with fail
      refine ⟨fun h => (by cases h), hR.mono ?_⟩
      rintro e w2 (⟨rfl, hJ2, hk2⟩ | ⟨rfl, hJx2⟩)
      · have HJ2 : Hid (J (k.take (j + 1)) w2) := by rw [HTK.out]; exact hJ2
        have HR2 : Hid (w2.ownsRow 0 227 2 (.slice (some ⟨g, 0, none⟩) m cc) k.length (sCells (Value.int .i64) k)) := hk2.owns (HR.out.alloc _)
        clear hJ2 hk2 hy hR q1 q2
        gi_wp2
        go_roundw
        case rel => exact ⟨j + 1, by go_num, by omega, HJ2, HR2⟩
        case measure => simp [intOf]; omega
      · have HX : Hid _ := hJx2
        clear hJx2 hy hR q1 q2
        gi_wp2
        refine bodyPost_ret (results_none rfl _ _ _) rfl ?_
        first | exact ⟨⟨_, rfl⟩, .inr ⟨_, trivial, HX.out⟩⟩ | exact ⟨⟨_, rfl⟩, .inr ⟨_, HX.out⟩⟩
    · have HF : Hid (J k wr) := by have := HJr.out; rw [List.take_of_length_le (by omega)] at this; exact this
      have hge2 : ¬ (j : Int) < m := by omega
      gi_wp2
      go_end0
      first | exact ⟨⟨_, rfl⟩, .inl ⟨_, rfl, HF.out⟩⟩ | exact ⟨⟨_, rfl⟩, .inl HF.out⟩
end Go.Proofs.YtaghcjpoihkpjaaGreatDoor.Win
namespace Go.Proofs.YtaghcjpoihkpjaaGreatDoor.Win
open Go.RowKit Go.Lib Go.Shelf
attribute [local go_sem] Oper.semAt_some

/-- What a fold to a number holds between two rounds. -/
structure FldA (sf : Nat) (w W : World) (n : Int) : Prop where
  st : W.heap[w.heap.size]? = some (.cells #[.func (.func sf) #[] #[]] 182 (0, 0))
  hvb : W.heap[w.heap.size + 1]? = some (.cells #[.int .i64 n] 2 (0, 0))
  bel : Below w.heap.size w W
theorem FldA.grown {w W W' : World} {sf B : Nat} {n : Int} {row : Option Nat} (h : FldA sf w W n) (hB : w.heap.size ≤ B) (hg : W.grownBy W' row) (hr : ∀ r, row = some r → B ≤ r ∧ ∃ o : Obj, W.heap[r]? = some o ∧ o.isCells = false) : FldA sf w W' n := by
  have hne : ∀ {b : Nat} {cs : Array Value} {T : Nat} {z : Nat × Nat}, W.heap[b]? = some (.cells cs T z) → some b ≠ row := fun hb e => by
    obtain ⟨-, o, ho, hc⟩ := hr _ e.symm
    rw [hb] at ho
    injection ho with ho
    subst ho
    cases hc
  exact ⟨(hg.block _ (heap_lt h.st) (hne h.st)).trans h.st, (hg.block _ (heap_lt h.hvb) (hne h.hvb)).trans h.hvb, h.bel.grown hg h.bel.size (fun k e => Nat.le_trans hB (hr k e).1)⟩
theorem FldA.next {sf : Nat} {w W : World} {n : Int} (h : FldA sf w W n) (m : Int) : KeepsOthers W (W.setCell ⟨w.heap.size + 1, 0, none⟩ (.int .i64 m)) ∧ KeepI W (W.setCell ⟨w.heap.size + 1, 0, none⟩ (.int .i64 m)) ∧ FldA sf w (W.setCell ⟨w.heap.size + 1, 0, none⟩ (.int .i64 m)) m := by
  refine ⟨KeepsOthers.setCell _ _ _, fun b cs z hb => Below.heap_setCell _ _ _ _ (kind_ne hb h.hvb (by decide)), ⟨heap_set_other h.st (by simp), heap_set_same (i := 0) (v := .int .i64 m) h.hvb, h.bel.setCell (p := ⟨w.heap.size + 1, 0, none⟩) (by simp) _⟩⟩

set_option maxRecDepth 1000000 in
set_option maxHeartbeats 2000000 in
theorem foldA {sf : Nat} (ef : ∀ args W, (callFunc sf args).run Tryz.prog W = .ok (.enter sf args) W) {gf : Int → Int → Int} (hsf : ∀ a v w, Calls Tryz.prog sf #[.int .i64 a, .int .i64 v] w fun e w' => ∃ r, e = .returned (.int .i64 r) ∧ w' = w ∧ (In64 a → In64 v → r = gf a v)) (hgf : ∀ a v, In64 a → In64 v → In64 (gf a v)) {w : World} {R : Nat} {wid tm : Int} {k : List (Int × Int)} {mv : Value} (h : WinI w R wid tm k mv) (hl : k.length ≤ 16) (hk : ∀ x ∈ k, In64 x.2) {a0 : Int} (ha0 : In64 a0) :
    Calls Tryz.prog 164 #[.pointer (some ⟨R, 0, none⟩), .int .i64 a0, .func (.func sf) #[] #[]] w fun e w' => e = .returned (.int .i64 ((k.map (·.2)).foldl gf a0)) ∧ Below w.heap.size w w' := by
  have hfn : ∀ (w : World) (f : Fn) (a b : Array Value), (binOp .eql 182 (.func f a b) .nilFunc).run Tryz.prog w = .ok (.bool false) w := fun w f a b => eql_func_nil w _ f a b Tryz.underlying182
  have hal := fun W => callsIn_wide (n := 3 - 1).2 (allI W R)
  refine (callsIn_wide (n := 3)).1 ?_
  refine callsIn_of_wp_marks Tryz.func164 rfl trivial ?_ rfl
  simp only [Tryz.ntmps164, List.size_toArray, List.length_cons, List.length_nil, Nat.reduceAdd, Nat.reduceSub, Array.replicate_succ, Array.replicate_zero, List.push_toArray, List.append_toArray, List.nil_append, List.cons_append]
  gi_wp2_with fail
  refine ⟨trivial, (hal _).mono ?_⟩
  rintro e w' ⟨rfl, rfl⟩
  have b0 := block_new w #[.func (.func sf) #[] #[]] 182
  have b1 := block_new (w.alloc (.cells #[.func (.func sf) #[] #[]] 182)) #[.int .i64 a0] 2
  have b2 := block_new ((w.alloc (.cells #[.func (.func sf) #[] #[]] 182)).alloc (.cells #[.int .i64 a0] 2)) #[.pointer (some ⟨R, 0, none⟩)] 164
  simp only [World.size_alloc] at b1 b2
  have hB0 : Below w.heap.size w (((w.alloc (.cells #[.func (.func sf) #[] #[]] 182)).alloc (.cells #[.int .i64 a0] 2)).alloc (.cells #[.pointer (some ⟨R, 0, none⟩)] 164)) := (((Below.refl _ w).alloc (Nat.le_refl _) _).alloc (by simp) _).alloc (by simp; omega) _
  have hwin := h.below hB0
  have F0 : FldA sf w (((w.alloc (.cells #[.func (.func sf) #[] #[]] 182)).alloc (.cells #[.int .i64 a0] 2)).alloc (.cells #[.pointer (some ⟨R, 0, none⟩)] 164)) a0 :=
    ⟨heap_alloc_old (heap_alloc_old b0), heap_alloc_old b1, hB0⟩
  obtain ⟨W0, hW0⟩ : ∃ W0, W0 = (((w.alloc (.cells #[.func (.func sf) #[] #[]] 182)).alloc (.cells #[.int .i64 a0] 2)).alloc (.cells #[.pointer (some ⟨R, 0, none⟩)] 164)) := ⟨_, rfl⟩
  rw [← hW0] at b2 hB0 hwin F0
  have hsz : w.heap.size ≤ W0.heap.size := hB0.size
  gi_wp2_with fail
  rw [← hW0]
  have hseq : SeqStopsK Fence.wide (3 - 1) Tryz.prog 197 #[.pointer (some ⟨w.heap.size + 1 + 1, 0, none⟩)] (fun x : Int × Int => #[.int .i64 x.1, Value.int .i64 x.2]) KeepI (fun ys => ys = k) (fun _ => True) k.length W0 := fun l J Jx W hW hJ _ hY h0 => by
    have hw2 := hwin.below hW
    exact iterI 2 l (w.heap.size + 1 + 1) R mv k J Jx hY W hJ (cell_of_heap ((hW.block _ (heap_lt b2)).trans b2) rfl) (cell_of_heap (i := 2) hw2.blk rfl) hw2.own hl h0
  clear hW0 hfn hal
  refine wpIn_rangeFunc_ownF rfl (by decide) (gf := 197) (lb := #[.pointer (some ⟨w.heap.size + 1 + 1, 0, none⟩)]) rfl trivial (enters_of Tryz.func197 (by kernel_rfl) rfl) hseq KeepI.trans (fun W l o o' _ hl hc _ b cs z hb => by
      refine World.putObj_heap_other (fun e => ?_)
      subst e
      rw [hb] at hl
      injection hl with hl
      subst hl
      cases hc) (Below.refl _ _) (fun _ => rfl)
    (fun pre W => ∃ a, FldA sf w W a ∧ (pre <+: k → a = (pre.map (·.2)).foldl gf a0 ∧ In64 a)) (fun _ _ _ => False) (fun pre W W' row h hg hr => by obtain ⟨a, h1, h2⟩ := h; exact ⟨a, h1.grown hsz hg hr, h2⟩) (fun _ _ _ _ _ hs _ _ => hs) ⟨a0, F0, fun _ => ⟨rfl, ha0⟩⟩
    (fun x => { tmps := #[.pointer (some ⟨R, 0, none⟩), .int .i64 a0, .func (.func sf) #[] #[], undef, undef, .pointer (some ⟨w.heap.size, 0, none⟩), .int .i64 0, .pointer (some ⟨w.heap.size + 1, 0, none⟩), undef, .int .i64 x.2, .pointer (some ⟨R, 0, none⟩), .bool false, .bool false, .func (.func sf) #[] #[], .bool false, .bool false, undef, .int .i64 a0, .pointer (some ⟨R, 0, none⟩), .func (.func 197) #[] #[.pointer (some ⟨w.heap.size + 1 + 1, 0, none⟩)], .int .i64 x.1, .int .i64 x.2, undef, undef, undef, undef, undef], defers := [] }) ?assign ?body ?done ?stop
  case assign =>
    intro l x W K hK
    gi_wp2
    exact hK
  case body =>
    rintro l pre x W ⟨a, hF, hpre⟩ hlen
    have cs : W.cell? ⟨w.heap.size, 0, none⟩ = some (.func (.func sf) #[] #[]) := cell_of_heap hF.st rfl
    have ch : W.cell? ⟨w.heap.size + 1, 0, none⟩ = some (.int .i64 a) := cell_of_heap hF.hvb rfl
    have ff : W.frozen? ⟨w.heap.size + 1, 0, none⟩ = false := frozen_of_heap hF.hvb
    have hst := hsf a x.2 W
    have HN : Hid _ := hF
    have HP : Hid _ := And.intro hpre (And.intro hk hgf)
    clear hF F0 hseq hwin b0 b1 b2 hB0 hsf hgf hpre hk
    gi_wp2_with fail
    refine ⟨trivial, (CallsIn.inRound l (callsIn_wide.2 hst)).mono ?_⟩
    rintro e W5 ⟨r, rfl, hw, hr⟩
    have hw := hw.symm
    subst hw
    have HR : Hid _ := hr
    clear hst hr
    gi_wp2
    have q := HN.out.next r
    refine ⟨q.1, q.2.1, r, q.2.2, fun hpx => ?_⟩
    have hp : pre <+: k := (List.prefix_append pre [x]).trans hpx
    have hx : x ∈ k := hpx.subset (by simp)
    obtain ⟨e1, e2⟩ := HP.out.1 hp
    have e3 := HR.out e2 (HP.out.2.1 x hx)
    rw [List.map_append, List.foldl_append, ← e1, e3]
    exact ⟨rfl, HP.out.2.2 _ _ e2 (HP.out.2.1 x hx)⟩
  case done =>
    rintro D ys W hD rfl ⟨a, hF, hpre⟩ hK
    obtain ⟨e1, -⟩ := hpre List.prefix_rfl
    have ch : W.cell? ⟨w.heap.size + 1, 0, none⟩ = some (.int .i64 a) := cell_of_heap hF.hvb rfl
    have HF : Hid _ := hF
    have HE1 : Hid _ := e1
    clear hF F0 hseq hwin b0 b1 b2 hB0 hpre e1
    gi_wp2
    refine ⟨by simp, .inl ⟨_, _, rfl, run_takeDeferred hK, ?_⟩⟩
    have hE := HF.out.grown (B := w.heap.size) (Nat.le_refl _) (grownBy_putObj' W D (.deferred none)) (fun r e => by cases e; exact ⟨by omega, _, hK, rfl⟩)
    exact ⟨_, results_tmp rfl _ _ _, by rw [← HE1.out]; rfl, hE.bel⟩
  case stop =>
    rintro D c pre W _ _ h _
    exact h.elim

end Go.Proofs.YtaghcjpoihkpjaaGreatDoor.Win
