/-
  The iterator of a window of string, gone through by a range over it: its contract.
-/
import Derived.Test.YtjcbbcnjnnpfoaaWinFS
import Derived.RangeFuncNested
import Derived.RangeFuncBound
import Derived.RangeFuncCalls
import Derived.RangeFuncLeaves
import Derived.Shelf.RegionOpen
import Derived.OwnWalkIn
import Derived.TacticsInMore
import Derived.LoopNIn
import Derived.LoopIn
namespace Go.Proofs.Ytjcbbcnjnnpfoaa
open Go.RowKit Go.Lib Go.Shelf
attribute [local go_sem] Oper.semAt_some

/-- The rows of samples lie as they lay. -/
def KeepS (W W' : World) : Prop := ∀ (b : Nat) (cs : Array Value) (z : Nat × Nat), W.heap[b]? = some (Obj.cells cs 86 z) → W'.heap[b]? = W.heap[b]?
theorem KeepS.trans {A B C : World} (h : KeepS A B) (k : KeepS B C) : KeepS A C := fun b cs z hb => (k b cs z ((h b cs z hb).trans hb)).trans (h b cs z hb)
theorem KeepS.owns {W W' : World} (h : KeepS W W') {base n : Nat} {v : Value} {xs : List Value} (ho : W.ownsRow base 86 2 v n xs) : W'.ownsRow base 86 2 v n xs := by
  refine ⟨ho.1, ?_⟩
  rcases ho.2 with hn | ⟨g, cap, cur, rfl, hbg, hg, rest⟩
  · exact .inl hn
  · exact .inr ⟨g, cap, cur, rfl, hbg, (h g _ _ hg).trans hg, rest⟩
theorem cellsS {w : World} {base : Nat} {v : Value} {l : List (Int × ByteArray)} (h : w.ownsRow base 86 2 v l.length (sCells Value.string l)) {i : Nat} {x : Int × ByteArray} (hx : l[i]? = some x) :
    ∃ g cp, v = .slice (some ⟨g, 0, none⟩) l.length cp ∧ w.cell? ⟨g, i * 2, none⟩ = some (.int .i64 x.1) ∧ w.cell? ⟨g, i * 2 + 1, none⟩ = some (Value.string x.2) := by
  have hi : i < l.length := (List.getElem?_eq_some_iff.1 hx).1
  obtain ⟨q1, q2⟩ := sCells_get Value.string l i x hx
  rcases h.2 with ⟨-, h0⟩ | ⟨g, cap, cur, rfl, -, hg, hnc, hcm, hcs, htake⟩
  · omega
  refine ⟨g, cap, rfl, ?_, ?_⟩
  · rw [← htake, List.getElem?_take, if_pos (by omega)] at q1
    simpa [World.cell?, hg] using q1
  · rw [← htake, List.getElem?_take, if_pos (by omega)] at q2
    simpa [World.cell?, hg] using q2

set_option maxRecDepth 1000000 in
set_option maxHeartbeats 2000000 in
theorem iterS (n : Nat) (l Bx R : Nat) (mv : Value) (k : List (Int × ByteArray)) (J Jx : List (Int × ByteArray) → World → Prop)
    (hY : ∀ pre x W, J pre W → pre.length < k.length → YieldAt Fence.wide (n - 1) Try.prog l #[.int .i64 x.1, Value.string x.2] W fun e W' =>
      (e = .returned (.bool true) ∧ J (pre ++ [x]) W' ∧ KeepS W W') ∨ (e = .returned (.bool false) ∧ Jx (pre ++ [x]) W'))
    (W : World) (hJ : AbidesFrom W.heap.size J) (hBx : W.cell? ⟨Bx, 0, none⟩ = some (.pointer (some ⟨R, 0, none⟩))) (hc2 : W.cell? ⟨R, 2, none⟩ = some mv) (own : W.ownsRow 0 86 2 mv k.length (sCells Value.string k)) (hl : k.length ≤ 16) (h0 : J [] W) :
    CallsIn Fence.wide n Try.prog 54 #[.func (.yield l) #[] #[], .pointer (some ⟨Bx, 0, none⟩)] W fun e W' => (∃ v, e = .returned v) ∧ ((∃ ys, ys = k ∧ J ys W') ∨ (∃ pre, True ∧ Jx pre W')) := by
  have hcl := cloneS own (by omega)
  obtain ⟨ao, cp, rfl⟩ := owns_slice own
  clear own
  generalize hm : k.length = m at *
  refine callsIn_of_wp Try.func54 rfl trivial ?_ rfl
  simp only [Try.ntmps54, List.size_toArray, List.length_cons, List.length_nil, Nat.reduceAdd, Nat.reduceSub, Array.replicate_succ, Array.replicate_zero, List.push_toArray, List.append_toArray, List.nil_append, List.cons_append]
  gi_wp2_with fail
  refine ⟨trivial, fun h => (by cases h), (callsIn_wide.2 hcl).mono ?_⟩
  rintro e w1 ⟨cv, rfl, hown, hb1⟩
  obtain ⟨co, cc, rfl⟩ := owns_slice hown
  have hJ1 : J [] w1 := hJ [] W w1 none h0 ⟨hb1.os, hb1.tape, hb1.output, hb1.size, fun k hk _ => hb1.block k hk⟩ (fun r e => by cases e)
  have HROW : Hid (w1.ownsRow 0 86 2 (.slice co m cc) k.length (sCells Value.string k)) := by rw [hm]; exact ⟨hown.1, hown.2.imp id (fun ⟨g, cap, cur, a1, _, a3⟩ => ⟨g, cap, cur, a1, Nat.zero_le _, a3⟩)⟩
  have HJ0 : Hid (J [] w1) := hJ1
  have HY : Hid _ := hY
  have HJ : Hid (AbidesFrom W.heap.size J) := hJ
  clear hown hb1 hcl hBx hc2 hJ1 hJ h0 hY
  gi_wp2_with fail
  gi_loopw [11] (fun v11 wr => ∃ j : Nat, v11 = .int .i64 j ∧ j ≤ m ∧ Hid (J (k.take j) wr) ∧ Hid (wr.ownsRow 0 86 2 (.slice co m cc) k.length (sCells Value.string k))) (fun v11 _ => m - (intOf v11).toNat)
  case atStart => exact ⟨0, rfl, Nat.zero_le _, HJ0, HROW⟩
  case round =>
    obtain ⟨j, rfl, hj, HJr, HR⟩ := hrel
    clear HJ0 HROW
    rcases Nat.lt_or_ge j m with hlt | hge
    · obtain ⟨x, hx⟩ : ∃ x, k[j]? = some x := ⟨k[j], List.getElem?_eq_getElem (by omega)⟩
      obtain ⟨g, cp', he, q1, q2⟩ := cellsS HR.out hx
      injection he with he1 he2 he3
      subst he1
      clear he2 he3
      have HTK : Hid (k.take (j + 1) = k.take j ++ [x]) := (by rw [List.take_add_one, hx]; rfl : k.take (j + 1) = k.take j ++ [x])
      have hJa : J (k.take j) (wr.alloc (.cells #[.int .i64 x.1, Value.string x.2] 86)) := HJ.out _ _ _ none HJr.out (World.grownBy_alloc wr _ none) (fun r e => by cases e)
      obtain ⟨fn, tmps, assign, body, hy, hR⟩ := HY.out (k.take j) x _ hJa (by rw [List.length_take]; omega)
      obtain ⟨x1, x2⟩ := x
      dsimp only at q1 q2 hy
      have hlt2 : (j : Int) < m := by omega
      clear hx hJa
      gi_wp2_with fail
      refine ⟨fun h => (by cases h), hR.mono ?_⟩
      rintro e w2 (⟨rfl, hJ2, hk2⟩ | ⟨rfl, hJx2⟩)
      · have HJ2 : Hid (J (k.take (j + 1)) w2) := by rw [HTK.out]; exact hJ2
        have HR2 : Hid (w2.ownsRow 0 86 2 (.slice (some ⟨g, 0, none⟩) m cc) k.length (sCells Value.string k)) := hk2.owns (HR.out.alloc _)
        clear hJ2 hk2 hy hR q1 q2
        gi_wp2
        go_roundw
        case rel => exact ⟨j + 1, by go_num, by omega, HJ2, HR2⟩
        case measure => simp [intOf]; omega
      · have HX : Hid _ := hJx2
        clear hJx2 hy hR q1 q2
        gi_wp2
        refine bodyPost_ret (results_none rfl _ _ _) rfl ?_
        first | exact ⟨⟨_, rfl⟩, .inr ⟨_, trivial, HX.out⟩⟩ | exact ⟨⟨_, rfl⟩, .inr ⟨_, HX.out⟩⟩
    · have HF : Hid (J k wr) := by have := HJr.out; rw [List.take_of_length_le (by omega)] at this; exact this
      have hge2 : ¬ (j : Int) < m := by omega
      gi_wp2
      go_end0
      first | exact ⟨⟨_, rfl⟩, .inl ⟨_, rfl, HF.out⟩⟩ | exact ⟨⟨_, rfl⟩, .inl HF.out⟩
end Go.Proofs.Ytjcbbcnjnnpfoaa
