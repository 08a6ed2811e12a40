/-
  A WINDOW OF string: Least and Most, WALKED.
-/
import Derived.Test.YtjcbbcnjnnpfoaaWinDS
import Derived.Shelf.Abstract
namespace Go.Proofs.Ytjcbbcnjnnpfoaa
open Go.RowKit Go.Lib Go.Shelf

def lessS (a b : ByteArray) : Bool := Op.bytesLess a.toList b.toList
set_option maxRecDepth 1000000 in
theorem clessS (a b : ByteArray) (w : World) : Calls Try.prog 48 #[Value.string a, Value.string b] w fun e w' => e = .returned (.bool (lessS a b)) ∧ w' = w := by
  unfold lessS
  go_enter Try.func48, Try.ntmps48
  go_wp2
  all_goals go_ret
  all_goals exact ⟨rfl, rfl⟩
set_option maxRecDepth 1000000 in
theorem cmostS (a b : ByteArray) (w : World) : Calls Try.prog 47 #[Value.string a, Value.string b] w fun e w' => e = .returned (.bool (lessS b a)) ∧ w' = w := by
  have h := clessS b a w
  generalize lessS b a = B at *
  go_enter Try.func47, Try.ntmps47
  go_wp2_with fail
  refine h.mono ?_
  rintro e w' ⟨rfl, hw⟩
  have hw := hw.symm
  subst hw
  clear h
  go_wp2
  go_ret
  exact ⟨rfl, rfl⟩

def foreEndS (o : Option ByteArray) : Ending := match o with | none => .returned (.tuple #[Value.string { data := #[] }, .bool false]) | some a => .returned (.tuple #[Value.string a, .bool true])
set_option maxRecDepth 1000000 in
set_option maxHeartbeats 1000000 in
theorem foremostS {w : World} {R : Nat} {wid tm : Int} {k : List (Int × ByteArray)} {mv : Value} (h : WinS w R wid tm k mv) (f : Nat) (ef : ∀ args W, (callFunc f args).run Try.prog W = .ok (.enter f args) W) (ahead : ByteArray → ByteArray → Bool) (hf : ∀ a b w, Calls Try.prog f #[Value.string a, Value.string b] w fun e w' => e = .returned (.bool (ahead a b)) ∧ w' = w) :
    Calls Try.prog 46 #[.pointer (some ⟨R, 0, none⟩), .func (.func f) #[] #[]] w fun e w' => e = foreEndS (foremost ahead (k.map (·.2))) ∧ Below w.heap.size w w' := by
  obtain ⟨ao, cp, rfl⟩ := owns_slice h.own
  have c2 : w.cell? ⟨R, 2, none⟩ = some (.slice ao k.length cp) := cell_of_heap (i := 2) h.blk rfl
  have H : Hid (WinS w R wid tm k (.slice ao k.length cp)) := h
  cases k with
  | nil =>
    clear h
    go_enter Try.func46, Try.ntmps46
    go_wp2
    go_ret2
    exact ⟨rfl, Below.refl _ _⟩
  | cons x0 l =>
    obtain ⟨g, cp', he, q1, q2⟩ := h.cells (i := 0) (x := x0) rfl
    injection he with he1 he2 he3
    subst he1
    rw [Nat.zero_mul] at q2
    have hl : l.length + 1 ≤ 17 := h.len
    have HF : Hid (∀ a b w, Calls Try.prog f #[Value.string a, Value.string b] w fun e w' => e = .returned (.bool (ahead a b)) ∧ w' = w) := hf
    clear h he2 he3 q1 hf
    have hlc : l.length + 1 ≤ cp := by
      rcases H.out.own.2 with ⟨-, h0⟩ | ⟨g, cap, cur, he, -, -, hnc, -⟩
      · simp at h0
      · injection he with _ _ he; subst he; simpa using hnc
    have hcm : cp ≤ 9223372036854775807 := by
      rcases H.out.own.2 with ⟨-, h0⟩ | ⟨g, cap, cur, he, -, -, -, hcm, -⟩
      · simp at h0
      · injection he with _ _ he; subst he; unfold maxLen at hcm; omega
    rw [List.length_cons] at c2
    generalize hn : l.length = n at *
    have hnz : (((n : Int) + 1) == 0) = false := beq_eq_false_iff_ne.2 (by omega)
    by_cases hc1 : cp = 1
    · have h0 : n = 0 := by omega
      subst h0
      subst hc1
      obtain rfl : l = [] := List.length_eq_zero_iff.1 hn
      go_enter Try.func46, Try.ntmps46
      go_wp2_with fail
      refine wp_loop_rounds 1 ?_
      rw [rounds_succ]
      go_wp2
      go_ret2
      exact ⟨rfl, Below.refl _ _⟩
    · go_enter Try.func46, Try.ntmps46
      go_wp2_with fail
      go_loopw [7, 30] (fun v7 v30 wr => ∃ i : Nat, v30 = .int .i64 i ∧ i ≤ n ∧ v7 = Value.string (((l.take i).map (·.2)).foldl (fun f x => if ahead x f = true then x else f) x0.2) ∧ Hid (Below w.heap.size w wr)) (fun _ v30 _ => n - (intOf v30).toNat)
      case atStart => exact ⟨0, rfl, Nat.zero_le _, rfl, Below.refl _ _⟩
      case round =>
        obtain ⟨i, rfl, hi, rfl, HB⟩ := hrel
        rcases Nat.lt_or_ge i n with hlt | hge
        · obtain ⟨x, hx⟩ : ∃ x, l[i]? = some x := ⟨l[i], List.getElem?_eq_getElem (by omega)⟩
          obtain ⟨g', cp', he, r1, r2⟩ := (H.out.below HB.out).cells (i := i + 1) (x := x) (by simpa using hx)
          injection he with he1 he2 he3
          injection he1 with he1
          injection he1 with he1
          subst he1
          clear he2 he3
          rw [show (i + 1) * 2 = 2 + i * 2 by omega] at r1 r2
          have ht : (l.take (i + 1)).map (·.2) = (l.take i).map (·.2) ++ [x.2] := by
            rw [List.take_add_one, hx]
            simp
          have HT : Hid ((l.take (i + 1)).map (·.2) = (l.take i).map (·.2) ++ [x.2]) := ht
          clear ht
          obtain ⟨x1, x2⟩ := x
          dsimp only at r1 r2
          obtain ⟨y, hy⟩ : ∃ y, ((l.take i).map (·.2)).foldl (fun f x => if ahead x f = true then x else f) x0.2 = y := ⟨_, rfl⟩
          have HY : Hid (((l.take i).map (·.2)).foldl (fun f x => if ahead x f = true then x else f) x0.2 = y) := hy
          rw [hy]
          clear hy
          have hlt2 : (i : Int) < n := by omega
          have hca := HF.out x2 y
          go_wp2_with fail
          refine (hca _).mono ?_
          rintro e w2 ⟨rfl, hw2⟩
          have HB2 : Hid (Below w.heap.size w w2) := by rw [hw2]; exact HB.out.alloc HB.out.size _
          have n1 : w2.cell? ⟨wr.heap.size, 1, none⟩ = some (Value.string x2) := by rw [hw2]; exact cell_of_heap (block_new _ _ _) rfl
          clear hw2 hca r1 r2
          cases hah : ahead x2 y with
          | true =>
            have HAH : Hid (ahead x2 y = true) := hah
            clear hah
            go_wp2
            go_roundw
            case rel => exact ⟨i + 1, by go_num, by omega, by rw [HT.out, List.foldl_append, HY.out]; simp [HAH.out], HB2⟩
            case measure => simp [intOf]; omega
          | false =>
            have HAH : Hid (ahead x2 y = false) := hah
            clear hah
            go_wp2
            go_roundw
            case rel => exact ⟨i + 1, by go_num, by omega, by rw [HT.out, List.foldl_append, HY.out]; simp [HAH.out], HB2⟩
            case measure => simp [intOf]; omega
        · obtain rfl : i = n := by omega
          have ht : l.take i = l := List.take_of_length_le (by omega)
          have HT : Hid (foremost ahead ((x0 :: l).map (·.2)) = some (((l.take i).map (·.2)).foldl (fun f x => if ahead x f = true then x else f) x0.2)) := by rw [ht]; rfl
          clear ht
          generalize ((l.take i).map (·.2)).foldl (fun f x => if ahead x f = true then x else f) x0.2 = y at *
          go_wp2
          go_ret2
          rw [HT.out]
          exact ⟨rfl, HB.out⟩

set_option maxRecDepth 1000000 in
theorem leastS {w : World} {R : Nat} {wid tm : Int} {k : List (Int × ByteArray)} {mv : Value} (h : WinS w R wid tm k mv) :
    Calls Try.prog 30 #[.pointer (some ⟨R, 0, none⟩)] w fun e w' => e = foreEndS (foremost lessS (k.map (·.2))) ∧ Below w.heap.size w w' := by
  have hf := foremostS h 48 (enters_of Try.func48 (by kernel_rfl) rfl) lessS clessS
  clear h
  generalize foremost lessS (k.map (·.2)) = o at *
  go_enter Try.func30, Try.ntmps30
  go_wp2_with fail
  refine hf.mono ?_
  rintro e w' ⟨rfl, hb⟩
  have HB : Hid (Below w.heap.size w w') := hb
  clear hb hf
  cases o <;> (unfold foreEndS; go_wp2; go_ret2; exact ⟨rfl, HB.out⟩)
set_option maxRecDepth 1000000 in
theorem mostS {w : World} {R : Nat} {wid tm : Int} {k : List (Int × ByteArray)} {mv : Value} (h : WinS w R wid tm k mv) :
    Calls Try.prog 28 #[.pointer (some ⟨R, 0, none⟩)] w fun e w' => e = foreEndS (foremost (fun a b => lessS b a) (k.map (·.2))) ∧ Below w.heap.size w w' := by
  have hf := foremostS h 47 (enters_of Try.func47 (by kernel_rfl) rfl) (fun a b => lessS b a) cmostS
  clear h
  generalize foremost (fun a b => lessS b a) (k.map (·.2)) = o at *
  go_enter Try.func28, Try.ntmps28
  go_wp2_with fail
  refine hf.mono ?_
  rintro e w' ⟨rfl, hb⟩
  have HB : Hid (Below w.heap.size w w') := hb
  clear hb hf
  cases o <;> (unfold foreEndS; go_wp2; go_ret2; exact ⟨rfl, HB.out⟩)
end Go.Proofs.Ytjcbbcnjnnpfoaa
