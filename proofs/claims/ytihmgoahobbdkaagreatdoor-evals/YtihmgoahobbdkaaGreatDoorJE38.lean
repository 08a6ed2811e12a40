/-
  A MAP THAT IS RANGED OVER WHILE ITS ENTRIES ARE OVERWRITTEN: laws.
-/
import Derived.Test.YtihmgoahobbdkaaGreatDoorJE27
import Derived.Maps.RangeRun
import Derived.Test.YtihmgoahobbdkaaGreatDoorJE37
import Derived.Test.YtihmgoahobbdkaaGreatDoorJE33
namespace Go.Proofs.YtihmgoahobbdkaaGreatDoor
open Go.RowKit Go.ChangeMaps

/-- The iterator r stands over the map m; so many entries are still to come. -/
def Ranges (w : World) (m r : Nat) (left : Nat) : Prop := ∃ es clock seen, w.heap[m]? = some (.map es clock) ∧ w.heap[r]? = some (.mapIter (some m) clock seen clock) ∧ (∀ e ∈ es.toList, ∃ s, e.key = .string s) ∧ MapKept.Stamped es clock ∧ ((es.toList.map (·.born)).filter fun b => !seen.contains b).length = left
theorem left_size (es : Array MapEntry) (seen : Array Nat) : (leftOf es seen).size = ((es.toList.map (·.born)).filter fun b => !seen.contains b).length := by
  unfold leftOf
  rw [← Array.length_toList, Array.toList_filter, List.filter_map, List.length_map]
  rfl
theorem set_same {w : World} {b : Nat} {o x : Obj} (h : w.heap[b]? = some x) : (setBlock w b o).heap[b]? = some o := by
  have := heap_lt h
  simp [setBlock, this]
theorem set_other {w : World} {b k : Nat} {o : Obj} (h : k ≠ b) : (setBlock w b o).heap[k]? = w.heap[k]? := by
  have : b ≠ k := fun e => h e.symm
  simp [setBlock, this]
theorem filter_lt {l : List Nat} {seen : Array Nat} {x : Nat} (hn : l.Nodup) (hx : x ∈ l) (hs : seen.contains x = false) : (l.filter fun b => !(seen.push x).contains b).length + 1 = (l.filter fun b => !seen.contains b).length := by
  induction l with
  | nil => simp at hx
  | cons a l ih =>
    rw [List.nodup_cons] at hn
    rcases List.mem_cons.1 hx with rfl | hx
    · have e : (l.filter fun b => !(seen.push x).contains b) = l.filter fun b => !seen.contains b := by
        apply List.filter_congr
        intro b hb
        have : b ≠ x := fun e => hn.1 (e ▸ hb)
        simp [this]
      simp only [List.filter_cons, hs, Bool.not_false, if_true]
      rw [if_neg (by simp), e]
      simp
    · have ih := ih hn.2 hx
      have hne : a ≠ x := fun e => hn.1 (e ▸ hx)
      have ea : (seen.push x).contains a = seen.contains a := by simp [hne]
      simp only [List.filter_cons, ea]
      split
      · simp only [List.length_cons]; omega
      · exact ih
section
variable {w : World} {m r left : Nat}
theorem Ranges.lt (h : Ranges w m r left) : m < w.heap.size ∧ r < w.heap.size := by obtain ⟨es, clock, seen, h1, h2, -⟩ := h; exact ⟨heap_lt h1, heap_lt h2⟩
/-- A step: nothing is left, or an entry comes, and its value may be overwritten. -/
theorem Ranges.next (h : Ranges w m r left) (hmr : m ≠ r) : (∀ ty, (Instr.next (.pointer (some ⟨r, 0, none⟩)) false ty).run Tryz.prog w = .ok (.tuple #[.bool false]) w) ∨
    ∃ (s : ByteArray) (v : Value) (w1 w2 : World), 0 < left ∧ (∀ ty, (Instr.next (.pointer (some ⟨r, 0, none⟩)) false ty).run Tryz.prog w = .ok (.tuple #[.bool true, .string s, v]) w1) ∧ ((Instr.entry (.pointer (some ⟨r, 0, none⟩))).run Tryz.prog w1 = .ok (.tuple #[.string s, v]) w1) ∧
      ((Instr.mapUpdate 80 (.map (some m)) (.string s) .nilFunc).run Tryz.prog w1 = .ok () w2) ∧ Ranges w2 m r (left - 1) ∧ w2.os = w.os ∧ w2.tape = w.tape ∧ w2.output = w.output ∧ w2.heap.size = w.heap.size ∧ ∀ k, k ≠ m → k ≠ r → w2.heap[k]? = w.heap[k]? := by
  obtain ⟨es, clock, seen, h1, h2, h3, h4, h5⟩ := h
  rcases run_next_at (P := Tryz.prog) w 0 r m clock clock seen es clock h2 h1 h4.1 (Nat.le_refl _) with ⟨-, hr⟩ | ⟨e, he, w1, hw1, hr⟩
  · exact .inl fun ty => hr
  · refine .inr ?_
    obtain ⟨s, hs⟩ := h3 e (by unfold leftOf at he; simp at he ⊢; exact he.1)
    have hem : e ∈ es.toList := by unfold leftOf at he; simp at he ⊢; exact he.1
    have hns : seen.contains e.born = false := by unfold leftOf at he; simp at he ⊢; exact he.2
    have a1 : w1.heap[m]? = some (.map es clock) := by rcases hw1 with rfl | rfl <;> exact h1
    have a2 : w1.heap[r]? = some (.mapIter (some m) clock seen clock) := by rcases hw1 with rfl | rfl <;> exact h2
    have b1 : (setBlock w1 r (.mapIter (some m) clock (seen.push e.born) clock)).heap[m]? = some (.map es clock) := (set_other hmr).trans a1
    have b2 : (setBlock w1 r (.mapIter (some m) clock (seen.push e.born) clock)).heap[r]? = some (.mapIter (some m) clock (seen.push e.born) clock) := set_same a2
    obtain ⟨j, hj⟩ := List.getElem?_of_mem hem
    have hjs : es[j]? = some e := by simpa using hj
    have hc : ∀ b W, (Instr.checkKey b 10000 9 (.string s)).run Tryz.prog W = .ok () W := fun b W => MapKept.run_checkKey (k := .string s) Tryz.underlying9 (by simp [MapKept.IsKey]) b 9999
    obtain ⟨j2, e2, q1, q2, q3⟩ : ∃ j2 e2, Instr.findNow .string (.string s) es.toList 0 = some (some (j2, e2.val)) ∧ es.toList[j2]? = some e2 ∧ e2.key = .string s := by
      rcases MapKept.findNow_spec (d := .string) (k := .string s) (by simp [MapKept.IsKey]) es.toList 0 (fun x hx => by obtain ⟨t, e⟩ := h3 x hx; rw [e]; simp [MapKept.IsKey]) with ⟨q1, q2⟩ | ⟨j2, e2, q1, q2, q3⟩
      · exact absurd hs (q2 e hem)
      · exact ⟨j2, e2, by simpa using q1, q2, q3⟩
    have hj2 : es[j2]? = some e2 := by simpa using q2
    have hsb : Instr.sameBits 10000 (.string s) (.string s) = true := by
      unfold Instr.sameBits
      exact (MapKept.bytes_beq s s).2 rfl
    have hkt : ∀ W, (Instr.keyThatStays (((es[j2]?).map (·.key)).getD (.string s)) (.string s)).run Tryz.prog W = .ok (.string s) W := fun W => by
      rw [hj2]
      simp [Instr.keyThatStays, q3, hsb]
    refine ⟨s, e.val, _, setBlock (setBlock w1 r (.mapIter (some m) clock (seen.push e.born) clock)) m (.map (es.modify j2 fun x => { x with key := .string s, val := .nilFunc }) clock), ?_, fun ty => by rw [← hs]; exact hr, ?_, ?_, ⟨_, clock, seen.push e.born, set_same b1, (set_other (fun q => hmr q.symm)).trans b2, ?_, ?_, ?_⟩, ?_⟩
    · have := filter_lt h4.2.1 (List.mem_map.2 ⟨e, hem, rfl⟩) hns
      omega
    · rw [← hs]
      exact run_entry_at _ r m clock seen es clock e b2 b1 hem h4.2.1
    · simp [Instr.mapUpdate, run_underlying Tryz.underlying80, MapKept.run_getObj_map b1, hc, MapKept.run_findKey Tryz.underlying9 q1, MapKept.run_setObj_map _ b1, Result.andThen, hkt]
      rfl
    · intro x hx
      obtain ⟨k, hk⟩ := List.getElem?_of_mem hx
      rw [Array.toList_modify, List.getElem?_modify] at hk
      split at hk
      · cases hq : es.toList[k]? with
        | none => rw [hq] at hk; cases hk
        | some y => rw [hq] at hk; injection hk with hk; exact ⟨s, by rw [← hk]⟩
      · exact h3 x (List.mem_of_getElem? (by simpa using hk))
    · exact MapKept.stamped_modify h4 j2 _ (fun _ _ => rfl) (fun x _ hx => by rw [hj2] at hx; injection hx with hx; subst hx; exact q3.symm)
    · have hborn : (es.modify j2 fun x => { x with key := .string s, val := .nilFunc }).toList.map (·.born) = es.toList.map (·.born) := by
        apply List.ext_getElem?
        intro k
        rw [List.getElem?_map, List.getElem?_map, Array.toList_modify, List.getElem?_modify]
        split
        · cases es.toList[k]? <;> rfl
        · simp
      rw [hborn]
      have := filter_lt h4.2.1 (List.mem_map.2 ⟨e, hem, rfl⟩) hns
      omega
    · have hdr : w1.os = w.os ∧ w1.tape = w.tape ∧ w1.output = w.output ∧ w1.heap = w.heap := by rcases hw1 with rfl | rfl <;> exact ⟨rfl, rfl, rfl, rfl⟩
      refine ⟨hdr.1, hdr.2.1, hdr.2.2.1, by simp [setBlock, hdr.2.2.2], fun k hm hr => ?_⟩
      rw [set_other hm, set_other hr, hdr.2.2.2]
end
theorem Ranges.begin {w : World} {m : Nat} {F : ByteArray → Option Value} (h : MapF w m F) : ∃ left o, (Instr.range 80 (.map (some m))).run Tryz.prog w = .ok (.pointer (some ⟨w.heap.size, 0, none⟩)) (w.alloc o) ∧ Ranges (w.alloc o) m w.heap.size left := by
  obtain ⟨es, clock, h1, h2, h3, h4⟩ := h
  refine ⟨_, .mapIter (some m) clock #[] clock, ?_, ⟨es, clock, #[], heap_alloc_old h1, heap_alloc_new _ _, h2, h3, rfl⟩⟩
  simp [Instr.range, run_underlying Tryz.underlying80, MapKept.run_getObj_map h1, Result.andThen]
theorem range_none (w : World) : (Instr.range 80 (.map none)).run Tryz.prog w = .ok (.pointer (some ⟨w.heap.size, 0, none⟩)) (w.alloc (.mapIter none 0 #[] 0)) := by
  simp [Instr.range, run_underlying Tryz.underlying80, Result.andThen]
theorem next_none {w : World} {r : Nat} (h : w.heap[r]? = some (.mapIter none 0 #[] 0)) (ty : TypeId) : (Instr.next (.pointer (some ⟨r, 0, none⟩)) false ty).run Tryz.prog w = .ok (.tuple #[.bool false]) w := by
  simp [Instr.next, getObj, Sem.run, h, Result.andThen]
end Go.Proofs.YtihmgoahobbdkaaGreatDoor
namespace Go.Proofs.YtihmgoahobbdkaaGreatDoor
open Go.RowKit Go.Lib

theorem pnames_length (h : Int) : ∀ k, (pnames h k).length ≤ k
  | 0 => by simp [pnames]
  | k + 1 => by
    have := pnames_length h k
    unfold pnames
    split
    · simp; omega
    · omega
set_option maxRecDepth 1000000 in
set_option maxHeartbeats 1000000 in
theorem law_names (h : Int) (w : World) : Calls Tryz.prog 15 #[.int .i64 h] w fun e w' => ∃ v, e = .returned v ∧ Below w.heap.size w w' ∧ w'.ownsRow 0 9 1 v (pnames h 4).length ((pnames h 4).map Value.string) := by
  obtain ⟨i0, hi, hz0, hz1, hz2⟩ := info_parts Tryz.infoStr
  have hrow : (w.alloc (.cells (pwords.map Value.string).toArray 9)).heap[w.heap.size]? = some (.cells (pwords.map Value.string).toArray 9 (0, 0)) := heap_alloc_new _ _
  have HB0 : Hid (Below w.heap.size w (w.alloc (.cells (pwords.map Value.string).toArray 9))) := (Below.refl _ _).alloc (Nat.le_refl _) _
  have HR : Hid _ := hrow
  clear hrow
  go_enter Tryz.func15, Tryz.ntmps15
  go_wp2_with fail
  go_loopw [4, 5] (fun v4 v5 wr => ∃ (k : Nat) (ao : Option Addr) (ln cp : Nat), v5 = .int .i64 k ∧ k ≤ 4 ∧ v4 = .slice ao ln cp ∧ Hid (wr.ownsRow (w.heap.size + 1) 9 1 (.slice ao ln cp) (pnames h k).length ((pnames h k).map Value.string) ∧ Below (w.heap.size + 1) (w.alloc (.cells (pwords.map Value.string).toArray 9)) wr)) (fun _ v5 _ => 4 - (intOf v5).toNat)
  case atStart => exact ⟨0, none, 0, 0, rfl, by omega, rfl, World.ownsRow_nil _ _ _ _, Below.refl _ _⟩
  case round =>
    obtain ⟨k, ao, ln, cp, rfl, hk, rfl, HK⟩ := hrel
    by_cases h4 : k = 4
    · subst h4
      go_wp2
      go_ret
      exact ⟨_, rfl, HB0.out.trans (HK.out.2.mono (by omega)), owns_lower HK.out.1 (Nat.zero_le _)⟩
    have hk4 : k = 0 ∨ k = 1 ∨ k = 2 ∨ k = 3 := by omega
    have hszr : w.heap.size + 1 ≤ wr.heap.size := by have := HK.out.2.size; simpa using this
    clear h4
    rcases hk4 with rfl | rfl | rfl | rfl
    · have c : wr.cell? ⟨w.heap.size, 0, none⟩ = some (.string ⟨#[109, 97, 120]⟩) := cell_of_heap ((HK.out.2.block _ (by omega)).trans HR.out) rfl
      have hln := pnames_length h 0
      cases hb : (bits BinOp.and IntKind.i64 h 1 == 1) with
      | true =>
        have HP : Hid (pnames h 1 = pnames h 0 ++ [⟨#[109, 97, 120]⟩]) := by
          have e : bitB h 0 = true := hb
          show pnames h 1 = _
          conv => lhs; unfold pnames
          rw [if_pos e]
          rfl
        go_wp2_with (first
            | (at_builtin; refine wpList_append_at _ rfl _ _ 30 rfl (w.heap.size + 1) 9 i0 (.string { data := #[] }) 1 16 Tryz.underlying30 hi hz0 hz1 hz2 rfl (by decide) (.slice ao ln cp) (pnames h 0).length ((pnames h 0).map Value.string) rfl (HK.out.1.alloc _) ⟨wr.heap.size, 0, none⟩ 1 1 [.string ⟨#[109, 97, 120]⟩] rfl rfl (cell_one8 rfl) (fun x hx => by simp at hx; subst hx; rfl) (by unfold maxLen; omega) (by omega) (by simp; omega) (by decide) ?_; intro v' w5 hown hgrow hnil; have Q : Hid _ := And.intro hown hgrow; obtain ⟨ao2, cp2, rfl⟩ := owns_len hown; clear hown hgrow hnil)
            | fail)
        go_roundw
        case rel =>
          refine ⟨1, _, _, _, by go_num, by omega, rfl, ?_, ?_⟩
          · rw [HP.out, List.length_append, List.map_append]
            exact Q.out.1
          · exact (HK.out.2.alloc hszr _).trans (grown_below (HK.out.1.alloc _) Q.out.2 (by simp; omega))
        case measure => simp [intOf]
      | false =>
        have HP : Hid (pnames h 1 = pnames h 0) := by
          have e : bitB h 0 = false := hb
          show pnames h 1 = _
          conv => lhs; unfold pnames
          rw [if_neg (by rw [e]; decide)]
        go_wp2
        go_roundw
        case rel => exact ⟨1, ao, ln, cp, by go_num, by omega, rfl, by rw [HP.out]; exact HK.out.1, HK.out.2⟩
        case measure => simp [intOf]
    · have c : wr.cell? ⟨w.heap.size, 1, none⟩ = some (.string ⟨#[116, 119, 105, 99, 101]⟩) := cell_of_heap ((HK.out.2.block _ (by omega)).trans HR.out) rfl
      have hln := pnames_length h 1
      cases hb : (bits BinOp.and IntKind.i64 (h / 2) 1 == 1) with
      | true =>
        have HP : Hid (pnames h 2 = pnames h 1 ++ [⟨#[116, 119, 105, 99, 101]⟩]) := by
          have e : bitB h 1 = true := hb
          show pnames h 2 = _
          conv => lhs; unfold pnames
          rw [if_pos e]
          rfl
        go_wp2_with (first
            | (at_builtin; refine wpList_append_at _ rfl _ _ 30 rfl (w.heap.size + 1) 9 i0 (.string { data := #[] }) 1 16 Tryz.underlying30 hi hz0 hz1 hz2 rfl (by decide) (.slice ao ln cp) (pnames h 1).length ((pnames h 1).map Value.string) rfl (HK.out.1.alloc _) ⟨wr.heap.size, 0, none⟩ 1 1 [.string ⟨#[116, 119, 105, 99, 101]⟩] rfl rfl (cell_one8 rfl) (fun x hx => by simp at hx; subst hx; rfl) (by unfold maxLen; omega) (by omega) (by simp; omega) (by decide) ?_; intro v' w5 hown hgrow hnil; have Q : Hid _ := And.intro hown hgrow; obtain ⟨ao2, cp2, rfl⟩ := owns_len hown; clear hown hgrow hnil)
            | fail)
        go_roundw
        case rel =>
          refine ⟨2, _, _, _, by go_num, by omega, rfl, ?_, ?_⟩
          · rw [HP.out, List.length_append, List.map_append]
            exact Q.out.1
          · exact (HK.out.2.alloc hszr _).trans (grown_below (HK.out.1.alloc _) Q.out.2 (by simp; omega))
        case measure => simp [intOf]
      | false =>
        have HP : Hid (pnames h 2 = pnames h 1) := by
          have e : bitB h 1 = false := hb
          show pnames h 2 = _
          conv => lhs; unfold pnames
          rw [if_neg (by rw [e]; decide)]
        go_wp2
        go_roundw
        case rel => exact ⟨2, ao, ln, cp, by go_num, by omega, rfl, by rw [HP.out]; exact HK.out.1, HK.out.2⟩
        case measure => simp [intOf]
    · have c : wr.cell? ⟨w.heap.size, 2, none⟩ = some (.string ⟨#[98, 111, 111, 109]⟩) := cell_of_heap ((HK.out.2.block _ (by omega)).trans HR.out) rfl
      have hln := pnames_length h 2
      cases hb : (bits BinOp.and IntKind.i64 (h / 4) 1 == 1) with
      | true =>
        have HP : Hid (pnames h 3 = pnames h 2 ++ [⟨#[98, 111, 111, 109]⟩]) := by
          have e : bitB h 2 = true := hb
          show pnames h 3 = _
          conv => lhs; unfold pnames
          rw [if_pos e]
          rfl
        go_wp2_with (first
            | (at_builtin; refine wpList_append_at _ rfl _ _ 30 rfl (w.heap.size + 1) 9 i0 (.string { data := #[] }) 1 16 Tryz.underlying30 hi hz0 hz1 hz2 rfl (by decide) (.slice ao ln cp) (pnames h 2).length ((pnames h 2).map Value.string) rfl (HK.out.1.alloc _) ⟨wr.heap.size, 0, none⟩ 1 1 [.string ⟨#[98, 111, 111, 109]⟩] rfl rfl (cell_one8 rfl) (fun x hx => by simp at hx; subst hx; rfl) (by unfold maxLen; omega) (by omega) (by simp; omega) (by decide) ?_; intro v' w5 hown hgrow hnil; have Q : Hid _ := And.intro hown hgrow; obtain ⟨ao2, cp2, rfl⟩ := owns_len hown; clear hown hgrow hnil)
            | fail)
        go_roundw
        case rel =>
          refine ⟨3, _, _, _, by go_num, by omega, rfl, ?_, ?_⟩
          · rw [HP.out, List.length_append, List.map_append]
            exact Q.out.1
          · exact (HK.out.2.alloc hszr _).trans (grown_below (HK.out.1.alloc _) Q.out.2 (by simp; omega))
        case measure => simp [intOf]
      | false =>
        have HP : Hid (pnames h 3 = pnames h 2) := by
          have e : bitB h 2 = false := hb
          show pnames h 3 = _
          conv => lhs; unfold pnames
          rw [if_neg (by rw [e]; decide)]
        go_wp2
        go_roundw
        case rel => exact ⟨3, ao, ln, cp, by go_num, by omega, rfl, by rw [HP.out]; exact HK.out.1, HK.out.2⟩
        case measure => simp [intOf]
    · have c : wr.cell? ⟨w.heap.size, 3, none⟩ = some (.string ⟨#[195, 164, 104]⟩) := cell_of_heap ((HK.out.2.block _ (by omega)).trans HR.out) rfl
      have hln := pnames_length h 3
      cases hb : (bits BinOp.and IntKind.i64 (h / 8) 1 == 1) with
      | true =>
        have HP : Hid (pnames h 4 = pnames h 3 ++ [⟨#[195, 164, 104]⟩]) := by
          have e : bitB h 3 = true := hb
          show pnames h 4 = _
          conv => lhs; unfold pnames
          rw [if_pos e]
          rfl
        go_wp2_with (first
            | (at_builtin; refine wpList_append_at _ rfl _ _ 30 rfl (w.heap.size + 1) 9 i0 (.string { data := #[] }) 1 16 Tryz.underlying30 hi hz0 hz1 hz2 rfl (by decide) (.slice ao ln cp) (pnames h 3).length ((pnames h 3).map Value.string) rfl (HK.out.1.alloc _) ⟨wr.heap.size, 0, none⟩ 1 1 [.string ⟨#[195, 164, 104]⟩] rfl rfl (cell_one8 rfl) (fun x hx => by simp at hx; subst hx; rfl) (by unfold maxLen; omega) (by omega) (by simp; omega) (by decide) ?_; intro v' w5 hown hgrow hnil; have Q : Hid _ := And.intro hown hgrow; obtain ⟨ao2, cp2, rfl⟩ := owns_len hown; clear hown hgrow hnil)
            | fail)
        go_roundw
        case rel =>
          refine ⟨4, _, _, _, by go_num, by omega, rfl, ?_, ?_⟩
          · rw [HP.out, List.length_append, List.map_append]
            exact Q.out.1
          · exact (HK.out.2.alloc hszr _).trans (grown_below (HK.out.1.alloc _) Q.out.2 (by simp; omega))
        case measure => simp [intOf]
      | false =>
        have HP : Hid (pnames h 4 = pnames h 3) := by
          have e : bitB h 3 = false := hb
          show pnames h 4 = _
          conv => lhs; unfold pnames
          rw [if_neg (by rw [e]; decide)]
        go_wp2
        go_roundw
        case rel => exact ⟨4, ao, ln, cp, by go_num, by omega, rfl, by rw [HP.out]; exact HK.out.1, HK.out.2⟩
        case measure => simp [intOf]
/-- clear of a row of bytes of the call's own: nothing else is turned. -/
theorem run_clear8 {B : Nat} {w : World} {v : Value} {l : List UInt8} (ho : Out8 B w v l) (ty : TypeId) : ∃ w', (Builtin.clear_ #[78] ty #[v]).run Tryz.prog w = .ok (.tuple #[]) w' ∧ w.grownBy w' v.ownBlock := by
  obtain ⟨i0, hi, hz0, hz1, hz2⟩ := info_parts Tryz.infoByte
  rcases ho.2 with ⟨rfl, h1⟩ | ⟨g, cap, cur, rfl, hbg, hg, hnc, hcm, hcs, htake⟩
  · refine ⟨w, ?_, ⟨rfl, rfl, rfl, Nat.le_refl _, fun _ _ _ => rfl⟩⟩
    simp [Builtin.clear_, run_underlying Tryz.underlying78, Result.andThen]
  · cases hn : l.length with
    | zero =>
      refine ⟨w, ?_, ⟨rfl, rfl, rfl, Nat.le_refl _, fun _ _ _ => rfl⟩⟩
      simp [Builtin.clear_, run_underlying Tryz.underlying78, Result.andThen]
    | succ n =>
      rw [hn] at hnc
      have hz : (zeroValue 5).run Tryz.prog w = .ok (.int .u8 0) w := by kernel_rfl
      obtain ⟨cs, hst⟩ : ∃ cs, (storeCells ⟨g, 0, none⟩ (Builtin.zeroCells (Value.int .u8 0).cells (n + 1)).toList).run Tryz.prog w = .ok () (w.setRow g cs) := ⟨_, run_storeCells_at (P := Tryz.prog) g 0 5 (Builtin.zeroCells (Value.int .u8 0).cells (n + 1)).toList 0 cur w hg (by simp [Builtin.zeroCells, Value.cells]; omega) (fun x hx => by
        simp [Builtin.zeroCells, Value.cells] at hx
        obtain ⟨-, -, rfl⟩ := hx
        rw [Nat.mod_one]
        rfl)⟩
      refine ⟨w.setRow g cs, ?_, ?_⟩
      · simp only [Builtin.clear_, run_underlying Tryz.underlying78, Sem.run_bind, Sem.run_pure, Result.andThen_ok, List.getElem?_toArray, List.getElem?_cons_zero, hz, hst]
      · refine ⟨rfl, rfl, rfl, by simp [World.setRow], fun k hk hne => ?_⟩
        have : g ≠ k := fun e => hne (by rw [e]; rfl)
        exact setRow_other w g k _ (fun e => this e.symm)
/-- clear at the operation. -/
theorem wpList_clear8 (w : World) {ops : Array Oper} {rest : List Oper} {o : Oper} {a : Act} {Q : Exit → Act → World → Prop} (hg : o.guard = none) (x : Operand) (hop : o.op = .call { callee := .builtin .clear, args := #[x], argTypes := #[78] })
    {B : Nat} {v : Value} {l : List UInt8} (hx : a.eval x = v) (ho : Out8 B w v l) (hK : ∀ w', w.grownBy w' v.ownBlock → wpList Tryz.prog ops Q rest (a.put o.dst (.tuple #[])) w') : wpList Tryz.prog ops Q (o :: rest) a w := by
  refine wpList_plain hg fun K hK' => ?_
  obtain ⟨w', hr, h2⟩ := run_clear8 ho o.type
  unfold Oper.wp execOp
  simp only [hop, resolve, invoke, builtin, Sem.run_bind, Sem.run_pure, Result.andThen_ok, List.map_toArray, List.map_cons, List.map_nil, hx, hr]
  exact hK' _ _ (hK w' h2)
end Go.Proofs.YtihmgoahobbdkaaGreatDoor
