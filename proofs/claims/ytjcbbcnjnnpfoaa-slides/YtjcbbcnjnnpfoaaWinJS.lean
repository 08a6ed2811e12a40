/-
  Fold of a window of string to a list, WALKED.
-/
import Derived.Test.YtjcbbcnjnnpfoaaWinTS
import Derived.Test.YtjcbbcnjnnpfoaaWinQ
namespace Go.Proofs.Ytjcbbcnjnnpfoaa
open Go.RowKit Go.Lib Go.Shelf
attribute [local go_sem] Oper.semAt_some

theorem infoElS : (Try.prog.info? 9).map (fun i => (i.zero, i.size, i.bytes)) = some (some (Value.string { data := #[] }), 1, 16) := by kernel_rfl
set_option maxRecDepth 1000000 in
theorem stepS {w : World} {hv : Value} {xs : List ByteArray} (own : w.ownsRow 0 9 1 hv xs.length (xs.map Value.string)) (hl : xs.length ≤ 100) (v : ByteArray) :
    Calls Try.prog 36 #[hv, Value.string v] w fun e w' => ∃ hv', e = .returned hv' ∧ w'.ownsRow 0 9 1 hv' (xs ++ [v]).length ((xs ++ [v]).map Value.string) ∧ (w.alloc (.cells #[Value.string v] 9)).grownBy w' hv.ownBlock ∧ (hv'.ownBlock = hv.ownBlock ∨ hv'.ownBlock = some (w.heap.size + 1)) := by
  obtain ⟨i0, hi0, hz0, hz1, hz2⟩ := info_parts infoElS
  obtain ⟨ao, cp, rfl⟩ := owns_slice own
  have OWN : Hid (w.ownsRow 0 9 1 (.slice ao xs.length cp) xs.length (xs.map Value.string)) := own
  clear own
  go_enter Try.func36, Try.ntmps36
  go_wp2_with (first | (at_builtin; refine wpList_append_at _ rfl _ _ 64 rfl 0 9 i0 (Value.string { data := #[] }) 1 16 Try.underlying64 hi0 hz0 hz1 hz2 rfl (by decide) (.slice ao xs.length cp) xs.length (xs.map Value.string) rfl (OWN.out.alloc _) ⟨w.heap.size, 0, none⟩ 1 1 [Value.string v] rfl rfl (cell_one_new _ _ _) (fun x hx => by simp at hx; subst hx; rfl) (by unfold maxLen; omega) (by omega) (by omega) (by decide) ?_; intro v' w5 hown hgrow hat
                        have HQ : Hid _ := And.intro hown (And.intro hgrow hat)
                        obtain ⟨a2, c2, rfl⟩ := owns_slice hown
                        clear hown hgrow hat))
  go_ret
  exact ⟨_, rfl, by have := HQ.out.1; simpa using this, HQ.out.2.1, by have := HQ.out.2.2; simpa using this⟩

/-- What a fold to a list holds between two rounds. -/
structure FldS (w W : World) (pre : List (Int × ByteArray)) (hv : Value) : Prop where
  st : W.heap[w.heap.size]? = some (.cells #[.func (.func 36) #[] #[]] 80 (0, 0))
  hvb : W.heap[w.heap.size + 1]? = some (.cells #[hv] 64 (0, 0))
  own : W.ownsRow 0 9 1 hv (pre.map (·.2)).length ((pre.map (·.2)).map Value.string)
  new : ∀ g, hv.ownBlock = some g → w.heap.size ≤ g
  bel : Below w.heap.size w W
theorem FldS.grown {w W W' : World} {B : Nat} {pre : List (Int × ByteArray)} {hv : Value} {row : Option Nat} (h : FldS w W pre hv) (hB : w.heap.size ≤ B) (hg : W.grownBy W' row) (hr : ∀ r, row = some r → B ≤ r ∧ ∃ o : Obj, W.heap[r]? = some o ∧ o.isCells = false) : FldS w W' pre hv := by
  have hne : ∀ {b : Nat} {cs : Array Value} {T : Nat} {z : Nat × Nat}, W.heap[b]? = some (.cells cs T z) → some b ≠ row := fun hb e => by
    obtain ⟨-, o, ho, hc⟩ := hr _ e.symm
    rw [hb] at ho
    injection ho with ho
    subst ho
    cases hc
  refine ⟨(hg.block _ (heap_lt h.st) (hne h.st)).trans h.st, (hg.block _ (heap_lt h.hvb) (hne h.hvb)).trans h.hvb, ?_, h.new, h.bel.grown hg h.bel.size (fun k e => Nat.le_trans hB (hr k e).1)⟩
  refine h.own.kept hg ?_
  cases e : hv.ownBlock with
  | none => exact .inl rfl
  | some g =>
    obtain ⟨c, fz, q⟩ := ownsRow_kind h.own g e
    exact .inr (hne q)
theorem FldS.own_from {w : World} {B : Nat} (hB : w.heap.size ≤ B) : OwnFrom B (fun (pre : List (Int × ByteArray)) W => ∃ hv, FldS w W pre hv) := by
  rintro pre W W' row ⟨hv, h⟩ hg hr
  exact ⟨hv, h.grown hB hg hr⟩
/-- A round of it. -/
theorem FldS.next {w W W5 : World} {pre : List (Int × ByteArray)} {hv hv' : Value} {x : Int × ByteArray} (h : FldS w W pre hv) (hown : W5.ownsRow 0 9 1 hv' (pre.map (·.2) ++ [x.2]).length ((pre.map (·.2) ++ [x.2]).map Value.string)) (hg : (W.alloc (.cells #[Value.string x.2] 9)).grownBy W5 hv.ownBlock) (hat : hv'.ownBlock = hv.ownBlock ∨ hv'.ownBlock = some (W.heap.size + 1)) :
    KeepsOthers W (W5.setCell ⟨w.heap.size + 1, 0, none⟩ hv') ∧ KeepS W (W5.setCell ⟨w.heap.size + 1, 0, none⟩ hv') ∧ FldS w (W5.setCell ⟨w.heap.size + 1, 0, none⟩ hv') (pre ++ [x]) hv' := by
  have o1 : Only (fun b => hv.ownBlock = some b) W W5 := ((Only.refl _ W).alloc _).grown hg (fun b _ e => e)
  have o2 : Only (fun b => hv.ownBlock = some b ∨ b = w.heap.size + 1) W (W5.setCell ⟨w.heap.size + 1, 0, none⟩ hv') := (o1.mono (fun _ _ q => .inl q)).setCell (a := ⟨w.heap.size + 1, 0, none⟩) (fun _ => .inr rfl) hv'
  have h5 := o1.heap h.hvb (row_ne h.hvb h.own (by decide))
  have hne5 := row_ne h5 hown (by decide)
  refine ⟨⟨o2.size, fun b o hb hc => ?_⟩, fun b cs z hb => ?_, ⟨?_, heap_set_same (i := 0) (v := hv') h5, ?_, fun g hg' => ?_, ?_⟩⟩
  · refine o2.heap hb (fun q => ?_)
    rcases q with q | q
    · obtain ⟨c, fz, q'⟩ := ownsRow_kind h.own b q
      rw [q'] at hb
      injection hb with hb
      subst hb
      cases hc
    · subst q
      rw [h.hvb] at hb
      injection hb with hb
      subst hb
      cases hc
  · refine o2.block b (heap_lt hb) (fun q => ?_)
    rcases q with q | q
    · exact row_ne hb h.own (by decide) q
    · exact kind_ne hb h.hvb (by decide) q
  · exact o2.heap h.st (fun q => by
      rcases q with q | q
      · exact row_ne h.st h.own (by decide) q
      · omega)
  · have := ((Only.refl (fun b => b = w.heap.size + 1) W5).setCell (a := ⟨w.heap.size + 1, 0, none⟩) (fun _ => rfl) hv').owns hown (fun g hg e => by subst e; exact hne5 hg)
    simpa using this
  · have hs := h.bel.size
    rcases hat with q | q
    · exact h.new g (q ▸ hg')
    · rw [q] at hg'; injection hg' with hg'; omega
  · refine h.bel.trans (o2.below h.bel.size (fun b q => ?_))
    rcases q with q | q
    · exact h.new b q
    · omega

set_option maxRecDepth 1000000 in
set_option maxHeartbeats 2000000 in
theorem foldS {w : World} {R : Nat} {wid tm : Int} {k : List (Int × ByteArray)} {mv : Value} (h : WinS w R wid tm k mv) (hl : k.length ≤ 16) :
    Calls Try.prog 35 #[.pointer (some ⟨R, 0, none⟩), .slice none 0 0, .func (.func 36) #[] #[]] w fun e w' => ∃ hv, e = .returned hv ∧ Below w.heap.size w w' ∧ w'.ownsRow 0 9 1 hv k.length ((k.map (·.2)).map Value.string) := by
  have hfn : ∀ (w : World) (f : Fn) (a b : Array Value), (binOp .eql 80 (.func f a b) .nilFunc).run Try.prog w = .ok (.bool false) w := fun w f a b => eql_func_nil w _ f a b Try.underlying80
  have hal := fun W => callsIn_wide (n := 3 - 1).2 (allS W R)
  refine (callsIn_wide (n := 3)).1 ?_
  refine callsIn_of_wp_marks Try.func35 rfl trivial ?_ rfl
  simp only [Try.ntmps35, List.size_toArray, List.length_cons, List.length_nil, Nat.reduceAdd, Nat.reduceSub, Array.replicate_succ, Array.replicate_zero, List.push_toArray, List.append_toArray, List.nil_append, List.cons_append]
  gi_wp2_with fail
  refine ⟨trivial, (hal _).mono ?_⟩
  rintro e w' ⟨rfl, rfl⟩
  have b0 := block_new w #[.func (.func 36) #[] #[]] 80
  have b1 := block_new (w.alloc (.cells #[.func (.func 36) #[] #[]] 80)) #[.slice none 0 0] 64
  have b2 := block_new ((w.alloc (.cells #[.func (.func 36) #[] #[]] 80)).alloc (.cells #[.slice none 0 0] 64)) #[.pointer (some ⟨R, 0, none⟩)] 35
  simp only [World.size_alloc] at b1 b2
  have hB0 : Below w.heap.size w (((w.alloc (.cells #[.func (.func 36) #[] #[]] 80)).alloc (.cells #[.slice none 0 0] 64)).alloc (.cells #[.pointer (some ⟨R, 0, none⟩)] 35)) := (((Below.refl _ w).alloc (Nat.le_refl _) _).alloc (by simp) _).alloc (by simp; omega) _
  have hwin := h.below hB0
  have F0 : FldS w (((w.alloc (.cells #[.func (.func 36) #[] #[]] 80)).alloc (.cells #[.slice none 0 0] 64)).alloc (.cells #[.pointer (some ⟨R, 0, none⟩)] 35)) [] (.slice none 0 0) :=
    ⟨heap_alloc_old (heap_alloc_old b0), heap_alloc_old b1, World.ownsRow_nil _ _ _ _, (fun g hg => by cases hg), hB0⟩
  obtain ⟨W0, hW0⟩ : ∃ W0, W0 = (((w.alloc (.cells #[.func (.func 36) #[] #[]] 80)).alloc (.cells #[.slice none 0 0] 64)).alloc (.cells #[.pointer (some ⟨R, 0, none⟩)] 35)) := ⟨_, rfl⟩
  rw [← hW0] at b2 hB0 hwin F0
  have hsz : w.heap.size ≤ W0.heap.size := hB0.size
  gi_wp2_with fail
  rw [← hW0]
  have hseq : SeqStopsK Fence.wide (3 - 1) Try.prog 54 #[.pointer (some ⟨w.heap.size + 1 + 1, 0, none⟩)] (fun x : Int × ByteArray => #[.int .i64 x.1, Value.string x.2]) KeepS (fun ys => ys = k) (fun _ => True) k.length W0 := fun l J Jx W hW hJ _ hY h0 => by
    have hw2 := hwin.below hW
    exact iterS 2 l (w.heap.size + 1 + 1) R mv k J Jx hY W hJ (cell_of_heap ((hW.block _ (heap_lt b2)).trans b2) rfl) (cell_of_heap (i := 2) hw2.blk rfl) hw2.own hl h0
  clear hW0 hfn hal
  refine wpIn_rangeFunc_ownF rfl (by decide) (gf := 54) (lb := #[.pointer (some ⟨w.heap.size + 1 + 1, 0, none⟩)]) rfl trivial (enters_of Try.func54 (by kernel_rfl) rfl) hseq KeepS.trans (fun W l o o' _ hl hc _ b cs z hb => by
      refine World.putObj_heap_other (fun e => ?_)
      subst e
      rw [hb] at hl
      injection hl with hl
      subst hl
      cases hc) (Below.refl _ _) (fun _ => rfl)
    (fun pre W => ∃ hv, FldS w W pre hv) (fun _ _ _ => False) (FldS.own_from hsz) (fun _ _ _ _ _ hs _ _ => hs) ⟨_, F0⟩
    (fun x => { tmps := #[.pointer (some ⟨R, 0, none⟩), .slice none 0 0, .func (.func 36) #[] #[], undef, undef, .pointer (some ⟨w.heap.size, 0, none⟩), .slice none 0 0, .pointer (some ⟨w.heap.size + 1, 0, none⟩), undef, Value.string x.2, .pointer (some ⟨R, 0, none⟩), .bool false, .bool false, .func (.func 36) #[] #[], .bool false, .bool false, undef, .slice none 0 0, .pointer (some ⟨R, 0, none⟩), .func (.func 54) #[] #[.pointer (some ⟨w.heap.size + 1 + 1, 0, none⟩)], .int .i64 x.1, Value.string x.2, undef, undef, undef, undef, undef], defers := [] }) ?assign ?body ?done ?stop
  case assign =>
    intro l x W K hK
    gi_wp2
    exact hK
  case body =>
    rintro l pre x W ⟨hv, hF⟩ hlen
    have cs : W.cell? ⟨w.heap.size, 0, none⟩ = some (.func (.func 36) #[] #[]) := cell_of_heap hF.st rfl
    have ch : W.cell? ⟨w.heap.size + 1, 0, none⟩ = some hv := cell_of_heap hF.hvb rfl
    have hst := stepS hF.own (by simp; omega) x.2
    have HF : Hid (FldS w W pre hv) := hF
    clear hF F0 hseq hwin b0 b1 b2 hB0
    gi_wp2_with fail
    refine ⟨trivial, (CallsIn.inRound l (callsIn_wide.2 hst)).mono ?_⟩
    rintro e W5 ⟨hv', rfl, hown, hg, hat⟩
    have hN := HF.out.next hown hg hat
    have h5 : W5.heap[w.heap.size + 1]? = some (.cells #[hv] 64 (0, 0)) := (((Only.refl (fun b => hv.ownBlock = some b) W).alloc _).grown hg (fun b _ e => e)).heap HF.out.hvb (row_ne HF.out.hvb HF.out.own (by decide))
    have m5 := cell_of_heap (i := 0) h5 rfl
    have f5 := frozen_of_heap (i := 0) h5
    obtain ⟨a2, c2, rfl⟩ := owns_slice hown
    generalize (pre.map (·.2) ++ [x.2]).length = m at *
    have HN : Hid _ := hN
    clear hN hown hg hat h5 hst cs ch
    gi_wp2
    exact ⟨HN.out.1, HN.out.2.1, _, HN.out.2.2⟩
  case done =>
    rintro D ys W hD rfl ⟨hv, hF⟩ hK
    have ch : W.cell? ⟨w.heap.size + 1, 0, none⟩ = some hv := cell_of_heap hF.hvb rfl
    obtain ⟨ao, cp, rfl⟩ := owns_slice hF.own
    have HF : Hid _ := hF
    clear hF F0 hseq hwin b0 b1 b2 hB0
    gi_wp2
    refine ⟨by simp, .inl ⟨_, _, rfl, run_takeDeferred hK, ?_⟩⟩
    have hE := HF.out.grown (B := w.heap.size) (Nat.le_refl _) (grownBy_putObj' W D (.deferred none)) (fun r e => by cases e; exact ⟨by omega, _, hK, rfl⟩)
    exact ⟨_, results_tmp rfl _ _ _, _, rfl, hE.bel, by have := hE.own; simpa using this⟩
  case stop =>
    rintro D c pre W _ _ h _
    exact h.elim
end Go.Proofs.Ytjcbbcnjnnpfoaa
