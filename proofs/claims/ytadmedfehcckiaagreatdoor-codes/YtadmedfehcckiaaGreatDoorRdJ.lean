/-
  THE PROGRAM's bytecode.Read, WALKED.
-/
import Derived.Test.YtadmedfehcckiaaGreatDoorRdI
import Derived.Test.YtadmedfehcckiaaGreatDoorCodeO
import Derived.Test.YtadmedfehcckiaaGreatDoorMapF
namespace Go.Proofs.YtadmedfehcckiaaGreatDoor
open Go.RowKit Go.Lib

/-- What bytes are read to. -/
def readB (l : List UInt8) : Tree × RS := RS.part 200 ⟨l, 0, false, [], []⟩
def okB (l : List UInt8) : Prop := (readB l).2.wrong = false ∧ (readB l).2.rest = []
instance (l : List UInt8) : Decidable (okB l) := inferInstanceAs (Decidable (_ ∧ _))
/-- The bytes of a tree that fits are code. -/
theorem readB_enc {t : Tree} (h : Fit t) (hs : size t ≤ 200) : readB (enc t) = (bare t, ⟨[], size t, false, notes [] (mets t), asks t⟩) := by
  have := part_enc t 200 [] 0 [] [] h (by omega) (by omega) (by omega)
  unfold readB
  simpa using this
/-- What was loaded, in memory from a block on. -/
structure LoadedB (lo : Nat) (w : World) (b : Nat) (t : Tree) (ms : List ByteArray) (qs : List (Nat × ByteArray)) : Prop where
  blk : ∃ vv mv av, w.heap[b]? = some (.cells #[vv, mv, av] 145 (0, 0)) ∧ FuncV vv ∧ VNode (fun g => lo ≤ g ∧ g < w.heap.size) w t vv ∧ w.ownsRow lo 9 1 mv ms.length (ms.map Value.string) ∧ w.ownsRow lo 196 2 av qs.length (askCells qs)
  lo : lo ≤ b
theorem LoadedB.below {lo b : Nat} {w w' : World} {t : Tree} {ms : List ByteArray} {qs : List (Nat × ByteArray)} (h : LoadedB lo w b t ms qs) (hb : Below w.heap.size w w') : LoadedB lo w' b t ms qs := by
  obtain ⟨⟨vv, mv, av, h1, h2, h3, h4, h5⟩, h6⟩ := h
  exact ⟨⟨vv, mv, av, (hb.block b (heap_lt h1)).trans h1, h2, h3.moves fun g hg => ⟨⟨hg.1, Nat.lt_of_lt_of_le hg.2 hb.size⟩, hb.block g hg.2⟩, owns_block2 h4 fun g hg => hb.block g (h4.lt _ hg).2, owns_block2 h5 fun g hg => hb.block g (h5.lt _ hg).2⟩, h6⟩
set_option maxRecDepth 1000000 in
set_option maxHeartbeats 1000000 in
theorem rd_Read {A : Nat → Addr} {w : World} (hT : TabsR w) (hS : Sents A w) {v : Value} {l : List UInt8} (hl : RestAt w.heap.size w v l) :
    Calls Tryz.prog 58 #[v] w fun e w' => Below w.heap.size w w' ∧ ((okB l ∧ ∃ b, e = .returned (.tuple #[ptr b, .nilIface]) ∧ LoadedB w.heap.size w' b (readB l).1 (readB l).2.mets (readB l).2.asks) ∨ (¬ okB l ∧ e = .returned (.tuple #[.pointer none, .iface 354 (.pointer (some (A 1)))]))) := by
  obtain ⟨ao, cp, rfl, hcp⟩ := hl.slice
  have hb0 : Below w.heap.size w (w.alloc (.cells #[.slice ao l.length cp, .int .i64 0, .bool false, .slice none 0 0, .slice none 0 0] 194)) := (Below.refl _ _).alloc (Nat.le_refl _) _
  have h0 : RSt w.heap.size (w.alloc (.cells #[.slice ao l.length cp, .int .i64 0, .bool false, .slice none 0 0, .slice none 0 0] 194)) ⟨l, 0, false, [], []⟩ := ⟨⟨_, _, _, heap_alloc_new _ _, hl.below hb0, World.ownsRow_nil _ _ _ _, World.ownsRow_nil _ _ _ _⟩, ⟨w, hT, Nat.le_refl _, hb0⟩⟩
  have hpc := rd_part (R := w.heap.size) 200 _ _ h0 ⟨fun _ => by simp, fun _ => by simp, by simp, by simp⟩ (.inr (by simp))
  have HB0 : Hid _ := And.intro hb0 h0
  have HS : Hid (Sents A w) := hS
  have HR : Hid (readB l = RS.part 200 ⟨l, 0, false, [], []⟩) := rfl
  clear hT hS hl hb0 h0
  generalize RS.part 200 ⟨l, 0, false, [], []⟩ = Z at *
  go_enter Tryz.func58, Tryz.ntmps58
  go_wp2_with fail
  refine hpc.mono ?_
  rintro e w1 ⟨v1, rfl, hf1, h1, k1, hv1⟩
  have hbl : Below w.heap.size w w1 := HB0.out.1.trans (HB0.out.2.below_of k1)
  have HBL : Hid (Below w.heap.size w w1) := hbl
  obtain ⟨rv, mv, av, b1, b2, b3, b4⟩ := h1.blk
  obtain ⟨ao1, cp1, rfl, hcp1⟩ := b2.slice
  obtain ⟨aom, cpm, rfl⟩ := owns_len b3
  obtain ⟨aoa, cpa, rfl⟩ := owns_len b4
  have c0 : w1.cell? ⟨w.heap.size, 0, none⟩ = some (.slice ao1 Z.2.rest.length cp1) := cell_of_heap b1 rfl
  have c2 : w1.cell? ⟨w.heap.size, 2, none⟩ = some (.bool Z.2.wrong) := cell_of_heap b1 rfl
  have c3 : w1.cell? ⟨w.heap.size, 3, none⟩ = some (.slice aom Z.2.mets.length cpm) := cell_of_heap b1 rfl
  have c4 : w1.cell? ⟨w.heap.size, 4, none⟩ = some (.slice aoa Z.2.asks.length cpa) := cell_of_heap b1 rfl
  have g1 : w1.cell? ⟨0, 0, none⟩ = some (.iface 354 (.pointer (some (A 1)))) := (HS.out.below hbl).g1
  have HQ : Hid _ := And.intro hf1 (And.intro b3 (And.intro b4 hv1))
  have hszR : w.heap.size < w1.heap.size := heap_lt b1
  clear hpc h1 k1 hv1 b1 b2 b3 b4 hbl
  cases hw : Z.2.wrong with
  | true =>
    have HK : Hid (¬ okB l) := fun q => by have := q.1; rw [HR.out, hw] at this; cases this
    rw [hw] at c2
    clear hw
    rcases hf1 with rfl | ⟨_, _, _, rfl⟩
    all_goals
      go_wp2_with fail
      go_quiet (fail)
      go_wp2
      go_ret2
      exact ⟨⟨HBL.out.os, HBL.out.tape, HBL.out.output, HBL.out.size, HBL.out.block⟩, .inr ⟨HK.out, rfl⟩⟩
  | false =>
    rw [hw] at c2
    by_cases hr : Z.2.rest.length = 0
    · have HK : Hid (okB l) := ⟨by rw [HR.out]; exact hw, by rw [HR.out]; exact List.eq_nil_of_length_eq_zero hr⟩
      have HV : Hid (VNode (Fr w.heap.size (w.alloc (.cells #[.slice ao l.length cp, .int .i64 0, .bool false, .slice none 0 0, .slice none 0 0] 194)).heap.size w1) w1 Z.1 v1) := HQ.out.2.2.2 hw
      rw [hr] at c0
      have hgt : ¬ (0 : Int) < ((0 : Nat) : Int) := by simp
      clear hw hr
      rcases hf1 with rfl | ⟨_, _, _, rfl⟩
      all_goals
        go_wp2_with fail
        go_region
        all_goals
          go_wp2
          go_ret2
          have bl : ∀ o, Below w1.heap.size w1 ((w1.alloc o).drew) := fun o => ((Below.refl _ _).alloc (Nat.le_refl _) o).drew
          refine ⟨HBL.out.trans ((bl _).mono HBL.out.size), .inl ⟨HK.out, _, rfl, ⟨⟨_, _, _, heap_alloc_new _ _, HQ.out.1, ?_, ?_, ?_⟩, HBL.out.size⟩⟩⟩
          · rw [HR.out]
            exact HV.out.moves fun g hg => ⟨⟨by have := hg.2; simp at this; omega, Nat.lt_of_lt_of_le hg.1.lt (bl _).size⟩, (bl _).block g hg.1.lt⟩
          · rw [HR.out]
            exact owns_block2 (owns_lower HQ.out.2.1 (by omega)) fun g hg => (bl _).block g (HQ.out.2.1.lt _ hg).2
          · rw [HR.out]
            exact owns_block2 (owns_lower HQ.out.2.2.1 (by omega)) fun g hg => (bl _).block g (HQ.out.2.2.1.lt _ hg).2
    · have HK : Hid (¬ okB l) := fun q => by have := q.2; rw [HR.out] at this; rw [this] at hr; exact hr rfl
      have hgt : (0 : Int) < (Z.2.rest.length : Int) := by omega
      clear hw hr
      rcases hf1 with rfl | ⟨_, _, _, rfl⟩
      all_goals
        go_wp2_with fail
        go_quiet (fail)
        go_wp2
        go_ret2
        exact ⟨⟨HBL.out.os, HBL.out.tape, HBL.out.output, HBL.out.size, HBL.out.block⟩, .inr ⟨HK.out, rfl⟩⟩
end Go.Proofs.YtadmedfehcckiaaGreatDoor
