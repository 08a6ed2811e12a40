/-
  plain.probes, WALKED.
-/
import Derived.Test.YtaghcjpoihkpjaaGreatDoorJM24
import Derived.Test.YtaghcjpoihkpjaaGreatDoorJM20
import Derived.Deep.QuietTactic
namespace Go.Proofs.YtaghcjpoihkpjaaGreatDoor
open Go.RowKit Go.Lib

/-- The names of the probes. -/
def pwords : List ByteArray := [⟨#[109, 97, 120]⟩, ⟨#[116, 119, 105, 99, 101]⟩, ⟨#[98, 111, 111, 109]⟩, ⟨#[195, 164, 104]⟩]
/-- A bit of a number, as the program asks for it. -/
def bitB (h : Int) : Nat → Bool
  | 0 => bits .and .i64 h 1 == 1
  | 1 => bits .and .i64 (h / 2) 1 == 1
  | 2 => bits .and .i64 (h / 4) 1 == 1
  | 3 => bits .and .i64 (h / 8) 1 == 1
  | _ => bits .and .i64 (h / 16) 1 == 1
/-- Those of the first k names whose bit is set. -/
def pnames (h : Int) : Nat → List ByteArray
  | 0 => []
  | k + 1 => if bitB h k = true then pnames h k ++ [pwords.getD k ⟨#[]⟩] else pnames h k
/-- What the map of probes holds. -/
structure PF (h : Int) (p : Option Addr) (lo : Nat) (w : World) (k : Nat) (F : ByteArray → Option Value) : Prop where
  yes : ∀ s ∈ pnames h k, ∃ b1 b2, F s = some (.func (.func 135) #[] #[ptr b1, ptr b2]) ∧ lo ≤ b1 ∧ lo ≤ b2 ∧ One w b1 (.pointer p) 159 ∧ One w b2 (.string s) 9
  no : ∀ s v, F s = some v → s ∈ pwords.take k ∧ (s ∈ pnames h k ∨ v = .nilFunc)
theorem pnames_words (h : Int) : ∀ k, k ≤ 4 → ∀ s ∈ pnames h k, s ∈ pwords.take k
  | 0, _, s, hs => by simp [pnames] at hs
  | k + 1, hk, s, hs => by
    have ih := pnames_words h k (by omega)
    have hg : pwords[k]? = some (pwords.getD k ⟨#[]⟩) := by rw [List.getD_eq_getElem?_getD]; rcases (show k = 0 ∨ k = 1 ∨ k = 2 ∨ k = 3 by omega) with rfl | rfl | rfl | rfl <;> rfl
    rw [List.take_add_one, hg]
    unfold pnames at hs
    split at hs
    · rcases List.mem_append.1 hs with hs | hs
      · exact List.mem_append.2 (.inl (ih s hs))
      · exact List.mem_append.2 (.inr (by simpa using hs))
    · exact List.mem_append.2 (.inl (ih s hs))
theorem fresh_word : ∀ k, k < 4 → pwords.getD k ⟨#[]⟩ ∉ pwords.take k := by
  intro k hk
  rcases (show k = 0 ∨ k = 1 ∨ k = 2 ∨ k = 3 by omega) with rfl | rfl | rfl | rfl <;> simp [pwords]
section
variable {h : Int} {p : Option Addr} {lo k : Nat} {w w' : World} {F : ByteArray → Option Value}
theorem PF.moves (hp : PF h p lo w k F) (hb : ∀ g o, lo ≤ g → w.heap[g]? = some (.cells o 159 (0, 0)) ∨ w.heap[g]? = some (.cells o 9 (0, 0)) → w'.heap[g]? = w.heap[g]?) : PF h p lo w' k F :=
  ⟨fun s hs => by obtain ⟨b1, b2, h1, h2, h3, h4, h5⟩ := hp.yes s hs; exact ⟨b1, b2, h1, h2, h3, (hb b1 _ h2 (.inl h4)).trans h4, (hb b2 _ h3 (.inr h5)).trans h5⟩, hp.no⟩
theorem PF.hit (hp : PF h p lo w k F) (hk : k < 4) (hb : bitB h k = true) {b1 b2 : Nat} (l1 : lo ≤ b1) (l2 : lo ≤ b2) (o1 : One w b1 (.pointer p) 159) (o2 : One w b2 (.string (pwords.getD k ⟨#[]⟩)) 9) :
    PF h p lo w (k + 1) (fun t => if t = pwords.getD k ⟨#[]⟩ then some (.func (.func 135) #[] #[ptr b1, ptr b2]) else F t) := by
  have hg : pwords[k]? = some (pwords.getD k ⟨#[]⟩) := by rw [List.getD_eq_getElem?_getD]; rcases (show k = 0 ∨ k = 1 ∨ k = 2 ∨ k = 3 by omega) with rfl | rfl | rfl | rfl <;> rfl
  constructor
  · intro s hs
    by_cases e : s = pwords.getD k ⟨#[]⟩
    · exact ⟨b1, b2, by simp only [e, if_true], l1, l2, o1, by rw [e]; exact o2⟩
    · simp only [pnames, hb, if_true, List.mem_append, List.mem_singleton, e, or_false] at hs
      simp only [e, if_false]
      exact hp.yes s hs
  · intro s v hv
    rw [List.take_add_one, hg]
    by_cases e : s = pwords.getD k ⟨#[]⟩
    · exact ⟨by simp [e], .inl (by simp [pnames, hb, e])⟩
    · simp only [e, if_false] at hv
      obtain ⟨q1, q2⟩ := hp.no s v hv
      exact ⟨by simp [q1], q2.imp (fun q => by simp [pnames, hb, q]) id⟩
theorem PF.miss (hp : PF h p lo w k F) (hk : k < 4) (hb : bitB h k = false) : PF h p lo w (k + 1) F := by
  have hn : pnames h (k + 1) = pnames h k := by simp [pnames, hb]
  have hg : pwords[k]? = some (pwords.getD k ⟨#[]⟩) := by rw [List.getD_eq_getElem?_getD]; rcases (show k = 0 ∨ k = 1 ∨ k = 2 ∨ k = 3 by omega) with rfl | rfl | rfl | rfl <;> rfl
  exact ⟨by rw [hn]; exact hp.yes, fun s v hv => by rw [hn, List.take_add_one, hg]; obtain ⟨q1, q2⟩ := hp.no s v hv; exact ⟨by simp [q1], q2⟩⟩
theorem PF.nil (hp : PF h p lo w k F) (hk : k < 4) (hb : bitB h k = false) : PF h p lo w (k + 1) (fun t => if t = pwords.getD k ⟨#[]⟩ then some .nilFunc else F t) := by
  have hn : pnames h (k + 1) = pnames h k := by simp [pnames, hb]
  have hg : pwords[k]? = some (pwords.getD k ⟨#[]⟩) := by rw [List.getD_eq_getElem?_getD]; rcases (show k = 0 ∨ k = 1 ∨ k = 2 ∨ k = 3 by omega) with rfl | rfl | rfl | rfl <;> rfl
  constructor
  · intro s hs
    rw [hn] at hs
    have e : s ≠ pwords.getD k ⟨#[]⟩ := fun e => fresh_word k hk (e ▸ pnames_words h k (by omega) s hs)
    simp only [e, if_false]
    exact hp.yes s hs
  · intro s v hv
    rw [hn, List.take_add_one, hg]
    by_cases e : s = pwords.getD k ⟨#[]⟩
    · simp only [e, if_true] at hv
      injection hv with hv
      exact ⟨by simp [e], .inr hv.symm⟩
    · simp only [e, if_false] at hv
      obtain ⟨q1, q2⟩ := hp.no s v hv
      exact ⟨by simp [q1], q2⟩
end
set_option maxRecDepth 1000000 in
theorem plain_words (w : World) : Calls Tryz.prog 87 #[] w fun e w' => e = .returned (.slice (some ⟨w.heap.size, 0, none⟩) 4 4) ∧ w' = w.alloc (.cells (pwords.map Value.string).toArray 9) := by
  go_enter Tryz.func87, Tryz.ntmps87
  go_wp2
  go_ret
  exact ⟨rfl, rfl⟩
set_option maxRecDepth 1000000 in
theorem plain_probe (s : ByteArray) (p : Option Addr) (w : World) : Calls Tryz.prog 88 #[.string s, .pointer p] w fun e w' => e = .returned (.func (.func 135) #[] #[ptr (w.heap.size + 1), ptr w.heap.size]) ∧ w' = (w.alloc (.cells #[.string s] 9)).alloc (.cells #[.pointer p] 159) := by
  have hmf : ∀ (fn : Fn) (first cap : Array Value) (w : World), (Instr.makeFunc fn first cap).run Tryz.prog w = .ok (.func fn first cap) w := fun _ _ _ _ => rfl
  go_enter Tryz.func88, Tryz.ntmps88
  go_wp2
  go_ret
  exact ⟨rfl, rfl⟩
/-- How far the map of probes is made. -/
structure PM (h : Int) (p : Option Addr) (w wr : World) (k : Nat) : Prop where
  below : Below w.heap.size w wr
  row : wr.heap[w.heap.size + 1]? = some (.cells (pwords.map Value.string).toArray 9 (0, 0))
  map : ∃ F, MapF wr w.heap.size F ∧ PF h p w.heap.size wr k F
set_option maxRecDepth 1000000 in
set_option maxHeartbeats 1000000 in
theorem plain_probes (h : Int) (p : Option Addr) (w : World) : Calls Tryz.prog 51 #[.int .i64 h, .pointer p] w fun e w' => Below w.heap.size w w' ∧ ((h = 0 ∧ e = .returned (.map none)) ∨ (h ≠ 0 ∧ e = .returned (.map (some w.heap.size)) ∧ PM h p w w' 4)) := by
  by_cases h0 : h = 0
  · subst h0
    go_enter Tryz.func51, Tryz.ntmps51
    go_wp2
    go_ret
    exact ⟨Below.refl _ _, .inl ⟨trivial, rfl⟩⟩
  have hb0 : (h == 0) = false := by rw [beq_eq_false_iff_ne]; exact h0
  have H0 : Hid (h ≠ 0) := h0
  have hmm := @run_makeMap Tryz.prog
  have hwd := plain_words (w.alloc (.map #[] 0))
  clear h0
  go_enter Tryz.func51, Tryz.ntmps51
  go_wp2_with fail
  refine hwd.mono ?_
  rintro e w1 ⟨rfl, hw1⟩
  have hPM : PM h p w w1 0 := by
    rw [hw1]
    exact ⟨((Below.refl _ _).alloc (Nat.le_refl _) _).alloc (by simp) _, heap_new8 (by simp), ⟨_, (MapF.new w).block (Below.heap_alloc _ _ _ (MapF.new w).lt), ⟨fun s hs => by simp [pnames] at hs, fun s v hv => by cases hv⟩⟩⟩
  have HPM : Hid (PM h p w w1 0) := hPM
  clear hwd hw1 hPM
  go_wp2_with fail
  go_loopw [13] (fun v13 wr => ∃ k : Nat, v13 = .int .i64 k ∧ k ≤ 4 ∧ Hid (PM h p w wr k)) (fun v13 _ => 4 - (intOf v13).toNat)
  case atStart => exact ⟨0, rfl, by omega, HPM⟩
  case round =>
    obtain ⟨k, rfl, hk, HK⟩ := hrel
    by_cases h4 : k = 4
    · subst h4
      go_wp2
      go_ret
      exact ⟨HK.out.below, .inr ⟨H0.out, rfl, HK.out⟩⟩
    have hk4 : k = 0 ∨ k = 1 ∨ k = 2 ∨ k = 3 := by omega
    obtain ⟨F, hF, hPF⟩ := HK.out.map
    have HF : Hid _ := And.intro hF hPF
    have LG : Hid (w.heap.size < wr.heap.size) := hF.lt
    clear hF hPF h4
    rcases hk4 with rfl | rfl | rfl | rfl
    · have c : wr.cell? ⟨w.heap.size + 1, 0, none⟩ = some (.string ⟨#[109, 97, 120]⟩) := cell_of_heap HK.out.row rfl
      have hpr := plain_probe ⟨#[109, 97, 120]⟩ p wr
      cases hb : (bits BinOp.and IntKind.i64 h 1 == 1) with
      | true =>
        have HBT : Hid (bitB h 0 = true) := hb
        go_wp2_with fail
        refine hpr.mono ?_
        rintro e w2 ⟨rfl, hw2⟩
        have hbl : Below wr.heap.size wr w2 := by rw [hw2]; exact ((Below.refl _ _).alloc (Nat.le_refl _) _).alloc (by simp) _
        have o1 : One w2 (wr.heap.size + 1) (.pointer p) 159 := by rw [hw2]; exact heap_new8 (by simp)
        have o2 : One w2 wr.heap.size (.string ⟨#[109, 97, 120]⟩) 9 := by rw [hw2]; exact heap_alloc_old (heap_alloc_new _ _)
        have HO : Hid _ := And.intro hbl (And.intro o1 o2)
        clear hw2 hbl o1 o2 hpr
        go_wp2_with (first
            | (at_mapUpdate; refine wpList_mapUpdate_F _ rfl _ _ _ rfl w.heap.size F ⟨#[109, 97, 120]⟩ _ rfl (HF.out.1.block (HO.out.1.block _ LG.out)) rfl rfl ?_; intro w5 hm5 hg5; have Q5 : Hid _ := And.intro hm5 hg5; clear hm5 hg5)
            | fail)
        go_roundw
        case rel =>
          refine ⟨1, by go_num, by omega, ?_⟩
          have hk5 : ∀ g, g ≠ w.heap.size → g < w2.heap.size → w5.heap[g]? = w2.heap[g]? := fun g hg hl => Q5.out.2.block g hl (fun e => hg (by injection e))
          refine ⟨⟨(Q5.out.2.os.trans HO.out.1.os).trans HK.out.below.os, (Q5.out.2.tape.trans HO.out.1.tape).trans HK.out.below.tape, (Q5.out.2.output.trans HO.out.1.output).trans HK.out.below.output, Nat.le_trans HK.out.below.size (Nat.le_trans HO.out.1.size Q5.out.2.size), fun g hg => (hk5 g (by omega) (by have := HK.out.below.size; have := HO.out.1.size; omega)).trans ((HO.out.1.block g (by have := HK.out.below.size; omega)).trans (HK.out.below.block g hg))⟩, ?_, ⟨_, Q5.out.1, ?_⟩⟩
          · have q := heap_lt HK.out.row
            exact (hk5 _ (by omega) (by have := HO.out.1.size; omega)).trans ((HO.out.1.block _ q).trans HK.out.row)
          · have p1 : PF h p w.heap.size w2 0 F := HF.out.2.moves fun g o _ ho => HO.out.1.block g (by rcases ho with ho | ho <;> exact heap_lt ho)
            have hgs := HK.out.below.size
            exact (PF.hit p1 (by omega) HBT.out (b1 := wr.heap.size + 1) (b2 := wr.heap.size) (by omega) hgs HO.out.2.1 HO.out.2.2).moves fun g o hg ho => hk5 g (fun e => by subst e; obtain ⟨es, clk, q, -⟩ := HF.out.1.block (HO.out.1.block _ LG.out); rcases ho with ho | ho <;> (rw [q] at ho; cases ho)) (by rcases ho with ho | ho <;> exact heap_lt ho)
        case measure => simp [intOf]
      | false =>
        have HBT : Hid (bitB h 0 = false) := hb
        cases hb4 : (bits BinOp.and IntKind.i64 (h / 16) 1 == 1) with
        | true =>
          go_wp2_with (first
              | (at_mapUpdate; refine wpList_mapUpdate_F _ rfl _ _ _ rfl w.heap.size F ⟨#[109, 97, 120]⟩ _ rfl HF.out.1 rfl rfl ?_; intro w5 hm5 hg5; have Q5 : Hid _ := And.intro hm5 hg5; clear hm5 hg5)
              | fail)
          go_roundw
          case rel =>
            refine ⟨1, by go_num, by omega, ?_⟩
            have hk5 : ∀ g, g ≠ w.heap.size → g < wr.heap.size → w5.heap[g]? = wr.heap[g]? := fun g hg hl => Q5.out.2.block g hl (fun e => hg (by injection e))
            refine ⟨⟨Q5.out.2.os.trans HK.out.below.os, Q5.out.2.tape.trans HK.out.below.tape, Q5.out.2.output.trans HK.out.below.output, Nat.le_trans HK.out.below.size Q5.out.2.size, fun g hg => (hk5 g (by omega) (by have := HK.out.below.size; omega)).trans (HK.out.below.block g hg)⟩, ?_, ⟨_, Q5.out.1, ?_⟩⟩
            · exact (hk5 _ (by omega) (heap_lt HK.out.row)).trans HK.out.row
            · exact (HF.out.2.nil (by omega) HBT.out).moves fun g o hg ho => hk5 g (fun e => by subst e; obtain ⟨es, clk, q, -⟩ := HF.out.1; rcases ho with ho | ho <;> (rw [q] at ho; cases ho)) (by rcases ho with ho | ho <;> exact heap_lt ho)
          case measure => simp [intOf]
        | false =>
          go_wp2
          go_roundw
          case rel => exact ⟨1, by go_num, by omega, ⟨HK.out.below, HK.out.row, ⟨F, HF.out.1, HF.out.2.miss (by omega) HBT.out⟩⟩⟩
          case measure => simp [intOf]
    · have c : wr.cell? ⟨w.heap.size + 1, 1, none⟩ = some (.string ⟨#[116, 119, 105, 99, 101]⟩) := cell_of_heap HK.out.row rfl
      have hpr := plain_probe ⟨#[116, 119, 105, 99, 101]⟩ p wr
      cases hb : (bits BinOp.and IntKind.i64 (h / 2) 1 == 1) with
      | true =>
        have HBT : Hid (bitB h 1 = true) := hb
        go_wp2_with fail
        refine hpr.mono ?_
        rintro e w2 ⟨rfl, hw2⟩
        have hbl : Below wr.heap.size wr w2 := by rw [hw2]; exact ((Below.refl _ _).alloc (Nat.le_refl _) _).alloc (by simp) _
        have o1 : One w2 (wr.heap.size + 1) (.pointer p) 159 := by rw [hw2]; exact heap_new8 (by simp)
        have o2 : One w2 wr.heap.size (.string ⟨#[116, 119, 105, 99, 101]⟩) 9 := by rw [hw2]; exact heap_alloc_old (heap_alloc_new _ _)
        have HO : Hid _ := And.intro hbl (And.intro o1 o2)
        clear hw2 hbl o1 o2 hpr
        go_wp2_with (first
            | (at_mapUpdate; refine wpList_mapUpdate_F _ rfl _ _ _ rfl w.heap.size F ⟨#[116, 119, 105, 99, 101]⟩ _ rfl (HF.out.1.block (HO.out.1.block _ LG.out)) rfl rfl ?_; intro w5 hm5 hg5; have Q5 : Hid _ := And.intro hm5 hg5; clear hm5 hg5)
            | fail)
        go_roundw
        case rel =>
          refine ⟨2, by go_num, by omega, ?_⟩
          have hk5 : ∀ g, g ≠ w.heap.size → g < w2.heap.size → w5.heap[g]? = w2.heap[g]? := fun g hg hl => Q5.out.2.block g hl (fun e => hg (by injection e))
          refine ⟨⟨(Q5.out.2.os.trans HO.out.1.os).trans HK.out.below.os, (Q5.out.2.tape.trans HO.out.1.tape).trans HK.out.below.tape, (Q5.out.2.output.trans HO.out.1.output).trans HK.out.below.output, Nat.le_trans HK.out.below.size (Nat.le_trans HO.out.1.size Q5.out.2.size), fun g hg => (hk5 g (by omega) (by have := HK.out.below.size; have := HO.out.1.size; omega)).trans ((HO.out.1.block g (by have := HK.out.below.size; omega)).trans (HK.out.below.block g hg))⟩, ?_, ⟨_, Q5.out.1, ?_⟩⟩
          · have q := heap_lt HK.out.row
            exact (hk5 _ (by omega) (by have := HO.out.1.size; omega)).trans ((HO.out.1.block _ q).trans HK.out.row)
          · have p1 : PF h p w.heap.size w2 1 F := HF.out.2.moves fun g o _ ho => HO.out.1.block g (by rcases ho with ho | ho <;> exact heap_lt ho)
            have hgs := HK.out.below.size
            exact (PF.hit p1 (by omega) HBT.out (b1 := wr.heap.size + 1) (b2 := wr.heap.size) (by omega) hgs HO.out.2.1 HO.out.2.2).moves fun g o hg ho => hk5 g (fun e => by subst e; obtain ⟨es, clk, q, -⟩ := HF.out.1.block (HO.out.1.block _ LG.out); rcases ho with ho | ho <;> (rw [q] at ho; cases ho)) (by rcases ho with ho | ho <;> exact heap_lt ho)
        case measure => simp [intOf]
      | false =>
        have HBT : Hid (bitB h 1 = false) := hb
        cases hb4 : (bits BinOp.and IntKind.i64 (h / 16) 1 == 1) with
        | true =>
          go_wp2_with (first
              | (at_mapUpdate; refine wpList_mapUpdate_F _ rfl _ _ _ rfl w.heap.size F ⟨#[116, 119, 105, 99, 101]⟩ _ rfl HF.out.1 rfl rfl ?_; intro w5 hm5 hg5; have Q5 : Hid _ := And.intro hm5 hg5; clear hm5 hg5)
              | fail)
          go_roundw
          case rel =>
            refine ⟨2, by go_num, by omega, ?_⟩
            have hk5 : ∀ g, g ≠ w.heap.size → g < wr.heap.size → w5.heap[g]? = wr.heap[g]? := fun g hg hl => Q5.out.2.block g hl (fun e => hg (by injection e))
            refine ⟨⟨Q5.out.2.os.trans HK.out.below.os, Q5.out.2.tape.trans HK.out.below.tape, Q5.out.2.output.trans HK.out.below.output, Nat.le_trans HK.out.below.size Q5.out.2.size, fun g hg => (hk5 g (by omega) (by have := HK.out.below.size; omega)).trans (HK.out.below.block g hg)⟩, ?_, ⟨_, Q5.out.1, ?_⟩⟩
            · exact (hk5 _ (by omega) (heap_lt HK.out.row)).trans HK.out.row
            · exact (HF.out.2.nil (by omega) HBT.out).moves fun g o hg ho => hk5 g (fun e => by subst e; obtain ⟨es, clk, q, -⟩ := HF.out.1; rcases ho with ho | ho <;> (rw [q] at ho; cases ho)) (by rcases ho with ho | ho <;> exact heap_lt ho)
          case measure => simp [intOf]
        | false =>
          go_wp2
          go_roundw
          case rel => exact ⟨2, by go_num, by omega, ⟨HK.out.below, HK.out.row, ⟨F, HF.out.1, HF.out.2.miss (by omega) HBT.out⟩⟩⟩
          case measure => simp [intOf]
    · have c : wr.cell? ⟨w.heap.size + 1, 2, none⟩ = some (.string ⟨#[98, 111, 111, 109]⟩) := cell_of_heap HK.out.row rfl
      have hpr := plain_probe ⟨#[98, 111, 111, 109]⟩ p wr
      cases hb : (bits BinOp.and IntKind.i64 (h / 4) 1 == 1) with
      | true =>
        have HBT : Hid (bitB h 2 = true) := hb
        go_wp2_with fail
        refine hpr.mono ?_
        rintro e w2 ⟨rfl, hw2⟩
        have hbl : Below wr.heap.size wr w2 := by rw [hw2]; exact ((Below.refl _ _).alloc (Nat.le_refl _) _).alloc (by simp) _
        have o1 : One w2 (wr.heap.size + 1) (.pointer p) 159 := by rw [hw2]; exact heap_new8 (by simp)
        have o2 : One w2 wr.heap.size (.string ⟨#[98, 111, 111, 109]⟩) 9 := by rw [hw2]; exact heap_alloc_old (heap_alloc_new _ _)
        have HO : Hid _ := And.intro hbl (And.intro o1 o2)
        clear hw2 hbl o1 o2 hpr
        go_wp2_with (first
            | (at_mapUpdate; refine wpList_mapUpdate_F _ rfl _ _ _ rfl w.heap.size F ⟨#[98, 111, 111, 109]⟩ _ rfl (HF.out.1.block (HO.out.1.block _ LG.out)) rfl rfl ?_; intro w5 hm5 hg5; have Q5 : Hid _ := And.intro hm5 hg5; clear hm5 hg5)
            | fail)
        go_roundw
        case rel =>
          refine ⟨3, by go_num, by omega, ?_⟩
          have hk5 : ∀ g, g ≠ w.heap.size → g < w2.heap.size → w5.heap[g]? = w2.heap[g]? := fun g hg hl => Q5.out.2.block g hl (fun e => hg (by injection e))
          refine ⟨⟨(Q5.out.2.os.trans HO.out.1.os).trans HK.out.below.os, (Q5.out.2.tape.trans HO.out.1.tape).trans HK.out.below.tape, (Q5.out.2.output.trans HO.out.1.output).trans HK.out.below.output, Nat.le_trans HK.out.below.size (Nat.le_trans HO.out.1.size Q5.out.2.size), fun g hg => (hk5 g (by omega) (by have := HK.out.below.size; have := HO.out.1.size; omega)).trans ((HO.out.1.block g (by have := HK.out.below.size; omega)).trans (HK.out.below.block g hg))⟩, ?_, ⟨_, Q5.out.1, ?_⟩⟩
          · have q := heap_lt HK.out.row
            exact (hk5 _ (by omega) (by have := HO.out.1.size; omega)).trans ((HO.out.1.block _ q).trans HK.out.row)
          · have p1 : PF h p w.heap.size w2 2 F := HF.out.2.moves fun g o _ ho => HO.out.1.block g (by rcases ho with ho | ho <;> exact heap_lt ho)
            have hgs := HK.out.below.size
            exact (PF.hit p1 (by omega) HBT.out (b1 := wr.heap.size + 1) (b2 := wr.heap.size) (by omega) hgs HO.out.2.1 HO.out.2.2).moves fun g o hg ho => hk5 g (fun e => by subst e; obtain ⟨es, clk, q, -⟩ := HF.out.1.block (HO.out.1.block _ LG.out); rcases ho with ho | ho <;> (rw [q] at ho; cases ho)) (by rcases ho with ho | ho <;> exact heap_lt ho)
        case measure => simp [intOf]
      | false =>
        have HBT : Hid (bitB h 2 = false) := hb
        cases hb4 : (bits BinOp.and IntKind.i64 (h / 16) 1 == 1) with
        | true =>
          go_wp2_with (first
              | (at_mapUpdate; refine wpList_mapUpdate_F _ rfl _ _ _ rfl w.heap.size F ⟨#[98, 111, 111, 109]⟩ _ rfl HF.out.1 rfl rfl ?_; intro w5 hm5 hg5; have Q5 : Hid _ := And.intro hm5 hg5; clear hm5 hg5)
              | fail)
          go_roundw
          case rel =>
            refine ⟨3, by go_num, by omega, ?_⟩
            have hk5 : ∀ g, g ≠ w.heap.size → g < wr.heap.size → w5.heap[g]? = wr.heap[g]? := fun g hg hl => Q5.out.2.block g hl (fun e => hg (by injection e))
            refine ⟨⟨Q5.out.2.os.trans HK.out.below.os, Q5.out.2.tape.trans HK.out.below.tape, Q5.out.2.output.trans HK.out.below.output, Nat.le_trans HK.out.below.size Q5.out.2.size, fun g hg => (hk5 g (by omega) (by have := HK.out.below.size; omega)).trans (HK.out.below.block g hg)⟩, ?_, ⟨_, Q5.out.1, ?_⟩⟩
            · exact (hk5 _ (by omega) (heap_lt HK.out.row)).trans HK.out.row
            · exact (HF.out.2.nil (by omega) HBT.out).moves fun g o hg ho => hk5 g (fun e => by subst e; obtain ⟨es, clk, q, -⟩ := HF.out.1; rcases ho with ho | ho <;> (rw [q] at ho; cases ho)) (by rcases ho with ho | ho <;> exact heap_lt ho)
          case measure => simp [intOf]
        | false =>
          go_wp2
          go_roundw
          case rel => exact ⟨3, by go_num, by omega, ⟨HK.out.below, HK.out.row, ⟨F, HF.out.1, HF.out.2.miss (by omega) HBT.out⟩⟩⟩
          case measure => simp [intOf]
    · have c : wr.cell? ⟨w.heap.size + 1, 3, none⟩ = some (.string ⟨#[195, 164, 104]⟩) := cell_of_heap HK.out.row rfl
      have hpr := plain_probe ⟨#[195, 164, 104]⟩ p wr
      cases hb : (bits BinOp.and IntKind.i64 (h / 8) 1 == 1) with
      | true =>
        have HBT : Hid (bitB h 3 = true) := hb
        go_wp2_with fail
        refine hpr.mono ?_
        rintro e w2 ⟨rfl, hw2⟩
        have hbl : Below wr.heap.size wr w2 := by rw [hw2]; exact ((Below.refl _ _).alloc (Nat.le_refl _) _).alloc (by simp) _
        have o1 : One w2 (wr.heap.size + 1) (.pointer p) 159 := by rw [hw2]; exact heap_new8 (by simp)
        have o2 : One w2 wr.heap.size (.string ⟨#[195, 164, 104]⟩) 9 := by rw [hw2]; exact heap_alloc_old (heap_alloc_new _ _)
        have HO : Hid _ := And.intro hbl (And.intro o1 o2)
        clear hw2 hbl o1 o2 hpr
        go_wp2_with (first
            | (at_mapUpdate; refine wpList_mapUpdate_F _ rfl _ _ _ rfl w.heap.size F ⟨#[195, 164, 104]⟩ _ rfl (HF.out.1.block (HO.out.1.block _ LG.out)) rfl rfl ?_; intro w5 hm5 hg5; have Q5 : Hid _ := And.intro hm5 hg5; clear hm5 hg5)
            | fail)
        go_roundw
        case rel =>
          refine ⟨4, by go_num, by omega, ?_⟩
          have hk5 : ∀ g, g ≠ w.heap.size → g < w2.heap.size → w5.heap[g]? = w2.heap[g]? := fun g hg hl => Q5.out.2.block g hl (fun e => hg (by injection e))
          refine ⟨⟨(Q5.out.2.os.trans HO.out.1.os).trans HK.out.below.os, (Q5.out.2.tape.trans HO.out.1.tape).trans HK.out.below.tape, (Q5.out.2.output.trans HO.out.1.output).trans HK.out.below.output, Nat.le_trans HK.out.below.size (Nat.le_trans HO.out.1.size Q5.out.2.size), fun g hg => (hk5 g (by omega) (by have := HK.out.below.size; have := HO.out.1.size; omega)).trans ((HO.out.1.block g (by have := HK.out.below.size; omega)).trans (HK.out.below.block g hg))⟩, ?_, ⟨_, Q5.out.1, ?_⟩⟩
          · have q := heap_lt HK.out.row
            exact (hk5 _ (by omega) (by have := HO.out.1.size; omega)).trans ((HO.out.1.block _ q).trans HK.out.row)
          · have p1 : PF h p w.heap.size w2 3 F := HF.out.2.moves fun g o _ ho => HO.out.1.block g (by rcases ho with ho | ho <;> exact heap_lt ho)
            have hgs := HK.out.below.size
            exact (PF.hit p1 (by omega) HBT.out (b1 := wr.heap.size + 1) (b2 := wr.heap.size) (by omega) hgs HO.out.2.1 HO.out.2.2).moves fun g o hg ho => hk5 g (fun e => by subst e; obtain ⟨es, clk, q, -⟩ := HF.out.1.block (HO.out.1.block _ LG.out); rcases ho with ho | ho <;> (rw [q] at ho; cases ho)) (by rcases ho with ho | ho <;> exact heap_lt ho)
        case measure => simp [intOf]
      | false =>
        have HBT : Hid (bitB h 3 = false) := hb
        cases hb4 : (bits BinOp.and IntKind.i64 (h / 16) 1 == 1) with
        | true =>
          go_wp2_with (first
              | (at_mapUpdate; refine wpList_mapUpdate_F _ rfl _ _ _ rfl w.heap.size F ⟨#[195, 164, 104]⟩ _ rfl HF.out.1 rfl rfl ?_; intro w5 hm5 hg5; have Q5 : Hid _ := And.intro hm5 hg5; clear hm5 hg5)
              | fail)
          go_roundw
          case rel =>
            refine ⟨4, by go_num, by omega, ?_⟩
            have hk5 : ∀ g, g ≠ w.heap.size → g < wr.heap.size → w5.heap[g]? = wr.heap[g]? := fun g hg hl => Q5.out.2.block g hl (fun e => hg (by injection e))
            refine ⟨⟨Q5.out.2.os.trans HK.out.below.os, Q5.out.2.tape.trans HK.out.below.tape, Q5.out.2.output.trans HK.out.below.output, Nat.le_trans HK.out.below.size Q5.out.2.size, fun g hg => (hk5 g (by omega) (by have := HK.out.below.size; omega)).trans (HK.out.below.block g hg)⟩, ?_, ⟨_, Q5.out.1, ?_⟩⟩
            · exact (hk5 _ (by omega) (heap_lt HK.out.row)).trans HK.out.row
            · exact (HF.out.2.nil (by omega) HBT.out).moves fun g o hg ho => hk5 g (fun e => by subst e; obtain ⟨es, clk, q, -⟩ := HF.out.1; rcases ho with ho | ho <;> (rw [q] at ho; cases ho)) (by rcases ho with ho | ho <;> exact heap_lt ho)
          case measure => simp [intOf]
        | false =>
          go_wp2
          go_roundw
          case rel => exact ⟨4, by go_num, by omega, ⟨HK.out.below, HK.out.row, ⟨F, HF.out.1, HF.out.2.miss (by omega) HBT.out⟩⟩⟩
          case measure => simp [intOf]
end Go.Proofs.YtaghcjpoihkpjaaGreatDoor
