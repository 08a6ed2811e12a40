/-
  THE PROGRAM's Code AND A PROGRAM's Names; plain.Of of a NameError: WALKED.
-/
import Derived.Test.YtadmedfehcckiaaGreatDoorRdK
import Derived.Test.YtadmedfehcckiaaGreatDoorWrE
import Derived.Test.YtadmedfehcckiaaGreatDoorRooF
import Derived.Test.YtadmedfehcckiaaGreatDoorSpecFits
namespace Go.Proofs.YtadmedfehcckiaaGreatDoor
open Go.RowKit Go.Lib

theorem CNode.bounded {lo : Nat} {w : World} {t : Tree} {v : Value} (h : CNode (Hi lo) w t v) : CNode (Lt w.heap.size) w t v := h.moves fun _ _ _ _ hb _ => ⟨heap_lt hb, rfl⟩
theorem W8.below_size {w w' : World} (h : W8 w.heap.size w w') : Below w.heap.size w w' := h.below
set_option maxRecDepth 1000000 in
theorem code_Write {lo : Nat} {w : World} {t : Tree} {tb : Nat} {v mv : Value} (hf : Fit t) (hs : size t ≤ 200) (hb : w.heap[tb]? = some (.cells #[v, mv] 131 (0, 0))) (hn : CNode (Hi lo) w t v) :
    Calls Tryz.prog 55 #[ptr tb] w fun e w' => ∃ vo, e = .returned vo ∧ Out8 w.heap.size w' vo (enc t) ∧ Below w.heap.size w w' := by
  have hl := enc_length t hf
  have hpc := w_all (B := w.heap.size) t hf w (.slice none 0 0) v [] hn.bounded (Out8.nil _ _) (Nat.le_refl _) (by simp; omega)
  have c0 : w.cell? ⟨tb, 0, none⟩ = some v := cell_of_heap hb rfl
  obtain ⟨ty, b, rfl⟩ := hn.form
  clear hb hn hf hl
  go_enter Tryz.func55, Tryz.ntmps55
  go_wp2_with fail
  refine hpc.mono ?_
  rintro e w1 ⟨vo, rfl, ho, hw⟩
  have Q : Hid _ := And.intro ho hw
  clear hpc ho hw
  go_wp2
  go_ret
  exact ⟨_, rfl, by simpa using Q.out.1, Q.out.2.below⟩
set_option maxRecDepth 1000000 in
theorem code_Code {lo : Nat} {w : World} {t : Tree} {pb : Nat} (hf : Fit t) (hs : size t ≤ 200) (h : CPol lo w t ⟨pb, 0, none⟩) :
    Calls Tryz.prog 34 #[ptr pb] w fun e w' => ∃ vo, e = .returned vo ∧ Out8 w.heap.size w' vo (enc t) ∧ Below w.heap.size w w' := by
  obtain ⟨pb', a', e, -, h5, tb, ty, pa, mv, rfl, -, h6, h7, -⟩ := h
  injection e with e
  subst e
  have hem := code_empty h5
  have hwr := code_Write hf hs h6 h7
  have c0 : w.cell? ⟨pb, 0, none⟩ = some (ptr tb) := cell_of_heap h5 rfl
  clear h5 h6 h7
  go_enter Tryz.func34, Tryz.ntmps34
  go_wp2_with fail
  refine hem.mono ?_
  rintro e w' ⟨rfl, hw⟩
  have hw := hw.symm
  subst hw
  clear hem
  go_wp2_with fail
  refine hwr.mono ?_
  rintro e w1 ⟨vo, rfl, ho, hw⟩
  have Q : Hid _ := And.intro ho hw
  clear hwr ho hw
  go_wp2
  go_ret
  exact ⟨_, rfl, Q.out⟩
/-- Bytes of the call's own, as the reader wants them. -/
theorem Out8.rest {B : Nat} {w : World} {v : Value} {l : List UInt8} (h : Out8 B w v l) : RestAt w.heap.size w v l := by
  have h0 := h
  rcases h.2 with ⟨rfl, h1⟩ | ⟨g, cap, cur, rfl, hbg, hg, hnc, -⟩
  · have : l = [] := List.eq_nil_of_length_eq_zero h1
    subst this
    exact ⟨none, 0, rfl, Nat.le_refl _, fun j b hj => by simp at hj⟩
  · refine ⟨some ⟨g, 0, none⟩, cap, rfl, hnc, fun j b hj => ⟨g, 0, heap_lt hg, rfl, ?_⟩⟩
    have := h0.cells (g := g) rfl j (.int .u8 b.toNat) (by simp [bytesV, hj])
    rwa [show (⟨g, 0, none⟩ : Addr).add j = ⟨g, 0 + j, none⟩ by unfold Addr.add; split <;> simp_all] at this
theorem RestAt.bytes {R : Nat} {w : World} {v : Value} {l : List UInt8} (h : RestAt R w v l) : BytesIn w v l := by
  obtain ⟨ao, cp, h1, -, h3⟩ := h
  exact ⟨ao, cp, h1, fun j b hj => by obtain ⟨C, off, -, h4, h5⟩ := h3 j b hj; exact ⟨C, off, h4, h5⟩⟩
set_option maxRecDepth 1000000 in
theorem code_PNames {lo : Nat} {w : World} {b : Nat} {t : Tree} {ms : List ByteArray} {qs : List (Nat × ByteArray)} {F : ByteArray → Option Value} (h : ProgB lo w b t ms qs F) :
    Calls Tryz.prog 37 #[ptr b] w fun e w' => ∃ ao cp, e = .returned (.func (.func 79) #[] #[.pointer (some ⟨w.heap.size, 0, none⟩)]) ∧ w' = w.alloc (.cells #[.slice ao ms.length cp] 32) ∧ w.ownsRow lo 9 1 (.slice ao ms.length cp) ms.length (ms.map Value.string) := by
  obtain ⟨lb, g, G, h1, ⟨⟨vv, mv, av, h2, -, -, h3, -⟩, -⟩, -⟩ := h.blk
  obtain ⟨ao, cp, rfl⟩ := owns_len h3
  have c0 : w.cell? ⟨b, 0, none⟩ = some (ptr lb) := cell_of_heap h1 rfl
  have c1 : w.cell? ⟨lb, 1, none⟩ = some (.slice ao ms.length cp) := cell_of_heap h2 rfl
  have hem : Calls Tryz.prog 60 #[ptr b] w fun e w' => e = .returned (.bool false) ∧ w' = w := by
    clear h h1 h2 h3 c1
    go_enter Tryz.func60, Tryz.ntmps60
    go_wp2
    go_ret
    exact ⟨rfl, rfl⟩
  have hea := code_each (w := w) ao ms.length cp
  have H3 : Hid _ := h3
  clear h h1 h2 h3
  go_enter Tryz.func37, Tryz.ntmps37
  go_wp2_with fail
  refine hem.mono ?_
  rintro e w' ⟨rfl, hw⟩
  have hw := hw.symm
  subst hw
  go_wp2_with fail
  refine hea.mono ?_
  rintro e w' ⟨rfl, rfl⟩
  go_wp2
  go_ret
  exact ⟨ao, cp, rfl, rfl, H3.out⟩
theorem Tryz.assertN1 (v : Value) (xT : TypeId) (w : World) : (Instr.typeAssert (.iface 117 v) xT 112 true).run Tryz.prog w = .ok (.tuple #[.pointer none, .bool false]) w := by kernel_rfl
theorem Tryz.assertN2 (v : Value) (xT : TypeId) (w : World) : (Instr.typeAssert (.iface 117 v) xT 117 true).run Tryz.prog w = .ok (.tuple #[v, .bool true]) w := by kernel_rfl
/-- What an error is told as, with its name. -/
def told4 (f p : Nat) (s : ByteArray) : Value := .agg #[.int .i64 (f : Int), .int .i64 (p : Int), .int .i64 0, .string s]
set_option maxRecDepth 1000000 in
theorem of_name {b p : Nat} {s : ByteArray} (w : World) (h : w.heap[b]? = some (.cells #[.int .i64 (p : Int), .string s] 119 (0, 0))) : Calls Tryz.prog 26 #[.iface 117 (ptr b)] w fun e w' => e = .returned (told4 3 p s) ∧ Below w.heap.size w w' := by
  have c0 : w.cell? ⟨b, 0, none⟩ = some (.int .i64 (p : Int)) := cell_of_heap h rfl
  have c1 : w.cell? ⟨b, 1, none⟩ = some (.string s) := cell_of_heap h rfl
  have lb := heap_lt h
  have t1 := Tryz.assertN1
  have t2 := Tryz.assertN2
  clear h
  go_enter Tryz.func26, Tryz.ntmps26
  go_wp2_with fail
  go_region
  all_goals
    go_wp2
    refine bodyPost_ret (v := told4 3 p s) (by simp [told4, results, Tryz.results26, go_sem]) rfl ⟨rfl, ?_⟩
    exact ((Below.refl _ _).alloc (Nat.le_refl _) _).drew
set_option maxRecDepth 1000000 in
theorem of_nil4 (w : World) : Calls Tryz.prog 26 #[.nilIface] w fun e w' => e = .returned (told4 0 0 ⟨#[]⟩) ∧ Below w.heap.size w w' := by
  go_enter Tryz.func26, Tryz.ntmps26
  go_wp2
  refine bodyPost_ret (v := told4 0 0 ⟨#[]⟩) (by simp [told4, results, Tryz.results26, go_sem]) rfl ⟨rfl, ?_⟩
  exact (Below.refl _ _).alloc (Nat.le_refl _) _
end Go.Proofs.YtadmedfehcckiaaGreatDoor
