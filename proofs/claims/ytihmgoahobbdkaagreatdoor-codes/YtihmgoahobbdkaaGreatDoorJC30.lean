/-
  TREES THAT ARE READ ARE FINE.
-/
import Derived.Test.YtihmgoahobbdkaaGreatDoorJC29
import Derived.Test.YtihmgoahobbdkaaGreatDoorJC22
import Derived.Test.YtihmgoahobbdkaaGreatDoorJC28
namespace Go.Proofs.YtihmgoahobbdkaaGreatDoor

theorem fineAll_append : ∀ a b, FineAll (a ++ b) ↔ FineAll a ∧ FineAll b
  | [], b => by simp [FineAll]
  | t :: a, b => by simp [FineAll, fineAll_append a b, and_assoc]
def Out.trees : Out → List Tree
  | .ok ts _ => ts
  | .bad _ => []
theorem D.fine {s : ByteArray} {L : List Tok} {v : Lvl} {I : Nat} {o : Out} (h : D s L v I o) : I ≤ o.at ∧ (o.at ≤ 1000 → FineAll v.got → FineAll o.trees ∧ (o.isOk = true → o.trees.length + I ≤ v.got.length + o.at)) := by
  induction h <;> simp only [Out.at, Out.isOk, Out.trees, Lvl.got, FineAll, fineAll_append, Fine, List.length_append, List.length_nil, List.length_cons] at * <;> grind
end Go.Proofs.YtihmgoahobbdkaaGreatDoor
namespace Go.Proofs.YtihmgoahobbdkaaGreatDoor
open Go.RowKit Go.Lib

/-- Bounds of a tree that was read. -/
theorem read_bounds {s : ByteArray} (hs : s.size ≤ 200) {t : Tree} {J : Nat} (hD : D s (toks s) .choice 0 (.ok [t] J)) (hk : kd (toks s) J = 101) : (mets t).length ≤ 300 ∧ Fine t := by
  have h1 := kd_lt hk (by decide)
  have h2 := toks_length s
  have h3 := hD.mets_le.2 rfl
  have h4 := (hD.fine.2 (by simp only [Out.at]; omega) (by simp only [Lvl.got, FineAll])).1
  simp only [Out.mets, Out.at, Lvl.got, metsAll, List.append_nil, List.length_nil] at h3
  simp only [Out.trees, FineAll] at h4
  exact ⟨by omega, h4.1⟩
theorem notes_bound {t : Tree} (h : (mets t).length ≤ 300) : (notes [] (mets t)).length ≤ 300 := by
  have := (notes_length (mets t) []).2
  simp at this
  omega
/-- What plain.Metrics tells of a text. -/
def MTold (n : Int) (w : World) (e : Ending) (t : Option Tree) : Prop :=
  match t with
  | none => e = .returned (.tuple #[.slice none 0 0, .slice none 0 0, .bool false])
  | some t => (mets t).length ≤ 300 ∧ Fine t ∧ ∃ va vb, e = .returned (.tuple #[va, vb, .bool true]) ∧ Txts w va (firstN n (notes [] (mets t))) ∧ Txts w vb (notes [] (mets t))

set_option maxRecDepth 1000000 in
set_option maxHeartbeats 1000000 in
theorem plain_Metrics (s : ByteArray) (n : Int) {A : Addr} {w : World} (hT : Tabs w) (hA : w.cell? ⟨1, 0, none⟩ = some (.iface 355 (.pointer (some A)))) :
    Calls Tryz.prog 10 #[.string s, .int .i64 n] w fun e w' => ∃ (t : Option Tree) (f p : Nat), PRel s (t, f, p) ∧ Below w.heap.size w w' ∧ MTold n w' e t := by
  have hp := code_Parse s w hT A hA
  clear hT hA
  go_enter Tryz.func10, Tryz.ntmps10
  go_wp2_with fail
  refine hp.mono ?_
  rintro e w1 ⟨hb1, hc⟩
  clear hp
  have HB1 : Hid (Below w.heap.size w w1) := hb1
  clear hb1
  rcases hc with ⟨h1, rfl⟩ | ⟨h1, ⟨J, b, h2, rfl, h3⟩ | ⟨t, J, a, h2, h3, rfl, h4⟩⟩
  · have HP : Hid (PRel s (none, 1, 0)) := .inl ⟨h1, rfl⟩
    clear h1
    go_wp2
    refine bodyPost_ret (v := .tuple #[.slice none 0 0, .slice none 0 0, .bool false]) (by simp [results, Tryz.results10, go_sem]) rfl ?_
    exact ⟨none, 1, 0, HP.out, HB1.out, rfl⟩
  · have HP : Hid (PRel s (none, 2, pl (toks s) J)) := .inr ⟨h1, by
      rcases h2 with h2 | ⟨t, h2, h4⟩
      · exact .inl ⟨J, h2, rfl⟩
      · exact .inr (.inl ⟨t, J, h2, h4, rfl⟩)⟩
    clear h1 h2 h3
    go_wp2
    refine bodyPost_ret (v := .tuple #[.slice none 0 0, .slice none 0 0, .bool false]) (by simp [results, Tryz.results10, go_sem]) rfl ?_
    exact ⟨none, 2, _, HP.out, HB1.out, rfl⟩
  · have HP : Hid (PRel s (some t, 0, 0)) := .inr ⟨h1, .inr (.inr ⟨t, J, h2, h3, rfl⟩)⟩
    obtain ⟨hmb, hfi⟩ := read_bounds h1 h2 h3
    have hnb := notes_bound hmb
    obtain ⟨pb, a', rfl, -, h5, tb, ty, pa, mv, rfl, -, h6, -, h7⟩ := h4
    obtain ⟨ao, cp, rfl⟩ := owns_slice_len h7
    have hnm := code_Names h5 h6
    have hO := h7.alloc (.cells #[.slice ao (notes [] (mets t)).length cp] 30)
    have hX := block_new w1 #[.slice ao (notes [] (mets t)).length cp] 30
    have HF : Hid ((mets t).length ≤ 300 ∧ Fine t) := ⟨hmb, hfi⟩
    clear h1 h2 h3 h5 h6 h7 hmb hfi
    have htk := takenRun hO (by omega) hX n
    have HO : Hid _ := hO
    have HX : Hid _ := hX
    have hB2 : Below w.heap.size w (w1.alloc (.cells #[.slice ao (notes [] (mets t)).length cp] 30)) := HB1.out.alloc HB1.out.size _
    have HB2 : Hid (Below w.heap.size w (w1.alloc (.cells #[.slice ao (notes [] (mets t)).length cp] 30))) := hB2
    clear hO hX hB2
    go_wp2_with fail
    refine hnm.mono ?_
    rintro e w' ⟨rfl, rfl⟩
    clear hnm
    go_wp2_with fail
    refine htk.mono ?_
    rintro e w3 ⟨ta, rfl, hb3, ho3⟩
    have htk2 := takenRun (owns_below HO.out hb3) (by omega) ((hb3.block _ (heap_lt HX.out)).trans HX.out) (-1)
    have HB3 : Hid (Below w.heap.size w w3) := HB2.out.trans (hb3.mono HB2.out.size)
    have HT3 : Hid (Txts w3 ta (firstN n (notes [] (mets t)))) := .of_owns ho3
    obtain ⟨to, tc, rfl⟩ := owns_slice_len ho3
    clear htk hb3 ho3 HO HX HB2
    go_wp2_with fail
    refine htk2.mono ?_
    rintro e w4 ⟨tb2, rfl, hb4, ho4⟩
    have HB4 : Hid (Below w.heap.size w w4) := HB3.out.trans (hb4.mono HB3.out.size)
    have HT4 : Hid (Txts w4 _ (firstN n (notes [] (mets t)))) := HT3.out.below hb4
    have HU4 : Hid (Txts w4 tb2 (notes [] (mets t))) := by
      have := Txts.of_owns ho4
      unfold firstN at this
      rw [if_neg (by omega)] at this
      exact this
    obtain ⟨uo, uc, rfl⟩ := owns_slice_len ho4
    clear htk2 hb4 ho4 HB3 HT3
    go_wp2
    refine bodyPost_ret (v := .tuple #[.slice to (firstN n (notes [] (mets t))).length tc, .slice uo (firstN (-1) (notes [] (mets t))).length uc, .bool true]) (by simp [results, Tryz.results10, go_sem]) rfl ?_
    exact ⟨some t, 0, 0, HP.out, HB4.out, HF.out.1, HF.out.2, _, _, rfl, HT4.out, HU4.out⟩
end Go.Proofs.YtihmgoahobbdkaaGreatDoor
namespace Go.Proofs.YtihmgoahobbdkaaGreatDoor
open Go.RowKit Go.Lib

set_option maxRecDepth 1000000 in
set_option maxHeartbeats 1000000 in
theorem plain_Parse (s : ByteArray) {A : Nat → Addr} {w : World} (hT : Tabs w) (hA : Sents A w) :
    Calls Tryz.prog 8 #[.string s] w fun e w' => ∃ (t : Option Tree) (f p : Nat), PRel s (t, f, p) ∧ e = .returned (.tuple #[.bool t.isSome, told f p]) ∧ Below w.heap.size w w' := by
  have hx : Below w.heap.size w (w.alloc (.cells #[.int .i64 0, .int .i64 0, .int .i64 0, .string { data := #[] }] 23)) := (Below.refl _ _).alloc (Nat.le_refl _) _
  have hA0 := hA.below hx
  have hp := code_Parse s _ (hT.below hx) (A 0) hA0.g0
  have HA : Hid _ := hA0
  have HX : Hid (Below w.heap.size w (w.alloc (.cells #[.int .i64 0, .int .i64 0, .int .i64 0, .string { data := #[] }] 23))) := hx
  clear hT hA hx hA0
  go_enter Tryz.func8, Tryz.ntmps8
  go_wp2_with fail
  refine hp.mono ?_
  rintro e w1 ⟨hb1, hc⟩
  clear hp
  have hof : ∃ (t : Option Tree) (f p : Nat) (pa : Option Addr) (ev : Value), PRel s (t, f, p) ∧ t.isSome = pa.isSome ∧ e = .returned (.tuple #[.pointer pa, ev]) ∧ Calls Tryz.prog 24 #[ev] w1 fun e w' => e = .returned (told f p) ∧ Below w1.heap.size w1 w' := by
    rcases hc with ⟨h1, rfl⟩ | ⟨h1, ⟨J, b, h2, rfl, h3⟩ | ⟨t, J, a, h2, h3, rfl, -⟩⟩
    · exact ⟨none, 1, 0, none, _, .inl ⟨h1, rfl⟩, rfl, rfl, of_long (HA.out.below hb1)⟩
    · refine ⟨none, 2, pl (toks s) J, none, _, .inr ⟨h1, ?_⟩, rfl, rfl, of_syntax w1 h3⟩
      rcases h2 with h2 | ⟨t, h2, h4⟩
      · exact .inl ⟨J, h2, rfl⟩
      · exact .inr (.inl ⟨t, J, h2, h4, rfl⟩)
    · exact ⟨some t, 0, 0, some a, _, .inr ⟨h1, .inr (.inr ⟨t, J, h2, h3, rfl⟩)⟩, rfl, rfl, of_nil w1⟩
  obtain ⟨t, f, p, pa, ev, hP, ht, rfl, hof⟩ := hof
  have HP : Hid (PRel s (t, f, p)) := hP
  have HB1 : Hid _ := hb1
  clear hP hc hb1
  have hne : ∀ W, (binOp .neq 58 (.pointer pa) (.pointer none)).run Tryz.prog W = .ok (.bool pa.isSome) W := fun W => by cases pa <;> kernel_rfl
  go_wp2_with fail
  refine hof.mono ?_
  rintro e w2 ⟨rfl, hb2⟩
  have bn : w2.heap[w.heap.size]? = some (.cells #[.int .i64 0, .int .i64 0, .int .i64 0, .string { data := #[] }] 23 (0, 0)) := (hb2.block _ (Nat.lt_of_lt_of_le (by simp) HB1.out.size)).trans ((HB1.out.block _ (by simp)).trans cells_new)
  have c0 := cell_of_heap (i := 0) bn rfl
  have c1 := cell_of_heap (i := 1) bn rfl
  have c2 := cell_of_heap (i := 2) bn rfl
  have c3 := cell_of_heap (i := 3) bn rfl
  have z0 := frozen_of_heap (i := 0) bn
  have z1 := frozen_of_heap (i := 1) bn
  have z2 := frozen_of_heap (i := 2) bn
  have z3 := frozen_of_heap (i := 3) bn
  have HB : Hid (Below w.heap.size w w2) := (HX.out.trans (HB1.out.mono (by simp))).trans (hb2.mono (by have := HB1.out.size; simp at this; omega))
  clear bn hb2 hof HX HB1 HA
  go_wp2
  refine bodyPost_ret (v := .tuple #[.bool t.isSome, told f p]) (by simp [results, Tryz.results8, go_sem, c0, c1, c2, c3, ht]) rfl ⟨t, f, p, HP.out, rfl, ?_⟩
  exact (((HB.out.setCell (Nat.le_refl _) _).setCell (Nat.le_refl _) _).setCell (Nat.le_refl _) _).setCell (Nat.le_refl _) _
end Go.Proofs.YtihmgoahobbdkaaGreatDoor
namespace Go.Proofs.YtihmgoahobbdkaaGreatDoor
open Go.RowKit Go.Lib

theorem PRel.forms {s : ByteArray} {t : Option Tree} {f p : Nat} (h : PRel s (t, f, p)) : (t.isSome = false ∧ f = 1 ∧ p = 0) ∨ (t.isSome = false ∧ f = 2) ∨ (t.isSome = true ∧ f = 0 ∧ p = 0) := by
  rcases h with ⟨-, h⟩ | ⟨-, ⟨J, -, h⟩ | ⟨t, J, -, -, h⟩ | ⟨t, J, -, -, h⟩⟩
  · injection h with h1 h2; injection h2 with h2 h3; subst h1; exact .inl ⟨rfl, h2, h3⟩
  · injection h with h1 h2; injection h2 with h2 h3; subst h1; exact .inr (.inl ⟨rfl, h2⟩)
  · injection h with h1 h2; injection h2 with h2 h3; subst h1; exact .inr (.inl ⟨rfl, h2⟩)
  · injection h with h1 h2; injection h2 with h2 h3; subst h1; exact .inr (.inr ⟨rfl, h2, h3⟩)

set_option maxRecDepth 1000000 in
set_option maxHeartbeats 1000000 in
theorem law_Parses (s : ByteArray) (hs : s.size ≤ 9223372036854775807) {A : Nat → Addr} {w : World} (hT : Tabs w) (hA : Sents A w) :
    Calls Tryz.prog 3 #[.string s] w fun e w' => e = .returned (.bool true) ∧ Below w.heap.size w w' := by
  have hp := plain_Parse s hT hA
  have HT : Hid (Tabs w) := hT
  clear hT hA
  go_enter Tryz.func3, Tryz.ntmps3
  go_wp2_with fail
  refine hp.mono ?_
  rintro e w1 ⟨t, f, p, hP, rfl, hb1⟩
  have HP : Hid (PRel s (t, f, p)) := hP
  have HB1 : Hid (Below w.heap.size w w1) := hb1
  have hsz := hb1.size
  clear hp hP hb1
  go_wp2_with fail
  obtain ⟨X, hX⟩ : ∃ X, X = w1.alloc (.cells #[.int .i64 f, .int .i64 p, .int .i64 0, .string { data := #[] }] 23) := ⟨_, rfl⟩
  rw [← hX]
  have hBX : Below w.heap.size w X := by rw [hX]; exact HB1.out.alloc hsz _
  have bn : X.heap[w1.heap.size]? = some (.cells #[.int .i64 f, .int .i64 p, .int .i64 0, .string { data := #[] }] 23 (0, 0)) := by rw [hX]; exact cells_new
  have lX := heap_lt bn
  refine (ref_parse s hs X (HT.out.below hBX)).mono ?_
  rintro e w2 ⟨t2, f2, p2, pa, rfl, hP2, hb2, -⟩
  have hd := HP.out.det hP2
  injection hd with e1 e2
  injection e2 with e2 e3
  subst e1 e2 e3
  have bn2 := (hb2.block _ lX).trans bn
  have c0 := cell_of_heap (i := 0) bn2 rfl
  have c1 := cell_of_heap (i := 1) bn2 rfl
  have c2 := cell_of_heap (i := 2) bn2 rfl
  have c3 := cell_of_heap (i := 3) bn2 rfl
  have HB2 : Hid (Below w.heap.size w w2) := hBX.trans (hb2.mono hBX.size)
  have hfm := HP.out.forms
  clear hb2 hBX bn bn2 hX HB1 hP2 HP
  rcases hfm with ⟨ht, rfl, rfl⟩ | ⟨ht, rfl⟩ | ⟨ht, rfl, rfl⟩
  all_goals
    rw [ht]
    go_wp2
    go_ret
    exact ⟨rfl, HB2.out⟩
end Go.Proofs.YtihmgoahobbdkaaGreatDoor
namespace Go.Proofs.YtihmgoahobbdkaaGreatDoor
open Go.RowKit Go.Lib

set_option maxRecDepth 1000000 in
set_option maxHeartbeats 1000000 in
theorem law_Roots (s : ByteArray) (n : Int) (hs : s.size ≤ 9223372036854775807) {A : Addr} {w : World} (hT : Tabs w) (hA : w.cell? ⟨1, 0, none⟩ = some (.iface 355 (.pointer (some A)))) :
    Calls Tryz.prog 4 #[.string s, .int .i64 n] w fun e w' => e = .returned (.bool true) ∧ Below w.heap.size w w' := by
  have hr := ref_parse s hs w hT
  have HT : Hid (Tabs w) := hT
  have HA : Hid (w.cell? ⟨1, 0, none⟩ = some (.iface 355 (.pointer (some A)))) := hA
  clear hT hA
  go_enter Tryz.func4, Tryz.ntmps4
  go_wp2_with fail
  refine hr.mono ?_
  rintro e w1 ⟨t, f, p, pa, rfl, hP, hb1, htr⟩
  have hm := plain_Metrics s n (HT.out.below hb1) ((World.cell?_of_block (hb1.block _ (World.block_lt_of_cell? w _ HA.out))).trans HA.out)
  have HP : Hid (PRel s (t, f, p)) := hP
  have HB1 : Hid (Below w.heap.size w w1) := hb1
  have HTR : Hid (TreeAt w.heap.size w1 t (.pointer pa)) := htr
  clear hr hP hb1 htr HT HA
  go_wp2_with fail
  refine hm.mono ?_
  rintro e w2 ⟨t2, f2, p2, hP2, hb2, hM⟩
  have hd := HP.out.det hP2
  injection hd with e1 e2
  injection e2 with e2 e3
  subst e1 e2 e3
  have HB2 : Hid (Below w.heap.size w w2) := HB1.out.trans (hb2.mono HB1.out.size)
  have hfm := HP.out.forms
  have HB12 : Hid (Below w1.heap.size w1 w2) := hb2
  clear hP2 hb2 hm HP
  cases t with
  | none =>
    have hM : e = .returned (.tuple #[.slice none 0 0, .slice none 0 0, .bool false]) := hM
    subst hM
    have hf : f ≠ 0 := by
      rcases hfm with ⟨-, h, -⟩ | ⟨-, h⟩ | ⟨h, -⟩
      · omega
      · omega
      · cases h
    have hfb : (((f : Nat) : Int) != 0) = true := by rw [bne_iff_ne]; omega
    go_wp2
    go_ret
    exact ⟨rfl, HB2.out⟩
  | some t =>
    obtain ⟨hmb, hfi, va, vb, rfl, hta, htb⟩ := hM
    have hf : f = 0 := by
      rcases hfm with ⟨h, -⟩ | ⟨h, -⟩ | ⟨-, h, -⟩
      · cases h
      · cases h
      · exact h
    subst hf
    have hnb := notes_bound hmb
    have hnode : IsNode (fun b => b < w2.heap.size) w2 t (.pointer pa) := by
      have q : IsNode (From w.heap.size) w1 t (.pointer pa) := HTR.out
      exact q.moves fun b hb hlt => ⟨Nat.lt_of_lt_of_le hlt HB12.out.size, HB12.out.block b hlt⟩
    have hme := ref_metrics t hfi _ w2.heap.size w2 (.pointer pa) (.slice none 0 0) [] (fun b hb => hb) (Nat.le_refl _) hnode (World.ownsRow_nil _ _ _ _) (by simp; omega)
    have HTA : Hid (Txts w2 va (firstN n (notes [] (mets t)))) := hta
    have HTB : Hid (Txts w2 vb (notes [] (mets t))) := htb
    obtain ⟨ta, tac, rfl, -⟩ := hta
    obtain ⟨ub, ubc, rfl, -⟩ := htb
    clear hmb hfi hnode hfm
    go_wp2_with fail
    refine hme.mono ?_
    rintro e w3 ⟨lv, rfl, ho3, hb3⟩
    have hfi := law_first (.of_owns ho3) n
    have hs2 : ∀ W, Below w3.heap.size w3 W → Calls Tryz.prog 13 #[.slice ub (notes [] (mets t)).length ubc, lv] W fun e w' => e = .returned (.bool true) ∧ Below W.heap.size W w' := fun W hW => law_same ((HTB.out.below hb3).below hW) ((Txts.of_owns ho3).below hW) (by omega)
    have HTA3 : Hid _ := HTA.out.below hb3
    have HB3 : Hid (Below w.heap.size w w3) := HB2.out.trans (hb3.mono HB2.out.size)
    obtain ⟨lo, lc, rfl⟩ := owns_slice_len ho3
    clear hme hb3 ho3 HTA HTB
    go_wp2_with fail
    refine hfi.mono ?_
    rintro e w' ⟨⟨v', rfl, hv'⟩, hw⟩
    have hw := hw.symm
    subst hw
    have hs1 := law_same HTA3.out hv' (by
      unfold firstN
      split
      · rw [List.length_take]; omega
      · omega)
    obtain ⟨vo, vc, rfl, -⟩ := hv'
    clear hfi
    go_wp2_with fail
    refine hs1.mono ?_
    rintro e w4 ⟨rfl, hb4⟩
    have hs2 := hs2 w4 hb4
    have HB4 : Hid (Below w.heap.size w w4) := HB3.out.trans (hb4.mono HB3.out.size)
    clear hs1 hb4
    go_wp2_with fail
    refine hs2.mono ?_
    rintro e w5 ⟨rfl, hb5⟩
    have HB5 : Hid (Below w.heap.size w w5) := HB4.out.trans (hb5.mono HB4.out.size)
    clear hs2 hb5
    go_wp2
    go_ret
    exact ⟨rfl, HB5.out⟩
end Go.Proofs.YtihmgoahobbdkaaGreatDoor
