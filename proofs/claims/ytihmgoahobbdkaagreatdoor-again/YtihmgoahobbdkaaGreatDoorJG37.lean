/-
  plain.Of AT A HoldError AND AT ErrCode, WALKED.
-/
import Derived.Test.YtihmgoahobbdkaaGreatDoorJG19
import Derived.Test.YtihmgoahobbdkaaGreatDoorJG36
import Derived.Test.YtihmgoahobbdkaaGreatDoorJG20
import Derived.Lib.Builder
import Derived.Laws.Externs
import Derived.Shelf.Strings.Builder1
namespace Go.Proofs.YtihmgoahobbdkaaGreatDoor
open Go.RowKit Go.Lib

/-- The sentinels, each in a block of its own address. -/
structure SentsX (A : Nat → Addr) (w : World) : Prop where
  sents : Sents A w
  row : ∀ i, i < 8 → ∃ c t, w.heap[(A i).block]? = some (.cells c t (0, 0))
  ne : ∀ i j, i < 8 → j < 8 → i ≠ j → A i ≠ A j
  etype : EType w
theorem SentsX.below {A : Nat → Addr} {w w' : World} (h : SentsX A w) (hb : Below w.heap.size w w') : SentsX A w' :=
  ⟨h.sents.below hb, fun i hi => by obtain ⟨c, t, e⟩ := h.row i hi; exact ⟨c, t, (hb.block _ (heap_lt e)).trans e⟩, h.ne, h.etype.below hb⟩
theorem Tryz.assertH1 (v : Value) (xT : TypeId) (w : World) : (Instr.typeAssert (.iface 118 v) xT 110 true).run Tryz.prog w = .ok (.tuple #[.pointer none, .bool false]) w := by kernel_rfl
theorem Tryz.assertH2 (v : Value) (xT : TypeId) (w : World) : (Instr.typeAssert (.iface 118 v) xT 115 true).run Tryz.prog w = .ok (.tuple #[.pointer none, .bool false]) w := by kernel_rfl
theorem Tryz.assertH3 (v : Value) (xT : TypeId) (w : World) : (Instr.typeAssert (.iface 118 v) xT 118 true).run Tryz.prog w = .ok (.tuple #[v, .bool true]) w := by kernel_rfl
/-- What a reason is told as. -/
def toldW : Why → Nat → Value
  | .divide, p => toldH 8 p 0
  | .noData, p => toldH 9 p 0
  | .failed, p => toldH 10 p 0
  | .panic n, p => toldH 11 p n
section
variable {A : Nat → Addr} {w : World} {b p : Nat} {T : TypeId} {x : Value} {y : Why}
theorem plain_hold (hs : SentsX A w) (hh : HoldAt w b p T x) (hw : WhyAt A w y T x) : Calls Tryz.prog 42 #[ptr b] w fun e w' => e = .returned (toldW y p) ∧ Below w.heap.size w w' := by
  cases y with
  | divide =>
    obtain ⟨rfl, rfl⟩ := hw
    exact hold_divide b p (A 5) w hs.etype (cell_of_heap hh rfl) (cell_of_heap hh rfl) hs.sents.g5
  | noData =>
    obtain ⟨rfl, rfl⟩ := hw
    obtain ⟨c5, t5, h5⟩ := hs.row 5 (by decide)
    obtain ⟨c6, t6, h6⟩ := hs.row 6 (by decide)
    exact hold_noData b p (A 6) w hs.etype (cell_of_heap hh rfl) (cell_of_heap hh rfl) (A 5) hs.sents.g5 hs.sents.g6 (hs.ne 6 5 (by decide) (by decide) (by decide)) h6 h5
  | failed =>
    obtain ⟨rfl, c, rfl⟩ := hw
    exact hold_failed b p ⟨c, 0, none⟩ w hs.etype (cell_of_heap hh rfl) (cell_of_heap hh rfl)
  | panic n =>
    obtain ⟨rfl, c, rfl, ho⟩ := hw
    exact hold_panic b c p ⟨c, 0, none⟩ w hs.etype (cell_of_heap hh rfl) (cell_of_heap hh rfl) n (cell_of_heap ho rfl) rfl
set_option maxRecDepth 1000000 in
set_option maxHeartbeats 1000000 in
theorem of_hold (hs : SentsX A w) (hh : HoldAt w b p T x) (hw : WhyAt A w y T x) : Calls Tryz.prog 24 #[.iface 118 (ptr b)] w fun e w' => e = .returned (toldW y p) ∧ Below w.heap.size w w' := by
  have hx : Below w.heap.size w (w.alloc (.cells #[.int .i64 0, .int .i64 0, .int .i64 0, .string { data := #[] }] 23)) := (Below.refl _ _).alloc (Nat.le_refl _) _
  have hcl := plain_hold (hs.below hx) (((hx.block b (heap_lt hh)).trans hh : HoldAt _ b p T x)) (hw.below hx)
  obtain ⟨ce, cn, he⟩ : ∃ ce cn, toldW y p = .agg #[.int .i64 ce, .int .i64 (p : Int), .int .i64 cn, .string { data := #[] }] := by cases y <;> exact ⟨_, _, rfl⟩
  rw [he] at hcl ⊢
  have t1 := Tryz.assertH1
  have t2 := Tryz.assertH2
  have t3 := Tryz.assertH3
  have HX : Hid _ := hx
  clear hs hh hw hx he
  go_enter Tryz.func24, Tryz.ntmps24
  go_wp2_with fail
  refine hcl.mono ?_
  rintro e w1 ⟨rfl, hb1⟩
  have bn : w1.heap[w.heap.size]? = some (.cells #[.int .i64 0, .int .i64 0, .int .i64 0, .string { data := #[] }] 23 (0, 0)) := (hb1.block _ (by simp)).trans cells_new
  have c0 := cell_of_heap (i := 0) bn rfl
  have c1 := cell_of_heap (i := 1) bn rfl
  have c2 := cell_of_heap (i := 2) bn rfl
  have c3 := cell_of_heap (i := 3) bn rfl
  have z0 := frozen_of_heap (i := 0) bn
  have z1 := frozen_of_heap (i := 1) bn
  have z2 := frozen_of_heap (i := 2) bn
  have z3 := frozen_of_heap (i := 3) bn
  have HB : Hid (Below w.heap.size w w1) := HX.out.trans (hb1.mono (by simp))
  clear bn hb1 hcl HX
  go_wp2
  refine bodyPost_ret (v := .agg #[.int .i64 ce, .int .i64 (p : Int), .int .i64 cn, .string { data := #[] }]) (by simp [results, Tryz.results24, go_sem, c0, c1, c2, c3]) rfl ⟨rfl, ?_⟩
  iterate 4 (refine Below.setCell ?_ (by exact Nat.le_refl _) _)
  exact HB.out
set_option maxRecDepth 1000000 in
set_option maxHeartbeats 2000000 in
theorem code_sentinelC (h : SentsX A w) : Calls Tryz.prog 43 #[.iface 355 (.pointer (some (A 1)))] w fun e w' => e = .returned (.int .i64 4) ∧ Below w.heap.size w w' := by
  obtain ⟨ca, ta, ha⟩ := h.row 1 (by decide)
  obtain ⟨cb, tb, hb⟩ := h.row 0 (by decide)
  have hne := h.ne 1 0 (by decide) (by decide) (by decide)
  obtain ⟨⟨g0, g1, g2, g3, g4, g5, g6, g7⟩, -, -, -⟩ := h
  obtain ⟨ti, hi, hcmp⟩ := Option.map_eq_some_iff.1 Tryz.isComp
  obtain ⟨tj, hj, hjs⟩ := Option.map_eq_some_iff.1 Tryz.isSize
  have heq := fun W => run_eql_iface_ptr_same (P := Tryz.prog) W (A 1) Tryz.underlying60 Tryz.underlying355 hi hcmp hj
  have hot := fun W => run_eql_iface_ptr_other (P := Tryz.prog) W (ca := ca) (cb := cb) (ta := ta) (tb := tb) Tryz.underlying60 Tryz.underlying355 hi hcmp hj (by rw [hjs]; decide) hne
  clear hi hcmp hj hjs
  go_enter Tryz.func43, Tryz.ntmps43
  go_wp2_with fail
  obtain ⟨X, hX⟩ : ∃ X, X = w.alloc (.cells #[.nilIface, .iface 355 (.pointer (some (A 0))), .nilIface, .nilIface, .iface 355 (.pointer (some (A 1))), .iface 355 (.pointer (some (A 2))), .iface 355 (.pointer (some (A 3))), .iface 355 (.pointer (some (A 4))), .iface 355 (.pointer (some (A 5))), .iface 355 (.pointer (some (A 6))), .nilIface, .nilIface, .iface 355 (.pointer (some (A 7)))] 60) := ⟨_, rfl⟩
  rw [← hX]
  have x0 : X.cell? ⟨w.heap.size, 0, none⟩ = some .nilIface := by rw [hX]; go_simp
  have x1 : X.cell? ⟨w.heap.size, 1, none⟩ = some (.iface 355 (.pointer (some (A 0)))) := by rw [hX]; go_simp
  have x2 : X.cell? ⟨w.heap.size, 2, none⟩ = some .nilIface := by rw [hX]; go_simp
  have x3 : X.cell? ⟨w.heap.size, 3, none⟩ = some .nilIface := by rw [hX]; go_simp
  have x4 : X.cell? ⟨w.heap.size, 4, none⟩ = some (.iface 355 (.pointer (some (A 1)))) := by rw [hX]; go_simp
  have hbx : Below w.heap.size w X := by rw [hX]; exact (Below.refl _ _).alloc (Nat.le_refl _) _
  have hot := hot X ((hbx.block _ (heap_lt ha)).trans ha) ((hbx.block _ (heap_lt hb)).trans hb)
  have HX : Hid (Below w.heap.size w X) := hbx
  clear hX hbx g0 g1 g2 g3 g4 g5 g6 g7 ha hb
  refine wp_loop_rounds 5 ?_
  rw [rounds_succ]
  go_wp2_with fail
  rw [rounds_succ]
  go_wp2_with fail
  rw [rounds_succ]
  go_wp2_with fail
  rw [rounds_succ]
  go_wp2_with fail
  rw [rounds_succ]
  go_wp2
  go_ret
  exact ⟨rfl, HX.out⟩
set_option maxRecDepth 1000000 in
set_option maxHeartbeats 1000000 in
theorem of_code (h : SentsX A w) : Calls Tryz.prog 24 #[.iface 355 (.pointer (some (A 1)))] w fun e w' => e = .returned (told4 4 0 ⟨#[]⟩) ∧ Below w.heap.size w w' := by
  have t1 := Tryz.assertE1
  have t2 := Tryz.assertE2
  have t3 := Tryz.assertE3
  have hx : Below w.heap.size w (w.alloc (.cells #[.int .i64 0, .int .i64 0, .int .i64 0, .string { data := #[] }] 23)) := (Below.refl _ _).alloc (Nat.le_refl _) _
  have hse := code_sentinelC (h.below hx)
  have HX : Hid _ := hx
  clear h hx
  go_enter Tryz.func24, Tryz.ntmps24
  go_wp2_with fail
  refine hse.mono ?_
  rintro e w1 ⟨rfl, hb1⟩
  have bn : w1.heap[w.heap.size]? = some (.cells #[.int .i64 0, .int .i64 0, .int .i64 0, .string { data := #[] }] 23 (0, 0)) := (hb1.block _ (by simp)).trans cells_new
  have c0 := cell_of_heap (i := 0) bn rfl
  have c1 := cell_of_heap (i := 1) bn rfl
  have c2 := cell_of_heap (i := 2) bn rfl
  have c3 := cell_of_heap (i := 3) bn rfl
  have z0 := frozen_of_heap (i := 0) bn
  have z1 := frozen_of_heap (i := 1) bn
  have z2 := frozen_of_heap (i := 2) bn
  have z3 := frozen_of_heap (i := 3) bn
  have HB : Hid (Below w.heap.size w w1) := HX.out.trans (hb1.mono (by simp))
  clear bn hb1 hse HX
  go_wp2
  refine bodyPost_ret (v := told4 4 0 ⟨#[]⟩) (by simp [told4, results, Tryz.results24, go_sem, c0, c1, c2, c3]) rfl ⟨rfl, ?_⟩
  iterate 4 (refine Below.setCell ?_ (by exact Nat.le_refl _) _)
  exact HB.out
/-- What a value or a reason is told as. -/
def toldR : Res → Value
  | .val _ => told4 0 0 ⟨#[]⟩
  | .held p y => toldW y p
end
end Go.Proofs.YtihmgoahobbdkaaGreatDoor
namespace Go.Proofs.YtihmgoahobbdkaaGreatDoor
open Go.RowKit

theorem Tryz.sizeB : (Tryz.prog.info? 197).map (·.size) = some 2 := by kernel_rfl
theorem Tryz.liesB : liesAt Tryz.prog Tryz.prog.depth 197 (2 / Tryz.prog.cellsOf 197) 0 197 1 = true := by kernel_rfl
/-- A builder in a block of its own, from block B on, that holds these bytes. -/
abbrev Bld (B b : Nat) (l : List UInt8) (w : World) : Prop := Lib.IsBuilder 197 5 B b (bytesV l) w
abbrev BldU (B b : Nat) (l : List UInt8) (w : World) : Prop := Lib.BuilderAt 197 5 B b (.pointer (some ⟨b, 0, none⟩)) (bytesV l) w
set_option maxRecDepth 1000000 in
theorem bu_check_used (b : Nat) (w : World) (h0 : w.cell? ⟨b, 0, none⟩ = some (.pointer (some ⟨b, 0, none⟩))) :
    Calls Tryz.prog 245 #[.pointer (some ⟨b, 0, none⟩)] w fun e w' => e = .returned (.tuple #[]) ∧ w' = w := by
  obtain ⟨j, hj, _⟩ := Option.map_eq_some_iff.1 Tryz.sizeB
  have hneq := fun W : World => Lib.run_neq_ptr_same W ⟨b, 0, none⟩ Tryz.underlying195 hj
  clear hj
  go_enter Tryz.func245, Tryz.ntmps245
  go_wp2
  go_end0
  exact ⟨rfl, rfl⟩
set_option maxRecDepth 1000000 in
theorem bu_check_fresh (b : Nat) (w : World) (h0 : w.cell? ⟨b, 0, none⟩ = some (.pointer none)) (hsh : w.shape? b = some (197, 2)) (hfz : w.frozen? ⟨b, 0, none⟩ = false) :
    Calls Tryz.prog 245 #[.pointer (some ⟨b, 0, none⟩)] w fun e w' => e = .returned (.tuple #[]) ∧ w' = w.setCell ⟨b, 0, none⟩ (.pointer (some ⟨b, 0, none⟩)) := by
  obtain ⟨j, hj, hjs⟩ := Option.map_eq_some_iff.1 Tryz.sizeB
  go_enter Tryz.func245, Tryz.ntmps245
  go_wp2
  rw [Lib.run_to_unsafe w ⟨b, 0, none⟩ Tryz.underlying195 Tryz.underlying207 hj (by rw [hjs]; decide) hsh (Nat.zero_lt_succ 1)]
  simp only [Result.andThen]
  rw [Oper.upon_value]
  go_wp2
  rw [run_callFunc_extern Tryz.func246 (by kernel_rfl) (by kernel_rfl) (by kernel_rfl) (e := Extern.AbiNoEscape.same) (by kernel_rfl)]
  rw [Lib.run_noEscape]
  simp only [Result.andThen]
  rw [Oper.upon_value]
  go_wp2
  rw [Lib.run_from_unsafe w ⟨b, 0, none⟩ Tryz.underlying207 Tryz.underlying195 hj hsh Tryz.liesB]
  simp only [Result.andThen]
  rw [Oper.upon_value]
  go_wp2
  go_end0
  exact ⟨rfl, rfl⟩
theorem bu_check (B b : Nat) (l : List UInt8) (w : World) (h : Bld B b l w) :
    Calls Tryz.prog 245 #[.pointer (some ⟨b, 0, none⟩)] w fun e w' => e = .returned (.tuple #[]) ∧ BldU B b l w' ∧ Below B w w' := by
  rcases h with h | h
  · refine (bu_check_fresh b w h.cell0 h.shape h.frozen0).mono ?_
    rintro e w' ⟨rfl, rfl⟩
    exact ⟨rfl, h.used _, (Below.refl B w).setCell (p := ⟨b, 0, none⟩) h.1 _⟩
  · refine (bu_check_used b w h.cell0).mono ?_
    rintro e w' ⟨rfl, rfl⟩
    exact ⟨rfl, h, Below.refl B _⟩
set_option maxRecDepth 1000000 in
set_option maxHeartbeats 1000000 in
theorem bu_byte (B b : Nat) (l : List UInt8) (c : UInt8) (w : World) (h : Bld B b l w) (hlen : l.length ≤ 1000000) (hBw : B ≤ w.heap.size) :
    Calls Tryz.prog 244 #[.pointer (some ⟨b, 0, none⟩), .int .u8 c.toNat] w fun e w' => e = .returned .nilIface ∧ BldU B b (l ++ [c]) w' ∧ Below B w w' := by
  obtain ⟨i0, hi, hz0, hz1, hz2⟩ := info_parts Tryz.infoByte
  have hck := bu_check B b l w h
  clear h
  go_enter Tryz.func244, Tryz.ntmps244
  go_wp2_with fail
  refine hck.mono ?_
  rintro e w1 ⟨rfl, h1, hb1⟩
  obtain ⟨hB, v, hbk, hown, hne⟩ := h1
  have hl1 : (bytesV l).length = l.length := bytesV_length l
  rw [hl1] at hown
  have c0 : w1.cell? ⟨b, 0, none⟩ = some (.pointer (some ⟨b, 0, none⟩)) := by rw [Lib.cell_of_heap hbk]; rfl
  have c1 : w1.cell? ⟨b, 1, none⟩ = some v := by rw [Lib.cell_of_heap hbk]; rfl
  go_wp2_with (at_builtin; refine wpList_append_own _ rfl _ _ 78 rfl B 5 i0 (.int .u8 0) 1 1 Tryz.underlying78 hi hz0 hz1 hz2 rfl (by decide) _ _ _ rfl (hown.alloc _) ⟨w1.heap.size, 0, none⟩ 1 1 [.int .u8 c.toNat] rfl rfl ?c1 ?c2 ?c3 ?c4 ?c5 ?_)
  case c1 =>
    intro j u hj
    match j, hj with
    | 0, hj => simp at hj; subst hj; simp [Addr.add]
  case c2 => intro u hu; simp at hu; subst hu; rfl
  case c3 => unfold maxLen; omega
  case c4 => omega
  case c5 => have := hb1.size; simp; omega
  intro v' w2 hown' hgrow _
  have hlt : b < w1.heap.size := by
    rcases Nat.lt_or_ge b w1.heap.size with h' | h'
    · exact h'
    · simp [Array.getElem?_eq_none h'] at hbk
  have hb2 : w2.heap[b]? = some (.cells #[.pointer (some ⟨b, 0, none⟩), v] 197 (0, 0)) := by
    rw [hgrow.block b (by simp; omega) (fun e => hne e.symm), Lib.alloc_old w1 _ b hlt]
    exact hbk
  have d0 : w2.cell? ⟨b, 0, none⟩ = some (.pointer (some ⟨b, 0, none⟩)) := by rw [Lib.cell_of_heap hb2]; rfl
  have d1 : w2.cell? ⟨b, 1, none⟩ = some v := by rw [Lib.cell_of_heap hb2]; rfl
  have f1 : w2.frozen? ⟨b, 1, none⟩ = false := Lib.frozen_of_heap hb2 1
  obtain ⟨g, cap, rfl⟩ : ∃ g cap, v' = .slice (some ⟨g, 0, none⟩) (l.length + 1) cap := by
    rcases hown'.2 with ⟨_, h0⟩ | ⟨g, cap, cur, hv, _⟩
    · omega
    · exact ⟨g, cap, hv⟩
  go_wp2
  go_ret
  refine ⟨rfl, ?_, ?_⟩
  · exact Lib.BuilderAt.put (T := 197) (e := 5) hB hb2 (bs' := bytesV (l ++ [c])) (by rw [bytesV_length, bytesV_append, List.length_append]; exact hown') (by decide)
  · exact ((hb1.alloc (by have := hb1.size; omega) _).grown hgrow (by have := hb1.size; simp; omega) (fun k hk => (hown.lt k hk).1)).setCell (p := ⟨b, 1, none⟩) hB _
theorem strCells_bytes (s : ByteArray) : Lib.strCells s = bytesV s.data.toList := by
  simp [Lib.strCells, bytesV]
set_option maxRecDepth 1000000 in
set_option maxHeartbeats 1000000 in
theorem bu_string (B b : Nat) (l : List UInt8) (s : ByteArray) (w : World) (h : Bld B b l w) (hlen : l.length ≤ 1000000) (hs : s.size ≤ 1000000) (hBw : B ≤ w.heap.size) :
    Calls Tryz.prog 251 #[.pointer (some ⟨b, 0, none⟩), .string s] w fun e w' => e = .returned (.tuple #[.int .i64 s.size, .nilIface]) ∧ BldU B b (l ++ s.data.toList) w' ∧ Below B w w' := by
  obtain ⟨i0, hi, hz0, hz1, hz2⟩ := info_parts Tryz.infoByte
  have hck := bu_check B b l w h
  clear h
  go_enter Tryz.func251, Tryz.ntmps251
  go_wp2_with fail
  refine hck.mono ?_
  rintro e w1 ⟨rfl, h1, hb1⟩
  obtain ⟨hB, v, hbk, hown, hne⟩ := h1
  have hl1 : (bytesV l).length = l.length := bytesV_length l
  rw [hl1] at hown
  have c0 : w1.cell? ⟨b, 0, none⟩ = some (.pointer (some ⟨b, 0, none⟩)) := by rw [Lib.cell_of_heap hbk]; rfl
  have c1 : w1.cell? ⟨b, 1, none⟩ = some v := by rw [Lib.cell_of_heap hbk]; rfl
  go_wp2_with (at_builtin; refine Lib.wpList_append_own_string _ rfl _ _ 78 9 rfl B 5 i0 Tryz.underlying78 Tryz.underlying9 hi hz0 hz1 hz2 v l.length (bytesV l) rfl hown s rfl (by unfold maxLen; omega) (by omega) (by have := hb1.size; omega) ?_)
  intro v' w2 hown' hgrow _
  have hlt : b < w1.heap.size := by
    rcases Nat.lt_or_ge b w1.heap.size with h' | h'
    · exact h'
    · simp [Array.getElem?_eq_none h'] at hbk
  have hb2 : w2.heap[b]? = some (.cells #[.pointer (some ⟨b, 0, none⟩), v] 197 (0, 0)) := by
    rw [hgrow.block b hlt (fun e => hne e.symm)]
    exact hbk
  have d0 : w2.cell? ⟨b, 0, none⟩ = some (.pointer (some ⟨b, 0, none⟩)) := by rw [Lib.cell_of_heap hb2]; rfl
  have d1 : w2.cell? ⟨b, 1, none⟩ = some v := by rw [Lib.cell_of_heap hb2]; rfl
  have f1 : w2.frozen? ⟨b, 1, none⟩ = false := Lib.frozen_of_heap hb2 1
  have HO : Hid _ := hown'
  obtain ⟨g, cap, rfl⟩ : ∃ g cap, v' = .slice g (l.length + s.size) cap := by
    rcases hown'.2 with ⟨hv, h0⟩ | ⟨g, cap, cur, hv, _⟩
    · exact ⟨none, 0, by rw [hv, h0]⟩
    · exact ⟨_, cap, hv⟩
  clear hown'
  go_wp2
  go_ret2
  refine ⟨rfl, ?_, ?_⟩
  · exact Lib.BuilderAt.put (T := 197) (e := 5) hB hb2 (bs' := bytesV (l ++ s.data.toList)) (by rw [bytesV_length, bytesV_append, List.length_append, ← strCells_bytes, show s.data.toList.length = s.size by simp]; exact HO.out) (by decide)
  · exact (hb1.grown hgrow (by have := hb1.size; omega) (fun k hk => (hown.lt k hk).1)).setCell (p := ⟨b, 1, none⟩) hB _
end Go.Proofs.YtihmgoahobbdkaaGreatDoor
