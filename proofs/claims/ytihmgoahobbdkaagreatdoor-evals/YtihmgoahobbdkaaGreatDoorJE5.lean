/-
  THE PROGRAM's tokenFrom AND THE READER's SMALL METHODS, WALKED.
-/
import Derived.Test.YtihmgoahobbdkaaGreatDoorJE4
import Derived.Shelf.Strings.SlTrimAscii
import Derived.Deep.RegionWith
import Derived.BigRegion
import Derived.Test.YtihmgoahobbdkaaGreatDoorJE3
namespace Go.Proofs.YtihmgoahobbdkaaGreatDoor
open Go.RowKit Go.Lib

theorem drop_skip (s : ByteArray) : ∀ f i, i ≤ s.size → s.size - i ≤ f → (s.data.toList.drop i).dropWhile ([32, 9, 10].contains ·) = s.data.toList.drop (skipFrom s f i)
  | 0, i, h1, h2 => by
    have : s.data.toList.drop i = [] := List.drop_eq_nil_of_le (by simp; omega)
    simp [skipFrom, this]
  | f + 1, i, h1, h2 => by
    unfold skipFrom
    rcases Nat.lt_or_ge i s.size with h | h
    · have e : s.data.toList.drop i = s[i] :: s.data.toList.drop (i + 1) := by
        rw [List.drop_eq_getElem_cons (by simpa using h)]
        rfl
      have hb : [32, 9, 10].contains s[i] = blank (byteAt s i) := by
        rw [byteAt_get h]
        simp only [blank, List.contains_eq_any_beq, List.any_cons, List.any_nil, Bool.or_false, Bool.or_assoc]
      rw [e, List.dropWhile_cons, hb]
      cases hbl : blank (byteAt s i) with
      | true =>
        simp only [h, true_and, if_true]
        exact drop_skip s f (i + 1) (by omega) (by omega)
      | false => simp [e]
    · have : s.data.toList.drop i = [] := List.drop_eq_nil_of_le (by simp; omega)
      rw [if_neg (by omega)]
      simp [this]
theorem trim_skip (s : ByteArray) (i : Nat) (hi : i ≤ s.size) : (⟨(Lib.trimLeftS (s.extract i s.size).data.toList [32, 9, 10]).toArray⟩ : ByteArray) = s.extract (skip s i) s.size := by
  have e1 : (s.extract i s.size).data.toList = s.data.toList.drop i := by
    rw [extract_list2, List.take_of_length_le (by simp)]
  have e2 : (s.extract (skip s i) s.size).data.toList = s.data.toList.drop (skip s i) := by
    rw [extract_list2, List.take_of_length_le (by simp)]
  apply ByteArray.ext
  rw [← Array.toList_inj, e2, e1]
  unfold Lib.trimLeftS skip
  rw [drop_skip s (s.size - i) i hi (Nat.le_refl _)]

set_option maxRecDepth 1000000 in
theorem code_tokenFrom (s : ByteArray) (i : Nat) (hs : s.size ≤ 1000) (hi : i ≤ s.size) (w : World) (hT : Tabs w) :
    Calls Tryz.prog 67 #[.string s, .int .i64 i] w fun e w' => ∃ tx, e = .returned (.agg #[.int .i64 (codeKind (tokFrom s i)), .string tx, .int .i64 (tokFrom s i).pos]) ∧ ((tokFrom s i).kind ≠ 33 → tx = (tokFrom s i).text s) ∧ Below w.heap.size w w' := by
  have hb0 : Below w.heap.size w (w.alloc (.cells #[.int .i64 0, .string { data := #[] }, .int .i64 0] 161)) := (Below.refl _ _).alloc (Nat.le_refl _) _
  have htr := Any.strings_TrimLeft_laid Tryz.lays161 (by kernel_rfl) (s.extract i s.size) ⟨#[32, 9, 10]⟩ (w.alloc (.cells #[.int .i64 0, .string { data := #[] }, .int .i64 0] 161)) (by decide) (ascii_of_all (by decide))
  have hsk := skip_le hi
  have hpos : (tokFrom s i).pos = skip s i := by
    unfold tokFrom tokAt
    repeat' split
    all_goals first | rfl | (simp only; omega)
  have htr' : Calls Tryz.prog 89 #[.string (s.extract i s.size), .string { data := #[32, 9, 10] }] (w.alloc (.cells #[.int .i64 0, .string { data := #[] }, .int .i64 0] 161)) fun e w' => e = .returned (.string (s.extract (skip s i) s.size)) ∧ Below (w.heap.size + 1) (w.alloc (.cells #[.int .i64 0, .string { data := #[] }, .int .i64 0] 161)) w' := by
    refine Calls.mono htr fun e w' ⟨h1, h2⟩ => ⟨?_, by simpa using h2⟩
    rw [h1, ← trim_skip s i hi]
  have HB0 : Hid (Below w.heap.size w (w.alloc (.cells #[.int .i64 0, .string { data := #[] }, .int .i64 0] 161))) := hb0
  have HT : Hid (Tabs w) := hT
  have HP : Hid ((tokFrom s i).pos = skip s i) := hpos
  have hF : tokFrom s i = tokAt s (skip s i) := rfl
  clear hb0 hT htr hpos
  go_enter Tryz.func67, Tryz.ntmps67
  go_wp2_with fail
  refine htr'.mono ?_
  rintro e w1 ⟨rfl, hb1⟩
  have c0 : w1.heap[w.heap.size]? = some (.cells #[.int .i64 0, .string { data := #[] }, .int .i64 0] 161 (0, 0)) := (hb1.block _ (by omega)).trans (heap_alloc_new w _)
  have HB1 : Hid (Below w.heap.size w w1) := HB0.out.trans (hb1.mono (by omega))
  have hT1 := HT.out.below HB1.out
  have hf := code_first s (skip s i) hs hsk.2 w1 hT1
  rw [← hF] at hf
  clear hF htr' hb1 hT1
  have HC0 : Hid (w1.heap[w.heap.size]? = some (.cells #[.int .i64 0, .string { data := #[] }, .int .i64 0] 161 (0, 0))) := c0
  clear c0
  go_wp2_with fail
  refine hf.mono ?_
  rintro e w2 ⟨tx, rfl, htx, hb2⟩
  have c2 : w2.heap[w.heap.size]? = some (.cells #[.int .i64 0, .string { data := #[] }, .int .i64 0] 161 (0, 0)) := (hb2.block _ (heap_lt HC0.out)).trans HC0.out
  have m0 := cell_of_heap (i := 0) c2 rfl
  have m1 := cell_of_heap (i := 1) c2 rfl
  have m2 := cell_of_heap (i := 2) c2 rfl
  have f0 := frozen_of_heap (i := 0) c2
  have f1 := frozen_of_heap (i := 1) c2
  have f2 := frozen_of_heap (i := 2) c2
  have HB2 : Hid (Below w.heap.size w w2) := below_size HB1.out hb2
  have HX : Hid ((tokFrom s i).kind ≠ 33 → tx = (tokFrom s i).text s) := htx
  clear hf htx hb2 c2 HC0
  have hsz : (s.extract (skip s i) s.size).size = s.size - skip s i := tail_size s _
  have hat : ((s.size : Int) - ((s.size - skip s i : Nat) : Int)) = ((tokFrom s i).pos : Int) := by rw [HP.out]; omega
  have HAT : Hid (((s.size : Int) - ((s.size - skip s i : Nat) : Int)) = ((tokFrom s i).pos : Int)) := hat
  clear hat
  go_wp2
  refine bodyPost_ret (v := .agg #[.int .i64 (codeKind (tokFrom s i)), .string tx, .int .i64 ((s.size : Int) - ((s.size - skip s i : Nat) : Int))]) (by simp [results, Tryz.results67, go_sem, m0, m1, m2]) rfl ⟨tx, by rw [HAT.out], HX.out, ?_⟩
  exact ((HB2.out.setCell (Nat.le_refl _) _).setCell (Nat.le_refl _) _).setCell (Nat.le_refl _) _
end Go.Proofs.YtihmgoahobbdkaaGreatDoor
namespace Go.Proofs.YtihmgoahobbdkaaGreatDoor
open Go.RowKit Go.Lib

theorem toksCells_at (s : ByteArray) : ∀ (L : List Tok) (I j : Nat), j < 3 → (toksCells s L)[I * 3 + j]? = (L[I]?).bind fun t => (tokCells s t)[j]?
  | [], I, j, _ => by simp [toksCells]
  | t :: L, 0, j, hj => by
    have e : toksCells s (t :: L) = tokCells s t ++ toksCells s L := by simp [toksCells]
    rw [e, List.getElem?_append_left (by simp [tokCells]; omega)]
    simp
  | t :: L, I + 1, j, hj => by
    have e : toksCells s (t :: L) = tokCells s t ++ toksCells s L := by simp [toksCells]
    have e3 : (tokCells s t).length = 3 := rfl
    rw [e, List.getElem?_append_right (by rw [e3]; omega), e3, show (I + 1) * 3 + j - 3 = I * 3 + j by omega, toksCells_at s L I j hj]
    simp

section
variable (s : ByteArray) (L : List Tok) (R bl cap base : Nat)
/-- The reader stands at token number I. -/
structure St (w : World) (I : Nat) (bad : Bool) : Prop where
  rd : RdAt w R bl L.length cap I bad
  tk : ∃ cur : Array Value, w.heap[bl]? = some (.cells cur 71 (0, 0)) ∧ cur.toList.take (L.length * 3) = toksCells s L
  hR : R < base
  hbl : bl < base
  ne : bl ≠ R
  size : base ≤ w.heap.size
  len : L.length ≤ 1000
end
section
variable {s : ByteArray} {L : List Tok} {R bl cap base : Nat} {w w' : World} {I J : Nat} {b b' : Bool}

theorem St.keep (h : St s L R bl cap base w I b) (hk : Keep R w w') (hr : RdAt w' R bl L.length cap J b') : St s L R bl cap base w' J b' := by
  obtain ⟨cur, h1, h2⟩ := h.tk
  exact ⟨hr, ⟨cur, hk.heap h1 h.ne, h2⟩, h.hR, h.hbl, h.ne, Nat.le_trans h.size hk.size, h.len⟩
theorem St.alloc (h : St s L R bl cap base w I b) (o : Obj) : St s L R bl cap base (w.alloc o) I b := h.keep ((Keep.refl R w).alloc o) (h.rd.alloc o)
theorem St.drewN (h : St s L R bl cap base w I b) (q : Nat) : St s L R bl cap base (w.drewN q) I b := h.keep ((Keep.refl R w).drewN q) (h.rd.drewN q)
theorem St.setNew (h : St s L R bl cap base w I b) {a : Addr} (ha : base ≤ a.block) (v : Value) : St s L R bl cap base (w.setCell a v) I b := by
  obtain ⟨cur, h1, h2⟩ := h.tk
  have h3 := h.hR
  have h4 := h.hbl
  exact ⟨heap_set_other h.rd (by omega), ⟨cur, heap_set_other h1 (by omega), h2⟩, h3, h4, h.ne, by simp; exact h.size, h.len⟩
theorem St.cell (h : St s L R bl cap base w I b) {i j : Nat} (hi : i < L.length) (hj : j < 3) : w.cell? ⟨bl, i * 3 + j, none⟩ = (tokCells s (L.getD i default))[j]? := by
  obtain ⟨cur, h1, h2⟩ := h.tk
  have e := toksCells_at s L i j hj
  rw [← h2, List.getElem?_take, if_pos (by omega), List.getElem?_eq_getElem hi] at e
  simp only [World.cell?, h1]
  rw [List.getD_eq_getElem?_getD, List.getElem?_eq_getElem hi]
  simpa using e
theorem St.c0 (h : St s L R bl cap base w I b) (hi : I < L.length) : w.cell? ⟨bl, I * 3, none⟩ = some (.int .u8 (kd L I)) := h.cell (j := 0) hi (by omega)
theorem St.c1 (h : St s L R bl cap base w I b) (hi : I < L.length) : w.cell? ⟨bl, I * 3 + 1, none⟩ = some (.int .i64 (pl L I)) := h.cell (j := 1) hi (by omega)
theorem St.c2 (h : St s L R bl cap base w I b) (hi : I < L.length) : w.cell? ⟨bl, I * 3 + 2, none⟩ = some (.string (tx s L I)) := h.cell (j := 2) hi (by omega)

theorem st_kind (h : St s L R bl cap base w I b) (hi : I < L.length) :
    Calls Tryz.prog 47 #[.pointer (some ⟨R, 0, none⟩)] w fun e w' => e = .returned (.int .u8 (kd L I)) ∧ ∃ q, w' = w.drewN q :=
  ref_kind R bl L.length cap I (kd L I) w (cell_of_heap h.rd rfl) (cell_of_heap h.rd rfl) (by omega) (h.c0 hi)
theorem st_take_hit (h : St s L R bl cap base w I false) (hi : I < L.length) {k : Nat} (hk : kd L I = k) :
    Calls Tryz.prog 27 #[.pointer (some ⟨R, 0, none⟩), .int .u8 k] w fun e w' => e = .returned (tokenOf k (pl L I) (tx s L I)) ∧ St s L R bl cap base w' (I + 1) false ∧ Keep R w w' := by
  subst hk
  exact (ref_take_hit R bl L.length cap I (kd L I) (pl L I) (tx s L I) w h.rd (by omega) h.len (h.c0 hi) (h.c1 hi) (h.c2 hi)).mono fun e w' ⟨h1, h2, h3⟩ => ⟨h1, h.keep h3 h2, h3⟩
theorem st_take_miss (h : St s L R bl cap base w I false) (hi : I < L.length) {k : Nat} (hk : kd L I ≠ k) :
    Calls Tryz.prog 27 #[.pointer (some ⟨R, 0, none⟩), .int .u8 k] w fun e w' => e = .returned (tokenOf 0 0 { data := #[] }) ∧ St s L R bl cap base w' I true ∧ Keep R w w' :=
  (ref_take_miss R bl L.length cap I (kd L I) k (pl L I) (tx s L I) w h.rd (by omega) (h.c0 hi) (h.c1 hi) (h.c2 hi) (by simp; omega)).mono fun e w' ⟨h1, h2, h3⟩ => ⟨h1, h.keep h3 h2, h3⟩
theorem st_take_bad (h : St s L R bl cap base w I true) (hi : I < L.length) (k : Nat) :
    Calls Tryz.prog 27 #[.pointer (some ⟨R, 0, none⟩), .int .u8 k] w fun e w' => e = .returned (tokenOf 0 0 { data := #[] }) ∧ St s L R bl cap base w' I true ∧ Keep R w w' :=
  (ref_take_bad R bl L.length cap I (kd L I) k (pl L I) (tx s L I) w h.rd (by omega) (h.c0 hi) (h.c1 hi) (h.c2 hi)).mono fun e w' ⟨h1, h2, h3⟩ => ⟨h1, h.keep h3 h2, h3⟩
end

/-- A slice of pointers to nodes, in blocks of a given kind. -/
def PartsAre (P : Nat → Prop) (w : World) (pv : Value) (vs : List Value) : Prop :=
  (pv = .slice none 0 0 ∧ vs = []) ∨ ∃ (q cap : Nat) (cur : Array Value), pv = .slice (some ⟨q, 0, none⟩) vs.length cap ∧ P q ∧ w.heap[q]? = some (.cells cur 26 (0, 0)) ∧ vs.length ≤ cap ∧ cap ≤ maxLen ∧ cur.size = cap ∧ cur.toList.take vs.length = vs
def NodeAt (P : Nat → Prop) (w : World) (v : Value) (k p : Nat) (n : Int) (word metric : ByteArray) (vs : List Value) : Prop :=
  ∃ (b : Nat) (pv : Value), v = .pointer (some ⟨b, 0, none⟩) ∧ P b ∧ w.heap[b]? = some (.cells #[.int .u8 k, .int .i64 p, .int .i64 n, .string word, .string metric, pv] 44 (0, 0)) ∧ PartsAre P w pv vs
abbrev noBytes : ByteArray := { data := #[] }
mutual
/-- A tree in memory, all of it in blocks of a given kind. -/
def IsNode (P : Nat → Prop) (w : World) : Tree → Value → Prop
  | .num p n, v => NodeAt P w v 35 p n noBytes noBytes []
  | .neg p a, v => ∃ va, NodeAt P w v 126 p 0 noBytes noBytes [va] ∧ IsNode P w a va
  | .bin k p a b, v => ∃ va vb, NodeAt P w v k p 0 noBytes noBytes [va, vb] ∧ IsNode P w a va ∧ IsNode P w b vb
  | .ite p a b c, v => ∃ va vb vc, NodeAt P w v 63 p 0 noBytes noBytes [va, vb, vc] ∧ IsNode P w a va ∧ IsNode P w b vb ∧ IsNode P w c vc
  | .meas p word metric n, v => NodeAt P w v 109 p n word metric []
  | .probe p word ts, v => ∃ vs, NodeAt P w v 112 p 0 word noBytes vs ∧ IsNodes P w ts vs
def IsNodes (P : Nat → Prop) (w : World) : List Tree → List Value → Prop
  | [], vs => vs = []
  | t :: ts, vs => ∃ v vs', vs = v :: vs' ∧ IsNode P w t v ∧ IsNodes P w ts vs'
end
/-- From one world and kind of blocks to another: what lay in blocks of the first kind lies there still, and they are of the second kind. -/
def Moves (P Q : Nat → Prop) (w w' : World) : Prop := ∀ b, P b → b < w.heap.size → Q b ∧ w'.heap[b]? = w.heap[b]?
theorem Moves.heap {P Q : Nat → Prop} {w w' : World} (h : Moves P Q w w') {b : Nat} {o : Obj} (hb : P b) (ho : w.heap[b]? = some o) : Q b ∧ w'.heap[b]? = some o :=
  ⟨(h b hb (heap_lt ho)).1, (h b hb (heap_lt ho)).2.trans ho⟩
theorem PartsAre.moves {P Q : Nat → Prop} {w w' : World} {pv : Value} {vs : List Value} (h : PartsAre P w pv vs) (hm : Moves P Q w w') : PartsAre Q w' pv vs := by
  rcases h with h | ⟨q, cap, cur, h1, h2, h3, h4⟩
  · exact .inl h
  · exact .inr ⟨q, cap, cur, h1, (hm.heap h2 h3).1, (hm.heap h2 h3).2, h4⟩
theorem NodeAt.moves {P Q : Nat → Prop} {w w' : World} {v : Value} {k p : Nat} {n : Int} {word metric : ByteArray} {vs : List Value} (h : NodeAt P w v k p n word metric vs) (hm : Moves P Q w w') : NodeAt Q w' v k p n word metric vs := by
  obtain ⟨b, pv, h1, h2, h3, h4⟩ := h
  exact ⟨b, pv, h1, (hm.heap h2 h3).1, (hm.heap h2 h3).2, h4.moves hm⟩
mutual
theorem IsNode.moves {P Q : Nat → Prop} {w w' : World} (hm : Moves P Q w w') : ∀ {t : Tree} {v : Value}, IsNode P w t v → IsNode Q w' t v
  | .num _ _, _, h => by unfold IsNode at h ⊢; exact h.moves hm
  | .neg _ _, _, h => by
    unfold IsNode at h ⊢
    obtain ⟨va, h1, h2⟩ := h
    exact ⟨va, h1.moves hm, IsNode.moves hm h2⟩
  | .bin _ _ _ _, _, h => by
    unfold IsNode at h ⊢
    obtain ⟨va, vb, h1, h2, h3⟩ := h
    exact ⟨va, vb, h1.moves hm, IsNode.moves hm h2, IsNode.moves hm h3⟩
  | .ite _ _ _ _, _, h => by
    unfold IsNode at h ⊢
    obtain ⟨va, vb, vc, h1, h2, h3, h4⟩ := h
    exact ⟨va, vb, vc, h1.moves hm, IsNode.moves hm h2, IsNode.moves hm h3, IsNode.moves hm h4⟩
  | .meas _ _ _ _, _, h => by unfold IsNode at h ⊢; exact h.moves hm
  | .probe _ _ _, _, h => by
    unfold IsNode at h ⊢
    obtain ⟨vs, h1, h2⟩ := h
    exact ⟨vs, h1.moves hm, IsNodes.moves hm h2⟩
theorem IsNodes.moves {P Q : Nat → Prop} {w w' : World} (hm : Moves P Q w w') : ∀ {ts : List Tree} {vs : List Value}, IsNodes P w ts vs → IsNodes Q w' ts vs
  | [], _, h => by unfold IsNodes at h ⊢; exact h
  | _ :: _, _, h => by
    unfold IsNodes at h ⊢
    obtain ⟨v, vs', h1, h2, h3⟩ := h
    exact ⟨v, vs', h1, IsNode.moves hm h2, IsNodes.moves hm h3⟩
end
/-- The blocks from a number on. -/
abbrev From (lo : Nat) : Nat → Prop := fun b => lo ≤ b
theorem IsNode.kept {lo lo' R : Nat} {w w' : World} {t : Tree} {v : Value} (h : IsNode (From lo) w t v) (hk : Keep R w w') (hR : R < lo) (hl : lo' ≤ lo) : IsNode (From lo') w' t v :=
  h.moves fun b hb hs => ⟨Nat.le_trans hl hb, hk.block b hs (fun e => by have hb : lo ≤ b := hb; omega)⟩
end Go.Proofs.YtihmgoahobbdkaaGreatDoor
