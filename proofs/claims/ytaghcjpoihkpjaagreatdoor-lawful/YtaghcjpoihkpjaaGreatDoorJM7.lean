/-
  THE PROGRAM's READER: its state; step, sees, stuck, WALKED.
-/
import Derived.Test.YtaghcjpoihkpjaaGreatDoorJM6
import Derived.Deep.RegionHeld3
import Derived.Test.YtaghcjpoihkpjaaGreatDoorJM3
namespace Go.Proofs.YtaghcjpoihkpjaaGreatDoor
open Go.RowKit Go.Lib

/-- Each token begins to be looked for where the one ahead of it ends. -/
theorem toksAt_chain (s : ByteArray) : ∀ n i, i ≤ s.size → s.size - i ≤ n → ∀ I, I + 1 < (toksAt s i).length →
    (toksAt s i).getD (I + 1) default = tokFrom s ((toksAt s i).getD I default).stop ∧ ((toksAt s i).getD I default).pos < ((toksAt s i).getD I default).stop ∧ ((toksAt s i).getD I default).stop ≤ s.size := by
  intro n
  induction n with
  | zero =>
    intro i hi hn I hI
    have hl : (tokFrom s i).last = true := by
      cases h : (tokFrom s i).last with
      | true => rfl
      | false => have := tokFrom_stop hi h; omega
    rw [toksAt_last hl] at hI
    simp at hI
  | succ n ih =>
    intro i hi hn I hI
    cases h : (tokFrom s i).last with
    | true =>
      rw [toksAt_last h] at hI
      simp at hI
    | false =>
      have h2 := tokFrom_stop hi h
      have h3 := tokAt_stop (skip_le hi).2 h
      rw [toksAt_cons hi h] at hI ⊢
      cases I with
      | zero =>
        have hh : (toksAt s (tokFrom s i).stop).getD 0 default = tokFrom s (tokFrom s i).stop := by
          cases h4 : (tokFrom s (tokFrom s i).stop).last with
          | true => rw [toksAt_last h4]; rfl
          | false => rw [toksAt_cons h2.2 h4]; rfl
        refine ⟨by simpa using hh, ?_, by simpa using h2.2⟩
        show (tokFrom s i).pos < (tokFrom s i).stop
        unfold tokFrom
        omega
      | succ I =>
        have := ih _ h2.2 (by omega) I (by simpa using hI)
        simpa using this
theorem toks_chain (s : ByteArray) {I : Nat} (h : I + 1 < (toks s).length) :
    (toks s).getD (I + 1) default = tokFrom s ((toks s).getD I default).stop ∧ ((toks s).getD I default).pos < ((toks s).getD I default).stop ∧ ((toks s).getD I default).stop ≤ s.size :=
  toksAt_chain s s.size 0 (by omega) (by omega) I h
theorem pl_step (s : ByteArray) {I : Nat} (h : I + 1 < (toks s).length) : pl (toks s) I < pl (toks s) (I + 1) := by
  obtain ⟨h1, h2, h3⟩ := toks_chain s h
  have h4 := skip_le h3
  have h5 : (tokFrom s ((toks s).getD I default).stop).pos = skip s ((toks s).getD I default).stop := by
    unfold tokFrom tokAt
    repeat' split
    all_goals first | rfl | (simp only; omega)
  unfold pl
  rw [h1, h5]
  omega
theorem pl_lt (s : ByteArray) {I : Nat} : ∀ {J}, I < J → J < (toks s).length → pl (toks s) I < pl (toks s) J
  | J + 1, h, hJ => by
    have h1 := pl_step s hJ
    rcases Nat.lt_or_ge I J with h2 | h2
    · exact Nat.lt_trans (pl_lt s h2 (by omega)) h1
    · obtain rfl : I = J := by omega
      exact h1
/-- A sign's token is that sign. -/
theorem tokAt_sign {s : ByteArray} {i : Nat} (h : codeKind (tokAt s i) = 1) : ∃ c : UInt8, isSign c = true ∧ (tokAt s i).kind = c.toNat ∧ (tokAt s i).text s = ⟨#[c]⟩ := by
  revert h
  unfold tokAt
  split
  · intro h; cases h
  split
  · rename_i h1 h2
    intro _
    refine ⟨byteAt s i, h2, rfl, ?_⟩
    have h3 : i < s.size := by omega
    apply ByteArray.ext
    rw [← Array.toList_inj]
    show (s.extract i (i + 1)).data.toList = [byteAt s i]
    rw [extract_list2, List.drop_take, show i + 1 - i = 1 by omega, List.drop_eq_getElem_cons (by simpa using h3), byteAt_get h3]
    simp
    rfl
  repeat' split
  all_goals (intro h; cases h)
theorem toks_sign (s : ByteArray) {I : Nat} (hI : I < (toks s).length) (h : codeKind ((toks s).getD I default) = 1) : ∃ c : UInt8, isSign c = true ∧ kd (toks s) I = c.toNat ∧ tx s (toks s) I = ⟨#[c]⟩ := by
  have := toksAt_all s (fun t => codeKind t = 1 → ∃ c : UInt8, isSign c = true ∧ t.kind = c.toNat ∧ t.text s = ⟨#[c]⟩) (fun i _ h => tokAt_sign h) s.size 0 (by omega) (by omega) ((toks s).getD I default) (by
    rw [List.getD_eq_getElem?_getD, List.getElem?_eq_getElem hI]
    exact List.getElem_mem hI)
  exact this h

section
variable (s : ByteArray) (R : Nat)
def CBlk (w : World) (I : Nat) (txt : ByteArray) (mv : Value) : Prop := w.heap[R]? = some (.cells #[.string s, .int .i64 (codeKind ((toks s).getD I default)), .string txt, .int .i64 (pl (toks s) I), mv] 131 (0, 0))
/-- The program's reader has token number I in view. -/
structure CStM (w : World) (I : Nat) (ms : List ByteArray) : Prop where
  blk : ∃ txt mv, CBlk s R w I txt mv ∧ (kd (toks s) I ≠ 33 → txt = tx s (toks s) I) ∧ w.ownsRow (R + 1) 9 1 mv ms.length (ms.map Value.string)
  len : ms.length ≤ I
  tab : ∃ W0, Tabs W0 ∧ W0.heap.size ≤ R ∧ Below W0.heap.size W0 w
  lt : I < (toks s).length
  small : s.size ≤ 200
end
/-- The block of the reader's list of metrics. -/
def mrow (w : World) (R : Nat) : Option Nat :=
  match w.heap[R]? with
  | some (.cells cs _ _) =>
    match (cs[4]? : Option Value) with
    | some v => v.ownBlock
    | none => none
  | _ => none
/-- What the reader's methods leave alone: all blocks that were there, but the reader's own and its list's. -/
structure KC (R : Nat) (w w' : World) : Prop where
  os : w'.os = w.os
  tape : w'.tape = w.tape
  output : w'.output = w.output
  size : w.heap.size ≤ w'.heap.size
  block : ∀ k, k < w.heap.size → k ≠ R → mrow w R ≠ some k → w'.heap[k]? = w.heap[k]?
  row : mrow w' R = mrow w R ∨ ∃ g, mrow w' R = some g ∧ w.heap.size ≤ g
namespace KC
variable {R : Nat} {w w1 w2 : World}
theorem refl (R : Nat) (w : World) : KC R w w := ⟨rfl, rfl, rfl, Nat.le_refl _, fun _ _ _ _ => rfl, .inl rfl⟩
theorem trans (h : KC R w w1) (k : KC R w1 w2) : KC R w w2 := by
  refine ⟨k.os.trans h.os, k.tape.trans h.tape, k.output.trans h.output, Nat.le_trans h.size k.size, fun i hi hne hrow => ?_, ?_⟩
  · refine (k.block i (Nat.lt_of_lt_of_le hi h.size) hne (fun e => ?_)).trans (h.block i hi hne hrow)
    rcases h.row with r | ⟨g, r, hg⟩
    · exact hrow (r.symm.trans e)
    · have := Option.some.inj (r.symm.trans e)
      omega
  · rcases k.row with r | ⟨g, r, hg⟩
    · rcases h.row with r' | ⟨g', r', hg'⟩
      · exact .inl (r.trans r')
      · exact .inr ⟨g', r.trans r', hg'⟩
    · exact .inr ⟨g, r, Nat.le_trans h.size hg⟩
theorem of_below (h : Below w.heap.size w w1) (lR : R < w.heap.size) : KC R w w1 :=
  ⟨h.os, h.tape, h.output, h.size, fun k hk _ _ => h.block k hk, .inl (by unfold mrow; rw [h.block R lR])⟩
theorem alloc (h : KC R w w1) (lR : R < w1.heap.size) (o : Obj) : KC R w (w1.alloc o) := h.trans (of_below ((Below.refl _ _).alloc (Nat.le_refl _) o) lR)
/-- All but the reader's block: below it nothing has turned. -/
theorem below (h : KC R w w1) (lR : R < w.heap.size) (hm : ∀ g, mrow w R = some g → R < g) : Below R w w1 :=
  ⟨h.os, h.tape, h.output, h.size, fun k hk => h.block k (by omega) (by omega) (fun e => by have := hm k e; omega)⟩
end KC
section
variable {s : ByteArray} {R : Nat}
theorem mrow_of {w : World} {I : Nat} {txt : ByteArray} {mv : Value} (h : CBlk s R w I txt mv) : mrow w R = mv.ownBlock := by
  unfold mrow
  rw [h]
  rfl
theorem kc_set3 {w w1 : World} {I : Nat} {txt : ByteArray} {mv : Value} (h : KC R w w1) (h1 : CBlk s R w1 I txt mv) (a b c : Value) : KC R w (((w1.setCell ⟨R, 1, none⟩ a).setCell ⟨R, 2, none⟩ b).setCell ⟨R, 3, none⟩ c) := by
  refine h.trans ⟨rfl, rfl, rfl, by simp, fun k hk hne _ => ?_, .inl ?_⟩
  · rw [Below.heap_setCell _ _ _ _ hne, Below.heap_setCell _ _ _ _ hne, Below.heap_setCell _ _ _ _ hne]
  · have e := heap_set_same (i := 3) (v := c) (heap_set_same (i := 2) (v := b) (heap_set_same (i := 1) (v := a) h1))
    rw [mrow_of h1]
    unfold mrow
    rw [e]
    rfl
theorem CStM.tabs {w : World} {I : Nat} {ms : List ByteArray} (h : CStM s R w I ms) : Tabs w := by
  obtain ⟨W0, h1, h2, h3⟩ := h.tab
  exact h1.below h3
theorem CStM.tab_of {w w' : World} {I : Nat} {ms : List ByteArray} (h : CStM s R w I ms) (hb : Below R w w') : ∃ W0, Tabs W0 ∧ W0.heap.size ≤ R ∧ Below W0.heap.size W0 w' := by
  obtain ⟨W0, h1, h2, h3⟩ := h.tab
  exact ⟨W0, h1, h2, h3.trans (hb.mono h2)⟩
theorem CStM.tab_kc {w w' : World} {I : Nat} {ms : List ByteArray} (h : CStM s R w I ms) (hk : KC R w w') : ∃ W0, Tabs W0 ∧ W0.heap.size ≤ R ∧ Below W0.heap.size W0 w' := by
  obtain ⟨txt, mv, h1, h2, h3⟩ := h.blk
  exact h.tab_of (hk.below (heap_lt h1) fun g hg => by rw [mrow_of h1] at hg; exact (h3.lt _ hg).1)
theorem CStM.later {w w' : World} {I : Nat} {ms : List ByteArray} (h : CStM s R w I ms) (hb : Below w.heap.size w w') : CStM s R w' I ms := by
  obtain ⟨txt, mv, h1, h2, h3⟩ := h.blk
  have lR := heap_lt h1
  exact ⟨⟨txt, mv, (hb.block R lR).trans h1, h2, h3.kept (row := none) ⟨hb.os, hb.tape, hb.output, hb.size, fun k hk _ => hb.block k hk⟩ (Classical.em _)⟩, h.len, h.tab_of (hb.mono (by omega)), h.lt, h.small⟩

theorem below_set3 {w w1 : World} (h : Below R w w1) (a b c : Value) : Below R w (((w1.setCell ⟨R, 1, none⟩ a).setCell ⟨R, 2, none⟩ b).setCell ⟨R, 3, none⟩ c) :=
  ((h.setCell (p := ⟨R, 1, none⟩) (Nat.le_refl _) a).setCell (p := ⟨R, 2, none⟩) (Nat.le_refl _) b).setCell (p := ⟨R, 3, none⟩) (Nat.le_refl _) c
theorem step_state {w w0 w1 : World} {I ST : Nat} {txt t2 : ByteArray} {mv : Value} {ms : List ByteArray} (h : CStM s R w I ms) (hO : w.ownsRow (R + 1) 9 1 mv ms.length (ms.map Value.string)) (hb : Below w0.heap.size w0 w1) (hw0 : w0.heap = w.heap := by rfl) (hz : Below w.heap.size w w0 := by exact (Below.drew (Below.refl _ _))) (h1 : CBlk s R w1 I txt mv) (h2 : (tokFrom s ST).kind ≠ 33 → t2 = (tokFrom s ST).text s)
    (hch : (toks s).getD (I + 1) default = tokFrom s ST) (hI1 : I + 1 < (toks s).length) :
    CStM s R (((w1.setCell ⟨R, 1, none⟩ (.int .i64 (codeKind (tokFrom s ST)))).setCell ⟨R, 2, none⟩ (.string t2)).setCell ⟨R, 3, none⟩ (.int .i64 (tokFrom s ST).pos)) (I + 1) ms := by
  have e := heap_set_same (i := 3) (v := .int .i64 (tokFrom s ST).pos) (heap_set_same (i := 2) (v := .string t2) (heap_set_same (i := 1) (v := .int .i64 (codeKind (tokFrom s ST))) h1))
  have hb1 : Below w.heap.size w w1 := hz.trans (by rw [← hw0]; exact hb)
  have lR : R < w.heap.size := by obtain ⟨a, b, c, -⟩ := h.blk; exact heap_lt c
  refine ⟨⟨t2, mv, ?_, ?_, ?_⟩, Nat.le_succ_of_le h.len, ?_, hI1, h.small⟩
  · unfold CBlk pl
    rw [hch]
    exact e
  · unfold kd tx
    rw [hch]
    exact h2
  · have k1 := hO.kept (row := none) ⟨hb1.os, hb1.tape, hb1.output, hb1.size, fun k hk _ => hb1.block k hk⟩ (Classical.em _)
    refine k1.kept (row := some R) ⟨rfl, rfl, rfl, by simp, fun k hk hne => ?_⟩ (.inr fun e => by have := (k1.lt _ e).1; omega)
    have hne' : k ≠ R := fun e => hne (by rw [e])
    rw [Below.heap_setCell _ _ _ _ hne', Below.heap_setCell _ _ _ _ hne', Below.heap_setCell _ _ _ _ hne']
  · exact h.tab_of (below_set3 (hb1.mono (Nat.le_of_lt lR)) _ _ _)

set_option maxRecDepth 1000000 in
set_option maxHeartbeats 1000000 in
theorem code_step {w : World} {I : Nat} {ms : List ByteArray} (h : CStM s R w I ms) (hl : ((toks s).getD I default).last = false) :
    Calls Tryz.prog 61 #[.pointer (some ⟨R, 0, none⟩)] w fun e w' => e = .returned (.tuple #[]) ∧ CStM s R w' (I + 1) ms ∧ KC R w w' := by
  obtain ⟨txt, mv, h1, h2, h3⟩ := h.blk
  have hI1 : I + 1 < (toks s).length := (toks_ends s).next h.lt (by intro e; simp [Tok.last, kd] at hl e; exact hl.1 e) (by intro e; simp [Tok.last, kd] at hl e; exact hl.2 e)
  obtain ⟨hch, hps, hss⟩ := toks_chain s hI1
  have htx : txt = tx s (toks s) I := h2 (by intro e; simp [Tok.last, kd] at hl e; exact hl.2 e)
  have hsz : txt.size = ((toks s).getD I default).stop - pl (toks s) I := by rw [htx]; unfold tx Tok.text pl; rw [ByteArray.size_extract]; omega
  have hadd : ((pl (toks s) I : Int) + (txt.size : Int)) = (((toks s).getD I default).stop : Int) := by rw [hsz]; unfold pl; omega
  have c0 := cell_of_heap (i := 0) h1 rfl
  have c1 := cell_of_heap (i := 1) h1 rfl
  have c2 := cell_of_heap (i := 2) h1 rfl
  have c3 := cell_of_heap (i := 3) h1 rfl
  have lR := heap_lt h1
  have hsm := h.small
  have hplb : pl (toks s) I ≤ 200 := by unfold pl; omega
  have htb : txt.size ≤ 200 := by rw [hsz]; omega
  have HT : Hid (Tabs w) := h.tabs
  have HS : Hid (CStM s R w I ms) := h
  have HCH : Hid ((toks s).getD (I + 1) default = tokFrom s ((toks s).getD I default).stop) := hch
  have HO : Hid (w.ownsRow (R + 1) 9 1 mv ms.length (ms.map Value.string)) := h3
  have H1 : Hid (CBlk s R w I txt mv) := h1
  have hI := h.lt
  clear hsz htx h2 hl hch h h3 h1
  generalize ((toks s).getD I default).stop = ST at *
  have hwr : IntKind.i64.wrap (ST : Int) = (ST : Int) := by rw [IntKind.wrap_i64]; omega
  go_enter Tryz.func61, Tryz.ntmps61
  go_wp2_with fail
  go_region_with
    (first | (go_at_call 44; refine (code_tokenFrom s ST (by omega) hss _ ?_).mono ?_; exact HT.out.below (Below.refl _ _).drew; rintro e w1 ⟨t2, rfl, ht2, hb1⟩; have k0 := cell_below hb1 c0; have k1 := cell_below hb1 c1; have k2 := cell_below hb1 c2; have k3 := cell_below hb1 c3; have k4 : w1.heap[R]? = _ := (hb1.block R lR).trans H1.out; have z1 := frozen_of_heap (i := 1) k4; have z2 := frozen_of_heap (i := 2) k4; have z3 := frozen_of_heap (i := 3) k4; have H4 : Hid (CBlk s R w1 I txt mv) := k4; clear k4))
  all_goals
    go_end0
    refine ⟨rfl, ?_, ?_⟩
    · exact step_state HS.out HO.out hb1 (h1 := H4.out) (h2 := ht2) (hch := HCH.out) (hI1 := hI1)
    · exact kc_set3 (KC.of_below ((Below.drew (Below.refl w.heap.size w)).trans hb1) lR) H4.out _ _ _
end
end Go.Proofs.YtaghcjpoihkpjaaGreatDoor
namespace Go.Proofs.YtaghcjpoihkpjaaGreatDoor
open Go.RowKit Go.Lib

section
variable {s : ByteArray} {R : Nat}
set_option maxRecDepth 1000000 in
theorem code_place {w : World} {I : Nat} {ms : List ByteArray} (h : CStM s R w I ms) :
    Calls Tryz.prog 63 #[.pointer (some ⟨R, 0, none⟩)] w fun e w' => e = .returned (.agg #[.int .i64 (pl (toks s) I)]) ∧ Below w.heap.size w w' := by
  obtain ⟨txt, mv, h1, -⟩ := h.blk
  have lR := heap_lt h1
  have c3 := cell_of_heap (i := 3) h1 rfl
  clear h1 h
  go_enter Tryz.func63, Tryz.ntmps63
  go_wp2
  refine bodyPost_ret (v := .agg #[.int .i64 (pl (toks s) I)]) (by simp [results, Tryz.results63, go_sem]) rfl ⟨rfl, ?_⟩
  exact (Below.refl _ _).alloc (Nat.le_refl _) _
set_option maxRecDepth 1000000 in
theorem code_stuck {w : World} {I : Nat} {ms : List ByteArray} (h : CStM s R w I ms) :
    Calls Tryz.prog 46 #[.pointer (some ⟨R, 0, none⟩)] w fun e w' => ∃ b, e = .returned (.iface 103 (.pointer (some ⟨b, 0, none⟩))) ∧ Below w.heap.size w w' ∧ w'.heap[b]? = some (.cells #[.int .i64 (pl (toks s) I)] 107 (0, 0)) := by
  have hpl := code_place h
  clear h
  go_enter Tryz.func46, Tryz.ntmps46
  go_wp2_with fail
  refine hpl.mono ?_
  rintro e w1 ⟨rfl, hb⟩
  have HB : Hid (Below w.heap.size w w1) := hb
  clear hpl hb
  go_wp2
  go_ret
  exact ⟨_, rfl, HB.out.alloc HB.out.size _, heap_alloc_new _ _⟩

end
end Go.Proofs.YtaghcjpoihkpjaaGreatDoor
namespace Go.Proofs.YtaghcjpoihkpjaaGreatDoor
open Go.RowKit Go.Lib

theorem index_any (c : UInt8) : ∀ cs : List UInt8, decide (0 ≤ Lib.indexByte cs c) = cs.any (fun d => d.toNat == c.toNat)
  | [] => by simp [Lib.indexByte]
  | d :: cs => by
    have ih := index_any c cs
    by_cases h : d = c
    · subst h
      simp [Lib.indexByte]
    · have h' : (d.toNat == c.toNat) = false := by simp [UInt8.toNat_inj, h]
      rw [List.any_cons, h', Bool.false_or, ← ih]
      have hge := Lib.indexByte_ge cs c
      have hbe : (d == c) = false := by simpa using h
      simp only [Lib.indexByte, hbe, Bool.false_eq_true, if_false]
      by_cases hm : Lib.indexByte cs c = -1
      · simp [hm]
      · rw [if_neg (by simpa using hm), Bool.eq_iff_iff, decide_eq_true_iff, decide_eq_true_iff]
        omega
theorem kind_sign {t : Tok} (h : codeKind t = 1) : t.kind ≠ 33 ∧ t.kind ≠ 101 := by
  refine ⟨fun e => ?_, fun e => ?_⟩ <;> (unfold codeKind at h; simp [e] at h)
theorem any_other {t : Tok} (h : codeKind t ≠ 1) (cs : List UInt8) (hcs : cs.all isSign = true) : cs.any (fun d => d.toNat == t.kind) = false := by
  rw [List.any_eq_false]
  intro d hd
  have hs := List.all_eq_true.1 hcs d hd
  rw [isSign_int] at hs
  simp only [Bool.or_eq_true, beq_iff_eq] at hs
  unfold codeKind at h
  simp only [beq_iff_eq]
  intro e
  apply h
  rw [if_neg (by omega), if_neg (by omega), if_neg (by omega), if_neg (by omega)]

section
variable {s : ByteArray} {R : Nat}
/-- Is one of these signs in view? -/
def seesB (s : ByteArray) (I : Nat) (cs : List UInt8) : Bool := cs.any (fun d => d.toNat == kd (toks s) I)

set_option maxRecDepth 1000000 in
theorem code_sees {w : World} {I : Nat} {ms : List ByteArray} (h : CStM s R w I ms) (cs : List UInt8) (hcs : cs.all isSign = true) :
    Calls Tryz.prog 60 #[.pointer (some ⟨R, 0, none⟩), .string ⟨cs.toArray⟩] w fun e w' => e = .returned (.bool (seesB s I cs)) ∧ w' = w := by
  obtain ⟨txt, mv, h1, h2, -⟩ := h.blk
  have c1 := cell_of_heap (i := 1) h1 rfl
  have c2 := cell_of_heap (i := 2) h1 rfl
  have hI := h.lt
  unfold seesB kd
  by_cases hk : codeKind ((toks s).getD I default) = 1
  · obtain ⟨c, q1, q2, q3⟩ := toks_sign s hI hk
    have htx : txt = ⟨#[c]⟩ := by rw [h2 (kind_sign hk).1, q3]
    have hcon := Tryz.strings_Contains_one ⟨cs.toArray⟩ c w
    have e1 : (⟨cs.toArray⟩ : ByteArray).data.toList = cs := rfl
    have q2' : ((toks s).getD I default).kind = c.toNat := q2
    rw [e1, index_any] at hcon
    rw [q2']
    rw [hk] at c1
    subst htx
    generalize cs.any (fun d => d.toNat == c.toNat) = B at hcon ⊢
    clear h1 h2 h q2 q3 q2' hk hcs
    go_enter Tryz.func60, Tryz.ntmps60
    go_wp2_with (first | (go_at_call 109; refine hcon.mono ?_; rintro e w' ⟨rfl, hw⟩; have hw := hw.symm; subst hw))
    go_ret
    exact ⟨by cases B <;> rfl, rfl⟩
  · rw [any_other hk cs hcs]
    obtain ⟨K, hK⟩ : ∃ K, codeKind ((toks s).getD I default) = K := ⟨_, rfl⟩
    rw [hK] at c1 hk
    have hk' : ((K : Int) == 1) = false := beq_eq_false_iff_ne.2 (by omega)
    clear h1 h2 h hk hcs hK
    go_enter Tryz.func60, Tryz.ntmps60
    go_wp2
    go_ret
    exact ⟨rfl, rfl⟩

theorem sign_last2 {I : Nat} {cs : List UInt8} (hcs : cs.all isSign = true) (h : seesB s I cs = true) : ((toks s).getD I default).last = false := by
  unfold seesB at h
  obtain ⟨d, hd, e⟩ := List.any_eq_true.1 h
  have hs := List.all_eq_true.1 hcs d hd
  have e' : d.toNat = ((toks s).getD I default).kind := by simpa [kd] using e
  have := sign_last (p := 0) (q := 0) hs
  rw [e'] at this
  exact this

/-- The error that 'stuck' makes. -/
def ErrAt (w : World) (e : Value) (p : Nat) : Prop := ∃ b, e = .iface 103 (.pointer (some ⟨b, 0, none⟩)) ∧ w.heap[b]? = some (.cells #[.int .i64 p] 107 (0, 0))

set_option maxRecDepth 1000000 in
theorem code_takeSign {w : World} {I : Nat} {ms : List ByteArray} (h : CStM s R w I ms) (cs : List UInt8) (hcs : cs.all isSign = true) :
    Calls Tryz.prog 62 #[.pointer (some ⟨R, 0, none⟩), .string ⟨cs.toArray⟩] w fun e w' => KC R w w' ∧
      ((seesB s I cs = true ∧ e = .returned .nilIface ∧ CStM s R w' (I + 1) ms) ∨ (seesB s I cs = false ∧ ∃ b, e = .returned (.iface 103 (.pointer (some ⟨b, 0, none⟩))) ∧ w'.heap[b]? = some (.cells #[.int .i64 (pl (toks s) I)] 107 (0, 0)))) := by
  have hse := code_sees h cs hcs
  have hlR : R < w.heap.size := by obtain ⟨a, b, c, -⟩ := h.blk; exact heap_lt c
  cases hb : seesB s I cs with
  | true =>
    have hst := code_step h (sign_last2 hcs hb)
    rw [hb] at hse
    clear h hb
    go_enter Tryz.func62, Tryz.ntmps62
    go_wp2_with fail
    refine hse.mono ?_
    rintro e w' ⟨rfl, hw⟩
    have hw := hw.symm
    subst hw
    go_wp2_with fail
    refine hst.mono ?_
    rintro e w1 ⟨rfl, hs1, hb1⟩
    have HS1 : Hid (CStM s R w1 (I + 1) ms) := hs1
    have HB1 : Hid (KC R w w1) := hb1
    clear hs1 hb1
    go_wp2
    go_ret
    exact ⟨HB1.out, .inl ⟨trivial, rfl, HS1.out⟩⟩
  | false =>
    have hsk := code_stuck h
    rw [hb] at hse
    clear h hb
    go_enter Tryz.func62, Tryz.ntmps62
    go_wp2_with fail
    refine hse.mono ?_
    rintro e w' ⟨rfl, hw⟩
    have hw := hw.symm
    subst hw
    go_wp2_with fail
    refine hsk.mono ?_
    rintro e w1 ⟨b1, rfl, hbl, hbk⟩
    have HQ : Hid _ := And.intro hbl hbk
    clear hbl hbk hsk
    go_wp2
    go_ret
    exact ⟨KC.of_below HQ.out.1 hlR, .inr ⟨trivial, _, rfl, HQ.out.2⟩⟩

set_option maxRecDepth 1000000 in
theorem code_take {w : World} {I : Nat} {ms : List ByteArray} (h : CStM s R w I ms) (k : Nat) (hk : k = 2 ∨ k = 3) :
    Calls Tryz.prog 201 #[.pointer (some ⟨R, 0, none⟩), .int .i64 k] w fun e w' => KC R w w' ∧
      ((codeKind ((toks s).getD I default) = k ∧ e = .returned (.tuple #[.string (tx s (toks s) I), .nilIface]) ∧ CStM s R w' (I + 1) ms) ∨ (codeKind ((toks s).getD I default) ≠ k ∧ ∃ b, e = .returned (.tuple #[.string { data := #[] }, .iface 103 (.pointer (some ⟨b, 0, none⟩))]) ∧ w'.heap[b]? = some (.cells #[.int .i64 (pl (toks s) I)] 107 (0, 0)))) := by
  obtain ⟨txt, mv, h1, h2, -⟩ := h.blk
  have c1 := cell_of_heap (i := 1) h1 rfl
  have c2 := cell_of_heap (i := 2) h1 rfl
  have hlR : R < w.heap.size := heap_lt h1
  by_cases hb : codeKind ((toks s).getD I default) = k
  · have hl : ((toks s).getD I default).last = false := by
      unfold codeKind at hb
      simp only [Tok.last, Bool.or_eq_false_iff, beq_eq_false_iff_ne]
      constructor
      · intro e; rw [if_pos e] at hb; omega
      · intro e
        rw [if_neg (by omega), if_neg (by omega), if_neg (by omega), if_pos e] at hb
        omega
    have h33 : kd (toks s) I ≠ 33 := by
      intro e
      have e' : ((toks s).getD I default).kind = 33 := e
      simp [Tok.last] at hl
      rw [List.getD_eq_getElem?_getD] at e'
      exact hl.2 e'
    have hst := code_step h hl
    have htx := h2 h33
    subst htx
    rw [hb] at c1
    have hne : ((k : Int) != (k : Int)) = false := by simp
    have HBK : Hid (codeKind ((toks s).getD I default) = k) := hb
    clear h hb h1 h2 hl h33
    go_enter Tryz.func201, Tryz.ntmps201
    go_wp2_with fail
    refine hst.mono ?_
    rintro e w1 ⟨rfl, hs1, hb1⟩
    have HS1 : Hid (CStM s R w1 (I + 1) ms) := hs1
    have HB1 : Hid (KC R w w1) := hb1
    clear hs1 hb1
    go_wp2
    go_ret2
    exact ⟨HB1.out, .inl ⟨HBK.out, rfl, HS1.out⟩⟩
  · have hsk := code_stuck h
    obtain ⟨K, hK⟩ : ∃ K, codeKind ((toks s).getD I default) = K := ⟨_, rfl⟩
    rw [hK] at c1
    have hne : ((K : Int) != (k : Int)) = true := bne_iff_ne.2 (by omega)
    have HBK : Hid (codeKind ((toks s).getD I default) ≠ k) := hb
    clear h hb h1 h2 hK
    go_enter Tryz.func201, Tryz.ntmps201
    go_wp2_with fail
    refine hsk.mono ?_
    rintro e w1 ⟨b1, rfl, hbl, hbk⟩
    have HQ : Hid _ := And.intro hbl hbk
    clear hbl hbk hsk
    go_wp2
    go_ret2
    exact ⟨KC.of_below HQ.out.1 hlR, .inr ⟨HBK.out, _, rfl, HQ.out.2⟩⟩

set_option maxRecDepth 1000000 in
theorem code_isKind (b : ByteArray) (w : World) : Calls Tryz.prog 121 #[.string b] w fun e w' => e = .returned (.bool (isMeasure b)) ∧ w' = w := by
  go_enter Tryz.func121, Tryz.ntmps121
  go_wp2
  all_goals (go_ret; exact ⟨by first | (rw [isMeasure_or]; simp [*]; done) | (rw [isMeasure_or]; simp_all; done), rfl⟩)
end
end Go.Proofs.YtaghcjpoihkpjaaGreatDoor
namespace Go.Proofs.YtaghcjpoihkpjaaGreatDoor
open Go.RowKit Go.Lib

theorem mets_bin {k p : Nat} {a b : Tree} : mets (.bin k p a b) = mets a ++ mets b := by simp [mets]
theorem mets_ite {p : Nat} {a b c : Tree} : mets (.ite p a b c) = mets a ++ mets b ++ mets c := by simp [mets]
theorem mets_num {p : Nat} {n : Int} : mets (.num p n) = [] := by simp [mets]
theorem mets_neg {p : Nat} {a : Tree} : mets (.neg p a) = mets a := by simp [mets]
theorem mets_meas {p : Nat} {a b : ByteArray} {n : Int} : mets (.meas p a b n) = [b] := by simp [mets]
theorem mets_probe {p : Nat} {a : ByteArray} {ts : List Tree} : mets (.probe p a ts) = metsAll ts := by simp [mets]
section
variable {s : ByteArray} {R : Nat}
/-- What the reader's methods keep holds of trees too. -/
theorem CStM.nmoves {w w' : World} {I : Nat} {ms : List ByteArray} (h : CStM s R w I ms) (hk : KC R w w') {P : Nat → Prop} : NMoves P P w w' := by
  intro b hP cs T hb hT
  obtain ⟨txt, mv, h1, h2, h3⟩ := h.blk
  refine ⟨hP, hk.block b (heap_lt hb) (fun e => ?_) (fun e => ?_)⟩
  · subst e
    rw [h1] at hb
    injection hb with hb
    injection hb with _ hb
    subst hb
    revert hT
    decide
  · rw [mrow_of h1] at e
    obtain ⟨c, fz, q⟩ := ownsRow_kind h3 b e
    rw [hb] at q
    injection q with q
    injection q with _ q
    subst q
    revert hT
    decide
theorem CNode.kept {w w' : World} {I : Nat} {ms : List ByteArray} {P : Nat → Prop} {t : Tree} {v : Value} (hn : CNode P w t v) (h : CStM s R w I ms) (hk : KC R w w') : CNode P w' t v := hn.moves (h.nmoves hk)
/-- A place in memory. -/
abbrev AtIs (p b : Nat) (w : World) : Prop := w.heap[b]? = some (.cells #[.int .i64 (p : Int)] 105 (0, 0))
theorem CStM.at_kept {w w' : World} {I : Nat} {ms : List ByteArray} (h : CStM s R w I ms) (hk : KC R w w') {p b : Nat} (ha : AtIs p b w) : AtIs p b w' := ((h.nmoves hk (P := fun _ => True)) b trivial _ _ ha (by decide)).2.trans ha
end
end Go.Proofs.YtaghcjpoihkpjaaGreatDoor
