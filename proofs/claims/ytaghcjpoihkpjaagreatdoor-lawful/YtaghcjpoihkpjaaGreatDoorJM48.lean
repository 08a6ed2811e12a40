/-
  plain.NewController, WALKED, by what plain.controller tells.
-/
import Derived.Test.YtaghcjpoihkpjaaGreatDoorJM47
import Derived.Test.YtaghcjpoihkpjaaGreatDoorJM43
import Derived.Test.YtaghcjpoihkpjaaGreatDoorJM29
import Derived.Test.YtaghcjpoihkpjaaGreatDoorJM14
import Derived.Test.YtaghcjpoihkpjaaGreatDoorJM5
import Derived.RowKit
namespace Go.Proofs.YtaghcjpoihkpjaaGreatDoor
open Go.RowKit Go.Lib

set_option maxRecDepth 1000000 in
set_option maxHeartbeats 4000000 in
theorem NewController_of (s : ByteArray) {A : Nat → Addr} {w : World} (hT : TabsR w) (hA : SentsX A w) {ao : Option Addr} {n cp : Nat} {count : Int} {Q : World → Nat → Tree → World → Value → Bool → Bool → Int → Prop}
    (hctl : ∀ W b lo t, Below w.heap.size w W → w.heap.size < lo → Fit t → size t ≤ 200 → (∀ q ∈ asks t, thereP someF q.2) → ProgB lo W b (bare t) (notes [] (mets t)) (asks t) (spansOf t) someF →
      Calls Tryz.prog 40 #[ptr b, .slice ao n cp, .int .i64 count] W fun e w' => Below W.heap.size W w' ∧ ∃ pv bp bt be, e = .returned (.tuple #[pv, begV bp bt be]) ∧ (pv = .pointer none ∨ ∃ x, pv = ptr x) ∧ Q W lo t w' pv bp bt be) :
    Calls Tryz.prog 24 #[.string s, .slice ao n cp, .int .i64 count, .bool true] w fun e w' => ∃ (t : Option Tree) (f q : Nat), PRel s (t, f, q) ∧ Below w.heap.size w w' ∧
      (((t = none ∨ ∃ u, t = some u ∧ ¬ ∀ q ∈ asks u, thereP someF q.2) ∧ e = .returned (.tuple #[.pointer none, begV false false 0])) ∨
       ∃ u, t = some u ∧ Fit u ∧ size u ≤ 200 ∧ (∀ q ∈ asks u, thereP someF q.2) ∧ ∃ W lo w4 pv bp bt be, Below w.heap.size w W ∧ w.heap.size < lo ∧ Q W lo u w4 pv bp bt be ∧ e = .returned (.tuple #[pv, begV bp bt be]) ∧ Below W.heap.size W w4 ∧ Keep w.heap.size w4 w' ∧ w4.heap[w.heap.size]? = some (.cells #[.bool false, .bool false, .int .i64 0, .int .i64 0, .int .i64 0, .string { data := #[] }] 68 (0, 0))) := by
  have hx : Below w.heap.size w (w.alloc (.cells #[.bool false, .bool false, .int .i64 0, .int .i64 0, .int .i64 0, .string { data := #[] }] 68)) := (Below.refl _ _).alloc (Nat.le_refl _) _
  have hrb : (w.alloc (.cells #[.bool false, .bool false, .int .i64 0, .int .i64 0, .int .i64 0, .string { data := #[] }] 68)).heap[w.heap.size]? = some (.cells #[.bool false, .bool false, .int .i64 0, .int .i64 0, .int .i64 0, .string { data := #[] }] 68 (0, 0)) := heap_alloc_new _ _
  have hpg := plain_program s none (hT.below hx) (hA.below hx).sents
  have HX : Hid _ := And.intro hx (And.intro hT (And.intro hA hrb))
  clear hx hrb hT hA
  go_enter Tryz.func24, Tryz.ntmps24
  go_wp2_with fail
  refine hpg.mono ?_
  rintro e w0 ⟨t0, f0, q0, -, hb0, hpt⟩
  obtain ⟨gv, rfl⟩ : ∃ gv, e = .returned gv := by
    cases t0 with
    | none => exact ⟨_, hpt⟩
    | some t =>
      obtain ⟨-, -, h⟩ := hpt
      split at h
      · obtain ⟨b, h, -⟩ := h; exact ⟨_, h⟩
      · exact ⟨_, h⟩
  have HB0 : Hid (Below w.heap.size w w0) := HX.out.1.trans (hb0.mono HX.out.1.size)
  have RB0 : Hid (w0.heap[w.heap.size]? = _) := (hb0.block _ (heap_lt HX.out.2.2.2)).trans HX.out.2.2.2
  have hp := code_Parse s w0 (HX.out.2.1.tabs.below HB0.out) (A 0) (HX.out.2.2.1.below HB0.out).sents.g0
  clear hpg hb0 hpt
  go_wp2_with fail
  refine hp.mono ?_
  rintro e w1 ⟨hb1, hc⟩
  have HB1 : Hid (Below w.heap.size w w1) := HB0.out.trans (hb1.mono HB0.out.size)
  have RB1 : Hid (w1.heap[w.heap.size]? = _) := (hb1.block _ (heap_lt RB0.out)).trans RB0.out
  clear hp hb1
  rcases hc with ⟨h1, rfl⟩ | ⟨h1, ⟨J, b, h2, rfl, h3⟩ | ⟨t, J, a, h2, h3, rfl, h4⟩⟩
  · have HP : Hid (PRel s (none, 1, 0)) := .inl ⟨h1, rfl⟩
    clear h1
    have rc0 := cell_of_heap (i := 0) (v := .bool false) RB1.out rfl
    have rc1 := cell_of_heap (i := 1) (v := .bool false) RB1.out rfl
    have rc2 := cell_of_heap (i := 2) (v := .int .i64 0) RB1.out rfl
    have rc3 := cell_of_heap (i := 3) (v := .int .i64 0) RB1.out rfl
    have rc4 := cell_of_heap (i := 4) (v := .int .i64 0) RB1.out rfl
    have rc5 := cell_of_heap (i := 5) (v := .string { data := #[] }) RB1.out rfl
    have rz0 := frozen_of_heap (i := 0) RB1.out
    have rz1 := frozen_of_heap (i := 1) RB1.out
    have rz2 := frozen_of_heap (i := 2) RB1.out
    have rz3 := frozen_of_heap (i := 3) RB1.out
    have rz4 := frozen_of_heap (i := 4) RB1.out
    have rz5 := frozen_of_heap (i := 5) RB1.out
    go_wp2
    refine bodyPost_ret (v := .tuple #[.pointer none, begV false false 0]) (by simp [results, Tryz.results24, go_sem, rc0, rc1, rc2, rc3, rc4, rc5]) rfl ?_
    exact ⟨none, 1, 0, HP.out, (by (iterate 6 (refine Below.setCell ?_ (by exact Nat.le_refl _) _)); exact HB1.out), .inl ⟨.inl rfl, rfl⟩⟩
  · have HP : Hid (PRel s (none, 2, pl (toks s) J)) := .inr ⟨h1, by
      rcases h2 with h2 | ⟨t, h2, h4⟩
      · exact .inl ⟨J, h2, rfl⟩
      · exact .inr (.inl ⟨t, J, h2, h4, rfl⟩)⟩
    clear h1 h2 h3
    have rc0 := cell_of_heap (i := 0) (v := .bool false) RB1.out rfl
    have rc1 := cell_of_heap (i := 1) (v := .bool false) RB1.out rfl
    have rc2 := cell_of_heap (i := 2) (v := .int .i64 0) RB1.out rfl
    have rc3 := cell_of_heap (i := 3) (v := .int .i64 0) RB1.out rfl
    have rc4 := cell_of_heap (i := 4) (v := .int .i64 0) RB1.out rfl
    have rc5 := cell_of_heap (i := 5) (v := .string { data := #[] }) RB1.out rfl
    have rz0 := frozen_of_heap (i := 0) RB1.out
    have rz1 := frozen_of_heap (i := 1) RB1.out
    have rz2 := frozen_of_heap (i := 2) RB1.out
    have rz3 := frozen_of_heap (i := 3) RB1.out
    have rz4 := frozen_of_heap (i := 4) RB1.out
    have rz5 := frozen_of_heap (i := 5) RB1.out
    go_wp2
    refine bodyPost_ret (v := .tuple #[.pointer none, begV false false 0]) (by simp [results, Tryz.results24, go_sem, rc0, rc1, rc2, rc3, rc4, rc5]) rfl ?_
    exact ⟨none, 2, _, HP.out, (by (iterate 6 (refine Below.setCell ?_ (by exact Nat.le_refl _) _)); exact HB1.out), .inl ⟨.inl rfl, rfl⟩⟩
  · have HP : Hid (PRel s (some t, 0, 0)) := .inr ⟨h1, .inr (.inr ⟨t, J, h2, h3, rfl⟩)⟩
    obtain ⟨hf, hsz⟩ := read_fits h1 h2 h3
    obtain ⟨pb, a', rfl, hpr⟩ := h4
    have h4 : CPol w0.heap.size w1 t ⟨pb, 0, none⟩ := ⟨pb, a', rfl, hpr⟩
    have hc1 := code_Code hf hsz h4
    have HF : Hid _ := And.intro hf hsz
    clear h1 h2 h3 hf hsz hpr h4
    go_wp2_with fail
    refine hc1.mono ?_
    rintro e w2 ⟨c, rfl, ho2, hb2⟩
    have hso := plain_some w2
    have O2 : Hid _ := And.intro ho2 hb2
    obtain ⟨ca, cp2, rfl⟩ := owns_len ho2
    clear hc1 ho2 hb2
    go_wp2_with fail
    refine hso.mono ?_
    rintro e w3 ⟨hb3, rfl, hm3⟩
    have B03 : Hid (Below w.heap.size w w3) := (HB1.out.trans (O2.out.2.mono HB1.out.size)).trans (hb3.mono (Nat.le_trans HB1.out.size O2.out.2.size))
    have hO3 : Out8 w1.heap.size w3 (.slice ca (enc t).length cp2) (enc t) := O2.out.1.keep fun g _ lt => hb3.block g lt
    have hld := load_enc (HX.out.2.1.below B03.out) (HX.out.2.2.1.below B03.out).sents HF.out.1 HF.out.2 hO3.rest (pv := .map (some w2.heap.size)) (F := someF) ⟨.inr ⟨_, rfl, hm3⟩, fun _ _ h => someF_func h⟩
    have RB3 : Hid (w3.heap[w.heap.size]? = some (.cells #[.bool false, .bool false, .int .i64 0, .int .i64 0, .int .i64 0, .string { data := #[] }] 68 (0, 0))) := (hb3.block _ (by have := heap_lt RB1.out; have := O2.out.2.size; omega)).trans ((O2.out.2.block _ (heap_lt RB1.out)).trans RB1.out)
    clear hso hb3 hm3 hO3
    go_wp2_with fail
    refine hld.mono ?_
    rintro e w4 ⟨hb4, gv2, iv, rfl, hgot⟩
    have B04 : Hid (Below w.heap.size w w4) := B03.out.trans (hb4.mono B03.out.size)
    have RB4 : Hid (w4.heap[w.heap.size]? = some (.cells #[.bool false, .bool false, .int .i64 0, .int .i64 0, .int .i64 0, .string { data := #[] }] 68 (0, 0))) := (hb4.block _ (heap_lt RB3.out)).trans RB3.out
    clear hld hb4
    rcases hgot with ⟨hall, b, rfl, rfl, hpb⟩ | ⟨i, q, b, hq1, hq2, hq3, rfl, rfl, hq4⟩
    · have hc := hctl w4 b w3.heap.size t B04.out (heap_lt RB3.out) HF.out.1 HF.out.2 hall hpb
      have HALL : Hid (∀ q ∈ asks t, thereP someF q.2) := hall
      have L3 : Hid (w.heap.size < w3.heap.size) := heap_lt RB3.out
      clear hall hpb hctl
      go_wp2_with fail
      refine hc.mono ?_
      rintro e w5 ⟨hb5, pv, bp, bt, be, rfl, hpv, hq⟩
      have B05 : Hid (Below w.heap.size w w5) := B04.out.trans (hb5.mono B04.out.size)
      have RB5 : Hid (w5.heap[w.heap.size]? = some (.cells #[.bool false, .bool false, .int .i64 0, .int .i64 0, .int .i64 0, .string { data := #[] }] 68 (0, 0))) := (hb5.block _ (heap_lt RB4.out)).trans RB4.out
      have HQ : Hid _ := And.intro hb5 hq
      clear hc hb5 hq
      have rc0 := cell_of_heap (i := 0) (v := .bool false) RB5.out rfl
      have rc1 := cell_of_heap (i := 1) (v := .bool false) RB5.out rfl
      have rc2 := cell_of_heap (i := 2) (v := .int .i64 0) RB5.out rfl
      have rc3 := cell_of_heap (i := 3) (v := .int .i64 0) RB5.out rfl
      have rc4 := cell_of_heap (i := 4) (v := .int .i64 0) RB5.out rfl
      have rc5 := cell_of_heap (i := 5) (v := .string { data := #[] }) RB5.out rfl
      have rz0 := frozen_of_heap (i := 0) RB5.out
      have rz1 := frozen_of_heap (i := 1) RB5.out
      have rz2 := frozen_of_heap (i := 2) RB5.out
      have rz3 := frozen_of_heap (i := 3) RB5.out
      have rz4 := frozen_of_heap (i := 4) RB5.out
      have rz5 := frozen_of_heap (i := 5) RB5.out
      rcases hpv with rfl | ⟨x, rfl⟩
      · go_wp2
        refine bodyPost_ret (v := .tuple #[.pointer none, begV bp bt be]) (by simp [results, Tryz.results24, go_sem, rc0, rc1, rc2, rc3, rc4, rc5]) rfl ?_
        refine ⟨some t, 0, 0, HP.out, (by (iterate 6 (refine Below.setCell ?_ (by exact Nat.le_refl _) _)); exact B05.out), .inr ⟨t, rfl, HF.out.1, HF.out.2, HALL.out, w4, w3.heap.size, w5, _, _, _, _, B04.out, L3.out, HQ.out.2, rfl, HQ.out.1, ?_, RB5.out⟩⟩
        iterate 6 (refine Keep.setR ?_ _ _)
        exact Keep.refl _ _
      · go_wp2
        refine bodyPost_ret (v := .tuple #[ptr x, begV bp bt be]) (by simp [results, Tryz.results24, go_sem, rc0, rc1, rc2, rc3, rc4, rc5]) rfl ?_
        refine ⟨some t, 0, 0, HP.out, (by (iterate 6 (refine Below.setCell ?_ (by exact Nat.le_refl _) _)); exact B05.out), .inr ⟨t, rfl, HF.out.1, HF.out.2, HALL.out, w4, w3.heap.size, w5, _, _, _, _, B04.out, L3.out, HQ.out.2, rfl, HQ.out.1, ?_, RB5.out⟩⟩
        iterate 6 (refine Keep.setR ?_ _ _)
        exact Keep.refl _ _
    · have HALL : Hid (¬ ∀ q ∈ asks t, thereP someF q.2) := fun h => hq3 (h q (List.mem_of_getElem? hq1))
      clear hq1 hq2 hq3 hq4 hctl
      have rc0 := cell_of_heap (i := 0) (v := .bool false) RB4.out rfl
      have rc1 := cell_of_heap (i := 1) (v := .bool false) RB4.out rfl
      have rc2 := cell_of_heap (i := 2) (v := .int .i64 0) RB4.out rfl
      have rc3 := cell_of_heap (i := 3) (v := .int .i64 0) RB4.out rfl
      have rc4 := cell_of_heap (i := 4) (v := .int .i64 0) RB4.out rfl
      have rc5 := cell_of_heap (i := 5) (v := .string { data := #[] }) RB4.out rfl
      have rz0 := frozen_of_heap (i := 0) RB4.out
      have rz1 := frozen_of_heap (i := 1) RB4.out
      have rz2 := frozen_of_heap (i := 2) RB4.out
      have rz3 := frozen_of_heap (i := 3) RB4.out
      have rz4 := frozen_of_heap (i := 4) RB4.out
      have rz5 := frozen_of_heap (i := 5) RB4.out
      go_wp2
      refine bodyPost_ret (v := .tuple #[.pointer none, begV false false 0]) (by simp [results, Tryz.results24, go_sem, rc0, rc1, rc2, rc3, rc4, rc5]) rfl ?_
      exact ⟨some t, 0, 0, HP.out, (by (iterate 6 (refine Below.setCell ?_ (by exact Nat.le_refl _) _)); exact B04.out), .inl ⟨.inr ⟨t, rfl, HALL.out⟩, rfl⟩⟩
end Go.Proofs.YtaghcjpoihkpjaaGreatDoor
namespace Go.Proofs.YtaghcjpoihkpjaaGreatDoor
open Go.Lib

theorem spans_size : (∀ t : Tree, (spansOf t).length ≤ size t) ∧ ∀ ts : List Tree, (spansAll ts).length ≤ sizes ts := by
  refine ⟨fun t => ?_, fun ts => ?_⟩
  · exact go t
  · exact gos ts
where
  go : ∀ t : Tree, (spansOf t).length ≤ size t
    | .num .. => by simp [spansOf]
    | .neg _ a => by have := go a; simp [spansOf, size]; omega
    | .bin _ _ a b => by have := go a; have := go b; simp [spansOf, size]; omega
    | .ite _ a b c => by have := go a; have := go b; have := go c; simp [spansOf, size]; omega
    | .meas .. => by simp [spansOf, size]
    | .probe _ _ ts => by have := gos ts; simp [spansOf, size]; omega
  gos : ∀ ts : List Tree, (spansAll ts).length ≤ sizes ts
    | [] => by simp [spansAll]
    | t :: ts => by have := go t; have := gos ts; simp [spansAll, sizes]; omega
mutual
theorem spans_bare : ∀ t, spansOf (bare t) = spansOf t
  | .num _ _ => by simp [bare, spansOf]
  | .neg _ a => by simp [bare, spansOf, spans_bare a]
  | .bin _ _ a b => by simp [bare, spansOf, spans_bare a, spans_bare b]
  | .ite _ a b c => by simp [bare, spansOf, spans_bare a, spans_bare b, spans_bare c]
  | .meas _ _ _ _ => by simp [bare]
  | .probe _ _ ts => by simp [bare, spansOf, spans_bares ts]
theorem spans_bares : ∀ ts, spansAll (bares ts) = spansAll ts
  | [] => by simp [bares]
  | t :: ts => by simp [bares, spansAll, spans_bare t, spans_bares ts]
end
mutual
theorem spans_fit : ∀ t, Fit t → ∀ q ∈ spansOf t, 0 ≤ q.2 ∧ q.2 < 1000000000
  | .num _ _, _, q, h => by simp [spansOf] at h
  | .neg _ a, hf, q, h => by unfold Fit at hf; simp [spansOf] at h; exact spans_fit a hf q h
  | .bin _ _ a b, hf, q, h => by
    unfold Fit at hf
    simp [spansOf] at h
    rcases h with h | h
    · exact spans_fit a hf.2.2.1 q h
    · exact spans_fit b hf.2.2.2 q h
  | .ite _ a b c, hf, q, h => by
    unfold Fit at hf
    simp [spansOf] at h
    rcases h with h | h | h
    · exact spans_fit a hf.1 q h
    · exact spans_fit b hf.2.1 q h
    · exact spans_fit c hf.2.2 q h
  | .meas _ _ _ _, hf, q, h => by
    unfold Fit at hf
    simp [spansOf] at h
    subst h
    exact hf.2.2.2.2.2.2
  | .probe _ _ ts, hf, q, h => by
    unfold Fit at hf
    simp [spansOf] at h
    exact spans_fits ts hf.2.2.2.2.2 q h
theorem spans_fits : ∀ ts, FitAll ts → ∀ q ∈ spansAll ts, 0 ≤ q.2 ∧ q.2 < 1000000000
  | [], _, q, h => by simp [spansAll] at h
  | t :: ts, hf, q, h => by
    unfold FitAll at hf
    simp [spansAll] at h
    rcases h with h | h
    · exact spans_fit t hf.1 q h
    · exact spans_fits ts hf.2 q h
end
end Go.Proofs.YtaghcjpoihkpjaaGreatDoor
namespace Go.Proofs.YtaghcjpoihkpjaaGreatDoor
open Go.Lib

def sExa : ByteArray := ⟨#[108, 97, 115, 116, 40, 110, 44, 49, 48, 41]⟩
def wLast : ByteArray := ⟨#[108, 97, 115, 116]⟩
def wN : ByteArray := ⟨#[110]⟩
theorem toks_exa : toks sExa = [⟨97, 0, 4⟩, ⟨40, 4, 5⟩, ⟨97, 5, 6⟩, ⟨44, 6, 7⟩, ⟨110, 7, 9⟩, ⟨41, 9, 10⟩, ⟨101, 10, 10⟩] := by decide
theorem d_exa : D sExa (toks sExa) .choice 0 (.ok [.meas 0 wLast wN 10] 6) := by
  rw [toks_exa]
  have n0 : D sExa [⟨97, 0, 4⟩, ⟨40, 4, 5⟩, ⟨97, 5, 6⟩, ⟨44, 6, 7⟩, ⟨110, 7, 9⟩, ⟨41, 9, 10⟩, ⟨101, 10, 10⟩] .minus 0 (.ok [.meas 0 wLast wN 10] 6) := .meGo (I := 0) rfl rfl (by decide +kernel) rfl rfl rfl rfl
  exact .chOne (.cmOne (.suGo (.prGo n0 (.ptEnd (by decide))) (.stEnd (by decide))) (by decide)) (by decide)
end Go.Proofs.YtaghcjpoihkpjaaGreatDoor
namespace Go.Proofs.YtaghcjpoihkpjaaGreatDoor
open Go.RowKit Go.Lib

/-- What NewController tells: no program, no such limits, or a controller. -/
def BegR (A : Nat → Addr) (w : World) (L : List Int) (count : Int) (t : Option Tree) (e : Ending) (w' : World) : Prop :=
  ((t = none ∨ ∃ u, t = some u ∧ ¬ ∀ q ∈ asks u, thereP someF q.2) ∧ e = .returned (.tuple #[.pointer none, begV false false 0])) ∨
  (∃ u, t = some u ∧ (∀ q ∈ asks u, thereP someF q.2) ∧ okL L count = false ∧ e = .returned (.tuple #[.pointer none, begV true false 5])) ∨
  (∃ u, t = some u ∧ (∀ q ∈ asks u, thereP someF q.2) ∧ okL L count = true ∧ ∃ x c wl lo, e = .returned (.tuple #[ptr x, begV true true 0]) ∧ w'.heap[x]? = some (.cells #[ptr c] 73 (0, 0)) ∧ Live A w wl lo c (ctlL L count) (bare u) (spansOf u) freshT w')
theorem plain_NewController (s : ByteArray) {A : Nat → Addr} {w : World} (hT : TabsR w) (hA : SentsX A w) {ao : Option Addr} {cp : Nat} {L : List Int} {count : Int} (hL : NumsAt w ao L) (hl : ∀ v ∈ L, In64 v) :
    Calls Tryz.prog 24 #[.string s, .slice ao L.length cp, .int .i64 count, .bool true] w fun e w' => ∃ (t : Option Tree) (f q : Nat), PRel s (t, f, q) ∧ Below w.heap.size w w' ∧ BegR A w L count t e w' := by
  refine (NewController_of s hT hA (Q := fun W lo t w' pv bp bt be => (okL L count = false ∧ pv = .pointer none ∧ bp = true ∧ bt = false ∧ be = 5) ∨ (okL L count = true ∧ ∃ x c, pv = ptr x ∧ bp = true ∧ bt = true ∧ be = 0 ∧ w'.heap[x]? = some (.cells #[ptr c] 73 (0, 0)) ∧ Live A w W lo c (ctlL L count) (bare t) (spansOf t) freshT w')) fun W b lo t hW hlo hf hsz hth hp => ?_).mono ?_
  · refine (plain_controller (A := A) (w0 := w) (lo := lo) (u := bare t) (sp := spansOf t) hA hW (by rw [asks_bare]; exact hp) (fit_bare t hf) (fun q hq => by rw [spans_bare] at hq; exact hq) (fun q hq => by rw [asks_bare] at hq; exact hth q hq) (by have := spans_size.1 t; omega) (fun q hq => by have := spans_fit t hf q hq; unfold In64; omega) (hL.below hW) hl).mono ?_
    rintro e w' ⟨hb, ⟨hok, rfl⟩ | ⟨hok, x, c, rfl, hx, hlv⟩⟩
    · exact ⟨hb, _, _, _, _, rfl, .inl rfl, .inl ⟨hok, rfl, rfl, rfl, rfl⟩⟩
    · exact ⟨hb, _, _, _, _, rfl, .inr ⟨x, rfl⟩, .inr ⟨hok, x, c, rfl, rfl, rfl, rfl, hx, hlv⟩⟩
  · rintro e w' ⟨t, f, q, hp, hb, ⟨hno, rfl⟩ | ⟨u, rfl, hf, hsz, hth, W, lo, w4, pv, bp, bt, be, hW, hlo, hq, rfl, hb4, hk, hr4⟩⟩
    · exact ⟨t, f, q, hp, hb, .inl ⟨hno, rfl⟩⟩
    · refine ⟨some u, f, q, hp, hb, ?_⟩
      rcases hq with ⟨hok, rfl, rfl, rfl, rfl⟩ | ⟨hok, x, c, rfl, rfl, rfl, rfl, hx, hlv⟩
      · exact .inr (.inl ⟨u, rfl, hth, hok, rfl⟩)
      · have hne : x ≠ w.heap.size := fun e => by rw [e, hr4] at hx; injection hx with e1; injection e1 with _ e1; exact absurd e1 (by decide)
        exact .inr (.inr ⟨u, rfl, hth, hok, x, c, W, lo, rfl, (hk.block x (heap_lt hx) hne).trans hx, hlv.set hr4 (by unfold Calm; decide) (Nat.le_refl _) (.inl hlo) hk.x⟩)
/-- The document's example. -/
abbrev lExa : List Int := [1, 9, 2, 3, 5]
theorem prel_exa : PRel sExa (some (.meas 0 wLast wN 10), 0, 0) := .inr ⟨by decide, .inr (.inr ⟨_, 6, d_exa, by rw [toks_exa]; rfl, rfl⟩)⟩
theorem exa_ok : okL lExa 4 = true := by decide
theorem exa_asks : ∀ q ∈ asks (.meas 0 wLast wN 10), thereP someF q.2 := fun q hq => by simp [asks] at hq
theorem exa_spans : spansOf (.meas 0 wLast wN 10) = [(wN, 10)] := by simp [spansOf]
theorem exa_bare : bare (.meas 0 wLast wN 10) = .meas 0 wLast wN 10 := by simp [bare]
theorem exa_feed : ((ctlL lExa 4).feed [(wN, 10)] freshT wN 9 0).1 = .fine := by kernel_rfl
theorem exa_tick : (((ctlL lExa 4).feed [(wN, 10)] freshT wN 9 0).2.1.decide probeT (.meas 0 wLast wN 10) ((ctlL lExa 4).feed [(wN, 10)] freshT wN 9 0).2.2 0).1 = .fine := by kernel_rfl
theorem exa_count : (((ctlL lExa 4).feed [(wN, 10)] freshT wN 9 0).2.1.decide probeT (.meas 0 wLast wN 10) ((ctlL lExa 4).feed [(wN, 10)] freshT wN 9 0).2.2 0).2.1.count = 6 := by kernel_rfl
end Go.Proofs.YtaghcjpoihkpjaaGreatDoor
