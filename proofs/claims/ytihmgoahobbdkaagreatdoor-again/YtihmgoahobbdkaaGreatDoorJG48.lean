/-
  plain.What, WALKED.
-/
import Derived.Test.YtihmgoahobbdkaaGreatDoorJG37
import Derived.Test.YtihmgoahobbdkaaGreatDoorJG43
import Derived.Test.YtihmgoahobbdkaaGreatDoorJG47
import Derived.Test.YtihmgoahobbdkaaGreatDoorJG42
import Derived.Test.YtihmgoahobbdkaaGreatDoorJG36
import Derived.Test.YtihmgoahobbdkaaGreatDoorJG2
import Derived.RowKit
import Derived.Test.YtihmgoahobbdkaaGreatDoorJG29
import Derived.Test.YtihmgoahobbdkaaGreatDoorJG38
namespace Go.Proofs.YtihmgoahobbdkaaGreatDoor
open Go.RowKit Go.Lib

/-! What a value or a reason is told as, part by part. -/
def resN : Res → Int
  | .val n => n
  | .held _ _ => 0
def resE : Res → Int
  | .val _ => 0
  | .held _ .divide => 8
  | .held _ .noData => 9
  | .held _ .failed => 10
  | .held _ (.panic _) => 11
def resP : Res → Int
  | .val _ => 0
  | .held p _ => (p : Int)
def resM : Res → Int
  | .held _ (.panic n) => n
  | _ => 0
def toldV (r : Res) : Value := .agg #[.int .i64 (resE r), .int .i64 (resP r), .int .i64 (resM r), .string { data := #[] }]
/-- An Outcome. -/
def outV (po pr br : Bool) (n : Int) (r : Res) : Value := .agg #[.bool po, .bool pr, .bool br, .int .i64 n, .int .i64 (resE r), .int .i64 (resP r), .int .i64 (resM r), .string { data := #[] }]
/-- An error beside a value: nil, or one that is told as it should. -/
def ErrIs (w : World) (r : Res) (iv : Value) : Prop :=
  ((∃ n, r = .val n ∧ iv = .nilIface) ∨ (∃ p y T x, r = .held p y ∧ iv = .iface T x)) ∧ ∀ w', Below w.heap.size w w' → Calls Tryz.prog 24 #[iv] w' fun e w2 => e = .returned (toldV r) ∧ Below w'.heap.size w' w2
theorem EvR.told {σ : Type} {A : Nat → Addr} {S : σ → World → Prop} {r : Res} {s : σ} {w : World} {e : Ending} (h : EvR A S (r, s) w e) (hs : SentsX A w) : ∃ iv, e = .returned (.tuple #[.int .i64 (resN r), iv]) ∧ ErrIs w r iv ∧ S s w := by
  cases r with
  | val n => exact ⟨.nilIface, h.1, ⟨.inl ⟨n, rfl, rfl⟩, fun w' _ => of_nil4 w'⟩, h.2.2⟩
  | held p y =>
    obtain ⟨b, T, x, h1, h2, h3, h4⟩ := h
    refine ⟨_, h1, ⟨.inr ⟨p, y, _, _, rfl, rfl⟩, fun w' hb => ?_⟩, h4⟩
    have := of_hold (hs.below hb) (((hb.block b (heap_lt h2)).trans h2 : HoldAt w' b p T x)) (h3.below hb)
    refine this.mono ?_
    rintro e w2 ⟨rfl, hb2⟩
    refine ⟨?_, hb2⟩
    cases y <;> rfl
/-- A probe that plain.some has. -/
def haveS (s : ByteArray) : Bool := decide (s = wMax) || decide (s = wBoom) || decide (s = wSeven)
theorem there_have (s : ByteArray) : thereP someF s ↔ haveS s = true := by
  unfold thereP someF haveS
  by_cases h1 : s = wMax
  · subst h1; simp
  · by_cases h2 : s = wBoom
    · subst h2; simp [h1]
    · by_cases h3 : s = wSeven
      · subst h3; simp [h1, h2]
      · simp [h1, h2, h3]
/-- What a text comes to. -/
def whatO : Option Tree → Value
  | none => outV false false false 0 (.val 0)
  | some t => if (asks t).all (fun q => haveS q.2) = true then outV true true false (resN (ev envP t ()).1) (ev envP t ()).1 else outV true false false 0 (.val 0)
theorem look_all {w0 : World} : (match envP.look with | none => (Value.func (.func 40) #[] #[]) = .nilFunc | some l => LookOk (SB w0) 0 (.func (.func 40) #[] #[]) l) := look_ok (SB w0) 0
set_option maxRecDepth 1000000 in
set_option maxHeartbeats 4000000 in
theorem plain_What (s : ByteArray) {A : Nat → Addr} {w : World} (hT : TabsR w) (hA : SentsX A w) :
    Calls Tryz.prog 22 #[.string s] w fun e w' => ∃ (t : Option Tree) (f p : Nat), PRel s (t, f, p) ∧ Below w.heap.size w w' ∧ e = .returned (whatO t) := by
  have hx : Below w.heap.size w (w.alloc (.cells #[.bool false, .bool false, .bool false, .int .i64 0, .int .i64 0, .int .i64 0, .int .i64 0, .string { data := #[] }] 56)) := (Below.refl _ _).alloc (Nat.le_refl _) _
  have hrb : (w.alloc (.cells #[.bool false, .bool false, .bool false, .int .i64 0, .int .i64 0, .int .i64 0, .int .i64 0, .string { data := #[] }] 56)).heap[w.heap.size]? = some (.cells #[.bool false, .bool false, .bool false, .int .i64 0, .int .i64 0, .int .i64 0, .int .i64 0, .string { data := #[] }] 56 (0, 0)) := heap_alloc_new _ _
  have hA0 := hA.below hx
  have hp := code_Parse s _ (hT.tabs.below hx) (A 0) hA0.sents.g0
  have HX : Hid _ := And.intro hx (And.intro (hT.below hx) (And.intro hA0 hrb))
  have HA : Hid (SentsX A w) := hA
  have LW : Hid (0 < w.heap.size) := Nat.lt_of_le_of_lt (Nat.zero_le _) (World.block_lt_of_cell? _ _ hA.etype)
  clear hT hA hx hrb hA0
  go_enter Tryz.func22, Tryz.ntmps22
  go_wp2_with fail
  refine hp.mono ?_
  rintro e w1 ⟨hb1, hc⟩
  have HB1 : Hid (Below w.heap.size w w1) := HX.out.1.trans (hb1.mono HX.out.1.size)
  have HBX : Hid _ := hb1
  have RB1 : Hid (w1.heap[w.heap.size]? = _) := (hb1.block _ (heap_lt HX.out.2.2.2)).trans HX.out.2.2.2
  clear hp hb1
  rcases hc with ⟨h1, rfl⟩ | ⟨h1, ⟨J, b, h2, rfl, h3⟩ | ⟨t, J, a, h2, h3, rfl, h4⟩⟩
  · have HP : Hid (PRel s (none, 1, 0)) := .inl ⟨h1, rfl⟩
    clear h1
    have rc0 := cell_of_heap (i := 0) (v := .bool false) RB1.out rfl
    have rc1 := cell_of_heap (i := 1) (v := .bool false) RB1.out rfl
    have rc2 := cell_of_heap (i := 2) (v := .bool false) RB1.out rfl
    have rc3 := cell_of_heap (i := 3) (v := .int .i64 0) RB1.out rfl
    have rc4 := cell_of_heap (i := 4) (v := .int .i64 0) RB1.out rfl
    have rc5 := cell_of_heap (i := 5) (v := .int .i64 0) RB1.out rfl
    have rc6 := cell_of_heap (i := 6) (v := .int .i64 0) RB1.out rfl
    have rc7 := cell_of_heap (i := 7) (v := .string { data := #[] }) RB1.out rfl
    have rz0 := frozen_of_heap (i := 0) RB1.out
    have rz1 := frozen_of_heap (i := 1) RB1.out
    have rz2 := frozen_of_heap (i := 2) RB1.out
    have rz3 := frozen_of_heap (i := 3) RB1.out
    have rz4 := frozen_of_heap (i := 4) RB1.out
    have rz5 := frozen_of_heap (i := 5) RB1.out
    have rz6 := frozen_of_heap (i := 6) RB1.out
    have rz7 := frozen_of_heap (i := 7) RB1.out
    go_wp2
    refine bodyPost_ret (v := outV false false false 0 (.val 0)) (by simp [outV, resE, resP, resM, results, Tryz.results22, go_sem, rc0, rc1, rc2, rc3, rc4, rc5, rc6, rc7]) rfl ?_
    exact ⟨none, 1, 0, HP.out, (by (iterate 8 (refine Below.setCell ?_ (by exact Nat.le_refl _) _)); exact HB1.out), rfl⟩
  · have HP : Hid (PRel s (none, 2, pl (toks s) J)) := .inr ⟨h1, by
      rcases h2 with h2 | ⟨t, h2, h4⟩
      · exact .inl ⟨J, h2, rfl⟩
      · exact .inr (.inl ⟨t, J, h2, h4, rfl⟩)⟩
    clear h1 h2 h3
    have rc0 := cell_of_heap (i := 0) (v := .bool false) RB1.out rfl
    have rc1 := cell_of_heap (i := 1) (v := .bool false) RB1.out rfl
    have rc2 := cell_of_heap (i := 2) (v := .bool false) RB1.out rfl
    have rc3 := cell_of_heap (i := 3) (v := .int .i64 0) RB1.out rfl
    have rc4 := cell_of_heap (i := 4) (v := .int .i64 0) RB1.out rfl
    have rc5 := cell_of_heap (i := 5) (v := .int .i64 0) RB1.out rfl
    have rc6 := cell_of_heap (i := 6) (v := .int .i64 0) RB1.out rfl
    have rc7 := cell_of_heap (i := 7) (v := .string { data := #[] }) RB1.out rfl
    have rz0 := frozen_of_heap (i := 0) RB1.out
    have rz1 := frozen_of_heap (i := 1) RB1.out
    have rz2 := frozen_of_heap (i := 2) RB1.out
    have rz3 := frozen_of_heap (i := 3) RB1.out
    have rz4 := frozen_of_heap (i := 4) RB1.out
    have rz5 := frozen_of_heap (i := 5) RB1.out
    have rz6 := frozen_of_heap (i := 6) RB1.out
    have rz7 := frozen_of_heap (i := 7) RB1.out
    go_wp2
    refine bodyPost_ret (v := outV false false false 0 (.val 0)) (by simp [outV, resE, resP, resM, results, Tryz.results22, go_sem, rc0, rc1, rc2, rc3, rc4, rc5, rc6, rc7]) rfl ?_
    exact ⟨none, 2, _, HP.out, (by (iterate 8 (refine Below.setCell ?_ (by exact Nat.le_refl _) _)); exact HB1.out), rfl⟩
  · have HP : Hid (PRel s (some t, 0, 0)) := .inr ⟨h1, .inr (.inr ⟨t, J, h2, h3, rfl⟩)⟩
    obtain ⟨hf, hsz⟩ := read_fits h1 h2 h3
    obtain ⟨pb, a', rfl, hpr⟩ := h4
    have h4 : CPol (w.heap.size + 1) w1 t ⟨pb, 0, none⟩ := by
      have : CPol _ w1 t ⟨pb, 0, none⟩ := ⟨pb, a', rfl, hpr⟩
      simpa using this
    have hc1 := code_Code hf hsz h4
    have HF : Hid _ := And.intro hf hsz
    clear h1 h2 h3 hf hsz hpr h4
    go_wp2_with fail
    refine hc1.mono ?_
    rintro e w2 ⟨c, rfl, ho2, hb2⟩
    have hso := plain_some w2
    have O2 : Hid _ := And.intro ho2 hb2
    obtain ⟨ca, cp, rfl⟩ := owns_len ho2
    clear hc1 ho2 hb2
    go_wp2_with fail
    refine hso.mono ?_
    rintro e w3 ⟨hb3, rfl, hm3⟩
    have B03 : Hid (Below w.heap.size w w3) := (HB1.out.trans (O2.out.2.mono HB1.out.size)).trans (hb3.mono (Nat.le_trans HB1.out.size O2.out.2.size))
    have BX3 := HBX.out.trans ((O2.out.2.trans (hb3.mono O2.out.2.size)).mono HBX.out.size)
    have hO3 : Out8 w1.heap.size w3 (.slice ca (enc t).length cp) (enc t) := O2.out.1.keep fun g _ lt => hb3.block g lt
    have hld := load_enc (HX.out.2.1.below BX3) (HX.out.2.2.1.below BX3).sents HF.out.1 HF.out.2 hO3.rest (pv := .map (some w2.heap.size)) (F := someF) ⟨.inr ⟨_, rfl, hm3⟩, fun _ _ h => someF_func h⟩
    have RB3 : Hid (w3.heap[w.heap.size]? = some (.cells #[.bool false, .bool false, .bool false, .int .i64 0, .int .i64 0, .int .i64 0, .int .i64 0, .string { data := #[] }] 56 (0, 0))) := (hb3.block _ (by have := heap_lt RB1.out; have := O2.out.2.size; omega)).trans ((O2.out.2.block _ (heap_lt RB1.out)).trans RB1.out)
    clear hso hb3 hm3 BX3 hO3
    go_wp2_with fail
    refine hld.mono ?_
    rintro e w4 ⟨hb4, gv, iv, rfl, hgot⟩
    have B04 : Hid (Below w.heap.size w w4) := B03.out.trans (hb4.mono B03.out.size)
    have RB4 : Hid (w4.heap[w.heap.size]? = some (.cells #[.bool false, .bool false, .bool false, .int .i64 0, .int .i64 0, .int .i64 0, .int .i64 0, .string { data := #[] }] 56 (0, 0))) := (hb4.block _ (heap_lt RB3.out)).trans RB3.out
    have L3 : Hid (0 < w3.heap.size) := Nat.lt_of_lt_of_le LW.out B03.out.size
    clear hld hb4
    rcases hgot with ⟨hall, b, rfl, rfl, hpb⟩ | ⟨i, q, b, hq1, hq2, hq3, rfl, rfl, hq4⟩
    · have hev := code_Eval (A := A) (S := SB w) (R := 0) (N := w.heap.size) (E := envP) (s := ()) (u := bare t) (by rw [asks_bare]; exact hpb) (fit_bare t HF.out.1) (SB.stable w) (fun _ _ h => (HA.out.below h).sents) (Nat.lt_of_lt_of_le LW.out B04.out.size) L3.out look_all
        (fun q hq => by rw [asks_bare] at hq; obtain ⟨fv, a1, a2, -⟩ := someF_probe (SB w) 0 w.heap.size (hall q hq); exact ⟨fv, a1, a2⟩) B04.out
      rw [ev_bare] at hev
      have HALL : Hid ((asks t).all (fun q => haveS q.2) = true) := List.all_eq_true.2 fun q hq => (there_have q.2).1 (hall q hq)
      clear hall hpb
      go_wp2_with fail
      refine hev.mono ?_
      rintro e w5 ⟨hk5, he5⟩
      generalize hr : ev envP t () = r at he5
      have HR : Hid _ := hr
      obtain ⟨r, u⟩ := r
      obtain ⟨iv, rfl, hei, hs5⟩ := he5.told (HA.out.below (by
        cases r with
        | val n => exact he5.2.2
        | held p y => obtain ⟨b, T, x, -, -, -, h4⟩ := he5; exact h4))
      have B05 : Hid (Below w.heap.size w w5) := hs5
      have RB5 : Hid (w5.heap[w.heap.size]? = some (.cells #[.bool false, .bool false, .bool false, .int .i64 0, .int .i64 0, .int .i64 0, .int .i64 0, .string { data := #[] }] 56 (0, 0))) := hk5.heap RB4.out (by have := LW.out; omega)
      have hof := hei.2 w5 (Below.refl _ _)
      unfold toldV at hof
      clear hev hk5 he5 hei hs5 hr
      go_wp2_with fail
      refine hof.mono ?_
      rintro e w6 ⟨rfl, hb6⟩
      have B06 : Hid (Below w.heap.size w w6) := B05.out.trans (hb6.mono B05.out.size)
      have RB6 := (hb6.block _ (heap_lt RB5.out)).trans RB5.out
      have rc0 := cell_of_heap (i := 0) (v := .bool false) RB6 rfl
      have rc1 := cell_of_heap (i := 1) (v := .bool false) RB6 rfl
      have rc2 := cell_of_heap (i := 2) (v := .bool false) RB6 rfl
      have rc3 := cell_of_heap (i := 3) (v := .int .i64 0) RB6 rfl
      have rc4 := cell_of_heap (i := 4) (v := .int .i64 0) RB6 rfl
      have rc5 := cell_of_heap (i := 5) (v := .int .i64 0) RB6 rfl
      have rc6 := cell_of_heap (i := 6) (v := .int .i64 0) RB6 rfl
      have rc7 := cell_of_heap (i := 7) (v := .string { data := #[] }) RB6 rfl
      have rz0 := frozen_of_heap (i := 0) RB6
      have rz1 := frozen_of_heap (i := 1) RB6
      have rz2 := frozen_of_heap (i := 2) RB6
      have rz3 := frozen_of_heap (i := 3) RB6
      have rz4 := frozen_of_heap (i := 4) RB6
      have rz5 := frozen_of_heap (i := 5) RB6
      have rz6 := frozen_of_heap (i := 6) RB6
      have rz7 := frozen_of_heap (i := 7) RB6
      clear RB6 hof hb6
      go_wp2
      refine bodyPost_ret (v := outV true true false (resN r) r) (by simp [outV, resE, resP, resM, results, Tryz.results22, go_sem, rc0, rc1, rc2, rc3, rc4, rc5, rc6, rc7]) rfl ?_
      refine ⟨some t, 0, 0, HP.out, (by (iterate 8 (refine Below.setCell ?_ (by exact Nat.le_refl _) _)); exact B06.out), ?_⟩
      simp only [whatO]
      rw [if_pos HALL.out, HR.out]
    · have HALL : Hid (¬ (asks t).all (fun q => haveS q.2) = true) := fun h => hq3 ((there_have q.2).2 (List.all_eq_true.1 h q (List.mem_of_getElem? hq1)))
      clear hq1 hq2 hq3 hq4
      have rc0 := cell_of_heap (i := 0) (v := .bool false) RB4.out rfl
      have rc1 := cell_of_heap (i := 1) (v := .bool false) RB4.out rfl
      have rc2 := cell_of_heap (i := 2) (v := .bool false) RB4.out rfl
      have rc3 := cell_of_heap (i := 3) (v := .int .i64 0) RB4.out rfl
      have rc4 := cell_of_heap (i := 4) (v := .int .i64 0) RB4.out rfl
      have rc5 := cell_of_heap (i := 5) (v := .int .i64 0) RB4.out rfl
      have rc6 := cell_of_heap (i := 6) (v := .int .i64 0) RB4.out rfl
      have rc7 := cell_of_heap (i := 7) (v := .string { data := #[] }) RB4.out rfl
      have rz0 := frozen_of_heap (i := 0) RB4.out
      have rz1 := frozen_of_heap (i := 1) RB4.out
      have rz2 := frozen_of_heap (i := 2) RB4.out
      have rz3 := frozen_of_heap (i := 3) RB4.out
      have rz4 := frozen_of_heap (i := 4) RB4.out
      have rz5 := frozen_of_heap (i := 5) RB4.out
      have rz6 := frozen_of_heap (i := 6) RB4.out
      have rz7 := frozen_of_heap (i := 7) RB4.out
      go_wp2
      refine bodyPost_ret (v := outV true false false 0 (.val 0)) (by simp [outV, resE, resP, resM, results, Tryz.results22, go_sem, rc0, rc1, rc2, rc3, rc4, rc5, rc6, rc7]) rfl ?_
      refine ⟨some t, 0, 0, HP.out, (by (iterate 8 (refine Below.setCell ?_ (by exact Nat.le_refl _) _)); exact B04.out), ?_⟩
      simp only [whatO]
      rw [if_neg HALL.out]
end Go.Proofs.YtihmgoahobbdkaaGreatDoor
namespace Go.Proofs.YtihmgoahobbdkaaGreatDoor
open Go.RowKit

mutual
/-- A tree's text. -/
def prL : Tree → List UInt8
  | .num _ n => decL n.toNat
  | .neg _ a => [40, 45] ++ prL a ++ [41]
  | .bin k _ a b => [40] ++ prL a ++ [UInt8.ofNat k] ++ prL b ++ [41]
  | .ite _ a b c => [40] ++ prL a ++ [63] ++ prL b ++ [58] ++ prL c ++ [41]
  | .meas _ w m n => w.data.toList ++ [40] ++ m.data.toList ++ [44] ++ decL n.toNat ++ [41]
  | .probe _ w ts => w.data.toList ++ [40] ++ joinL (prLs ts) ++ [41]
def prLs : List Tree → List (List UInt8)
  | [] => []
  | t :: ts => prL t :: prLs ts
end
theorem prLs_length : ∀ ts, (prLs ts).length = ts.length
  | [] => rfl
  | t :: ts => by simp [prLs, prLs_length ts]
mutual
theorem text_pr : ∀ t, (ptext (prP t)).data.toList = prL t
  | .num _ n => by simp [prP, ptext, prL, Piece.text, decT]
  | .neg _ a => by simp [prP, ptext, prL, Piece.text, ptext_append, text_pr a]
  | .bin k _ a b => by simp [prP, ptext, prL, Piece.text, ptext_append, text_pr a, text_pr b]
  | .ite _ a b c => by simp [prP, ptext, prL, Piece.text, ptext_append, text_pr a, text_pr b, text_pr c]
  | .meas _ w m n => by simp [prP, ptext, prL, Piece.text, decT]
  | .probe _ w ts => by simp [prP, ptext, prL, Piece.text, ptext_append, text_prA ts]
theorem text_prA : ∀ ts, (ptext (prA ts)).data.toList = joinL (prLs ts)
  | [] => by simp [prA, ptext, prLs, joinL]
  | t :: ts => by simp [prA, ptext_append, prLs, joinL, text_pr t, text_prB ts]
theorem text_prB : ∀ ts, (ptext (prB ts)).data.toList = restL (prLs ts)
  | [] => by simp [prB, ptext, prLs, restL]
  | t :: ts => by simp [prB, ptext, Piece.text, ptext_append, prLs, restL, text_pr t, text_prB ts]
end
mutual
theorem len_pr : ∀ t, Fit t → (prL t).length ≤ 600 * size t
  | .num _ n, h => by
    unfold Fit at h
    have := (decL_len 8 n.toNat (by omega)).2
    simp [prL, size]
    omega
  | .neg _ a, h => by
    unfold Fit at h
    have := len_pr a h
    simp [prL, size]
    omega
  | .bin k _ a b, h => by
    unfold Fit at h
    have := len_pr a h.2.2.1
    have := len_pr b h.2.2.2
    simp [prL, size]
    omega
  | .ite _ a b c, h => by
    unfold Fit at h
    have := len_pr a h.1
    have := len_pr b h.2.1
    have := len_pr c h.2.2
    simp [prL, size]
    omega
  | .meas _ w m n, h => by
    unfold Fit at h
    have := (decL_len 8 n.toNat (by omega)).2
    simp [prL, size]
    omega
  | .probe _ w ts, h => by
    unfold Fit at h
    have := len_prA ts h.2.2.2.2.2
    simp [prL, size]
    omega
theorem len_prA : ∀ ts, FitAll ts → (joinL (prLs ts)).length ≤ 600 * sizes ts + ts.length
  | [], _ => by simp [prLs, joinL]
  | t :: ts, h => by
    unfold FitAll at h
    have := len_pr t h.1
    have := len_prB ts h.2
    simp [prLs, joinL, sizes]
    omega
theorem len_prB : ∀ ts, FitAll ts → (restL (prLs ts)).length ≤ 600 * sizes ts + ts.length
  | [], _ => by simp [prLs, restL]
  | t :: ts, h => by
    unfold FitAll at h
    have := len_pr t h.1
    have := len_prB ts h.2
    simp [prLs, restL, sizes]
    omega
end
section
variable {w0 : World} {P : Nat → Prop}
mutual
theorem writes_tree (hT : TabsR w0) : ∀ (t : Tree) (v : Value), Fit t → CNode P w0 t v → Writes w0 v (prL t)
  | .num _ n, v, hf, h => by
    unfold Fit at hf
    unfold CNode at h
    obtain ⟨b, rfl, -, hb⟩ := h
    exact writes_num hT hf.1 hf.2 hb
  | .neg _ a, v, hf, h => by
    unfold Fit at hf
    unfold CNode at h
    obtain ⟨b, va, rfl, -, hb, ha⟩ := h
    exact writes_neg (writes_tree hT a va hf ha) hb
  | .bin k _ a d, v, hf, h => by
    unfold Fit at hf
    unfold CNode at h
    obtain ⟨b, va, vd, rfl, -, hb, ha, hd⟩ := h
    have hk := (reck_sign hf.1).2
    exact writes_pair (by have := (UInt8.ofNat k).toNat_lt; omega) (writes_tree hT a va hf.2.2.1 ha) (writes_tree hT d vd hf.2.2.2 hd) hb
  | .ite _ a d g, v, hf, h => by
    unfold Fit at hf
    unfold CNode at h
    obtain ⟨b, va, vd, vg, rfl, -, hb, ha, hd, hg⟩ := h
    exact writes_choice (writes_tree hT a va hf.1 ha) (writes_tree hT d vd hf.2.1 hd) (writes_tree hT g vg hf.2.2 hg) hb
  | .meas _ w m n, v, hf, h => by
    unfold Fit at hf
    unfold CNode at h
    obtain ⟨b, rfl, -, hb⟩ := h
    exact writes_meas hT hf.2.2.1 hf.2.2.2.2.2.1 hf.2.2.2.2.2.2.1 hf.2.2.2.2.2.2.2 hb
  | .probe _ w ts, v, hf, h => by
    unfold Fit at hf
    unfold CNode at h
    obtain ⟨b, pv, vs, rfl, -, hb, ⟨hr, -⟩, hc⟩ := h
    have hl := CNodes.length hc
    exact writes_probe hf.2.2.1 (by rw [prLs_length, hl]) (by rw [hl]; exact hf.2.2.2.2.1) hr (fun i v l hv hl => writes_trees hT ts vs hf.2.2.2.2.2 hc i v l hv hl) hb
theorem writes_trees (hT : TabsR w0) : ∀ (ts : List Tree) (vs : List Value), FitAll ts → CNodes P w0 ts vs → ∀ (i : Nat) (v : Value) (l : List UInt8), vs[i]? = some v → (prLs ts)[i]? = some l → Writes w0 v l
  | [], vs, _, h => by
    unfold CNodes at h
    subst h
    intro i v l hv
    simp at hv
  | t :: ts, vs, hf, h => by
    unfold FitAll at hf
    unfold CNodes at h
    obtain ⟨v0, vs', rfl, h1, h2⟩ := h
    intro i v l hv hl
    cases i with
    | zero =>
      simp [prLs] at hv hl
      subst hv hl
      exact writes_tree hT t v0 hf.1 h1
    | succ i => exact writes_trees hT ts vs' hf.2 h2 i v l (by simpa using hv) (by simpa [prLs] using hl)
end
end
theorem byteCells_bytes (l : List UInt8) : Lib.byteCells l = bytesV l := by
  simp [Lib.byteCells, bytesV]
set_option maxRecDepth 1000000 in
set_option maxHeartbeats 1000000 in
theorem tree_String {lo : Nat} {w : World} {t : Tree} {tb : Nat} (hT : TabsR w) (hf : Fit t) (hs : size t ≤ 200) (h : CTree lo w t ⟨tb, 0, none⟩) :
    Calls Tryz.prog 62 #[ptr tb] w fun e w' => e = .returned (.string ⟨(prL t).toArray⟩) ∧ Below w.heap.size w w' := by
  obtain ⟨tb', ty, pa, mv, e, -, hb, hn, -⟩ := h
  injection e with e
  subst e
  obtain ⟨T, x, f, hv, hme, hcf, ha⟩ := writes_tree hT t _ hf hn
  injection hv with hv1 hv2
  injection hv2 with hv2
  subst hv1 hv2
  have hlen := len_pr t hf
  have hl2 : (prL t).length ≤ 120000 := by omega
  have hx : Below w.heap.size w (w.alloc (.cells #[.pointer none, .slice none 0 0] 197)) := (Below.refl _ _).alloc (Nat.le_refl _) _
  have hfr : Bld w.heap.size w.heap.size [] (w.alloc (.cells #[.pointer none, .slice none 0 0] 197)) := Lib.fresh_isBuilder _ _ w
  have h1 := ha w.heap.size _ [] hx hfr (by simp; omega)
  have HX : Hid _ := hx
  have c0 : w.cell? ⟨tb, 0, none⟩ = some (.iface ty (.pointer (some x))) := cell_of_heap hb rfl
  have lb := heap_lt hb
  have hcf := fun W : World => hcf #[.pointer (some x), .pointer (some ⟨w.heap.size, 0, none⟩)] W
  clear ha hn hb hx hfr hlen hT
  go_enter Tryz.func62, Tryz.ntmps62
  go_wp2_with fail
  refine h1.mono ?_
  rintro e w1 ⟨rfl, hb1, hk1⟩
  have K1 : Hid (Below w.heap.size w w1) := HX.out.trans hk1
  have h2 := Tryz.Builder_String_any w.heap.size w.heap.size (prL t) w1 (.inr (by rw [byteCells_bytes]; simpa using hb1)) K1.out.size
  clear h1 hb1 hk1
  go_wp2_with fail
  refine h2.mono ?_
  rintro e w2 ⟨rfl, hk2⟩
  have Q : Hid (Below w.heap.size w w2) := K1.out.trans hk2
  clear h2 hk2
  go_wp2
  go_ret
  exact ⟨rfl, Q.out⟩
set_option maxRecDepth 1000000 in
theorem code_String {lo : Nat} {w : World} {t : Tree} {pb : Nat} (hT : TabsR w) (hf : Fit t) (hs : size t ≤ 200) (h : CPol lo w t ⟨pb, 0, none⟩) :
    Calls Tryz.prog 38 #[ptr pb] w fun e w' => e = .returned (.string ⟨(prL t).toArray⟩) ∧ Below w.heap.size w w' := by
  obtain ⟨pb', a', e, -, h5, h6⟩ := h
  injection e with e
  subst e
  have hem := code_empty h5
  obtain ⟨tb, ty, pa, mv, rfl, r1, r2, r3⟩ := h6
  have hst := tree_String hT hf hs ⟨tb, ty, pa, mv, rfl, r1, r2, r3⟩
  have c0 : w.cell? ⟨pb, 0, none⟩ = some (ptr tb) := cell_of_heap h5 rfl
  clear h5 r1 r2 r3 hT
  go_enter Tryz.func38, Tryz.ntmps38
  go_wp2_with fail
  refine hem.mono ?_
  rintro e w' ⟨rfl, hw⟩
  have hw := hw.symm
  subst hw
  clear hem
  go_wp2_with fail
  refine hst.mono ?_
  rintro e w1 ⟨rfl, hw⟩
  have Q : Hid _ := hw
  clear hst hw
  go_wp2
  go_ret
  exact ⟨rfl, Q.out⟩
/-- The text of what was read; nothing, where nothing was. -/
def textO : Option Tree → ByteArray
  | none => ⟨#[]⟩
  | some t => ⟨(prL t).toArray⟩
set_option maxRecDepth 1000000 in
set_option maxHeartbeats 1000000 in
theorem plain_Text (s : ByteArray) {A : Nat → Addr} {w : World} (hT : TabsR w) (hA : SentsX A w) :
    Calls Tryz.prog 21 #[.string s] w fun e w' => ∃ (t : Option Tree) (f p : Nat), PRel s (t, f, p) ∧ Below w.heap.size w w' ∧ e = .returned (.string (textO t)) := by
  have hp := code_Parse s _ hT.tabs (A 0) hA.sents.g0
  have HT : Hid (TabsR w) := hT
  clear hT hA
  go_enter Tryz.func21, Tryz.ntmps21
  go_wp2_with fail
  refine hp.mono ?_
  rintro e w1 ⟨hb1, hc⟩
  have HB1 : Hid _ := hb1
  clear hp hb1
  rcases hc with ⟨h1, rfl⟩ | ⟨h1, ⟨J, b, h2, rfl, h3⟩ | ⟨t, J, a, h2, h3, rfl, h4⟩⟩
  · have HP : Hid (PRel s (none, 1, 0)) := .inl ⟨h1, rfl⟩
    clear h1
    go_wp2
    go_ret
    exact ⟨none, 1, 0, HP.out, HB1.out, rfl⟩
  · have HP : Hid (PRel s (none, 2, pl (toks s) J)) := .inr ⟨h1, by
      rcases h2 with h2 | ⟨t, h2, h4⟩
      · exact .inl ⟨J, h2, rfl⟩
      · exact .inr (.inl ⟨t, J, h2, h4, rfl⟩)⟩
    clear h1 h2 h3
    go_wp2
    go_ret
    exact ⟨none, 2, _, HP.out, HB1.out, rfl⟩
  · have HP : Hid (PRel s (some t, 0, 0)) := .inr ⟨h1, .inr (.inr ⟨t, J, h2, h3, rfl⟩)⟩
    obtain ⟨hf, hsz⟩ := read_fits h1 h2 h3
    obtain ⟨pb, a', rfl, hpr⟩ := h4
    have hst := code_String (HT.out.below HB1.out) hf hsz (⟨pb, a', rfl, hpr⟩ : CPol w.heap.size w1 t ⟨pb, 0, none⟩)
    clear h1 h2 h3 hf hsz hpr
    go_wp2_with fail
    refine hst.mono ?_
    rintro e w2 ⟨rfl, hb2⟩
    have Q : Hid (Below w.heap.size w w2) := HB1.out.trans (hb2.mono HB1.out.size)
    clear hst hb2
    go_wp2
    go_ret
    exact ⟨some t, 0, 0, HP.out, Q.out, rfl⟩
end Go.Proofs.YtihmgoahobbdkaaGreatDoor
namespace Go.Proofs.YtihmgoahobbdkaaGreatDoor
open Go.Lib

def s12 : ByteArray := ⟨#[49, 43, 50]⟩
theorem toks_alive : toks s12 = [⟨110, 0, 1⟩, ⟨43, 1, 2⟩, ⟨110, 2, 3⟩, ⟨101, 3, 3⟩] := by decide
theorem d_alive : D s12 (toks s12) .choice 0 (.ok [.bin 43 1 (.num 0 1) (.num 2 2)] 3) := by
  rw [toks_alive]
  have n0 : D s12 [⟨110, 0, 1⟩, ⟨43, 1, 2⟩, ⟨110, 2, 3⟩, ⟨101, 3, 3⟩] .minus 0 (.ok [.num 0 1] 1) := .nuGo (I := 0) rfl
  have n2 : D s12 [⟨110, 0, 1⟩, ⟨43, 1, 2⟩, ⟨110, 2, 3⟩, ⟨101, 3, 3⟩] .minus 2 (.ok [.num 2 2] 3) := .nuGo (I := 2) rfl
  refine .chOne (.cmOne (.suGo (.prGo n0 (.ptEnd (by decide))) (.stGo (by decide) (.prGo n2 (.ptEnd (by decide))) (.stEnd (by decide)))) (by decide)) (by decide)
end Go.Proofs.YtihmgoahobbdkaaGreatDoor
namespace Go.Proofs.YtihmgoahobbdkaaGreatDoor
open Go.RowKit Go.Lib

theorem alive_prel : PRel s12 (some (.bin 43 1 (.num 0 1) (.num 2 2)), 0, 0) := .inr ⟨by decide, .inr (.inr ⟨_, 3, d_alive, by rw [toks_alive]; rfl, rfl⟩)⟩
theorem alive_what : whatO (some (.bin 43 1 (.num 0 1) (.num 2 2))) = .agg #[.bool true, .bool true, .bool false, .int .i64 3, .int .i64 0, .int .i64 0, .int .i64 0, .string { data := #[] }] := by
  simp only [whatO]
  rw [if_pos (by simp [asks])]
  have e : ev envP (.bin 43 1 (.num 0 1) (.num 2 2)) () = (.val 3, ()) := by
    simp only [ev]
    rw [if_neg (by decide)]
    rfl
  rw [e]
  rfl
set_option maxRecDepth 1000000 in
set_option maxHeartbeats 1000000 in
theorem keep_alive {A : Nat → Addr} {w : World} (hT : TabsR w) (hA : SentsX A w) : Calls Tryz.prog 20 #[] w fun e w' => e = .returned (.bool true) ∧ Below w.heap.size w w' := by
  have hw : Calls Tryz.prog 22 #[.string ⟨#[49, 43, 50]⟩] w fun e w' => e = .returned (.agg #[.bool true, .bool true, .bool false, .int .i64 3, .int .i64 0, .int .i64 0, .int .i64 0, .string { data := #[] }]) ∧ Below w.heap.size w w' := by
    refine (plain_What s12 hT hA).mono ?_
    rintro e w' ⟨t, f, p, h1, h2, rfl⟩
    have q := h1.det alive_prel
    injection q with q
    subst q
    exact ⟨by rw [alive_what], h2⟩
  clear hT hA
  go_enter Tryz.func20, Tryz.ntmps20
  go_wp2_with fail
  refine hw.mono ?_
  rintro e w1 ⟨rfl, hb⟩
  have HB : Hid _ := hb
  clear hw hb
  go_wp2
  go_ret
  exact ⟨rfl, HB.out.alloc HB.out.size _⟩
end Go.Proofs.YtihmgoahobbdkaaGreatDoor
namespace Go.Proofs.YtihmgoahobbdkaaGreatDoor

def Res.up (o : Nat) : Res → Res
  | .val n => .val n
  | .held p y => .held (o + p) y
section
variable {σ : Type}
def upR (o : Nat) (r : Res × σ) : Res × σ := (r.1.up o, r.2)
theorem onVal_up {o : Nat} {m m' : σ → Res × σ} {k k' : Int → σ → Res × σ} (hm : ∀ s, m' s = upR o (m s)) (hk : ∀ n s, k' n s = upR o (k n s)) (s : σ) : onVal m' k' s = upR o (onVal m k s) := by
  unfold onVal
  rw [hm s]
  obtain ⟨r, s1⟩ := m s
  cases r with
  | val n => exact hk n s1
  | held p y => rfl
theorem onBoth_up {o : Nat} {m m' p p' : σ → Res × σ} {k k' : Int → Int → σ → Res × σ} (hm : ∀ s, m' s = upR o (m s)) (hp : ∀ s, p' s = upR o (p s)) (hk : ∀ x y s, k' x y s = upR o (k x y s)) (s : σ) : onBoth m' p' k' s = upR o (onBoth m p k s) :=
  onVal_up hm (fun x s => onVal_up hp (fun y s => hk x y s) s) s
theorem measured_up (o p : Nat) (r : Found × σ) : measured (o + p) r = upR o (measured p r) := by
  obtain ⟨r, s⟩ := r
  cases r <;> rfl
theorem probed_up (o p : Nat) (r : PFound × σ) : probed (o + p) r = upR o (probed p r) := by
  obtain ⟨r, s⟩ := r
  cases r <;> rfl
mutual
theorem ev_up (E : Env σ) (o : Nat) : ∀ t s, ev E (t.up o) s = upR o (ev E t s)
  | .num _ _, s => by simp [Tree.up, ev, upR, Res.up]
  | .neg _ a, s => by
    simp only [Tree.up, ev]
    refine onVal_up (ev_up E o a) (fun n s => ?_) s
    rfl
  | .bin k p a b, s => by
    simp only [Tree.up, ev]
    split
    · refine onBoth_up (ev_up E o a) (ev_up E o b) (fun x y s => ?_) s
      unfold upR
      split <;> rfl
    · refine onBoth_up (ev_up E o a) (ev_up E o b) (fun x y s => ?_) s
      rfl
  | .ite _ a b c, s => by
    simp only [Tree.up, ev]
    refine onVal_up (ev_up E o a) (fun n s => ?_) s
    split
    · exact ev_up E o b s
    · exact ev_up E o c s
  | .meas p wd m n, s => by
    simp only [Tree.up, ev]
    split
    · rfl
    · exact measured_up o p _
  | .probe p wd ts, s => by
    simp only [Tree.up, ev]
    exact evAll_up E o ts (fun xs s => probed_up o p _) s
theorem evAll_up (E : Env σ) (o : Nat) : ∀ (ts : List Tree) {k k' : List Int → σ → Res × σ}, (∀ xs s, k' xs s = upR o (k xs s)) → ∀ s, onAll (evAll E (ups o ts)) k' s = upR o (onAll (evAll E ts) k s)
  | [], k, k', hk, s => by simp only [ups, evAll, onAll]; exact hk [] s
  | t :: ts, k, k', hk, s => by
    simp only [ups, evAll, onAll]
    exact onVal_up (ev_up E o t) (fun x s => evAll_up E o ts (fun xs s => hk (x :: xs) s) s) s
end
end
mutual
theorem asks_up (o : Nat) : ∀ t : Tree, asks (t.up o) = (asks t).map fun q => (o + q.1, q.2)
  | .num _ _ => by simp [Tree.up, asks]
  | .neg _ a => by simp [Tree.up, asks, asks_up o a]
  | .bin _ _ a b => by simp [Tree.up, asks, asks_up o a, asks_up o b]
  | .ite _ a b c => by simp [Tree.up, asks, asks_up o a, asks_up o b, asks_up o c]
  | .meas _ _ _ _ => by simp [Tree.up, asks]
  | .probe _ _ ts => by simp [Tree.up, asks, asksAll_up o ts]
theorem asksAll_up (o : Nat) : ∀ ts : List Tree, asksAll (ups o ts) = (asksAll ts).map fun q => (o + q.1, q.2)
  | [] => by simp [ups, asksAll]
  | t :: ts => by simp [ups, asksAll, asks_up o t, asksAll_up o ts]
end
end Go.Proofs.YtihmgoahobbdkaaGreatDoor
