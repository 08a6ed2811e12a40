/-
  plain.What, WALKED.
-/
import Derived.Test.YtaghcjpoihkpjaaGreatDoorJ34
import Derived.Test.YtaghcjpoihkpjaaGreatDoorJ36
import Derived.Test.YtaghcjpoihkpjaaGreatDoorJ1
import Derived.RowKit
namespace Go.Proofs.YtaghcjpoihkpjaaGreatDoor
open Go.RowKit Go.Lib

/-! What a value or a reason is told as, part by part. -/
def resN : Res → Int
  | .val n => n
  | .held _ _ => 0
def resE : Res → Int
  | .val _ => 0
  | .held _ .divide => 8
  | .held _ .noData => 9
  | .held _ .failed => 10
  | .held _ (.panic _) => 11
def resP : Res → Int
  | .val _ => 0
  | .held p _ => (p : Int)
def resM : Res → Int
  | .held _ (.panic n) => n
  | _ => 0
def toldV (r : Res) : Value := .agg #[.int .i64 (resE r), .int .i64 (resP r), .int .i64 (resM r), .string { data := #[] }]
/-- An Outcome. -/
def outV (po pr br : Bool) (n : Int) (r : Res) : Value := .agg #[.bool po, .bool pr, .bool br, .int .i64 n, .int .i64 (resE r), .int .i64 (resP r), .int .i64 (resM r), .string { data := #[] }]
/-- An error beside a value: nil, or one that is told as it should. -/
def ErrIs (w : World) (r : Res) (iv : Value) : Prop :=
  ((∃ n, r = .val n ∧ iv = .nilIface) ∨ (∃ p y T x, r = .held p y ∧ iv = .iface T x)) ∧ ∀ w', Below w.heap.size w w' → Calls Tryz.prog 21 #[iv] w' fun e w2 => e = .returned (toldV r) ∧ Below w'.heap.size w' w2
theorem EvR.told {σ : Type} {A : Nat → Addr} {S : σ → World → Prop} {r : Res} {s : σ} {w : World} {e : Ending} (h : EvR A S (r, s) w e) (hs : SentsX A w) : ∃ iv, e = .returned (.tuple #[.int .i64 (resN r), iv]) ∧ ErrIs w r iv ∧ S s w := by
  cases r with
  | val n => exact ⟨.nilIface, h.1, ⟨.inl ⟨n, rfl, rfl⟩, fun w' _ => of_nil4 w'⟩, h.2.2⟩
  | held p y =>
    obtain ⟨b, T, x, h1, h2, h3, h4⟩ := h
    refine ⟨_, h1, ⟨.inr ⟨p, y, _, _, rfl, rfl⟩, fun w' hb => ?_⟩, h4⟩
    have := of_hold (hs.below hb) (((hb.block b (heap_lt h2)).trans h2 : HoldAt w' b p T x)) (h3.below hb)
    refine this.mono ?_
    rintro e w2 ⟨rfl, hb2⟩
    refine ⟨?_, hb2⟩
    cases y <;> rfl
/-- A probe that plain.some has. -/
def haveS (s : ByteArray) : Bool := decide (s = wMax) || decide (s = wBoom) || decide (s = wSeven)
theorem there_have (s : ByteArray) : thereP someF s ↔ haveS s = true := by
  unfold thereP someF haveS
  by_cases h1 : s = wMax
  · subst h1; simp
  · by_cases h2 : s = wBoom
    · subst h2; simp [h1]
    · by_cases h3 : s = wSeven
      · subst h3; simp [h1, h2]
      · simp [h1, h2, h3]
/-- What a text comes to. -/
def whatO : Option Tree → Value
  | none => outV false false false 0 (.val 0)
  | some t => if (asks t).all (fun q => haveS q.2) = true then outV true true false (resN (ev envP t ()).1) (ev envP t ()).1 else outV true false false 0 (.val 0)
theorem look_all {w0 : World} : (match envP.look with | none => (Value.func (.func 20) #[] #[]) = .nilFunc | some l => LookOk (SB w0) 0 (.func (.func 20) #[] #[]) l) := look_ok (SB w0) 0
set_option maxRecDepth 1000000 in
set_option maxHeartbeats 4000000 in
theorem plain_What (s : ByteArray) {A : Nat → Addr} {w : World} (hT : TabsR w) (hA : SentsX A w) :
    Calls Tryz.prog 8 #[.string s] w fun e w' => ∃ (t : Option Tree) (f p : Nat), PRel s (t, f, p) ∧ Below w.heap.size w w' ∧ e = .returned (whatO t) := by
  have hx : Below w.heap.size w (w.alloc (.cells #[.bool false, .bool false, .bool false, .int .i64 0, .int .i64 0, .int .i64 0, .int .i64 0, .string { data := #[] }] 26)) := (Below.refl _ _).alloc (Nat.le_refl _) _
  have hrb : (w.alloc (.cells #[.bool false, .bool false, .bool false, .int .i64 0, .int .i64 0, .int .i64 0, .int .i64 0, .string { data := #[] }] 26)).heap[w.heap.size]? = some (.cells #[.bool false, .bool false, .bool false, .int .i64 0, .int .i64 0, .int .i64 0, .int .i64 0, .string { data := #[] }] 26 (0, 0)) := heap_alloc_new _ _
  have hA0 := hA.below hx
  have hp := code_Parse s _ (hT.tabs.below hx) (A 0) hA0.sents.g0
  have HX : Hid _ := And.intro hx (And.intro (hT.below hx) (And.intro hA0 hrb))
  have HA : Hid (SentsX A w) := hA
  have LW : Hid (0 < w.heap.size) := Nat.lt_of_le_of_lt (Nat.zero_le _) (World.block_lt_of_cell? _ _ hA.etype)
  clear hT hA hx hrb hA0
  go_enter Tryz.func8, Tryz.ntmps8
  go_wp2_with fail
  refine hp.mono ?_
  rintro e w1 ⟨hb1, hc⟩
  have HB1 : Hid (Below w.heap.size w w1) := HX.out.1.trans (hb1.mono HX.out.1.size)
  have HBX : Hid _ := hb1
  have RB1 : Hid (w1.heap[w.heap.size]? = _) := (hb1.block _ (heap_lt HX.out.2.2.2)).trans HX.out.2.2.2
  clear hp hb1
  rcases hc with ⟨h1, rfl⟩ | ⟨h1, ⟨J, b, h2, rfl, h3⟩ | ⟨t, J, a, h2, h3, rfl, h4⟩⟩
  · have HP : Hid (PRel s (none, 1, 0)) := .inl ⟨h1, rfl⟩
    clear h1
    have rc0 := cell_of_heap (i := 0) (v := .bool false) RB1.out rfl
    have rc1 := cell_of_heap (i := 1) (v := .bool false) RB1.out rfl
    have rc2 := cell_of_heap (i := 2) (v := .bool false) RB1.out rfl
    have rc3 := cell_of_heap (i := 3) (v := .int .i64 0) RB1.out rfl
    have rc4 := cell_of_heap (i := 4) (v := .int .i64 0) RB1.out rfl
    have rc5 := cell_of_heap (i := 5) (v := .int .i64 0) RB1.out rfl
    have rc6 := cell_of_heap (i := 6) (v := .int .i64 0) RB1.out rfl
    have rc7 := cell_of_heap (i := 7) (v := .string { data := #[] }) RB1.out rfl
    have rz0 := frozen_of_heap (i := 0) RB1.out
    have rz1 := frozen_of_heap (i := 1) RB1.out
    have rz2 := frozen_of_heap (i := 2) RB1.out
    have rz3 := frozen_of_heap (i := 3) RB1.out
    have rz4 := frozen_of_heap (i := 4) RB1.out
    have rz5 := frozen_of_heap (i := 5) RB1.out
    have rz6 := frozen_of_heap (i := 6) RB1.out
    have rz7 := frozen_of_heap (i := 7) RB1.out
    go_wp2
    refine bodyPost_ret (v := outV false false false 0 (.val 0)) (by simp [outV, resE, resP, resM, results, Tryz.results8, go_sem, rc0, rc1, rc2, rc3, rc4, rc5, rc6, rc7]) rfl ?_
    exact ⟨none, 1, 0, HP.out, (by (iterate 8 (refine Below.setCell ?_ (by exact Nat.le_refl _) _)); exact HB1.out), rfl⟩
  · have HP : Hid (PRel s (none, 2, pl (toks s) J)) := .inr ⟨h1, by
      rcases h2 with h2 | ⟨t, h2, h4⟩
      · exact .inl ⟨J, h2, rfl⟩
      · exact .inr (.inl ⟨t, J, h2, h4, rfl⟩)⟩
    clear h1 h2 h3
    have rc0 := cell_of_heap (i := 0) (v := .bool false) RB1.out rfl
    have rc1 := cell_of_heap (i := 1) (v := .bool false) RB1.out rfl
    have rc2 := cell_of_heap (i := 2) (v := .bool false) RB1.out rfl
    have rc3 := cell_of_heap (i := 3) (v := .int .i64 0) RB1.out rfl
    have rc4 := cell_of_heap (i := 4) (v := .int .i64 0) RB1.out rfl
    have rc5 := cell_of_heap (i := 5) (v := .int .i64 0) RB1.out rfl
    have rc6 := cell_of_heap (i := 6) (v := .int .i64 0) RB1.out rfl
    have rc7 := cell_of_heap (i := 7) (v := .string { data := #[] }) RB1.out rfl
    have rz0 := frozen_of_heap (i := 0) RB1.out
    have rz1 := frozen_of_heap (i := 1) RB1.out
    have rz2 := frozen_of_heap (i := 2) RB1.out
    have rz3 := frozen_of_heap (i := 3) RB1.out
    have rz4 := frozen_of_heap (i := 4) RB1.out
    have rz5 := frozen_of_heap (i := 5) RB1.out
    have rz6 := frozen_of_heap (i := 6) RB1.out
    have rz7 := frozen_of_heap (i := 7) RB1.out
    go_wp2
    refine bodyPost_ret (v := outV false false false 0 (.val 0)) (by simp [outV, resE, resP, resM, results, Tryz.results8, go_sem, rc0, rc1, rc2, rc3, rc4, rc5, rc6, rc7]) rfl ?_
    exact ⟨none, 2, _, HP.out, (by (iterate 8 (refine Below.setCell ?_ (by exact Nat.le_refl _) _)); exact HB1.out), rfl⟩
  · have HP : Hid (PRel s (some t, 0, 0)) := .inr ⟨h1, .inr (.inr ⟨t, J, h2, h3, rfl⟩)⟩
    obtain ⟨hf, hsz⟩ := read_fits h1 h2 h3
    obtain ⟨pb, a', rfl, hpr⟩ := h4
    have h4 : CPol (w.heap.size + 1) w1 t ⟨pb, 0, none⟩ := by
      have : CPol _ w1 t ⟨pb, 0, none⟩ := ⟨pb, a', rfl, hpr⟩
      simpa using this
    have hc1 := code_Code hf hsz h4
    have HF : Hid _ := And.intro hf hsz
    clear h1 h2 h3 hf hsz hpr h4
    go_wp2_with fail
    refine hc1.mono ?_
    rintro e w2 ⟨c, rfl, ho2, hb2⟩
    have hso := plain_some w2
    have O2 : Hid _ := And.intro ho2 hb2
    obtain ⟨ca, cp, rfl⟩ := owns_len ho2
    clear hc1 ho2 hb2
    go_wp2_with fail
    refine hso.mono ?_
    rintro e w3 ⟨hb3, rfl, hm3⟩
    have B03 : Hid (Below w.heap.size w w3) := (HB1.out.trans (O2.out.2.mono HB1.out.size)).trans (hb3.mono (Nat.le_trans HB1.out.size O2.out.2.size))
    have BX3 := HBX.out.trans ((O2.out.2.trans (hb3.mono O2.out.2.size)).mono HBX.out.size)
    have hO3 : Out8 w1.heap.size w3 (.slice ca (enc t).length cp) (enc t) := O2.out.1.keep fun g _ lt => hb3.block g lt
    have hld := load_enc (HX.out.2.1.below BX3) (HX.out.2.2.1.below BX3).sents HF.out.1 HF.out.2 hO3.rest (pv := .map (some w2.heap.size)) (F := someF) ⟨.inr ⟨_, rfl, hm3⟩, fun _ _ h => someF_func h⟩
    have RB3 : Hid (w3.heap[w.heap.size]? = some (.cells #[.bool false, .bool false, .bool false, .int .i64 0, .int .i64 0, .int .i64 0, .int .i64 0, .string { data := #[] }] 26 (0, 0))) := (hb3.block _ (by have := heap_lt RB1.out; have := O2.out.2.size; omega)).trans ((O2.out.2.block _ (heap_lt RB1.out)).trans RB1.out)
    clear hso hb3 hm3 BX3 hO3
    go_wp2_with fail
    refine hld.mono ?_
    rintro e w4 ⟨hb4, gv, iv, rfl, hgot⟩
    have B04 : Hid (Below w.heap.size w w4) := B03.out.trans (hb4.mono B03.out.size)
    have RB4 : Hid (w4.heap[w.heap.size]? = some (.cells #[.bool false, .bool false, .bool false, .int .i64 0, .int .i64 0, .int .i64 0, .int .i64 0, .string { data := #[] }] 26 (0, 0))) := (hb4.block _ (heap_lt RB3.out)).trans RB3.out
    have L3 : Hid (0 < w3.heap.size) := Nat.lt_of_lt_of_le LW.out B03.out.size
    clear hld hb4
    rcases hgot with ⟨hall, b, rfl, rfl, hpb⟩ | ⟨i, q, b, hq1, hq2, hq3, rfl, rfl, hq4⟩
    · have hev := code_Eval (A := A) (S := SB w) (R := 0) (N := w.heap.size) (E := envP) (s := ()) (u := bare t) (by rw [asks_bare]; exact hpb) (fit_bare t HF.out.1) (SB.stable w) (fun _ _ h => (HA.out.below h).sents) (Nat.lt_of_lt_of_le LW.out B04.out.size) L3.out look_all
        (fun q hq => by rw [asks_bare] at hq; obtain ⟨fv, a1, a2, -⟩ := someF_probe (SB w) 0 w.heap.size (hall q hq); exact ⟨fv, a1, a2⟩) B04.out
      rw [ev_bare] at hev
      have HALL : Hid ((asks t).all (fun q => haveS q.2) = true) := List.all_eq_true.2 fun q hq => (there_have q.2).1 (hall q hq)
      clear hall hpb
      go_wp2_with fail
      refine hev.mono ?_
      rintro e w5 ⟨hk5, he5⟩
      generalize hr : ev envP t () = r at he5
      have HR : Hid _ := hr
      obtain ⟨r, u⟩ := r
      obtain ⟨iv, rfl, hei, hs5⟩ := he5.told (HA.out.below (by
        cases r with
        | val n => exact he5.2.2
        | held p y => obtain ⟨b, T, x, -, -, -, h4⟩ := he5; exact h4))
      have B05 : Hid (Below w.heap.size w w5) := hs5
      have RB5 : Hid (w5.heap[w.heap.size]? = some (.cells #[.bool false, .bool false, .bool false, .int .i64 0, .int .i64 0, .int .i64 0, .int .i64 0, .string { data := #[] }] 26 (0, 0))) := hk5.heap RB4.out (by have := LW.out; omega)
      have hof := hei.2 w5 (Below.refl _ _)
      unfold toldV at hof
      clear hev hk5 he5 hei hs5 hr
      go_wp2_with fail
      refine hof.mono ?_
      rintro e w6 ⟨rfl, hb6⟩
      have B06 : Hid (Below w.heap.size w w6) := B05.out.trans (hb6.mono B05.out.size)
      have RB6 := (hb6.block _ (heap_lt RB5.out)).trans RB5.out
      have rc0 := cell_of_heap (i := 0) (v := .bool false) RB6 rfl
      have rc1 := cell_of_heap (i := 1) (v := .bool false) RB6 rfl
      have rc2 := cell_of_heap (i := 2) (v := .bool false) RB6 rfl
      have rc3 := cell_of_heap (i := 3) (v := .int .i64 0) RB6 rfl
      have rc4 := cell_of_heap (i := 4) (v := .int .i64 0) RB6 rfl
      have rc5 := cell_of_heap (i := 5) (v := .int .i64 0) RB6 rfl
      have rc6 := cell_of_heap (i := 6) (v := .int .i64 0) RB6 rfl
      have rc7 := cell_of_heap (i := 7) (v := .string { data := #[] }) RB6 rfl
      have rz0 := frozen_of_heap (i := 0) RB6
      have rz1 := frozen_of_heap (i := 1) RB6
      have rz2 := frozen_of_heap (i := 2) RB6
      have rz3 := frozen_of_heap (i := 3) RB6
      have rz4 := frozen_of_heap (i := 4) RB6
      have rz5 := frozen_of_heap (i := 5) RB6
      have rz6 := frozen_of_heap (i := 6) RB6
      have rz7 := frozen_of_heap (i := 7) RB6
      clear RB6 hof hb6
      go_wp2
      refine bodyPost_ret (v := outV true true false (resN r) r) (by simp [outV, resE, resP, resM, results, Tryz.results8, go_sem, rc0, rc1, rc2, rc3, rc4, rc5, rc6, rc7]) rfl ?_
      refine ⟨some t, 0, 0, HP.out, (by (iterate 8 (refine Below.setCell ?_ (by exact Nat.le_refl _) _)); exact B06.out), ?_⟩
      simp only [whatO]
      rw [if_pos HALL.out, HR.out]
    · have HALL : Hid (¬ (asks t).all (fun q => haveS q.2) = true) := fun h => hq3 ((there_have q.2).2 (List.all_eq_true.1 h q (List.mem_of_getElem? hq1)))
      clear hq1 hq2 hq3 hq4
      have rc0 := cell_of_heap (i := 0) (v := .bool false) RB4.out rfl
      have rc1 := cell_of_heap (i := 1) (v := .bool false) RB4.out rfl
      have rc2 := cell_of_heap (i := 2) (v := .bool false) RB4.out rfl
      have rc3 := cell_of_heap (i := 3) (v := .int .i64 0) RB4.out rfl
      have rc4 := cell_of_heap (i := 4) (v := .int .i64 0) RB4.out rfl
      have rc5 := cell_of_heap (i := 5) (v := .int .i64 0) RB4.out rfl
      have rc6 := cell_of_heap (i := 6) (v := .int .i64 0) RB4.out rfl
      have rc7 := cell_of_heap (i := 7) (v := .string { data := #[] }) RB4.out rfl
      have rz0 := frozen_of_heap (i := 0) RB4.out
      have rz1 := frozen_of_heap (i := 1) RB4.out
      have rz2 := frozen_of_heap (i := 2) RB4.out
      have rz3 := frozen_of_heap (i := 3) RB4.out
      have rz4 := frozen_of_heap (i := 4) RB4.out
      have rz5 := frozen_of_heap (i := 5) RB4.out
      have rz6 := frozen_of_heap (i := 6) RB4.out
      have rz7 := frozen_of_heap (i := 7) RB4.out
      go_wp2
      refine bodyPost_ret (v := outV true false false 0 (.val 0)) (by simp [outV, resE, resP, resM, results, Tryz.results8, go_sem, rc0, rc1, rc2, rc3, rc4, rc5, rc6, rc7]) rfl ?_
      refine ⟨some t, 0, 0, HP.out, (by (iterate 8 (refine Below.setCell ?_ (by exact Nat.le_refl _) _)); exact B04.out), ?_⟩
      simp only [whatO]
      rw [if_neg HALL.out]
end Go.Proofs.YtaghcjpoihkpjaaGreatDoor
namespace Go.Proofs.YtaghcjpoihkpjaaGreatDoor
open Go.Lib

def s12 : ByteArray := ⟨#[49, 43, 50]⟩
theorem toks_alive : toks s12 = [⟨110, 0, 1⟩, ⟨43, 1, 2⟩, ⟨110, 2, 3⟩, ⟨101, 3, 3⟩] := by decide
theorem d_alive : D s12 (toks s12) .choice 0 (.ok [.bin 43 1 (.num 0 1) (.num 2 2)] 3) := by
  rw [toks_alive]
  have n0 : D s12 [⟨110, 0, 1⟩, ⟨43, 1, 2⟩, ⟨110, 2, 3⟩, ⟨101, 3, 3⟩] .minus 0 (.ok [.num 0 1] 1) := .nuGo (I := 0) rfl
  have n2 : D s12 [⟨110, 0, 1⟩, ⟨43, 1, 2⟩, ⟨110, 2, 3⟩, ⟨101, 3, 3⟩] .minus 2 (.ok [.num 2 2] 3) := .nuGo (I := 2) rfl
  refine .chOne (.cmOne (.suGo (.prGo n0 (.ptEnd (by decide))) (.stGo (by decide) (.prGo n2 (.ptEnd (by decide))) (.stEnd (by decide)))) (by decide)) (by decide)
end Go.Proofs.YtaghcjpoihkpjaaGreatDoor
namespace Go.Proofs.YtaghcjpoihkpjaaGreatDoor
open Go.RowKit Go.Lib

theorem alive_prel : PRel s12 (some (.bin 43 1 (.num 0 1) (.num 2 2)), 0, 0) := .inr ⟨by decide, .inr (.inr ⟨_, 3, d_alive, by rw [toks_alive]; rfl, rfl⟩)⟩
theorem alive_what : whatO (some (.bin 43 1 (.num 0 1) (.num 2 2))) = .agg #[.bool true, .bool true, .bool false, .int .i64 3, .int .i64 0, .int .i64 0, .int .i64 0, .string { data := #[] }] := by
  simp only [whatO]
  rw [if_pos (by simp [asks])]
  have e : ev envP (.bin 43 1 (.num 0 1) (.num 2 2)) () = (.val 3, ()) := by
    simp only [ev]
    rw [if_neg (by decide)]
    rfl
  rw [e]
  rfl
set_option maxRecDepth 1000000 in
set_option maxHeartbeats 1000000 in
theorem keep_alive {A : Nat → Addr} {w : World} (hT : TabsR w) (hA : SentsX A w) : Calls Tryz.prog 7 #[] w fun e w' => e = .returned (.bool true) ∧ Below w.heap.size w w' := by
  have hw : Calls Tryz.prog 8 #[.string ⟨#[49, 43, 50]⟩] w fun e w' => e = .returned (.agg #[.bool true, .bool true, .bool false, .int .i64 3, .int .i64 0, .int .i64 0, .int .i64 0, .string { data := #[] }]) ∧ Below w.heap.size w w' := by
    refine (plain_What s12 hT hA).mono ?_
    rintro e w' ⟨t, f, p, h1, h2, rfl⟩
    have q := h1.det alive_prel
    injection q with q
    subst q
    exact ⟨by rw [alive_what], h2⟩
  clear hT hA
  go_enter Tryz.func7, Tryz.ntmps7
  go_wp2_with fail
  refine hw.mono ?_
  rintro e w1 ⟨rfl, hb⟩
  have HB : Hid _ := hb
  clear hw hb
  go_wp2
  go_ret
  exact ⟨rfl, HB.out.alloc HB.out.size _⟩
end Go.Proofs.YtaghcjpoihkpjaaGreatDoor
