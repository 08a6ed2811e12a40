/-
  plain.What, WALKED.
-/
import Derived.Test.YtihmgoahobbdkaaGreatDoorJE34
import Derived.Test.YtihmgoahobbdkaaGreatDoorJE35
import Derived.Test.YtihmgoahobbdkaaGreatDoorJE39
import Derived.Deep.QuietTactic
import Derived.BigQuiet
namespace Go.Proofs.YtihmgoahobbdkaaGreatDoor
open Go.RowKit Go.Lib

/-! What a value or a reason is told as, part by part. -/
def resN : Res → Int
  | .val n => n
  | .held _ _ => 0
def resE : Res → Int
  | .val _ => 0
  | .held _ .divide => 8
  | .held _ .noData => 9
  | .held _ .failed => 10
  | .held _ (.panic _) => 11
def resP : Res → Int
  | .val _ => 0
  | .held p _ => (p : Int)
def resM : Res → Int
  | .held _ (.panic n) => n
  | _ => 0
def toldV (r : Res) : Value := .agg #[.int .i64 (resE r), .int .i64 (resP r), .int .i64 (resM r), .string { data := #[] }]
/-- An Outcome. -/
def outV (po pr br : Bool) (n : Int) (r : Res) : Value := .agg #[.bool po, .bool pr, .bool br, .int .i64 n, .int .i64 (resE r), .int .i64 (resP r), .int .i64 (resM r), .string { data := #[] }]
/-- An error beside a value: nil, or one that is told as it should. -/
def ErrIs (w : World) (r : Res) (iv : Value) : Prop :=
  ((∃ n, r = .val n ∧ iv = .nilIface) ∨ (∃ p y T x, r = .held p y ∧ iv = .iface T x)) ∧ ∀ w', Below w.heap.size w w' → Calls Tryz.prog 24 #[iv] w' fun e w2 => e = .returned (toldV r) ∧ Below w'.heap.size w' w2
theorem EvR.told {σ : Type} {A : Nat → Addr} {S : σ → World → Prop} {r : Res} {s : σ} {w : World} {e : Ending} (h : EvR A S (r, s) w e) (hs : SentsX A w) : ∃ iv, e = .returned (.tuple #[.int .i64 (resN r), iv]) ∧ ErrIs w r iv ∧ S s w := by
  cases r with
  | val n => exact ⟨.nilIface, h.1, ⟨.inl ⟨n, rfl, rfl⟩, fun w' _ => of_nil4 w'⟩, h.2.2⟩
  | held p y =>
    obtain ⟨b, T, x, h1, h2, h3, h4⟩ := h
    refine ⟨_, h1, ⟨.inr ⟨p, y, _, _, rfl, rfl⟩, fun w' hb => ?_⟩, h4⟩
    have := of_hold (hs.below hb) (((hb.block b (heap_lt h2)).trans h2 : HoldAt w' b p T x)) (h3.below hb)
    refine this.mono ?_
    rintro e w2 ⟨rfl, hb2⟩
    refine ⟨?_, hb2⟩
    cases y <;> rfl
/-- A probe that plain.some has. -/
def haveS (s : ByteArray) : Bool := decide (s = wMax) || decide (s = wBoom) || decide (s = wSeven)
theorem there_have (s : ByteArray) : thereP someF s ↔ haveS s = true := by
  unfold thereP someF haveS
  by_cases h1 : s = wMax
  · subst h1; simp
  · by_cases h2 : s = wBoom
    · subst h2; simp [h1]
    · by_cases h3 : s = wSeven
      · subst h3; simp [h1, h2]
      · simp [h1, h2, h3]
/-- What a text comes to. -/
def whatO : Option Tree → Value
  | none => outV false false false 0 (.val 0)
  | some t => if (asks t).all (fun q => haveS q.2) = true then outV true true false (resN (ev envP t ()).1) (ev envP t ()).1 else outV true false false 0 (.val 0)
theorem look_all {w0 : World} : (match envP.look with | none => (Value.func (.func 40) #[] #[]) = .nilFunc | some l => LookOk (SB w0) 0 (.func (.func 40) #[] #[]) l) := look_ok (SB w0) 0
set_option maxRecDepth 1000000 in
set_option maxHeartbeats 4000000 in
theorem plain_What (s : ByteArray) {A : Nat → Addr} {w : World} (hT : TabsR w) (hA : SentsX A w) :
    Calls Tryz.prog 22 #[.string s] w fun e w' => ∃ (t : Option Tree) (f p : Nat), PRel s (t, f, p) ∧ Below w.heap.size w w' ∧ e = .returned (whatO t) := by
  have hx : Below w.heap.size w (w.alloc (.cells #[.bool false, .bool false, .bool false, .int .i64 0, .int .i64 0, .int .i64 0, .int .i64 0, .string { data := #[] }] 56)) := (Below.refl _ _).alloc (Nat.le_refl _) _
  have hrb : (w.alloc (.cells #[.bool false, .bool false, .bool false, .int .i64 0, .int .i64 0, .int .i64 0, .int .i64 0, .string { data := #[] }] 56)).heap[w.heap.size]? = some (.cells #[.bool false, .bool false, .bool false, .int .i64 0, .int .i64 0, .int .i64 0, .int .i64 0, .string { data := #[] }] 56 (0, 0)) := heap_alloc_new _ _
  have hA0 := hA.below hx
  have hp := code_Parse s _ (hT.tabs.below hx) (A 0) hA0.sents.g0
  have HX : Hid _ := And.intro hx (And.intro (hT.below hx) (And.intro hA0 hrb))
  have HA : Hid (SentsX A w) := hA
  have LW : Hid (0 < w.heap.size) := Nat.lt_of_le_of_lt (Nat.zero_le _) (World.block_lt_of_cell? _ _ hA.etype)
  clear hT hA hx hrb hA0
  go_enter Tryz.func22, Tryz.ntmps22
  go_wp2_with fail
  refine hp.mono ?_
  rintro e w1 ⟨hb1, hc⟩
  have HB1 : Hid (Below w.heap.size w w1) := HX.out.1.trans (hb1.mono HX.out.1.size)
  have HBX : Hid _ := hb1
  have RB1 : Hid (w1.heap[w.heap.size]? = _) := (hb1.block _ (heap_lt HX.out.2.2.2)).trans HX.out.2.2.2
  clear hp hb1
  rcases hc with ⟨h1, rfl⟩ | ⟨h1, ⟨J, b, h2, rfl, h3⟩ | ⟨t, J, a, h2, h3, rfl, h4⟩⟩
  · have HP : Hid (PRel s (none, 1, 0)) := .inl ⟨h1, rfl⟩
    clear h1
    have rc0 := cell_of_heap (i := 0) (v := .bool false) RB1.out rfl
    have rc1 := cell_of_heap (i := 1) (v := .bool false) RB1.out rfl
    have rc2 := cell_of_heap (i := 2) (v := .bool false) RB1.out rfl
    have rc3 := cell_of_heap (i := 3) (v := .int .i64 0) RB1.out rfl
    have rc4 := cell_of_heap (i := 4) (v := .int .i64 0) RB1.out rfl
    have rc5 := cell_of_heap (i := 5) (v := .int .i64 0) RB1.out rfl
    have rc6 := cell_of_heap (i := 6) (v := .int .i64 0) RB1.out rfl
    have rc7 := cell_of_heap (i := 7) (v := .string { data := #[] }) RB1.out rfl
    have rz0 := frozen_of_heap (i := 0) RB1.out
    have rz1 := frozen_of_heap (i := 1) RB1.out
    have rz2 := frozen_of_heap (i := 2) RB1.out
    have rz3 := frozen_of_heap (i := 3) RB1.out
    have rz4 := frozen_of_heap (i := 4) RB1.out
    have rz5 := frozen_of_heap (i := 5) RB1.out
    have rz6 := frozen_of_heap (i := 6) RB1.out
    have rz7 := frozen_of_heap (i := 7) RB1.out
    go_wp2
    refine bodyPost_ret (v := outV false false false 0 (.val 0)) (by simp [outV, resE, resP, resM, results, Tryz.results22, go_sem, rc0, rc1, rc2, rc3, rc4, rc5, rc6, rc7]) rfl ?_
    exact ⟨none, 1, 0, HP.out, (by (iterate 8 (refine Below.setCell ?_ (by exact Nat.le_refl _) _)); exact HB1.out), rfl⟩
  · have HP : Hid (PRel s (none, 2, pl (toks s) J)) := .inr ⟨h1, by
      rcases h2 with h2 | ⟨t, h2, h4⟩
      · exact .inl ⟨J, h2, rfl⟩
      · exact .inr (.inl ⟨t, J, h2, h4, rfl⟩)⟩
    clear h1 h2 h3
    have rc0 := cell_of_heap (i := 0) (v := .bool false) RB1.out rfl
    have rc1 := cell_of_heap (i := 1) (v := .bool false) RB1.out rfl
    have rc2 := cell_of_heap (i := 2) (v := .bool false) RB1.out rfl
    have rc3 := cell_of_heap (i := 3) (v := .int .i64 0) RB1.out rfl
    have rc4 := cell_of_heap (i := 4) (v := .int .i64 0) RB1.out rfl
    have rc5 := cell_of_heap (i := 5) (v := .int .i64 0) RB1.out rfl
    have rc6 := cell_of_heap (i := 6) (v := .int .i64 0) RB1.out rfl
    have rc7 := cell_of_heap (i := 7) (v := .string { data := #[] }) RB1.out rfl
    have rz0 := frozen_of_heap (i := 0) RB1.out
    have rz1 := frozen_of_heap (i := 1) RB1.out
    have rz2 := frozen_of_heap (i := 2) RB1.out
    have rz3 := frozen_of_heap (i := 3) RB1.out
    have rz4 := frozen_of_heap (i := 4) RB1.out
    have rz5 := frozen_of_heap (i := 5) RB1.out
    have rz6 := frozen_of_heap (i := 6) RB1.out
    have rz7 := frozen_of_heap (i := 7) RB1.out
    go_wp2
    refine bodyPost_ret (v := outV false false false 0 (.val 0)) (by simp [outV, resE, resP, resM, results, Tryz.results22, go_sem, rc0, rc1, rc2, rc3, rc4, rc5, rc6, rc7]) rfl ?_
    exact ⟨none, 2, _, HP.out, (by (iterate 8 (refine Below.setCell ?_ (by exact Nat.le_refl _) _)); exact HB1.out), rfl⟩
  · have HP : Hid (PRel s (some t, 0, 0)) := .inr ⟨h1, .inr (.inr ⟨t, J, h2, h3, rfl⟩)⟩
    obtain ⟨hf, hsz⟩ := read_fits h1 h2 h3
    obtain ⟨pb, a', rfl, hpr⟩ := h4
    have h4 : CPol (w.heap.size + 1) w1 t ⟨pb, 0, none⟩ := by
      have : CPol _ w1 t ⟨pb, 0, none⟩ := ⟨pb, a', rfl, hpr⟩
      simpa using this
    have hc1 := code_Code hf hsz h4
    have HF : Hid _ := And.intro hf hsz
    clear h1 h2 h3 hf hsz hpr h4
    go_wp2_with fail
    refine hc1.mono ?_
    rintro e w2 ⟨c, rfl, ho2, hb2⟩
    have hso := plain_some w2
    have O2 : Hid _ := And.intro ho2 hb2
    obtain ⟨ca, cp, rfl⟩ := owns_len ho2
    clear hc1 ho2 hb2
    go_wp2_with fail
    refine hso.mono ?_
    rintro e w3 ⟨hb3, rfl, hm3⟩
    have B03 : Hid (Below w.heap.size w w3) := (HB1.out.trans (O2.out.2.mono HB1.out.size)).trans (hb3.mono (Nat.le_trans HB1.out.size O2.out.2.size))
    have BX3 := HBX.out.trans ((O2.out.2.trans (hb3.mono O2.out.2.size)).mono HBX.out.size)
    have hO3 : Out8 w1.heap.size w3 (.slice ca (enc t).length cp) (enc t) := O2.out.1.keep fun g _ lt => hb3.block g lt
    have hld := load_enc (HX.out.2.1.below BX3) (HX.out.2.2.1.below BX3).sents HF.out.1 HF.out.2 hO3.rest (pv := .map (some w2.heap.size)) (F := someF) ⟨.inr ⟨_, rfl, hm3⟩, fun _ _ h => someF_func h⟩
    have RB3 : Hid (w3.heap[w.heap.size]? = some (.cells #[.bool false, .bool false, .bool false, .int .i64 0, .int .i64 0, .int .i64 0, .int .i64 0, .string { data := #[] }] 56 (0, 0))) := (hb3.block _ (by have := heap_lt RB1.out; have := O2.out.2.size; omega)).trans ((O2.out.2.block _ (heap_lt RB1.out)).trans RB1.out)
    clear hso hb3 hm3 BX3 hO3
    go_wp2_with fail
    refine hld.mono ?_
    rintro e w4 ⟨hb4, gv, iv, rfl, hgot⟩
    have B04 : Hid (Below w.heap.size w w4) := B03.out.trans (hb4.mono B03.out.size)
    have RB4 : Hid (w4.heap[w.heap.size]? = some (.cells #[.bool false, .bool false, .bool false, .int .i64 0, .int .i64 0, .int .i64 0, .int .i64 0, .string { data := #[] }] 56 (0, 0))) := (hb4.block _ (heap_lt RB3.out)).trans RB3.out
    have L3 : Hid (0 < w3.heap.size) := Nat.lt_of_lt_of_le LW.out B03.out.size
    clear hld hb4
    rcases hgot with ⟨hall, b, rfl, rfl, hpb⟩ | ⟨i, q, b, hq1, hq2, hq3, rfl, rfl, hq4⟩
    · have hev := code_Eval (A := A) (S := SB w) (R := 0) (N := w.heap.size) (E := envP) (s := ()) (u := bare t) (by rw [asks_bare]; exact hpb) (fit_bare t HF.out.1) (SB.stable w) (fun _ _ h => (HA.out.below h).sents) (Nat.lt_of_lt_of_le LW.out B04.out.size) L3.out look_all
        (fun q hq => by rw [asks_bare] at hq; obtain ⟨fv, a1, a2, -⟩ := someF_probe (SB w) 0 w.heap.size (hall q hq); exact ⟨fv, a1, a2⟩) B04.out
      rw [ev_bare] at hev
      have HALL : Hid ((asks t).all (fun q => haveS q.2) = true) := List.all_eq_true.2 fun q hq => (there_have q.2).1 (hall q hq)
      clear hall hpb
      go_wp2_with fail
      refine hev.mono ?_
      rintro e w5 ⟨hk5, he5⟩
      generalize hr : ev envP t () = r at he5
      have HR : Hid _ := hr
      obtain ⟨r, u⟩ := r
      obtain ⟨iv, rfl, hei, hs5⟩ := he5.told (HA.out.below (by
        cases r with
        | val n => exact he5.2.2
        | held p y => obtain ⟨b, T, x, -, -, -, h4⟩ := he5; exact h4))
      have B05 : Hid (Below w.heap.size w w5) := hs5
      have RB5 : Hid (w5.heap[w.heap.size]? = some (.cells #[.bool false, .bool false, .bool false, .int .i64 0, .int .i64 0, .int .i64 0, .int .i64 0, .string { data := #[] }] 56 (0, 0))) := hk5.heap RB4.out (by have := LW.out; omega)
      have hof := hei.2 w5 (Below.refl _ _)
      unfold toldV at hof
      clear hev hk5 he5 hei hs5 hr
      go_wp2_with fail
      refine hof.mono ?_
      rintro e w6 ⟨rfl, hb6⟩
      have B06 : Hid (Below w.heap.size w w6) := B05.out.trans (hb6.mono B05.out.size)
      have RB6 := (hb6.block _ (heap_lt RB5.out)).trans RB5.out
      have rc0 := cell_of_heap (i := 0) (v := .bool false) RB6 rfl
      have rc1 := cell_of_heap (i := 1) (v := .bool false) RB6 rfl
      have rc2 := cell_of_heap (i := 2) (v := .bool false) RB6 rfl
      have rc3 := cell_of_heap (i := 3) (v := .int .i64 0) RB6 rfl
      have rc4 := cell_of_heap (i := 4) (v := .int .i64 0) RB6 rfl
      have rc5 := cell_of_heap (i := 5) (v := .int .i64 0) RB6 rfl
      have rc6 := cell_of_heap (i := 6) (v := .int .i64 0) RB6 rfl
      have rc7 := cell_of_heap (i := 7) (v := .string { data := #[] }) RB6 rfl
      have rz0 := frozen_of_heap (i := 0) RB6
      have rz1 := frozen_of_heap (i := 1) RB6
      have rz2 := frozen_of_heap (i := 2) RB6
      have rz3 := frozen_of_heap (i := 3) RB6
      have rz4 := frozen_of_heap (i := 4) RB6
      have rz5 := frozen_of_heap (i := 5) RB6
      have rz6 := frozen_of_heap (i := 6) RB6
      have rz7 := frozen_of_heap (i := 7) RB6
      clear RB6 hof hb6
      go_wp2
      refine bodyPost_ret (v := outV true true false (resN r) r) (by simp [outV, resE, resP, resM, results, Tryz.results22, go_sem, rc0, rc1, rc2, rc3, rc4, rc5, rc6, rc7]) rfl ?_
      refine ⟨some t, 0, 0, HP.out, (by (iterate 8 (refine Below.setCell ?_ (by exact Nat.le_refl _) _)); exact B06.out), ?_⟩
      simp only [whatO]
      rw [if_pos HALL.out, HR.out]
    · have HALL : Hid (¬ (asks t).all (fun q => haveS q.2) = true) := fun h => hq3 ((there_have q.2).2 (List.all_eq_true.1 h q (List.mem_of_getElem? hq1)))
      clear hq1 hq2 hq3 hq4
      have rc0 := cell_of_heap (i := 0) (v := .bool false) RB4.out rfl
      have rc1 := cell_of_heap (i := 1) (v := .bool false) RB4.out rfl
      have rc2 := cell_of_heap (i := 2) (v := .bool false) RB4.out rfl
      have rc3 := cell_of_heap (i := 3) (v := .int .i64 0) RB4.out rfl
      have rc4 := cell_of_heap (i := 4) (v := .int .i64 0) RB4.out rfl
      have rc5 := cell_of_heap (i := 5) (v := .int .i64 0) RB4.out rfl
      have rc6 := cell_of_heap (i := 6) (v := .int .i64 0) RB4.out rfl
      have rc7 := cell_of_heap (i := 7) (v := .string { data := #[] }) RB4.out rfl
      have rz0 := frozen_of_heap (i := 0) RB4.out
      have rz1 := frozen_of_heap (i := 1) RB4.out
      have rz2 := frozen_of_heap (i := 2) RB4.out
      have rz3 := frozen_of_heap (i := 3) RB4.out
      have rz4 := frozen_of_heap (i := 4) RB4.out
      have rz5 := frozen_of_heap (i := 5) RB4.out
      have rz6 := frozen_of_heap (i := 6) RB4.out
      have rz7 := frozen_of_heap (i := 7) RB4.out
      go_wp2
      refine bodyPost_ret (v := outV true false false 0 (.val 0)) (by simp [outV, resE, resP, resM, results, Tryz.results22, go_sem, rc0, rc1, rc2, rc3, rc4, rc5, rc6, rc7]) rfl ?_
      refine ⟨some t, 0, 0, HP.out, (by (iterate 8 (refine Below.setCell ?_ (by exact Nat.le_refl _) _)); exact B04.out), ?_⟩
      simp only [whatO]
      rw [if_neg HALL.out]
end Go.Proofs.YtihmgoahobbdkaaGreatDoor
namespace Go.Proofs.YtihmgoahobbdkaaGreatDoor
open Go.RowKit Go.Lib

/-- A value as the document tells it. -/
def valV (r : Res) : Value := .agg #[.int .i64 (resN r), .int .i64 (resE r), .int .i64 (resP r), .int .i64 (resM r)]
/-- What is told comes to. -/
def resOf (p : Nat) (x : Int × Int) : Res := if x.2 = 0 then .val x.1 else if x.2 = 11 then .held p (.panic x.1) else if x.2 = 9 then .held p .noData else .held p .failed
def foundOf (x : Int × Int) : Found := if x.2 = 0 then .num x.1 else if x.2 = 11 then .pan x.1 else .nothing x.1
def pfoundOf (x : Int × Int) : PFound := if x.2 = 0 then .val x.1 else if x.2 = 11 then .pan x.1 else .fail
theorem measured_of {σ : Type} {p : Nat} {x : Int × Int} {s : σ} (h : x.2 = 0 ∨ x.2 = 9 ∨ x.2 = 11) : measured p (foundOf x, s) = (resOf p x, s) := by
  unfold foundOf resOf
  rcases h with h | h | h <;> simp [h, measured]
theorem probed_of {σ : Type} {p : Nat} {x : Int × Int} {s : σ} (h : x.2 = 0 ∨ x.2 = 10 ∨ x.2 = 11) : probed p (pfoundOf x, s) = (resOf p x, s) := by
  unfold pfoundOf resOf
  rcases h with h | h | h <;> simp [h, probed]
theorem made_e (h : Int) : (made h).2 = 0 ∨ (made h).2 = 9 ∨ (made h).2 = 11 := by
  unfold made
  repeat' split
  all_goals simp
theorem made_in {h : Int} (hh : In64 h) : In64 (made h).1 := by
  have b41 := Int.tmod_lt_of_pos h (b := 41) (by decide)
  have b42 := Int.lt_tmod_of_pos h (b := 41) (by decide)
  unfold made
  repeat' split
  · unfold In64; simp
  · exact hh
  · unfold wrap64 In64; simp only; omega
  · unfold In64; simp only; omega
theorem asked_e (nm : ByteArray) (xs : List Int) : (asked nm xs).2 = 0 ∨ (asked nm xs).2 = 10 ∨ (asked nm xs).2 = 11 := by
  unfold asked
  repeat' split
  all_goals simp
theorem asked_in (nm : ByteArray) {xs : List Int} (hx : ∀ x ∈ xs, In64 x) (hl : xs.length ≤ 900) : In64 (asked nm xs).1 := by
  unfold asked
  split
  · split
    · unfold In64; simp
    · rename_i x l
      exact tops_in (hx x (by simp)) _ hx
  · split
    · split
      · exact clip_in _
      · unfold In64; simp
    · split
      · unfold In64; simp only; omega
      · unfold In64; simp
/-- The place of a node. -/
def NodeP (w : World) (b p : Nat) : Prop := w.cell? ⟨b, 1, none⟩ = some (.int .i64 (p : Int))
set_option maxRecDepth 1000000 in
theorem ref_hold {b p : Nat} {x : Int × Int} {w : World} (hp : NodeP w b p) (hx : x.2 = 0 ∨ x.2 = 9 ∨ x.2 = 10 ∨ x.2 = 11) :
    Calls Tryz.prog 59 #[ptr b, .agg #[.int .i64 x.1, .int .i64 x.2]] w fun e w' => e = .returned (valV (resOf p x)) ∧ Below w.heap.size w w' := by
  obtain ⟨n, y⟩ := x
  simp only at hx ⊢
  have c1 : w.cell? ⟨b, 1, none⟩ = some (.int .i64 (p : Int)) := hp
  have lb := World.block_lt_of_cell? w _ c1
  simp only at lb
  rcases hx with rfl | rfl | rfl | rfl
  · go_enter Tryz.func59, Tryz.ntmps59
    go_wp2
    refine bodyPost_ret (v := valV (.val n)) (by simp [valV, resN, resE, resP, resM, results, Tryz.results59, go_sem]) rfl ?_
    refine ⟨rfl, ?_⟩
    repeat (first | exact Below.refl _ _ | refine Below.setCell ?_ (by simp) _ | refine Below.alloc ?_ (by simp) _)
  · go_enter Tryz.func59, Tryz.ntmps59
    go_wp2_with fail
    go_region
    all_goals go_wp2
    all_goals
      refine bodyPost_ret (v := valV (.held p .noData)) (by simp [valV, resN, resE, resP, resM, results, Tryz.results59, go_sem]) rfl ?_
      refine ⟨rfl, ?_⟩
      repeat (first | exact Below.refl _ _ | refine Below.drew ?_ | refine Below.setCell ?_ (by simp) _ | refine Below.alloc ?_ (by simp) _)
  · go_enter Tryz.func59, Tryz.ntmps59
    go_wp2_with fail
    go_region
    all_goals go_wp2
    all_goals
      refine bodyPost_ret (v := valV (.held p .failed)) (by simp [valV, resN, resE, resP, resM, results, Tryz.results59, go_sem]) rfl ?_
      refine ⟨rfl, ?_⟩
      repeat (first | exact Below.refl _ _ | refine Below.drew ?_ | refine Below.setCell ?_ (by simp) _ | refine Below.alloc ?_ (by simp) _)
  · go_enter Tryz.func59, Tryz.ntmps59
    go_wp2_with fail
    go_region
    all_goals go_wp2
    all_goals
      refine bodyPost_ret (v := valV (.held p (.panic n))) (by simp [valV, resN, resE, resP, resM, results, Tryz.results59, go_sem]) rfl ?_
      refine ⟨rfl, ?_⟩
      repeat (first | exact Below.refl _ _ | refine Below.drew ?_ | refine Below.setCell ?_ (by simp) _ | refine Below.alloc ?_ (by simp) _)
end Go.Proofs.YtihmgoahobbdkaaGreatDoor
namespace Go.Proofs.YtihmgoahobbdkaaGreatDoor
open Go.RowKit Go.Lib

set_option maxRecDepth 1000000 in
set_option maxHeartbeats 1000000 in
theorem ref_Probed (nm : ByteArray) {xs : List Int} {v : Value} {N : Nat} {w : World} (hx : ∀ x ∈ xs, In64 x) (hl : xs.length ≤ 900) (ho : w.ownsRow N 2 1 v xs.length (ints xs)) :
    Calls Tryz.prog 60 #[.string nm, v] w fun e w' => e = .returned (.agg #[.int .i64 (asked nm xs).1, .int .i64 (asked nm xs).2]) ∧ Below w.heap.size w w' := by
  obtain ⟨ao, cp, rfl⟩ := owns_len ho
  have HO : Hid (w.ownsRow N 2 1 (.slice ao xs.length cp) xs.length (ints xs)) := ho
  have HX : Hid _ := hx
  clear ho hx
  have at0 : ∀ (i : Nat) (x : Int), xs[i]? = some x → ∃ g, ao = some ⟨g, 0, none⟩ ∧ w.cell? ⟨g, i, none⟩ = some (.int .i64 x) := fun i x hi => by
    obtain ⟨g, e, c⟩ := owns_at HO.out (show (ints xs)[i]? = some (.int .i64 x) by simp [ints, hi])
    exact ⟨g, e, c⟩
  by_cases h1 : nm.toList = [109, 97, 120]
  · have e1 : (nm.toList == [109, 97, 120]) = true := by rw [h1]; rfl
    cases hxs : xs with
    | nil =>
      have HR : Hid (asked nm [] = (5, 10)) := by show asked nm [] = _; unfold asked; rw [if_pos h1]
      subst hxs
      clear at0
      go_enter Tryz.func60, Tryz.ntmps60
      go_wp2
      refine bodyPost_ret (v := .agg #[.int .i64 5, .int .i64 10]) (by simp [results, Tryz.results60, go_sem]) rfl ?_
      refine ⟨by rw [HR.out], ?_⟩
      repeat (first | exact Below.refl _ _ | refine Below.drew ?_ | refine below_drewN ?_ _ | refine Below.setCell ?_ (by simp) _ | refine Below.alloc ?_ (by simp) _)
    | cons x l =>
      have HR : Hid (asked nm xs = (tops x xs, 0)) := by show asked nm xs = _; unfold asked; rw [if_pos h1, hxs]
      obtain ⟨g, rfl, c0⟩ := at0 0 x (by rw [hxs]; rfl)
      have lg := World.block_lt_of_cell? w _ c0
      simp only at lg
      have hpos : ¬ ((xs.length : Int) = 0) := by rw [hxs]; simp only [List.length_cons]; omega
      have hpos2 : (0 : Int) < xs.length := by rw [hxs]; simp only [List.length_cons]; omega
      have HXS : Hid _ := hxs
      rw [← hxs]
      generalize hn : xs.length = n at *
      have HN : Hid _ := hn
      have HAT : Hid _ := at0
      clear hxs hn at0
      go_enter Tryz.func60, Tryz.ntmps60
      go_wp2_with fail
      go_loopw [5, 6] (fun v6 v21 wr => ∃ i : Nat, v21 = .int .i64 i ∧ i ≤ n ∧ v6 = .int .i64 (tops x (xs.take i)) ∧ wr = w.alloc (.cells #[.int .i64 0, .int .i64 0] 153)) (fun _ v21 _ => n - (intOf v21).toNat)
      case atStart => exact ⟨0, rfl, Nat.zero_le _, by simp [tops], rfl⟩
      case round =>
        obtain ⟨i, rfl, hi, rfl, rfl⟩ := hrel
        rcases Nat.lt_or_ge i n with h8 | h8
        · have h9 : (i : Int) < n := by omega
          obtain ⟨y, hy⟩ : ∃ y, xs[i]? = some y := ⟨xs[i]'(by have := HN.out; omega), List.getElem?_eq_getElem _⟩
          obtain ⟨g2, eg, ci⟩ := HAT.out i y hy
          injection eg with eg
          injection eg with eg
          subst eg
          have lg := World.block_lt_of_cell? w _ ci
          simp only at lg
          have HT : Hid (tops x (xs.take (i + 1)) = max (tops x (xs.take i)) y) := by
            show tops x (xs.take (i + 1)) = _
            rw [List.take_add_one, hy]
            exact tops_snoc _ _ _
          clear hy
          generalize tops x (xs.take i) = X at *
          rcases Int.lt_or_le X y with h7 | h7
          · go_wp2
            go_roundw
            case rel => exact ⟨i + 1, by go_num, by omega, by rw [HT.out, Int.max_eq_right (by omega)], trivial⟩
            case measure => simp [intOf]; omega
          · have h6 : ¬ X < y := by omega
            go_wp2
            go_roundw
            case rel => exact ⟨i + 1, by go_num, by omega, by rw [HT.out, Int.max_eq_left (by omega)], trivial⟩
            case measure => simp [intOf]; omega
        · have h9 : ¬ (i : Int) < n := by omega
          have HT : Hid (tops x (xs.take i) = tops x xs) := by
            show tops x (xs.take i) = _
            rw [List.take_of_length_le (by have := HN.out; omega)]
          generalize tops x (xs.take i) = X at *
          go_wp2
          refine bodyPost_ret (v := .agg #[.int .i64 X, .int .i64 0]) (by simp [results, Tryz.results60, go_sem]) rfl ?_
          refine ⟨by rw [HR.out, ← HT.out], ?_⟩
          repeat (first | exact Below.refl _ _ | refine Below.drew ?_ | refine below_drewN ?_ _ | refine Below.setCell ?_ (by simp) _ | refine Below.alloc ?_ (by simp) _)
  · have e1 : (nm.toList == [109, 97, 120]) = false := by simpa using h1
    by_cases h2 : nm.toList = [116, 119, 105, 99, 101]
    · have e2 : (nm.toList == [116, 119, 105, 99, 101]) = true := by rw [h2]; rfl
      by_cases hone : xs.length = 1
      · obtain ⟨x, rfl⟩ : ∃ x, xs = [x] := by
          match xs, hone with
          | [x], _ => exact ⟨x, rfl⟩
        have HR : Hid (asked nm [x] = (clip (x + x), 0)) := by show asked nm [x] = _; unfold asked; rw [if_neg h1, if_pos h2]
        obtain ⟨g, rfl, c0⟩ := at0 0 x rfl
        have lg := World.block_lt_of_cell? w _ c0
        simp only at lg
        have hx := HX.out x (by simp)
        have HPL : Hid _ := hx
        clear at0 hx
        have hln : ([x] : List Int).length = 1 := rfl
        rw [hln]
        go_enter Tryz.func60, Tryz.ntmps60
        go_wp2_with fail
        go_quiet ((exact Calls.quiet_of_same (r_plus HPL.out HPL.out _)))
        go_wp2
        refine bodyPost_ret (v := .agg #[.int .i64 (clip (x + x)), .int .i64 0]) (by simp [results, Tryz.results60, go_sem]) rfl ?_
        refine ⟨by rw [HR.out], ?_⟩
        repeat (first | exact Below.refl _ _ | refine Below.drew ?_ | refine below_drewN ?_ _ | refine Below.setCell ?_ (by simp) _ | refine Below.alloc ?_ (by simp) _)
      · have HR : Hid (asked nm xs = (5, 10)) := by
          show asked nm xs = _
          unfold asked
          rw [if_neg h1, if_pos h2]
          match xs, hone with
          | [], _ => rfl
          | [x], h => exact absurd rfl h
          | _ :: _ :: _, _ => rfl
        have hone2 : ((xs.length : Int) != 1) = true := by simp; omega
        generalize xs.length = n at *
        clear at0
        go_enter Tryz.func60, Tryz.ntmps60
        go_wp2
        refine bodyPost_ret (v := .agg #[.int .i64 5, .int .i64 10]) (by simp [results, Tryz.results60, go_sem]) rfl ?_
        refine ⟨by rw [HR.out], ?_⟩
        repeat (first | exact Below.refl _ _ | refine Below.drew ?_ | refine below_drewN ?_ _ | refine Below.setCell ?_ (by simp) _ | refine Below.alloc ?_ (by simp) _)
    · have e2 : (nm.toList == [116, 119, 105, 99, 101]) = false := by simpa using h2
      by_cases h3 : nm.toList = [98, 111, 111, 109]
      · have e3 : (nm.toList == [98, 111, 111, 109]) = true := by rw [h3]; rfl
        have HR : Hid (asked nm xs = ((xs.length : Int), 11)) := by show asked nm xs = _; unfold asked; rw [if_neg h1, if_neg h2, if_pos h3]
        generalize xs.length = n at *
        clear at0
        go_enter Tryz.func60, Tryz.ntmps60
        go_wp2
        refine bodyPost_ret (v := .agg #[.int .i64 n, .int .i64 11]) (by simp [results, Tryz.results60, go_sem]) rfl ?_
        refine ⟨by rw [HR.out], ?_⟩
        repeat (first | exact Below.refl _ _ | refine Below.drew ?_ | refine below_drewN ?_ _ | refine Below.setCell ?_ (by simp) _ | refine Below.alloc ?_ (by simp) _)
      · have e3 : (nm.toList == [98, 111, 111, 109]) = false := by simpa using h3
        have HR : Hid (asked nm xs = (7, 0)) := by show asked nm xs = _; unfold asked; rw [if_neg h1, if_neg h2, if_neg h3]
        clear at0
        go_enter Tryz.func60, Tryz.ntmps60
        go_wp2
        refine bodyPost_ret (v := .agg #[.int .i64 7, .int .i64 0]) (by simp [results, Tryz.results60, go_sem]) rfl ?_
        refine ⟨by rw [HR.out], ?_⟩
        repeat (first | exact Below.refl _ _ | refine Below.drew ?_ | refine below_drewN ?_ _ | refine Below.setCell ?_ (by simp) _ | refine Below.alloc ?_ (by simp) _)
end Go.Proofs.YtihmgoahobbdkaaGreatDoor
