/-
  MEASURES, WALKED: what look answers.
-/
import Derived.Test.YtaghcjpoihkpjaaGreatDoorJM20
import Derived.Test.YtaghcjpoihkpjaaGreatDoorJM23
import Derived.Test.YtaghcjpoihkpjaaGreatDoorProg
import Derived.Test.YtaghcjpoihkpjaaGreatDoorJM1
import Derived.MapKept
import Derived.Maps.Own
import Derived.Test.YtaghcjpoihkpjaaGreatDoorJM14
namespace Go.Proofs.YtaghcjpoihkpjaaGreatDoor
open Go.RowKit Go.Lib

/-- What a measurement tells. -/
inductive Found where
  | num (n : Int)
  | nothing (n : Int)
  | pan (n : Int)
section
variable {σ : Type}
/-- What is told of a state hangs on the blocks below a number alone. -/
def StableN (N : Nat) (S : σ → World → Prop) : Prop := (∀ s w, S s w → N ≤ w.heap.size) ∧ ∀ s w w', S s w → Below N w w' → S s w'
theorem StableN.stable {N : Nat} {S : σ → World → Prop} (h : StableN N S) : Stable S := fun s w _ hs hb => h.2 s w _ hs (hb.mono (h.1 s w hs))
/-- How look ends. -/
def LookR (S : σ → World → Prop) (r : Found × σ) (w : World) (e : Ending) : Prop :=
  match r with
  | (.num n, s) => e = .returned (.tuple #[.int .i64 n, .bool true]) ∧ In64 n ∧ S s w
  | (.nothing n, s) => e = .returned (.tuple #[.int .i64 n, .bool false]) ∧ S s w
  | (.pan n, s) => e = .panicked [{ v := .iface 2 (.int .i64 n), recovered := false }] ∧ S s w
/-- A function in memory measures. -/
def LookOk (S : σ → World → Prop) (R : Nat) (lv : Value) (look : ByteArray → ByteArray → Int → σ → Found × σ) : Prop :=
  ∃ f first caps, lv = .func (.func f) first caps ∧ (∀ (args : Array Value) (w : World), (callFunc f (first ++ (args ++ caps))).run Tryz.prog w = .ok (.enter f (first ++ (args ++ caps))) w) ∧
    ∀ kind metric n s w, In64 n → S s w → Calls Tryz.prog f (first ++ (#[.string kind, .string metric, .int .i64 n] ++ caps)) w fun e w' => Keep R w w' ∧ LookR S (look kind metric n s) w' e
/-- What the closure answers that asks. -/
def ansOf (A : Nat → Addr) : Found → Ans
  | .num n => .val n
  | .nothing _ => .fail 0 349 (.pointer (some (A 6)))
  | .pan n => .pan 2 (.int .i64 n)
variable {A : Nat → Addr} {S : σ → World → Prop} {R : Nat} {lv mv : Value} {w0 : World}
set_option maxRecDepth 1000000 in
set_option maxHeartbeats 1000000 in
theorem code_looks (hS : Stable S) (hA : ∀ s w, S s w → Sents A w) {look : ByteArray → ByteArray → Int → σ → Found × σ} (hl : LookOk S R lv look) {w : World} {s : σ} (hs : S s w) {b0 b2 b3 b4 : Nat} {kind metric : ByteArray} {n : Int} (hn : In64 n)
    (h0 : w.heap[b0]? = some (.cells #[lv, mv] 102 (0, 0))) (h2 : One w b2 (.string kind) 9) (h3 : One w b3 (.string metric) 9) (h4 : One w b4 (.int .i64 n) 2) :
    Calls Tryz.prog 161 #[ptr b0, ptr b2, ptr b3, ptr b4] w fun e w1 => ∃ a, AnsE a e ∧ Keep R w w1 ∧ (a = ansOf A (look kind metric n s).1 ∧ S (look kind metric n s).2 w1 ∧ ∀ x, a = .val x → In64 x) := by
  obtain ⟨f, first, caps, rfl, hcf, hl⟩ := hl
  have hl := hl kind metric n s w hn hs
  have hcf := hcf #[.string kind, .string metric, .int .i64 n]
  have c0 : w.cell? ⟨b0, 0, none⟩ = some (.func (.func f) first caps) := cell_of_heap h0 rfl
  have c2 : w.cell? ⟨b2, 0, none⟩ = some (.string kind) := cell_of_heap h2 rfl
  have c3 : w.cell? ⟨b3, 0, none⟩ = some (.string metric) := cell_of_heap h3 rfl
  have c4 : w.cell? ⟨b4, 0, none⟩ = some (.int .i64 n) := cell_of_heap h4 rfl
  have HA : Hid _ := hA
  have HS : Hid (Stable S) := hS
  clear hS hA hs h0 h2 h3 h4
  go_enter Tryz.func161, Tryz.ntmps161
  go_wp2_with fail
  refine hl.mono ?_
  rintro e w1 ⟨hk, he⟩
  have HK : Hid _ := hk
  clear hl hk
  generalize hM : look kind metric n s = r at he
  have HM : Hid _ := hM
  clear hM
  obtain ⟨r, s1⟩ := r
  cases r with
  | num x =>
    obtain ⟨rfl, hx, hs1⟩ := he
    have H1 : Hid _ := And.intro hx hs1
    clear hx hs1
    go_wp2
    go_ret2
    refine ⟨.val x, rfl, HK.out, ?_⟩
    rw [HM.out]
    exact ⟨rfl, H1.out.2, fun y q => by injection q with q; subst q; exact H1.out.1⟩
  | nothing x =>
    obtain ⟨rfl, hs1⟩ := he
    have cN := (HA.out _ _ hs1).g6
    have H1 : Hid _ := hs1
    clear hs1
    go_wp2_with fail
    go_region
    all_goals
      go_wp2
      go_ret2
      refine ⟨.fail 0 349 (.pointer (some (A 6))), rfl, HK.out.drew, ?_⟩
      rw [HM.out]
      exact ⟨rfl, HS.out _ _ _ H1.out (Below.refl _ _).drew, fun y q => by cases q⟩
  | pan x =>
    obtain ⟨rfl, hs1⟩ := he
    have H1 : Hid _ := hs1
    clear hs1
    go_wp2
    refine ⟨rfl, .pan 2 (.int .i64 x), rfl, HK.out, ?_⟩
    rw [HM.out]
    exact ⟨rfl, H1.out, fun y q => by cases q⟩
/-- What a measure is worth. -/
def measured (p : Nat) (r : Found × σ) : Res × σ :=
  match r with
  | (.num n, s) => (.val n, s)
  | (.nothing _, s) => (.held p .noData, s)
  | (.pan n, s) => (.held p (.panic n), s)
set_option maxRecDepth 1000000 in
set_option maxHeartbeats 1000000 in
theorem runs_measure {N : Nat} (hS : StableN N S) (hA : ∀ s w, S s w → Sents A w) (hR : R < w0.heap.size) (hN : N ≤ w0.heap.size) {look : ByteArray → ByteArray → Int → σ → Found × σ} (hl : LookOk S R lv look) {p b1 b2 b3 b4 : Nat} {kind metric : ByteArray} {n : Int} (hn : In64 n)
    (h1 : One w0 b1 (.int .i64 (p : Int)) 105) (h2 : One w0 b2 (.string kind) 9) (h3 : One w0 b3 (.string metric) 9) (h4 : One w0 b4 (.int .i64 n) 2) (n1 : b1 ≠ R) (n2 : b2 ≠ R) (n3 : b3 ≠ R) (n4 : b4 ≠ R) :
    Runs A S R lv mv (.func (.func 159) #[] #[ptr b1, ptr b2, ptr b3, ptr b4]) (fun s => measured p (look kind metric n s)) w0 := by
  refine ⟨_, _, rfl, fun args w => by rfl, fun s w hk hs => ?_⟩
  have lw : w0.heap.size ≤ w.heap.size := hk.size
  have hbx : Below w.heap.size w (w.alloc (.cells #[lv, mv] 102)) := (Below.refl _ _).alloc (Nat.le_refl _) _
  have hh1 := hk.heap h1 n1
  have hh2 := hk.heap h2 n2
  have hh3 := hk.heap h3 n3
  have hh4 := hk.heap h4 n4
  have hask := code_ask (X := (· = R)) (F := 161) (p := p) (caps := #[ptr w.heap.size, ptr b2, ptr b3, ptr b4]) (w := w.alloc (.cells #[lv, mv] 102))
    (Q := fun a w1 => a = ansOf A (look kind metric n s).1 ∧ S (look kind metric n s).2 w1 ∧ ∀ x, a = .val x → In64 x) (fun k q => by simp; omega) (fun _ => by rfl) (fun W hW => by
      have hb : Below w.heap.size w W := hbx.trans (hW.mono hbx.size)
      refine Calls.mono (code_looks (mv := mv) hS.stable hA hl (hS.stable _ _ _ hs hb) hn ((hW.block _ (by simp)).trans (heap_alloc_new _ _)) ((hb.block _ (heap_lt hh2)).trans hh2) ((hb.block _ (heap_lt hh3)).trans hh3) ((hb.block _ (heap_lt hh4)).trans hh4)) ?_
      rintro e w1 ⟨a, q1, q2, q3⟩
      exact ⟨a, q1, q2.x, q3⟩)
  have hmf : ∀ (fn : Fn) (first cap : Array Value) (w : World), (Instr.makeFunc fn first cap).run Tryz.prog w = .ok (.func fn first cap) w := fun _ _ _ _ => rfl
  obtain ⟨f, first, caps, rfl, -, -⟩ := hl
  have heq : ∀ w : World, (binOp .eql 100 (.func (.func f) first caps) .nilFunc).run Tryz.prog w = .ok (.bool false) w := fun w => by
    simp only [binOp]
    simp [Op.equal, Op.maxDepth, equalIn_func_nil9 w 9999 100 (.func f) first caps Tryz.underlying100]
  have c1 : w.cell? ⟨b1, 0, none⟩ = some (.int .i64 (p : Int)) := cell_of_heap hh1 rfl
  have lb := heap_lt hh1
  have HX : Hid _ := And.intro hS (And.intro hbx lw)
  clear hS hA hh1 hh2 hh3 hh4 h1 h2 h3 h4 hs hbx lw hk
  go_enter Tryz.func159, Tryz.ntmps159
  go_wp2_with fail
  refine hask.mono ?_
  rintro e w' ⟨a, w1, ⟨hq1, hq2, hq3⟩, hk1, hb2, ha⟩
  have K2 : Hid (Keep R w w') := by
    have l1 := hk1.size
    have l2 := hb2.size
    simp at l1 hb2
    exact ⟨hb2.os.trans hk1.os, hb2.tape.trans hk1.tape, hb2.output.trans hk1.output, by omega, fun k lt ne => (hb2.block k (by omega) (by omega) (by omega)).trans ((hk1.block k (by simp; omega) ne).trans (Below.heap_alloc _ _ k lt))⟩
  have S2 : Hid (S (look kind metric n s).2 w') := by
    have l2 := hb2.size
    have := HX.out.2.2
    simp at hb2
    exact HX.out.1.2 _ _ _ hq2 ⟨hb2.os, hb2.tape, hb2.output, l2, fun k lt => hb2.block k (by have := HX.out.1.1 _ _ hq2; omega) (by omega) (by omega)⟩
  generalize hM : look kind metric n s = r at hq1 S2
  have HM : Hid _ := hM
  clear hask hk1 hb2 hq2 hM
  obtain ⟨r, s1⟩ := r
  cases r with
  | num x =>
    have hq1 : a = .val x := hq1
    subst hq1
    have ha : e = _ := ha
    subst ha
    have HI : Hid _ := hq3 x rfl
    clear hq3
    go_wp2
    go_ret2
    refine ⟨K2.out, ?_⟩
    rw [HM.out]
    exact ⟨rfl, HI.out, S2.out⟩
  | nothing x =>
    have hq1 : a = .fail 0 349 (.pointer (some (A 6))) := hq1
    subst hq1
    obtain ⟨b, rfl, hh⟩ := ha
    have HH : Hid _ := hh
    clear hh hq3
    go_wp2
    go_ret2
    refine ⟨K2.out, ?_⟩
    rw [HM.out]
    exact ⟨b, _, _, rfl, HH.out, ⟨rfl, rfl⟩, S2.out⟩
  | pan x =>
    have hq1 : a = .pan 2 (.int .i64 x) := hq1
    subst hq1
    obtain ⟨b, c, rfl, hh, ho⟩ := ha
    have HH : Hid _ := And.intro hh ho
    clear hh ho hq3
    go_wp2
    go_ret2
    refine ⟨K2.out, ?_⟩
    rw [HM.out]
    exact ⟨b, _, _, rfl, HH.out.1, ⟨rfl, c, rfl, HH.out.2⟩, S2.out⟩
set_option maxRecDepth 1000000 in
theorem runs_measure_nil (hS : Stable S) (hA : ∀ s w, S s w → Sents A w) {p b1 b2 b3 b4 : Nat} (h1 : One w0 b1 (.int .i64 (p : Int)) 105) (n1 : b1 ≠ R) :
    Runs A S R .nilFunc mv (.func (.func 159) #[] #[ptr b1, ptr b2, ptr b3, ptr b4]) (fun s => (.held p .noData, s)) w0 := by
  refine ⟨_, _, rfl, fun args w => by rfl, fun s w hk hs => ?_⟩
  have hbx : Below w.heap.size w (w.alloc (.cells #[.nilFunc, mv] 102)) := (Below.refl _ _).alloc (Nat.le_refl _) _
  have hs1 := hS _ _ _ hs hbx
  have cN := (hA _ _ hs1).g6
  have hh1 := hk.heap h1 n1
  have c1 : w.cell? ⟨b1, 0, none⟩ = some (.int .i64 (p : Int)) := cell_of_heap hh1 rfl
  have lb := heap_lt hh1
  have heq : ∀ w : World, (binOp .eql 100 .nilFunc .nilFunc).run Tryz.prog w = .ok (.bool true) w := fun w => by
    simp only [binOp]
    simp [Op.equal, Op.maxDepth, equalIn_nil_nil9 w 9999 100 Tryz.underlying100]
  have hh := code_hold p 349 (.pointer (some (A 6))) (w.alloc (.cells #[.nilFunc, mv] 102))
  have HX : Hid _ := And.intro hbx (And.intro hs1 hS)
  clear hbx hs1 hs hS hA hh1 h1 hk
  go_enter Tryz.func159, Tryz.ntmps159
  go_wp2_with fail
  refine hh.mono ?_
  rintro e w2 ⟨b, rfl, hh2, hb3⟩
  have HH : Hid _ := And.intro hh2 hb3
  clear hh hh2 hb3
  go_wp2
  go_ret2
  exact ⟨Keep.of_below (HX.out.1.trans (HH.out.2.mono HX.out.1.size)), b, _, _, rfl, HH.out.1, ⟨rfl, rfl⟩, HX.out.2.2 _ _ _ HX.out.2.1 HH.out.2⟩
end
end Go.Proofs.YtaghcjpoihkpjaaGreatDoor
namespace Go.Proofs.YtaghcjpoihkpjaaGreatDoor
open Go.RowKit

/-- Block m is a map that reads as F. -/
def MapF (w : World) (m : Nat) (F : ByteArray → Option Value) : Prop := ∃ es clock, w.heap[m]? = some (.map es clock) ∧ (∀ e ∈ es.toList, ∃ s, e.key = .string s) ∧ MapKept.Stamped es clock ∧ ∀ s v, F s = some v ↔ ∃ e ∈ es.toList, e.key = .string s ∧ e.val = v
theorem Tryz.zeroProbe (w : World) : (zeroValue 145).run Tryz.prog w = .ok .nilFunc w := by kernel_rfl
section
variable {w w' : World} {m : Nat} {F : ByteArray → Option Value}
theorem MapF.new (w : World) : MapF (w.alloc (.map #[] 0)) w.heap.size (fun _ => none) := ⟨#[], 0, heap_alloc_new _ _, by simp, MapKept.stamped_empty 0, by simp⟩
theorem MapF.block (h : MapF w m F) (hb : w'.heap[m]? = w.heap[m]?) : MapF w' m F := by
  obtain ⟨es, clock, h1, h2⟩ := h
  exact ⟨es, clock, hb.trans h1, h2⟩
theorem MapF.lt (h : MapF w m F) : m < w.heap.size := by obtain ⟨es, clock, h1, -⟩ := h; exact heap_lt h1
theorem MapF.congr {G : ByteArray → Option Value} (h : MapF w m F) (e : ∀ s, F s = G s) : MapF w m G := by
  obtain ⟨es, clock, h1, h2, h3, h4⟩ := h
  exact ⟨es, clock, h1, h2, h3, fun s v => by rw [← e]; exact h4 s v⟩
theorem MapF.find (h : MapF w m F) (s : ByteArray) : ∃ es clock, w.heap[m]? = some (.map es clock) ∧ ((Instr.findNow .string (.string s) es.toList 0 = some none ∧ F s = none) ∨ ∃ j e, Instr.findNow .string (.string s) es.toList 0 = some (some (j, e.val)) ∧ es.toList[j]? = some e ∧ e.key = .string s ∧ F s = some e.val) := by
  obtain ⟨es, clock, h1, h2, h3, h4⟩ := h
  refine ⟨es, clock, h1, ?_⟩
  rcases MapKept.findNow_spec (d := .string) (k := .string s) (by simp [MapKept.IsKey]) es.toList 0 (fun x hx => by obtain ⟨t, e⟩ := h2 x hx; rw [e]; simp [MapKept.IsKey]) with ⟨q1, q2⟩ | ⟨j, e, q1, q2, q3⟩
  · refine .inl ⟨q1, ?_⟩
    cases e : F s with
    | none => rfl
    | some v => obtain ⟨x, hx, hk, -⟩ := (h4 s v).1 e; exact absurd hk (q2 x hx)
  · exact .inr ⟨j, e, by simpa using q1, q2, q3, (h4 s e.val).2 ⟨e, List.mem_of_getElem? q2, q3, rfl⟩⟩
theorem MapF.lookup (h : MapF w m F) (s : ByteArray) : (Instr.lookup 57 (.map (some m)) (.string s) false).run Tryz.prog w = .ok ((F s).getD .nilFunc) w := by
  obtain ⟨es, clock, h1, h2⟩ := h.find s
  have hc : ∀ b, (Instr.checkKey b 10000 9 (.string s)).run Tryz.prog w = .ok () w := fun b => MapKept.run_checkKey (k := .string s) Tryz.underlying9 (by simp [MapKept.IsKey]) b 9999
  rcases h2 with ⟨q1, q2⟩ | ⟨j, e, q1, -, -, q4⟩
  · simp [Instr.lookup, run_underlying Tryz.underlying57, MapKept.run_getObj_map h1, hc, MapKept.run_findKey Tryz.underlying9 q1, Result.andThen, q2]
  · simp [Instr.lookup, run_underlying Tryz.underlying57, MapKept.run_getObj_map h1, hc, MapKept.run_findKey Tryz.underlying9 q1, Result.andThen, q4]
theorem lookup_none (w : World) (s : ByteArray) : (Instr.lookup 57 (.map none) (.string s) false).run Tryz.prog w = .ok .nilFunc w := by
  have hc : ∀ b, (Instr.checkKey b 10000 9 (.string s)).run Tryz.prog w = .ok () w := fun b => MapKept.run_checkKey (k := .string s) Tryz.underlying9 (by simp [MapKept.IsKey]) b 9999
  have hf : Instr.findNow .string (.string s) ([] : List MapEntry) 0 = some none := rfl
  simp [Instr.lookup, run_underlying Tryz.underlying57, hc, MapKept.run_findKey Tryz.underlying9 hf, Result.andThen]
theorem MapF.update (h : MapF w m F) (s : ByteArray) (v : Value) : ∃ w', (Instr.mapUpdate 57 (.map (some m)) (.string s) v).run Tryz.prog w = .ok () w' ∧ MapF w' m (fun t => if t = s then some v else F t) ∧ w.grownBy w' (some m) := by
  have hh := h
  obtain ⟨es, clock, h1, h2, h3, h4⟩ := hh
  obtain ⟨es0, clock0, h10, hf⟩ := h.find s
  rw [h1] at h10
  injection h10 with h10
  injection h10 with e1 e2
  subst e1 e2
  have hc : ∀ b, (Instr.checkKey b 10000 9 (.string s)).run Tryz.prog w = .ok () w := fun b => MapKept.run_checkKey (k := .string s) Tryz.underlying9 (by simp [MapKept.IsKey]) b 9999
  have hgr : ∀ o, w.grownBy { w with heap := w.heap.setIfInBounds m o } (some m) := fun o => ⟨rfl, rfl, rfl, by simp, fun k hk hne => by
    have : m ≠ k := fun e => hne (by rw [e])
    simp [this]⟩
  have hsame : ∀ o, ({ w with heap := w.heap.setIfInBounds m o } : World).heap[m]? = some o := fun o => by
    have := heap_lt h1
    simp [this]
  rcases hf with ⟨q1, q2⟩ | ⟨j, e, q1, q2, q3, q4⟩
  · refine ⟨_, by simp [Instr.mapUpdate, run_underlying Tryz.underlying57, MapKept.run_getObj_map h1, hc, MapKept.run_findKey Tryz.underlying9 q1, MapKept.run_setObj_map _ h1, Result.andThen]; rfl, ⟨_, _, hsame _, ?_, ?_, ?_⟩, hgr _⟩
    · intro x hx
      simp at hx
      rcases hx with hx | rfl
      · exact h2 x (by simpa using hx)
      · exact ⟨s, rfl⟩
    · exact MapKept.stamped_push h3 fun x hx e => by
        have := (h4 s x.val).2 ⟨x, hx, e, rfl⟩
        rw [q2] at this
        cases this
    · intro t u
      by_cases hts : t = s
      · subst hts
        simp only [if_true]
        constructor
        · intro q
          injection q with q
          subst q
          exact ⟨⟨.string t, v, clock⟩, by simp, rfl, rfl⟩
        · rintro ⟨x, hx, hk, rfl⟩
          simp at hx
          rcases hx with hx | rfl
          · have := (h4 t x.val).2 ⟨x, by simpa using hx, hk, rfl⟩
            rw [q2] at this
            cases this
          · rfl
      · show (if t = s then some v else F t) = some u ↔ _
        rw [if_neg hts, h4]
        constructor
        · rintro ⟨x, hx, hk, hv⟩
          exact ⟨x, by simp at hx ⊢; exact .inl hx, hk, hv⟩
        · rintro ⟨x, hx, hk, hv⟩
          simp at hx
          rcases hx with hx | rfl
          · exact ⟨x, by simpa using hx, hk, hv⟩
          · injection hk with hk
            exact absurd hk.symm hts
  · have hsb : Instr.sameBits 10000 (.string s) (.string s) = true := by
      unfold Instr.sameBits
      exact (MapKept.bytes_beq s s).2 rfl
    have hjs : es[j]? = some e := by simpa using q2
    have hkt : (Instr.keyThatStays (((es[j]?).map (·.key)).getD (.string s)) (.string s)).run Tryz.prog w = .ok (.string s) w := by
      rw [hjs]
      simp [Instr.keyThatStays, q3, hsb]
    refine ⟨_, by simp [Instr.mapUpdate, run_underlying Tryz.underlying57, MapKept.run_getObj_map h1, hc, MapKept.run_findKey Tryz.underlying9 q1, MapKept.run_setObj_map _ h1, Result.andThen, hkt]; rfl, ⟨_, _, hsame _, ?_, ?_, ?_⟩, hgr _⟩
    · intro x hx
      obtain ⟨k, hk⟩ := List.getElem?_of_mem hx
      rw [Array.toList_modify, List.getElem?_modify] at hk
      split at hk
      · cases hq : es.toList[k]? with
        | none => rw [hq] at hk; cases hk
        | some y => rw [hq] at hk; injection hk with hk; exact ⟨s, by rw [← hk]⟩
      · exact h2 x (List.mem_of_getElem? (by simpa using hk))
    · exact MapKept.stamped_modify h3 j _ (fun _ _ => rfl) (fun x _ hx => by rw [hjs] at hx; injection hx with hx; subst hx; exact q3.symm)
    · have huniq : ∀ (k : Nat) (x : MapEntry), es.toList[k]? = some x → x.key = .string s → k = j := fun k x hx hk => by
        have a1 : (es.toList.map (·.key))[k]? = some (.string s) := by rw [List.getElem?_map, hx]; simp [hk]
        have a2 : (es.toList.map (·.key))[j]? = some (.string s) := by rw [List.getElem?_map, q2]; simp [q3]
        obtain ⟨b1, c1⟩ := List.getElem?_eq_some_iff.1 a1
        obtain ⟨b2, c2⟩ := List.getElem?_eq_some_iff.1 a2
        rcases Nat.lt_trichotomy k j with q | q | q
        · exact absurd (c1.trans c2.symm) (List.pairwise_iff_getElem.1 h3.2.2 k j b1 b2 q)
        · exact q
        · exact absurd (c2.trans c1.symm) (List.pairwise_iff_getElem.1 h3.2.2 j k b2 b1 q)
      have hget : ∀ k, (es.modify j fun x => { x with key := .string s, val := v }).toList[k]? = if j = k then (es.toList[k]?).map (fun x => { x with key := .string s, val := v }) else es.toList[k]? := fun k => by
        rw [Array.toList_modify, List.getElem?_modify]
        split <;> simp
      intro t u
      show (if t = s then some v else F t) = some u ↔ _
      by_cases hts : t = s
      · subst hts
        rw [if_pos rfl]
        constructor
        · intro q
          injection q with q
          subst q
          refine ⟨{ e with key := .string t, val := v }, List.mem_of_getElem? (i := j) ?_, rfl, rfl⟩
          rw [hget, if_pos rfl, q2]
          rfl
        · rintro ⟨x, hx, hk, rfl⟩
          obtain ⟨k, hk2⟩ := List.getElem?_of_mem hx
          rw [hget] at hk2
          split at hk2
          · cases hq : es.toList[k]? with
            | none => rw [hq] at hk2; cases hk2
            | some y => rw [hq] at hk2; injection hk2 with hk2; rw [← hk2]
          · rename_i hne
            exact absurd (huniq k x hk2 hk).symm hne
      · rw [if_neg hts, h4]
        constructor
        · rintro ⟨x, hx, hk, hv⟩
          obtain ⟨k, hk2⟩ := List.getElem?_of_mem hx
          have hne : ¬ j = k := fun e2 => by
            subst e2
            rw [q2] at hk2
            injection hk2 with hk2
            subst hk2
            rw [q3] at hk
            injection hk with hk
            exact hts hk.symm
          exact ⟨x, List.mem_of_getElem? (i := k) (by rw [hget, if_neg hne]; exact hk2), hk, hv⟩
        · rintro ⟨x, hx, hk, hv⟩
          obtain ⟨k, hk2⟩ := List.getElem?_of_mem hx
          rw [hget] at hk2
          split at hk2
          · cases hq : es.toList[k]? with
            | none => rw [hq] at hk2; cases hk2
            | some y =>
              rw [hq] at hk2
              injection hk2 with hk2
              rw [← hk2] at hk
              injection hk with hk
              exact absurd hk.symm hts
          · exact ⟨x, List.mem_of_getElem? hk2, hk, hv⟩
end
/-- 'm[k] = v' at the operation. -/
theorem wpList_mapUpdate_F (w : World) {ops : Array Oper} {rest : List Oper} {o : Oper} {a : Act} {Q : Exit → Act → World → Prop}
    (hg : o.guard = none) (m x v : Operand) (hop : o.op = Op.mapUpdate 57 m x v) (b : Nat) (F : ByteArray → Option Value) (s : ByteArray) (val : Value)
    (hm : a.eval m = .map (some b)) (h : MapF w b F) (hx : a.eval x = .string s) (hv : a.eval v = val)
    (hK : ∀ w', MapF w' b (fun t => if t = s then some val else F t) → w.grownBy w' (some b) → wpList Tryz.prog ops Q rest (a.put o.dst undef) w') :
    wpList Tryz.prog ops Q (o :: rest) a w := by
  refine wpList_plain hg fun K' hK' => ?_
  obtain ⟨w', hrun, r1, r2⟩ := h.update s val
  unfold Oper.wp
  simp [execOp, hop, hm, hx, hv, hrun, Result.andThen]
  exact hK' _ _ (hK w' r1 r2)
end Go.Proofs.YtaghcjpoihkpjaaGreatDoor
namespace Go.Proofs.YtaghcjpoihkpjaaGreatDoor
open Go.RowKit Go.Lib

/-- What a probe tells. -/
inductive PFound where
  | val (n : Int)
  | fail
  | pan (n : Int)
def ints (xs : List Int) : List Value := xs.map fun x => .int .i64 x
section
variable {σ : Type}
/-- How a probe ends. -/
def ProbeR (S : σ → World → Prop) (r : PFound × σ) (w : World) (e : Ending) : Prop :=
  match r with
  | (.val n, s) => e = .returned (.tuple #[.int .i64 n, .nilIface]) ∧ In64 n ∧ S s w
  | (.fail, s) => (∃ n c, e = .returned (.tuple #[.int .i64 n, .iface 150 (ptr c)])) ∧ S s w
  | (.pan n, s) => e = .panicked [{ v := .iface 2 (.int .i64 n), recovered := false }] ∧ S s w
/-- A function in memory answers as a probe; the list is the probe's. -/
def ProbeOk (S : σ → World → Prop) (R N : Nat) (fv : Value) (probe : List Int → σ → PFound × σ) : Prop :=
  ∃ f caps, fv = .func (.func f) #[] caps ∧ (∀ (args : Array Value) (w : World), (callFunc f (args ++ caps)).run Tryz.prog w = .ok (.enter f (args ++ caps)) w) ∧
    ∀ xs v s w, (∀ x ∈ xs, In64 x) → xs.length ≤ 900 → w.ownsRow N 2 1 v xs.length (ints xs) → S s w → Calls Tryz.prog f (#[v] ++ caps) w fun e w' => KeepX (fun k => k = R ∨ v.ownBlock = some k) w w' ∧ ProbeR S (probe xs s) w' e
/-- What the closure answers that asks. -/
def AnsP : PFound → Ans → Prop
  | .val n, a => a = .val n ∧ In64 n
  | .fail, a => ∃ n c, a = .fail n 150 (ptr c)
  | .pan n, a => a = .pan 2 (.int .i64 n)
variable {A : Nat → Addr} {S : σ → World → Prop} {R : Nat} {lv mv : Value} {w0 : World}
set_option maxRecDepth 1000000 in
set_option maxHeartbeats 1000000 in
theorem code_probes {N : Nat} {fv : Value} {probe : List Int → σ → PFound × σ} (hp : ProbeOk S R N fv probe) {w : World} {s : σ} (hs : S s w) {b0 b3 ba g : Nat} {name : ByteArray} {G : ByteArray → Option Value} {v : Value} {xs : List Int}
    (h0 : w.heap[b0]? = some (.cells #[lv, .map (some g)] 102 (0, 0))) (hm : MapF w g G) (hG : G name = some fv) (h3 : One w b3 (.string name) 9) (ha : One w ba v 36) (hx : ∀ x ∈ xs, In64 x) (hl : xs.length ≤ 900) (ho : w.ownsRow N 2 1 v xs.length (ints xs)) :
    Calls Tryz.prog 163 #[ptr b0, ptr b3, ptr ba] w fun e w1 => ∃ a, AnsE a e ∧ KeepX (fun k => k = R ∨ v.ownBlock = some k) w w1 ∧ AnsP (probe xs s).1 a ∧ S (probe xs s).2 w1 := by
  obtain ⟨f, caps, rfl, hcf, hp⟩ := hp
  have hp := hp xs v s w hx hl ho hs
  obtain ⟨ao, cp, rfl⟩ := owns_len ho
  have hcf := hcf #[.slice ao xs.length cp]
  have hlk := hm.lookup name
  rw [hG] at hlk
  have hlk : (Instr.lookup 57 (.map (some g)) (.string name) false).run Tryz.prog w = .ok (.func (.func f) #[] caps) w := hlk
  have c0 : w.cell? ⟨b0, 1, none⟩ = some (.map (some g)) := cell_of_heap h0 rfl
  have c3 : w.cell? ⟨b3, 0, none⟩ = some (.string name) := cell_of_heap h3 rfl
  have ca : w.cell? ⟨ba, 0, none⟩ = some (.slice ao xs.length cp) := cell_of_heap ha rfl
  clear hs h0 h3 ha hm hG ho hx
  go_enter Tryz.func163, Tryz.ntmps163
  go_wp2_with fail
  refine hp.mono ?_
  rintro e w1 ⟨hk, he⟩
  have HK : Hid _ := hk
  clear hp hk
  generalize hM : probe xs s = r at he
  have HM : Hid _ := hM
  clear hM
  obtain ⟨r, s1⟩ := r
  cases r with
  | val x =>
    obtain ⟨rfl, hx, hs1⟩ := he
    have H1 : Hid _ := And.intro hx hs1
    clear hx hs1
    go_wp2
    go_ret2
    refine ⟨.val x, rfl, HK.out, ?_⟩
    rw [HM.out]
    exact ⟨⟨rfl, H1.out.1⟩, H1.out.2⟩
  | fail =>
    obtain ⟨⟨m, x, rfl⟩, hs1⟩ := he
    have H1 : Hid _ := hs1
    clear hs1
    go_wp2
    go_ret2
    refine ⟨.fail m 150 (ptr x), rfl, HK.out, ?_⟩
    rw [HM.out]
    exact ⟨⟨m, x, rfl⟩, H1.out⟩
  | pan x =>
    obtain ⟨rfl, hs1⟩ := he
    have H1 : Hid _ := hs1
    clear hs1
    go_wp2
    refine ⟨rfl, .pan 2 (.int .i64 x), rfl, HK.out, ?_⟩
    rw [HM.out]
    exact ⟨rfl, H1.out⟩
end
end Go.Proofs.YtaghcjpoihkpjaaGreatDoor
namespace Go.Proofs.YtaghcjpoihkpjaaGreatDoor

section
variable {σ : Type}
/-- What is worked out of several values, one behind the other. -/
def onAll : List (σ → Res × σ) → (List Int → σ → Res × σ) → σ → Res × σ
  | [], k => k []
  | m :: ms, k => onVal m fun x => onAll ms fun xs => k (x :: xs)
theorem onVal_val {m : σ → Res × σ} {k : Int → σ → Res × σ} {s s1 : σ} {n : Int} (h : m s = (.val n, s1)) : onVal m k s = k n s1 := by simp only [onVal, h]
theorem onVal_held {m : σ → Res × σ} {k : Int → σ → Res × σ} {s s1 : σ} {p : Nat} {y : Why} (h : m s = (.held p y, s1)) : onVal m k s = (.held p y, s1) := by simp only [onVal, h]
/-- What a probe is worth. -/
def probed (p : Nat) (r : PFound × σ) : Res × σ :=
  match r with
  | (.val n, s) => (.val n, s)
  | (.fail, s) => (.held p .failed, s)
  | (.pan n, s) => (.held p (.panic n), s)
/-- What is handed in: look, where there is one, and the probes. -/
structure Env (σ : Type) where
  look : Option (ByteArray → ByteArray → Int → σ → Found × σ)
  probe : ByteArray → List Int → σ → PFound × σ
mutual
/-- What a tree is worth. -/
def ev (E : Env σ) : Tree → σ → Res × σ
  | .num _ n => fun s => (.val n, s)
  | .neg _ a => onVal (ev E a) fun n s => (.val (clip (-n)), s)
  | .bin k p a b => if k = 47 then onBoth (ev E a) (ev E b) fun x y s => (if y = 0 then .held p .divide else .val (quot x y), s) else onBoth (ev E a) (ev E b) fun x y s => (.val (reck k x y), s)
  | .ite _ a b c => onVal (ev E a) fun n s => if n ≠ 0 then ev E b s else ev E c s
  | .meas p wd m n => fun s => match E.look with
    | none => (.held p .noData, s)
    | some l => measured p (l wd m n s)
  | .probe p wd ts => onAll (evAll E ts) fun xs s => probed p (E.probe wd xs s)
def evAll (E : Env σ) : List Tree → List (σ → Res × σ)
  | [] => []
  | t :: ts => ev E t :: evAll E ts
end
mutual
/-- Places that the bytes do not bear are not told. -/
theorem ev_bare (E : Env σ) : ∀ t, ev E (bare t) = ev E t
  | .num _ _ => by simp [bare, ev]
  | .neg _ a => by simp [bare, ev, ev_bare E a]
  | .bin k p a b => by
    by_cases h : k = 47
    · simp [bare, ev, h, ev_bare E a, ev_bare E b]
    · simp [bare, ev, h, ev_bare E a, ev_bare E b]
  | .ite _ a b c => by simp [bare, ev, ev_bare E a, ev_bare E b, ev_bare E c]
  | .meas _ _ _ _ => by simp [bare, ev]
  | .probe _ _ ts => by simp [bare, ev, evAll_bare E ts]
theorem evAll_bare (E : Env σ) : ∀ ts, evAll E (bares ts) = evAll E ts
  | [] => by simp [bares, evAll]
  | t :: ts => by simp [bares, evAll, ev_bare E t, evAll_bare E ts]
end
theorem evAll_length (E : Env σ) : ∀ ts, (evAll E ts).length = ts.length
  | [] => rfl
  | _ :: ts => by simp [evAll, evAll_length E ts]
end
end Go.Proofs.YtaghcjpoihkpjaaGreatDoor
