/-
 MEASURES, WALKED: what look answers.
-/
import Derived.Test.YtbokdbaagacnlaaGreatDoorJK21
import Derived.Test.YtbokdbaagacnlaaGreatDoorJK23
import Derived.Test.YtbokdbaagacnlaaGreatDoorProg
import Derived.Test.YtbokdbaagacnlaaGreatDoorJK1
import Derived.MapKept
import Derived.Maps.Own
import Derived.Test.YtbokdbaagacnlaaGreatDoorJK17
import Derived.Test.YtbokdbaagacnlaaGreatDoorJK22
import Derived.Test.YtbokdbaagacnlaaGreatDoorJK14
namespace Go.Proofs.YtbokdbaagacnlaaGreatDoor
open Go.RowKit Go.Lib
inductive Found where
 | num (n : Int)
 | nothing (n : Int)
 | pan (n : Int)
section
variable {σ : Type}
def LookR (S : σ → World → Prop) (r : Found × σ) (w : World) (e : Ending) : Prop :=
 match r with
 | (.num n, s) => e = .returned (.tuple #[.int .i64 n, .bool true]) ∧ In64 n ∧ S s w
 | (.nothing n, s) => e = .returned (.tuple #[.int .i64 n, .bool false]) ∧ S s w
 | (.pan n, s) => e = .panicked [{ v := .iface 2 (.int .i64 n), recovered := false }] ∧ S s w
def ansOf (A : Nat → Addr) : Found → Ans
 | .num n => .val n
 | .nothing _ => .fail 0 416 (.pointer (some (A 6)))
 | .pan n => .pan 2 (.int .i64 n)
variable {A : Nat → Addr} {S : σ → World → Prop} {R : Nat} {lv mv : Value} {w0 : World}
def measured (p : Nat) (r : Found × σ) : Res × σ :=
 match r with
 | (.num n, s) => (.val n, s)
 | (.nothing _, s) => (.held p .noData, s)
 | (.pan n, s) => (.held p (.panic n), s)
end
end Go.Proofs.YtbokdbaagacnlaaGreatDoor
namespace Go.Proofs.YtbokdbaagacnlaaGreatDoor
open Go.RowKit
def MapF (w : World) (m : Nat) (F : ByteArray → Option Value) : Prop := ∃ es clock, w.heap[m]? = some (.map es clock) ∧ (∀ e ∈ es.toList, ∃ s, e.key = .string s) ∧ MapKept.Stamped es clock ∧ ∀ s v, F s = some v ↔ ∃ e ∈ es.toList, e.key = .string s ∧ e.val = v
section
variable {w w' : World} {m : Nat} {F : ByteArray → Option Value}
theorem MapF.new (w : World) : MapF (w.alloc (.map #[] 0)) w.heap.size (fun _ => none) := ⟨#[], 0, heap_alloc_new _ _, by simp, MapKept.stamped_empty 0, by simp⟩
theorem MapF.block (h : MapF w m F) (hb : w'.heap[m]? = w.heap[m]?) : MapF w' m F := by
 obtain ⟨es, clock, h1, h2⟩ := h
 exact ⟨es, clock, hb.trans h1, h2⟩
theorem MapF.lt (h : MapF w m F) : m < w.heap.size := by obtain ⟨es, clock, h1, -⟩ := h; exact heap_lt h1
theorem MapF.find (h : MapF w m F) (s : ByteArray) : ∃ es clock, w.heap[m]? = some (.map es clock) ∧ ((Instr.findNow .string (.string s) es.toList 0 = some none ∧ F s = none) ∨ ∃ j e, Instr.findNow .string (.string s) es.toList 0 = some (some (j, e.val)) ∧ es.toList[j]? = some e ∧ e.key = .string s ∧ F s = some e.val) := by
 obtain ⟨es, clock, h1, h2, h3, h4⟩ := h
 refine ⟨es, clock, h1, ?_⟩
 rcases MapKept.findNow_spec (d := .string) (k := .string s) (by simp [MapKept.IsKey]) es.toList 0 (fun x hx => by obtain ⟨t, e⟩ := h2 x hx; rw [e]; simp [MapKept.IsKey]) with ⟨q1, q2⟩ | ⟨j, e, q1, q2, q3⟩
 ·refine .inl ⟨q1, ?_⟩
  cases e : F s with
  | none => rfl
  | some v => obtain ⟨x, hx, hk, -⟩ := (h4 s v).1 e; exact absurd hk (q2 x hx)
 ·exact .inr ⟨j, e, by simpa using q1, q2, q3, (h4 s e.val).2 ⟨e, List.mem_of_getElem? q2, q3, rfl⟩⟩
theorem MapF.lookup (h : MapF w m F) (s : ByteArray) : (Instr.lookup 113 (.map (some m)) (.string s) false).run Tryz.prog w = .ok ((F s).getD .nilFunc) w := by
 obtain ⟨es, clock, h1, h2⟩ := h.find s
 have hc : ∀ b, (Instr.checkKey b 10000 9 (.string s)).run Tryz.prog w = .ok () w := fun b => MapKept.run_checkKey (k := .string s) Tryz.underlying9 (by simp [MapKept.IsKey]) b 9999
 rcases h2 with ⟨q1, q2⟩ | ⟨j, e, q1, -, -, q4⟩
 ·simp [Instr.lookup, run_underlying Tryz.underlying113, MapKept.run_getObj_map h1, hc, MapKept.run_findKey Tryz.underlying9 q1, Result.andThen, q2]
 ·simp [Instr.lookup, run_underlying Tryz.underlying113, MapKept.run_getObj_map h1, hc, MapKept.run_findKey Tryz.underlying9 q1, Result.andThen, q4]
theorem lookup_none (w : World) (s : ByteArray) : (Instr.lookup 113 (.map none) (.string s) false).run Tryz.prog w = .ok .nilFunc w := by
 have hc : ∀ b, (Instr.checkKey b 10000 9 (.string s)).run Tryz.prog w = .ok () w := fun b => MapKept.run_checkKey (k := .string s) Tryz.underlying9 (by simp [MapKept.IsKey]) b 9999
 have hf : Instr.findNow .string (.string s) ([] : List MapEntry) 0 = some none := rfl
 simp [Instr.lookup, run_underlying Tryz.underlying113, hc, MapKept.run_findKey Tryz.underlying9 hf, Result.andThen]
theorem MapF.update (h : MapF w m F) (s : ByteArray) (v : Value) : ∃ w', (Instr.mapUpdate 113 (.map (some m)) (.string s) v).run Tryz.prog w = .ok () w' ∧ MapF w' m (fun t => if t = s then some v else F t) ∧ w.grownBy w' (some m) := by
 have hh := h
 obtain ⟨es, clock, h1, h2, h3, h4⟩ := hh
 obtain ⟨es0, clock0, h10, hf⟩ := h.find s
 rw [h1] at h10
 injection h10 with h10
 injection h10 with e1 e2
 subst e1 e2
 have hc : ∀ b, (Instr.checkKey b 10000 9 (.string s)).run Tryz.prog w = .ok () w := fun b => MapKept.run_checkKey (k := .string s) Tryz.underlying9 (by simp [MapKept.IsKey]) b 9999
 have hgr : ∀ o, w.grownBy { w with heap := w.heap.setIfInBounds m o } (some m) := fun o => ⟨rfl, rfl, rfl, by simp, fun k hk hne => by
  have : m ≠ k := fun e => hne (by rw [e])
  simp [this]⟩
 have hsame : ∀ o, ({ w with heap := w.heap.setIfInBounds m o } : World).heap[m]? = some o := fun o => by
  have := heap_lt h1
  simp [this]
 rcases hf with ⟨q1, q2⟩ | ⟨j, e, q1, q2, q3, q4⟩
 ·refine ⟨_, by simp [Instr.mapUpdate, run_underlying Tryz.underlying113, MapKept.run_getObj_map h1, hc, MapKept.run_findKey Tryz.underlying9 q1, MapKept.run_setObj_map _ h1, Result.andThen]; rfl, ⟨_, _, hsame _, ?_, ?_, ?_⟩, hgr _⟩
  ·intro x hx
   simp at hx
   rcases hx with hx | rfl
   ·exact h2 x (by simpa using hx)
   ·exact ⟨s, rfl⟩
  ·exact MapKept.stamped_push h3 fun x hx e => by
    have := (h4 s x.val).2 ⟨x, hx, e, rfl⟩
    rw [q2] at this
    cases this
  ·intro t u
   by_cases hts : t = s
   ·subst hts
    simp only [if_true]
    constructor
    ·intro q
     injection q with q
     subst q
     exact ⟨⟨.string t, v, clock⟩, by simp, rfl, rfl⟩
    ·rintro ⟨x, hx, hk, rfl⟩
     simp at hx
     rcases hx with hx | rfl
     ·have := (h4 t x.val).2 ⟨x, by simpa using hx, hk, rfl⟩
      rw [q2] at this
      cases this
     ·rfl
   ·show (if t = s then some v else F t) = some u ↔ _
    rw [if_neg hts, h4]
    constructor
    ·rintro ⟨x, hx, hk, hv⟩
     exact ⟨x, by simp at hx ⊢; exact .inl hx, hk, hv⟩
    ·rintro ⟨x, hx, hk, hv⟩
     simp at hx
     rcases hx with hx | rfl
     ·exact ⟨x, by simpa using hx, hk, hv⟩
     ·injection hk with hk
      exact absurd hk.symm hts
 ·have hsb : Instr.sameBits 10000 (.string s) (.string s) = true := by
   unfold Instr.sameBits
   exact (MapKept.bytes_beq s s).2 rfl
  have hjs : es[j]? = some e := by simpa using q2
  have hkt : (Instr.keyThatStays (((es[j]?).map (·.key)).getD (.string s)) (.string s)).run Tryz.prog w = .ok (.string s) w := by
   rw [hjs]
   simp [Instr.keyThatStays, q3, hsb]
  refine ⟨_, by simp [Instr.mapUpdate, run_underlying Tryz.underlying113, MapKept.run_getObj_map h1, hc, MapKept.run_findKey Tryz.underlying9 q1, MapKept.run_setObj_map _ h1, Result.andThen, hkt]; rfl, ⟨_, _, hsame _, ?_, ?_, ?_⟩, hgr _⟩
  ·intro x hx
   obtain ⟨k, hk⟩ := List.getElem?_of_mem hx
   rw [Array.toList_modify, List.getElem?_modify] at hk
   split at hk
   ·cases hq : es.toList[k]? with
    | none => rw [hq] at hk; cases hk
    | some y => rw [hq] at hk; injection hk with hk; exact ⟨s, by rw [← hk]⟩
   ·exact h2 x (List.mem_of_getElem? (by simpa using hk))
  ·exact MapKept.stamped_modify h3 j _ (fun _ _ => rfl) (fun x _ hx => by rw [hjs] at hx; injection hx with hx; subst hx; exact q3.symm)
  ·have huniq : ∀ (k : Nat) (x : MapEntry), es.toList[k]? = some x → x.key = .string s → k = j := fun k x hx hk => by
    have a1 : (es.toList.map (·.key))[k]? = some (.string s) := by rw [List.getElem?_map, hx]; simp [hk]
    have a2 : (es.toList.map (·.key))[j]? = some (.string s) := by rw [List.getElem?_map, q2]; simp [q3]
    obtain ⟨b1, c1⟩ := List.getElem?_eq_some_iff.1 a1
    obtain ⟨b2, c2⟩ := List.getElem?_eq_some_iff.1 a2
    rcases Nat.lt_trichotomy k j with q | q | q
    ·exact absurd (c1.trans c2.symm) (List.pairwise_iff_getElem.1 h3.2.2 k j b1 b2 q)
    ·exact q
    ·exact absurd (c2.trans c1.symm) (List.pairwise_iff_getElem.1 h3.2.2 j k b2 b1 q)
   have hget : ∀ k, (es.modify j fun x => { x with key := .string s, val := v }).toList[k]? = if j = k then (es.toList[k]?).map (fun x => { x with key := .string s, val := v }) else es.toList[k]? := fun k => by
    rw [Array.toList_modify, List.getElem?_modify]
    split <;> simp
   intro t u
   show (if t = s then some v else F t) = some u ↔ _
   by_cases hts : t = s
   ·subst hts
    rw [if_pos rfl]
    constructor
    ·intro q
     injection q with q
     subst q
     refine ⟨{ e with key := .string t, val := v }, List.mem_of_getElem? (i := j) ?_, rfl, rfl⟩
     rw [hget, if_pos rfl, q2]
     rfl
    ·rintro ⟨x, hx, hk, rfl⟩
     obtain ⟨k, hk2⟩ := List.getElem?_of_mem hx
     rw [hget] at hk2
     split at hk2
     ·cases hq : es.toList[k]? with
      | none => rw [hq] at hk2; cases hk2
      | some y => rw [hq] at hk2; injection hk2 with hk2; rw [← hk2]
     ·rename_i hne
      exact absurd (huniq k x hk2 hk).symm hne
   ·rw [if_neg hts, h4]
    constructor
    ·rintro ⟨x, hx, hk, hv⟩
     obtain ⟨k, hk2⟩ := List.getElem?_of_mem hx
     have hne : ¬ j = k := fun e2 => by
      subst e2
      rw [q2] at hk2
      injection hk2 with hk2
      subst hk2
      rw [q3] at hk
      injection hk with hk
      exact hts hk.symm
     exact ⟨x, List.mem_of_getElem? (i := k) (by rw [hget, if_neg hne]; exact hk2), hk, hv⟩
    ·rintro ⟨x, hx, hk, hv⟩
     obtain ⟨k, hk2⟩ := List.getElem?_of_mem hx
     rw [hget] at hk2
     split at hk2
     ·cases hq : es.toList[k]? with
      | none => rw [hq] at hk2; cases hk2
      | some y =>
       rw [hq] at hk2
       injection hk2 with hk2
       rw [← hk2] at hk
       injection hk with hk
       exact absurd hk.symm hts
     ·exact ⟨x, List.mem_of_getElem? hk2, hk, hv⟩
end
theorem wpList_mapUpdate_F (w : World) {ops : Array Oper} {rest : List Oper} {o : Oper} {a : Act} {Q : Exit → Act → World → Prop}
  (hg : o.guard = none) (m x v : Operand) (hop : o.op = Op.mapUpdate 113 m x v) (b : Nat) (F : ByteArray → Option Value) (s : ByteArray) (val : Value)
  (hm : a.eval m = .map (some b)) (h : MapF w b F) (hx : a.eval x = .string s) (hv : a.eval v = val)
  (hK : ∀ w', MapF w' b (fun t => if t = s then some val else F t) → w.grownBy w' (some b) → wpList Tryz.prog ops Q rest (a.put o.dst undef) w') :
  wpList Tryz.prog ops Q (o :: rest) a w := by
 refine wpList_plain hg fun K' hK' => ?_
 obtain ⟨w', hrun, r1, r2⟩ := h.update s val
 unfold Oper.wp
 simp [execOp, hop, hm, hx, hv, hrun, Result.andThen]
 exact hK' _ _ (hK w' r1 r2)
end Go.Proofs.YtbokdbaagacnlaaGreatDoor
namespace Go.Proofs.YtbokdbaagacnlaaGreatDoor
open Go.RowKit Go.Lib
inductive PFound where
 | val (n : Int)
 | fail
 | pan (n : Int)
def ints (xs : List Int) : List Value := xs.map fun x => .int .i64 x
section
variable {σ : Type}
def ProbeR (S : σ → World → Prop) (r : PFound × σ) (w : World) (e : Ending) : Prop :=
 match r with
 | (.val n, s) => e = .returned (.tuple #[.int .i64 n, .nilIface]) ∧ In64 n ∧ S s w
 | (.fail, s) => (∃ n c, e = .returned (.tuple #[.int .i64 n, .iface 200 (ptr c)])) ∧ S s w
 | (.pan n, s) => e = .panicked [{ v := .iface 2 (.int .i64 n), recovered := false }] ∧ S s w
def AnsP : PFound → Ans → Prop
 | .val n, a => a = .val n ∧ In64 n
 | .fail, a => ∃ n c, a = .fail n 200 (ptr c)
 | .pan n, a => a = .pan 2 (.int .i64 n)
variable {A : Nat → Addr} {S : σ → World → Prop} {R : Nat} {lv mv : Value} {w0 : World}
end
end Go.Proofs.YtbokdbaagacnlaaGreatDoor
namespace Go.Proofs.YtbokdbaagacnlaaGreatDoor
section
variable {σ : Type}
def onAll : List (σ → Res × σ) → (List Int → σ → Res × σ) → σ → Res × σ
 | [], k => k []
 | m :: ms, k => onVal m fun x => onAll ms fun xs => k (x :: xs)
theorem onVal_val {m : σ → Res × σ} {k : Int → σ → Res × σ} {s s1 : σ} {n : Int} (h : m s = (.val n, s1)) : onVal m k s = k n s1 := by simp only [onVal, h]
theorem onVal_held {m : σ → Res × σ} {k : Int → σ → Res × σ} {s s1 : σ} {p : Nat} {y : Why} (h : m s = (.held p y, s1)) : onVal m k s = (.held p y, s1) := by simp only [onVal, h]
def probed (p : Nat) (r : PFound × σ) : Res × σ :=
 match r with
 | (.val n, s) => (.val n, s)
 | (.fail, s) => (.held p .failed, s)
 | (.pan n, s) => (.held p (.panic n), s)
structure Env (σ : Type) where
 look : Option (ByteArray → ByteArray → Int → σ → Found × σ)
 probe : ByteArray → List Int → σ → PFound × σ
mutual
def ev (E : Env σ) : Tree → σ → Res × σ
 | .num _ n => fun s => (.val n, s)
 | .neg _ a => onVal (ev E a) fun n s => (.val (clip (-n)), s)
 | .bin k p a b => if k = 47 then onBoth (ev E a) (ev E b) fun x y s => (if y = 0 then .held p .divide else .val (quot x y), s) else onBoth (ev E a) (ev E b) fun x y s => (.val (reck k x y), s)
 | .ite _ a b c => onVal (ev E a) fun n s => if n ≠ 0 then ev E b s else ev E c s
 | .meas p wd m n => fun s => match E.look with
  | none => (.held p .noData, s)
  | some l => measured p (l wd m n s)
 | .probe p wd ts => onAll (evAll E ts) fun xs s => probed p (E.probe wd xs s)
def evAll (E : Env σ) : List Tree → List (σ → Res × σ)
 | [] => []
 | t :: ts => ev E t :: evAll E ts
end
mutual
theorem ev_bare (E : Env σ) : ∀ t, ev E (bare t) = ev E t
 | .num _ _ => by simp [bare, ev]
 | .neg _ a => by simp [bare, ev, ev_bare E a]
 | .bin k p a b => by
  by_cases h : k = 47
  ·simp [bare, ev, h, ev_bare E a, ev_bare E b]
  ·simp [bare, ev, h, ev_bare E a, ev_bare E b]
 | .ite _ a b c => by simp [bare, ev, ev_bare E a, ev_bare E b, ev_bare E c]
 | .meas _ _ _ _ => by simp [bare, ev]
 | .probe _ _ ts => by simp [bare, ev, evAll_bare E ts]
theorem evAll_bare (E : Env σ) : ∀ ts, evAll E (bares ts) = evAll E ts
 | [] => by simp [bares, evAll]
 | t :: ts => by simp [bares, evAll, ev_bare E t, evAll_bare E ts]
end
theorem evAll_length (E : Env σ) : ∀ ts, (evAll E ts).length = ts.length
 | [] => rfl
 | _ :: ts => by simp [evAll, evAll_length E ts]
end
end Go.Proofs.YtbokdbaagacnlaaGreatDoor
namespace Go.Proofs.YtbokdbaagacnlaaGreatDoor
open Go.RowKit Go.Lib
section
variable {σ : Type} {A : Nat → Addr} {S : σ → World → Prop} {R : Nat} {lv mv : Value} {w0 : World}
theorem Tryz.infoI64h : (Tryz.prog.info? 2).map (fun i => (i.zero, i.size, i.bytes)) = some (some (.int .i64 0), 1, 8) := by kernel_rfl
end
end Go.Proofs.YtbokdbaagacnlaaGreatDoor
namespace Go.Proofs.YtbokdbaagacnlaaGreatDoor
open Go.RowKit Go.Lib
theorem isReck_cases {k : Nat} (h : isReck k = true) : k = 43 ∨ k = 45 ∨ k = 42 ∨ k = 60 ∨ k = 62 ∨ k = 61 := by
 simp [isReck] at h
 omega
section
variable {σ : Type} {A : Nat → Addr} {S : σ → World → Prop} {R N : Nat} {lv : Value} {w0 : World} {g : Nat} {G : ByteArray → Option Value} {E : Env σ}
theorem VNodes.length {P : Nat → Prop} {w : World} : ∀ {ts : List Tree} {vs : List Value}, VNodes P w ts vs → vs.length = ts.length
 | [], vs, h => by unfold VNodes at h; subst h; rfl
 | t :: ts, vs, h => by
  unfold VNodes at h
  obtain ⟨v, vs', rfl, -, h2⟩ := h
  simp [VNodes.length h2]
end
end Go.Proofs.YtbokdbaagacnlaaGreatDoor
namespace Go.Proofs.YtbokdbaagacnlaaGreatDoor
open Go.RowKit Go.Lib
def readB (l : List UInt8) : Tree × RS := RS.part 200 ⟨l, 0, false, [], [], []⟩
def okB (l : List UInt8) : Prop := (readB l).2.wrong = false ∧ (readB l).2.rest = []
instance (l : List UInt8) : Decidable (okB l) := inferInstanceAs (Decidable (_ ∧ _))
theorem readB_enc {t : Tree} (h : Fit t) (hs : size t ≤ 200) : readB (enc t) = (bare t, ⟨[], size t, false, notes [] (mets t), asks t, spansOf t⟩) := by
 have := part_enc t 200 [] 0 [] [] [] h (by omega) (by omega) (by omega)
 unfold readB
 simpa using this
structure LoadedB (lo : Nat) (w : World) (b : Nat) (t : Tree) (ms : List ByteArray) (qs : List (Nat × ByteArray)) (sp : List (ByteArray × Int)) : Prop where
 blk : ∃ vv mv sv av, w.heap[b]? = some (.cells #[vv, mv, sv, av] 147 (0, 0)) ∧ FuncV vv ∧ VNode (fun g => lo ≤ g ∧ g < w.heap.size) w t vv ∧ w.ownsRow lo 9 1 mv ms.length (ms.map Value.string) ∧ w.ownsRow lo 236 2 av qs.length (askCells qs) ∧ w.ownsRow lo 194 2 sv sp.length (spanCells sp)
 lo : lo ≤ b
theorem LoadedB.below {lo b : Nat} {w w' : World} {t : Tree} {ms : List ByteArray} {qs : List (Nat × ByteArray)} {sp : List (ByteArray × Int)} (h : LoadedB lo w b t ms qs sp) (hb : Below w.heap.size w w') : LoadedB lo w' b t ms qs sp := by
 obtain ⟨⟨vv, mv, sv, av, h1, h2, h3, h4, h5, h7⟩, h6⟩ := h
 exact ⟨⟨vv, mv, sv, av, (hb.block b (heap_lt h1)).trans h1, h2, h3.moves fun g hg => ⟨⟨hg.1, Nat.lt_of_lt_of_le hg.2 hb.size⟩, hb.block g hg.2⟩, owns_block2 h4 fun g hg => hb.block g (h4.lt _ hg).2, owns_block2 h5 fun g hg => hb.block g (h5.lt _ hg).2, owns_block2 h7 fun g hg => hb.block g (h7.lt _ hg).2⟩, h6⟩
set_option maxRecDepth 1000000 in
set_option maxHeartbeats 1000000 in
theorem rd_Read {A : Nat → Addr} {w : World} (hT : TabsR w) (hS : Sents A w) {v : Value} {l : List UInt8} (hl : RestAt w.heap.size w v l) :
  Calls Tryz.prog 64 #[v] w fun e w' => Below w.heap.size w w' ∧ ((okB l ∧ ∃ b, e = .returned (.tuple #[ptr b, .nilIface]) ∧ LoadedB w.heap.size w' b (readB l).1 (readB l).2.mets (readB l).2.asks (readB l).2.spans) ∨ (¬ okB l ∧ e = .returned (.tuple #[.pointer none, .iface 416 (.pointer (some (A 1)))]))) := by
 obtain ⟨ao, cp, rfl, hcp⟩ := hl.slice
 have hb0 : Below w.heap.size w (w.alloc (.cells #[.slice ao l.length cp, .int .i64 0, .bool false, .slice none 0 0, .slice none 0 0, .slice none 0 0] 234)) := (Below.refl _ _).alloc (Nat.le_refl _) _
 have h0 : RSt w.heap.size (w.alloc (.cells #[.slice ao l.length cp, .int .i64 0, .bool false, .slice none 0 0, .slice none 0 0, .slice none 0 0] 234)) ⟨l, 0, false, [], [], []⟩ := ⟨⟨_, _, _, _, heap_alloc_new _ _, hl.below hb0, World.ownsRow_nil _ _ _ _, World.ownsRow_nil _ _ _ _, World.ownsRow_nil _ _ _ _⟩, ⟨w, hT, Nat.le_refl _, hb0⟩⟩
 have hpc := rd_part (R := w.heap.size) 200 _ _ h0 ⟨fun _ => by simp, fun _ => by simp, by simp, by simp, by simp⟩ (.inr (by simp))
 have HB0 : Hid _ := And.intro hb0 h0
 have HS : Hid (Sents A w) := hS
 have HR : Hid (readB l = RS.part 200 ⟨l, 0, false, [], [], []⟩) := rfl
 clear hT hS hl hb0 h0
 generalize RS.part 200 ⟨l, 0, false, [], [], []⟩ = Z at *
 go_enter Tryz.func64, Tryz.ntmps64
 go_wp2_with fail
 refine hpc.mono ?_
 rintro e w1 ⟨v1, rfl, hf1, h1, k1, hv1⟩
 have hbl : Below w.heap.size w w1 := HB0.out.1.trans (HB0.out.2.below_of k1)
 have HBL : Hid (Below w.heap.size w w1) := hbl
 obtain ⟨rv, mv, sv, av, b1, b2, b3, b4, b5⟩ := h1.blk
 obtain ⟨ao1, cp1, rfl, hcp1⟩ := b2.slice
 obtain ⟨aom, cpm, rfl⟩ := owns_len b3
 obtain ⟨aoa, cpa, rfl⟩ := owns_len b4
 obtain ⟨aos, cps, rfl⟩ := owns_len b5
 have c0 : w1.cell? ⟨w.heap.size, 0, none⟩ = some (.slice ao1 Z.2.rest.length cp1) := cell_of_heap b1 rfl
 have c2 : w1.cell? ⟨w.heap.size, 2, none⟩ = some (.bool Z.2.wrong) := cell_of_heap b1 rfl
 have c3 : w1.cell? ⟨w.heap.size, 3, none⟩ = some (.slice aom Z.2.mets.length cpm) := cell_of_heap b1 rfl
 have c4 : w1.cell? ⟨w.heap.size, 4, none⟩ = some (.slice aos Z.2.spans.length cps) := cell_of_heap b1 rfl
 have c5 : w1.cell? ⟨w.heap.size, 5, none⟩ = some (.slice aoa Z.2.asks.length cpa) := cell_of_heap b1 rfl
 have g1 : w1.cell? ⟨6, 0, none⟩ = some (.iface 416 (.pointer (some (A 1)))) := (HS.out.below hbl).g1
 have HQ : Hid _ := And.intro hf1 (And.intro b3 (And.intro b4 (And.intro hv1 b5)))
 have hszR : w.heap.size < w1.heap.size := heap_lt b1
 clear hpc h1 k1 hv1 b1 b2 b3 b4 b5 hbl
 cases hw : Z.2.wrong with
 | true =>
  have HK : Hid (¬ okB l) := fun q => by have := q.1; rw [HR.out, hw] at this; cases this
  rw [hw] at c2
  clear hw
  rcases hf1 with rfl | ⟨_, _, _, rfl⟩
  all_goals
   go_wp2_with fail
   go_quiet (fail)
   go_wp2
   go_ret2
   exact ⟨⟨HBL.out.os, HBL.out.tape, HBL.out.output, HBL.out.size, HBL.out.block⟩, .inr ⟨HK.out, rfl⟩⟩
 | false =>
  rw [hw] at c2
  by_cases hr : Z.2.rest.length = 0
  ·have HK : Hid (okB l) := ⟨by rw [HR.out]; exact hw, by rw [HR.out]; exact List.eq_nil_of_length_eq_zero hr⟩
   have HV : Hid (VNode (Fr w.heap.size (w.alloc (.cells #[.slice ao l.length cp, .int .i64 0, .bool false, .slice none 0 0, .slice none 0 0, .slice none 0 0] 234)).heap.size w1) w1 Z.1 v1) := HQ.out.2.2.2.1 hw
   rw [hr] at c0
   have hgt : ¬ (0 : Int) < ((0 : Nat) : Int) := by simp
   clear hw hr
   rcases hf1 with rfl | ⟨_, _, _, rfl⟩
   all_goals
    go_wp2_with fail
    go_region
    all_goals
     go_wp2
     go_ret2
     have bl : ∀ o, Below w1.heap.size w1 ((w1.alloc o).drew) := fun o => ((Below.refl _ _).alloc (Nat.le_refl _) o).drew
     refine ⟨HBL.out.trans ((bl _).mono HBL.out.size), .inl ⟨HK.out, _, rfl, ⟨⟨_, _, _, _, heap_alloc_new _ _, HQ.out.1, ?_, ?_, ?_, ?_⟩, HBL.out.size⟩⟩⟩
     ·rw [HR.out]
      exact HV.out.moves fun g hg => ⟨⟨by have := hg.2; simp at this; omega, Nat.lt_of_lt_of_le hg.1.lt (bl _).size⟩, (bl _).block g hg.1.lt⟩
     ·rw [HR.out]
      exact owns_block2 (owns_lower HQ.out.2.1 (by omega)) fun g hg => (bl _).block g (HQ.out.2.1.lt _ hg).2
     ·rw [HR.out]
      exact owns_block2 (owns_lower HQ.out.2.2.1 (by omega)) fun g hg => (bl _).block g (HQ.out.2.2.1.lt _ hg).2
     ·rw [HR.out]
      exact owns_block2 (owns_lower HQ.out.2.2.2.2 (by omega)) fun g hg => (bl _).block g (HQ.out.2.2.2.2.lt _ hg).2
  ·have HK : Hid (¬ okB l) := fun q => by have := q.2; rw [HR.out] at this; rw [this] at hr; exact hr rfl
   have hgt : (0 : Int) < (Z.2.rest.length : Int) := by omega
   clear hw hr
   rcases hf1 with rfl | ⟨_, _, _, rfl⟩
   all_goals
    go_wp2_with fail
    go_quiet (fail)
    go_wp2
    go_ret2
    exact ⟨⟨HBL.out.os, HBL.out.tape, HBL.out.output, HBL.out.size, HBL.out.block⟩, .inr ⟨HK.out, rfl⟩⟩
end Go.Proofs.YtbokdbaagacnlaaGreatDoor
