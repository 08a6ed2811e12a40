/-
  MAPS FROM TEXTS OR NUMBERS TO WHATEVER: laws.
-/
import Derived.Test.YtaghcjpoihkpjaaGreatDoorProg
import Derived.Test.YtaghcjpoihkpjaaGreatDoorJM1
import Derived.MapKept
import Derived.Maps.Own
import Derived.Test.YtaghcjpoihkpjaaGreatDoorJM32
import Derived.Test.YtaghcjpoihkpjaaGreatDoorJM4
import Derived.Test.YtaghcjpoihkpjaaGreatDoorJM19
namespace Go.Proofs.YtaghcjpoihkpjaaGreatDoor
open Go.RowKit

/-- Block m is a map that reads as F. -/
def MapG {κ : Type} (kv : κ → Value) (w : World) (m : Nat) (F : κ → Option Value) : Prop := ∃ es clock, w.heap[m]? = some (.map es clock) ∧ (∀ e ∈ es.toList, ∃ s, e.key = kv s) ∧ MapKept.Stamped es clock ∧ ∀ s v, F s = some v ↔ ∃ e ∈ es.toList, e.key = kv s ∧ e.val = v
section
variable {κ : Type} {kv : κ → Value} {w w' : World} {m : Nat} {F : κ → Option Value}
theorem MapG.new (kv : κ → Value) (w : World) : MapG kv (w.alloc (.map #[] 0)) w.heap.size (fun _ => none) := ⟨#[], 0, heap_alloc_new _ _, by simp, MapKept.stamped_empty 0, by simp⟩
theorem MapG.block (h : MapG kv w m F) (hb : w'.heap[m]? = w.heap[m]?) : MapG kv w' m F := by
  obtain ⟨es, clock, h1, h2⟩ := h
  exact ⟨es, clock, hb.trans h1, h2⟩
theorem MapG.lt (h : MapG kv w m F) : m < w.heap.size := by obtain ⟨es, clock, h1, -⟩ := h; exact heap_lt h1
theorem MapG.congr {G : κ → Option Value} (h : MapG kv w m F) (e : ∀ s, F s = G s) : MapG kv w m G := by
  obtain ⟨es, clock, h1, h2, h3, h4⟩ := h
  exact ⟨es, clock, h1, h2, h3, fun s v => by rw [← e]; exact h4 s v⟩
theorem MapG.find {d : TypeDesc} (hd : ∀ a, MapKept.IsKey d (kv a)) (h : MapG kv w m F) (s : κ) : ∃ es clock, w.heap[m]? = some (.map es clock) ∧ ((Instr.findNow d (kv s) es.toList 0 = some none ∧ F s = none) ∨ ∃ j e, Instr.findNow d (kv s) es.toList 0 = some (some (j, e.val)) ∧ es.toList[j]? = some e ∧ e.key = kv s ∧ F s = some e.val) := by
  obtain ⟨es, clock, h1, h2, h3, h4⟩ := h
  refine ⟨es, clock, h1, ?_⟩
  rcases MapKept.findNow_spec (d := d) (k := kv s) (hd s) es.toList 0 (fun x hx => by obtain ⟨t, e⟩ := h2 x hx; rw [e]; exact hd t) with ⟨q1, q2⟩ | ⟨j, e, q1, q2, q3⟩
  · refine .inl ⟨q1, ?_⟩
    cases e : F s with
    | none => rfl
    | some v => obtain ⟨x, hx, hk, -⟩ := (h4 s v).1 e; exact absurd hk (q2 x hx)
  · exact .inr ⟨j, e, by simpa using q1, q2, q3, (h4 s e.val).2 ⟨e, List.mem_of_getElem? q2, q3, rfl⟩⟩
theorem MapG.lookup {d : TypeDesc} (hd : ∀ a, MapKept.IsKey d (kv a)) {T kt et : TypeId} {z : Value} (hT : Tryz.prog.underlying T = some (.map kt et)) (hkt : Tryz.prog.underlying kt = some d) (hz : ∀ w, (zeroValue et).run Tryz.prog w = .ok z w) (h : MapG kv w m F) (s : κ) : (Instr.lookup T (.map (some m)) (kv s) false).run Tryz.prog w = .ok ((F s).getD z) w := by
  obtain ⟨es, clock, h1, h2⟩ := h.find hd s
  have hc : ∀ b, (Instr.checkKey b 10000 kt (kv s)).run Tryz.prog w = .ok () w := fun b => MapKept.run_checkKey (k := kv s) hkt (hd s) b 9999
  rcases h2 with ⟨q1, q2⟩ | ⟨j, e, q1, -, -, q4⟩
  · simp [Instr.lookup, run_underlying hT, MapKept.run_getObj_map h1, hc, MapKept.run_findKey hkt q1, Result.andThen, q2, hz]
  · simp [Instr.lookup, run_underlying hT, MapKept.run_getObj_map h1, hc, MapKept.run_findKey hkt q1, Result.andThen, q4]
set_option maxRecDepth 100000 in
theorem MapG.update [DecidableEq κ] {d : TypeDesc} (hd : ∀ a, MapKept.IsKey d (kv a)) (kinj : ∀ a b, kv a = kv b → a = b) {T kt et : TypeId} (hT : Tryz.prog.underlying T = some (.map kt et)) (hkt : Tryz.prog.underlying kt = some d) (h : MapG kv w m F) (s : κ) (v : Value) : ∃ w', (Instr.mapUpdate T (.map (some m)) (kv s) v).run Tryz.prog w = .ok () w' ∧ MapG kv w' m (fun t => if t = s then some v else F t) ∧ w.grownBy w' (some m) := by
  have hh := h
  obtain ⟨es, clock, h1, h2, h3, h4⟩ := hh
  obtain ⟨es0, clock0, h10, hf⟩ := h.find hd s
  rw [h1] at h10
  injection h10 with h10
  injection h10 with e1 e2
  subst e1 e2
  have hc : ∀ b, (Instr.checkKey b 10000 kt (kv s)).run Tryz.prog w = .ok () w := fun b => MapKept.run_checkKey (k := kv s) hkt (hd s) b 9999
  have hgr : ∀ o, w.grownBy { w with heap := w.heap.setIfInBounds m o } (some m) := fun o => ⟨rfl, rfl, rfl, by simp, fun k hk hne => by
    have : m ≠ k := fun e => hne (by rw [e])
    simp [this]⟩
  have hsame : ∀ o, ({ w with heap := w.heap.setIfInBounds m o } : World).heap[m]? = some o := fun o => by
    have := heap_lt h1
    simp [this]
  rcases hf with ⟨q1, q2⟩ | ⟨j, e, q1, q2, q3, q4⟩
  · refine ⟨_, by simp [Instr.mapUpdate, run_underlying hT, MapKept.run_getObj_map h1, hc, MapKept.run_findKey hkt q1, MapKept.run_setObj_map _ h1, Result.andThen]; rfl, ⟨_, _, hsame _, ?_, ?_, ?_⟩, hgr _⟩
    · intro x hx
      simp at hx
      rcases hx with hx | rfl
      · exact h2 x (by simpa using hx)
      · exact ⟨s, rfl⟩
    · exact MapKept.stamped_push h3 fun x hx e => by
        have := (h4 s x.val).2 ⟨x, hx, e, rfl⟩
        rw [q2] at this
        cases this
    · intro t u
      by_cases hts : t = s
      · subst hts
        simp only [if_true]
        constructor
        · intro q
          injection q with q
          subst q
          exact ⟨⟨kv t, v, clock⟩, by simp, rfl, rfl⟩
        · rintro ⟨x, hx, hk, rfl⟩
          simp at hx
          rcases hx with hx | rfl
          · have := (h4 t x.val).2 ⟨x, by simpa using hx, hk, rfl⟩
            rw [q2] at this
            cases this
          · rfl
      · show (if t = s then some v else F t) = some u ↔ _
        rw [if_neg hts, h4]
        constructor
        · rintro ⟨x, hx, hk, hv⟩
          exact ⟨x, by simp at hx ⊢; exact .inl hx, hk, hv⟩
        · rintro ⟨x, hx, hk, hv⟩
          simp at hx
          rcases hx with hx | rfl
          · exact ⟨x, by simpa using hx, hk, hv⟩
          · exact absurd (kinj _ _ hk).symm hts
  · have hks : (Instr.keyThatStays (kv s) (kv s)).run Tryz.prog w = .ok (kv s) w := MapKept.run_keyThatStays (hd s)
    have hjs : es[j]? = some e := by simpa using q2
    have hstay : (Instr.keyThatStays (((es[j]?).map (·.key)).getD (kv s)) (kv s)).run Tryz.prog w = .ok (kv s) w := by
      rw [hjs]
      simp only [Option.map_some, Option.getD_some, q3]
      exact hks
    refine ⟨_, by simp [Instr.mapUpdate, run_underlying hT, MapKept.run_getObj_map h1, hc, MapKept.run_findKey hkt q1, MapKept.run_setObj_map _ h1, Result.andThen, hstay]; rfl, ⟨_, _, hsame _, ?_, ?_, ?_⟩, hgr _⟩
    · intro x hx
      obtain ⟨k, hk⟩ := List.getElem?_of_mem hx
      rw [Array.toList_modify, List.getElem?_modify] at hk
      split at hk
      · cases hq : es.toList[k]? with
        | none => rw [hq] at hk; cases hk
        | some y => rw [hq] at hk; injection hk with hk; exact ⟨s, by rw [← hk]⟩
      · exact h2 x (List.mem_of_getElem? (by simpa using hk))
    · exact MapKept.stamped_modify h3 j _ (fun _ _ => rfl) (fun x _ hx => by rw [hjs] at hx; injection hx with hx; subst hx; exact q3.symm)
    · have huniq : ∀ (k : Nat) (x : MapEntry), es.toList[k]? = some x → x.key = kv s → k = j := fun k x hx hk => by
        have a1 : (es.toList.map (·.key))[k]? = some (kv s) := by rw [List.getElem?_map, hx]; simp [hk]
        have a2 : (es.toList.map (·.key))[j]? = some (kv s) := by rw [List.getElem?_map, q2]; simp [q3]
        obtain ⟨b1, c1⟩ := List.getElem?_eq_some_iff.1 a1
        obtain ⟨b2, c2⟩ := List.getElem?_eq_some_iff.1 a2
        rcases Nat.lt_trichotomy k j with q | q | q
        · exact absurd (c1.trans c2.symm) (List.pairwise_iff_getElem.1 h3.2.2 k j b1 b2 q)
        · exact q
        · exact absurd (c2.trans c1.symm) (List.pairwise_iff_getElem.1 h3.2.2 j k b2 b1 q)
      have hget : ∀ k, (es.modify j fun x => { x with key := kv s, val := v }).toList[k]? = if j = k then (es.toList[k]?).map (fun x => { x with key := kv s, val := v }) else es.toList[k]? := fun k => by
        rw [Array.toList_modify, List.getElem?_modify]
        split <;> simp
      intro t u
      show (if t = s then some v else F t) = some u ↔ _
      by_cases hts : t = s
      · subst hts
        rw [if_pos rfl]
        constructor
        · intro q
          injection q with q
          subst q
          refine ⟨{ e with key := kv t, val := v }, List.mem_of_getElem? (i := j) ?_, rfl, rfl⟩
          rw [hget, if_pos rfl, q2]
          rfl
        · rintro ⟨x, hx, hk, rfl⟩
          obtain ⟨k, hk2⟩ := List.getElem?_of_mem hx
          rw [hget] at hk2
          split at hk2
          · cases hq : es.toList[k]? with
            | none => rw [hq] at hk2; cases hk2
            | some y => rw [hq] at hk2; injection hk2 with hk2; rw [← hk2]
          · rename_i hne
            exact absurd (huniq k x hk2 hk).symm hne
      · rw [if_neg hts, h4]
        constructor
        · rintro ⟨x, hx, hk, hv⟩
          obtain ⟨k, hk2⟩ := List.getElem?_of_mem hx
          have hne : ¬ j = k := fun e2 => by
            subst e2
            rw [q2] at hk2
            injection hk2 with hk2
            subst hk2
            rw [q3] at hk
            exact hts (kinj _ _ hk).symm
          exact ⟨x, List.mem_of_getElem? (i := k) (by rw [hget, if_neg hne]; exact hk2), hk, hv⟩
        · rintro ⟨x, hx, hk, hv⟩
          obtain ⟨k, hk2⟩ := List.getElem?_of_mem hx
          rw [hget] at hk2
          split at hk2
          · cases hq : es.toList[k]? with
            | none => rw [hq] at hk2; cases hk2
            | some y =>
              rw [hq] at hk2
              injection hk2 with hk2
              rw [← hk2] at hk
              exact absurd (kinj _ _ hk).symm hts
          · exact ⟨x, List.mem_of_getElem? hk2, hk, hv⟩
end
end Go.Proofs.YtaghcjpoihkpjaaGreatDoor
namespace Go.Proofs.YtaghcjpoihkpjaaGreatDoor
open Go.RowKit Go.Lib

/-- A number as a key. -/
abbrev i64V (n : Int) : Value := .int .i64 n
theorem strKey (s : ByteArray) : MapKept.IsKey .string (.string s) := by simp [MapKept.IsKey]
theorem i64Key (n : Int) : MapKept.IsKey (.int .i64) (i64V n) := by simp [MapKept.IsKey]
theorem Tryz.zeroInner (w : World) : (zeroValue 122).run Tryz.prog w = .ok (.map none) w := by kernel_rfl
theorem Tryz.zeroWin (w : World) : (zeroValue 164).run Tryz.prog w = .ok (.pointer none) w := by kernel_rfl
/-- What is known of each window: its block, the row of its samples, its time, its samples. -/
structure WSt where
  blk : Nat
  row : Value
  time : Int
  kept : List (Int × Int)
/-- A window for each metric and width. -/
structure Wins (w : World) (m : Nat) (sp : List (ByteArray × Int)) (I : ByteArray → Nat) (st : ByteArray → Int → WSt) : Prop where
  outer : ∃ F, MapG Value.string w m F ∧ ∀ s, ((∃ n, (s, n) ∈ sp) → F s = some (.map (some (I s)))) ∧ ((∀ n, (s, n) ∉ sp) → F s = none)
  inner : ∀ q ∈ sp, ∃ F, MapG i64V w (I q.1) F ∧ ∀ n, ((q.1, n) ∈ sp → F n = some (ptr (st q.1 n).blk)) ∧ ((q.1, n) ∉ sp → F n = none)
  win : ∀ q ∈ sp, Win.WinI w (st q.1 q.2).blk q.2 (st q.1 q.2).time (st q.1 q.2).kept (st q.1 q.2).row
  good : ∀ q ∈ sp, (st q.1 q.2).kept.length ≤ 16 ∧ Win.Up (st q.1 q.2).kept ∧ Win.AllLe (st q.1 q.2).time (st q.1 q.2).kept
  apart : ∀ q ∈ sp, ∀ r ∈ sp, q ≠ r → (st q.1 q.2).blk ≠ (st r.1 r.2).blk ∧ ∀ g, (st q.1 q.2).row.ownBlock = some g → (st r.1 r.2).row.ownBlock ≠ some g
/-- The blocks that belong to a window. -/
def Mine (q : WSt) (b : Nat) : Prop := b = q.blk ∨ q.row.ownBlock = some b
set_option maxRecDepth 1000000 in
set_option maxHeartbeats 1000000 in
theorem code_at {w : World} {m : Nat} {sp : List (ByteArray × Int)} {I : ByteArray → Nat} {st : ByteArray → Int → WSt} (h : Wins w m sp I st) {q : ByteArray × Int} (hq : q ∈ sp) {t : Int} (ht : In64 t) (hle : (st q.1 q.2).time ≤ t) :
    Calls Tryz.prog 93 #[.map (some m), .int .i64 t, .string q.1, .int .i64 q.2] w fun e w' => e = .returned (ptr (st q.1 q.2).blk) ∧
      ∃ mv, Win.WinI w' (st q.1 q.2).blk q.2 t (Win.trim q.2 t (st q.1 q.2).kept) mv ∧ mv.ownBlock = (st q.1 q.2).row.ownBlock ∧ KeepX (Mine (st q.1 q.2)) w w' := by
  obtain ⟨F, hF, hF2⟩ := h.outer
  have hlo := hF.lookup strKey Tryz.underlying119 Tryz.underlying9 Tryz.zeroInner q.1
  rw [(hF2 q.1).1 ⟨q.2, hq⟩, Option.getD_some] at hlo
  obtain ⟨G, hG, hG2⟩ := h.inner q hq
  have hli := hG.lookup i64Key Tryz.underlying122 Tryz.underlying2 Tryz.zeroWin q.2
  rw [(hG2 q.2).1 hq, Option.getD_some] at hli
  have hg := h.good q hq
  have hadv := Win.advanceI (h.win q hq) t ht hle (fun x hx => Int.le_trans (hg.2.2 x hx) hle)
  generalize st q.1 q.2 = S at *
  clear h hq hg hF hF2 hG hG2
  go_enter Tryz.func93, Tryz.ntmps93
  go_wp2_with fail
  refine hadv.mono ?_
  rintro e w2 ⟨rfl, mv, h1, h2, h3⟩
  have HH : Hid _ := And.intro h1 (And.intro h2 h3)
  clear h1 h2 h3 hadv
  go_wp2
  go_ret
  exact ⟨rfl, mv, HH.out.1, HH.out.2.1, ⟨HH.out.2.2.os, HH.out.2.2.tape, HH.out.2.2.output, HH.out.2.2.size, HH.out.2.2.block⟩⟩
end Go.Proofs.YtaghcjpoihkpjaaGreatDoor
namespace Go.Proofs.YtaghcjpoihkpjaaGreatDoor
open Go.RowKit Go.Lib

set_option maxRecDepth 1000000 in
theorem sum_any (a v : Int) (w : World) : Calls Tryz.prog 125 #[.int .i64 a, .int .i64 v] w fun e w' => ∃ r, e = .returned (.int .i64 r) ∧ w' = w ∧ (In64 a → In64 v → r = clip (a + v)) := by
  by_cases h : In64 a ∧ In64 v
  · exact (b_Sum h.1 h.2 w).mono fun e w' ⟨h1, h2⟩ => ⟨_, h1, h2, fun _ _ => rfl⟩
  · have HN : Hid _ := h
    clear h
    go_enter Tryz.func125, Tryz.ntmps125
    go_wp2
    all_goals
      go_ret
      exact ⟨_, rfl, rfl, fun h1 h2 => absurd ⟨h1, h2⟩ HN.out⟩
set_option maxRecDepth 1000000 in
theorem newest_any (a v : Int) (w : World) : Calls Tryz.prog 168 #[.int .i64 a, .int .i64 v] w fun e w' => ∃ r, e = .returned (.int .i64 r) ∧ w' = w ∧ (In64 a → In64 v → r = v) := by
  go_enter Tryz.func168, Tryz.ntmps168
  go_wp2
  go_ret
  exact ⟨_, rfl, rfl, fun _ _ => rfl⟩
/-- The sum of some samples, from the oldest on, ending at the ends. -/
def totalW (k : List (Int × Int)) : Int := (k.map (·.2)).foldl (fun a v => clip (a + v)) 0
/-- The newest one; 0: there is none. -/
def newestW (k : List (Int × Int)) : Int := (k.map (·.2)).foldl (fun _ v => v) 0
set_option maxRecDepth 1000000 in
theorem code_total {w : World} {R : Nat} {wid tm : Int} {k : List (Int × Int)} {mv : Value} (h : Win.WinI w R wid tm k mv) (hl : k.length ≤ 16) (hk : ∀ x ∈ k, In64 x.2) :
    Calls Tryz.prog 141 #[ptr R] w fun e w' => e = .returned (.int .i64 (totalW k)) ∧ Below w.heap.size w w' := by
  have hf := Win.foldA (sf := 125) (enters_of Tryz.func125 (by kernel_rfl) rfl) (gf := fun a v => clip (a + v)) sum_any (fun a v _ _ => clip_in _) h hl hk (a0 := 0) (by unfold In64; omega)
  clear h
  go_enter Tryz.func141, Tryz.ntmps141
  go_wp2_with fail
  refine hf.mono ?_
  rintro e w2 ⟨rfl, hb⟩
  have HB : Hid _ := hb
  clear hf hb
  go_wp2
  go_ret
  exact ⟨rfl, HB.out⟩
set_option maxRecDepth 1000000 in
theorem code_newest {w : World} {R : Nat} {wid tm : Int} {k : List (Int × Int)} {mv : Value} (h : Win.WinI w R wid tm k mv) (hl : k.length ≤ 16) (hk : ∀ x ∈ k, In64 x.2) :
    Calls Tryz.prog 144 #[ptr R] w fun e w' => e = .returned (.int .i64 (newestW k)) ∧ Below w.heap.size w w' := by
  have hf := Win.foldA (sf := 168) (enters_of Tryz.func168 (by kernel_rfl) rfl) (gf := fun _ v => v) newest_any (fun a v _ h => h) h hl hk (a0 := 0) (by unfold In64; omega)
  clear h
  go_enter Tryz.func144, Tryz.ntmps144
  go_wp2_with fail
  refine hf.mono ?_
  rintro e w2 ⟨rfl, hb⟩
  have HB : Hid _ := hb
  clear hf hb
  go_wp2
  go_ret
  exact ⟨rfl, HB.out⟩
/-- The value that no other one is ahead of, and whether there is any. -/
def foreW (o : Option Int) : Int × Bool := match o with | none => (0, false) | some a => (a, true)
theorem fore_end (o : Option Int) : Win.foreEndI o = .returned (.tuple #[.int .i64 (foreW o).1, .bool (foreW o).2]) := by
  cases o <;> rfl
/-- What a measure tells of samples. -/
def measW (kind : ByteArray) (k : List (Int × Int)) : Int × Bool :=
  if kind.toList = [99, 111, 117, 110, 116] then ((k.length : Int), true)
  else if kind.toList = [115, 117, 109] then (totalW k, true)
  else if kind.toList = [108, 101, 97, 115, 116] then foreW (Win.foremost Win.lessI (k.map (·.2)))
  else if kind.toList = [109, 111, 115, 116] then foreW (Win.foremost (fun a b => Win.lessI b a) (k.map (·.2)))
  else if kind.toList = [109, 101, 97, 110] then (if k.length = 0 then (0, false) else (quot (totalW k) k.length, true))
  else if kind.toList = [108, 97, 115, 116] then (newestW k, decide (0 < k.length))
  else (0, false)
theorem total_in (k : List (Int × Int)) : In64 (totalW k) := by
  unfold totalW
  generalize k.map (·.2) = l
  have : ∀ (l : List Int) (a : Int), In64 a → In64 (l.foldl (fun a v => clip (a + v)) a) := by
    intro l
    induction l with
    | nil => intro a h; exact h
    | cons x l ih => intro a _; exact ih _ (clip_in _)
  exact this l 0 (by unfold In64; omega)
set_option maxRecDepth 1000000 in
set_option maxHeartbeats 2000000 in
theorem code_measured (kind : ByteArray) {w : World} {R : Nat} {wid tm : Int} {k : List (Int × Int)} {mv : Value} (h : Win.WinI w R wid tm k mv) (hl : k.length ≤ 16) (hk : ∀ x ∈ k, In64 x.2) :
    Calls Tryz.prog 92 #[.string kind, ptr R] w fun e w' => e = .returned (.tuple #[.int .i64 (measW kind k).1, .bool (measW kind k).2]) ∧ Below w.heap.size w w' := by
  have hlen := Win.lenI h
  have ht := code_total h hl hk
  have hn := code_newest h hl hk
  have h1 := Win.leastI h
  have h2 := Win.mostI h
  rw [fore_end] at h1 h2
  have hti := total_in k
  clear h hk
  by_cases e0 : kind.toList = [99, 111, 117, 110, 116]
  · have b0 : (kind.toList == [99, 111, 117, 110, 116]) = true := by rw [e0]; rfl
    have HM : Hid (measW kind k = ((k.length : Int), true)) := by show measW kind k = _; unfold measW; rw [if_pos e0]
    clear ht hn h1 h2
    go_enter Tryz.func92, Tryz.ntmps92
    go_wp2_with fail
    refine hlen.mono ?_
    rintro e w0 ⟨rfl, hw0⟩
    have hw0 := hw0.symm
    subst hw0
    go_wp2
    go_ret2
    exact ⟨by rw [HM.out]; rfl, Below.refl _ _⟩
  have b0 : (kind.toList == [99, 111, 117, 110, 116]) = false := by simpa using e0
  by_cases e1 : kind.toList = [115, 117, 109]
  · have b1 : (kind.toList == [115, 117, 109]) = true := by rw [e1]; rfl
    have HM : Hid (measW kind k = (totalW k, true)) := by show measW kind k = _; unfold measW; rw [if_neg e0, if_pos e1]
    clear hn h1 h2
    generalize totalW k = S at *
    go_enter Tryz.func92, Tryz.ntmps92
    go_wp2_with fail
    refine hlen.mono ?_
    rintro e w0 ⟨rfl, hw0⟩
    have hw0 := hw0.symm
    subst hw0
    go_wp2_with fail
    refine ht.mono ?_
    rintro e w2 ⟨rfl, hb⟩
    have HB : Hid _ := hb
    clear hb ht
    go_wp2
    go_ret2
    exact ⟨by rw [HM.out]; rfl, HB.out⟩
  have b1 : (kind.toList == [115, 117, 109]) = false := by simpa using e1
  by_cases e2 : kind.toList = [108, 101, 97, 115, 116]
  · have b2 : (kind.toList == [108, 101, 97, 115, 116]) = true := by rw [e2]; rfl
    have HM : Hid (measW kind k = foreW (Win.foremost Win.lessI (k.map (·.2)))) := by show measW kind k = _; unfold measW; rw [if_neg e0, if_neg e1, if_pos e2]
    clear ht hn h2
    generalize foreW (Win.foremost Win.lessI (k.map (·.2))) = L at *
    go_enter Tryz.func92, Tryz.ntmps92
    go_wp2_with fail
    refine hlen.mono ?_
    rintro e w0 ⟨rfl, hw0⟩
    have hw0 := hw0.symm
    subst hw0
    go_wp2_with fail
    refine h1.mono ?_
    rintro e w2 ⟨rfl, hb⟩
    have HB : Hid _ := hb
    clear hb h1
    go_wp2
    go_ret2
    exact ⟨by rw [HM.out]; rfl, HB.out⟩
  have b2 : (kind.toList == [108, 101, 97, 115, 116]) = false := by simpa using e2
  by_cases e3 : kind.toList = [109, 111, 115, 116]
  · have b3 : (kind.toList == [109, 111, 115, 116]) = true := by rw [e3]; rfl
    have HM : Hid (measW kind k = foreW (Win.foremost (fun a b => Win.lessI b a) (k.map (·.2)))) := by show measW kind k = _; unfold measW; rw [if_neg e0, if_neg e1, if_neg e2, if_pos e3]
    clear ht hn h1
    generalize foreW (Win.foremost (fun a b => Win.lessI b a) (k.map (·.2))) = L at *
    go_enter Tryz.func92, Tryz.ntmps92
    go_wp2_with fail
    refine hlen.mono ?_
    rintro e w0 ⟨rfl, hw0⟩
    have hw0 := hw0.symm
    subst hw0
    go_wp2_with fail
    refine h2.mono ?_
    rintro e w2 ⟨rfl, hb⟩
    have HB : Hid _ := hb
    clear hb h2
    go_wp2
    go_ret2
    exact ⟨by rw [HM.out]; rfl, HB.out⟩
  have b3 : (kind.toList == [109, 111, 115, 116]) = false := by simpa using e3
  by_cases e4 : kind.toList = [109, 101, 97, 110]
  · have b4 : (kind.toList == [109, 101, 97, 110]) = true := by rw [e4]; rfl
    have HM : Hid (measW kind k = (if k.length = 0 then (0, false) else (quot (totalW k) k.length, true))) := by show measW kind k = _; unfold measW; rw [if_neg e0, if_neg e1, if_neg e2, if_neg e3, if_pos e4]
    clear hn h1 h2
    by_cases h0 : k.length = 0
    · rw [if_pos h0] at HM
      have h0' : ¬ (0 : Int) < k.length := by omega
      rw [h0] at hlen h0'
      clear ht
      go_enter Tryz.func92, Tryz.ntmps92
      go_wp2_with fail
      refine hlen.mono ?_
      rintro e w0 ⟨rfl, hw0⟩
      have hw0 := hw0.symm
      subst hw0
      go_wp2
      go_ret2
      exact ⟨by rw [HM.out]; rfl, Below.refl _ _⟩
    · rw [if_neg h0] at HM
      have h0' : (0 : Int) < k.length := by omega
      have hq := fun w => b_Quotient hti (show In64 (k.length : Int) by unfold In64; omega) (by omega) w
      generalize totalW k = S at *
      generalize k.length = n at *
      go_enter Tryz.func92, Tryz.ntmps92
      go_wp2_with fail
      refine hlen.mono ?_
      rintro e w0 ⟨rfl, hw0⟩
      have hw0 := hw0.symm
      subst hw0
      go_wp2_with fail
      refine ht.mono ?_
      rintro e w2 ⟨rfl, hb⟩
      have HB : Hid _ := hb
      clear hb ht
      go_wp2_with fail
      refine (hq _).mono ?_
      rintro e w3 ⟨rfl, hw3⟩
      have hw3 := hw3.symm
      subst hw3
      go_wp2
      go_ret2
      exact ⟨by rw [HM.out]; rfl, HB.out⟩
  have b4 : (kind.toList == [109, 101, 97, 110]) = false := by simpa using e4
  by_cases e5 : kind.toList = [108, 97, 115, 116]
  · have b5 : (kind.toList == [108, 97, 115, 116]) = true := by rw [e5]; rfl
    have HM : Hid (measW kind k = (newestW k, decide (0 < k.length))) := by show measW kind k = _; unfold measW; rw [if_neg e0, if_neg e1, if_neg e2, if_neg e3, if_neg e4, if_pos e5]
    clear ht h1 h2
    by_cases h0 : 0 < k.length
    · have h0' : (0 : Int) < k.length := by omega
      rw [decide_eq_true h0] at HM
      generalize newestW k = S at *
      generalize k.length = n at *
      go_enter Tryz.func92, Tryz.ntmps92
      go_wp2_with fail
      refine hlen.mono ?_
      rintro e w0 ⟨rfl, hw0⟩
      have hw0 := hw0.symm
      subst hw0
      go_wp2_with fail
      refine hn.mono ?_
      rintro e w2 ⟨rfl, hb⟩
      have HB : Hid _ := hb
      clear hb hn
      go_wp2
      go_ret2
      exact ⟨by rw [HM.out]; rfl, HB.out⟩
    · have h0' : ¬ (0 : Int) < k.length := by omega
      rw [decide_eq_false h0] at HM
      generalize newestW k = S at *
      generalize k.length = n at *
      go_enter Tryz.func92, Tryz.ntmps92
      go_wp2_with fail
      refine hlen.mono ?_
      rintro e w0 ⟨rfl, hw0⟩
      have hw0 := hw0.symm
      subst hw0
      go_wp2_with fail
      refine hn.mono ?_
      rintro e w2 ⟨rfl, hb⟩
      have HB : Hid _ := hb
      clear hb hn
      go_wp2
      go_ret2
      exact ⟨by rw [HM.out]; rfl, HB.out⟩
  have b5 : (kind.toList == [108, 97, 115, 116]) = false := by simpa using e5
  have HM : Hid (measW kind k = (0, false)) := by show measW kind k = _; unfold measW; rw [if_neg e0, if_neg e1, if_neg e2, if_neg e3, if_neg e4, if_neg e5]
  clear ht hn h1 h2
  go_enter Tryz.func92, Tryz.ntmps92
  go_wp2_with fail
  refine hlen.mono ?_
  rintro e w0 ⟨rfl, hw0⟩
  have hw0 := hw0.symm
  subst hw0
  go_wp2
  go_ret2
  exact ⟨by rw [HM.out]; rfl, Below.refl _ _⟩
end Go.Proofs.YtaghcjpoihkpjaaGreatDoor
