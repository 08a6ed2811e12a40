/-
  THE FUNCTIONS THAT THE READER OF BYTES MAKES, IN MEMORY; the ones that make them, WALKED.
-/
import Derived.Test.YtaghcjpoihkpjaaGreatDoorJM17
import Derived.Test.YtaghcjpoihkpjaaGreatDoorJM6
import Derived.Lib.OwnKind
import Derived.Lib.SliceRun
namespace Go.Proofs.YtaghcjpoihkpjaaGreatDoor
open Go.RowKit Go.Lib

/-- How a sign reckons. -/
def reckV (k : Nat) : Value :=
  if k = 43 then .func (.func 125) #[] #[] else if k = 45 then .func (.func 126) #[] #[] else if k = 42 then .func (.func 127) #[] #[]
  else if k = 60 then .func (.func 128) #[] #[] else if k = 62 then .func (.func 130) #[] #[] else if k = 61 then .func (.func 131) #[] #[] else .nilFunc
/-- A block with one cell. -/
abbrev One (w : World) (b : Nat) (x : Value) (T : TypeId) : Prop := w.heap[b]? = some (.cells #[x] T (0, 0))
mutual
/-- A function that works out a tree, in memory, all of it in blocks of a given kind. -/
def VNode (P : Nat → Prop) (w : World) : Tree → Value → Prop
  | .num _ n, v => ∃ b, v = .func (.func 111) #[] #[ptr b] ∧ P b ∧ One w b (.int .i64 n) 2
  | .neg _ a, v => ∃ b va, v = .func (.func 113) #[] #[ptr b] ∧ P b ∧ One w b va 90 ∧ VNode P w a va
  | .bin k p a c, v => ∃ b1 b2 b3 va vc, v = .func (.func (if k = 47 then 115 else 132)) #[] #[ptr b1, ptr b2, ptr b3] ∧ (P b1 ∧ P b2 ∧ P b3) ∧ One w b1 va 90 ∧ One w b2 vc 90 ∧
      One w b3 (if k = 47 then .int .i64 (p : Int) else reckV k) (if k = 47 then 105 else 182) ∧ VNode P w a va ∧ VNode P w c vc
  | .ite _ a c d, v => ∃ b1 b2 b3 va vc vd, v = .func (.func 119) #[] #[ptr b1, ptr b2, ptr b3] ∧ (P b1 ∧ P b2 ∧ P b3) ∧ One w b1 va 90 ∧ One w b2 vc 90 ∧ One w b3 vd 90 ∧ VNode P w a va ∧ VNode P w c vc ∧ VNode P w d vd
  | .meas p wd m n, v => ∃ b1 b2 b3 b4, v = .func (.func 159) #[] #[ptr b1, ptr b2, ptr b3, ptr b4] ∧ (P b1 ∧ P b2 ∧ P b3 ∧ P b4) ∧ One w b1 (.int .i64 (p : Int)) 105 ∧ One w b2 (.string wd) 9 ∧ One w b3 (.string m) 9 ∧ One w b4 (.int .i64 n) 2
  | .probe p wd ts, v => ∃ b1 b2 b3 pv vs, v = .func (.func 162) #[] #[ptr b1, ptr b2, ptr b3] ∧ (P b1 ∧ P b2 ∧ P b3) ∧ One w b1 pv 259 ∧ One w b2 (.int .i64 (p : Int)) 105 ∧ One w b3 (.string wd) 9 ∧
      (w.ownsRow 0 90 1 pv vs.length vs ∧ ∀ g, pv.ownBlock = some g → P g) ∧ VNodes P w ts vs
def VNodes (P : Nat → Prop) (w : World) : List Tree → List Value → Prop
  | [], vs => vs = []
  | t :: ts, vs => ∃ v vs', vs = v :: vs' ∧ VNode P w t v ∧ VNodes P w ts vs'
end
/-- Blocks of one kind lie as they lay, and are of the other kind. -/
def VMoves (P Q : Nat → Prop) (w w' : World) : Prop := ∀ b, P b → Q b ∧ w'.heap[b]? = w.heap[b]?
section
variable {P Q : Nat → Prop} {w w' : World}
mutual
theorem VNode.moves (hm : VMoves P Q w w') : ∀ {t : Tree} {v : Value}, VNode P w t v → VNode Q w' t v
  | .num _ _, _, h => by
    unfold VNode at h ⊢
    obtain ⟨b, h1, h2, h3⟩ := h
    exact ⟨b, h1, (hm b h2).1, (hm b h2).2.trans h3⟩
  | .neg _ _, _, h => by
    unfold VNode at h ⊢
    obtain ⟨b, va, h1, h2, h3, h4⟩ := h
    exact ⟨b, va, h1, (hm b h2).1, (hm b h2).2.trans h3, h4.moves hm⟩
  | .bin _ _ _ _, _, h => by
    unfold VNode at h ⊢
    obtain ⟨b1, b2, b3, va, vc, h1, ⟨p1, p2, p3⟩, h2, h3, h4, h5, h6⟩ := h
    exact ⟨b1, b2, b3, va, vc, h1, ⟨(hm _ p1).1, (hm _ p2).1, (hm _ p3).1⟩, (hm _ p1).2.trans h2, (hm _ p2).2.trans h3, (hm _ p3).2.trans h4, h5.moves hm, h6.moves hm⟩
  | .ite _ _ _ _, _, h => by
    unfold VNode at h ⊢
    obtain ⟨b1, b2, b3, va, vc, vd, h1, ⟨p1, p2, p3⟩, h2, h3, h4, h5, h6, h7⟩ := h
    exact ⟨b1, b2, b3, va, vc, vd, h1, ⟨(hm _ p1).1, (hm _ p2).1, (hm _ p3).1⟩, (hm _ p1).2.trans h2, (hm _ p2).2.trans h3, (hm _ p3).2.trans h4, h5.moves hm, h6.moves hm, h7.moves hm⟩
  | .meas _ _ _ _, _, h => by
    unfold VNode at h ⊢
    obtain ⟨b1, b2, b3, b4, h1, ⟨p1, p2, p3, p4⟩, h2, h3, h4, h5⟩ := h
    exact ⟨b1, b2, b3, b4, h1, ⟨(hm _ p1).1, (hm _ p2).1, (hm _ p3).1, (hm _ p4).1⟩, (hm _ p1).2.trans h2, (hm _ p2).2.trans h3, (hm _ p3).2.trans h4, (hm _ p4).2.trans h5⟩
  | .probe _ _ _, _, h => by
    unfold VNode at h ⊢
    obtain ⟨b1, b2, b3, pv, vs, h1, ⟨p1, p2, p3⟩, h2, h3, h4, ⟨h5, h6⟩, h7⟩ := h
    exact ⟨b1, b2, b3, pv, vs, h1, ⟨(hm _ p1).1, (hm _ p2).1, (hm _ p3).1⟩, (hm _ p1).2.trans h2, (hm _ p2).2.trans h3, (hm _ p3).2.trans h4, ⟨owns_of_block h5 fun g hg => (hm g (h6 g hg)).2, fun g hg => (hm g (h6 g hg)).1⟩, h7.moves hm⟩
theorem VNodes.moves (hm : VMoves P Q w w') : ∀ {ts : List Tree} {vs : List Value}, VNodes P w ts vs → VNodes Q w' ts vs
  | [], _, h => by unfold VNodes at h ⊢; exact h
  | _ :: _, _, h => by
    unfold VNodes at h ⊢
    obtain ⟨v, vs', h1, h2, h3⟩ := h
    exact ⟨v, vs', h1, h2.moves hm, h3.moves hm⟩
end
theorem VNodes.snoc : ∀ {ts : List Tree} {vs : List Value} {t : Tree} {v : Value}, VNodes P w ts vs → VNode P w t v → VNodes P w (ts ++ [t]) (vs ++ [v])
  | [], vs, t, v, h, k => by
    unfold VNodes at h
    subst h
    unfold VNodes
    exact ⟨v, [], rfl, k, by unfold VNodes; rfl⟩
  | a :: ts, vs, t, v, h, k => by
    unfold VNodes at h
    obtain ⟨x, vs', rfl, h2, h3⟩ := h
    show VNodes P w (a :: (ts ++ [t])) _
    unfold VNodes
    exact ⟨x, vs' ++ [v], rfl, h2, VNodes.snoc h3 k⟩
end
/-- A value of a function's type. -/
def FuncV (v : Value) : Prop := v = .nilFunc ∨ ∃ f x y, v = .func f x y
section
variable {R : Nat} {w w' : World} {r r' : RS}
/-- A free block from a number on. -/
abbrev Fr (R lo : Nat) (w : World) (b : Nat) : Prop := Free R w b ∧ lo ≤ b
/-- The function for a tree, where nothing was wrong. -/
def VOk (R lo : Nat) (w : World) (r : RS) (t : Tree) (v : Value) : Prop := r.wrong = false → VNode (Fr R lo w) w t v
theorem KR.vmoves {lo : Nat} (k : KR R w w') : VMoves (Fr R lo w) (Fr R lo w') w w' := fun _ f => ⟨⟨(f.1.step k).1, f.2⟩, (f.1.step k).2⟩
theorem VOk.step {lo : Nat} {t : Tree} {v : Value} (h : VOk R lo w r t v) (k : KR R w w') (hw : r'.wrong = false → r.wrong = false) : VOk R lo w' r' t v := fun q => (h (hw q)).moves k.vmoves
theorem VOk.lower {lo lo' : Nat} {t : Tree} {v : Value} (h : VOk R lo w r t v) (hl : lo' ≤ lo) : VOk R lo' w r t v := fun q => (h q).moves fun _ f => ⟨⟨f.1, Nat.le_trans hl f.2⟩, rfl⟩
theorem KR.new (hR : R < w.heap.size) (o : Obj) : KR R w (w.alloc o) := .of_below ((Below.refl _ _).alloc (Nat.le_refl _) o) hR
end
set_option maxRecDepth 1000000 in
theorem rd_reckonerOf (k : Nat) (w : World) : Calls Tryz.prog 74 #[.int .u8 k] w fun e w' => e = .returned (reckV k) ∧ w' = w := by
  by_cases h1 : k = 43
  · subst h1
    go_enter Tryz.func74, Tryz.ntmps74
    go_wp2
    go_ret
    exact ⟨rfl, rfl⟩
  by_cases h2 : k = 45
  · subst h2
    go_enter Tryz.func74, Tryz.ntmps74
    go_wp2
    go_ret
    exact ⟨rfl, rfl⟩
  by_cases h3 : k = 42
  · subst h3
    go_enter Tryz.func74, Tryz.ntmps74
    go_wp2
    go_ret
    exact ⟨rfl, rfl⟩
  by_cases h4 : k = 60
  · subst h4
    go_enter Tryz.func74, Tryz.ntmps74
    go_wp2
    go_ret
    exact ⟨rfl, rfl⟩
  by_cases h5 : k = 62
  · subst h5
    go_enter Tryz.func74, Tryz.ntmps74
    go_wp2
    go_ret
    exact ⟨rfl, rfl⟩
  by_cases h6 : k = 61
  · subst h6
    go_enter Tryz.func74, Tryz.ntmps74
    go_wp2
    go_ret
    exact ⟨rfl, rfl⟩
  have HR : Hid (reckV k = .nilFunc) := by show reckV k = .nilFunc; simp [reckV, h1, h2, h3, h4, h5, h6]
  have e1 : ((k : Int) == 43) = false := by rw [beq_eq_false_iff_ne]; omega
  have e2 : ((k : Int) == 45) = false := by rw [beq_eq_false_iff_ne]; omega
  have e3 : ((k : Int) == 42) = false := by rw [beq_eq_false_iff_ne]; omega
  have e4 : ((k : Int) == 60) = false := by rw [beq_eq_false_iff_ne]; omega
  have e5 : ((k : Int) == 62) = false := by rw [beq_eq_false_iff_ne]; omega
  have e6 : ((k : Int) == 61) = false := by rw [beq_eq_false_iff_ne]; omega
  clear h1 h2 h3 h4 h5 h6
  go_enter Tryz.func74, Tryz.ntmps74
  go_wp2
  go_ret
  exact ⟨by rw [HR.out]; rfl, rfl⟩
theorem reck_nil (k : Nat) : (isReck k = true ∧ ∃ F, reckV k = .func (.func F) #[] #[]) ∨ (isReck k = false ∧ reckV k = .nilFunc) := by
  by_cases h : isReck k = true
  · refine .inl ⟨h, ?_⟩
    simp [isReck] at h
    rcases h with ((((rfl | rfl) | rfl) | rfl) | rfl) | rfl <;> exact ⟨_, rfl⟩
  · have h : isReck k = false := by simpa using h
    refine .inr ⟨h, ?_⟩
    simp [isReck] at h
    simp [reckV, h]
end Go.Proofs.YtaghcjpoihkpjaaGreatDoor
namespace Go.Proofs.YtaghcjpoihkpjaaGreatDoor
open Go.RowKit Go.Lib

/-- All blocks that were there, but those of P, are as they were. -/
structure Only (P : Nat → Prop) (w w' : World) : Prop where
  os : w'.os = w.os
  tape : w'.tape = w.tape
  output : w'.output = w.output
  size : w.heap.size ≤ w'.heap.size
  block : ∀ k, k < w.heap.size → ¬ P k → w'.heap[k]? = w.heap[k]?
namespace Only
variable {P Q : Nat → Prop} {w w1 w2 : World}
theorem refl (P : Nat → Prop) (w : World) : Only P w w := ⟨rfl, rfl, rfl, Nat.le_refl _, fun _ _ _ => rfl⟩
theorem trans (h : Only P w w1) (k : Only Q w1 w2) (hq : ∀ b, b < w.heap.size → Q b → P b) : Only P w w2 :=
  ⟨k.os.trans h.os, k.tape.trans h.tape, k.output.trans h.output, Nat.le_trans h.size k.size, fun i hi hne => (k.block i (Nat.lt_of_lt_of_le hi h.size) (fun q => hne (hq i hi q))).trans (h.block i hi hne)⟩
theorem mono (h : Only P w w1) (hq : ∀ b, b < w.heap.size → P b → Q b) : Only Q w w1 := ⟨h.os, h.tape, h.output, h.size, fun k hk hn => h.block k hk (fun q => hn (hq k hk q))⟩
theorem of_below (h : Below w.heap.size w w1) : Only P w w1 := ⟨h.os, h.tape, h.output, h.size, fun k hk _ => h.block k hk⟩
theorem below (h : Only P w w1) {B : Nat} (hB : B ≤ w.heap.size) (hP : ∀ b, P b → B ≤ b) : Below B w w1 := ⟨h.os, h.tape, h.output, h.size, fun k hk => h.block k (by omega) (fun q => by have := hP k q; omega)⟩
theorem alloc (h : Only P w w1) (o : Obj) : Only P w (w1.alloc o) :=
  ⟨h.os, h.tape, h.output, by simp; exact Nat.le_succ_of_le h.size, fun k hk hne => (Below.heap_alloc w1 o k (Nat.lt_of_lt_of_le hk h.size)).trans (h.block k hk hne)⟩
theorem drew (h : Only P w w1) : Only P w w1.drew := ⟨h.os, h.tape, h.output, h.size, h.block⟩
theorem drewN (h : Only P w w1) (n : Nat) : Only P w (w1.drewN n) := ⟨h.os, h.tape, h.output, h.size, h.block⟩
theorem setCell (h : Only P w w1) {a : Addr} (ha : a.block < w.heap.size → P a.block) (v : Value) : Only P w (w1.setCell a v) :=
  ⟨h.os, h.tape, h.output, by simp; exact h.size, fun k hk hne => (Below.heap_setCell w1 _ v k (fun e => by subst e; exact hne (ha hk))).trans (h.block k hk hne)⟩
theorem grown (h : Only P w w1) {row : Option Nat} (hg : w1.grownBy w2 row) (hr : ∀ b, b < w.heap.size → row = some b → P b) : Only P w w2 :=
  ⟨hg.os.trans h.os, hg.tape.trans h.tape, hg.output.trans h.output, Nat.le_trans h.size hg.size, fun k hk hne => (hg.block k (Nat.lt_of_lt_of_le hk h.size) (fun e => hne (hr k hk e.symm))).trans (h.block k hk hne)⟩
theorem heap (h : Only P w w1) {k : Nat} {o : Obj} (hk : w.heap[k]? = some o) (hne : ¬ P k) : w1.heap[k]? = some o := (h.block k (heap_lt hk) hne).trans hk
theorem cell (h : Only P w w1) {a : Addr} {v : Value} (hc : w.cell? a = some v) (hne : ¬ P a.block) : w1.cell? a = some v :=
  (World.cell?_of_block (h.block a.block (World.block_lt_of_cell? w a hc) hne)).trans hc
theorem owns (h : Only P w w1) {base e size n : Nat} {v : Value} {xs : List Value} (ho : w.ownsRow base e size v n xs) (hne : ∀ g, v.ownBlock = some g → ¬ P g) : w1.ownsRow base e size v n xs := by
  refine ⟨ho.1, ?_⟩
  rcases ho.2 with hn | ⟨g, cap, cur, rfl, hbg, hg, rest⟩
  · exact .inl hn
  · exact .inr ⟨g, cap, cur, rfl, hbg, h.heap hg (hne g rfl), rest⟩
end Only
theorem below_drewN {B : Nat} {w w1 : World} (h : Below B w w1) (n : Nat) : Below B w (w1.drewN n) := ⟨h.os, h.tape, h.output, h.size, h.block⟩
theorem cell_past {w : World} {a : Addr} {v : Value} (h : w.cell? a = some v) (o : Obj) : (w.alloc o).cell? a = some v :=
  (World.cell?_of_block (Below.heap_alloc w o a.block (World.block_lt_of_cell? w a h))).trans h
theorem block_new (w : World) (cs : Array Value) (T : TypeId) : (w.alloc (.cells cs T)).heap[w.heap.size]? = some (.cells cs T (0, 0)) := heap_alloc_new w _
theorem cells_two_new (w : World) (a b : Value) (T : TypeId) : ∀ (j : Nat) (u : Value), [a, b][j]? = some u → (w.alloc (.cells #[a, b] T)).cell? ((⟨w.heap.size, 0, none⟩ : Addr).add j) = some u := by
  intro j u hu
  rw [Addr.add_lit]
  refine cell_of_heap (block_new w #[a, b] T) ?_
  rw [Nat.zero_add]
  simpa using hu
theorem two_one {a b : Value} (ha : a.oneCell' = true) (hb : b.oneCell' = true) : ∀ u ∈ [a, b], u.oneCell' = true := by
  intro u hu
  simp only [List.mem_cons, List.not_mem_nil, or_false] at hu
  rcases hu with rfl | rfl
  · exact ha
  · exact hb
/-- Two blocks of other types are two. -/
theorem kind_ne {w : World} {a b : Nat} {cs ds : Array Value} {T U : Nat} {y z : Nat × Nat} (h : w.heap[a]? = some (.cells cs T y)) (k : w.heap[b]? = some (.cells ds U z)) (hne : T ≠ U) : a ≠ b := by
  intro e
  subst e
  rw [h] at k
  injection k with k
  injection k with _ k
  exact hne k
theorem row_ne {w : World} {a base e size n : Nat} {cs : Array Value} {T : Nat} {y : Nat × Nat} {v : Value} {xs : List Value} (h : w.heap[a]? = some (.cells cs T y)) (ho : w.ownsRow base e size v n xs) (hne : e ≠ T) : v.ownBlock ≠ some a := by
  intro e'
  obtain ⟨c, fz, q⟩ := ownsRow_kind ho a e'
  exact kind_ne q h hne rfl
theorem rows_ne {w : World} {base e size n base' e' size' n' : Nat} {v v' : Value} {xs xs' : List Value} (ho : w.ownsRow base e size v n xs) (ho' : w.ownsRow base' e' size' v' n' xs') (hne : e ≠ e') : ∀ g, v.ownBlock = some g → v'.ownBlock ≠ some g := by
  intro g hg
  obtain ⟨c, fz, q⟩ := ownsRow_kind ho g hg
  exact row_ne q ho' (fun e => hne e.symm)
theorem owns_slice_len {w : World} {base e size n : Nat} {v : Value} {xs : List Value} (h : w.ownsRow base e size v n xs) : ∃ ao cp, v = .slice ao n cp := by
  rcases h.2 with ⟨rfl, rfl⟩ | ⟨g, cap, cur, rfl, -⟩
  · exact ⟨_, _, rfl⟩
  · exact ⟨_, _, rfl⟩

end Go.Proofs.YtaghcjpoihkpjaaGreatDoor
