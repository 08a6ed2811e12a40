/-
  THE FUNCTIONS THAT THE READER OF BYTES MAKES, IN MEMORY; the ones that make them, WALKED.
-/
import Derived.Test.YtihmgoahobbdkaaGreatDoorJC33
namespace Go.Proofs.YtihmgoahobbdkaaGreatDoor
open Go.RowKit Go.Lib

/-- How a sign reckons. -/
def reckV (k : Nat) : Value :=
  if k = 43 then .func (.func 156) #[] #[] else if k = 45 then .func (.func 157) #[] #[] else if k = 42 then .func (.func 158) #[] #[]
  else if k = 60 then .func (.func 159) #[] #[] else if k = 62 then .func (.func 161) #[] #[] else if k = 61 then .func (.func 162) #[] #[] else .nilFunc
/-- A block with one cell. -/
abbrev One (w : World) (b : Nat) (x : Value) (T : TypeId) : Prop := w.heap[b]? = some (.cells #[x] T (0, 0))
mutual
/-- A function that works out a tree, in memory, all of it in blocks of a given kind. -/
def VNode (P : Nat → Prop) (w : World) : Tree → Value → Prop
  | .num _ n, v => ∃ b, v = .func (.func 142) #[] #[ptr b] ∧ P b ∧ One w b (.int .i64 n) 2
  | .neg _ a, v => ∃ b va, v = .func (.func 144) #[] #[ptr b] ∧ P b ∧ One w b va 140 ∧ VNode P w a va
  | .bin k p a c, v => ∃ b1 b2 b3 va vc, v = .func (.func (if k = 47 then 146 else 163)) #[] #[ptr b1, ptr b2, ptr b3] ∧ (P b1 ∧ P b2 ∧ P b3) ∧ One w b1 va 140 ∧ One w b2 vc 140 ∧
      One w b3 (if k = 47 then .int .i64 (p : Int) else reckV k) (if k = 47 then 112 else 193) ∧ VNode P w a va ∧ VNode P w c vc
  | .ite _ a c d, v => ∃ b1 b2 b3 va vc vd, v = .func (.func 150) #[] #[ptr b1, ptr b2, ptr b3] ∧ (P b1 ∧ P b2 ∧ P b3) ∧ One w b1 va 140 ∧ One w b2 vc 140 ∧ One w b3 vd 140 ∧ VNode P w a va ∧ VNode P w c vc ∧ VNode P w d vd
  | .meas p wd m n, v => ∃ b1 b2 b3 b4, v = .func (.func 180) #[] #[ptr b1, ptr b2, ptr b3, ptr b4] ∧ (P b1 ∧ P b2 ∧ P b3 ∧ P b4) ∧ One w b1 (.int .i64 (p : Int)) 112 ∧ One w b2 (.string wd) 9 ∧ One w b3 (.string m) 9 ∧ One w b4 (.int .i64 n) 2
  | .probe p wd ts, v => ∃ b1 b2 b3 pv vs, v = .func (.func 183) #[] #[ptr b1, ptr b2, ptr b3] ∧ (P b1 ∧ P b2 ∧ P b3) ∧ One w b1 pv 305 ∧ One w b2 (.int .i64 (p : Int)) 112 ∧ One w b3 (.string wd) 9 ∧
      (w.ownsRow 0 140 1 pv vs.length vs ∧ ∀ g, pv.ownBlock = some g → P g) ∧ VNodes P w ts vs
def VNodes (P : Nat → Prop) (w : World) : List Tree → List Value → Prop
  | [], vs => vs = []
  | t :: ts, vs => ∃ v vs', vs = v :: vs' ∧ VNode P w t v ∧ VNodes P w ts vs'
end
/-- Blocks of one kind lie as they lay, and are of the other kind. -/
def VMoves (P Q : Nat → Prop) (w w' : World) : Prop := ∀ b, P b → Q b ∧ w'.heap[b]? = w.heap[b]?
section
variable {P Q : Nat → Prop} {w w' : World}
mutual
theorem VNode.moves (hm : VMoves P Q w w') : ∀ {t : Tree} {v : Value}, VNode P w t v → VNode Q w' t v
  | .num _ _, _, h => by
    unfold VNode at h ⊢
    obtain ⟨b, h1, h2, h3⟩ := h
    exact ⟨b, h1, (hm b h2).1, (hm b h2).2.trans h3⟩
  | .neg _ _, _, h => by
    unfold VNode at h ⊢
    obtain ⟨b, va, h1, h2, h3, h4⟩ := h
    exact ⟨b, va, h1, (hm b h2).1, (hm b h2).2.trans h3, h4.moves hm⟩
  | .bin _ _ _ _, _, h => by
    unfold VNode at h ⊢
    obtain ⟨b1, b2, b3, va, vc, h1, ⟨p1, p2, p3⟩, h2, h3, h4, h5, h6⟩ := h
    exact ⟨b1, b2, b3, va, vc, h1, ⟨(hm _ p1).1, (hm _ p2).1, (hm _ p3).1⟩, (hm _ p1).2.trans h2, (hm _ p2).2.trans h3, (hm _ p3).2.trans h4, h5.moves hm, h6.moves hm⟩
  | .ite _ _ _ _, _, h => by
    unfold VNode at h ⊢
    obtain ⟨b1, b2, b3, va, vc, vd, h1, ⟨p1, p2, p3⟩, h2, h3, h4, h5, h6, h7⟩ := h
    exact ⟨b1, b2, b3, va, vc, vd, h1, ⟨(hm _ p1).1, (hm _ p2).1, (hm _ p3).1⟩, (hm _ p1).2.trans h2, (hm _ p2).2.trans h3, (hm _ p3).2.trans h4, h5.moves hm, h6.moves hm, h7.moves hm⟩
  | .meas _ _ _ _, _, h => by
    unfold VNode at h ⊢
    obtain ⟨b1, b2, b3, b4, h1, ⟨p1, p2, p3, p4⟩, h2, h3, h4, h5⟩ := h
    exact ⟨b1, b2, b3, b4, h1, ⟨(hm _ p1).1, (hm _ p2).1, (hm _ p3).1, (hm _ p4).1⟩, (hm _ p1).2.trans h2, (hm _ p2).2.trans h3, (hm _ p3).2.trans h4, (hm _ p4).2.trans h5⟩
  | .probe _ _ _, _, h => by
    unfold VNode at h ⊢
    obtain ⟨b1, b2, b3, pv, vs, h1, ⟨p1, p2, p3⟩, h2, h3, h4, ⟨h5, h6⟩, h7⟩ := h
    exact ⟨b1, b2, b3, pv, vs, h1, ⟨(hm _ p1).1, (hm _ p2).1, (hm _ p3).1⟩, (hm _ p1).2.trans h2, (hm _ p2).2.trans h3, (hm _ p3).2.trans h4, ⟨owns_of_block h5 fun g hg => (hm g (h6 g hg)).2, fun g hg => (hm g (h6 g hg)).1⟩, h7.moves hm⟩
theorem VNodes.moves (hm : VMoves P Q w w') : ∀ {ts : List Tree} {vs : List Value}, VNodes P w ts vs → VNodes Q w' ts vs
  | [], _, h => by unfold VNodes at h ⊢; exact h
  | _ :: _, _, h => by
    unfold VNodes at h ⊢
    obtain ⟨v, vs', h1, h2, h3⟩ := h
    exact ⟨v, vs', h1, h2.moves hm, h3.moves hm⟩
end
theorem VNodes.snoc : ∀ {ts : List Tree} {vs : List Value} {t : Tree} {v : Value}, VNodes P w ts vs → VNode P w t v → VNodes P w (ts ++ [t]) (vs ++ [v])
  | [], vs, t, v, h, k => by
    unfold VNodes at h
    subst h
    unfold VNodes
    exact ⟨v, [], rfl, k, by unfold VNodes; rfl⟩
  | a :: ts, vs, t, v, h, k => by
    unfold VNodes at h
    obtain ⟨x, vs', rfl, h2, h3⟩ := h
    show VNodes P w (a :: (ts ++ [t])) _
    unfold VNodes
    exact ⟨x, vs' ++ [v], rfl, h2, VNodes.snoc h3 k⟩
end
/-- A value of a function's type. -/
def FuncV (v : Value) : Prop := v = .nilFunc ∨ ∃ f x y, v = .func f x y
section
variable {R : Nat} {w w' : World} {r r' : RS}
/-- A free block from a number on. -/
abbrev Fr (R lo : Nat) (w : World) (b : Nat) : Prop := Free R w b ∧ lo ≤ b
/-- The function for a tree, where nothing was wrong. -/
def VOk (R lo : Nat) (w : World) (r : RS) (t : Tree) (v : Value) : Prop := r.wrong = false → VNode (Fr R lo w) w t v
theorem KR.vmoves {lo : Nat} (k : KR R w w') : VMoves (Fr R lo w) (Fr R lo w') w w' := fun _ f => ⟨⟨(f.1.step k).1, f.2⟩, (f.1.step k).2⟩
theorem VOk.step {lo : Nat} {t : Tree} {v : Value} (h : VOk R lo w r t v) (k : KR R w w') (hw : r'.wrong = false → r.wrong = false) : VOk R lo w' r' t v := fun q => (h (hw q)).moves k.vmoves
theorem VOk.lower {lo lo' : Nat} {t : Tree} {v : Value} (h : VOk R lo w r t v) (hl : lo' ≤ lo) : VOk R lo' w r t v := fun q => (h q).moves fun _ f => ⟨⟨f.1, Nat.le_trans hl f.2⟩, rfl⟩
theorem KR.new (hR : R < w.heap.size) (o : Obj) : KR R w (w.alloc o) := .of_below ((Below.refl _ _).alloc (Nat.le_refl _) o) hR
end
set_option maxRecDepth 1000000 in
theorem rd_reckonerOf (k : Nat) (w : World) : Calls Tryz.prog 121 #[.int .u8 k] w fun e w' => e = .returned (reckV k) ∧ w' = w := by
  by_cases h1 : k = 43
  · subst h1
    go_enter Tryz.func121, Tryz.ntmps121
    go_wp2
    go_ret
    exact ⟨rfl, rfl⟩
  by_cases h2 : k = 45
  · subst h2
    go_enter Tryz.func121, Tryz.ntmps121
    go_wp2
    go_ret
    exact ⟨rfl, rfl⟩
  by_cases h3 : k = 42
  · subst h3
    go_enter Tryz.func121, Tryz.ntmps121
    go_wp2
    go_ret
    exact ⟨rfl, rfl⟩
  by_cases h4 : k = 60
  · subst h4
    go_enter Tryz.func121, Tryz.ntmps121
    go_wp2
    go_ret
    exact ⟨rfl, rfl⟩
  by_cases h5 : k = 62
  · subst h5
    go_enter Tryz.func121, Tryz.ntmps121
    go_wp2
    go_ret
    exact ⟨rfl, rfl⟩
  by_cases h6 : k = 61
  · subst h6
    go_enter Tryz.func121, Tryz.ntmps121
    go_wp2
    go_ret
    exact ⟨rfl, rfl⟩
  have HR : Hid (reckV k = .nilFunc) := by show reckV k = .nilFunc; simp [reckV, h1, h2, h3, h4, h5, h6]
  have e1 : ((k : Int) == 43) = false := by rw [beq_eq_false_iff_ne]; omega
  have e2 : ((k : Int) == 45) = false := by rw [beq_eq_false_iff_ne]; omega
  have e3 : ((k : Int) == 42) = false := by rw [beq_eq_false_iff_ne]; omega
  have e4 : ((k : Int) == 60) = false := by rw [beq_eq_false_iff_ne]; omega
  have e5 : ((k : Int) == 62) = false := by rw [beq_eq_false_iff_ne]; omega
  have e6 : ((k : Int) == 61) = false := by rw [beq_eq_false_iff_ne]; omega
  clear h1 h2 h3 h4 h5 h6
  go_enter Tryz.func121, Tryz.ntmps121
  go_wp2
  go_ret
  exact ⟨by rw [HR.out]; rfl, rfl⟩
theorem reck_nil (k : Nat) : (isReck k = true ∧ ∃ F, reckV k = .func (.func F) #[] #[]) ∨ (isReck k = false ∧ reckV k = .nilFunc) := by
  by_cases h : isReck k = true
  · refine .inl ⟨h, ?_⟩
    simp [isReck] at h
    rcases h with ((((rfl | rfl) | rfl) | rfl) | rfl) | rfl <;> exact ⟨_, rfl⟩
  · have h : isReck k = false := by simpa using h
    refine .inr ⟨h, ?_⟩
    simp [isReck] at h
    simp [reckV, h]
end Go.Proofs.YtihmgoahobbdkaaGreatDoor
