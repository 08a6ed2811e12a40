/-
  THE PROGRAM's TREES IN MEMORY, and what keeps them.
-/
import Derived.Test.YtihmgoahobbdkaaGreatDoorKit
import Derived.Test.YtihmgoahobbdkaaGreatDoorSpecMets
import Derived.Lib.OwnKind
namespace Go.Proofs.YtihmgoahobbdkaaGreatDoor
open Go.RowKit Go.Lib

/-- The types of the blocks that a tree lies in. -/
def nodeTys : List Nat := [225, 228, 295, 205, 236, 240, 127, 112]
abbrev ptr (b : Nat) : Value := .pointer (some ⟨b, 0, none⟩)
/-- The blocks from a number on. -/
abbrev Hi (lo : Nat) : Nat → Prop := fun b => lo ≤ b
mutual
/-- A tree in memory, all of it in blocks of a given kind. -/
def CNode (P : Nat → Prop) (w : World) : Tree → Value → Prop
  | .num _ n, v => ∃ b, v = .iface 222 (ptr b) ∧ P b ∧ w.heap[b]? = some (.cells #[.int .i64 n] 225 (0, 0))
  | .neg _ a, v => ∃ b va, v = .iface 226 (ptr b) ∧ P b ∧ w.heap[b]? = some (.cells #[va] 228 (0, 0)) ∧ CNode P w a va
  | .bin k p a c, v => ∃ b va vc, v = .iface 229 (ptr b) ∧ P b ∧ w.heap[b]? = some (.cells #[.int .i64 p, .int .u8 k, va, vc] 295 (0, 0)) ∧ CNode P w a va ∧ CNode P w c vc
  | .ite _ a c d, v => ∃ b va vc vd, v = .iface 203 (ptr b) ∧ P b ∧ w.heap[b]? = some (.cells #[va, vc, vd] 205 (0, 0)) ∧ CNode P w a va ∧ CNode P w c vc ∧ CNode P w d vd
  | .meas p word m n, v => ∃ b, v = .iface 232 (ptr b) ∧ P b ∧ w.heap[b]? = some (.cells #[.int .i64 p, .string word, .string m, .int .i64 n] 236 (0, 0))
  | .probe p word ts, v => ∃ b pv vs, v = .iface 237 (ptr b) ∧ P b ∧ w.heap[b]? = some (.cells #[.int .i64 p, .string word, pv] 240 (0, 0)) ∧ (w.ownsRow 0 127 1 pv vs.length vs ∧ ∀ g, pv.ownBlock = some g → P g) ∧ CNodes P w ts vs
def CNodes (P : Nat → Prop) (w : World) : List Tree → List Value → Prop
  | [], vs => vs = []
  | t :: ts, vs => ∃ v vs', vs = v :: vs' ∧ CNode P w t v ∧ CNodes P w ts vs'
end
/-- From one world and kind of blocks to another: a tree's blocks of the first kind lie as they lay, and are of the second kind. -/
def NMoves (P Q : Nat → Prop) (w w' : World) : Prop := ∀ b, P b → ∀ cs T, w.heap[b]? = some (.cells cs T (0, 0)) → T ∈ nodeTys → Q b ∧ w'.heap[b]? = w.heap[b]?
section
variable {P Q : Nat → Prop} {w w' : World}
theorem NMoves.heap (h : NMoves P Q w w') {b : Nat} {cs : Array Value} {T : Nat} (hP : P b) (hb : w.heap[b]? = some (.cells cs T (0, 0))) (hT : T ∈ nodeTys) : w'.heap[b]? = some (.cells cs T (0, 0)) := (h b hP cs T hb hT).2.trans hb
theorem owns_of_block {w w' : World} {base e size n : Nat} {v : Value} {xs : List Value} (h : w.ownsRow base e size v n xs) (hb : ∀ g, v.ownBlock = some g → w'.heap[g]? = w.heap[g]?) : w'.ownsRow base e size v n xs := by
  refine ⟨h.1, ?_⟩
  rcases h.2 with hn | ⟨g, cap, cur, rfl, hbg, hg, rest⟩
  · exact .inl hn
  · exact .inr ⟨g, cap, cur, rfl, hbg, (hb g rfl).trans hg, rest⟩
theorem owns_lower {w : World} {base base' e size n : Nat} {v : Value} {xs : List Value} (h : w.ownsRow base e size v n xs) (hb : base' ≤ base) : w.ownsRow base' e size v n xs := by
  refine ⟨h.1, ?_⟩
  rcases h.2 with hn | ⟨g, cap, cur, rfl, hbg, rest⟩
  · exact .inl hn
  · exact .inr ⟨g, cap, cur, rfl, Nat.le_trans hb hbg, rest⟩
theorem NMoves.row (h : NMoves P Q w w') {base n : Nat} {v : Value} {xs : List Value} (ho : w.ownsRow base 127 1 v n xs ∧ ∀ g, v.ownBlock = some g → P g) : w'.ownsRow base 127 1 v n xs ∧ ∀ g, v.ownBlock = some g → Q g := by
  obtain ⟨ho, hP⟩ := ho
  rcases ho.2 with hn | ⟨g, cap, cur, rfl, hbg, hg, rest⟩
  · refine ⟨⟨ho.1, .inl hn⟩, ?_⟩
    intro g hg
    rw [hn.1] at hg
    cases hg
  · refine ⟨⟨ho.1, .inr ⟨g, cap, cur, rfl, hbg, h.heap (hP g rfl) hg (by decide), rest⟩⟩, ?_⟩
    intro g' hg'
    injection hg' with hg'
    subst hg'
    exact (h g (hP g rfl) _ _ hg (by decide)).1
mutual
theorem CNode.moves (hm : NMoves P Q w w') : ∀ {t : Tree} {v : Value}, CNode P w t v → CNode Q w' t v
  | .num _ _, _, h => by
    unfold CNode at h ⊢
    obtain ⟨b, h1, h0, h2⟩ := h
    have q := hm b h0 _ _ h2 (by decide)
    exact ⟨b, h1, q.1, q.2.trans h2⟩
  | .neg _ _, _, h => by
    unfold CNode at h ⊢
    obtain ⟨b, va, h1, h0, h2, h3⟩ := h
    have q := hm b h0 _ _ h2 (by decide)
    exact ⟨b, va, h1, q.1, q.2.trans h2, CNode.moves hm h3⟩
  | .bin _ _ _ _, _, h => by
    unfold CNode at h ⊢
    obtain ⟨b, va, vc, h1, h0, h2, h3, h4⟩ := h
    have q := hm b h0 _ _ h2 (by decide)
    exact ⟨b, va, vc, h1, q.1, q.2.trans h2, CNode.moves hm h3, CNode.moves hm h4⟩
  | .ite _ _ _ _, _, h => by
    unfold CNode at h ⊢
    obtain ⟨b, va, vc, vd, h1, h0, h2, h3, h4, h5⟩ := h
    have q := hm b h0 _ _ h2 (by decide)
    exact ⟨b, va, vc, vd, h1, q.1, q.2.trans h2, CNode.moves hm h3, CNode.moves hm h4, CNode.moves hm h5⟩
  | .meas _ _ _ _, _, h => by
    unfold CNode at h ⊢
    obtain ⟨b, h1, h0, h2⟩ := h
    have q := hm b h0 _ _ h2 (by decide)
    exact ⟨b, h1, q.1, q.2.trans h2⟩
  | .probe _ _ _, _, h => by
    unfold CNode at h ⊢
    obtain ⟨b, pv, vs, h1, h0, h2, h3, h4⟩ := h
    have q := hm b h0 _ _ h2 (by decide)
    exact ⟨b, pv, vs, h1, q.1, q.2.trans h2, hm.row h3, CNodes.moves hm h4⟩
theorem CNodes.moves (hm : NMoves P Q w w') : ∀ {ts : List Tree} {vs : List Value}, CNodes P w ts vs → CNodes Q w' ts vs
  | [], _, h => by unfold CNodes at h ⊢; exact h
  | _ :: _, _, h => by
    unfold CNodes at h ⊢
    obtain ⟨v, vs', h1, h2, h3⟩ := h
    exact ⟨v, vs', h1, CNode.moves hm h2, CNodes.moves hm h3⟩
end
theorem CNodes.snoc : ∀ {ts : List Tree} {vs : List Value} {t : Tree} {v : Value}, CNodes P w ts vs → CNode P w t v → CNodes P w (ts ++ [t]) (vs ++ [v])
  | [], vs, t, v, h, k => by
    unfold CNodes at h
    subst h
    unfold CNodes
    exact ⟨v, [], rfl, k, by unfold CNodes; rfl⟩
  | a :: ts, vs, t, v, h, k => by
    unfold CNodes at h
    obtain ⟨x, vs', rfl, h2, h3⟩ := h
    show CNodes P w (a :: (ts ++ [t])) _
    unfold CNodes
    exact ⟨x, vs' ++ [v], rfl, h2, CNodes.snoc h3 k⟩
theorem NMoves.of_below (h : Below w.heap.size w w') : NMoves P P w w' := fun b hP _ _ hb _ => ⟨hP, h.block b (heap_lt hb)⟩
theorem NMoves.weak (h : ∀ b, P b → Q b) : NMoves P Q w w := fun b hP _ _ _ _ => ⟨h b hP, rfl⟩
theorem NMoves.trans {P1 P2 P3 : Nat → Prop} {w0 w1 w2 : World} (h : NMoves P1 P2 w0 w1) (k : NMoves P2 P3 w1 w2) : NMoves P1 P3 w0 w2 := fun b hP cs T hb hT =>
  have q := h b hP cs T hb hT
  have r := k b q.1 cs T (q.2.trans hb) hT
  ⟨r.1, r.2.trans q.2⟩
theorem CNode.up {lo lo' : Nat} {t : Tree} {v : Value} (h : CNode (Hi lo) w t v) (hl : lo' ≤ lo) : CNode (Hi lo') w t v := h.moves (.weak fun _ hb => Nat.le_trans hl hb)
theorem CNode.below {t : Tree} {v : Value} (h : CNode P w t v) (hb : Below w.heap.size w w') : CNode P w' t v := h.moves (.of_below hb)
end
end Go.Proofs.YtihmgoahobbdkaaGreatDoor
