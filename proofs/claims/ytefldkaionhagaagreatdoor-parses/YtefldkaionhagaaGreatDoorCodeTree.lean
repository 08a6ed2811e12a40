/-
  THE PROGRAM's TREES IN MEMORY, and what keeps them.
-/
import Derived.Test.YtefldkaionhagaaGreatDoorCodeE
import Derived.Test.YtefldkaionhagaaGreatDoorSpecMets
import Derived.Lib.OwnKind
namespace Go.Proofs.YtefldkaionhagaaGreatDoor
open Go.RowKit Go.Lib

/-- The types of the blocks that a tree lies in. -/
def nodeTys : List Nat := [206, 209, 183, 126, 218, 222, 88]
abbrev ptr (b : Nat) : Value := .pointer (some ⟨b, 0, none⟩)
/-- The blocks from a number on. -/
abbrev Hi (lo : Nat) : Nat → Prop := fun b => lo ≤ b
mutual
/-- A tree in memory, all of it in blocks of a given kind. -/
def CNode (P : Nat → Prop) (w : World) : Tree → Value → Prop
  | .num _ n, v => ∃ b, v = .iface 204 (ptr b) ∧ P b ∧ w.heap[b]? = some (.cells #[.int .i64 n] 206 (0, 0))
  | .neg _ a, v => ∃ b va, v = .iface 207 (ptr b) ∧ P b ∧ w.heap[b]? = some (.cells #[va] 209 (0, 0)) ∧ CNode P w a va
  | .bin k _ a c, v => ∃ b va vc, v = .iface 181 (ptr b) ∧ P b ∧ w.heap[b]? = some (.cells #[.int .u8 k, va, vc] 183 (0, 0)) ∧ CNode P w a va ∧ CNode P w c vc
  | .ite _ a c d, v => ∃ b va vc vd, v = .iface 124 (ptr b) ∧ P b ∧ w.heap[b]? = some (.cells #[va, vc, vd] 126 (0, 0)) ∧ CNode P w a va ∧ CNode P w c vc ∧ CNode P w d vd
  | .meas _ word m n, v => ∃ b, v = .iface 216 (ptr b) ∧ P b ∧ w.heap[b]? = some (.cells #[.string word, .string m, .int .i64 n] 218 (0, 0))
  | .probe _ word ts, v => ∃ b pv vs, v = .iface 219 (ptr b) ∧ P b ∧ w.heap[b]? = some (.cells #[.string word, pv] 222 (0, 0)) ∧ (w.ownsRow 0 88 1 pv vs.length vs ∧ ∀ g, pv.ownBlock = some g → P g) ∧ CNodes P w ts vs
def CNodes (P : Nat → Prop) (w : World) : List Tree → List Value → Prop
  | [], vs => vs = []
  | t :: ts, vs => ∃ v vs', vs = v :: vs' ∧ CNode P w t v ∧ CNodes P w ts vs'
end
/-- From one world and kind of blocks to another: a tree's blocks of the first kind lie as they lay, and are of the second kind. -/
def NMoves (P Q : Nat → Prop) (w w' : World) : Prop := ∀ b, P b → ∀ cs T, w.heap[b]? = some (.cells cs T (0, 0)) → T ∈ nodeTys → Q b ∧ w'.heap[b]? = w.heap[b]?
section
variable {P Q : Nat → Prop} {w w' : World}
theorem NMoves.heap (h : NMoves P Q w w') {b : Nat} {cs : Array Value} {T : Nat} (hP : P b) (hb : w.heap[b]? = some (.cells cs T (0, 0))) (hT : T ∈ nodeTys) : w'.heap[b]? = some (.cells cs T (0, 0)) := (h b hP cs T hb hT).2.trans hb
theorem owns_of_block {w w' : World} {base e size n : Nat} {v : Value} {xs : List Value} (h : w.ownsRow base e size v n xs) (hb : ∀ g, v.ownBlock = some g → w'.heap[g]? = w.heap[g]?) : w'.ownsRow base e size v n xs := by
  refine ⟨h.1, ?_⟩
  rcases h.2 with hn | ⟨g, cap, cur, rfl, hbg, hg, rest⟩
  · exact .inl hn
  · exact .inr ⟨g, cap, cur, rfl, hbg, (hb g rfl).trans hg, rest⟩
theorem owns_lower {w : World} {base base' e size n : Nat} {v : Value} {xs : List Value} (h : w.ownsRow base e size v n xs) (hb : base' ≤ base) : w.ownsRow base' e size v n xs := by
  refine ⟨h.1, ?_⟩
  rcases h.2 with hn | ⟨g, cap, cur, rfl, hbg, rest⟩
  · exact .inl hn
  · exact .inr ⟨g, cap, cur, rfl, Nat.le_trans hb hbg, rest⟩
theorem NMoves.row (h : NMoves P Q w w') {base n : Nat} {v : Value} {xs : List Value} (ho : w.ownsRow base 88 1 v n xs ∧ ∀ g, v.ownBlock = some g → P g) : w'.ownsRow base 88 1 v n xs ∧ ∀ g, v.ownBlock = some g → Q g := by
  obtain ⟨ho, hP⟩ := ho
  rcases ho.2 with hn | ⟨g, cap, cur, rfl, hbg, hg, rest⟩
  · refine ⟨⟨ho.1, .inl hn⟩, ?_⟩
    intro g hg
    rw [hn.1] at hg
    cases hg
  · refine ⟨⟨ho.1, .inr ⟨g, cap, cur, rfl, hbg, h.heap (hP g rfl) hg (by decide), rest⟩⟩, ?_⟩
    intro g' hg'
    injection hg' with hg'
    subst hg'
    exact (h g (hP g rfl) _ _ hg (by decide)).1
mutual
theorem CNode.moves (hm : NMoves P Q w w') : ∀ {t : Tree} {v : Value}, CNode P w t v → CNode Q w' t v
  | .num _ _, _, h => by
    unfold CNode at h ⊢
    obtain ⟨b, h1, h0, h2⟩ := h
    have q := hm b h0 _ _ h2 (by decide)
    exact ⟨b, h1, q.1, q.2.trans h2⟩
  | .neg _ _, _, h => by
    unfold CNode at h ⊢
    obtain ⟨b, va, h1, h0, h2, h3⟩ := h
    have q := hm b h0 _ _ h2 (by decide)
    exact ⟨b, va, h1, q.1, q.2.trans h2, CNode.moves hm h3⟩
  | .bin _ _ _ _, _, h => by
    unfold CNode at h ⊢
    obtain ⟨b, va, vc, h1, h0, h2, h3, h4⟩ := h
    have q := hm b h0 _ _ h2 (by decide)
    exact ⟨b, va, vc, h1, q.1, q.2.trans h2, CNode.moves hm h3, CNode.moves hm h4⟩
  | .ite _ _ _ _, _, h => by
    unfold CNode at h ⊢
    obtain ⟨b, va, vc, vd, h1, h0, h2, h3, h4, h5⟩ := h
    have q := hm b h0 _ _ h2 (by decide)
    exact ⟨b, va, vc, vd, h1, q.1, q.2.trans h2, CNode.moves hm h3, CNode.moves hm h4, CNode.moves hm h5⟩
  | .meas _ _ _ _, _, h => by
    unfold CNode at h ⊢
    obtain ⟨b, h1, h0, h2⟩ := h
    have q := hm b h0 _ _ h2 (by decide)
    exact ⟨b, h1, q.1, q.2.trans h2⟩
  | .probe _ _ _, _, h => by
    unfold CNode at h ⊢
    obtain ⟨b, pv, vs, h1, h0, h2, h3, h4⟩ := h
    have q := hm b h0 _ _ h2 (by decide)
    exact ⟨b, pv, vs, h1, q.1, q.2.trans h2, hm.row h3, CNodes.moves hm h4⟩
theorem CNodes.moves (hm : NMoves P Q w w') : ∀ {ts : List Tree} {vs : List Value}, CNodes P w ts vs → CNodes Q w' ts vs
  | [], _, h => by unfold CNodes at h ⊢; exact h
  | _ :: _, _, h => by
    unfold CNodes at h ⊢
    obtain ⟨v, vs', h1, h2, h3⟩ := h
    exact ⟨v, vs', h1, CNode.moves hm h2, CNodes.moves hm h3⟩
end
theorem CNodes.snoc : ∀ {ts : List Tree} {vs : List Value} {t : Tree} {v : Value}, CNodes P w ts vs → CNode P w t v → CNodes P w (ts ++ [t]) (vs ++ [v])
  | [], vs, t, v, h, k => by
    unfold CNodes at h
    subst h
    unfold CNodes
    exact ⟨v, [], rfl, k, by unfold CNodes; rfl⟩
  | a :: ts, vs, t, v, h, k => by
    unfold CNodes at h
    obtain ⟨x, vs', rfl, h2, h3⟩ := h
    show CNodes P w (a :: (ts ++ [t])) _
    unfold CNodes
    exact ⟨x, vs' ++ [v], rfl, h2, CNodes.snoc h3 k⟩
theorem NMoves.of_below (h : Below w.heap.size w w') : NMoves P P w w' := fun b hP _ _ hb _ => ⟨hP, h.block b (heap_lt hb)⟩
theorem NMoves.weak (h : ∀ b, P b → Q b) : NMoves P Q w w := fun b hP _ _ _ _ => ⟨h b hP, rfl⟩
theorem NMoves.trans {P1 P2 P3 : Nat → Prop} {w0 w1 w2 : World} (h : NMoves P1 P2 w0 w1) (k : NMoves P2 P3 w1 w2) : NMoves P1 P3 w0 w2 := fun b hP cs T hb hT =>
  have q := h b hP cs T hb hT
  have r := k b q.1 cs T (q.2.trans hb) hT
  ⟨r.1, r.2.trans q.2⟩
theorem CNode.up {lo lo' : Nat} {t : Tree} {v : Value} (h : CNode (Hi lo) w t v) (hl : lo' ≤ lo) : CNode (Hi lo') w t v := h.moves (.weak fun _ hb => Nat.le_trans hl hb)
theorem CNode.below {t : Tree} {v : Value} (h : CNode P w t v) (hb : Below w.heap.size w w') : CNode P w' t v := h.moves (.of_below hb)
end
theorem mets_bin {k p : Nat} {a b : Tree} : mets (.bin k p a b) = mets a ++ mets b := by simp [mets]
theorem mets_ite {p : Nat} {a b c : Tree} : mets (.ite p a b c) = mets a ++ mets b ++ mets c := by simp [mets]
theorem mets_num {p : Nat} {n : Int} : mets (.num p n) = [] := by simp [mets]
theorem mets_neg {p : Nat} {a : Tree} : mets (.neg p a) = mets a := by simp [mets]
theorem mets_meas {p : Nat} {a b : ByteArray} {n : Int} : mets (.meas p a b n) = [b] := by simp [mets]
theorem mets_probe {p : Nat} {a : ByteArray} {ts : List Tree} : mets (.probe p a ts) = metsAll ts := by simp [mets]
section
variable {s : ByteArray} {R : Nat}
/-- What the reader's methods keep holds of trees too. -/
theorem CStM.nmoves {w w' : World} {I : Nat} {ms : List ByteArray} (h : CStM s R w I ms) (hk : KC R w w') {P : Nat → Prop} : NMoves P P w w' := by
  intro b hP cs T hb hT
  obtain ⟨txt, mv, h1, h2, h3⟩ := h.blk
  refine ⟨hP, hk.block b (heap_lt hb) (fun e => ?_) (fun e => ?_)⟩
  · subst e
    rw [h1] at hb
    injection hb with hb
    injection hb with _ hb
    subst hb
    revert hT
    decide
  · rw [mrow_of h1] at e
    obtain ⟨c, fz, q⟩ := ownsRow_kind h3 b e
    rw [hb] at q
    injection q with q
    injection q with _ q
    subst q
    revert hT
    decide
theorem CNode.kept {w w' : World} {I : Nat} {ms : List ByteArray} {P : Nat → Prop} {t : Tree} {v : Value} (hn : CNode P w t v) (h : CStM s R w I ms) (hk : KC R w w') : CNode P w' t v := hn.moves (h.nmoves hk)
end
end Go.Proofs.YtefldkaionhagaaGreatDoor
