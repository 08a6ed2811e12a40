/-
  A TREE's METRICS, from left to right; a list of names, each once.
-/
import Derived.Test.YtihmgoahobbdkaaGreatDoorJC1
import Derived.Lib.SlicesS
import Derived.Test.YtihmgoahobbdkaaGreatDoorJC2
import Derived.Lib.OwnKind
import Derived.Test.YtihmgoahobbdkaaGreatDoorJC15
namespace Go.Proofs.YtihmgoahobbdkaaGreatDoor

mutual
def mets : Tree → List ByteArray
  | .num _ _ => []
  | .neg _ a => mets a
  | .bin _ _ a b => mets a ++ mets b
  | .ite _ a b c => mets a ++ mets b ++ mets c
  | .meas _ _ m _ => [m]
  | .probe _ _ ts => metsAll ts
def metsAll : List Tree → List ByteArray
  | [] => []
  | t :: ts => mets t ++ metsAll ts
end
theorem metsAll_append : ∀ a b, metsAll (a ++ b) = metsAll a ++ metsAll b
  | [], b => by simp [metsAll]
  | t :: a, b => by simp [metsAll, metsAll_append a b]
/-- A name is put behind the list if it is not in it. -/
def note1 (ms : List ByteArray) (x : ByteArray) : List ByteArray := if Lib.containsS ms x = true then ms else ms ++ [x]
def notes (ms : List ByteArray) (xs : List ByteArray) : List ByteArray := xs.foldl note1 ms
theorem notes_nil (ms : List ByteArray) : notes ms [] = ms := rfl
theorem notes_one (ms : List ByteArray) (x : ByteArray) : notes ms [x] = note1 ms x := rfl
theorem notes_append (ms xs ys : List ByteArray) : notes ms (xs ++ ys) = notes (notes ms xs) ys := by simp [notes]
theorem note1_length (ms : List ByteArray) (x : ByteArray) : ms.length ≤ (note1 ms x).length ∧ (note1 ms x).length ≤ ms.length + 1 := by
  unfold note1
  split <;> simp
theorem notes_length : ∀ (xs ms : List ByteArray), ms.length ≤ (notes ms xs).length ∧ (notes ms xs).length ≤ ms.length + xs.length
  | [], ms => by simp [notes]
  | x :: xs, ms => by
    have h1 := note1_length ms x
    have h2 := notes_length xs (note1 ms x)
    have e : notes ms (x :: xs) = notes (note1 ms x) xs := rfl
    rw [e]
    simp only [List.length_cons]
    omega

/-- Reading gives no more measures than it passes tokens. -/
def Lvl.got : Lvl → List Tree
  | .sumT a => [a]
  | .prodT a => [a]
  | .args l => l
  | _ => []
def Out.mets : Out → Nat
  | .ok ts _ => (metsAll ts).length
  | .bad _ => 0
theorem D.mets_le {s : ByteArray} {L : List Tok} {v : Lvl} {I : Nat} {o : Out} (h : D s L v I o) : I ≤ o.at ∧ (o.isOk = true → o.mets + I ≤ (metsAll v.got).length + o.at) := by
  induction h <;> simp only [Out.at, Out.isOk, Out.mets, Lvl.got, metsAll, metsAll_append, mets, List.length_append, List.length_nil, List.append_nil, List.length_cons] at * <;> grind
end Go.Proofs.YtihmgoahobbdkaaGreatDoor
namespace Go.Proofs.YtihmgoahobbdkaaGreatDoor
open Go.RowKit Go.Lib

/-- The types of the blocks that a tree lies in. -/
def nodeTys : List Nat := [225, 228, 295, 205, 236, 240, 127, 112]
abbrev ptr (b : Nat) : Value := .pointer (some ⟨b, 0, none⟩)
/-- The blocks from a number on. -/
abbrev Hi (lo : Nat) : Nat → Prop := fun b => lo ≤ b
mutual
/-- A tree in memory, all of it in blocks of a given kind. -/
def CNode (P : Nat → Prop) (w : World) : Tree → Value → Prop
  | .num _ n, v => ∃ b, v = .iface 222 (ptr b) ∧ P b ∧ w.heap[b]? = some (.cells #[.int .i64 n] 225 (0, 0))
  | .neg _ a, v => ∃ b va, v = .iface 226 (ptr b) ∧ P b ∧ w.heap[b]? = some (.cells #[va] 228 (0, 0)) ∧ CNode P w a va
  | .bin k p a c, v => ∃ b va vc, v = .iface 229 (ptr b) ∧ P b ∧ w.heap[b]? = some (.cells #[.int .i64 p, .int .u8 k, va, vc] 295 (0, 0)) ∧ CNode P w a va ∧ CNode P w c vc
  | .ite _ a c d, v => ∃ b va vc vd, v = .iface 203 (ptr b) ∧ P b ∧ w.heap[b]? = some (.cells #[va, vc, vd] 205 (0, 0)) ∧ CNode P w a va ∧ CNode P w c vc ∧ CNode P w d vd
  | .meas p word m n, v => ∃ b, v = .iface 232 (ptr b) ∧ P b ∧ w.heap[b]? = some (.cells #[.int .i64 p, .string word, .string m, .int .i64 n] 236 (0, 0))
  | .probe p word ts, v => ∃ b pv vs, v = .iface 237 (ptr b) ∧ P b ∧ w.heap[b]? = some (.cells #[.int .i64 p, .string word, pv] 240 (0, 0)) ∧ (w.ownsRow 0 127 1 pv vs.length vs ∧ ∀ g, pv.ownBlock = some g → P g) ∧ CNodes P w ts vs
def CNodes (P : Nat → Prop) (w : World) : List Tree → List Value → Prop
  | [], vs => vs = []
  | t :: ts, vs => ∃ v vs', vs = v :: vs' ∧ CNode P w t v ∧ CNodes P w ts vs'
end
/-- From one world and kind of blocks to another: a tree's blocks of the first kind lie as they lay, and are of the second kind. -/
def NMoves (P Q : Nat → Prop) (w w' : World) : Prop := ∀ b, P b → ∀ cs T, w.heap[b]? = some (.cells cs T (0, 0)) → T ∈ nodeTys → Q b ∧ w'.heap[b]? = w.heap[b]?
section
variable {P Q : Nat → Prop} {w w' : World}
theorem NMoves.heap (h : NMoves P Q w w') {b : Nat} {cs : Array Value} {T : Nat} (hP : P b) (hb : w.heap[b]? = some (.cells cs T (0, 0))) (hT : T ∈ nodeTys) : w'.heap[b]? = some (.cells cs T (0, 0)) := (h b hP cs T hb hT).2.trans hb
theorem owns_of_block {w w' : World} {base e size n : Nat} {v : Value} {xs : List Value} (h : w.ownsRow base e size v n xs) (hb : ∀ g, v.ownBlock = some g → w'.heap[g]? = w.heap[g]?) : w'.ownsRow base e size v n xs := by
  refine ⟨h.1, ?_⟩
  rcases h.2 with hn | ⟨g, cap, cur, rfl, hbg, hg, rest⟩
  · exact .inl hn
  · exact .inr ⟨g, cap, cur, rfl, hbg, (hb g rfl).trans hg, rest⟩
theorem owns_lower {w : World} {base base' e size n : Nat} {v : Value} {xs : List Value} (h : w.ownsRow base e size v n xs) (hb : base' ≤ base) : w.ownsRow base' e size v n xs := by
  refine ⟨h.1, ?_⟩
  rcases h.2 with hn | ⟨g, cap, cur, rfl, hbg, rest⟩
  · exact .inl hn
  · exact .inr ⟨g, cap, cur, rfl, Nat.le_trans hb hbg, rest⟩
theorem NMoves.row (h : NMoves P Q w w') {base n : Nat} {v : Value} {xs : List Value} (ho : w.ownsRow base 127 1 v n xs ∧ ∀ g, v.ownBlock = some g → P g) : w'.ownsRow base 127 1 v n xs ∧ ∀ g, v.ownBlock = some g → Q g := by
  obtain ⟨ho, hP⟩ := ho
  rcases ho.2 with hn | ⟨g, cap, cur, rfl, hbg, hg, rest⟩
  · refine ⟨⟨ho.1, .inl hn⟩, ?_⟩
    intro g hg
    rw [hn.1] at hg
    cases hg
  · refine ⟨⟨ho.1, .inr ⟨g, cap, cur, rfl, hbg, h.heap (hP g rfl) hg (by decide), rest⟩⟩, ?_⟩
    intro g' hg'
    injection hg' with hg'
    subst hg'
    exact (h g (hP g rfl) _ _ hg (by decide)).1
mutual
theorem CNode.moves (hm : NMoves P Q w w') : ∀ {t : Tree} {v : Value}, CNode P w t v → CNode Q w' t v
  | .num _ _, _, h => by
    unfold CNode at h ⊢
    obtain ⟨b, h1, h0, h2⟩ := h
    have q := hm b h0 _ _ h2 (by decide)
    exact ⟨b, h1, q.1, q.2.trans h2⟩
  | .neg _ _, _, h => by
    unfold CNode at h ⊢
    obtain ⟨b, va, h1, h0, h2, h3⟩ := h
    have q := hm b h0 _ _ h2 (by decide)
    exact ⟨b, va, h1, q.1, q.2.trans h2, CNode.moves hm h3⟩
  | .bin _ _ _ _, _, h => by
    unfold CNode at h ⊢
    obtain ⟨b, va, vc, h1, h0, h2, h3, h4⟩ := h
    have q := hm b h0 _ _ h2 (by decide)
    exact ⟨b, va, vc, h1, q.1, q.2.trans h2, CNode.moves hm h3, CNode.moves hm h4⟩
  | .ite _ _ _ _, _, h => by
    unfold CNode at h ⊢
    obtain ⟨b, va, vc, vd, h1, h0, h2, h3, h4, h5⟩ := h
    have q := hm b h0 _ _ h2 (by decide)
    exact ⟨b, va, vc, vd, h1, q.1, q.2.trans h2, CNode.moves hm h3, CNode.moves hm h4, CNode.moves hm h5⟩
  | .meas _ _ _ _, _, h => by
    unfold CNode at h ⊢
    obtain ⟨b, h1, h0, h2⟩ := h
    have q := hm b h0 _ _ h2 (by decide)
    exact ⟨b, h1, q.1, q.2.trans h2⟩
  | .probe _ _ _, _, h => by
    unfold CNode at h ⊢
    obtain ⟨b, pv, vs, h1, h0, h2, h3, h4⟩ := h
    have q := hm b h0 _ _ h2 (by decide)
    exact ⟨b, pv, vs, h1, q.1, q.2.trans h2, hm.row h3, CNodes.moves hm h4⟩
theorem CNodes.moves (hm : NMoves P Q w w') : ∀ {ts : List Tree} {vs : List Value}, CNodes P w ts vs → CNodes Q w' ts vs
  | [], _, h => by unfold CNodes at h ⊢; exact h
  | _ :: _, _, h => by
    unfold CNodes at h ⊢
    obtain ⟨v, vs', h1, h2, h3⟩ := h
    exact ⟨v, vs', h1, CNode.moves hm h2, CNodes.moves hm h3⟩
end
theorem CNodes.snoc : ∀ {ts : List Tree} {vs : List Value} {t : Tree} {v : Value}, CNodes P w ts vs → CNode P w t v → CNodes P w (ts ++ [t]) (vs ++ [v])
  | [], vs, t, v, h, k => by
    unfold CNodes at h
    subst h
    unfold CNodes
    exact ⟨v, [], rfl, k, by unfold CNodes; rfl⟩
  | a :: ts, vs, t, v, h, k => by
    unfold CNodes at h
    obtain ⟨x, vs', rfl, h2, h3⟩ := h
    show CNodes P w (a :: (ts ++ [t])) _
    unfold CNodes
    exact ⟨x, vs' ++ [v], rfl, h2, CNodes.snoc h3 k⟩
theorem NMoves.of_below (h : Below w.heap.size w w') : NMoves P P w w' := fun b hP _ _ hb _ => ⟨hP, h.block b (heap_lt hb)⟩
theorem NMoves.weak (h : ∀ b, P b → Q b) : NMoves P Q w w := fun b hP _ _ _ _ => ⟨h b hP, rfl⟩
theorem NMoves.trans {P1 P2 P3 : Nat → Prop} {w0 w1 w2 : World} (h : NMoves P1 P2 w0 w1) (k : NMoves P2 P3 w1 w2) : NMoves P1 P3 w0 w2 := fun b hP cs T hb hT =>
  have q := h b hP cs T hb hT
  have r := k b q.1 cs T (q.2.trans hb) hT
  ⟨r.1, r.2.trans q.2⟩
theorem CNode.up {lo lo' : Nat} {t : Tree} {v : Value} (h : CNode (Hi lo) w t v) (hl : lo' ≤ lo) : CNode (Hi lo') w t v := h.moves (.weak fun _ hb => Nat.le_trans hl hb)
theorem CNode.below {t : Tree} {v : Value} (h : CNode P w t v) (hb : Below w.heap.size w w') : CNode P w' t v := h.moves (.of_below hb)
end
end Go.Proofs.YtihmgoahobbdkaaGreatDoor
namespace Go.Proofs.YtihmgoahobbdkaaGreatDoor
open Go.RowKit Go.Lib

theorem mets_bin {k p : Nat} {a b : Tree} : mets (.bin k p a b) = mets a ++ mets b := by simp [mets]
theorem mets_ite {p : Nat} {a b c : Tree} : mets (.ite p a b c) = mets a ++ mets b ++ mets c := by simp [mets]
theorem mets_num {p : Nat} {n : Int} : mets (.num p n) = [] := by simp [mets]
theorem mets_neg {p : Nat} {a : Tree} : mets (.neg p a) = mets a := by simp [mets]
theorem mets_meas {p : Nat} {a b : ByteArray} {n : Int} : mets (.meas p a b n) = [b] := by simp [mets]
theorem mets_probe {p : Nat} {a : ByteArray} {ts : List Tree} : mets (.probe p a ts) = metsAll ts := by simp [mets]
section
variable {s : ByteArray} {R : Nat}
/-- What the reader's methods keep holds of trees too. -/
theorem CStM.nmoves {w w' : World} {I : Nat} {ms : List ByteArray} (h : CStM s R w I ms) (hk : KC R w w') {P : Nat → Prop} : NMoves P P w w' := by
  intro b hP cs T hb hT
  obtain ⟨txt, mv, h1, h2, h3⟩ := h.blk
  refine ⟨hP, hk.block b (heap_lt hb) (fun e => ?_) (fun e => ?_)⟩
  · subst e
    rw [h1] at hb
    injection hb with hb
    injection hb with _ hb
    subst hb
    revert hT
    decide
  · rw [mrow_of h1] at e
    obtain ⟨c, fz, q⟩ := ownsRow_kind h3 b e
    rw [hb] at q
    injection q with q
    injection q with _ q
    subst q
    revert hT
    decide
theorem CNode.kept {w w' : World} {I : Nat} {ms : List ByteArray} {P : Nat → Prop} {t : Tree} {v : Value} (hn : CNode P w t v) (h : CStM s R w I ms) (hk : KC R w w') : CNode P w' t v := hn.moves (h.nmoves hk)
/-- A place in memory. -/
abbrev AtIs (p b : Nat) (w : World) : Prop := w.heap[b]? = some (.cells #[.int .i64 (p : Int)] 112 (0, 0))
theorem CStM.at_kept {w w' : World} {I : Nat} {ms : List ByteArray} (h : CStM s R w I ms) (hk : KC R w w') {p b : Nat} (ha : AtIs p b w) : AtIs p b w' := ((h.nmoves hk (P := fun _ => True)) b trivial _ _ ha (by decide)).2.trans ha
end
end Go.Proofs.YtihmgoahobbdkaaGreatDoor
