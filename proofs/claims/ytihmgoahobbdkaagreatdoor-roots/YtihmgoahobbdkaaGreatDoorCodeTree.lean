/-
  THE PROGRAM's TREES IN MEMORY: what the reader's methods keep.
-/
import Derived.Test.YtihmgoahobbdkaaGreatDoorCodeE
import Derived.Test.YtihmgoahobbdkaaGreatDoorCodeNode
namespace Go.Proofs.YtihmgoahobbdkaaGreatDoor
open Go.RowKit Go.Lib

theorem mets_bin {k p : Nat} {a b : Tree} : mets (.bin k p a b) = mets a ++ mets b := by simp [mets]
theorem mets_ite {p : Nat} {a b c : Tree} : mets (.ite p a b c) = mets a ++ mets b ++ mets c := by simp [mets]
theorem mets_num {p : Nat} {n : Int} : mets (.num p n) = [] := by simp [mets]
theorem mets_neg {p : Nat} {a : Tree} : mets (.neg p a) = mets a := by simp [mets]
theorem mets_meas {p : Nat} {a b : ByteArray} {n : Int} : mets (.meas p a b n) = [b] := by simp [mets]
theorem mets_probe {p : Nat} {a : ByteArray} {ts : List Tree} : mets (.probe p a ts) = metsAll ts := by simp [mets]
section
variable {s : ByteArray} {R : Nat}
/-- What the reader's methods keep holds of trees too. -/
theorem CStM.nmoves {w w' : World} {I : Nat} {ms : List ByteArray} (h : CStM s R w I ms) (hk : KC R w w') {P : Nat → Prop} : NMoves P P w w' := by
  intro b hP cs T hb hT
  obtain ⟨txt, mv, h1, h2, h3⟩ := h.blk
  refine ⟨hP, hk.block b (heap_lt hb) (fun e => ?_) (fun e => ?_)⟩
  · subst e
    rw [h1] at hb
    injection hb with hb
    injection hb with _ hb
    subst hb
    revert hT
    decide
  · rw [mrow_of h1] at e
    obtain ⟨c, fz, q⟩ := ownsRow_kind h3 b e
    rw [hb] at q
    injection q with q
    injection q with _ q
    subst q
    revert hT
    decide
theorem CNode.kept {w w' : World} {I : Nat} {ms : List ByteArray} {P : Nat → Prop} {t : Tree} {v : Value} (hn : CNode P w t v) (h : CStM s R w I ms) (hk : KC R w w') : CNode P w' t v := hn.moves (h.nmoves hk)
/-- A place in memory. -/
abbrev AtIs (p b : Nat) (w : World) : Prop := w.heap[b]? = some (.cells #[.int .i64 (p : Int)] 112 (0, 0))
theorem CStM.at_kept {w w' : World} {I : Nat} {ms : List ByteArray} (h : CStM s R w I ms) (hk : KC R w w') {p b : Nat} (ha : AtIs p b w) : AtIs p b w' := ((h.nmoves hk (P := fun _ => True)) b trivial _ _ ha (by decide)).2.trans ha
end
end Go.Proofs.YtihmgoahobbdkaaGreatDoor
