/-
  COMPARISONS, SUMS AND QUOTIENTS OF TWO NUMBERS: their texts are read.
-/
import Derived.Test.YtaghcjpoihkpjaaGreatDoorSpecNumJ
namespace Go.Proofs.YtaghcjpoihkpjaaGreatDoor
open Go.Lib

theorem pgood_num {n : Int} {ps : List Piece} (hn : n.natAbs < 1000000000) (h : pgood ps) (hh : noNum ps) : pgood (numP n ++ ps) := by
  unfold numP
  split
  · exact ⟨by decide, hn, hh, h⟩
  · exact ⟨hn, hh, h⟩
/-- A text is read whole to this tree. -/
def ReadTo (s : ByteArray) (t : Tree) : Prop := ∃ K, D s (toks s) .choice 0 (.ok [t] K) ∧ kd (toks s) K = 101
section
variable {x y : Int} (hx : x.natAbs < 1000000000) (hy : y.natAbs < 1000000000)
include hx
theorem read_num : ReadTo (ptext (numP x ++ [])) (numTree 0 x) := by
  have hc := Cur.start (pgood_num hx (ps := []) trivial trivial)
  generalize ptext (numP x ++ []) = S at *
  obtain ⟨d1, hc⟩ := hc.num
  have k1 := hc.done
  exact ⟨_, d1.toChoice (by rw [k1]; unfold NoSum; decide) (by rw [k1]; decide) (by rw [k1]; decide), k1⟩
include hy
theorem read_cmp {c : UInt8} (hc : c = 60 ∨ c = 62 ∨ c = 61) : ∃ p o, ReadTo (ptext (numP x ++ .sign c :: (numP y ++ []))) (.bin c.toNat p (numTree 0 x) (numTree o y)) := by
  have h := Cur.start (pgood_num hx (ps := .sign c :: (numP y ++ [])) ⟨by rcases hc with rfl | rfl | rfl <;> decide, pgood_num hy trivial trivial⟩ trivial)
  generalize ptext (numP x ++ .sign c :: (numP y ++ [])) = S at *
  obtain ⟨d1, h⟩ := h.num
  obtain ⟨kc, h⟩ := h.sign
  obtain ⟨d2, h⟩ := h.num
  have k2 := h.done
  have ds := d1.toSum (by rw [kc]; unfold NoSum; rcases hc with rfl | rfl | rfl <;> decide)
  have dt := d2.toSum (by rw [k2]; unfold NoSum; decide)
  have r := D.cmTwo (s := S) (L := toks S) ds (by rw [kc]; rcases hc with rfl | rfl | rfl <;> decide) dt
  rw [kc] at r
  exact ⟨_, _, _, .chOne r (by rw [k2]; decide), k2⟩
theorem read_quot : ∃ p o, ReadTo (ptext (numP x ++ .sign 47 :: (numP y ++ []))) (.bin 47 p (numTree 0 x) (numTree o y)) := by
  have h := Cur.start (pgood_num hx (ps := .sign 47 :: (numP y ++ [])) ⟨by decide, pgood_num hy trivial trivial⟩ trivial)
  generalize ptext (numP x ++ .sign 47 :: (numP y ++ [])) = S at *
  obtain ⟨d1, h⟩ := h.num
  obtain ⟨kc, h⟩ := h.sign
  obtain ⟨d2, h⟩ := h.num
  have k2 := h.done
  have kc : kd (toks S) (0 + numLen x) = 47 := kc
  have r := D.prGo (s := S) (L := toks S) d1 (.ptGo (.inr kc) d2 (.ptEnd (by rw [k2]; decide)))
  rw [kc] at r
  exact ⟨_, _, _, .chOne (.cmOne (.suGo r (.stEnd (by rw [k2]; decide))) (by rw [k2]; decide)) (by rw [k2]; decide), k2⟩
/-- x+y-(y) -/
theorem read_back : ∃ p q o o', ReadTo (ptext (numP x ++ .sign 43 :: (numP y ++ .sign 45 :: .sign 40 :: (numP y ++ [.sign 41])))) (.bin 45 p (.bin 43 q (numTree 0 x) (numTree o y)) (numTree o' y)) := by
  have h := Cur.start (pgood_num hx (ps := .sign 43 :: (numP y ++ .sign 45 :: .sign 40 :: (numP y ++ [.sign 41]))) ⟨by decide, pgood_num hy (ps := .sign 45 :: .sign 40 :: (numP y ++ [.sign 41])) ⟨by decide, by decide, pgood_num hy (ps := [.sign 41]) ⟨by decide, trivial⟩ trivial⟩ trivial⟩ trivial)
  generalize ptext (numP x ++ .sign 43 :: (numP y ++ .sign 45 :: .sign 40 :: (numP y ++ [.sign 41]))) = S at *
  obtain ⟨d1, h⟩ := h.num
  obtain ⟨c1, h⟩ := h.sign
  obtain ⟨d2, h⟩ := h.num
  obtain ⟨c2, h⟩ := h.sign
  obtain ⟨c3, h⟩ := h.sign
  obtain ⟨d3, h⟩ := h.num
  obtain ⟨c4, h⟩ := h.sign
  have k5 := h.done
  have c1 : kd (toks S) (0 + numLen x) = 43 := c1
  have c2 : kd (toks S) (0 + numLen x + 1 + numLen y) = 45 := c2
  have c3 : kd (toks S) (0 + numLen x + 1 + numLen y + 1) = 40 := c3
  have c4 : kd (toks S) (0 + numLen x + 1 + numLen y + 1 + 1 + numLen y) = 41 := c4
  have dp := D.paGo (s := S) (L := toks S) c3 (d3.toChoice (by rw [c4]; unfold NoSum; decide) (by rw [c4]; decide) (by rw [c4]; decide)) c4
  have r := D.suGo (s := S) (L := toks S) (.prGo d1 (.ptEnd (by rw [c1]; decide))) (.stGo (.inl c1) (.prGo d2 (.ptEnd (by rw [c2]; decide))) (.stGo (.inr c2) (.prGo dp (.ptEnd (by rw [k5]; decide))) (.stEnd (by rw [k5]; decide))))
  rw [c1, c2] at r
  exact ⟨_, _, _, _, _, .chOne (.cmOne r (by rw [k5]; decide)) (by rw [k5]; decide), k5⟩
/-- (x/y)*y -/
theorem read_rest : ∃ p q o o' o2, ReadTo (ptext (.sign 40 :: (numP x ++ .sign 47 :: (numP y ++ .sign 41 :: .sign 42 :: (numP y ++ []))))) (.bin 42 p (.bin 47 q (numTree o2 x) (numTree o y)) (numTree o' y)) := by
  have h := Cur.start (ps := .sign 40 :: (numP x ++ .sign 47 :: (numP y ++ .sign 41 :: .sign 42 :: (numP y ++ [])))) ⟨by decide, pgood_num hx (ps := .sign 47 :: (numP y ++ .sign 41 :: .sign 42 :: (numP y ++ []))) ⟨by decide, pgood_num hy (ps := .sign 41 :: .sign 42 :: (numP y ++ [])) ⟨by decide, by decide, pgood_num hy (ps := []) trivial trivial⟩ trivial⟩ trivial⟩
  generalize ptext (.sign 40 :: (numP x ++ .sign 47 :: (numP y ++ .sign 41 :: .sign 42 :: (numP y ++ [])))) = S at *
  obtain ⟨c0, h⟩ := h.sign
  obtain ⟨d1, h⟩ := h.num
  obtain ⟨c1, h⟩ := h.sign
  obtain ⟨d2, h⟩ := h.num
  obtain ⟨c2, h⟩ := h.sign
  obtain ⟨c3, h⟩ := h.sign
  obtain ⟨d3, h⟩ := h.num
  have k5 := h.done
  have c0 : kd (toks S) 0 = 40 := c0
  have c1 : kd (toks S) (0 + 1 + numLen x) = 47 := c1
  have c2 : kd (toks S) (0 + 1 + numLen x + 1 + numLen y) = 41 := c2
  have c3 : kd (toks S) (0 + 1 + numLen x + 1 + numLen y + 1) = 42 := c3
  have r1 := D.prGo (s := S) (L := toks S) d1 (.ptGo (.inr c1) d2 (.ptEnd (by rw [c2]; decide)))
  rw [c1] at r1
  have dp := D.paGo (s := S) (L := toks S) c0 (.chOne (.cmOne (.suGo r1 (.stEnd (by rw [c2]; decide))) (by rw [c2]; decide)) (by rw [c2]; decide)) c2
  have r := D.prGo (s := S) (L := toks S) dp (.ptGo (.inl c3) d3 (.ptEnd (by rw [k5]; decide)))
  rw [c3] at r
  exact ⟨_, _, _, _, _, _, .chOne (.cmOne (.suGo r (.stEnd (by rw [k5]; decide))) (by rw [k5]; decide)) (by rw [k5]; decide), k5⟩
end
end Go.Proofs.YtaghcjpoihkpjaaGreatDoor
