/-
  WHAT COMPARISONS, SUMS AND QUOTIENTS OF TWO NUMBERS ARE WORTH.
-/
import Derived.Test.YtaghcjpoihkpjaaGreatDoorTrAJ
import Derived.Test.YtaghcjpoihkpjaaGreatDoorLzAJ
import Derived.Test.YtaghcjpoihkpjaaGreatDoorEvStripJ
namespace Go.Proofs.YtaghcjpoihkpjaaGreatDoor
open Go.RowKit Go.Lib

theorem quot_rest {x y : Int} (hx : x.natAbs < 1000000000) (hy : y.natAbs < 1000000000) (h0 : y ≠ 0) :
    (0 < y → 0 ≤ x - quot x y * y ∧ x - quot x y * y < y) ∧ (y < 0 → y < x - quot x y * y ∧ x - quot x y * y ≤ 0) := by
  have e := Int.tmod_add_mul_tdiv x y
  have hab : (x.tmod y).natAbs = x.natAbs % y.natAbs := Int.natAbs_tmod x y
  have hml := Nat.mod_lt x.natAbs (y := y.natAbs) (by omega)
  have hm1 : x.tmod y < y.natAbs := by omega
  have hm2 : -(y.natAbs : Int) < x.tmod y := by omega
  have hs1 : 0 ≤ x → 0 ≤ x.tmod y := fun h => Int.tmod_nonneg y h
  have hs2 : x ≤ 0 → x.tmod y ≤ 0 := fun h => by
    have := Int.tmod_nonneg (a := -x) y (by omega)
    rw [Int.neg_tmod] at this
    omega
  have ht : (x.tdiv y).natAbs ≤ x.natAbs := Int.natAbs_tdiv_le_natAbs x y
  have hc : y * x.tdiv y = x.tdiv y * y := Int.mul_comm _ _
  have w1 : wrap64 (x.tdiv y) = x.tdiv y := wrap64_id (by unfold In64; omega)
  unfold quot
  by_cases h1 : y = -1
  · subst h1
    rw [if_pos rfl, clip_of (by unfold In64; omega)]
    omega
  · rw [if_neg h1]
    by_cases h2 : x.tmod y ≠ 0 ∧ decide (x < 0) ≠ decide (y < 0)
    · rw [if_pos h2, w1, wrap64_id (by unfold In64; omega), Int.sub_mul]
      obtain ⟨h2, h3⟩ := h2
      have h3' : (x < 0 ∧ ¬ y < 0) ∨ (¬ x < 0 ∧ y < 0) := by
        by_cases a : x < 0 <;> by_cases b : y < 0 <;> simp [a, b] at h3 ⊢
      omega
    · rw [if_neg h2, w1]
      have h3' : x.tmod y = 0 ∨ (x < 0 ∧ y < 0) ∨ (¬ x < 0 ∧ ¬ y < 0) := by
        by_cases z : x.tmod y = 0
        · exact .inl z
        · by_cases a : x < 0 <;> by_cases b : y < 0 <;> simp [z, a, b] at h2 ⊢
      omega
theorem ev_num {σ : Type} (E : Env σ) (o : Nat) {n : Int} (h : n.natAbs < 1000000000) (s : σ) : ev E (numTree o n) s = (.val n, s) := by
  unfold numTree
  split
  · simp only [ev]
    rw [onVal_val (n := (n.natAbs : Int)) (s1 := s) rfl, clip_of (by unfold In64; omega)]
    congr 2
    omega
  · simp only [ev]
    congr 2
    omega
theorem asks_num (o : Nat) (n : Int) : asks (numTree o n) = [] := by
  unfold numTree
  split <;> simp [asks]
section
variable {x y : Int} (hx : x.natAbs < 1000000000) (hy : y.natAbs < 1000000000)
include hx hy
theorem ev_bin {σ : Type} (E : Env σ) (k p o o' : Nat) (hk : k ≠ 47) (s : σ) : ev E (.bin k p (numTree o x) (numTree o' y)) s = (.val (reck k x y), s) := by
  simp only [ev, if_neg hk, onBoth]
  rw [onVal_val (ev_num E o hx s), onVal_val (ev_num E o' hy s)]
theorem ev_quo {σ : Type} (E : Env σ) (p o o' : Nat) (s : σ) : ev E (.bin 47 p (numTree o x) (numTree o' y)) s = (if y = 0 then .held p .divide else .val (quot x y), s) := by
  simp only [ev, if_true, onBoth]
  rw [onVal_val (ev_num E o hx s), onVal_val (ev_num E o' hy s)]
theorem ev_back {σ : Type} (E : Env σ) (p q o o' o2 : Nat) (s : σ) : ev E (.bin 45 p (.bin 43 q (numTree o x) (numTree o' y)) (numTree o2 y)) s = (.val x, s) := by
  have h1 := ev_bin hx hy E 43 q o o' (by decide) s
  rw [ev]
  simp only [show ¬ (45 = 47) by decide, if_false, onBoth]
  rw [onVal_val h1, onVal_val (ev_num E o2 hy s)]
  have e1 : reck 43 x y = x + y := by
    show clip (x + y) = _
    exact clip_of (by unfold In64; omega)
  have e2 : reck 45 (x + y) y = x := by
    show clip (x + y - y) = _
    rw [show x + y - y = x by omega]
    exact clip_of (by unfold In64; omega)
  rw [e1, e2]
theorem ev_rest {σ : Type} (E : Env σ) (h0 : y ≠ 0) (p q o o' o2 : Nat) (s : σ) : ev E (.bin 42 p (.bin 47 q (numTree o x) (numTree o' y)) (numTree o2 y)) s = (.val (quot x y * y), s) := by
  have h1 := ev_quo hx hy E q o o' s
  rw [if_neg h0] at h1
  rw [ev]
  simp only [show ¬ (42 = 47) by decide, if_false, onBoth]
  rw [onVal_val h1, onVal_val (ev_num E o2 hy s)]
  have := quot_rest hx hy h0
  have e1 : reck 42 (quot x y) y = quot x y * y := by
    show clip (quot x y * y) = _
    exact clip_of (by unfold In64; omega)
  rw [e1]
end
theorem what_val {s : ByteArray} {t : Tree} {n : Int} (hr : ReadTo s t) (hs : s.size ≤ 200) (ha : asks t = []) (he : ev envP t () = (.val n, ())) {u : Option Tree} {f p : Nat} (hP : PRel s (u, f, p)) : whatO u = outV true true false n (.val n) := by
  obtain ⟨K, d, k⟩ := hr
  have q := hP.det (PRel.of_read hs d k)
  injection q with q
  subst q
  simp only [whatO, ha, List.all_nil, if_true, he]
  rfl
theorem what_div {s : ByteArray} {t : Tree} {q : Nat} (hr : ReadTo s t) (hs : s.size ≤ 200) (ha : asks t = []) (he : ev envP t () = (.held q .divide, ())) {u : Option Tree} {f p : Nat} (hP : PRel s (u, f, p)) : whatO u = outV true true false 0 (.held q .divide) := by
  obtain ⟨K, d, k⟩ := hr
  have q := hP.det (PRel.of_read hs d k)
  injection q with q
  subst q
  simp only [whatO, ha, List.all_nil, if_true, he]
  rfl
theorem numT_size {x : Int} (hx : x.natAbs < 1000000000) : (ptext (numP x)).size ≤ 10 := by
  have := (decT_len hx).2
  by_cases h : x < 0
  · rw [numT_neg h, ByteArray.size_append, sz1]; omega
  · rw [numT_pos h]; omega
theorem numT_zero {y : Int} (hy : y.natAbs < 1000000000) : ((ptext (numP y)).toList == [48]) = decide (y = 0) := by
  rw [toList_data]
  by_cases h : y = 0
  · subst h; simp [numP, ptext, Piece.text, decT, decL]
  · have : ¬ (ptext (numP y)).data.toList = [48] := by
      by_cases hn : y < 0
      · rw [numT_neg hn]; simp
      · rw [numT_pos hn]
        intro e
        have e1 := numOf_decL y.natAbs
        rw [show decL y.natAbs = (decT y.natAbs).data.toList by simp [decT], e] at e1
        have : numOf [48] = 0 := by decide
        omega
    simp [h, this]
end Go.Proofs.YtaghcjpoihkpjaaGreatDoor
