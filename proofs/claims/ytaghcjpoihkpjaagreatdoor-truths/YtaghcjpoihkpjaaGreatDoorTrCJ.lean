/-
  scalerkeep.Truths, WALKED.
-/
import Derived.Test.YtaghcjpoihkpjaaGreatDoorTrBJ
import Derived.Test.YtaghcjpoihkpjaaGreatDoorJ37
namespace Go.Proofs.YtaghcjpoihkpjaaGreatDoor
open Go.RowKit Go.Lib

/-- What a text comes to, whatever it is that stands in memory: a value. -/
def IsVal (s : ByteArray) (n : Int) : Prop := ∀ u f p, PRel s (u, f, p) → whatO u = outV true true false n (.val n)
def IsDiv (s : ByteArray) : Prop := ∀ u f p, PRel s (u, f, p) → ∃ q, whatO u = outV true true false 0 (.held q .divide)
theorem what_is {s : ByteArray} {n : Int} (h : IsVal s n) {A : Nat → Addr} {w : World} (hT : TabsR w) (hA : SentsX A w) :
    Calls Tryz.prog 8 #[.string s] w fun e w' => e = .returned (.agg #[.bool true, .bool true, .bool false, .int .i64 n, .int .i64 0, .int .i64 0, .int .i64 0, .string { data := #[] }]) ∧ Below w.heap.size w w' := by
  refine (plain_What s hT hA).mono ?_
  rintro e w' ⟨u, f, p, h1, h2, rfl⟩
  rw [h u f p h1]
  exact ⟨rfl, h2⟩
theorem what_isD {s : ByteArray} (h : IsDiv s) {A : Nat → Addr} {w : World} (hT : TabsR w) (hA : SentsX A w) :
    Calls Tryz.prog 8 #[.string s] w fun e w' => ∃ q : Nat, e = .returned (.agg #[.bool true, .bool true, .bool false, .int .i64 0, .int .i64 8, .int .i64 q, .int .i64 0, .string { data := #[] }]) ∧ Below w.heap.size w w' := by
  refine (plain_What s hT hA).mono ?_
  rintro e w' ⟨u, f, p, h1, h2, rfl⟩
  obtain ⟨q, e⟩ := h u f p h1
  rw [e]
  exact ⟨q, rfl, h2⟩
section
variable {x y : Int} (hx : x.natAbs < 1000000000) (hy : y.natAbs < 1000000000)
include hx
theorem is_num : IsVal (ptext (numP x)) x := by
  intro u f p hP
  have h := read_num hx
  rw [List.append_nil] at h
  exact what_val h (by have := numT_size hx; omega) (asks_num 0 x) (ev_num envP 0 hx ()) hP
include hy
theorem is_cmp {c : UInt8} (hc : c = 60 ∨ c = 62 ∨ c = 61) : IsVal (ptext (numP x) ++ ⟨#[c]⟩ ++ ptext (numP y)) (reck c.toNat x y) := by
  intro u f p hP
  obtain ⟨p1, o, h⟩ := read_cmp hx hy hc
  have e : ptext (numP x ++ .sign c :: (numP y ++ [])) = ptext (numP x) ++ ⟨#[c]⟩ ++ ptext (numP y) := by simp [ptext, ptext_append, Piece.text, ByteArray.append_assoc]
  rw [e] at h
  exact what_val h (by have := numT_size hx; have := numT_size hy; rw [ByteArray.size_append, ByteArray.size_append, sz1]; omega) (by simp [asks, asks_num]) (ev_bin hx hy envP c.toNat p1 0 o (by rcases hc with rfl | rfl | rfl <;> decide) ()) hP
theorem is_quo (h0 : y ≠ 0) : IsVal (ptext (numP x) ++ ⟨#[47]⟩ ++ ptext (numP y)) (quot x y) := by
  intro u f p hP
  obtain ⟨p1, o, h⟩ := read_quot hx hy
  have e : ptext (numP x ++ .sign 47 :: (numP y ++ [])) = ptext (numP x) ++ ⟨#[47]⟩ ++ ptext (numP y) := by simp [ptext, ptext_append, Piece.text, ByteArray.append_assoc]
  rw [e] at h
  exact what_val h (by have := numT_size hx; have := numT_size hy; rw [ByteArray.size_append, ByteArray.size_append, sz1]; omega) (by simp [asks, asks_num]) (by rw [ev_quo hx hy envP p1 0 o (), if_neg h0]) hP
theorem is_div (h0 : y = 0) : IsDiv (ptext (numP x) ++ ⟨#[47]⟩ ++ ptext (numP y)) := by
  intro u f p hP
  obtain ⟨p1, o, h⟩ := read_quot hx hy
  have e : ptext (numP x ++ .sign 47 :: (numP y ++ [])) = ptext (numP x) ++ ⟨#[47]⟩ ++ ptext (numP y) := by simp [ptext, ptext_append, Piece.text, ByteArray.append_assoc]
  rw [e] at h
  exact ⟨p1, what_div h (by have := numT_size hx; have := numT_size hy; rw [ByteArray.size_append, ByteArray.size_append, sz1]; omega) (by simp [asks, asks_num]) (by rw [ev_quo hx hy envP p1 0 o (), if_pos h0]) hP⟩
theorem is_back : IsVal (ptext (numP x) ++ ⟨#[43]⟩ ++ ptext (numP y) ++ ⟨#[45, 40]⟩ ++ ptext (numP y) ++ ⟨#[41]⟩) x := by
  intro u f p hP
  obtain ⟨p1, q, o, o2, h⟩ := read_back hx hy
  have e2 : (⟨#[45, 40]⟩ : ByteArray) = ⟨#[45]⟩ ++ ⟨#[40]⟩ := by decide
  have e : ptext (numP x ++ .sign 43 :: (numP y ++ .sign 45 :: .sign 40 :: (numP y ++ [.sign 41]))) = ptext (numP x) ++ ⟨#[43]⟩ ++ ptext (numP y) ++ ⟨#[45, 40]⟩ ++ ptext (numP y) ++ ⟨#[41]⟩ := by
    rw [e2]
    simp [ptext, ptext_append, Piece.text, ByteArray.append_assoc]
  rw [e] at h
  have z2 : (⟨#[45, 40]⟩ : ByteArray).size = 2 := rfl
  exact what_val h (by have := numT_size hx; have := numT_size hy; simp only [ByteArray.size_append, sz1, z2]; omega) (by simp [asks, asks_num]) (ev_back hx hy envP p1 q 0 o o2 ()) hP
theorem is_rest (h0 : y ≠ 0) : IsVal (⟨#[40]⟩ ++ ptext (numP x) ++ ⟨#[47]⟩ ++ ptext (numP y) ++ ⟨#[41, 42]⟩ ++ ptext (numP y)) (quot x y * y) := by
  intro u f p hP
  obtain ⟨p1, q, o, o2, o3, h⟩ := read_rest hx hy
  have e2 : (⟨#[41, 42]⟩ : ByteArray) = ⟨#[41]⟩ ++ ⟨#[42]⟩ := by decide
  have e : ptext (.sign 40 :: (numP x ++ .sign 47 :: (numP y ++ .sign 41 :: .sign 42 :: (numP y ++ [])))) = ⟨#[40]⟩ ++ ptext (numP x) ++ ⟨#[47]⟩ ++ ptext (numP y) ++ ⟨#[41, 42]⟩ ++ ptext (numP y) := by
    rw [e2]
    simp [ptext, ptext_append, Piece.text, ByteArray.append_assoc]
  rw [e] at h
  have z2 : (⟨#[41, 42]⟩ : ByteArray).size = 2 := rfl
  exact what_val h (by have := numT_size hx; have := numT_size hy; simp only [ByteArray.size_append, sz1, z2]; omega) (by simp [asks, asks_num]) (ev_rest hx hy envP h0 p1 q o3 o o2 ()) hP
end
/-- The three comparisons: just one holds. -/
theorem reck_three (x y : Int) : (x < y ∧ reck 60 x y = 1 ∧ reck 62 x y = 0 ∧ reck 61 x y = 0) ∨ (x = y ∧ reck 60 x y = 0 ∧ reck 62 x y = 0 ∧ reck 61 x y = 1) ∨ (y < x ∧ reck 60 x y = 0 ∧ reck 62 x y = 1 ∧ reck 61 x y = 0) := by
  have a : reck 60 x y = if x < y then 1 else 0 := rfl
  have b : reck 62 x y = if y < x then 1 else 0 := rfl
  have c : reck 61 x y = if x = y then 1 else 0 := rfl
  rw [a, b, c]
  rcases Int.lt_trichotomy x y with h | h | h
  · left; simp [h]; omega
  · right; left; simp [h]
  · right; right; simp [h]; omega
set_option maxRecDepth 1000000 in
set_option maxHeartbeats 1000000 in
theorem truths_zero {a b x L M E : Int} {X Y : ByteArray} (wa : wrap64 a = a) (wb : wrap64 b = b) (HX : Hid (ptext (numP (a.tmod 1000000000)) = X)) (HY : Hid (ptext (numP (b.tmod 1000000000)) = Y)) (zx : X.size ≤ 10) (zy : Y.size ≤ 10) (Hl : Hid (IsVal (X ++ ⟨#[60]⟩ ++ Y) L)) (Hm : Hid (IsVal (X ++ ⟨#[62]⟩ ++ Y) M)) (Hn : Hid (IsVal (X ++ ⟨#[61]⟩ ++ Y) E)) (Hs : Hid (IsVal (X ++ ⟨#[43]⟩ ++ Y ++ ⟨#[45, 40]⟩ ++ Y ++ ⟨#[41]⟩) x)) (HQ : Hid (IsDiv (X ++ ⟨#[47]⟩ ++ Y))) (h0 : (Y.toList == [48]) = true) (HC : Hid ((L = 1 ∧ M = 0 ∧ E = 0) ∨ (L = 0 ∧ M = 0 ∧ E = 1) ∨ (L = 0 ∧ M = 1 ∧ E = 0))) {A : Nat → Addr} {w : World} (hT : TabsR w) (hA : SentsX A w) :
    Calls Tryz.prog 4 #[.int .i32 a, .int .i32 b] w fun e w' => e = .returned (.bool true) ∧ Below w.heap.size w w' := by
  have z1 : ¬ 9223372036854775807 < X.size + 1 := by omega
  have z2 : ¬ 9223372036854775807 < X.size + 1 + Y.size := by omega
  have z3 : ¬ 9223372036854775807 < X.size + 1 + Y.size + 2 := by omega
  have z4 : ¬ 9223372036854775807 < X.size + 1 + Y.size + 2 + Y.size := by omega
  have z5 : ¬ 9223372036854775807 < X.size + 1 + Y.size + 2 + Y.size + 1 := by omega
  have y1 : ¬ 9223372036854775807 < 1 + X.size := by omega
  have y2 : ¬ 9223372036854775807 < 1 + X.size + 1 := by omega
  have y3 : ¬ 9223372036854775807 < 1 + X.size + 1 + Y.size := by omega
  have y4 : ¬ 9223372036854775807 < 1 + X.size + 1 + Y.size + 2 := by omega
  have y5 : ¬ 9223372036854775807 < 1 + X.size + 1 + Y.size + 2 + Y.size := by omega
  have hn1 := keep_number a w
  have WA : Hid _ := And.intro wa wb
  have HE : Hid (TabsR w ∧ SentsX A w) := ⟨hT, hA⟩
  clear hT hA
  go_enter Tryz.func4, Tryz.ntmps4
  go_wp2_with fail
  refine hn1.mono ?_
  rintro e w1 ⟨rfl, hb1⟩
  rw [HX.out]
  have hn2 := keep_number b w1
  have B1 : Hid (Below w.heap.size w w1) := hb1
  clear hn1 hb1
  go_wp2_with fail
  refine hn2.mono ?_
  rintro e w2 ⟨rfl, hb2⟩
  rw [HY.out]
  have B2 : Hid (Below w.heap.size w w2) := B1.out.trans (hb2.mono B1.out.size)
  clear hn2 hb2
  have c3 := what_is Hl.out (HE.out.1.below B2.out) (HE.out.2.below B2.out)
  go_wp2_with fail
  refine c3.mono ?_
  rintro e w3 ⟨rfl, hb3⟩
  have A3 : Hid (Below w.heap.size w w3) := B2.out.trans (hb3.mono B2.out.size)
  have B3 : Hid (Below w.heap.size w (w3.alloc (.cells #[.bool true, .bool true, .bool false, .int .i64 L, .int .i64 0, .int .i64 0, .int .i64 0, .string { data := #[] }] 26))) := A3.out.alloc A3.out.size _
  have Rl3 : Hid ((w3.alloc (.cells #[.bool true, .bool true, .bool false, .int .i64 L, .int .i64 0, .int .i64 0, .int .i64 0, .string { data := #[] }] 26)).heap[w3.heap.size]? = some (.cells #[.bool true, .bool true, .bool false, .int .i64 L, .int .i64 0, .int .i64 0, .int .i64 0, .string { data := #[] }] 26 (0, 0))) := heap_alloc_new _ _
  clear c3 hb3
  have c4 := what_is Hm.out (HE.out.1.below B3.out) (HE.out.2.below B3.out)
  go_wp2_with fail
  refine c4.mono ?_
  rintro e w4 ⟨rfl, hb4⟩
  have A4 : Hid (Below w.heap.size w w4) := B3.out.trans (hb4.mono B3.out.size)
  have B4 : Hid (Below w.heap.size w (w4.alloc (.cells #[.bool true, .bool true, .bool false, .int .i64 M, .int .i64 0, .int .i64 0, .int .i64 0, .string { data := #[] }] 26))) := A4.out.alloc A4.out.size _
  have Rl4 : Hid ((w4.alloc (.cells #[.bool true, .bool true, .bool false, .int .i64 M, .int .i64 0, .int .i64 0, .int .i64 0, .string { data := #[] }] 26)).heap[w3.heap.size]? = some (.cells #[.bool true, .bool true, .bool false, .int .i64 L, .int .i64 0, .int .i64 0, .int .i64 0, .string { data := #[] }] 26 (0, 0))) := heap_alloc_old ((hb4.block _ (heap_lt Rl3.out)).trans Rl3.out)
  have Rm4 : Hid ((w4.alloc (.cells #[.bool true, .bool true, .bool false, .int .i64 M, .int .i64 0, .int .i64 0, .int .i64 0, .string { data := #[] }] 26)).heap[w4.heap.size]? = some (.cells #[.bool true, .bool true, .bool false, .int .i64 M, .int .i64 0, .int .i64 0, .int .i64 0, .string { data := #[] }] 26 (0, 0))) := heap_alloc_new _ _
  clear c4 hb4
  have c5 := what_is Hn.out (HE.out.1.below B4.out) (HE.out.2.below B4.out)
  go_wp2_with fail
  refine c5.mono ?_
  rintro e w5 ⟨rfl, hb5⟩
  have A5 : Hid (Below w.heap.size w w5) := B4.out.trans (hb5.mono B4.out.size)
  have B5 : Hid (Below w.heap.size w (w5.alloc (.cells #[.bool true, .bool true, .bool false, .int .i64 E, .int .i64 0, .int .i64 0, .int .i64 0, .string { data := #[] }] 26))) := A5.out.alloc A5.out.size _
  have Rl5 : Hid ((w5.alloc (.cells #[.bool true, .bool true, .bool false, .int .i64 E, .int .i64 0, .int .i64 0, .int .i64 0, .string { data := #[] }] 26)).heap[w3.heap.size]? = some (.cells #[.bool true, .bool true, .bool false, .int .i64 L, .int .i64 0, .int .i64 0, .int .i64 0, .string { data := #[] }] 26 (0, 0))) := heap_alloc_old ((hb5.block _ (heap_lt Rl4.out)).trans Rl4.out)
  have Rm5 : Hid ((w5.alloc (.cells #[.bool true, .bool true, .bool false, .int .i64 E, .int .i64 0, .int .i64 0, .int .i64 0, .string { data := #[] }] 26)).heap[w4.heap.size]? = some (.cells #[.bool true, .bool true, .bool false, .int .i64 M, .int .i64 0, .int .i64 0, .int .i64 0, .string { data := #[] }] 26 (0, 0))) := heap_alloc_old ((hb5.block _ (heap_lt Rm4.out)).trans Rm4.out)
  have Rn5 : Hid ((w5.alloc (.cells #[.bool true, .bool true, .bool false, .int .i64 E, .int .i64 0, .int .i64 0, .int .i64 0, .string { data := #[] }] 26)).heap[w5.heap.size]? = some (.cells #[.bool true, .bool true, .bool false, .int .i64 E, .int .i64 0, .int .i64 0, .int .i64 0, .string { data := #[] }] 26 (0, 0))) := heap_alloc_new _ _
  clear c5 hb5
  have c6 := what_is Hs.out (HE.out.1.below B5.out) (HE.out.2.below B5.out)
  go_wp2_with fail
  refine c6.mono ?_
  rintro e w6 ⟨rfl, hb6⟩
  have A6 : Hid (Below w.heap.size w w6) := B5.out.trans (hb6.mono B5.out.size)
  have B6 : Hid (Below w.heap.size w (w6.alloc (.cells #[.bool true, .bool true, .bool false, .int .i64 x, .int .i64 0, .int .i64 0, .int .i64 0, .string { data := #[] }] 26))) := A6.out.alloc A6.out.size _
  have Rl6 : Hid ((w6.alloc (.cells #[.bool true, .bool true, .bool false, .int .i64 x, .int .i64 0, .int .i64 0, .int .i64 0, .string { data := #[] }] 26)).heap[w3.heap.size]? = some (.cells #[.bool true, .bool true, .bool false, .int .i64 L, .int .i64 0, .int .i64 0, .int .i64 0, .string { data := #[] }] 26 (0, 0))) := heap_alloc_old ((hb6.block _ (heap_lt Rl5.out)).trans Rl5.out)
  have Rm6 : Hid ((w6.alloc (.cells #[.bool true, .bool true, .bool false, .int .i64 x, .int .i64 0, .int .i64 0, .int .i64 0, .string { data := #[] }] 26)).heap[w4.heap.size]? = some (.cells #[.bool true, .bool true, .bool false, .int .i64 M, .int .i64 0, .int .i64 0, .int .i64 0, .string { data := #[] }] 26 (0, 0))) := heap_alloc_old ((hb6.block _ (heap_lt Rm5.out)).trans Rm5.out)
  have Rn6 : Hid ((w6.alloc (.cells #[.bool true, .bool true, .bool false, .int .i64 x, .int .i64 0, .int .i64 0, .int .i64 0, .string { data := #[] }] 26)).heap[w5.heap.size]? = some (.cells #[.bool true, .bool true, .bool false, .int .i64 E, .int .i64 0, .int .i64 0, .int .i64 0, .string { data := #[] }] 26 (0, 0))) := heap_alloc_old ((hb6.block _ (heap_lt Rn5.out)).trans Rn5.out)
  have Rs6 : Hid ((w6.alloc (.cells #[.bool true, .bool true, .bool false, .int .i64 x, .int .i64 0, .int .i64 0, .int .i64 0, .string { data := #[] }] 26)).heap[w6.heap.size]? = some (.cells #[.bool true, .bool true, .bool false, .int .i64 x, .int .i64 0, .int .i64 0, .int .i64 0, .string { data := #[] }] 26 (0, 0))) := heap_alloc_new _ _
  clear c6 hb6
  have c7 := what_isD HQ.out (HE.out.1.below B6.out) (HE.out.2.below B6.out)
  go_wp2_with fail
  refine c7.mono ?_
  rintro e w7 ⟨pq, rfl, hb7⟩
  have A7 : Hid (Below w.heap.size w w7) := B6.out.trans (hb7.mono B6.out.size)
  have B7 : Hid (Below w.heap.size w (w7.alloc (.cells #[.bool true, .bool true, .bool false, .int .i64 0, .int .i64 8, .int .i64 pq, .int .i64 0, .string { data := #[] }] 26))) := A7.out.alloc A7.out.size _
  have Rl7 : Hid ((w7.alloc (.cells #[.bool true, .bool true, .bool false, .int .i64 0, .int .i64 8, .int .i64 pq, .int .i64 0, .string { data := #[] }] 26)).heap[w3.heap.size]? = some (.cells #[.bool true, .bool true, .bool false, .int .i64 L, .int .i64 0, .int .i64 0, .int .i64 0, .string { data := #[] }] 26 (0, 0))) := heap_alloc_old ((hb7.block _ (heap_lt Rl6.out)).trans Rl6.out)
  have Rm7 : Hid ((w7.alloc (.cells #[.bool true, .bool true, .bool false, .int .i64 0, .int .i64 8, .int .i64 pq, .int .i64 0, .string { data := #[] }] 26)).heap[w4.heap.size]? = some (.cells #[.bool true, .bool true, .bool false, .int .i64 M, .int .i64 0, .int .i64 0, .int .i64 0, .string { data := #[] }] 26 (0, 0))) := heap_alloc_old ((hb7.block _ (heap_lt Rm6.out)).trans Rm6.out)
  have Rn7 : Hid ((w7.alloc (.cells #[.bool true, .bool true, .bool false, .int .i64 0, .int .i64 8, .int .i64 pq, .int .i64 0, .string { data := #[] }] 26)).heap[w5.heap.size]? = some (.cells #[.bool true, .bool true, .bool false, .int .i64 E, .int .i64 0, .int .i64 0, .int .i64 0, .string { data := #[] }] 26 (0, 0))) := heap_alloc_old ((hb7.block _ (heap_lt Rn6.out)).trans Rn6.out)
  have Rs7 : Hid ((w7.alloc (.cells #[.bool true, .bool true, .bool false, .int .i64 0, .int .i64 8, .int .i64 pq, .int .i64 0, .string { data := #[] }] 26)).heap[w6.heap.size]? = some (.cells #[.bool true, .bool true, .bool false, .int .i64 x, .int .i64 0, .int .i64 0, .int .i64 0, .string { data := #[] }] 26 (0, 0))) := heap_alloc_old ((hb7.block _ (heap_lt Rs6.out)).trans Rs6.out)
  have Rq7 : Hid ((w7.alloc (.cells #[.bool true, .bool true, .bool false, .int .i64 0, .int .i64 8, .int .i64 pq, .int .i64 0, .string { data := #[] }] 26)).heap[w7.heap.size]? = some (.cells #[.bool true, .bool true, .bool false, .int .i64 0, .int .i64 8, .int .i64 pq, .int .i64 0, .string { data := #[] }] 26 (0, 0))) := heap_alloc_new _ _
  clear c7 hb7
  have rl := Rl7.out
  have gl := cell_of_heap (i := 3) rl rfl
  have rm := Rm7.out
  have gm := cell_of_heap (i := 3) rm rfl
  have rn := Rn7.out
  have gn := cell_of_heap (i := 3) rn rfl
  have rs := Rs7.out
  have gs := cell_of_heap (i := 3) rs rfl
  have rq := Rq7.out
  have gq := cell_of_heap (i := 3) rq rfl
  have gqe := cell_of_heap (i := 4) rq rfl
  clear rl rm rn rs rq
  rcases HC.out with ⟨rfl, rfl, rfl⟩ | ⟨rfl, rfl, rfl⟩ | ⟨rfl, rfl, rfl⟩
  all_goals
    go_wp2
    go_ret
    exact ⟨rfl, B7.out⟩
set_option maxRecDepth 1000000 in
set_option maxHeartbeats 1000000 in
theorem truths_more {a b x y L M E : Int} {X Y : ByteArray} (wa : wrap64 a = a) (wb : wrap64 b = b) (HX : Hid (ptext (numP (a.tmod 1000000000)) = X)) (HY : Hid (ptext (numP (b.tmod 1000000000)) = Y)) (zx : X.size ≤ 10) (zy : Y.size ≤ 10) (Hl : Hid (IsVal (X ++ ⟨#[60]⟩ ++ Y) L)) (Hm : Hid (IsVal (X ++ ⟨#[62]⟩ ++ Y) M)) (Hn : Hid (IsVal (X ++ ⟨#[61]⟩ ++ Y) E)) (Hs : Hid (IsVal (X ++ ⟨#[43]⟩ ++ Y ++ ⟨#[45, 40]⟩ ++ Y ++ ⟨#[41]⟩) x)) {Q K r : Int} (Hq : Hid (IsVal (X ++ ⟨#[47]⟩ ++ Y) Q)) (Hk : Hid (IsVal (⟨#[40]⟩ ++ X ++ ⟨#[47]⟩ ++ Y ++ ⟨#[41, 42]⟩ ++ Y) K)) (Hu : Hid (IsVal X x)) (Hv : Hid (IsVal Y y)) (h0 : (Y.toList == [48]) = false) (HR : Hid (x - K = r ∧ -1000000000 < r ∧ r < 1000000000)) (HC : Hid ((L = 1 ∧ M = 0 ∧ E = 0 ∧ x < y) ∨ (L = 0 ∧ M = 0 ∧ E = 1 ∧ ¬ x < y) ∨ (L = 0 ∧ M = 1 ∧ E = 0 ∧ ¬ x < y))) (HD : Hid ((0 < y ∧ 0 ≤ r ∧ r < y) ∨ (y < 0 ∧ r ≤ 0 ∧ y < r))) {A : Nat → Addr} {w : World} (hT : TabsR w) (hA : SentsX A w) :
    Calls Tryz.prog 4 #[.int .i32 a, .int .i32 b] w fun e w' => e = .returned (.bool true) ∧ Below w.heap.size w w' := by
  have z1 : ¬ 9223372036854775807 < X.size + 1 := by omega
  have z2 : ¬ 9223372036854775807 < X.size + 1 + Y.size := by omega
  have z3 : ¬ 9223372036854775807 < X.size + 1 + Y.size + 2 := by omega
  have z4 : ¬ 9223372036854775807 < X.size + 1 + Y.size + 2 + Y.size := by omega
  have z5 : ¬ 9223372036854775807 < X.size + 1 + Y.size + 2 + Y.size + 1 := by omega
  have y1 : ¬ 9223372036854775807 < 1 + X.size := by omega
  have y2 : ¬ 9223372036854775807 < 1 + X.size + 1 := by omega
  have y3 : ¬ 9223372036854775807 < 1 + X.size + 1 + Y.size := by omega
  have y4 : ¬ 9223372036854775807 < 1 + X.size + 1 + Y.size + 2 := by omega
  have y5 : ¬ 9223372036854775807 < 1 + X.size + 1 + Y.size + 2 + Y.size := by omega
  have hn1 := keep_number a w
  have WA : Hid _ := And.intro wa wb
  have HE : Hid (TabsR w ∧ SentsX A w) := ⟨hT, hA⟩
  clear hT hA
  go_enter Tryz.func4, Tryz.ntmps4
  go_wp2_with fail
  refine hn1.mono ?_
  rintro e w1 ⟨rfl, hb1⟩
  rw [HX.out]
  have hn2 := keep_number b w1
  have B1 : Hid (Below w.heap.size w w1) := hb1
  clear hn1 hb1
  go_wp2_with fail
  refine hn2.mono ?_
  rintro e w2 ⟨rfl, hb2⟩
  rw [HY.out]
  have B2 : Hid (Below w.heap.size w w2) := B1.out.trans (hb2.mono B1.out.size)
  clear hn2 hb2
  have c3 := what_is Hl.out (HE.out.1.below B2.out) (HE.out.2.below B2.out)
  go_wp2_with fail
  refine c3.mono ?_
  rintro e w3 ⟨rfl, hb3⟩
  have A3 : Hid (Below w.heap.size w w3) := B2.out.trans (hb3.mono B2.out.size)
  have B3 : Hid (Below w.heap.size w (w3.alloc (.cells #[.bool true, .bool true, .bool false, .int .i64 L, .int .i64 0, .int .i64 0, .int .i64 0, .string { data := #[] }] 26))) := A3.out.alloc A3.out.size _
  have Rl3 : Hid ((w3.alloc (.cells #[.bool true, .bool true, .bool false, .int .i64 L, .int .i64 0, .int .i64 0, .int .i64 0, .string { data := #[] }] 26)).heap[w3.heap.size]? = some (.cells #[.bool true, .bool true, .bool false, .int .i64 L, .int .i64 0, .int .i64 0, .int .i64 0, .string { data := #[] }] 26 (0, 0))) := heap_alloc_new _ _
  clear c3 hb3
  have c4 := what_is Hm.out (HE.out.1.below B3.out) (HE.out.2.below B3.out)
  go_wp2_with fail
  refine c4.mono ?_
  rintro e w4 ⟨rfl, hb4⟩
  have A4 : Hid (Below w.heap.size w w4) := B3.out.trans (hb4.mono B3.out.size)
  have B4 : Hid (Below w.heap.size w (w4.alloc (.cells #[.bool true, .bool true, .bool false, .int .i64 M, .int .i64 0, .int .i64 0, .int .i64 0, .string { data := #[] }] 26))) := A4.out.alloc A4.out.size _
  have Rl4 : Hid ((w4.alloc (.cells #[.bool true, .bool true, .bool false, .int .i64 M, .int .i64 0, .int .i64 0, .int .i64 0, .string { data := #[] }] 26)).heap[w3.heap.size]? = some (.cells #[.bool true, .bool true, .bool false, .int .i64 L, .int .i64 0, .int .i64 0, .int .i64 0, .string { data := #[] }] 26 (0, 0))) := heap_alloc_old ((hb4.block _ (heap_lt Rl3.out)).trans Rl3.out)
  have Rm4 : Hid ((w4.alloc (.cells #[.bool true, .bool true, .bool false, .int .i64 M, .int .i64 0, .int .i64 0, .int .i64 0, .string { data := #[] }] 26)).heap[w4.heap.size]? = some (.cells #[.bool true, .bool true, .bool false, .int .i64 M, .int .i64 0, .int .i64 0, .int .i64 0, .string { data := #[] }] 26 (0, 0))) := heap_alloc_new _ _
  clear c4 hb4
  have c5 := what_is Hn.out (HE.out.1.below B4.out) (HE.out.2.below B4.out)
  go_wp2_with fail
  refine c5.mono ?_
  rintro e w5 ⟨rfl, hb5⟩
  have A5 : Hid (Below w.heap.size w w5) := B4.out.trans (hb5.mono B4.out.size)
  have B5 : Hid (Below w.heap.size w (w5.alloc (.cells #[.bool true, .bool true, .bool false, .int .i64 E, .int .i64 0, .int .i64 0, .int .i64 0, .string { data := #[] }] 26))) := A5.out.alloc A5.out.size _
  have Rl5 : Hid ((w5.alloc (.cells #[.bool true, .bool true, .bool false, .int .i64 E, .int .i64 0, .int .i64 0, .int .i64 0, .string { data := #[] }] 26)).heap[w3.heap.size]? = some (.cells #[.bool true, .bool true, .bool false, .int .i64 L, .int .i64 0, .int .i64 0, .int .i64 0, .string { data := #[] }] 26 (0, 0))) := heap_alloc_old ((hb5.block _ (heap_lt Rl4.out)).trans Rl4.out)
  have Rm5 : Hid ((w5.alloc (.cells #[.bool true, .bool true, .bool false, .int .i64 E, .int .i64 0, .int .i64 0, .int .i64 0, .string { data := #[] }] 26)).heap[w4.heap.size]? = some (.cells #[.bool true, .bool true, .bool false, .int .i64 M, .int .i64 0, .int .i64 0, .int .i64 0, .string { data := #[] }] 26 (0, 0))) := heap_alloc_old ((hb5.block _ (heap_lt Rm4.out)).trans Rm4.out)
  have Rn5 : Hid ((w5.alloc (.cells #[.bool true, .bool true, .bool false, .int .i64 E, .int .i64 0, .int .i64 0, .int .i64 0, .string { data := #[] }] 26)).heap[w5.heap.size]? = some (.cells #[.bool true, .bool true, .bool false, .int .i64 E, .int .i64 0, .int .i64 0, .int .i64 0, .string { data := #[] }] 26 (0, 0))) := heap_alloc_new _ _
  clear c5 hb5
  have c6 := what_is Hs.out (HE.out.1.below B5.out) (HE.out.2.below B5.out)
  go_wp2_with fail
  refine c6.mono ?_
  rintro e w6 ⟨rfl, hb6⟩
  have A6 : Hid (Below w.heap.size w w6) := B5.out.trans (hb6.mono B5.out.size)
  have B6 : Hid (Below w.heap.size w (w6.alloc (.cells #[.bool true, .bool true, .bool false, .int .i64 x, .int .i64 0, .int .i64 0, .int .i64 0, .string { data := #[] }] 26))) := A6.out.alloc A6.out.size _
  have Rl6 : Hid ((w6.alloc (.cells #[.bool true, .bool true, .bool false, .int .i64 x, .int .i64 0, .int .i64 0, .int .i64 0, .string { data := #[] }] 26)).heap[w3.heap.size]? = some (.cells #[.bool true, .bool true, .bool false, .int .i64 L, .int .i64 0, .int .i64 0, .int .i64 0, .string { data := #[] }] 26 (0, 0))) := heap_alloc_old ((hb6.block _ (heap_lt Rl5.out)).trans Rl5.out)
  have Rm6 : Hid ((w6.alloc (.cells #[.bool true, .bool true, .bool false, .int .i64 x, .int .i64 0, .int .i64 0, .int .i64 0, .string { data := #[] }] 26)).heap[w4.heap.size]? = some (.cells #[.bool true, .bool true, .bool false, .int .i64 M, .int .i64 0, .int .i64 0, .int .i64 0, .string { data := #[] }] 26 (0, 0))) := heap_alloc_old ((hb6.block _ (heap_lt Rm5.out)).trans Rm5.out)
  have Rn6 : Hid ((w6.alloc (.cells #[.bool true, .bool true, .bool false, .int .i64 x, .int .i64 0, .int .i64 0, .int .i64 0, .string { data := #[] }] 26)).heap[w5.heap.size]? = some (.cells #[.bool true, .bool true, .bool false, .int .i64 E, .int .i64 0, .int .i64 0, .int .i64 0, .string { data := #[] }] 26 (0, 0))) := heap_alloc_old ((hb6.block _ (heap_lt Rn5.out)).trans Rn5.out)
  have Rs6 : Hid ((w6.alloc (.cells #[.bool true, .bool true, .bool false, .int .i64 x, .int .i64 0, .int .i64 0, .int .i64 0, .string { data := #[] }] 26)).heap[w6.heap.size]? = some (.cells #[.bool true, .bool true, .bool false, .int .i64 x, .int .i64 0, .int .i64 0, .int .i64 0, .string { data := #[] }] 26 (0, 0))) := heap_alloc_new _ _
  clear c6 hb6
  have c7 := what_is Hq.out (HE.out.1.below B6.out) (HE.out.2.below B6.out)
  go_wp2_with fail
  refine c7.mono ?_
  rintro e w7 ⟨rfl, hb7⟩
  have A7 : Hid (Below w.heap.size w w7) := B6.out.trans (hb7.mono B6.out.size)
  have B7 : Hid (Below w.heap.size w (w7.alloc (.cells #[.bool true, .bool true, .bool false, .int .i64 Q, .int .i64 0, .int .i64 0, .int .i64 0, .string { data := #[] }] 26))) := A7.out.alloc A7.out.size _
  have Rl7 : Hid ((w7.alloc (.cells #[.bool true, .bool true, .bool false, .int .i64 Q, .int .i64 0, .int .i64 0, .int .i64 0, .string { data := #[] }] 26)).heap[w3.heap.size]? = some (.cells #[.bool true, .bool true, .bool false, .int .i64 L, .int .i64 0, .int .i64 0, .int .i64 0, .string { data := #[] }] 26 (0, 0))) := heap_alloc_old ((hb7.block _ (heap_lt Rl6.out)).trans Rl6.out)
  have Rm7 : Hid ((w7.alloc (.cells #[.bool true, .bool true, .bool false, .int .i64 Q, .int .i64 0, .int .i64 0, .int .i64 0, .string { data := #[] }] 26)).heap[w4.heap.size]? = some (.cells #[.bool true, .bool true, .bool false, .int .i64 M, .int .i64 0, .int .i64 0, .int .i64 0, .string { data := #[] }] 26 (0, 0))) := heap_alloc_old ((hb7.block _ (heap_lt Rm6.out)).trans Rm6.out)
  have Rn7 : Hid ((w7.alloc (.cells #[.bool true, .bool true, .bool false, .int .i64 Q, .int .i64 0, .int .i64 0, .int .i64 0, .string { data := #[] }] 26)).heap[w5.heap.size]? = some (.cells #[.bool true, .bool true, .bool false, .int .i64 E, .int .i64 0, .int .i64 0, .int .i64 0, .string { data := #[] }] 26 (0, 0))) := heap_alloc_old ((hb7.block _ (heap_lt Rn6.out)).trans Rn6.out)
  have Rs7 : Hid ((w7.alloc (.cells #[.bool true, .bool true, .bool false, .int .i64 Q, .int .i64 0, .int .i64 0, .int .i64 0, .string { data := #[] }] 26)).heap[w6.heap.size]? = some (.cells #[.bool true, .bool true, .bool false, .int .i64 x, .int .i64 0, .int .i64 0, .int .i64 0, .string { data := #[] }] 26 (0, 0))) := heap_alloc_old ((hb7.block _ (heap_lt Rs6.out)).trans Rs6.out)
  have Rq7 : Hid ((w7.alloc (.cells #[.bool true, .bool true, .bool false, .int .i64 Q, .int .i64 0, .int .i64 0, .int .i64 0, .string { data := #[] }] 26)).heap[w7.heap.size]? = some (.cells #[.bool true, .bool true, .bool false, .int .i64 Q, .int .i64 0, .int .i64 0, .int .i64 0, .string { data := #[] }] 26 (0, 0))) := heap_alloc_new _ _
  clear c7 hb7
  have c8 := what_is Hk.out (HE.out.1.below B7.out) (HE.out.2.below B7.out)
  go_wp2_with fail
  refine c8.mono ?_
  rintro e w8 ⟨rfl, hb8⟩
  have A8 : Hid (Below w.heap.size w w8) := B7.out.trans (hb8.mono B7.out.size)
  have B8 : Hid (Below w.heap.size w (w8.alloc (.cells #[.bool true, .bool true, .bool false, .int .i64 K, .int .i64 0, .int .i64 0, .int .i64 0, .string { data := #[] }] 26))) := A8.out.alloc A8.out.size _
  have Rl8 : Hid ((w8.alloc (.cells #[.bool true, .bool true, .bool false, .int .i64 K, .int .i64 0, .int .i64 0, .int .i64 0, .string { data := #[] }] 26)).heap[w3.heap.size]? = some (.cells #[.bool true, .bool true, .bool false, .int .i64 L, .int .i64 0, .int .i64 0, .int .i64 0, .string { data := #[] }] 26 (0, 0))) := heap_alloc_old ((hb8.block _ (heap_lt Rl7.out)).trans Rl7.out)
  have Rm8 : Hid ((w8.alloc (.cells #[.bool true, .bool true, .bool false, .int .i64 K, .int .i64 0, .int .i64 0, .int .i64 0, .string { data := #[] }] 26)).heap[w4.heap.size]? = some (.cells #[.bool true, .bool true, .bool false, .int .i64 M, .int .i64 0, .int .i64 0, .int .i64 0, .string { data := #[] }] 26 (0, 0))) := heap_alloc_old ((hb8.block _ (heap_lt Rm7.out)).trans Rm7.out)
  have Rn8 : Hid ((w8.alloc (.cells #[.bool true, .bool true, .bool false, .int .i64 K, .int .i64 0, .int .i64 0, .int .i64 0, .string { data := #[] }] 26)).heap[w5.heap.size]? = some (.cells #[.bool true, .bool true, .bool false, .int .i64 E, .int .i64 0, .int .i64 0, .int .i64 0, .string { data := #[] }] 26 (0, 0))) := heap_alloc_old ((hb8.block _ (heap_lt Rn7.out)).trans Rn7.out)
  have Rs8 : Hid ((w8.alloc (.cells #[.bool true, .bool true, .bool false, .int .i64 K, .int .i64 0, .int .i64 0, .int .i64 0, .string { data := #[] }] 26)).heap[w6.heap.size]? = some (.cells #[.bool true, .bool true, .bool false, .int .i64 x, .int .i64 0, .int .i64 0, .int .i64 0, .string { data := #[] }] 26 (0, 0))) := heap_alloc_old ((hb8.block _ (heap_lt Rs7.out)).trans Rs7.out)
  have Rq8 : Hid ((w8.alloc (.cells #[.bool true, .bool true, .bool false, .int .i64 K, .int .i64 0, .int .i64 0, .int .i64 0, .string { data := #[] }] 26)).heap[w7.heap.size]? = some (.cells #[.bool true, .bool true, .bool false, .int .i64 Q, .int .i64 0, .int .i64 0, .int .i64 0, .string { data := #[] }] 26 (0, 0))) := heap_alloc_old ((hb8.block _ (heap_lt Rq7.out)).trans Rq7.out)
  have Rk8 : Hid ((w8.alloc (.cells #[.bool true, .bool true, .bool false, .int .i64 K, .int .i64 0, .int .i64 0, .int .i64 0, .string { data := #[] }] 26)).heap[w8.heap.size]? = some (.cells #[.bool true, .bool true, .bool false, .int .i64 K, .int .i64 0, .int .i64 0, .int .i64 0, .string { data := #[] }] 26 (0, 0))) := heap_alloc_new _ _
  clear c8 hb8
  have c9 := what_is Hu.out (HE.out.1.below B8.out) (HE.out.2.below B8.out)
  go_wp2_with fail
  refine c9.mono ?_
  rintro e w9 ⟨rfl, hb9⟩
  have A9 : Hid (Below w.heap.size w w9) := B8.out.trans (hb9.mono B8.out.size)
  have B9 : Hid (Below w.heap.size w (w9.alloc (.cells #[.bool true, .bool true, .bool false, .int .i64 x, .int .i64 0, .int .i64 0, .int .i64 0, .string { data := #[] }] 26))) := A9.out.alloc A9.out.size _
  have Rl9 : Hid ((w9.alloc (.cells #[.bool true, .bool true, .bool false, .int .i64 x, .int .i64 0, .int .i64 0, .int .i64 0, .string { data := #[] }] 26)).heap[w3.heap.size]? = some (.cells #[.bool true, .bool true, .bool false, .int .i64 L, .int .i64 0, .int .i64 0, .int .i64 0, .string { data := #[] }] 26 (0, 0))) := heap_alloc_old ((hb9.block _ (heap_lt Rl8.out)).trans Rl8.out)
  have Rm9 : Hid ((w9.alloc (.cells #[.bool true, .bool true, .bool false, .int .i64 x, .int .i64 0, .int .i64 0, .int .i64 0, .string { data := #[] }] 26)).heap[w4.heap.size]? = some (.cells #[.bool true, .bool true, .bool false, .int .i64 M, .int .i64 0, .int .i64 0, .int .i64 0, .string { data := #[] }] 26 (0, 0))) := heap_alloc_old ((hb9.block _ (heap_lt Rm8.out)).trans Rm8.out)
  have Rn9 : Hid ((w9.alloc (.cells #[.bool true, .bool true, .bool false, .int .i64 x, .int .i64 0, .int .i64 0, .int .i64 0, .string { data := #[] }] 26)).heap[w5.heap.size]? = some (.cells #[.bool true, .bool true, .bool false, .int .i64 E, .int .i64 0, .int .i64 0, .int .i64 0, .string { data := #[] }] 26 (0, 0))) := heap_alloc_old ((hb9.block _ (heap_lt Rn8.out)).trans Rn8.out)
  have Rs9 : Hid ((w9.alloc (.cells #[.bool true, .bool true, .bool false, .int .i64 x, .int .i64 0, .int .i64 0, .int .i64 0, .string { data := #[] }] 26)).heap[w6.heap.size]? = some (.cells #[.bool true, .bool true, .bool false, .int .i64 x, .int .i64 0, .int .i64 0, .int .i64 0, .string { data := #[] }] 26 (0, 0))) := heap_alloc_old ((hb9.block _ (heap_lt Rs8.out)).trans Rs8.out)
  have Rq9 : Hid ((w9.alloc (.cells #[.bool true, .bool true, .bool false, .int .i64 x, .int .i64 0, .int .i64 0, .int .i64 0, .string { data := #[] }] 26)).heap[w7.heap.size]? = some (.cells #[.bool true, .bool true, .bool false, .int .i64 Q, .int .i64 0, .int .i64 0, .int .i64 0, .string { data := #[] }] 26 (0, 0))) := heap_alloc_old ((hb9.block _ (heap_lt Rq8.out)).trans Rq8.out)
  have Rk9 : Hid ((w9.alloc (.cells #[.bool true, .bool true, .bool false, .int .i64 x, .int .i64 0, .int .i64 0, .int .i64 0, .string { data := #[] }] 26)).heap[w8.heap.size]? = some (.cells #[.bool true, .bool true, .bool false, .int .i64 K, .int .i64 0, .int .i64 0, .int .i64 0, .string { data := #[] }] 26 (0, 0))) := heap_alloc_old ((hb9.block _ (heap_lt Rk8.out)).trans Rk8.out)
  have Ru9 : Hid ((w9.alloc (.cells #[.bool true, .bool true, .bool false, .int .i64 x, .int .i64 0, .int .i64 0, .int .i64 0, .string { data := #[] }] 26)).heap[w9.heap.size]? = some (.cells #[.bool true, .bool true, .bool false, .int .i64 x, .int .i64 0, .int .i64 0, .int .i64 0, .string { data := #[] }] 26 (0, 0))) := heap_alloc_new _ _
  clear c9 hb9
  have c10 := what_is Hv.out (HE.out.1.below B9.out) (HE.out.2.below B9.out)
  have gk9 := cell_of_heap (i := 3) Rk9.out rfl
  have gu9 := cell_of_heap (i := 3) Ru9.out rfl
  have hw := HR.out
  have wr : wrap64 (x - K) = r := by rw [hw.1]; exact wrap64_id (by unfold In64; omega)
  clear hw
  go_wp2_with fail
  refine c10.mono ?_
  rintro e w10 ⟨rfl, hb10⟩
  have A10 : Hid (Below w.heap.size w w10) := B9.out.trans (hb10.mono B9.out.size)
  have B10 : Hid (Below w.heap.size w (w10.alloc (.cells #[.bool true, .bool true, .bool false, .int .i64 y, .int .i64 0, .int .i64 0, .int .i64 0, .string { data := #[] }] 26))) := A10.out.alloc A10.out.size _
  have Rl10 : Hid ((w10.alloc (.cells #[.bool true, .bool true, .bool false, .int .i64 y, .int .i64 0, .int .i64 0, .int .i64 0, .string { data := #[] }] 26)).heap[w3.heap.size]? = some (.cells #[.bool true, .bool true, .bool false, .int .i64 L, .int .i64 0, .int .i64 0, .int .i64 0, .string { data := #[] }] 26 (0, 0))) := heap_alloc_old ((hb10.block _ (heap_lt Rl9.out)).trans Rl9.out)
  have Rm10 : Hid ((w10.alloc (.cells #[.bool true, .bool true, .bool false, .int .i64 y, .int .i64 0, .int .i64 0, .int .i64 0, .string { data := #[] }] 26)).heap[w4.heap.size]? = some (.cells #[.bool true, .bool true, .bool false, .int .i64 M, .int .i64 0, .int .i64 0, .int .i64 0, .string { data := #[] }] 26 (0, 0))) := heap_alloc_old ((hb10.block _ (heap_lt Rm9.out)).trans Rm9.out)
  have Rn10 : Hid ((w10.alloc (.cells #[.bool true, .bool true, .bool false, .int .i64 y, .int .i64 0, .int .i64 0, .int .i64 0, .string { data := #[] }] 26)).heap[w5.heap.size]? = some (.cells #[.bool true, .bool true, .bool false, .int .i64 E, .int .i64 0, .int .i64 0, .int .i64 0, .string { data := #[] }] 26 (0, 0))) := heap_alloc_old ((hb10.block _ (heap_lt Rn9.out)).trans Rn9.out)
  have Rs10 : Hid ((w10.alloc (.cells #[.bool true, .bool true, .bool false, .int .i64 y, .int .i64 0, .int .i64 0, .int .i64 0, .string { data := #[] }] 26)).heap[w6.heap.size]? = some (.cells #[.bool true, .bool true, .bool false, .int .i64 x, .int .i64 0, .int .i64 0, .int .i64 0, .string { data := #[] }] 26 (0, 0))) := heap_alloc_old ((hb10.block _ (heap_lt Rs9.out)).trans Rs9.out)
  have Rq10 : Hid ((w10.alloc (.cells #[.bool true, .bool true, .bool false, .int .i64 y, .int .i64 0, .int .i64 0, .int .i64 0, .string { data := #[] }] 26)).heap[w7.heap.size]? = some (.cells #[.bool true, .bool true, .bool false, .int .i64 Q, .int .i64 0, .int .i64 0, .int .i64 0, .string { data := #[] }] 26 (0, 0))) := heap_alloc_old ((hb10.block _ (heap_lt Rq9.out)).trans Rq9.out)
  have Rk10 : Hid ((w10.alloc (.cells #[.bool true, .bool true, .bool false, .int .i64 y, .int .i64 0, .int .i64 0, .int .i64 0, .string { data := #[] }] 26)).heap[w8.heap.size]? = some (.cells #[.bool true, .bool true, .bool false, .int .i64 K, .int .i64 0, .int .i64 0, .int .i64 0, .string { data := #[] }] 26 (0, 0))) := heap_alloc_old ((hb10.block _ (heap_lt Rk9.out)).trans Rk9.out)
  have Ru10 : Hid ((w10.alloc (.cells #[.bool true, .bool true, .bool false, .int .i64 y, .int .i64 0, .int .i64 0, .int .i64 0, .string { data := #[] }] 26)).heap[w9.heap.size]? = some (.cells #[.bool true, .bool true, .bool false, .int .i64 x, .int .i64 0, .int .i64 0, .int .i64 0, .string { data := #[] }] 26 (0, 0))) := heap_alloc_old ((hb10.block _ (heap_lt Ru9.out)).trans Ru9.out)
  have Rv10 : Hid ((w10.alloc (.cells #[.bool true, .bool true, .bool false, .int .i64 y, .int .i64 0, .int .i64 0, .int .i64 0, .string { data := #[] }] 26)).heap[w10.heap.size]? = some (.cells #[.bool true, .bool true, .bool false, .int .i64 y, .int .i64 0, .int .i64 0, .int .i64 0, .string { data := #[] }] 26 (0, 0))) := heap_alloc_new _ _
  clear c10 hb10 gk9 gu9
  have rl := Rl10.out
  have gl := cell_of_heap (i := 3) rl rfl
  have rm := Rm10.out
  have gm := cell_of_heap (i := 3) rm rfl
  have rn := Rn10.out
  have gn := cell_of_heap (i := 3) rn rfl
  have rs := Rs10.out
  have gs := cell_of_heap (i := 3) rs rfl
  have rq := Rq10.out
  have gq := cell_of_heap (i := 3) rq rfl
  have rk := Rk10.out
  have gk := cell_of_heap (i := 3) rk rfl
  have ru := Ru10.out
  have gu := cell_of_heap (i := 3) ru rfl
  have rv := Rv10.out
  have gv := cell_of_heap (i := 3) rv rfl
  have gqe := cell_of_heap (i := 4) rq rfl
  clear rl rm rn rs rq rk ru rv
  rcases HC.out with ⟨rfl, rfl, rfl, hc⟩ | ⟨rfl, rfl, rfl, hc⟩ | ⟨rfl, rfl, rfl, hc⟩
  all_goals
    rcases HD.out with ⟨d1, d2, d3⟩ | ⟨d1, d2, d3⟩
    all_goals
      go_wp2
      go_ret
      exact ⟨by first | rfl | (show Ending.returned (Value.bool (!decide (x < y))) = _; rw [decide_eq_false (by omega)]; rfl), B10.out⟩
theorem law_Truths (a b : Int) (ha : -2147483648 ≤ a ∧ a ≤ 2147483647) (hb : -2147483648 ≤ b ∧ b ≤ 2147483647) {A : Nat → Addr} {w : World} (hT : TabsR w) (hA : SentsX A w) :
    Calls Tryz.prog 4 #[.int .i32 a, .int .i32 b] w fun e w' => e = .returned (.bool true) ∧ Below w.heap.size w w' := by
  have wa : wrap64 a = a := wrap64_id (by unfold In64; omega)
  have wb : wrap64 b = b := wrap64_id (by unfold In64; omega)
  have hx : (a.tmod 1000000000).natAbs < 1000000000 := by
    have := Int.tmod_lt_of_pos a (b := 1000000000) (by decide)
    have := Int.lt_tmod_of_pos a (b := 1000000000) (by decide)
    omega
  have hy : (b.tmod 1000000000).natAbs < 1000000000 := by
    have := Int.tmod_lt_of_pos b (b := 1000000000) (by decide)
    have := Int.lt_tmod_of_pos b (b := 1000000000) (by decide)
    omega
  have h3 := reck_three (a.tmod 1000000000) (b.tmod 1000000000)
  have hz := numT_zero hy
  have Hl := is_cmp hx hy (c := 60) (.inl rfl)
  have Hm := is_cmp hx hy (c := 62) (.inr (.inl rfl))
  have Hn := is_cmp hx hy (c := 61) (.inr (.inr rfl))
  have Hs := is_back hx hy
  by_cases h0 : b.tmod 1000000000 = 0
  · refine truths_zero wa wb rfl rfl (numT_size hx) (numT_size hy) Hl Hm Hn Hs (is_div hx hy h0) (by rw [hz]; simp [h0]) ?_ hT hA
    rcases h3 with ⟨-, h⟩ | ⟨-, h⟩ | ⟨-, h⟩
    · exact .inl h
    · exact .inr (.inl h)
    · exact .inr (.inr h)
  · have hq := quot_rest hx hy h0
    refine truths_more (y := b.tmod 1000000000) (r := a.tmod 1000000000 - quot (a.tmod 1000000000) (b.tmod 1000000000) * b.tmod 1000000000) wa wb rfl rfl (numT_size hx) (numT_size hy) Hl Hm Hn Hs (is_quo hx hy h0) (is_rest hx hy h0) (is_num hx) (is_num hy) (by rw [hz]; simp [h0]) ⟨rfl, by omega, by omega⟩ ?_ ?_ hT hA
    · rcases h3 with ⟨h1, h2, h4, h5⟩ | ⟨h1, h2, h4, h5⟩ | ⟨h1, h2, h4, h5⟩
      · exact .inl ⟨h2, h4, h5, h1⟩
      · exact .inr (.inl ⟨h2, h4, h5, by omega⟩)
      · exact .inr (.inr ⟨h2, h4, h5, by omega⟩)
    · rcases Int.lt_or_gt_of_ne h0 with h | h
      · have := hq.2 h
        exact .inr ⟨h, this.2, this.1⟩
      · have := hq.1 h
        exact .inl ⟨h, this.1, this.2⟩
end Go.Proofs.YtaghcjpoihkpjaaGreatDoor
