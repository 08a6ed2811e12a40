/-
  THE REFERENCE's call AT A MEASURE, AND WHERE NO PARENTHESIS FOLLOWS, WALKED.
-/
import Derived.Test.YtihmgoahobbdkaaGreatDoorRefJ
namespace Go.Proofs.YtihmgoahobbdkaaGreatDoor
open Go.RowKit Go.Lib

/-- What 'take' comes to. -/
def TakeRel (s : ByteArray) (L : List Tok) (I : Nat) (b : Bool) (k I' : Nat) (b' : Bool) (kt pt : Nat) (tt : ByteArray) : Prop :=
  (b = true ∧ I' = I ∧ b' = true ∧ kt = 0 ∧ pt = 0 ∧ tt = { data := #[] }) ∨ (b = false ∧ kd L I = k ∧ I' = I + 1 ∧ b' = false ∧ kt = k ∧ pt = pl L I ∧ tt = tx s L I) ∨ (b = false ∧ kd L I ≠ k ∧ I' = I ∧ b' = true ∧ kt = 0 ∧ pt = 0 ∧ tt = { data := #[] })
theorem TakeRel.lt {s : ByteArray} {L : List Tok} {I I' k kt pt : Nat} {b b' : Bool} {tt : ByteArray} (h : TakeRel s L I b k I' b' kt pt tt) (hE : Ends L) (hI : I < L.length) (h1 : k ≠ 101) (h2 : k ≠ 33) : I' < L.length := by
  rcases h with ⟨-, rfl, -⟩ | ⟨-, hk, rfl, -⟩ | ⟨-, -, rfl, -⟩
  · exact hI
  · exact hE.next hI (by omega) (by omega)
  · exact hI
theorem TakeRel.digits {s : ByteArray} {L : List Tok} {I I' kt pt : Nat} {b b' : Bool} {tt : ByteArray} (h : TakeRel s L I b 110 I' b' kt pt tt) (hG : Good s L) (hI : I < L.length) : Digits tt := by
  rcases h with ⟨-, -, -, -, -, rfl⟩ | ⟨-, hk, -, -, -, -, rfl⟩ | ⟨-, -, -, -, -, -, rfl⟩
  · exact digits_none
  · exact hG I hI hk
  · exact digits_none

theorem TakeRel.bad {s : ByteArray} {L : List Tok} {I k I' kt pt : Nat} {b' : Bool} {tt : ByteArray} (h : TakeRel s L I true k I' b' kt pt tt) : I' = I ∧ b' = true := by
  rcases h with ⟨-, h1, h2, -⟩ | ⟨h, -⟩ | ⟨h, -⟩
  · exact ⟨h1, h2⟩
  · cases h
  · cases h
theorem TakeRel.good {s : ByteArray} {L : List Tok} {I k I' kt pt : Nat} {b' : Bool} {tt : ByteArray} (h : TakeRel s L I false k I' b' kt pt tt) : (kd L I = k ∧ I' = I + 1 ∧ b' = false ∧ tt = tx s L I) ∨ (kd L I ≠ k ∧ I' = I ∧ b' = true) := by
  rcases h with ⟨h, -⟩ | ⟨-, h1, h2, h3, -, -, h4⟩ | ⟨-, h1, h2, h3, -⟩
  · cases h
  · exact .inl ⟨h1, h2, h3, h4⟩
  · exact .inr ⟨h1, h2, h3⟩

section
variable {s : ByteArray} {L : List Tok} {R bl cap base : Nat}

theorem st_take {w : World} {I : Nat} {b : Bool} (h : St s L R bl cap base w I b) (hI : I < L.length) (k : Nat) :
    Calls Tryz.prog 27 #[.pointer (some ⟨R, 0, none⟩), .int .u8 k] w fun e w' => ∃ (I' : Nat) (b' : Bool) (kt pt : Nat) (tt : ByteArray), e = .returned (tokenOf kt pt tt) ∧ TakeRel s L I b k I' b' kt pt tt ∧ St s L R bl cap base w' I' b' ∧ Keep R w w' := by
  cases b with
  | true => exact (st_take_bad h hI k).mono fun e w' ⟨h1, h2, h3⟩ => ⟨I, true, 0, 0, _, h1, .inl ⟨rfl, rfl, rfl, rfl, rfl, rfl⟩, h2, h3⟩
  | false =>
    by_cases hk : kd L I = k
    · exact (st_take_hit h hI hk).mono fun e w' ⟨h1, h2, h3⟩ => ⟨I + 1, false, k, _, _, h1, .inr (.inl ⟨rfl, hk, rfl, rfl, rfl, rfl, rfl⟩), h2, h3⟩
    · exact (st_take_miss h hI hk).mono fun e w' ⟨h1, h2, h3⟩ => ⟨I, true, 0, 0, _, h1, .inr (.inr ⟨rfl, hk, rfl, rfl, rfl, rfl, rfl⟩), h2, h3⟩

/-- A node's block, in the making. -/
def NodeBlk (w : World) (b k p : Nat) (n : Int) (word metric : ByteArray) (pv : Value) : Prop := w.heap[b]? = some (.cells #[.int .u8 k, .int .i64 p, .int .i64 n, .string word, .string metric, pv] 44 (0, 0))

set_option maxRecDepth 1000000 in
set_option maxHeartbeats 2000000 in
theorem call_measure (hE : Ends L) (hG : Good s L) {w : World} {I : Nat} (hI : I < L.length) (hk : kd L I = 97) (hm : isMeasure (tx s L I) = true) (hst : St s L R bl cap base w I false) :
    Calls Tryz.prog 175 #[.pointer (some ⟨R, 0, none⟩)] w fun e w' => ∃ (o : Out) (pa : Option Addr), e = .returned (.pointer pa) ∧ D s L .minus I o ∧ Keep R w w' ∧ After s L R bl cap base w.heap.size w' o (.pointer pa) := by
  have hlen := hst.len
  have hbR := hst.hR
  have hI1 : I + 1 < L.length := hE.next hI (by omega) (by omega)
  have HE : Hid (Ends L) := hE
  have HG : Hid (Good s L) := hG
  have HS : Hid (St s L R bl cap base w I false) := hst
  have HA : Hid (kd L I = 97) := hk
  have HME : Hid (isMeasure (tx s L I) = true) := hm
  clear hE hG hst hk
  go_enter Tryz.func175, Tryz.ntmps175
  go_wp2_with fail
  refine (st_take_hit HS.out hI (k := 97) HA.out).mono ?_
  rintro e w1 ⟨rfl, hs1, hk1⟩
  have HK1 : Hid (Keep R w w1) := hk1
  have HS1 : Hid (St s L R bl cap base w1 (I + 1) false) := hs1
  have l1 : R < w1.heap.size := heap_lt hs1.rd
  clear hs1 hk1
  go_wp2_with fail
  refine (st_take (HS1.out.alloc _) hI1 40).mono ?_
  rintro e w2 ⟨I2, b2, kt2, pt2, tt2, rfl, hr2, hs2, hk2⟩
  have hI2 := hr2.lt HE.out hI1 (by omega) (by omega)
  have HR2 : Hid (TakeRel s L (I + 1) false 40 I2 b2 kt2 pt2 tt2) := hr2
  have HK2 : Hid (Keep R w w2) := (HK1.out.alloc _).trans hk2
  have HS2 : Hid (St s L R bl cap base w2 I2 b2) := hs2
  have a1 : w2.cell? ⟨w1.heap.size, 1, none⟩ = some (.int .i64 (pl L I)) := hk2.cell (World.cell?_alloc_at (w := w1) _ _ _ _ rfl) (by simp; omega)
  have a2 : w2.cell? ⟨w1.heap.size, 2, none⟩ = some (.string (tx s L I)) := hk2.cell (World.cell?_alloc_at (w := w1) _ _ _ _ rfl) (by simp; omega)
  have l12 : w1.heap.size < w2.heap.size := World.block_lt_of_cell? _ _ a1
  have hsz2 := hs2.size
  clear hs2 hk2 hr2
  go_wp2_with (first | (go_at_call 190; refine (ref_measure _ _).mono ?_; rintro e w' ⟨rfl, hw⟩; subst hw))
  refine (st_take (HS2.out.alloc _) hI2 97).mono ?_
  rintro e w3 ⟨I3, b3, kt3, pt3, tt3, rfl, hr3, hs3, hk3⟩
  have hI3 := hr3.lt HE.out hI2 (by omega) (by omega)
  have HR3 : Hid (TakeRel s L I2 b2 97 I3 b3 kt3 pt3 tt3) := hr3
  have n3 : NodeBlk w3 w2.heap.size 109 (pl L I) 0 (tx s L I) { data := #[] } (.slice none 0 0) := hk3.heap cells_new (by omega)
  have HK3 : Hid (Keep R w w3) := (HK2.out.alloc _).trans hk3
  have HS3 : Hid (St s L R bl cap base w3 I3 b3) := hs3
  have m3 := cell_of_heap (i := 4) n3 rfl
  have f3 := frozen_of_heap (i := 4) n3
  have l3 := heap_lt n3
  have HN3 : Hid (NodeBlk w3 w2.heap.size 109 (pl L I) 0 (tx s L I) { data := #[] } (.slice none 0 0)) := n3
  clear hs3 hk3 hr3 n3 a1 a2
  go_wp2_with fail
  have HW4 : Hid (Keep R w ((w3.setCell ⟨w2.heap.size, 4, none⟩ (.string tt3)).alloc (.cells #[.int .u8 kt3, .int .i64 pt3, .string tt3] 71))) := (HK3.out.setNew (by have := HK2.out.size; simp; omega) _).alloc _
  have HN4 : Hid (NodeBlk ((w3.setCell ⟨w2.heap.size, 4, none⟩ (.string tt3)).alloc (.cells #[.int .u8 kt3, .int .i64 pt3, .string tt3] 71)) w2.heap.size 109 (pl L I) 0 (tx s L I) tt3 (.slice none 0 0)) := heap_alloc_old (heap_set_same HN3.out)
  refine (st_take ((HS3.out.setNew (a := ⟨w2.heap.size, 4, none⟩) hsz2 (.string tt3)).alloc _) hI3 44).mono ?_
  rintro e w5 ⟨I5, b5, kt5, pt5, tt5, rfl, hr5, hs5, hk5⟩
  have hI5 := hr5.lt HE.out hI3 (by omega) (by omega)
  have HR5 : Hid (TakeRel s L I3 b3 44 I5 b5 kt5 pt5 tt5) := hr5
  have HN5 : Hid (NodeBlk w5 w2.heap.size 109 (pl L I) 0 (tx s L I) tt3 (.slice none 0 0)) := hk5.heap HN4.out (by omega)
  have HK5 : Hid (Keep R w w5) := HW4.out.trans hk5
  have HS5 : Hid (St s L R bl cap base w5 I5 b5) := hs5
  clear hs5 hk5 hr5 HN4 HW4 m3 f3
  go_wp2_with fail
  refine (st_take HS5.out hI5 110).mono ?_
  rintro e w6 ⟨I6, b6, kt6, pt6, tt6, rfl, hr6, hs6, hk6⟩
  have hI6 := hr6.lt HE.out hI5 (by omega) (by omega)
  have hdg := hr6.digits HG.out hI5
  have HR6 : Hid (TakeRel s L I5 b5 110 I6 b6 kt6 pt6 tt6) := hr6
  have n6 : NodeBlk w6 w2.heap.size 109 (pl L I) 0 (tx s L I) tt3 (.slice none 0 0) := hk6.heap HN5.out (by omega)
  have HN6 : Hid (NodeBlk w6 w2.heap.size 109 (pl L I) 0 (tx s L I) tt3 (.slice none 0 0)) := n6
  have HK6 : Hid (Keep R w w6) := HK5.out.trans hk6
  have HS6 : Hid (St s L R bl cap base w6 I6 b6) := hs6
  have m6 := cell_of_heap (i := 2) n6 rfl
  have f6 := frozen_of_heap (i := 2) n6
  have l6 := heap_lt n6
  clear hs6 hk6 hr6 n6
  go_wp2_with (first | (go_at_call 176; refine (ref_number _ _ hdg.1 hdg.2).mono ?_; rintro e w' ⟨rfl, hw⟩; subst hw))
  have HW7 : Hid (Keep R w ((w6.setCell ⟨w2.heap.size, 2, none⟩ (.int .i64 (numOf tt6.data.toList))).alloc (.cells #[.int .u8 kt6, .int .i64 pt6, .string tt6] 71))) := (HK6.out.setNew (by have := HK2.out.size; simp; omega) _).alloc _
  have HN7 : Hid (NodeBlk ((w6.setCell ⟨w2.heap.size, 2, none⟩ (.int .i64 (numOf tt6.data.toList))).alloc (.cells #[.int .u8 kt6, .int .i64 pt6, .string tt6] 71)) w2.heap.size 109 (pl L I) (numOf tt6.data.toList) (tx s L I) tt3 (.slice none 0 0)) := heap_alloc_old (heap_set_same HN6.out)
  refine (st_take ((HS6.out.setNew (a := ⟨w2.heap.size, 2, none⟩) hsz2 (.int .i64 (numOf tt6.data.toList))).alloc _) hI6 41).mono ?_
  rintro e w8 ⟨I8, b8, kt8, pt8, tt8, rfl, hr8, hs8, hk8⟩
  have hI8 := hr8.lt HE.out hI6 (by omega) (by omega)
  have HR8 : Hid (TakeRel s L I6 b6 41 I8 b8 kt8 pt8 tt8) := hr8
  have HN8 : Hid (NodeBlk w8 w2.heap.size 109 (pl L I) (numOf tt6.data.toList) (tx s L I) tt3 (.slice none 0 0)) := hk8.heap HN7.out (by omega)
  have HK8 : Hid (Keep R w w8) := HW7.out.trans hk8
  have HS8 : Hid (St s L R bl cap base w8 I8 b8) := hs8
  clear hs8 hk8 hr8 HN7 HW7 m6 f6
  go_wp2
  go_ret
  have hk := HA.out
  have hm := HME.out
  have bad : ∀ J, I8 = J → b8 = true → D s L .minus I (.bad J) → ∃ (o : Out) (pa : Option Addr), Ending.returned (.pointer (some ⟨w2.heap.size, 0, none⟩)) = .returned (.pointer pa) ∧ D s L .minus I o ∧ Keep R w w8 ∧ After s L R bl cap base w.heap.size w8 o (.pointer pa) := by
    rintro J rfl rfl hd
    exact ⟨.bad I8, _, rfl, hd, HK8.out, HS8.out, hI8⟩
  have r2 := HR2.out
  have r3 := HR3.out
  have r5 := HR5.out
  have r6 := HR6.out
  have r8 := HR8.out
  rcases r2.good with ⟨k2, rfl, rfl, -⟩ | ⟨k2, rfl, rfl⟩
  rotate_left 1
  · obtain ⟨rfl, rfl⟩ := r3.bad
    obtain ⟨rfl, rfl⟩ := r5.bad
    obtain ⟨rfl, rfl⟩ := r6.bad
    obtain ⟨e8, d8⟩ := r8.bad
    exact bad _ e8 d8 (.caB1 hk k2)
  rcases r3.good with ⟨k3, rfl, rfl, rfl⟩ | ⟨k3, rfl, rfl⟩
  rotate_left 1
  · obtain ⟨rfl, rfl⟩ := r5.bad
    obtain ⟨rfl, rfl⟩ := r6.bad
    obtain ⟨e8, d8⟩ := r8.bad
    exact bad _ e8 d8 (.meB2 hk k2 hm k3)
  rcases r5.good with ⟨k5, rfl, rfl, -⟩ | ⟨k5, rfl, rfl⟩
  rotate_left 1
  · obtain ⟨rfl, rfl⟩ := r6.bad
    obtain ⟨e8, d8⟩ := r8.bad
    exact bad _ e8 d8 (.meB3 hk k2 hm k3 k5)
  rcases r6.good with ⟨k6, rfl, rfl, rfl⟩ | ⟨k6, rfl, rfl⟩
  rotate_left 1
  · obtain ⟨e8, d8⟩ := r8.bad
    exact bad _ e8 d8 (.meB4 hk k2 hm k3 k5 k6)
  rcases r8.good with ⟨k8, rfl, rfl, -⟩ | ⟨k8, e8, d8⟩
  · refine ⟨.ok [.meas (pl L I) (tx s L I) (tx s L (I + 2)) (numOf (tx s L (I + 4)).data.toList)] (I + 6), _, rfl, .meGo hk k2 hm k3 k5 k6 k8, HK8.out, HS8.out, hI8, _, rfl, ?_⟩
    unfold IsNode
    exact ⟨w2.heap.size, _, rfl, HK2.out.size, HN8.out, .inl ⟨rfl, rfl⟩⟩
  · exact bad _ e8 d8 (.meB5 hk k2 hm k3 k5 k6 k8)
end
end Go.Proofs.YtihmgoahobbdkaaGreatDoor
