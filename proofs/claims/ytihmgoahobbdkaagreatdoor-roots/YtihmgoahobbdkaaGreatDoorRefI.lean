/-
  THE REFERENCE's choice, WALKED.
-/
import Derived.Test.YtihmgoahobbdkaaGreatDoorRefH
namespace Go.Proofs.YtihmgoahobbdkaaGreatDoor
open Go.RowKit Go.Lib

section
variable {s : ByteArray} {L : List Tok} {R bl cap base : Nat}

set_option maxRecDepth 1000000 in
set_option maxHeartbeats 2000000 in
theorem choice_of (hE : Ends L) {N : Nat} (hcmp : Con s L R bl cap base 46 .compare (N + 1)) (hcho : Con s L R bl cap base 26 .choice N) :
    Con s L R bl cap base 26 .choice (N + 1) := by
  intro w I hI hN hst
  have hm0 := hcmp w I hI hN hst
  have HM : Hid (Con s L R bl cap base 26 .choice N) := hcho
  have HE : Hid (Ends L) := hE
  have hlen := hst.len
  have lRw : R < w.heap.size := heap_lt hst.rd
  clear hcho hcmp hE
  go_enter Tryz.func26, Tryz.ntmps26
  go_wp2_with fail
  refine hm0.mono ?_
  rintro e w1 ⟨o, va, rfl, hD, hk, ha⟩
  clear hm0 hst
  have HD : Hid (D s L .compare I o) := hD
  have HK : Hid (Keep R w w1) := hk
  cases o with
  | bad J =>
    obtain ⟨hs1, hJ⟩ := ha
    have HS1 : Hid (St s L R bl cap base w1 J true) := hs1
    have c2 : w1.cell? ⟨R, 2, none⟩ = some (.bool true) := cell_of_heap hs1.rd rfl
    clear hD hk hs1
    go_wp2_with fail
    refine (st_kind HS1.out hJ).mono ?_
    rintro e w2 ⟨rfl, q, rfl⟩
    go_wp2
    go_ret
    exact ⟨.bad J, _, rfl, .chBad HD.out, HK.out.drewN q, HS1.out.drewN q, hJ⟩
  | ok ts J =>
    obtain ⟨hs1, hJ, t, rfl, hn⟩ := ha
    have HS1 : Hid (St s L R bl cap base w1 J false) := hs1
    have HN1 : Hid (IsNode (From w.heap.size) w1 t (.pointer va)) := hn
    have c2 : w1.cell? ⟨R, 2, none⟩ = some (.bool false) := cell_of_heap hs1.rd rfl
    clear hD hk hs1 hn
    by_cases hq : kd L J = 63
    rotate_left 1
    · have h1 : ((kd L J : Int) != 63) = true := by simp; omega
      have HQ : Hid (kd L J ≠ 63) := hq
      clear hq
      go_wp2_with fail
      refine (st_kind HS1.out hJ).mono ?_
      rintro e w2 ⟨rfl, q, rfl⟩
      go_wp2
      go_ret
      exact ⟨.ok [t] J, _, rfl, .chOne HD.out HQ.out, HK.out.drewN q, HS1.out.drewN q, hJ, t, rfl, HN1.out.kept ((Keep.refl R w1).drewN q) lRw (Nat.le_refl _)⟩
    have h1 : ((kd L J : Int) != 63) = false := by simp [hq]
    have HQ : Hid (kd L J = 63) := hq
    clear hq
    have hJ1 : J + 1 < L.length := HE.out.next hJ (by have := HQ.out; omega) (by have := HQ.out; omega)
    have hIJ : I < J := read_lt HD.out rfl
    go_wp2_with fail
    refine (st_kind HS1.out hJ).mono ?_
    rintro e w2 ⟨rfl, q, rfl⟩
    have htk := st_take_hit (HS1.out.drewN q) hJ (k := 63) HQ.out
    go_wp2_with fail
    refine htk.mono ?_
    rintro e w3 ⟨rfl, hs3, hk3⟩
    have HKA : Hid (Keep R w1 w3) := ((Keep.refl R w1).drewN q).trans hk3
    have HS3 : Hid (St s L R bl cap base w3 (J + 1) false) := hs3
    have sz3 := hs3.size
    have lR : R < w3.heap.size := heap_lt hs3.rd
    clear hs3 hk3 htk
    go_wp2_with fail
    refine (HM.out _ (J + 1) hJ1 (by omega) (HS3.out.alloc _)).mono ?_
    rintro e w5 ⟨o, vb, rfl, hD5, hk5, ha5⟩
    have c5 : w5.cell? ⟨w3.heap.size, 1, none⟩ = some (.int .i64 (pl L J)) := hk5.cell (World.cell?_alloc_at (w := w3) _ _ _ _ rfl) (by simp; omega)
    have HD5 : Hid (D s L .choice (J + 1) o) := hD5
    have HK5 : Hid (Keep R w1 w5) := (HKA.out.alloc _).trans hk5
    clear hD5 hk5
    cases o with
    | bad K =>
      obtain ⟨hs5, hK⟩ := ha5
      have HS5 : Hid (St s L R bl cap base w5 K true) := hs5
      clear hs5
      go_wp2_with fail
      refine (st_take_bad HS5.out hK 58).mono ?_
      rintro e w6 ⟨rfl, hs6, hk6⟩
      have c6 : w6.cell? ⟨R, 2, none⟩ = some (.bool true) := cell_of_heap hs6.rd rfl
      have HS6 : Hid (St s L R bl cap base w6 K true) := hs6
      have HK6 : Hid (Keep R w5 w6) := hk6
      clear hs6 hk6
      go_wp2
      go_ret
      exact ⟨.bad K, _, rfl, .chB1 HD.out HQ.out HD5.out, (HK.out.trans HK5.out).trans HK6.out, HS6.out, hK⟩
    | ok ts K =>
      obtain ⟨hs5, hK, b, rfl, hn5⟩ := ha5
      have HS5 : Hid (St s L R bl cap base w5 K false) := hs5
      have HN5 : Hid (IsNode (From w.heap.size) w5 b (.pointer vb)) := hn5.kept (Keep.refl R w5) (by simp; omega) (by have := HK.out.size; have := HKA.out.size; simp; omega)
      clear hs5 hn5
      have hJK : J + 1 < K := read_lt HD5.out rfl
      by_cases hc : kd L K = 58
      rotate_left 1
      · have HC : Hid (kd L K ≠ 58) := hc
        clear hc
        go_wp2_with fail
        refine (st_take_miss HS5.out hK (k := 58) HC.out).mono ?_
        rintro e w6 ⟨rfl, hs6, hk6⟩
        have c6 : w6.cell? ⟨R, 2, none⟩ = some (.bool true) := cell_of_heap hs6.rd rfl
        have HS6 : Hid (St s L R bl cap base w6 K true) := hs6
        have HK6 : Hid (Keep R w5 w6) := hk6
        clear hs6 hk6
        go_wp2
        go_ret
        exact ⟨.bad K, _, rfl, .chB2 HD.out HQ.out HD5.out HC.out, (HK.out.trans HK5.out).trans HK6.out, HS6.out, hK⟩
      have HC : Hid (kd L K = 58) := hc
      clear hc
      have hK1 : K + 1 < L.length := HE.out.next hK (by have := HC.out; omega) (by have := HC.out; omega)
      go_wp2_with fail
      refine (st_take_hit HS5.out hK (k := 58) HC.out).mono ?_
      rintro e w6 ⟨rfl, hs6, hk6⟩
      have c6 : w6.cell? ⟨R, 2, none⟩ = some (.bool false) := cell_of_heap hs6.rd rfl
      have c6' : w6.cell? ⟨w3.heap.size, 1, none⟩ = some (.int .i64 (pl L J)) := hk6.cell c5 (by simp; omega)
      have HS6 : Hid (St s L R bl cap base w6 (K + 1) false) := hs6
      have HK6 : Hid (Keep R w1 w6) := HK5.out.trans hk6
      have HN6 : Hid (IsNode (From w.heap.size) w6 b (.pointer vb)) := HN5.out.kept hk6 lRw (Nat.le_refl _)
      clear hs6 hk6 c5
      go_wp2_with fail
      refine (HM.out _ (K + 1) hK1 (by omega) HS6.out).mono ?_
      rintro e w7 ⟨o, vc, rfl, hD7, hk7, ha7⟩
      have c7 : w7.cell? ⟨w3.heap.size, 1, none⟩ = some (.int .i64 (pl L J)) := hk7.cell c6' (by simp; omega)
      have HD7 : Hid (D s L .choice (K + 1) o) := hD7
      have HK7 : Hid (Keep R w1 w7) := HK6.out.trans hk7
      have HN7 : Hid (IsNode (From w.heap.size) w7 b (.pointer vb)) := HN6.out.kept hk7 lRw (Nat.le_refl _)
      have HA7 : Hid (After s L R bl cap base w6.heap.size w7 o (.pointer vc)) := ha7
      clear hD7 hk7 ha7 c6' c6 c2
      go_wp2_with fail
      go_ret
      cases o with
      | ok ts M =>
        obtain ⟨g1, g2, c, rfl, g4⟩ := HA7.out
        exact ⟨.ok [.ite (pl L J) t b c] M, _, rfl, .chIf HD.out HQ.out HD5.out HC.out HD7.out, ((HK.out.trans HK7.out).alloc _).alloc _, (g1.alloc _).alloc _, g2, _, rfl, node_three (by have := HK.out.size; have := HK7.out.size; omega) lRw (HN1.out.kept HK7.out lRw (Nat.le_refl _)) HN7.out (g4.kept (Keep.refl R w7) (heap_lt HS6.out.rd) (by have := HK.out.size; have := HK6.out.size; omega))⟩
      | bad M => exact ⟨.bad M, _, rfl, .chB3 HD.out HQ.out HD5.out HC.out HD7.out, ((HK.out.trans HK7.out).alloc _).alloc _, (HA7.out.1.alloc _).alloc _, HA7.out.2⟩
end
end Go.Proofs.YtihmgoahobbdkaaGreatDoor
