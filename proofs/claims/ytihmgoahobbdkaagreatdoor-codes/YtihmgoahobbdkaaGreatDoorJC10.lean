/-
  THE REFERENCE's choice, WALKED.
-/
import Derived.Test.YtihmgoahobbdkaaGreatDoorJC9
namespace Go.Proofs.YtihmgoahobbdkaaGreatDoor
open Go.RowKit Go.Lib

section
variable {s : ByteArray} {L : List Tok} {R bl cap base : Nat}

set_option maxRecDepth 1000000 in
set_option maxHeartbeats 2000000 in
theorem choice_of (hE : Ends L) {N : Nat} (hcmp : Con s L R bl cap base 46 .compare (N + 1)) (hcho : Con s L R bl cap base 26 .choice N) :
    Con s L R bl cap base 26 .choice (N + 1) := by
  intro w I hI hN hst
  have hm0 := hcmp w I hI hN hst
  have HM : Hid (Con s L R bl cap base 26 .choice N) := hcho
  have HE : Hid (Ends L) := hE
  have hlen := hst.len
  have lRw : R < w.heap.size := heap_lt hst.rd
  clear hcho hcmp hE
  go_enter Tryz.func26, Tryz.ntmps26
  go_wp2_with fail
  refine hm0.mono ?_
  rintro e w1 ⟨o, va, rfl, hD, hk, ha⟩
  clear hm0 hst
  have HD : Hid (D s L .compare I o) := hD
  have HK : Hid (Keep R w w1) := hk
  cases o with
  | bad J =>
    obtain ⟨hs1, hJ⟩ := ha
    have HS1 : Hid (St s L R bl cap base w1 J true) := hs1
    have c2 : w1.cell? ⟨R, 2, none⟩ = some (.bool true) := cell_of_heap hs1.rd rfl
    clear hD hk hs1
    go_wp2_with fail
    refine (st_kind HS1.out hJ).mono ?_
    rintro e w2 ⟨rfl, q, rfl⟩
    go_wp2
    go_ret
    exact ⟨.bad J, _, rfl, .chBad HD.out, HK.out.drewN q, HS1.out.drewN q, hJ⟩
  | ok ts J =>
    obtain ⟨hs1, hJ, t, rfl, hn⟩ := ha
    have HS1 : Hid (St s L R bl cap base w1 J false) := hs1
    have HN1 : Hid (IsNode (From w.heap.size) w1 t (.pointer va)) := hn
    have c2 : w1.cell? ⟨R, 2, none⟩ = some (.bool false) := cell_of_heap hs1.rd rfl
    clear hD hk hs1 hn
    by_cases hq : kd L J = 63
    rotate_left 1
    · have h1 : ((kd L J : Int) != 63) = true := by simp; omega
      have HQ : Hid (kd L J ≠ 63) := hq
      clear hq
      go_wp2_with fail
      refine (st_kind HS1.out hJ).mono ?_
      rintro e w2 ⟨rfl, q, rfl⟩
      go_wp2
      go_ret
      exact ⟨.ok [t] J, _, rfl, .chOne HD.out HQ.out, HK.out.drewN q, HS1.out.drewN q, hJ, t, rfl, HN1.out.kept ((Keep.refl R w1).drewN q) lRw (Nat.le_refl _)⟩
    have h1 : ((kd L J : Int) != 63) = false := by simp [hq]
    have HQ : Hid (kd L J = 63) := hq
    clear hq
    have hJ1 : J + 1 < L.length := HE.out.next hJ (by have := HQ.out; omega) (by have := HQ.out; omega)
    have hIJ : I < J := read_lt HD.out rfl
    go_wp2_with fail
    refine (st_kind HS1.out hJ).mono ?_
    rintro e w2 ⟨rfl, q, rfl⟩
    have htk := st_take_hit (HS1.out.drewN q) hJ (k := 63) HQ.out
    go_wp2_with fail
    refine htk.mono ?_
    rintro e w3 ⟨rfl, hs3, hk3⟩
    have HKA : Hid (Keep R w1 w3) := ((Keep.refl R w1).drewN q).trans hk3
    have HS3 : Hid (St s L R bl cap base w3 (J + 1) false) := hs3
    have sz3 := hs3.size
    have lR : R < w3.heap.size := heap_lt hs3.rd
    clear hs3 hk3 htk
    go_wp2_with fail
    refine (HM.out _ (J + 1) hJ1 (by omega) (HS3.out.alloc _)).mono ?_
    rintro e w5 ⟨o, vb, rfl, hD5, hk5, ha5⟩
    have c5 : w5.cell? ⟨w3.heap.size, 1, none⟩ = some (.int .i64 (pl L J)) := hk5.cell (World.cell?_alloc_at (w := w3) _ _ _ _ rfl) (by simp; omega)
    have HD5 : Hid (D s L .choice (J + 1) o) := hD5
    have HK5 : Hid (Keep R w1 w5) := (HKA.out.alloc _).trans hk5
    clear hD5 hk5
    cases o with
    | bad K =>
      obtain ⟨hs5, hK⟩ := ha5
      have HS5 : Hid (St s L R bl cap base w5 K true) := hs5
      clear hs5
      go_wp2_with fail
      refine (st_take_bad HS5.out hK 58).mono ?_
      rintro e w6 ⟨rfl, hs6, hk6⟩
      have c6 : w6.cell? ⟨R, 2, none⟩ = some (.bool true) := cell_of_heap hs6.rd rfl
      have HS6 : Hid (St s L R bl cap base w6 K true) := hs6
      have HK6 : Hid (Keep R w5 w6) := hk6
      clear hs6 hk6
      go_wp2
      go_ret
      exact ⟨.bad K, _, rfl, .chB1 HD.out HQ.out HD5.out, (HK.out.trans HK5.out).trans HK6.out, HS6.out, hK⟩
    | ok ts K =>
      obtain ⟨hs5, hK, b, rfl, hn5⟩ := ha5
      have HS5 : Hid (St s L R bl cap base w5 K false) := hs5
      have HN5 : Hid (IsNode (From w.heap.size) w5 b (.pointer vb)) := hn5.kept (Keep.refl R w5) (by simp; omega) (by have := HK.out.size; have := HKA.out.size; simp; omega)
      clear hs5 hn5
      have hJK : J + 1 < K := read_lt HD5.out rfl
      by_cases hc : kd L K = 58
      rotate_left 1
      · have HC : Hid (kd L K ≠ 58) := hc
        clear hc
        go_wp2_with fail
        refine (st_take_miss HS5.out hK (k := 58) HC.out).mono ?_
        rintro e w6 ⟨rfl, hs6, hk6⟩
        have c6 : w6.cell? ⟨R, 2, none⟩ = some (.bool true) := cell_of_heap hs6.rd rfl
        have HS6 : Hid (St s L R bl cap base w6 K true) := hs6
        have HK6 : Hid (Keep R w5 w6) := hk6
        clear hs6 hk6
        go_wp2
        go_ret
        exact ⟨.bad K, _, rfl, .chB2 HD.out HQ.out HD5.out HC.out, (HK.out.trans HK5.out).trans HK6.out, HS6.out, hK⟩
      have HC : Hid (kd L K = 58) := hc
      clear hc
      have hK1 : K + 1 < L.length := HE.out.next hK (by have := HC.out; omega) (by have := HC.out; omega)
      go_wp2_with fail
      refine (st_take_hit HS5.out hK (k := 58) HC.out).mono ?_
      rintro e w6 ⟨rfl, hs6, hk6⟩
      have c6 : w6.cell? ⟨R, 2, none⟩ = some (.bool false) := cell_of_heap hs6.rd rfl
      have c6' : w6.cell? ⟨w3.heap.size, 1, none⟩ = some (.int .i64 (pl L J)) := hk6.cell c5 (by simp; omega)
      have HS6 : Hid (St s L R bl cap base w6 (K + 1) false) := hs6
      have HK6 : Hid (Keep R w1 w6) := HK5.out.trans hk6
      have HN6 : Hid (IsNode (From w.heap.size) w6 b (.pointer vb)) := HN5.out.kept hk6 lRw (Nat.le_refl _)
      clear hs6 hk6 c5
      go_wp2_with fail
      refine (HM.out _ (K + 1) hK1 (by omega) HS6.out).mono ?_
      rintro e w7 ⟨o, vc, rfl, hD7, hk7, ha7⟩
      have c7 : w7.cell? ⟨w3.heap.size, 1, none⟩ = some (.int .i64 (pl L J)) := hk7.cell c6' (by simp; omega)
      have HD7 : Hid (D s L .choice (K + 1) o) := hD7
      have HK7 : Hid (Keep R w1 w7) := HK6.out.trans hk7
      have HN7 : Hid (IsNode (From w.heap.size) w7 b (.pointer vb)) := HN6.out.kept hk7 lRw (Nat.le_refl _)
      have HA7 : Hid (After s L R bl cap base w6.heap.size w7 o (.pointer vc)) := ha7
      clear hD7 hk7 ha7 c6' c6 c2
      go_wp2_with fail
      go_ret
      cases o with
      | ok ts M =>
        obtain ⟨g1, g2, c, rfl, g4⟩ := HA7.out
        exact ⟨.ok [.ite (pl L J) t b c] M, _, rfl, .chIf HD.out HQ.out HD5.out HC.out HD7.out, ((HK.out.trans HK7.out).alloc _).alloc _, (g1.alloc _).alloc _, g2, _, rfl, node_three (by have := HK.out.size; have := HK7.out.size; omega) lRw (HN1.out.kept HK7.out lRw (Nat.le_refl _)) HN7.out (g4.kept (Keep.refl R w7) (heap_lt HS6.out.rd) (by have := HK.out.size; have := HK6.out.size; omega))⟩
      | bad M => exact ⟨.bad M, _, rfl, .chB3 HD.out HQ.out HD5.out HC.out HD7.out, ((HK.out.trans HK7.out).alloc _).alloc _, (HA7.out.1.alloc _).alloc _, HA7.out.2⟩
end
end Go.Proofs.YtihmgoahobbdkaaGreatDoor
namespace Go.Proofs.YtihmgoahobbdkaaGreatDoor
open Go.RowKit Go.Lib

/-- The tokens of numbers are short runs of digits. -/
def Digits (b : ByteArray) : Prop := (∀ x ∈ b.data.toList, isDig x = true) ∧ b.size ≤ 9
def Good (s : ByteArray) (L : List Tok) : Prop := ∀ i, i < L.length → kd L i = 110 → Digits (tx s L i)
theorem digits_none : Digits { data := #[] } := ⟨by simp, by decide⟩
section
variable (s : ByteArray) (L : List Tok) (R bl cap base : Nat)
/-- What a call does at a name. -/
def ConCall (N : Nat) : Prop :=
  ∀ (w : World) (I : Nat), I < L.length → L.length - I ≤ N → kd L I = 97 → St s L R bl cap base w I false →
    Calls Tryz.prog 175 #[.pointer (some ⟨R, 0, none⟩)] w fun e w' => ∃ (o : Out) (pa : Option Addr), e = .returned (.pointer pa) ∧ D s L .minus I o ∧ Keep R w w' ∧ After s L R bl cap base w.heap.size w' o (.pointer pa)
end

theorem node_one {lo R : Nat} {w : World} {va : Value} {p : Nat} {a : Tree} (hb : lo ≤ w.heap.size) (hR : R < lo) (ha : IsNode (From lo) w a va) :
    IsNode (From lo) ((w.alloc (.cells #[va] 26)).alloc (.cells #[.int .u8 126, .int .i64 p, .int .i64 0, .string noBytes, .string noBytes, .slice (some ⟨w.heap.size, 0, none⟩) 1 1] 44)) (.neg p a) (.pointer (some ⟨w.heap.size + 1, 0, none⟩)) := by
  unfold IsNode
  refine ⟨va, ⟨w.heap.size + 1, _, rfl, by show lo ≤ _; omega, ?_, .inr ⟨w.heap.size, 1, #[va], rfl, hb, heap_alloc_old cells_new, by simp, by unfold maxLen; omega, rfl, rfl⟩⟩, ha.moves (moves_new _ _ hR)⟩
  have := cells_new (w := w.alloc (.cells #[va] 26)) (cs := #[.int .u8 126, .int .i64 p, .int .i64 0, .string noBytes, .string noBytes, .slice (some ⟨w.heap.size, 0, none⟩) 1 1]) (t := 44)
  simpa using this
theorem node_num {lo b : Nat} {w : World} {p : Nat} {n : Int} (hb : lo ≤ w.heap.size) (hn : b = w.heap.size) :
    IsNode (From lo) (w.alloc (.cells #[.int .u8 35, .int .i64 p, .int .i64 n, .string noBytes, .string noBytes, .slice none 0 0] 44)) (.num p n) (.pointer (some ⟨b, 0, none⟩)) := by
  subst hn
  unfold IsNode
  exact ⟨w.heap.size, _, rfl, hb, cells_new, .inl ⟨rfl, rfl⟩⟩

section
variable {s : ByteArray} {L : List Tok} {R bl cap base : Nat}

set_option maxRecDepth 1000000 in
set_option maxHeartbeats 2000000 in
theorem minus_of (hE : Ends L) (hG : Good s L) {N : Nat} (hmin : Con s L R bl cap base 140 .minus N) (hcho : Con s L R bl cap base 26 .choice N) (hcal : ConCall s L R bl cap base (N + 1)) :
    Con s L R bl cap base 140 .minus (N + 1) := by
  intro w I hI hN hst
  have hm0 := st_kind hst hI
  have HM : Hid (Con s L R bl cap base 140 .minus N) := hmin
  have HC : Hid (Con s L R bl cap base 26 .choice N) := hcho
  have HCA : Hid (ConCall s L R bl cap base (N + 1)) := hcal
  have HE : Hid (Ends L) := hE
  have HG : Hid (Good s L) := hG
  have HS : Hid (St s L R bl cap base w I false) := hst
  have hlen := hst.len
  have lRw : R < w.heap.size := heap_lt hst.rd
  have c2 : w.cell? ⟨R, 2, none⟩ = some (.bool false) := cell_of_heap hst.rd rfl
  clear hmin hcho hcal hE hG hst
  have hcs : ((kd L I : Int) == 45) = true ∧ Hid (kd L I = 45) ∨ ((kd L I : Int) == 45) = false ∧ (((kd L I : Int) == 40) = true ∧ Hid (kd L I = 40) ∨ ((kd L I : Int) == 40) = false ∧ (((kd L I : Int) == 97) = true ∧ Hid (kd L I = 97) ∨ ((kd L I : Int) == 97) = false ∧ (Hid (kd L I = 110) ∨ Hid (¬ (kd L I = 45 ∨ kd L I = 40 ∨ kd L I = 97 ∨ kd L I = 110))))) := by
    by_cases h1 : kd L I = 45
    · exact .inl ⟨by simp [h1], h1⟩
    · refine .inr ⟨by simp; omega, ?_⟩
      by_cases h2 : kd L I = 40
      · exact .inl ⟨by simp [h2], h2⟩
      · refine .inr ⟨by simp; omega, ?_⟩
        by_cases h3 : kd L I = 97
        · exact .inl ⟨by simp [h3], h3⟩
        · refine .inr ⟨by simp; omega, ?_⟩
          by_cases h4 : kd L I = 110
          · exact .inl h4
          · exact .inr (by show ¬ _; omega)
  go_enter Tryz.func140, Tryz.ntmps140
  go_wp2_with fail
  refine hm0.mono ?_
  rintro e w1 ⟨rfl, q, rfl⟩
  clear hm0
  rcases hcs with ⟨h1, HQ⟩ | ⟨h1, ⟨h2, HQ⟩ | ⟨h2, ⟨h3, HQ⟩ | ⟨h3, HQ⟩⟩⟩
  · have hI1 : I + 1 < L.length := HE.out.next hI (by have := HQ.out; omega) (by have := HQ.out; omega)
    go_wp2_with fail
    refine (st_take_hit (HS.out.drewN q) hI (k := 45) HQ.out).mono ?_
    rintro e w3 ⟨rfl, hs3, hk3⟩
    have HK3 : Hid (Keep R w w3) := ((Keep.refl R w).drewN q).trans hk3
    have HS3 : Hid (St s L R bl cap base w3 (I + 1) false) := hs3
    have lR : R < w3.heap.size := heap_lt hs3.rd
    clear hs3 hk3
    go_wp2_with fail
    refine (HM.out _ (I + 1) hI1 (by omega) (HS3.out.alloc _)).mono ?_
    rintro e w5 ⟨o, va, rfl, hD5, hk5, ha5⟩
    have c5 : w5.cell? ⟨w3.heap.size, 1, none⟩ = some (.int .i64 (pl L I)) := hk5.cell (World.cell?_alloc_at (w := w3) _ _ _ _ rfl) (by simp; omega)
    have HD5 : Hid (D s L .minus (I + 1) o) := hD5
    have HK5 : Hid (Keep R w w5) := (HK3.out.alloc _).trans hk5
    have HA5 : Hid (After s L R bl cap base (w3.heap.size + 1) w5 o (.pointer va)) := by simp at ha5; exact ha5
    clear hD5 hk5 ha5
    go_wp2_with fail
    go_ret
    cases o with
    | ok ts K =>
      obtain ⟨g1, g2, b, rfl, g4⟩ := HA5.out
      exact ⟨.ok [.neg (pl L I) b] K, _, rfl, .ngGo HQ.out HD5.out, (HK5.out.alloc _).alloc _, (g1.alloc _).alloc _, g2, _, rfl, node_one (by have := HK5.out.size; omega) lRw (g4.kept (Keep.refl R w5) (by omega) (by have := HK3.out.size; omega))⟩
    | bad K => exact ⟨.bad K, _, rfl, .ngBad HQ.out HD5.out, (HK5.out.alloc _).alloc _, (HA5.out.1.alloc _).alloc _, HA5.out.2⟩
  · have hI1 : I + 1 < L.length := HE.out.next hI (by have := HQ.out; omega) (by have := HQ.out; omega)
    go_wp2_with fail
    refine (st_take_hit (HS.out.drewN q) hI (k := 40) HQ.out).mono ?_
    rintro e w3 ⟨rfl, hs3, hk3⟩
    have HK3 : Hid (Keep R w w3) := ((Keep.refl R w).drewN q).trans hk3
    have HS3 : Hid (St s L R bl cap base w3 (I + 1) false) := hs3
    clear hs3 hk3
    go_wp2_with fail
    refine (HC.out _ (I + 1) hI1 (by omega) HS3.out).mono ?_
    rintro e w5 ⟨o, va, rfl, hD5, hk5, ha5⟩
    have HD5 : Hid (D s L .choice (I + 1) o) := hD5
    have HK5 : Hid (Keep R w w5) := HK3.out.trans hk5
    clear hD5 hk5
    cases o with
    | bad K =>
      obtain ⟨hs5, hK⟩ := ha5
      have HS5 : Hid (St s L R bl cap base w5 K true) := hs5
      clear hs5
      go_wp2_with fail
      refine (st_take_bad HS5.out hK 41).mono ?_
      rintro e w6 ⟨rfl, hs6, hk6⟩
      have HS6 : Hid (St s L R bl cap base w6 K true) := hs6
      have HK6 : Hid (Keep R w w6) := HK5.out.trans hk6
      clear hs6 hk6
      go_wp2
      go_ret
      exact ⟨.bad K, _, rfl, .paBad HQ.out HD5.out, HK6.out, HS6.out, hK⟩
    | ok ts K =>
      obtain ⟨hs5, hK, b, rfl, hn5⟩ := ha5
      have HS5 : Hid (St s L R bl cap base w5 K false) := hs5
      have HN5 : Hid (IsNode (From w.heap.size) w5 b (.pointer va)) := hn5.kept (Keep.refl R w5) (heap_lt HS3.out.rd) HK3.out.size
      clear hs5 hn5
      by_cases hc : kd L K = 41
      · have HP : Hid (kd L K = 41) := hc
        clear hc
        have hK1 : K + 1 < L.length := HE.out.next hK (by have := HP.out; omega) (by have := HP.out; omega)
        go_wp2_with fail
        refine (st_take_hit HS5.out hK (k := 41) HP.out).mono ?_
        rintro e w6 ⟨rfl, hs6, hk6⟩
        have HS6 : Hid (St s L R bl cap base w6 (K + 1) false) := hs6
        have HK6 : Hid (Keep R w w6) := HK5.out.trans hk6
        have HN6 : Hid (IsNode (From w.heap.size) w6 b (.pointer va)) := HN5.out.kept hk6 lRw (Nat.le_refl _)
        clear hs6 hk6
        go_wp2
        go_ret
        exact ⟨.ok [b] (K + 1), _, rfl, .paGo HQ.out HD5.out HP.out, HK6.out, HS6.out, hK1, b, rfl, HN6.out⟩
      · have HP : Hid (kd L K ≠ 41) := hc
        clear hc
        go_wp2_with fail
        refine (st_take_miss HS5.out hK (k := 41) HP.out).mono ?_
        rintro e w6 ⟨rfl, hs6, hk6⟩
        have HS6 : Hid (St s L R bl cap base w6 K true) := hs6
        have HK6 : Hid (Keep R w w6) := HK5.out.trans hk6
        clear hs6 hk6
        go_wp2
        go_ret
        exact ⟨.bad K, _, rfl, .paB1 HQ.out HD5.out HP.out, HK6.out, HS6.out, hK⟩
  · go_wp2_with fail
    refine (HCA.out _ I hI hN HQ.out (HS.out.drewN q)).mono ?_
    rintro e w5 ⟨o, va, rfl, hD5, hk5, ha5⟩
    have HD5 : Hid (D s L .minus I o) := hD5
    have HK5 : Hid (Keep R w w5) := ((Keep.refl R w).drewN q).trans hk5
    have HA5 : Hid (After s L R bl cap base w.heap.size w5 o (.pointer va)) := ha5
    clear hD5 hk5 ha5
    go_wp2
    go_ret
    exact ⟨o, _, rfl, HD5.out, HK5.out, HA5.out⟩
  · rcases HQ with HQ | HQ
    · have hI1 : I + 1 < L.length := HE.out.next hI (by have := HQ.out; omega) (by have := HQ.out; omega)
      have hdg := HG.out I hI HQ.out
      go_wp2_with fail
      refine (st_take_hit (HS.out.drewN q) hI (k := 110) HQ.out).mono ?_
      rintro e w3 ⟨rfl, hs3, hk3⟩
      have HK3 : Hid (Keep R w w3) := ((Keep.refl R w).drewN q).trans hk3
      have HS3 : Hid (St s L R bl cap base w3 (I + 1) false) := hs3
      clear hs3 hk3
      go_wp2_with (first | (go_at_call 176; refine (ref_number _ _ hdg.1 hdg.2).mono ?_; rintro e w' ⟨rfl, hw⟩; have hw := hw.symm; subst hw))
      go_ret
      exact ⟨.ok [.num (pl L I) (numOf (tx s L I).data.toList)] (I + 1), _, rfl, .nuGo HQ.out, (HK3.out.alloc _).alloc _, (HS3.out.alloc _).alloc _, hI1, _, rfl, node_num (by have := HK3.out.size; simp; omega) (by simp)⟩
    · go_wp2_with fail
      refine (st_take_miss (HS.out.drewN q) hI (k := 110) (by have := HQ.out; omega)).mono ?_
      rintro e w3 ⟨rfl, hs3, hk3⟩
      have HK3 : Hid (Keep R w w3) := ((Keep.refl R w).drewN q).trans hk3
      have HS3 : Hid (St s L R bl cap base w3 I true) := hs3
      clear hs3 hk3
      go_wp2_with (first | (go_at_call 176; refine (ref_number _ _ digits_none.1 digits_none.2).mono ?_; rintro e w' ⟨rfl, hw⟩; have hw := hw.symm; subst hw))
      go_ret
      exact ⟨.bad I, _, rfl, .noGo HQ.out, (HK3.out.alloc _).alloc _, (HS3.out.alloc _).alloc _, hI⟩
end
end Go.Proofs.YtihmgoahobbdkaaGreatDoor
