/-
  THE REFERENCE's product (and, by the same walk, sum), WALKED.
-/
import Derived.Test.YtihmgoahobbdkaaGreatDoorJE5
namespace Go.Proofs.YtihmgoahobbdkaaGreatDoor
open Go.RowKit Go.Lib

/-- How far a reader has to go. -/
def rdLeft (w : World) (R n : Nat) : Nat :=
  match w.heap[R]? with
  | some (.cells cs _ _) =>
    match (cs[2]? : Option Value), (cs[1]? : Option Value) with
    | some (Value.bool false), some (Value.int _ i) => n + 1 - i.toNat
    | _, _ => 0
  | _ => 0
theorem rdLeft_good {w : World} {R bl n cap I m : Nat} (h : RdAt w R bl n cap I false) : rdLeft w R m = m + 1 - I := by
  unfold rdLeft
  rw [h]
  simp
theorem rdLeft_bad {w : World} {R bl n cap I m : Nat} (h : RdAt w R bl n cap I true) : rdLeft w R m = 0 := by
  unfold rdLeft
  rw [h]
  rfl

section
variable (s : ByteArray) (L : List Tok) (R bl cap base : Nat)
def After (lo : Nat) (w : World) (o : Out) (v : Value) : Prop :=
  match o with
  | .ok ts J => St s L R bl cap base w J false ∧ J < L.length ∧ ∃ t, ts = [t] ∧ IsNode (From lo) w t v
  | .bad J => St s L R bl cap base w J true ∧ J < L.length
/-- What a call of one of the reader's functions does: it reads at its level. -/
def Con (f : Nat) (v : Lvl) (N : Nat) : Prop :=
  ∀ (w : World) (I : Nat), I < L.length → L.length - I ≤ N → St s L R bl cap base w I false →
    Calls Tryz.prog f #[.pointer (some ⟨R, 0, none⟩)] w fun e w' => ∃ (o : Out) (pa : Option Addr), e = .returned (.pointer pa) ∧ D s L v I o ∧ Keep R w w' ∧ After s L R bl cap base w.heap.size w' o (.pointer pa)
end
/-- The list of tokens ends in the one token that is no part of a policy. -/
def Ends (L : List Tok) : Prop := ∃ m, L.length = m + 1 ∧ (L.getD m default).last = true
theorem Ends.next {L : List Tok} (h : Ends L) {i : Nat} (hi : i < L.length) (h1 : kd L i ≠ 101) (h2 : kd L i ≠ 33) : i + 1 < L.length := by
  obtain ⟨m, hm, hl⟩ := h
  rcases Nat.lt_or_ge i m with h' | h'
  · omega
  · obtain rfl : i = m := by omega
    simp [Tok.last] at hl
    rcases hl with hl | hl
    · exact absurd hl h1
    · exact absurd hl h2
theorem Ends.at_lt {s : ByteArray} {L : List Tok} (h : Ends L) {v : Lvl} {I : Nat} {o : Out} (hd : D s L v I o) (hI : I < L.length) : I ≤ o.at ∧ o.at < L.length := by
  obtain ⟨m, hm, hl⟩ := h
  have := hd.le hm hl (by omega)
  omega

/-- Whatever is read whole takes a token. -/
theorem read_lt {s : ByteArray} {L : List Tok} {v : Lvl} {I J : Nat} {ts : List Tree} (h : D s L v I (.ok ts J)) (hv : v.tail = false) : I < J := h.grow.2 hv rfl

theorem cells_new {w : World} {cs : Array Value} {t : TypeId} : (w.alloc (.cells cs t)).heap[w.heap.size]? = some (.cells cs t (0, 0)) := heap_alloc_new w _

theorem moves_new {lo R : Nat} {w : World} (o o' : Obj) (hR : R < lo) : Moves (From lo) (From lo) w ((w.alloc o).alloc o') := fun b hb hs => ⟨hb, (((Keep.refl R w).alloc o).alloc o').block b hs (fun e => by have hb : lo ≤ b := hb; omega)⟩
/-- A node of two parts that has just been made. -/
theorem node_two {lo R : Nat} {w : World} {va vb : Value} {k p : Nat} {a b : Tree} (hb : lo ≤ w.heap.size) (hR : R < lo) (ha : IsNode (From lo) w a va) (hb' : IsNode (From lo) w b vb) :
    IsNode (From lo) ((w.alloc (.cells #[va, vb] 26)).alloc (.cells #[.int .u8 k, .int .i64 p, .int .i64 0, .string noBytes, .string noBytes, .slice (some ⟨w.heap.size, 0, none⟩) 2 2] 44)) (.bin k p a b) (.pointer (some ⟨w.heap.size + 1, 0, none⟩)) := by
  unfold IsNode
  refine ⟨va, vb, ⟨w.heap.size + 1, _, rfl, by show lo ≤ _; omega, ?_, .inr ⟨w.heap.size, 2, #[va, vb], rfl, hb, heap_alloc_old cells_new, by simp, by unfold maxLen; omega, rfl, rfl⟩⟩, ha.moves (moves_new _ _ hR), hb'.moves (moves_new _ _ hR)⟩
  have := cells_new (w := w.alloc (.cells #[va, vb] 26)) (cs := #[.int .u8 k, .int .i64 p, .int .i64 0, .string noBytes, .string noBytes, .slice (some ⟨w.heap.size, 0, none⟩) 2 2]) (t := 44)
  simpa using this

section
variable {s : ByteArray} {L : List Tok} {R bl cap base : Nat}

set_option maxRecDepth 1000000 in
set_option maxHeartbeats 2000000 in
theorem product_of (hE : Ends L) {N : Nat} (hmin : Con s L R bl cap base 140 .minus N) : Con s L R bl cap base 105 .prod N := by
  intro w I hI hN hst
  have hm0 := hmin w I hI hN hst
  have HM : Hid (Con s L R bl cap base 140 .minus N) := hmin
  have HE : Hid (Ends L) := hE
  have hlen := hst.len
  have lRw : R < w.heap.size := heap_lt hst.rd
  clear hmin hE
  go_enter Tryz.func105, Tryz.ntmps105
  go_wp2_with fail
  refine hm0.mono ?_
  rintro e w1 ⟨o, va, rfl, hD, hk, ha⟩
  clear hm0
  have HD : Hid (D s L .minus I o) := hD
  have HK : Hid (Keep R w w1) := hk
  have HA : Hid (After s L R bl cap base w.heap.size w1 o (.pointer va)) := ha
  have HS : Hid (St s L R bl cap base w I false) := hst
  clear hD hk ha hst
  go_wp2_with fail
  go_loopw [3] (fun v wr => ∃ pa : Option Addr, v = .pointer pa ∧ Hid (Keep R w wr) ∧ ((∃ (J : Nat) (t : Tree), Hid (St s L R bl cap base wr J false) ∧ J < L.length ∧ Hid (I < J) ∧ Hid (IsNode (From w.heap.size) wr t (.pointer pa)) ∧ Hid (∀ o, D s L (.prodT t) J o → D s L .prod I o)) ∨ (∃ J : Nat, Hid (St s L R bl cap base wr J true) ∧ J < L.length ∧ Hid (D s L .prod I (.bad J)))))
    (fun _ wr => rdLeft wr R L.length)
  case atStart =>
    refine ⟨va, rfl, HK, ?_⟩
    cases o with
    | ok ts J =>
      obtain ⟨h1, h2, t, rfl, h4⟩ := HA.out
      exact .inl ⟨J, t, h1, h2, read_lt HD.out rfl, h4, fun o ho => .prGo HD.out ho⟩
    | bad J => exact .inr ⟨J, HA.out.1, HA.out.2, .prBad HD.out⟩
  case round =>
    obtain ⟨pa, rfl, HK1, hrel⟩ := hrel
    rcases hrel with ⟨J, t, HS1, hJ, HJ, HN, HC⟩ | ⟨J, HS1, hJ, HB⟩
    · have c2 : wr.cell? ⟨R, 2, none⟩ = some (.bool false) := cell_of_heap HS1.out.rd rfl
      have hcs : (((kd L J : Int) != 42) = true ∧ ((kd L J : Int) != 47) = true ∧ Hid (¬ (kd L J = 42 ∨ kd L J = 47))) ∨ ((((kd L J : Int) != 42) = false ∨ (((kd L J : Int) != 42) = true ∧ ((kd L J : Int) != 47) = false)) ∧ Hid (kd L J = 42 ∨ kd L J = 47)) := by
        by_cases h1 : kd L J = 42
        · exact .inr ⟨.inl (by simp [h1]), .inl h1⟩
        · by_cases h2 : kd L J = 47
          · exact .inr ⟨.inr ⟨by simp; omega, by simp [h2]⟩, .inr h2⟩
          · exact .inl ⟨by simp; omega, by simp; omega, by show ¬ _; omega⟩
      go_wp2_with fail
      refine (st_kind HS1.out hJ).mono ?_
      rintro e w2 ⟨rfl, q, rfl⟩
      rcases hcs with ⟨h1, h2, HQ⟩ | ⟨hcs, HQ⟩
      · go_wp2
        go_ret
        exact ⟨.ok [t] J, _, rfl, HC.out _ (.ptEnd HQ.out), HK1.out.drewN q, HS1.out.drewN q, hJ, t, rfl, HN.out.kept ((Keep.refl R wr).drewN q) lRw (Nat.le_refl _)⟩
      have hJ1 : J + 1 < L.length := HE.out.next hJ (by have := HQ.out; omega) (by have := HQ.out; omega)
      have htk := st_take_hit (HS1.out.drewN q) hJ (k := kd L J) rfl
      rcases hcs with h1 | ⟨h1, h2⟩
      all_goals
        go_wp2_with fail
        refine htk.mono ?_
        rintro e w3 ⟨rfl, hs3, hk3⟩
        have HKA : Hid (Keep R wr w3) := ((Keep.refl R wr).drewN q).trans hk3
        have HS3 : Hid (St s L R bl cap base w3 (J + 1) false) := hs3
        have sz3 := hs3.size
        have lR : R < w3.heap.size := heap_lt hs3.rd
        clear hs3 hk3
        go_wp2_with fail
        refine (HM.out _ (J + 1) hJ1 (by have := HJ.out; omega) (HS3.out.alloc _)).mono ?_
        rintro e w5 ⟨o, vb, rfl, hD5, hk5, ha5⟩
        have c5 : w5.cell? ⟨w3.heap.size, 1, none⟩ = some (.int .i64 (pl L J)) := hk5.cell (World.cell?_alloc_at (w := w3) _ _ _ _ rfl) (by simp; omega)
        have HD5 : Hid (D s L .minus (J + 1) o) := hD5
        have HK5 : Hid (Keep R wr w5) := (HKA.out.alloc _).trans hk5
        have HA5 : Hid (After s L R bl cap base (w3.heap.size + 1) w5 o (.pointer vb)) := by simp at ha5; exact ha5
        clear hD5 hk5 ha5
        go_wp2_with fail
        go_roundw
        case rel =>
          refine ⟨_, rfl, (HK1.out.trans HK5.out |>.alloc _).alloc _, ?_⟩
          cases o with
          | ok ts K =>
            obtain ⟨g1, g2, b, rfl, g4⟩ := HA5.out
            have hle := HE.out.at_lt HD5.out hJ1
            refine .inl ⟨K, .bin (kd L J) (pl L J) t b, (g1.alloc _).alloc _, g2, ?_, node_two (by have := HK1.out.size; have := HK5.out.size; omega) lRw (HN.out.kept HK5.out lRw (Nat.le_refl _)) (g4.kept (Keep.refl R w5) (by omega) (by have := HK1.out.size; have := HKA.out.size; omega)), fun o ho => HC.out _ (.ptGo HQ.out HD5.out ho)⟩
            have := HJ.out
            simp [Out.at] at hle
            show _ < _
            omega
          | bad K => exact .inr ⟨K, (HA5.out.1.alloc _).alloc _, HA5.out.2, HC.out _ (.ptBad HQ.out HD5.out)⟩
        case measure =>
          rw [rdLeft_good HS1.out.rd]
          cases o with
          | ok ts K =>
            obtain ⟨g1, g2, b, rfl, g4⟩ := HA5.out
            have hle := HE.out.at_lt HD5.out hJ1
            rw [rdLeft_good (((g1.alloc _).alloc _).rd)]
            simp [Out.at] at hle
            omega
          | bad K =>
            rw [rdLeft_bad (((HA5.out.1.alloc _).alloc _).rd)]
            omega
    · have c2 : wr.cell? ⟨R, 2, none⟩ = some (.bool true) := cell_of_heap HS1.out.rd rfl
      go_wp2
      go_ret
      exact ⟨.bad J, _, rfl, HB.out, HK1.out, HS1.out, hJ⟩
end
end Go.Proofs.YtihmgoahobbdkaaGreatDoor
namespace Go.Proofs.YtihmgoahobbdkaaGreatDoor
open Go.RowKit Go.Lib

section
variable {s : ByteArray} {L : List Tok} {R bl cap base : Nat}

set_option maxRecDepth 1000000 in
set_option maxHeartbeats 2000000 in
theorem sum_of (hE : Ends L) {N : Nat} (hprod : Con s L R bl cap base 105 .prod N) : Con s L R bl cap base 74 .sum N := by
  intro w I hI hN hst
  have hm0 := hprod w I hI hN hst
  have HM : Hid (Con s L R bl cap base 105 .prod N) := hprod
  have HE : Hid (Ends L) := hE
  have hlen := hst.len
  have lRw : R < w.heap.size := heap_lt hst.rd
  clear hprod hE
  go_enter Tryz.func74, Tryz.ntmps74
  go_wp2_with fail
  refine hm0.mono ?_
  rintro e w1 ⟨o, va, rfl, hD, hk, ha⟩
  clear hm0
  have HD : Hid (D s L .prod I o) := hD
  have HK : Hid (Keep R w w1) := hk
  have HA : Hid (After s L R bl cap base w.heap.size w1 o (.pointer va)) := ha
  have HS : Hid (St s L R bl cap base w I false) := hst
  clear hD hk ha hst
  go_wp2_with fail
  go_loopw [3] (fun v wr => ∃ pa : Option Addr, v = .pointer pa ∧ Hid (Keep R w wr) ∧ ((∃ (J : Nat) (t : Tree), Hid (St s L R bl cap base wr J false) ∧ J < L.length ∧ Hid (I < J) ∧ Hid (IsNode (From w.heap.size) wr t (.pointer pa)) ∧ Hid (∀ o, D s L (.sumT t) J o → D s L .sum I o)) ∨ (∃ J : Nat, Hid (St s L R bl cap base wr J true) ∧ J < L.length ∧ Hid (D s L .sum I (.bad J)))))
    (fun _ wr => rdLeft wr R L.length)
  case atStart =>
    refine ⟨va, rfl, HK, ?_⟩
    cases o with
    | ok ts J =>
      obtain ⟨h1, h2, t, rfl, h4⟩ := HA.out
      exact .inl ⟨J, t, h1, h2, read_lt HD.out rfl, h4, fun o ho => .suGo HD.out ho⟩
    | bad J => exact .inr ⟨J, HA.out.1, HA.out.2, .suBad HD.out⟩
  case round =>
    obtain ⟨pa, rfl, HK1, hrel⟩ := hrel
    rcases hrel with ⟨J, t, HS1, hJ, HJ, HN, HC⟩ | ⟨J, HS1, hJ, HB⟩
    · have c2 : wr.cell? ⟨R, 2, none⟩ = some (.bool false) := cell_of_heap HS1.out.rd rfl
      have hcs : (((kd L J : Int) != 43) = true ∧ ((kd L J : Int) != 45) = true ∧ Hid (¬ (kd L J = 43 ∨ kd L J = 45))) ∨ ((((kd L J : Int) != 43) = false ∨ (((kd L J : Int) != 43) = true ∧ ((kd L J : Int) != 45) = false)) ∧ Hid (kd L J = 43 ∨ kd L J = 45)) := by
        by_cases h1 : kd L J = 43
        · exact .inr ⟨.inl (by simp [h1]), .inl h1⟩
        · by_cases h2 : kd L J = 45
          · exact .inr ⟨.inr ⟨by simp; omega, by simp [h2]⟩, .inr h2⟩
          · exact .inl ⟨by simp; omega, by simp; omega, by show ¬ _; omega⟩
      go_wp2_with fail
      refine (st_kind HS1.out hJ).mono ?_
      rintro e w2 ⟨rfl, q, rfl⟩
      rcases hcs with ⟨h1, h2, HQ⟩ | ⟨hcs, HQ⟩
      · go_wp2
        go_ret
        exact ⟨.ok [t] J, _, rfl, HC.out _ (.stEnd HQ.out), HK1.out.drewN q, HS1.out.drewN q, hJ, t, rfl, HN.out.kept ((Keep.refl R wr).drewN q) lRw (Nat.le_refl _)⟩
      have hJ1 : J + 1 < L.length := HE.out.next hJ (by have := HQ.out; omega) (by have := HQ.out; omega)
      have htk := st_take_hit (HS1.out.drewN q) hJ (k := kd L J) rfl
      rcases hcs with h1 | ⟨h1, h2⟩
      all_goals
        go_wp2_with fail
        refine htk.mono ?_
        rintro e w3 ⟨rfl, hs3, hk3⟩
        have HKA : Hid (Keep R wr w3) := ((Keep.refl R wr).drewN q).trans hk3
        have HS3 : Hid (St s L R bl cap base w3 (J + 1) false) := hs3
        have sz3 := hs3.size
        have lR : R < w3.heap.size := heap_lt hs3.rd
        clear hs3 hk3
        go_wp2_with fail
        refine (HM.out _ (J + 1) hJ1 (by have := HJ.out; omega) (HS3.out.alloc _)).mono ?_
        rintro e w5 ⟨o, vb, rfl, hD5, hk5, ha5⟩
        have c5 : w5.cell? ⟨w3.heap.size, 1, none⟩ = some (.int .i64 (pl L J)) := hk5.cell (World.cell?_alloc_at (w := w3) _ _ _ _ rfl) (by simp; omega)
        have HD5 : Hid (D s L .prod (J + 1) o) := hD5
        have HK5 : Hid (Keep R wr w5) := (HKA.out.alloc _).trans hk5
        have HA5 : Hid (After s L R bl cap base (w3.heap.size + 1) w5 o (.pointer vb)) := by simp at ha5; exact ha5
        clear hD5 hk5 ha5
        go_wp2_with fail
        go_roundw
        case rel =>
          refine ⟨_, rfl, (HK1.out.trans HK5.out |>.alloc _).alloc _, ?_⟩
          cases o with
          | ok ts K =>
            obtain ⟨g1, g2, b, rfl, g4⟩ := HA5.out
            have hle := HE.out.at_lt HD5.out hJ1
            refine .inl ⟨K, .bin (kd L J) (pl L J) t b, (g1.alloc _).alloc _, g2, ?_, node_two (by have := HK1.out.size; have := HK5.out.size; omega) lRw (HN.out.kept HK5.out lRw (Nat.le_refl _)) (g4.kept (Keep.refl R w5) (by omega) (by have := HK1.out.size; have := HKA.out.size; omega)), fun o ho => HC.out _ (.stGo HQ.out HD5.out ho)⟩
            have := HJ.out
            simp [Out.at] at hle
            show _ < _
            omega
          | bad K => exact .inr ⟨K, (HA5.out.1.alloc _).alloc _, HA5.out.2, HC.out _ (.stBad HQ.out HD5.out)⟩
        case measure =>
          rw [rdLeft_good HS1.out.rd]
          cases o with
          | ok ts K =>
            obtain ⟨g1, g2, b, rfl, g4⟩ := HA5.out
            have hle := HE.out.at_lt HD5.out hJ1
            rw [rdLeft_good (((g1.alloc _).alloc _).rd)]
            simp [Out.at] at hle
            omega
          | bad K =>
            rw [rdLeft_bad (((HA5.out.1.alloc _).alloc _).rd)]
            omega
    · have c2 : wr.cell? ⟨R, 2, none⟩ = some (.bool true) := cell_of_heap HS1.out.rd rfl
      go_wp2
      go_ret
      exact ⟨.bad J, _, rfl, HB.out, HK1.out, HS1.out, hJ⟩
end
end Go.Proofs.YtihmgoahobbdkaaGreatDoor
namespace Go.Proofs.YtihmgoahobbdkaaGreatDoor
open Go.RowKit Go.Lib

/-- A choice that has just been made. -/
theorem node_three {lo R : Nat} {w : World} {va vb vc : Value} {p : Nat} {a b c : Tree} (hb : lo ≤ w.heap.size) (hR : R < lo) (ha : IsNode (From lo) w a va) (hb' : IsNode (From lo) w b vb) (hc : IsNode (From lo) w c vc) :
    IsNode (From lo) ((w.alloc (.cells #[va, vb, vc] 26)).alloc (.cells #[.int .u8 63, .int .i64 p, .int .i64 0, .string noBytes, .string noBytes, .slice (some ⟨w.heap.size, 0, none⟩) 3 3] 44)) (.ite p a b c) (.pointer (some ⟨w.heap.size + 1, 0, none⟩)) := by
  unfold IsNode
  refine ⟨va, vb, vc, ⟨w.heap.size + 1, _, rfl, by show lo ≤ _; omega, ?_, .inr ⟨w.heap.size, 3, #[va, vb, vc], rfl, hb, heap_alloc_old cells_new, by simp, by unfold maxLen; omega, rfl, rfl⟩⟩, ha.moves (moves_new _ _ hR), hb'.moves (moves_new _ _ hR), hc.moves (moves_new _ _ hR)⟩
  have := cells_new (w := w.alloc (.cells #[va, vb, vc] 26)) (cs := #[.int .u8 63, .int .i64 p, .int .i64 0, .string noBytes, .string noBytes, .slice (some ⟨w.heap.size, 0, none⟩) 3 3]) (t := 44)
  simpa using this

section
variable {s : ByteArray} {L : List Tok} {R bl cap base : Nat}

set_option maxRecDepth 1000000 in
set_option maxHeartbeats 2000000 in
theorem compare_of (hE : Ends L) {N : Nat} (hsum : Con s L R bl cap base 74 .sum N) : Con s L R bl cap base 46 .compare N := by
  intro w I hI hN hst
  have hm0 := hsum w I hI hN hst
  have HM : Hid (Con s L R bl cap base 74 .sum N) := hsum
  have HE : Hid (Ends L) := hE
  have hlen := hst.len
  have lRw : R < w.heap.size := heap_lt hst.rd
  clear hsum hE
  go_enter Tryz.func46, Tryz.ntmps46
  go_wp2_with fail
  refine hm0.mono ?_
  rintro e w1 ⟨o, va, rfl, hD, hk, ha⟩
  clear hm0 hst
  have HD : Hid (D s L .sum I o) := hD
  have HK : Hid (Keep R w w1) := hk
  cases o with
  | bad J =>
    obtain ⟨hs1, hJ⟩ := ha
    have HS1 : Hid (St s L R bl cap base w1 J true) := hs1
    have c2 : w1.cell? ⟨R, 2, none⟩ = some (.bool true) := cell_of_heap hs1.rd rfl
    clear hD hk hs1
    go_wp2_with fail
    refine (st_kind HS1.out hJ).mono ?_
    rintro e w2 ⟨rfl, q, rfl⟩
    go_wp2
    go_ret
    exact ⟨.bad J, _, rfl, .cmBad HD.out, HK.out.drewN q, HS1.out.drewN q, hJ⟩
  | ok ts J =>
    obtain ⟨hs1, hJ, t, rfl, hn⟩ := ha
    have HS1 : Hid (St s L R bl cap base w1 J false) := hs1
    have HN1 : Hid (IsNode (From w.heap.size) w1 t (.pointer va)) := hn
    have c2 : w1.cell? ⟨R, 2, none⟩ = some (.bool false) := cell_of_heap hs1.rd rfl
    clear hD hk hs1 hn
    have hcs : (((kd L J : Int) != 60) = true ∧ ((kd L J : Int) != 62) = true ∧ ((kd L J : Int) != 61) = true ∧ Hid (¬ (kd L J = 60 ∨ kd L J = 62 ∨ kd L J = 61))) ∨
        ((((kd L J : Int) != 60) = false ∨ (((kd L J : Int) != 60) = true ∧ ((kd L J : Int) != 62) = false) ∨ (((kd L J : Int) != 60) = true ∧ ((kd L J : Int) != 62) = true ∧ ((kd L J : Int) != 61) = false)) ∧ Hid (kd L J = 60 ∨ kd L J = 62 ∨ kd L J = 61)) := by
      by_cases h1 : kd L J = 60
      · exact .inr ⟨.inl (by simp [h1]), .inl h1⟩
      · by_cases h2 : kd L J = 62
        · exact .inr ⟨.inr (.inl ⟨by simp; omega, by simp [h2]⟩), .inr (.inl h2)⟩
        · by_cases h3 : kd L J = 61
          · exact .inr ⟨.inr (.inr ⟨by simp; omega, by simp; omega, by simp [h3]⟩), .inr (.inr h3)⟩
          · exact .inl ⟨by simp; omega, by simp; omega, by simp; omega, by show ¬ _; omega⟩
    go_wp2_with fail
    refine (st_kind HS1.out hJ).mono ?_
    rintro e w2 ⟨rfl, q, rfl⟩
    rcases hcs with ⟨h1, h2, h3, HQ⟩ | ⟨hcs, HQ⟩
    · go_wp2
      go_ret
      exact ⟨.ok [t] J, _, rfl, .cmOne HD.out HQ.out, HK.out.drewN q, HS1.out.drewN q, hJ, t, rfl, HN1.out.kept ((Keep.refl R w1).drewN q) lRw (Nat.le_refl _)⟩
    have hJ1 : J + 1 < L.length := HE.out.next hJ (by have := HQ.out; omega) (by have := HQ.out; omega)
    have hIJ : I < J := read_lt HD.out rfl
    have htk := st_take_hit (HS1.out.drewN q) hJ (k := kd L J) rfl
    rcases hcs with h1 | ⟨h1, h2⟩ | ⟨h1, h2, h3⟩
    all_goals
      go_wp2_with fail
      refine htk.mono ?_
      rintro e w3 ⟨rfl, hs3, hk3⟩
      have HKA : Hid (Keep R w1 w3) := ((Keep.refl R w1).drewN q).trans hk3
      have HS3 : Hid (St s L R bl cap base w3 (J + 1) false) := hs3
      have sz3 := hs3.size
      have lR : R < w3.heap.size := heap_lt hs3.rd
      clear hs3 hk3
      go_wp2_with fail
      refine (HM.out _ (J + 1) hJ1 (by omega) (HS3.out.alloc _)).mono ?_
      rintro e w5 ⟨o, vb, rfl, hD5, hk5, ha5⟩
      have c5 : w5.cell? ⟨w3.heap.size, 1, none⟩ = some (.int .i64 (pl L J)) := hk5.cell (World.cell?_alloc_at (w := w3) _ _ _ _ rfl) (by simp; omega)
      have HD5 : Hid (D s L .sum (J + 1) o) := hD5
      have HK5 : Hid (Keep R w1 w5) := (HKA.out.alloc _).trans hk5
      have HA5 : Hid (After s L R bl cap base (w3.heap.size + 1) w5 o (.pointer vb)) := by simp at ha5; exact ha5
      clear hD5 hk5 ha5
      go_wp2_with fail
      go_ret
      cases o with
      | ok ts K =>
        obtain ⟨g1, g2, b, rfl, g4⟩ := HA5.out
        exact ⟨.ok [.bin (kd L J) (pl L J) t b] K, _, rfl, .cmTwo HD.out HQ.out HD5.out, ((HK.out.trans HK5.out).alloc _).alloc _, (g1.alloc _).alloc _, g2, _, rfl, node_two (by have := HK.out.size; have := HK5.out.size; omega) lRw (HN1.out.kept HK5.out lRw (Nat.le_refl _)) (g4.kept (Keep.refl R w5) (by omega) (by have := HK.out.size; have := HKA.out.size; omega))⟩
      | bad K => exact ⟨.bad K, _, rfl, .cmB1 HD.out HQ.out HD5.out, ((HK.out.trans HK5.out).alloc _).alloc _, (HA5.out.1.alloc _).alloc _, HA5.out.2⟩
end
end Go.Proofs.YtihmgoahobbdkaaGreatDoor
