/-
 THE REFERENCE's Tokens, WALKED.
-/
import Derived.Test.YtbokdbaagacnlaaGreatDoorJK5
import Derived.OwnWalk
namespace Go.Proofs.YtbokdbaagacnlaaGreatDoor
open Go.RowKit Go.Lib
theorem Tryz.infoTok : (Tryz.prog.info? 169).map (fun i => (i.zero, i.size, i.bytes)) = some (some (.agg #[.int .u8 0, .int .i64 0, .string { data := #[] }]), 3, 32) := by kernel_rfl
def tokCells (s : ByteArray) (t : Tok) : List Value := [.int .u8 t.kind, .int .i64 t.pos, .string (t.text s)]
def toksCells (s : ByteArray) (l : List Tok) : List Value := l.flatMap (tokCells s)
theorem toksCells_snoc (s : ByteArray) (l : List Tok) (t : Tok) : toksCells s (l ++ [t]) = toksCells s l ++ tokCells s t := by simp [toksCells]
theorem byteAt_get {s : ByteArray} {i : Nat} (h : i < s.size) : byteAt s i = s[i] := by
 unfold byteAt
 rw [byte_at h]
 rfl
theorem cell_three_new (w : World) (a b c : Value) (t : TypeId) : ∀ j u, [a, b, c][j]? = some u → (w.alloc (.cells #[a, b, c] t)).cell? ((⟨w.heap.size, 0, none⟩ : Addr).add j) = some u := by
 intro j u hj
 match j, hj with
 | 0, hj => simp at hj; subst hj; simp [Addr.add]
 | 1, hj => simp at hj; subst hj; simp [Addr.add]
 | 2, hj => simp at hj; subst hj; simp [Addr.add]
 | (j + 3), hj => simp at hj
theorem extract_nil (s : ByteArray) (i : Nat) : s.extract i i = { data := #[] } := by
 ext1
 simp
theorem sign_last {c : UInt8} {p q : Nat} (h : isSign c = true) : (⟨c.toNat, p, q⟩ : Tok).last = false := by
 rw [isSign_int] at h
 simp only [Bool.or_eq_true, beq_iff_eq] at h
 simp only [Tok.last, Bool.or_eq_false_iff, beq_eq_false_iff_ne]
 omega
set_option maxRecDepth 1000000 in
set_option maxHeartbeats 2000000 in
theorem ref_tokens (s : ByteArray) (hs : s.size ≤ 1000) (w : World) (hT : Tabs w) :
  Calls Tryz.prog 59 #[.string s] w fun e w' => ∃ v, e = .returned v ∧ w'.ownsRow w.heap.size 169 3 v (toks s).length (toksCells s (toks s)) ∧ Below w.heap.size w w' := by
 obtain ⟨i0, hi, hz0, hz1, hz2⟩ := info_parts Tryz.infoTok
 have HT : Hid (Tabs w) := hT
 clear hT
 go_enter Tryz.func59, Tryz.ntmps59
 go_wp2_with fail
 go_loopw [3, 4] (fun v vi wr => ∃ (i : Nat) (done : List Tok), i ≤ s.size ∧ vi = .int .i64 i ∧ wr.ownsRow w.heap.size 169 3 v done.length (toksCells s done) ∧ Hid (Below w.heap.size w wr) ∧ Hid (done ++ toksAt s i = toks s) ∧ done.length ≤ i)
                (fun _ vi _ => s.size - (intOf vi).toNat)
 case atStart => exact ⟨0, [], Nat.zero_le _, rfl, World.ownsRow_nil _ _ _ _, Below.refl _ _, rfl, Nat.zero_le _⟩
 case round =>
  obtain ⟨i, done, hi1, rfl, hown, HB, HS, hlen⟩ := hrel
  rcases Nat.lt_or_ge i s.size with h8 | h8
  ·have hg := byteAt_get h8
   have h63 : s.size ≤ 9223372036854775807 := by omega
   cases hb : blank (byteAt s i) with
   | true =>
    have HB' : Hid (done ++ toksAt s (i + 1) = toks s) := by
     rw [← toksAt_blank h8 hb]
     exact HS.out
    rw [hg] at hb
    have h3 : s[i].toNat = 32 ∨ s[i].toNat = 9 ∨ s[i].toNat = 10 := by
     simp only [blank, Bool.or_eq_true, beq_iff_eq, ← UInt8.toNat_inj] at hb
     rcases hb with (hb | hb) | hb
     ·exact .inl hb
     ·exact .inr (.inl hb)
     ·exact .inr (.inr hb)
    clear hg hb HS
    rcases h3 with h3 | h3 | h3
    all_goals
     go_wp2
     go_roundw
     case rel => exact ⟨i + 1, done, by omega, by go_num, hown, HB, HB', by omega⟩
     case measure => simp [intOf]; omega
   | false =>
    have h32 : ((s[i].toNat : Int) == 32) = false := by
     rw [hg] at hb
     simp only [blank, Bool.or_eq_false_iff, u8_beq] at hb
     exact hb.1.1
    have h9 : ((s[i].toNat : Int) == 9) = false := by
     rw [hg] at hb
     simp only [blank, Bool.or_eq_false_iff, u8_beq] at hb
     exact hb.1.2
    have h10 : ((s[i].toNat : Int) == 10) = false := by
     rw [hg] at hb
     simp only [blank, Bool.or_eq_false_iff, u8_beq] at hb
     exact hb.2
    have HF : Hid (tokFrom s i = tokAt s i) := by
     show tokAt s (skip s i) = _
     rw [skip_here hb]
    clear hb
    cases hsg : isSign s[i] with
    | true =>
     have ht : tokFrom s i = ⟨s[i].toNat, i, i + 1⟩ := by
      rw [HF.out, tokAt, if_neg (by omega), if_pos (by rw [hg]; exact hsg), hg]
     have hl : (tokFrom s i).last = false := by
      rw [ht]
      exact sign_last hsg
     have HS' : Hid ((done ++ [⟨s[i].toNat, i, i + 1⟩]) ++ toksAt s (i + 1) = toks s) := by
      show _ = _
      rw [← HS.out, toksAt_cons (by omega) hl, ht]
      simp
     clear ht hl HS hg HF
     have q1 : (0 : Int) ≤ (i : Int) := by omega
     have q2 : (i : Int) ≤ (i : Int) + 1 := by omega
     have q3 : (i : Int) + 1 ≤ (s.size : Int) := by omega
     go_wp2_with (first
      | (go_at_call 88; refine (ref_sign s[i] _).mono ?_; rintro e w' ⟨rfl, hw⟩; have hw := hw.symm; subst hw)
      | (at_builtin; refine wpList_append_own _ rfl _ _ 163 rfl w.heap.size 169 i0 (.agg #[.int .u8 0, .int .i64 0, .string { data := #[] }]) 3 32 Tryz.underlying163 hi hz0 hz1 hz2 rfl (by decide) _ _ _ rfl (hown.alloc _) ⟨wr.heap.size, 0, none⟩ 1 1 [.int .u8 s[i].toNat, .int .i64 i, .string (s.extract i (i + 1))] rfl rfl (cell_three_new _ _ _ _ _) (fun x hx => by simp at hx; rcases hx with rfl | rfl | rfl <;> rfl) (by unfold maxLen; omega) (by omega) (by have := HB.out.size; simp; omega) ?_; intro v' w3 hown' hgrow hnil))
     have hb3 : Below w.heap.size w w3 := Below.grown (HB.out.alloc HB.out.size _) hgrow (by have := HB.out.size; simp; omega) (fun j hj => (hown.lt _ hj).1)
     go_roundw
     case rel =>
      refine ⟨i + 1, done ++ [⟨s[i].toNat, i, i + 1⟩], by omega, by go_num, ?_, hb3, HS', by simp; omega⟩
      rw [List.length_append, List.length_singleton, toksCells_snoc]
      exact hown'
     case measure => simp [intOf]; omega
    | false =>
     go_wp2_with (first
      | (go_at_call 88; refine (ref_sign s[i] _).mono ?_; rintro e w' ⟨rfl, hw⟩; have hw := hw.symm; subst hw))
     go_loop [7] (fun v => ∃ j : Nat, i ≤ j ∧ j ≤ s.size ∧ v = .int .i64 j ∧ Hid (digFrom s (s.size - j) j = digEnd s i)) (fun v => s.size - (intOf v).toNat)
     case atStart => exact ⟨i, Nat.le_refl _, by omega, rfl, rfl⟩
     case round =>
      obtain ⟨j, hij, hjs, rfl, HD⟩ := hrel
      have hcase : (∃ h : j < s.size, (48 : Int) ≤ (s[j].toNat : Int) ∧ (s[j].toNat : Int) ≤ 57 ∧ Hid (digFrom s (s.size - (j + 1)) (j + 1) = digEnd s i)) ∨
        ((∃ h : j < s.size, ¬ (48 : Int) ≤ (s[j].toNat : Int)) ∨ (∃ h : j < s.size, (48 : Int) ≤ (s[j].toNat : Int) ∧ ¬ (s[j].toNat : Int) ≤ 57) ∨ j = s.size) ∧ Hid (digEnd s i = j) := by
       have e := HD.out
       rcases Nat.lt_or_ge j s.size with h | h
       ·obtain ⟨f, hf⟩ : ∃ f, s.size - j = f + 1 := ⟨s.size - j - 1, by omega⟩
        rw [hf, digFrom, byteAt_get h] at e
        by_cases h1 : (48 : Int) ≤ (s[j].toNat : Int)
        ·by_cases h2 : (s[j].toNat : Int) ≤ 57
         ·refine .inl ⟨h, h1, h2, ?_⟩
          rw [if_pos ⟨h, by simp [isDig]; omega⟩] at e
          show _ = _
          rw [← e]
          exact digFrom_fuel s _ _ _ (by omega) (by omega)
         ·refine .inr ⟨.inr (.inl ⟨h, h1, h2⟩), ?_⟩
          rw [if_neg (by simp [isDig]; omega)] at e
          exact e.symm
        ·refine .inr ⟨.inl ⟨h, h1⟩, ?_⟩
         rw [if_neg (by simp [isDig]; omega)] at e
         exact e.symm
       ·obtain rfl : j = s.size := by omega
        refine .inr ⟨.inr (.inr rfl), ?_⟩
        rw [Nat.sub_self] at e
        exact e.symm
      clear HD
      rcases hcase with ⟨h, h1, h2, HD⟩ | ⟨hcase, HE⟩
      ·go_wp2
       go_round
       case rel => exact ⟨j + 1, by omega, by omega, by go_num, HD⟩
       case measure => simp [intOf]; omega
      rcases hcase with ⟨h, h1⟩ | ⟨h, h1, h2⟩ | hj8
      rotate_left 2
      ·have h1 : ¬ ((j : Int) < (s.size : Int)) := by omega
       have hji : ¬ j = i := by omega
       clear hj8
       have HT1 := HT.out.below HB.out
       have hji' : ((j : Int) == (i : Int)) = false := by simp; omega
       have hj0 : (((j : Int) - (i : Int)) == 0) = false := by simp; omega
       have q1 : (0 : Int) ≤ (i : Int) := by omega
       have q2 : (i : Int) ≤ (j : Int) := by omega
       have q3 : (j : Int) ≤ (s.size : Int) := by omega
       by_cases h99 : j - i ≤ 9
       ·have ht : tokFrom s i = ⟨110, i, j⟩ := by
         rw [HF.out, tokAt, if_neg (by omega), if_neg (by rw [hg, hsg]; decide), HE.out, if_pos (by omega), if_pos h99]
        have HH : Hid (tokFrom s i = ⟨110, i, j⟩) := ht
        clear ht hg HF HT1
        have h9' : ¬ (9 : Int) < (j : Int) - (i : Int) := by omega
        go_wp2_with (first | (at_builtin; refine wpList_append_own _ rfl _ _ 163 rfl w.heap.size 169 i0 (.agg #[.int .u8 0, .int .i64 0, .string { data := #[] }]) 3 32 Tryz.underlying163 hi hz0 hz1 hz2 rfl (by decide) _ _ _ rfl (hown.alloc _) ⟨wr.heap.size, 0, none⟩ 1 1 [.int .u8 110, .int .i64 i, .string (s.extract i j)] rfl rfl (cell_three_new _ _ _ _ _) (fun x hx => by simp at hx; rcases hx with rfl | rfl | rfl <;> rfl) (by unfold maxLen; omega) (by omega) (by have := HB.out.size; simp; omega) ?_; intro v' w3 hown' hgrow hnil))
        have ht := HH.out
        have hb3 : Below w.heap.size w w3 := Below.grown (HB.out.alloc HB.out.size _) hgrow (by have := HB.out.size; simp; omega) (fun j hj => (hown.lt _ hj).1)
        go_roundw
        case rel =>
         refine ⟨j, done ++ [⟨110, i, j⟩], by omega, by go_num, ?_, hb3, ?_, by simp; omega⟩
         ·rw [List.length_append, List.length_singleton, toksCells_snoc]
          exact hown'
         ·show _ = _
          have e := HS.out
          rw [toksAt_cons (by omega) (by rw [ht]; rfl), ht] at e
          rw [← e]
          simp
        case measure => simp [intOf]; omega
       ·have ht : tokFrom s i = ⟨33, i, i⟩ := by
         rw [HF.out, tokAt, if_neg (by omega), if_neg (by rw [hg, hsg]; decide), HE.out, if_pos (by omega), if_neg h99]
        have HH : Hid (tokFrom s i = ⟨33, i, i⟩) := ht
        clear ht hg HF HT1
        have h9' : (9 : Int) < (j : Int) - (i : Int) := by omega
        go_wp2_with (first | (at_builtin; refine wpList_append_own _ rfl _ _ 163 rfl w.heap.size 169 i0 (.agg #[.int .u8 0, .int .i64 0, .string { data := #[] }]) 3 32 Tryz.underlying163 hi hz0 hz1 hz2 rfl (by decide) _ _ _ rfl (hown.alloc _) ⟨wr.heap.size, 0, none⟩ 1 1 [.int .u8 33, .int .i64 i, .string { data := #[] }] rfl rfl (cell_three_new _ _ _ _ _) (fun x hx => by simp at hx; rcases hx with rfl | rfl | rfl <;> rfl) (by unfold maxLen; omega) (by omega) (by have := HB.out.size; simp; omega) ?_; intro v' w3 hown' hgrow hnil))
        have ht := HH.out
        go_ret
        have hb3 : Below w.heap.size w w3 := Below.grown (HB.out.alloc HB.out.size _) hgrow (by have := HB.out.size; simp; omega) (fun j hj => (hown.lt _ hj).1)
        refine ⟨_, rfl, ?_, hb3⟩
        have e := HS.out
        rw [toksAt_last (by rw [ht]; rfl), ht] at e
        rw [← e, List.length_append, List.length_singleton, toksCells_snoc]
        have e2 : tokCells s ⟨33, i, i⟩ = [.int .u8 33, .int .i64 i, .string { data := #[] }] := by
         unfold tokCells Tok.text
         rw [extract_nil]
         rfl
        rw [e2]
        exact hown'
      all_goals
       have HT1 := HT.out.below HB.out
       by_cases hji : j = i
       ·subst hji
        have hw := ref_word s j hs (by omega) wr HT1
        have hwl := wordFrom_le s (s.size - j) j 0 (by omega)
        have hwe : wordFrom s (s.size - j) j 0 = wordEnd s j := rfl
        rw [hwe] at hwl
        have HTK : Hid (tokFrom s j = if (wordEnd s j).2 = 0 ∨ 12 < (wordEnd s j).2 then ⟨33, j, j⟩ else ⟨97, j, (wordEnd s j).1⟩) := by
         show _ = _
         rw [HF.out, tokAt, if_neg (by omega), if_neg (by rw [hg, hsg]; decide), if_neg (by have := HE.out; omega)]
        clear hwe hg HF HT1
        generalize (wordEnd s j).1 = we at *
        generalize (wordEnd s j).2 = wn at *
        obtain ⟨hw1, hw2, hw3, hw4, hw5⟩ := hwl
        have q1 : (0 : Int) ≤ (j : Int) := by omega
        have q2 : (j : Int) ≤ (we : Int) := by omega
        have q3 : (we : Int) ≤ (s.size : Int) := by omega
        have hcs : (((wn : Int) == 0) = true ∨ (((wn : Int) == 0) = false ∧ (12 : Int) < (wn : Int))) ∧ Hid (tokFrom s j = ⟨33, j, j⟩) ∨ ((((wn : Int) == 0) = false ∧ ¬ (12 : Int) < (wn : Int) ∧ j < we) ∧ Hid (tokFrom s j = ⟨97, j, we⟩)) := by
         have e := HTK.out
         by_cases h0 : wn = 0
         ·exact .inl ⟨.inl (by simp [h0]), by rw [if_pos (.inl h0)] at e; exact e⟩
         ·have h0' : ((wn : Int) == 0) = false := by simp; omega
          by_cases h12 : 12 < wn
          ·exact .inl ⟨.inr ⟨h0', by omega⟩, by rw [if_pos (.inr h12)] at e; exact e⟩
          ·exact .inr ⟨⟨h0', by omega, by omega⟩, by rw [if_neg (by omega)] at e; exact e⟩
        clear HTK
        rcases hcs with ⟨h0 | ⟨h0, h12⟩, HH⟩ | ⟨⟨h0, h12, hlt⟩, HH⟩
        ·go_wp2_with (first | (go_at_call 89; refine hw.mono ?_; rintro e w1 ⟨rfl, hb1⟩; have hown1 := hown.kept (row := none) ⟨hb1.os, hb1.tape, hb1.output, hb1.size, fun k hk _ => hb1.block k hk⟩ (Classical.em _); have HB1 : Hid (Below w.heap.size w w1) := below_size HB.out hb1; clear hb1) | (at_builtin; refine wpList_append_own _ rfl _ _ 163 rfl w.heap.size 169 i0 (.agg #[.int .u8 0, .int .i64 0, .string { data := #[] }]) 3 32 Tryz.underlying163 hi hz0 hz1 hz2 rfl (by decide) _ _ _ rfl (hown1.alloc _) ⟨w1.heap.size, 0, none⟩ 1 1 [.int .u8 33, .int .i64 j, .string { data := #[] }] rfl rfl (cell_three_new _ _ _ _ _) (fun x hx => by simp at hx; rcases hx with rfl | rfl | rfl <;> rfl) (by unfold maxLen; omega) (by omega) (by have := HB1.out.size; simp; omega) ?_; intro v' w3 hown' hgrow hnil))
         have ht := HH.out
         go_ret
         have hb3 : Below w.heap.size w w3 := Below.grown (HB1.out.alloc HB1.out.size _) hgrow (by have := HB1.out.size; simp; omega) (fun j hj => (hown1.lt _ hj).1)
         refine ⟨_, rfl, ?_, hb3⟩
         have e := HS.out
         rw [toksAt_last (by rw [ht]; rfl), ht] at e
         rw [← e, List.length_append, List.length_singleton, toksCells_snoc]
         have e2 : tokCells s ⟨33, j, j⟩ = [.int .u8 33, .int .i64 j, .string { data := #[] }] := by
          unfold tokCells Tok.text
          rw [extract_nil]
          rfl
         rw [e2]
         exact hown'
        ·go_wp2_with (first | (go_at_call 89; refine hw.mono ?_; rintro e w1 ⟨rfl, hb1⟩; have hown1 := hown.kept (row := none) ⟨hb1.os, hb1.tape, hb1.output, hb1.size, fun k hk _ => hb1.block k hk⟩ (Classical.em _); have HB1 : Hid (Below w.heap.size w w1) := below_size HB.out hb1; clear hb1) | (at_builtin; refine wpList_append_own _ rfl _ _ 163 rfl w.heap.size 169 i0 (.agg #[.int .u8 0, .int .i64 0, .string { data := #[] }]) 3 32 Tryz.underlying163 hi hz0 hz1 hz2 rfl (by decide) _ _ _ rfl (hown1.alloc _) ⟨w1.heap.size, 0, none⟩ 1 1 [.int .u8 33, .int .i64 j, .string { data := #[] }] rfl rfl (cell_three_new _ _ _ _ _) (fun x hx => by simp at hx; rcases hx with rfl | rfl | rfl <;> rfl) (by unfold maxLen; omega) (by omega) (by have := HB1.out.size; simp; omega) ?_; intro v' w3 hown' hgrow hnil))
         have ht := HH.out
         go_ret
         have hb3 : Below w.heap.size w w3 := Below.grown (HB1.out.alloc HB1.out.size _) hgrow (by have := HB1.out.size; simp; omega) (fun j hj => (hown1.lt _ hj).1)
         refine ⟨_, rfl, ?_, hb3⟩
         have e := HS.out
         rw [toksAt_last (by rw [ht]; rfl), ht] at e
         rw [← e, List.length_append, List.length_singleton, toksCells_snoc]
         have e2 : tokCells s ⟨33, j, j⟩ = [.int .u8 33, .int .i64 j, .string { data := #[] }] := by
          unfold tokCells Tok.text
          rw [extract_nil]
          rfl
         rw [e2]
         exact hown'
        ·go_wp2_with (first | (go_at_call 89; refine hw.mono ?_; rintro e w1 ⟨rfl, hb1⟩; have hown1 := hown.kept (row := none) ⟨hb1.os, hb1.tape, hb1.output, hb1.size, fun k hk _ => hb1.block k hk⟩ (Classical.em _); have HB1 : Hid (Below w.heap.size w w1) := below_size HB.out hb1; clear hb1) | (at_builtin; refine wpList_append_own _ rfl _ _ 163 rfl w.heap.size 169 i0 (.agg #[.int .u8 0, .int .i64 0, .string { data := #[] }]) 3 32 Tryz.underlying163 hi hz0 hz1 hz2 rfl (by decide) _ _ _ rfl (hown1.alloc _) ⟨w1.heap.size, 0, none⟩ 1 1 [.int .u8 97, .int .i64 j, .string (s.extract j we)] rfl rfl (cell_three_new _ _ _ _ _) (fun x hx => by simp at hx; rcases hx with rfl | rfl | rfl <;> rfl) (by unfold maxLen; omega) (by omega) (by have := HB1.out.size; simp; omega) ?_; intro v' w3 hown' hgrow hnil))
         have ht := HH.out
         have hb3 : Below w.heap.size w w3 := Below.grown (HB1.out.alloc HB1.out.size _) hgrow (by have := HB1.out.size; simp; omega) (fun j hj => (hown1.lt _ hj).1)
         go_roundw
         case rel =>
          refine ⟨we, done ++ [⟨97, j, we⟩], by omega, by go_num, ?_, hb3, ?_, by simp; omega⟩
          ·rw [List.length_append, List.length_singleton, toksCells_snoc]
           exact hown'
          ·show _ = _
           have e := HS.out
           rw [toksAt_cons (by omega) (by rw [ht]; rfl), ht] at e
           rw [← e]
           simp
         case measure => simp [intOf]; omega
       ·have hji' : ((j : Int) == (i : Int)) = false := by simp; omega
        have hj0 : (((j : Int) - (i : Int)) == 0) = false := by simp; omega
        have q1 : (0 : Int) ≤ (i : Int) := by omega
        have q2 : (i : Int) ≤ (j : Int) := by omega
        have q3 : (j : Int) ≤ (s.size : Int) := by omega
        by_cases h99 : j - i ≤ 9
        ·have ht : tokFrom s i = ⟨110, i, j⟩ := by
          rw [HF.out, tokAt, if_neg (by omega), if_neg (by rw [hg, hsg]; decide), HE.out, if_pos (by omega), if_pos h99]
         have HH : Hid (tokFrom s i = ⟨110, i, j⟩) := ht
         clear ht hg HF HT1
         have h9' : ¬ (9 : Int) < (j : Int) - (i : Int) := by omega
         go_wp2_with (first | (at_builtin; refine wpList_append_own _ rfl _ _ 163 rfl w.heap.size 169 i0 (.agg #[.int .u8 0, .int .i64 0, .string { data := #[] }]) 3 32 Tryz.underlying163 hi hz0 hz1 hz2 rfl (by decide) _ _ _ rfl (hown.alloc _) ⟨wr.heap.size, 0, none⟩ 1 1 [.int .u8 110, .int .i64 i, .string (s.extract i j)] rfl rfl (cell_three_new _ _ _ _ _) (fun x hx => by simp at hx; rcases hx with rfl | rfl | rfl <;> rfl) (by unfold maxLen; omega) (by omega) (by have := HB.out.size; simp; omega) ?_; intro v' w3 hown' hgrow hnil))
         have ht := HH.out
         have hb3 : Below w.heap.size w w3 := Below.grown (HB.out.alloc HB.out.size _) hgrow (by have := HB.out.size; simp; omega) (fun j hj => (hown.lt _ hj).1)
         go_roundw
         case rel =>
          refine ⟨j, done ++ [⟨110, i, j⟩], by omega, by go_num, ?_, hb3, ?_, by simp; omega⟩
          ·rw [List.length_append, List.length_singleton, toksCells_snoc]
           exact hown'
          ·show _ = _
           have e := HS.out
           rw [toksAt_cons (by omega) (by rw [ht]; rfl), ht] at e
           rw [← e]
           simp
         case measure => simp [intOf]; omega
        ·have ht : tokFrom s i = ⟨33, i, i⟩ := by
          rw [HF.out, tokAt, if_neg (by omega), if_neg (by rw [hg, hsg]; decide), HE.out, if_pos (by omega), if_neg h99]
         have HH : Hid (tokFrom s i = ⟨33, i, i⟩) := ht
         clear ht hg HF HT1
         have h9' : (9 : Int) < (j : Int) - (i : Int) := by omega
         go_wp2_with (first | (at_builtin; refine wpList_append_own _ rfl _ _ 163 rfl w.heap.size 169 i0 (.agg #[.int .u8 0, .int .i64 0, .string { data := #[] }]) 3 32 Tryz.underlying163 hi hz0 hz1 hz2 rfl (by decide) _ _ _ rfl (hown.alloc _) ⟨wr.heap.size, 0, none⟩ 1 1 [.int .u8 33, .int .i64 i, .string { data := #[] }] rfl rfl (cell_three_new _ _ _ _ _) (fun x hx => by simp at hx; rcases hx with rfl | rfl | rfl <;> rfl) (by unfold maxLen; omega) (by omega) (by have := HB.out.size; simp; omega) ?_; intro v' w3 hown' hgrow hnil))
         have ht := HH.out
         go_ret
         have hb3 : Below w.heap.size w w3 := Below.grown (HB.out.alloc HB.out.size _) hgrow (by have := HB.out.size; simp; omega) (fun j hj => (hown.lt _ hj).1)
         refine ⟨_, rfl, ?_, hb3⟩
         have e := HS.out
         rw [toksAt_last (by rw [ht]; rfl), ht] at e
         rw [← e, List.length_append, List.length_singleton, toksCells_snoc]
         have e2 : tokCells s ⟨33, i, i⟩ = [.int .u8 33, .int .i64 i, .string { data := #[] }] := by
          unfold tokCells Tok.text
          rw [extract_nil]
          rfl
         rw [e2]
         exact hown'
  ·obtain rfl : i = s.size := by omega
   go_wp2_with (first | (at_builtin; refine wpList_append_own _ rfl _ _ 163 rfl w.heap.size 169 i0 (.agg #[.int .u8 0, .int .i64 0, .string { data := #[] }]) 3 32 Tryz.underlying163 hi hz0 hz1 hz2 rfl (by decide) _ _ _ rfl (hown.alloc _) ⟨wr.heap.size, 0, none⟩ 1 1 [.int .u8 101, .int .i64 s.size, .string { data := #[] }] rfl rfl (cell_three_new _ _ _ _ _) (fun x hx => by simp at hx; rcases hx with rfl | rfl | rfl <;> rfl) (by unfold maxLen; omega) (by omega) (by have := HB.out.size; simp; omega) ?_; intro v' w3 hown' hgrow hnil))
   go_ret
   have hb3 : Below w.heap.size w w3 := Below.grown (HB.out.alloc HB.out.size _) hgrow (by have := HB.out.size; simp; omega) (fun j hj => (hown.lt _ hj).1)
   have e : toks s = done ++ [⟨101, s.size, s.size⟩] := by
    rw [← HS.out, toksAt_last (by unfold tokFrom; rw [skip_end]; simp [tokAt, Tok.last])]
    unfold tokFrom
    rw [skip_end]
    simp [tokAt]
   refine ⟨_, rfl, ?_, hb3⟩
   rw [e, List.length_append, List.length_singleton, toksCells_snoc]
   have e2 : tokCells s ⟨101, s.size, s.size⟩ = [.int .u8 101, .int .i64 s.size, .string { data := #[] }] := by
    unfold tokCells Tok.text
    rw [extract_nil]
    rfl
   rw [e2]
   exact hown'
end Go.Proofs.YtbokdbaagacnlaaGreatDoor
