/-
  THE LAW's ends, WALKED.
-/
import Derived.Test.YtjcbbcnjnnpfoaaWinO
namespace Go.Proofs.Ytjcbbcnjnnpfoaa
open Go.RowKit Go.Lib Go.Shelf

theorem less_tri : ∀ x y : List UInt8, Op.bytesLess y x = (!(Op.bytesLess x y) && !(x == y))
  | [], [] => rfl
  | [], b :: y => by simp [Op.bytesLess]
  | a :: x, [] => by simp [Op.bytesLess]
  | a :: x, b :: y => by
    have ih := less_tri x y
    simp only [Op.bytesLess, List.cons_beq_cons]
    rw [ih]
    have h : a < b ∨ a = b ∨ b < a := by simp only [UInt8.lt_iff_toNat_lt, ← UInt8.toNat_inj]; omega
    rcases h with h | h | h
    · have h1 : ¬ b < a := by simp only [UInt8.lt_iff_toNat_lt] at *; omega
      have h2 : ¬ a = b := by intro e; subst e; simp at h
      have h3 : ¬ b = a := fun e => h2 e.symm
      simp [h, h1, h3]
    · subst h
      have h1 : ¬ a < a := by simp
      simp [h1]
    · have h1 : ¬ a < b := by simp only [UInt8.lt_iff_toNat_lt] at *; omega
      have h2 : ¬ a = b := by intro e; subst e; simp at h
      simp [h, h1, h2]
theorem less_self : ∀ x : List UInt8, Op.bytesLess x x = false
  | [] => rfl
  | a :: x => by simp [Op.bytesLess, less_self x]
theorem less_cases (y s : ByteArray) : (Op.bytesLess s.toList y.toList = true ∧ Op.bytesLess y.toList s.toList = false ∧ (y.toList == s.toList) = false) ∨ (Op.bytesLess s.toList y.toList = false ∧ Op.bytesLess y.toList s.toList = false ∧ (y.toList == s.toList) = true) ∨ (Op.bytesLess s.toList y.toList = false ∧ Op.bytesLess y.toList s.toList = true ∧ (y.toList == s.toList) = false) := by
  have h1 := less_tri y.toList s.toList
  have h2 := less_self s.toList
  cases h : (y.toList == s.toList) with
  | true =>
    have e : y.toList = s.toList := by simpa using h
    rw [e, h2] at *
    exact .inr (.inl ⟨rfl, rfl, rfl⟩)
  | false =>
    rw [h] at h1
    cases hl : Op.bytesLess y.toList s.toList with
    | true => rw [hl] at h1; exact .inr (.inr ⟨by simpa using h1, rfl, rfl⟩)
    | false => rw [hl] at h1; exact .inl ⟨by simpa using h1, rfl, rfl⟩
theorem ahead_self (most : Bool) (a : Int) : ahead most a a = false := by cases most <;> simp [ahead, lessI]
theorem aheadS_self (most : Bool) (a : ByteArray) : aheadS most a a = false := by cases most <;> simp [aheadS, lessS, less_self]
theorem foremost_full {α : Type} {f : α → α → Bool} (h : ∀ a, f a a = false) (a : α) (l : List α) : foremost f (a :: l) = some ((a :: l).foldl (fun g x => if f x g = true then x else g) a) := by
  simp [foremost, h a]

set_option maxRecDepth 1000000 in
set_option maxHeartbeats 4000000 in
theorem law_ends {w : World} {b bw Rn Rs : Nat} {wid now : Int} {l : List (Int × Int)} {lv mn ms : Value} (h : Cas w b wid now l bw Rn Rs lv mn ms) (hll : l.length ≤ 1073741824) (most : Bool) :
    Calls Try.prog 11 #[.pointer (some ⟨b, 0, none⟩), .bool most] w fun e w' => e = .returned (.bool true) ∧ Below w.heap.size w w' := by
  have c0 : w.cell? ⟨b, 0, none⟩ = some (.pointer (some ⟨bw, 0, none⟩)) := cell_of_heap h.blk rfl
  have c1 : w.cell? ⟨b, 1, none⟩ = some lv := cell_of_heap h.blk rfl
  have c2 : w.cell? ⟨b, 2, none⟩ = some (.int .i64 wid) := cell_of_heap h.blk rfl
  have c3 : w.cell? ⟨b, 3, none⟩ = some (.int .i64 now) := cell_of_heap h.blk rfl
  have hkp : ∀ W, Below w.heap.size w W → _ := fun W hb => ref_kept (h.below hb).own hll h.both.n.wid64 h.both.n.tm64 h.t64
  obtain ⟨la, lc, rfl⟩ := owns_slice h.own
  have H : Hid (Cas w b wid now l bw Rn Rs (.slice la l.length lc) mn ms) := h
  have HKP : Hid _ := hkp
  clear h hkp
  generalize hln : l.length = n at *
  go_enter Try.func11, Try.ntmps11
  go_wp2_with fail
  go_region_held3 (fun w' => w'.cell? ⟨b, 1, none⟩ = some (.slice la n lc) ∧ w'.cell? ⟨b, 2, none⟩ = some (.int .i64 wid) ∧ w'.cell? ⟨b, 3, none⟩ = some (.int .i64 now)) (go_keep)
    (first | (go_at_call 9; refine (HKP.out _ (Below.refl _ _).drew).mono ?_; rintro e w1 ⟨kv, rfl, hko, hkb⟩
              have hb1 : Below w.heap.size w w1 := (below_drawn (Below.refl _ w)).trans hkb
              have g1 := (H.out.below hb1).blk
              have a1 : w1.cell? ⟨b, 1, none⟩ = some (.slice la n lc) := cell_of_heap g1 rfl
              have a2 : w1.cell? ⟨b, 2, none⟩ = some (.int .i64 wid) := cell_of_heap g1 rfl
              have a3 : w1.cell? ⟨b, 3, none⟩ = some (.int .i64 now) := cell_of_heap g1 rfl))
  have a0 : w1.cell? ⟨b, 0, none⟩ = some (.pointer (some ⟨bw, 0, none⟩)) := cell_of_heap g1 rfl
  obtain ⟨ka, kc, rfl⟩ := owns_slice hko
  have HB1 : Hid (Below w.heap.size w w1) := hb1
  have HKO : Hid (w1.ownsRow 0 56 2 (.slice ka (keptR wid now l).length kc) (keptR wid now l).length (sCells (Value.int .i64) (keptR wid now l))) := ⟨hko.1, hko.2.imp id (fun ⟨g, cap, cur, b1, _, b3⟩ => ⟨g, cap, cur, b1, Nat.zero_le _, b3⟩)⟩
  have hk16 : (keptR wid now l).length ≤ 16 := keptR_length _
  have HBO : Hid (Both w1 bw Rn Rs wid now (keptR wid now l) mn ms) := (H.out.below hb1).both
  clear hko hkb hb1 g1 a1 a2 a3 c0 c1 c2 c3 HKP
  generalize keptR wid now l = k at *
  generalize hkl : k.length = m at *
  have hen := pends HBO.out most
  cases k with
  | nil =>
    obtain rfl : m = 0 := by simpa using hkl.symm
    have hf1 : foremost (ahead most) (List.map (·.2) ([] : List (Int × Int))) = none := rfl
    have hf2 : foremost (aheadS most) (List.map (·.2) (keyed ([] : List (Int × Int)))) = none := rfl
    rw [hf1, hf2] at hen
    unfold endsVal at hen
    clear hf1 hf2
    go_wp2_with fail
    refine hen.mono ?_
    rintro e w2 ⟨rfl, hb2⟩
    have HB2 : Hid (Below w.heap.size w w2) := HB1.out.trans (hb2.mono HB1.out.size)
    clear hb2 hen HBO HKO
    go_wp2
    go_ret
    exact ⟨rfl, HB2.out⟩
  | cons x0 r =>
    obtain ⟨V, hV⟩ : ∃ V, ((x0 :: r).map (·.2)).foldl (fun f x => if ahead most x f = true then x else f) x0.2 = V := ⟨_, rfl⟩
    obtain ⟨S, hS⟩ : ∃ S, ((x0 :: r).map (fun x => keyOf x.2)).foldl (fun f x => if aheadS most x f = true then x else f) (keyOf x0.2) = S := ⟨_, rfl⟩
    have hf1 : foremost (ahead most) ((x0 :: r).map (·.2)) = some V := by rw [← hV]; exact foremost_full (fun a => ahead_self most a) _ _
    have hf2 : foremost (aheadS most) ((keyed (x0 :: r)).map (·.2)) = some S := by
      have e : (keyed (x0 :: r)).map (·.2) = (x0 :: r).map (fun x => keyOf x.2) := by simp [keyed]
      rw [e, ← hS]
      exact foremost_full (fun a => aheadS_self most a) _ _
    rw [hf1, hf2] at hen
    unfold endsVal at hen
    simp only [Option.getD_some, Option.isSome_some] at hen
    have HV : Hid (((x0 :: r).map (·.2)).foldl (fun f x => if ahead most x f = true then x else f) x0.2 = V) := hV
    have HS : Hid (((x0 :: r).map (fun x => keyOf x.2)).foldl (fun f x => if aheadS most x f = true then x else f) (keyOf x0.2) = S) := hS
    have hm0 : ((m : Int) == 0) = false := beq_eq_false_iff_ne.2 (by simp at hkl; omega)
    clear hf1 hf2 hV hS
    have hm1 : (0 : Int) < m := by simp at hkl; omega
    go_wp2_with fail
    refine hen.mono ?_
    rintro e w2 ⟨rfl, hb2⟩
    have HB2 : Hid (Below w.heap.size w w2) := HB1.out.trans (hb2.mono HB1.out.size)
    have R1 : Hid (w2.ownsRow 0 56 2 (.slice ka m kc) (x0 :: r).length (sCells (Value.int .i64) (x0 :: r))) := by rw [hkl]; exact (Only.of_below (P := fun _ => False) hb2).owns HKO.out (fun _ _ => id)
    obtain ⟨g, p1, e1, -, q1⟩ := row_cells R1.out (i := 0) (x := x0) rfl
    injection e1 with e1 e1b e1c
    subst e1
    clear e1b e1c hb2 hen HBO HKO a0
    have hk0 := ref_key x0.2 w2
    go_wp2_with fail
    refine hk0.mono ?_
    rintro e w3 ⟨rfl, hb3⟩
    have HB3 : Hid (Below w2.heap.size w2 w3) := hb3
    clear hk0 hb3 q1
    go_wp2_with fail
    go_loopw [10, 11, 12] (fun v10 v11 v12 wr => ∃ (i : Nat) (v : Int) (s : ByteArray), v12 = .int .i64 i ∧ i ≤ m ∧ v10 = .int .i64 v ∧ v11 = .string s ∧ Hid ((((x0 :: r).take i).map (·.2)).foldl (fun f x => if ahead most x f = true then x else f) x0.2 = v) ∧ Hid ((((x0 :: r).take i).map (fun x => keyOf x.2)).foldl (fun f x => if aheadS most x f = true then x else f) (keyOf x0.2) = s) ∧ Hid (Below w2.heap.size w2 wr)) (fun _ _ v12 _ => m - (intOf v12).toNat)
    case atStart => exact ⟨0, x0.2, keyOf x0.2, rfl, Nat.zero_le _, rfl, rfl, rfl, rfl, HB3⟩
    case round =>
      obtain ⟨i, v, s, rfl, hi, rfl, rfl, HI, HJ, HB⟩ := hrel
      rcases Nat.lt_or_ge i m with hlt | hge
      · obtain ⟨x, hx⟩ : ∃ x, (x0 :: r)[i]? = some x := ⟨(x0 :: r)[i], List.getElem?_eq_getElem (by omega)⟩
        have hcells : ∀ W, Below w2.heap.size w2 W → W.cell? ⟨g, i * 2 + 1, none⟩ = some (.int .i64 x.2) := by
          intro W hb
          obtain ⟨g1, p1, e1, -, q1⟩ := row_cells ((Only.of_below (P := fun _ => False) hb).owns R1.out (fun _ _ => id)) hx
          injection e1 with e1
          injection e1 with e1
          injection e1 with e1
          subst e1
          exact q1
        have q1 := hcells wr HB.out
        have hk := ref_key x.2 wr
        have hlt2 : (i : Int) < m := by omega
        have HTK : Hid ((x0 :: r).take (i + 1) = (x0 :: r).take i ++ [x]) := (by rw [List.take_add_one, hx]; rfl : (x0 :: r).take (i + 1) = (x0 :: r).take i ++ [x])
        obtain ⟨x1, x2⟩ := x
        dsimp only at q1 hk
        have HC : Hid (∀ W, Below w2.heap.size w2 W → W.cell? ⟨g, i * 2 + 1, none⟩ = some (.int .i64 x2)) := hcells
        clear hx hcells
        have NI : Hid (∀ v', (if ahead most x2 v = true then x2 else v) = v' → (((x0 :: r).take (i + 1)).map (·.2)).foldl (fun f x => if ahead most x f = true then x else f) x0.2 = v') := by
          intro v' hv'
          rw [HTK.out, List.map_append, List.foldl_append, HI.out]
          exact hv'
        have NJ : Hid (∀ s', (if aheadS most (keyOf x2) s = true then keyOf x2 else s) = s' → (((x0 :: r).take (i + 1)).map (fun x => keyOf x.2)).foldl (fun f x => if aheadS most x f = true then x else f) (keyOf x0.2) = s') := by
          intro s' hs'
          rw [HTK.out, List.map_append, List.foldl_append, HJ.out]
          exact hs'
        go_wp2_with fail
        refine hk.mono ?_
        rintro e w4 ⟨rfl, hb4⟩
        have hb24 : Below w2.heap.size w2 w4 := HB.out.trans (hb4.mono HB.out.size)
        have q2 := HC.out w4 hb24
        have HB4 : Hid (Below w2.heap.size w2 w4) := hb24
        clear hk hb4 hb24 q1 HC
        generalize keyOf x2 = y at *
        have hcI := Int.lt_trichotomy v x2
        have hcS := less_cases y s
        cases most with
        | true =>
          rcases hcI with hI | hI | hI
          · have hb1 : (x2 != v) = true := bne_iff_ne.2 (by omega)
            have hb2 : ¬ x2 < v := by omega
            have hb3 : ahead true x2 v = true := by simp [ahead, lessI]; omega
            rcases hcS with ⟨t1, t2, t3⟩ | ⟨t1, t2, t3⟩ | ⟨t1, t2, t3⟩
            all_goals
              have hgt : ∀ w, (binOp .gtr 9 (.string y) (.string s)).run Try.prog w = .ok (.bool !(Op.bytesLess y.toList s.toList || y.toList == s.toList)) w := fun w => by simp [binOp, Op.stringOp]
              simp only [t2, t3, Bool.or_false, Bool.or_true, Bool.not_false, Bool.not_true] at hgt
              have HNI := NI.out _ rfl
              have HNJ := NJ.out _ rfl
              rw [hb3] at HNI
              simp only [aheadS, lessS, if_true, if_false, Bool.false_eq_true, t1, t2] at HNI HNJ
              have KI : Hid _ := HNI
              have KJ : Hid _ := HNJ
              clear HNI HNJ hb3 NI NJ
              go_wp2
              go_roundw
              case rel => exact ⟨i + 1, _, _, by go_num, by omega, rfl, rfl, KI.out, KJ.out, HB4⟩
              case measure => simp [intOf]; omega
          · subst hI
            have hb1 : (v != v) = false := by simp
            have hb2 : ¬ v < v := by omega
            have hb3 : ahead true v v = false := ahead_self _ _
            rcases hcS with ⟨t1, t2, t3⟩ | ⟨t1, t2, t3⟩ | ⟨t1, t2, t3⟩
            all_goals
              have hgt : ∀ w, (binOp .gtr 9 (.string y) (.string s)).run Try.prog w = .ok (.bool !(Op.bytesLess y.toList s.toList || y.toList == s.toList)) w := fun w => by simp [binOp, Op.stringOp]
              simp only [t2, t3, Bool.or_false, Bool.or_true, Bool.not_false, Bool.not_true] at hgt
              have HNI := NI.out _ rfl
              have HNJ := NJ.out _ rfl
              rw [hb3] at HNI
              simp only [aheadS, lessS, if_true, if_false, Bool.false_eq_true, t1, t2] at HNI HNJ
              have KI : Hid _ := HNI
              have KJ : Hid _ := HNJ
              clear HNI HNJ hb3 NI NJ
              go_wp2
              go_roundw
              case rel => exact ⟨i + 1, _, _, by go_num, by omega, rfl, rfl, KI.out, KJ.out, HB4⟩
              case measure => simp [intOf]; omega
          · have hb1 : (x2 != v) = true := bne_iff_ne.2 (by omega)
            have hb2 : ¬ v < x2 := by omega
            have hb3 : ahead true x2 v = false := by simp [ahead, lessI]; omega
            rcases hcS with ⟨t1, t2, t3⟩ | ⟨t1, t2, t3⟩ | ⟨t1, t2, t3⟩
            all_goals
              have hgt : ∀ w, (binOp .gtr 9 (.string y) (.string s)).run Try.prog w = .ok (.bool !(Op.bytesLess y.toList s.toList || y.toList == s.toList)) w := fun w => by simp [binOp, Op.stringOp]
              simp only [t2, t3, Bool.or_false, Bool.or_true, Bool.not_false, Bool.not_true] at hgt
              have HNI := NI.out _ rfl
              have HNJ := NJ.out _ rfl
              rw [hb3] at HNI
              simp only [aheadS, lessS, if_true, if_false, Bool.false_eq_true, t1, t2] at HNI HNJ
              have KI : Hid _ := HNI
              have KJ : Hid _ := HNJ
              clear HNI HNJ hb3 NI NJ
              go_wp2
              go_roundw
              case rel => exact ⟨i + 1, _, _, by go_num, by omega, rfl, rfl, KI.out, KJ.out, HB4⟩
              case measure => simp [intOf]; omega
        | false =>
          rcases hcI with hI | hI | hI
          · have hb1 : (x2 != v) = true := bne_iff_ne.2 (by omega)
            have hb2 : ¬ x2 < v := by omega
            have hb3 : ahead false x2 v = false := by simp [ahead, lessI]; omega
            rcases hcS with ⟨t1, t2, t3⟩ | ⟨t1, t2, t3⟩ | ⟨t1, t2, t3⟩
            all_goals
              have hgt : ∀ w, (binOp .gtr 9 (.string y) (.string s)).run Try.prog w = .ok (.bool !(Op.bytesLess y.toList s.toList || y.toList == s.toList)) w := fun w => by simp [binOp, Op.stringOp]
              simp only [t2, t3, Bool.or_false, Bool.or_true, Bool.not_false, Bool.not_true] at hgt
              have HNI := NI.out _ rfl
              have HNJ := NJ.out _ rfl
              rw [hb3] at HNI
              simp only [aheadS, lessS, if_true, if_false, Bool.false_eq_true, t1, t2] at HNI HNJ
              have KI : Hid _ := HNI
              have KJ : Hid _ := HNJ
              clear HNI HNJ hb3 NI NJ
              go_wp2
              go_roundw
              case rel => exact ⟨i + 1, _, _, by go_num, by omega, rfl, rfl, KI.out, KJ.out, HB4⟩
              case measure => simp [intOf]; omega
          · subst hI
            have hb1 : (v != v) = false := by simp
            have hb2 : ¬ v < v := by omega
            have hb3 : ahead false v v = false := ahead_self _ _
            rcases hcS with ⟨t1, t2, t3⟩ | ⟨t1, t2, t3⟩ | ⟨t1, t2, t3⟩
            all_goals
              have hgt : ∀ w, (binOp .gtr 9 (.string y) (.string s)).run Try.prog w = .ok (.bool !(Op.bytesLess y.toList s.toList || y.toList == s.toList)) w := fun w => by simp [binOp, Op.stringOp]
              simp only [t2, t3, Bool.or_false, Bool.or_true, Bool.not_false, Bool.not_true] at hgt
              have HNI := NI.out _ rfl
              have HNJ := NJ.out _ rfl
              rw [hb3] at HNI
              simp only [aheadS, lessS, if_true, if_false, Bool.false_eq_true, t1, t2] at HNI HNJ
              have KI : Hid _ := HNI
              have KJ : Hid _ := HNJ
              clear HNI HNJ hb3 NI NJ
              go_wp2
              go_roundw
              case rel => exact ⟨i + 1, _, _, by go_num, by omega, rfl, rfl, KI.out, KJ.out, HB4⟩
              case measure => simp [intOf]; omega
          · have hb1 : (x2 != v) = true := bne_iff_ne.2 (by omega)
            have hb2 : ¬ v < x2 := by omega
            have hb5 : (!decide (v < x2)) = true := by simp; omega
            have hb3 : ahead false x2 v = true := by simp [ahead, lessI]; omega
            rcases hcS with ⟨t1, t2, t3⟩ | ⟨t1, t2, t3⟩ | ⟨t1, t2, t3⟩
            all_goals
              have hgt : ∀ w, (binOp .gtr 9 (.string y) (.string s)).run Try.prog w = .ok (.bool !(Op.bytesLess y.toList s.toList || y.toList == s.toList)) w := fun w => by simp [binOp, Op.stringOp]
              simp only [t2, t3, Bool.or_false, Bool.or_true, Bool.not_false, Bool.not_true] at hgt
              have HNI := NI.out _ rfl
              have HNJ := NJ.out _ rfl
              rw [hb3] at HNI
              simp only [aheadS, lessS, if_true, if_false, Bool.false_eq_true, t1, t2] at HNI HNJ
              have KI : Hid _ := HNI
              have KJ : Hid _ := HNJ
              clear HNI HNJ hb3 NI NJ
              go_wp2
              go_roundw
              case rel => exact ⟨i + 1, _, _, by go_num, by omega, rfl, rfl, KI.out, KJ.out, HB4⟩
              case measure => simp [intOf]; omega
      · have e0 : (x0 :: r).take i = x0 :: r := List.take_of_length_le (by omega)
        have eV : v = V := by rw [← HI.out, e0]; exact HV.out
        have eS : s = S := by rw [← HJ.out, e0]; exact HS.out
        subst eV eS
        have hge2 : ¬ (i : Int) < m := by omega
        clear e0 HI HJ HV HS
        go_wp2
        go_ret
        exact ⟨rfl, HB2.out.trans (HB.out.mono HB2.out.size)⟩
end Go.Proofs.Ytjcbbcnjnnpfoaa
