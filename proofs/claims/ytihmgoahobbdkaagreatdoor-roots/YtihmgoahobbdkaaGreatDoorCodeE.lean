/-
  THE PROGRAM's READER: sees, takeSign, take, takeNumber, isKind, WALKED.
-/
import Derived.Test.YtihmgoahobbdkaaGreatDoorCodeS
namespace Go.Proofs.YtihmgoahobbdkaaGreatDoor
open Go.RowKit Go.Lib

theorem index_any (c : UInt8) : ∀ cs : List UInt8, decide (0 ≤ Lib.indexByte cs c) = cs.any (fun d => d.toNat == c.toNat)
  | [] => by simp [Lib.indexByte]
  | d :: cs => by
    have ih := index_any c cs
    by_cases h : d = c
    · subst h
      simp [Lib.indexByte]
    · have h' : (d.toNat == c.toNat) = false := by simp [UInt8.toNat_inj, h]
      rw [List.any_cons, h', Bool.false_or, ← ih]
      have hge := Lib.indexByte_ge cs c
      have hbe : (d == c) = false := by simpa using h
      simp only [Lib.indexByte, hbe, Bool.false_eq_true, if_false]
      by_cases hm : Lib.indexByte cs c = -1
      · simp [hm]
      · rw [if_neg (by simpa using hm), Bool.eq_iff_iff, decide_eq_true_iff, decide_eq_true_iff]
        omega
theorem kind_sign {t : Tok} (h : codeKind t = 1) : t.kind ≠ 33 ∧ t.kind ≠ 101 := by
  refine ⟨fun e => ?_, fun e => ?_⟩ <;> (unfold codeKind at h; simp [e] at h)
theorem any_other {t : Tok} (h : codeKind t ≠ 1) (cs : List UInt8) (hcs : cs.all isSign = true) : cs.any (fun d => d.toNat == t.kind) = false := by
  rw [List.any_eq_false]
  intro d hd
  have hs := List.all_eq_true.1 hcs d hd
  rw [isSign_int] at hs
  simp only [Bool.or_eq_true, beq_iff_eq] at hs
  unfold codeKind at h
  simp only [beq_iff_eq]
  intro e
  apply h
  rw [if_neg (by omega), if_neg (by omega), if_neg (by omega), if_neg (by omega)]

section
variable {s : ByteArray} {R : Nat}
/-- Is one of these signs in view? -/
def seesB (s : ByteArray) (I : Nat) (cs : List UInt8) : Bool := cs.any (fun d => d.toNat == kd (toks s) I)

set_option maxRecDepth 1000000 in
theorem code_sees {w : World} {I : Nat} {ms : List ByteArray} (h : CStM s R w I ms) (cs : List UInt8) (hcs : cs.all isSign = true) :
    Calls Tryz.prog 92 #[.pointer (some ⟨R, 0, none⟩), .string ⟨cs.toArray⟩] w fun e w' => e = .returned (.bool (seesB s I cs)) ∧ w' = w := by
  obtain ⟨txt, mv, h1, h2, -⟩ := h.blk
  have c1 := cell_of_heap (i := 1) h1 rfl
  have c2 := cell_of_heap (i := 2) h1 rfl
  have hI := h.lt
  unfold seesB kd
  by_cases hk : codeKind ((toks s).getD I default) = 1
  · obtain ⟨c, q1, q2, q3⟩ := toks_sign s hI hk
    have htx : txt = ⟨#[c]⟩ := by rw [h2 (kind_sign hk).1, q3]
    have hcon := Tryz.strings_Contains_one ⟨cs.toArray⟩ c w
    have e1 : (⟨cs.toArray⟩ : ByteArray).data.toList = cs := rfl
    have q2' : ((toks s).getD I default).kind = c.toNat := q2
    rw [e1, index_any] at hcon
    rw [q2']
    rw [hk] at c1
    subst htx
    generalize cs.any (fun d => d.toNat == c.toNat) = B at hcon ⊢
    clear h1 h2 h q2 q3 q2' hk hcs
    go_enter Tryz.func92, Tryz.ntmps92
    go_wp2_with (first | (go_at_call 136; refine hcon.mono ?_; rintro e w' ⟨rfl, hw⟩; have hw := hw.symm; subst hw))
    go_ret
    exact ⟨by cases B <;> rfl, rfl⟩
  · rw [any_other hk cs hcs]
    obtain ⟨K, hK⟩ : ∃ K, codeKind ((toks s).getD I default) = K := ⟨_, rfl⟩
    rw [hK] at c1 hk
    have hk' : ((K : Int) == 1) = false := beq_eq_false_iff_ne.2 (by omega)
    clear h1 h2 h hk hcs hK
    go_enter Tryz.func92, Tryz.ntmps92
    go_wp2
    go_ret
    exact ⟨rfl, rfl⟩

theorem sign_last2 {I : Nat} {cs : List UInt8} (hcs : cs.all isSign = true) (h : seesB s I cs = true) : ((toks s).getD I default).last = false := by
  unfold seesB at h
  obtain ⟨d, hd, e⟩ := List.any_eq_true.1 h
  have hs := List.all_eq_true.1 hcs d hd
  have e' : d.toNat = ((toks s).getD I default).kind := by simpa [kd] using e
  have := sign_last (p := 0) (q := 0) hs
  rw [e'] at this
  exact this

/-- The error that 'stuck' makes. -/
def ErrAt (w : World) (e : Value) (p : Nat) : Prop := ∃ b, e = .iface 110 (.pointer (some ⟨b, 0, none⟩)) ∧ w.heap[b]? = some (.cells #[.int .i64 p] 114 (0, 0))

set_option maxRecDepth 1000000 in
theorem code_takeSign {w : World} {I : Nat} {ms : List ByteArray} (h : CStM s R w I ms) (cs : List UInt8) (hcs : cs.all isSign = true) :
    Calls Tryz.prog 94 #[.pointer (some ⟨R, 0, none⟩), .string ⟨cs.toArray⟩] w fun e w' => KC R w w' ∧
      ((seesB s I cs = true ∧ e = .returned .nilIface ∧ CStM s R w' (I + 1) ms) ∨ (seesB s I cs = false ∧ ∃ b, e = .returned (.iface 110 (.pointer (some ⟨b, 0, none⟩))) ∧ w'.heap[b]? = some (.cells #[.int .i64 (pl (toks s) I)] 114 (0, 0)))) := by
  have hse := code_sees h cs hcs
  have hlR : R < w.heap.size := by obtain ⟨a, b, c, -⟩ := h.blk; exact heap_lt c
  cases hb : seesB s I cs with
  | true =>
    have hst := code_step h (sign_last2 hcs hb)
    rw [hb] at hse
    clear h hb
    go_enter Tryz.func94, Tryz.ntmps94
    go_wp2_with fail
    refine hse.mono ?_
    rintro e w' ⟨rfl, hw⟩
    have hw := hw.symm
    subst hw
    go_wp2_with fail
    refine hst.mono ?_
    rintro e w1 ⟨rfl, hs1, hb1⟩
    have HS1 : Hid (CStM s R w1 (I + 1) ms) := hs1
    have HB1 : Hid (KC R w w1) := hb1
    clear hs1 hb1
    go_wp2
    go_ret
    exact ⟨HB1.out, .inl ⟨trivial, rfl, HS1.out⟩⟩
  | false =>
    have hsk := code_stuck h
    rw [hb] at hse
    clear h hb
    go_enter Tryz.func94, Tryz.ntmps94
    go_wp2_with fail
    refine hse.mono ?_
    rintro e w' ⟨rfl, hw⟩
    have hw := hw.symm
    subst hw
    go_wp2_with fail
    refine hsk.mono ?_
    rintro e w1 ⟨b1, rfl, hbl, hbk⟩
    have HQ : Hid _ := And.intro hbl hbk
    clear hbl hbk hsk
    go_wp2
    go_ret
    exact ⟨KC.of_below HQ.out.1 hlR, .inr ⟨trivial, _, rfl, HQ.out.2⟩⟩

set_option maxRecDepth 1000000 in
theorem code_take {w : World} {I : Nat} {ms : List ByteArray} (h : CStM s R w I ms) (k : Nat) (hk : k = 2 ∨ k = 3) :
    Calls Tryz.prog 212 #[.pointer (some ⟨R, 0, none⟩), .int .i64 k] w fun e w' => KC R w w' ∧
      ((codeKind ((toks s).getD I default) = k ∧ e = .returned (.tuple #[.string (tx s (toks s) I), .nilIface]) ∧ CStM s R w' (I + 1) ms) ∨ (codeKind ((toks s).getD I default) ≠ k ∧ ∃ b, e = .returned (.tuple #[.string { data := #[] }, .iface 110 (.pointer (some ⟨b, 0, none⟩))]) ∧ w'.heap[b]? = some (.cells #[.int .i64 (pl (toks s) I)] 114 (0, 0)))) := by
  obtain ⟨txt, mv, h1, h2, -⟩ := h.blk
  have c1 := cell_of_heap (i := 1) h1 rfl
  have c2 := cell_of_heap (i := 2) h1 rfl
  have hlR : R < w.heap.size := heap_lt h1
  by_cases hb : codeKind ((toks s).getD I default) = k
  · have hl : ((toks s).getD I default).last = false := by
      unfold codeKind at hb
      simp only [Tok.last, Bool.or_eq_false_iff, beq_eq_false_iff_ne]
      constructor
      · intro e; rw [if_pos e] at hb; omega
      · intro e
        rw [if_neg (by omega), if_neg (by omega), if_neg (by omega), if_pos e] at hb
        omega
    have h33 : kd (toks s) I ≠ 33 := by
      intro e
      have e' : ((toks s).getD I default).kind = 33 := e
      simp [Tok.last] at hl
      rw [List.getD_eq_getElem?_getD] at e'
      exact hl.2 e'
    have hst := code_step h hl
    have htx := h2 h33
    subst htx
    rw [hb] at c1
    have hne : ((k : Int) != (k : Int)) = false := by simp
    have HBK : Hid (codeKind ((toks s).getD I default) = k) := hb
    clear h hb h1 h2 hl h33
    go_enter Tryz.func212, Tryz.ntmps212
    go_wp2_with fail
    refine hst.mono ?_
    rintro e w1 ⟨rfl, hs1, hb1⟩
    have HS1 : Hid (CStM s R w1 (I + 1) ms) := hs1
    have HB1 : Hid (KC R w w1) := hb1
    clear hs1 hb1
    go_wp2
    go_ret2
    exact ⟨HB1.out, .inl ⟨HBK.out, rfl, HS1.out⟩⟩
  · have hsk := code_stuck h
    obtain ⟨K, hK⟩ : ∃ K, codeKind ((toks s).getD I default) = K := ⟨_, rfl⟩
    rw [hK] at c1
    have hne : ((K : Int) != (k : Int)) = true := bne_iff_ne.2 (by omega)
    have HBK : Hid (codeKind ((toks s).getD I default) ≠ k) := hb
    clear h hb h1 h2 hK
    go_enter Tryz.func212, Tryz.ntmps212
    go_wp2_with fail
    refine hsk.mono ?_
    rintro e w1 ⟨b1, rfl, hbl, hbk⟩
    have HQ : Hid _ := And.intro hbl hbk
    clear hbl hbk hsk
    go_wp2
    go_ret2
    exact ⟨KC.of_below HQ.out.1 hlR, .inr ⟨HBK.out, _, rfl, HQ.out.2⟩⟩

set_option maxRecDepth 1000000 in
theorem code_isKind (b : ByteArray) (w : World) : Calls Tryz.prog 152 #[.string b] w fun e w' => e = .returned (.bool (isMeasure b)) ∧ w' = w := by
  go_enter Tryz.func152, Tryz.ntmps152
  go_wp2
  all_goals (go_ret; exact ⟨by first | (rw [isMeasure_or]; simp [*]; done) | (rw [isMeasure_or]; simp_all; done), rfl⟩)
end
end Go.Proofs.YtihmgoahobbdkaaGreatDoor
