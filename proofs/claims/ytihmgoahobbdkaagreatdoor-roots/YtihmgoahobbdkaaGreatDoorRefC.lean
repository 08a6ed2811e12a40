/-
  THE REFERENCE's NAMES: letter, word; what they read of the library's tables.
-/
import Derived.Test.YtihmgoahobbdkaaGreatDoorRefB
import Derived.Test.YtihmgoahobbdkaaGreatDoorShelf
import Derived.Test.YtihmgoahobbdkaaGreatDoorSpecTok
import Derived.Lib.TrimU
import Derived.Lib.RuneCountTail
import Derived.Lib.QuoteLoop
import Derived.Deep.DeepFit
namespace Go.Proofs.YtihmgoahobbdkaaGreatDoor
open Go.RowKit Go.Lib

/-- The library's tables, as they are laid. -/
structure Tabs (w : World) : Prop where
  utf : Utf8Tabs 9 10 w
  props : TabIs Tryz.prog w "unicode.properties" .u8 propertiesTab
  letter : RVar 12 letterT w
  digit : RVar 13 digitT w
theorem Tryz.gProps : Tryz.prog.globalNamed "unicode.properties" = some 11 := by kernel_rfl
theorem Tabs.below {w w' : World} (h : Tabs w) (hb : Below w.heap.size w w') : Tabs w' :=
  ⟨⟨fun c hc => cell_below hb (h.utf.1 c hc), fun i hi => ⟨cell_below hb (h.utf.2 i hi).1, cell_below hb (h.utf.2 i hi).2⟩⟩, TabIs_below Tryz.gProps h.props hb, RVar_below h.letter hb, RVar_below h.digit hb⟩

theorem below_size {w w' w'' : World} (h : Below w.heap.size w w') (k : Below w'.heap.size w' w'') : Below w.heap.size w w'' := h.trans (k.mono h.size)

set_option maxRecDepth 100000 in
theorem ref_letter (r : Nat) (hr : r ≤ 1114111) (first : Bool) (w : World) (hT : Tabs w) :
    Calls Tryz.prog 73 #[.int .i32 r, .bool first] w fun e w' => e = .returned (.bool (namePart first r)) ∧ Below w.heap.size w w' := by
  have hl := fun W hW => Tryz.unicode_IsLetter_all r W (by omega) (by omega) (Tabs.props (Tabs.below hT hW)) (Tabs.letter (Tabs.below hT hW))
  have hd := fun W hW => Tryz.unicode_IsDigit_all r W (by omega) (by omega) (Tabs.digit (Tabs.below hT hW))
  have hN : namePart first r = (isLetterU r || (isDigitU r && !first)) := rfl
  rw [hN]
  clear hN
  generalize isLetterU (r : Int) = A at hl ⊢
  generalize isDigitU (r : Int) = B at hd ⊢
  go_enter Tryz.func73, Tryz.ntmps73
  go_wp2_with fail
  refine (hl w (Below.refl _ _)).mono ?_
  rintro e w1 ⟨rfl, hb1⟩
  go_wp2_with fail
  refine (hd w1 hb1).mono ?_
  rintro e w2 ⟨rfl, hb2⟩
  have hb3 := below_size hb1 hb2
  clear hl hd hb1 hb2
  cases A <;> cases B <;> cases first
  all_goals go_wp2
  all_goals go_ret
  all_goals exact ⟨rfl, hb3⟩

theorem decodeGo_rest {s : ByteArray} {i : Nat} (h : i < s.size) : decodeGo (s.extract i s.size) = Utf8.decode s i := by
  unfold decodeGo
  rw [if_neg (by simp; omega), tail_decode]
  simp

set_option maxRecDepth 100000 in
theorem ref_word (s : ByteArray) (i0 : Nat) (hs : s.size ≤ 1000) (hi0 : i0 ≤ s.size) (w : World) (hT : Tabs w) :
    Calls Tryz.prog 45 #[.string s, .int .i64 i0] w fun e w' => e = .returned (.tuple #[.int .i64 (wordEnd s i0).1, .int .i64 (wordEnd s i0).2]) ∧ Below w.heap.size w w' := by
  have HT : Hid (Tabs w) := hT
  clear hT
  go_enter Tryz.func45, Tryz.ntmps45
  go_wp2_with fail
  go_loopw [1, 6] (fun i n wr => ∃ k c : Nat, k ≤ s.size ∧ c ≤ k ∧ i = .int .i64 k ∧ n = .int .i64 c ∧ Hid (wordFrom s (s.size - k) k c = wordEnd s i0) ∧ Hid (Below w.heap.size w wr))
                 (fun i _ _ => s.size - (intOf i).toNat)
  case atStart => exact ⟨i0, 0, hi0, Nat.zero_le _, rfl, rfl, rfl, Below.refl _ _⟩
  case round =>
    obtain ⟨k, c, hk, hc, rfl, rfl, HE, HB⟩ := hrel
    rcases Nat.lt_or_ge k s.size with h8 | h8
    · have HT1 := HT.out.below HB.out
      have hle := decode_le h8
      have hpos := Lib.width_pos s k
      have hrl := Lib.rune_le s k
      have hdec := Tryz.utf8_DecodeRuneInString (s.extract k s.size) wr HT1.utf
      rw [decodeGo_rest h8] at hdec
      have HE' : Hid ((if namePart (c == 0) (Utf8.decode s k).1 = true then wordFrom s (s.size - (k + (Utf8.decode s k).2)) (k + (Utf8.decode s k).2) (c + 1) else (k, c)) = wordEnd s i0) := by
        rw [← HE.out]
        obtain ⟨f, hf⟩ : ∃ f, s.size - k = f + 1 := ⟨s.size - k - 1, by omega⟩
        rw [hf, wordFrom]
        simp only [h8, true_and]
        split
        · exact wordFrom_fuel s _ _ _ _ (by omega) (by omega)
        · rfl
      generalize (Utf8.decode s k).1 = r at *
      generalize (Utf8.decode s k).2 = d at *
      clear HE
      go_wp2_with fail
      refine hdec.mono ?_
      rintro e w1 ⟨rfl, hb1⟩
      have hlt := ref_letter r hrl ((c : Int) == 0) w1 (HT1.below hb1)
      have ec : (c == 0) = ((c : Int) == 0) := by rw [Bool.eq_iff_iff]; simp
      rw [ec] at HE'
      clear ec
      clear hdec
      go_wp2_with fail
      go_fit hlt
      rintro e w2 ⟨rfl, hb2⟩
      have HB2 : Hid (Below w.heap.size w w2) := below_size (below_size HB.out hb1) hb2
      clear hlt hb1 hb2 HB HT1
      generalize namePart ((c : Int) == 0) r = np at *
      cases np
      · go_wp2
        go_ret2
        have e := HE'.out
        simp at e
        rw [← e]
        exact ⟨rfl, HB2.out⟩
      · go_wp2
        go_roundw
        case rel => exact ⟨k + d, c + 1, by omega, by omega, by go_num, by go_num, HE'.out, HB2⟩
        case measure => simp [intOf]; omega
    · obtain rfl : k = s.size := by omega
      go_wp2
      go_ret2
      have e := HE.out
      simp [wordFrom] at e
      rw [← e]
      exact ⟨rfl, HB.out⟩
end Go.Proofs.YtihmgoahobbdkaaGreatDoor
