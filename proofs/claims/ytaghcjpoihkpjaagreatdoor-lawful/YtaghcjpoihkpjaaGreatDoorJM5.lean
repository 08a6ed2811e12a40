/-
  THE REFERENCE's SMALL FUNCTIONS, WALKED: sign, Measure, number, (*Reader).kind, (*Reader).take.
-/
import Derived.Test.YtaghcjpoihkpjaaGreatDoorProg
import Derived.Test.YtaghcjpoihkpjaaGreatDoorJM3
import Derived.Test.YtaghcjpoihkpjaaGreatDoorJM1
import Derived.Deep.QuietTactic
import Derived.BigQuiet
import Derived.BigRegion
import Derived.Lib.TrimU
import Derived.Lib.QuoteLoop
import Derived.Test.YtaghcjpoihkpjaaGreatDoorShelf
import Derived.Lib.RuneCountTail
import Derived.Deep.DeepFit
import Derived.OwnWalk
import Derived.Shelf.Strings.FuncGrows
namespace Go.Proofs.YtaghcjpoihkpjaaGreatDoor
open Go.RowKit

theorem u8_beq (c d : UInt8) : (c == d) = ((c.toNat : Int) == (d.toNat : Int)) := by
  rw [Bool.eq_iff_iff]
  simp only [beq_iff_eq, ← UInt8.toNat_inj]
  omega
theorem isSign_int (c : UInt8) : isSign c = (((c.toNat : Int) == 63) || ((c.toNat : Int) == 58) || ((c.toNat : Int) == 60) || ((c.toNat : Int) == 62) || ((c.toNat : Int) == 61) || ((c.toNat : Int) == 43) || ((c.toNat : Int) == 45) || ((c.toNat : Int) == 42) || ((c.toNat : Int) == 47) || ((c.toNat : Int) == 40) || ((c.toNat : Int) == 41) || ((c.toNat : Int) == 44)) := by
  unfold isSign
  rw [u8_beq c 63, u8_beq c 58, u8_beq c 60, u8_beq c 62, u8_beq c 61, u8_beq c 43, u8_beq c 45, u8_beq c 42, u8_beq c 47, u8_beq c 40, u8_beq c 41, u8_beq c 44]
  rfl

/-- A token, as a value. -/
abbrev tokenOf (k p : Nat) (t : ByteArray) : Value := .agg #[.int .u8 k, .int .i64 p, .string t]
end Go.Proofs.YtaghcjpoihkpjaaGreatDoor
namespace Go.Proofs.YtaghcjpoihkpjaaGreatDoor
open Go.RowKit

theorem isMeasure_or (b : ByteArray) : isMeasure b = (b.toList == [115, 117, 109] || b.toList == [99, 111, 117, 110, 116] || b.toList == [108, 101, 97, 115, 116] || b.toList == [109, 111, 115, 116] || b.toList == [109, 101, 97, 110] || b.toList == [108, 97, 115, 116]) := by
  simp only [isMeasure, List.contains_eq_any_beq, List.any_cons, List.any_nil, Bool.or_false, Bool.or_assoc]

theorem numOf_snoc (l : List UInt8) (x : UInt8) : numOf (l ++ [x]) = 10 * numOf l + ((x.toNat : Int) - 48) := by simp [numOf]
theorem byte_at {b : ByteArray} {k : Nat} (h : k < b.size) : b.data.toList[k]? = some b[k] := by
  rw [List.getElem?_eq_getElem (by simpa using h)]
  rfl
theorem numOf_take {b : ByteArray} {k : Nat} (h : k < b.size) : numOf (b.data.toList.take (k + 1)) = 10 * numOf (b.data.toList.take k) + ((b[k].toNat : Int) - 48) := by
  rw [List.take_add_one, byte_at h]
  exact numOf_snoc _ _
theorem numOf_lt {b : ByteArray} (hd : ∀ x ∈ b.data.toList, isDig x = true) : ∀ k, k ≤ b.size → 0 ≤ numOf (b.data.toList.take k) ∧ numOf (b.data.toList.take k) < 10 ^ k
  | 0, _ => by simp [numOf]
  | k + 1, h => by
    have h1 := numOf_lt hd k (by omega)
    have h2 := hd _ (List.mem_of_getElem? (byte_at (b := b) (k := k) (by omega)))
    simp [isDig] at h2
    rw [numOf_take (by omega), Int.pow_succ]
    omega
theorem wrap_in {n : Int} (h : -9223372036854775808 ≤ n ∧ n ≤ 9223372036854775807) : wrap64 n = n := by unfold wrap64; omega
theorem pow9 {k : Nat} (h : k ≤ 9) : (10 : Int) ^ k ≤ 1000000000 := by
  have : ∀ k : Fin 10, (10 : Int) ^ k.val ≤ 1000000000 := by decide
  exact this ⟨k, by omega⟩

end Go.Proofs.YtaghcjpoihkpjaaGreatDoor
namespace Go.Proofs.YtaghcjpoihkpjaaGreatDoor
open Go.Lib

theorem decode_le {s : ByteArray} {i : Nat} (h : i < s.size) : i + (Utf8.decode s i).2 ≤ s.size := by
  rw [decode_at]
  have := decodeN_width_le (s.size - i) (s.get! i).toNat (s.get! (i + 1)).toNat (s.get! (i + 2)).toNat (s.get! (i + 3)).toNat (by omega)
  omega
/-- More steps than there are bytes do nothing. -/
theorem wordFrom_fuel (s : ByteArray) : ∀ (f g i n : Nat), s.size - i ≤ f → s.size - i ≤ g → wordFrom s f i n = wordFrom s g i n
  | 0, g, i, n, h, _ => by
    cases g with
    | zero => rfl
    | succ g => simp [wordFrom, show ¬ i < s.size by omega]
  | f + 1, 0, i, n, _, h => by simp [wordFrom, show ¬ i < s.size by omega]
  | f + 1, g + 1, i, n, hf, hg => by
    unfold wordFrom
    split
    · rename_i h
      have := width_pos s i
      exact wordFrom_fuel s f g _ _ (by omega) (by omega)
    · rfl
theorem wordFrom_le (s : ByteArray) : ∀ (f i n : Nat), i ≤ s.size → i ≤ (wordFrom s f i n).1 ∧ (wordFrom s f i n).1 ≤ s.size ∧ n ≤ (wordFrom s f i n).2 ∧ (n < (wordFrom s f i n).2 → i < (wordFrom s f i n).1) ∧ (wordFrom s f i n).2 - n ≤ (wordFrom s f i n).1 - i
  | 0, i, n, h => by simp [wordFrom]; exact h
  | f + 1, i, n, h => by
    unfold wordFrom
    split
    · rename_i hh
      have h1 := width_pos s i
      have h2 := decode_le hh.1
      have := wordFrom_le s f (i + (Utf8.decode s i).2) (n + 1) h2
      omega
    · simp; exact h
theorem digFrom_fuel (s : ByteArray) : ∀ (f g i : Nat), s.size - i ≤ f → s.size - i ≤ g → digFrom s f i = digFrom s g i
  | 0, g, i, h, _ => by
    cases g with
    | zero => rfl
    | succ g => simp [digFrom, show ¬ i < s.size by omega]
  | f + 1, 0, i, _, h => by simp [digFrom, show ¬ i < s.size by omega]
  | f + 1, g + 1, i, hf, hg => by
    unfold digFrom
    split
    · exact digFrom_fuel s f g _ (by omega) (by omega)
    · rfl
theorem digFrom_le (s : ByteArray) : ∀ (f i : Nat), i ≤ s.size → i ≤ digFrom s f i ∧ digFrom s f i ≤ s.size
  | 0, i, h => by simp [digFrom]; exact h
  | f + 1, i, h => by
    unfold digFrom
    split
    · have := digFrom_le s f (i + 1) (by omega)
      omega
    · exact ⟨Nat.le_refl _, h⟩
theorem skipFrom_fuel (s : ByteArray) : ∀ (f g i : Nat), s.size - i ≤ f → s.size - i ≤ g → skipFrom s f i = skipFrom s g i
  | 0, g, i, h, _ => by
    cases g with
    | zero => rfl
    | succ g => simp [skipFrom, show ¬ i < s.size by omega]
  | f + 1, 0, i, _, h => by simp [skipFrom, show ¬ i < s.size by omega]
  | f + 1, g + 1, i, hf, hg => by
    unfold skipFrom
    split
    · exact skipFrom_fuel s f g _ (by omega) (by omega)
    · rfl
theorem skipFrom_le (s : ByteArray) : ∀ (f i : Nat), i ≤ s.size → i ≤ skipFrom s f i ∧ skipFrom s f i ≤ s.size
  | 0, i, h => by simp [skipFrom]; exact h
  | f + 1, i, h => by
    unfold skipFrom
    split
    · have := skipFrom_le s f (i + 1) (by omega)
      omega
    · exact ⟨Nat.le_refl _, h⟩
theorem skip_le {s : ByteArray} {i : Nat} (h : i ≤ s.size) : i ≤ skip s i ∧ skip s i ≤ s.size := skipFrom_le s _ i h
theorem digEnd_le {s : ByteArray} {i : Nat} (h : i ≤ s.size) : i ≤ digEnd s i ∧ digEnd s i ≤ s.size := digFrom_le s _ i h
theorem skip_blank {s : ByteArray} {i : Nat} (h : i < s.size) (hb : blank (byteAt s i) = true) : skip s i = skip s (i + 1) := by
  unfold skip
  obtain ⟨f, hf⟩ : ∃ f, s.size - i = f + 1 := ⟨s.size - i - 1, by omega⟩
  rw [hf, skipFrom, if_pos ⟨h, hb⟩]
  exact skipFrom_fuel s _ _ _ (by omega) (by omega)
theorem skip_here {s : ByteArray} {i : Nat} (hb : blank (byteAt s i) = false) : skip s i = i := by
  unfold skip
  cases h : s.size - i with
  | zero => rfl
  | succ f => rw [skipFrom, if_neg (by simp [hb])]
theorem skip_end (s : ByteArray) : skip s s.size = s.size := by unfold skip; rw [Nat.sub_self]; rfl

/-- A token that is not the last one goes on by a byte at least. -/
theorem tokAt_stop {s : ByteArray} {i : Nat} (hi : i ≤ s.size) (h : (tokAt s i).last = false) : i < (tokAt s i).stop ∧ (tokAt s i).stop ≤ s.size ∧ i < s.size ∧ (tokAt s i).pos = i := by
  revert h
  unfold tokAt
  have h1 := digEnd_le hi
  have h2 := wordFrom_le s (s.size - i) i 0 hi
  repeat' split
  all_goals simp only [Tok.last] <;> simp
  · intro _; omega
  · omega
  · rename_i h3; unfold wordEnd at h3 ⊢; omega
theorem tokFrom_stop {s : ByteArray} {i : Nat} (hi : i ≤ s.size) (h : (tokFrom s i).last = false) : i < (tokFrom s i).stop ∧ (tokFrom s i).stop ≤ s.size := by
  have h1 := skip_le hi
  have := tokAt_stop h1.2 h
  unfold tokFrom
  omega
theorem toksFrom_fuel (s : ByteArray) : ∀ (f g i : Nat), i ≤ s.size → s.size - i ≤ f → s.size - i ≤ g → toksFrom s f i = toksFrom s g i := by
  have last : ∀ f, toksFrom s f s.size = [tokFrom s s.size] := by
    intro f
    have h : (tokFrom s s.size).last = true := by
      unfold tokFrom
      rw [skip_end]
      simp [tokAt, Tok.last]
    cases f with
    | zero => rfl
    | succ f => rw [toksFrom, if_pos h]
  intro f
  induction f with
  | zero =>
    intro g i hi h _
    obtain rfl : i = s.size := by omega
    rw [last, last]
  | succ f ih =>
    intro g i hi hf hg
    cases g with
    | zero =>
      obtain rfl : i = s.size := by omega
      rw [last, last]
    | succ g =>
      rw [toksFrom, toksFrom]
      cases h : (tokFrom s i).last with
      | true => rfl
      | false =>
        have := tokFrom_stop hi h
        simp only [Bool.false_eq_true, if_false]
        rw [ih g _ this.2 (by omega) (by omega)]
/-- The tokens from place i on. -/
def toksAt (s : ByteArray) (i : Nat) : List Tok := toksFrom s (s.size - i) i
theorem toks_at (s : ByteArray) : toks s = toksAt s 0 := rfl
theorem toksAt_last {s : ByteArray} {i : Nat} (h : (tokFrom s i).last = true) : toksAt s i = [tokFrom s i] := by
  unfold toksAt
  cases s.size - i with
  | zero => rfl
  | succ f => rw [toksFrom, if_pos h]
theorem toksAt_cons {s : ByteArray} {i : Nat} (hi : i ≤ s.size) (h : (tokFrom s i).last = false) : toksAt s i = tokFrom s i :: toksAt s (tokFrom s i).stop := by
  have h1 := tokFrom_stop hi h
  unfold toksAt
  obtain ⟨f, hf⟩ : ∃ f, s.size - i = f + 1 := ⟨s.size - i - 1, by omega⟩
  rw [hf, toksFrom, h]
  simp only [Bool.false_eq_true, if_false]
  rw [toksFrom_fuel s f _ _ h1.2 (by omega) (Nat.le_refl _)]
theorem toksAt_blank {s : ByteArray} {i : Nat} (hi : i < s.size) (hb : blank (byteAt s i) = true) : toksAt s i = toksAt s (i + 1) := by
  have e : tokFrom s i = tokFrom s (i + 1) := by unfold tokFrom; rw [skip_blank hi hb]
  cases h : (tokFrom s i).last with
  | true => rw [toksAt_last h, toksAt_last (e ▸ h), e]
  | false =>
    have h' : (tokFrom s (i + 1)).last = false := e ▸ h
    rw [toksAt_cons (i := i) (by omega) h, toksAt_cons (i := i + 1) (by omega) h', e]
end Go.Proofs.YtaghcjpoihkpjaaGreatDoor
namespace Go.Proofs.YtaghcjpoihkpjaaGreatDoor
open Go.RowKit Go.Lib

/-- The library's tables, as they are laid. -/
structure Tabs (w : World) : Prop where
  utf : Utf8Tabs 11 12 w
  props : TabIs Tryz.prog w "unicode.properties" .u8 propertiesTab
  letter : RVar 10 letterT w
  digit : RVar 13 digitT w
theorem Tryz.gProps : Tryz.prog.globalNamed "unicode.properties" = some 9 := by kernel_rfl
theorem Tabs.below {w w' : World} (h : Tabs w) (hb : Below w.heap.size w w') : Tabs w' :=
  ⟨⟨fun c hc => cell_below hb (h.utf.1 c hc), fun i hi => ⟨cell_below hb (h.utf.2 i hi).1, cell_below hb (h.utf.2 i hi).2⟩⟩, TabIs_below Tryz.gProps h.props hb, RVar_below h.letter hb, RVar_below h.digit hb⟩

theorem below_size {w w' w'' : World} (h : Below w.heap.size w w') (k : Below w'.heap.size w' w'') : Below w.heap.size w w'' := h.trans (k.mono h.size)

theorem decodeGo_rest {s : ByteArray} {i : Nat} (h : i < s.size) : decodeGo (s.extract i s.size) = Utf8.decode s i := by
  unfold decodeGo
  rw [if_neg (by simp; omega), tail_decode]
  simp

end Go.Proofs.YtaghcjpoihkpjaaGreatDoor
namespace Go.Proofs.YtaghcjpoihkpjaaGreatDoor
open Go.RowKit Go.Lib

/-- A token's cells. -/
def tokCells (s : ByteArray) (t : Tok) : List Value := [.int .u8 t.kind, .int .i64 t.pos, .string (t.text s)]
def toksCells (s : ByteArray) (l : List Tok) : List Value := l.flatMap (tokCells s)
theorem toksCells_snoc (s : ByteArray) (l : List Tok) (t : Tok) : toksCells s (l ++ [t]) = toksCells s l ++ tokCells s t := by simp [toksCells]

theorem byteAt_get {s : ByteArray} {i : Nat} (h : i < s.size) : byteAt s i = s[i] := by
  unfold byteAt
  rw [byte_at h]
  rfl
theorem cell_three_new (w : World) (a b c : Value) (t : TypeId) : ∀ j u, [a, b, c][j]? = some u → (w.alloc (.cells #[a, b, c] t)).cell? ((⟨w.heap.size, 0, none⟩ : Addr).add j) = some u := by
  intro j u hj
  match j, hj with
  | 0, hj => simp at hj; subst hj; simp [Addr.add]
  | 1, hj => simp at hj; subst hj; simp [Addr.add]
  | 2, hj => simp at hj; subst hj; simp [Addr.add]
  | (j + 3), hj => simp at hj

theorem extract_nil (s : ByteArray) (i : Nat) : s.extract i i = { data := #[] } := by
  ext1
  simp

theorem sign_last {c : UInt8} {p q : Nat} (h : isSign c = true) : (⟨c.toNat, p, q⟩ : Tok).last = false := by
  rw [isSign_int] at h
  simp only [Bool.or_eq_true, beq_iff_eq] at h
  simp only [Tok.last, Bool.or_eq_false_iff, beq_eq_false_iff_ne]
  omega

end Go.Proofs.YtaghcjpoihkpjaaGreatDoor
namespace Go.Proofs.YtaghcjpoihkpjaaGreatDoor
open Go.RowKit Go.Lib

def digR (x : Nat) : Bool := decide (48 ≤ x) && decide (x ≤ 57)
def partR (x : Nat) : Bool := isLetterU x || isDigitU x

set_option maxRecDepth 100000 in
theorem code_isDigit (x : Nat) (w : World) : Calls Tryz.prog 101 #[.int .i32 x] w fun e w' => e = .returned (.bool (digR x)) ∧ Below w.heap.size w w' := by
  have hcs : (digR x = true ∧ (48 : Int) ≤ (x : Int) ∧ (x : Int) ≤ 57) ∨ (digR x = false ∧ (48 : Int) ≤ (x : Int) ∧ ¬ (x : Int) ≤ 57) ∨ (digR x = false ∧ ¬ (48 : Int) ≤ (x : Int)) := by
    simp [digR]
    omega
  rcases hcs with ⟨e, q1, q2⟩ | ⟨e, q1, q2⟩ | ⟨e, q1⟩
  all_goals
    rw [e]
    clear e
    go_enter Tryz.func101, Tryz.ntmps101
    go_wp2
    go_ret
    exact ⟨rfl, Below.refl _ _⟩

set_option maxRecDepth 100000 in
theorem code_isNamePart (x : Nat) (hx : x ≤ 1114111) (w : World) (hT : Tabs w) : Calls Tryz.prog 105 #[.int .i32 x] w fun e w' => e = .returned (.bool (partR x)) ∧ Below w.heap.size w w' := by
  have hl := Tryz.unicode_IsLetter_all x w (by omega) (by omega) hT.props hT.letter
  have hd := fun W hW => Tryz.unicode_IsDigit_all x W (by omega) (by omega) (Tabs.digit (Tabs.below hT hW))
  have hN : partR x = (isLetterU x || isDigitU x) := rfl
  rw [hN]
  clear hN
  generalize isLetterU (x : Int) = A at hl ⊢
  generalize isDigitU (x : Int) = B at hd ⊢
  cases A with
  | true =>
    go_enter Tryz.func105, Tryz.ntmps105
    go_wp2_with (first | (go_at_call 104; refine hl.mono ?_; rintro e w1 ⟨rfl, hb1⟩))
    go_ret
    exact ⟨rfl, hb1⟩
  | false =>
    go_enter Tryz.func105, Tryz.ntmps105
    go_wp2_with (first | (go_at_call 104; refine hl.mono ?_; rintro e w1 ⟨rfl, hb1⟩; have hd1 := hd w1 hb1) | (go_at_call 152; refine hd1.mono ?_; rintro e w2 ⟨rfl, hb2⟩))
    go_ret
    exact ⟨by cases B <;> rfl, below_size hb1 hb2⟩

set_option maxRecDepth 100000 in
theorem code_limited (k n m : Nat) (w : World) : Calls Tryz.prog 103 #[.int .i64 k, .int .i64 n, .int .i64 m] w fun e w' => e = .returned (.int .i64 (if m < n then 4 else k : Nat)) ∧ w' = w := by
  by_cases h : m < n
  · have q : (m : Int) < (n : Int) := by omega
    rw [if_pos h]
    go_enter Tryz.func103, Tryz.ntmps103
    go_wp2
    go_ret
    exact ⟨rfl, rfl⟩
  · have q : ¬ (m : Int) < (n : Int) := by omega
    rw [if_neg h]
    go_enter Tryz.func103, Tryz.ntmps103
    go_wp2
    go_ret
    exact ⟨rfl, rfl⟩

/-- What 'run' asks of the function that it is handed. -/
def Fits (g : Nat) (p : Nat → Bool) (w : World) : Prop := (∀ args W, (callFunc g args).run Tryz.prog W = .ok (.enter g args) W) ∧ ∀ (W : World) (x : Nat), x ≤ 1114111 → Below w.heap.size w W → Calls Tryz.prog g #[.int .i32 x] W fun e w' => e = .returned (.bool (p x)) ∧ Below W.heap.size W w'

set_option maxRecDepth 100000 in
theorem code_not (g : Nat) (p : Nat → Bool) (w : World) (hg : Fits g p w) (B : Nat) (W : World) (hb : Below w.heap.size w W) (hB : W.cell? ⟨B, 0, none⟩ = some (.func (.func g) #[] #[])) :
    PredGrows Tryz.prog 150 #[.pointer (some ⟨B, 0, none⟩)] (fun x => !p x) W := by
  intro W1 x hx hb1
  have hc := (hb1.cell (p := ⟨B, 0, none⟩) (World.block_lt_of_cell? _ _ hB)).trans hB
  have hcall := hg.2 W1 x hx (below_size hb hb1)
  have heg := hg.1
  show Calls Tryz.prog 150 #[.int .i32 x, .pointer (some ⟨B, 0, none⟩)] W1 _
  obtain ⟨b, hpx⟩ : ∃ b, p x = b := ⟨_, rfl⟩
  rw [hpx] at hcall
  have HPX : Hid (p x = b) := hpx
  clear hpx
  clear hg hB hb hb1
  go_enter Tryz.func150, Tryz.ntmps150
  go_wp2_with fail
  refine hcall.mono ?_
  rintro e w2 ⟨rfl, hb2⟩
  cases b
  all_goals
    go_wp2
    go_ret
    refine ⟨?_, hb2⟩
    have e := HPX.out
    show _ = Ending.returned (.bool (!p x))
    rw [e]
    rfl

/-- How far the runes of a text go of which p holds. -/
def runIdx (p : Nat → Bool) (t : ByteArray) : Int := idxFunc (fun x => !p x) true t
def runText (p : Nat → Bool) (t : ByteArray) : ByteArray := if runIdx p t < 0 then t else t.extract 0 (runIdx p t).toNat

set_option maxRecDepth 100000 in
theorem code_run (t : ByteArray) (g : Nat) (p : Nat → Bool) (w : World) (hg : Fits g p w) :
    Calls Tryz.prog 102 #[.string t, .func (.func g) #[] #[]] w fun e w' => e = .returned (.string (runText p t)) ∧ Below w.heap.size w w' := by
  have hb0 : Below w.heap.size w (w.alloc (.cells #[.func (.func g) #[] #[]] 242)) := (Below.refl _ _).alloc (Nat.le_refl _) _
  have hC := Tryz.strings_IndexFunc_grows 150 #[.pointer (some ⟨w.heap.size, 0, none⟩)] (enters_of Tryz.func150 (by kernel_rfl) rfl) (fun x => !p x) t (w.alloc (.cells #[.func (.func g) #[] #[]] 242)) (code_not g p w hg w.heap.size _ hb0 (by simp))
  have hr := idxFunc_range (fun x => !p x) true t
  have hR : runText p t = (if runIdx p t < 0 then t else t.extract 0 (runIdx p t).toNat) := rfl
  have hI : runIdx p t = idxFunc (fun x => !p x) true t := rfl
  rw [← hI] at hC hr
  rw [hR]
  clear hI hR hg
  generalize runIdx p t = n at hC hr ⊢
  have HB0 : Hid (Below w.heap.size w (w.alloc (.cells #[.func (.func g) #[] #[]] 242))) := hb0
  clear hb0
  rcases hr with rfl | ⟨h1, h2⟩
  · go_enter Tryz.func102, Tryz.ntmps102
    go_wp2_with (first | (go_at_call 149; refine hC.mono ?_; rintro e w1 ⟨rfl, hb1⟩; have HB1 : Hid (Below w.heap.size w w1) := HB0.out.trans (hb1.mono (by simp)); clear hb1))
    go_ret
    exact ⟨rfl, HB1.out⟩
  · have q1 : ¬ n < 0 := by omega
    have q2 : n ≤ (t.size : Int) := by omega
    rw [if_neg q1]
    go_enter Tryz.func102, Tryz.ntmps102
    go_wp2_with (first | (go_at_call 149; refine hC.mono ?_; rintro e w1 ⟨rfl, hb1⟩; have HB1 : Hid (Below w.heap.size w w1) := HB0.out.trans (hb1.mono (by simp)); clear hb1))
    go_ret
    exact ⟨rfl, HB1.out⟩
end Go.Proofs.YtaghcjpoihkpjaaGreatDoor
namespace Go.Proofs.YtaghcjpoihkpjaaGreatDoor
open Go.Lib

/-- Where the runes of which p holds end. -/
def endFrom (p : Nat → Bool) (s : ByteArray) : Nat → Nat → Nat
  | 0, k => k
  | f + 1, k => if k < s.size ∧ p (Utf8.decode s k).1 = true then endFrom p s f (k + (Utf8.decode s k).2) else k
theorem endFrom_le (p : Nat → Bool) (s : ByteArray) : ∀ f k, k ≤ s.size → k ≤ endFrom p s f k ∧ endFrom p s f k ≤ s.size
  | 0, k, h => ⟨Nat.le_refl _, h⟩
  | f + 1, k, h => by
    unfold endFrom
    split
    · rename_i hh
      have h1 := width_pos s k
      have h2 := decode_le hh.1
      have := endFrom_le p s f (k + (Utf8.decode s k).2) h2
      omega
    · exact ⟨Nat.le_refl _, h⟩
theorem idx_end (p : Nat → Bool) (s : ByteArray) (i : Nat) (hi : i ≤ s.size) : ∀ f pos, i + pos ≤ s.size → s.size - (i + pos) ≤ f →
    idxFuncFrom (fun x => !p x) true (s.extract i s.size) f pos = if endFrom p s f (i + pos) < s.size then ((endFrom p s f (i + pos) - i : Nat) : Int) else -1
  | 0, pos, h1, h2 => by
    rw [show endFrom p s 0 (i + pos) = i + pos from rfl, if_neg (by omega)]
    rfl
  | f + 1, pos, h1, h2 => by
    unfold idxFuncFrom endFrom
    rw [tail_size, tail_decode]
    by_cases hlt : i + pos < s.size
    · rw [if_pos (by omega)]
      cases hp : p (Utf8.decode s (i + pos)).1 with
      | true =>
        have w1 := width_pos s (i + pos)
        have w2 := decode_le hlt
        simp only [Bool.not_true, Bool.false_eq_true, if_false, hlt, true_and, if_true]
        rw [idx_end p s i hi f (pos + (Utf8.decode s (i + pos)).2) (by omega) (by omega)]
        simp only [Nat.add_assoc]
      | false =>
        simp only [Bool.not_false, if_true, hlt, Bool.false_eq_true, and_false, if_false]
        congr 1
        omega
    · rw [if_neg (by omega), if_neg (show ¬ (i + pos < s.size ∧ _) from fun h => hlt h.1), if_neg hlt]
theorem extract_sub (s : ByteArray) (i e : Nat) (he : e ≤ s.size) (hi : i ≤ e) : (s.extract i s.size).extract 0 (e - i) = s.extract i e := by
  apply ByteArray.ext
  simp only [ByteArray.data_extract, Array.extract_extract]
  congr 1 <;> omega
theorem run_end (p : Nat → Bool) (s : ByteArray) (i : Nat) (hi : i ≤ s.size) : runText p (s.extract i s.size) = s.extract i (endFrom p s (s.size - i) i) := by
  have h := idx_end p s i hi (s.size - i) 0 (by omega) (by omega)
  have hle := endFrom_le p s (s.size - i) i hi
  unfold runText runIdx idxFunc
  rw [tail_size, h]
  simp only [Nat.add_zero]
  split
  · rw [if_neg (by omega), Int.toNat_natCast, extract_sub s i _ (by omega) hle.1]
  · rename_i h
    rw [if_pos (by omega)]
    congr 1
    omega

theorem byteAt_elem {s : ByteArray} {i : Nat} (h : i < s.size) : byteAt s i = s[i] := by
  unfold byteAt
  rw [byte_at h]
  rfl
theorem dec_digit {s : ByteArray} {k : Nat} (h : k < s.size) : digR (Utf8.decode s k).1 = isDig (byteAt s k) ∧ (isDig (byteAt s k) = true → (Utf8.decode s k).2 = 1) := by
  rw [byteAt_elem h]
  rcases Nat.lt_or_ge s[k].toNat 128 with ha | ha
  · rw [decode_ascii s k h ha]
    exact ⟨rfl, fun _ => rfl⟩
  · have := (decode_high s k h ha).1
    have e1 : digR (Utf8.decode s k).1 = false := by simp [digR]; omega
    have e2 : isDig s[k] = false := by simp [isDig]; omega
    rw [e1, e2]
    exact ⟨rfl, fun h => by cases h⟩
theorem end_digits (s : ByteArray) : ∀ f k, endFrom digR s f k = digFrom s f k
  | 0, _ => rfl
  | f + 1, k => by
    unfold endFrom digFrom
    by_cases h : k < s.size
    · obtain ⟨h1, h2⟩ := dec_digit h
      rw [h1]
      cases hd : isDig (byteAt s k) with
      | true => simp only [h, true_and, if_true]; rw [h2 hd, end_digits s f (k + 1)]
      | false => simp
    · simp [h]
/-- Behind the first rune a name goes on as far as its parts do. -/
theorem end_word (s : ByteArray) : ∀ f k n, 0 < n → (wordFrom s f k n).1 = endFrom partR s f k
  | 0, _, _, _ => rfl
  | f + 1, k, n, hn => by
    unfold wordFrom endFrom
    have e : namePart (n == 0) (Utf8.decode s k).1 = partR (Utf8.decode s k).1 := by
      have : (n == 0) = false := by simp; omega
      rw [this]
      simp [namePart, partR]
    rw [e]
    split
    · exact end_word s f _ (n + 1) (by omega)
    · rfl
theorem word_first {s : ByteArray} {i : Nat} (h : i < s.size) (hl : isLetterU (Utf8.decode s i).1 = true) : (wordEnd s i).1 = endFrom partR s (s.size - i) i ∧ 0 < (wordEnd s i).2 := by
  obtain ⟨f, hf⟩ : ∃ f, s.size - i = f + 1 := ⟨s.size - i - 1, by omega⟩
  have h1 : namePart (0 == 0) (Utf8.decode s i).1 = true := by simp [namePart, hl]
  have h2 : partR (Utf8.decode s i).1 = true := by simp [partR, hl]
  unfold wordEnd
  rw [hf]
  unfold wordFrom endFrom
  rw [if_pos ⟨h, h1⟩, if_pos ⟨h, h2⟩]
  refine ⟨end_word s f _ 1 (by omega), ?_⟩
  have := wordFrom_le s f (i + (Utf8.decode s i).2) (0 + 1) (decode_le h)
  omega
theorem word_none {s : ByteArray} {i : Nat} (h : i < s.size) (hl : isLetterU (Utf8.decode s i).1 = false) : (wordEnd s i).2 = 0 := by
  obtain ⟨f, hf⟩ : ∃ f, s.size - i = f + 1 := ⟨s.size - i - 1, by omega⟩
  unfold wordEnd
  rw [hf]
  unfold wordFrom
  rw [if_neg (by simp [namePart, hl])]

set_option maxRecDepth 100000 in
set_option maxHeartbeats 4000000 in
/-- What is cut off behind a rune does not change it. -/
theorem decodeN_cut (n m b0 b1 b2 b3 c1 c2 c3 : Nat) (hm : m ≤ n) (hw : (decodeN n b0 b1 b2 b3).2 ≤ m) (h1 : 1 < m → c1 = b1) (h2 : 2 < m → c2 = b2) (h3 : 3 < m → c3 = b3) : decodeN m b0 c1 c2 c3 = decodeN n b0 b1 b2 b3 := by
  revert hw
  have hcs : m = 0 ∨ m = 1 ∨ m = 2 ∨ m = 3 ∨ 3 < m := by omega
  rcases hcs with rfl | rfl | rfl | rfl | h
  · have := decodeN_ge1 n b0 b1 b2 b3; omega
  · unfold decodeN; intro hw; repeat' split at hw
    all_goals (repeat' split) <;> first | rfl | (exfalso; omega) | omega
  · obtain rfl := h1 (by omega)
    unfold decodeN; intro hw; repeat' split at hw
    all_goals (repeat' split) <;> first | rfl | (exfalso; omega) | omega
  · obtain rfl := h1 (by omega)
    obtain rfl := h2 (by omega)
    unfold decodeN; intro hw; repeat' split at hw
    all_goals (repeat' split) <;> first | rfl | (exfalso; omega) | omega
  · obtain rfl := h1 (by omega)
    obtain rfl := h2 (by omega)
    obtain rfl := h3 (by omega)
    unfold decodeN; intro hw; repeat' split at hw
    all_goals (repeat' split) <;> first | rfl | (exfalso; omega) | omega
theorem get_head (s : ByteArray) (e j : Nat) (hj : j < e) : (s.extract 0 e).get! j = s.get! j := by
  rw [← getD_get!', ← getD_get!']
  simp [ByteArray.data_extract, List.getD, hj]
theorem decode_head (s : ByteArray) (e k : Nat) (he : e ≤ s.size) (hk : k < e) (hw : k + (Utf8.decode s k).2 ≤ e) : Utf8.decode (s.extract 0 e) k = Utf8.decode s k := by
  have hsz : (s.extract 0 e).size = e := by simp; omega
  rw [decode_at] at hw
  rw [decode_at, decode_at, hsz, get_head s e k hk]
  refine decodeN_cut (s.size - k) (e - k) _ _ _ _ _ _ _ (by omega) (by omega) (fun h => ?_) (fun h => ?_) (fun h => ?_)
  · rw [get_head s e (k + 1) (by omega)]
  · rw [get_head s e (k + 2) (by omega)]
  · rw [get_head s e (k + 3) (by omega)]
/-- The runes of a name, counted by the library. -/
theorem count_word (s : ByteArray) (i : Nat) : ∀ f k n, i ≤ k → k ≤ s.size → s.size - k ≤ f → 0 < n ∨ True → ∀ e, (wordFrom s f k n).1 = e → e ≤ s.size → runeCountFrom ((s.extract i s.size).extract 0 (e - i)) f (k - i) = (wordFrom s f k n).2 - n
  | 0, k, n, _, _, _, _, e, he, _ => by simp [wordFrom, runeCountFrom]
  | f + 1, k, n, h1, h2, h3, _, e, he, h5 => by
    revert he
    unfold wordFrom runeCountFrom
    have hsz : ((s.extract i s.size).extract 0 (e - i)).size = e - i := by simp; omega
    rw [hsz]
    split
    · rename_i hh
      intro he
      have w1 := width_pos s k
      have w2 := decode_le hh.1
      have hl := wordFrom_le s f (k + (Utf8.decode s k).2) (n + 1) w2
      have hd : Utf8.decode ((s.extract i s.size).extract 0 (e - i)) (k - i) = Utf8.decode s k := by
        have e1 : Utf8.decode (s.extract i s.size) (k - i) = Utf8.decode s k := by rw [tail_decode]; congr 1; omega
        rw [decode_head (s.extract i s.size) (e - i) (k - i) (by rw [tail_size]; omega) (by omega) (by rw [e1]; omega), e1]
      rw [if_pos (by omega), hd]
      have ih := count_word s i f (k + (Utf8.decode s k).2) (n + 1) (by omega) w2 (by omega) (.inr trivial) e he h5
      rw [show k + (Utf8.decode s k).2 - i = k - i + (Utf8.decode s k).2 by omega] at ih
      rw [ih]
      omega
    · intro he
      simp only at he
      rw [if_neg (by omega)]
      simp
end Go.Proofs.YtaghcjpoihkpjaaGreatDoor
