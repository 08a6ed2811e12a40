/-
  THE PROGRAM's TOKENS: isDigit, isNamePart, limited, run, WALKED.
-/
import Derived.Test.YtihmgoahobbdkaaGreatDoorRefC
import Derived.Shelf.Strings.FuncGrows
namespace Go.Proofs.YtihmgoahobbdkaaGreatDoor
open Go.RowKit Go.Lib

def digR (x : Nat) : Bool := decide (48 ≤ x) && decide (x ≤ 57)
def partR (x : Nat) : Bool := isLetterU x || isDigitU x

set_option maxRecDepth 100000 in
theorem code_isDigit (x : Nat) (w : World) : Calls Tryz.prog 129 #[.int .i32 x] w fun e w' => e = .returned (.bool (digR x)) ∧ Below w.heap.size w w' := by
  have hcs : (digR x = true ∧ (48 : Int) ≤ (x : Int) ∧ (x : Int) ≤ 57) ∨ (digR x = false ∧ (48 : Int) ≤ (x : Int) ∧ ¬ (x : Int) ≤ 57) ∨ (digR x = false ∧ ¬ (48 : Int) ≤ (x : Int)) := by
    simp [digR]
    omega
  rcases hcs with ⟨e, q1, q2⟩ | ⟨e, q1, q2⟩ | ⟨e, q1⟩
  all_goals
    rw [e]
    clear e
    go_enter Tryz.func129, Tryz.ntmps129
    go_wp2
    go_ret
    exact ⟨rfl, Below.refl _ _⟩

set_option maxRecDepth 100000 in
theorem code_isNamePart (x : Nat) (hx : x ≤ 1114111) (w : World) (hT : Tabs w) : Calls Tryz.prog 132 #[.int .i32 x] w fun e w' => e = .returned (.bool (partR x)) ∧ Below w.heap.size w w' := by
  have hl := Tryz.unicode_IsLetter_all x w (by omega) (by omega) hT.props hT.letter
  have hd := fun W hW => Tryz.unicode_IsDigit_all x W (by omega) (by omega) (Tabs.digit (Tabs.below hT hW))
  have hN : partR x = (isLetterU x || isDigitU x) := rfl
  rw [hN]
  clear hN
  generalize isLetterU (x : Int) = A at hl ⊢
  generalize isDigitU (x : Int) = B at hd ⊢
  cases A with
  | true =>
    go_enter Tryz.func132, Tryz.ntmps132
    go_wp2_with (first | (go_at_call 103; refine hl.mono ?_; rintro e w1 ⟨rfl, hb1⟩))
    go_ret
    exact ⟨rfl, hb1⟩
  | false =>
    go_enter Tryz.func132, Tryz.ntmps132
    go_wp2_with (first | (go_at_call 103; refine hl.mono ?_; rintro e w1 ⟨rfl, hb1⟩; have hd1 := hd w1 hb1) | (go_at_call 104; refine hd1.mono ?_; rintro e w2 ⟨rfl, hb2⟩))
    go_ret
    exact ⟨by cases B <;> rfl, below_size hb1 hb2⟩

set_option maxRecDepth 100000 in
theorem code_limited (k n m : Nat) (w : World) : Calls Tryz.prog 131 #[.int .i64 k, .int .i64 n, .int .i64 m] w fun e w' => e = .returned (.int .i64 (if m < n then 4 else k : Nat)) ∧ w' = w := by
  by_cases h : m < n
  · have q : (m : Int) < (n : Int) := by omega
    rw [if_pos h]
    go_enter Tryz.func131, Tryz.ntmps131
    go_wp2
    go_ret
    exact ⟨rfl, rfl⟩
  · have q : ¬ (m : Int) < (n : Int) := by omega
    rw [if_neg h]
    go_enter Tryz.func131, Tryz.ntmps131
    go_wp2
    go_ret
    exact ⟨rfl, rfl⟩

/-- What 'run' asks of the function that it is handed. -/
def Fits (g : Nat) (p : Nat → Bool) (w : World) : Prop := (∀ args W, (callFunc g args).run Tryz.prog W = .ok (.enter g args) W) ∧ ∀ (W : World) (x : Nat), x ≤ 1114111 → Below w.heap.size w W → Calls Tryz.prog g #[.int .i32 x] W fun e w' => e = .returned (.bool (p x)) ∧ Below W.heap.size W w'

set_option maxRecDepth 100000 in
theorem code_not (g : Nat) (p : Nat → Bool) (w : World) (hg : Fits g p w) (B : Nat) (W : World) (hb : Below w.heap.size w W) (hB : W.cell? ⟨B, 0, none⟩ = some (.func (.func g) #[] #[])) :
    PredGrows Tryz.prog 169 #[.pointer (some ⟨B, 0, none⟩)] (fun x => !p x) W := by
  intro W1 x hx hb1
  have hc := (hb1.cell (p := ⟨B, 0, none⟩) (World.block_lt_of_cell? _ _ hB)).trans hB
  have hcall := hg.2 W1 x hx (below_size hb hb1)
  have heg := hg.1
  show Calls Tryz.prog 169 #[.int .i32 x, .pointer (some ⟨B, 0, none⟩)] W1 _
  obtain ⟨b, hpx⟩ : ∃ b, p x = b := ⟨_, rfl⟩
  rw [hpx] at hcall
  have HPX : Hid (p x = b) := hpx
  clear hpx
  clear hg hB hb hb1
  go_enter Tryz.func169, Tryz.ntmps169
  go_wp2_with fail
  refine hcall.mono ?_
  rintro e w2 ⟨rfl, hb2⟩
  cases b
  all_goals
    go_wp2
    go_ret
    refine ⟨?_, hb2⟩
    have e := HPX.out
    show _ = Ending.returned (.bool (!p x))
    rw [e]
    rfl

/-- How far the runes of a text go of which p holds. -/
def runIdx (p : Nat → Bool) (t : ByteArray) : Int := idxFunc (fun x => !p x) true t
def runText (p : Nat → Bool) (t : ByteArray) : ByteArray := if runIdx p t < 0 then t else t.extract 0 (runIdx p t).toNat

set_option maxRecDepth 100000 in
theorem code_run (t : ByteArray) (g : Nat) (p : Nat → Bool) (w : World) (hg : Fits g p w) :
    Calls Tryz.prog 130 #[.string t, .func (.func g) #[] #[]] w fun e w' => e = .returned (.string (runText p t)) ∧ Below w.heap.size w w' := by
  have hb0 : Below w.heap.size w (w.alloc (.cells #[.func (.func g) #[] #[]] 221)) := (Below.refl _ _).alloc (Nat.le_refl _) _
  have hC := Tryz.strings_IndexFunc_grows 169 #[.pointer (some ⟨w.heap.size, 0, none⟩)] (enters_of Tryz.func169 (by kernel_rfl) rfl) (fun x => !p x) t (w.alloc (.cells #[.func (.func g) #[] #[]] 221)) (code_not g p w hg w.heap.size _ hb0 (by simp))
  have hr := idxFunc_range (fun x => !p x) true t
  have hR : runText p t = (if runIdx p t < 0 then t else t.extract 0 (runIdx p t).toNat) := rfl
  have hI : runIdx p t = idxFunc (fun x => !p x) true t := rfl
  rw [← hI] at hC hr
  rw [hR]
  clear hI hR hg
  generalize runIdx p t = n at hC hr ⊢
  have HB0 : Hid (Below w.heap.size w (w.alloc (.cells #[.func (.func g) #[] #[]] 221))) := hb0
  clear hb0
  rcases hr with rfl | ⟨h1, h2⟩
  · go_enter Tryz.func130, Tryz.ntmps130
    go_wp2_with (first | (go_at_call 168; refine hC.mono ?_; rintro e w1 ⟨rfl, hb1⟩; have HB1 : Hid (Below w.heap.size w w1) := HB0.out.trans (hb1.mono (by simp)); clear hb1))
    go_ret
    exact ⟨rfl, HB1.out⟩
  · have q1 : ¬ n < 0 := by omega
    have q2 : n ≤ (t.size : Int) := by omega
    rw [if_neg q1]
    go_enter Tryz.func130, Tryz.ntmps130
    go_wp2_with (first | (go_at_call 168; refine hC.mono ?_; rintro e w1 ⟨rfl, hb1⟩; have HB1 : Hid (Below w.heap.size w w1) := HB0.out.trans (hb1.mono (by simp)); clear hb1))
    go_ret
    exact ⟨rfl, HB1.out⟩
end Go.Proofs.YtihmgoahobbdkaaGreatDoor
