/-
  WHAT A TEXT COMES TO, part by part; and in parentheses, as a part of a choice.
-/
import Derived.Test.YtaghcjpoihkpjaaGreatDoorJ37
import Derived.Test.YtaghcjpoihkpjaaGreatDoorEvUpJ
import Derived.Test.YtaghcjpoihkpjaaGreatDoorSpecWrapJ
namespace Go.Proofs.YtaghcjpoihkpjaaGreatDoor
open Go.RowKit Go.Lib

/-! An Outcome's parts. -/
def woP (t : Option Tree) : Bool := t.isSome
def woG : Option Tree → Bool
  | none => false
  | some t => (asks t).all fun q => haveS q.2
/-- What it is worth, where it is worth something. -/
def woR : Option Tree → Res
  | none => .val 0
  | some t => if (asks t).all (fun q => haveS q.2) = true then (ev envP t ()).1 else .val 0
def woV (t : Option Tree) : Value := .agg #[.bool (woP t), .bool (woG t), .bool false, .int .i64 (resN (woR t)), .int .i64 (resE (woR t)), .int .i64 (resP (woR t)), .int .i64 (resM (woR t)), .string { data := #[] }]
theorem whatO_parts (t : Option Tree) : whatO t = woV t := by
  cases t with
  | none => rfl
  | some t =>
    simp only [whatO, woV, woP, woG, woR, Option.isSome_some]
    split
    · rename_i h
      rw [h]
      rfl
    · rename_i h
      have : ((asks t).all fun q => haveS q.2) = false := by simpa using h
      rw [this]
      rfl
theorem PRel.read {s : ByteArray} {t : Tree} {f p : Nat} (h : PRel s (some t, f, p)) : s.size ≤ 200 ∧ ∃ J, D s (toks s) .choice 0 (.ok [t] J) ∧ kd (toks s) J = 101 := by
  rcases h with ⟨-, h⟩ | ⟨h0, ⟨J, -, h⟩ | ⟨u, J, -, -, h⟩ | ⟨u, J, d, k, h⟩⟩
  · cases h
  · cases h
  · cases h
  · injection h with h
    injection h with h
    subst h
    exact ⟨h0, J, d, k⟩
theorem PRel.of_read {s : ByteArray} {t : Tree} {J : Nat} (h0 : s.size ≤ 200) (d : D s (toks s) .choice 0 (.ok [t] J)) (k : kd (toks s) J = 101) : PRel s (some t, 0, 0) := .inr ⟨h0, .inr (.inr ⟨t, J, d, k, rfl⟩)⟩
theorem bm_boom : wBm = wBoom := rfl
theorem haveS_boom : haveS wBm = true := by
  unfold haveS
  rw [bm_boom]
  simp
theorem up_parts (o : Nat) (r : Res) : resN (r.up o) = resN r ∧ resE (r.up o) = resE r ∧ resM (r.up o) = resM r ∧ (resE r = 0 → resP (r.up o) = resP r) ∧ (resE r ≠ 0 → resP (r.up o) = o + resP r) := by
  cases r with
  | val n => exact ⟨rfl, rfl, rfl, fun _ => rfl, fun h => absurd rfl h⟩
  | held p y =>
    refine ⟨rfl, ?_, ?_, fun h => ?_, fun _ => ?_⟩
    · cases y <;> rfl
    · cases y <;> rfl
    · cases y <;> simp [resE] at h
    · simp [Res.up, resP]
/-- The same Outcome, but for its place. -/
structure Further (o : Nat) (a b : Option Tree) : Prop where
  p : woP b = woP a
  g : woG b = woG a
  n : resN (woR b) = resN (woR a)
  e : resE (woR b) = resE (woR a)
  m : resM (woR b) = resM (woR a)
  at0 : resE (woR a) = 0 → resP (woR b) = resP (woR a)
  at1 : resE (woR a) ≠ 0 → resP (woR b) = o + resP (woR a)
theorem further_of {o : Nat} {t u : Tree} (hq : ((asks u).all fun q => haveS q.2) = ((asks t).all fun q => haveS q.2)) (he : (ev envP u ()).1 = (ev envP t ()).1.up o) : Further o (some t) (some u) := by
  have hr : woR (some u) = (woR (some t)).up o := by
    simp only [woR]
    rw [hq]
    split
    · exact he
    · rfl
  have := up_parts o (woR (some t))
  rw [← hr] at this
  exact ⟨rfl, hq, this.1, this.2.1, this.2.2.1, this.2.2.2.1, this.2.2.2.2⟩
theorem further_then {s : ByteArray} {t : Tree} {f p : Nat} (h : PRel s (some t, f, p)) (hs : s.size ≤ 180) {t1 : Option Tree} {f1 p1 : Nat} (h1 : PRel (wOne ++ s ++ wElse) (t1, f1, p1)) : Further 3 (some t) t1 := by
  obtain ⟨-, J, d, k⟩ := h.read
  obtain ⟨K, d', k'⟩ := read_then d k
  have q := h1.det (PRel.of_read (by rw [ByteArray.size_append, ByteArray.size_append, wOne_size, wElse_size]; omega) d' k')
  injection q with q
  subst q
  refine further_of ?_ ?_
  · simp only [asks, asksAll, List.all_append, List.all_cons, List.all_nil, asks_up, List.all_map, haveS_boom]
    simp [Function.comp_def]
  · simp only [ev]
    show (onVal (fun s => (Res.val 1, s)) _ ()).1 = _
    rw [onVal_val (n := 1) (s1 := ()) rfl]
    simp only [ne_eq, Int.one_ne_zero, not_false_eq_true, if_true]
    rw [ev_up]
    rfl
theorem further_else {s : ByteArray} {t : Tree} {f p : Nat} (h : PRel s (some t, f, p)) (hs : s.size ≤ 180) {t1 : Option Tree} {f1 p1 : Nat} (h1 : PRel (wIf ++ s ++ wShut) (t1, f1, p1)) : Further 10 (some t) t1 := by
  obtain ⟨-, J, d, k⟩ := h.read
  obtain ⟨K, d', k'⟩ := read_else d k
  have q := h1.det (PRel.of_read (by rw [ByteArray.size_append, ByteArray.size_append, wIf_size, wShut_size]; omega) d' k')
  injection q with q
  subst q
  refine further_of ?_ ?_
  · simp only [asks, asksAll, List.all_append, List.all_cons, List.all_nil, asks_up, List.all_map, haveS_boom]
    simp [Function.comp_def]
  · simp only [ev]
    show (onVal (fun s => (Res.val 0, s)) _ ()).1 = _
    rw [onVal_val (n := 0) (s1 := ()) rfl]
    simp only [ne_eq, not_true_eq_false, if_false]
    rw [ev_up]
    rfl
end Go.Proofs.YtaghcjpoihkpjaaGreatDoor
