/-
  THE DOCUMENT'S WINDOWS IN PLAIN LEAN (no program is named): which samples are in a window, and how the list is cut as time goes on.
-/
namespace Go.Proofs.Ytjcbbcnjnnpfoaa

/-- A sample's time plus the width is greater than the window's time. -/
def inW (wid now t : Int) : Bool := decide (0 < wid) && decide (now < t + wid)
/-- Of all samples those in the window: of more than 16 the newest 16. -/
def keptR {α : Type} (wid now : Int) (l : List (Int × α)) : List (Int × α) :=
  (l.filter (fun x => inW wid now x.1)).drop ((l.filter (fun x => inW wid now x.1)).length - 16)
/-- What the list of kept samples is cut to. -/
def trim {α : Type} (wid now : Int) (k : List (Int × α)) : List (Int × α) := (k.drop (k.length - 16)).dropWhile (fun x => !inW wid now x.1)
/-- Times never go down. -/
def Up {α : Type} : List (Int × α) → Prop
  | [] => True
  | x :: l => (∀ y ∈ l, x.1 ≤ y.1) ∧ Up l
def AllLe {α : Type} (now : Int) (l : List (Int × α)) : Prop := ∀ x ∈ l, x.1 ≤ now
section
variable {α : Type} {wid now t : Int}
theorem Up.snoc {l : List (Int × α)} {x : Int × α} (h : Up l) (hx : AllLe x.1 l) : Up (l ++ [x]) := by
  induction l with
  | nil => simp [Up]
  | cons y l ih =>
    obtain ⟨h1, h2⟩ := h
    refine ⟨fun z hz => ?_, ih h2 (fun z hz => hx z (List.mem_cons_of_mem _ hz))⟩
    rcases List.mem_append.1 hz with hz | hz
    · exact h1 z hz
    · rw [List.mem_singleton.1 hz]; exact hx y (List.mem_cons_self ..)
theorem AllLe.mono {l : List (Int × α)} (h : AllLe now l) (ht : now ≤ t) : AllLe t l := fun x hx => Int.le_trans (h x hx) ht
theorem AllLe.snoc {l : List (Int × α)} {x : Int × α} (h : AllLe now l) (hx : now ≤ x.1) : AllLe x.1 (l ++ [x]) := by
  intro y hy
  rcases List.mem_append.1 hy with hy | hy
  · exact Int.le_trans (h y hy) hx
  · rw [List.mem_singleton.1 hy]; exact Int.le_refl _
theorem inW_up {a b : Int} (h : inW wid now a = true) (hab : a ≤ b) : inW wid now b = true := by
  simp [inW] at h ⊢
  omega
theorem inW_down {a : Int} (ht : now ≤ t) (h : inW wid now a = false) : inW wid t a = false := by
  simp [inW] at h ⊢
  omega
/-- How many stand ahead of the first that is in. -/
def aheadN (wid now : Int) (l : List (Int × α)) : Nat := (l.takeWhile (fun x => !inW wid now x.1)).length
theorem aheadN_le (l : List (Int × α)) : aheadN wid now l ≤ l.length := by
  unfold aheadN
  induction l with
  | nil => simp
  | cons x l ih =>
    rw [List.takeWhile_cons]
    split <;> simp <;> omega
theorem aheadN_cons (x : Int × α) (l : List (Int × α)) : aheadN wid now (x :: l) = if inW wid now x.1 = true then 0 else aheadN wid now l + 1 := by
  unfold aheadN
  rw [List.takeWhile_cons]
  cases inW wid now x.1 <;> simp
theorem filter_up {l : List (Int × α)} (h : Up l) : l.filter (fun x => inW wid now x.1) = l.drop (aheadN wid now l) := by
  induction l with
  | nil => simp
  | cons x l ih =>
    rw [aheadN_cons]
    cases hx : inW wid now x.1 with
    | true =>
      have : ∀ y ∈ x :: l, inW wid now y.1 = true := by
        intro y hy
        rcases List.mem_cons.1 hy with rfl | hy
        · exact hx
        · exact inW_up hx (h.1 y hy)
      rw [List.filter_eq_self.2 this]
      simp
    | false =>
      rw [List.filter_cons]
      simp [hx, ih h.2]
theorem dropWhile_drop {l : List (Int × α)} (h : Up l) : ∀ d, (l.drop d).dropWhile (fun x => !inW wid now x.1) = l.drop (max d (aheadN wid now l)) := by
  induction l with
  | nil => simp
  | cons x l ih =>
    intro d
    rw [aheadN_cons]
    cases d with
    | zero =>
      cases hx : inW wid now x.1 with
      | true => simp [hx]
      | false =>
        have := ih h.2 0
        simp at this
        simp [hx, this]
    | succ d =>
      have e := ih h.2 d
      simp only [List.drop_succ_cons]
      rw [e]
      cases hx : inW wid now x.1 with
      | true =>
        have : aheadN wid now l = 0 := by
          cases l with
          | nil => rfl
          | cons y l => rw [aheadN_cons, if_pos (inW_up hx (h.1 y (List.mem_cons_self ..)))]
        simp [this]
      | false =>
        have : max (d + 1) (aheadN wid now l + 1) = max d (aheadN wid now l) + 1 := by omega
        simp [this]
theorem keptR_drop {l : List (Int × α)} (h : Up l) : keptR wid now l = l.drop (max (aheadN wid now l) (l.length - 16)) := by
  unfold keptR
  have := aheadN_le (wid := wid) (now := now) l
  rw [filter_up h, List.length_drop, List.drop_drop]
  congr 1
  omega
theorem trim_drop {l : List (Int × α)} (h : Up l) {d : Nat} (hd : d ≤ l.length) (hm : d ≤ max (aheadN wid t l) (l.length - 16)) : trim wid t (l.drop d) = keptR wid t l := by
  unfold trim
  rw [List.length_drop, List.drop_drop, dropWhile_drop h, keptR_drop h]
  congr 1
  omega
theorem aheadN_mono (ht : now ≤ t) (l m : List (Int × α)) : aheadN wid now l ≤ aheadN wid t (l ++ m) := by
  induction l with
  | nil => simp [aheadN]
  | cons x l ih =>
    rw [List.cons_append, aheadN_cons, aheadN_cons]
    cases hx : inW wid now x.1 with
    | true => simp
    | false => simp [inW_down ht hx, ih]
/-- Time goes on. -/
theorem trim_advance {l : List (Int × α)} (h : Up l) (ht : now ≤ t) : trim wid t (keptR wid now l) = keptR wid t l := by
  rw [keptR_drop h]
  have h1 := aheadN_le (wid := wid) (now := now) l
  have h2 := aheadN_mono (wid := wid) ht l []
  rw [List.append_nil] at h2
  exact trim_drop h (by omega) (by omega)
/-- A sample comes in. -/
theorem trim_push {l : List (Int × α)} (h : Up l) (hl : AllLe now l) {v : α} (ht : now ≤ t) : trim wid t (keptR wid now l ++ [(t, v)]) = keptR wid t (l ++ [(t, v)]) := by
  have h1 := aheadN_le (wid := wid) (now := now) l
  have h2 := aheadN_mono (wid := wid) ht l [(t, v)]
  have hu : Up (l ++ [(t, v)]) := h.snoc (hl.mono ht)
  rw [keptR_drop h, ← List.drop_append_of_le_length (by omega)]
  exact trim_drop hu (by simp; omega) (by simp; omega)
theorem keptR_length (l : List (Int × α)) : (keptR wid now l).length ≤ 16 := by
  unfold keptR
  rw [List.length_drop]
  omega
/-- From the newest on. -/
theorem keptR_cons (x : Int × α) (l : List (Int × α)) : keptR wid now (x :: l) = if (keptR wid now l).length < 16 ∧ inW wid now x.1 = true then x :: keptR wid now l else keptR wid now l := by
  unfold keptR
  rw [List.filter_cons, List.length_drop]
  cases hx : inW wid now x.1 with
  | false => simp
  | true =>
    simp only [if_true, List.length_cons]
    generalize l.filter (fun x => inW wid now x.1) = f
    by_cases hf : f.length < 16
    · rw [if_pos ⟨by omega, trivial⟩, show f.length + 1 - 16 = 0 by omega, show f.length - 16 = 0 by omega]
      simp
    · rw [if_neg (by omega), show f.length + 1 - 16 = (f.length - 16) + 1 by omega]
      simp
theorem keptR_full : ∀ (a b : List (Int × α)), ¬ (keptR wid now b).length < 16 → keptR wid now (a ++ b) = keptR wid now b
  | [], b, _ => rfl
  | x :: a, b, h => by
    have ih := keptR_full a b h
    rw [List.cons_append, keptR_cons, ih, if_neg (fun k => h k.1)]
/-- The values do not matter. -/
theorem trim_map {β : Type} (f : α → β) (k : List (Int × α)) : trim wid now (k.map (fun x => (x.1, f x.2))) = (trim wid now k).map (fun x => (x.1, f x.2)) := by
  unfold trim
  rw [List.length_map, ← List.map_drop, List.dropWhile_map]
  rfl
theorem dropWhile_at {p : Int × α → Bool} : ∀ (l : List (Int × α)) (m : Nat), m ≤ l.length → (∀ j, j < m → ∀ x, l[j]? = some x → p x = true) → (∀ x, l[m]? = some x → p x = false) → l.dropWhile p = l.drop m
  | [], m, _, _, _ => by simp
  | x :: l, 0, _, _, h => by
    have := h x (by simp)
    simp [this]
  | x :: l, m + 1, hm, h1, h2 => by
    have hx := h1 0 (by omega) x (by simp)
    rw [List.dropWhile_cons, if_pos hx, List.drop_succ_cons]
    exact dropWhile_at l m (by simpa using hm) (fun j hj y hy => h1 (j + 1) (by omega) y (by simpa using hy)) (fun y hy => h2 y (by simpa using hy))
/-- The first from a place on that is in. -/
theorem trim_at {k : List (Int × α)} {i : Nat} (h1 : k.length - 16 ≤ i) (h2 : i ≤ k.length) (h3 : ∀ j, k.length - 16 ≤ j → j < i → ∀ x, k[j]? = some x → inW wid now x.1 = false) (h4 : ∀ x, k[i]? = some x → inW wid now x.1 = true) : trim wid now k = k.drop i := by
  unfold trim
  rw [dropWhile_at (k.drop (k.length - 16)) (i - (k.length - 16)) (by rw [List.length_drop]; omega), List.drop_drop]
  · congr 1
    omega
  · intro j hj x hx
    rw [List.getElem?_drop] at hx
    rw [h3 _ (by omega) (by omega) x hx]
    rfl
  · intro x hx
    rw [List.getElem?_drop, show k.length - 16 + (i - (k.length - 16)) = i by omega] at hx
    rw [h4 x hx]
    rfl
end
/-- The value that no other one is ahead of, the first of such. -/
def foremost {α : Type} (ahead : α → α → Bool) : List α → Option α
  | [] => none
  | a :: l => some (l.foldl (fun f x => if ahead x f = true then x else f) a)
end Go.Proofs.Ytjcbbcnjnnpfoaa
