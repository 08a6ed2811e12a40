/-
  WHATEVER BYTES ARE READ, AND NOT WRONG: the tree fits; it asks for the probes that were noted.
-/
import Derived.Test.YtaghcjpoihkpjaaGreatDoorJ19
namespace Go.Proofs.YtaghcjpoihkpjaaGreatDoor
open Go.Lib
open Go.RowKit (wrap64)

theorem num256_pos (l : List UInt8) : ∀ n : Int, 0 ≤ n → 0 ≤ l.foldl (fun n b => 256 * n + (b.toNat : Int)) n := by
  induction l with
  | nil => intro n h; exact h
  | cons b l ih => intro n h; exact ih _ (by have : (0 : Int) ≤ (b.toNat : Int) := Int.natCast_nonneg _; show 0 ≤ 256 * n + (b.toNat : Int); omega)
theorem RS.take_le9 (r : RS) (n : Nat) : (r.take n).1.length ≤ n := by
  unfold RS.take
  split
  · simp
  · simp
    omega
theorem RS.number_fit {r : RS} (h : r.number.2.wrong = false) : 0 ≤ r.number.1 ∧ r.number.1 < 1000000000 := by
  refine ⟨num256_pos _ 0 (Int.le_refl _), ?_⟩
  exact of_decide_eq_true (RS.require_wrong h).2
theorem RS.place_fit {r : RS} (h : r.place.2.wrong = false) : r.place.1 < 200 := of_decide_eq_true (RS.require_wrong h).2
theorem RS.name_fit {r : RS} (h : r.name.2.wrong = false) : isName r.name.1 = true ∧ r.name.1.size < 256 := by
  refine ⟨(RS.require_wrong h).2, ?_⟩
  have h1 := RS.take_le9 r.next.2 r.next.1.toNat
  have h2 := r.next.1.toNat_lt
  show (r.next.2.take r.next.1.toNat).1.toArray.size < 256
  simp
  omega
theorem RS.wrongs {r r' : RS} (h : r.From r') (hr : r.Ok) (hw : r'.wrong = false) : r.wrong = false := ((h hr).2 hw).1
theorem RS.measure_fit {r : RS} (hr : r.Ok) (h : r.measure.2.wrong = false) : Fit r.measure.1 := by
  have f1 := RS.From.place r
  have f2 := RS.From.name r.place.2
  have f3 := RS.From.require r.place.2.name.2 (isMeasure r.place.2.name.1)
  have f4 := RS.From.name (r.place.2.name.2.require (isMeasure r.place.2.name.1))
  have f5 := RS.From.number (r.place.2.name.2.require (isMeasure r.place.2.name.1)).name.2
  have h5 : (r.place.2.name.2.require (isMeasure r.place.2.name.1)).name.2.number.2.wrong = false := h
  have o1 := (f1 hr).1
  have o2 := (f2 o1).1
  have o3 := (f3 o2).1
  have o4 := (f4 o3).1
  have h4 := RS.wrongs f5 o4 h5
  have h3 := RS.wrongs f4 o3 h4
  have h2 := RS.wrongs f3 o2 h3
  have h1 := RS.wrongs f2 o1 h2
  have e1 := RS.name_fit h2
  have e2 := RS.name_fit h4
  have e3 := RS.number_fit h5
  unfold RS.measure
  unfold Fit
  exact ⟨RS.place_fit h1, e1.1, e1.2, (RS.require_wrong h3).2, e2.1, e2.2, e3.1, e3.2⟩
theorem iter_length (g : RS → Tree × RS) : ∀ (n : Nat) (r : RS), (iter g n r).1.length = n
  | 0, _ => rfl
  | n + 1, r => by simp [iter, iter_length g n r]
theorem fitAll_append : ∀ (a b : List Tree), FitAll a → FitAll b → FitAll (a ++ b)
  | [], _, _, h => h
  | t :: a, b, h, k => by
    unfold FitAll at h
    rw [List.cons_append]
    unfold FitAll
    exact ⟨h.1, fitAll_append a b h.2 k⟩
theorem iter_fit {g : RS → Tree × RS} (hF : ∀ r : RS, r.From (g r).2) (hg : ∀ r : RS, r.Ok → (g r).2.wrong = false → Fit (g r).1) : ∀ (n : Nat) (r : RS), r.Ok → (iter g n r).2.wrong = false → FitAll (iter g n r).1
  | 0, _, _, _ => by simp [iter, FitAll]
  | n + 1, r, hr, hw => by
    have o1 := (RS.From.iter hF n r hr).1
    have hw : (g (iter g n r).2).2.wrong = false := hw
    have w1 := RS.wrongs (hF (iter g n r).2) o1 hw
    rw [iter]
    refine fitAll_append _ _ (iter_fit hF hg n r hr w1) ?_
    unfold FitAll
    exact ⟨hg _ o1 hw, by simp [FitAll]⟩
theorem RS.probe_fit {g : RS → Tree × RS} (hF : ∀ r : RS, r.From (g r).2) (hg : ∀ r : RS, r.Ok → (g r).2.wrong = false → Fit (g r).1) {r : RS} (hr : r.Ok) (h : (r.probe g).2.wrong = false) : Fit (r.probe g).1 := by
  unfold RS.probe at h ⊢
  dsimp only at h ⊢
  have f1 := RS.From.place r
  have f2 := RS.From.name r.place.2
  have f3 := RS.From.require r.place.2.name.2 (!isMeasure r.place.2.name.1)
  have o1 := (f1 hr).1
  have o2 := (f2 o1).1
  have o3 := (f3 o2).1
  generalize hq : r.place.2.name.2.require (!isMeasure r.place.2.name.1) = q at *
  have f4 : q.From { q with asks := q.asks ++ [(r.place.1, r.place.2.name.1)] } := .asks _ _
  have f5 := RS.From.next { q with asks := q.asks ++ [(r.place.1, r.place.2.name.1)] }
  have o4 := (f4 o3).1
  have o5 := (f5 o4).1
  generalize hc : RS.next { q with asks := q.asks ++ [(r.place.1, r.place.2.name.1)] } = c at *
  have w5 := RS.wrongs (RS.From.iter hF c.1.toNat c.2) o5 h
  have w4 := RS.wrongs f5 o4 w5
  have w3 := RS.wrongs f4 o3 w4
  have w2 := RS.wrongs f3 o2 w3
  have w1 := RS.wrongs f2 o1 w2
  have e1 := RS.name_fit w2
  rw [← hq] at w3
  have e2 := (RS.require_wrong w3).2
  unfold Fit
  exact ⟨RS.place_fit w1, e1.1, e1.2, by simpa using e2, by rw [iter_length]; exact c.1.toNat_lt, iter_fit hF hg _ _ o5 h⟩
theorem part_fit : ∀ (f : Nat) (r : RS), r.Ok → (RS.part f r).2.wrong = false → Fit (RS.part f r).1
  | 0, r, _, h => by unfold RS.part at h; cases h
  | f + 1, r, hr, h => by
    have ih := part_fit f
    have hF := RS.From.part f
    unfold RS.part at h ⊢
    dsimp only at h ⊢
    have ob := (RS.From.begin r hr).1
    by_cases hb : r.begin.wrong = true
    · rw [if_pos hb] at h
      rw [hb] at h
      cases h
    rw [if_neg hb] at h ⊢
    have o1 := (RS.From.next r.begin ob).1
    generalize r.begin.next = o at *
    have go : ∀ x : RS, (RS.part f x).2.wrong = false → x.Ok → x.wrong = false ∧ (RS.part f x).2.Ok := fun x hx ho => ⟨RS.wrongs (hF x) ho hx, (hF x ho).1⟩
    have ok : ∀ x : RS, x.Ok → (RS.part f x).2.Ok := fun x ho => (hF x ho).1
    by_cases h110 : o.1 = 110
    · rw [if_pos h110] at h ⊢
      unfold Fit
      exact RS.number_fit h
    rw [if_neg h110] at h ⊢
    by_cases h126 : o.1 = 126
    · rw [if_pos h126] at h ⊢
      unfold Fit
      exact ih _ o1 h
    rw [if_neg h126] at h ⊢
    by_cases h47 : o.1 = 47
    · rw [if_pos h47] at h ⊢
      have op := (RS.From.place o.2 o1).1
      have w1 := go _ h (ok _ op)
      have w2 := go _ w1.1 op
      unfold Fit
      exact ⟨.inr rfl, RS.place_fit w2.1, ih _ op w1.1, ih _ (ok _ op) h⟩
    rw [if_neg h47] at h ⊢
    by_cases h63 : o.1 = 63
    · rw [if_pos h63] at h ⊢
      have w1 := go _ h (ok _ (ok _ o1))
      have w2 := go _ w1.1 (ok _ o1)
      unfold Fit
      exact ⟨ih _ o1 w2.1, ih _ (ok _ o1) w1.1, ih _ (ok _ (ok _ o1)) h⟩
    rw [if_neg h63] at h ⊢
    by_cases h109 : o.1 = 109
    · rw [if_pos h109] at h ⊢
      exact RS.measure_fit o1 h
    rw [if_neg h109] at h ⊢
    by_cases h112 : o.1 = 112
    · rw [if_pos h112] at h ⊢
      exact RS.probe_fit hF ih o1 h
    rw [if_neg h112] at h ⊢
    have oq := (RS.From.require o.2 (isReck o.1.toNat) o1).1
    have w1 := go _ h (ok _ oq)
    have w2 := go _ w1.1 oq
    have w3 := RS.require_wrong w2.1
    unfold Fit
    exact ⟨.inl w3.2, by omega, ih _ oq w1.1, ih _ (ok _ oq) h⟩
/-! What was noted is what the tree asks for. -/
theorem RS.asks_name (r : RS) : r.name.2.asks = r.asks := (RS.mets_name r).2.1
theorem iter_asks {g : RS → Tree × RS} (hF : ∀ r : RS, r.From (g r).2) (hg : ∀ r : RS, r.Ok → (g r).2.wrong = false → (g r).2.asks = r.asks ++ asks (g r).1) : ∀ (n : Nat) (r : RS), r.Ok → (iter g n r).2.wrong = false → (iter g n r).2.asks = r.asks ++ asksAll (iter g n r).1
  | 0, _, _, _ => by simp [iter, asksAll]
  | n + 1, r, hr, hw => by
    have o1 := (RS.From.iter hF n r hr).1
    have hw : (g (iter g n r).2).2.wrong = false := hw
    have w1 := RS.wrongs (hF (iter g n r).2) o1 hw
    have e1 := iter_asks hF hg n r hr w1
    have e2 := hg _ o1 hw
    have e3 : ∀ a b : List Tree, asksAll (a ++ b) = asksAll a ++ asksAll b := by
      intro a b
      induction a with
      | nil => simp [asksAll]
      | cons t a ih => simp [asksAll, ih]
    rw [iter]
    simp only
    rw [e2, e1, e3]
    simp [asksAll]
theorem part_asks : ∀ (f : Nat) (r : RS), r.Ok → (RS.part f r).2.wrong = false → (RS.part f r).2.asks = r.asks ++ asks (RS.part f r).1
  | 0, r, _, h => by unfold RS.part at h; cases h
  | f + 1, r, hr, h => by
    have ih := part_asks f
    have hF := RS.From.part f
    unfold RS.part at h ⊢
    dsimp only at h ⊢
    have ob := (RS.From.begin r hr).1
    by_cases hb : r.begin.wrong = true
    · rw [if_pos hb] at h
      rw [hb] at h
      cases h
    rw [if_neg hb] at h ⊢
    have o1 := (RS.From.next r.begin ob).1
    have a1 : r.begin.next.2.asks = r.asks := (RS.mets_next _).2.1
    generalize r.begin.next = o at *
    have ok : ∀ x : RS, x.Ok → (RS.part f x).2.Ok := fun x ho => (hF x ho).1
    have go : ∀ x : RS, (RS.part f x).2.wrong = false → x.Ok → x.wrong = false := fun x hx ho => RS.wrongs (hF x) ho hx
    by_cases h110 : o.1 = 110
    · rw [if_pos h110] at h ⊢
      simp only [asks, List.append_nil]
      rw [(RS.mets_number _).2.1, a1]
    rw [if_neg h110] at h ⊢
    by_cases h126 : o.1 = 126
    · rw [if_pos h126] at h ⊢
      simp only [asks]
      rw [ih _ o1 h, a1]
    rw [if_neg h126] at h ⊢
    by_cases h47 : o.1 = 47
    · rw [if_pos h47] at h ⊢
      have op := (RS.From.place o.2 o1).1
      have w1 := go _ h (ok _ op)
      simp only [asks]
      rw [ih _ (ok _ op) h, ih _ op w1, (RS.mets_place _).2.1, a1, List.append_assoc]
    rw [if_neg h47] at h ⊢
    by_cases h63 : o.1 = 63
    · rw [if_pos h63] at h ⊢
      have w1 := go _ h (ok _ (ok _ o1))
      have w2 := go _ w1 (ok _ o1)
      simp only [asks]
      rw [ih _ (ok _ (ok _ o1)) h, ih _ (ok _ o1) w1, ih _ o1 w2, a1]
      simp only [List.append_assoc]
    rw [if_neg h63] at h ⊢
    by_cases h109 : o.1 = 109
    · rw [if_pos h109] at h ⊢
      rw [(RS.mets_measure _).2.1, a1]
      simp [RS.measure, asks]
    rw [if_neg h109] at h ⊢
    by_cases h112 : o.1 = 112
    · rw [if_pos h112] at h ⊢
      unfold RS.probe at h ⊢
      dsimp only at h ⊢
      have o2 := (RS.From.place o.2 o1).1
      have o3 := (RS.From.name o.2.place.2 o2).1
      have o4 := (RS.From.require o.2.place.2.name.2 (!isMeasure o.2.place.2.name.1) o3).1
      have o5 := (RS.From.asks (o.2.place.2.name.2.require (!isMeasure o.2.place.2.name.1)) ((o.2.place.2.name.2.require (!isMeasure o.2.place.2.name.1)).asks ++ [(o.2.place.1, o.2.place.2.name.1)]) o4).1
      have o6 := (RS.From.next _ o5).1
      rw [iter_asks hF ih _ _ o6 h, (RS.mets_next _).2.1]
      simp only [asks]
      rw [(RS.mets_require _ _).2.1, (RS.mets_name _).2.1, (RS.mets_place _).2.1, a1]
      simp
    rw [if_neg h112] at h ⊢
    have oq := (RS.From.require o.2 (isReck o.1.toNat) o1).1
    have w1 := go _ h (ok _ oq)
    simp only [asks]
    rw [ih _ (ok _ oq) h, ih _ oq w1, (RS.mets_require _ _).2.1, a1, List.append_assoc]
end Go.Proofs.YtaghcjpoihkpjaaGreatDoor
