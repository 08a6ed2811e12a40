/-
  THE READER OF BYTES: its lists stay small.
-/
import Derived.Test.YtadmedfehcckiaaGreatDoorSpecCode
namespace Go.Proofs.YtadmedfehcckiaaGreatDoor
open Go.Lib
open Go.RowKit (wrap64)

/-- No more names than good parts. -/
def RS.Len (r : RS) : Prop := (r.wrong = false → (r.mets.length : Int) ≤ r.parts ∧ (r.asks.length : Int) ≤ r.parts) ∧ r.mets.length ≤ 200 ∧ r.asks.length ≤ 200
def RS.Good (r : RS) : Prop := r.Ok ∧ r.Len
theorem RS.Good.same {r r' : RS} (h : r.Good) (hf : r.From r') (hm : r'.mets = r.mets) (ha : r'.asks = r.asks) : r'.Good := by
  have h2 := hf h.1
  refine ⟨h2.1, ?_, by rw [hm]; exact h.2.2.1, by rw [ha]; exact h.2.2.2⟩
  intro hw
  have h3 := h2.2 hw
  have h4 := h.2.1 h3.1
  rw [hm, ha]
  omega
theorem RS.mets_require (r : RS) (b : Bool) : (r.require b).mets = r.mets ∧ (r.require b).asks = r.asks := ⟨rfl, rfl⟩
theorem RS.mets_take (r : RS) (n : Nat) : (r.take n).2.mets = r.mets ∧ (r.take n).2.asks = r.asks := by
  unfold RS.take
  split <;> exact ⟨rfl, rfl⟩
theorem RS.mets_next (r : RS) : r.next.2.mets = r.mets ∧ r.next.2.asks = r.asks := RS.mets_take r 1
theorem RS.mets_place (r : RS) : r.place.2.mets = r.mets ∧ r.place.2.asks = r.asks := RS.mets_next r
theorem RS.mets_number (r : RS) : r.number.2.mets = r.mets ∧ r.number.2.asks = r.asks := RS.mets_take r 4
theorem RS.mets_name (r : RS) : r.name.2.mets = r.mets ∧ r.name.2.asks = r.asks := ⟨(RS.mets_take _ _).1.trans (RS.mets_next r).1, (RS.mets_take _ _).2.trans (RS.mets_next r).2⟩
theorem RS.mets_measure (r : RS) : r.measure.2.mets.length ≤ r.mets.length + 1 ∧ r.measure.2.asks = r.asks := by
  unfold RS.measure
  dsimp only
  constructor
  · rw [(RS.mets_number _).1]
    have h := note1_length (((r.place.2.name).2.require (isMeasure (r.place.2.name).1)).name).2.mets (((r.place.2.name).2.require (isMeasure (r.place.2.name).1)).name).1
    rw [(RS.mets_name _).1, (RS.mets_require _ _).1, (RS.mets_name _).1, (RS.mets_place _).1] at h
    simp only at h ⊢
    rw [(RS.mets_name _).1, (RS.mets_require _ _).1, (RS.mets_name _).1, (RS.mets_place _).1]
    omega
  · rw [(RS.mets_number _).2]
    simp only
    rw [(RS.mets_name _).2, (RS.mets_require _ _).2, (RS.mets_name _).2, (RS.mets_place _).2]
theorem RS.Good.begin {r : RS} (h : r.Good) : r.begin.Good := h.same (.begin r) rfl rfl
/-- Behind a good beginning there is room for one name more. -/
theorem RS.begin_room {r : RS} (h : r.Good) (hb : r.begin.wrong = false) : r.begin.parts = r.parts + 1 ∧ r.parts < 200 ∧ (r.mets.length : Int) ≤ r.parts ∧ (r.asks.length : Int) ≤ r.parts := by
  have h1 := RS.begin_ok h.1 hb
  have h2 := h.2.1 h1.1
  exact ⟨h1.2.1, h1.2.2.2, h2.1, h2.2⟩
theorem RS.Good.one {r r1 r' : RS} (hr1 : r1.Ok) (hf : r1.From r') (hp : r1.parts = r.parts + 1) (h200 : r.parts < 200) (h1 : (r.mets.length : Int) ≤ r.parts) (h2 : (r.asks.length : Int) ≤ r.parts) (hm : r'.mets.length ≤ r.mets.length + 1) (ha : r'.asks.length ≤ r.asks.length + 1) : r'.Good := by
  have h3 := hf hr1
  refine ⟨h3.1, fun hw => ?_, by omega, by omega⟩
  have := (h3.2 hw).2
  omega
theorem RS.Good.iter {g : RS → Tree × RS} (hg : ∀ r : RS, r.Good → (g r).2.Good) : ∀ (n : Nat) (r : RS), r.Good → (iter g n r).2.Good
  | 0, _, h => h
  | n + 1, r, h => hg _ (RS.Good.iter hg n r h)
theorem RS.Good.part : ∀ (f : Nat) (r : RS), r.Good → (RS.part f r).2.Good
  | 0, r, h => ⟨fun hw => (by cases hw), fun hw => (by cases hw), h.2.2⟩
  | f + 1, r, h => by
    have ih := RS.Good.part f
    have hB := h.begin
    unfold RS.part
    dsimp only
    split
    · exact hB
    · rename_i hw
      have hw : r.begin.wrong = false := by cases e : r.begin.wrong <;> simp_all
      have hroom := RS.begin_room h hw
      have hN := hB.same (.next _) (RS.mets_next _).1 (RS.mets_next _).2
      (repeat' split)
      · exact hN.same (.number _) (RS.mets_number _).1 (RS.mets_number _).2
      · exact ih _ hN
      · exact ih _ (ih _ (hN.same (.place _) (RS.mets_place _).1 (RS.mets_place _).2))
      · exact ih _ (ih _ (ih _ hN))
      · have hm := RS.mets_measure r.begin.next.2
        rw [(RS.mets_next _).1, (RS.mets_next _).2] at hm
        exact RS.Good.one (r := r) hB.1 ((RS.From.next _).trans (.measure _)) hroom.1 hroom.2.1 hroom.2.2.1 hroom.2.2.2 hm.1 (by rw [hm.2]; exact Nat.le_succ _)
      · unfold RS.probe
        dsimp only
        refine RS.Good.iter ih _ _ ?_
        refine RS.Good.one (r := r) hB.1 ((((((RS.From.next _).trans (.place _)).trans (.name _)).trans (.require _ _)).trans (.asks _ _)).trans (.next _)) hroom.1 hroom.2.1 hroom.2.2.1 hroom.2.2.2 ?_ ?_
        · rw [(RS.mets_next _).1]
          simp only
          rw [(RS.mets_require _ _).1, (RS.mets_name _).1, (RS.mets_place _).1, (RS.mets_next _).1]
          exact Nat.le_succ _
        · rw [(RS.mets_next _).2]
          simp only
          rw [(RS.mets_require _ _).2, (RS.mets_name _).2, (RS.mets_place _).2, (RS.mets_next _).2]
          simp [RS.begin, RS.require]
      · exact ih _ (ih _ (hN.same (.require _ _) rfl rfl))
end Go.Proofs.YtadmedfehcckiaaGreatDoor
