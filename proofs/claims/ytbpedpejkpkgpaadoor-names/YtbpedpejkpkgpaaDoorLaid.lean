/-
  What a list of laid sentinels gives: each variable's cell, its own address; no two of them alike; each one's row is not frozen.
-/
import Derived.Test.YtbpedpejkpkgpaaDoorRows
import Derived.ProofKit
import Derived.LaidLaws
import Derived.LaidHandle
namespace Go.Proofs.YtbpedpejkpkgpaaDoor
open Go.ChangeShapes Go.WideShapes Go.RowKit

/-- The datum of a sentinel. -/
def sentD (nm : String) (x : String × List UInt8) : String × DataW Unit := (x.1, .iface nm (.ptr (.agg [.lit (.string x.2)])))

theorem sentinels_of_laid {P : Program} {nm : String} {W : World} {ti tp te ts : TypeId} {ms : Array (String × TypeId)} {f : Field}
    (hi : P.underlying ti = some (.interface ms)) (hrow : ∀ u, P.typeName? 3 u = some nm → u = tp)
    (hp : P.underlying tp = some (.pointer te)) (he : P.underlying te = some (.struct #[f])) (hft : f.type = ts) (hfo : f.offset = 0) (hs : P.underlying ts = some .string) (hc : P.cellsOf te = 1) (hcs : P.cellsOf ts = 1) :
    ∀ (L : List (String × List UInt8)) (ps : List MemPlace), (∀ x ∈ L, ∀ g, P.globalNamed x.1 = some g → (P.globals[g]?).map (·.type) = some ti) →
      DataW.LaidVars P W (L.map (sentD nm)) ps → ps.Nodup → (∀ b off, MemPlace.cell b off ∈ ps → (∃ c t, W.heap[b]? = some (.cells c t (0, 0))) ∧ ∀ u v, W.cell? ⟨b, off, none⟩ = some (.iface u v) → Value.okWide P W .any 0 u v) →
      ∃ As : List Addr, As.length = L.length ∧ (∀ (i : Nat) x a, L[i]? = some x → As[i]? = some a → W.var? P x.1 = some #[.iface tp (.pointer (some a))] ∧ ∃ c t, W.heap[a.block]? = some (.cells c t (0, 0))) ∧
        As.Pairwise (fun a b => b ≠ a) ∧ ∀ a ∈ As, MemPlace.cell a.block a.off ∈ ps
  | [], ps, _, _, _, _ => ⟨[], rfl, by simp, List.Pairwise.nil, by simp⟩
  | x :: L, ps, hty, h, hnd, hrows => by
    obtain ⟨g, t, cs, fu, p, q, hg, ht, hv, hd, hr, e⟩ := h
    have ht' := hty x (List.mem_cons_self ..) g hg
    obtain rfl := Option.some.inj (ht'.symm.trans ht)
    subst e
    obtain ⟨l⟩ := cs
    have ok : ∀ u v, l = [.iface u v] → Value.okWide P W .any 0 u v := fun u v e => by
      subst e
      exact (hrows g 0 (by simp [MemPlace.row])).2 u v (by simpa using World.var?_cell hg hv 0)
    obtain ⟨a, s, rfl, hca, hsa, hza, rfl⟩ := errorString_of_trod hi hrow hp he hft hfo hs hc hcs hd ok
    rw [List.nodup_append] at hnd
    obtain ⟨hn1, hn2, hn3⟩ := hnd
    obtain ⟨As, hl, hAs, hpw, hmem⟩ := sentinels_of_laid hi hrow hp he hft hfo hs hc hcs L q (fun y hy => hty y (List.mem_cons_of_mem _ hy)) hr hn2 (fun b off hb => hrows b off (List.mem_append_right _ hb))
    refine ⟨a :: As, by simp [hl], ?_, ?_, ?_⟩
    · intro i y b hy hb
      cases i with
      | zero =>
        simp at hy hb
        subst hy; subst hb
        exact ⟨hv, (hrows a.block a.off (by simp [MemPlace.row])).1⟩
      | succ i =>
        simp at hy hb
        exact hAs i y b hy hb
    · refine List.Pairwise.cons ?_ hpw
      intro b hb hab
      subst hab
      exact hn3 _ (by simp [MemPlace.row]) _ (hmem _ hb) rfl
    · intro b hb
      rcases List.mem_cons.1 hb with rfl | hb
      · simp [MemPlace.row]
      · exact List.mem_append_right _ (hmem b hb)
end Go.Proofs.YtbpedpejkpkgpaaDoor
