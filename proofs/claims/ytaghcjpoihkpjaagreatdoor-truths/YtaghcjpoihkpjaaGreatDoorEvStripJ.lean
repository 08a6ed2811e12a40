/-
  WHAT A TREE IS WORTH HANGS ON ITS PLACES IN WHAT IS TOLD OF THE PLACE ALONE.
-/
import Derived.Test.YtaghcjpoihkpjaaGreatDoorEvUpJ
import Derived.Test.YtaghcjpoihkpjaaGreatDoorSpecPrintJ
namespace Go.Proofs.YtaghcjpoihkpjaaGreatDoor

def Res.drop : Res → Res
  | .val n => .val n
  | .held _ y => .held 0 y
section
variable {σ : Type}
def dropR (r : Res × σ) : Res × σ := (r.1.drop, r.2)
theorem onVal_drop {m m' : σ → Res × σ} {k k' : Int → σ → Res × σ} (hm : ∀ s, dropR (m' s) = dropR (m s)) (hk : ∀ n s, dropR (k' n s) = dropR (k n s)) (s : σ) : dropR (onVal m' k' s) = dropR (onVal m k s) := by
  unfold onVal
  have h := hm s
  generalize m' s = a at h
  generalize m s = b at h
  obtain ⟨a, s1⟩ := a
  obtain ⟨b, s2⟩ := b
  simp only [dropR, Prod.mk.injEq] at h
  obtain ⟨h1, rfl⟩ := h
  cases a with
  | val n =>
    cases b with
    | val m => cases h1; exact hk n s1
    | held p y => cases h1
  | held p y =>
    cases b with
    | val m => cases h1
    | held q z => injection h1 with _ h1; subst h1; rfl
theorem onBoth_drop {m m' p p' : σ → Res × σ} {k k' : Int → Int → σ → Res × σ} (hm : ∀ s, dropR (m' s) = dropR (m s)) (hp : ∀ s, dropR (p' s) = dropR (p s)) (hk : ∀ x y s, dropR (k' x y s) = dropR (k x y s)) (s : σ) : dropR (onBoth m' p' k' s) = dropR (onBoth m p k s) :=
  onVal_drop hm (fun x s => onVal_drop hp (fun y s => hk x y s) s) s
theorem measured_drop (p q : Nat) (r : Found × σ) : dropR (measured p r) = dropR (measured q r) := by
  obtain ⟨r, s⟩ := r
  cases r <;> rfl
theorem probed_drop (p q : Nat) (r : PFound × σ) : dropR (probed p r) = dropR (probed q r) := by
  obtain ⟨r, s⟩ := r
  cases r <;> rfl
mutual
theorem ev_strip (E : Env σ) : ∀ t s, dropR (ev E (strip t) s) = dropR (ev E t s)
  | .num _ _, s => by simp [strip, ev]
  | .neg _ a, s => by
    simp only [strip, ev]
    exact onVal_drop (ev_strip E a) (fun _ _ => rfl) s
  | .bin k p a b, s => by
    simp only [strip, ev]
    split
    · refine onBoth_drop (ev_strip E a) (ev_strip E b) (fun x y s => ?_) s
      unfold dropR
      split <;> rfl
    · exact onBoth_drop (ev_strip E a) (ev_strip E b) (fun x y s => rfl) s
  | .ite _ a b c, s => by
    simp only [strip, ev]
    refine onVal_drop (ev_strip E a) (fun n s => ?_) s
    split
    · exact ev_strip E b s
    · exact ev_strip E c s
  | .meas p wd m n, s => by
    simp only [strip, ev]
    split
    · rfl
    · exact measured_drop 0 p _
  | .probe p wd ts, s => by
    simp only [strip, ev]
    exact evAll_strip E ts (fun xs s => probed_drop 0 p _) s
theorem evAll_strip (E : Env σ) : ∀ (ts : List Tree) {k k' : List Int → σ → Res × σ}, (∀ xs s, dropR (k' xs s) = dropR (k xs s)) → ∀ s, dropR (onAll (evAll E (strips ts)) k' s) = dropR (onAll (evAll E ts) k s)
  | [], k, k', hk, s => by simp only [strips, evAll, onAll]; exact hk [] s
  | t :: ts, k, k', hk, s => by
    simp only [strips, evAll, onAll]
    exact onVal_drop (ev_strip E t) (fun x s => evAll_strip E ts (fun xs s => hk (x :: xs) s) s) s
end
theorem ev_same (E : Env σ) {t t' : Tree} (h : strip t = strip t') (s : σ) : dropR (ev E t s) = dropR (ev E t' s) := by rw [← ev_strip E t s, h, ev_strip]
end
mutual
theorem asks_strip : ∀ t : Tree, asks (strip t) = (asks t).map fun q => (0, q.2)
  | .num _ _ => by simp [strip, asks]
  | .neg _ a => by simp [strip, asks, asks_strip a]
  | .bin _ _ a b => by simp [strip, asks, asks_strip a, asks_strip b]
  | .ite _ a b c => by simp [strip, asks, asks_strip a, asks_strip b, asks_strip c]
  | .meas _ _ _ _ => by simp [strip, asks]
  | .probe _ _ ts => by simp [strip, asks, asksAll_strip ts]
theorem asksAll_strip : ∀ ts : List Tree, asksAll (strips ts) = (asksAll ts).map fun q => (0, q.2)
  | [] => by simp [strips, asksAll]
  | t :: ts => by simp [strips, asksAll, asks_strip t, asksAll_strip ts]
end
end Go.Proofs.YtaghcjpoihkpjaaGreatDoor
