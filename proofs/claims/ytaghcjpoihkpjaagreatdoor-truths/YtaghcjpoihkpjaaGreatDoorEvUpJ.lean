/-
  WHAT A TREE IS WORTH WHOSE PLACES ARE FURTHER ON.
-/
import Derived.Test.YtaghcjpoihkpjaaGreatDoorJ27
import Derived.Test.YtaghcjpoihkpjaaGreatDoorSpecLiftJ
namespace Go.Proofs.YtaghcjpoihkpjaaGreatDoor

def Res.up (o : Nat) : Res → Res
  | .val n => .val n
  | .held p y => .held (o + p) y
section
variable {σ : Type}
def upR (o : Nat) (r : Res × σ) : Res × σ := (r.1.up o, r.2)
theorem onVal_up {o : Nat} {m m' : σ → Res × σ} {k k' : Int → σ → Res × σ} (hm : ∀ s, m' s = upR o (m s)) (hk : ∀ n s, k' n s = upR o (k n s)) (s : σ) : onVal m' k' s = upR o (onVal m k s) := by
  unfold onVal
  rw [hm s]
  obtain ⟨r, s1⟩ := m s
  cases r with
  | val n => exact hk n s1
  | held p y => rfl
theorem onBoth_up {o : Nat} {m m' p p' : σ → Res × σ} {k k' : Int → Int → σ → Res × σ} (hm : ∀ s, m' s = upR o (m s)) (hp : ∀ s, p' s = upR o (p s)) (hk : ∀ x y s, k' x y s = upR o (k x y s)) (s : σ) : onBoth m' p' k' s = upR o (onBoth m p k s) :=
  onVal_up hm (fun x s => onVal_up hp (fun y s => hk x y s) s) s
theorem measured_up (o p : Nat) (r : Found × σ) : measured (o + p) r = upR o (measured p r) := by
  obtain ⟨r, s⟩ := r
  cases r <;> rfl
theorem probed_up (o p : Nat) (r : PFound × σ) : probed (o + p) r = upR o (probed p r) := by
  obtain ⟨r, s⟩ := r
  cases r <;> rfl
mutual
theorem ev_up (E : Env σ) (o : Nat) : ∀ t s, ev E (t.up o) s = upR o (ev E t s)
  | .num _ _, s => by simp [Tree.up, ev, upR, Res.up]
  | .neg _ a, s => by
    simp only [Tree.up, ev]
    refine onVal_up (ev_up E o a) (fun n s => ?_) s
    rfl
  | .bin k p a b, s => by
    simp only [Tree.up, ev]
    split
    · refine onBoth_up (ev_up E o a) (ev_up E o b) (fun x y s => ?_) s
      unfold upR
      split <;> rfl
    · refine onBoth_up (ev_up E o a) (ev_up E o b) (fun x y s => ?_) s
      rfl
  | .ite _ a b c, s => by
    simp only [Tree.up, ev]
    refine onVal_up (ev_up E o a) (fun n s => ?_) s
    split
    · exact ev_up E o b s
    · exact ev_up E o c s
  | .meas p wd m n, s => by
    simp only [Tree.up, ev]
    split
    · rfl
    · exact measured_up o p _
  | .probe p wd ts, s => by
    simp only [Tree.up, ev]
    exact evAll_up E o ts (fun xs s => probed_up o p _) s
theorem evAll_up (E : Env σ) (o : Nat) : ∀ (ts : List Tree) {k k' : List Int → σ → Res × σ}, (∀ xs s, k' xs s = upR o (k xs s)) → ∀ s, onAll (evAll E (ups o ts)) k' s = upR o (onAll (evAll E ts) k s)
  | [], k, k', hk, s => by simp only [ups, evAll, onAll]; exact hk [] s
  | t :: ts, k, k', hk, s => by
    simp only [ups, evAll, onAll]
    exact onVal_up (ev_up E o t) (fun x s => evAll_up E o ts (fun xs s => hk (x :: xs) s) s) s
end
end
mutual
theorem asks_up (o : Nat) : ∀ t : Tree, asks (t.up o) = (asks t).map fun q => (o + q.1, q.2)
  | .num _ _ => by simp [Tree.up, asks]
  | .neg _ a => by simp [Tree.up, asks, asks_up o a]
  | .bin _ _ a b => by simp [Tree.up, asks, asks_up o a, asks_up o b]
  | .ite _ a b c => by simp [Tree.up, asks, asks_up o a, asks_up o b, asks_up o c]
  | .meas _ _ _ _ => by simp [Tree.up, asks]
  | .probe _ _ ts => by simp [Tree.up, asks, asksAll_up o ts]
theorem asksAll_up (o : Nat) : ∀ ts : List Tree, asksAll (ups o ts) = (asksAll ts).map fun q => (o + q.1, q.2)
  | [] => by simp [ups, asksAll]
  | t :: ts => by simp [ups, asksAll, asks_up o t, asksAll_up o ts]
end
end Go.Proofs.YtaghcjpoihkpjaaGreatDoor
