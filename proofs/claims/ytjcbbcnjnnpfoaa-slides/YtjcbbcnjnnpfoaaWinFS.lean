/-
  A WINDOW OF string: slices.Clone and All (which makes the iterator), WALKED.
-/
import Derived.Test.YtjcbbcnjnnpfoaaWinES
namespace Go.Proofs.Ytjcbbcnjnnpfoaa
open Go.RowKit Go.Lib Go.Shelf

set_option maxHeartbeats 2000000 in
set_option maxRecDepth 1000000 in
theorem cloneS {w : World} {mv : Value} {k : List (Int × ByteArray)} (own : w.ownsRow 0 86 2 mv k.length (sCells Value.string k)) (hl : k.length ≤ 17) :
    Calls Try.prog 55 #[mv] w fun e w' =>
      ∃ v', e = .returned v' ∧ w'.ownsRow w.heap.size 86 2 v' k.length (sCells Value.string k) ∧ Below w.heap.size w w' := by
  obtain ⟨i0, hi0, hz0, hz1, hz2⟩ := info_parts infoSamS
  have q22 : ∀ (w : World) (a : Option Addr) (n c n' c' : Nat), (binOp .eql 48 (.slice a n c) (.slice none n' c')).run Try.prog w = .ok (.bool a.isNone) w := fun w a n c n' c' => Lib.run_eql_slice_nil w _ _ a n c n' c' Try.underlying48
  have OWN : Hid (w.ownsRow 0 86 2 mv k.length (sCells Value.string k)) := own
  rcases own.2 with ⟨rfl, h0⟩ | ⟨g, cap, cur, rfl, -, hg, hnc, hcm, hcs, htake⟩
  · clear own
    have hk : k = [] := List.length_eq_zero_iff.1 h0
    subst hk
    go_enter Try.func55, Try.ntmps55
    go_wp2
    go_ret
    exact ⟨_, rfl, World.ownsRow_nil _ _ _ _, Below.refl _ _⟩
  · have hcc := own.cells (g := g) rfl
    have A : Hid (∀ j u, (sCells Value.string k)[j]? = some u → w.cell? ((⟨g, 0, none⟩ : Addr).add j) = some u) := hcc
    clear hcc own hg hcs htake
    generalize hn : k.length = n at *
    go_enter Try.func55, Try.ntmps55
    go_wp2_with (at_builtin; refine wpList_append_own _ rfl _ _ 48 rfl w.heap.size 86 i0 (.agg #[.int .i64 0, Value.string { data := #[] }]) 2 24 Try.underlying48 hi0 hz0 hz1 hz2 rfl (by decide) _ _ _ rfl (World.ownsRow_made w #[] 0 (Nat.le_refl _) (Nat.zero_le _) (by simp)) ⟨g, 0, none⟩ n cap (sCells Value.string k) rfl ?qc1 ?qc2 ?qc3 ?qc4 ?qc5 ?qc6 ?_)
    case qc1 => rw [sCells_length, hn]
    case qc2 => exact fun j u hj => cell_past (A.out j u hj) _
    case qc3 => exact sCells_one _ (fun _ => rfl) _
    case qc4 => unfold maxLen; omega
    case qc5 => omega
    case qc6 => simp
    intro v' w1 hown hgrow hnil
    have hB : Below w.heap.size w w1 := ((Below.refl _ w).alloc (Nat.le_refl _) _).grown hgrow (by simp) (by intro k hk; simp [Value.ownBlock] at hk; omega)
    have HO : Hid (w1.ownsRow w.heap.size 86 2 v' n (sCells Value.string k)) := hown
    have HB : Hid _ := hB
    clear hB hown hgrow hnil
    go_wp2
    go_ret
    exact ⟨v', rfl, HO.out, HB.out⟩

set_option maxRecDepth 1000000 in
theorem allS (w : World) (R : Nat) : Calls Try.prog 51 #[.pointer (some ⟨R, 0, none⟩)] w fun e w' =>
    e = .returned (.func (.func 54) #[] #[.pointer (some ⟨w.heap.size, 0, none⟩)]) ∧ w' = w.alloc (.cells #[.pointer (some ⟨R, 0, none⟩)] 35) := by
  have hmf : ∀ (fn : Fn) (first cap : Array Value) (w : World), (Instr.makeFunc fn first cap).run Try.prog w = .ok (.func fn first cap) w := fun _ _ _ _ => rfl
  go_enter Try.func51, Try.ntmps51
  go_wp2
  go_ret
  exact ⟨rfl, rfl⟩
end Go.Proofs.Ytjcbbcnjnnpfoaa
