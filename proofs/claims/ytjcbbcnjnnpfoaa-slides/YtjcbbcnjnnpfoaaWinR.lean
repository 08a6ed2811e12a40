/-
  THE REFERENCE's in AND Kept; the law's key, WALKED.
-/
import Derived.Test.YtjcbbcnjnnpfoaaWinFI
import Derived.Test.YtjcbbcnjnnpfoaaWinFS
import Derived.Laws.BytesArg
namespace Go.Proofs.Ytjcbbcnjnnpfoaa
open Go.RowKit Go.Lib Go.Shelf

set_option maxRecDepth 1000000 in
theorem ref_in (t wid now : Int) (w : World) (h1 : I64 t) (h2 : I64 wid) (h3 : I64 now) :
    Calls Try.prog 17 #[.int .i64 t, .int .i64 wid, .int .i64 now] w fun e w' => e = .returned (.bool (inW wid now t)) ∧ w' = w := by
  unfold I64 at *
  go_enter Try.func17, Try.ntmps17
  go_wp2
  · go_ret
    refine ⟨?_, rfl⟩
    show Ending.returned (.bool false) = _
    have hw : wid ≤ 0 := by assumption
    rw [inW, decide_eq_false (by omega), Bool.false_and]
  · go_ret
    refine ⟨?_, rfl⟩
    show Ending.returned (.bool (decide (9223372036854775807 - wid < t) || decide (now < t + wid))) = _
    have hw : 0 < wid := by assumption
    have ht : t ≤ 9223372036854775807 - wid := by assumption
    rw [inW, decide_eq_true hw, Bool.true_and, decide_eq_false (by omega : ¬ 9223372036854775807 - wid < t), Bool.false_or]
  · go_ret
    refine ⟨?_, rfl⟩
    show Ending.returned (.bool true) = _
    have hw : 0 < wid := by assumption
    have ht : 9223372036854775807 - wid < t := by assumption
    rw [inW, decide_eq_true hw, Bool.true_and, decide_eq_true (by omega)]

set_option maxRecDepth 1000000 in
theorem key_ex (n : Int) : ∃ k, ∀ w : World, Calls Try.prog 14 #[.int .i64 n] w fun e w' => e = .returned (.string k) ∧ Below w.heap.size w w' := by
  have hcv : ∀ (w : World) (a b c : Int), (convert 67 9 (.slice (some ⟨w.heap.size, 0, none⟩) 3 3)).run Try.prog (w.alloc (.cells #[.int .u8 a, .int .u8 b, .int .u8 c] 5)) = .ok (.string (strOfNums [a, b, c])) (w.alloc (.cells #[.int .u8 a, .int .u8 b, .int .u8 c] 5)) := fun w a b c =>
    run_convert_bytes_arg _ 67 5 Try.underlying67 Try.underlying5 w.heap.size 0 3 3 [a, b, c] rfl (fun i hi => by
      refine cell_of_heap (block_new _ _ _) ?_
      have : i = 0 ∨ i = 1 ∨ i = 2 := by omega
      rcases this with rfl | rfl | rfl <;> rfl) _ Try.underlying9
  by_cases hn : n.tmod 1000 < 0
  · refine ⟨strOfNums [wrap64 (48 + wrap64 ((wrap64 (n.tmod 1000 + 1000)).tdiv 100)) % 256, wrap64 (48 + (wrap64 ((wrap64 (n.tmod 1000 + 1000)).tdiv 10)).tmod 10) % 256, wrap64 (48 + (wrap64 (n.tmod 1000 + 1000)).tmod 10) % 256], fun w => ?_⟩
    · go_enter Try.func14, Try.ntmps14
      go_wp2
      go_ret
      exact ⟨rfl, (Below.refl _ _).alloc (Nat.le_refl _) _⟩
  · refine ⟨strOfNums [wrap64 (48 + wrap64 ((n.tmod 1000).tdiv 100)) % 256, wrap64 (48 + (wrap64 ((n.tmod 1000).tdiv 10)).tmod 10) % 256, wrap64 (48 + n.tmod 10) % 256], fun w => ?_⟩
    · go_enter Try.func14, Try.ntmps14
      go_wp2
      go_ret
      exact ⟨rfl, (Below.refl _ _).alloc (Nat.le_refl _) _⟩
/-- A number's key. -/
noncomputable def keyOf (n : Int) : ByteArray := Classical.choose (key_ex n)
theorem ref_key (n : Int) (w : World) : Calls Try.prog 14 #[.int .i64 n] w fun e w' => e = .returned (.string (keyOf n)) ∧ Below w.heap.size w w' := Classical.choose_spec (key_ex n) w

theorem infoRef : (Try.prog.info? 56).map (fun i => (i.zero, i.size, i.bytes)) = some (some (.agg #[.int .i64 0, .int .i64 0]), 2, 16) := by kernel_rfl
/-- A row's cells, an element at a time. -/
theorem row_cells {w : World} {base sT : Nat} {v : Value} {l : List (Int × Int)} (h : w.ownsRow base sT 2 v l.length (sCells (Value.int .i64) l)) {i : Nat} {x : Int × Int} (hx : l[i]? = some x) :
    ∃ g cp, v = .slice (some ⟨g, 0, none⟩) l.length cp ∧ w.cell? ⟨g, i * 2, none⟩ = some (.int .i64 x.1) ∧ w.cell? ⟨g, i * 2 + 1, none⟩ = some (.int .i64 x.2) := by
  have hi : i < l.length := (List.getElem?_eq_some_iff.1 hx).1
  obtain ⟨q1, q2⟩ := sCells_get (Value.int .i64) l i x hx
  rcases h.2 with ⟨-, h0⟩ | ⟨g, cap, cur, rfl, -, hg, hnc, hcm, hcs, htake⟩
  · omega
  refine ⟨g, cap, rfl, ?_, ?_⟩
  · rw [← htake, List.getElem?_take, if_pos (by omega)] at q1
    simpa [World.cell?, hg] using q1
  · rw [← htake, List.getElem?_take, if_pos (by omega)] at q2
    simpa [World.cell?, hg] using q2

set_option maxRecDepth 1000000 in
set_option maxHeartbeats 2000000 in
theorem ref_kept {w : World} {base : Nat} {lv : Value} {l : List (Int × Int)} {wid now : Int} (own : w.ownsRow base 56 2 lv l.length (sCells (Value.int .i64) l)) (hl : l.length ≤ 1073741824) (h2 : I64 wid) (h3 : I64 now) (ht : ∀ x ∈ l, I64 x.1) :
    Calls Try.prog 9 #[lv, .int .i64 wid, .int .i64 now] w fun e w' =>
      ∃ v', e = .returned v' ∧ w'.ownsRow w.heap.size 56 2 v' (keptR wid now l).length (sCells (Value.int .i64) (keptR wid now l)) ∧ Below w.heap.size w w' := by
  obtain ⟨i0, hi0, hz0, hz1, hz2⟩ := info_parts infoRef
  obtain ⟨ao, cp, rfl⟩ := owns_slice own
  have OWN : Hid (w.ownsRow base 56 2 (.slice ao l.length cp) l.length (sCells (Value.int .i64) l)) := own
  have HT : Hid (∀ x ∈ l, I64 x.1) := ht
  clear own ht
  generalize hn : l.length = n at *
  go_enter Try.func9, Try.ntmps9
  go_wp2_with fail
  go_loopw [7, 8] (fun v7 v8 wr => ∃ (j m : Nat) (oo : Option Addr) (oc : Nat), j ≤ n ∧ v8 = .int .i64 ((j : Int) - 1) ∧ v7 = .slice oo m oc ∧ m = (keptR wid now (l.drop j)).length ∧ m ≤ 16 ∧ Hid (wr.ownsRow w.heap.size 56 2 (.slice oo m oc) m (sCells (Value.int .i64) (keptR wid now (l.drop j)))) ∧ Hid (Below w.heap.size w wr)) (fun _ v8 _ => (intOf v8 + 1).toNat)
  case atStart =>
    refine ⟨n, 0, none, 0, Nat.le_refl _, rfl, rfl, ?_, by omega, ?_, Below.refl _ _⟩
    · rw [List.drop_of_length_le (by omega)]; rfl
    · rw [List.drop_of_length_le (by omega)]; exact World.ownsRow_nil _ _ _ _
  case round =>
    obtain ⟨j, m, oo, oc, hj, rfl, rfl, hm, hm16, HO, HB⟩ := hrel
    rcases Nat.eq_zero_or_pos j with h0 | h0
    · subst h0
      have HF : Hid (wr.ownsRow w.heap.size 56 2 (.slice oo m oc) (keptR wid now l).length (sCells (Value.int .i64) (keptR wid now l))) := by
        have := HO.out
        rw [List.drop_zero] at hm this
        rw [hm] at this ⊢
        exact this
      clear hm
      go_wp2
      go_ret
      exact ⟨_, rfl, HF.out, HB.out⟩
    · by_cases h16 : m < 16
      · obtain ⟨p, rfl⟩ : ∃ p, j = p + 1 := ⟨j - 1, by omega⟩
        have ep : ((p + 1 : Nat) : Int) - 1 = (p : Int) := by omega
        obtain ⟨x, hx⟩ : ∃ x, l[p]? = some x := ⟨l[p], List.getElem?_eq_getElem (by omega)⟩
        have ow2 := (Only.of_below (P := fun _ => False) HB.out).owns OWN.out (fun _ _ h => h)
        rw [← hn] at ow2
        obtain ⟨g, cp', he, q1, q2⟩ := row_cells ow2 hx
        injection he with he1 he2 he3
        subst he1
        clear he2 he3 ow2
        have hxt := HT.out x (List.mem_of_getElem? hx)
        have hin := ref_in x.1 wid now wr hxt h2 h3
        have hdr : l.drop p = x :: l.drop (p + 1) := by rw [List.drop_eq_getElem_cons (by omega)]; congr 1; rw [List.getElem?_eq_getElem (by omega)] at hx; exact Option.some.inj hx
        have hkc := keptR_cons (wid := wid) (now := now) x (l.drop (p + 1))
        rw [← hdr, ← hm] at hkc
        obtain ⟨x1, x2⟩ := x
        dsimp only at q1 q2 hin hkc
        have h16' : (m : Int) < 16 := by omega
        have hpn : (p : Int) < n := by omega
        rw [ep]
        clear hdr hxt hx
        cases hib : inW wid now x1 with
        | false =>
          rw [hib] at hin hkc
          rw [if_neg (by simp)] at hkc
          have HKC : Hid _ := hkc
          have HM : Hid _ := hm
          clear hkc hm hib
          go_wp2_with fail
          refine hin.mono ?_
          rintro e w' ⟨rfl, hw⟩
          have hw := hw.symm
          subst hw
          clear hin
          go_wp2
          go_roundw
          case rel => exact ⟨p, m, oo, oc, by omega, by go_num, rfl, by rw [HKC.out, HM.out], hm16, by rw [HKC.out]; exact HO, HB⟩
          case measure => simp [intOf]
        | true =>
          rw [hib] at hin hkc
          rw [if_pos ⟨h16, rfl⟩] at hkc
          have HKC : Hid _ := hkc
          have HM : Hid _ := hm
          clear hkc hm hib
          rcases HO.out.2 with ⟨he, hm0⟩ | ⟨g', cap', cur', he, -, hg', -, hcm', -, -⟩
          · injection he with he1 he2 he3
            subst he1 he3 hm0
            clear he2
            go_wp2_with fail
            refine hin.mono ?_
            rintro e w' ⟨rfl, hw⟩
            have hw := hw.symm
            subst hw
            clear hin
            go_wp2
            go_roundw
            case rel =>
              have e0 : keptR wid now (l.drop (p + 1)) = [] := List.length_eq_zero_iff.1 HM.out.symm
              refine ⟨p, 1, _, _, by omega, by go_num, rfl, by rw [HKC.out, e0]; rfl, by omega, ?_, HB.out.alloc HB.out.size _⟩
              rw [HKC.out, e0]
              exact ⟨rfl, .inr ⟨_, 1, _, rfl, HB.out.size, block_new _ _ _, Nat.le_refl _, by decide, rfl, rfl⟩⟩
            case measure => simp [intOf]
          · injection he with he1 he2 he3
            subst he1 he3
            clear he2
            have hcc := HO.out.cells (g := g') rfl
            have HC : Hid (∀ j u, (sCells (Value.int .i64) (keptR wid now (l.drop (p + 1))))[j]? = some u → wr.cell? ((⟨g', 0, none⟩ : Addr).add j) = some u) := hcc
            clear hcc hg'
            have hon : Hid ((wr.alloc (.cells #[.int .i64 x1, .int .i64 x2] 56)).ownsRow w.heap.size 56 2 (.slice (some ⟨wr.heap.size, 0, none⟩) 1 1) 1 [.int .i64 x1, .int .i64 x2]) := ⟨rfl, .inr ⟨_, 1, _, rfl, HB.out.size, block_new _ _ _, Nat.le_refl _, by decide, rfl, rfl⟩⟩
            go_wp2_with fail
            refine hin.mono ?_
            rintro e w' ⟨rfl, hw⟩
            have hw := hw.symm
            subst hw
            clear hin
            go_wp2_with (at_builtin; refine wpList_append_own _ rfl _ _ 25 rfl w.heap.size 56 i0 (.agg #[.int .i64 0, .int .i64 0]) 2 16 Try.underlying25 hi0 hz0 hz1 hz2 rfl (by decide) _ _ _ rfl hon.out ⟨g', 0, none⟩ m oc (sCells (Value.int .i64) (keptR wid now (l.drop (p + 1)))) rfl ?qc1 ?qc2 ?qc3 ?qc4 ?qc5 ?qc6 ?_)
            case qc1 => rw [sCells_length, ← HM.out]
            case qc2 => exact fun j u hj => cell_past (HC.out j u hj) _
            case qc3 => exact sCells_one _ (fun _ => rfl) _
            case qc4 => unfold maxLen; omega
            case qc5 => omega
            case qc6 => have := HB.out.size; simp; omega
            intro v' w1 hown hgrow hnil
            have hB : Below w.heap.size w w1 := (HB.out.alloc HB.out.size _).grown hgrow (by have := HB.out.size; simp; omega) (by intro k hk; simp [Value.ownBlock] at hk; have := HB.out.size; omega)
            obtain ⟨oo2, oc2, rfl⟩ := owns_slice hown
            have HO2 : Hid (w1.ownsRow w.heap.size 56 2 (.slice oo2 (1 + m) oc2) (1 + m) (sCells (Value.int .i64) ((x1, x2) :: keptR wid now (l.drop (p + 1))))) := by rw [sCells_cons]; exact hown
            have HB2 : Hid (Below w.heap.size w w1) := hB
            clear hB hown hgrow hnil
            go_wp2
            go_roundw
            case rel => exact ⟨p, 1 + m, _, _, by omega, by go_num, rfl, by rw [HKC.out, List.length_cons, ← HM.out]; omega, by omega, by rw [HKC.out]; exact HO2, HB2⟩
            case measure => simp [intOf]
      · have HF : Hid (wr.ownsRow w.heap.size 56 2 (.slice oo m oc) (keptR wid now l).length (sCells (Value.int .i64) (keptR wid now l))) := by
          have e := keptR_full (wid := wid) (now := now) (l.take j) (l.drop j) (by omega)
          rw [List.take_append_drop] at e
          have := HO.out
          rw [hm] at this ⊢
          rw [e]
          exact this
        have h16' : ¬ (m : Int) < 16 := by omega
        clear hm
        go_wp2
        go_ret
        exact ⟨_, rfl, HF.out, HB.out⟩
end Go.Proofs.Ytjcbbcnjnnpfoaa
