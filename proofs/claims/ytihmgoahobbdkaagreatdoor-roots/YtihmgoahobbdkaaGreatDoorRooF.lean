/-
  plain.Metrics, WALKED.
-/
import Derived.Test.YtihmgoahobbdkaaGreatDoorCodeO
import Derived.Test.YtihmgoahobbdkaaGreatDoorRooE
import Derived.Test.YtihmgoahobbdkaaGreatDoorSpecFine
namespace Go.Proofs.YtihmgoahobbdkaaGreatDoor
open Go.RowKit Go.Lib

/-- Bounds of a tree that was read. -/
theorem read_bounds {s : ByteArray} (hs : s.size ≤ 200) {t : Tree} {J : Nat} (hD : D s (toks s) .choice 0 (.ok [t] J)) (hk : kd (toks s) J = 101) : (mets t).length ≤ 300 ∧ Fine t := by
  have h1 := kd_lt hk (by decide)
  have h2 := toks_length s
  have h3 := hD.mets_le.2 rfl
  have h4 := (hD.fine.2 (by simp only [Out.at]; omega) (by simp only [Lvl.got, FineAll])).1
  simp only [Out.mets, Out.at, Lvl.got, metsAll, List.append_nil, List.length_nil] at h3
  simp only [Out.trees, FineAll] at h4
  exact ⟨by omega, h4.1⟩
theorem notes_bound {t : Tree} (h : (mets t).length ≤ 300) : (notes [] (mets t)).length ≤ 300 := by
  have := (notes_length (mets t) []).2
  simp at this
  omega
/-- What plain.Metrics tells of a text. -/
def MTold (n : Int) (w : World) (e : Ending) (t : Option Tree) : Prop :=
  match t with
  | none => e = .returned (.tuple #[.slice none 0 0, .slice none 0 0, .bool false])
  | some t => (mets t).length ≤ 300 ∧ Fine t ∧ ∃ va vb, e = .returned (.tuple #[va, vb, .bool true]) ∧ Txts w va (firstN n (notes [] (mets t))) ∧ Txts w vb (notes [] (mets t))

set_option maxRecDepth 1000000 in
set_option maxHeartbeats 1000000 in
theorem plain_Metrics (s : ByteArray) (n : Int) {A : Addr} {w : World} (hT : Tabs w) (hA : w.cell? ⟨1, 0, none⟩ = some (.iface 355 (.pointer (some A)))) :
    Calls Tryz.prog 10 #[.string s, .int .i64 n] w fun e w' => ∃ (t : Option Tree) (f p : Nat), PRel s (t, f, p) ∧ Below w.heap.size w w' ∧ MTold n w' e t := by
  have hp := code_Parse s w hT A hA
  clear hT hA
  go_enter Tryz.func10, Tryz.ntmps10
  go_wp2_with fail
  refine hp.mono ?_
  rintro e w1 ⟨hb1, hc⟩
  clear hp
  have HB1 : Hid (Below w.heap.size w w1) := hb1
  clear hb1
  rcases hc with ⟨h1, rfl⟩ | ⟨h1, ⟨J, b, h2, rfl, h3⟩ | ⟨t, J, a, h2, h3, rfl, h4⟩⟩
  · have HP : Hid (PRel s (none, 1, 0)) := .inl ⟨h1, rfl⟩
    clear h1
    go_wp2
    refine bodyPost_ret (v := .tuple #[.slice none 0 0, .slice none 0 0, .bool false]) (by simp [results, Tryz.results10, go_sem]) rfl ?_
    exact ⟨none, 1, 0, HP.out, HB1.out, rfl⟩
  · have HP : Hid (PRel s (none, 2, pl (toks s) J)) := .inr ⟨h1, by
      rcases h2 with h2 | ⟨t, h2, h4⟩
      · exact .inl ⟨J, h2, rfl⟩
      · exact .inr (.inl ⟨t, J, h2, h4, rfl⟩)⟩
    clear h1 h2 h3
    go_wp2
    refine bodyPost_ret (v := .tuple #[.slice none 0 0, .slice none 0 0, .bool false]) (by simp [results, Tryz.results10, go_sem]) rfl ?_
    exact ⟨none, 2, _, HP.out, HB1.out, rfl⟩
  · have HP : Hid (PRel s (some t, 0, 0)) := .inr ⟨h1, .inr (.inr ⟨t, J, h2, h3, rfl⟩)⟩
    obtain ⟨hmb, hfi⟩ := read_bounds h1 h2 h3
    have hnb := notes_bound hmb
    obtain ⟨pb, a', rfl, -, h5, tb, ty, pa, mv, rfl, -, h6, -, h7⟩ := h4
    obtain ⟨ao, cp, rfl⟩ := owns_slice_len h7
    have hnm := code_Names h5 h6
    have hO := h7.alloc (.cells #[.slice ao (notes [] (mets t)).length cp] 30)
    have hX := block_new w1 #[.slice ao (notes [] (mets t)).length cp] 30
    have HF : Hid ((mets t).length ≤ 300 ∧ Fine t) := ⟨hmb, hfi⟩
    clear h1 h2 h3 h5 h6 h7 hmb hfi
    have htk := takenRun hO (by omega) hX n
    have HO : Hid _ := hO
    have HX : Hid _ := hX
    have hB2 : Below w.heap.size w (w1.alloc (.cells #[.slice ao (notes [] (mets t)).length cp] 30)) := HB1.out.alloc HB1.out.size _
    have HB2 : Hid (Below w.heap.size w (w1.alloc (.cells #[.slice ao (notes [] (mets t)).length cp] 30))) := hB2
    clear hO hX hB2
    go_wp2_with fail
    refine hnm.mono ?_
    rintro e w' ⟨rfl, rfl⟩
    clear hnm
    go_wp2_with fail
    refine htk.mono ?_
    rintro e w3 ⟨ta, rfl, hb3, ho3⟩
    have htk2 := takenRun (owns_below HO.out hb3) (by omega) ((hb3.block _ (heap_lt HX.out)).trans HX.out) (-1)
    have HB3 : Hid (Below w.heap.size w w3) := HB2.out.trans (hb3.mono HB2.out.size)
    have HT3 : Hid (Txts w3 ta (firstN n (notes [] (mets t)))) := .of_owns ho3
    obtain ⟨to, tc, rfl⟩ := owns_slice_len ho3
    clear htk hb3 ho3 HO HX HB2
    go_wp2_with fail
    refine htk2.mono ?_
    rintro e w4 ⟨tb2, rfl, hb4, ho4⟩
    have HB4 : Hid (Below w.heap.size w w4) := HB3.out.trans (hb4.mono HB3.out.size)
    have HT4 : Hid (Txts w4 _ (firstN n (notes [] (mets t)))) := HT3.out.below hb4
    have HU4 : Hid (Txts w4 tb2 (notes [] (mets t))) := by
      have := Txts.of_owns ho4
      unfold firstN at this
      rw [if_neg (by omega)] at this
      exact this
    obtain ⟨uo, uc, rfl⟩ := owns_slice_len ho4
    clear htk2 hb4 ho4 HB3 HT3
    go_wp2
    refine bodyPost_ret (v := .tuple #[.slice to (firstN n (notes [] (mets t))).length tc, .slice uo (firstN (-1) (notes [] (mets t))).length uc, .bool true]) (by simp [results, Tryz.results10, go_sem]) rfl ?_
    exact ⟨some t, 0, 0, HP.out, HB4.out, HF.out.1, HF.out.2, _, _, rfl, HT4.out, HU4.out⟩
end Go.Proofs.YtihmgoahobbdkaaGreatDoor
