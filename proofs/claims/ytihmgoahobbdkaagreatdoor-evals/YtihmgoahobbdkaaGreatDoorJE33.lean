/-
  TREES THAT ARE READ ARE FINE.
-/
import Derived.Test.YtihmgoahobbdkaaGreatDoorJE32
import Derived.Test.YtihmgoahobbdkaaGreatDoorJE14
import Derived.Test.YtihmgoahobbdkaaGreatDoorJE31
import Derived.Test.YtihmgoahobbdkaaGreatDoorJE17
import Derived.Test.YtihmgoahobbdkaaGreatDoorJE4
import Derived.Test.YtihmgoahobbdkaaGreatDoorJE29
import Derived.Test.YtihmgoahobbdkaaGreatDoorJE30
import Derived.Deep.RegionHeld3
namespace Go.Proofs.YtihmgoahobbdkaaGreatDoor

theorem fineAll_append : ∀ a b, FineAll (a ++ b) ↔ FineAll a ∧ FineAll b
  | [], b => by simp [FineAll]
  | t :: a, b => by simp [FineAll, fineAll_append a b, and_assoc]
def Out.trees : Out → List Tree
  | .ok ts _ => ts
  | .bad _ => []
theorem D.fine {s : ByteArray} {L : List Tok} {v : Lvl} {I : Nat} {o : Out} (h : D s L v I o) : I ≤ o.at ∧ (o.at ≤ 1000 → FineAll v.got → FineAll o.trees ∧ (o.isOk = true → o.trees.length + I ≤ v.got.length + o.at)) := by
  induction h <;> simp only [Out.at, Out.isOk, Out.trees, Lvl.got, FineAll, fineAll_append, Fine, List.length_append, List.length_nil, List.length_cons] at * <;> grind
end Go.Proofs.YtihmgoahobbdkaaGreatDoor
namespace Go.Proofs.YtihmgoahobbdkaaGreatDoor
open Go.RowKit Go.Lib

/-- Bounds of a tree that was read. -/
theorem read_bounds {s : ByteArray} (hs : s.size ≤ 200) {t : Tree} {J : Nat} (hD : D s (toks s) .choice 0 (.ok [t] J)) (hk : kd (toks s) J = 101) : (mets t).length ≤ 300 ∧ Fine t := by
  have h1 := kd_lt hk (by decide)
  have h2 := toks_length s
  have h3 := hD.mets_le.2 rfl
  have h4 := (hD.fine.2 (by simp only [Out.at]; omega) (by simp only [Lvl.got, FineAll])).1
  simp only [Out.mets, Out.at, Lvl.got, metsAll, List.append_nil, List.length_nil] at h3
  simp only [Out.trees, FineAll] at h4
  exact ⟨by omega, h4.1⟩
theorem notes_bound {t : Tree} (h : (mets t).length ≤ 300) : (notes [] (mets t)).length ≤ 300 := by
  have := (notes_length (mets t) []).2
  simp at this
  omega
/-- What plain.Metrics tells of a text. -/
def MTold (n : Int) (w : World) (e : Ending) (t : Option Tree) : Prop :=
  match t with
  | none => e = .returned (.tuple #[.slice none 0 0, .slice none 0 0, .bool false])
  | some t => (mets t).length ≤ 300 ∧ Fine t ∧ ∃ va vb, e = .returned (.tuple #[va, vb, .bool true]) ∧ Txts w va (firstN n (notes [] (mets t))) ∧ Txts w vb (notes [] (mets t))

set_option maxRecDepth 1000000 in
set_option maxHeartbeats 1000000 in
theorem plain_Metrics (s : ByteArray) (n : Int) {A : Addr} {w : World} (hT : Tabs w) (hA : w.cell? ⟨1, 0, none⟩ = some (.iface 355 (.pointer (some A)))) :
    Calls Tryz.prog 10 #[.string s, .int .i64 n] w fun e w' => ∃ (t : Option Tree) (f p : Nat), PRel s (t, f, p) ∧ Below w.heap.size w w' ∧ MTold n w' e t := by
  have hp := code_Parse s w hT A hA
  clear hT hA
  go_enter Tryz.func10, Tryz.ntmps10
  go_wp2_with fail
  refine hp.mono ?_
  rintro e w1 ⟨hb1, hc⟩
  clear hp
  have HB1 : Hid (Below w.heap.size w w1) := hb1
  clear hb1
  rcases hc with ⟨h1, rfl⟩ | ⟨h1, ⟨J, b, h2, rfl, h3⟩ | ⟨t, J, a, h2, h3, rfl, h4⟩⟩
  · have HP : Hid (PRel s (none, 1, 0)) := .inl ⟨h1, rfl⟩
    clear h1
    go_wp2
    refine bodyPost_ret (v := .tuple #[.slice none 0 0, .slice none 0 0, .bool false]) (by simp [results, Tryz.results10, go_sem]) rfl ?_
    exact ⟨none, 1, 0, HP.out, HB1.out, rfl⟩
  · have HP : Hid (PRel s (none, 2, pl (toks s) J)) := .inr ⟨h1, by
      rcases h2 with h2 | ⟨t, h2, h4⟩
      · exact .inl ⟨J, h2, rfl⟩
      · exact .inr (.inl ⟨t, J, h2, h4, rfl⟩)⟩
    clear h1 h2 h3
    go_wp2
    refine bodyPost_ret (v := .tuple #[.slice none 0 0, .slice none 0 0, .bool false]) (by simp [results, Tryz.results10, go_sem]) rfl ?_
    exact ⟨none, 2, _, HP.out, HB1.out, rfl⟩
  · have HP : Hid (PRel s (some t, 0, 0)) := .inr ⟨h1, .inr (.inr ⟨t, J, h2, h3, rfl⟩)⟩
    obtain ⟨hmb, hfi⟩ := read_bounds h1 h2 h3
    have hnb := notes_bound hmb
    obtain ⟨pb, a', rfl, -, h5, tb, ty, pa, mv, rfl, -, h6, -, h7⟩ := h4
    obtain ⟨ao, cp, rfl⟩ := owns_slice_len h7
    have hnm := code_Names h5 h6
    have hO := h7.alloc (.cells #[.slice ao (notes [] (mets t)).length cp] 30)
    have hX := block_new w1 #[.slice ao (notes [] (mets t)).length cp] 30
    have HF : Hid ((mets t).length ≤ 300 ∧ Fine t) := ⟨hmb, hfi⟩
    clear h1 h2 h3 h5 h6 h7 hmb hfi
    have htk := takenRun hO (by omega) hX n
    have HO : Hid _ := hO
    have HX : Hid _ := hX
    have hB2 : Below w.heap.size w (w1.alloc (.cells #[.slice ao (notes [] (mets t)).length cp] 30)) := HB1.out.alloc HB1.out.size _
    have HB2 : Hid (Below w.heap.size w (w1.alloc (.cells #[.slice ao (notes [] (mets t)).length cp] 30))) := hB2
    clear hO hX hB2
    go_wp2_with fail
    refine hnm.mono ?_
    rintro e w' ⟨rfl, rfl⟩
    clear hnm
    go_wp2_with fail
    refine htk.mono ?_
    rintro e w3 ⟨ta, rfl, hb3, ho3⟩
    have htk2 := takenRun (owns_below HO.out hb3) (by omega) ((hb3.block _ (heap_lt HX.out)).trans HX.out) (-1)
    have HB3 : Hid (Below w.heap.size w w3) := HB2.out.trans (hb3.mono HB2.out.size)
    have HT3 : Hid (Txts w3 ta (firstN n (notes [] (mets t)))) := .of_owns ho3
    obtain ⟨to, tc, rfl⟩ := owns_slice_len ho3
    clear htk hb3 ho3 HO HX HB2
    go_wp2_with fail
    refine htk2.mono ?_
    rintro e w4 ⟨tb2, rfl, hb4, ho4⟩
    have HB4 : Hid (Below w.heap.size w w4) := HB3.out.trans (hb4.mono HB3.out.size)
    have HT4 : Hid (Txts w4 _ (firstN n (notes [] (mets t)))) := HT3.out.below hb4
    have HU4 : Hid (Txts w4 tb2 (notes [] (mets t))) := by
      have := Txts.of_owns ho4
      unfold firstN at this
      rw [if_neg (by omega)] at this
      exact this
    obtain ⟨uo, uc, rfl⟩ := owns_slice_len ho4
    clear htk2 hb4 ho4 HB3 HT3
    go_wp2
    refine bodyPost_ret (v := .tuple #[.slice to (firstN n (notes [] (mets t))).length tc, .slice uo (firstN (-1) (notes [] (mets t))).length uc, .bool true]) (by simp [results, Tryz.results10, go_sem]) rfl ?_
    exact ⟨some t, 0, 0, HP.out, HB4.out, HF.out.1, HF.out.2, _, _, rfl, HT4.out, HU4.out⟩
end Go.Proofs.YtihmgoahobbdkaaGreatDoor
namespace Go.Proofs.YtihmgoahobbdkaaGreatDoor
open Go.Lib

theorem fits_append : ∀ a b, FitAll (a ++ b) ↔ FitAll a ∧ FitAll b
  | [], b => by simp [FitAll]
  | t :: a, b => by simp [FitAll, fits_append a b, and_assoc]
theorem sizes_append : ∀ a b, sizes (a ++ b) = sizes a + sizes b
  | [], b => by simp [sizes]
  | t :: a, b => by simp [sizes, sizes_append a b]; omega
theorem sizes_length : ∀ ts : List Tree, ts.length ≤ sizes ts
  | [] => by simp [sizes]
  | t :: ts => by have := sizes_length ts; have := size_pos t; simp [sizes]; omega
set_option maxHeartbeats 4000000 in
theorem D.fits {s : ByteArray} {L : List Tok} (hn : ∀ I, kd L I = 97 → isName (tx s L I) = true ∧ (tx s L I).size < 256) (hd : ∀ I, kd L I = 110 → 0 ≤ numOf (tx s L I).data.toList ∧ numOf (tx s L I).data.toList < 1000000000) (hp : ∀ I, kd L I ≠ 101 → pl L I < 200)
    {v : Lvl} {I : Nat} {o : Out} (h : D s L v I o) : I ≤ o.at ∧ (o.at ≤ 250 → FitAll v.got → FitAll o.trees ∧ (o.isOk = true → sizes o.trees + I ≤ sizes v.got + o.at)) := by
  have hl := sizes_length
  induction h <;> simp only [Out.at, Out.isOk, Out.trees, Lvl.got, FitAll, fits_append, sizes, sizes_append, Fit, size, isReck] at * <;> grind

theorem word_sub (s : ByteArray) (i : Nat) : ∀ f k n g, i ≤ k → k ≤ s.size → s.size - k ≤ f → f ≤ g → wordFrom (s.extract i (wordFrom s f k n).1) g (k - i) n = ((wordFrom s f k n).1 - i, (wordFrom s f k n).2)
  | 0, k, n, g, h1, h2, h3, h4 => by
    have hsz : (s.extract i k).size = k - i := by simp; omega
    simp only [wordFrom]
    cases g with
    | zero => simp [wordFrom]
    | succ g =>
      unfold wordFrom
      rw [if_neg (by rw [hsz]; omega)]
  | f + 1, k, n, 0, h1, h2, h3, h4 => by omega
  | f + 1, k, n, g + 1, h1, h2, h3, h4 => by
    rw [show wordFrom s (f + 1) k n = if k < s.size ∧ namePart (n == 0) (Utf8.decode s k).1 = true then wordFrom s f (k + (Utf8.decode s k).2) (n + 1) else (k, n) from by rw [wordFrom]]
    split
    · rename_i hh
      have w1 := width_pos s k
      have w2 := decode_le hh.1
      have hl := wordFrom_le s f (k + (Utf8.decode s k).2) (n + 1) w2
      have ih := word_sub s i f (k + (Utf8.decode s k).2) (n + 1) g (by omega) w2 (by omega) (by omega)
      generalize hE : (wordFrom s f (k + (Utf8.decode s k).2) (n + 1)).1 = e at *
      have hsz : (s.extract i e).size = e - i := by simp; omega
      have hx : s.extract i e = (s.extract i s.size).extract 0 (e - i) := (extract_sub s i e hl.2.1 (by omega)).symm
      have hd : Utf8.decode (s.extract i e) (k - i) = Utf8.decode s k := by
        have e1 : Utf8.decode (s.extract i s.size) (k - i) = Utf8.decode s k := by rw [tail_decode]; congr 1; omega
        rw [hx, decode_head (s.extract i s.size) (e - i) (k - i) (by rw [tail_size]; omega) (by omega) (by rw [e1]; omega), e1]
      conv => lhs; rw [wordFrom]
      rw [hd, hsz, if_pos ⟨by omega, hh.2⟩, show k - i + (Utf8.decode s k).2 = k + (Utf8.decode s k).2 - i by omega]
      exact ih
    · have hsz : (s.extract i k).size = k - i := by simp; omega
      unfold wordFrom
      rw [if_neg (by rw [hsz]; omega)]
theorem byteAt_sub {s : ByteArray} {i e : Nat} (h : i < e) (_he : e ≤ s.size) : byteAt (s.extract i e) 0 = byteAt s i := by
  unfold byteAt
  simp [ByteArray.data_extract]
  rw [List.getElem?_take_of_lt (by omega)]
  simp
theorem tok_name {s : ByteArray} {i : Nat} (hi : i ≤ s.size) (h : (tokAt s i).kind = 97) : isName ((tokAt s i).text s) = true ∧ ((tokAt s i).text s).size ≤ s.size := by
  unfold tokAt at h ⊢
  split at h
  · cases h
  rename_i h1
  rw [if_neg h1]
  split at h
  · rename_i h2
    have h' : (byteAt s i).toNat = 97 := h
    have e : byteAt s i = 97 := UInt8.toNat_inj.1 h'
    rw [e] at h2
    exact absurd h2 (by decide)
  rename_i h2
  rw [if_neg h2]
  split at h
  · split at h <;> cases h
  rename_i h3
  rw [if_neg h3]
  split at h
  · cases h
  rename_i h4
  rw [if_neg h4]
  have hl := wordFrom_le s (s.size - i) i 0 hi
  have hlt := hl.2.2.2.1 (by have : ¬ (wordEnd s i).2 = 0 := fun e => h4 (.inl e); unfold wordEnd at this; omega)
  have hw := word_sub s i (s.size - i) i 0 (s.size - i) (Nat.le_refl _) hi (Nat.le_refl _) (Nat.le_refl _)
  change isName (s.extract i (wordEnd s i).1) = true ∧ (s.extract i (wordEnd s i).1).size ≤ s.size
  have hsz : (s.extract i (wordEnd s i).1).size = (wordEnd s i).1 - i := by have : (wordEnd s i).1 ≤ s.size := hl.2.1; simp; omega
  refine ⟨?_, by have : (wordEnd s i).1 ≤ s.size := hl.2.1; omega⟩
  have hpos : i < (wordEnd s i).1 := hlt
  have hle : (wordEnd s i).1 ≤ s.size := hl.2.1
  have hb := byteAt_sub hpos hle
  have h3' : isDig (byteAt s i) = false := by
    cases e : isDig (byteAt s i) with
    | false => rfl
    | true =>
      exfalso
      apply h3
      unfold digEnd
      obtain ⟨f, hf⟩ : ∃ f, s.size - i = f + 1 := ⟨s.size - i - 1, by omega⟩
      rw [hf, digFrom, if_pos ⟨by omega, e⟩]
      have := digFrom_le s f (i + 1) (by omega)
      omega
  have hw2 : wordEnd (s.extract i (wordEnd s i).1) 0 = ((wordEnd s i).1 - i, (wordEnd s i).2) := by
    have e1 := wordFrom_fuel (s.extract i (wordEnd s i).1) (s.size - i) ((s.extract i (wordEnd s i).1).size - 0) 0 0 (by rw [hsz]; omega) (Nat.le_refl _)
    rw [Nat.sub_self] at hw
    exact e1.symm.trans hw
  have hd0 : digEnd (s.extract i (wordEnd s i).1) 0 = 0 := by
    unfold digEnd
    obtain ⟨f, hf⟩ : ∃ f, (s.extract i (wordEnd s i).1).size - 0 = f + 1 := ⟨(s.extract i (wordEnd s i).1).size - 0 - 1, by omega⟩
    rw [hf, digFrom, if_neg (by rw [hb, h3']; simp)]
  unfold isName tokAt
  rw [hb, hw2, hd0, hsz, if_neg (by omega), if_neg h2, if_neg (by omega), if_neg h4]
  simp
theorem toks_all {s : ByteArray} (P : Tok → Prop) (hP : ∀ i, i ≤ s.size → P (tokAt s i)) {I : Nat} (hI : I < (toks s).length) : P ((toks s).getD I default) :=
  toksAt_all s P hP s.size 0 (by omega) (by omega) _ (by
    rw [List.getD_eq_getElem?_getD, List.getElem?_eq_getElem hI]
    exact List.getElem_mem hI)
/-- What Parse reads fits in the code. -/
theorem read_fits {s : ByteArray} (hs : s.size ≤ 200) {t : Tree} {J : Nat} (h : D s (toks s) .choice 0 (.ok [t] J)) (hJ : kd (toks s) J = 101) : Fit t ∧ size t ≤ 200 := by
  have hlt := kd_lt hJ (by decide)
  have hlen := toks_length s
  have q := D.fits (s := s) (L := toks s) (fun I hk => by
      have := toks_all (s := s) (fun t => t.kind = 97 → isName (t.text s) = true ∧ (t.text s).size ≤ s.size) (fun i hi h => tok_name hi h) (kd_lt hk (by decide)) hk
      exact ⟨this.1, Nat.lt_of_le_of_lt this.2 (by omega)⟩)
    (fun I hk => by
      have hg : Digits (tx s (toks s) I) := toks_good s I (kd_lt hk (by decide)) hk
      have := numOf_lt hg.1 _ (Nat.le_refl _)
      have h9 := pow9 (k := (tx s (toks s) I).size) hg.2
      rw [List.take_of_length_le (by simp)] at this
      omega)
    (fun I hk => by
      by_cases hI : I < (toks s).length
      · have := toks_all (s := s) (fun t => t.kind ≠ 101 → t.pos < s.size) (fun i hi h => by
          unfold tokAt at h ⊢
          split at h
          · exact absurd rfl h
          · (repeat' split) <;> simp <;> omega) hI hk
        exact Nat.lt_of_lt_of_le this hs
      · unfold pl
        rw [List.getD_eq_getElem?_getD, List.getElem?_eq_none (by omega)]
        decide) h
  have q2 := q.2 (by simp only [Out.at]; omega) (by simp [Lvl.got, FitAll])
  simp only [Out.trees, FitAll, Out.isOk, sizes, Lvl.got, Out.at] at q2
  exact ⟨q2.1.1, by have := q2.2 trivial; omega⟩
end Go.Proofs.YtihmgoahobbdkaaGreatDoor
namespace Go.Proofs.YtihmgoahobbdkaaGreatDoor
open Go.RowKit Go.Lib

theorem CNode.bounded {lo : Nat} {w : World} {t : Tree} {v : Value} (h : CNode (Hi lo) w t v) : CNode (Lt w.heap.size) w t v := h.moves fun _ _ _ _ hb _ => ⟨heap_lt hb, rfl⟩
theorem W8.below_size {w w' : World} (h : W8 w.heap.size w w') : Below w.heap.size w w' := h.below
set_option maxRecDepth 1000000 in
theorem code_Write {lo : Nat} {w : World} {t : Tree} {tb : Nat} {v mv : Value} (hf : Fit t) (hs : size t ≤ 200) (hb : w.heap[tb]? = some (.cells #[v, mv] 129 (0, 0))) (hn : CNode (Hi lo) w t v) :
    Calls Tryz.prog 51 #[ptr tb] w fun e w' => ∃ vo, e = .returned vo ∧ Out8 w.heap.size w' vo (enc t) ∧ Below w.heap.size w w' := by
  have hl := enc_length t hf
  have hpc := w_all (B := w.heap.size) t hf w (.slice none 0 0) v [] hn.bounded (Out8.nil _ _) (Nat.le_refl _) (by simp; omega)
  have c0 : w.cell? ⟨tb, 0, none⟩ = some v := cell_of_heap hb rfl
  obtain ⟨ty, b, rfl⟩ := hn.form
  clear hb hn hf hl
  go_enter Tryz.func51, Tryz.ntmps51
  go_wp2_with fail
  refine hpc.mono ?_
  rintro e w1 ⟨vo, rfl, ho, hw⟩
  have Q : Hid _ := And.intro ho hw
  clear hpc ho hw
  go_wp2
  go_ret
  exact ⟨_, rfl, by simpa using Q.out.1, Q.out.2.below⟩
set_option maxRecDepth 1000000 in
theorem code_Code {lo : Nat} {w : World} {t : Tree} {pb : Nat} (hf : Fit t) (hs : size t ≤ 200) (h : CPol lo w t ⟨pb, 0, none⟩) :
    Calls Tryz.prog 30 #[ptr pb] w fun e w' => ∃ vo, e = .returned vo ∧ Out8 w.heap.size w' vo (enc t) ∧ Below w.heap.size w w' := by
  obtain ⟨pb', a', e, -, h5, tb, ty, pa, mv, rfl, -, h6, h7, -⟩ := h
  injection e with e
  subst e
  have hem := code_empty h5
  have hwr := code_Write hf hs h6 h7
  have c0 : w.cell? ⟨pb, 0, none⟩ = some (ptr tb) := cell_of_heap h5 rfl
  clear h5 h6 h7
  go_enter Tryz.func30, Tryz.ntmps30
  go_wp2_with fail
  refine hem.mono ?_
  rintro e w' ⟨rfl, hw⟩
  have hw := hw.symm
  subst hw
  clear hem
  go_wp2_with fail
  refine hwr.mono ?_
  rintro e w1 ⟨vo, rfl, ho, hw⟩
  have Q : Hid _ := And.intro ho hw
  clear hwr ho hw
  go_wp2
  go_ret
  exact ⟨_, rfl, Q.out⟩
/-- Bytes of the call's own, as the reader wants them. -/
theorem Out8.rest {B : Nat} {w : World} {v : Value} {l : List UInt8} (h : Out8 B w v l) : RestAt w.heap.size w v l := by
  have h0 := h
  rcases h.2 with ⟨rfl, h1⟩ | ⟨g, cap, cur, rfl, hbg, hg, hnc, -⟩
  · have : l = [] := List.eq_nil_of_length_eq_zero h1
    subst this
    exact ⟨none, 0, rfl, Nat.le_refl _, fun j b hj => by simp at hj⟩
  · refine ⟨some ⟨g, 0, none⟩, cap, rfl, hnc, fun j b hj => ⟨g, 0, heap_lt hg, rfl, ?_⟩⟩
    have := h0.cells (g := g) rfl j (.int .u8 b.toNat) (by simp [bytesV, hj])
    rwa [show (⟨g, 0, none⟩ : Addr).add j = ⟨g, 0 + j, none⟩ by unfold Addr.add; split <;> simp_all] at this
theorem RestAt.bytes {R : Nat} {w : World} {v : Value} {l : List UInt8} (h : RestAt R w v l) : BytesIn w v l := by
  obtain ⟨ao, cp, h1, -, h3⟩ := h
  exact ⟨ao, cp, h1, fun j b hj => by obtain ⟨C, off, -, h4, h5⟩ := h3 j b hj; exact ⟨C, off, h4, h5⟩⟩
set_option maxRecDepth 1000000 in
theorem code_PNames {lo : Nat} {w : World} {b : Nat} {t : Tree} {ms : List ByteArray} {qs : List (Nat × ByteArray)} {sp : List (ByteArray × Int)} {F : ByteArray → Option Value} (h : ProgB lo w b t ms qs sp F) :
    Calls Tryz.prog 33 #[ptr b] w fun e w' => ∃ ao cp, e = .returned (.func (.func 75) #[] #[.pointer (some ⟨w.heap.size, 0, none⟩)]) ∧ w' = w.alloc (.cells #[.slice ao ms.length cp] 30) ∧ w.ownsRow lo 9 1 (.slice ao ms.length cp) ms.length (ms.map Value.string) := by
  obtain ⟨lb, g, G, h1, ⟨⟨vv, mv, sv, av, h2, -, -, h3, -⟩, -⟩, -⟩ := h.blk
  obtain ⟨ao, cp, rfl⟩ := owns_len h3
  have c0 : w.cell? ⟨b, 0, none⟩ = some (ptr lb) := cell_of_heap h1 rfl
  have c1 : w.cell? ⟨lb, 1, none⟩ = some (.slice ao ms.length cp) := cell_of_heap h2 rfl
  have hem : Calls Tryz.prog 56 #[ptr b] w fun e w' => e = .returned (.bool false) ∧ w' = w := by
    clear h h1 h2 h3 c1
    go_enter Tryz.func56, Tryz.ntmps56
    go_wp2
    go_ret
    exact ⟨rfl, rfl⟩
  have hea := code_each (w := w) ao ms.length cp
  have H3 : Hid _ := h3
  clear h h1 h2 h3
  go_enter Tryz.func33, Tryz.ntmps33
  go_wp2_with fail
  refine hem.mono ?_
  rintro e w' ⟨rfl, hw⟩
  have hw := hw.symm
  subst hw
  go_wp2_with fail
  refine hea.mono ?_
  rintro e w' ⟨rfl, rfl⟩
  go_wp2
  go_ret
  exact ⟨ao, cp, rfl, rfl, H3.out⟩
theorem Tryz.assertN1 (v : Value) (xT : TypeId) (w : World) : (Instr.typeAssert (.iface 115 v) xT 110 true).run Tryz.prog w = .ok (.tuple #[.pointer none, .bool false]) w := by kernel_rfl
theorem Tryz.assertN2 (v : Value) (xT : TypeId) (w : World) : (Instr.typeAssert (.iface 115 v) xT 115 true).run Tryz.prog w = .ok (.tuple #[v, .bool true]) w := by kernel_rfl
/-- What an error is told as, with its name. -/
def told4 (f p : Nat) (s : ByteArray) : Value := .agg #[.int .i64 (f : Int), .int .i64 (p : Int), .int .i64 0, .string s]
set_option maxRecDepth 1000000 in
theorem of_name {b p : Nat} {s : ByteArray} (w : World) (h : w.heap[b]? = some (.cells #[.int .i64 (p : Int), .string s] 117 (0, 0))) : Calls Tryz.prog 24 #[.iface 115 (ptr b)] w fun e w' => e = .returned (told4 3 p s) ∧ Below w.heap.size w w' := by
  have c0 : w.cell? ⟨b, 0, none⟩ = some (.int .i64 (p : Int)) := cell_of_heap h rfl
  have c1 : w.cell? ⟨b, 1, none⟩ = some (.string s) := cell_of_heap h rfl
  have lb := heap_lt h
  have t1 := Tryz.assertN1
  have t2 := Tryz.assertN2
  clear h
  go_enter Tryz.func24, Tryz.ntmps24
  go_wp2_with fail
  go_region
  all_goals
    go_wp2
    refine bodyPost_ret (v := told4 3 p s) (by simp [told4, results, Tryz.results24, go_sem]) rfl ⟨rfl, ?_⟩
    exact ((Below.refl _ _).alloc (Nat.le_refl _) _).drew
set_option maxRecDepth 1000000 in
theorem of_nil4 (w : World) : Calls Tryz.prog 24 #[.nilIface] w fun e w' => e = .returned (told4 0 0 ⟨#[]⟩) ∧ Below w.heap.size w w' := by
  go_enter Tryz.func24, Tryz.ntmps24
  go_wp2
  refine bodyPost_ret (v := told4 0 0 ⟨#[]⟩) (by simp [told4, results, Tryz.results24, go_sem]) rfl ⟨rfl, ?_⟩
  exact (Below.refl _ _).alloc (Nat.le_refl _) _
end Go.Proofs.YtihmgoahobbdkaaGreatDoor
namespace Go.Proofs.YtihmgoahobbdkaaGreatDoor
open Go.RowKit Go.Lib

mutual
theorem fit_bare : ∀ t, Fit t → Fit (bare t)
  | .num _ _, h => by unfold Fit at h; simp only [bare]; unfold Fit; exact h
  | .neg _ a, h => by unfold Fit at h; simp only [bare]; unfold Fit; exact fit_bare a h
  | .bin k p a b, h => by unfold Fit at h; simp only [bare]; unfold Fit; exact ⟨h.1, by split <;> omega, fit_bare a h.2.2.1, fit_bare b h.2.2.2⟩
  | .ite _ a b c, h => by unfold Fit at h; simp only [bare]; unfold Fit; exact ⟨fit_bare a h.1, fit_bare b h.2.1, fit_bare c h.2.2⟩
  | .meas _ _ _ _, h => by simp only [bare]; exact h
  | .probe p w ts, h => by
    unfold Fit at h
    simp only [bare]
    unfold Fit
    exact ⟨h.1, h.2.1, h.2.2.1, h.2.2.2.1, by rw [bares_length]; exact h.2.2.2.2.1, fit_bares ts h.2.2.2.2.2⟩
theorem fit_bares : ∀ ts, FitAll ts → FitAll (bares ts)
  | [], h => by simp only [bares]; exact h
  | t :: ts, h => by unfold FitAll at h; simp only [bares]; unfold FitAll; exact ⟨fit_bare t h.1, fit_bares ts h.2⟩
theorem bares_length : ∀ ts, (bares ts).length = ts.length
  | [] => by simp [bares]
  | _ :: ts => by simp [bares, bares_length ts]
end
mutual
theorem asks_bare : ∀ t, asks (bare t) = asks t
  | .num _ _ => by simp [bare, asks]
  | .neg _ a => by simp [bare, asks, asks_bare a]
  | .bin _ _ a b => by simp [bare, asks, asks_bare a, asks_bare b]
  | .ite _ a b c => by simp [bare, asks, asks_bare a, asks_bare b, asks_bare c]
  | .meas _ _ _ _ => by simp [bare]
  | .probe _ _ ts => by simp [bare, asks, asks_bares ts]
theorem asks_bares : ∀ ts, asksAll (bares ts) = asksAll ts
  | [] => by simp [bares]
  | t :: ts => by simp [bares, asksAll, asks_bare t, asks_bares ts]
end
end Go.Proofs.YtihmgoahobbdkaaGreatDoor
namespace Go.Proofs.YtihmgoahobbdkaaGreatDoor
open Go.RowKit Go.Lib

theorem EvR.form {σ : Type} {A : Nat → Addr} {S : σ → World → Prop} {r : Res × σ} {w : World} {e : Ending} (h : EvR A S r w e) : ∃ n v, e = .returned (.tuple #[.int .i64 n, v]) := by
  obtain ⟨r, s⟩ := r
  cases r with
  | val n => exact ⟨n, _, h.1⟩
  | held p y => obtain ⟨b, T, x, h1, -⟩ := h; exact ⟨0, _, h1⟩
set_option maxRecDepth 1000000 in
set_option maxHeartbeats 1000000 in
theorem code_Eval {σ : Type} {A : Nat → Addr} {S : σ → World → Prop} {R N : Nat} {lv : Value} {E : Env σ} {lo b : Nat} {w : World} {u : Tree} {ms : List ByteArray} {sp : List (ByteArray × Int)} {F : ByteArray → Option Value} (h : ProgB lo w b u ms (asks u) sp F) (hf : Fit u)
    (hst : StableN N S) (hsn : ∀ s w, S s w → Sents A w) (hR : R < w.heap.size) (hRlo : R < lo) (hlook : match E.look with | none => lv = .nilFunc | some l => LookOk S R lv l)
    (hpr : ∀ q ∈ asks u, ∃ fv, F q.2 = some fv ∧ ProbeOk S R N fv (E.probe q.2)) {s : σ} (hs : S s w) :
    Calls Tryz.prog 35 #[ptr b, lv] w fun e w' => Keep R w w' ∧ EvR A S (ev E u s) w' e := by
  obtain ⟨lb, g, G, h1, ⟨⟨vv, mv, sv, av, h2, -, hvn, -, -⟩, hlb⟩, hm, hg, hG⟩ := h.blk
  have nb : b ≠ R := by have := h.lo; omega
  have nlb : lb ≠ R := by omega
  have hE : EnvOk A S R N lv E w g G := ⟨hst, hsn, hR, hst.1 _ _ hs, hm, by omega, hlook⟩
  obtain ⟨f, caps, rfl, hcf, hrun⟩ := runs_tree hE u vv hf (hvn.moves fun k hb => ⟨by omega, rfl⟩) (fun q hq => by
    obtain ⟨fv, a, c⟩ := hpr q hq
    exact ⟨fv, by rw [hG q hq]; exact a, c⟩)
  have hlv : FuncV lv := by
    cases hl : E.look with
    | none => rw [hl] at hlook; exact .inl hlook
    | some l =>
      rw [hl] at hlook
      obtain ⟨f2, x2, y2, e, -⟩ := hlook
      exact .inr ⟨_, _, _, e⟩
  have hc := hrun s w.drew (Keep.refl R w).drew (hst.stable _ _ _ hs (Below.refl _ _).drew)
  have hcf := hcf #[.agg #[lv, .map (some g)]]
  have c0 : w.cell? ⟨b, 0, none⟩ = some (ptr lb) := cell_of_heap h1 rfl
  have c1 : w.cell? ⟨b, 1, none⟩ = some (.map (some g)) := cell_of_heap h1 rfl
  have cv : w.cell? ⟨lb, 0, none⟩ = some (.func (.func f) #[] caps) := cell_of_heap h2 rfl
  have hem : Calls Tryz.prog 56 #[ptr b] w fun e w' => e = .returned (.bool false) ∧ w' = w := by
    clear h h1 h2 hc hcf hrun hE hpr hlook hG hvn hm hs hsn hst c1 cv
    go_enter Tryz.func56, Tryz.ntmps56
    go_wp2
    go_ret
    exact ⟨rfl, rfl⟩
  have HH : Hid _ := And.intro (And.intro h1 nb) (And.intro h2 nlb)
  clear h h1 h2 nb nlb hlb hrun hE hpr hlook hG hvn hm hs hsn hst
  rcases hlv with rfl | ⟨fl, xl, yl, rfl⟩
  all_goals
    go_enter Tryz.func35, Tryz.ntmps35
    go_wp2_with fail
    refine hem.mono ?_
    rintro e w' ⟨rfl, hw⟩
    have hw := hw.symm
    subst hw
    go_wp2_with fail
    go_region_held3 (fun w' => w'.cell? ⟨b, 0, none⟩ = some (ptr lb) ∧ w'.cell? ⟨b, 1, none⟩ = some (.map (some g)) ∧ w'.cell? ⟨lb, 0, none⟩ = some (.func (.func f) #[] caps)) (go_keep)
      (first
        | (refine hc.mono ?_; rintro e w1 ⟨hk, he⟩; obtain ⟨n1, v1, rfl⟩ := he.form; have HK : Hid _ := hk; have HE : Hid _ := he; have k0 : w1.cell? ⟨b, 0, none⟩ = some (ptr lb) := cell_of_heap (hk.heap (w := w.drew) HH.out.1.1 HH.out.1.2) rfl; have k1 : w1.cell? ⟨b, 1, none⟩ = some (.map (some g)) := cell_of_heap (hk.heap (w := w.drew) HH.out.1.1 HH.out.1.2) rfl; have k2 : w1.cell? ⟨lb, 0, none⟩ = some (.func (.func f) #[] caps) := cell_of_heap (hk.heap (w := w.drew) HH.out.2.1 HH.out.2.2) rfl; clear hk he))
    all_goals
      go_wp2
      go_ret2
      exact ⟨(Keep.refl R _).drew.trans HK.out, HE.out⟩
end Go.Proofs.YtihmgoahobbdkaaGreatDoor
