/-
 TREES THAT ARE READ ARE FINE.
-/
import Derived.Test.YtbokdbaagacnlaaGreatDoorJK26
import Derived.Test.YtbokdbaagacnlaaGreatDoorJK17
import Derived.Test.YtbokdbaagacnlaaGreatDoorJK7
import Derived.Test.YtbokdbaagacnlaaGreatDoorJK25
import Derived.Test.YtbokdbaagacnlaaGreatDoorJK14
import Derived.Test.YtbokdbaagacnlaaGreatDoorJK24
import Derived.Deep.RegionHeld3
import Derived.Test.YtbokdbaagacnlaaGreatDoorJK4
import Derived.Laws.CopyRow
import Derived.Laws.IdiomCopy
namespace Go.Proofs.YtbokdbaagacnlaaGreatDoor
def Out.trees : Out → List Tree
 | .ok ts _ => ts
 | .bad _ => []
end Go.Proofs.YtbokdbaagacnlaaGreatDoor
namespace Go.Proofs.YtbokdbaagacnlaaGreatDoor
open Go.Lib
theorem fits_append : ∀ a b, FitAll (a ++ b) ↔ FitAll a ∧ FitAll b
 | [], b => by simp [FitAll]
 | t :: a, b => by simp [FitAll, fits_append a b, and_assoc]
theorem sizes_append : ∀ a b, sizes (a ++ b) = sizes a + sizes b
 | [], b => by simp [sizes]
 | t :: a, b => by simp [sizes, sizes_append a b]; omega
theorem sizes_length : ∀ ts : List Tree, ts.length ≤ sizes ts
 | [] => by simp [sizes]
 | t :: ts => by have := sizes_length ts; have := size_pos t; simp [sizes]; omega
set_option maxHeartbeats 4000000 in
theorem D.fits {s : ByteArray} {L : List Tok} (hn : ∀ I, kd L I = 97 → isName (tx s L I) = true ∧ (tx s L I).size < 256) (hd : ∀ I, kd L I = 110 → 0 ≤ numOf (tx s L I).data.toList ∧ numOf (tx s L I).data.toList < 1000000000) (hp : ∀ I, kd L I ≠ 101 → pl L I < 200)
  {v : Lvl} {I : Nat} {o : Out} (h : D s L v I o) : I ≤ o.at ∧ (o.at ≤ 250 → FitAll v.got → FitAll o.trees ∧ (o.isOk = true → sizes o.trees + I ≤ sizes v.got + o.at)) := by
 have hl := sizes_length
 induction h <;> simp only [Out.at, Out.isOk, Out.trees, Lvl.got, FitAll, fits_append, sizes, sizes_append, Fit, size, isReck] at * <;> grind
theorem word_sub (s : ByteArray) (i : Nat) : ∀ f k n g, i ≤ k → k ≤ s.size → s.size - k ≤ f → f ≤ g → wordFrom (s.extract i (wordFrom s f k n).1) g (k - i) n = ((wordFrom s f k n).1 - i, (wordFrom s f k n).2)
 | 0, k, n, g, h1, h2, h3, h4 => by
  have hsz : (s.extract i k).size = k - i := by simp; omega
  simp only [wordFrom]
  cases g with
  | zero => simp [wordFrom]
  | succ g =>
   unfold wordFrom
   rw [if_neg (by rw [hsz]; omega)]
 | f + 1, k, n, 0, h1, h2, h3, h4 => by omega
 | f + 1, k, n, g + 1, h1, h2, h3, h4 => by
  rw [show wordFrom s (f + 1) k n = if k < s.size ∧ namePart (n == 0) (Utf8.decode s k).1 = true then wordFrom s f (k + (Utf8.decode s k).2) (n + 1) else (k, n) from by rw [wordFrom]]
  split
  ·rename_i hh
   have w1 := width_pos s k
   have w2 := decode_le hh.1
   have hl := wordFrom_le s f (k + (Utf8.decode s k).2) (n + 1) w2
   have ih := word_sub s i f (k + (Utf8.decode s k).2) (n + 1) g (by omega) w2 (by omega) (by omega)
   generalize hE : (wordFrom s f (k + (Utf8.decode s k).2) (n + 1)).1 = e at *
   have hsz : (s.extract i e).size = e - i := by simp; omega
   have hx : s.extract i e = (s.extract i s.size).extract 0 (e - i) := (extract_sub s i e hl.2.1 (by omega)).symm
   have hd : Utf8.decode (s.extract i e) (k - i) = Utf8.decode s k := by
    have e1 : Utf8.decode (s.extract i s.size) (k - i) = Utf8.decode s k := by rw [tail_decode]; congr 1; omega
    rw [hx, decode_head (s.extract i s.size) (e - i) (k - i) (by rw [tail_size]; omega) (by omega) (by rw [e1]; omega), e1]
   conv => lhs; rw [wordFrom]
   rw [hd, hsz, if_pos ⟨by omega, hh.2⟩, show k - i + (Utf8.decode s k).2 = k + (Utf8.decode s k).2 - i by omega]
   exact ih
  ·have hsz : (s.extract i k).size = k - i := by simp; omega
   unfold wordFrom
   rw [if_neg (by rw [hsz]; omega)]
theorem byteAt_sub {s : ByteArray} {i e : Nat} (h : i < e) (_he : e ≤ s.size) : byteAt (s.extract i e) 0 = byteAt s i := by
 unfold byteAt
 simp [ByteArray.data_extract]
 rw [List.getElem?_take_of_lt (by omega)]
 simp
theorem tok_name {s : ByteArray} {i : Nat} (hi : i ≤ s.size) (h : (tokAt s i).kind = 97) : isName ((tokAt s i).text s) = true ∧ ((tokAt s i).text s).size ≤ s.size := by
 unfold tokAt at h ⊢
 split at h
 ·cases h
 rename_i h1
 rw [if_neg h1]
 split at h
 ·rename_i h2
  have h' : (byteAt s i).toNat = 97 := h
  have e : byteAt s i = 97 := UInt8.toNat_inj.1 h'
  rw [e] at h2
  exact absurd h2 (by decide)
 rename_i h2
 rw [if_neg h2]
 split at h
 ·split at h <;> cases h
 rename_i h3
 rw [if_neg h3]
 split at h
 ·cases h
 rename_i h4
 rw [if_neg h4]
 have hl := wordFrom_le s (s.size - i) i 0 hi
 have hlt := hl.2.2.2.1 (by have : ¬ (wordEnd s i).2 = 0 := fun e => h4 (.inl e); unfold wordEnd at this; omega)
 have hw := word_sub s i (s.size - i) i 0 (s.size - i) (Nat.le_refl _) hi (Nat.le_refl _) (Nat.le_refl _)
 change isName (s.extract i (wordEnd s i).1) = true ∧ (s.extract i (wordEnd s i).1).size ≤ s.size
 have hsz : (s.extract i (wordEnd s i).1).size = (wordEnd s i).1 - i := by have : (wordEnd s i).1 ≤ s.size := hl.2.1; simp; omega
 refine ⟨?_, by have : (wordEnd s i).1 ≤ s.size := hl.2.1; omega⟩
 have hpos : i < (wordEnd s i).1 := hlt
 have hle : (wordEnd s i).1 ≤ s.size := hl.2.1
 have hb := byteAt_sub hpos hle
 have h3' : isDig (byteAt s i) = false := by
  cases e : isDig (byteAt s i) with
  | false => rfl
  | true =>
   exfalso
   apply h3
   unfold digEnd
   obtain ⟨f, hf⟩ : ∃ f, s.size - i = f + 1 := ⟨s.size - i - 1, by omega⟩
   rw [hf, digFrom, if_pos ⟨by omega, e⟩]
   have := digFrom_le s f (i + 1) (by omega)
   omega
 have hw2 : wordEnd (s.extract i (wordEnd s i).1) 0 = ((wordEnd s i).1 - i, (wordEnd s i).2) := by
  have e1 := wordFrom_fuel (s.extract i (wordEnd s i).1) (s.size - i) ((s.extract i (wordEnd s i).1).size - 0) 0 0 (by rw [hsz]; omega) (Nat.le_refl _)
  rw [Nat.sub_self] at hw
  exact e1.symm.trans hw
 have hd0 : digEnd (s.extract i (wordEnd s i).1) 0 = 0 := by
  unfold digEnd
  obtain ⟨f, hf⟩ : ∃ f, (s.extract i (wordEnd s i).1).size - 0 = f + 1 := ⟨(s.extract i (wordEnd s i).1).size - 0 - 1, by omega⟩
  rw [hf, digFrom, if_neg (by rw [hb, h3']; simp)]
 unfold isName tokAt
 rw [hb, hw2, hd0, hsz, if_neg (by omega), if_neg h2, if_neg (by omega), if_neg h4]
 simp
theorem toks_all {s : ByteArray} (P : Tok → Prop) (hP : ∀ i, i ≤ s.size → P (tokAt s i)) {I : Nat} (hI : I < (toks s).length) : P ((toks s).getD I default) :=
 toksAt_all s P hP s.size 0 (by omega) (by omega) _ (by
  rw [List.getD_eq_getElem?_getD, List.getElem?_eq_getElem hI]
  exact List.getElem_mem hI)
theorem read_fits {s : ByteArray} (hs : s.size ≤ 200) {t : Tree} {J : Nat} (h : D s (toks s) .choice 0 (.ok [t] J)) (hJ : kd (toks s) J = 101) : Fit t ∧ size t ≤ 200 := by
 have hlt := kd_lt hJ (by decide)
 have hlen := toks_length s
 have q := D.fits (s := s) (L := toks s) (fun I hk => by
   have := toks_all (s := s) (fun t => t.kind = 97 → isName (t.text s) = true ∧ (t.text s).size ≤ s.size) (fun i hi h => tok_name hi h) (kd_lt hk (by decide)) hk
   exact ⟨this.1, Nat.lt_of_le_of_lt this.2 (by omega)⟩)
  (fun I hk => by
   have hg : Digits (tx s (toks s) I) := toks_good s I (kd_lt hk (by decide)) hk
   have := numOf_lt hg.1 _ (Nat.le_refl _)
   have h9 := pow9 (k := (tx s (toks s) I).size) hg.2
   rw [List.take_of_length_le (by simp)] at this
   omega)
  (fun I hk => by
   by_cases hI : I < (toks s).length
   ·have := toks_all (s := s) (fun t => t.kind ≠ 101 → t.pos < s.size) (fun i hi h => by
     unfold tokAt at h ⊢
     split at h
     ·exact absurd rfl h
     ·(repeat' split) <;> simp <;> omega) hI hk
    exact Nat.lt_of_lt_of_le this hs
   ·unfold pl
    rw [List.getD_eq_getElem?_getD, List.getElem?_eq_none (by omega)]
    decide) h
 have q2 := q.2 (by simp only [Out.at]; omega) (by simp [Lvl.got, FitAll])
 simp only [Out.trees, FitAll, Out.isOk, sizes, Lvl.got, Out.at] at q2
 exact ⟨q2.1.1, by have := q2.2 trivial; omega⟩
end Go.Proofs.YtbokdbaagacnlaaGreatDoor
namespace Go.Proofs.YtbokdbaagacnlaaGreatDoor
open Go.RowKit Go.Lib
theorem CNode.bounded {lo : Nat} {w : World} {t : Tree} {v : Value} (h : CNode (Hi lo) w t v) : CNode (Lt w.heap.size) w t v := h.moves fun _ _ _ _ hb _ => ⟨heap_lt hb, rfl⟩
set_option maxRecDepth 1000000 in
theorem code_Write {lo : Nat} {w : World} {t : Tree} {tb : Nat} {v mv : Value} (hf : Fit t) (hs : size t ≤ 200) (hb : w.heap[tb]? = some (.cells #[v, mv] 231 (0, 0))) (hn : CNode (Hi lo) w t v) :
  Calls Tryz.prog 67 #[ptr tb] w fun e w' => ∃ vo, e = .returned vo ∧ Out8 w.heap.size w' vo (enc t) ∧ Below w.heap.size w w' := by
 have hl := enc_length t hf
 have hpc := w_all (B := w.heap.size) t hf w (.slice none 0 0) v [] hn.bounded (Out8.nil _ _) (Nat.le_refl _) (by simp; omega)
 have c0 : w.cell? ⟨tb, 0, none⟩ = some v := cell_of_heap hb rfl
 obtain ⟨ty, b, rfl⟩ := hn.form
 clear hb hn hf hl
 go_enter Tryz.func67, Tryz.ntmps67
 go_wp2_with fail
 refine hpc.mono ?_
 rintro e w1 ⟨vo, rfl, ho, hw⟩
 have Q : Hid _ := And.intro ho hw
 clear hpc ho hw
 go_wp2
 go_ret
 exact ⟨_, rfl, by simpa using Q.out.1, Q.out.2.below⟩
set_option maxRecDepth 1000000 in
theorem code_Code {lo : Nat} {w : World} {t : Tree} {pb : Nat} (hf : Fit t) (hs : size t ≤ 200) (h : CPol lo w t ⟨pb, 0, none⟩) :
  Calls Tryz.prog 42 #[ptr pb] w fun e w' => ∃ vo, e = .returned vo ∧ Out8 w.heap.size w' vo (enc t) ∧ Below w.heap.size w w' := by
 obtain ⟨pb', a', e, -, h5, tb, ty, pa, mv, rfl, -, h6, h7, -⟩ := h
 injection e with e
 subst e
 have hem := code_empty h5
 have hwr := code_Write hf hs h6 h7
 have c0 : w.cell? ⟨pb, 0, none⟩ = some (ptr tb) := cell_of_heap h5 rfl
 clear h5 h6 h7
 go_enter Tryz.func42, Tryz.ntmps42
 go_wp2_with fail
 refine hem.mono ?_
 rintro e w' ⟨rfl, hw⟩
 have hw := hw.symm
 subst hw
 clear hem
 go_wp2_with fail
 refine hwr.mono ?_
 rintro e w1 ⟨vo, rfl, ho, hw⟩
 have Q : Hid _ := And.intro ho hw
 clear hwr ho hw
 go_wp2
 go_ret
 exact ⟨_, rfl, Q.out⟩
theorem Out8.rest {B : Nat} {w : World} {v : Value} {l : List UInt8} (h : Out8 B w v l) : RestAt w.heap.size w v l := by
 have h0 := h
 rcases h.2 with ⟨rfl, h1⟩ | ⟨g, cap, cur, rfl, hbg, hg, hnc, -⟩
 ·have : l = [] := List.eq_nil_of_length_eq_zero h1
  subst this
  exact ⟨none, 0, rfl, Nat.le_refl _, fun j b hj => by simp at hj⟩
 ·refine ⟨some ⟨g, 0, none⟩, cap, rfl, hnc, fun j b hj => ⟨g, 0, heap_lt hg, rfl, ?_⟩⟩
  have := h0.cells (g := g) rfl j (.int .u8 b.toNat) (by simp [bytesV, hj])
  rwa [show (⟨g, 0, none⟩ : Addr).add j = ⟨g, 0 + j, none⟩ by unfold Addr.add; split <;> simp_all] at this
def told4 (f p : Nat) (s : ByteArray) : Value := .agg #[.int .i64 (f : Int), .int .i64 (p : Int), .int .i64 0, .string s]
end Go.Proofs.YtbokdbaagacnlaaGreatDoor
namespace Go.Proofs.YtbokdbaagacnlaaGreatDoor
open Go.RowKit Go.Lib
mutual
theorem fit_bare : ∀ t, Fit t → Fit (bare t)
 | .num _ _, h => by unfold Fit at h; simp only [bare]; unfold Fit; exact h
 | .neg _ a, h => by unfold Fit at h; simp only [bare]; unfold Fit; exact fit_bare a h
 | .bin k p a b, h => by unfold Fit at h; simp only [bare]; unfold Fit; exact ⟨h.1, by split <;> omega, fit_bare a h.2.2.1, fit_bare b h.2.2.2⟩
 | .ite _ a b c, h => by unfold Fit at h; simp only [bare]; unfold Fit; exact ⟨fit_bare a h.1, fit_bare b h.2.1, fit_bare c h.2.2⟩
 | .meas _ _ _ _, h => by simp only [bare]; exact h
 | .probe p w ts, h => by
  unfold Fit at h
  simp only [bare]
  unfold Fit
  exact ⟨h.1, h.2.1, h.2.2.1, h.2.2.2.1, by rw [bares_length]; exact h.2.2.2.2.1, fit_bares ts h.2.2.2.2.2⟩
theorem fit_bares : ∀ ts, FitAll ts → FitAll (bares ts)
 | [], h => by simp only [bares]; exact h
 | t :: ts, h => by unfold FitAll at h; simp only [bares]; unfold FitAll; exact ⟨fit_bare t h.1, fit_bares ts h.2⟩
theorem bares_length : ∀ ts, (bares ts).length = ts.length
 | [] => by simp [bares]
 | _ :: ts => by simp [bares, bares_length ts]
end
mutual
theorem asks_bare : ∀ t, asks (bare t) = asks t
 | .num _ _ => by simp [bare, asks]
 | .neg _ a => by simp [bare, asks, asks_bare a]
 | .bin _ _ a b => by simp [bare, asks, asks_bare a, asks_bare b]
 | .ite _ a b c => by simp [bare, asks, asks_bare a, asks_bare b, asks_bare c]
 | .meas _ _ _ _ => by simp [bare]
 | .probe _ _ ts => by simp [bare, asks, asks_bares ts]
theorem asks_bares : ∀ ts, asksAll (bares ts) = asksAll ts
 | [] => by simp [bares]
 | t :: ts => by simp [bares, asksAll, asks_bare t, asks_bares ts]
end
end Go.Proofs.YtbokdbaagacnlaaGreatDoor
namespace Go.Proofs.YtbokdbaagacnlaaGreatDoor
open Go.RowKit Go.Lib
theorem EvR.form {σ : Type} {A : Nat → Addr} {S : σ → World → Prop} {r : Res × σ} {w : World} {e : Ending} (h : EvR A S r w e) : ∃ n v, e = .returned (.tuple #[.int .i64 n, v]) := by
 obtain ⟨r, s⟩ := r
 cases r with
 | val n => exact ⟨n, _, h.1⟩
 | held p y => obtain ⟨b, T, x, h1, -⟩ := h; exact ⟨0, _, h1⟩
end Go.Proofs.YtbokdbaagacnlaaGreatDoor
namespace Go.Proofs.YtbokdbaagacnlaaGreatDoor
open Go.RowKit Go.Lib
structure SentsX (A : Nat → Addr) (w : World) : Prop where
 sents : Sents A w
 row : ∀ i, i < 8 → ∃ c t, w.heap[(A i).block]? = some (.cells c t (0, 0))
 ne : ∀ i j, i < 8 → j < 8 → i ≠ j → A i ≠ A j
 etype : EType w
theorem SentsX.below {A : Nat → Addr} {w w' : World} (h : SentsX A w) (hb : Below w.heap.size w w') : SentsX A w' :=
 ⟨h.sents.below hb, fun i hi => by obtain ⟨c, t, e⟩ := h.row i hi; exact ⟨c, t, (hb.block _ (heap_lt e)).trans e⟩, h.ne, h.etype.below hb⟩
theorem Tryz.assertH1 (v : Value) (xT : TypeId) (w : World) : (Instr.typeAssert (.iface 159 v) xT 151 true).run Tryz.prog w = .ok (.tuple #[.pointer none, .bool false]) w := by kernel_rfl
theorem Tryz.assertH2 (v : Value) (xT : TypeId) (w : World) : (Instr.typeAssert (.iface 159 v) xT 156 true).run Tryz.prog w = .ok (.tuple #[.pointer none, .bool false]) w := by kernel_rfl
theorem Tryz.assertH3 (v : Value) (xT : TypeId) (w : World) : (Instr.typeAssert (.iface 159 v) xT 159 true).run Tryz.prog w = .ok (.tuple #[v, .bool true]) w := by kernel_rfl
def toldW : Why → Nat → Value
 | .divide, p => toldH 8 p 0
 | .noData, p => toldH 9 p 0
 | .failed, p => toldH 10 p 0
 | .panic n, p => toldH 11 p n
section
variable {A : Nat → Addr} {w : World} {b p : Nat} {T : TypeId} {x : Value} {y : Why}
theorem plain_hold (hs : SentsX A w) (hh : HoldAt w b p T x) (hw : WhyAt A w y T x) : Calls Tryz.prog 57 #[ptr b] w fun e w' => e = .returned (toldW y p) ∧ Below w.heap.size w w' := by
 cases y with
 | divide =>
  obtain ⟨rfl, rfl⟩ := hw
  exact hold_divide b p (A 5) w hs.etype (cell_of_heap hh rfl) (cell_of_heap hh rfl) hs.sents.g5
 | noData =>
  obtain ⟨rfl, rfl⟩ := hw
  obtain ⟨c5, t5, h5⟩ := hs.row 5 (by decide)
  obtain ⟨c6, t6, h6⟩ := hs.row 6 (by decide)
  exact hold_noData b p (A 6) w hs.etype (cell_of_heap hh rfl) (cell_of_heap hh rfl) (A 5) hs.sents.g5 hs.sents.g6 (hs.ne 6 5 (by decide) (by decide) (by decide)) h6 h5
 | failed =>
  obtain ⟨rfl, c, rfl⟩ := hw
  exact hold_failed b p ⟨c, 0, none⟩ w hs.etype (cell_of_heap hh rfl) (cell_of_heap hh rfl)
 | panic n =>
  obtain ⟨rfl, c, rfl, ho⟩ := hw
  exact hold_panic b c p ⟨c, 0, none⟩ w hs.etype (cell_of_heap hh rfl) (cell_of_heap hh rfl) n (cell_of_heap ho rfl) rfl
set_option maxRecDepth 1000000 in
set_option maxHeartbeats 1000000 in
theorem of_hold (hs : SentsX A w) (hh : HoldAt w b p T x) (hw : WhyAt A w y T x) : Calls Tryz.prog 35 #[.iface 159 (ptr b)] w fun e w' => e = .returned (toldW y p) ∧ Below w.heap.size w w' := by
 have hx : Below w.heap.size w (w.alloc (.cells #[.int .i64 0, .int .i64 0, .int .i64 0, .string { data := #[] }] 25)) := (Below.refl _ _).alloc (Nat.le_refl _) _
 have hcl := plain_hold (hs.below hx) (((hx.block b (heap_lt hh)).trans hh : HoldAt _ b p T x)) (hw.below hx)
 obtain ⟨ce, cn, he⟩ : ∃ ce cn, toldW y p = .agg #[.int .i64 ce, .int .i64 (p : Int), .int .i64 cn, .string { data := #[] }] := by cases y <;> exact ⟨_, _, rfl⟩
 rw [he] at hcl ⊢
 have t1 := Tryz.assertH1
 have t2 := Tryz.assertH2
 have t3 := Tryz.assertH3
 have HX : Hid _ := hx
 clear hs hh hw hx he
 go_enter Tryz.func35, Tryz.ntmps35
 go_wp2_with fail
 refine hcl.mono ?_
 rintro e w1 ⟨rfl, hb1⟩
 have bn : w1.heap[w.heap.size]? = some (.cells #[.int .i64 0, .int .i64 0, .int .i64 0, .string { data := #[] }] 25 (0, 0)) := (hb1.block _ (by simp)).trans cells_new
 have c0 := cell_of_heap (i := 0) bn rfl
 have c1 := cell_of_heap (i := 1) bn rfl
 have c2 := cell_of_heap (i := 2) bn rfl
 have c3 := cell_of_heap (i := 3) bn rfl
 have z0 := frozen_of_heap (i := 0) bn
 have z1 := frozen_of_heap (i := 1) bn
 have z2 := frozen_of_heap (i := 2) bn
 have z3 := frozen_of_heap (i := 3) bn
 have HB : Hid (Below w.heap.size w w1) := HX.out.trans (hb1.mono (by simp))
 clear bn hb1 hcl HX
 go_wp2
 refine bodyPost_ret (v := .agg #[.int .i64 ce, .int .i64 (p : Int), .int .i64 cn, .string { data := #[] }]) (by simp [results, Tryz.results35, go_sem, c0, c1, c2, c3]) rfl ⟨rfl, ?_⟩
 iterate 4 (refine Below.setCell ?_ (by exact Nat.le_refl _) _)
 exact HB.out
end
end Go.Proofs.YtbokdbaagacnlaaGreatDoor
namespace Go.Proofs.YtbokdbaagacnlaaGreatDoor
open Go.RowKit Go.Lib
def NumsAt (w : World) (ao : Option Addr) (L : List Int) : Prop := ∀ (j : Nat) (v : Int), L[j]? = some v → ∃ C off, ao = some ⟨C, off, none⟩ ∧ w.cell? ⟨C, off + j, none⟩ = some (.int .i64 v)
theorem NumsAt.below {w w' : World} {ao : Option Addr} {L : List Int} (h : NumsAt w ao L) (hb : Below w.heap.size w w') : NumsAt w' ao L := fun j v hv => by
 obtain ⟨C, off, rfl, hc⟩ := h j v hv
 exact ⟨C, off, rfl, cell_up hb hc⟩
theorem Tryz.sizeI64 : (Tryz.prog.info? 2).map (·.size) = some 1 := by kernel_rfl
theorem five_of (L : List Int) : ((#[.int .i64 0, .int .i64 0, .int .i64 0, .int .i64 0, .int .i64 0] : Array Value).toList.take 0 ++ (L.take 5).map (Value.int .i64) ++ (#[.int .i64 0, .int .i64 0, .int .i64 0, .int .i64 0, .int .i64 0] : Array Value).toList.drop (0 + ((L.take 5).map (Value.int .i64)).length)).toArray = #[.int .i64 (L.getD 0 0), .int .i64 (L.getD 1 0), .int .i64 (L.getD 2 0), .int .i64 (L.getD 3 0), .int .i64 (L.getD 4 0)] := by
 rcases L with _ | ⟨a, _ | ⟨b, _ | ⟨c, _ | ⟨d, _ | ⟨e, L⟩⟩⟩⟩⟩ <;> simp
theorem run_copy5 {W : World} {g : Nat} {T : TypeId} (hg : W.heap[g]? = some (.cells #[.int .i64 0, .int .i64 0, .int .i64 0, .int .i64 0, .int .i64 0] T (0, 0))) {ao : Option Addr} {cp : Nat} {L : List Int} (hL : NumsAt W ao L) (ty : TypeId) :
  ∃ m w2, (Builtin.copy_ #[22, 22] ty #[.slice (some ⟨g, 0, none⟩) 5 5, .slice ao L.length cp]).run Tryz.prog W = .ok (goInt m) w2 ∧ w2.heap[g]? = some (.cells #[.int .i64 (L.getD 0 0), .int .i64 (L.getD 1 0), .int .i64 (L.getD 2 0), .int .i64 (L.getD 3 0), .int .i64 (L.getD 4 0)] T (0, 0)) ∧ Keep g W w2 := by
 cases L with
 | nil => exact ⟨0, W, run_copy_none (P := Tryz.prog) W _ _ ty 2 _ _ 5 5 0 cp Tryz.underlying22 Tryz.sizeI64 (by simp), hg, ⟨rfl, rfl, rfl, Nat.le_refl _, fun _ _ _ => rfl⟩⟩
 | cons a L =>
  obtain ⟨C, off, rfl, -⟩ := hL 0 a rfl
  have hadd : ∀ j, (⟨C, off, none⟩ : Addr).add j = ⟨C, off + j, none⟩ := fun j => by unfold Addr.add; split <;> simp_all
  have hr := run_copy_row (P := Tryz.prog) W 22 22 ty 2 g 0 5 5 ⟨C, off, none⟩ (a :: L).length cp _ T (((a :: L).take 5).map (Value.int .i64)) Tryz.underlying22 Tryz.sizeI64 hg (by rw [List.length_map, List.length_take]; exact Nat.min_comm _ _) (fun j v hv => by
   rw [hadd]
   rw [List.getElem?_map, List.getElem?_take] at hv
   split at hv
   ·cases hx : (a :: L)[j]? with
    | none => rw [hx] at hv; simp at hv
    | some x =>
     rw [hx] at hv
     simp at hv
     subst hv
     obtain ⟨C', off', e, hc⟩ := hL j x hx
     injection e with e
     injection e with e1 e2
     subst e1 e2
     exact hc
   ·simp at hv) (by simp; omega) (by intro v hv; obtain ⟨x, -, rfl⟩ := List.mem_map.1 hv; rfl)
  rw [five_of] at hr
  exact ⟨_, _, hr, setRow_heap W g _ _ T _ hg, ⟨rfl, rfl, rfl, by simp [World.setRow], fun k _ ne => setRow_other W g k _ (fun e => ne e)⟩⟩
abbrev begV (p t : Bool) (e : Int) : Value := .agg #[.bool p, .bool t, .int .i64 e, .int .i64 0, .int .i64 0, .string { data := #[] }]
abbrev limV (L : List Int) : Value := .agg #[.int .i64 (L.getD 0 0), .int .i64 (L.getD 1 0), .int .i64 (L.getD 2 0), .int .i64 (L.getD 3 0), .int .i64 (L.getD 4 0)]
set_option maxRecDepth 1000000 in
set_option maxHeartbeats 1000000 in
theorem controller_no {w : World} {b : Nat} {ao : Option Addr} {cp : Nat} {L : List Int} {count : Int} (hL : NumsAt w ao L) {a : Addr}
  (hnew : ∀ W, Below w.heap.size w W → Calls Tryz.prog 34 #[ptr b, limV L, .int .i64 count] W fun e w' => e = .returned (.tuple #[.pointer none, .iface 416 (.pointer (some a))]) ∧ Below W.heap.size W w')
  (hof : ∀ W, Below w.heap.size w W → Calls Tryz.prog 35 #[.iface 416 (.pointer (some a))] W fun e w' => e = .returned (.agg #[.int .i64 5, .int .i64 0, .int .i64 0, .string { data := #[] }]) ∧ Below W.heap.size W w') :
  Calls Tryz.prog 17 #[ptr b, .slice ao L.length cp, .int .i64 count] w fun e w' => e = .returned (.tuple #[.pointer none, begV true false 5]) ∧ Below w.heap.size w w' := by
 have hB1 : Below w.heap.size w ((w.alloc (.cells #[.bool false, .bool false, .int .i64 0, .int .i64 0, .int .i64 0, .string { data := #[] }] 27)).alloc (.cells #[.int .i64 0, .int .i64 0, .int .i64 0, .int .i64 0, .int .i64 0] 95)) := ((Below.refl _ _).alloc (Nat.le_refl _) _).alloc (by simp) _
 have hg : ((w.alloc (.cells #[.bool false, .bool false, .int .i64 0, .int .i64 0, .int .i64 0, .string { data := #[] }] 27)).alloc (.cells #[.int .i64 0, .int .i64 0, .int .i64 0, .int .i64 0, .int .i64 0] 95)).heap[w.heap.size + 1]? = some (.cells #[.int .i64 0, .int .i64 0, .int .i64 0, .int .i64 0, .int .i64 0] 95 (0, 0)) := by
  have := heap_alloc_new (w.alloc (.cells #[.bool false, .bool false, .int .i64 0, .int .i64 0, .int .i64 0, .string { data := #[] }] 27)) (.cells #[.int .i64 0, .int .i64 0, .int .i64 0, .int .i64 0, .int .i64 0] 95)
  simpa using this
 obtain ⟨m, w2, hrun, h5, hk⟩ := run_copy5 hg (hL.below hB1) (cp := cp) 3
 have a0 := cell_of_heap (i := 0) (v := .int .i64 (L.getD 0 0)) h5 rfl
 have a1 := cell_of_heap (i := 1) (v := .int .i64 (L.getD 1 0)) h5 rfl
 have a2 := cell_of_heap (i := 2) (v := .int .i64 (L.getD 2 0)) h5 rfl
 have a3 := cell_of_heap (i := 3) (v := .int .i64 (L.getD 3 0)) h5 rfl
 have a4 := cell_of_heap (i := 4) (v := .int .i64 (L.getD 4 0)) h5 rfl
 have hB2 : Below w.heap.size w w2 := ⟨hk.os.trans hB1.os, hk.tape.trans hB1.tape, hk.output.trans hB1.output, Nat.le_trans hB1.size hk.size, fun k lt => (hk.block k (Nat.lt_of_lt_of_le lt hB1.size) (by omega)).trans (hB1.block k lt)⟩
 have hres : w2.heap[w.heap.size]? = some (.cells #[.bool false, .bool false, .int .i64 0, .int .i64 0, .int .i64 0, .string { data := #[] }] 27 (0, 0)) := (hk.block _ (by simp; omega) (by omega)).trans (heap_alloc_old (heap_alloc_new _ _))
 have hnw := hnew w2 hB2
 have HB : Hid _ := And.intro hB1 (And.intro hg (And.intro hres hB2))
 clear hB1 hg hL hk h5 hB2 hnew hres
 unfold limV at hnw
 generalize L.getD 0 0 = l0 at *
 generalize L.getD 1 0 = l1 at *
 generalize L.getD 2 0 = l2 at *
 generalize L.getD 3 0 = l3 at *
 generalize L.getD 4 0 = l4 at *
 generalize L.length = n at *
 go_enter Tryz.func17, Tryz.ntmps17
 go_wp2_with fail
 refine hnw.mono ?_
 rintro e w3 ⟨rfl, hb3⟩
 have hB3 : Below w.heap.size w w3 := HB.out.2.2.2.trans (hb3.mono HB.out.2.2.2.size)
 have hr3 := (hb3.block _ (heap_lt HB.out.2.2.1)).trans HB.out.2.2.1
 have hof := hof w3 hB3
 have H3 : Hid _ := And.intro hB3 hr3
 clear hnw hb3 hB3 hr3
 go_wp2_with fail
 refine hof.mono ?_
 rintro e w4 ⟨rfl, hb4⟩
 have hr4 := (hb4.block _ (heap_lt H3.out.2)).trans H3.out.2
 have H4 : Hid (Below w.heap.size w w4) := H3.out.1.trans (hb4.mono H3.out.1.size)
 have rc0 := cell_of_heap (i := 0) (v := .bool false) hr4 rfl
 have rc1 := cell_of_heap (i := 1) (v := .bool false) hr4 rfl
 have rc2 := cell_of_heap (i := 2) (v := .int .i64 0) hr4 rfl
 have rc3 := cell_of_heap (i := 3) (v := .int .i64 0) hr4 rfl
 have rc4 := cell_of_heap (i := 4) (v := .int .i64 0) hr4 rfl
 have rc5 := cell_of_heap (i := 5) (v := .string { data := #[] }) hr4 rfl
 have rz0 := frozen_of_heap (i := 0) hr4
 have rz1 := frozen_of_heap (i := 1) hr4
 have rz2 := frozen_of_heap (i := 2) hr4
 have rz3 := frozen_of_heap (i := 3) hr4
 have rz4 := frozen_of_heap (i := 4) hr4
 have rz5 := frozen_of_heap (i := 5) hr4
 clear hof hb4 hr4
 go_wp2
 refine bodyPost_ret (v := .tuple #[.pointer none, begV true false 5]) (by simp [results, Tryz.results17, go_sem, rc0, rc1, rc2, rc3, rc4, rc5]) rfl ?_
 exact ⟨rfl, by (iterate 6 (refine Below.setCell ?_ (by exact Nat.le_refl _) _)); exact H4.out⟩
set_option maxRecDepth 1000000 in
set_option maxHeartbeats 1000000 in
theorem controller_yes {w : World} {b : Nat} {ao : Option Addr} {cp : Nat} {L : List Int} {count : Int} (hL : NumsAt w ao L) {Q : Nat → World → Prop}
  (hnew : ∀ W, Below w.heap.size w W → Calls Tryz.prog 34 #[ptr b, limV L, .int .i64 count] W fun e w' => ∃ c, e = .returned (.tuple #[ptr c, .nilIface]) ∧ Below W.heap.size W w' ∧ Q c w')
  (hof : ∀ W, Below w.heap.size w W → Calls Tryz.prog 35 #[.nilIface] W fun e w' => e = .returned (.agg #[.int .i64 0, .int .i64 0, .int .i64 0, .string { data := #[] }]) ∧ Below W.heap.size W w') :
  Calls Tryz.prog 17 #[ptr b, .slice ao L.length cp, .int .i64 count] w fun e w' => ∃ c x w3 w4, e = .returned (.tuple #[ptr x, begV true true 0]) ∧ Below w.heap.size w w' ∧ Q c w3 ∧ Below w3.heap.size w3 w4 ∧ w4.heap[w.heap.size]? = some (.cells #[.bool false, .bool false, .int .i64 0, .int .i64 0, .int .i64 0, .string { data := #[] }] 27 (0, 0)) ∧ Keep w.heap.size w4 w' ∧ w4.heap[x]? = some (.cells #[ptr c] 74 (0, 0)) := by
 have hB1 : Below w.heap.size w ((w.alloc (.cells #[.bool false, .bool false, .int .i64 0, .int .i64 0, .int .i64 0, .string { data := #[] }] 27)).alloc (.cells #[.int .i64 0, .int .i64 0, .int .i64 0, .int .i64 0, .int .i64 0] 95)) := ((Below.refl _ _).alloc (Nat.le_refl _) _).alloc (by simp) _
 have hg : ((w.alloc (.cells #[.bool false, .bool false, .int .i64 0, .int .i64 0, .int .i64 0, .string { data := #[] }] 27)).alloc (.cells #[.int .i64 0, .int .i64 0, .int .i64 0, .int .i64 0, .int .i64 0] 95)).heap[w.heap.size + 1]? = some (.cells #[.int .i64 0, .int .i64 0, .int .i64 0, .int .i64 0, .int .i64 0] 95 (0, 0)) := by
  have := heap_alloc_new (w.alloc (.cells #[.bool false, .bool false, .int .i64 0, .int .i64 0, .int .i64 0, .string { data := #[] }] 27)) (.cells #[.int .i64 0, .int .i64 0, .int .i64 0, .int .i64 0, .int .i64 0] 95)
  simpa using this
 obtain ⟨m, w2, hrun, h5, hk⟩ := run_copy5 hg (hL.below hB1) (cp := cp) 3
 have a0 := cell_of_heap (i := 0) (v := .int .i64 (L.getD 0 0)) h5 rfl
 have a1 := cell_of_heap (i := 1) (v := .int .i64 (L.getD 1 0)) h5 rfl
 have a2 := cell_of_heap (i := 2) (v := .int .i64 (L.getD 2 0)) h5 rfl
 have a3 := cell_of_heap (i := 3) (v := .int .i64 (L.getD 3 0)) h5 rfl
 have a4 := cell_of_heap (i := 4) (v := .int .i64 (L.getD 4 0)) h5 rfl
 have hB2 : Below w.heap.size w w2 := ⟨hk.os.trans hB1.os, hk.tape.trans hB1.tape, hk.output.trans hB1.output, Nat.le_trans hB1.size hk.size, fun k lt => (hk.block k (Nat.lt_of_lt_of_le lt hB1.size) (by omega)).trans (hB1.block k lt)⟩
 have hres : w2.heap[w.heap.size]? = some (.cells #[.bool false, .bool false, .int .i64 0, .int .i64 0, .int .i64 0, .string { data := #[] }] 27 (0, 0)) := (hk.block _ (by simp; omega) (by omega)).trans (heap_alloc_old (heap_alloc_new _ _))
 have hnw := hnew w2 hB2
 have HB : Hid _ := And.intro hB1 (And.intro hg (And.intro hres hB2))
 clear hB1 hg hL hk h5 hB2 hnew hres
 unfold limV at hnw
 generalize L.getD 0 0 = l0 at *
 generalize L.getD 1 0 = l1 at *
 generalize L.getD 2 0 = l2 at *
 generalize L.getD 3 0 = l3 at *
 generalize L.getD 4 0 = l4 at *
 generalize L.length = n at *
 go_enter Tryz.func17, Tryz.ntmps17
 go_wp2_with fail
 refine hnw.mono ?_
 rintro e w3 ⟨c, rfl, hb3, hq3⟩
 have hB3 : Below w.heap.size w w3 := HB.out.2.2.2.trans (hb3.mono HB.out.2.2.2.size)
 have hr3 := (hb3.block _ (heap_lt HB.out.2.2.1)).trans HB.out.2.2.1
 have hB3a : Below w.heap.size w (w3.alloc (.cells #[ptr c] 74)) := hB3.alloc hB3.size _
 have hof := hof _ hB3a
 have H3 : Hid _ := And.intro hB3 (And.intro hr3 hq3)
 clear hnw hb3 hB3 hr3 hq3 hB3a
 go_wp2_with fail
 refine hof.mono ?_
 rintro e w4 ⟨rfl, hb4⟩
 have hx4 := (hb4.block _ (by simp)).trans (heap_alloc_new w3 (.cells #[ptr c] 74))
 have hr4 := (hb4.block _ (Nat.lt_of_lt_of_le (heap_lt H3.out.2.1) (by simp))).trans (heap_alloc_old H3.out.2.1)
 have hb34 : Below w3.heap.size w3 w4 := ((Below.refl _ w3).alloc (Nat.le_refl _) _).trans (hb4.mono (by simp))
 have H4 : Hid _ := And.intro (H3.out.1.trans (hb34.mono H3.out.1.size)) (And.intro hb34 (And.intro hx4 hr4))
 have rc0 := cell_of_heap (i := 0) (v := .bool false) hr4 rfl
 have rc1 := cell_of_heap (i := 1) (v := .bool false) hr4 rfl
 have rc2 := cell_of_heap (i := 2) (v := .int .i64 0) hr4 rfl
 have rc3 := cell_of_heap (i := 3) (v := .int .i64 0) hr4 rfl
 have rc4 := cell_of_heap (i := 4) (v := .int .i64 0) hr4 rfl
 have rc5 := cell_of_heap (i := 5) (v := .string { data := #[] }) hr4 rfl
 have rz0 := frozen_of_heap (i := 0) hr4
 have rz1 := frozen_of_heap (i := 1) hr4
 have rz2 := frozen_of_heap (i := 2) hr4
 have rz3 := frozen_of_heap (i := 3) hr4
 have rz4 := frozen_of_heap (i := 4) hr4
 have rz5 := frozen_of_heap (i := 5) hr4
 clear hof hb4 hr4 hx4 hb34
 go_wp2
 refine bodyPost_ret (v := .tuple #[ptr w3.heap.size, begV true true 0]) (by simp [results, Tryz.results17, go_sem, rc0, rc1, rc2, rc3, rc4, rc5]) rfl ?_
 refine ⟨c, w3.heap.size, w3, w4, rfl, by (iterate 6 (refine Below.setCell ?_ (by exact Nat.le_refl _) _)); exact H4.out.1, H3.out.2.2, H4.out.2.1, H4.out.2.2.2, ?_, H4.out.2.2.1⟩
 iterate 6 (refine Keep.setR ?_ _ _)
 exact Keep.refl _ _
end Go.Proofs.YtbokdbaagacnlaaGreatDoor
