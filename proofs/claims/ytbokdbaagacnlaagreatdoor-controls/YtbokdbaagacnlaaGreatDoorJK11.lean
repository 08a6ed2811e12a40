/-
 THE REFERENCE's Parse, WALKED: what it tells is what the grammar says.
-/
import Derived.Test.YtbokdbaagacnlaaGreatDoorJK10
import Derived.Test.YtbokdbaagacnlaaGreatDoorJK8
import Derived.Deep.RegionHeld3
namespace Go.Proofs.YtbokdbaagacnlaaGreatDoor
open Go.RowKit Go.Lib
theorem digFrom_all (s : ByteArray) : ∀ (f i k : Nat), i ≤ k → k < digFrom s f i → isDig (byteAt s k) = true
 | 0, i, k, h1, h2 => by simp [digFrom] at h2; omega
 | f + 1, i, k, h1, h2 => by
  unfold digFrom at h2
  split at h2
  ·rename_i h
   rcases Nat.lt_or_ge i k with hlt | hge
   ·exact digFrom_all s f (i + 1) k hlt h2
   ·obtain rfl : k = i := by omega
    exact h.2
  ·omega
theorem extract_list (s : ByteArray) (a b : Nat) : (s.extract a b).data.toList = (s.data.toList.take b).drop a := by
 simp [ByteArray.data_extract, List.extract_eq_drop_take']
theorem tokAt_digits {s : ByteArray} {i : Nat} (hi : i ≤ s.size) (h : (tokAt s i).kind = 110) : Digits ((tokAt s i).text s) := by
 revert h
 unfold tokAt
 have h1 := digEnd_le hi
 split
 ·simp
 split
 ·rename_i h2 hsg
  intro h
  rw [isSign_int] at hsg
  simp only at h
  rw [h] at hsg
  simp at hsg
 split
 ·split
  ·rename_i h9
   intro _
   refine ⟨fun x hx => ?_, ?_⟩
   ·unfold Tok.text at hx
    simp only [extract_list] at hx
    obtain ⟨k, hk⟩ := List.getElem?_of_mem hx
    rw [List.getElem?_drop, List.getElem?_take] at hk
    split at hk
    ·rename_i hlt
     have := digFrom_all s (s.size - i) i (i + k) (by omega) hlt
     unfold byteAt at this
     rw [hk] at this
     exact this
    ·cases hk
   ·unfold Tok.text
    simp only [ByteArray.size_extract]
    omega
  ·simp
 ·split
  ·simp
  ·simp
theorem toksAt_all (s : ByteArray) (P : Tok → Prop) (hP : ∀ i, i ≤ s.size → P (tokAt s i)) : ∀ n i, i ≤ s.size → s.size - i ≤ n → ∀ t ∈ toksAt s i, P t := by
 have one : ∀ i, i ≤ s.size → P (tokFrom s i) := fun i hi => hP _ (skip_le hi).2
 intro n
 induction n with
 | zero =>
  intro i hi hn t ht
  have hl : (tokFrom s i).last = true := by
   cases h : (tokFrom s i).last with
   | true => rfl
   | false => have := tokFrom_stop hi h; omega
  rw [toksAt_last hl] at ht
  simp at ht
  subst ht
  exact one i hi
 | succ n ih =>
  intro i hi hn t ht
  cases h : (tokFrom s i).last with
  | true =>
   rw [toksAt_last h] at ht
   simp at ht
   subst ht
   exact one i hi
  | false =>
   have h2 := tokFrom_stop hi h
   rw [toksAt_cons hi h] at ht
   rcases List.mem_cons.1 ht with rfl | ht
   ·exact one i hi
   ·exact ih _ h2.2 (by omega) t ht
theorem toksAt_ends (s : ByteArray) : ∀ n i, i ≤ s.size → s.size - i ≤ n → Ends (toksAt s i) ∧ (toksAt s i).length ≤ s.size - i + 1 := by
 have single : ∀ i, (tokFrom s i).last = true → Ends (toksAt s i) ∧ (toksAt s i).length ≤ s.size - i + 1 := by
  intro i h
  rw [toksAt_last h]
  exact ⟨⟨0, rfl, h⟩, by simp⟩
 intro n
 induction n with
 | zero =>
  intro i hi hn
  cases h : (tokFrom s i).last with
  | true => exact single i h
  | false => have := tokFrom_stop hi h; omega
 | succ n ih =>
  intro i hi hn
  cases h : (tokFrom s i).last with
  | true => exact single i h
  | false =>
   have h2 := tokFrom_stop hi h
   obtain ⟨⟨m, h3, h4⟩, h5⟩ := ih _ h2.2 (by omega)
   rw [toksAt_cons hi h]
   refine ⟨⟨m + 1, by simp [h3], by simpa using h4⟩, ?_⟩
   simp only [List.length_cons]
   omega
theorem toks_ends (s : ByteArray) : Ends (toks s) := (toksAt_ends s s.size 0 (by omega) (by omega)).1
theorem toks_length (s : ByteArray) : (toks s).length ≤ s.size + 1 := (toksAt_ends s s.size 0 (by omega) (by omega)).2
theorem toks_good (s : ByteArray) : Good s (toks s) := by
 intro i hi hk
 have := toksAt_all s (fun t => t.kind = 110 → Digits (t.text s)) (fun i hi h => tokAt_digits hi h) s.size 0 (by omega) (by omega) ((toks s).getD i default) (by
  rw [List.getD_eq_getElem?_getD, List.getElem?_eq_getElem hi]
  exact List.getElem_mem hi)
 exact this hk
def PRel (s : ByteArray) (r : Option Tree × Nat × Nat) : Prop :=
 (200 < s.size ∧ r = (none, 1, 0)) ∨
 (s.size ≤ 200 ∧ ((∃ J, D s (toks s) .choice 0 (.bad J) ∧ r = (none, 2, pl (toks s) J)) ∨
  (∃ t J, D s (toks s) .choice 0 (.ok [t] J) ∧ kd (toks s) J ≠ 101 ∧ r = (none, 2, pl (toks s) J)) ∨
  (∃ t J, D s (toks s) .choice 0 (.ok [t] J) ∧ kd (toks s) J = 101 ∧ r = (some t, 0, 0))))
theorem PRel.det {s : ByteArray} {r r' : Option Tree × Nat × Nat} (h : PRel s r) (h' : PRel s r') : r = r' := by
 rcases h with ⟨h0, rfl⟩ | ⟨h0, h⟩ <;> rcases h' with ⟨h0', rfl⟩ | ⟨h0', h'⟩
 ·rfl
 ·omega
 ·omega
 ·rcases h with ⟨J, d, rfl⟩ | ⟨t, J, d, k, rfl⟩ | ⟨t, J, d, k, rfl⟩ <;> rcases h' with ⟨J', d', rfl⟩ | ⟨t', J', d', k', rfl⟩ | ⟨t', J', d', k', rfl⟩ <;>
   (have e := d.det d'; first | (cases e; rfl) | (cases e; exact absurd k' k) | (cases e; exact absurd k k') | cases e)
def TreeAt (lo : Nat) (w : World) (t : Option Tree) (v : Value) : Prop :=
 match t with
 | some t => IsNode (From lo) w t v
 | none => True
set_option maxRecDepth 1000000 in
set_option maxHeartbeats 2000000 in
theorem ref_parse (s : ByteArray) (hs : s.size ≤ 9223372036854775807) (w : World) (hT : Tabs w) :
  Calls Tryz.prog 36 #[.string s] w fun e w' => ∃ (t : Option Tree) (f p : Nat) (pa : Option Addr), e = .returned (.tuple #[.pointer pa, .int .i64 f, .int .i64 p]) ∧ PRel s (t, f, p) ∧ Below w.heap.size w w' ∧ TreeAt w.heap.size w' t (.pointer pa) := by
 have HT : Hid (Tabs w) := hT
 clear hT
 by_cases h2 : 200 < s.size
 ·have h200 : (200 : Int) < (s.size : Int) := by omega
  go_enter Tryz.func36, Tryz.ntmps36
  go_wp2
  go_ret3
  exact ⟨none, 1, 0, _, rfl, .inl ⟨h2, rfl⟩, Below.refl _ _, trivial⟩
 have h200 : ¬ (200 : Int) < (s.size : Int) := by omega
 go_enter Tryz.func36, Tryz.ntmps36
 go_wp2_with fail
 have hb0 : Below w.heap.size w (w.alloc (.cells #[.slice none 0 0, .int .i64 0, .bool false] 165)) := (Below.refl _ _).alloc (Nat.le_refl _) _
 refine (ref_tokens s (by omega) _ (HT.out.below hb0)).mono ?_
 rintro e w1 ⟨v, rfl, hown, hb1⟩
 have hlen := toks_length s
 have hE := toks_ends s
 have hpos : 0 < (toks s).length := by obtain ⟨m, hm, -⟩ := hE; omega
 obtain ⟨bl, cap, rfl, hbl, cur, hcur, htake⟩ : ∃ bl cap, v = .slice (some ⟨bl, 0, none⟩) (toks s).length cap ∧ w.heap.size + 1 ≤ bl ∧ ∃ cur : Array Value, w1.heap[bl]? = some (.cells cur 169 (0, 0)) ∧ cur.toList.take ((toks s).length * 3) = toksCells s (toks s) := by
  rcases hown.2 with ⟨-, h0⟩ | ⟨g, cap, cur, h1, h2, h3, -, -, -, h7⟩
  ·omega
  ·exact ⟨g, cap, h1, by simpa using h2, cur, h3, h7⟩
 have hrd1 : RdAt (w1.setCell ⟨w.heap.size, 0, none⟩ (.slice (some ⟨bl, 0, none⟩) (toks s).length cap)) w.heap.size bl (toks s).length cap 0 false := by
  have : w1.heap[w.heap.size]? = some (.cells #[.slice none 0 0, .int .i64 0, .bool false] 165 (0, 0)) := (hb1.block _ (by simp)).trans cells_new
  exact heap_set_same this
 have hblk : w1.heap[w.heap.size]? = some (.cells #[.slice none 0 0, .int .i64 0, .bool false] 165 (0, 0)) := (hb1.block _ (by simp)).trans cells_new
 have m0 := cell_of_heap (i := 0) hblk rfl
 have f0 := frozen_of_heap (i := 0) hblk
 have lR := heap_lt hblk
 have lb := heap_lt hcur
 have hst : St s (toks s) w.heap.size bl cap w1.heap.size (w1.setCell ⟨w.heap.size, 0, none⟩ (.slice (some ⟨bl, 0, none⟩) (toks s).length cap)) 0 false :=
  ⟨hrd1, ⟨cur, heap_set_other hcur (by simp; omega), htake⟩, lR, lb, by omega, by simp, by omega⟩
 have HB1 : Hid (Below w.heap.size w (w1.setCell ⟨w.heap.size, 0, none⟩ (.slice (some ⟨bl, 0, none⟩) (toks s).length cap))) := by
  refine (hb0.trans (hb1.mono (by simp))).setCell (Nat.le_refl _) _
 have HST : Hid (St s (toks s) w.heap.size bl cap w1.heap.size (w1.setCell ⟨w.heap.size, 0, none⟩ (.slice (some ⟨bl, 0, none⟩) (toks s).length cap)) 0 false) := hst
 have hcon := (read_all (s := s) (R := w.heap.size) (bl := bl) (cap := cap) (base := w1.heap.size) hE (toks_good s) (toks s).length).2 _ 0 hpos (by omega) hst
 have HEND : Hid (Ends (toks s)) := hE
 clear hst hrd1 hblk hown hb1 hb0 hcur htake hE
 go_wp2_with fail
 refine hcon.mono ?_
 rintro e w2 ⟨o, pa, rfl, hD, hk, ha⟩
 have HD : Hid (D s (toks s) .choice 0 o) := hD
 have HB2 : Hid (Below w.heap.size w w2) := HB1.out.trans (hk.below (by simp; omega) (Nat.le_refl _))
 have hlo : w.heap.size ≤ w1.heap.size := by omega
 clear hD hk hcon m0 f0
 have hbad : ∀ (w3 : World) (J : Nat), St s (toks s) w.heap.size bl cap w1.heap.size w3 J true → J < (toks s).length → w3.cell? ⟨w.heap.size, 2, none⟩ = some (.bool true) ∧ w3.cell? ⟨w.heap.size, 0, none⟩ = some (.slice (some ⟨bl, 0, none⟩) (toks s).length cap) ∧ w3.cell? ⟨w.heap.size, 1, none⟩ = some (.int .i64 J) ∧ w3.cell? ⟨bl, J * 3 + 1, none⟩ = some (.int .i64 (pl (toks s) J)) :=
  fun w3 J h hJ => ⟨cell_of_heap h.rd rfl, cell_of_heap h.rd rfl, cell_of_heap h.rd rfl, h.c1 hJ⟩
 cases o with
 | bad J =>
  obtain ⟨hs2, hJ⟩ := ha
  go_wp2_with fail
  refine (st_take_bad hs2 hJ 101).mono ?_
  rintro e w3 ⟨rfl, hs3, hk3⟩
  obtain ⟨c2, c0, c1, cp⟩ := hbad w3 J hs3 hJ
  have HB3 : Hid (Below w.heap.size w w3) := HB2.out.trans (hk3.below HB2.out.size (Nat.le_refl _))
  have hJi : (J : Int) < ((toks s).length : Int) := by omega
  clear hs2 hs3 hk3 hbad
  go_wp2_with fail
  go_quiet (fail)
  go_wp2
  go_ret3
  exact ⟨none, 2, pl (toks s) J, _, rfl, .inr ⟨by omega, .inl ⟨J, HD.out, rfl⟩⟩, ⟨HB3.out.os, HB3.out.tape, HB3.out.output, HB3.out.size, HB3.out.block⟩, trivial⟩
 | ok ts J =>
  obtain ⟨hs2, hJ, t, rfl, hn⟩ := ha
  by_cases hk : kd (toks s) J = 101
  ·go_wp2_with fail
   refine (st_take_hit hs2 hJ (k := 101) hk).mono ?_
   rintro e w3 ⟨rfl, hs3, hk3⟩
   have c2 : w3.cell? ⟨w.heap.size, 2, none⟩ = some (.bool false) := cell_of_heap hs3.rd rfl
   have HB3 : Hid (Below w.heap.size w w3) := HB2.out.trans (hk3.below HB2.out.size (Nat.le_refl _))
   have HN3 : Hid (IsNode (From w.heap.size) w3 t (.pointer pa)) := by simp at hn; exact hn.kept hk3 (by omega) (by omega)
   have HK : Hid (kd (toks s) J = 101) := hk
   clear hs2 hs3 hk3 hbad hk hn
   go_wp2
   go_ret3
   exact ⟨some t, 0, 0, _, rfl, .inr ⟨by omega, .inr (.inr ⟨t, J, HD.out, HK.out, rfl⟩)⟩, HB3.out, HN3.out⟩
  ·go_wp2_with fail
   refine (st_take_miss hs2 hJ (k := 101) hk).mono ?_
   rintro e w3 ⟨rfl, hs3, hk3⟩
   obtain ⟨c2, c0, c1, cp⟩ := hbad w3 J hs3 hJ
   have HB3 : Hid (Below w.heap.size w w3) := HB2.out.trans (hk3.below HB2.out.size (Nat.le_refl _))
   have hJi : (J : Int) < ((toks s).length : Int) := by omega
   have HK : Hid (kd (toks s) J ≠ 101) := hk
   clear hs2 hs3 hk3 hbad hk hn
   go_wp2_with fail
   go_quiet (fail)
   go_wp2
   go_ret3
   exact ⟨none, 2, pl (toks s) J, _, rfl, .inr ⟨by omega, .inr (.inl ⟨t, J, HD.out, HK.out, rfl⟩)⟩, ⟨HB3.out.os, HB3.out.tape, HB3.out.output, HB3.out.size, HB3.out.block⟩, trivial⟩
end Go.Proofs.YtbokdbaagacnlaaGreatDoor
namespace Go.Proofs.YtbokdbaagacnlaaGreatDoor
open Go.RowKit Go.Lib
theorem toksAt_chain (s : ByteArray) : ∀ n i, i ≤ s.size → s.size - i ≤ n → ∀ I, I + 1 < (toksAt s i).length →
  (toksAt s i).getD (I + 1) default = tokFrom s ((toksAt s i).getD I default).stop ∧ ((toksAt s i).getD I default).pos < ((toksAt s i).getD I default).stop ∧ ((toksAt s i).getD I default).stop ≤ s.size := by
 intro n
 induction n with
 | zero =>
  intro i hi hn I hI
  have hl : (tokFrom s i).last = true := by
   cases h : (tokFrom s i).last with
   | true => rfl
   | false => have := tokFrom_stop hi h; omega
  rw [toksAt_last hl] at hI
  simp at hI
 | succ n ih =>
  intro i hi hn I hI
  cases h : (tokFrom s i).last with
  | true =>
   rw [toksAt_last h] at hI
   simp at hI
  | false =>
   have h2 := tokFrom_stop hi h
   have h3 := tokAt_stop (skip_le hi).2 h
   rw [toksAt_cons hi h] at hI ⊢
   cases I with
   | zero =>
    have hh : (toksAt s (tokFrom s i).stop).getD 0 default = tokFrom s (tokFrom s i).stop := by
     cases h4 : (tokFrom s (tokFrom s i).stop).last with
     | true => rw [toksAt_last h4]; rfl
     | false => rw [toksAt_cons h2.2 h4]; rfl
    refine ⟨by simpa using hh, ?_, by simpa using h2.2⟩
    show (tokFrom s i).pos < (tokFrom s i).stop
    unfold tokFrom
    omega
   | succ I =>
    have := ih _ h2.2 (by omega) I (by simpa using hI)
    simpa using this
theorem toks_chain (s : ByteArray) {I : Nat} (h : I + 1 < (toks s).length) :
  (toks s).getD (I + 1) default = tokFrom s ((toks s).getD I default).stop ∧ ((toks s).getD I default).pos < ((toks s).getD I default).stop ∧ ((toks s).getD I default).stop ≤ s.size :=
 toksAt_chain s s.size 0 (by omega) (by omega) I h
theorem pl_step (s : ByteArray) {I : Nat} (h : I + 1 < (toks s).length) : pl (toks s) I < pl (toks s) (I + 1) := by
 obtain ⟨h1, h2, h3⟩ := toks_chain s h
 have h4 := skip_le h3
 have h5 : (tokFrom s ((toks s).getD I default).stop).pos = skip s ((toks s).getD I default).stop := by
  unfold tokFrom tokAt
  repeat' split
  all_goals first | rfl | (simp only; omega)
 unfold pl
 rw [h1, h5]
 omega
theorem pl_lt (s : ByteArray) {I : Nat} : ∀ {J}, I < J → J < (toks s).length → pl (toks s) I < pl (toks s) J
 | J + 1, h, hJ => by
  have h1 := pl_step s hJ
  rcases Nat.lt_or_ge I J with h2 | h2
  ·exact Nat.lt_trans (pl_lt s h2 (by omega)) h1
  ·obtain rfl : I = J := by omega
   exact h1
theorem tokAt_sign {s : ByteArray} {i : Nat} (h : codeKind (tokAt s i) = 1) : ∃ c : UInt8, isSign c = true ∧ (tokAt s i).kind = c.toNat ∧ (tokAt s i).text s = ⟨#[c]⟩ := by
 revert h
 unfold tokAt
 split
 ·intro h; cases h
 split
 ·rename_i h1 h2
  intro _
  refine ⟨byteAt s i, h2, rfl, ?_⟩
  have h3 : i < s.size := by omega
  apply ByteArray.ext
  rw [← Array.toList_inj]
  show (s.extract i (i + 1)).data.toList = [byteAt s i]
  rw [extract_list2, List.drop_take, show i + 1 - i = 1 by omega, List.drop_eq_getElem_cons (by simpa using h3), byteAt_get h3]
  simp
  rfl
 repeat' split
 all_goals (intro h; cases h)
theorem toks_sign (s : ByteArray) {I : Nat} (hI : I < (toks s).length) (h : codeKind ((toks s).getD I default) = 1) : ∃ c : UInt8, isSign c = true ∧ kd (toks s) I = c.toNat ∧ tx s (toks s) I = ⟨#[c]⟩ := by
 have := toksAt_all s (fun t => codeKind t = 1 → ∃ c : UInt8, isSign c = true ∧ t.kind = c.toNat ∧ t.text s = ⟨#[c]⟩) (fun i _ h => tokAt_sign h) s.size 0 (by omega) (by omega) ((toks s).getD I default) (by
  rw [List.getD_eq_getElem?_getD, List.getElem?_eq_getElem hI]
  exact List.getElem_mem hI)
 exact this h
section
variable (s : ByteArray) (R : Nat)
def CBlk (w : World) (I : Nat) (txt : ByteArray) (mv : Value) : Prop := w.heap[R]? = some (.cells #[.string s, .int .i64 (codeKind ((toks s).getD I default)), .string txt, .int .i64 (pl (toks s) I), mv] 223 (0, 0))
structure CStM (w : World) (I : Nat) (ms : List ByteArray) : Prop where
 blk : ∃ txt mv, CBlk s R w I txt mv ∧ (kd (toks s) I ≠ 33 → txt = tx s (toks s) I) ∧ w.ownsRow (R + 1) 9 1 mv ms.length (ms.map Value.string)
 len : ms.length ≤ I
 tab : ∃ W0, Tabs W0 ∧ W0.heap.size ≤ R ∧ Below W0.heap.size W0 w
 lt : I < (toks s).length
 small : s.size ≤ 200
end
def mrow (w : World) (R : Nat) : Option Nat :=
 match w.heap[R]? with
 | some (.cells cs _ _) =>
  match (cs[4]? : Option Value) with
  | some v => v.ownBlock
  | none => none
 | _ => none
structure KC (R : Nat) (w w' : World) : Prop where
 os : w'.os = w.os
 tape : w'.tape = w.tape
 output : w'.output = w.output
 size : w.heap.size ≤ w'.heap.size
 block : ∀ k, k < w.heap.size → k ≠ R → mrow w R ≠ some k → w'.heap[k]? = w.heap[k]?
 row : mrow w' R = mrow w R ∨ ∃ g, mrow w' R = some g ∧ w.heap.size ≤ g
namespace KC
variable {R : Nat} {w w1 w2 : World}
theorem refl (R : Nat) (w : World) : KC R w w := ⟨rfl, rfl, rfl, Nat.le_refl _, fun _ _ _ _ => rfl, .inl rfl⟩
theorem trans (h : KC R w w1) (k : KC R w1 w2) : KC R w w2 := by
 refine ⟨k.os.trans h.os, k.tape.trans h.tape, k.output.trans h.output, Nat.le_trans h.size k.size, fun i hi hne hrow => ?_, ?_⟩
 ·refine (k.block i (Nat.lt_of_lt_of_le hi h.size) hne (fun e => ?_)).trans (h.block i hi hne hrow)
  rcases h.row with r | ⟨g, r, hg⟩
  ·exact hrow (r.symm.trans e)
  ·have := Option.some.inj (r.symm.trans e)
   omega
 ·rcases k.row with r | ⟨g, r, hg⟩
  ·rcases h.row with r' | ⟨g', r', hg'⟩
   ·exact .inl (r.trans r')
   ·exact .inr ⟨g', r.trans r', hg'⟩
  ·exact .inr ⟨g, r, Nat.le_trans h.size hg⟩
theorem of_below (h : Below w.heap.size w w1) (lR : R < w.heap.size) : KC R w w1 :=
 ⟨h.os, h.tape, h.output, h.size, fun k hk _ _ => h.block k hk, .inl (by unfold mrow; rw [h.block R lR])⟩
theorem alloc (h : KC R w w1) (lR : R < w1.heap.size) (o : Obj) : KC R w (w1.alloc o) := h.trans (of_below ((Below.refl _ _).alloc (Nat.le_refl _) o) lR)
theorem below (h : KC R w w1) (lR : R < w.heap.size) (hm : ∀ g, mrow w R = some g → R < g) : Below R w w1 :=
 ⟨h.os, h.tape, h.output, h.size, fun k hk => h.block k (by omega) (by omega) (fun e => by have := hm k e; omega)⟩
end KC
section
variable {s : ByteArray} {R : Nat}
theorem mrow_of {w : World} {I : Nat} {txt : ByteArray} {mv : Value} (h : CBlk s R w I txt mv) : mrow w R = mv.ownBlock := by
 unfold mrow
 rw [h]
 rfl
theorem kc_set3 {w w1 : World} {I : Nat} {txt : ByteArray} {mv : Value} (h : KC R w w1) (h1 : CBlk s R w1 I txt mv) (a b c : Value) : KC R w (((w1.setCell ⟨R, 1, none⟩ a).setCell ⟨R, 2, none⟩ b).setCell ⟨R, 3, none⟩ c) := by
 refine h.trans ⟨rfl, rfl, rfl, by simp, fun k hk hne _ => ?_, .inl ?_⟩
 ·rw [Below.heap_setCell _ _ _ _ hne, Below.heap_setCell _ _ _ _ hne, Below.heap_setCell _ _ _ _ hne]
 ·have e := heap_set_same (i := 3) (v := c) (heap_set_same (i := 2) (v := b) (heap_set_same (i := 1) (v := a) h1))
  rw [mrow_of h1]
  unfold mrow
  rw [e]
  rfl
theorem CStM.tabs {w : World} {I : Nat} {ms : List ByteArray} (h : CStM s R w I ms) : Tabs w := by
 obtain ⟨W0, h1, h2, h3⟩ := h.tab
 exact h1.below h3
theorem CStM.tab_of {w w' : World} {I : Nat} {ms : List ByteArray} (h : CStM s R w I ms) (hb : Below R w w') : ∃ W0, Tabs W0 ∧ W0.heap.size ≤ R ∧ Below W0.heap.size W0 w' := by
 obtain ⟨W0, h1, h2, h3⟩ := h.tab
 exact ⟨W0, h1, h2, h3.trans (hb.mono h2)⟩
theorem CStM.tab_kc {w w' : World} {I : Nat} {ms : List ByteArray} (h : CStM s R w I ms) (hk : KC R w w') : ∃ W0, Tabs W0 ∧ W0.heap.size ≤ R ∧ Below W0.heap.size W0 w' := by
 obtain ⟨txt, mv, h1, h2, h3⟩ := h.blk
 exact h.tab_of (hk.below (heap_lt h1) fun g hg => by rw [mrow_of h1] at hg; exact (h3.lt _ hg).1)
theorem CStM.later {w w' : World} {I : Nat} {ms : List ByteArray} (h : CStM s R w I ms) (hb : Below w.heap.size w w') : CStM s R w' I ms := by
 obtain ⟨txt, mv, h1, h2, h3⟩ := h.blk
 have lR := heap_lt h1
 exact ⟨⟨txt, mv, (hb.block R lR).trans h1, h2, h3.kept (row := none) ⟨hb.os, hb.tape, hb.output, hb.size, fun k hk _ => hb.block k hk⟩ (Classical.em _)⟩, h.len, h.tab_of (hb.mono (by omega)), h.lt, h.small⟩
theorem below_set3 {w w1 : World} (h : Below R w w1) (a b c : Value) : Below R w (((w1.setCell ⟨R, 1, none⟩ a).setCell ⟨R, 2, none⟩ b).setCell ⟨R, 3, none⟩ c) :=
 ((h.setCell (p := ⟨R, 1, none⟩) (Nat.le_refl _) a).setCell (p := ⟨R, 2, none⟩) (Nat.le_refl _) b).setCell (p := ⟨R, 3, none⟩) (Nat.le_refl _) c
theorem step_state {w w0 w1 : World} {I ST : Nat} {txt t2 : ByteArray} {mv : Value} {ms : List ByteArray} (h : CStM s R w I ms) (hO : w.ownsRow (R + 1) 9 1 mv ms.length (ms.map Value.string)) (hb : Below w0.heap.size w0 w1) (hw0 : w0.heap = w.heap := by rfl) (hz : Below w.heap.size w w0 := by exact (Below.drew (Below.refl _ _))) (h1 : CBlk s R w1 I txt mv) (h2 : (tokFrom s ST).kind ≠ 33 → t2 = (tokFrom s ST).text s)
  (hch : (toks s).getD (I + 1) default = tokFrom s ST) (hI1 : I + 1 < (toks s).length) :
  CStM s R (((w1.setCell ⟨R, 1, none⟩ (.int .i64 (codeKind (tokFrom s ST)))).setCell ⟨R, 2, none⟩ (.string t2)).setCell ⟨R, 3, none⟩ (.int .i64 (tokFrom s ST).pos)) (I + 1) ms := by
 have e := heap_set_same (i := 3) (v := .int .i64 (tokFrom s ST).pos) (heap_set_same (i := 2) (v := .string t2) (heap_set_same (i := 1) (v := .int .i64 (codeKind (tokFrom s ST))) h1))
 have hb1 : Below w.heap.size w w1 := hz.trans (by rw [← hw0]; exact hb)
 have lR : R < w.heap.size := by obtain ⟨a, b, c, -⟩ := h.blk; exact heap_lt c
 refine ⟨⟨t2, mv, ?_, ?_, ?_⟩, Nat.le_succ_of_le h.len, ?_, hI1, h.small⟩
 ·unfold CBlk pl
  rw [hch]
  exact e
 ·unfold kd tx
  rw [hch]
  exact h2
 ·have k1 := hO.kept (row := none) ⟨hb1.os, hb1.tape, hb1.output, hb1.size, fun k hk _ => hb1.block k hk⟩ (Classical.em _)
  refine k1.kept (row := some R) ⟨rfl, rfl, rfl, by simp, fun k hk hne => ?_⟩ (.inr fun e => by have := (k1.lt _ e).1; omega)
  have hne' : k ≠ R := fun e => hne (by rw [e])
  rw [Below.heap_setCell _ _ _ _ hne', Below.heap_setCell _ _ _ _ hne', Below.heap_setCell _ _ _ _ hne']
 ·exact h.tab_of (below_set3 (hb1.mono (Nat.le_of_lt lR)) _ _ _)
set_option maxRecDepth 1000000 in
set_option maxHeartbeats 1000000 in
theorem code_step {w : World} {I : Nat} {ms : List ByteArray} (h : CStM s R w I ms) (hl : ((toks s).getD I default).last = false) :
  Calls Tryz.prog 121 #[.pointer (some ⟨R, 0, none⟩)] w fun e w' => e = .returned (.tuple #[]) ∧ CStM s R w' (I + 1) ms ∧ KC R w w' := by
 obtain ⟨txt, mv, h1, h2, h3⟩ := h.blk
 have hI1 : I + 1 < (toks s).length := (toks_ends s).next h.lt (by intro e; simp [Tok.last, kd] at hl e; exact hl.1 e) (by intro e; simp [Tok.last, kd] at hl e; exact hl.2 e)
 obtain ⟨hch, hps, hss⟩ := toks_chain s hI1
 have htx : txt = tx s (toks s) I := h2 (by intro e; simp [Tok.last, kd] at hl e; exact hl.2 e)
 have hsz : txt.size = ((toks s).getD I default).stop - pl (toks s) I := by rw [htx]; unfold tx Tok.text pl; rw [ByteArray.size_extract]; omega
 have hadd : ((pl (toks s) I : Int) + (txt.size : Int)) = (((toks s).getD I default).stop : Int) := by rw [hsz]; unfold pl; omega
 have c0 := cell_of_heap (i := 0) h1 rfl
 have c1 := cell_of_heap (i := 1) h1 rfl
 have c2 := cell_of_heap (i := 2) h1 rfl
 have c3 := cell_of_heap (i := 3) h1 rfl
 have lR := heap_lt h1
 have hsm := h.small
 have hplb : pl (toks s) I ≤ 200 := by unfold pl; omega
 have htb : txt.size ≤ 200 := by rw [hsz]; omega
 have HT : Hid (Tabs w) := h.tabs
 have HS : Hid (CStM s R w I ms) := h
 have HCH : Hid ((toks s).getD (I + 1) default = tokFrom s ((toks s).getD I default).stop) := hch
 have HO : Hid (w.ownsRow (R + 1) 9 1 mv ms.length (ms.map Value.string)) := h3
 have H1 : Hid (CBlk s R w I txt mv) := h1
 have hI := h.lt
 clear hsz htx h2 hl hch h h3 h1
 generalize ((toks s).getD I default).stop = ST at *
 have hwr : IntKind.i64.wrap (ST : Int) = (ST : Int) := by rw [IntKind.wrap_i64]; omega
 go_enter Tryz.func121, Tryz.ntmps121
 go_wp2_with fail
 go_region_with
  (first | (go_at_call 95; refine (code_tokenFrom s ST (by omega) hss _ ?_).mono ?_; exact HT.out.below (Below.refl _ _).drew; rintro e w1 ⟨t2, rfl, ht2, hb1⟩; have k0 := cell_below hb1 c0; have k1 := cell_below hb1 c1; have k2 := cell_below hb1 c2; have k3 := cell_below hb1 c3; have k4 : w1.heap[R]? = _ := (hb1.block R lR).trans H1.out; have z1 := frozen_of_heap (i := 1) k4; have z2 := frozen_of_heap (i := 2) k4; have z3 := frozen_of_heap (i := 3) k4; have H4 : Hid (CBlk s R w1 I txt mv) := k4; clear k4))
 all_goals
  go_end0
  refine ⟨rfl, ?_, ?_⟩
  ·exact step_state HS.out HO.out hb1 (h1 := H4.out) (h2 := ht2) (hch := HCH.out) (hI1 := hI1)
  ·exact kc_set3 (KC.of_below ((Below.drew (Below.refl w.heap.size w)).trans hb1) lR) H4.out _ _ _
end
end Go.Proofs.YtbokdbaagacnlaaGreatDoor
