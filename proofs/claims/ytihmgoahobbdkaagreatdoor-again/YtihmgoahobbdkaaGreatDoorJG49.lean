/-
  WHAT A TEXT COMES TO, part by part; and in parentheses, as a part of a choice.
-/
import Derived.Test.YtihmgoahobbdkaaGreatDoorJG48
import Derived.Test.YtihmgoahobbdkaaGreatDoorJG39
import Derived.Test.YtihmgoahobbdkaaGreatDoorJG41
import Derived.Test.YtihmgoahobbdkaaGreatDoorProg
import Derived.Test.YtihmgoahobbdkaaGreatDoorJG1
import Derived.Laws.StructEq
import Derived.Test.YtihmgoahobbdkaaGreatDoorJG43
namespace Go.Proofs.YtihmgoahobbdkaaGreatDoor
open Go.RowKit Go.Lib

/-! An Outcome's parts. -/
def woP (t : Option Tree) : Bool := t.isSome
def woG : Option Tree → Bool
  | none => false
  | some t => (asks t).all fun q => haveS q.2
/-- What it is worth, where it is worth something. -/
def woR : Option Tree → Res
  | none => .val 0
  | some t => if (asks t).all (fun q => haveS q.2) = true then (ev envP t ()).1 else .val 0
def woV (t : Option Tree) : Value := .agg #[.bool (woP t), .bool (woG t), .bool false, .int .i64 (resN (woR t)), .int .i64 (resE (woR t)), .int .i64 (resP (woR t)), .int .i64 (resM (woR t)), .string { data := #[] }]
theorem whatO_parts (t : Option Tree) : whatO t = woV t := by
  cases t with
  | none => rfl
  | some t =>
    simp only [whatO, woV, woP, woG, woR, Option.isSome_some]
    split
    · rename_i h
      rw [h]
      rfl
    · rename_i h
      have : ((asks t).all fun q => haveS q.2) = false := by simpa using h
      rw [this]
      rfl
theorem PRel.read {s : ByteArray} {t : Tree} {f p : Nat} (h : PRel s (some t, f, p)) : s.size ≤ 200 ∧ ∃ J, D s (toks s) .choice 0 (.ok [t] J) ∧ kd (toks s) J = 101 := by
  rcases h with ⟨-, h⟩ | ⟨h0, ⟨J, -, h⟩ | ⟨u, J, -, -, h⟩ | ⟨u, J, d, k, h⟩⟩
  · cases h
  · cases h
  · cases h
  · injection h with h
    injection h with h
    subst h
    exact ⟨h0, J, d, k⟩
theorem PRel.of_read {s : ByteArray} {t : Tree} {J : Nat} (h0 : s.size ≤ 200) (d : D s (toks s) .choice 0 (.ok [t] J)) (k : kd (toks s) J = 101) : PRel s (some t, 0, 0) := .inr ⟨h0, .inr (.inr ⟨t, J, d, k, rfl⟩)⟩
theorem bm_boom : wBm = wBoom := rfl
theorem haveS_boom : haveS wBm = true := by
  unfold haveS
  rw [bm_boom]
  simp
theorem up_parts (o : Nat) (r : Res) : resN (r.up o) = resN r ∧ resE (r.up o) = resE r ∧ resM (r.up o) = resM r ∧ (resE r = 0 → resP (r.up o) = resP r) ∧ (resE r ≠ 0 → resP (r.up o) = o + resP r) := by
  cases r with
  | val n => exact ⟨rfl, rfl, rfl, fun _ => rfl, fun h => absurd rfl h⟩
  | held p y =>
    refine ⟨rfl, ?_, ?_, fun h => ?_, fun _ => ?_⟩
    · cases y <;> rfl
    · cases y <;> rfl
    · cases y <;> simp [resE] at h
    · simp [Res.up, resP]
/-- The same Outcome, but for its place. -/
structure Further (o : Nat) (a b : Option Tree) : Prop where
  p : woP b = woP a
  g : woG b = woG a
  n : resN (woR b) = resN (woR a)
  e : resE (woR b) = resE (woR a)
  m : resM (woR b) = resM (woR a)
  at0 : resE (woR a) = 0 → resP (woR b) = resP (woR a)
  at1 : resE (woR a) ≠ 0 → resP (woR b) = o + resP (woR a)
theorem further_of {o : Nat} {t u : Tree} (hq : ((asks u).all fun q => haveS q.2) = ((asks t).all fun q => haveS q.2)) (he : (ev envP u ()).1 = (ev envP t ()).1.up o) : Further o (some t) (some u) := by
  have hr : woR (some u) = (woR (some t)).up o := by
    simp only [woR]
    rw [hq]
    split
    · exact he
    · rfl
  have := up_parts o (woR (some t))
  rw [← hr] at this
  exact ⟨rfl, hq, this.1, this.2.1, this.2.2.1, this.2.2.2.1, this.2.2.2.2⟩
theorem further_then {s : ByteArray} {t : Tree} {f p : Nat} (h : PRel s (some t, f, p)) (hs : s.size ≤ 180) {t1 : Option Tree} {f1 p1 : Nat} (h1 : PRel (wOne ++ s ++ wElse) (t1, f1, p1)) : Further 3 (some t) t1 := by
  obtain ⟨-, J, d, k⟩ := h.read
  obtain ⟨K, d', k'⟩ := read_then d k
  have q := h1.det (PRel.of_read (by rw [ByteArray.size_append, ByteArray.size_append, wOne_size, wElse_size]; omega) d' k')
  injection q with q
  subst q
  refine further_of ?_ ?_
  · simp only [asks, asksAll, List.all_append, List.all_cons, List.all_nil, asks_up, List.all_map, haveS_boom]
    simp [Function.comp_def]
  · simp only [ev]
    show (onVal (fun s => (Res.val 1, s)) _ ()).1 = _
    rw [onVal_val (n := 1) (s1 := ()) rfl]
    simp only [ne_eq, Int.one_ne_zero, not_false_eq_true, if_true]
    rw [ev_up]
    rfl
theorem further_else {s : ByteArray} {t : Tree} {f p : Nat} (h : PRel s (some t, f, p)) (hs : s.size ≤ 180) {t1 : Option Tree} {f1 p1 : Nat} (h1 : PRel (wIf ++ s ++ wShut) (t1, f1, p1)) : Further 10 (some t) t1 := by
  obtain ⟨-, J, d, k⟩ := h.read
  obtain ⟨K, d', k'⟩ := read_else d k
  have q := h1.det (PRel.of_read (by rw [ByteArray.size_append, ByteArray.size_append, wIf_size, wShut_size]; omega) d' k')
  injection q with q
  subst q
  refine further_of ?_ ?_
  · simp only [asks, asksAll, List.all_append, List.all_cons, List.all_nil, asks_up, List.all_map, haveS_boom]
    simp [Function.comp_def]
  · simp only [ev]
    show (onVal (fun s => (Res.val 0, s)) _ ()).1 = _
    rw [onVal_val (n := 0) (s1 := ()) rfl]
    simp only [ne_eq, not_true_eq_false, if_false]
    rw [ev_up]
    rfl
end Go.Proofs.YtihmgoahobbdkaaGreatDoor
namespace Go.Proofs.YtihmgoahobbdkaaGreatDoor

def Res.drop : Res → Res
  | .val n => .val n
  | .held _ y => .held 0 y
section
variable {σ : Type}
def dropR (r : Res × σ) : Res × σ := (r.1.drop, r.2)
theorem onVal_drop {m m' : σ → Res × σ} {k k' : Int → σ → Res × σ} (hm : ∀ s, dropR (m' s) = dropR (m s)) (hk : ∀ n s, dropR (k' n s) = dropR (k n s)) (s : σ) : dropR (onVal m' k' s) = dropR (onVal m k s) := by
  unfold onVal
  have h := hm s
  generalize m' s = a at h
  generalize m s = b at h
  obtain ⟨a, s1⟩ := a
  obtain ⟨b, s2⟩ := b
  simp only [dropR, Prod.mk.injEq] at h
  obtain ⟨h1, rfl⟩ := h
  cases a with
  | val n =>
    cases b with
    | val m => cases h1; exact hk n s1
    | held p y => cases h1
  | held p y =>
    cases b with
    | val m => cases h1
    | held q z => injection h1 with _ h1; subst h1; rfl
theorem onBoth_drop {m m' p p' : σ → Res × σ} {k k' : Int → Int → σ → Res × σ} (hm : ∀ s, dropR (m' s) = dropR (m s)) (hp : ∀ s, dropR (p' s) = dropR (p s)) (hk : ∀ x y s, dropR (k' x y s) = dropR (k x y s)) (s : σ) : dropR (onBoth m' p' k' s) = dropR (onBoth m p k s) :=
  onVal_drop hm (fun x s => onVal_drop hp (fun y s => hk x y s) s) s
theorem measured_drop (p q : Nat) (r : Found × σ) : dropR (measured p r) = dropR (measured q r) := by
  obtain ⟨r, s⟩ := r
  cases r <;> rfl
theorem probed_drop (p q : Nat) (r : PFound × σ) : dropR (probed p r) = dropR (probed q r) := by
  obtain ⟨r, s⟩ := r
  cases r <;> rfl
mutual
theorem ev_strip (E : Env σ) : ∀ t s, dropR (ev E (strip t) s) = dropR (ev E t s)
  | .num _ _, s => by simp [strip, ev]
  | .neg _ a, s => by
    simp only [strip, ev]
    exact onVal_drop (ev_strip E a) (fun _ _ => rfl) s
  | .bin k p a b, s => by
    simp only [strip, ev]
    split
    · refine onBoth_drop (ev_strip E a) (ev_strip E b) (fun x y s => ?_) s
      unfold dropR
      split <;> rfl
    · exact onBoth_drop (ev_strip E a) (ev_strip E b) (fun x y s => rfl) s
  | .ite _ a b c, s => by
    simp only [strip, ev]
    refine onVal_drop (ev_strip E a) (fun n s => ?_) s
    split
    · exact ev_strip E b s
    · exact ev_strip E c s
  | .meas p wd m n, s => by
    simp only [strip, ev]
    split
    · rfl
    · exact measured_drop 0 p _
  | .probe p wd ts, s => by
    simp only [strip, ev]
    exact evAll_strip E ts (fun xs s => probed_drop 0 p _) s
theorem evAll_strip (E : Env σ) : ∀ (ts : List Tree) {k k' : List Int → σ → Res × σ}, (∀ xs s, dropR (k' xs s) = dropR (k xs s)) → ∀ s, dropR (onAll (evAll E (strips ts)) k' s) = dropR (onAll (evAll E ts) k s)
  | [], k, k', hk, s => by simp only [strips, evAll, onAll]; exact hk [] s
  | t :: ts, k, k', hk, s => by
    simp only [strips, evAll, onAll]
    exact onVal_drop (ev_strip E t) (fun x s => evAll_strip E ts (fun xs s => hk (x :: xs) s) s) s
end
theorem ev_same (E : Env σ) {t t' : Tree} (h : strip t = strip t') (s : σ) : dropR (ev E t s) = dropR (ev E t' s) := by rw [← ev_strip E t s, h, ev_strip]
end
mutual
theorem asks_strip : ∀ t : Tree, asks (strip t) = (asks t).map fun q => (0, q.2)
  | .num _ _ => by simp [strip, asks]
  | .neg _ a => by simp [strip, asks, asks_strip a]
  | .bin _ _ a b => by simp [strip, asks, asks_strip a, asks_strip b]
  | .ite _ a b c => by simp [strip, asks, asks_strip a, asks_strip b, asks_strip c]
  | .meas _ _ _ _ => by simp [strip, asks]
  | .probe _ _ ts => by simp [strip, asks, asksAll_strip ts]
theorem asksAll_strip : ∀ ts : List Tree, asksAll (strips ts) = (asksAll ts).map fun q => (0, q.2)
  | [] => by simp [strips, asksAll]
  | t :: ts => by simp [strips, asksAll, asks_strip t, asksAll_strip ts]
end
end Go.Proofs.YtihmgoahobbdkaaGreatDoor
namespace Go.Proofs.YtihmgoahobbdkaaGreatDoor
open Go.RowKit

theorem Tryz.outcomeS : Tryz.prog.underlying 56 = some (.struct (Tryz.prog.fieldsOf 56)) := by kernel_rfl
theorem Tryz.outcomeP : Tryz.prog.stoodInHeld 56 = false := by kernel_rfl
theorem Tryz.outcomeG : Tryz.prog.eqGuardType Tryz.prog.depth 56 = false := by kernel_rfl
theorem Tryz.toldS : Tryz.prog.underlying 23 = some (.struct (Tryz.prog.fieldsOf 23)) := by kernel_rfl
theorem Tryz.toldP : Tryz.prog.stoodInHeld 23 = false := by kernel_rfl
theorem Tryz.toldSame (e p m : Int) (w : World) : (Op.equalIn 9999 23 (.agg #[.int .i64 e, .int .i64 p, .int .i64 m, .string { data := #[] }]) (.agg #[.int .i64 e, .int .i64 p, .int .i64 m, .string { data := #[] }])).run Tryz.prog w = .ok true w := by
  have ui := Tryz.underlying3
  have u64 := Tryz.underlying2
  have us := Tryz.underlying9
  rw [show (9999 : Nat) = 9998 + 1 from rfl, run_equalIn_agg w 9998 _ _ _ Tryz.toldS Tryz.toldP]
  simp only [Program.fieldsOf, Tryz.underlying23]
  go_simp
theorem Tryz.outSame (po pr br : Bool) (n e p m : Int) (w : World) :
    (Op.equalIn 10000 56 (.agg #[.bool po, .bool pr, .bool br, .int .i64 n, .int .i64 e, .int .i64 p, .int .i64 m, .string { data := #[] }]) (.agg #[.bool po, .bool pr, .bool br, .int .i64 n, .int .i64 e, .int .i64 p, .int .i64 m, .string { data := #[] }])).run Tryz.prog w = .ok true w := by
  have ub := Tryz.underlying4
  have u64 := Tryz.underlying2
  have ht := Tryz.toldSame e p m
  rw [show (10000 : Nat) = 9999 + 1 from rfl, run_equalIn_agg w 9999 _ _ _ Tryz.outcomeS Tryz.outcomeP]
  simp only [Program.fieldsOf, Tryz.underlying56]
  go_simp
end Go.Proofs.YtihmgoahobbdkaaGreatDoor
namespace Go.Proofs.YtihmgoahobbdkaaGreatDoor
open Go.RowKit Go.Lib

theorem text_eq (t : Tree) : textO (some t) = ptext (prP t) := by
  apply ByteArray.ext
  apply Array.ext'
  rw [text_pr]
  rfl
theorem text_same {t t' : Tree} (h : strip t' = strip t) : textO (some t') = textO (some t) := by rw [text_eq, text_eq, prP_of_strip h]
theorem pr_ne : ∀ t, prL t ≠ []
  | .num _ n => by
    intro e
    have q : (decL n.toNat).length = 0 := by
      have : decL n.toNat = [] := by simpa [prL] using e
      rw [this]; rfl
    rw [decL] at q
    split at q <;> simp at q
  | .neg _ _ => by simp [prL]
  | .bin _ _ _ _ => by simp [prL]
  | .ite _ _ _ _ => by simp [prL]
  | .meas _ _ _ _ => by simp [prL]
  | .probe _ _ _ => by simp [prL]
theorem text_ne (t : Tree) : (textO (some t)).toList ≠ [] := by
  rw [toList_data]
  simpa [textO] using pr_ne t
/-- The same Outcome, but for its place. -/
structure SameO (a b : Option Tree) : Prop where
  p : woP b = woP a
  g : woG b = woG a
  n : resN (woR b) = resN (woR a)
  e : resE (woR b) = resE (woR a)
  m : resM (woR b) = resM (woR a)
theorem drop_parts {r r' : Res} (h : r.drop = r'.drop) : resN r = resN r' ∧ resE r = resE r' ∧ resM r = resM r' := by
  cases r with
  | val n =>
    cases r' with
    | val m => cases h; exact ⟨rfl, rfl, rfl⟩
    | held q z => cases h
  | held p y =>
    cases r' with
    | val m => cases h
    | held q z =>
      injection h with _ h
      subst h
      cases y <;> exact ⟨rfl, rfl, rfl⟩
theorem same_of {t t' : Tree} (h : strip t' = strip t) : SameO (some t) (some t') := by
  have hq : ((asks t').all fun q => haveS q.2) = ((asks t).all fun q => haveS q.2) := by
    have e := congrArg asks h
    rw [asks_strip, asks_strip] at e
    have e2 := congrArg (fun l => l.all fun q : Nat × ByteArray => haveS q.2) e
    simpa [List.all_map, Function.comp_def] using e2
  have hr : (woR (some t')).drop = (woR (some t)).drop := by
    simp only [woR]
    rw [hq]
    split
    · exact congrArg Prod.fst (ev_same envP h ())
    · rfl
  have := drop_parts hr
  exact ⟨rfl, hq, this.1, this.2.1, this.2.2⟩
/-- What is written is read again. -/
theorem again_text {s : ByteArray} {t : Tree} {f p : Nat} (h : PRel s (some t, f, p)) (hs : (textO (some t)).size ≤ 198) {u : Option Tree} {f1 p1 : Nat} (h1 : PRel (textO (some t)) (u, f1, p1)) : textO u = textO (some t) ∧ SameO (some t) u := by
  obtain ⟨h0, J, d, k⟩ := h.read
  obtain ⟨hf, -⟩ := read_fits h0 d k
  obtain ⟨t', ⟨K, d', k'⟩, e⟩ := read_again hf
  rw [← text_eq] at d' k'
  have q := h1.det (PRel.of_read (by omega) d' k')
  injection q with q
  subst q
  exact ⟨text_same e, same_of e⟩
theorem again_paren {s : ByteArray} {t : Tree} {f p : Nat} (h : PRel s (some t, f, p)) (hs : (textO (some t)).size ≤ 198) {u : Option Tree} {f1 p1 : Nat} (h1 : PRel (⟨#[40]⟩ ++ textO (some t) ++ ⟨#[41]⟩) (u, f1, p1)) : textO u = textO (some t) := by
  obtain ⟨h0, J, d, k⟩ := h.read
  obtain ⟨hf, -⟩ := read_fits h0 d k
  obtain ⟨t', ⟨K, d', k'⟩, e⟩ := read_paren hf
  have et : ptext (.sign 40 :: (prP t ++ [.sign 41])) = ⟨#[40]⟩ ++ textO (some t) ++ ⟨#[41]⟩ := by
    rw [text_eq]
    simp [ptext, ptext_append, Piece.text, ByteArray.append_assoc]
  rw [et] at d' k'
  have q := h1.det (PRel.of_read (by rw [ByteArray.size_append, ByteArray.size_append, sz1, sz1]; omega) d' k')
  injection q with q
  subst q
  exact text_same e
set_option maxRecDepth 1000000 in
set_option maxHeartbeats 4000000 in
theorem law_Again (s : ByteArray) {A : Nat → Addr} {w : World} (hT : TabsR w) (hA : SentsX A w) :
    Calls Tryz.prog 7 #[.string s] w fun e w' => e = .returned (.bool true) ∧ Below w.heap.size w w' := by
  have ha := keep_alive hT hA
  have HE : Hid (TabsR w ∧ SentsX A w) := ⟨hT, hA⟩
  clear hT hA
  go_enter Tryz.func7, Tryz.ntmps7
  go_wp2_with fail
  refine ha.mono ?_
  rintro e w1 ⟨rfl, hb1⟩
  have hp := plain_Parse s (HE.out.1.below hb1).tabs (HE.out.2.below hb1).sents
  have B1 : Hid (Below w.heap.size w w1) := hb1
  clear ha hb1
  go_wp2_with fail
  refine hp.mono ?_
  rintro e w2 ⟨t, f, p, hP, rfl, hb2⟩
  have B2 : Hid (Below w.heap.size w (w2.alloc (.cells #[.int .i64 f, .int .i64 p, .int .i64 0, .string { data := #[] }] 23))) := (B1.out.trans (hb2.mono B1.out.size)).alloc (Nat.le_trans B1.out.size hb2.size) _
  have ht := plain_Text s (HE.out.1.below B2.out) (HE.out.2.below B2.out)
  have HP : Hid (PRel s (t, f, p)) := hP
  clear hp hb2 hP
  go_wp2_with fail
  refine ht.mono ?_
  rintro e w3 ⟨t', f', p', hP', hb3, rfl⟩
  have q := HP.out.det hP'
  injection q with q
  subst q
  have B3 : Hid (Below w.heap.size w w3) := B2.out.trans (hb3.mono B2.out.size)
  clear ht hb3 hP'
  cases t with
  | none =>
    have e0 : textO none = ⟨#[]⟩ := rfl
    rw [e0]
    go_wp2
    go_ret
    exact ⟨rfl, B3.out⟩
  | some t =>
    generalize hS : textO (some t) = S
    have HS : Hid _ := hS
    clear hS
    rcases Nat.lt_or_ge 198 S.size with hbig | hsm
    · have hb : (198 : Int) < S.size := by omega
      go_wp2
      go_ret
      exact ⟨rfl, B3.out⟩
    · have hb : ¬ (198 : Int) < S.size := by omega
      have z1 : ¬ 9223372036854775807 < 1 + S.size := by omega
      have z2 : ¬ 9223372036854775807 < 1 + S.size + 1 := by omega
      have h4 := plain_Text S (HE.out.1.below B3.out) (HE.out.2.below B3.out)
      go_wp2_with fail
      refine h4.mono ?_
      rintro e w4 ⟨u, f4, p4, hP4, hb4, rfl⟩
      have B4 : Hid (Below w.heap.size w w4) := B3.out.trans (hb4.mono B3.out.size)
      obtain ⟨e4, so⟩ := again_text HP.out (by rw [HS.out]; omega) (by rw [HS.out]; exact hP4)
      rw [HS.out] at e4
      rw [e4]
      have h5 := plain_Text (⟨#[40]⟩ ++ S ++ ⟨#[41]⟩) (HE.out.1.below B4.out) (HE.out.2.below B4.out)
      have HP4 : Hid (PRel S (u, f4, p4)) := hP4
      have SO : Hid _ := so
      clear h4 hb4 hP4 e4 so
      go_wp2_with fail
      refine h5.mono ?_
      rintro e w5 ⟨u5, f5, p5, hP5, hb5, rfl⟩
      have B5 : Hid (Below w.heap.size w w5) := B4.out.trans (hb5.mono B4.out.size)
      have e5 := again_paren HP.out (by rw [HS.out]; omega) (by rw [HS.out]; exact hP5)
      rw [HS.out] at e5
      rw [e5]
      have h6 := plain_What s (HE.out.1.below B5.out) (HE.out.2.below B5.out)
      clear h5 hb5 hP5 e5
      go_wp2_with fail
      refine h6.mono ?_
      rintro e w6 ⟨t6, f6, p6, hP6, hb6, rfl⟩
      have q := HP.out.det hP6
      injection q with q
      subst q
      have B6 : Hid (Below w.heap.size w w6) := B5.out.trans (hb6.mono B5.out.size)
      rw [whatO_parts]
      unfold woV
      have B7 : Hid (Below w.heap.size w (w6.alloc (.cells #[.bool (woP (some t)), .bool (woG (some t)), .bool false, .int .i64 (resN (woR (some t))), .int .i64 (resE (woR (some t))), .int .i64 (resP (woR (some t))), .int .i64 (resM (woR (some t))), .string { data := #[] }] 56))) := B6.out.alloc B6.out.size _
      have h7 := plain_What S (HE.out.1.below B7.out) (HE.out.2.below B7.out)
      clear h6 hb6 hP6
      go_wp2_with fail
      refine h7.mono ?_
      rintro e w7 ⟨t7, f7, p7, hP7, hb7, rfl⟩
      have q := HP4.out.det hP7
      injection q with q
      subst q
      have B8 : Hid (Below w.heap.size w w7) := B7.out.trans (hb7.mono B7.out.size)
      have rb : w7.heap[w6.heap.size]? = some (.cells #[.bool (woP (some t)), .bool (woG (some t)), .bool false, .int .i64 (resN (woR (some t))), .int .i64 (resE (woR (some t))), .int .i64 (resP (woR (some t))), .int .i64 (resM (woR (some t))), .string { data := #[] }] 56 (0, 0)) := (hb7.block _ (by simp)).trans (heap_alloc_new _ _)
      rw [whatO_parts]
      unfold woV
      rw [SO.out.p, SO.out.g, SO.out.n, SO.out.e, SO.out.m]
      have L67 : w6.heap.size < w7.heap.size := heap_lt rb
      have L6 : w.heap.size ≤ w6.heap.size := B6.out.size
      generalize resP (woR u) = pu
      have hne : (S.toList == []) = false := by
        have := text_ne t
        rw [HS.out] at this
        simpa using this
      clear h7 hb7 hP7
      generalize woP (some t) = po at *
      generalize woG (some t) = pr at *
      generalize resN (woR (some t)) = n at *
      generalize resE (woR (some t)) = en at *
      generalize resP (woR (some t)) = pn at *
      generalize resM (woR (some t)) = mn at *
      have rc0 := cell_of_heap (i := 0) (v := .bool po) rb rfl
      have rc1 := cell_of_heap (i := 1) (v := .bool pr) rb rfl
      have rc2 := cell_of_heap (i := 2) (v := .bool false) rb rfl
      have rc3 := cell_of_heap (i := 3) (v := .int .i64 n) rb rfl
      have rc4 := cell_of_heap (i := 4) (v := .int .i64 en) rb rfl
      have rc5 := cell_of_heap (i := 5) (v := .int .i64 pn) rb rfl
      have rc6 := cell_of_heap (i := 6) (v := .int .i64 mn) rb rfl
      have rc7 := cell_of_heap (i := 7) (v := .string { data := #[] }) rb rfl
      have rz0 := frozen_of_heap (i := 0) rb
      have rz1 := frozen_of_heap (i := 1) rb
      have rz2 := frozen_of_heap (i := 2) rb
      have rz3 := frozen_of_heap (i := 3) rb
      have rz4 := frozen_of_heap (i := 4) rb
      have rz5 := frozen_of_heap (i := 5) rb
      have rz6 := frozen_of_heap (i := 6) rb
      have rz7 := frozen_of_heap (i := 7) rb
      have heq := Tryz.outSame po pr false n en pu mn
      have hgd := Tryz.outcomeG
      clear rb
      go_wp2
      go_ret
      exact ⟨rfl, (B8.out.setCell (p := ⟨w6.heap.size, 5, none⟩) L6 _).alloc (by simp; exact B8.out.size) _⟩
end Go.Proofs.YtihmgoahobbdkaaGreatDoor
