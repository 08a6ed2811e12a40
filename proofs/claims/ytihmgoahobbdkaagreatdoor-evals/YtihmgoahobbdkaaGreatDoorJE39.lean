/-
  plain.Load, WALKED.
-/
import Derived.Test.YtihmgoahobbdkaaGreatDoorJE38
namespace Go.Proofs.YtihmgoahobbdkaaGreatDoor
open Go.RowKit Go.Lib

/-- What plain.Load answers. -/
def loadedV (err at_ : Nat) (name : ByteArray) (there same empty : Bool) (ms : Value) (right : Bool) : Value := .agg #[.int .i64 (err : Int), .int .i64 (at_ : Int), .int .i64 0, .string name, .bool there, .bool same, .bool empty, ms, .bool right]
/-- What it tells of a text. -/
def LTold (h n : Int) (w : World) (e : Ending) (t : Option Tree) : Prop :=
  match t with
  | none => e = .returned (loadedV 0 0 ⟨#[]⟩ false false false (.slice none 0 0) false)
  | some t => Fit t ∧ (mets t).length ≤ 300 ∧ Fine t ∧
      match missL (pnames h 4) (asks t) with
      | none => ∃ tv, e = .returned (loadedV 0 0 ⟨#[]⟩ true true false tv true) ∧ Txts w tv (firstN n (notes [] (mets t)))
      | some q => e = .returned (loadedV 3 q.1 q.2 false true false (.slice none 0 0) false)
theorem enc_ne (t : Tree) : enc t ≠ [] := by cases t <;> simp [enc]
theorem in_pnames {h : Int} {p : Option Addr} {lo : Nat} {w : World} {F : ByteArray → Option Value} (hp : PF h p lo w 4 F) (s : ByteArray) : thereP F s ↔ inL (pnames h 4) s = true := by
  have hin : inL (pnames h 4) s = true ↔ s ∈ pnames h 4 := by
    unfold inL
    rw [List.any_eq_true]
    constructor
    · rintro ⟨x, hx, e⟩
      have : x = s := by
        apply ByteArray.ext
        rw [toList_data, toList_data] at e
        exact Array.toList_inj.1 (eq_of_beq e)
      exact this ▸ hx
    · exact fun hs => ⟨s, hs, by simp⟩
  rw [hin]
  constructor
  · rintro ⟨f, x, y, e⟩
    rcases (hp.no s _ e).2 with q | q
    · exact q
    · cases q
  · intro hs
    obtain ⟨b1, b2, e, -⟩ := hp.yes s hs
    exact ⟨_, _, _, e⟩
theorem pnames_zero : pnames 0 4 = [] := by decide +kernel
theorem find_of {qs : List (Nat × ByteArray)} {hl : List ByteArray} {F : ByteArray → Option Value} (hF : ∀ s, thereP F s ↔ inL hl s = true) : (∀ q ∈ qs, thereP F q.2) → missL hl qs = none := by
  intro h
  unfold missL
  rw [List.find?_eq_none]
  intro q hq
  simp [(hF q.2).1 (h q hq)]
theorem find_at {qs : List (Nat × ByteArray)} {hl : List ByteArray} {F : ByteArray → Option Value} (hF : ∀ s, thereP F s ↔ inL hl s = true) {i : Nat} {q : Nat × ByteArray} (hq : qs[i]? = some q) (h1 : ∀ q ∈ qs.take i, thereP F q.2) (h2 : ¬ thereP F q.2) : missL hl qs = some q := by
  have hs : qs = qs.take i ++ q :: qs.drop (i + 1) := by
    have hlt := (List.getElem?_eq_some_iff.1 hq).1
    have e := (List.getElem?_eq_some_iff.1 hq).2
    rw [← e, List.getElem_cons_drop, List.take_append_drop]
  have hn : inL hl q.2 = false := by
    cases e : inL hl q.2 with
    | true => exact absurd ((hF _).2 e) h2
    | false => rfl
  rw [hs, missL_append, find_of hF h1]
  simp [missL, hn]
/-- A map, or none, that is spoilt. -/
theorem probes_is {h : Int} {w w' : World} {e : Ending} (hr : Below w.heap.size w w' ∧ ((h = 0 ∧ e = .returned (.map none)) ∨ (h ≠ 0 ∧ e = .returned (.map (some w.heap.size)) ∧ PM h none w w' 4))) : ∃ pv F, e = .returned pv ∧ ProbesIs w' pv F ∧ (∀ s, thereP F s ↔ inL (pnames h 4) s = true) ∧ (pv = .map none ∨ (pv = .map (some w.heap.size) ∧ MapF w' w.heap.size F)) := by
  obtain ⟨hb, ⟨rfl, rfl⟩ | ⟨h0, rfl, hpm⟩⟩ := hr
  · exact ⟨_, fun _ => none, rfl, ⟨.inl ⟨rfl, fun _ => rfl⟩, fun s v q => by cases q⟩, fun s => by rw [pnames_zero]; exact ⟨fun ⟨_, _, _, q⟩ => (by cases q), fun q => (by simp [inL] at q)⟩, .inl rfl⟩
  · obtain ⟨F, hF, hPF⟩ := hpm.map
    refine ⟨_, F, rfl, ⟨.inr ⟨_, rfl, hF⟩, fun s v q => ?_⟩, in_pnames hPF, .inr ⟨rfl, hF⟩⟩
    rcases (hPF.no s v q).2 with q2 | q2
    · obtain ⟨b1, b2, e, -⟩ := hPF.yes s q2
      rw [q] at e
      injection e with e
      exact .inr ⟨_, _, _, e⟩
    · exact .inl q2
/-- A range over a map, or over none, that overwrites each value. -/
def Spo (pv : Value) (w : World) (r : Nat) (left : Nat) : Prop := (pv = .map none ∧ w.heap[r]? = some (.mapIter none 0 #[] 0)) ∨ ∃ m, pv = .map (some m) ∧ m ≠ r ∧ Ranges w m r left
/-- What it leaves alone. -/
structure SpoK (pv : Value) (r : Nat) (w w' : World) : Prop where
  os : w'.os = w.os
  tape : w'.tape = w.tape
  output : w'.output = w.output
  size : w'.heap.size = w.heap.size
  block : ∀ k, pv ≠ .map (some k) → k ≠ r → w'.heap[k]? = w.heap[k]?
theorem SpoK.refl (pv : Value) (r : Nat) (w : World) : SpoK pv r w w := ⟨rfl, rfl, rfl, rfl, fun _ _ _ => rfl⟩
theorem SpoK.trans {pv : Value} {r : Nat} {w w1 w2 : World} (h1 : SpoK pv r w w1) (h2 : SpoK pv r w1 w2) : SpoK pv r w w2 := ⟨h2.os.trans h1.os, h2.tape.trans h1.tape, h2.output.trans h1.output, h2.size.trans h1.size, fun k a b => (h2.block k a b).trans (h1.block k a b)⟩
def leftS (pv : Value) (w : World) (r : Nat) : Nat :=
  match pv with
  | .map (some m) => match w.heap[m]?, w.heap[r]? with
    | some (.map es _), some (.mapIter _ _ seen _) => ((es.toList.map (·.born)).filter fun b => !seen.contains b).length
    | _, _ => 0
  | _ => 0
theorem Ranges.leftS {w : World} {m r left : Nat} (h : Ranges w m r left) : Go.Proofs.YtihmgoahobbdkaaGreatDoor.leftS (.map (some m)) w r = left := by
  obtain ⟨es, clock, seen, h1, h2, -, -, h5⟩ := h
  unfold Go.Proofs.YtihmgoahobbdkaaGreatDoor.leftS
  simp only [h1, h2]
  exact h5
theorem Spo.next {pv : Value} {w : World} {r left : Nat} (h : Spo pv w r left) : (∀ ty, (Instr.next (.pointer (some ⟨r, 0, none⟩)) false ty).run Tryz.prog w = .ok (.tuple #[.bool false]) w) ∨
    ∃ (s : ByteArray) (v : Value) (w1 w2 : World), (∀ ty, (Instr.next (.pointer (some ⟨r, 0, none⟩)) false ty).run Tryz.prog w = .ok (.tuple #[.bool true, .string s, v]) w1) ∧ ((Instr.entry (.pointer (some ⟨r, 0, none⟩))).run Tryz.prog w1 = .ok (.tuple #[.string s, v]) w1) ∧
      ((Instr.mapUpdate 80 pv (.string s) .nilFunc).run Tryz.prog w1 = .ok () w2) ∧ Spo pv w2 r (left - 1) ∧ SpoK pv r w w2 ∧ leftS pv w2 r < leftS pv w r := by
  rcases h with ⟨rfl, h1⟩ | ⟨m, rfl, hm, h1⟩
  · exact .inl (next_none h1)
  · rcases h1.next hm with h2 | ⟨s, v, w1, w2, hl, h2, h3, h4, h5, h6, h7, h8, h9, h10⟩
    · exact .inl h2
    · refine .inr ⟨s, v, w1, w2, h2, h3, h4, .inr ⟨m, rfl, hm, h5⟩, ⟨h6, h7, h8, h9, fun k a b => h10 k (fun e => a (by rw [e])) b⟩, ?_⟩
      rw [h5.leftS, h1.leftS]
      omega
theorem Spo.begin {pv : Value} {w : World} (h : pv = .map none ∨ ∃ m F, pv = .map (some m) ∧ MapF w m F) : ∃ left o, (Instr.range 80 pv).run Tryz.prog w = .ok (.pointer (some ⟨w.heap.size, 0, none⟩)) (w.alloc o) ∧ Spo pv (w.alloc o) w.heap.size left := by
  rcases h with rfl | ⟨m, F, rfl, h1⟩
  · exact ⟨0, _, range_none w, .inl ⟨rfl, heap_alloc_new _ _⟩⟩
  · obtain ⟨left, o, h2, h3⟩ := Ranges.begin h1
    exact ⟨left, o, h2, .inr ⟨m, rfl, Nat.ne_of_lt h1.lt, h3⟩⟩
theorem Out8.own {B : Nat} {w : World} {v : Value} {l : List UInt8} (h : Out8 B w v l) {k : Nat} (e : v.ownBlock = some k) : B ≤ k ∧ ∃ cur, w.heap[k]? = some (.cells cur 5 (0, 0)) := by
  rcases h.2 with ⟨rfl, h1⟩ | ⟨g, cap, cur, rfl, hbg, hg, -⟩
  · cases e
  · injection e with e
    have e : g = k := e
    subst e
    exact ⟨hbg, cur, hg⟩
theorem ProgB.above {lo b : Nat} {w w' : World} {t : Tree} {ms : List ByteArray} {qs : List (Nat × ByteArray)} {sp : List (ByteArray × Int)} {F : ByteArray → Option Value} (h : ProgB lo w b t ms qs sp F) (hs : w.heap.size ≤ w'.heap.size) (hb : ∀ k, lo ≤ k → k < w.heap.size → w'.heap[k]? = w.heap[k]?) : ProgB lo w' b t ms qs sp F := by
  obtain ⟨⟨lb, g, G, h1, ⟨⟨vv, mv, sv, av, k1, k2, k3, k4, k5, k7⟩, k6⟩, h3, h4, h5⟩, h6⟩ := h
  have hm : ∀ {c : Nat} {x : Obj}, lo ≤ c → w.heap[c]? = some x → w'.heap[c]? = some x := fun hc hx => (hb _ hc (heap_lt hx)).trans hx
  exact ⟨⟨lb, g, G, hm h6 h1, ⟨⟨vv, mv, sv, av, hm k6 k1, k2, k3.moves fun g hg => ⟨⟨hg.1, Nat.lt_of_lt_of_le hg.2 hs⟩, hb g hg.1 hg.2⟩, owns_block2 k4 fun g hg => hb g (k4.lt _ hg).1 (k4.lt _ hg).2, owns_block2 k5 fun g hg => hb g (k5.lt _ hg).1 (k5.lt _ hg).2, owns_block2 k7 fun g hg => hb g (k7.lt _ hg).1 (k7.lt _ hg).2⟩, k6⟩, h3.block (hb g h4 h3.lt), h4, h5⟩, h6⟩
theorem asks_size : (∀ t : Tree, (asks t).length ≤ size t) ∧ ∀ ts : List Tree, (asksAll ts).length ≤ sizes ts := by
  refine ⟨fun t => ?_, fun ts => ?_⟩
  · exact go t
  · exact gos ts
where
  go : ∀ t : Tree, (asks t).length ≤ size t
    | .num .. => by simp [asks, size]
    | .neg _ a => by have := go a; simp [asks, size]; omega
    | .bin _ _ a b => by have := go a; have := go b; simp [asks, size]; omega
    | .ite _ a b c => by have := go a; have := go b; have := go c; simp [asks, size]; omega
    | .meas .. => by simp [asks, size]
    | .probe _ _ ts => by have := gos ts; simp [asks, size]; omega
  gos : ∀ ts : List Tree, (asksAll ts).length ≤ sizes ts
    | [] => by simp [asksAll, sizes]
    | t :: ts => by have := go t; have := gos ts; simp [asksAll, sizes]; omega
theorem Out8.keep {B : Nat} {w w' : World} {v : Value} {l : List UInt8} (h : Out8 B w v l) (hb : ∀ g, v.ownBlock = some g → g < w.heap.size → w'.heap[g]? = w.heap[g]?) : Out8 B w' v l := owns_block2 h fun g hg => hb g hg (World.ownsRow.lt h _ hg).2
theorem Out8.span {B : Nat} {w : World} {v : Value} {l : List UInt8} (h : Out8 B w v l) {g : Nat} (hg : v.ownBlock = some g) : B ≤ g ∧ g < w.heap.size := World.ownsRow.lt h _ hg
theorem block_at {w : World} {cs : Array Value} {T : TypeId} {n : Nat} (h : w.heap.size = n) : (w.alloc (.cells cs T)).heap[n]? = some (.cells cs T (0, 0)) := by subst h; exact block_new w cs T
/-- What the spoiling leaves alone. -/
theorem spoilt_block {w5 w6 wr : World} {pv : Value} {ob : Option Nat} {o : Obj} (g : w5.grownBy w6 ob) (hk : SpoK pv w6.heap.size (w6.alloc o) wr) {k : Nat} (lt : k < w5.heap.size) (h1 : ob ≠ some k) (h2 : pv ≠ .map (some k)) : wr.heap[k]? = w5.heap[k]? := by
  have l6 := g.size
  rw [hk.block k h2 (by omega), Below.heap_alloc w6 o k (by omega)]
  exact g.block k lt (fun e => h1 e.symm)
theorem spoilt_below {B : Nat} {w w5 w6 wr : World} {pv : Value} {ob : Option Nat} {o : Obj} (h : Below B w w5) (hB : B ≤ w5.heap.size) (g : w5.grownBy w6 ob) (hk : SpoK pv w6.heap.size (w6.alloc o) wr) (h1 : ∀ k, ob = some k → B ≤ k) (h2 : ∀ k, pv = .map (some k) → B ≤ k) : Below B w wr :=
  ⟨hk.os.trans (g.os.trans h.os), hk.tape.trans (g.tape.trans h.tape), hk.output.trans (g.output.trans h.output), by
    have a := h.size
    have b := g.size
    have c := hk.size
    simp at c
    omega, fun k lt => (spoilt_block g hk (by omega) (fun e => by have := h1 k e; omega) (fun e => by have := h2 k e; omega)).trans (h.block k lt)⟩
/-- What lies from a block on is as it was. -/
structure Up (lo : Nat) (w w' : World) : Prop where
  size : w.heap.size ≤ w'.heap.size
  block : ∀ k, lo ≤ k → k < w.heap.size → w'.heap[k]? = w.heap[k]?
theorem Up.below {lo : Nat} {w w1 w2 : World} (h : Up lo w w1) (hb : Below w1.heap.size w1 w2) : Up lo w w2 := ⟨Nat.le_trans h.size hb.size, fun k a b => (hb.block k (Nat.lt_of_lt_of_le b h.size)).trans (h.block k a b)⟩
theorem Up.setCell {lo : Nat} {w w1 : World} (h : Up lo w w1) {R i : Nat} (hR : R < lo) (v : Value) : Up lo w (w1.setCell ⟨R, i, none⟩ v) := ⟨by simp; exact h.size, fun k a b => (Below.heap_setCell w1 _ v k (by show k ≠ R; omega)).trans (h.block k a b)⟩
theorem ProgB.up {lo b : Nat} {w w' : World} {t : Tree} {ms : List ByteArray} {qs : List (Nat × ByteArray)} {sp : List (ByteArray × Int)} {F : ByteArray → Option Value} (h : ProgB lo w b t ms qs sp F) (hu : Up lo w w') : ProgB lo w' b t ms qs sp F := h.above hu.size hu.block
/-- What Load gave. -/
def GotB (lo : Nat) (w : World) (t : Tree) (F : ByteArray → Option Value) (gv ev : Value) : Prop :=
  ((∀ q ∈ asks t, thereP F q.2) ∧ ∃ b, gv = ptr b ∧ ev = .nilIface ∧ ProgB lo w b (bare t) (notes [] (mets t)) (asks t) (spansOf t) F) ∨
  (∃ i q b, (asks t)[i]? = some q ∧ (∀ q ∈ (asks t).take i, thereP F q.2) ∧ ¬ thereP F q.2 ∧ gv = .pointer none ∧ ev = .iface 115 (ptr b) ∧ w.heap[b]? = some (.cells #[.int .i64 (q.1 : Int), .string q.2] 117 (0, 0)))
theorem load_enc {A : Nat → Addr} {w : World} (hT : TabsR w) (hS : Sents A w) {v : Value} {t : Tree} (hf : Fit t) (hs : size t ≤ 200) (hl : RestAt w.heap.size w v (enc t)) {pv : Value} {F : ByteArray → Option Value} (hp : ProbesIs w pv F) :
    Calls Tryz.prog 32 #[v, pv] w fun e w' => Below w.heap.size w w' ∧ ∃ gv ev, e = .returned (.tuple #[gv, ev]) ∧ GotB w.heap.size w' t F gv ev := by
  have hr := readB_enc hf hs
  have hk : okB (enc t) := by unfold okB; rw [hr]; exact ⟨rfl, rfl⟩
  have := code_Load hT hS hl hp (by rw [hr]; have := asks_size.1 t; show (asks t).length ≤ 900; omega)
  rw [hr] at this
  refine this.mono ?_
  rintro e w' ⟨hb, ⟨-, h1, b, rfl, h2⟩ | ⟨-, i, q, b, h1, h2, h3, rfl, h4⟩ | ⟨h, -⟩⟩
  · exact ⟨hb, _, _, rfl, .inl ⟨h1, b, rfl, rfl, h2⟩⟩
  · exact ⟨hb, _, _, rfl, .inr ⟨i, q, b, h1, h2, h3, rfl, rfl, h4⟩⟩
  · exact absurd hk h
set_option maxRecDepth 1000000 in
set_option maxHeartbeats 4000000 in
theorem plain_Load (s : ByteArray) (h n : Int) {A : Nat → Addr} {w : World} (hT : TabsR w) (hA : Sents A w) :
    Calls Tryz.prog 14 #[.string s, .int .i64 h, .int .i64 n] w fun e w' => ∃ (t : Option Tree) (f p : Nat), PRel s (t, f, p) ∧ Below w.heap.size w w' ∧ LTold h n w' e t := by
  have hx : Below w.heap.size w (w.alloc (.cells #[.int .i64 0, .int .i64 0, .int .i64 0, .string { data := #[] }, .bool false, .bool false, .bool false, .slice none 0 0, .bool false] 38)) := (Below.refl _ _).alloc (Nat.le_refl _) _
  have hrb : (w.alloc (.cells #[.int .i64 0, .int .i64 0, .int .i64 0, .string { data := #[] }, .bool false, .bool false, .bool false, .slice none 0 0, .bool false] 38)).heap[w.heap.size]? = some (.cells #[.int .i64 0, .int .i64 0, .int .i64 0, .string { data := #[] }, .bool false, .bool false, .bool false, .slice none 0 0, .bool false] 38 (0, 0)) := heap_alloc_new _ _
  have hA0 := hA.below hx
  have hp := code_Parse s _ (hT.tabs.below hx) (A 0) hA0.g0
  have HX : Hid _ := And.intro hx (And.intro (hT.below hx) (And.intro hA0 hrb))
  clear hT hA hx hrb hA0
  go_enter Tryz.func14, Tryz.ntmps14
  go_wp2_with fail
  refine hp.mono ?_
  rintro e w1 ⟨hb1, hc⟩
  have HB1 : Hid (Below w.heap.size w w1) := HX.out.1.trans (hb1.mono HX.out.1.size)
  have HBX : Hid _ := hb1
  have RB1 : Hid (w1.heap[w.heap.size]? = _) := (hb1.block _ (heap_lt HX.out.2.2.2)).trans HX.out.2.2.2
  clear hp hb1
  rcases hc with ⟨h1, rfl⟩ | ⟨h1, ⟨J, b, h2, rfl, h3⟩ | ⟨t, J, a, h2, h3, rfl, h4⟩⟩
  · have HP : Hid (PRel s (none, 1, 0)) := .inl ⟨h1, rfl⟩
    clear h1
    have rc0 := cell_of_heap (i := 0) (v := .int .i64 0) RB1.out rfl
    have rc1 := cell_of_heap (i := 1) (v := .int .i64 0) RB1.out rfl
    have rc2 := cell_of_heap (i := 2) (v := .int .i64 0) RB1.out rfl
    have rc3 := cell_of_heap (i := 3) (v := .string { data := #[] }) RB1.out rfl
    have rc4 := cell_of_heap (i := 4) (v := .bool false) RB1.out rfl
    have rc5 := cell_of_heap (i := 5) (v := .bool false) RB1.out rfl
    have rc6 := cell_of_heap (i := 6) (v := .bool false) RB1.out rfl
    have rc7 := cell_of_heap (i := 7) (v := .slice none 0 0) RB1.out rfl
    have rc8 := cell_of_heap (i := 8) (v := .bool false) RB1.out rfl
    have rz0 := frozen_of_heap (i := 0) RB1.out
    have rz1 := frozen_of_heap (i := 1) RB1.out
    have rz2 := frozen_of_heap (i := 2) RB1.out
    have rz3 := frozen_of_heap (i := 3) RB1.out
    have rz4 := frozen_of_heap (i := 4) RB1.out
    have rz5 := frozen_of_heap (i := 5) RB1.out
    have rz6 := frozen_of_heap (i := 6) RB1.out
    have rz7 := frozen_of_heap (i := 7) RB1.out
    have rz8 := frozen_of_heap (i := 8) RB1.out
    go_wp2
    refine bodyPost_ret (v := loadedV 0 0 ⟨#[]⟩ false false false (.slice none 0 0) false) (by simp [loadedV, results, Tryz.results14, go_sem, rc0, rc1, rc2, rc3, rc4, rc5, rc6, rc7, rc8]) rfl ?_
    exact ⟨none, 1, 0, HP.out, (((((((((HB1.out.setCell (Nat.le_refl _) _).setCell (Nat.le_refl _) _).setCell (Nat.le_refl _) _).setCell (Nat.le_refl _) _).setCell (Nat.le_refl _) _).setCell (Nat.le_refl _) _).setCell (Nat.le_refl _) _).setCell (Nat.le_refl _) _).setCell (Nat.le_refl _) _), rfl⟩
  · have HP : Hid (PRel s (none, 2, pl (toks s) J)) := .inr ⟨h1, by
      rcases h2 with h2 | ⟨t, h2, h4⟩
      · exact .inl ⟨J, h2, rfl⟩
      · exact .inr (.inl ⟨t, J, h2, h4, rfl⟩)⟩
    clear h1 h2 h3
    have rc0 := cell_of_heap (i := 0) (v := .int .i64 0) RB1.out rfl
    have rc1 := cell_of_heap (i := 1) (v := .int .i64 0) RB1.out rfl
    have rc2 := cell_of_heap (i := 2) (v := .int .i64 0) RB1.out rfl
    have rc3 := cell_of_heap (i := 3) (v := .string { data := #[] }) RB1.out rfl
    have rc4 := cell_of_heap (i := 4) (v := .bool false) RB1.out rfl
    have rc5 := cell_of_heap (i := 5) (v := .bool false) RB1.out rfl
    have rc6 := cell_of_heap (i := 6) (v := .bool false) RB1.out rfl
    have rc7 := cell_of_heap (i := 7) (v := .slice none 0 0) RB1.out rfl
    have rc8 := cell_of_heap (i := 8) (v := .bool false) RB1.out rfl
    have rz0 := frozen_of_heap (i := 0) RB1.out
    have rz1 := frozen_of_heap (i := 1) RB1.out
    have rz2 := frozen_of_heap (i := 2) RB1.out
    have rz3 := frozen_of_heap (i := 3) RB1.out
    have rz4 := frozen_of_heap (i := 4) RB1.out
    have rz5 := frozen_of_heap (i := 5) RB1.out
    have rz6 := frozen_of_heap (i := 6) RB1.out
    have rz7 := frozen_of_heap (i := 7) RB1.out
    have rz8 := frozen_of_heap (i := 8) RB1.out
    go_wp2
    refine bodyPost_ret (v := loadedV 0 0 ⟨#[]⟩ false false false (.slice none 0 0) false) (by simp [loadedV, results, Tryz.results14, go_sem, rc0, rc1, rc2, rc3, rc4, rc5, rc6, rc7, rc8]) rfl ?_
    exact ⟨none, 2, _, HP.out, (((((((((HB1.out.setCell (Nat.le_refl _) _).setCell (Nat.le_refl _) _).setCell (Nat.le_refl _) _).setCell (Nat.le_refl _) _).setCell (Nat.le_refl _) _).setCell (Nat.le_refl _) _).setCell (Nat.le_refl _) _).setCell (Nat.le_refl _) _).setCell (Nat.le_refl _) _), rfl⟩
  · have HP : Hid (PRel s (some t, 0, 0)) := .inr ⟨h1, .inr (.inr ⟨t, J, h2, h3, rfl⟩)⟩
    obtain ⟨hmb, hfi⟩ := read_bounds h1 h2 h3
    obtain ⟨hf, hsz⟩ := read_fits h1 h2 h3
    obtain ⟨pb, a', rfl, hpr⟩ := h4
    have h4 : CPol (w.heap.size + 1) w1 t ⟨pb, 0, none⟩ := by
      have : CPol _ w1 t ⟨pb, 0, none⟩ := ⟨pb, a', rfl, hpr⟩
      simpa using this
    have hc1 := code_Code hf hsz h4
    have HF : Hid _ := And.intro hf (And.intro hsz (And.intro hmb (And.intro hfi h4)))
    have hne : (((enc t).length : Int) == 0) = false := by
      have := enc_ne t
      rw [beq_eq_false_iff_ne]
      intro e
      exact this (List.eq_nil_of_length_eq_zero (by omega))
    clear h1 h2 h3 hmb hfi hf hsz hpr h4
    go_wp2_with fail
    refine hc1.mono ?_
    rintro e w2 ⟨c, rfl, ho2, hb2⟩
    have hc2 := code_Code HF.out.1 HF.out.2.1 (HF.out.2.2.2.2.below hb2)
    have O2 : Hid _ := And.intro ho2 hb2
    clear hc1
    go_wp2_with fail
    refine hc2.mono ?_
    rintro e w3 ⟨d, rfl, ho3, hb3⟩
    have hv1 := conv_bytes (Out8.rest (owns_block2 ho2 fun g hg => hb3.block g (ho2.lt _ hg).2)).bytes
    have hv2 := conv_bytes ho3.rest.bytes
    have O3 : Hid _ := And.intro ho3 hb3
    obtain ⟨ca, cp, rfl⟩ := owns_len ho2
    obtain ⟨da, dp, rfl⟩ := owns_len ho3
    clear hc2 ho2 hb2 ho3 hb3
    have hpr := plain_probes h none (w3.alloc (.cells #[.int .i64 0, .int .i64 0, .int .i64 0, .string { data := #[] }, .bool false, .bool true, .bool false, .slice none 0 0, .bool false] 38))
    go_wp2_with fail
    refine hpr.mono ?_
    intro e w4 hpr2
    obtain ⟨pv, F, rfl, hP1, hP2, hP3⟩ := probes_is hpr2
    have l1 : w.heap.size + 1 ≤ w1.heap.size := by have := HBX.out.size; simpa using this
    have B24 : Hid (Below w2.heap.size w2 w4) := (O3.out.2.alloc O3.out.2.size _).trans (hpr2.1.mono (by have := O3.out.2.size; simp; omega))
    have l2 : w1.heap.size ≤ w2.heap.size := O2.out.2.size
    have l3 : w2.heap.size ≤ w3.heap.size := O3.out.2.size
    have l4 : w3.heap.size + 1 ≤ w4.heap.size := by have := hpr2.1.size; simpa using this
    have OB4 : Hid (w4.heap[w3.heap.size]? = some (.cells #[.int .i64 0, .int .i64 0, .int .i64 0, .string { data := #[] }, .bool false, .bool true, .bool false, .slice none 0 0, .bool false] 38 (0, 0))) := (hpr2.1.block _ (by simp)).trans (heap_alloc_new _ _)
    have B14 : Hid (Below w1.heap.size w1 w4) := O2.out.2.trans (B24.out.mono l2)
    have BX4 := HBX.out.trans (B14.out.mono (by simpa using l1))
    have hO4 : Out8 w1.heap.size w4 (.slice ca (enc t).length cp) (enc t) := O2.out.1.keep fun g _ lt => B24.out.block g lt
    have hld := load_enc (HX.out.2.1.below (BX4.mono (by simp))) (HX.out.2.2.1.below BX4) HF.out.1 HF.out.2.1 hO4.rest hP1
    have HP2 : Hid _ := hP2
    have hP4 : pv = .map none ∨ (pv = .map (some (w3.heap.size + 1)) ∧ MapF w4 (w3.heap.size + 1) F) := by simpa using hP3
    have HP3 : Hid _ := hP4
    have O4 : Hid (Out8 w1.heap.size w4 (.slice ca (enc t).length cp) (enc t)) := hO4
    clear hpr hpr2 hP1 hP2 hP3 hP4 BX4 hO4 hne hv1 hv2
    go_wp2_with fail
    refine hld.mono ?_
    rintro e w5 ⟨hb5, gv, ev, rfl, hgot⟩
    have GO : Hid _ := hgot
    have B45 : Hid _ := hb5
    have l5 := hb5.size
    have O5 : Hid (Out8 w1.heap.size w5 (.slice ca (enc t).length cp) (enc t)) := O4.out.keep fun g _ lt => hb5.block g lt
    have HM : Hid (pv = .map none ∨ (pv = .map (some (w3.heap.size + 1)) ∧ MapF w5 (w3.heap.size + 1) F)) := HP3.out.imp id fun q => ⟨q.1, q.2.block (hb5.block _ q.2.lt)⟩
    have HC : Hid (∀ k, (Value.slice ca (enc t).length cp).ownBlock = some k → w1.heap.size ≤ k ∧ k < w2.heap.size ∧ ∃ cur, w5.heap[k]? = some (.cells cur 5 (0, 0))) := fun k hk => ⟨(O2.out.1.span hk).1, (O2.out.1.span hk).2, (Out8.own O5.out hk).2⟩
    clear hld hgot hb5
    obtain ⟨w6, hcl, hg6⟩ := run_clear8 O5.out 0
    have G6 : Hid _ := hg6
    obtain ⟨left, o, hrg, hsp⟩ := Spo.begin (w := w6) (pv := pv) (HM.out.imp id fun q => ⟨_, F, q.1, q.2.block (hg6.block _ q.2.lt (fun e => by have := (HC.out _ e.symm).2.1; omega))⟩)
    have SP : Hid _ := hsp
    clear hg6 hsp
    go_wp2_with fail
    go_loopw [14] (fun _ wr => ∃ left, Hid (Spo pv wr w6.heap.size left ∧ SpoK pv w6.heap.size (w6.alloc o) wr)) (fun _ wr => leftS pv wr w6.heap.size)
    case atStart => exact ⟨left, SP.out, SpoK.refl _ _ _⟩
    case round =>
      obtain ⟨left, HI⟩ := hrel
      rcases HI.out.1.next with hn | ⟨s', v, wa, wb, hn, he, hu, hsp2, hk2, hlt⟩
      · have KS : SpoK pv w6.heap.size (w6.alloc o) wr := HI.out.2
        have B15 := B14.out.trans (B45.out.mono (by omega))
        have BR : Hid (Below w.heap.size w wr) := spoilt_below (HB1.out.trans (B15.mono (by omega))) (by omega) G6.out KS (fun k e => by have := (HC.out k e).1; omega) (fun k e => by
          rcases HM.out with q | q
          · rw [q] at e; cases e
          · rw [q.1] at e; injection e with e; injection e with e; omega)
        have BLK : Hid (∀ k, k < w5.heap.size → (∀ cur, w5.heap[k]? ≠ some (.cells cur 5 (0, 0))) → pv ≠ .map (some k) → wr.heap[k]? = w5.heap[k]?) := fun k lt h1 h2 => spoilt_block G6.out KS lt (fun e => by obtain ⟨-, -, cur, q⟩ := HC.out k e; exact h1 cur q) h2
        have PNE : Hid (∀ k, k < w3.heap.size + 1 → pv ≠ .map (some k)) := fun k lt e => by
          rcases HM.out with q | q
          · rw [q] at e; cases e
          · rw [q.1] at e; injection e with e; injection e with e; omega
        have OB5 := (B45.out.block _ (heap_lt OB4.out)).trans OB4.out
        have OBR : Hid (wr.heap[w3.heap.size]? = some (.cells #[.int .i64 0, .int .i64 0, .int .i64 0, .string { data := #[] }, .bool false, .bool true, .bool false, .slice none 0 0, .bool false] 38 (0, 0))) := (BLK.out _ (by omega) (fun cur e => by rw [OB5] at e; simp at e) (PNE.out _ (by omega))).trans OB5
        have RB5 := (B15.block _ (by omega)).trans RB1.out
        have RBR : Hid (wr.heap[w.heap.size]? = some (.cells #[.int .i64 0, .int .i64 0, .int .i64 0, .string { data := #[] }, .bool false, .bool false, .bool false, .slice none 0 0, .bool false] 38 (0, 0))) := (BLK.out _ (by omega) (fun cur e => by rw [RB5] at e; simp at e) (PNE.out _ (by omega))).trans RB5
        have UPR : Hid (Up w4.heap.size w5 wr) := ⟨by have a := G6.out.size; have b := KS.size; simp at b; omega, fun k a b => spoilt_block G6.out KS b (fun e => by have := (HC.out k e).2.1; omega) (fun e => by
          rcases HP3.out with q | q
          · rw [q] at e; cases e
          · have := q.2.lt
            rw [q.1] at e; injection e with e; injection e with e; omega)⟩
        have LE : Hid (w.heap.size < w3.heap.size ∧ w3.heap.size < w4.heap.size ∧ w4.heap.size ≤ w5.heap.size) := ⟨by omega, by omega, l5⟩
        clear B15 KS OB5 RB5 hcl hrg SP HI G6 l1 l2 l3 l4 l5
        rcases GO.out with ⟨hall, b, rfl, rfl, hpb⟩ | ⟨i, q, b, hq1, hq2, hq3, rfl, rfl, hq4⟩
        · have HPB : Hid _ := And.intro hall hpb
          have hof : Calls Tryz.prog 24 #[.nilIface] wr fun e w' => e = .returned (.agg #[.int .i64 0, .int .i64 0, .int .i64 0, .string ⟨#[]⟩]) ∧ Below wr.heap.size wr w' := of_nil4 wr
          clear hall hpb
          go_wp2_with fail
          refine hof.mono ?_
          rintro e w7 ⟨rfl, hb7⟩
          have OB7 : w7.heap[w3.heap.size]? = some (.cells #[.int .i64 0, .int .i64 0, .int .i64 0, .string { data := #[] }, .bool false, .bool true, .bool false, .slice none 0 0, .bool false] 38 (0, 0)) := (hb7.block _ (heap_lt OBR.out)).trans OBR.out
          have RB7 : Hid (w7.heap[w.heap.size]? = some (.cells #[.int .i64 0, .int .i64 0, .int .i64 0, .string { data := #[] }, .bool false, .bool false, .bool false, .slice none 0 0, .bool false] 38 (0, 0))) := (hb7.block _ (heap_lt RBR.out)).trans RBR.out
          have B7 : Hid (Below w.heap.size w w7) := BR.out.trans (hb7.mono BR.out.size)
          have U7 : Hid (Up w4.heap.size w5 w7) := UPR.out.below hb7
          have O7 : Hid _ := OB7
          have oc0 := cell_of_heap (i := 0) (v := .int .i64 0) O7.out rfl
          have oc1 := cell_of_heap (i := 1) (v := .int .i64 0) O7.out rfl
          have oc2 := cell_of_heap (i := 2) (v := .int .i64 0) O7.out rfl
          have oc3 := cell_of_heap (i := 3) (v := .string { data := #[] }) O7.out rfl
          have oc4 := cell_of_heap (i := 4) (v := .bool false) O7.out rfl
          have oc5 := cell_of_heap (i := 5) (v := .bool true) O7.out rfl
          have oc6 := cell_of_heap (i := 6) (v := .bool false) O7.out rfl
          have oc7 := cell_of_heap (i := 7) (v := .slice none 0 0) O7.out rfl
          have oc8 := cell_of_heap (i := 8) (v := .bool false) O7.out rfl
          have oz0 := frozen_of_heap (i := 0) O7.out
          have oz1 := frozen_of_heap (i := 1) O7.out
          have oz2 := frozen_of_heap (i := 2) O7.out
          have oz3 := frozen_of_heap (i := 3) O7.out
          have oz4 := frozen_of_heap (i := 4) O7.out
          have oz5 := frozen_of_heap (i := 5) O7.out
          have oz6 := frozen_of_heap (i := 6) O7.out
          have oz7 := frozen_of_heap (i := 7) O7.out
          have oz8 := frozen_of_heap (i := 8) O7.out
          clear OB7 hof hb7
          go_wp2_with fail
          refine (code_PNames (ProgB.up HPB.out.2 (lo := w4.heap.size) ?_)).mono ?_
          · exact ((((U7.out.setCell LE.out.2.1 _).setCell LE.out.2.1 _).setCell LE.out.2.1 _).setCell LE.out.2.1 _).setCell LE.out.2.1 _
          rintro e w8 ⟨ao, cq, rfl, hw8, hown⟩
          have B8 : Hid (Below w.heap.size w w8) := by rw [hw8]; exact ((((((B7.out.setCell (Nat.le_of_lt LE.out.1) _).setCell (Nat.le_of_lt LE.out.1) _).setCell (Nat.le_of_lt LE.out.1) _).setCell (Nat.le_of_lt LE.out.1) _).setCell (Nat.le_of_lt LE.out.1) _)).alloc (by simp; exact B7.out.size) _
          have OB8 : Hid (w8.heap[w3.heap.size]? = some (.cells #[.int .i64 0, .int .i64 0, .int .i64 0, .string { data := #[] }, .bool true, .bool true, .bool false, .slice none 0 0, .bool false] 38 (0, 0))) := by rw [hw8]; exact heap_alloc_old (heap_set_same (heap_set_same (heap_set_same (heap_set_same (heap_set_same O7.out)))))
          have hnr : w.heap.size ≠ w3.heap.size := Nat.ne_of_lt LE.out.1
          have RB8 : Hid (w8.heap[w.heap.size]? = some (.cells #[.int .i64 0, .int .i64 0, .int .i64 0, .string { data := #[] }, .bool false, .bool false, .bool false, .slice none 0 0, .bool false] 38 (0, 0))) := by rw [hw8]; exact heap_alloc_old (heap_set_other (heap_set_other (heap_set_other (heap_set_other (heap_set_other RB7.out hnr) hnr) hnr) hnr) hnr)
          have hX : w8.heap[w7.heap.size]? = some (.cells #[.slice ao (notes [] (mets t)).length cq] 30 (0, 0)) := by rw [hw8]; exact block_at (by simp)
          have hO : w8.ownsRow w4.heap.size 9 1 (.slice ao (notes [] (mets t)).length cq) (notes [] (mets t)).length ((notes [] (mets t)).map Value.string) := by rw [hw8]; exact hown.alloc _
          have htk := takenRun hO (by have := notes_bound HF.out.2.2.1; omega) hX n
          clear hw8 hown hX hO
          go_wp2_with fail
          refine htk.mono ?_
          rintro e w9 ⟨ta, rfl, hb9, ho9⟩
          obtain ⟨to, tc, rfl⟩ := owns_slice_len ho9
          have HO9 : Hid _ := ho9
          have B9 : Hid (Below w.heap.size w w9) := B8.out.trans (hb9.mono B8.out.size)
          have OB9 : Hid (w9.heap[w3.heap.size]? = _) := (hb9.block _ (heap_lt OB8.out)).trans OB8.out
          have RB9 : Hid (w9.heap[w.heap.size]? = _) := (hb9.block _ (heap_lt RB8.out)).trans RB8.out
          have NO : Hid ((Value.slice to (firstN n (notes [] (mets t))).length tc).ownBlock ≠ some w3.heap.size ∧ (Value.slice to (firstN n (notes [] (mets t))).length tc).ownBlock ≠ some w.heap.size) := ⟨fun e => by obtain ⟨c, q⟩ := owns_kind2 HO9.out e; rw [OB9.out] at q; simp at q, fun e => by obtain ⟨c, q⟩ := owns_kind2 HO9.out e; rw [RB9.out] at q; simp at q⟩
          clear oc0 oc1 oc2 oc3 oc4 oc5 oc6 oc7 oc8 oz0 oz1 oz2 oz3 oz4 oz5 oz6 oz7 oz8
          have hnr2 : w3.heap.size ≠ w.heap.size := fun e => hnr e.symm
          clear htk hb9 ho9
          have oc0 := cell_of_heap (i := 0) (v := .int .i64 0) OB9.out rfl
          have oc1 := cell_of_heap (i := 1) (v := .int .i64 0) OB9.out rfl
          have oc2 := cell_of_heap (i := 2) (v := .int .i64 0) OB9.out rfl
          have oc3 := cell_of_heap (i := 3) (v := .string { data := #[] }) OB9.out rfl
          have oc4 := cell_of_heap (i := 4) (v := .bool true) OB9.out rfl
          have oc5 := cell_of_heap (i := 5) (v := .bool true) OB9.out rfl
          have oc6 := cell_of_heap (i := 6) (v := .bool false) OB9.out rfl
          have oc7 := cell_of_heap (i := 7) (v := .slice none 0 0) OB9.out rfl
          have oc8 := cell_of_heap (i := 8) (v := .bool false) OB9.out rfl
          have oz0 := frozen_of_heap (i := 0) OB9.out
          have oz1 := frozen_of_heap (i := 1) OB9.out
          have oz2 := frozen_of_heap (i := 2) OB9.out
          have oz3 := frozen_of_heap (i := 3) OB9.out
          have oz4 := frozen_of_heap (i := 4) OB9.out
          have oz5 := frozen_of_heap (i := 5) OB9.out
          have oz6 := frozen_of_heap (i := 6) OB9.out
          have oz7 := frozen_of_heap (i := 7) OB9.out
          have oz8 := frozen_of_heap (i := 8) OB9.out
          have rc0 := cell_of_heap (i := 0) (v := .int .i64 0) RB9.out rfl
          have rc1 := cell_of_heap (i := 1) (v := .int .i64 0) RB9.out rfl
          have rc2 := cell_of_heap (i := 2) (v := .int .i64 0) RB9.out rfl
          have rc3 := cell_of_heap (i := 3) (v := .string { data := #[] }) RB9.out rfl
          have rc4 := cell_of_heap (i := 4) (v := .bool false) RB9.out rfl
          have rc5 := cell_of_heap (i := 5) (v := .bool false) RB9.out rfl
          have rc6 := cell_of_heap (i := 6) (v := .bool false) RB9.out rfl
          have rc7 := cell_of_heap (i := 7) (v := .slice none 0 0) RB9.out rfl
          have rc8 := cell_of_heap (i := 8) (v := .bool false) RB9.out rfl
          have rz0 := frozen_of_heap (i := 0) RB9.out
          have rz1 := frozen_of_heap (i := 1) RB9.out
          have rz2 := frozen_of_heap (i := 2) RB9.out
          have rz3 := frozen_of_heap (i := 3) RB9.out
          have rz4 := frozen_of_heap (i := 4) RB9.out
          have rz5 := frozen_of_heap (i := 5) RB9.out
          have rz6 := frozen_of_heap (i := 6) RB9.out
          have rz7 := frozen_of_heap (i := 7) RB9.out
          have rz8 := frozen_of_heap (i := 8) RB9.out
          go_wp2
          refine bodyPost_ret (v := loadedV 0 0 ⟨#[]⟩ true true false (.slice to (firstN n (notes [] (mets t))).length tc) true) (by simp [loadedV, results, Tryz.results14, go_sem, rc0, rc1, rc2, rc3, rc4, rc5, rc6, rc7, rc8]) rfl ?_
          refine ⟨some t, 0, 0, HP.out, ?_, HF.out.1, HF.out.2.2.1, HF.out.2.2.2.1, ?_⟩
          · exact (((((((((((B9.out.setCell (Nat.le_of_lt LE.out.1) _).setCell (Nat.le_of_lt LE.out.1) _).setCell (Nat.le_refl _) _).setCell (Nat.le_refl _) _).setCell (Nat.le_refl _) _).setCell (Nat.le_refl _) _).setCell (Nat.le_refl _) _).setCell (Nat.le_refl _) _).setCell (Nat.le_refl _) _).setCell (Nat.le_refl _) _).setCell (Nat.le_refl _) _)
          · rw [find_of HP2.out HPB.out.1]
            exact ⟨_, rfl, .of_owns (ownsRow_setCell_other (ownsRow_setCell_other (ownsRow_setCell_other (ownsRow_setCell_other (ownsRow_setCell_other (ownsRow_setCell_other (ownsRow_setCell_other (ownsRow_setCell_other (ownsRow_setCell_other (ownsRow_setCell_other (ownsRow_setCell_other HO9.out NO.out.1 _) NO.out.1 _) NO.out.2 _) NO.out.2 _) NO.out.2 _) NO.out.2 _) NO.out.2 _) NO.out.2 _) NO.out.2 _) NO.out.2 _) NO.out.2 _)⟩
        · have hw : wr.heap[b]? = some (.cells #[.int .i64 (q.1 : Int), .string q.2] 117 (0, 0)) := (BLK.out b (heap_lt hq4) (fun cur e => by rw [hq4] at e; simp at e) (fun e => by
            rcases HM.out with q5 | ⟨q5, q7⟩
            · rw [q5] at e; cases e
            · obtain ⟨es, clock, q6, -⟩ := q7
              rw [q5] at e; injection e with e; injection e with e
              rw [e, hq4] at q6; cases q6)).trans hq4
          have hof : Calls Tryz.prog 24 #[.iface 115 (ptr b)] wr fun e w' => e = .returned (.agg #[.int .i64 3, .int .i64 (q.1 : Int), .int .i64 0, .string q.2]) ∧ Below wr.heap.size wr w' := of_name wr hw
          have HQ : Hid (missL (pnames h 4) (asks t) = some q) := find_at HP2.out hq1 hq2 hq3
          clear hq1 hq2 hq3 hq4 hw
          go_wp2_with fail
          refine hof.mono ?_
          rintro e w7 ⟨rfl, hb7⟩
          have OB7 : Hid (w7.heap[w3.heap.size]? = some (.cells #[.int .i64 0, .int .i64 0, .int .i64 0, .string { data := #[] }, .bool false, .bool true, .bool false, .slice none 0 0, .bool false] 38 (0, 0))) := (hb7.block _ (heap_lt OBR.out)).trans OBR.out
          have RB7 : Hid (w7.heap[w.heap.size]? = some (.cells #[.int .i64 0, .int .i64 0, .int .i64 0, .string { data := #[] }, .bool false, .bool false, .bool false, .slice none 0 0, .bool false] 38 (0, 0))) := (hb7.block _ (heap_lt RBR.out)).trans RBR.out
          have B7 : Hid (Below w.heap.size w w7) := BR.out.trans (hb7.mono BR.out.size)
          have hnr : w.heap.size ≠ w3.heap.size := Nat.ne_of_lt LE.out.1
          have hnr2 : w3.heap.size ≠ w.heap.size := fun e => hnr e.symm
          clear hof hb7
          have oc0 := cell_of_heap (i := 0) (v := .int .i64 0) OB7.out rfl
          have oc1 := cell_of_heap (i := 1) (v := .int .i64 0) OB7.out rfl
          have oc2 := cell_of_heap (i := 2) (v := .int .i64 0) OB7.out rfl
          have oc3 := cell_of_heap (i := 3) (v := .string { data := #[] }) OB7.out rfl
          have oc4 := cell_of_heap (i := 4) (v := .bool false) OB7.out rfl
          have oc5 := cell_of_heap (i := 5) (v := .bool true) OB7.out rfl
          have oc6 := cell_of_heap (i := 6) (v := .bool false) OB7.out rfl
          have oc7 := cell_of_heap (i := 7) (v := .slice none 0 0) OB7.out rfl
          have oc8 := cell_of_heap (i := 8) (v := .bool false) OB7.out rfl
          have oz0 := frozen_of_heap (i := 0) OB7.out
          have oz1 := frozen_of_heap (i := 1) OB7.out
          have oz2 := frozen_of_heap (i := 2) OB7.out
          have oz3 := frozen_of_heap (i := 3) OB7.out
          have oz4 := frozen_of_heap (i := 4) OB7.out
          have oz5 := frozen_of_heap (i := 5) OB7.out
          have oz6 := frozen_of_heap (i := 6) OB7.out
          have oz7 := frozen_of_heap (i := 7) OB7.out
          have oz8 := frozen_of_heap (i := 8) OB7.out
          have rc0 := cell_of_heap (i := 0) (v := .int .i64 0) RB7.out rfl
          have rc1 := cell_of_heap (i := 1) (v := .int .i64 0) RB7.out rfl
          have rc2 := cell_of_heap (i := 2) (v := .int .i64 0) RB7.out rfl
          have rc3 := cell_of_heap (i := 3) (v := .string { data := #[] }) RB7.out rfl
          have rc4 := cell_of_heap (i := 4) (v := .bool false) RB7.out rfl
          have rc5 := cell_of_heap (i := 5) (v := .bool false) RB7.out rfl
          have rc6 := cell_of_heap (i := 6) (v := .bool false) RB7.out rfl
          have rc7 := cell_of_heap (i := 7) (v := .slice none 0 0) RB7.out rfl
          have rc8 := cell_of_heap (i := 8) (v := .bool false) RB7.out rfl
          have rz0 := frozen_of_heap (i := 0) RB7.out
          have rz1 := frozen_of_heap (i := 1) RB7.out
          have rz2 := frozen_of_heap (i := 2) RB7.out
          have rz3 := frozen_of_heap (i := 3) RB7.out
          have rz4 := frozen_of_heap (i := 4) RB7.out
          have rz5 := frozen_of_heap (i := 5) RB7.out
          have rz6 := frozen_of_heap (i := 6) RB7.out
          have rz7 := frozen_of_heap (i := 7) RB7.out
          have rz8 := frozen_of_heap (i := 8) RB7.out
          go_wp2
          refine bodyPost_ret (v := loadedV 3 q.1 q.2 false true false (.slice none 0 0) false) (by simp [loadedV, results, Tryz.results14, go_sem, rc0, rc1, rc2, rc3, rc4, rc5, rc6, rc7, rc8]) rfl ?_
          refine ⟨some t, 0, 0, HP.out, ?_, HF.out.1, HF.out.2.2.1, HF.out.2.2.2.1, ?_⟩
          · exact ((((((((((((((B7.out.setCell (Nat.le_of_lt LE.out.1) _).setCell (Nat.le_of_lt LE.out.1) _).setCell (Nat.le_of_lt LE.out.1) _).setCell (Nat.le_of_lt LE.out.1) _).setCell (Nat.le_of_lt LE.out.1) _).setCell (Nat.le_refl _) _).setCell (Nat.le_refl _) _).setCell (Nat.le_refl _) _).setCell (Nat.le_refl _) _).setCell (Nat.le_refl _) _).setCell (Nat.le_refl _) _).setCell (Nat.le_refl _) _).setCell (Nat.le_refl _) _).setCell (Nat.le_refl _) _)
          · rw [HQ.out]
      · have Q2 : Hid _ := And.intro hsp2 (And.intro hk2 hlt)
        clear hsp2 hk2 hlt
        go_wp2_with fail
        go_roundw
        case rel => exact ⟨_, Q2.out.1, HI.out.2.trans Q2.out.2.1⟩
        case measure => exact Q2.out.2.2
end Go.Proofs.YtihmgoahobbdkaaGreatDoor
