/-
  plain.taken's own function, and scaler.each's with it, WALKED.
-/
import Derived.Test.YtaghcjpoihkpjaaGreatDoorJM18
import Derived.Test.YtaghcjpoihkpjaaGreatDoorProg
import Derived.BigQuiet
import Derived.BigRegion
import Derived.Deep.QuietTactic
import Derived.Test.YtaghcjpoihkpjaaGreatDoorJM6
import Derived.Test.YtaghcjpoihkpjaaGreatDoorJM3
import Derived.Test.YtaghcjpoihkpjaaGreatDoorJM11
import Derived.Test.YtaghcjpoihkpjaaGreatDoorJM14
import Derived.Test.YtaghcjpoihkpjaaGreatDoorJM5
namespace Go.Proofs.YtaghcjpoihkpjaaGreatDoor
open Go.RowKit Go.Lib

theorem infoS : (Tryz.prog.info? 9).map (fun i => (i.zero, i.size, i.bytes)) = some (some (.string { data := #[] }), 1, 16) := by kernel_rfl
theorem cell_one_at (w : World) (a : Value) (t : TypeId) : ∀ (j : Nat) (u : Value), [a][j]? = some u → (w.alloc (.cells #[a] t)).cell? ((⟨w.heap.size, 0, none⟩ : Addr).add j) = some u := by
  intro j u hu
  cases j with
  | zero => injection hu with hu; subst hu; exact cell_of_heap (block_new w #[a] t) rfl
  | succ j => simp at hu
/-- What the caller's function has taken, in its variables. -/
structure Tk (w : World) (ob sb tb nb : Nat) (n : Int) (st : Bool) (l : List ByteArray) (tv : Value) : Prop where
  ho : w.heap[ob]? = some (.cells #[.bool false] 4 (0, 0))
  hs : w.heap[sb]? = some (.cells #[.bool st] 4 (0, 0))
  ht : w.heap[tb]? = some (.cells #[tv] 91 (0, 0))
  hn : w.heap[nb]? = some (.cells #[.int .i64 n] 3 (0, 0))
  os : ob ≠ sb
  own : w.ownsRow 0 9 1 tv l.length (l.map Value.string)
/-- The blocks that taking may turn. -/
abbrev TkP (ob sb tb : Nat) (tv : Value) : Nat → Prop := fun b => b = ob ∨ b = sb ∨ b = tb ∨ tv.ownBlock = some b

/-- One more is in the list. -/
theorem Tk.pushed {w w5 : World} {ob sb tb nb : Nat} {n : Int} {l : List ByteArray} {tv v' : Value} {x : ByteArray} {o : Obj} (h : Tk w ob sb tb nb n false l tv) (hown : w5.ownsRow 0 9 1 v' (l.length + 1) (l.map Value.string ++ [.string x])) (hg : (w.alloc o).grownBy w5 tv.ownBlock)
    (hw : v'.ownBlock = tv.ownBlock ∨ v'.ownBlock = some (w.alloc o).heap.size) :
    Tk (w5.setCell ⟨tb, 0, none⟩ v') ob sb tb nb n false (l ++ [x]) v' ∧ Only (TkP ob sb tb tv) w (w5.setCell ⟨tb, 0, none⟩ v') ∧ (v'.ownBlock = tv.ownBlock ∨ ∃ g, v'.ownBlock = some g ∧ w.heap.size ≤ g) ∧ w5.heap[tb]? = some (.cells #[tv] 91 (0, 0)) := by
  have o1 : Only (fun b => tv.ownBlock = some b) w w5 := ((Only.refl _ w).alloc o).grown hg (fun b _ e => e)
  have kb : ∀ {a : Nat} {cs : Array Value} {T : Nat}, w.heap[a]? = some (.cells cs T (0, 0)) → T ≠ 9 → w5.heap[a]? = some (.cells cs T (0, 0)) := fun hh hT => o1.heap hh (fun q => row_ne hh h.own (fun e => hT e.symm) q)
  have r1 := kb h.ho (by decide)
  have s1 := kb h.hs (by decide)
  have t1 := kb h.ht (by decide)
  have n1 := kb h.hn (by decide)
  have o2 : Only (fun b => b = tb) w5 (w5.setCell ⟨tb, 0, none⟩ v') := (Only.refl (fun b => b = tb) w5).setCell (a := ⟨tb, 0, none⟩) (fun _ => rfl) _
  refine ⟨⟨o2.heap r1 (kind_ne r1 t1 (by decide)), o2.heap s1 (kind_ne s1 t1 (by decide)), heap_set_same (i := 0) (v := v') t1, o2.heap n1 (kind_ne n1 t1 (by decide)), h.os, ?_⟩, ?_, ?_, t1⟩
  · have := o2.owns hown (fun g hg e => by subst e; exact row_ne t1 hown (by decide) hg)
    simpa using this
  · exact (o1.mono (fun b _ q => .inr (.inr (.inr q)))).trans o2 (fun b _ q => .inr (.inr (.inl q)))
  · rcases hw with q | q
    · exact .inl q
    · exact .inr ⟨_, q, by simp⟩

theorem take1_end {w w1 w5 : World} {ob sb tb nb : Nat} {n : Int} {l : List ByteArray} {tv v' : Value} {x : ByteArray} {T : Prop} (hO : Only (fun b => b = ob) w w1) (hq : Tk (w5.setCell ⟨tb, 0, none⟩ v') ob sb tb nb n false (l ++ [x]) v' ∧ Only (TkP ob sb tb tv) w1 (w5.setCell ⟨tb, 0, none⟩ v') ∧ (v'.ownBlock = tv.ownBlock ∨ ∃ g, v'.ownBlock = some g ∧ w1.heap.size ≤ g) ∧ T) (b : Bool) :
    Ending.returned (.bool !b) = Ending.returned (.bool !b) ∧ ∃ tv', Tk ((w5.setCell ⟨tb, 0, none⟩ v').setCell ⟨sb, 0, none⟩ (.bool b)) ob sb tb nb n b (l ++ [x]) tv' ∧ Only (TkP ob sb tb tv) w ((w5.setCell ⟨tb, 0, none⟩ v').setCell ⟨sb, 0, none⟩ (.bool b)) ∧ (tv'.ownBlock = tv.ownBlock ∨ ∃ g, tv'.ownBlock = some g ∧ w.heap.size ≤ g) := by
  obtain ⟨hc, ho, ha, -⟩ := hq
  have o3 := (Only.refl (fun y => y = sb) (w5.setCell ⟨tb, 0, none⟩ v')).setCell (a := ⟨sb, 0, none⟩) (fun _ => rfl) (.bool b)
  refine ⟨rfl, v', ⟨o3.heap hc.ho hc.os, heap_set_same (i := 0) (v := .bool b) hc.hs, o3.heap hc.ht (kind_ne hc.ht hc.hs (by decide)), o3.heap hc.hn (kind_ne hc.hn hc.hs (by decide)), hc.os, o3.owns hc.own (fun g hg e => by subst e; exact row_ne hc.hs hc.own (by decide) hg)⟩, ?_, ?_⟩
  · exact ((hO.mono (fun _ _ q => .inl q)).trans ho (fun _ _ q => q)).trans o3 (fun _ _ q => .inr (.inl q))
  · rcases ha with q | ⟨g, q, hg⟩
    · exact .inl q
    · exact .inr ⟨g, q, Nat.le_trans hO.size hg⟩

end Go.Proofs.YtaghcjpoihkpjaaGreatDoor
namespace Go.Proofs.YtaghcjpoihkpjaaGreatDoor
open Go.RowKit Go.Lib

/-- The first n of a list; below 1: all. -/
def firstN (n : Int) (ms : List ByteArray) : List ByteArray := if 1 ≤ n then ms.take n.toNat else ms
theorem row_at {w : World} {base e n cp : Nat} {ao : Option Addr} {xs : List Value} {j : Nat} {v : Value} (h : w.ownsRow base e 1 (.slice ao n cp) n xs) (hj : xs[j]? = some v) : ∃ g, ao = some ⟨g, 0, none⟩ ∧ w.cell? ⟨g, j, none⟩ = some v := by
  have hl := h.1
  rcases h.2 with ⟨he, h0⟩ | ⟨g, cap, cur, he, -, hg, -, -, -, ht⟩
  · subst h0
    have : xs = [] := List.length_eq_zero_iff.1 (by omega)
    subst this
    simp at hj
  · injection he with he _ _
    refine ⟨g, he, cell_of_heap hg ?_⟩
    rw [← ht, List.getElem?_take] at hj
    split at hj
    · simpa using hj
    · cases hj
abbrev Box3 (ob sb tb : Nat) : Nat → Prop := fun b => b = ob ∨ b = sb ∨ b = tb
theorem Tk.only {w w' : World} {ob sb tb nb : Nat} {n : Int} {st : Bool} {l : List ByteArray} {tv : Value} {P : Nat → Prop} (h : Tk w ob sb tb nb n st l tv) (ho : Only P w w') (h1 : ¬ P ob) (h2 : ¬ P sb) (h3 : ¬ P tb) (h5 : ¬ P nb) (h6 : ∀ g, tv.ownBlock = some g → ¬ P g) : Tk w' ob sb tb nb n st l tv :=
  ⟨ho.heap h.ho h1, ho.heap h.hs h2, ho.heap h.ht h3, ho.heap h.hn h5, h.os, ho.owns h.own h6⟩
/-- Where the iterator stands: j names have been handed over. -/
structure Gone (w wr : World) (ob sb tb nb : Nat) (n : Int) (ms : List ByteArray) (j : Nat) (tv : Value) : Prop where
  col : Tk wr ob sb tb nb n false (ms.take j) tv
  only : Only (Box3 ob sb tb) w wr
  tnew : ∀ g, tv.ownBlock = some g → w.heap.size ≤ g
theorem new_of {w wr : World} (hs : w.heap.size ≤ wr.heap.size) {tv tv' : Value} (h : ∀ g, tv.ownBlock = some g → w.heap.size ≤ g) (hh : tv'.ownBlock = tv.ownBlock ∨ ∃ g, tv'.ownBlock = some g ∧ wr.heap.size ≤ g) : ∀ g, tv'.ownBlock = some g → w.heap.size ≤ g := by
  intro g hg
  rcases hh with q | ⟨g', q, hq⟩
  · exact h g (q ▸ hg)
  · rw [hg] at q; injection q with q; omega

end Go.Proofs.YtaghcjpoihkpjaaGreatDoor
namespace Go.Proofs.YtaghcjpoihkpjaaGreatDoor
open Go.RowKit Go.Lib

theorem equalIn_func_nil {P : Program} (w : World) (d : Nat) (t : TypeId) {ps rs : Array TypeId} {v : Bool} (f : Fn) (a b : Array Value) (h : P.underlying t = some (.func ps rs v)) : (Op.equalIn (d + 1) t (.func f a b) .nilFunc).run P w = .ok false w := by
  simp [Op.equalIn, run_underlying h]
theorem eql_func_nil {P : Program} (w : World) (t : TypeId) {ps rs : Array TypeId} {v : Bool} (f : Fn) (a b : Array Value) (h : P.underlying t = some (.func ps rs v)) : (binOp .eql t (.func f a b) .nilFunc).run P w = .ok (.bool false) w := by
  simp only [binOp]
  simp [Op.equal, Op.maxDepth, equalIn_func_nil w 9999 t f a b h]
theorem four_blocks (w : World) (a b c d : Array Value) (A B C D : TypeId) (W : World) (hW : W = (((w.alloc (.cells a A)).alloc (.cells b B)).alloc (.cells c C)).alloc (.cells d D)) :
    W.heap[w.heap.size]? = some (.cells a A (0, 0)) ∧ W.heap[w.heap.size + 1]? = some (.cells b B (0, 0)) ∧ W.heap[w.heap.size + 1 + 1]? = some (.cells c C (0, 0)) ∧ W.heap[w.heap.size + 1 + 1 + 1]? = some (.cells d D (0, 0)) ∧ Below w.heap.size w W := by
  subst hW
  have h1 := block_new w a A
  have h2 := block_new (w.alloc (.cells a A)) b B
  have h3 := block_new ((w.alloc (.cells a A)).alloc (.cells b B)) c C
  have h4 := block_new (((w.alloc (.cells a A)).alloc (.cells b B)).alloc (.cells c C)) d D
  simp only [World.size_alloc] at h2 h3 h4
  refine ⟨heap_alloc_old (heap_alloc_old (heap_alloc_old h1)), heap_alloc_old (heap_alloc_old h2), heap_alloc_old h3, h4, ?_⟩
  exact (((((Below.refl _ w).alloc (Nat.le_refl _) _).alloc (by simp) _).alloc (by simp; omega) _).alloc (by simp; omega) _)
theorem owns_below {w w' : World} {base e size n : Nat} {v : Value} {xs : List Value} (h : w.ownsRow base e size v n xs) (hb : Below w.heap.size w w') : w'.ownsRow base e size v n xs :=
  (Only.of_below (P := fun _ => False) hb).owns h (fun _ _ => id)
end Go.Proofs.YtaghcjpoihkpjaaGreatDoor
namespace Go.Proofs.YtaghcjpoihkpjaaGreatDoor
open Go.RowKit Go.Lib

/-- A list of texts that can be read. -/
def Txts (w : World) (v : Value) (l : List ByteArray) : Prop :=
  ∃ (ao : Option Addr) (cp : Nat), v = .slice ao l.length cp ∧ l.length ≤ cp ∧ ∀ (j : Nat) x, l[j]? = some x → ∃ g, ao = some ⟨g, 0, none⟩ ∧ w.cell? ⟨g, j, none⟩ = some (.string x)
theorem Txts.of_owns {w : World} {base : Nat} {v : Value} {l : List ByteArray} (h : w.ownsRow base 9 1 v l.length (l.map Value.string)) : Txts w v l := by
  obtain ⟨ao, cp, rfl⟩ := owns_slice_len h
  refine ⟨ao, cp, rfl, ?_, fun j x hx => row_at h (by rw [List.getElem?_map, hx]; rfl)⟩
  rcases h.2 with ⟨he, h0⟩ | ⟨g, cap, cur, he, -, hg, hc, -⟩
  · omega
  · injection he with _ _ he; omega
theorem Txts.below {w w' : World} {v : Value} {l : List ByteArray} (h : Txts w v l) (hb : Below w.heap.size w w') : Txts w' v l := by
  obtain ⟨ao, cp, h1, h2, h3⟩ := h
  refine ⟨ao, cp, h1, h2, fun j x hx => ?_⟩
  obtain ⟨g, h4, h5⟩ := h3 j x hx
  exact ⟨g, h4, (World.cell?_of_block (hb.block g (World.block_lt_of_cell? w _ h5))).trans h5⟩

end Go.Proofs.YtaghcjpoihkpjaaGreatDoor
namespace Go.Proofs.YtaghcjpoihkpjaaGreatDoor
open Go.RowKit Go.Lib

set_option maxRecDepth 1000000 in
theorem code_empty {w : World} {pb : Nat} {a : Addr} (h : w.heap[pb]? = some (.cells #[.pointer (some a)] 83 (0, 0))) :
    Calls Tryz.prog 31 #[.pointer (some ⟨pb, 0, none⟩)] w fun e w' => e = .returned (.bool false) ∧ w' = w := by
  have c0 := cell_of_heap (i := 0) h rfl
  clear h
  go_enter Tryz.func31, Tryz.ntmps31
  go_wp2
  go_ret
  exact ⟨rfl, rfl⟩

end Go.Proofs.YtaghcjpoihkpjaaGreatDoor
namespace Go.Proofs.YtaghcjpoihkpjaaGreatDoor
open Go.RowKit Go.Lib

theorem Tryz.infoStrR : (Tryz.prog.info? 9).map (fun i => (i.zero, i.size, i.bytes)) = some (some (.string { data := #[] }), 1, 16) := by kernel_rfl
theorem bytes_inj {a b : ByteArray} (h : a.toList = b.toList) : a = b := by
  rw [Lib.toList_data, Lib.toList_data] at h
  exact ByteArray.ext (Array.toList_inj.1 h)
theorem take_note {ms : List ByteArray} {x : ByteArray} (h : x ∈ ms) : note1 ms x = ms := by
  unfold note1
  rw [if_pos ((containsS_iff _ _).2 h)]
theorem take_new {ms : List ByteArray} {x : ByteArray} (h : x ∉ ms) : note1 ms x = ms ++ [x] := by
  unfold note1
  rw [if_neg (fun e => h ((containsS_iff _ _).1 e))]

end Go.Proofs.YtaghcjpoihkpjaaGreatDoor
namespace Go.Proofs.YtaghcjpoihkpjaaGreatDoor
open Go.RowKit Go.Lib

theorem metsAll_take {ts : List Tree} {k : Nat} {t : Tree} (h : ts[k]? = some t) : metsAll (ts.take (k + 1)) = metsAll (ts.take k) ++ mets t := by
  rw [List.take_add_one, h, metsAll_append]
  simp [metsAll]
theorem metsAll_part {ts : List Tree} {k : Nat} : (metsAll (ts.take k)).length ≤ (metsAll ts).length := by
  have : metsAll ts = metsAll (ts.take k) ++ metsAll (ts.drop k) := by rw [← metsAll_append, List.take_append_drop]
  rw [this]
  simp

mutual
/-- Trees as they are read: a sign is no measure's mark, and a probe has no more arguments than a text can hold. -/
def Fine : Tree → Prop
  | .num _ _ => True
  | .neg _ a => Fine a
  | .bin k _ a b => k ≠ 109 ∧ Fine a ∧ Fine b
  | .ite _ a b c => Fine a ∧ Fine b ∧ Fine c
  | .meas _ _ _ _ => True
  | .probe _ _ ts => ts.length ≤ 1000 ∧ FineAll ts
def FineAll : List Tree → Prop
  | [] => True
  | t :: ts => Fine t ∧ FineAll ts
end
end Go.Proofs.YtaghcjpoihkpjaaGreatDoor
namespace Go.Proofs.YtaghcjpoihkpjaaGreatDoor

theorem fineAll_append : ∀ a b, FineAll (a ++ b) ↔ FineAll a ∧ FineAll b
  | [], b => by simp [FineAll]
  | t :: a, b => by simp [FineAll, fineAll_append a b, and_assoc]
def Out.trees : Out → List Tree
  | .ok ts _ => ts
  | .bad _ => []
theorem D.fine {s : ByteArray} {L : List Tok} {v : Lvl} {I : Nat} {o : Out} (h : D s L v I o) : I ≤ o.at ∧ (o.at ≤ 1000 → FineAll v.got → FineAll o.trees ∧ (o.isOk = true → o.trees.length + I ≤ v.got.length + o.at)) := by
  induction h <;> simp only [Out.at, Out.isOk, Out.trees, Lvl.got, FineAll, fineAll_append, Fine, List.length_append, List.length_nil, List.length_cons] at * <;> grind
end Go.Proofs.YtaghcjpoihkpjaaGreatDoor
namespace Go.Proofs.YtaghcjpoihkpjaaGreatDoor
open Go.RowKit Go.Lib

/-- Bounds of a tree that was read. -/
theorem read_bounds {s : ByteArray} (hs : s.size ≤ 200) {t : Tree} {J : Nat} (hD : D s (toks s) .choice 0 (.ok [t] J)) (hk : kd (toks s) J = 101) : (mets t).length ≤ 300 ∧ Fine t := by
  have h1 := kd_lt hk (by decide)
  have h2 := toks_length s
  have h3 := hD.mets_le.2 rfl
  have h4 := (hD.fine.2 (by simp only [Out.at]; omega) (by simp only [Lvl.got, FineAll])).1
  simp only [Out.mets, Out.at, Lvl.got, metsAll, List.append_nil, List.length_nil] at h3
  simp only [Out.trees, FineAll] at h4
  exact ⟨by omega, h4.1⟩
theorem notes_bound {t : Tree} (h : (mets t).length ≤ 300) : (notes [] (mets t)).length ≤ 300 := by
  have := (notes_length (mets t) []).2
  simp at this
  omega
/-- What plain.Metrics tells of a text. -/
def MTold (n : Int) (w : World) (e : Ending) (t : Option Tree) : Prop :=
  match t with
  | none => e = .returned (.tuple #[.slice none 0 0, .slice none 0 0, .bool false])
  | some t => (mets t).length ≤ 300 ∧ Fine t ∧ ∃ va vb, e = .returned (.tuple #[va, vb, .bool true]) ∧ Txts w va (firstN n (notes [] (mets t))) ∧ Txts w vb (notes [] (mets t))

end Go.Proofs.YtaghcjpoihkpjaaGreatDoor
namespace Go.Proofs.YtaghcjpoihkpjaaGreatDoor
open Go.Lib

theorem fits_append : ∀ a b, FitAll (a ++ b) ↔ FitAll a ∧ FitAll b
  | [], b => by simp [FitAll]
  | t :: a, b => by simp [FitAll, fits_append a b, and_assoc]
theorem sizes_append : ∀ a b, sizes (a ++ b) = sizes a + sizes b
  | [], b => by simp [sizes]
  | t :: a, b => by simp [sizes, sizes_append a b]; omega
theorem sizes_length : ∀ ts : List Tree, ts.length ≤ sizes ts
  | [] => by simp [sizes]
  | t :: ts => by have := sizes_length ts; have := size_pos t; simp [sizes]; omega
set_option maxHeartbeats 4000000 in
theorem D.fits {s : ByteArray} {L : List Tok} (hn : ∀ I, kd L I = 97 → isName (tx s L I) = true ∧ (tx s L I).size < 256) (hd : ∀ I, kd L I = 110 → 0 ≤ numOf (tx s L I).data.toList ∧ numOf (tx s L I).data.toList < 1000000000) (hp : ∀ I, kd L I ≠ 101 → pl L I < 200)
    {v : Lvl} {I : Nat} {o : Out} (h : D s L v I o) : I ≤ o.at ∧ (o.at ≤ 250 → FitAll v.got → FitAll o.trees ∧ (o.isOk = true → sizes o.trees + I ≤ sizes v.got + o.at)) := by
  have hl := sizes_length
  induction h <;> simp only [Out.at, Out.isOk, Out.trees, Lvl.got, FitAll, fits_append, sizes, sizes_append, Fit, size, isReck] at * <;> grind

theorem word_sub (s : ByteArray) (i : Nat) : ∀ f k n g, i ≤ k → k ≤ s.size → s.size - k ≤ f → f ≤ g → wordFrom (s.extract i (wordFrom s f k n).1) g (k - i) n = ((wordFrom s f k n).1 - i, (wordFrom s f k n).2)
  | 0, k, n, g, h1, h2, h3, h4 => by
    have hsz : (s.extract i k).size = k - i := by simp; omega
    simp only [wordFrom]
    cases g with
    | zero => simp [wordFrom]
    | succ g =>
      unfold wordFrom
      rw [if_neg (by rw [hsz]; omega)]
  | f + 1, k, n, 0, h1, h2, h3, h4 => by omega
  | f + 1, k, n, g + 1, h1, h2, h3, h4 => by
    rw [show wordFrom s (f + 1) k n = if k < s.size ∧ namePart (n == 0) (Utf8.decode s k).1 = true then wordFrom s f (k + (Utf8.decode s k).2) (n + 1) else (k, n) from by rw [wordFrom]]
    split
    · rename_i hh
      have w1 := width_pos s k
      have w2 := decode_le hh.1
      have hl := wordFrom_le s f (k + (Utf8.decode s k).2) (n + 1) w2
      have ih := word_sub s i f (k + (Utf8.decode s k).2) (n + 1) g (by omega) w2 (by omega) (by omega)
      generalize hE : (wordFrom s f (k + (Utf8.decode s k).2) (n + 1)).1 = e at *
      have hsz : (s.extract i e).size = e - i := by simp; omega
      have hx : s.extract i e = (s.extract i s.size).extract 0 (e - i) := (extract_sub s i e hl.2.1 (by omega)).symm
      have hd : Utf8.decode (s.extract i e) (k - i) = Utf8.decode s k := by
        have e1 : Utf8.decode (s.extract i s.size) (k - i) = Utf8.decode s k := by rw [tail_decode]; congr 1; omega
        rw [hx, decode_head (s.extract i s.size) (e - i) (k - i) (by rw [tail_size]; omega) (by omega) (by rw [e1]; omega), e1]
      conv => lhs; rw [wordFrom]
      rw [hd, hsz, if_pos ⟨by omega, hh.2⟩, show k - i + (Utf8.decode s k).2 = k + (Utf8.decode s k).2 - i by omega]
      exact ih
    · have hsz : (s.extract i k).size = k - i := by simp; omega
      unfold wordFrom
      rw [if_neg (by rw [hsz]; omega)]
theorem byteAt_sub {s : ByteArray} {i e : Nat} (h : i < e) (_he : e ≤ s.size) : byteAt (s.extract i e) 0 = byteAt s i := by
  unfold byteAt
  simp [ByteArray.data_extract]
  rw [List.getElem?_take_of_lt (by omega)]
  simp
theorem tok_name {s : ByteArray} {i : Nat} (hi : i ≤ s.size) (h : (tokAt s i).kind = 97) : isName ((tokAt s i).text s) = true ∧ ((tokAt s i).text s).size ≤ s.size := by
  unfold tokAt at h ⊢
  split at h
  · cases h
  rename_i h1
  rw [if_neg h1]
  split at h
  · rename_i h2
    have h' : (byteAt s i).toNat = 97 := h
    have e : byteAt s i = 97 := UInt8.toNat_inj.1 h'
    rw [e] at h2
    exact absurd h2 (by decide)
  rename_i h2
  rw [if_neg h2]
  split at h
  · split at h <;> cases h
  rename_i h3
  rw [if_neg h3]
  split at h
  · cases h
  rename_i h4
  rw [if_neg h4]
  have hl := wordFrom_le s (s.size - i) i 0 hi
  have hlt := hl.2.2.2.1 (by have : ¬ (wordEnd s i).2 = 0 := fun e => h4 (.inl e); unfold wordEnd at this; omega)
  have hw := word_sub s i (s.size - i) i 0 (s.size - i) (Nat.le_refl _) hi (Nat.le_refl _) (Nat.le_refl _)
  change isName (s.extract i (wordEnd s i).1) = true ∧ (s.extract i (wordEnd s i).1).size ≤ s.size
  have hsz : (s.extract i (wordEnd s i).1).size = (wordEnd s i).1 - i := by have : (wordEnd s i).1 ≤ s.size := hl.2.1; simp; omega
  refine ⟨?_, by have : (wordEnd s i).1 ≤ s.size := hl.2.1; omega⟩
  have hpos : i < (wordEnd s i).1 := hlt
  have hle : (wordEnd s i).1 ≤ s.size := hl.2.1
  have hb := byteAt_sub hpos hle
  have h3' : isDig (byteAt s i) = false := by
    cases e : isDig (byteAt s i) with
    | false => rfl
    | true =>
      exfalso
      apply h3
      unfold digEnd
      obtain ⟨f, hf⟩ : ∃ f, s.size - i = f + 1 := ⟨s.size - i - 1, by omega⟩
      rw [hf, digFrom, if_pos ⟨by omega, e⟩]
      have := digFrom_le s f (i + 1) (by omega)
      omega
  have hw2 : wordEnd (s.extract i (wordEnd s i).1) 0 = ((wordEnd s i).1 - i, (wordEnd s i).2) := by
    have e1 := wordFrom_fuel (s.extract i (wordEnd s i).1) (s.size - i) ((s.extract i (wordEnd s i).1).size - 0) 0 0 (by rw [hsz]; omega) (Nat.le_refl _)
    rw [Nat.sub_self] at hw
    exact e1.symm.trans hw
  have hd0 : digEnd (s.extract i (wordEnd s i).1) 0 = 0 := by
    unfold digEnd
    obtain ⟨f, hf⟩ : ∃ f, (s.extract i (wordEnd s i).1).size - 0 = f + 1 := ⟨(s.extract i (wordEnd s i).1).size - 0 - 1, by omega⟩
    rw [hf, digFrom, if_neg (by rw [hb, h3']; simp)]
  unfold isName tokAt
  rw [hb, hw2, hd0, hsz, if_neg (by omega), if_neg h2, if_neg (by omega), if_neg h4]
  simp
theorem toks_all {s : ByteArray} (P : Tok → Prop) (hP : ∀ i, i ≤ s.size → P (tokAt s i)) {I : Nat} (hI : I < (toks s).length) : P ((toks s).getD I default) :=
  toksAt_all s P hP s.size 0 (by omega) (by omega) _ (by
    rw [List.getD_eq_getElem?_getD, List.getElem?_eq_getElem hI]
    exact List.getElem_mem hI)
/-- What Parse reads fits in the code. -/
theorem read_fits {s : ByteArray} (hs : s.size ≤ 200) {t : Tree} {J : Nat} (h : D s (toks s) .choice 0 (.ok [t] J)) (hJ : kd (toks s) J = 101) : Fit t ∧ size t ≤ 200 := by
  have hlt := kd_lt hJ (by decide)
  have hlen := toks_length s
  have q := D.fits (s := s) (L := toks s) (fun I hk => by
      have := toks_all (s := s) (fun t => t.kind = 97 → isName (t.text s) = true ∧ (t.text s).size ≤ s.size) (fun i hi h => tok_name hi h) (kd_lt hk (by decide)) hk
      exact ⟨this.1, Nat.lt_of_le_of_lt this.2 (by omega)⟩)
    (fun I hk => by
      have hg : Digits (tx s (toks s) I) := toks_good s I (kd_lt hk (by decide)) hk
      have := numOf_lt hg.1 _ (Nat.le_refl _)
      have h9 := pow9 (k := (tx s (toks s) I).size) hg.2
      rw [List.take_of_length_le (by simp)] at this
      omega)
    (fun I hk => by
      by_cases hI : I < (toks s).length
      · have := toks_all (s := s) (fun t => t.kind ≠ 101 → t.pos < s.size) (fun i hi h => by
          unfold tokAt at h ⊢
          split at h
          · exact absurd rfl h
          · (repeat' split) <;> simp <;> omega) hI hk
        exact Nat.lt_of_lt_of_le this hs
      · unfold pl
        rw [List.getD_eq_getElem?_getD, List.getElem?_eq_none (by omega)]
        decide) h
  have q2 := q.2 (by simp only [Out.at]; omega) (by simp [Lvl.got, FitAll])
  simp only [Out.trees, FitAll, Out.isOk, sizes, Lvl.got, Out.at] at q2
  exact ⟨q2.1.1, by have := q2.2 trivial; omega⟩
end Go.Proofs.YtaghcjpoihkpjaaGreatDoor
