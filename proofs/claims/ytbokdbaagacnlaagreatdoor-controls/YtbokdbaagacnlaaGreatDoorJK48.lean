/-
 THE PROBES THAT PLAIN HANDS OVER DO WHAT IS TOLD OF THEM.
-/
import Derived.Test.YtbokdbaagacnlaaGreatDoorJK39
import Derived.Test.YtbokdbaagacnlaaGreatDoorJK41
import Derived.Test.YtbokdbaagacnlaaGreatDoorJK32
import Derived.Test.YtbokdbaagacnlaaGreatDoorJK27
import Derived.Test.YtbokdbaagacnlaaGreatDoorJK40
import Derived.Test.YtbokdbaagacnlaaGreatDoorJK44
import Derived.Test.YtbokdbaagacnlaaGreatDoorJK9
import Derived.Deep.AppendLies
import Derived.Deep.RegionHeldLaw
import Derived.Test.YtbokdbaagacnlaaGreatDoorJK38
import Derived.Test.YtbokdbaagacnlaaGreatDoorJK14
import Derived.Test.YtbokdbaagacnlaaGreatDoorJK26
import Derived.Test.YtbokdbaagacnlaaGreatDoorJK36
import Derived.Test.YtbokdbaagacnlaaGreatDoorJK42
import Derived.Test.YtbokdbaagacnlaaGreatDoorJK4
import Derived.Deep.QuietTactic
import Derived.Test.YtbokdbaagacnlaaGreatDoorJK47
namespace Go.Proofs.YtbokdbaagacnlaaGreatDoor
open Go.RowKit Go.Lib
section
variable {w1 : World} {R b1 b2 : Nat} {av : Value} {seed : Int} {nm : ByteArray}
end
end Go.Proofs.YtbokdbaagacnlaaGreatDoor
namespace Go.Proofs.YtbokdbaagacnlaaGreatDoor
open Go.RowKit Go.Lib
def PTree (s : ByteArray) (t : Option Tree) : Prop := ∃ f q, PRel s (t, f, q)
end Go.Proofs.YtbokdbaagacnlaaGreatDoor
namespace Go.Proofs.YtbokdbaagacnlaaGreatDoor
open Go.RowKit Go.Lib
theorem PRel.zero {s : ByteArray} {t : Tree} {f p : Nat} (h : PRel s (some t, f, p)) : f = 0 := by
 rcases h.forms with ⟨q, -⟩ | ⟨q, -⟩ | ⟨-, q, -⟩
 ·cases q
 ·cases q
 ·exact q
theorem PRel.wrong {s : ByteArray} {f p : Nat} (h : PRel s (none, f, p)) : (((f : Nat) : Int) != 0) = true := by
 rw [bne_iff_ne]
 rcases h.forms with ⟨-, q, -⟩ | ⟨-, q⟩ | ⟨q, -⟩
 ·omega
 ·omega
 ·cases q
end Go.Proofs.YtbokdbaagacnlaaGreatDoor
namespace Go.Proofs.YtbokdbaagacnlaaGreatDoor
open Go.RowKit Go.Lib
theorem PRel.fits {s : ByteArray} {t : Tree} {f p : Nat} (h : PRel s (some t, f, p)) : Fit t ∧ size t ≤ 200 := by
 rcases h with ⟨-, h⟩ | ⟨h1, ⟨J, -, h⟩ | ⟨u, J, -, -, h⟩ | ⟨u, J, h2, h3, h⟩⟩
 ·cases h
 ·cases h
 ·cases h
 ·injection h with h
  injection h with h
  subst h
  exact read_fits h1 h2 h3
theorem node_ne {P : Nat → Prop} {w : World} {t : Tree} {pa : Option Addr} (h : IsNode P w t (.pointer pa)) : pa ≠ none := by
 intro e
 subst e
 have key : ∀ {k p : Nat} {n : Int} {a b : ByteArray} {vs : List Value}, ¬ NodeAt P w (.pointer none) k p n a b vs := by
  rintro k p n a b vs ⟨x, pv, e, -⟩
  cases e
 cases t with
 | num p n => unfold IsNode at h; exact key h
 | neg p a => unfold IsNode at h; obtain ⟨va, h, -⟩ := h; exact key h
 | bin k p a b => unfold IsNode at h; obtain ⟨va, vb, h, -⟩ := h; exact key h
 | ite p a b c => unfold IsNode at h; obtain ⟨va, vb, vc, h, -⟩ := h; exact key h
 | meas p a b n => unfold IsNode at h; exact key h
 | probe p a ts => unfold IsNode at h; obtain ⟨vs, h, -⟩ := h; exact key h
def TreeT (lo : Nat) (w : World) (pa : Option Addr) : Option Tree → Prop
 | none => pa = none
 | some t => Fit t ∧ size t ≤ 200 ∧ match missL (pnames 15 4) (asks t) with
  | none => IsNode (From lo) w t (.pointer pa) ∧ pa ≠ none
  | some _ => pa = none
set_option maxRecDepth 1000000 in
set_option maxHeartbeats 4000000 in
theorem law_tree (s : ByteArray) (hs : s.size ≤ 9223372036854775807) {w : World} (hT : TabsR w) :
  Calls Tryz.prog 18 #[.string s] w fun e w' => ∃ t pa, PTree s t ∧ e = .returned (.pointer pa) ∧ Below w.heap.size w w' ∧ TreeT w.heap.size w' pa t := by
 have hr := ref_parse s hs w hT.tabs
 clear hT
 go_enter Tryz.func18, Tryz.ntmps18
 go_wp2_with fail
 refine hr.mono ?_
 rintro e w1 ⟨t, f, p, pa, rfl, hP, hb1, htr⟩
 have HP : Hid (PTree s t) := ⟨f, p, hP⟩
 have HB1 : Hid (Below w.heap.size w w1) := hb1
 cases t with
 | none =>
  have hfb := hP.wrong
  clear hr hP hb1 htr
  go_wp2
  go_ret
  exact ⟨none, none, HP.out, rfl, HB1.out, rfl⟩
 | some t =>
  have hf := hP.zero
  subst hf
  have HF : Hid _ := hP.fits
  have HTR : Hid (IsNode (From w.heap.size) w1 t (.pointer pa)) := htr
  have hnm := law_names 15 w1
  clear hr hP hb1 htr
  go_wp2_with fail
  refine hnm.mono ?_
  rintro e w4 ⟨hv, rfl, hb4, ho4⟩
  have hnode : IsNode (fun b => b < w4.heap.size) w4 t (.pointer pa) := HTR.out.moves fun b _ hlt => ⟨Nat.lt_of_lt_of_le hlt hb4.size, hb4.block b hlt⟩
  have hms := ref_missing t HF.out.1 _ w4 (.pointer pa) hv (pnames 15 4) hnode (.of_owns ho4) (by have := pnames_length 15 4; omega)
  have HB4 : Hid (Below w1.heap.size w1 w4) := hb4
  obtain ⟨ho, hc, rfl⟩ := owns_slice_len ho4
  clear hnm hb4 ho4 hnode
  go_wp2_with fail
  refine hms.mono ?_
  rintro e w5 ⟨hb5, htold⟩
  have HB5 : Hid (Below w1.heap.size w1 w5) := HB4.out.trans (hb5.mono HB4.out.size)
  clear hms hb5
  cases hmi : missL (pnames 15 4) (asks t) with
  | some q =>
   rw [hmi] at htold
   obtain ⟨a, vs, rfl, b, pv, eb, -, hbk, -⟩ := htold
   injection eb with eb
   injection eb with eb
   subst eb
   have HMI : Hid _ := hmi
   clear hmi hbk
   go_wp2
   go_ret
   refine ⟨some t, none, HP.out, rfl, HB1.out.trans (HB5.out.mono HB1.out.size), HF.out.1, HF.out.2, ?_⟩
   rw [HMI.out]
  | none =>
   rw [hmi] at htold
   have htold : e = .returned (.pointer none) := htold
   subst htold
   have HMI : Hid _ := hmi
   clear hmi
   go_wp2
   go_ret
   refine ⟨some t, pa, HP.out, rfl, HB1.out.trans (HB5.out.mono HB1.out.size), HF.out.1, HF.out.2, ?_⟩
   rw [HMI.out]
   exact ⟨HTR.out.moves fun b hb hlt => ⟨hb, HB5.out.block b hlt⟩, node_ne HTR.out⟩
end Go.Proofs.YtbokdbaagacnlaaGreatDoor
namespace Go.Proofs.YtbokdbaagacnlaaGreatDoor
open Go.RowKit Go.Lib Go.Shelf
set_option maxRecDepth 1000000 in
set_option maxHeartbeats 2000000 in
theorem ref_New_no {w : World} {pa : Option Addr} {g : Nat} {l0 l1 l2 l3 l4 count : Int} (hg : w.heap[g]? = some (.cells #[.int .i64 l0, .int .i64 l1, .int .i64 l2, .int .i64 l3, .int .i64 l4] 2 (0, 0))) (hno : possibleL l0 l1 l2 l3 l4 = false ∨ count < l0 ∨ l1 < count) :
  Calls Tryz.prog 21 #[.pointer pa, .slice (some ⟨g, 0, none⟩) 5 5, .int .i64 count] w fun e w' => e = .returned (.pointer none) ∧ ∃ n, w' = w.drewN n := by
 have c0 := cell_of_heap (i := 0) (v := .int .i64 l0) hg rfl
 have c1 := cell_of_heap (i := 1) (v := .int .i64 l1) hg rfl
 have c2 := cell_of_heap (i := 2) (v := .int .i64 l2) hg rfl
 have c3 := cell_of_heap (i := 3) (v := .int .i64 l3) hg rfl
 have c4 := cell_of_heap (i := 4) (v := .int .i64 l4) hg rfl
 have hor : l0 < 0 ∨ l1 < l0 ∨ l2 < 1 ∨ l3 < 0 ∨ l4 < 0 ∨ count < l0 ∨ l1 < count := by
  rcases hno with h | h | h
  ·unfold possibleL at h
   simp only [Bool.and_eq_false_iff, decide_eq_false_iff_not] at h
   omega
  ·omega
  ·omega
 clear hg hno
 by_cases h0 : l0 < 0
 ·go_enter Tryz.func21, Tryz.ntmps21
  go_wp2_with fail
  go_quiet (fail)
  go_wp2
  go_ret
  exact ⟨rfl, _, rfl⟩
 by_cases h1 : l1 < l0
 ·go_enter Tryz.func21, Tryz.ntmps21
  go_wp2_with fail
  go_quiet (fail)
  go_wp2
  go_ret
  exact ⟨rfl, _, rfl⟩
 by_cases h2 : l2 < 1
 ·go_enter Tryz.func21, Tryz.ntmps21
  go_wp2_with fail
  go_quiet (fail)
  go_wp2
  go_ret
  exact ⟨rfl, _, rfl⟩
 by_cases h3 : l3 < 0
 ·go_enter Tryz.func21, Tryz.ntmps21
  go_wp2_with fail
  go_quiet (fail)
  go_wp2
  go_ret
  exact ⟨rfl, _, rfl⟩
 by_cases h4 : l4 < 0
 ·go_enter Tryz.func21, Tryz.ntmps21
  go_wp2_with fail
  go_quiet (fail)
  go_wp2
  go_ret
  exact ⟨rfl, _, rfl⟩
 by_cases h5 : count < l0
 ·go_enter Tryz.func21, Tryz.ntmps21
  go_wp2_with fail
  go_quiet (fail)
  go_wp2
  go_ret
  exact ⟨rfl, _, rfl⟩
 have h6 : l1 < count := by omega
 go_enter Tryz.func21, Tryz.ntmps21
 go_wp2_with fail
 go_quiet (fail)
 go_wp2
 go_ret
 exact ⟨rfl, _, rfl⟩
end Go.Proofs.YtbokdbaagacnlaaGreatDoor
namespace Go.Proofs.YtbokdbaagacnlaaGreatDoor
open Go.RowKit Go.Lib Go.Shelf
def BegunP (A : Nat → Addr) (s : ByteArray) (w : World) (e : Ending) (w' : World) : Prop :=
 ∃ cv rv nv, e = .returned (.tuple #[.pointer cv, .pointer rv, .pointer nv, .bool true]) ∧ Below w.heap.size w w' ∧ (cv = none ∨ ∃ t x r Z N, PTree s (some t) ∧ cv = some ⟨x, 0, none⟩ ∧ rv = some ⟨r, 0, none⟩ ∧ IsNode N w' t (.pointer nv) ∧ Pair A w t 0 x r Z N w' ∧ (∀ b, Z b → w.heap.size ≤ b) ∧ ∀ b, N b → w.heap.size ≤ b ∨ b = x)
set_option maxRecDepth 1000000 in
set_option maxHeartbeats 8000000 in
theorem law_begun {s : ByteArray} (hs : s.size ≤ 9223372036854775807) {A : Nat → Addr} {w : World} (hT : TabsR w) (hA : SentsX A w) {ao : Option Addr} {cp : Nat} {L : List Int} {count : Int} (hL : NumsAt w ao L) (hl : ∀ v ∈ L, In64 v) :
  Calls Tryz.prog 6 #[.string s, .slice ao L.length cp, .int .i64 count] w fun e w' => BegunP A s w e w' := by
 have htr := law_tree s hs hT
 have HX : Hid _ := And.intro hT (And.intro hA (And.intro hL hl))
 clear hT hA hL hl
 go_enter Tryz.func6, Tryz.ntmps6
 go_wp2_with fail
 refine htr.mono ?_
 rintro e w1 ⟨t, pa, hP, rfl, hb1, hTT⟩
 have hnc := NewController_all s (HX.out.1.below hb1) (HX.out.2.1.below hb1) (cp := cp) (count := count) (HX.out.2.2.1.below hb1) HX.out.2.2.2
 have H1 : Hid _ := And.intro hP (And.intro hb1 hTT)
 clear htr hP hb1 hTT
 go_wp2_with fail
 refine hnc.mono ?_
 rintro e w2 ⟨t2, f, q, hP2, hb2, hbeg⟩
 obtain rfl : t = t2 := by
  obtain ⟨f1, q1, h1⟩ := H1.out.1
  have := h1.det hP2
  injection this
 have HB2 : Hid (Below w.heap.size w w2) := H1.out.2.1.trans (hb2.mono H1.out.2.1.size)
 have HB12 : Hid _ := hb2
 clear hnc hb2 hP2
 have HN : Hid (NumsAt w2 ao L ∧ ∀ v ∈ L, In64 v) := ⟨HX.out.2.2.1.below HB2.out, HX.out.2.2.2⟩
 cases t with
 | none =>
  obtain rfl : pa = none := H1.out.2.2
  have hbeg : e = _ := hbeg
  subst hbeg
  go_wp2_with fail
  go_quiet (fail)
  go_wp2
  refine bodyPost_ret (v := .tuple #[.pointer none, .pointer none, .pointer none, .bool true]) (by simp [results, Tryz.results6, go_sem]) rfl ?_
  exact ⟨none, none, none, rfl, below_drewN (HB2.out.alloc HB2.out.size _) _, .inl rfl⟩
 | some t =>
  obtain ⟨hf, hz, hm⟩ := hbeg
  have hTT := H1.out.2.2
  obtain ⟨-, -, hTT⟩ := hTT
  cases hms : missL (pnames 15 4) (asks t) with
  | some mq =>
   rw [hms] at hm hTT
   obtain rfl : pa = none := hTT
   have hm : e = _ := hm
   subst hm
   have HMS : Hid _ := And.intro hf (And.intro hz hms)
   clear hf hz hms
   go_wp2_with fail
   go_quiet (fail)
   go_wp2
   refine bodyPost_ret (v := .tuple #[.pointer none, .pointer none, .pointer none, .bool true]) (by simp [results, Tryz.results6, go_sem]) rfl ?_
   exact ⟨none, none, none, rfl, below_drewN (HB2.out.alloc HB2.out.size _) _, .inl rfl⟩
  | none =>
   rw [hms] at hm hTT
   obtain ⟨hnode, hpa⟩ := hTT
   obtain ⟨a, rfl⟩ : ∃ a, pa = some a := Option.ne_none_iff_exists'.1 hpa
   have HNODE : Hid (IsNode (fun b => w.heap.size ≤ b ∧ b < w1.heap.size) w1 t (.pointer (some a))) := hnode.moves fun b hge hlt => ⟨⟨hge, hlt⟩, rfl⟩
   have HMS : Hid _ := And.intro hf (And.intro hz hms)
   clear hnode hpa hf hz hms
   have FINN : Hid (∀ W, Below w2.heap.size w2 W → IsNode (fun b => w.heap.size ≤ b ∧ b < w1.heap.size) W t (.pointer (some a)) ∧ Below w.heap.size w W) := fun W hW => ⟨HNODE.out.moves fun b hb _ => ⟨hb, (hW.block b (Nat.lt_of_lt_of_le hb.2 HB12.out.size)).trans (HB12.out.block b hb.2)⟩, HB2.out.trans (hW.mono HB2.out.size)⟩
   rcases hm with ⟨hok, rfl⟩ | ⟨hok, x, c, F, wl, lo, X, rfl, hx, hlv, hlo, hX⟩
   ·have hno : possibleL (L.getD 0 0) (L.getD 1 0) (L.getD 2 0) (L.getD 3 0) (L.getD 4 0) = false ∨ count < L.getD 0 0 ∨ L.getD 1 0 < count := by
     unfold okL at hok
     simp only [Bool.and_eq_false_iff, decide_eq_false_iff_not] at hok
     rcases hok with h | h | h
     ·exact .inl h
     ·exact .inr (.inl (by omega))
     ·exact .inr (.inr (by omega))
    have hbB : Below w2.heap.size w2 (w2.alloc (.cells #[.bool true, .bool false, .int .i64 5, .int .i64 0, .int .i64 0, .string { data := #[] }] 27)) := (Below.refl _ _).alloc (Nat.le_refl _) _
    have hrB : (w2.alloc (.cells #[.bool true, .bool false, .int .i64 5, .int .i64 0, .int .i64 0, .string { data := #[] }] 27)).heap[w2.heap.size]? = some (Obj.cells #[.bool true, .bool false, .int .i64 5, .int .i64 0, .int .i64 0, .string { data := #[] }] 27 (0, 0)) := heap_alloc_new _ _
    have hlim := law_limits (HN.out.1.below hbB) (cp := cp)
    have hsz : (w2.alloc (.cells #[.bool true, .bool false, .int .i64 5, .int .i64 0, .int .i64 0, .string { data := #[] }] 27)).heap.size = w2.heap.size + 1 := by simp
    rw [hsz] at hlim
    have HOK : Hid _ := And.intro hok hno
    have HBB : Hid _ := And.intro hbB hrB
    clear hok hno hbB hrB
    go_wp2_with fail
    refine hlim.mono ?_
    rintro e w3 ⟨rfl, hb3, hg3⟩
    have hnw := ref_New_no (pa := some a) (count := count) hg3 HOK.out.2
    have hr3 := (hb3.block _ (Nat.lt_succ_self _)).trans HBB.out.2
    have b0 := cell_of_heap (i := 0) (v := .bool true) hr3 rfl
    have b2 := cell_of_heap (i := 2) (v := .int .i64 5) hr3 rfl
    have H3 : Hid (Below w2.heap.size w2 w3) := HBB.out.1.trans (hb3.mono (Nat.le_succ _))
    clear hlim hb3 hg3 hr3
    go_wp2_with fail
    refine hnw.mono ?_
    rintro e w4 ⟨rfl, n, hw4⟩
    have hw4 := hw4.symm
    subst hw4
    clear hnw
    go_wp2_with fail
    go_quiet (fail)
    go_wp2
    refine bodyPost_ret (v := .tuple #[.pointer none, .pointer none, .pointer (some a), .bool true]) (by simp [results, Tryz.results6, go_sem]) rfl ?_
    exact ⟨none, none, some a, rfl, (FINN.out _ (below_drewN (below_drewN H3.out n) _)).2, .inl rfl⟩
   ·have hyes : possibleL (L.getD 0 0) (L.getD 1 0) (L.getD 2 0) (L.getD 3 0) (L.getD 4 0) = true ∧ L.getD 0 0 ≤ count ∧ count ≤ L.getD 1 0 := by
     have hok2 := hok
     unfold okL at hok2
     simpa only [Bool.and_eq_true, decide_eq_true_eq] using hok2
    have hbB : Below w2.heap.size w2 (w2.alloc (.cells #[.bool true, .bool true, .int .i64 0, .int .i64 0, .int .i64 0, .string { data := #[] }] 27)) := (Below.refl _ _).alloc (Nat.le_refl _) _
    have hrB : (w2.alloc (.cells #[.bool true, .bool true, .int .i64 0, .int .i64 0, .int .i64 0, .string { data := #[] }] 27)).heap[w2.heap.size]? = some (Obj.cells #[.bool true, .bool true, .int .i64 0, .int .i64 0, .int .i64 0, .string { data := #[] }] 27 (0, 0)) := heap_alloc_new _ _
    have hlim := law_limits (HN.out.1.below hbB) (cp := cp)
    have hsz : (w2.alloc (.cells #[.bool true, .bool true, .int .i64 0, .int .i64 0, .int .i64 0, .string { data := #[] }] 27)).heap.size = w2.heap.size + 1 := by simp
    rw [hsz] at hlim
    have HOK : Hid _ := And.intro hok hyes
    have HBB : Hid _ := And.intro hbB hrB
    have HLV : Hid _ := And.intro hx (And.intro hlv (And.intro hlo hX))
    clear hok hyes hbB hrB hx hlv hlo hX
    go_wp2_with fail
    refine hlim.mono ?_
    rintro e w3 ⟨rfl, hb3, hg3⟩
    have H3 : Hid (Below w2.heap.size w2 w3) := HBB.out.1.trans (hb3.mono (Nat.le_succ _))
    have hn3 := (FINN.out _ H3.out).1
    have hnw := ref_New (pa := some a) (count := count) HMS.out.1 HMS.out.2.1 (hn3.moves fun b _ hlt => ⟨hlt, rfl⟩) hg3 HOK.out.2.1 HOK.out.2.2.1 HOK.out.2.2.2
    have hr3 := (hb3.block _ (Nat.lt_succ_self _)).trans HBB.out.2
    have HR3 : Hid _ := hr3
    clear hlim hb3 hg3 hr3 hn3
    go_wp2_with fail
    refine hnw.mono ?_
    rintro e w4 ⟨rfl, hb4, gg, av, href, hhi, hav⟩
    have hr4 := (hb4.block _ (heap_lt HR3.out)).trans HR3.out
    have b1 := cell_of_heap (i := 1) (v := .bool true) hr4 rfl
    have b2 := cell_of_heap (i := 2) (v := .int .i64 0) hr4 rfl
    have H4 : Hid (∀ W, Below w4.heap.size w4 W → BegunP A s w (.returned (.tuple #[ptr x, ptr w3.heap.size, .pointer (some a), .bool true])) W) := fun W hW => by
     have hb24 : Below w2.heap.size w2 W := (H3.out.trans (hb4.mono H3.out.size)).trans (hW.mono (Nat.le_trans H3.out.size hb4.size))
     have hF := FINN.out W hb24
     have lz := H3.out.size
     refine ⟨_, _, _, rfl, hF.2, .inr ?_⟩
     obtain ⟨Z, N, p1, p2, p3, p4⟩ := pair_new HX.out.2.1 HMS.out.1 HMS.out.2.1 H1.out.2.1 ((hb24.block _ (heap_lt HLV.out.1)).trans HLV.out.1) (HLV.out.2.1.go hb24) (fun b hb => ⟨HLV.out.2.2.2 b hb, Nat.lt_of_lt_of_le (HLV.out.2.1.lt hb) lz⟩) (Nat.lt_of_lt_of_le (heap_lt HLV.out.1) lz) (href.below hW) hhi hav (Nat.le_trans HLV.out.2.1.le lz) HLV.out.2.2.1 hF.1
     exact ⟨t, x, _, Z, N, H1.out.1, rfl, rfl, p1, p2, p3, p4⟩
    clear hnw hb4 href hhi hav hr4
    go_wp2_with fail
    go_quiet (fail)
    go_wp2
    refine bodyPost_ret (v := .tuple #[ptr x, ptr w3.heap.size, .pointer (some a), .bool true]) (by simp [results, Tryz.results6, go_sem]) rfl ?_
    exact H4.out _ (below_drewN (Below.refl _ _) _)
end Go.Proofs.YtbokdbaagacnlaaGreatDoor
namespace Go.Proofs.YtbokdbaagacnlaaGreatDoor
open Go.RowKit Go.Lib Go.Shelf
def Mate (A : Nat → Addr) (w0 : World) (t : Tree) (i : Nat) (dv sv : Value) (Z1 N1 N0 : Nat → Prop) (w : World) : Prop :=
 (dv = .pointer none ∧ ∃ so, sv = .pointer so) ∨ ∃ y s Z2 N2, dv = ptr y ∧ sv = ptr s ∧ Pair A w0 t i y s Z2 N2 w ∧ (∀ b, Z2 b → ¬ N0 b ∧ ¬ N1 b) ∧ ∀ b, Z1 b → ¬ Z2 b ∧ ¬ N2 b
def Two (A : Nat → Addr) (w0 : World) (t : Tree) (N0 : Nat → Prop) (nv : Value) (i x r : Nat) (dv sv : Value) (w : World) : Prop :=
 ∃ Z1 N1, Pair A w0 t i x r Z1 N1 w ∧ IsNode N0 w t nv ∧ (∀ b, N0 b → b < w.heap.size) ∧ (∀ b, Z1 b → ¬ N0 b) ∧ Mate A w0 t i dv sv Z1 N1 N0 w
section
variable {A : Nat → Addr} {w0 : World} {t : Tree} {N0 : Nat → Prop} {nv : Value} {i x r : Nat} {dv sv : Value} {w : World} {pa : Option Addr}
theorem Two.mid {Z1 N1 : Nat → Prop} (hp : Pair A w0 t i x r Z1 N1 w) (hn : IsNode N0 w t nv) (hl : ∀ b, N0 b → b < w.heap.size) (hz : ∀ b, Z1 b → ¬ N0 b) (hm : Mate A w0 t i dv sv Z1 N1 N0 w) {w' : World} {Z' : Nat → Prop} {j : Nat} (hj : i ≤ j) (hp' : Pair A w0 t j x r Z' N1 w') (hg : Grew Z1 Z' w) (hk : KeepX Z1 w w') : Two A w0 t N0 nv j x r dv sv w' := by
 refine ⟨Z', N1, hp', hn.moves fun b hb hlt => ⟨hb, hk.block b hlt fun e => hz b e hb⟩, fun b hb => Nat.lt_of_lt_of_le (hl b hb) hk.size, fun b hb e => ?_, ?_⟩
 ·rcases hg b hb with q | q
  ·exact hz b q e
  ·have := hl b e
   omega
 ·rcases hm with hm | ⟨y, s, Z2, N2, rfl, rfl, h2, h3, h4⟩
  ·exact .inl hm
  ·refine .inr ⟨y, s, Z2, N2, rfl, rfl, (h2.other hk fun b hb => ⟨(hp.zn hb).1, h4 b hb⟩).more hj, h3, fun b hb => ?_⟩
   rcases hg b hb with q | q
   ·exact h4 b q
   ·exact ⟨fun e => by have := h2.lt e; omega, fun e => by have := h2.ltN e; omega⟩
theorem Two.go (h : Two A w0 t N0 nv i x r dv sv w) {w' : World} (hb : Below w.heap.size w w') : Two A w0 t N0 nv i x r dv sv w' := by
 obtain ⟨Z1, N1, h1, h2, h3, h4, h5⟩ := h
 exact Two.mid h1 h2 h3 h4 h5 (Nat.le_refl _) (h1.go hb) (fun b hb => .inl hb) (KeepX.of_below hb)
theorem Two.more (h : Two A w0 t N0 nv i x r dv sv w) {j : Nat} (hj : i ≤ j) : Two A w0 t N0 nv j x r dv sv w := by
 obtain ⟨Z1, N1, h1, h2, h3, h4, h5⟩ := h
 exact Two.mid h1 h2 h3 h4 h5 hj (h1.more hj) (fun b hb => .inl hb) (KeepX.refl _ _)
theorem Two.below (h : Two A w0 t N0 nv i x r dv sv w) : Below w0.heap.size w0 w := by
 obtain ⟨Z1, N1, h1, h2, h3, h4, h5⟩ := h
 exact h1.below
theorem Two.mate (h : Two A w0 t N0 nv i x r dv sv w) : (dv = .pointer none ∧ ∃ so, sv = .pointer so) ∨ ∃ y s, dv = ptr y ∧ sv = ptr s ∧ Two A w0 t N0 nv i y s (ptr x) (ptr r) w := by
 obtain ⟨Z1, N1, h1, h2, h3, h4, h5⟩ := h
 rcases h5 with h5 | ⟨y, s, Z2, N2, rfl, rfl, q1, q2, q3⟩
 ·exact .inl h5
 ·exact .inr ⟨y, s, rfl, rfl, Z2, N2, q1, h2, h3, fun b hb => (q2 b hb).1, .inr ⟨x, r, Z1, N1, rfl, rfl, h1, fun b hb => ⟨h4 b hb, (q3 b hb).2⟩, fun b hb => ⟨fun e => (q3 b e).1 hb, (q2 b hb).2⟩⟩⟩
theorem Two.feed (h : Two A w0 t N0 nv i x r dv sv w) (hi : i < 1073741824) {tk : Bool} (name : ByteArray) {v tm : Int} (hv : In64 v) (ht : In64 tm) :
  Calls Tryz.prog 11 #[ptr x, ptr r, .agg #[.bool tk, .string name, .int .i64 v, .int .i64 tm]] w fun e w' => e = .returned (.bool true) ∧ Two A w0 t N0 nv (i + 1) x r dv sv w' := by
 obtain ⟨Z1, N1, h1, h2, h3, h4, h5⟩ := h
 refine (h1.feed hi name hv ht).mono ?_
 rintro e w' ⟨rfl, Z', q1, q2, q3⟩
 exact ⟨rfl, Two.mid h1 h2 h3 h4 h5 (Nat.le_succ _) q1 q2 q3⟩
theorem Two.tick (h : Two A w0 t N0 nv i x r dv sv w) {tm : Int} (ht : In64 tm) :
  Calls Tryz.prog 8 #[ptr x, .int .i64 tm] w fun e w1 => ∃ n d p m, e = .returned (.agg #[.int .i64 tm, .int .i64 n, .int .i64 0, .int .i64 0, .int .i64 d, .int .i64 p, .int .i64 m, .string { data := #[] }]) ∧ KeepQ w w1 ∧
   ∀ w2, Below w1.heap.size w1 w2 → Calls Tryz.prog 9 #[ptr r, .int .i64 tm] w2 fun e w' => e = .returned (.tuple #[.int .i64 n, .agg #[.int .i64 0, .int .i64 d, .int .i64 p, .int .i64 m]]) ∧ KeepQ w2 w' ∧ Two A w0 t N0 nv i x r dv sv w' := by
 obtain ⟨Z1, N1, h1, h2, h3, h4, h5⟩ := h
 refine (h1.tick ht).mono ?_
 rintro e w1 ⟨n, d, p, m, rfl, k1, hr⟩
 refine ⟨n, d, p, m, rfl, fun b cs T hT hb => (k1.block b (heap_lt hb) (h1.calm hb hT)).trans hb, fun w2 hb2 => ?_⟩
 refine (hr w2 hb2).mono ?_
 rintro e w' ⟨rfl, q1, q2, q3⟩
 have k2 : KeepX Z1 w w2 := k1.below hb2
 exact ⟨rfl, q3, Two.mid h1 h2 h3 h4 h5 (Nat.le_refl _) q1 (fun b hb => .inl hb) (k2.trans q2)⟩
theorem Two.event (h : Two A w0 t N0 (.pointer pa) i x r dv sv w) {tk : Bool} {M v tm : Int} :
  Calls Tryz.prog 7 #[.pointer pa, .agg #[.bool tk, .int .i64 M, .int .i64 v, .int .i64 tm]] w fun e w' => ∃ name, e = .returned (.agg #[.bool tk, .string name, .int .i64 v, .int .i64 tm]) ∧ Below w.heap.size w w' := by
 obtain ⟨Z1, N1, ⟨hf, hz, -⟩, h2, h3, -, -⟩ := h
 refine (law_event_of (ms := msOf t) (ms_few hz) fun W hW => ?_).mono fun e w' hq => ⟨_, hq⟩
 exact ref_metrics t (fine_of_fit t hf) N0 W.heap.size W (.pointer pa) (.slice none 0 0) [] (fun b hb => Nat.lt_of_lt_of_le (h3 b hb) hW.size) (Nat.le_refl _) (h2.moves fun b hb hlt => ⟨hb, hW.block b hlt⟩) ⟨rfl, .inl ⟨rfl, rfl⟩⟩ (by have := mets_few hz; simp; omega)
end
theorem two_new {A : Nat → Addr} {s : ByteArray} {w w1 w2 : World} {t : Tree} {x r : Nat} {Z N : Nat → Prop} {nv : Value} {cv2 rv2 nv2 : Option Addr} (hA : SentsX A w) (hb : Below w.heap.size w w1) (hs : PTree s (some t)) (hn : IsNode N w1 t nv) (hp : Pair A w t 0 x r Z N w1) (hb2 : Below w1.heap.size w1 w2) (h2 : cv2 = none ∨ ∃ t2 y q Z2 N2, PTree s (some t2) ∧ cv2 = some ⟨y, 0, none⟩ ∧ rv2 = some ⟨q, 0, none⟩ ∧ IsNode N2 w2 t2 (.pointer nv2) ∧ Pair A w1 t2 0 y q Z2 N2 w2 ∧ (∀ b, Z2 b → w1.heap.size ≤ b) ∧ ∀ b, N2 b → w1.heap.size ≤ b ∨ b = y) : Two A w t N nv 0 x r (.pointer cv2) (.pointer rv2) w2 := by
 have hp2 := hp.go hb2
 refine ⟨Z, N, hp2, hn.moves fun b hx hlt => ⟨hx, hb2.block b hlt⟩, fun b hx => hp2.ltN hx, fun b hx => (hp.zn hx).2, ?_⟩
 rcases h2 with rfl | ⟨t2, y, q, Z2, N2, hs2, rfl, rfl, -, hq, z2, n2⟩
 ·exact .inl ⟨rfl, _, rfl⟩
 ·obtain rfl : t = t2 := by
   obtain ⟨f1, q1, e1⟩ := hs
   obtain ⟨f2, q2, e2⟩ := hs2
   have := e1.det e2
   injection this with this
   injection this
  refine .inr ⟨y, q, Z2, N2, rfl, rfl, hq.lower hA hb, fun b hx => ?_, fun b hx => ?_⟩
  ·have l1 := z2 b hx
   exact ⟨fun e => by have := hp.ltN e; omega, fun e => by have := hp.ltN e; omega⟩
  ·have l1 := hp.lt hx
   refine ⟨fun e => by have := z2 b e; omega, fun e => ?_⟩
   rcases n2 b e with e2 | e2
   ·omega
   ·obtain ⟨c, hc⟩ := hq.obj
    exact hp2.calm hc (.inr (.inr (.inr rfl))) (e2 ▸ hx)
end Go.Proofs.YtbokdbaagacnlaaGreatDoor
