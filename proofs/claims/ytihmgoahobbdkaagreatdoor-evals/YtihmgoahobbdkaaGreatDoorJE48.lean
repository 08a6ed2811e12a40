/-
  plain.Eval, WALKED WHOLE.
-/
import Derived.Test.YtihmgoahobbdkaaGreatDoorJE47
import Derived.Test.YtihmgoahobbdkaaGreatDoorJE7
import Derived.Deep.AppendLies
import Derived.Deep.RegionHeldLaw
namespace Go.Proofs.YtihmgoahobbdkaaGreatDoor
open Go.RowKit Go.Lib

/-- What is read of a text. -/
def PTree (s : ByteArray) (t : Option Tree) : Prop := ∃ f q, PRel s (t, f, q)
/-- What plain.Eval tells of a text. -/
def EvalT (lo : Nat) (w : World) (seeds : List Int) (e : Ending) : Option Tree → Prop
  | none => e = .returned (.tuple #[.slice none 0 0, .bool false])
  | some t => Fit t ∧ size t ≤ 200 ∧ match missL (pnames 15 4) (asks t) with
    | none => ∃ v, e = .returned (.tuple #[v, .bool true]) ∧ w.ownsRow lo 95 6 v seeds.length (valsP t seeds)
    | some _ => e = .returned (.tuple #[.slice none 0 0, .bool false])
/-- So many seeds are through. -/
structure EL (w1 : World) (R : Nat) (av : Value) (t : Tree) (seeds : List Int) (wr : World) (i : Nat) (v : Value) : Prop where
  keep : Keep R w1 wr
  world : ∃ sd tr, WorldP wr R sd tr av false
  row : wr.ownsRow w1.heap.size 95 6 v i (valsP t (seeds.take i))
theorem Tryz.infoValP : (Tryz.prog.info? 95).map (fun i => (i.zero, i.size, i.bytes)) = some (some (.agg #[.int .i64 0, .int .i64 0, .int .i64 0, .string { data := #[] }, .int .i64 0, .string { data := #[] }]), 6, 64) := by kernel_rfl
theorem owns_base {w : World} {B C e sz n : Nat} {v : Value} {xs : List Value} (h : w.ownsRow B e sz v n xs) (hB : C ≤ B) : w.ownsRow C e sz v n xs := by
  obtain ⟨h1, h2⟩ := h
  refine ⟨h1, ?_⟩
  rcases h2 with h2 | ⟨g, cap, cur, a, b, c⟩
  · exact .inl h2
  · exact .inr ⟨g, cap, cur, a, Nat.le_trans hB b, c⟩
theorem Asks.keep {p : Option Addr} {lo R b : Nat} {w w' : World} {t : Tree} (h : Asks p lo w b t) (hk : Keep R w w') (hR : R < lo) : Asks p lo w' b t := by
  obtain ⟨lo2, F, h1, h2, h3⟩ := h.prog
  refine ⟨lo2, F, h1, h2.above hk.size fun k l lt => hk.block k lt (by omega), fun q hq => ?_⟩
  obtain ⟨b1, b2, e, l1, l2, o1, o2⟩ := h3 q hq
  exact ⟨b1, b2, e, l1, l2, hk.heap o1 (by omega), hk.heap o2 (by omega)⟩
theorem valsP_take {t : Tree} {seeds : List Int} {i : Nat} {x : Int} (h : seeds[i]? = some x) : valsP t (seeds.take (i + 1)) = valsP t (seeds.take i) ++ valP (ev (envOf x) t noBytes) := by
  unfold valsP
  rw [List.take_add_one, h]
  simp
theorem news_six {w : World} {g : Nat} {a b c d e f : Value} {T : TypeId} (h : w.heap[g]? = some (.cells #[a, b, c, d, e, f] T (0, 0))) : ∀ j u, ([a, b, c, d, e, f] : List Value)[j]? = some u → w.cell? ((⟨g, 0, none⟩ : Addr).add j) = some u := by
  intro j u hj
  have ha : (⟨g, 0, none⟩ : Addr).add j = ⟨g, j, none⟩ := by unfold Addr.add; split <;> simp_all
  rw [ha]
  exact cell_of_heap h (by simpa using hj)
set_option maxRecDepth 1000000 in
set_option maxHeartbeats 8000000 in
theorem plain_Eval (s : ByteArray) {A : Nat → Addr} {w : World} (hT : TabsR w) (hA : SentsX A w) {g cp : Nat} {seeds : List Int} (again : Bool) (hsv : w.heap[g]? = some (.cells (ints seeds).toArray 2 (0, 0))) (h9 : seeds.length ≤ 900) :
    Calls Tryz.prog 18 #[.string s, .slice (some ⟨g, 0, none⟩) seeds.length cp, .bool again] w fun e w' => ∃ t, PTree s t ∧ Below w.heap.size w w' ∧ EvalT w.heap.size w' seeds e t := by
  obtain ⟨i1, hi1, hy0, hy1, hy2⟩ := info_parts Tryz.infoValP
  have hx : Below w.heap.size w (w.alloc (.cells #[.int .i64 0, .string { data := #[] }, .pointer none, .bool false] 89)) := (Below.refl _ _).alloc (Nat.le_refl _) _
  have hpg := plain_program s (some ⟨w.heap.size, 0, none⟩) (hT.below hx) (hA.below hx).sents
  have lg := heap_lt hsv
  have HX : Hid _ := And.intro hx (And.intro hT (And.intro hA hsv))
  clear hT hA hsv hx
  go_enter Tryz.func18, Tryz.ntmps18
  go_wp2_with fail
  refine hpg.mono ?_
  rintro e w2 ⟨t, f, q, hP, hb2, hpt⟩
  have HP : Hid (PTree s t) := ⟨f, q, hP⟩
  have hb02 : Below w.heap.size w w2 := HX.out.1.trans (hb2.mono HX.out.1.size)
  have hW2 : WorldP w2 w.heap.size 0 noBytes (.pointer none) false := (hb2.block _ (by simp)).trans (heap_alloc_new _ _)
  have HB2 : Hid (Below w.heap.size w w2 ∧ WorldP w2 w.heap.size 0 noBytes (.pointer none) false) := ⟨hb02, hW2⟩
  have l2 := heap_lt hW2
  clear hpg hP hb2 hb02 hW2
  cases t with
  | none =>
    have hpt : e = _ := hpt
    subst hpt
    go_wp2
    go_ret2
    exact ⟨none, HP.out, HB2.out.1, rfl⟩
  | some t =>
    obtain ⟨hf, hz, hpt⟩ := hpt
    cases hmi : missL (pnames 15 4) (asks t) with
    | some q9 =>
      rw [hmi] at hpt
      have hpt : e = _ := hpt
      subst hpt
      have HM : Hid _ := And.intro hf (And.intro hz hmi)
      clear hf hz hmi
      go_wp2
      go_ret2
      refine ⟨some t, HP.out, HB2.out.1, HM.out.1, HM.out.2.1, ?_⟩
      rw [HM.out.2.2]
      rfl
    | none =>
      rw [hmi] at hpt
      obtain ⟨b, rfl, hak⟩ := hpt
      have HM : Hid _ := And.intro hf (And.intro hz (And.intro hmi hak))
      clear hf hz hmi hak
      have c2 : w2.cell? ⟨w.heap.size, 2, none⟩ = some (.pointer none) := cell_of_heap HB2.out.2 rfl
      have z2 : w2.frozen? ⟨w.heap.size, 2, none⟩ = false := frozen_of_heap HB2.out.2
      cases again with
      | false =>
        go_wp2_with fail
        have hctx : Ctx A w w2 w.heap.size := ⟨HX.out.2.2.1, HB2.out.1, Nat.le_refl _, l2⟩
        have hak1 : Asks (some ⟨w.heap.size, 0, none⟩) (w.heap.size + 1) w2 b t := by have := HM.out.2.2.2; simpa using this
        have hnest : Nest w2 w.heap.size (.pointer none) := .inl rfl
        have hw1 : WorldP w2 w.heap.size 0 noBytes (.pointer none) false := HB2.out.2
        have HC : Hid (Ctx A w w2 w.heap.size ∧ Asks (some ⟨w.heap.size, 0, none⟩) (w.heap.size + 1) w2 b t ∧ Nest w2 w.heap.size (.pointer none) ∧ WorldP w2 w.heap.size 0 noBytes (.pointer none) false) := ⟨hctx, hak1, hnest, hw1⟩
        clear hctx hak1 hnest hw1 c2 z2
        generalize w2 = w1 at *
        have hg1 : w1.heap[g]? = some (.cells (ints seeds).toArray 2 (0, 0)) := (HC.out.1.below.block g lg).trans HX.out.2.2.2
        have HG1 : Hid _ := hg1
        clear hg1
        go_loopw [10, 29] (fun v10 v29 wr => ∃ i : Nat, v29 = .int .i64 i ∧ i ≤ seeds.length ∧ Hid (EL w1 w.heap.size (.pointer none) t seeds wr i v10)) (fun _ v29 _ => seeds.length - (intOf v29).toNat)
        case atStart => exact ⟨0, rfl, Nat.zero_le _, ⟨.refl _ _, ⟨_, _, HC.out.2.2.2⟩, ⟨rfl, .inl ⟨rfl, rfl⟩⟩⟩⟩
        case round =>
          obtain ⟨i, rfl, hi, HI⟩ := hrel
          rcases Nat.lt_or_ge i seeds.length with h8 | h8
          · have h9' : (i : Int) < seeds.length := by omega
            obtain ⟨x, hxi⟩ : ∃ x, seeds[i]? = some x := ⟨seeds[i], List.getElem?_eq_getElem _⟩
            have gR : g ≠ w.heap.size := by omega
            have cg : wr.cell? ⟨g, i, none⟩ = some (.int .i64 x) := cell_of_heap (HI.out.keep.heap HG1.out gR) (by simp [ints, hxi])
            obtain ⟨sd, tr0, hWr⟩ := HI.out.world
            have k0 : wr.cell? ⟨w.heap.size, 0, none⟩ = some (.int .i64 sd) := cell_of_heap hWr rfl
            have k1 : wr.cell? ⟨w.heap.size, 1, none⟩ = some (.string tr0) := cell_of_heap hWr rfl
            have y0 : wr.frozen? ⟨w.heap.size, 0, none⟩ = false := frozen_of_heap hWr
            have y1 : wr.frozen? ⟨w.heap.size, 1, none⟩ = false := frozen_of_heap hWr
            have hKS : Keep w.heap.size w1 ((wr.setCell ⟨w.heap.size, 0, none⟩ (.int .i64 x)).setCell ⟨w.heap.size, 1, none⟩ (.string { data := #[] })) := (HI.out.keep.setR 0 _).setR 1 _
            have hWS : WorldP ((wr.setCell ⟨w.heap.size, 0, none⟩ (.int .i64 x)).setCell ⟨w.heap.size, 1, none⟩ (.string { data := #[] })) w.heap.size x noBytes (.pointer none) false := heap_set_same (i := 1) (heap_set_same (i := 0) hWr)
            have hev := eval_outside HC.out.1 HC.out.2.2.1 (Nat.lt_succ_self _) HM.out.1 HM.out.2.1 HC.out.2.1 hKS hWS
            have HS : Hid _ := And.intro hKS (And.intro hxi trivial)
            have hmf : ∀ (fn : Fn) (first cap : Array Value) (w : World), (Instr.makeFunc fn first cap).run Tryz.prog w = .ok (.func fn first cap) w := fun _ _ _ _ => rfl
            obtain ⟨ao, cv, rfl⟩ := owns_len HI.out.row
            generalize hr : ev (envOf x) t noBytes = r at hev
            obtain ⟨r, t2⟩ := r
            have HR : Hid _ := hr
            clear hKS hWS hxi hWr hr
            go_wp2_with fail
            refine hev.mono ?_
            rintro e w7 ⟨hk7, he7⟩
            have hk17 : Keep w.heap.size w1 w7 := HS.out.1.trans hk7
            obtain ⟨iv, rfl, hei, hs7⟩ := he7.told (HC.out.1.at hk17)
            have hkr7 : Keep w.heap.size wr w7 := (((Keep.refl _ wr).setR 0 _).setR 1 _).trans hk7
            have hrow7 : w7.ownsRow w1.heap.size 95 6 (.slice ao i cv) i (valsP t (seeds.take i)) := owns_block2 HI.out.row fun k q => hkr7.block k (HI.out.row.lt _ q).2 (by have := (HI.out.row.lt _ q).1; have := HC.out.1.lt; omega)
            have hof : ∀ w', Below w7.heap.size w7 w' → Calls Tryz.prog 24 #[iv] w' fun e w2 => e = .returned (.agg #[.int .i64 (resE r), .int .i64 (resP r), .int .i64 (resM r), .string { data := #[] }]) ∧ Below w'.heap.size w' w2 := hei.2
            have H7 : Hid (Keep w.heap.size w1 w7 ∧ WorldP w7 w.heap.size x t2 (.pointer none) false ∧ w7.ownsRow w1.heap.size 95 6 (.slice ao i cv) i (valsP t (seeds.take i))) := ⟨hk17, hs7.2.1, hrow7⟩
            have e1 : w7.cell? ⟨w.heap.size, 1, none⟩ = some (.string t2) := cell_of_heap hs7.2.1 rfl
            have HOF : Hid _ := hof
            clear hev hk7 he7 hk17 hei hs7 hkr7 hrow7 hof
            go_wp2_with fail
            go_region_held_law (fun w' => w'.cell? ⟨w.heap.size, 1, none⟩ = some (.string t2)) (go_keep) (first
              | (go_at_call 24; refine (HOF.out _ (by repeat (first | exact Below.refl _ _ | apply Below.drew))).mono ?_; rintro e w8 ⟨rfl, hb8⟩; have hb8 : Below w7.heap.size w7 w8 := (by first | exact hb8 | exact (Below.refl _ _).drew.trans hb8); have hW8 : WorldP w8 w.heap.size x t2 (.pointer none) false := (hb8.block _ (heap_lt H7.out.2.1)).trans H7.out.2.1; have e8 : w8.cell? ⟨w.heap.size, 1, none⟩ = some (.string t2) := cell_of_heap hW8 rfl; have H8 : Hid (Below w7.heap.size w7 w8 ∧ WorldP w8 w.heap.size x t2 (.pointer none) false) := ⟨hb8, hW8⟩; clear hb8 hW8)
              | (refine step_append_lies _ (by rfl) (.tmp 47) (.tmp 56) _ (by rfl) w1.heap.size 95 i1 _ 6 64 Tryz.underlying48 hi1 hy0 hy1 hy2 rfl (by omega) (.slice ao i cv) i (valsP t (seeds.take i)) (by rfl) (World.ownsRow.alloc (owns_block2 H7.out.2.2 fun k q => H8.out.1.block k (H7.out.2.2.lt _ q).2) _) ⟨_, 0, none⟩ 1 1 (valP (r, t2)) (by rfl) (by rfl) (news_six (heap_alloc_new _ _)) (by simp [valP, Value.oneCell']) (by omega) (by unfold maxLen; omega) (by omega) (by have := H8.out.1.size; have := H7.out.1.size; simp; omega) _ (by rfl) ?_; intro gg cap w9 hown hgrow hat hlt; have hW9 : WorldP w9 w.heap.size x t2 (.pointer none) false := (hgrow.block _ (by have := heap_lt H8.out.2; simp; omega) (fun q => by have := (H7.out.2.2.lt _ q.symm).1; have := HC.out.1.lt; omega)).trans (heap_alloc_old H8.out.2); have e9 : w9.cell? ⟨w.heap.size, 1, none⟩ = some (.string t2) := cell_of_heap hW9 rfl; have Q9 : Hid (w9.ownsRow w1.heap.size 95 6 (.slice (some ⟨gg, 0, none⟩) (i + 1) cap) (i + 1) (valsP t (seeds.take i) ++ valP (r, t2)) ∧ (w8.alloc _).grownBy w9 (Value.slice ao i cv).ownBlock ∧ WorldP w9 w.heap.size x t2 (.pointer none) false) := ⟨hown, hgrow, hW9⟩; clear hown hgrow hat hlt hW9))
            go_wp2
            go_roundw
            case rel =>
              refine ⟨i + 1, by go_num, by omega, ⟨?_, ⟨_, _, Q9.out.2.2⟩, ?_⟩⟩
              · have h1 := H7.out.1
                have h2 := H8.out.1
                have h3 := Q9.out.2.1
                refine ⟨h3.os.trans (h2.os.trans h1.os), h3.tape.trans (h2.tape.trans h1.tape), h3.output.trans (h2.output.trans h1.output), Nat.le_trans (Nat.le_trans h1.size h2.size) (by have := h3.size; simp at this; omega), fun k lt ne => ?_⟩
                have l8 := Nat.lt_of_lt_of_le lt (Nat.le_trans h1.size h2.size)
                exact (h3.block k (by simp; omega) (fun q => by have := (H7.out.2.2.lt _ q.symm).1; omega)).trans ((Below.heap_alloc _ _ k l8).trans ((h2.block k (Nat.lt_of_lt_of_le lt h1.size)).trans (h1.block k lt ne)))
              · rw [valsP_take HS.out.2.1, HR.out]
                exact Q9.out.1
            case measure => simp [intOf]; omega
          · have h9' : ¬ (i : Int) < seeds.length := by omega
            obtain rfl : i = seeds.length := by omega
            obtain ⟨ao, cv, rfl⟩ := owns_len HI.out.row
            go_wp2
            go_ret2
            refine ⟨some t, HP.out, HC.out.1.under HI.out.keep, HM.out.1, HM.out.2.1, ?_⟩
            rw [HM.out.2.2.1]
            have hrow := HI.out.row
            rw [List.take_length] at hrow
            exact ⟨_, rfl, owns_base hrow HC.out.1.below.size⟩
      | true =>
        go_wp2_with fail
        have hctx : Ctx A w (w2.setCell ⟨w.heap.size, 2, none⟩ (ptr b)) w.heap.size := ⟨HX.out.2.2.1, HB2.out.1.setCell (Nat.le_refl _) _, Nat.le_refl _, by simpa using l2⟩
        have hak1 : Asks (some ⟨w.heap.size, 0, none⟩) (w.heap.size + 1) (w2.setCell ⟨w.heap.size, 2, none⟩ (ptr b)) b t := by have := HM.out.2.2.2.keep ((Keep.refl w.heap.size w2).setR 2 (ptr b)) (by simp); simpa using this
        have hnest : Nest (w2.setCell ⟨w.heap.size, 2, none⟩ (ptr b)) w.heap.size (ptr b) := .inr ⟨b, w.heap.size + 1, t, rfl, Nat.lt_succ_self _, HM.out.1, hak1⟩
        have hw1 : WorldP (w2.setCell ⟨w.heap.size, 2, none⟩ (ptr b)) w.heap.size 0 noBytes (ptr b) false := heap_set_same (i := 2) HB2.out.2
        have HC : Hid (Ctx A w (w2.setCell ⟨w.heap.size, 2, none⟩ (ptr b)) w.heap.size ∧ Asks (some ⟨w.heap.size, 0, none⟩) (w.heap.size + 1) (w2.setCell ⟨w.heap.size, 2, none⟩ (ptr b)) b t ∧ Nest (w2.setCell ⟨w.heap.size, 2, none⟩ (ptr b)) w.heap.size (ptr b) ∧ WorldP (w2.setCell ⟨w.heap.size, 2, none⟩ (ptr b)) w.heap.size 0 noBytes (ptr b) false) := ⟨hctx, hak1, hnest, hw1⟩
        clear hctx hak1 hnest hw1 c2 z2
        generalize w2.setCell ⟨w.heap.size, 2, none⟩ (ptr b) = w1 at *
        have hg1 : w1.heap[g]? = some (.cells (ints seeds).toArray 2 (0, 0)) := (HC.out.1.below.block g lg).trans HX.out.2.2.2
        have HG1 : Hid _ := hg1
        clear hg1
        go_loopw [10, 29] (fun v10 v29 wr => ∃ i : Nat, v29 = .int .i64 i ∧ i ≤ seeds.length ∧ Hid (EL w1 w.heap.size (ptr b) t seeds wr i v10)) (fun _ v29 _ => seeds.length - (intOf v29).toNat)
        case atStart => exact ⟨0, rfl, Nat.zero_le _, ⟨.refl _ _, ⟨_, _, HC.out.2.2.2⟩, ⟨rfl, .inl ⟨rfl, rfl⟩⟩⟩⟩
        case round =>
          obtain ⟨i, rfl, hi, HI⟩ := hrel
          rcases Nat.lt_or_ge i seeds.length with h8 | h8
          · have h9' : (i : Int) < seeds.length := by omega
            obtain ⟨x, hxi⟩ : ∃ x, seeds[i]? = some x := ⟨seeds[i], List.getElem?_eq_getElem _⟩
            have gR : g ≠ w.heap.size := by omega
            have cg : wr.cell? ⟨g, i, none⟩ = some (.int .i64 x) := cell_of_heap (HI.out.keep.heap HG1.out gR) (by simp [ints, hxi])
            obtain ⟨sd, tr0, hWr⟩ := HI.out.world
            have k0 : wr.cell? ⟨w.heap.size, 0, none⟩ = some (.int .i64 sd) := cell_of_heap hWr rfl
            have k1 : wr.cell? ⟨w.heap.size, 1, none⟩ = some (.string tr0) := cell_of_heap hWr rfl
            have y0 : wr.frozen? ⟨w.heap.size, 0, none⟩ = false := frozen_of_heap hWr
            have y1 : wr.frozen? ⟨w.heap.size, 1, none⟩ = false := frozen_of_heap hWr
            have hKS : Keep w.heap.size w1 ((wr.setCell ⟨w.heap.size, 0, none⟩ (.int .i64 x)).setCell ⟨w.heap.size, 1, none⟩ (.string { data := #[] })) := (HI.out.keep.setR 0 _).setR 1 _
            have hWS : WorldP ((wr.setCell ⟨w.heap.size, 0, none⟩ (.int .i64 x)).setCell ⟨w.heap.size, 1, none⟩ (.string { data := #[] })) w.heap.size x noBytes (ptr b) false := heap_set_same (i := 1) (heap_set_same (i := 0) hWr)
            have hev := eval_outside HC.out.1 HC.out.2.2.1 (Nat.lt_succ_self _) HM.out.1 HM.out.2.1 HC.out.2.1 hKS hWS
            have HS : Hid _ := And.intro hKS (And.intro hxi trivial)
            have hmf : ∀ (fn : Fn) (first cap : Array Value) (w : World), (Instr.makeFunc fn first cap).run Tryz.prog w = .ok (.func fn first cap) w := fun _ _ _ _ => rfl
            obtain ⟨ao, cv, rfl⟩ := owns_len HI.out.row
            generalize hr : ev (envOf x) t noBytes = r at hev
            obtain ⟨r, t2⟩ := r
            have HR : Hid _ := hr
            clear hKS hWS hxi hWr hr
            go_wp2_with fail
            refine hev.mono ?_
            rintro e w7 ⟨hk7, he7⟩
            have hk17 : Keep w.heap.size w1 w7 := HS.out.1.trans hk7
            obtain ⟨iv, rfl, hei, hs7⟩ := he7.told (HC.out.1.at hk17)
            have hkr7 : Keep w.heap.size wr w7 := (((Keep.refl _ wr).setR 0 _).setR 1 _).trans hk7
            have hrow7 : w7.ownsRow w1.heap.size 95 6 (.slice ao i cv) i (valsP t (seeds.take i)) := owns_block2 HI.out.row fun k q => hkr7.block k (HI.out.row.lt _ q).2 (by have := (HI.out.row.lt _ q).1; have := HC.out.1.lt; omega)
            have hof : ∀ w', Below w7.heap.size w7 w' → Calls Tryz.prog 24 #[iv] w' fun e w2 => e = .returned (.agg #[.int .i64 (resE r), .int .i64 (resP r), .int .i64 (resM r), .string { data := #[] }]) ∧ Below w'.heap.size w' w2 := hei.2
            have H7 : Hid (Keep w.heap.size w1 w7 ∧ WorldP w7 w.heap.size x t2 (ptr b) false ∧ w7.ownsRow w1.heap.size 95 6 (.slice ao i cv) i (valsP t (seeds.take i))) := ⟨hk17, hs7.2.1, hrow7⟩
            have e1 : w7.cell? ⟨w.heap.size, 1, none⟩ = some (.string t2) := cell_of_heap hs7.2.1 rfl
            have HOF : Hid _ := hof
            clear hev hk7 he7 hk17 hei hs7 hkr7 hrow7 hof
            go_wp2_with fail
            go_region_held_law (fun w' => w'.cell? ⟨w.heap.size, 1, none⟩ = some (.string t2)) (go_keep) (first
              | (go_at_call 24; refine (HOF.out _ (by repeat (first | exact Below.refl _ _ | apply Below.drew))).mono ?_; rintro e w8 ⟨rfl, hb8⟩; have hb8 : Below w7.heap.size w7 w8 := (by first | exact hb8 | exact (Below.refl _ _).drew.trans hb8); have hW8 : WorldP w8 w.heap.size x t2 (ptr b) false := (hb8.block _ (heap_lt H7.out.2.1)).trans H7.out.2.1; have e8 : w8.cell? ⟨w.heap.size, 1, none⟩ = some (.string t2) := cell_of_heap hW8 rfl; have H8 : Hid (Below w7.heap.size w7 w8 ∧ WorldP w8 w.heap.size x t2 (ptr b) false) := ⟨hb8, hW8⟩; clear hb8 hW8)
              | (refine step_append_lies _ (by rfl) (.tmp 47) (.tmp 56) _ (by rfl) w1.heap.size 95 i1 _ 6 64 Tryz.underlying48 hi1 hy0 hy1 hy2 rfl (by omega) (.slice ao i cv) i (valsP t (seeds.take i)) (by rfl) (World.ownsRow.alloc (owns_block2 H7.out.2.2 fun k q => H8.out.1.block k (H7.out.2.2.lt _ q).2) _) ⟨_, 0, none⟩ 1 1 (valP (r, t2)) (by rfl) (by rfl) (news_six (heap_alloc_new _ _)) (by simp [valP, Value.oneCell']) (by omega) (by unfold maxLen; omega) (by omega) (by have := H8.out.1.size; have := H7.out.1.size; simp; omega) _ (by rfl) ?_; intro gg cap w9 hown hgrow hat hlt; have hW9 : WorldP w9 w.heap.size x t2 (ptr b) false := (hgrow.block _ (by have := heap_lt H8.out.2; simp; omega) (fun q => by have := (H7.out.2.2.lt _ q.symm).1; have := HC.out.1.lt; omega)).trans (heap_alloc_old H8.out.2); have e9 : w9.cell? ⟨w.heap.size, 1, none⟩ = some (.string t2) := cell_of_heap hW9 rfl; have Q9 : Hid (w9.ownsRow w1.heap.size 95 6 (.slice (some ⟨gg, 0, none⟩) (i + 1) cap) (i + 1) (valsP t (seeds.take i) ++ valP (r, t2)) ∧ (w8.alloc _).grownBy w9 (Value.slice ao i cv).ownBlock ∧ WorldP w9 w.heap.size x t2 (ptr b) false) := ⟨hown, hgrow, hW9⟩; clear hown hgrow hat hlt hW9))
            go_wp2
            go_roundw
            case rel =>
              refine ⟨i + 1, by go_num, by omega, ⟨?_, ⟨_, _, Q9.out.2.2⟩, ?_⟩⟩
              · have h1 := H7.out.1
                have h2 := H8.out.1
                have h3 := Q9.out.2.1
                refine ⟨h3.os.trans (h2.os.trans h1.os), h3.tape.trans (h2.tape.trans h1.tape), h3.output.trans (h2.output.trans h1.output), Nat.le_trans (Nat.le_trans h1.size h2.size) (by have := h3.size; simp at this; omega), fun k lt ne => ?_⟩
                have l8 := Nat.lt_of_lt_of_le lt (Nat.le_trans h1.size h2.size)
                exact (h3.block k (by simp; omega) (fun q => by have := (H7.out.2.2.lt _ q.symm).1; omega)).trans ((Below.heap_alloc _ _ k l8).trans ((h2.block k (Nat.lt_of_lt_of_le lt h1.size)).trans (h1.block k lt ne)))
              · rw [valsP_take HS.out.2.1, HR.out]
                exact Q9.out.1
            case measure => simp [intOf]; omega
          · have h9' : ¬ (i : Int) < seeds.length := by omega
            obtain rfl : i = seeds.length := by omega
            obtain ⟨ao, cv, rfl⟩ := owns_len HI.out.row
            go_wp2
            go_ret2
            refine ⟨some t, HP.out, HC.out.1.under HI.out.keep, HM.out.1, HM.out.2.1, ?_⟩
            rw [HM.out.2.2.1]
            have hrow := HI.out.row
            rw [List.take_length] at hrow
            exact ⟨_, rfl, owns_base hrow HC.out.1.below.size⟩
end Go.Proofs.YtihmgoahobbdkaaGreatDoor
