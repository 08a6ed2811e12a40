/-
  THE DOCUMENT'S OWN EVAL, WALKED: numbers, measures, choices.
-/
import Derived.Test.YtihmgoahobbdkaaGreatDoorJE41
import Derived.Test.YtihmgoahobbdkaaGreatDoorJE44
import Derived.Deep.RegionHeld3
namespace Go.Proofs.YtihmgoahobbdkaaGreatDoor
open Go.RowKit Go.Lib

/-- What the document's world holds where so many asks are left. -/
def SR (w1 : World) (R : Nat) (cv : Value) (seed T : Int) (k : Nat) (tr : ByteArray) (w : World) : Prop := Keep R w1 w ∧ WorldR w R cv seed T tr ∧ tr.size + 1000 * k ≤ 1000000000
theorem SR.below {w1 : World} {R : Nat} {cv : Value} {seed T : Int} {k : Nat} {tr : ByteArray} {w w' : World} (h : SR w1 R cv seed T k tr w) (hb : Below w.heap.size w w') : SR w1 R cv seed T k tr w' :=
  ⟨h.1.trans (.of_below hb), (hb.block R (heap_lt h.2.1)).trans h.2.1, h.2.2⟩
theorem SR.less {w1 : World} {R : Nat} {cv : Value} {seed T : Int} {k a : Nat} {tr : ByteArray} {w : World} (h : SR w1 R cv seed T (k + a) tr w) : SR w1 R cv seed T k tr w := ⟨h.1, h.2.1, by have := h.2.2; omega⟩
theorem SR.keep {w1 : World} {R : Nat} {cv : Value} {seed T : Int} {k k2 : Nat} {tr tr2 : ByteArray} {w w' : World} (h : SR w1 R cv seed T k tr w) (hk : Keep R w w') (hW : WorldR w' R cv seed T tr2) (hz : tr2.size + 1000 * k2 ≤ 1000000000) : SR w1 R cv seed T k2 tr2 w' := ⟨h.1.trans hk, hW, hz⟩
/-- What the document hands in. -/
def refEnv (M : ByteArray → ByteArray → Int → Int × Int) : Env ByteArray where
  look := some fun kind metric n tr => (foundOf (M kind metric n), trMeas tr kind metric)
  probe := fun nm xs tr => (pfoundOf (asked nm xs), trProbe tr nm)
/-- What a node is worth, at every time from a world on. -/
def RefRun (w1 : World) (R : Nat) (cv : Value) (seed T : Int) (c : Nat) (v : Value) (m : ByteArray → Res × ByteArray) (w0 : World) : Prop :=
  ∀ k tr w, Keep R w0 w → SR w1 R cv seed T (k + c) tr w → Calls Tryz.prog 37 #[v, ptr R] w fun e w' => Keep R w w' ∧ e = .returned (valV (m tr).1) ∧ SR w1 R cv seed T k (m tr).2 w' ∧ In64 (resN (m tr).1)
theorem RefRun.more {w1 : World} {R : Nat} {cv : Value} {seed T : Int} {a b : Nat} {v : Value} {m : ByteArray → Res × ByteArray} {w0 : World} (h : RefRun w1 R cv seed T a v m w0) (hab : a ≤ b) : RefRun w1 R cv seed T b v m w0 :=
  fun k tr w hk hs => h k tr w hk (SR.less (a := b - a) (by rw [show k + a + (b - a) = k + b by omega]; exact hs))
/-- What a measure tells by the document. -/
def MeasF (w1 : World) (R : Nat) (cv : Value) (seed T : Int) (M : ByteArray → ByteArray → Int → Int × Int) : Prop :=
  ∀ tr kind metric n w, Keep R w1 w → WorldR w R cv seed T tr → tr.size ≤ 1000000000 → kind.size < 256 → metric.size < 256 → isMeasure kind = true → 0 ≤ n → n < 1000000000 →
    Calls Tryz.prog 58 #[ptr R, .string kind, .string metric, .int .i64 n] w fun e w' => e = .returned (.agg #[.int .i64 (M kind metric n).1, .int .i64 (M kind metric n).2]) ∧ Keep R w w' ∧ WorldR w' R cv seed T (trMeas tr kind metric)
theorem meas_made (w1 : World) (R : Nat) (seed T : Int) : MeasF w1 R (.pointer none) seed T (fun kind metric n => made (mixed kind metric n seed)) := fun _ _ _ _ _ _ hW ht hk hm _ _ _ => ref_Measured hW ht hk hm
theorem set4 {R : Nat} {w w2 : World} {cv : Value} {seed T : Int} {tr : ByteArray} (hk : Keep R w w2) (hW : WorldR w2 R cv seed T tr) (hR : R < w.heap.size) (a b c d : Value) :
    Keep R w ((((w2.setCell ⟨w.heap.size, 0, none⟩ a).setCell ⟨w.heap.size, 1, none⟩ b).setCell ⟨w.heap.size, 2, none⟩ c).setCell ⟨w.heap.size, 3, none⟩ d) ∧ WorldR ((((w2.setCell ⟨w.heap.size, 0, none⟩ a).setCell ⟨w.heap.size, 1, none⟩ b).setCell ⟨w.heap.size, 2, none⟩ c).setCell ⟨w.heap.size, 3, none⟩ d) R cv seed T tr := by
  have ne : R ≠ w.heap.size := by omega
  exact ⟨(((hk.setNew (Nat.le_refl _) _).setNew (Nat.le_refl _) _).setNew (Nat.le_refl _) _).setNew (Nat.le_refl _) _, heap_set_other (heap_set_other (heap_set_other (heap_set_other hW ne) ne) ne) ne⟩
theorem resOf_in {p : Nat} {x : Int × Int} (h : In64 x.1) : In64 (resN (resOf p x)) := by
  unfold resOf
  repeat' split
  · exact h
  all_goals (unfold In64; simp [resN])
theorem ref_done {w1 : World} {R : Nat} {cv : Value} {seed T : Int} {k : Nat} {tr : ByteArray} {w w' : World} {r : Res} (h : SR w1 R cv seed T k tr w) (hb : Below w.heap.size w w') (hn : In64 (resN r)) : Keep R w w' ∧ Ending.returned (valV r) = Ending.returned (valV r) ∧ SR w1 R cv seed T k tr w' ∧ In64 (resN r) := ⟨.of_below hb, rfl, h.below hb, hn⟩
section
variable {w1 w0 : World} {R : Nat} {cv : Value} {seed T : Int} {M : ByteArray → ByteArray → Int → Int × Int}
set_option maxRecDepth 1000000 in
set_option maxHeartbeats 1000000 in
theorem refrun_num {p : Nat} {n : Int} {v : Value} (hn : In64 n) (h : NodeAt (fun b => b ≠ R) w0 v 35 p n noBytes noBytes []) : RefRun w1 R cv seed T 0 v (fun s => (.val n, s)) w0 := by
  obtain ⟨b, pv, rfl, hb, hblk, -⟩ := h
  intro k tr w hk hs
  have hs : SR w1 R cv seed T k tr w := hs
  have hblk := hk.heap hblk hb
  have c0 : w.cell? ⟨b, 0, none⟩ = some (.int .u8 35) := cell_of_heap hblk rfl
  have c2 : w.cell? ⟨b, 2, none⟩ = some (.int .i64 n) := cell_of_heap hblk rfl
  have lb := heap_lt hblk
  have HS : Hid _ := And.intro hs hn
  clear hs hblk hk hn
  go_enter Tryz.func37, Tryz.ntmps37
  go_wp2
  refine bodyPost_ret (v := valV (.val n)) (by simp [valV, resN, resE, resP, resM, results, Tryz.results37, go_sem]) rfl ?_
  refine ref_done HS.out.1 ?_ HS.out.2
  repeat (first | exact Below.refl _ _ | refine Below.setCell ?_ (by simp) _ | refine Below.alloc ?_ (by simp) _)
set_option maxRecDepth 1000000 in
set_option maxHeartbeats 1000000 in
theorem refrun_meas (hM : MeasF w1 R cv seed T M) (hMe : ∀ kind metric n, (M kind metric n).2 = 0 ∨ (M kind metric n).2 = 9 ∨ (M kind metric n).2 = 11) (hMi : ∀ kind metric n, In64 (M kind metric n).1) {p : Nat} {n : Int} {wd met : ByteArray} {v : Value} (h0 : 0 ≤ n) (h9 : n < 1000000000) (hwd : wd.size < 256) (hmt : met.size < 256) (him : isMeasure wd = true) (h : NodeAt (fun b => b ≠ R) w0 v 109 p n wd met []) :
    RefRun w1 R cv seed T 1 v (fun s => measured p (foundOf (M wd met n), trMeas s wd met)) w0 := by
  obtain ⟨b, pv, rfl, hb, hblk, -⟩ := h
  intro k tr w hk hs
  have hblk := hk.heap hblk hb
  have c0 : w.cell? ⟨b, 0, none⟩ = some (.int .u8 109) := cell_of_heap hblk rfl
  have c2 : w.cell? ⟨b, 2, none⟩ = some (.int .i64 n) := cell_of_heap hblk rfl
  have c3 : w.cell? ⟨b, 3, none⟩ = some (.string wd) := cell_of_heap hblk rfl
  have c4 : w.cell? ⟨b, 4, none⟩ = some (.string met) := cell_of_heap hblk rfl
  have lb := heap_lt hblk
  have e1 : measured p (foundOf (M wd met n), trMeas tr wd met) = (resOf p (M wd met n), trMeas tr wd met) := measured_of (hMe wd met n)
  have hx := hMe wd met n
  have hx2 := hMi wd met n
  show Calls _ _ _ _ fun e w' => Keep R w w' ∧ e = .returned (valV (measured p (foundOf (M wd met n), trMeas tr wd met)).1) ∧ SR w1 R cv seed T k (measured p (foundOf (M wd met n), trMeas tr wd met)).2 w' ∧ In64 (resN (measured p (foundOf (M wd met n), trMeas tr wd met)).1)
  rw [e1]
  have hz := hs.2.2
  have HS : Hid _ := And.intro hs (And.intro hblk hx)
  go_enter Tryz.func37, Tryz.ntmps37
  have c1 : w.cell? ⟨b, 1, none⟩ = some (.int .i64 p) := cell_of_heap hblk rfl
  have neR : w.heap.size ≠ R := by have := heap_lt hs.2.1; omega
  have neR1 : w.heap.size + 1 ≠ R := by have := heap_lt hs.2.1; omega
  have nb1 : ¬ b = w.heap.size + 1 := by omega
  have nb2 : ¬ w.heap.size + 1 = b := by omega
  clear hblk hs
  go_wp2_with fail
  go_region_held3 (fun w' => w'.cell? ⟨b, 1, none⟩ = some (.int .i64 p) ∧ w'.cell? ⟨b, 2, none⟩ = some (.int .i64 n) ∧ w'.cell? ⟨b, 3, none⟩ = some (.string wd) ∧ w'.cell? ⟨b, 4, none⟩ = some (.string met)) (go_keep)
    (first
      | (go_at_call 58; refine (hM tr wd met n _ (by repeat (first | exact HS.out.1.1 | refine Keep.drew ?_ | refine Keep.alloc ?_ _)) (by first | exact heap_alloc_old HS.out.1.2.1 | exact heap_alloc_old (heap_alloc_old HS.out.1.2.1)) (by omega) hwd hmt him h0 h9).mono ?_; rintro e w9 ⟨rfl, hk9, hW9⟩; have hkw : Keep R w w9 := (by first | exact ((Keep.refl R w).alloc _).drew.trans hk9 | exact (((Keep.refl R w).alloc _).alloc _).drew.trans hk9); have HK9 : Hid _ := And.intro hkw hW9; have k1 : w9.cell? ⟨b, 1, none⟩ = some (.int .i64 p) := cell_of_heap (hkw.heap HS.out.2.1 hb) rfl; have k2 : w9.cell? ⟨b, 2, none⟩ = some (.int .i64 n) := cell_of_heap (hkw.heap HS.out.2.1 hb) rfl; have k3 : w9.cell? ⟨b, 3, none⟩ = some (.string wd) := cell_of_heap (hkw.heap HS.out.2.1 hb) rfl; have k4 : w9.cell? ⟨b, 4, none⟩ = some (.string met) := cell_of_heap (hkw.heap HS.out.2.1 hb) rfl; have b0 : w9.heap[w.heap.size]? = some (.cells #[.int .i64 0, .int .i64 0, .int .i64 0, .int .i64 0] 101 (0, 0)) := (by first | exact (hk9.block _ (by simp <;> omega) neR).trans (heap_alloc_new _ _) | exact (hk9.block _ (by simp <;> omega) neR).trans (heap_alloc_old (heap_alloc_new _ _))); have HB0 : Hid _ := b0; (first | (have b1 : w9.heap[w.heap.size + 1]? = some (.cells #[.int .i64 0, .int .i64 0] 153 (0, 0)) := (hk9.block _ (by simp <;> omega) neR1).trans (heap_alloc_new9 _ _ (by simp)); have q0 := cell_of_heap (i := 0) b1 rfl; have q1 := cell_of_heap (i := 1) b1 rfl; have y0 := frozen_of_heap (i := 0) b1; have y1 := frozen_of_heap (i := 1) b1; have ly := heap_lt b1; clear b1) | skip); have nb9 : ¬ b = w9.heap.size := (by have := hkw.size; omega); have nb8 : ¬ w9.heap.size = b := (by have := hkw.size; omega); clear hk9 hW9 b0 hkw))
  all_goals go_wp2_with fail
  · have hk2 : Keep R w (w9.alloc (.cells #[.int .i64 (M wd met n).1, .int .i64 (M wd met n).2] 153)) := HK9.out.1.alloc _
    have hW2 : WorldR (w9.alloc (.cells #[.int .i64 (M wd met n).1, .int .i64 (M wd met n).2] 153)) R cv seed T (trMeas tr wd met) := heap_alloc_old HK9.out.2
    have hB2 : (w9.alloc (.cells #[.int .i64 (M wd met n).1, .int .i64 (M wd met n).2] 153)).heap[w.heap.size]? = some (.cells #[.int .i64 0, .int .i64 0, .int .i64 0, .int .i64 0] 101 (0, 0)) := heap_alloc_old HB0.out
    generalize w9.alloc (.cells #[.int .i64 (M wd met n).1, .int .i64 (M wd met n).2] 153) = w2 at hk2 hW2 hB2 ⊢
    have hh := ref_hold (p := p) (x := M wd met n) (w := w2) (cell_of_heap (hk2.heap HS.out.2.1 hb) rfl) (by omega)
    have HK2 : Hid (Keep R w w2 ∧ WorldR w2 R cv seed T (trMeas tr wd met) ∧ w2.heap[w.heap.size]? = some (.cells #[.int .i64 0, .int .i64 0, .int .i64 0, .int .i64 0] 101 (0, 0))) := ⟨hk2, hW2, hB2⟩
    unfold valV at hh
    clear hk2 hW2 hB2
    refine hh.mono ?_
    rintro e w10 ⟨rfl, hb10⟩
    have b2 := (hb10.block _ (heap_lt HK2.out.2.2)).trans HK2.out.2.2
    have rc0 := cell_of_heap (i := 0) (v := .int .i64 0) b2 rfl
    have rc1 := cell_of_heap (i := 1) (v := .int .i64 0) b2 rfl
    have rc2 := cell_of_heap (i := 2) (v := .int .i64 0) b2 rfl
    have rc3 := cell_of_heap (i := 3) (v := .int .i64 0) b2 rfl
    have rz0 := frozen_of_heap (i := 0) b2
    have rz1 := frozen_of_heap (i := 1) b2
    have rz2 := frozen_of_heap (i := 2) b2
    have rz3 := frozen_of_heap (i := 3) b2
    have HB10 : Hid _ := hb10
    clear b2 hb10 hh
    go_wp2
    refine bodyPost_ret (v := valV (resOf p (M wd met n))) (by simp [valV, results, Tryz.results37, go_sem, rc0, rc1, rc2, rc3]) rfl ?_
    have q := set4 (HK2.out.1.trans (.of_below HB10.out)) ((HB10.out.block R (heap_lt HK2.out.2.1)).trans HK2.out.2.1) (heap_lt HS.out.1.2.1) (.int .i64 (resN (resOf p (M wd met n)))) (.int .i64 (resE (resOf p (M wd met n)))) (.int .i64 (resP (resOf p (M wd met n)))) (.int .i64 (resM (resOf p (M wd met n))))
    exact ⟨q.1, rfl, HS.out.1.keep q.1 q.2 (by rw [trMeas_size]; omega), resOf_in hx2⟩
  · have hk2 : Keep R w ((w9.setCell ⟨w.heap.size + 1, 0, none⟩ (.int .i64 (M wd met n).1)).setCell ⟨w.heap.size + 1, 1, none⟩ (.int .i64 (M wd met n).2)) := (HK9.out.1.setNew (by show w.heap.size ≤ w.heap.size + 1; omega) _).setNew (by show w.heap.size ≤ w.heap.size + 1; omega) _
    have hW2 : WorldR ((w9.setCell ⟨w.heap.size + 1, 0, none⟩ (.int .i64 (M wd met n).1)).setCell ⟨w.heap.size + 1, 1, none⟩ (.int .i64 (M wd met n).2)) R cv seed T (trMeas tr wd met) := heap_set_other (heap_set_other HK9.out.2 (Ne.symm neR1)) (Ne.symm neR1)
    have hB2 : ((w9.setCell ⟨w.heap.size + 1, 0, none⟩ (.int .i64 (M wd met n).1)).setCell ⟨w.heap.size + 1, 1, none⟩ (.int .i64 (M wd met n).2)).heap[w.heap.size]? = some (.cells #[.int .i64 0, .int .i64 0, .int .i64 0, .int .i64 0] 101 (0, 0)) := heap_set_other (heap_set_other HB0.out (by show w.heap.size ≠ w.heap.size + 1; omega)) (by show w.heap.size ≠ w.heap.size + 1; omega)
    generalize (w9.setCell ⟨w.heap.size + 1, 0, none⟩ (.int .i64 (M wd met n).1)).setCell ⟨w.heap.size + 1, 1, none⟩ (.int .i64 (M wd met n).2) = w2 at hk2 hW2 hB2 ⊢
    have hh := ref_hold (p := p) (x := M wd met n) (w := w2) (cell_of_heap (hk2.heap HS.out.2.1 hb) rfl) (by omega)
    have HK2 : Hid (Keep R w w2 ∧ WorldR w2 R cv seed T (trMeas tr wd met) ∧ w2.heap[w.heap.size]? = some (.cells #[.int .i64 0, .int .i64 0, .int .i64 0, .int .i64 0] 101 (0, 0))) := ⟨hk2, hW2, hB2⟩
    unfold valV at hh
    clear hk2 hW2 hB2
    refine hh.mono ?_
    rintro e w10 ⟨rfl, hb10⟩
    have b2 := (hb10.block _ (heap_lt HK2.out.2.2)).trans HK2.out.2.2
    have rc0 := cell_of_heap (i := 0) (v := .int .i64 0) b2 rfl
    have rc1 := cell_of_heap (i := 1) (v := .int .i64 0) b2 rfl
    have rc2 := cell_of_heap (i := 2) (v := .int .i64 0) b2 rfl
    have rc3 := cell_of_heap (i := 3) (v := .int .i64 0) b2 rfl
    have rz0 := frozen_of_heap (i := 0) b2
    have rz1 := frozen_of_heap (i := 1) b2
    have rz2 := frozen_of_heap (i := 2) b2
    have rz3 := frozen_of_heap (i := 3) b2
    have HB10 : Hid _ := hb10
    clear b2 hb10 hh
    go_wp2
    refine bodyPost_ret (v := valV (resOf p (M wd met n))) (by simp [valV, results, Tryz.results37, go_sem, rc0, rc1, rc2, rc3]) rfl ?_
    have q := set4 (HK2.out.1.trans (.of_below HB10.out)) ((HB10.out.block R (heap_lt HK2.out.2.1)).trans HK2.out.2.1) (heap_lt HS.out.1.2.1) (.int .i64 (resN (resOf p (M wd met n)))) (.int .i64 (resE (resOf p (M wd met n)))) (.int .i64 (resP (resOf p (M wd met n)))) (.int .i64 (resM (resOf p (M wd met n))))
    exact ⟨q.1, rfl, HS.out.1.keep q.1 q.2 (by rw [trMeas_size]; omega), resOf_in hx2⟩
end
end Go.Proofs.YtihmgoahobbdkaaGreatDoor
namespace Go.Proofs.YtihmgoahobbdkaaGreatDoor
open Go.RowKit Go.Lib

theorem tr_assoc (tr kind metric : ByteArray) : tr ++ (kind ++ ⟨#[32]⟩ ++ metric ++ ⟨#[59]⟩) = trMeas tr kind metric := by
  unfold trMeas
  simp only [ByteArray.append_assoc]
theorem mix_in {k : Int} : ∀ (l : List UInt8) {h : Int}, In64 h → In64 (mix k l h)
  | [], _, hh => hh
  | b :: l, h, _ => by
    show In64 (mix k l (wrap64 (wrap64 (h * k) + b.toNat)))
    exact mix_in l (by unfold wrap64 In64; omega)
theorem mixed_in (kind metric : ByteArray) (n seed : Int) : In64 (mixed kind metric n seed) := mix_in _ (mix_in _ (by unfold wrap64 In64; omega))
set_option maxRecDepth 1000000 in
set_option maxHeartbeats 2000000 in
theorem look_outside {A : Nat → Addr} {w0 w1 : World} {R : Nat} {av : Value} {seed : Int} (hx : Ctx A w0 w1 R) (hn : Nest w1 R av) :
    LookF (SP w1 R av seed) R (.func (.func 36) #[ptr R] #[]) (fun kind metric n tr => (foundOf (made (mixed kind metric n seed)), trMeas tr kind metric)) := by
  refine ⟨_, _, _, rfl, fun args w => by rfl, fun k kind metric n tr w hn64 hk hm hs => ?_⟩
  show Calls _ _ #[ptr R, .string kind, .string metric, .int .i64 n] w fun e w' => Keep R w w' ∧ LookR (SP w1 R av seed k) (foundOf (made (mixed kind metric n seed)), trMeas tr kind metric) w' e
  have hW := hs.2.1
  have hz := hs.2.2
  have c0 : w.cell? ⟨R, 0, none⟩ = some (.int .i64 seed) := cell_of_heap hW rfl
  have c1 : w.cell? ⟨R, 1, none⟩ = some (.string tr) := cell_of_heap hW rfl
  have c2 : w.cell? ⟨R, 2, none⟩ = some av := cell_of_heap hW rfl
  have c3 : w.cell? ⟨R, 3, none⟩ = some (.bool false) := cell_of_heap hW rfl
  have z1 : w.frozen? ⟨R, 1, none⟩ = false := frozen_of_heap hW
  have z3 : w.frozen? ⟨R, 3, none⟩ = false := frozen_of_heap hW
  have lR := heap_lt hW
  have s1 : (kind ++ (⟨#[32]⟩ : ByteArray)).size = kind.size + 1 := by simp; rfl
  have s2 : (kind ++ (⟨#[32]⟩ : ByteArray) ++ metric).size = kind.size + 1 + metric.size := by rw [ByteArray.size_append, s1]
  have s3 : (kind ++ (⟨#[32]⟩ : ByteArray) ++ metric ++ (⟨#[59]⟩ : ByteArray)).size = kind.size + 1 + metric.size + 1 := by rw [ByteArray.size_append, s2]; rfl
  have HS : Hid _ := And.intro hs hx
  have hTR := tr_assoc tr kind metric
  have hme := fun w => plain_Measure kind metric (width := n) (seed := seed) (by omega) (by omega) w
  have hze := made_e (mixed kind metric n seed)
  have hzi := made_in (mixed_in kind metric n seed)
  generalize made (mixed kind metric n seed) = z at *
  obtain ⟨a, c⟩ := z
  simp only at hme hze hzi
  have hsz := trMeas_size tr kind metric
  rcases hn with rfl | ⟨b, lo, t, rfl, hlo, hf, ha⟩
  · clear hs hx hW
    go_enter Tryz.func36, Tryz.ntmps36
    go_wp2_with fail
    refine (hme _).mono ?_
    rintro e w2 ⟨rfl, hw2⟩
    have hK : Keep R w w2 := by rw [hw2]; exact (Keep.refl R w).setR 1 _
    have hS : SP w1 R (.pointer none) seed k (trMeas tr kind metric) w2 := ⟨HS.out.1.1.trans hK, by rw [hw2]; exact heap_set_same HS.out.1.2.1, by omega⟩
    have HF : Hid _ := And.intro hK hS
    clear hK hS hw2
    rcases hze with rfl | rfl | rfl
    · go_wp2
      go_ret2
      exact ⟨HF.out.1, rfl, hzi, HF.out.2⟩
    · go_wp2
      go_ret2
      exact ⟨HF.out.1, rfl, HF.out.2⟩
    · go_wp2
      exact ⟨rfl, HF.out.1, rfl, HF.out.2⟩
  · have HN : Hid _ := And.intro hlo (And.intro hf ha)
    clear hs hx hW hlo hf ha
    go_enter Tryz.func36, Tryz.ntmps36
    go_wp2_with fail
    have hW2 : WorldP ((w.setCell ⟨R, 1, none⟩ (.string (trMeas tr kind metric))).setCell ⟨R, 3, none⟩ (.bool true)) R seed (trMeas tr kind metric) (ptr b) true := heap_set_same (i := 3) (heap_set_same (i := 1) HS.out.1.2.1)
    have hK2 : Keep R w ((w.setCell ⟨R, 1, none⟩ (.string (trMeas tr kind metric))).setCell ⟨R, 3, none⟩ (.bool true)) := ((Keep.refl R w).setR 1 _).setR 3 _
    refine (eval_inside HS.out.2 HN.out.1 HN.out.2.1 HN.out.2.2 ⟨HS.out.1.1.trans hK2, hW2, by omega⟩).mono ?_
    rintro e w5 ⟨hk5, hW5, nv, vv, rfl⟩
    have k0 : w5.cell? ⟨R, 0, none⟩ = some (.int .i64 seed) := cell_of_heap hW5 rfl
    have k3 : w5.cell? ⟨R, 3, none⟩ = some (.bool true) := cell_of_heap hW5 rfl
    have y3 : w5.frozen? ⟨R, 3, none⟩ = false := frozen_of_heap hW5
    have l5 := heap_lt hW5
    have HK5 : Hid (Keep R w w5 ∧ WorldP w5 R seed (trMeas tr kind metric) (ptr b) true) := ⟨hK2.trans hk5, hW5⟩
    clear hW2 hK2 hk5 hW5
    go_wp2_with fail
    refine (hme _).mono ?_
    rintro e w2 ⟨rfl, hw2⟩
    have hK : Keep R w w2 := by rw [hw2]; exact HK5.out.1.setR 3 _
    have hS : SP w1 R (ptr b) seed k (trMeas tr kind metric) w2 := ⟨HS.out.1.1.trans hK, by rw [hw2]; exact heap_set_same (i := 3) HK5.out.2, by omega⟩
    have HF : Hid _ := And.intro hK hS
    clear hK hS hw2
    rcases hze with rfl | rfl | rfl
    · go_wp2
      go_ret2
      exact ⟨HF.out.1, rfl, hzi, HF.out.2⟩
    · go_wp2
      go_ret2
      exact ⟨HF.out.1, rfl, HF.out.2⟩
    · go_wp2
      exact ⟨rfl, HF.out.1, rfl, HF.out.2⟩
end Go.Proofs.YtihmgoahobbdkaaGreatDoor
