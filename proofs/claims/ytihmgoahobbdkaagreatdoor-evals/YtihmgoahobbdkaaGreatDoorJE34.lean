/-
  plain.Of AT A HoldError AND AT ErrCode, WALKED.
-/
import Derived.Test.YtihmgoahobbdkaaGreatDoorJE17
import Derived.Test.YtihmgoahobbdkaaGreatDoorJE33
import Derived.Test.YtihmgoahobbdkaaGreatDoorJE27
import Derived.Test.YtihmgoahobbdkaaGreatDoorJE2
import Derived.Test.YtihmgoahobbdkaaGreatDoorJE28
namespace Go.Proofs.YtihmgoahobbdkaaGreatDoor
open Go.RowKit Go.Lib

/-- The sentinels, each in a block of its own address. -/
structure SentsX (A : Nat → Addr) (w : World) : Prop where
  sents : Sents A w
  row : ∀ i, i < 8 → ∃ c t, w.heap[(A i).block]? = some (.cells c t (0, 0))
  ne : ∀ i j, i < 8 → j < 8 → i ≠ j → A i ≠ A j
  etype : EType w
theorem SentsX.below {A : Nat → Addr} {w w' : World} (h : SentsX A w) (hb : Below w.heap.size w w') : SentsX A w' :=
  ⟨h.sents.below hb, fun i hi => by obtain ⟨c, t, e⟩ := h.row i hi; exact ⟨c, t, (hb.block _ (heap_lt e)).trans e⟩, h.ne, h.etype.below hb⟩
theorem Tryz.assertH1 (v : Value) (xT : TypeId) (w : World) : (Instr.typeAssert (.iface 118 v) xT 110 true).run Tryz.prog w = .ok (.tuple #[.pointer none, .bool false]) w := by kernel_rfl
theorem Tryz.assertH2 (v : Value) (xT : TypeId) (w : World) : (Instr.typeAssert (.iface 118 v) xT 115 true).run Tryz.prog w = .ok (.tuple #[.pointer none, .bool false]) w := by kernel_rfl
theorem Tryz.assertH3 (v : Value) (xT : TypeId) (w : World) : (Instr.typeAssert (.iface 118 v) xT 118 true).run Tryz.prog w = .ok (.tuple #[v, .bool true]) w := by kernel_rfl
/-- What a reason is told as. -/
def toldW : Why → Nat → Value
  | .divide, p => toldH 8 p 0
  | .noData, p => toldH 9 p 0
  | .failed, p => toldH 10 p 0
  | .panic n, p => toldH 11 p n
section
variable {A : Nat → Addr} {w : World} {b p : Nat} {T : TypeId} {x : Value} {y : Why}
theorem plain_hold (hs : SentsX A w) (hh : HoldAt w b p T x) (hw : WhyAt A w y T x) : Calls Tryz.prog 42 #[ptr b] w fun e w' => e = .returned (toldW y p) ∧ Below w.heap.size w w' := by
  cases y with
  | divide =>
    obtain ⟨rfl, rfl⟩ := hw
    exact hold_divide b p (A 5) w hs.etype (cell_of_heap hh rfl) (cell_of_heap hh rfl) hs.sents.g5
  | noData =>
    obtain ⟨rfl, rfl⟩ := hw
    obtain ⟨c5, t5, h5⟩ := hs.row 5 (by decide)
    obtain ⟨c6, t6, h6⟩ := hs.row 6 (by decide)
    exact hold_noData b p (A 6) w hs.etype (cell_of_heap hh rfl) (cell_of_heap hh rfl) (A 5) hs.sents.g5 hs.sents.g6 (hs.ne 6 5 (by decide) (by decide) (by decide)) h6 h5
  | failed =>
    obtain ⟨rfl, c, rfl⟩ := hw
    exact hold_failed b p ⟨c, 0, none⟩ w hs.etype (cell_of_heap hh rfl) (cell_of_heap hh rfl)
  | panic n =>
    obtain ⟨rfl, c, rfl, ho⟩ := hw
    exact hold_panic b c p ⟨c, 0, none⟩ w hs.etype (cell_of_heap hh rfl) (cell_of_heap hh rfl) n (cell_of_heap ho rfl) rfl
set_option maxRecDepth 1000000 in
set_option maxHeartbeats 1000000 in
theorem of_hold (hs : SentsX A w) (hh : HoldAt w b p T x) (hw : WhyAt A w y T x) : Calls Tryz.prog 24 #[.iface 118 (ptr b)] w fun e w' => e = .returned (toldW y p) ∧ Below w.heap.size w w' := by
  have hx : Below w.heap.size w (w.alloc (.cells #[.int .i64 0, .int .i64 0, .int .i64 0, .string { data := #[] }] 23)) := (Below.refl _ _).alloc (Nat.le_refl _) _
  have hcl := plain_hold (hs.below hx) (((hx.block b (heap_lt hh)).trans hh : HoldAt _ b p T x)) (hw.below hx)
  obtain ⟨ce, cn, he⟩ : ∃ ce cn, toldW y p = .agg #[.int .i64 ce, .int .i64 (p : Int), .int .i64 cn, .string { data := #[] }] := by cases y <;> exact ⟨_, _, rfl⟩
  rw [he] at hcl ⊢
  have t1 := Tryz.assertH1
  have t2 := Tryz.assertH2
  have t3 := Tryz.assertH3
  have HX : Hid _ := hx
  clear hs hh hw hx he
  go_enter Tryz.func24, Tryz.ntmps24
  go_wp2_with fail
  refine hcl.mono ?_
  rintro e w1 ⟨rfl, hb1⟩
  have bn : w1.heap[w.heap.size]? = some (.cells #[.int .i64 0, .int .i64 0, .int .i64 0, .string { data := #[] }] 23 (0, 0)) := (hb1.block _ (by simp)).trans cells_new
  have c0 := cell_of_heap (i := 0) bn rfl
  have c1 := cell_of_heap (i := 1) bn rfl
  have c2 := cell_of_heap (i := 2) bn rfl
  have c3 := cell_of_heap (i := 3) bn rfl
  have z0 := frozen_of_heap (i := 0) bn
  have z1 := frozen_of_heap (i := 1) bn
  have z2 := frozen_of_heap (i := 2) bn
  have z3 := frozen_of_heap (i := 3) bn
  have HB : Hid (Below w.heap.size w w1) := HX.out.trans (hb1.mono (by simp))
  clear bn hb1 hcl HX
  go_wp2
  refine bodyPost_ret (v := .agg #[.int .i64 ce, .int .i64 (p : Int), .int .i64 cn, .string { data := #[] }]) (by simp [results, Tryz.results24, go_sem, c0, c1, c2, c3]) rfl ⟨rfl, ?_⟩
  iterate 4 (refine Below.setCell ?_ (by exact Nat.le_refl _) _)
  exact HB.out
set_option maxRecDepth 1000000 in
set_option maxHeartbeats 2000000 in
theorem code_sentinelC (h : SentsX A w) : Calls Tryz.prog 43 #[.iface 355 (.pointer (some (A 1)))] w fun e w' => e = .returned (.int .i64 4) ∧ Below w.heap.size w w' := by
  obtain ⟨ca, ta, ha⟩ := h.row 1 (by decide)
  obtain ⟨cb, tb, hb⟩ := h.row 0 (by decide)
  have hne := h.ne 1 0 (by decide) (by decide) (by decide)
  obtain ⟨⟨g0, g1, g2, g3, g4, g5, g6, g7⟩, -, -, -⟩ := h
  obtain ⟨ti, hi, hcmp⟩ := Option.map_eq_some_iff.1 Tryz.isComp
  obtain ⟨tj, hj, hjs⟩ := Option.map_eq_some_iff.1 Tryz.isSize
  have heq := fun W => run_eql_iface_ptr_same (P := Tryz.prog) W (A 1) Tryz.underlying60 Tryz.underlying355 hi hcmp hj
  have hot := fun W => run_eql_iface_ptr_other (P := Tryz.prog) W (ca := ca) (cb := cb) (ta := ta) (tb := tb) Tryz.underlying60 Tryz.underlying355 hi hcmp hj (by rw [hjs]; decide) hne
  clear hi hcmp hj hjs
  go_enter Tryz.func43, Tryz.ntmps43
  go_wp2_with fail
  obtain ⟨X, hX⟩ : ∃ X, X = w.alloc (.cells #[.nilIface, .iface 355 (.pointer (some (A 0))), .nilIface, .nilIface, .iface 355 (.pointer (some (A 1))), .iface 355 (.pointer (some (A 2))), .iface 355 (.pointer (some (A 3))), .iface 355 (.pointer (some (A 4))), .iface 355 (.pointer (some (A 5))), .iface 355 (.pointer (some (A 6))), .nilIface, .nilIface, .iface 355 (.pointer (some (A 7)))] 60) := ⟨_, rfl⟩
  rw [← hX]
  have x0 : X.cell? ⟨w.heap.size, 0, none⟩ = some .nilIface := by rw [hX]; go_simp
  have x1 : X.cell? ⟨w.heap.size, 1, none⟩ = some (.iface 355 (.pointer (some (A 0)))) := by rw [hX]; go_simp
  have x2 : X.cell? ⟨w.heap.size, 2, none⟩ = some .nilIface := by rw [hX]; go_simp
  have x3 : X.cell? ⟨w.heap.size, 3, none⟩ = some .nilIface := by rw [hX]; go_simp
  have x4 : X.cell? ⟨w.heap.size, 4, none⟩ = some (.iface 355 (.pointer (some (A 1)))) := by rw [hX]; go_simp
  have hbx : Below w.heap.size w X := by rw [hX]; exact (Below.refl _ _).alloc (Nat.le_refl _) _
  have hot := hot X ((hbx.block _ (heap_lt ha)).trans ha) ((hbx.block _ (heap_lt hb)).trans hb)
  have HX : Hid (Below w.heap.size w X) := hbx
  clear hX hbx g0 g1 g2 g3 g4 g5 g6 g7 ha hb
  refine wp_loop_rounds 5 ?_
  rw [rounds_succ]
  go_wp2_with fail
  rw [rounds_succ]
  go_wp2_with fail
  rw [rounds_succ]
  go_wp2_with fail
  rw [rounds_succ]
  go_wp2_with fail
  rw [rounds_succ]
  go_wp2
  go_ret
  exact ⟨rfl, HX.out⟩
set_option maxRecDepth 1000000 in
set_option maxHeartbeats 1000000 in
theorem of_code (h : SentsX A w) : Calls Tryz.prog 24 #[.iface 355 (.pointer (some (A 1)))] w fun e w' => e = .returned (told4 4 0 ⟨#[]⟩) ∧ Below w.heap.size w w' := by
  have t1 := Tryz.assertE1
  have t2 := Tryz.assertE2
  have t3 := Tryz.assertE3
  have hx : Below w.heap.size w (w.alloc (.cells #[.int .i64 0, .int .i64 0, .int .i64 0, .string { data := #[] }] 23)) := (Below.refl _ _).alloc (Nat.le_refl _) _
  have hse := code_sentinelC (h.below hx)
  have HX : Hid _ := hx
  clear h hx
  go_enter Tryz.func24, Tryz.ntmps24
  go_wp2_with fail
  refine hse.mono ?_
  rintro e w1 ⟨rfl, hb1⟩
  have bn : w1.heap[w.heap.size]? = some (.cells #[.int .i64 0, .int .i64 0, .int .i64 0, .string { data := #[] }] 23 (0, 0)) := (hb1.block _ (by simp)).trans cells_new
  have c0 := cell_of_heap (i := 0) bn rfl
  have c1 := cell_of_heap (i := 1) bn rfl
  have c2 := cell_of_heap (i := 2) bn rfl
  have c3 := cell_of_heap (i := 3) bn rfl
  have z0 := frozen_of_heap (i := 0) bn
  have z1 := frozen_of_heap (i := 1) bn
  have z2 := frozen_of_heap (i := 2) bn
  have z3 := frozen_of_heap (i := 3) bn
  have HB : Hid (Below w.heap.size w w1) := HX.out.trans (hb1.mono (by simp))
  clear bn hb1 hse HX
  go_wp2
  refine bodyPost_ret (v := told4 4 0 ⟨#[]⟩) (by simp [told4, results, Tryz.results24, go_sem, c0, c1, c2, c3]) rfl ⟨rfl, ?_⟩
  iterate 4 (refine Below.setCell ?_ (by exact Nat.le_refl _) _)
  exact HB.out
/-- What a value or a reason is told as. -/
def toldR : Res → Value
  | .val _ => told4 0 0 ⟨#[]⟩
  | .held p y => toldW y p
end
end Go.Proofs.YtihmgoahobbdkaaGreatDoor
namespace Go.Proofs.YtihmgoahobbdkaaGreatDoor
open Go.RowKit Go.Lib

/-- A run of bytes, reckoned up. -/
def mix (k : Int) (l : List UInt8) (h : Int) : Int := l.foldl (fun h b => wrap64 (wrap64 (h * k) + b.toNat)) h
theorem mix_snoc (k : Int) (l : List UInt8) (b : UInt8) (h : Int) : mix k (l ++ [b]) h = wrap64 (wrap64 (mix k l h * k) + b.toNat) := by simp [mix, List.foldl_append]
def mixed (kind metric : ByteArray) (width seed : Int) : Int := mix 5 metric.data.toList (mix 3 kind.data.toList (wrap64 (seed.tmod 1000 + width.tmod 1000)))
/-- What a made-up measurement tells. -/
def made (h : Int) : Int × Int := if h.tmod 11 = 0 then (9, 9) else if h.tmod 13 = 0 then (h, 11) else if h.tmod 7 = 0 then (wrap64 (9223372036854775807 - h.tmod 3), 0) else (h.tmod 41 - 20, 0)
theorem mix_take (k : Int) {b : ByteArray} {i : Nat} (h : i < b.size) (x : Int) : mix k (b.data.toList.take (i + 1)) x = wrap64 (wrap64 (mix k (b.data.toList.take i) x * k) + b[i].toNat) := by
  rw [List.take_add_one, byte_at h]
  exact mix_snoc _ _ _ _
theorem mix_all (k : Int) {b : ByteArray} {i : Nat} (h : b.size ≤ i) (x : Int) : mix k (b.data.toList.take i) x = mix k b.data.toList x := by rw [List.take_of_length_le (by simpa using h)]
theorem wrap_byte (b : UInt8) : wrap64 (b.toNat : Int) = b.toNat := wrap64_id (by have := b.toNat_lt; unfold In64; omega)
theorem tmod1000 (n : Int) : -1000 < n.tmod 1000 ∧ n.tmod 1000 < 1000 := ⟨Int.lt_tmod_of_pos n (by decide), Int.tmod_lt_of_pos n (by decide)⟩
set_option maxRecDepth 1000000 in
set_option maxHeartbeats 1000000 in
theorem plain_Measure (kind metric : ByteArray) {width seed : Int} (hk : kind.size ≤ 1000) (hm : metric.size ≤ 1000) (w : World) :
    Calls Tryz.prog 57 #[.string kind, .string metric, .int .i64 width, .int .i64 seed] w fun e w' => e = .returned (.tuple #[.int .i64 (made (mixed kind metric width seed)).1, .int .i64 (made (mixed kind metric width seed)).2]) ∧ w' = w := by
  have t1 := tmod1000 width
  have t2 := tmod1000 seed
  have HM : Hid (mixed kind metric width seed = mix 5 metric.data.toList (mix 3 kind.data.toList (seed.tmod 1000 + width.tmod 1000))) := by
    show mixed _ _ _ _ = _
    unfold mixed
    rw [wrap64_id (by unfold In64; omega)]
  generalize hA1 : width.tmod 1000 = A1 at *
  generalize hA2 : seed.tmod 1000 = A2 at *
  go_enter Tryz.func57, Tryz.ntmps57
  go_wp2_with fail
  go_loopw [10, 11] (fun v10 v11 wr => ∃ i : Nat, v11 = .int .i64 i ∧ i ≤ kind.size ∧ v10 = .int .i64 (mix 3 (kind.data.toList.take i) (A2 + A1)) ∧ Hid (wr = w)) (fun _ v11 _ => kind.size - (intOf v11).toNat)
  case atStart => exact ⟨0, rfl, Nat.zero_le _, by simp [mix], rfl⟩
  case round =>
    obtain ⟨i, rfl, hi, rfl, HW⟩ := hrel
    rcases Nat.lt_or_ge i kind.size with h8 | h8
    · have h9 : (i : Int) < kind.size := by omega
      have HT : Hid _ := mix_take 3 h8 (A2 + A1)
      generalize mix 3 (kind.data.toList.take i) (A2 + A1) = X at *
      go_wp2
      go_roundw
      case rel => exact ⟨i + 1, by go_num, by omega, by rw [HT.out, wrap_byte], HW.out⟩
      case measure => simp [intOf]; omega
    · have h9 : ¬ (i : Int) < kind.size := by omega
      have HT : Hid _ := mix_all 3 h8 (A2 + A1)
      rw [HT.out]
      generalize hY : mix 3 kind.data.toList (A2 + A1) = Y at *
      go_wp2_with fail
      go_loopw [10, 12] (fun v10 v12 wr => ∃ i : Nat, v12 = .int .i64 i ∧ i ≤ metric.size ∧ v10 = .int .i64 (mix 5 (metric.data.toList.take i) Y) ∧ Hid (wr = w)) (fun _ v12 _ => metric.size - (intOf v12).toNat)
      case atStart => exact ⟨0, rfl, Nat.zero_le _, by simp [mix], HW.out⟩
      case round =>
        obtain ⟨j, rfl, hj, rfl, HW2⟩ := hrel
        rcases Nat.lt_or_ge j metric.size with g8 | g8
        · have g9 : (j : Int) < metric.size := by omega
          have HT2 : Hid _ := mix_take 5 g8 Y
          generalize mix 5 (metric.data.toList.take j) Y = X at *
          go_wp2
          go_roundw
          case rel => exact ⟨j + 1, by go_num, by omega, by rw [HT2.out, wrap_byte], HW2.out⟩
          case measure => simp [intOf]; omega
        · have g9 : ¬ (j : Int) < metric.size := by omega
          have HT2 : Hid _ := mix_all 5 g8 Y
          rw [HT2.out]
          generalize mix 5 metric.data.toList Y = H at *
          have b3 := Int.tmod_lt_of_pos H (b := 3) (by decide)
          have b4 := Int.lt_tmod_of_pos H (b := 3) (by decide)
          have b41 := Int.tmod_lt_of_pos H (b := 41) (by decide)
          have b42 := Int.lt_tmod_of_pos H (b := 41) (by decide)
          by_cases c1 : H.tmod 11 = 0
          · have hm1 : made H = (9, 9) := by unfold made; rw [if_pos c1]
            have HR : Hid _ := hm1
            clear hm1
            go_wp2
            go_ret2
            exact ⟨by rw [HM.out, HR.out]; rfl, HW2.out⟩
          · by_cases c2 : H.tmod 13 = 0
            · have hm1 : made H = (H, 11) := by unfold made; rw [if_neg c1, if_pos c2]
              have HR : Hid _ := hm1
              clear hm1
              go_wp2
              go_ret2
              exact ⟨by rw [HM.out, HR.out]; rfl, HW2.out⟩
            · by_cases c3 : H.tmod 7 = 0
              · have hm1 : made H = (wrap64 (9223372036854775807 - H.tmod 3), 0) := by unfold made; rw [if_neg c1, if_neg c2, if_pos c3]
                have HR : Hid _ := hm1
                clear hm1
                go_wp2
                go_ret2
                exact ⟨by rw [HM.out, HR.out]; rfl, HW2.out⟩
              · have hm1 : made H = (H.tmod 41 - 20, 0) := by unfold made; rw [if_neg c1, if_neg c2, if_neg c3]
                have HR : Hid _ := hm1
                clear hm1
                go_wp2
                go_ret2
                exact ⟨by rw [HM.out, HR.out]; rfl, HW2.out⟩
end Go.Proofs.YtihmgoahobbdkaaGreatDoor
namespace Go.Proofs.YtihmgoahobbdkaaGreatDoor
open Go.RowKit Go.Lib

/-- The greatest number of a list, from one on. -/
def tops (x : Int) (l : List Int) : Int := l.foldl max x
theorem tops_snoc (x y : Int) (l : List Int) : tops x (l ++ [y]) = max (tops x l) y := by simp [tops, List.foldl_append]
theorem tops_in {x : Int} (hx : In64 x) : ∀ l : List Int, (∀ y ∈ l, In64 y) → In64 (tops x l) := by
  intro l
  induction l generalizing x with
  | nil => intro _; exact hx
  | cons y l ih =>
    intro h
    have hy := h y (by simp)
    have : In64 (max x y) := by unfold In64 at *; omega
    exact ih this (fun z hz => h z (by simp [hz]))
/-- What a made-up probe tells, and what that is told as. -/
def asked (nm : ByteArray) (xs : List Int) : Int × Int :=
  if nm.toList = [109, 97, 120] then (match xs with | [] => (5, 10) | x :: _ => (tops x xs, 0))
  else if nm.toList = [116, 119, 105, 99, 101] then (match xs with | [x] => (clip (x + x), 0) | _ => (5, 10))
  else if nm.toList = [98, 111, 111, 109] then (xs.length, 11)
  else (7, 0)
set_option maxRecDepth 1000000 in
set_option maxHeartbeats 1000000 in
theorem plain_Probe (nm : ByteArray) {xs : List Int} {v : Value} {N : Nat} {w : World} (hx : ∀ x ∈ xs, In64 x) (hl : xs.length ≤ 900) (ho : w.ownsRow N 2 1 v xs.length (ints xs)) :
    Calls Tryz.prog 78 #[.string nm, v] w fun e w' => e = .returned (.tuple #[.int .i64 (asked nm xs).1, .int .i64 (asked nm xs).2]) ∧ w' = w := by
  obtain ⟨ao, cp, rfl⟩ := owns_len ho
  have HO : Hid (w.ownsRow N 2 1 (.slice ao xs.length cp) xs.length (ints xs)) := ho
  have HX : Hid _ := hx
  clear ho hx
  have at0 : ∀ (i : Nat) (x : Int), xs[i]? = some x → ∃ g, ao = some ⟨g, 0, none⟩ ∧ w.cell? ⟨g, i, none⟩ = some (.int .i64 x) := fun i x hi => by
    obtain ⟨g, e, c⟩ := owns_at HO.out (show (ints xs)[i]? = some (.int .i64 x) by simp [ints, hi])
    exact ⟨g, e, c⟩
  by_cases h1 : nm.toList = [109, 97, 120]
  · have e1 : (nm.toList == [109, 97, 120]) = true := by rw [h1]; rfl
    cases hxs : xs with
    | nil =>
      have HR : Hid (asked nm [] = (5, 10)) := by show asked nm [] = _; unfold asked; rw [if_pos h1]
      subst hxs
      clear at0
      go_enter Tryz.func78, Tryz.ntmps78
      go_wp2
      go_ret2
      exact ⟨by rw [HR.out]; rfl, rfl⟩
    | cons x l =>
      have HR : Hid (asked nm xs = (tops x xs, 0)) := by show asked nm xs = _; unfold asked; rw [if_pos h1, hxs]
      obtain ⟨g, rfl, c0⟩ := at0 0 x (by rw [hxs]; rfl)
      have hpos : ¬ ((xs.length : Int) = 0) := by rw [hxs]; simp only [List.length_cons]; omega
      have hpos2 : (0 : Int) < xs.length := by rw [hxs]; simp only [List.length_cons]; omega
      have HXS : Hid _ := hxs
      rw [← hxs]
      generalize hn : xs.length = n at *
      have HN : Hid _ := hn
      have HAT : Hid _ := at0
      clear hxs hn at0
      go_enter Tryz.func78, Tryz.ntmps78
      go_wp2_with fail
      go_loopw [6, 21] (fun v6 v21 wr => ∃ i : Nat, v21 = .int .i64 i ∧ i ≤ n ∧ v6 = .int .i64 (tops x (xs.take i)) ∧ Hid (wr = w)) (fun _ v21 _ => n - (intOf v21).toNat)
      case atStart => exact ⟨0, rfl, Nat.zero_le _, by simp [tops], rfl⟩
      case round =>
        obtain ⟨i, rfl, hi, rfl, HW⟩ := hrel
        have hw := HW.out
        subst hw
        rcases Nat.lt_or_ge i n with h8 | h8
        · have h9 : (i : Int) < n := by omega
          obtain ⟨y, hy⟩ : ∃ y, xs[i]? = some y := ⟨xs[i]'(by have := HN.out; omega), List.getElem?_eq_getElem _⟩
          obtain ⟨g2, eg, ci⟩ := HAT.out i y hy
          injection eg with eg
          injection eg with eg
          subst eg
          have HT : Hid (tops x (xs.take (i + 1)) = max (tops x (xs.take i)) y) := by
            show tops x (xs.take (i + 1)) = _
            rw [List.take_add_one, hy]
            exact tops_snoc _ _ _
          clear hy
          generalize tops x (xs.take i) = X at *
          go_wp2
          go_roundw
          case rel => exact ⟨i + 1, by go_num, by omega, by rw [HT.out], trivial⟩
          case measure => simp [intOf]; omega
        · have h9 : ¬ (i : Int) < n := by omega
          have HT : Hid (tops x (xs.take i) = tops x xs) := by
            show tops x (xs.take i) = _
            rw [List.take_of_length_le (by have := HN.out; omega)]
          generalize tops x (xs.take i) = X at *
          go_wp2
          go_ret2
          exact ⟨by rw [HR.out, ← HT.out]; rfl, rfl⟩
  · have e1 : (nm.toList == [109, 97, 120]) = false := by simpa using h1
    by_cases h2 : nm.toList = [116, 119, 105, 99, 101]
    · have e2 : (nm.toList == [116, 119, 105, 99, 101]) = true := by rw [h2]; rfl
      by_cases hone : xs.length = 1
      · obtain ⟨x, rfl⟩ : ∃ x, xs = [x] := by
          match xs, hone with
          | [x], _ => exact ⟨x, rfl⟩
        have HR : Hid (asked nm [x] = (clip (x + x), 0)) := by show asked nm [x] = _; unfold asked; rw [if_neg h1, if_pos h2]
        obtain ⟨g, rfl, c0⟩ := at0 0 x rfl
        have hx := HX.out x (by simp)
        have hx1 := hx.1
        have hx2 := hx.2
        clear at0 hx
        have hln : ([x] : List Int).length = 1 := rfl
        rw [hln]
        by_cases u1 : 4611686018427387903 < x
        · have HC : Hid (clip (x + x) = 9223372036854775807) := clip_high (by omega)
          go_enter Tryz.func78, Tryz.ntmps78
          go_wp2
          go_ret2
          exact ⟨by rw [HR.out, HC.out]; rfl, rfl⟩
        · by_cases u2 : x < -4611686018427387904
          · have HC : Hid (clip (x + x) = -9223372036854775808) := by
              show clip (x + x) = _
              rcases Int.lt_or_le (x + x) (-9223372036854775808) with h | h
              · exact clip_low h
              · omega
            go_enter Tryz.func78, Tryz.ntmps78
            go_wp2
            go_ret2
            exact ⟨by rw [HR.out, HC.out]; rfl, rfl⟩
          · have HC : Hid (clip (x + x) = 2 * x) := by
              show clip (x + x) = _
              rw [clip_of (by unfold In64; omega)]
              omega
            have w2 : wrap64 (2 * x) = 2 * x := wrap64_id (by unfold In64; omega)
            go_enter Tryz.func78, Tryz.ntmps78
            go_wp2
            go_ret2
            exact ⟨by rw [HR.out, HC.out]; rfl, rfl⟩
      · have HR : Hid (asked nm xs = (5, 10)) := by
          show asked nm xs = _
          unfold asked
          rw [if_neg h1, if_pos h2]
          match xs, hone with
          | [], _ => rfl
          | [x], h => exact absurd rfl h
          | _ :: _ :: _, _ => rfl
        have hone2 : ((xs.length : Int) != 1) = true := by simp; omega
        generalize xs.length = n at *
        clear at0
        go_enter Tryz.func78, Tryz.ntmps78
        go_wp2
        go_ret2
        exact ⟨by rw [HR.out]; rfl, rfl⟩
    · have e2 : (nm.toList == [116, 119, 105, 99, 101]) = false := by simpa using h2
      by_cases h3 : nm.toList = [98, 111, 111, 109]
      · have e3 : (nm.toList == [98, 111, 111, 109]) = true := by rw [h3]; rfl
        have HR : Hid (asked nm xs = ((xs.length : Int), 11)) := by show asked nm xs = _; unfold asked; rw [if_neg h1, if_neg h2, if_pos h3]
        generalize xs.length = n at *
        clear at0
        go_enter Tryz.func78, Tryz.ntmps78
        go_wp2
        go_ret2
        exact ⟨by rw [HR.out]; rfl, rfl⟩
      · have e3 : (nm.toList == [98, 111, 111, 109]) = false := by simpa using h3
        have HR : Hid (asked nm xs = (7, 0)) := by show asked nm xs = _; unfold asked; rw [if_neg h1, if_neg h2, if_neg h3]
        clear at0
        go_enter Tryz.func78, Tryz.ntmps78
        go_wp2
        go_ret2
        exact ⟨by rw [HR.out]; rfl, rfl⟩
end Go.Proofs.YtihmgoahobbdkaaGreatDoor
namespace Go.Proofs.YtihmgoahobbdkaaGreatDoor
open Go.RowKit Go.Lib

set_option maxRecDepth 1000000 in
set_option maxHeartbeats 1000000 in
theorem ref_Told (kind metric : ByteArray) {width seed : Int} (hk : kind.size ≤ 1000) (hm : metric.size ≤ 1000) (w : World) :
    Calls Tryz.prog 81 #[.string kind, .string metric, .int .i64 width, .int .i64 seed] w fun e w' => e = .returned (.agg #[.int .i64 (made (mixed kind metric width seed)).1, .int .i64 (made (mixed kind metric width seed)).2]) ∧ Below w.heap.size w w' := by
  have t1 := tmod1000 width
  have t2 := tmod1000 seed
  have HM : Hid (mixed kind metric width seed = mix 5 metric.data.toList (mix 3 kind.data.toList (seed.tmod 1000 + width.tmod 1000))) := by
    show mixed _ _ _ _ = _
    unfold mixed
    rw [wrap64_id (by unfold In64; omega)]
  generalize hA1 : width.tmod 1000 = A1 at *
  generalize hA2 : seed.tmod 1000 = A2 at *
  go_enter Tryz.func81, Tryz.ntmps81
  go_wp2_with fail
  go_loopw [9, 10] (fun v9 v10 wr => ∃ i : Nat, v10 = .int .i64 i ∧ i ≤ kind.size ∧ v9 = .int .i64 (mix 3 (kind.data.toList.take i) (A2 + A1)) ∧ wr = w.alloc (.cells #[.int .i64 0, .int .i64 0] 153)) (fun _ v10 _ => kind.size - (intOf v10).toNat)
  case atStart => exact ⟨0, rfl, Nat.zero_le _, by simp [mix], rfl⟩
  case round =>
    obtain ⟨i, rfl, hi, rfl, rfl⟩ := hrel
    rcases Nat.lt_or_ge i kind.size with h8 | h8
    · have h9 : (i : Int) < kind.size := by omega
      have HT : Hid _ := mix_take 3 h8 (A2 + A1)
      generalize mix 3 (kind.data.toList.take i) (A2 + A1) = X at *
      go_wp2
      go_roundw
      case rel => exact ⟨i + 1, by go_num, by omega, by rw [HT.out, wrap_byte], trivial⟩
      case measure => simp [intOf]; omega
    · have h9 : ¬ (i : Int) < kind.size := by omega
      have HT : Hid _ := mix_all 3 h8 (A2 + A1)
      rw [HT.out]
      generalize hY : mix 3 kind.data.toList (A2 + A1) = Y at *
      go_wp2_with fail
      go_loopw [9, 11] (fun v9 v11 wr => ∃ i : Nat, v11 = .int .i64 i ∧ i ≤ metric.size ∧ v9 = .int .i64 (mix 5 (metric.data.toList.take i) Y) ∧ wr = w.alloc (.cells #[.int .i64 0, .int .i64 0] 153)) (fun _ v11 _ => metric.size - (intOf v11).toNat)
      case atStart => exact ⟨0, rfl, Nat.zero_le _, by simp [mix], rfl⟩
      case round =>
        obtain ⟨j, rfl, hj, rfl, rfl⟩ := hrel
        rcases Nat.lt_or_ge j metric.size with g8 | g8
        · have g9 : (j : Int) < metric.size := by omega
          have HT2 : Hid _ := mix_take 5 g8 Y
          generalize mix 5 (metric.data.toList.take j) Y = X at *
          go_wp2
          go_roundw
          case rel => exact ⟨j + 1, by go_num, by omega, by rw [HT2.out, wrap_byte], trivial⟩
          case measure => simp [intOf]; omega
        · have g9 : ¬ (j : Int) < metric.size := by omega
          have HT2 : Hid _ := mix_all 5 g8 Y
          rw [HT2.out]
          generalize mix 5 metric.data.toList Y = H at *
          have b3 := Int.tmod_lt_of_pos H (b := 3) (by decide)
          have b4 := Int.lt_tmod_of_pos H (b := 3) (by decide)
          have b41 := Int.tmod_lt_of_pos H (b := 41) (by decide)
          have b42 := Int.lt_tmod_of_pos H (b := 41) (by decide)
          by_cases c1 : H.tmod 11 = 0
          · have hm1 : made H = (9, 9) := by unfold made; rw [if_pos c1]
            have HR : Hid _ := hm1
            clear hm1
            go_wp2
            refine bodyPost_ret (v := .agg #[.int .i64 9, .int .i64 9]) (by simp [results, Tryz.results81, go_sem]) rfl ?_
            refine ⟨by rw [HM.out, HR.out], ?_⟩
            repeat (first | exact Below.refl _ _ | refine Below.setCell ?_ (by exact Nat.le_refl _) _ | refine Below.alloc ?_ (by exact Nat.le_refl _) _)
          · by_cases c2 : H.tmod 13 = 0
            · have hm1 : made H = (H, 11) := by unfold made; rw [if_neg c1, if_pos c2]
              have HR : Hid _ := hm1
              clear hm1
              go_wp2
              refine bodyPost_ret (v := .agg #[.int .i64 H, .int .i64 11]) (by simp [results, Tryz.results81, go_sem]) rfl ?_
              refine ⟨by rw [HM.out, HR.out], ?_⟩
              repeat (first | exact Below.refl _ _ | refine Below.setCell ?_ (by exact Nat.le_refl _) _ | refine Below.alloc ?_ (by exact Nat.le_refl _) _)
            · by_cases c3 : H.tmod 7 = 0
              · have hm1 : made H = (wrap64 (9223372036854775807 - H.tmod 3), 0) := by unfold made; rw [if_neg c1, if_neg c2, if_pos c3]
                have HR : Hid _ := hm1
                clear hm1
                go_wp2
                refine bodyPost_ret (v := .agg #[.int .i64 (wrap64 (9223372036854775807 - H.tmod 3)), .int .i64 0]) (by simp [results, Tryz.results81, go_sem]) rfl ?_
                refine ⟨by rw [HM.out, HR.out], ?_⟩
                repeat (first | exact Below.refl _ _ | refine Below.setCell ?_ (by exact Nat.le_refl _) _ | refine Below.alloc ?_ (by exact Nat.le_refl _) _)
              · have hm1 : made H = (H.tmod 41 - 20, 0) := by unfold made; rw [if_neg c1, if_neg c2, if_neg c3]
                have HR : Hid _ := hm1
                clear hm1
                go_wp2
                refine bodyPost_ret (v := .agg #[.int .i64 (H.tmod 41 - 20), .int .i64 0]) (by simp [results, Tryz.results81, go_sem]) rfl ?_
                refine ⟨by rw [HM.out, HR.out], ?_⟩
                repeat (first | exact Below.refl _ _ | refine Below.setCell ?_ (by exact Nat.le_refl _) _ | refine Below.alloc ?_ (by exact Nat.le_refl _) _)
end Go.Proofs.YtihmgoahobbdkaaGreatDoor
