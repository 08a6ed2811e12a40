/-
  PROBES, WALKED: what a probe answers, with so many asks to spend.
-/
import Derived.Test.YtihmgoahobbdkaaGreatDoorJE42
import Derived.Test.YtihmgoahobbdkaaGreatDoorJE27
import Derived.Test.YtihmgoahobbdkaaGreatDoorJE41
import Derived.Test.YtihmgoahobbdkaaGreatDoorJE36
import Derived.Test.YtihmgoahobbdkaaGreatDoorJE39
import Derived.Test.YtihmgoahobbdkaaGreatDoorJE35
namespace Go.Proofs.YtihmgoahobbdkaaGreatDoor
open Go.RowKit Go.Lib

section
variable {σ : Type}
/-- A function in memory answers as a probe, and spends an ask; the list is the probe's. -/
def ProbeF (SF : Nat → σ → World → Prop) (R N : Nat) (fv : Value) (probe : List Int → σ → PFound × σ) : Prop :=
  ∃ f caps, fv = .func (.func f) #[] caps ∧ (∀ (args : Array Value) (w : World), (callFunc f (args ++ caps)).run Tryz.prog w = .ok (.enter f (args ++ caps)) w) ∧
    ∀ k xs v s w, (∀ x ∈ xs, In64 x) → xs.length ≤ 900 → w.ownsRow N 2 1 v xs.length (ints xs) → SF (k + 1) s w → Calls Tryz.prog f (#[v] ++ caps) w fun e w' => KeepX (fun k => k = R ∨ v.ownBlock = some k) w w' ∧ ProbeR (SF k) (probe xs s) w' e
variable {A : Nat → Addr} {SF : Nat → σ → World → Prop} {R : Nat} {lv mv : Value} {w0 : World}
set_option maxRecDepth 1000000 in
set_option maxHeartbeats 1000000 in
theorem codeF_probes {N kf : Nat} {fv : Value} {probe : List Int → σ → PFound × σ} (hp : ProbeF SF R N fv probe) {w : World} {s : σ} (hs : SF (kf + 1) s w) {b0 b3 ba g : Nat} {name : ByteArray} {G : ByteArray → Option Value} {v : Value} {xs : List Int}
    (h0 : w.heap[b0]? = some (.cells #[lv, .map (some g)] 149 (0, 0))) (hm : MapF w g G) (hG : G name = some fv) (h3 : One w b3 (.string name) 9) (ha : One w ba v 47) (hx : ∀ x ∈ xs, In64 x) (hl : xs.length ≤ 900) (ho : w.ownsRow N 2 1 v xs.length (ints xs)) :
    Calls Tryz.prog 184 #[ptr b0, ptr b3, ptr ba] w fun e w1 => ∃ a, AnsE a e ∧ KeepX (fun k => k = R ∨ v.ownBlock = some k) w w1 ∧ AnsP (probe xs s).1 a ∧ SF kf (probe xs s).2 w1 := by
  obtain ⟨f, caps, rfl, hcf, hp⟩ := hp
  have hp := hp kf xs v s w hx hl ho hs
  obtain ⟨ao, cp, rfl⟩ := owns_len ho
  have hcf := hcf #[.slice ao xs.length cp]
  have hlk := hm.lookup name
  rw [hG] at hlk
  have hlk : (Instr.lookup 80 (.map (some g)) (.string name) false).run Tryz.prog w = .ok (.func (.func f) #[] caps) w := hlk
  have c0 : w.cell? ⟨b0, 1, none⟩ = some (.map (some g)) := cell_of_heap h0 rfl
  have c3 : w.cell? ⟨b3, 0, none⟩ = some (.string name) := cell_of_heap h3 rfl
  have ca : w.cell? ⟨ba, 0, none⟩ = some (.slice ao xs.length cp) := cell_of_heap ha rfl
  clear hs h0 h3 ha hm hG ho hx
  go_enter Tryz.func184, Tryz.ntmps184
  go_wp2_with fail
  refine hp.mono ?_
  rintro e w1 ⟨hk, he⟩
  have HK : Hid _ := hk
  clear hp hk
  generalize hM : probe xs s = r at he
  have HM : Hid _ := hM
  clear hM
  obtain ⟨r, s1⟩ := r
  cases r with
  | val x =>
    obtain ⟨rfl, hx, hs1⟩ := he
    have H1 : Hid _ := And.intro hx hs1
    clear hx hs1
    go_wp2
    go_ret2
    refine ⟨.val x, rfl, HK.out, ?_⟩
    rw [HM.out]
    exact ⟨⟨rfl, H1.out.1⟩, H1.out.2⟩
  | fail =>
    obtain ⟨⟨m, x, rfl⟩, hs1⟩ := he
    have H1 : Hid _ := hs1
    clear hs1
    go_wp2
    go_ret2
    refine ⟨.fail m 171 (ptr x), rfl, HK.out, ?_⟩
    rw [HM.out]
    exact ⟨⟨m, x, rfl⟩, H1.out⟩
  | pan x =>
    obtain ⟨rfl, hs1⟩ := he
    have H1 : Hid _ := hs1
    clear hs1
    go_wp2
    refine ⟨rfl, .pan 2 (.int .i64 x), rfl, HK.out, ?_⟩
    rw [HM.out]
    exact ⟨rfl, H1.out⟩
end
end Go.Proofs.YtihmgoahobbdkaaGreatDoor
namespace Go.Proofs.YtihmgoahobbdkaaGreatDoor
open Go.RowKit Go.Lib

/-- plain's world in memory. -/
abbrev WorldP (w : World) (R : Nat) (seed : Int) (tr : ByteArray) (av : Value) (ins : Bool) : Prop := w.heap[R]? = some (.cells #[.int .i64 seed, .string tr, av, .bool ins] 89 (0, 0))
/-- How such a probe ends. -/
def ProbeE (r : PFound) (e : Ending) : Prop :=
  match r with
  | .val n => e = .returned (.tuple #[.int .i64 n, .nilIface])
  | .fail => ∃ n c, e = .returned (.tuple #[.int .i64 n, .iface 171 (ptr c)])
  | .pan n => e = .panicked [{ v := .iface 2 (.int .i64 n), recovered := false }]
/-- The list is being overwritten. -/
structure Spoil (X : Nat → Prop) (n : Nat) (ao : Option Addr) (w wr : World) : Prop where
  keep : KeepX X w wr
  row : n = 0 ∨ ∃ g cur, ao = some ⟨g, 0, none⟩ ∧ X g ∧ wr.heap[g]? = some (.cells cur 2 (0, 0)) ∧ n ≤ cur.size
theorem Spoil.set {X : Nat → Prop} {n : Nat} {g : Nat} {w wr : World} (h : Spoil X n (some ⟨g, 0, none⟩) w wr) (hX : X g) (i : Nat) (v : Value) : Spoil X n (some ⟨g, 0, none⟩) w (wr.setCell ⟨g, i, none⟩ v) := by
  refine ⟨⟨h.keep.os, h.keep.tape, h.keep.output, by simp; exact h.keep.size, fun k lt nx => (Below.heap_setCell _ _ _ k (fun e => nx (by rw [e]; exact hX))).trans (h.keep.block k lt nx)⟩, ?_⟩
  rcases h.row with h | ⟨g2, cur, e, -, h1, h2⟩
  · exact .inl h
  · injection e with e
    injection e with e
    subst e
    exact .inr ⟨g, _, rfl, hX, heap_set_same h1, by simpa using h2⟩
theorem spoil_begin {N n : Nat} {ao : Option Addr} {cp : Nat} {w : World} {xs : List Value} (ho : w.ownsRow N 2 1 (.slice ao n cp) n xs) : Spoil (fun k => (Value.slice ao n cp).ownBlock = some k) n ao w w := by
  refine ⟨KeepX.of_below (Below.refl _ _), ?_⟩
  rcases ho.2 with ⟨-, h⟩ | ⟨g, cap, cur, h1, -, h3, h4, -, h6, -⟩
  · exact .inl h
  · injection h1 with h1 h2 h3'
    subst h1
    exact .inr ⟨g, cur, rfl, rfl, h3, by omega⟩
theorem spoil_world {N n R : Nat} {ao : Option Addr} {cp : Nat} {w wr : World} {xs : List Value} {seed : Int} {tr : ByteArray} {av : Value} {ins : Bool} (h : Spoil (fun k => (Value.slice ao n cp).ownBlock = some k) n ao w wr) (ho : w.ownsRow N 2 1 (.slice ao n cp) n xs) (hN : R < N) (hW : WorldP w R seed tr av ins) : WorldP wr R seed tr av ins :=
  (h.keep.block R (heap_lt hW) (fun q => by have := (ho.lt _ q).1; omega)).trans hW
theorem spoil_keep {n R : Nat} {ao : Option Addr} {cp : Nat} {w wr : World} (h : Spoil (fun k => (Value.slice ao n cp).ownBlock = some k) n ao w wr) : KeepX (fun k => k = R ∨ (Value.slice ao n cp).ownBlock = some k) w wr :=
  ⟨h.keep.os, h.keep.tape, h.keep.output, h.keep.size, fun k lt nx => h.keep.block k lt (fun q => nx (.inr q))⟩
theorem KeepX.below {X : Nat → Prop} {w w1 w2 : World} (h : KeepX X w w1) (hb : Below w1.heap.size w1 w2) : KeepX X w w2 := h.trans (.of_below hb)
set_option maxRecDepth 1000000 in
set_option maxHeartbeats 2000000 in
theorem plain_probe1 {R b1 b2 N : Nat} {seed : Int} {tr nm : ByteArray} {av : Value} {ins : Bool} {xs : List Int} {v : Value} {w : World} (hW : WorldP w R seed tr av ins) (h1 : One w b1 (ptr R) 87) (h2 : One w b2 (.string nm) 9) (hx : ∀ x ∈ xs, In64 x) (hl : xs.length ≤ 900) (ho : w.ownsRow N 2 1 v xs.length (ints xs)) (hN : R < N) (ht : tr.size ≤ 1000000000) (hn : nm.size ≤ 300) :
    Calls Tryz.prog 77 #[v, ptr b1, ptr b2] w fun e w' => KeepX (fun k => k = R ∨ v.ownBlock = some k) w w' ∧ WorldP w' R seed (if ins = true then tr else trProbe tr nm) av ins ∧ ProbeE (pfoundOf (asked nm xs)) e := by
  obtain ⟨ao, cp, rfl⟩ := owns_len ho
  have c0 : w.cell? ⟨R, 1, none⟩ = some (.string tr) := cell_of_heap hW rfl
  have c3 : w.cell? ⟨R, 3, none⟩ = some (.bool ins) := cell_of_heap hW rfl
  have z1 : w.frozen? ⟨R, 1, none⟩ = false := frozen_of_heap hW
  have d1 : w.cell? ⟨b1, 0, none⟩ = some (ptr R) := cell_of_heap h1 rfl
  have d2 : w.cell? ⟨b2, 0, none⟩ = some (.string nm) := cell_of_heap h2 rfl
  have lR := heap_lt hW
  have l1 := heap_lt h1
  have l2 := heap_lt h2
  have s1 : (nm ++ (⟨#[59]⟩ : ByteArray)).size = nm.size + 1 := by simp; rfl
  have HO : Hid (w.ownsRow N 2 1 (.slice ao xs.length cp) xs.length (ints xs)) := ho
  have HW : Hid _ := hW
  have he := asked_e nm xs
  obtain ⟨a, c, hz⟩ : ∃ a c, asked nm xs = (a, c) := ⟨_, _, rfl⟩
  have hp := fun (w : World) (ho : w.ownsRow N 2 1 (.slice ao xs.length cp) xs.length (ints xs)) => plain_Probe nm hx hl ho
  rw [hz] at he hp ⊢
  simp only at he hp
  cases ins with
  | true =>
    have hp := hp w ho
    clear hW h1 h2 ho
    go_enter Tryz.func77, Tryz.ntmps77
    go_wp2_with fail
    refine hp.mono ?_
    rintro e w' ⟨rfl, hw⟩
    have hw := hw.symm
    subst hw
    go_wp2_with fail
    go_loopw [35] (fun v35 wr => ∃ i : Nat, v35 = .int .i64 i ∧ i ≤ xs.length ∧ Hid (Spoil (fun k => (Value.slice ao xs.length cp).ownBlock = some k) xs.length ao w wr)) (fun v35 _ => xs.length - (intOf v35).toNat)
    case atStart => exact ⟨0, rfl, Nat.zero_le _, spoil_begin HO.out⟩
    case round =>
      obtain ⟨i, rfl, hi, HI⟩ := hrel
      rcases Nat.lt_or_ge i xs.length with h8 | h8
      · have h9 : (i : Int) < xs.length := by omega
        obtain ⟨g, cur, rfl, hX, hg, hcs⟩ := HI.out.row.resolve_left (by omega)
        have ci : wr.cell? ⟨g, i, none⟩ = some (cur[i]'(by omega)) := cell_of_heap hg (by simp)
        have zi : wr.frozen? ⟨g, i, none⟩ = false := frozen_of_heap hg
        clear hg
        go_wp2
        go_roundw
        case rel => exact ⟨i + 1, by go_num, by omega, HI.out.set hX i _⟩
        case measure => simp [intOf]; omega
      · have h9 : ¬ (i : Int) < xs.length := by omega
        have hW2 := spoil_world HI.out HO.out hN HW.out
        have HE : Hid _ := And.intro hW2 (spoil_keep (R := R) HI.out)
        clear hp hW2
        rcases he with rfl | rfl | rfl
        · go_wp2
          go_ret2
          exact ⟨HE.out.2, HE.out.1, rfl⟩
        · go_wp2
          go_ret2
          exact ⟨HE.out.2.below ((Below.refl _ _).alloc (Nat.le_refl _) _), heap_alloc_old HE.out.1, _, _, rfl⟩
        · go_wp2
          exact ⟨rfl, HE.out.2, HE.out.1, rfl⟩
  | false =>
    clear hW h1 h2 ho
    go_enter Tryz.func77, Tryz.ntmps77
    go_wp2_with fail
    go_region
    have hrow : ∀ k, (Value.slice ao xs.length cp).ownBlock = some k → k ≠ R := fun k q => by have := (HO.out.lt _ q).1; omega
    have HO2 : Hid ((w.setCell ⟨R, 1, none⟩ (.string (tr ++ (nm ++ ⟨#[59]⟩)))).drew.ownsRow N 2 1 (.slice ao xs.length cp) xs.length (ints xs)) := owns_block2 HO.out fun k q => Below.heap_setCell w _ _ k (hrow k q)
    have HW2 : Hid (WorldP (w.setCell ⟨R, 1, none⟩ (.string (tr ++ (nm ++ ⟨#[59]⟩)))).drew R seed (trProbe tr nm) av false) := by
      have := heap_set_same (i := 1) (v := .string (tr ++ (nm ++ ⟨#[59]⟩))) HW.out
      unfold trProbe
      rw [ByteArray.append_assoc]
      exact this
    have HK2 : Hid (KeepX (fun k => k = R ∨ (Value.slice ao xs.length cp).ownBlock = some k) w (w.setCell ⟨R, 1, none⟩ (.string (tr ++ (nm ++ ⟨#[59]⟩)))).drew) := ⟨rfl, rfl, rfl, by simp, fun k lt nx => Below.heap_setCell w _ _ k (fun q => nx (.inl q))⟩
    have hp := hp _ HO2.out
    clear hrow
    go_wp2_with fail
    refine hp.mono ?_
    rintro e w' ⟨rfl, hw⟩
    have hw := hw.symm
    subst hw
    go_wp2_with fail
    go_loopw [35] (fun v35 wr => ∃ i : Nat, v35 = .int .i64 i ∧ i ≤ xs.length ∧ Hid (Spoil (fun k => (Value.slice ao xs.length cp).ownBlock = some k) xs.length ao (w.setCell ⟨R, 1, none⟩ (.string (tr ++ (nm ++ ⟨#[59]⟩)))).drew wr)) (fun v35 _ => xs.length - (intOf v35).toNat)
    case atStart => exact ⟨0, rfl, Nat.zero_le _, spoil_begin HO2.out⟩
    case round =>
      obtain ⟨i, rfl, hi, HI⟩ := hrel
      rcases Nat.lt_or_ge i xs.length with h8 | h8
      · have h9 : (i : Int) < xs.length := by omega
        obtain ⟨g, cur, rfl, hX, hg, hcs⟩ := HI.out.row.resolve_left (by omega)
        have ci : wr.cell? ⟨g, i, none⟩ = some (cur[i]'(by omega)) := cell_of_heap hg (by simp)
        have zi : wr.frozen? ⟨g, i, none⟩ = false := frozen_of_heap hg
        clear hg
        go_wp2
        go_roundw
        case rel => exact ⟨i + 1, by go_num, by omega, HI.out.set hX i _⟩
        case measure => simp [intOf]; omega
      · have h9 : ¬ (i : Int) < xs.length := by omega
        have hW2 := spoil_world HI.out HO2.out hN HW2.out
        have HE : Hid _ := And.intro hW2 (HK2.out.trans (spoil_keep (R := R) HI.out))
        clear hp hW2
        rcases he with rfl | rfl | rfl
        · go_wp2
          go_ret2
          exact ⟨HE.out.2, HE.out.1, rfl⟩
        · go_wp2
          go_ret2
          exact ⟨HE.out.2.below ((Below.refl _ _).alloc (Nat.le_refl _) _), heap_alloc_old HE.out.1, _, _, rfl⟩
        · go_wp2
          exact ⟨rfl, HE.out.2, HE.out.1, rfl⟩
end Go.Proofs.YtihmgoahobbdkaaGreatDoor
namespace Go.Proofs.YtihmgoahobbdkaaGreatDoor
open Go.RowKit Go.Lib

/-- clear of a map: it is empty then, and nothing else is turned. -/
theorem run_clearM {w : World} {m : Nat} {F : ByteArray → Option Value} (h : MapF w m F) (ty : TypeId) : ∃ w', (Builtin.clear_ #[80] ty #[.map (some m)]).run Tryz.prog w = .ok (.tuple #[]) w' ∧ w.grownBy w' (some m) := by
  obtain ⟨es, clock, h1, -⟩ := h
  refine ⟨_, by simp [Builtin.clear_, run_underlying Tryz.underlying80, MapKept.run_getObj_map h1, MapKept.run_setObj_map _ h1, Result.andThen]; rfl, ?_⟩
  exact ⟨rfl, rfl, rfl, by simp, fun k hk hne => by
    have : m ≠ k := fun e => hne (by rw [e])
    simp [this]⟩
/-- clear at the operation. -/
theorem wpList_clearM (w : World) {ops : Array Oper} {rest : List Oper} {o : Oper} {a : Act} {Q : Exit → Act → World → Prop} (hg : o.guard = none) (x : Operand) (hop : o.op = .call { callee := .builtin .clear, args := #[x], argTypes := #[80] })
    {m : Nat} {F : ByteArray → Option Value} (hx : a.eval x = .map (some m)) (ho : MapF w m F) (hK : ∀ w', w.grownBy w' (some m) → wpList Tryz.prog ops Q rest (a.put o.dst (.tuple #[])) w') : wpList Tryz.prog ops Q (o :: rest) a w := by
  refine wpList_plain hg fun K hK' => ?_
  obtain ⟨w', hr, h2⟩ := run_clearM ho o.type
  unfold Oper.wp execOp
  simp only [hop, resolve, invoke, builtin, Sem.run_bind, Sem.run_pure, Result.andThen_ok, List.map_toArray, List.map_cons, List.map_nil, hx, hr]
  exact hK' _ _ (hK w' h2)
/-- A program whose probes write down in a world, or nowhere. -/
structure Asks (p : Option Addr) (lo : Nat) (w : World) (b : Nat) (t : Tree) : Prop where
  prog : ∃ lo2 F, lo ≤ lo2 ∧ ProgB lo2 w b (bare t) (notes [] (mets t)) (asks t) (spansOf t) F ∧
    ∀ q ∈ asks t, ∃ b1 b2, F q.2 = some (.func (.func 77) #[] #[ptr b1, ptr b2]) ∧ lo ≤ b1 ∧ lo ≤ b2 ∧ One w b1 (.pointer p) 87 ∧ One w b2 (.string q.2) 9
/-- What plain.program tells of a text. -/
def ProgT (p : Option Addr) (lo : Nat) (w : World) (e : Ending) : Option Tree → Prop
  | none => e = .returned (.pointer none)
  | some t => Fit t ∧ size t ≤ 200 ∧ match missL (pnames 15 4) (asks t) with
    | none => ∃ b, e = .returned (ptr b) ∧ Asks p lo w b t
    | some _ => e = .returned (.pointer none)
set_option maxRecDepth 1000000 in
set_option maxHeartbeats 4000000 in
theorem plain_program (s : ByteArray) (p : Option Addr) {A : Nat → Addr} {w : World} (hT : TabsR w) (hA : Sents A w) :
    Calls Tryz.prog 34 #[.string s, .pointer p] w fun e w' => ∃ (t : Option Tree) (f q : Nat), PRel s (t, f, q) ∧ Below w.heap.size w w' ∧ ProgT p w.heap.size w' e t := by
  have hp := code_Parse s w hT.tabs (A 0) hA.g0
  have HX : Hid _ := And.intro hT hA
  clear hT hA
  go_enter Tryz.func34, Tryz.ntmps34
  go_wp2_with fail
  refine hp.mono ?_
  rintro e w1 ⟨hb1, hc⟩
  have HB1 : Hid (Below w.heap.size w w1) := hb1
  clear hp hb1
  rcases hc with ⟨h1, rfl⟩ | ⟨h1, ⟨J, b, h2, rfl, h3⟩ | ⟨t, J, a, h2, h3, rfl, h4⟩⟩
  · have HP : Hid (PRel s (none, 1, 0)) := .inl ⟨h1, rfl⟩
    clear h1
    go_wp2
    go_ret
    exact ⟨none, 1, 0, HP.out, HB1.out, rfl⟩
  · have HP : Hid (PRel s (none, 2, pl (toks s) J)) := .inr ⟨h1, by
      rcases h2 with h2 | ⟨t, h2, h4⟩
      · exact .inl ⟨J, h2, rfl⟩
      · exact .inr (.inl ⟨t, J, h2, h4, rfl⟩)⟩
    clear h1 h2 h3
    go_wp2
    go_ret
    exact ⟨none, 2, _, HP.out, HB1.out, rfl⟩
  · have HP : Hid (PRel s (some t, 0, 0)) := .inr ⟨h1, .inr (.inr ⟨t, J, h2, h3, rfl⟩)⟩
    obtain ⟨hf, hsz⟩ := read_fits h1 h2 h3
    obtain ⟨pb, a', rfl, hpr⟩ := h4
    have h4 : CPol w.heap.size w1 t ⟨pb, 0, none⟩ := ⟨pb, a', rfl, hpr⟩
    have hps := plain_probes 15 p w1
    have HF : Hid _ := And.intro hf (And.intro hsz h4)
    clear h1 h2 h3 hf hsz hpr h4
    go_wp2_with fail
    refine hps.mono ?_
    rintro e w2 ⟨hb2, ⟨h0, -⟩ | ⟨-, rfl, hpm⟩⟩
    · exact absurd h0 (by decide)
    have HB2 : Hid (Below w1.heap.size w1 w2) := hb2
    obtain ⟨F, hF, hPF⟩ := hpm.map
    have HM : Hid _ := And.intro hF hPF
    have hc1 := code_Code HF.out.1 HF.out.2.1 (HF.out.2.2.below hb2)
    clear hps hb2 hpm hF hPF
    go_wp2_with fail
    refine hc1.mono ?_
    rintro e w3 ⟨c, rfl, ho3, hb3⟩
    have O3 : Hid _ := And.intro ho3 hb3
    obtain ⟨ca, cp, rfl⟩ := owns_len ho3
    have B03 : Hid (Below w.heap.size w w3) := (HB1.out.trans (HB2.out.mono HB1.out.size)).trans (hb3.mono (Nat.le_trans HB1.out.size HB2.out.size))
    have hld := load_enc (HX.out.1.below B03.out) (HX.out.2.below B03.out) HF.out.1 HF.out.2.1 ho3.rest (pv := .map (some w1.heap.size)) (F := F) ⟨.inr ⟨_, rfl, HM.out.1.block (hb3.block _ HM.out.1.lt)⟩, fun s v q => by
      rcases (HM.out.2.no s v q).2 with q2 | q2
      · obtain ⟨b1, b2, e, -⟩ := HM.out.2.yes s q2
        rw [q] at e
        injection e with e
        exact .inr ⟨_, _, _, e⟩
      · exact .inl q2⟩
    clear hc1 ho3 hb3
    go_wp2_with fail
    refine hld.mono ?_
    rintro e w4 ⟨hb4, gv, iv, rfl, hgot⟩
    have B34 : Hid (Below w3.heap.size w3 w4) := hb4
    have hm4 : MapF w4 w1.heap.size F := HM.out.1.block ((hb4.block _ (Nat.lt_of_lt_of_le HM.out.1.lt O3.out.2.size)).trans (O3.out.2.block _ HM.out.1.lt))
    clear hld hb4
    rcases hgot with ⟨hall, b, rfl, rfl, hpb⟩ | ⟨i, q, b, hq1, hq2, hq3, rfl, rfl, hq4⟩
    · have HG : Hid _ := And.intro hall hpb
      clear hall hpb
      go_wp2_with (first
          | (refine wpList_clearM _ rfl _ rfl rfl hm4 ?_; intro w5 hg5; have Q5 : Hid _ := hg5; clear hg5)
          | fail)
      go_ret
      have L1 := HM.out.1.lt
      have B45 : Below w.heap.size w w5 := ⟨Q5.out.os.trans (B34.out.os.trans B03.out.os), Q5.out.tape.trans (B34.out.tape.trans B03.out.tape), Q5.out.output.trans (B34.out.output.trans B03.out.output), Nat.le_trans (Nat.le_trans B03.out.size B34.out.size) Q5.out.size, fun k lt => (Q5.out.block k (by have := B03.out.size; have := B34.out.size; omega) (by have := HB1.out.size; intro e; injection e with e; omega)).trans ((B34.out.block k (by have := B03.out.size; omega)).trans (B03.out.block k lt))⟩
      refine ⟨some t, 0, 0, HP.out, B45, HF.out.1, HF.out.2.1, ?_⟩
      rw [find_of (in_pnames HM.out.2) HG.out.1]
      refine ⟨b, rfl, w3.heap.size, F, B03.out.size, HG.out.2.above Q5.out.size fun k lo lt => Q5.out.block k lt (by have := O3.out.2.size; intro e; injection e with e; omega), fun q hq => ?_⟩
      have hin := (in_pnames HM.out.2 q.2).1 (HG.out.1 q hq)
      obtain ⟨f, x, y, e⟩ := HG.out.1 q hq
      rcases (HM.out.2.no _ _ e).2 with q2 | q2
      · obtain ⟨b1, b2, e2, l1, l2, o1, o2⟩ := HM.out.2.yes _ q2
        have h3 := O3.out.2.size
        have step : ∀ {k : Nat} {cs : Array Value} {T : TypeId}, w2.heap[k]? = some (.cells cs T (0, 0)) → w5.heap[k]? = some (.cells cs T (0, 0)) := fun {k cs T} hk => by
          have lk := heap_lt hk
          have a3 := (O3.out.2.block k lk).trans hk
          have a4 := (B34.out.block k (by omega)).trans a3
          refine (Q5.out.block k (heap_lt a4) ?_).trans a4
          intro e
          injection e with e
          subst e
          obtain ⟨es, clock, hm, -⟩ := HM.out.1
          rw [hm] at hk
          cases hk
        exact ⟨b1, b2, e2, Nat.le_trans HB1.out.size l1, Nat.le_trans HB1.out.size l2, step o1, step o2⟩
      · cases q2
    · have HG : Hid _ := And.intro hq1 (And.intro hq2 hq3)
      clear hq1 hq2 hq3 hq4
      go_wp2_with (first
          | (refine wpList_clearM _ rfl _ rfl rfl hm4 ?_; intro w5 hg5; have Q5 : Hid _ := hg5; clear hg5)
          | fail)
      go_ret
      have B45 : Below w.heap.size w w5 := ⟨Q5.out.os.trans (B34.out.os.trans B03.out.os), Q5.out.tape.trans (B34.out.tape.trans B03.out.tape), Q5.out.output.trans (B34.out.output.trans B03.out.output), Nat.le_trans (Nat.le_trans B03.out.size B34.out.size) Q5.out.size, fun k lt => (Q5.out.block k (by have := B03.out.size; have := B34.out.size; omega) (by have := HB1.out.size; intro e; injection e with e; omega)).trans ((B34.out.block k (by have := B03.out.size; omega)).trans (B03.out.block k lt))⟩
      refine ⟨some t, 0, 0, HP.out, B45, HF.out.1, HF.out.2.1, ?_⟩
      rw [find_at (in_pnames HM.out.2) HG.out.1 HG.out.2.1 HG.out.2.2]
      rfl
end Go.Proofs.YtihmgoahobbdkaaGreatDoor
