/-
  THE PROGRAM's Write: appendPart and appendPair, WALKED, a kind of node each.
-/
import Derived.Test.YtaghcjpoihkpjaaGreatDoorJM16
namespace Go.Proofs.YtaghcjpoihkpjaaGreatDoor
open Go.RowKit Go.Lib

theorem news_one {w : World} {k : Nat} {x : Value} {t : TypeId} (h : w.heap[k]? = some (.cells #[x] t (0, 0))) : ∀ j u, [x][j]? = some u → w.cell? ((⟨k, 0, none⟩ : Addr).add j) = some u := by
  intro j u hu
  cases j with
  | zero =>
    simp at hu
    subst hu
    exact cell_of_heap h rfl
  | succ j => simp at hu
/-- One byte more, in a region that draws. -/
theorem Out8.pushed {B g cap : Nat} {w w2 : World} {v : Value} {l : List UInt8} {b : UInt8} {x : Value} {o : Obj} (hB : B ≤ w.heap.size) (ho : Out8 B w v l) (hx : bytesV [b] = [x])
    (h2 : w2.ownsRow B 5 1 (.slice (some ⟨g, 0, none⟩) (l.length + 1) cap) (l.length + 1) (bytesV l ++ [x])) (hg : (w.drew.alloc o).grownBy w2 v.ownBlock) : Out8 B w2 (.slice (some ⟨g, 0, none⟩) (l.length + 1) cap) (l ++ [b]) ∧ W8 B w w2 :=
  Out8.push (w := w) (w1 := w.drew.alloc o) ((W8.refl B w).drew.alloc hB o) (World.ownsRow.alloc (World.ownsRow.drew ho) _) (by simp; omega) hx h2 hg
theorem W8.cell {B : Nat} {w w' : World} (h : W8 B w w') {b i : Nat} {v : Value} {cs : Array Value} {t : TypeId} (hb : w.heap[b]? = some (.cells cs t (0, 0))) (ht : t ≠ 5) (hv : cs[i]? = some v) : w'.cell? ⟨b, i, none⟩ = some v := cell_of_heap (h.kind b cs t _ hb ht) hv

theorem Tryz.isNumber (v : Value) (xT : TypeId) (w : World) : (Instr.typeAssert (.iface 185 v) xT 185 true).run Tryz.prog w = .ok (.tuple #[v, .bool true]) w := by kernel_rfl
theorem Tryz.isMinus (v : Value) (xT : TypeId) (w : World) : (Instr.typeAssert (.iface 189 v) xT 189 true).run Tryz.prog w = .ok (.tuple #[v, .bool true]) w := by kernel_rfl
theorem Tryz.notMinusNumber (v : Value) (xT : TypeId) (w : World) : (Instr.typeAssert (.iface 189 v) xT 185 true).run Tryz.prog w = .ok (.tuple #[.pointer none, .bool false]) w := by kernel_rfl
theorem Tryz.isPair (v : Value) (xT : TypeId) (w : World) : (Instr.typeAssert (.iface 192 v) xT 192 true).run Tryz.prog w = .ok (.tuple #[v, .bool true]) w := by kernel_rfl
theorem Tryz.notPairNumber (v : Value) (xT : TypeId) (w : World) : (Instr.typeAssert (.iface 192 v) xT 185 true).run Tryz.prog w = .ok (.tuple #[.pointer none, .bool false]) w := by kernel_rfl
theorem Tryz.notPairMinus (v : Value) (xT : TypeId) (w : World) : (Instr.typeAssert (.iface 192 v) xT 189 true).run Tryz.prog w = .ok (.tuple #[.pointer none, .bool false]) w := by kernel_rfl
theorem Tryz.isChoice (v : Value) (xT : TypeId) (w : World) : (Instr.typeAssert (.iface 171 v) xT 171 true).run Tryz.prog w = .ok (.tuple #[v, .bool true]) w := by kernel_rfl
theorem Tryz.notChoiceNumber (v : Value) (xT : TypeId) (w : World) : (Instr.typeAssert (.iface 171 v) xT 185 true).run Tryz.prog w = .ok (.tuple #[.pointer none, .bool false]) w := by kernel_rfl
theorem Tryz.notChoiceMinus (v : Value) (xT : TypeId) (w : World) : (Instr.typeAssert (.iface 171 v) xT 189 true).run Tryz.prog w = .ok (.tuple #[.pointer none, .bool false]) w := by kernel_rfl
theorem Tryz.notChoicePair (v : Value) (xT : TypeId) (w : World) : (Instr.typeAssert (.iface 171 v) xT 192 true).run Tryz.prog w = .ok (.tuple #[.pointer none, .bool false]) w := by kernel_rfl
theorem Tryz.isMeasure (v : Value) (xT : TypeId) (w : World) : (Instr.typeAssert (.iface 195 v) xT 195 true).run Tryz.prog w = .ok (.tuple #[v, .bool true]) w := by kernel_rfl
theorem Tryz.notMeasureNumber (v : Value) (xT : TypeId) (w : World) : (Instr.typeAssert (.iface 195 v) xT 185 true).run Tryz.prog w = .ok (.tuple #[.pointer none, .bool false]) w := by kernel_rfl
theorem Tryz.notMeasureMinus (v : Value) (xT : TypeId) (w : World) : (Instr.typeAssert (.iface 195 v) xT 189 true).run Tryz.prog w = .ok (.tuple #[.pointer none, .bool false]) w := by kernel_rfl
theorem Tryz.notMeasurePair (v : Value) (xT : TypeId) (w : World) : (Instr.typeAssert (.iface 195 v) xT 192 true).run Tryz.prog w = .ok (.tuple #[.pointer none, .bool false]) w := by kernel_rfl
theorem Tryz.notMeasureChoice (v : Value) (xT : TypeId) (w : World) : (Instr.typeAssert (.iface 195 v) xT 171 true).run Tryz.prog w = .ok (.tuple #[.pointer none, .bool false]) w := by kernel_rfl
theorem Tryz.isProbe (v : Value) (xT : TypeId) (w : World) : (Instr.typeAssert (.iface 200 v) xT 200 true).run Tryz.prog w = .ok (.tuple #[v, .bool true]) w := by kernel_rfl
theorem Tryz.notProbeNumber (v : Value) (xT : TypeId) (w : World) : (Instr.typeAssert (.iface 200 v) xT 185 true).run Tryz.prog w = .ok (.tuple #[.pointer none, .bool false]) w := by kernel_rfl
theorem Tryz.notProbeMinus (v : Value) (xT : TypeId) (w : World) : (Instr.typeAssert (.iface 200 v) xT 189 true).run Tryz.prog w = .ok (.tuple #[.pointer none, .bool false]) w := by kernel_rfl
theorem Tryz.notProbePair (v : Value) (xT : TypeId) (w : World) : (Instr.typeAssert (.iface 200 v) xT 192 true).run Tryz.prog w = .ok (.tuple #[.pointer none, .bool false]) w := by kernel_rfl
theorem Tryz.notProbeChoice (v : Value) (xT : TypeId) (w : World) : (Instr.typeAssert (.iface 200 v) xT 171 true).run Tryz.prog w = .ok (.tuple #[.pointer none, .bool false]) w := by kernel_rfl
theorem Tryz.notProbeMeasure (v : Value) (xT : TypeId) (w : World) : (Instr.typeAssert (.iface 200 v) xT 195 true).run Tryz.prog w = .ok (.tuple #[.pointer none, .bool false]) w := by kernel_rfl
section
variable {B : Nat}
set_option maxRecDepth 1000000 in
theorem w_num {p : Nat} {n : Int} (h0 : 0 ≤ n) (h1 : n < 1000000000) : WCon B (.num p n) := by
  intro w vo v l hn ho hB hl
  unfold CNode at hn
  obtain ⟨b, rfl, hb, hblk⟩ := hn
  obtain ⟨i0, hi, hz0, hz1, hz2⟩ := info_parts Tryz.infoByte
  have c0 := cell_of_heap (i := 0) hblk rfl
  have HBK : Hid (w.heap[b]? = some (.cells #[.int .i64 n] 188 (0, 0))) := hblk
  have HO : Hid (Out8 B w vo l) := ho
  have hln : l.length ≤ 999995 := by simp [enc, be4] at hl; omega
  have ta := Tryz.isNumber
  clear ho hblk hl
  go_enter Tryz.func48, Tryz.ntmps48
  go_wp2_with fail
  go_region_held3 (fun w' => w'.cell? ⟨b, 0, none⟩ = some (.int .i64 n)) (go_keep)
    (first
      | (refine step_append_lies _ (by rfl) (.tmp 15) (.tmp 16) _ (by rfl) B 5 i0 (.int .u8 0) 1 1 Tryz.underlying32 hi hz0 hz1 hz2 rfl (by omega) vo l.length (bytesV l) (by rfl) (World.ownsRow.alloc (World.ownsRow.drew HO.out) _) ⟨_, 0, none⟩ 1 1 [.int .u8 110] (by rfl) (by rfl) (news_one (heap_alloc_new _ _)) (by simp [Value.oneCell']) (by omega) (by unfold maxLen; omega) (by omega) (by simp; omega) _ (by rfl) ?_; intro g cap w5 hown hgrow hat hlt; have hQ := Out8.pushed (b := 110) hB HO.out rfl hown hgrow; have c5 : w5.cell? ⟨b, 0, none⟩ = some (.int .i64 n) := hQ.2.cell HBK.out (by decide) rfl; have Q : Hid _ := hQ; have hB5 : B ≤ w5.heap.size := Nat.le_trans hB hQ.2.size; clear hown hgrow hat hlt hQ)
      | (go_at_call 76; refine (code_appendNumber Q.out.1 hB5 (by simp; omega) h0 h1).mono ?_; rintro e w6 ⟨v6, rfl, h6⟩; have Q6 : Hid _ := h6; clear h6; have c6 : w6.cell? ⟨b, 0, none⟩ = some (.int .i64 n) := (Q.out.2.trans Q6.out.2).cell HBK.out (by decide) rfl))
  go_wp2
  go_ret
  refine ⟨_, rfl, ?_, Q.out.2.trans Q6.out.2⟩
  have := Q6.out.1
  simpa [enc] using this
set_option maxRecDepth 1000000 in
theorem w_neg {p : Nat} {a : Tree} (hA : WCon B a) : WCon B (.neg p a) := by
  intro w vo v l hn ho hB hl
  unfold CNode at hn
  obtain ⟨b, va, rfl, hb, hblk, hca⟩ := hn
  obtain ⟨i0, hi, hz0, hz1, hz2⟩ := info_parts Tryz.infoByte
  have c0 := cell_of_heap (i := 0) hblk rfl
  have HBK : Hid (w.heap[b]? = some (.cells #[va] 191 (0, 0))) := hblk
  have HC : Hid (CNode (Lt B) w a va) := hca
  have HA : Hid (WCon B a) := hA
  have HO : Hid (Out8 B w vo l) := ho
  have hln : l.length + 1 + (enc a).length ≤ 1000000 := by simp [enc] at hl; omega
  have ta := Tryz.isMinus
  have tm0 := Tryz.notMinusNumber
  clear ho hblk hl hca hA
  go_enter Tryz.func48, Tryz.ntmps48
  go_wp2_with fail
  go_region_held3 (fun w' => w'.cell? ⟨b, 0, none⟩ = some va) (go_keep)
    (first
      | (refine step_append_lies _ (by rfl) (.tmp 26) (.tmp 27) _ (by rfl) B 5 i0 (.int .u8 0) 1 1 Tryz.underlying32 hi hz0 hz1 hz2 rfl (by omega) vo l.length (bytesV l) (by rfl) (World.ownsRow.alloc (World.ownsRow.drew HO.out) _) ⟨_, 0, none⟩ 1 1 [.int .u8 126] (by rfl) (by rfl) (news_one (heap_alloc_new _ _)) (by simp [Value.oneCell']) (by omega) (by unfold maxLen; omega) (by omega) (by simp; omega) _ (by rfl) ?_; intro g cap w5 hown hgrow hat hlt; have hQ := Out8.pushed (b := 126) hB HO.out rfl hown hgrow; have hB5 : B ≤ w5.heap.size := Nat.le_trans hB hQ.2.size; have c5 : w5.cell? ⟨b, 0, none⟩ = some va := hQ.2.cell HBK.out (by decide) rfl; have Q : Hid _ := hQ; clear hown hgrow hat hlt hQ)
      | (go_at_call 48; refine (HA.out _ _ va _ (HC.out.moves (nm_below Q.out.2.below)) Q.out.1 hB5 (by simp; omega)).mono ?_; rintro e w6 ⟨v6, rfl, h6⟩; have Q6 : Hid _ := h6; clear h6; have c6 : w6.cell? ⟨b, 0, none⟩ = some va := (Q.out.2.trans Q6.out.2).cell HBK.out (by decide) rfl))
  go_wp2
  go_ret
  refine ⟨_, rfl, ?_, Q.out.2.trans Q6.out.2⟩
  have := Q6.out.1
  simpa [enc] using this
set_option maxRecDepth 1000000 in
set_option maxHeartbeats 1000000 in
theorem w_meas {p : Nat} {wd m : ByteArray} {n : Int} (hwd : wd.size < 256) (hm : m.size < 256) (h0 : 0 ≤ n) (h1 : n < 1000000000) : WCon B (.meas p wd m n) := by
  intro w vo v l hn ho hB hl
  unfold CNode at hn
  obtain ⟨b, rfl, hb, hblk⟩ := hn
  obtain ⟨i0, hi, hz0, hz1, hz2⟩ := info_parts Tryz.infoByte
  have c0 := cell_of_heap (i := 0) hblk rfl
  have c1 := cell_of_heap (i := 1) hblk rfl
  have HBK : Hid (w.heap[b]? = some (.cells #[.int .i64 p, .string wd, .string m, .int .i64 n] 199 (0, 0))) := hblk
  have HO : Hid (Out8 B w vo l) := ho
  have hln : l.length + 2 + (textB wd).length + (textB m).length + 4 ≤ 1000000 := by simp [enc, be4] at hl; omega
  have ta := Tryz.isMeasure
  have tm0 := Tryz.notMeasureNumber
  have tm1 := Tryz.notMeasureMinus
  have tm2 := Tryz.notMeasurePair
  have tm3 := Tryz.notMeasureChoice
  clear ho hblk hl
  go_enter Tryz.func48, Tryz.ntmps48
  go_wp2_with fail
  go_region_held3 (fun w' => w'.cell? ⟨b, 0, none⟩ = some (.int .i64 p) ∧ w'.cell? ⟨b, 1, none⟩ = some (.string wd)) (go_keep)
    (first
      | (refine step_append_lies _ (by rfl) (.tmp 63) (.tmp 64) _ (by rfl) B 5 i0 (.int .u8 0) 1 1 Tryz.underlying32 hi hz0 hz1 hz2 rfl (by omega) vo l.length (bytesV l) (by rfl) (World.ownsRow.alloc (World.ownsRow.drew HO.out) _) ⟨_, 0, none⟩ 1 1 [.int .u8 109] (by rfl) (by rfl) (news_one (heap_alloc_new _ _)) (by simp [Value.oneCell']) (by omega) (by unfold maxLen; omega) (by omega) (by simp; omega) _ (by rfl) ?_; intro g cap w5 hown hgrow hat hlt; have hQ := Out8.pushed (b := 109) hB HO.out rfl hown hgrow; have hB5 : B ≤ w5.heap.size := Nat.le_trans hB hQ.2.size; have c50 : w5.cell? ⟨b, 0, none⟩ = some (.int .i64 p) := hQ.2.cell HBK.out (by decide) rfl; have c51 : w5.cell? ⟨b, 1, none⟩ = some (.string wd) := hQ.2.cell HBK.out (by decide) rfl; have Q : Hid _ := hQ; clear hown hgrow hat hlt hQ)
      | (go_at_call 80; refine (code_appendPlace Q.out.1 hB5 (by simp; omega) p).mono ?_; rintro e w6 ⟨v6, rfl, h6⟩; have Q6 : Hid _ := And.intro h6.1 (Q.out.2.trans h6.2); have hB6 : B ≤ w6.heap.size := Nat.le_trans hB5 h6.2.size; clear h6; have c60 : w6.cell? ⟨b, 0, none⟩ = some (.int .i64 p) := Q6.out.2.cell HBK.out (by decide) rfl; have c61 : w6.cell? ⟨b, 1, none⟩ = some (.string wd) := Q6.out.2.cell HBK.out (by decide) rfl)
      | (go_at_call 79; refine (code_appendText Q6.out.1 hB6 (by simp; omega) wd (by omega)).mono ?_; rintro e w7 ⟨v7, rfl, h7⟩; have Q7 : Hid _ := And.intro h7.1 (Q6.out.2.trans h7.2); have hB7 : B ≤ w7.heap.size := Nat.le_trans hB6 h7.2.size; clear h7; have c70 : w7.cell? ⟨b, 0, none⟩ = some (.int .i64 p) := Q7.out.2.cell HBK.out (by decide) rfl; have c71 : w7.cell? ⟨b, 1, none⟩ = some (.string wd) := Q7.out.2.cell HBK.out (by decide) rfl))
  have c72 : w7.cell? ⟨b, 2, none⟩ = some (.string m) := Q7.out.2.cell HBK.out (by decide) rfl
  have c73 : w7.cell? ⟨b, 3, none⟩ = some (.int .i64 n) := Q7.out.2.cell HBK.out (by decide) rfl
  go_wp2_with fail
  go_region_held3 (fun w' => w'.cell? ⟨b, 2, none⟩ = some (.string m) ∧ w'.cell? ⟨b, 3, none⟩ = some (.int .i64 n)) (go_keep)
    (first
      | (go_at_call 79; refine (code_appendText (World.ownsRow.drew Q7.out.1) hB7 (by simp at hln ⊢; omega) m (by omega)).mono ?_; rintro e w8 ⟨v8, rfl, h8⟩; have Q8 : Hid _ := And.intro h8.1 (Q7.out.2.drew.trans h8.2); have hB8 : B ≤ w8.heap.size := Nat.le_trans hB7 h8.2.size; clear h8; have c82 : w8.cell? ⟨b, 2, none⟩ = some (.string m) := Q8.out.2.cell HBK.out (by decide) rfl; have c83 : w8.cell? ⟨b, 3, none⟩ = some (.int .i64 n) := Q8.out.2.cell HBK.out (by decide) rfl)
      | (go_at_call 76; refine (code_appendNumber Q8.out.1 hB8 (by simp at hln ⊢; omega) h0 h1).mono ?_; rintro e w9 ⟨v9, rfl, h9⟩; have Q9 : Hid _ := And.intro h9.1 (Q8.out.2.trans h9.2); clear h9; have c92 : w9.cell? ⟨b, 2, none⟩ = some (.string m) := Q9.out.2.cell HBK.out (by decide) rfl; have c93 : w9.cell? ⟨b, 3, none⟩ = some (.int .i64 n) := Q9.out.2.cell HBK.out (by decide) rfl))
  go_wp2
  go_ret
  refine ⟨_, rfl, ?_, Q9.out.2⟩
  have := Q9.out.1
  simpa [enc] using this
end
end Go.Proofs.YtaghcjpoihkpjaaGreatDoor
namespace Go.Proofs.YtaghcjpoihkpjaaGreatDoor
open Go.RowKit Go.Lib

/-- A list that was just built. -/
theorem owns_built {w : World} {g : Nat} {cs : Array Value} {e : TypeId} (h : w.heap[g]? = some (.cells cs e (0, 0))) (hc : cs.size ≤ 1000) {n : Nat} (hn : n = cs.size) {xs : List Value} (hx : xs = cs.toList) : w.ownsRow 0 e 1 (.slice (some ⟨g, 0, none⟩) n n) n xs := by
  subst hn hx
  exact ⟨by simp, .inr ⟨g, _, cs, rfl, Nat.zero_le _, h, Nat.le_refl _, by first | (simp [maxLen]; omega) | omega, by simp, by rw [List.take_of_length_le (by simp)]⟩⟩
theorem heap_new_at {w : World} {o : Obj} {k : Nat} (h : k = w.heap.size) : (w.alloc o).heap[k]? = some o := by subst h; exact heap_alloc_new _ _
theorem CNode.form {P : Nat → Prop} {w : World} {t : Tree} {v : Value} (h : CNode P w t v) : ∃ ty b, v = .iface ty (ptr b) := by
  cases t <;> unfold CNode at h
  · obtain ⟨b, rfl, -⟩ := h; exact ⟨_, _, rfl⟩
  · obtain ⟨b, _, rfl, -⟩ := h; exact ⟨_, _, rfl⟩
  · obtain ⟨b, _, _, rfl, -⟩ := h; exact ⟨_, _, rfl⟩
  · obtain ⟨b, _, _, _, rfl, -⟩ := h; exact ⟨_, _, rfl⟩
  · obtain ⟨b, rfl, -⟩ := h; exact ⟨_, _, rfl⟩
  · obtain ⟨b, _, _, rfl, -⟩ := h; exact ⟨_, _, rfl⟩
section
variable {B : Nat}
set_option maxRecDepth 1000000 in
set_option maxHeartbeats 1000000 in
theorem w_ite {p : Nat} {a c d : Tree} (hA : WCon B a) (hC : WCon B c) (hD : WCon B d) : WCon B (.ite p a c d) := by
  intro w vo v l hn ho hB hl
  unfold CNode at hn
  obtain ⟨b, va, vc, vd, rfl, hb, hblk, hca, hcc, hcd⟩ := hn
  obtain ⟨tya, ba, rfl⟩ := hca.form
  obtain ⟨tyc, bc, rfl⟩ := hcc.form
  obtain ⟨tyd, bd, rfl⟩ := hcd.form
  obtain ⟨i0, hi, hz0, hz1, hz2⟩ := info_parts Tryz.infoByte
  have c0 := cell_of_heap (i := 0) hblk rfl
  have c1 := cell_of_heap (i := 1) hblk rfl
  have c2 := cell_of_heap (i := 2) hblk rfl
  have HBK : Hid (w.heap[b]? = some (.cells #[(.iface tya (ptr ba)), (.iface tyc (ptr bc)), (.iface tyd (ptr bd))] 173 (0, 0))) := hblk
  have HC : Hid (∀ w', W8 B w w' → CNodes (Lt B) w' [a, c, d] [(.iface tya (ptr ba)), (.iface tyc (ptr bc)), (.iface tyd (ptr bd))]) := fun w' hw => by
    have hm := nm_below hw.below
    unfold CNodes
    refine ⟨(.iface tya (ptr ba)), _, rfl, hca.moves hm, ?_⟩
    unfold CNodes
    refine ⟨(.iface tyc (ptr bc)), _, rfl, hcc.moves hm, ?_⟩
    unfold CNodes
    refine ⟨(.iface tyd (ptr bd)), _, rfl, hcd.moves hm, ?_⟩
    unfold CNodes
    rfl
  have HT : Hid (∀ t ∈ [a, c, d], WCon B t) := by
    intro t ht
    simp at ht
    rcases ht with rfl | rfl | rfl
    · exact hA
    · exact hC
    · exact hD
  have HO : Hid (Out8 B w vo l) := ho
  have hln : l.length + 1 + (encs [a, c, d]).length ≤ 1000000 := by simp [enc, encs] at hl ⊢; omega
  have ta := Tryz.isChoice
  have tm0 := Tryz.notChoiceNumber
  have tm1 := Tryz.notChoiceMinus
  have tm2 := Tryz.notChoicePair
  clear ho hblk hl hca hcc hcd hA hC hD
  go_enter Tryz.func48, Tryz.ntmps48
  go_wp2_with fail
  go_region_held3 (fun w' => w'.cell? ⟨b, 0, none⟩ = some (.iface tya (ptr ba)) ∧ w'.cell? ⟨b, 1, none⟩ = some (.iface tyc (ptr bc)) ∧ w'.cell? ⟨b, 2, none⟩ = some (.iface tyd (ptr bd))) (go_keep)
    (first
      | (refine step_append_lies _ (by rfl) (.tmp 43) (.tmp 44) _ (by rfl) B 5 i0 (.int .u8 0) 1 1 Tryz.underlying32 hi hz0 hz1 hz2 rfl (by omega) vo l.length (bytesV l) (by rfl) (by repeat (first | with_reducible exact HO.out | with_reducible apply World.ownsRow.drew | with_reducible apply World.ownsRow.alloc)) ⟨_, 0, none⟩ 1 1 [.int .u8 63] (by rfl) (by rfl) (news_one (by first | exact heap_new_at (by simp) | exact heap_alloc_old (heap_new_at (by simp)))) (by simp [Value.oneCell']) (by omega) (by unfold maxLen; omega) (by omega) (by first | exact hB | (simp; omega) | (simp; done)) _ (by rfl) ?_; intro g cap w5 hown hgrow hat hlt; have hQ := Out8.push (b := 63) (x := .int .u8 63) (w := w) (l := l) (v := vo) (by repeat (first | exact W8.refl _ _ | with_reducible apply W8.drew | refine W8.alloc ?_ (by first | exact hB | (simp; omega) | (simp; done)) _)) (by repeat (first | with_reducible exact HO.out | with_reducible apply World.ownsRow.drew | with_reducible apply World.ownsRow.alloc)) (by first | exact hB | (simp; omega) | (simp; done)) rfl hown hgrow; have hB5 : B ≤ w5.heap.size := Nat.le_trans hB hQ.2.size; have HW : Hid _ := W8.grown (B := B) (v := vo) (n := l.length) (xs := bytesV l) (by repeat (first | with_reducible exact HO.out | with_reducible apply World.ownsRow.drew | with_reducible apply World.ownsRow.alloc)) hgrow (by first | exact hB | (simp; omega) | (simp; done)); have Q : Hid _ := hQ; have c50 : w5.cell? ⟨b, 0, none⟩ = some (.iface tya (ptr ba)) := hQ.2.cell HBK.out (by decide) rfl; have c51 : w5.cell? ⟨b, 1, none⟩ = some (.iface tyc (ptr bc)) := hQ.2.cell HBK.out (by decide) rfl; have c52 : w5.cell? ⟨b, 2, none⟩ = some (.iface tyd (ptr bd)) := hQ.2.cell HBK.out (by decide) rfl; clear hown hgrow hat hlt hQ)
      | (go_at_call 78; refine (code_appendParts [a, c, d] HT.out (vs := [(.iface tya (ptr ba)), (.iface tyc (ptr bc)), (.iface tyd (ptr bd))]) (HC.out _ (by first | exact Q.out.2 | exact Q.out.2.alloc hB5 _)) (owns_built (by first | exact heap_new_at (by simp) | exact HW.out.kind _ _ _ _ (heap_new_at (by simp)) (by decide) | exact HW.out.kind _ _ _ _ (heap_alloc_old (heap_new_at (by simp))) (by decide)) (by simp) rfl rfl) (by first | exact Q.out.1 | exact World.ownsRow.alloc Q.out.1 _) (by first | exact hB5 | (simp; omega)) (by simp at hln ⊢; omega) (by simp)).mono ?_; rintro e w6 ⟨v6, rfl, h6⟩; have Q6 : Hid _ := And.intro h6.1 (W8.trans (by first | exact Q.out.2 | exact Q.out.2.alloc hB5 _) h6.2); clear h6; have c60 : w6.cell? ⟨b, 0, none⟩ = some (.iface tya (ptr ba)) := Q6.out.2.cell HBK.out (by decide) rfl; have c61 : w6.cell? ⟨b, 1, none⟩ = some (.iface tyc (ptr bc)) := Q6.out.2.cell HBK.out (by decide) rfl; have c62 : w6.cell? ⟨b, 2, none⟩ = some (.iface tyd (ptr bd)) := Q6.out.2.cell HBK.out (by decide) rfl))
  all_goals
    go_wp2
    go_ret
    refine ⟨_, rfl, ?_, Q6.out.2⟩
    have := Q6.out.1
    simpa [enc, encs] using this
end
end Go.Proofs.YtaghcjpoihkpjaaGreatDoor
namespace Go.Proofs.YtaghcjpoihkpjaaGreatDoor
open Go.RowKit Go.Lib

section
variable {B : Nat}
set_option maxRecDepth 1000000 in
set_option maxHeartbeats 2000000 in
theorem w_probe {p : Nat} {wd : ByteArray} {ts : List Tree} (hwd : wd.size < 256) (hlt : ts.length < 256) (hT : ∀ t ∈ ts, WCon B t) : WCon B (.probe p wd ts) := by
  intro w vo v l hn ho hB hl
  unfold CNode at hn
  obtain ⟨b, pv, vs, rfl, hb, hblk, ⟨hrow, hrowB⟩, hns⟩ := hn
  obtain ⟨i0, hi, hz0, hz1, hz2⟩ := info_parts Tryz.infoByte
  have hvl := hns.length
  obtain ⟨ao, cp, rfl⟩ := owns_len hrow
  have c0 := cell_of_heap (i := 0) hblk rfl
  have c1 := cell_of_heap (i := 1) hblk rfl
  have HBK : Hid (w.heap[b]? = some (.cells #[.int .i64 p, .string wd, .slice ao vs.length cp] 203 (0, 0))) := hblk
  have HO : Hid (Out8 B w vo l) := ho
  have HRW : Hid (w.ownsRow 0 134 1 (.slice ao vs.length cp) vs.length vs) := hrow
  have HNS : Hid (CNodes (Lt B) w ts vs) := hns
  have HT : Hid (∀ t ∈ ts, WCon B t) := hT
  have hln : l.length + 3 + (textB wd).length + (encs ts).length ≤ 1000000 := by simp [enc] at hl; omega
  have hx : bytesV [UInt8.ofNat ts.length] = [.int .u8 ((vs.length : Int) % 256)] := by rw [hvl]; exact byte_of _
  have HX : Hid _ := hx
  have h200 : ts.length ≤ 1000 := by omega
  have hm255 : vs.length < 256 := by omega
  have ta := Tryz.isProbe
  have tm0 := Tryz.notProbeNumber
  have tm1 := Tryz.notProbeMinus
  have tm2 := Tryz.notProbePair
  have tm3 := Tryz.notProbeChoice
  have tm4 := Tryz.notProbeMeasure
  clear ho hblk hl hrow hns hT hrowB hx hvl hlt
  generalize hM : vs.length = M at *
  have HM : Hid (vs.length = M) := hM
  clear hM
  go_enter Tryz.func48, Tryz.ntmps48
  go_wp2_with fail
  go_region_held3 (fun w' => w'.cell? ⟨b, 0, none⟩ = some (.int .i64 p) ∧ w'.cell? ⟨b, 1, none⟩ = some (.string wd)) (go_keep)
    (first
      | (refine step_append_lies _ (by rfl) (.tmp 90) (.tmp 91) _ (by rfl) B 5 i0 (.int .u8 0) 1 1 Tryz.underlying32 hi hz0 hz1 hz2 rfl (by omega) vo l.length (bytesV l) (by rfl) (World.ownsRow.alloc (World.ownsRow.drew HO.out) _) ⟨_, 0, none⟩ 1 1 [.int .u8 112] (by rfl) (by rfl) (news_one (heap_alloc_new _ _)) (by simp [Value.oneCell']) (by omega) (by unfold maxLen; omega) (by omega) (by simp; omega) _ (by rfl) ?_; intro g cap w5 hown hgrow hat hlt; have hQ := Out8.pushed (b := 112) hB HO.out rfl hown hgrow; have hB5 : B ≤ w5.heap.size := Nat.le_trans hB hQ.2.size; have c50 : w5.cell? ⟨b, 0, none⟩ = some (.int .i64 p) := hQ.2.cell HBK.out (by decide) rfl; have c51 : w5.cell? ⟨b, 1, none⟩ = some (.string wd) := hQ.2.cell HBK.out (by decide) rfl; have Q : Hid _ := hQ; clear hown hgrow hat hlt hQ)
      | (go_at_call 80; refine (code_appendPlace Q.out.1 hB5 (by simp; omega) p).mono ?_; rintro e w6 ⟨v6, rfl, h6⟩; have Q6 : Hid _ := And.intro h6.1 (Q.out.2.trans h6.2); have hB6 : B ≤ w6.heap.size := Nat.le_trans hB5 h6.2.size; clear h6; have c60 : w6.cell? ⟨b, 0, none⟩ = some (.int .i64 p) := Q6.out.2.cell HBK.out (by decide) rfl; have c61 : w6.cell? ⟨b, 1, none⟩ = some (.string wd) := Q6.out.2.cell HBK.out (by decide) rfl)
      | (go_at_call 79; refine (code_appendText Q6.out.1 hB6 (by simp; omega) wd (by omega)).mono ?_; rintro e w7 ⟨v7, rfl, h7⟩; have Q7 : Hid _ := And.intro h7.1 (Q6.out.2.trans h7.2); have hB7 : B ≤ w7.heap.size := Nat.le_trans hB6 h7.2.size; clear h7; have c70 : w7.cell? ⟨b, 0, none⟩ = some (.int .i64 p) := Q7.out.2.cell HBK.out (by decide) rfl; have c71 : w7.cell? ⟨b, 1, none⟩ = some (.string wd) := Q7.out.2.cell HBK.out (by decide) rfl))
  have c72 : w7.cell? ⟨b, 2, none⟩ = some (.slice ao M cp) := Q7.out.2.cell HBK.out (by decide) rfl
  obtain ⟨L7, hL7⟩ : ∃ L7, L7 = l ++ [112] ++ [UInt8.ofNat p] ++ textB wd := ⟨_, rfl⟩
  have Q8 : Hid (Out8 B w7 v7 L7 ∧ W8 B w w7) := by rw [hL7]; exact Q7.out
  have hl7 : L7.length + 1 + (encs ts).length ≤ 1000000 := by rw [hL7]; simp at hln ⊢; omega
  have HL7 : Hid (L7 = l ++ [112] ++ [UInt8.ofNat p] ++ textB wd) := hL7
  have HOO : Hid (Out8 B w7 v7 L7) := Q8.out.1
  clear hL7 Q7 Q6 Q hB5 hB6
  go_wp2_with fail
  go_region_held3 (fun w' => w'.cell? ⟨b, 2, none⟩ = some (.slice ao M cp)) (go_keep)
    (first
      | (refine step_append_lies _ (by rfl) (.tmp 103) (.tmp 110) _ (by rfl) B 5 i0 (.int .u8 0) 1 1 Tryz.underlying32 hi hz0 hz1 hz2 rfl (by omega) v7 L7.length (bytesV L7) (by rfl) (by repeat (first | with_reducible exact HOO.out | with_reducible apply World.ownsRow.drew | with_reducible apply World.ownsRow.alloc)) ⟨_, 0, none⟩ 1 1 [.int .u8 ((M : Int) % 256)] (by rfl) (by rfl) (news_one (by first | exact heap_new_at (by simp) | exact heap_alloc_old (heap_new_at (by simp)))) (by simp [Value.oneCell']) (by omega) (by unfold maxLen; omega) (by omega) (by first | exact hB7 | (simp; omega) | (simp; done)) _ (by rfl) ?_; intro g cap w5 hown hgrow hat hlt; have hQ := Out8.push (b := UInt8.ofNat ts.length) (x := .int .u8 ((M : Int) % 256)) (w := w) (l := L7) (v := v7) (by repeat (first | exact Q8.out.2 | with_reducible apply W8.drew | refine W8.alloc ?_ (by first | exact hB7 | (simp; omega) | (simp; done)) _)) (by repeat (first | with_reducible exact HOO.out | with_reducible apply World.ownsRow.drew | with_reducible apply World.ownsRow.alloc)) (by first | exact hB7 | (simp; omega) | (simp; done)) HX.out hown hgrow; have hB5 : B ≤ w5.heap.size := Nat.le_trans hB hQ.2.size; have HW : Hid _ := W8.grown (B := B) (v := v7) (n := L7.length) (xs := bytesV L7) (by repeat (first | with_reducible exact HOO.out | with_reducible apply World.ownsRow.drew | with_reducible apply World.ownsRow.alloc)) hgrow (by first | exact hB7 | (simp; omega) | (simp; done)); have Q : Hid _ := hQ; have c52 : w5.cell? ⟨b, 2, none⟩ = some (.slice ao M cp) := hQ.2.cell HBK.out (by decide) rfl; clear hown hgrow hat hlt hQ)
      | (go_at_call 78; refine (code_appendParts ts HT.out (vs := vs) (HNS.out.moves (nm_below Q.out.2.below)) (by rw [HM.out]; exact Q.out.2.owns HRW.out (by decide)) Q.out.1 hB5 (by simp; omega) h200).mono ?_; rintro e w9 ⟨v9, rfl, h9⟩; have Q9 : Hid _ := And.intro h9.1 (Q.out.2.trans h9.2); clear h9; have c92 : w9.cell? ⟨b, 2, none⟩ = some (.slice ao M cp) := Q9.out.2.cell HBK.out (by decide) rfl))
  all_goals
    go_wp2
    go_ret
    refine ⟨_, rfl, ?_, Q9.out.2⟩
    have := Q9.out.1
    rw [HL7.out] at this
    simpa [enc] using this

theorem byte_small {k : Nat} (h : k < 256) : bytesV [UInt8.ofNat k] = [.int .u8 (k : Int)] := by
  rw [byte_of]
  congr 2
  omega
set_option maxRecDepth 1000000 in
set_option maxHeartbeats 2000000 in
theorem code_appendPair {k p : Nat} {a c : Tree} (hA : WCon B a) (hC : WCon B c) (hk : k < 256) {w : World} {vo va vc : Value} {l : List UInt8} {b : Nat} (hblk : w.heap[b]? = some (.cells #[.int .i64 p, .int .u8 k, va, vc] 263 (0, 0))) (hca : CNode (Lt B) w a va) (hcc : CNode (Lt B) w c vc) (ho : Out8 B w vo l) (hB : B ≤ w.heap.size) (hl : l.length + (enc (.bin k p a c)).length ≤ 1000000) :
    Calls Tryz.prog 77 #[vo, ptr b] w fun e w' => ∃ vo', e = .returned vo' ∧ Out8 B w' vo' (l ++ enc (.bin k p a c)) ∧ W8 B w w' := by
  obtain ⟨tya, ba, rfl⟩ := hca.form
  obtain ⟨tyc, bc, rfl⟩ := hcc.form
  obtain ⟨i0, hi, hz0, hz1, hz2⟩ := info_parts Tryz.infoByte
  have c1 := cell_of_heap (i := 1) hblk rfl
  have HBK : Hid (w.heap[b]? = some (.cells #[.int .i64 p, .int .u8 k, (.iface tya (ptr ba)), (.iface tyc (ptr bc))] 263 (0, 0))) := hblk
  have HC : Hid (∀ w', W8 B w w' → CNodes (Lt B) w' [a, c] [(.iface tya (ptr ba)), (.iface tyc (ptr bc))]) := fun w' hw => by
    have hm := nm_below hw.below
    unfold CNodes
    refine ⟨_, _, rfl, hca.moves hm, ?_⟩
    unfold CNodes
    refine ⟨_, _, rfl, hcc.moves hm, ?_⟩
    unfold CNodes
    rfl
  have HT : Hid (∀ t ∈ [a, c], WCon B t) := by
    intro t ht
    simp at ht
    rcases ht with rfl | rfl
    · exact hA
    · exact hC
  have HO : Hid (Out8 B w vo l) := ho
  have hln : l.length + 1 + (if k = 47 then 1 else 0) + (encs [a, c]).length ≤ 1000000 := by
    simp only [enc, encs] at hl ⊢
    split at hl <;> simp_all <;> omega
  have HX : Hid _ := byte_small hk
  have HN : Hid (k < 256) := hk
  clear ho hblk hl hca hcc hA hC hk
  by_cases h47 : k = 47
  · subst h47
    simp only [if_true] at hln
    go_enter Tryz.func77, Tryz.ntmps77
    go_wp2_with (first
        | (at_builtin; refine wpList_append_at _ rfl _ _ 32 rfl B 5 i0 (.int .u8 0) 1 1 Tryz.underlying32 hi hz0 hz1 hz2 rfl (by decide) vo l.length (bytesV l) rfl (HO.out.alloc _) ⟨w.heap.size, 0, none⟩ 1 1 [.int .u8 ((47 : Nat) : Int)] (by simp [Act.eval]) rfl (cell_one8 rfl) (fun x hx => by simp at hx; subst hx; rfl) (by unfold maxLen; omega) (by omega) (by simp; omega) (by decide) ?_; intro v' w5 hown hgrow hnil; have hQ := Out8.push ((W8.refl B w).alloc hB _) (HO.out.alloc _) (by simp; omega) HX.out hown hgrow; have c50 : w5.cell? ⟨b, 0, none⟩ = some (.int .i64 p) := hQ.2.cell HBK.out (by decide) rfl; have c51 : w5.cell? ⟨b, 1, none⟩ = some (.int .u8 ((47 : Nat) : Int)) := hQ.2.cell HBK.out (by decide) rfl; have Q : Hid _ := hQ; have hB5 : B ≤ w5.heap.size := Nat.le_trans hB hQ.2.size; clear hown hgrow hnil hQ)
        | (go_at_call 80; refine (code_appendPlace Q.out.1 hB5 (by simp; omega) p).mono ?_; rintro e w6 ⟨v6, rfl, h6⟩; have Q6 : Hid _ := And.intro h6.1 (Q.out.2.trans h6.2); have hB6 : B ≤ w6.heap.size := Nat.le_trans hB5 h6.2.size; clear h6; have c62 : w6.cell? ⟨b, 2, none⟩ = some (.iface tya (ptr ba)) := Q6.out.2.cell HBK.out (by decide) rfl; have c63 : w6.cell? ⟨b, 3, none⟩ = some (.iface tyc (ptr bc)) := Q6.out.2.cell HBK.out (by decide) rfl)
        | fail)
    go_region_held3 (fun w' => w'.cell? ⟨b, 2, none⟩ = some (.iface tya (ptr ba)) ∧ w'.cell? ⟨b, 3, none⟩ = some (.iface tyc (ptr bc))) (go_keep)
      (first
        | (go_at_call 78; refine (code_appendParts [a, c] HT.out (vs := [(.iface tya (ptr ba)), (.iface tyc (ptr bc))]) (HC.out _ (Q6.out.2.drew.alloc hB6 _)) (owns_built (heap_new_at (by simp)) (by simp) rfl rfl) (World.ownsRow.alloc (World.ownsRow.drew Q6.out.1) _) (by simp; omega) (by simp at hln ⊢; omega) (by simp)).mono ?_; rintro e w7 ⟨v7, rfl, h7⟩; have Q7 : Hid _ := And.intro h7.1 ((Q6.out.2.drew.alloc hB6 _).trans h7.2); clear h7; have c72 : w7.cell? ⟨b, 2, none⟩ = some (.iface tya (ptr ba)) := Q7.out.2.cell HBK.out (by decide) rfl; have c73 : w7.cell? ⟨b, 3, none⟩ = some (.iface tyc (ptr bc)) := Q7.out.2.cell HBK.out (by decide) rfl))
    go_wp2
    go_ret
    refine ⟨_, rfl, ?_, Q7.out.2⟩
    have := Q7.out.1
    simpa [enc, encs] using this
  · have hb47 : (((k : Nat) : Int) == 47) = false := by rw [beq_eq_false_iff_ne]; omega
    have H47 : Hid (¬ k = 47) := h47
    simp only [if_neg h47] at hln
    clear h47
    go_enter Tryz.func77, Tryz.ntmps77
    go_wp2_with (first
        | (at_builtin; refine wpList_append_at _ rfl _ _ 32 rfl B 5 i0 (.int .u8 0) 1 1 Tryz.underlying32 hi hz0 hz1 hz2 rfl (by decide) vo l.length (bytesV l) rfl (HO.out.alloc _) ⟨w.heap.size, 0, none⟩ 1 1 [.int .u8 (k : Int)] (by simp [Act.eval]) rfl (cell_one8 rfl) (fun x hx => by simp at hx; subst hx; rfl) (by unfold maxLen; omega) (by omega) (by simp; omega) (by decide) ?_; intro v' w5 hown hgrow hnil; have hQ := Out8.push ((W8.refl B w).alloc hB _) (HO.out.alloc _) (by simp; omega) HX.out hown hgrow; have c51 : w5.cell? ⟨b, 1, none⟩ = some (.int .u8 (k : Int)) := hQ.2.cell HBK.out (by decide) rfl; have c62 : w5.cell? ⟨b, 2, none⟩ = some (.iface tya (ptr ba)) := hQ.2.cell HBK.out (by decide) rfl; have c63 : w5.cell? ⟨b, 3, none⟩ = some (.iface tyc (ptr bc)) := hQ.2.cell HBK.out (by decide) rfl; have Q6 : Hid _ := hQ; have hB6 : B ≤ w5.heap.size := Nat.le_trans hB hQ.2.size; clear hown hgrow hnil hQ)
        | fail)
    go_region_held3 (fun w' => w'.cell? ⟨b, 2, none⟩ = some (.iface tya (ptr ba)) ∧ w'.cell? ⟨b, 3, none⟩ = some (.iface tyc (ptr bc))) (go_keep)
      (first
        | (go_at_call 78; refine (code_appendParts [a, c] HT.out (vs := [(.iface tya (ptr ba)), (.iface tyc (ptr bc))]) (HC.out _ (Q6.out.2.drew.alloc hB6 _)) (owns_built (heap_new_at (by simp)) (by simp) rfl rfl) (World.ownsRow.alloc (World.ownsRow.drew Q6.out.1) _) (by simp; omega) (by simp at hln ⊢; omega) (by simp)).mono ?_; rintro e w7 ⟨v7, rfl, h7⟩; have Q7 : Hid _ := And.intro h7.1 ((Q6.out.2.drew.alloc hB6 _).trans h7.2); clear h7; have c72 : w7.cell? ⟨b, 2, none⟩ = some (.iface tya (ptr ba)) := Q7.out.2.cell HBK.out (by decide) rfl; have c73 : w7.cell? ⟨b, 3, none⟩ = some (.iface tyc (ptr bc)) := Q7.out.2.cell HBK.out (by decide) rfl))
    go_wp2
    go_ret
    refine ⟨_, rfl, ?_, Q7.out.2⟩
    have := Q7.out.1
    simpa [enc, encs, H47.out] using this
set_option maxRecDepth 1000000 in
theorem w_bin {k p : Nat} {a c : Tree} (hA : WCon B a) (hC : WCon B c) (hk : k < 256) : WCon B (.bin k p a c) := by
  intro w vo v l hn ho hB hl
  unfold CNode at hn
  obtain ⟨b, va, vc, rfl, hb, hblk, hca, hcc⟩ := hn
  have hpr := code_appendPair hA hC hk hblk hca hcc ho hB hl
  have ta := Tryz.isPair
  have tm0 := Tryz.notPairNumber
  have tm1 := Tryz.notPairMinus
  clear hblk hca hcc ho hl hA hC
  go_enter Tryz.func48, Tryz.ntmps48
  go_wp2_with fail
  refine hpr.mono ?_
  rintro e w6 ⟨v6, rfl, h6⟩
  have Q6 : Hid _ := h6
  clear h6 hpr
  go_wp2
  go_ret
  exact ⟨_, rfl, Q6.out⟩
theorem reck_lt {k : Nat} (h : isReck k = true ∨ k = 47) : k < 256 := by
  rcases h with h | h
  · simp [isReck] at h
    omega
  · omega
mutual
/-- Whatever fits is written. -/
theorem w_all : ∀ t : Tree, Fit t → WCon B t
  | .num _ _, h => by simp only [Fit] at h; exact w_num h.1 h.2
  | .neg _ a, h => by simp only [Fit] at h; exact w_neg (w_all a h)
  | .bin _ _ a c, h => by simp only [Fit] at h; exact w_bin (w_all a h.2.2.1) (w_all c h.2.2.2) (reck_lt h.1)
  | .ite _ a c d, h => by simp only [Fit] at h; exact w_ite (w_all a h.1) (w_all c h.2.1) (w_all d h.2.2)
  | .meas _ _ _ _, h => by simp only [Fit] at h; exact w_meas h.2.2.1 h.2.2.2.2.2.1 h.2.2.2.2.2.2.1 h.2.2.2.2.2.2.2
  | .probe _ _ ts, h => by simp only [Fit] at h; exact w_probe h.2.2.1 h.2.2.2.2.1 (w_alls ts h.2.2.2.2.2)
theorem w_alls : ∀ ts : List Tree, FitAll ts → ∀ t ∈ ts, WCon B t
  | [], _ => by intro t ht; simp at ht
  | a :: ts, h => by
    simp only [FitAll] at h
    have h1 := w_all a h.1
    have h2 := w_alls ts h.2
    intro t ht
    rcases List.mem_cons.1 ht with ht | ht
    · rw [ht]; exact h1
    · exact h2 t ht
end
mutual
theorem enc_length : ∀ t : Tree, Fit t → (enc t).length ≤ 600 * size t
  | .num _ _, h => by simp [enc, be4, size]
  | .neg _ a, h => by simp only [Fit] at h; have := enc_length a h; simp [enc, size]; omega
  | .bin k _ a c, h => by
    simp only [Fit] at h
    have h1 := enc_length a h.2.2.1
    have h2 := enc_length c h.2.2.2
    simp only [enc, size]
    split <;> simp <;> omega
  | .ite _ a c d, h => by
    simp only [Fit] at h
    have h1 := enc_length a h.1
    have h2 := enc_length c h.2.1
    have h3 := enc_length d h.2.2
    simp [enc, size]
    omega
  | .meas _ w m _, h => by simp only [Fit] at h; simp [enc, textB, be4, size]; omega
  | .probe _ w ts, h => by
    simp only [Fit] at h
    have := encs_length ts h.2.2.2.2.2
    simp [enc, textB, size]
    omega
theorem encs_length : ∀ ts : List Tree, FitAll ts → (encs ts).length ≤ 600 * sizes ts
  | [], _ => by simp [encs]
  | t :: ts, h => by
    simp only [FitAll] at h
    have h1 := enc_length t h.1
    have h2 := encs_length ts h.2
    simp [encs, sizes]
    omega
end
end
end Go.Proofs.YtaghcjpoihkpjaaGreatDoor
