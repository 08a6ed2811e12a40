/-
  THE FUNCTIONS THAT MAKE FUNCTIONS OF PARTS, WALKED.
-/
import Derived.Test.YtihmgoahobbdkaaGreatDoorJC34
namespace Go.Proofs.YtihmgoahobbdkaaGreatDoor
open Go.RowKit Go.Lib

theorem heap_new8 {w : World} {o : Obj} {k : Nat} (h : k = w.heap.size) : (w.alloc o).heap[k]? = some o := by subst h; exact heap_alloc_new _ _
section
variable {R lo : Nat} {w : World} {r : RS}
set_option maxRecDepth 1000000 in
theorem mk_num (h : RSt R w r) (hlo : lo ≤ w.heap.size) (n : Int) : Calls Tryz.prog 113 #[.int .i64 n] w fun e w' => ∃ v, e = .returned v ∧ FuncV v ∧ RSt R w' r ∧ KR R w w' ∧ VOk R lo w' r (.num 0 n) v := by
  have hb : Below w.heap.size w (w.alloc (.cells #[.int .i64 n] 2)) := ((Below.refl _ _).alloc (by first | exact Nat.le_refl _ | (simp; done) | (simp; omega)) _)
  have HB : Hid _ := And.intro h hb
  have K : Hid (KR R w (w.alloc (.cells #[.int .i64 n] 2))) := KR.of_below hb h.lR
  have FR : Hid (∀ b, w.heap.size ≤ b → b < w.heap.size + 1 → Fr R lo (w.alloc (.cells #[.int .i64 n] 2)) b) := fun b h1 h2 => And.intro (h.free_new hb h1 (by first | (simp; done) | (simp; omega))) (Nat.le_trans hlo h1)
  have H : Hid (RSt R w r) := h
  clear h hb
  have hmf : ∀ (fn : Fn) (first cap : Array Value) (w : World), (Instr.makeFunc fn first cap).run Tryz.prog w = .ok (.func fn first cap) w := fun _ _ _ _ => rfl
  go_enter Tryz.func113, Tryz.ntmps113
  go_wp2
  go_ret
  refine ⟨_, rfl, .inr ⟨_, _, _, rfl⟩, HB.out.1.later HB.out.2, K.out, fun hw => ?_⟩
  unfold VNode
  exact ⟨_, rfl, FR.out _ (by first | exact Nat.le_refl _ | omega | (simp; done) | (simp; omega)) (by first | omega | (simp; done) | (simp; omega)), heap_new8 (by simp)⟩
set_option maxRecDepth 1000000 in
theorem mk_neg (h : RSt R w r) (hlo : lo ≤ w.heap.size) {a : Tree} {va : Value} (hfa : FuncV va) (hva : VOk R lo w r a va) : Calls Tryz.prog 115 #[va] w fun e w' => ∃ v, e = .returned v ∧ FuncV v ∧ RSt R w' r ∧ KR R w w' ∧ VOk R lo w' r (.neg 0 a) v := by
  have hb : Below w.heap.size w (w.alloc (.cells #[va] 140)) := ((Below.refl _ _).alloc (by first | exact Nat.le_refl _ | (simp; done) | (simp; omega)) _)
  have HB : Hid _ := And.intro h hb
  have K : Hid (KR R w (w.alloc (.cells #[va] 140))) := KR.of_below hb h.lR
  have FR : Hid (∀ b, w.heap.size ≤ b → b < w.heap.size + 1 → Fr R lo (w.alloc (.cells #[va] 140)) b) := fun b h1 h2 => And.intro (h.free_new hb h1 (by first | (simp; done) | (simp; omega))) (Nat.le_trans hlo h1)
  have H : Hid (RSt R w r) := h
  clear h hb
  have hmf : ∀ (fn : Fn) (first cap : Array Value) (w : World), (Instr.makeFunc fn first cap).run Tryz.prog w = .ok (.func fn first cap) w := fun _ _ _ _ => rfl
  have HVa : Hid _ := hva
  clear hva
  rcases hfa with rfl | ⟨_, _, _, rfl⟩
  all_goals
    go_enter Tryz.func115, Tryz.ntmps115
    go_wp2
    go_ret
    refine ⟨_, rfl, .inr ⟨_, _, _, rfl⟩, HB.out.1.later HB.out.2, K.out, fun hw => ?_⟩
    unfold VNode
    exact ⟨_, _, rfl, FR.out _ (by first | exact Nat.le_refl _ | omega | (simp; done) | (simp; omega)) (by first | omega | (simp; done) | (simp; omega)), heap_new8 (by simp), (HVa.out hw).moves K.out.vmoves⟩
set_option maxRecDepth 1000000 in
theorem mk_quot (h : RSt R w r) (hlo : lo ≤ w.heap.size) (p : Nat) {a c : Tree} {va vc : Value} (hfa : FuncV va) (hfc : FuncV vc) (hva : VOk R lo w r a va) (hvc : VOk R lo w r c vc) : Calls Tryz.prog 117 #[.agg #[.int .i64 p], va, vc] w fun e w' => ∃ v, e = .returned v ∧ FuncV v ∧ RSt R w' r ∧ KR R w w' ∧ VOk R lo w' r (.bin 47 p a c) v := by
  have hb : Below w.heap.size w (((w.alloc (.cells #[.int .i64 p] 112)).alloc (.cells #[va] 140)).alloc (.cells #[vc] 140)) := ((((Below.refl _ _).alloc (by first | exact Nat.le_refl _ | (simp; done) | (simp; omega)) _).alloc (by first | exact Nat.le_refl _ | (simp; done) | (simp; omega)) _).alloc (by first | exact Nat.le_refl _ | (simp; done) | (simp; omega)) _)
  have HB : Hid _ := And.intro h hb
  have K : Hid (KR R w (((w.alloc (.cells #[.int .i64 p] 112)).alloc (.cells #[va] 140)).alloc (.cells #[vc] 140))) := KR.of_below hb h.lR
  have FR : Hid (∀ b, w.heap.size ≤ b → b < w.heap.size + 3 → Fr R lo (((w.alloc (.cells #[.int .i64 p] 112)).alloc (.cells #[va] 140)).alloc (.cells #[vc] 140)) b) := fun b h1 h2 => And.intro (h.free_new hb h1 (by first | (simp; done) | (simp; omega))) (Nat.le_trans hlo h1)
  have H : Hid (RSt R w r) := h
  clear h hb
  have hmf : ∀ (fn : Fn) (first cap : Array Value) (w : World), (Instr.makeFunc fn first cap).run Tryz.prog w = .ok (.func fn first cap) w := fun _ _ _ _ => rfl
  have HVa : Hid _ := hva
  clear hva
  have HVc : Hid _ := hvc
  clear hvc
  rcases hfa with rfl | ⟨_, _, _, rfl⟩ <;> rcases hfc with rfl | ⟨_, _, _, rfl⟩
  all_goals
    go_enter Tryz.func117, Tryz.ntmps117
    go_wp2
    go_ret
    refine ⟨_, rfl, .inr ⟨_, _, _, rfl⟩, HB.out.1.later HB.out.2, K.out, fun hw => ?_⟩
    unfold VNode
    exact ⟨_, _, _, _, _, rfl, ⟨FR.out _ (by first | exact Nat.le_refl _ | omega | (simp; done) | (simp; omega)) (by first | omega | (simp; done) | (simp; omega)), FR.out _ (by first | exact Nat.le_refl _ | omega | (simp; done) | (simp; omega)) (by first | omega | (simp; done) | (simp; omega)), FR.out _ (by first | exact Nat.le_refl _ | omega | (simp; done) | (simp; omega)) (by first | omega | (simp; done) | (simp; omega))⟩, heap_alloc_old (heap_new8 (by simp)), heap_new8 (by simp), heap_alloc_old (heap_alloc_old (heap_new8 (by simp))), (HVa.out hw).moves K.out.vmoves, (HVc.out hw).moves K.out.vmoves⟩
set_option maxRecDepth 1000000 in
theorem mk_pair (h : RSt R w r) (hlo : lo ≤ w.heap.size) (k : Nat) (hk : k ≠ 47) {a c : Tree} {va vc : Value} (hfa : FuncV va) (hfc : FuncV vc) (hva : VOk R lo w r a va) (hvc : VOk R lo w r c vc) : Calls Tryz.prog 122 #[reckV k, va, vc] w fun e w' => ∃ v, e = .returned v ∧ FuncV v ∧ RSt R w' r ∧ KR R w w' ∧ VOk R lo w' r (.bin k 0 a c) v := by
  have hb : Below w.heap.size w (((w.alloc (.cells #[reckV k] 193)).alloc (.cells #[va] 140)).alloc (.cells #[vc] 140)) := ((((Below.refl _ _).alloc (by first | exact Nat.le_refl _ | (simp; done) | (simp; omega)) _).alloc (by first | exact Nat.le_refl _ | (simp; done) | (simp; omega)) _).alloc (by first | exact Nat.le_refl _ | (simp; done) | (simp; omega)) _)
  have HB : Hid _ := And.intro h hb
  have K : Hid (KR R w (((w.alloc (.cells #[reckV k] 193)).alloc (.cells #[va] 140)).alloc (.cells #[vc] 140))) := KR.of_below hb h.lR
  have FR : Hid (∀ b, w.heap.size ≤ b → b < w.heap.size + 3 → Fr R lo (((w.alloc (.cells #[reckV k] 193)).alloc (.cells #[va] 140)).alloc (.cells #[vc] 140)) b) := fun b h1 h2 => And.intro (h.free_new hb h1 (by first | (simp; done) | (simp; omega))) (Nat.le_trans hlo h1)
  have H : Hid (RSt R w r) := h
  clear h hb
  have hmf : ∀ (fn : Fn) (first cap : Array Value) (w : World), (Instr.makeFunc fn first cap).run Tryz.prog w = .ok (.func fn first cap) w := fun _ _ _ _ => rfl
  have HVa : Hid _ := hva
  clear hva
  have HVc : Hid _ := hvc
  clear hvc
  have hfr : FuncV (reckV k) := by rcases reck_nil k with ⟨-, F, e⟩ | ⟨-, e⟩ <;> rw [e]; exact .inr ⟨_, _, _, rfl⟩; exact .inl rfl
  generalize hRK : reckV k = rk at *
  have HRK : Hid (reckV k = rk) := hRK
  clear hRK
  rcases hfr with rfl | ⟨_, _, _, rfl⟩ <;> rcases hfa with rfl | ⟨_, _, _, rfl⟩ <;> rcases hfc with rfl | ⟨_, _, _, rfl⟩
  all_goals
    go_enter Tryz.func122, Tryz.ntmps122
    go_wp2
    go_ret
    refine ⟨_, rfl, .inr ⟨_, _, _, rfl⟩, HB.out.1.later HB.out.2, K.out, fun hw => ?_⟩
    unfold VNode
    exact ⟨_, _, _, _, _, by rw [if_neg hk]; rfl, ⟨FR.out _ (by first | exact Nat.le_refl _ | omega | (simp; done) | (simp; omega)) (by first | omega | (simp; done) | (simp; omega)), FR.out _ (by first | exact Nat.le_refl _ | omega | (simp; done) | (simp; omega)) (by first | omega | (simp; done) | (simp; omega)), FR.out _ (by first | exact Nat.le_refl _ | omega | (simp; done) | (simp; omega)) (by first | omega | (simp; done) | (simp; omega))⟩, heap_alloc_old (heap_new8 (by simp)), heap_new8 (by simp), by rw [if_neg hk, if_neg hk, HRK.out]; exact heap_alloc_old (heap_alloc_old (heap_new8 (by simp))), (HVa.out hw).moves K.out.vmoves, (HVc.out hw).moves K.out.vmoves⟩
set_option maxRecDepth 1000000 in
theorem mk_ite (h : RSt R w r) (hlo : lo ≤ w.heap.size) {a c d : Tree} {va vc vd : Value} (hfa : FuncV va) (hfc : FuncV vc) (hfd : FuncV vd) (hva : VOk R lo w r a va) (hvc : VOk R lo w r c vc) (hvd : VOk R lo w r d vd) : Calls Tryz.prog 118 #[va, vc, vd] w fun e w' => ∃ v, e = .returned v ∧ FuncV v ∧ RSt R w' r ∧ KR R w w' ∧ VOk R lo w' r (.ite 0 a c d) v := by
  have hb : Below w.heap.size w (((w.alloc (.cells #[va] 140)).alloc (.cells #[vc] 140)).alloc (.cells #[vd] 140)) := ((((Below.refl _ _).alloc (by first | exact Nat.le_refl _ | (simp; done) | (simp; omega)) _).alloc (by first | exact Nat.le_refl _ | (simp; done) | (simp; omega)) _).alloc (by first | exact Nat.le_refl _ | (simp; done) | (simp; omega)) _)
  have HB : Hid _ := And.intro h hb
  have K : Hid (KR R w (((w.alloc (.cells #[va] 140)).alloc (.cells #[vc] 140)).alloc (.cells #[vd] 140))) := KR.of_below hb h.lR
  have FR : Hid (∀ b, w.heap.size ≤ b → b < w.heap.size + 3 → Fr R lo (((w.alloc (.cells #[va] 140)).alloc (.cells #[vc] 140)).alloc (.cells #[vd] 140)) b) := fun b h1 h2 => And.intro (h.free_new hb h1 (by first | (simp; done) | (simp; omega))) (Nat.le_trans hlo h1)
  have H : Hid (RSt R w r) := h
  clear h hb
  have hmf : ∀ (fn : Fn) (first cap : Array Value) (w : World), (Instr.makeFunc fn first cap).run Tryz.prog w = .ok (.func fn first cap) w := fun _ _ _ _ => rfl
  have HVa : Hid _ := hva
  clear hva
  have HVc : Hid _ := hvc
  clear hvc
  have HVd : Hid _ := hvd
  clear hvd
  rcases hfa with rfl | ⟨_, _, _, rfl⟩ <;> rcases hfc with rfl | ⟨_, _, _, rfl⟩ <;> rcases hfd with rfl | ⟨_, _, _, rfl⟩
  all_goals
    go_enter Tryz.func118, Tryz.ntmps118
    go_wp2
    go_ret
    refine ⟨_, rfl, .inr ⟨_, _, _, rfl⟩, HB.out.1.later HB.out.2, K.out, fun hw => ?_⟩
    unfold VNode
    exact ⟨_, _, _, _, _, _, rfl, ⟨FR.out _ (by first | exact Nat.le_refl _ | omega | (simp; done) | (simp; omega)) (by first | omega | (simp; done) | (simp; omega)), FR.out _ (by first | exact Nat.le_refl _ | omega | (simp; done) | (simp; omega)) (by first | omega | (simp; done) | (simp; omega)), FR.out _ (by first | exact Nat.le_refl _ | omega | (simp; done) | (simp; omega)) (by first | omega | (simp; done) | (simp; omega))⟩, heap_alloc_old (heap_alloc_old (heap_new8 (by simp))), heap_alloc_old (heap_new8 (by simp)), heap_new8 (by simp), (HVa.out hw).moves K.out.vmoves, (HVc.out hw).moves K.out.vmoves, (HVd.out hw).moves K.out.vmoves⟩
set_option maxRecDepth 1000000 in
theorem mk_meas (h : RSt R w r) (hlo : lo ≤ w.heap.size) (p : Nat) (wd m : ByteArray) (n : Int) : Calls Tryz.prog 154 #[.agg #[.int .i64 p], .string wd, .string m, .int .i64 n] w fun e w' => ∃ v, e = .returned v ∧ FuncV v ∧ RSt R w' r ∧ KR R w w' ∧ VOk R lo w' r (.meas p wd m n) v := by
  have hb : Below w.heap.size w ((((w.alloc (.cells #[.int .i64 p] 112)).alloc (.cells #[.string wd] 9)).alloc (.cells #[.string m] 9)).alloc (.cells #[.int .i64 n] 2)) := (((((Below.refl _ _).alloc (by first | exact Nat.le_refl _ | (simp; done) | (simp; omega)) _).alloc (by first | exact Nat.le_refl _ | (simp; done) | (simp; omega)) _).alloc (by first | exact Nat.le_refl _ | (simp; done) | (simp; omega)) _).alloc (by first | exact Nat.le_refl _ | (simp; done) | (simp; omega)) _)
  have HB : Hid _ := And.intro h hb
  have K : Hid (KR R w ((((w.alloc (.cells #[.int .i64 p] 112)).alloc (.cells #[.string wd] 9)).alloc (.cells #[.string m] 9)).alloc (.cells #[.int .i64 n] 2))) := KR.of_below hb h.lR
  have FR : Hid (∀ b, w.heap.size ≤ b → b < w.heap.size + 4 → Fr R lo ((((w.alloc (.cells #[.int .i64 p] 112)).alloc (.cells #[.string wd] 9)).alloc (.cells #[.string m] 9)).alloc (.cells #[.int .i64 n] 2)) b) := fun b h1 h2 => And.intro (h.free_new hb h1 (by first | (simp; done) | (simp; omega))) (Nat.le_trans hlo h1)
  have H : Hid (RSt R w r) := h
  clear h hb
  have hmf : ∀ (fn : Fn) (first cap : Array Value) (w : World), (Instr.makeFunc fn first cap).run Tryz.prog w = .ok (.func fn first cap) w := fun _ _ _ _ => rfl
  go_enter Tryz.func154, Tryz.ntmps154
  go_wp2
  go_ret
  refine ⟨_, rfl, .inr ⟨_, _, _, rfl⟩, HB.out.1.later HB.out.2, K.out, fun hw => ?_⟩
  unfold VNode
  exact ⟨_, _, _, _, rfl, ⟨FR.out _ (by first | exact Nat.le_refl _ | omega | (simp; done) | (simp; omega)) (by first | omega | (simp; done) | (simp; omega)), FR.out _ (by first | exact Nat.le_refl _ | omega | (simp; done) | (simp; omega)) (by first | omega | (simp; done) | (simp; omega)), FR.out _ (by first | exact Nat.le_refl _ | omega | (simp; done) | (simp; omega)) (by first | omega | (simp; done) | (simp; omega)), FR.out _ (by first | exact Nat.le_refl _ | omega | (simp; done) | (simp; omega)) (by first | omega | (simp; done) | (simp; omega))⟩, heap_alloc_old (heap_alloc_old (heap_alloc_old (heap_new8 (by simp)))), heap_alloc_old (heap_alloc_old (heap_new8 (by simp))), heap_alloc_old (heap_new8 (by simp)), heap_new8 (by simp)⟩
set_option maxRecDepth 1000000 in
theorem mk_probe (h : RSt R w r) (hlo : lo ≤ w.heap.size) (p : Nat) (wd : ByteArray) {ts : List Tree} {vs : List Value} {ao : Option Addr} {ln cp : Nat} (hvp : r.wrong = false → (w.ownsRow 0 140 1 (.slice ao ln cp) vs.length vs ∧ ∀ g, (Value.slice ao ln cp).ownBlock = some g → Fr R lo w g) ∧ VNodes (Fr R lo w) w ts vs) : Calls Tryz.prog 155 #[.agg #[.int .i64 p], .string wd, .slice ao ln cp] w fun e w' => ∃ v, e = .returned v ∧ FuncV v ∧ RSt R w' r ∧ KR R w w' ∧ VOk R lo w' r (.probe p wd ts) v := by
  have hb : Below w.heap.size w (((w.alloc (.cells #[.int .i64 p] 112)).alloc (.cells #[.string wd] 9)).alloc (.cells #[.slice ao ln cp] 305)) := ((((Below.refl _ _).alloc (by first | exact Nat.le_refl _ | (simp; done) | (simp; omega)) _).alloc (by first | exact Nat.le_refl _ | (simp; done) | (simp; omega)) _).alloc (by first | exact Nat.le_refl _ | (simp; done) | (simp; omega)) _)
  have HB : Hid _ := And.intro h hb
  have K : Hid (KR R w (((w.alloc (.cells #[.int .i64 p] 112)).alloc (.cells #[.string wd] 9)).alloc (.cells #[.slice ao ln cp] 305))) := KR.of_below hb h.lR
  have FR : Hid (∀ b, w.heap.size ≤ b → b < w.heap.size + 3 → Fr R lo (((w.alloc (.cells #[.int .i64 p] 112)).alloc (.cells #[.string wd] 9)).alloc (.cells #[.slice ao ln cp] 305)) b) := fun b h1 h2 => And.intro (h.free_new hb h1 (by first | (simp; done) | (simp; omega))) (Nat.le_trans hlo h1)
  have H : Hid (RSt R w r) := h
  have HVP : Hid _ := hvp
  clear h hb hvp
  have hmf : ∀ (fn : Fn) (first cap : Array Value) (w : World), (Instr.makeFunc fn first cap).run Tryz.prog w = .ok (.func fn first cap) w := fun _ _ _ _ => rfl
  go_enter Tryz.func155, Tryz.ntmps155
  go_wp2
  go_ret
  refine ⟨_, rfl, .inr ⟨_, _, _, rfl⟩, HB.out.1.later HB.out.2, K.out, fun hw => ?_⟩
  unfold VNode
  exact ⟨_, _, _, _, _, rfl, ⟨FR.out _ (by first | exact Nat.le_refl _ | omega | (simp; done) | (simp; omega)) (by first | omega | (simp; done) | (simp; omega)), FR.out _ (by first | exact Nat.le_refl _ | omega | (simp; done) | (simp; omega)) (by first | omega | (simp; done) | (simp; omega)), FR.out _ (by first | exact Nat.le_refl _ | omega | (simp; done) | (simp; omega)) (by first | omega | (simp; done) | (simp; omega))⟩, heap_new8 (by simp), heap_alloc_old (heap_alloc_old (heap_new8 (by simp))), heap_alloc_old (heap_new8 (by simp)), ⟨owns_of_block (HVP.out hw).1.1 fun g hg => (K.out.vmoves g ((HVP.out hw).1.2 g hg)).2, fun g hg => (K.out.vmoves g ((HVP.out hw).1.2 g hg)).1⟩, (HVP.out hw).2.moves K.out.vmoves⟩
end
end Go.Proofs.YtihmgoahobbdkaaGreatDoor
