/-
  A WINDOW OF string: slices.Delete from the front, WALKED.
-/
import Derived.Test.YtjcbbcnjnnpfoaaWinAS
import Derived.Deep.RegionLaw
namespace Go.Proofs.Ytjcbbcnjnnpfoaa
open Go.RowKit Go.Lib

theorem infoSamS : (Try.prog.info? 86).map (fun i => (i.zero, i.size, i.bytes)) = some (some (.agg #[.int .i64 0, Value.string { data := #[] }]), 2, 24) := by kernel_rfl
theorem zerosS (n : Nat) : (Builtin.zeroCells (Value.agg #[.int .i64 0, Value.string { data := #[] }]).cells n).toList.length = n * 2 ∧ ∀ v ∈ (Builtin.zeroCells (Value.agg #[.int .i64 0, Value.string { data := #[] }]).cells n).toList, v.oneCell' = true := by
  have e : (Value.agg #[.int .i64 0, Value.string { data := #[] }]).cells = #[.int .i64 0, Value.string { data := #[] }] := rfl
  rw [e]
  refine ⟨by simp [Builtin.zeroCells], fun v hv => ?_⟩
  simp only [Builtin.zeroCells, Array.toList_map, List.mem_map] at hv
  obtain ⟨i, -, rfl⟩ := hv
  have : i % 2 = 0 ∨ i % 2 = 1 := by omega
  show (#[Value.int .i64 0, Value.string { data := #[] }][i % 2]!).oneCell' = true
  rcases this with h | h <;> rw [h] <;> rfl

set_option maxHeartbeats 4000000 in
set_option maxRecDepth 1000000 in
theorem deleteS {w : World} {mv : Value} {k : List (Int × ByteArray)} (own : w.ownsRow 0 86 2 mv k.length (sCells Value.string k)) (hl : k.length ≤ 17) (left : Nat) (hle : left ≤ k.length) :
    Calls Try.prog 42 #[mv, .int .i64 0, .int .i64 left] w fun e w' =>
      ∃ mv', e = .returned mv' ∧ w'.ownsRow 0 86 2 mv' (k.drop left).length (sCells Value.string (k.drop left)) ∧ mv'.ownBlock = mv.ownBlock ∧ Only (fun b => mv.ownBlock = some b) w w' := by
  by_cases h0 : left = 0
  · subst h0
    have OWN : Hid (w.ownsRow 0 86 2 mv k.length (sCells Value.string k)) := own
    rcases own.2 with ⟨rfl, h⟩ | ⟨g, cap, cur, rfl, -, -, hnc, hcm, -⟩
    · clear own
      go_enter Try.func42, Try.ntmps42
      go_wp2
      go_ret
      exact ⟨_, rfl, by simpa using OWN.out, rfl, .refl _ _⟩
    · clear own
      unfold maxLen at hcm
      generalize hn : k.length = n at *
      go_enter Try.func42, Try.ntmps42
      go_wp2
      go_ret
      exact ⟨_, rfl, by simpa [hn] using OWN.out, rfl, .refl _ _⟩
  · have hz := zerosS
    obtain ⟨i0, hi0, hz0, hz1, hz2⟩ := info_parts infoSamS
    rcases own.2 with ⟨rfl, h⟩ | ⟨g, cap, cur, rfl, -, hg, hnc, hcm, hcs, htake⟩
    · omega
    unfold maxLen at hcm
    have hln : (sCells Value.string k).length = k.length * 2 := sCells_length _ _
    obtain ⟨news, hnews⟩ : ∃ news, news = sCells Value.string (k.drop left) := ⟨_, rfl⟩
    have hlen : news.length = (k.length - left) * 2 := by rw [hnews, sCells_length, List.length_drop]
    have hcc : ∀ j, j < k.length * 2 → w.cell? ⟨g, j, none⟩ = (sCells Value.string k)[j]? := by
      intro j hj
      have e : (sCells Value.string k)[j]? = cur[j]? := by rw [← htake, List.getElem?_take, if_pos hj]; simp
      rw [e]
      simp [World.cell?, hg]
    obtain ⟨A, hA, hsrc⟩ : ∃ A : Addr, (if cap = left then some (⟨g, 0, none⟩ : Addr) else some ⟨g, left * 2, none⟩) = some A ∧ Hid (∀ t u, news[t]? = some u → w.drew.cell? (A.add t) = some u) := by
      by_cases h : cap = left
      · refine ⟨⟨g, 0, none⟩, by simp [h], fun t u hu => ?_⟩
        have h0 : news.length = 0 := by rw [hlen]; omega
        rw [List.length_eq_zero_iff.1 h0] at hu
        simp at hu
      · refine ⟨⟨g, left * 2, none⟩, by simp [h], fun t u hu => ?_⟩
        have ht : t < (k.length - left) * 2 := by
          have := (List.getElem?_eq_some_iff.1 hu).1
          rwa [hlen] at this
        rw [Addr.add_lit]
        have := hcc (left * 2 + t) (by omega)
        rw [hnews, sCells_drop, List.getElem?_drop] at hu
        exact this.trans hu
    have s1 : Hid (news.length = (k.length - left) * 2) := hlen
    have s2 : Hid (∀ u ∈ news, u.oneCell' = true) := by rw [hnews]; exact sCells_one _ (fun _ => rfl) _
    have s3 : Hid (∀ t, t < news.length → (w.drew.cell? ⟨g, 0 + 0 * 2 + t, none⟩).isSome = true ∧ w.drew.frozen? ⟨g, 0 + 0 * 2 + t, none⟩ = false) := by
      intro t ht
      rw [hlen] at ht
      rw [Nat.zero_mul, Nat.zero_add]
      refine ⟨?_, frozen_of_heap (w := w.drew) hg⟩
      show (w.cell? _).isSome = true
      rw [hcc t (by omega), List.getElem?_eq_getElem (by rw [hln]; omega)]
      rfl
    obtain ⟨W1, hW1⟩ : ∃ W1, W1 = w.drew.setCells g (0 + 0 * 2) news := ⟨_, rfl⟩
    have hW : Hid (W1 = w.drew.setCells g (0 + 0 * 2) news) := hW1
    have hzl := (hz (k.length - (k.length - left))).1
    obtain ⟨cs1, b1, z1, t1⟩ := heap_setCells news 0 w.drew cur hg (by rw [hlen, hcs]; omega)
    have B1 : W1.heap[g]? = some (.cells cs1 86 (0, 0)) := by rw [hW1]; exact b1
    have hcl : ∀ ty, (Builtin.clear_ #[48] ty #[.slice (some ⟨g, (k.length - left) * 2, none⟩) (k.length - (k.length - left)) (cap - (k.length - left))]).run Try.prog W1 = _ := fun ty =>
      run_clear_any W1 _ 86 ty (.agg #[.int .i64 0, Value.string { data := #[] }]) Try.underlying48 Try.zeroValue86 g _ _ _ (by omega)
        (fun j hj => by rw [hzl] at hj; simp only [World.cell?, B1]; rw [Array.getElem?_eq_getElem (by rw [z1, hcs]; omega)]; rfl) (fun j hj => frozen_of_heap B1) (hz _).2
    obtain ⟨W2, hW2⟩ : ∃ W2, W2 = W1.setCells g ((k.length - left) * 2) (Builtin.zeroCells (Value.agg #[.int .i64 0, Value.string { data := #[] }]).cells (k.length - (k.length - left))).toList := ⟨_, rfl⟩
    rw [← hW2] at hcl
    obtain ⟨cs2, b2, z2, t2⟩ := heap_setCells (Builtin.zeroCells (Value.agg #[.int .i64 0, Value.string { data := #[] }]).cells (k.length - (k.length - left))).toList ((k.length - left) * 2) W1 cs1 B1 (by rw [hzl, z1, hcs]; omega)
    rw [← hW2] at b2
    have RES : Hid (W2.ownsRow 0 86 2 (.slice (some ⟨g, 0, none⟩) (k.length - left) cap) (k.drop left).length (sCells Value.string (k.drop left)) ∧ Only (fun b => (Value.slice (some ⟨g, 0, none⟩) k.length cap).ownBlock = some b) w W2) := by
      refine ⟨⟨sCells_length _ _, .inr ⟨g, cap, cs2, by rw [List.length_drop], Nat.zero_le _, b2, by rw [List.length_drop]; omega, by unfold maxLen; omega, by rw [z2, z1, hcs], ?_⟩⟩, ?_⟩
      · rw [t2, t1, List.length_drop, ← hnews]
        simp only [List.take_zero, List.nil_append]
        rw [List.take_append_of_le_length (by simp; omega), List.take_append_of_le_length (by simp; omega), List.take_take, Nat.min_self, List.take_append_of_le_length (by omega), List.take_of_length_le (by omega)]
      · rw [hW2, hW1]
        exact Only.setCells (P := fun b => (Value.slice (some ⟨g, 0, none⟩) k.length cap).ownBlock = some b) (g := g) (fun _ => rfl) _ _ _ (Only.setCells (P := fun b => (Value.slice (some ⟨g, 0, none⟩) k.length cap).ownBlock = some b) (g := g) (fun _ => rfl) _ _ _ (Only.refl _ w).drew)
    have hic : 0 ≤ cap := by omega
    have hjc : left ≤ cap := by omega
    generalize hkn : k.length = n at *
    clear hW1 hcc hnews hlen hg htake own hln hz b1 t1 B1 hW2 hzl b2 z2 t2
    go_enter Try.func42, Try.ntmps42
    go_wp2_with fail
    go_region_law (refine step_append_room rfl (.tmp 22) (.tmp 25) 48 rfl 86 i0 2 Try.underlying48 hi0 hz1 g 0 0 cap (by simp [Act.eval, Act.put]) A (n - left) (cap - left) news (by simp [Act.eval, Act.put]) s1.out hsrc.out s2.out (by omega) s3.out ?_; rw [← hW.out])
    go_wp2
    go_ret
    exact ⟨_, rfl, RES.out.1, rfl, RES.out.2⟩
end Go.Proofs.Ytjcbbcnjnnpfoaa
