/-
  THE PROGRAM's READER: place AND stuck, WALKED.
-/
import Derived.Test.YtaghcjpoihkpjaaGreatDoorJ5
import Derived.Test.YtaghcjpoihkpjaaGreatDoorJ1
import Derived.Lib.SlicesS
import Derived.Lib.OwnKind
namespace Go.Proofs.YtaghcjpoihkpjaaGreatDoor
open Go.RowKit Go.Lib

section
variable {s : ByteArray} {R : Nat}
set_option maxRecDepth 1000000 in
theorem code_place {w : World} {I : Nat} {ms : List ByteArray} (h : CStM s R w I ms) :
    Calls Tryz.prog 63 #[.pointer (some ⟨R, 0, none⟩)] w fun e w' => e = .returned (.agg #[.int .i64 (pl (toks s) I)]) ∧ Below w.heap.size w w' := by
  obtain ⟨txt, mv, h1, -⟩ := h.blk
  have lR := heap_lt h1
  have c3 := cell_of_heap (i := 3) h1 rfl
  clear h1 h
  go_enter Tryz.func63, Tryz.ntmps63
  go_wp2
  refine bodyPost_ret (v := .agg #[.int .i64 (pl (toks s) I)]) (by simp [results, Tryz.results63, go_sem]) rfl ⟨rfl, ?_⟩
  exact (Below.refl _ _).alloc (Nat.le_refl _) _
set_option maxRecDepth 1000000 in
theorem code_stuck {w : World} {I : Nat} {ms : List ByteArray} (h : CStM s R w I ms) :
    Calls Tryz.prog 46 #[.pointer (some ⟨R, 0, none⟩)] w fun e w' => ∃ b, e = .returned (.iface 103 (.pointer (some ⟨b, 0, none⟩))) ∧ Below w.heap.size w w' ∧ w'.heap[b]? = some (.cells #[.int .i64 (pl (toks s) I)] 107 (0, 0)) := by
  have hpl := code_place h
  clear h
  go_enter Tryz.func46, Tryz.ntmps46
  go_wp2_with fail
  refine hpl.mono ?_
  rintro e w1 ⟨rfl, hb⟩
  have HB : Hid (Below w.heap.size w w1) := hb
  clear hpl hb
  go_wp2
  go_ret
  exact ⟨_, rfl, HB.out.alloc HB.out.size _, heap_alloc_new _ _⟩

end
end Go.Proofs.YtaghcjpoihkpjaaGreatDoor
namespace Go.Proofs.YtaghcjpoihkpjaaGreatDoor
open Go.RowKit Go.Lib

theorem index_any (c : UInt8) : ∀ cs : List UInt8, decide (0 ≤ Lib.indexByte cs c) = cs.any (fun d => d.toNat == c.toNat)
  | [] => by simp [Lib.indexByte]
  | d :: cs => by
    have ih := index_any c cs
    by_cases h : d = c
    · subst h
      simp [Lib.indexByte]
    · have h' : (d.toNat == c.toNat) = false := by simp [UInt8.toNat_inj, h]
      rw [List.any_cons, h', Bool.false_or, ← ih]
      have hge := Lib.indexByte_ge cs c
      have hbe : (d == c) = false := by simpa using h
      simp only [Lib.indexByte, hbe, Bool.false_eq_true, if_false]
      by_cases hm : Lib.indexByte cs c = -1
      · simp [hm]
      · rw [if_neg (by simpa using hm), Bool.eq_iff_iff, decide_eq_true_iff, decide_eq_true_iff]
        omega
theorem kind_sign {t : Tok} (h : codeKind t = 1) : t.kind ≠ 33 ∧ t.kind ≠ 101 := by
  refine ⟨fun e => ?_, fun e => ?_⟩ <;> (unfold codeKind at h; simp [e] at h)
theorem any_other {t : Tok} (h : codeKind t ≠ 1) (cs : List UInt8) (hcs : cs.all isSign = true) : cs.any (fun d => d.toNat == t.kind) = false := by
  rw [List.any_eq_false]
  intro d hd
  have hs := List.all_eq_true.1 hcs d hd
  rw [isSign_int] at hs
  simp only [Bool.or_eq_true, beq_iff_eq] at hs
  unfold codeKind at h
  simp only [beq_iff_eq]
  intro e
  apply h
  rw [if_neg (by omega), if_neg (by omega), if_neg (by omega), if_neg (by omega)]

section
variable {s : ByteArray} {R : Nat}
/-- Is one of these signs in view? -/
def seesB (s : ByteArray) (I : Nat) (cs : List UInt8) : Bool := cs.any (fun d => d.toNat == kd (toks s) I)

set_option maxRecDepth 1000000 in
theorem code_sees {w : World} {I : Nat} {ms : List ByteArray} (h : CStM s R w I ms) (cs : List UInt8) (hcs : cs.all isSign = true) :
    Calls Tryz.prog 60 #[.pointer (some ⟨R, 0, none⟩), .string ⟨cs.toArray⟩] w fun e w' => e = .returned (.bool (seesB s I cs)) ∧ w' = w := by
  obtain ⟨txt, mv, h1, h2, -⟩ := h.blk
  have c1 := cell_of_heap (i := 1) h1 rfl
  have c2 := cell_of_heap (i := 2) h1 rfl
  have hI := h.lt
  unfold seesB kd
  by_cases hk : codeKind ((toks s).getD I default) = 1
  · obtain ⟨c, q1, q2, q3⟩ := toks_sign s hI hk
    have htx : txt = ⟨#[c]⟩ := by rw [h2 (kind_sign hk).1, q3]
    have hcon := Tryz.strings_Contains_one ⟨cs.toArray⟩ c w
    have e1 : (⟨cs.toArray⟩ : ByteArray).data.toList = cs := rfl
    have q2' : ((toks s).getD I default).kind = c.toNat := q2
    rw [e1, index_any] at hcon
    rw [q2']
    rw [hk] at c1
    subst htx
    generalize cs.any (fun d => d.toNat == c.toNat) = B at hcon ⊢
    clear h1 h2 h q2 q3 q2' hk hcs
    go_enter Tryz.func60, Tryz.ntmps60
    go_wp2_with (first | (go_at_call 109; refine hcon.mono ?_; rintro e w' ⟨rfl, hw⟩; have hw := hw.symm; subst hw))
    go_ret
    exact ⟨by cases B <;> rfl, rfl⟩
  · rw [any_other hk cs hcs]
    obtain ⟨K, hK⟩ : ∃ K, codeKind ((toks s).getD I default) = K := ⟨_, rfl⟩
    rw [hK] at c1 hk
    have hk' : ((K : Int) == 1) = false := beq_eq_false_iff_ne.2 (by omega)
    clear h1 h2 h hk hcs hK
    go_enter Tryz.func60, Tryz.ntmps60
    go_wp2
    go_ret
    exact ⟨rfl, rfl⟩

theorem sign_last2 {I : Nat} {cs : List UInt8} (hcs : cs.all isSign = true) (h : seesB s I cs = true) : ((toks s).getD I default).last = false := by
  unfold seesB at h
  obtain ⟨d, hd, e⟩ := List.any_eq_true.1 h
  have hs := List.all_eq_true.1 hcs d hd
  have e' : d.toNat = ((toks s).getD I default).kind := by simpa [kd] using e
  have := sign_last (p := 0) (q := 0) hs
  rw [e'] at this
  exact this

/-- The error that 'stuck' makes. -/
def ErrAt (w : World) (e : Value) (p : Nat) : Prop := ∃ b, e = .iface 103 (.pointer (some ⟨b, 0, none⟩)) ∧ w.heap[b]? = some (.cells #[.int .i64 p] 107 (0, 0))

set_option maxRecDepth 1000000 in
theorem code_takeSign {w : World} {I : Nat} {ms : List ByteArray} (h : CStM s R w I ms) (cs : List UInt8) (hcs : cs.all isSign = true) :
    Calls Tryz.prog 62 #[.pointer (some ⟨R, 0, none⟩), .string ⟨cs.toArray⟩] w fun e w' => KC R w w' ∧
      ((seesB s I cs = true ∧ e = .returned .nilIface ∧ CStM s R w' (I + 1) ms) ∨ (seesB s I cs = false ∧ ∃ b, e = .returned (.iface 103 (.pointer (some ⟨b, 0, none⟩))) ∧ w'.heap[b]? = some (.cells #[.int .i64 (pl (toks s) I)] 107 (0, 0)))) := by
  have hse := code_sees h cs hcs
  have hlR : R < w.heap.size := by obtain ⟨a, b, c, -⟩ := h.blk; exact heap_lt c
  cases hb : seesB s I cs with
  | true =>
    have hst := code_step h (sign_last2 hcs hb)
    rw [hb] at hse
    clear h hb
    go_enter Tryz.func62, Tryz.ntmps62
    go_wp2_with fail
    refine hse.mono ?_
    rintro e w' ⟨rfl, hw⟩
    have hw := hw.symm
    subst hw
    go_wp2_with fail
    refine hst.mono ?_
    rintro e w1 ⟨rfl, hs1, hb1⟩
    have HS1 : Hid (CStM s R w1 (I + 1) ms) := hs1
    have HB1 : Hid (KC R w w1) := hb1
    clear hs1 hb1
    go_wp2
    go_ret
    exact ⟨HB1.out, .inl ⟨trivial, rfl, HS1.out⟩⟩
  | false =>
    have hsk := code_stuck h
    rw [hb] at hse
    clear h hb
    go_enter Tryz.func62, Tryz.ntmps62
    go_wp2_with fail
    refine hse.mono ?_
    rintro e w' ⟨rfl, hw⟩
    have hw := hw.symm
    subst hw
    go_wp2_with fail
    refine hsk.mono ?_
    rintro e w1 ⟨b1, rfl, hbl, hbk⟩
    have HQ : Hid _ := And.intro hbl hbk
    clear hbl hbk hsk
    go_wp2
    go_ret
    exact ⟨KC.of_below HQ.out.1 hlR, .inr ⟨trivial, _, rfl, HQ.out.2⟩⟩

set_option maxRecDepth 1000000 in
theorem code_take {w : World} {I : Nat} {ms : List ByteArray} (h : CStM s R w I ms) (k : Nat) (hk : k = 2 ∨ k = 3) :
    Calls Tryz.prog 201 #[.pointer (some ⟨R, 0, none⟩), .int .i64 k] w fun e w' => KC R w w' ∧
      ((codeKind ((toks s).getD I default) = k ∧ e = .returned (.tuple #[.string (tx s (toks s) I), .nilIface]) ∧ CStM s R w' (I + 1) ms) ∨ (codeKind ((toks s).getD I default) ≠ k ∧ ∃ b, e = .returned (.tuple #[.string { data := #[] }, .iface 103 (.pointer (some ⟨b, 0, none⟩))]) ∧ w'.heap[b]? = some (.cells #[.int .i64 (pl (toks s) I)] 107 (0, 0)))) := by
  obtain ⟨txt, mv, h1, h2, -⟩ := h.blk
  have c1 := cell_of_heap (i := 1) h1 rfl
  have c2 := cell_of_heap (i := 2) h1 rfl
  have hlR : R < w.heap.size := heap_lt h1
  by_cases hb : codeKind ((toks s).getD I default) = k
  · have hl : ((toks s).getD I default).last = false := by
      unfold codeKind at hb
      simp only [Tok.last, Bool.or_eq_false_iff, beq_eq_false_iff_ne]
      constructor
      · intro e; rw [if_pos e] at hb; omega
      · intro e
        rw [if_neg (by omega), if_neg (by omega), if_neg (by omega), if_pos e] at hb
        omega
    have h33 : kd (toks s) I ≠ 33 := by
      intro e
      have e' : ((toks s).getD I default).kind = 33 := e
      simp [Tok.last] at hl
      rw [List.getD_eq_getElem?_getD] at e'
      exact hl.2 e'
    have hst := code_step h hl
    have htx := h2 h33
    subst htx
    rw [hb] at c1
    have hne : ((k : Int) != (k : Int)) = false := by simp
    have HBK : Hid (codeKind ((toks s).getD I default) = k) := hb
    clear h hb h1 h2 hl h33
    go_enter Tryz.func201, Tryz.ntmps201
    go_wp2_with fail
    refine hst.mono ?_
    rintro e w1 ⟨rfl, hs1, hb1⟩
    have HS1 : Hid (CStM s R w1 (I + 1) ms) := hs1
    have HB1 : Hid (KC R w w1) := hb1
    clear hs1 hb1
    go_wp2
    go_ret2
    exact ⟨HB1.out, .inl ⟨HBK.out, rfl, HS1.out⟩⟩
  · have hsk := code_stuck h
    obtain ⟨K, hK⟩ : ∃ K, codeKind ((toks s).getD I default) = K := ⟨_, rfl⟩
    rw [hK] at c1
    have hne : ((K : Int) != (k : Int)) = true := bne_iff_ne.2 (by omega)
    have HBK : Hid (codeKind ((toks s).getD I default) ≠ k) := hb
    clear h hb h1 h2 hK
    go_enter Tryz.func201, Tryz.ntmps201
    go_wp2_with fail
    refine hsk.mono ?_
    rintro e w1 ⟨b1, rfl, hbl, hbk⟩
    have HQ : Hid _ := And.intro hbl hbk
    clear hbl hbk hsk
    go_wp2
    go_ret2
    exact ⟨KC.of_below HQ.out.1 hlR, .inr ⟨HBK.out, _, rfl, HQ.out.2⟩⟩

set_option maxRecDepth 1000000 in
theorem code_isKind (b : ByteArray) (w : World) : Calls Tryz.prog 121 #[.string b] w fun e w' => e = .returned (.bool (isMeasure b)) ∧ w' = w := by
  go_enter Tryz.func121, Tryz.ntmps121
  go_wp2
  all_goals (go_ret; exact ⟨by first | (rw [isMeasure_or]; simp [*]; done) | (rw [isMeasure_or]; simp_all; done), rfl⟩)
end
end Go.Proofs.YtaghcjpoihkpjaaGreatDoor
namespace Go.Proofs.YtaghcjpoihkpjaaGreatDoor

mutual
def mets : Tree → List ByteArray
  | .num _ _ => []
  | .neg _ a => mets a
  | .bin _ _ a b => mets a ++ mets b
  | .ite _ a b c => mets a ++ mets b ++ mets c
  | .meas _ _ m _ => [m]
  | .probe _ _ ts => metsAll ts
def metsAll : List Tree → List ByteArray
  | [] => []
  | t :: ts => mets t ++ metsAll ts
end
theorem metsAll_append : ∀ a b, metsAll (a ++ b) = metsAll a ++ metsAll b
  | [], b => by simp [metsAll]
  | t :: a, b => by simp [metsAll, metsAll_append a b]
/-- A name is put behind the list if it is not in it. -/
def note1 (ms : List ByteArray) (x : ByteArray) : List ByteArray := if Lib.containsS ms x = true then ms else ms ++ [x]
def notes (ms : List ByteArray) (xs : List ByteArray) : List ByteArray := xs.foldl note1 ms
theorem notes_nil (ms : List ByteArray) : notes ms [] = ms := rfl
theorem notes_one (ms : List ByteArray) (x : ByteArray) : notes ms [x] = note1 ms x := rfl
theorem notes_append (ms xs ys : List ByteArray) : notes ms (xs ++ ys) = notes (notes ms xs) ys := by simp [notes]
theorem note1_length (ms : List ByteArray) (x : ByteArray) : ms.length ≤ (note1 ms x).length ∧ (note1 ms x).length ≤ ms.length + 1 := by
  unfold note1
  split <;> simp
theorem notes_length : ∀ (xs ms : List ByteArray), ms.length ≤ (notes ms xs).length ∧ (notes ms xs).length ≤ ms.length + xs.length
  | [], ms => by simp [notes]
  | x :: xs, ms => by
    have h1 := note1_length ms x
    have h2 := notes_length xs (note1 ms x)
    have e : notes ms (x :: xs) = notes (note1 ms x) xs := rfl
    rw [e]
    simp only [List.length_cons]
    omega

/-- Reading gives no more measures than it passes tokens. -/
def Lvl.got : Lvl → List Tree
  | .sumT a => [a]
  | .prodT a => [a]
  | .args l => l
  | _ => []
def Out.mets : Out → Nat
  | .ok ts _ => (metsAll ts).length
  | .bad _ => 0
theorem D.mets_le {s : ByteArray} {L : List Tok} {v : Lvl} {I : Nat} {o : Out} (h : D s L v I o) : I ≤ o.at ∧ (o.isOk = true → o.mets + I ≤ (metsAll v.got).length + o.at) := by
  induction h <;> simp only [Out.at, Out.isOk, Out.mets, Lvl.got, metsAll, metsAll_append, mets, List.length_append, List.length_nil, List.append_nil, List.length_cons] at * <;> grind
end Go.Proofs.YtaghcjpoihkpjaaGreatDoor
namespace Go.Proofs.YtaghcjpoihkpjaaGreatDoor
open Go.RowKit Go.Lib

/-- The types of the blocks that a tree lies in. -/
def nodeTys : List Nat := [188, 191, 263, 173, 199, 203, 134, 105]
abbrev ptr (b : Nat) : Value := .pointer (some ⟨b, 0, none⟩)
/-- The blocks from a number on. -/
abbrev Hi (lo : Nat) : Nat → Prop := fun b => lo ≤ b
mutual
/-- A tree in memory, all of it in blocks of a given kind. -/
def CNode (P : Nat → Prop) (w : World) : Tree → Value → Prop
  | .num _ n, v => ∃ b, v = .iface 185 (ptr b) ∧ P b ∧ w.heap[b]? = some (.cells #[.int .i64 n] 188 (0, 0))
  | .neg _ a, v => ∃ b va, v = .iface 189 (ptr b) ∧ P b ∧ w.heap[b]? = some (.cells #[va] 191 (0, 0)) ∧ CNode P w a va
  | .bin k p a c, v => ∃ b va vc, v = .iface 192 (ptr b) ∧ P b ∧ w.heap[b]? = some (.cells #[.int .i64 p, .int .u8 k, va, vc] 263 (0, 0)) ∧ CNode P w a va ∧ CNode P w c vc
  | .ite _ a c d, v => ∃ b va vc vd, v = .iface 171 (ptr b) ∧ P b ∧ w.heap[b]? = some (.cells #[va, vc, vd] 173 (0, 0)) ∧ CNode P w a va ∧ CNode P w c vc ∧ CNode P w d vd
  | .meas p word m n, v => ∃ b, v = .iface 195 (ptr b) ∧ P b ∧ w.heap[b]? = some (.cells #[.int .i64 p, .string word, .string m, .int .i64 n] 199 (0, 0))
  | .probe p word ts, v => ∃ b pv vs, v = .iface 200 (ptr b) ∧ P b ∧ w.heap[b]? = some (.cells #[.int .i64 p, .string word, pv] 203 (0, 0)) ∧ (w.ownsRow 0 134 1 pv vs.length vs ∧ ∀ g, pv.ownBlock = some g → P g) ∧ CNodes P w ts vs
def CNodes (P : Nat → Prop) (w : World) : List Tree → List Value → Prop
  | [], vs => vs = []
  | t :: ts, vs => ∃ v vs', vs = v :: vs' ∧ CNode P w t v ∧ CNodes P w ts vs'
end
/-- From one world and kind of blocks to another: a tree's blocks of the first kind lie as they lay, and are of the second kind. -/
def NMoves (P Q : Nat → Prop) (w w' : World) : Prop := ∀ b, P b → ∀ cs T, w.heap[b]? = some (.cells cs T (0, 0)) → T ∈ nodeTys → Q b ∧ w'.heap[b]? = w.heap[b]?
section
variable {P Q : Nat → Prop} {w w' : World}
theorem NMoves.heap (h : NMoves P Q w w') {b : Nat} {cs : Array Value} {T : Nat} (hP : P b) (hb : w.heap[b]? = some (.cells cs T (0, 0))) (hT : T ∈ nodeTys) : w'.heap[b]? = some (.cells cs T (0, 0)) := (h b hP cs T hb hT).2.trans hb
theorem owns_of_block {w w' : World} {base e size n : Nat} {v : Value} {xs : List Value} (h : w.ownsRow base e size v n xs) (hb : ∀ g, v.ownBlock = some g → w'.heap[g]? = w.heap[g]?) : w'.ownsRow base e size v n xs := by
  refine ⟨h.1, ?_⟩
  rcases h.2 with hn | ⟨g, cap, cur, rfl, hbg, hg, rest⟩
  · exact .inl hn
  · exact .inr ⟨g, cap, cur, rfl, hbg, (hb g rfl).trans hg, rest⟩
theorem owns_lower {w : World} {base base' e size n : Nat} {v : Value} {xs : List Value} (h : w.ownsRow base e size v n xs) (hb : base' ≤ base) : w.ownsRow base' e size v n xs := by
  refine ⟨h.1, ?_⟩
  rcases h.2 with hn | ⟨g, cap, cur, rfl, hbg, rest⟩
  · exact .inl hn
  · exact .inr ⟨g, cap, cur, rfl, Nat.le_trans hb hbg, rest⟩
theorem NMoves.row (h : NMoves P Q w w') {base n : Nat} {v : Value} {xs : List Value} (ho : w.ownsRow base 134 1 v n xs ∧ ∀ g, v.ownBlock = some g → P g) : w'.ownsRow base 134 1 v n xs ∧ ∀ g, v.ownBlock = some g → Q g := by
  obtain ⟨ho, hP⟩ := ho
  rcases ho.2 with hn | ⟨g, cap, cur, rfl, hbg, hg, rest⟩
  · refine ⟨⟨ho.1, .inl hn⟩, ?_⟩
    intro g hg
    rw [hn.1] at hg
    cases hg
  · refine ⟨⟨ho.1, .inr ⟨g, cap, cur, rfl, hbg, h.heap (hP g rfl) hg (by decide), rest⟩⟩, ?_⟩
    intro g' hg'
    injection hg' with hg'
    subst hg'
    exact (h g (hP g rfl) _ _ hg (by decide)).1
mutual
theorem CNode.moves (hm : NMoves P Q w w') : ∀ {t : Tree} {v : Value}, CNode P w t v → CNode Q w' t v
  | .num _ _, _, h => by
    unfold CNode at h ⊢
    obtain ⟨b, h1, h0, h2⟩ := h
    have q := hm b h0 _ _ h2 (by decide)
    exact ⟨b, h1, q.1, q.2.trans h2⟩
  | .neg _ _, _, h => by
    unfold CNode at h ⊢
    obtain ⟨b, va, h1, h0, h2, h3⟩ := h
    have q := hm b h0 _ _ h2 (by decide)
    exact ⟨b, va, h1, q.1, q.2.trans h2, CNode.moves hm h3⟩
  | .bin _ _ _ _, _, h => by
    unfold CNode at h ⊢
    obtain ⟨b, va, vc, h1, h0, h2, h3, h4⟩ := h
    have q := hm b h0 _ _ h2 (by decide)
    exact ⟨b, va, vc, h1, q.1, q.2.trans h2, CNode.moves hm h3, CNode.moves hm h4⟩
  | .ite _ _ _ _, _, h => by
    unfold CNode at h ⊢
    obtain ⟨b, va, vc, vd, h1, h0, h2, h3, h4, h5⟩ := h
    have q := hm b h0 _ _ h2 (by decide)
    exact ⟨b, va, vc, vd, h1, q.1, q.2.trans h2, CNode.moves hm h3, CNode.moves hm h4, CNode.moves hm h5⟩
  | .meas _ _ _ _, _, h => by
    unfold CNode at h ⊢
    obtain ⟨b, h1, h0, h2⟩ := h
    have q := hm b h0 _ _ h2 (by decide)
    exact ⟨b, h1, q.1, q.2.trans h2⟩
  | .probe _ _ _, _, h => by
    unfold CNode at h ⊢
    obtain ⟨b, pv, vs, h1, h0, h2, h3, h4⟩ := h
    have q := hm b h0 _ _ h2 (by decide)
    exact ⟨b, pv, vs, h1, q.1, q.2.trans h2, hm.row h3, CNodes.moves hm h4⟩
theorem CNodes.moves (hm : NMoves P Q w w') : ∀ {ts : List Tree} {vs : List Value}, CNodes P w ts vs → CNodes Q w' ts vs
  | [], _, h => by unfold CNodes at h ⊢; exact h
  | _ :: _, _, h => by
    unfold CNodes at h ⊢
    obtain ⟨v, vs', h1, h2, h3⟩ := h
    exact ⟨v, vs', h1, CNode.moves hm h2, CNodes.moves hm h3⟩
end
theorem CNodes.snoc : ∀ {ts : List Tree} {vs : List Value} {t : Tree} {v : Value}, CNodes P w ts vs → CNode P w t v → CNodes P w (ts ++ [t]) (vs ++ [v])
  | [], vs, t, v, h, k => by
    unfold CNodes at h
    subst h
    unfold CNodes
    exact ⟨v, [], rfl, k, by unfold CNodes; rfl⟩
  | a :: ts, vs, t, v, h, k => by
    unfold CNodes at h
    obtain ⟨x, vs', rfl, h2, h3⟩ := h
    show CNodes P w (a :: (ts ++ [t])) _
    unfold CNodes
    exact ⟨x, vs' ++ [v], rfl, h2, CNodes.snoc h3 k⟩
theorem NMoves.of_below (h : Below w.heap.size w w') : NMoves P P w w' := fun b hP _ _ hb _ => ⟨hP, h.block b (heap_lt hb)⟩
theorem NMoves.weak (h : ∀ b, P b → Q b) : NMoves P Q w w := fun b hP _ _ _ _ => ⟨h b hP, rfl⟩
theorem NMoves.trans {P1 P2 P3 : Nat → Prop} {w0 w1 w2 : World} (h : NMoves P1 P2 w0 w1) (k : NMoves P2 P3 w1 w2) : NMoves P1 P3 w0 w2 := fun b hP cs T hb hT =>
  have q := h b hP cs T hb hT
  have r := k b q.1 cs T (q.2.trans hb) hT
  ⟨r.1, r.2.trans q.2⟩
theorem CNode.up {lo lo' : Nat} {t : Tree} {v : Value} (h : CNode (Hi lo) w t v) (hl : lo' ≤ lo) : CNode (Hi lo') w t v := h.moves (.weak fun _ hb => Nat.le_trans hl hb)
theorem CNode.below {t : Tree} {v : Value} (h : CNode P w t v) (hb : Below w.heap.size w w') : CNode P w' t v := h.moves (.of_below hb)
end
end Go.Proofs.YtaghcjpoihkpjaaGreatDoor
namespace Go.Proofs.YtaghcjpoihkpjaaGreatDoor
open Go.RowKit Go.Lib

theorem mets_bin {k p : Nat} {a b : Tree} : mets (.bin k p a b) = mets a ++ mets b := by simp [mets]
theorem mets_ite {p : Nat} {a b c : Tree} : mets (.ite p a b c) = mets a ++ mets b ++ mets c := by simp [mets]
theorem mets_num {p : Nat} {n : Int} : mets (.num p n) = [] := by simp [mets]
theorem mets_neg {p : Nat} {a : Tree} : mets (.neg p a) = mets a := by simp [mets]
theorem mets_meas {p : Nat} {a b : ByteArray} {n : Int} : mets (.meas p a b n) = [b] := by simp [mets]
theorem mets_probe {p : Nat} {a : ByteArray} {ts : List Tree} : mets (.probe p a ts) = metsAll ts := by simp [mets]
section
variable {s : ByteArray} {R : Nat}
/-- What the reader's methods keep holds of trees too. -/
theorem CStM.nmoves {w w' : World} {I : Nat} {ms : List ByteArray} (h : CStM s R w I ms) (hk : KC R w w') {P : Nat → Prop} : NMoves P P w w' := by
  intro b hP cs T hb hT
  obtain ⟨txt, mv, h1, h2, h3⟩ := h.blk
  refine ⟨hP, hk.block b (heap_lt hb) (fun e => ?_) (fun e => ?_)⟩
  · subst e
    rw [h1] at hb
    injection hb with hb
    injection hb with _ hb
    subst hb
    revert hT
    decide
  · rw [mrow_of h1] at e
    obtain ⟨c, fz, q⟩ := ownsRow_kind h3 b e
    rw [hb] at q
    injection q with q
    injection q with _ q
    subst q
    revert hT
    decide
theorem CNode.kept {w w' : World} {I : Nat} {ms : List ByteArray} {P : Nat → Prop} {t : Tree} {v : Value} (hn : CNode P w t v) (h : CStM s R w I ms) (hk : KC R w w') : CNode P w' t v := hn.moves (h.nmoves hk)
/-- A place in memory. -/
abbrev AtIs (p b : Nat) (w : World) : Prop := w.heap[b]? = some (.cells #[.int .i64 (p : Int)] 105 (0, 0))
theorem CStM.at_kept {w w' : World} {I : Nat} {ms : List ByteArray} (h : CStM s R w I ms) (hk : KC R w w') {p b : Nat} (ha : AtIs p b w) : AtIs p b w' := ((h.nmoves hk (P := fun _ => True)) b trivial _ _ ha (by decide)).2.trans ha
end
end Go.Proofs.YtaghcjpoihkpjaaGreatDoor
