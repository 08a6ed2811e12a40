/-
 What a list of laid sentinels gives: each variable's cell, its own address; no two of them alike; each one's row is not frozen.
-/
import Derived.Test.YtbokdbaagacnlaaGreatDoorRows
import Derived.ProofKit
import Derived.LaidLaws
import Derived.LaidHandle
import Derived.Test.YtbokdbaagacnlaaGreatDoorJK14
import Derived.PinnedBridge
import Derived.LaidSub
import Derived.Lay
import Derived.LaidMore
import Derived.MakeChecks
import Derived.Test.YtbokdbaagacnlaaGreatDoorChecked
import Derived.Stop.Joined
import Derived.Carry
import Derived.Test.YtbokdbaagacnlaaGreatDoorJK27
import Derived.Test.YtbokdbaagacnlaaGreatDoorJK19
namespace Go.Proofs.YtbokdbaagacnlaaGreatDoor
open Go.ChangeShapes Go.WideShapes Go.RowKit
def sentD (nm : String) (x : String × List UInt8) : String × DataW Unit := (x.1, .iface nm (.ptr (.agg [.lit (.string x.2)])))
theorem sentinels_of_laid {P : Program} {nm : String} {W : World} {ti tp te ts : TypeId} {ms : Array (String × TypeId)} {f : Field}
  (hi : P.underlying ti = some (.interface ms)) (hrow : ∀ u, P.typeName? 3 u = some nm → u = tp)
  (hp : P.underlying tp = some (.pointer te)) (he : P.underlying te = some (.struct #[f])) (hft : f.type = ts) (hfo : f.offset = 0) (hs : P.underlying ts = some .string) (hc : P.cellsOf te = 1) (hcs : P.cellsOf ts = 1) :
  ∀ (L : List (String × List UInt8)) (ps : List MemPlace), (∀ x ∈ L, ∀ g, P.globalNamed x.1 = some g → (P.globals[g]?).map (·.type) = some ti) →
   DataW.LaidVars P W (L.map (sentD nm)) ps → ps.Nodup → (∀ b off, MemPlace.cell b off ∈ ps → (∃ c t, W.heap[b]? = some (.cells c t (0, 0))) ∧ ∀ u v, W.cell? ⟨b, off, none⟩ = some (.iface u v) → Value.okWide P W .any 0 u v) →
   ∃ As : List Addr, As.length = L.length ∧ (∀ (i : Nat) x a, L[i]? = some x → As[i]? = some a → W.var? P x.1 = some #[.iface tp (.pointer (some a))] ∧ ∃ c t, W.heap[a.block]? = some (.cells c t (0, 0))) ∧
    As.Pairwise (fun a b => b ≠ a) ∧ ∀ a ∈ As, MemPlace.cell a.block a.off ∈ ps
 | [], ps, _, _, _, _ => ⟨[], rfl, by simp, List.Pairwise.nil, by simp⟩
 | x :: L, ps, hty, h, hnd, hrows => by
  obtain ⟨g, t, cs, fu, p, q, hg, ht, hv, hd, hr, e⟩ := h
  have ht' := hty x (List.mem_cons_self ..) g hg
  obtain rfl := Option.some.inj (ht'.symm.trans ht)
  subst e
  obtain ⟨l⟩ := cs
  have ok : ∀ u v, l = [.iface u v] → Value.okWide P W .any 0 u v := fun u v e => by
   subst e
   exact (hrows g 0 (by simp [MemPlace.row])).2 u v (by simpa using World.var?_cell hg hv 0)
  obtain ⟨a, s, rfl, hca, hsa, hza, rfl⟩ := errorString_of_trod hi hrow hp he hft hfo hs hc hcs hd ok
  rw [List.nodup_append] at hnd
  obtain ⟨hn1, hn2, hn3⟩ := hnd
  obtain ⟨As, hl, hAs, hpw, hmem⟩ := sentinels_of_laid hi hrow hp he hft hfo hs hc hcs L q (fun y hy => hty y (List.mem_cons_of_mem _ hy)) hr hn2 (fun b off hb => hrows b off (List.mem_append_right _ hb))
  refine ⟨a :: As, by simp [hl], ?_, ?_, ?_⟩
  ·intro i y b hy hb
   cases i with
   | zero =>
    simp at hy hb
    subst hy; subst hb
    exact ⟨hv, (hrows a.block a.off (by simp [MemPlace.row])).1⟩
   | succ i =>
    simp at hy hb
    exact hAs i y b hy hb
  ·refine List.Pairwise.cons ?_ hpw
   intro b hb hab
   subst hab
   exact hn3 _ (by simp [MemPlace.row]) _ (hmem _ hb) rfl
  ·intro b hb
   rcases List.mem_cons.1 hb with rfl | hb
   ·simp [MemPlace.row]
   ·exact List.mem_append_right _ (hmem b hb)
end Go.Proofs.YtbokdbaagacnlaaGreatDoor
namespace Go.Proofs.YtbokdbaagacnlaaGreatDoor
open Go.RowKit Go.Lib Go.Shelf
theorem Tryz.row_err (u : TypeId) (h : Tryz.prog.typeName? 3 u = some "*errors.errorString") : u = 416 :=
 typeName_ptr_named (nm := "errors.errorString") (by rw [show "*" ++ "errors.errorString" = "*errors.errorString" by decide]; kernel_rfl) (by kernel_rfl) (by decide) u (by rw [show "*" ++ "errors.errorString" = "*errors.errorString" by decide]; exact h)
theorem Tryz.cellsE : Tryz.prog.cellsOf 435 = 1 := by kernel_rfl
theorem Tryz.cellsS : Tryz.prog.cellsOf 9 = 1 := by kernel_rfl
def sentNames : List String := ["scaler/api.ErrLong", "scaler/api.ErrCode", "scaler/api.ErrLimits", "scaler/api.ErrStale", "scaler/api.ErrMetric", "scaler/api.ErrDivide", "scaler/api.ErrNoData", "scaler/api.ErrCooling"]
theorem Tryz.gE0 : Tryz.prog.globalNamed "scaler/api.ErrLong" = some 5 := by kernel_rfl
theorem Tryz.gE1 : Tryz.prog.globalNamed "scaler/api.ErrCode" = some 6 := by kernel_rfl
theorem Tryz.gE2 : Tryz.prog.globalNamed "scaler/api.ErrLimits" = some 0 := by kernel_rfl
theorem Tryz.gE3 : Tryz.prog.globalNamed "scaler/api.ErrStale" = some 1 := by kernel_rfl
theorem Tryz.gE4 : Tryz.prog.globalNamed "scaler/api.ErrMetric" = some 2 := by kernel_rfl
theorem Tryz.gE5 : Tryz.prog.globalNamed "scaler/api.ErrDivide" = some 3 := by kernel_rfl
theorem Tryz.gE6 : Tryz.prog.globalNamed "scaler/api.ErrNoData" = some 4 := by kernel_rfl
theorem Tryz.gE7 : Tryz.prog.globalNamed "scaler/api.ErrCooling" = some 7 := by kernel_rfl
theorem Tryz.u8x : U8Extra Tryz.prog Tryz.lays260_ren := ⟨by kernel_rfl, by kernel_rfl, by kernel_rfl, by kernel_rfl, by kernel_rfl, by kernel_rfl, by kernel_rfl⟩
theorem Tryz.rx : RExtra Tryz.prog Tryz.lays261_ren := ⟨by kernel_rfl, by kernel_rfl, by kernel_rfl, by kernel_rfl, by kernel_rfl, by kernel_rfl, by kernel_rfl, by kernel_rfl⟩
theorem Tryz.own : ownKnob Tryz.prog.godebug = none := by kernel_rfl
theorem laidMet_layVars_all {P : Program} {w0 : World} {laid : List (String × DataW Unit)} (hf : w0.layFits P laid [] = true) (hi : w0.layIfaces P laid (w0.layVars P laid) = true) : laidMet P laid (w0.layVars P laid) := by
 have e1 : (laid.filter fun x => (laid.map (·.1)).contains x.1) = laid := List.filter_eq_self.2 fun x hx => List.contains_iff_mem.2 (List.mem_map.2 ⟨x, hx, rfl⟩)
 have e2 : (laid.filter fun x => !(laid.map (·.1)).contains x.1) = [] := List.filter_eq_nil_iff.2 fun x hx => by rw [List.contains_iff_mem.2 (List.mem_map.2 ⟨x, hx, rfl⟩)]; simp
 exact laidMet_layVars (w0 := w0) (laid.map (·.1)) [] (by rw [e1]) (by rw [e1]; exact hf) (by rw [e1]; exact hi) (by rw [e2]; exact LaidIn.none)
noncomputable def witH (os : Os) : World := (World.holding Tryz.prog os ⟨#[], #[], []⟩).setCell ⟨8, 0, none⟩ (.iface 315 (.agg #[typeHandle Tryz.prog 69]))
end Go.Proofs.YtbokdbaagacnlaaGreatDoor
namespace Go.Proofs.YtbokdbaagacnlaaGreatDoor
open Go.RowKit Go.Lib Go.Shelf
theorem Tryz.etG : Tryz.prog.globalNamed "errors.errorType" = some 8 := by kernel_rfl
theorem Tryz.rtG : (Tryz.prog.cutTypes.find? (·.1 == "internal/reflectlite.rtype")).map (·.2) = some 315 := by kernel_rfl
theorem Tryz.oneRow : ((List.range 448).filter fun t => Tryz.prog.rowNamed t [101, 114, 114, 111, 114]) = [69] := by kernel_rfl
theorem Tryz.sizeT : Tryz.prog.types.size = 448 := by kernel_rfl
theorem handle_of_laid {W : World} (h : handlesMet Tryz.prog [("errors.errorType", Rows.laid_errors_errorType)] W) : EType W := by
 obtain ⟨name, u, ty, e1, e2, e3, e4, e5⟩ := h _ (List.mem_singleton.2 rfl)
 have en : name = [101, 114, 114, 111, 114] := (Option.some.inj e1).symm
 subst en
 obtain rfl := Option.some.inj (Tryz.rtG.symm.trans e2)
 have hm : ty ∈ (List.range 448).filter fun t => Tryz.prog.rowNamed t [101, 114, 114, 111, 114] := List.mem_filter.2 ⟨List.mem_range.2 (by rw [← Tryz.sizeT]; exact e3), e4⟩
 rw [Tryz.oneRow] at hm
 obtain rfl := List.mem_singleton.1 hm
 have hh : typeHandle Tryz.prog 69 = .pointer (some ⟨18, 69, none⟩) := by kernel_rfl
 rw [hh] at e5
 unfold EType
 simpa using World.var?_cell Tryz.etG e5 0
end Go.Proofs.YtbokdbaagacnlaaGreatDoor
namespace Go.Proofs.YtbokdbaagacnlaaGreatDoor
open Go.RowKit Go.Lib Go.Shelf
def sentsControls : List (String × List UInt8) := [("scaler/api.ErrLong", [116, 104, 101, 32, 116, 101, 120, 116, 32, 105, 115, 32, 116, 111, 111, 32, 108, 111, 110, 103]), ("scaler/api.ErrCode", [116, 104, 101, 115, 101, 32, 98, 121, 116, 101, 115, 32, 97, 114, 101, 32, 110, 111, 32, 99, 111, 100, 101]), ("scaler/api.ErrLimits", [116, 104, 101, 114, 101, 32, 97, 114, 101, 32, 110, 111, 32, 115, 117, 99, 104, 32, 108, 105, 109, 105, 116, 115]), ("scaler/api.ErrStale", [116, 104, 101, 32, 116, 105, 109, 101, 32, 105, 115, 32, 112, 97, 115, 116]), ("scaler/api.ErrMetric", [116, 104, 101, 32, 112, 111, 108, 105, 99, 121, 32, 104, 97, 115, 32, 110, 111, 32, 115, 117, 99, 104, 32, 109, 101, 116, 114, 105, 99]), ("scaler/api.ErrDivide", [97, 32, 100, 105, 118, 105, 115, 105, 111, 110, 32, 98, 121, 32, 48]), ("scaler/api.ErrNoData", [116, 104, 101, 114, 101, 32, 105, 115, 32, 110, 111, 116, 104, 105, 110, 103, 32, 116, 111, 32, 109, 101, 97, 115, 117, 114, 101]), ("scaler/api.ErrCooling", [105, 116, 32, 105, 115, 32, 116, 111, 111, 32, 115, 111, 111, 110, 32, 102, 111, 114, 32, 97, 32, 99, 104, 97, 110, 103, 101])]
theorem Tryz.sentTypesControls : (sentsControls.all fun x => match Tryz.prog.globalNamed x.1 with | some g => ((Tryz.prog.globals[g]?).map (·.type)) == some 69 | none => true) = true := by kernel_rfl
theorem sentTypesControls_of (x : String × List UInt8) (hx : x ∈ sentsControls) (g : Nat) (hg : Tryz.prog.globalNamed x.1 = some g) : (Tryz.prog.globals[g]?).map (·.type) = some 69 := by
 have h := List.all_eq_true.1 Tryz.sentTypesControls x hx
 simp only [hg] at h
 exact eq_of_beq h
theorem sentsControls_listed : (Rows.controlsRow.laid.filter fun x => sentNames.contains x.1) = sentsControls.map (sentD "*errors.errorString") := by kernel_rfl
theorem handleControls_listed : (Rows.controlsRow.laid.filter fun x => x.1 == "errors.errorType") = [("errors.errorType", Rows.laid_errors_errorType)] := by kernel_rfl
theorem sentsControls_of_laid {W : World} (hL : laidMetH Tryz.prog Rows.controlsRow.laid W) : ∃ A, SentsX A W := by
 have h1 := hL.filter fun x => sentNames.contains x.1
 have hh0 := hL.filter fun x => x.1 == "errors.errorType"
 rw [handleControls_listed] at hh0
 have hh : handlesMet Tryz.prog [("errors.errorType", Rows.laid_errors_errorType)] W := hh0.2
 rw [sentsControls_listed, MakeChecks.laidMetH_plain _ _ _ (by kernel_rfl)] at h1
 obtain ⟨ps, hlv, hnd, hrows⟩ := h1
 obtain ⟨As, hlen, hAs, hpw, -⟩ := sentinels_of_laid Tryz.underlying69 Tryz.row_err Tryz.underlying416 Tryz.underlying435 rfl rfl Tryz.underlying9 Tryz.cellsE Tryz.cellsS sentsControls ps sentTypesControls_of hlv hnd hrows
 have hl8 : As.length = 8 := hlen
 have at? : ∀ k, k < 8 → As[k]? = some (As.getD k default) := fun k hk => by
  rw [List.getElem?_eq_getElem (by omega), List.getD_eq_getElem?_getD, List.getElem?_eq_getElem (by omega), Option.getD_some]
 have cell : ∀ k, k < 8 → ∀ x, sentsControls[k]? = some x → ∀ g, Tryz.prog.globalNamed x.1 = some g → W.cell? ⟨g, 0, none⟩ = some (.iface 416 (.pointer (some (As.getD k default)))) := fun k hk x hx g hg => by
  simpa using World.var?_cell hg (hAs k x _ hx (at? k hk)).1 0
 have row : ∀ k, k < 8 → ∃ c t, W.heap[(As.getD k default).block]? = some (.cells c t (0, 0)) := fun k hk => by
  have : k < sentsControls.length := hk
  exact (hAs k sentsControls[k] _ (by simp [this]) (at? k hk)).2
 have lt : ∀ i j, i < j → j < 8 → As.getD i default ≠ As.getD j default := fun i j hij hj => by
  have q := List.pairwise_iff_getElem.1 hpw i j (by omega) (by omega) hij
  rw [List.getD_eq_getElem?_getD, List.getElem?_eq_getElem (by omega), List.getD_eq_getElem?_getD, List.getElem?_eq_getElem (by omega)]
  exact fun e => q e.symm
 have pl : ∀ i, i < 8 → ([0, 1, 2, 3, 4, 5, 6, 7] : List Nat).getD i 0 < 8 := by decide
 have pn : ∀ i, i < 8 → ∀ j, j < 8 → i ≠ j → ([0, 1, 2, 3, 4, 5, 6, 7] : List Nat).getD i 0 ≠ ([0, 1, 2, 3, 4, 5, 6, 7] : List Nat).getD j 0 := by decide
 refine ⟨fun k => As.getD (([0, 1, 2, 3, 4, 5, 6, 7] : List Nat).getD k 0) default, ⟨cell 0 (by decide) _ rfl _ Tryz.gE0, cell 1 (by decide) _ rfl _ Tryz.gE1, cell 2 (by decide) _ rfl _ Tryz.gE2, cell 3 (by decide) _ rfl _ Tryz.gE3, cell 4 (by decide) _ rfl _ Tryz.gE4, cell 5 (by decide) _ rfl _ Tryz.gE5, cell 6 (by decide) _ rfl _ Tryz.gE6, cell 7 (by decide) _ rfl _ Tryz.gE7⟩, fun i hi => row _ (pl i hi), fun i j hi hj hne => ?_, handle_of_laid hh⟩
 rcases Nat.lt_or_ge (([0, 1, 2, 3, 4, 5, 6, 7] : List Nat).getD i 0) (([0, 1, 2, 3, 4, 5, 6, 7] : List Nat).getD j 0) with h | h
 ·exact lt _ _ h (pl j hj)
 ·exact fun e => lt _ _ (Nat.lt_of_le_of_ne h fun e => pn i hi j hj hne e.symm) (pl i hi) e.symm
theorem accControls_listed : (Rows.controlsRow.laid.filter fun x => x.1 == "unicode/utf8.acceptRanges") = [("unicode/utf8.acceptRanges", acceptData)] := by kernel_rfl
theorem digControls_listed : (Rows.controlsRow.laid.filter fun x => x.1 == "unicode.Digit") = [("unicode.Digit", Pinned.digit)] := by kernel_rfl
theorem letControls_listed : (Rows.controlsRow.laid.filter fun x => x.1 == "unicode.Letter") = [("unicode.Letter", Pinned.letter)] := by kernel_rfl
theorem firstControls_listed : (Rows.controlsRow.laid.filter fun x => x.1 == "unicode/utf8.first") = [("unicode/utf8.first", Pinned.utf8First)] := by kernel_rfl
theorem propsControls_listed : (Rows.controlsRow.laid.filter fun x => x.1 == "unicode.properties") = [("unicode.properties", tabData .u8 propertiesTab)] := by kernel_rfl
theorem tabsControls_of_laid {W : World} (hL : laidMetH Tryz.prog Rows.controlsRow.laid W) : Tabs W := by
 have h1 := hL.filter fun x => x.1 == "unicode/utf8.acceptRanges"
 have h2 := hL.filter fun x => x.1 == "unicode.properties"
 have h3 := hL.filter fun x => x.1 == "unicode.Digit"
 have h4 := hL.filter fun x => x.1 == "unicode.Letter"
 have h5 := hL.filter fun x => x.1 == "unicode/utf8.first"
 rw [accControls_listed, MakeChecks.laidMetH_plain _ _ _ (by kernel_rfl)] at h1
 rw [propsControls_listed, MakeChecks.laidMetH_plain _ _ _ (by kernel_rfl)] at h2
 rw [digControls_listed, MakeChecks.laidMetH_plain _ _ _ (by kernel_rfl)] at h3
 rw [letControls_listed, MakeChecks.laidMetH_plain _ _ _ (by kernel_rfl)] at h4
 rw [firstControls_listed, MakeChecks.laidMetH_plain _ _ _ (by kernel_rfl)] at h5
 refine ⟨?_, ?_, ?_, ?_⟩
 ·exact utf8Tabs_of_reads Tryz.lays260 Tryz.u8x (Pinned.utf8First_eq ▸ Lib.laidMet.reads h5 (.head _)) (Lib.laidMet.reads h1 (.head _))
 ·exact tabIs_of_head Tryz.gProps (by kernel_rfl) Tryz.underlying360 Tryz.underlying5 (by kernel_rfl) (by kernel_rfl) h2
 ·exact rvar_of_reads Tryz.lays261 Tryz.rx (by kernel_rfl) (by kernel_rfl) (Pinned.letter_eq ▸ Lib.laidMet.reads h4 (.head _))
 ·exact rvar_of_reads Tryz.lays261 Tryz.rx (by kernel_rfl) (by kernel_rfl) (Pinned.digit_eq ▸ Lib.laidMet.reads h3 (.head _))
theorem powControls_listed : (Rows.controlsRow.laid.filter fun x => x.1 == "internal/strconv.uint64pow10") = [("internal/strconv.uint64pow10", tabData .u64 pow10Tab)] := by kernel_rfl
theorem tabsRControls_of_laid {W : World} (hL : laidMetH Tryz.prog Rows.controlsRow.laid W) : TabsR W := by
 have h3 := hL.filter fun x => x.1 == "internal/strconv.uint64pow10"
 rw [powControls_listed, MakeChecks.laidMetH_plain _ _ _ (by kernel_rfl)] at h3
 exact ⟨tabsControls_of_laid hL, tabIs_of_head Tryz.gPow (by kernel_rfl) Tryz.underlying403 Tryz.underlying311 (by kernel_rfl) (by kernel_rfl) h3⟩
end Go.Proofs.YtbokdbaagacnlaaGreatDoor
