import Derived.Test.YtbokdbaagacnlaaGreatDoorJQ28
import Derived.Maps.RangeRun
namespace Go.Proofs.YtbokdbaagacnlaaGreatDoor
open Go.RowKit Go.Lib
theorem zEB (wid now:Int)(k:List (Int × Int)):Win.trim wid now k <:+ k:=(List.dropWhile_suffix _).trans (List.drop_suffix _ _)
theorem zLV (wid now:Int)(k:List (Int × Int)):(Win.trim wid now k).length≤16:=by
 have h:=(List.dropWhile_suffix (l:=k.drop (k.length - 16)) (fun x:Int × Int=>!Win.inW wid now x.1)).length_le
 unfold Win.trim
 rw[List.length_drop] at h
 omega
theorem up_drop : ∀ {k:List (Int × Int)} (n:Nat),Win.Up k→Win.Up (k.drop n)
 | k,0,h=>by simpa using h
 | [],n+1,h=>by simpa using h
 | x :: k,n+1,h=>by simpa using up_drop n h.2
theorem zN4 {l k:List (Int × Int)}(h:l <:+ k)(hk:Win.Up k):Win.Up l:=by
 rw[List.suffix_iff_eq_drop.1 h]
 exact up_drop _ hk
abbrev WT := ByteArray→Int→Int × List (Int × Int)
def zFG (T:WT)(s:ByteArray)(n now:Int):WT:=fun s2 n2=>if s2=s∧n2=n then(now,Win.trim n now (T s n).2) else T s2 n2
structure SC (w1:World) (c m:Nat) (pv:Value) (k:Ctl) (sp:List (ByteArray × Int)) (I:ByteArray→Nat) (b0:ByteArray→Int→WSt) (T:WT) (w:World):Prop where
 keep:KeepX (fun b=>∃ q∈sp,Mine (b0 q.1 q.2) b) w1 w
 ctl:zE5 w c pv (.map (some m)) k
 wins:∃ st,Wins w m sp I st∧∀ q∈sp,(st q.1 q.2).blk=(b0 q.1 q.2).blk∧(st q.1 q.2).row.ownBlock=(b0 q.1 q.2).row.ownBlock∧(st q.1 q.2).time=(T q.1 q.2).1∧(st q.1 q.2).kept=(T q.1 q.2).2
 time:∀ q∈sp,(T q.1 q.2).1≤k.time
 vals:∀ q∈sp,∀ x∈(T q.1 q.2).2,In64 x.2
def zGU (k:Ctl)(kind metric:ByteArray)(n:Int)(T:WT):Found × WT:=
 (if (zBJ kind (Win.trim n k.time (T metric n).2)).2=true then .num (zBJ kind (Win.trim n k.time (T metric n).2)).1 else .nothing (zBJ kind (Win.trim n k.time (T metric n).2)).1,zFG T metric n k.time)
theorem zF6 {S S':WSt}(h1:S.blk=S'.blk)(h2:S.row.ownBlock=S'.row.ownBlock){b:Nat}(h:Mine S b):Mine S' b:=by
 rcases h with h | h
 ·exact .inl (h.trans h1)
 ·exact .inr (h2.symm.trans h)
theorem sc_pass {w1:World}{c m:Nat}{pv:Value}{k:Ctl}{sp:List (ByteArray × Int)}{I:ByteArray→Nat}{b0 st:ByteArray→Int→WSt}{T:WT}{w w2 w3:World}(h:SC w1 c m pv k sp I b0 T w)(hw:Wins w m sp I st)
  (hst:∀ q∈sp,(st q.1 q.2).blk=(b0 q.1 q.2).blk∧(st q.1 q.2).row.ownBlock=(b0 q.1 q.2).row.ownBlock∧(st q.1 q.2).time=(T q.1 q.2).1∧(st q.1 q.2).kept=(T q.1 q.2).2) {metric:ByteArray} {n:Int} (hq:(metric,n)∈sp) {l:List (Int × Int)} {mv:Value}
  (hl:Win.trim n k.time (T metric n).2=l) (hwin:Win.WinI w2 (st metric n).blk n k.time l mv) (hown:mv.ownBlock=(st metric n).row.ownBlock) (hkx:KeepX (Mine (st metric n)) w w2) (hg:l.length≤16∧Win.Up l∧Win.AllLe k.time l) (hv:∀ x∈l,In64 x.2) (hb:Below w2.heap.size w2 w3) (hc3:zE5 w3 c pv (.map (some m)) k):
  KeepX (fun b=>∃ q∈sp,Mine (b0 q.1 q.2) b) w w3∧SC w1 c m pv k sp I b0 (zFG T metric n k.time) w3:=by
 have hs:=hst (metric,n) hq
 simp only at hs
 have hk2:KeepX (fun b=>∃ q∈sp,Mine (b0 q.1 q.2) b) w w2:=⟨hkx.os,hkx.tape,hkx.output,hkx.size,fun b lt nx=>hkx.block b lt fun hm=>nx ⟨(metric,n),hq,zF6 hs.1 hs.2.1 hm⟩⟩
 have hk3:=hk2.trans (.of_below hb)
 have hW:=(hw.turn (q:=(metric,n)) hq hkx hwin (.inl hown) hg)
 have lt2:∀ b,(b=m∨∃ q∈sp,b=I q.1∨Mine (upd st (metric,n) ⟨(st metric n).blk,mv,k.time,l⟩ q.1 q.2) b)→w3.heap[b]?=w2.heap[b]?:=fun b hb2=>by
  refine hb.block b ?_
  rcases hb2 with rfl | ⟨q,hq2,rfl | hm⟩
  ·obtain⟨F,hF,-⟩:=hW.outer
   exact hF.lt
  ·obtain⟨F,hF,-⟩:=hW.inner q hq2
   exact hF.lt
  ·obtain⟨cs,T',e,-⟩:=Win.mine_cells (hW.win q hq2) hm
   exact zA2 e
 refine⟨hk3,⟨h.keep.trans hk3,hc3,⟨_,hW.moves lt2,fun q hq2=>?_⟩,fun q hq2=>?_,fun q hq2=>?_⟩⟩
 ·by_cases e:q=(metric,n)
  ·subst e
   have:=zCF (st:=st) (metric,n) ⟨(st metric n).blk,mv,k.time,l⟩
   simp only at this ⊢
   rw[this]
   refine⟨hs.1,hown.trans hs.2.1,?_,?_⟩
   ·simp[zFG]
   ·simp[zFG,hl]
  ·rw[zB9 _ e]
   have hp:zFG T metric n k.time q.1 q.2=T q.1 q.2:=by
    unfold zFG
    rw[if_neg (fun x=>e (Prod.ext x.1 x.2))]
   rw[hp]
   exact hst q hq2
 ·by_cases e:q=(metric,n)
  ·subst e
   simp[zFG]
  ·have hp:zFG T metric n k.time q.1 q.2=T q.1 q.2:=by
    unfold zFG
    rw[if_neg (fun x=>e (Prod.ext x.1 x.2))]
   rw[hp]
   exact h.time q hq2
 ·by_cases e:q=(metric,n)
  ·subst e
   simp only[zFG,and_self,if_true]
   rw[hl]
   exact hv
  ·have hp:zFG T metric n k.time q.1 q.2=T q.1 q.2:=by
    unfold zFG
    rw[if_neg (fun x=>e (Prod.ext x.1 x.2))]
   rw[hp]
   exact h.vals q hq2
set_option maxRecDepth 1000000 in
set_option maxHeartbeats 2000000 in
theorem code_look {w1:World}{c m:Nat}{pv:Value}{k:Ctl}{sp:List (ByteArray × Int)}{I:ByteArray→Nat}{b0:ByteArray→Int→WSt}{T:WT}{w:World}(h:SC w1 c m pv k sp I b0 T w)(hk:k.Ok){kind metric:ByteArray}{n:Int}(hq:(metric,n)∈sp):
  Calls Tryz.prog 72 #[ptr c,.string kind,.string metric,.int .i64 n] w fun e w'=>KeepX (fun b=>∃ q∈sp,Mine (b0 q.1 q.2) b) w w'∧e=.returned (.tuple #[.int .i64 (zBJ kind (Win.trim n k.time (T metric n).2)).1,.bool (zBJ kind (Win.trim n k.time (T metric n).2)).2])∧SC w1 c m pv k sp I b0 (zFG T metric n k.time) w':=by
 obtain⟨st,hw,hst⟩:=h.wins
 have hs:=hst (metric,n) hq
 simp only at hs
 have ht:=h.time (metric,n) hq
 simp only at ht
 have hat:=code_at (w:=w.drew) (hw.moves fun _ _=>rfl) hq hk.time (by simp only;rw[hs.2.2.1];exact ht)
 simp only at hat
 have c6:w.cell? ⟨c,6,none⟩=some (.map (some m)):=zA0 h.ctl rfl
 have c7:w.cell? ⟨c,7,none⟩=some (.int .i64 k.time):=zA0 h.ctl rfl
 have hnc:¬ Mine (st metric n) c:=fun hm=>by
  obtain⟨cs,T',e,h3⟩:=Win.mine_cells (hw.win _ hq) hm
  rw[h.ctl] at e
  injection e with e
  injection e with _ e
  rcases h3 with⟨t1,-⟩ | ⟨t1,-⟩ <;> (rw[t1] at e;exact absurd e (by decide))
 have hgood:=hw.good _ hq
 have hval:=h.vals _ hq
 have HH:Hid _:=And.intro h (And.intro hw hst)
 have HC:Hid (zE5 w c pv (.map (some m)) k):=h.ctl
 clear h hw hst
 simp only at hgood hval
 rw[hs.2.2.2] at hat hgood
 have hsfx:=zEB n k.time (T metric n).2
 have hlen:=zLV n k.time (T metric n).2
 have hup:Win.Up (Win.trim n k.time (T metric n).2):=zN4 hsfx hgood.2.1
 have hle:Win.AllLe k.time (Win.trim n k.time (T metric n).2):=fun x hx=>Int.le_trans (hgood.2.2 x (hsfx.subset hx)) (by rw[hs.2.2.1];exact ht)
 have hv64:∀ x∈Win.trim n k.time (T metric n).2,In64 x.2:=fun x hx=>hval x (hsfx.subset hx)
 have HL:Hid _:=And.intro hlen (And.intro hup (And.intro hle (And.intro hv64 (And.intro hs hq))))
 generalize hl:Win.trim n k.time (T metric n).2=l at *
 have HLE:Hid _:=hl
 have HNC:Hid _:=hnc
 clear hgood hval hsfx hlen hup hle hv64 hs ht hl hnc hq
 go_enter Tryz.func72,Tryz.ntmps72
 go_wp2_with fail
 go_region_held3 (fun w'=>w'.cell? ⟨c,6,none⟩=some (.map (some m))∧w'.cell? ⟨c,7,none⟩=some (.int .i64 k.time)) (go_keep)
  (first
   | (go_at_call 101;refine hat.mono ?_;rintro e w2 ⟨rfl,mv,hwin,hown,hkx⟩;have hc2:zE5 w2 c pv (.map (some m)) k:=(hkx.block c (zA2 HC.out) HNC.out).trans HC.out;have k6:w2.cell? ⟨c,6,none⟩=some (.map (some m)):=zA0 hc2 rfl;have k7:w2.cell? ⟨c,7,none⟩=some (.int .i64 k.time):=zA0 hc2 rfl;have H2:Hid _:=And.intro hwin (And.intro hown (And.intro hkx hc2));clear hwin hown hkx hc2)
   | (go_at_call 100;refine(zMU kind H2.out.1 HL.out.1 HL.out.2.2.2.1).mono ?_;rintro e w3 ⟨rfl,hb3⟩;have hc3:zE5 w3 c pv (.map (some m)) k:=(hb3.block c (zA2 H2.out.2.2.2)).trans H2.out.2.2.2;have k63:w3.cell? ⟨c,6,none⟩=some (.map (some m)):=zA0 hc3 rfl;have k73:w3.cell? ⟨c,7,none⟩=some (.int .i64 k.time):=zA0 hc3 rfl;have H3:Hid _:=And.intro hb3 hc3;clear hb3 hc3))
 all_goals
  go_wp2
  go_ret2
  have q:=sc_pass HH.out.1 HH.out.2.1 HH.out.2.2 HL.out.2.2.2.2.2 HLE.out H2.out.1 H2.out.2.1 (w2:=w2) ⟨H2.out.2.2.1.os,H2.out.2.2.1.tape,H2.out.2.2.1.output,H2.out.2.2.1.size,H2.out.2.2.1.block⟩ ⟨HL.out.1,HL.out.2.1,HL.out.2.2.1⟩ HL.out.2.2.2.1 H3.out.1 H3.out.2
  exact⟨q.1,rfl,q.2⟩
end Go.Proofs.YtbokdbaagacnlaaGreatDoor
namespace Go.Proofs.YtbokdbaagacnlaaGreatDoor
open Go.RowKit Go.ChangeMaps
def zG4 (w:World)(m r:Nat)(left:Nat):Prop:=∃ es clock seen,w.heap[m]?=some (.map es clock)∧w.heap[r]?=some (.mapIter (some m) clock seen clock)∧(∀ e∈es.toList,∃ s,e.key=.string s)∧MapKept.Stamped es clock∧((es.toList.map (·.born)).filter fun b=>!seen.contains b).length=left
theorem left_size (es:Array MapEntry)(seen:Array Nat):(leftOf es seen).size=((es.toList.map (·.born)).filter fun b=>!seen.contains b).length:=by
 unfold leftOf
 rw[←Array.length_toList,Array.toList_filter,List.filter_map,List.length_map]
 rfl
theorem zM0 {w:World}{b:Nat}{o x:Obj}(h:w.heap[b]?=some x):(setBlock w b o).heap[b]?=some o:=by
 have:=zA2 h
 simp[setBlock,this]
theorem zFV {w:World}{b k:Nat}{o:Obj}(h:k≠b):(setBlock w b o).heap[k]?=w.heap[k]?:=by
 have:b≠k:=fun e=>h e.symm
 simp[setBlock,this]
theorem zK1 {l:List Nat}{seen:Array Nat}{x:Nat}(hn:l.Nodup)(hx:x∈l)(hs:seen.contains x=false):(l.filter fun b=>!(seen.push x).contains b).length+1=(l.filter fun b=>!seen.contains b).length:=by
 induction l with
 | nil=>simp at hx
 | cons a l ih=>
  rw[List.nodup_cons] at hn
  rcases List.mem_cons.1 hx with rfl | hx
  ·have e:(l.filter fun b=>!(seen.push x).contains b)=l.filter fun b=>!seen.contains b:=by
    apply List.filter_congr
    intro b hb
    have:b≠x:=fun e=>hn.1 (e ▸ hb)
    simp[this]
   simp only[List.filter_cons,hs,Bool.not_false,if_true]
   rw[if_neg (by simp),e]
   simp
  ·have ih:=ih hn.2 hx
   have hne:a≠x:=fun e=>hn.1 (e ▸ hx)
   have ea:(seen.push x).contains a=seen.contains a:=by simp[hne]
   simp only[List.filter_cons,ea]
   split
   ·simp only[List.length_cons];omega
   ·exact ih
section
variable {w:World} {m r left:Nat}
theorem zG4.lt (h:zG4 w m r left):m<w.heap.size∧r<w.heap.size:=by obtain⟨es,clock,seen,h1,h2,-⟩:=h;exact⟨zA2 h1,zA2 h2⟩
theorem zG4.next (h:zG4 w m r left)(hmr:m≠r):(∀ ty,(Instr.next (.pointer (some ⟨r,0,none⟩)) false ty).run Tryz.prog w=.ok (.tuple #[.bool false]) w) ∨
  ∃ (s:ByteArray) (v:Value) (w1 w2:World),0<left∧(∀ ty,(Instr.next (.pointer (some ⟨r,0,none⟩)) false ty).run Tryz.prog w=.ok (.tuple #[.bool true,.string s,v]) w1)∧((Instr.entry (.pointer (some ⟨r,0,none⟩))).run Tryz.prog w1=.ok (.tuple #[.string s,v]) w1) ∧
   ((Instr.mapUpdate 113 (.map (some m)) (.string s) .nilFunc).run Tryz.prog w1=.ok () w2)∧zG4 w2 m r (left - 1)∧w2.os=w.os∧w2.tape=w.tape∧w2.output=w.output∧w2.heap.size=w.heap.size∧∀ k,k≠m→k≠r→w2.heap[k]?=w.heap[k]?:=by
 obtain⟨es,clock,seen,h1,h2,h3,h4,h5⟩:=h
 rcases run_next_at (P:=Tryz.prog) w 0 r m clock clock seen es clock h2 h1 h4.1 (Nat.le_refl _) with⟨-,hr⟩ | ⟨e,he,w1,hw1,hr⟩
 ·exact .inl fun ty=>hr
 ·refine .inr ?_
  obtain⟨s,hs⟩:=h3 e (by unfold leftOf at he;simp at he ⊢;exact he.1)
  have hem:e∈es.toList:=by unfold leftOf at he;simp at he ⊢;exact he.1
  have hns:seen.contains e.born=false:=by unfold leftOf at he;simp at he ⊢;exact he.2
  have a1:w1.heap[m]?=some (.map es clock):=by rcases hw1 with rfl | rfl <;> exact h1
  have a2:w1.heap[r]?=some (.mapIter (some m) clock seen clock):=by rcases hw1 with rfl | rfl <;> exact h2
  have b1:(setBlock w1 r (.mapIter (some m) clock (seen.push e.born) clock)).heap[m]?=some (.map es clock):=(zFV hmr).trans a1
  have b2:(setBlock w1 r (.mapIter (some m) clock (seen.push e.born) clock)).heap[r]?=some (.mapIter (some m) clock (seen.push e.born) clock):=zM0 a2
  obtain⟨j,hj⟩:=List.getElem?_of_mem hem
  have hjs:es[j]?=some e:=by simpa using hj
  have hc:∀ b W,(Instr.checkKey b 10000 9 (.string s)).run Tryz.prog W=.ok () W:=fun b W=>MapKept.run_checkKey (k:=.string s) Tryz.underlying9 (by simp[MapKept.IsKey]) b 9999
  obtain⟨j2,e2,q1,q2,q3⟩:∃ j2 e2,Instr.findNow .string (.string s) es.toList 0=some (some (j2,e2.val))∧es.toList[j2]?=some e2∧e2.key=.string s:=by
   rcases MapKept.findNow_spec (d:=.string) (k:=.string s) (by simp[MapKept.IsKey]) es.toList 0 (fun x hx=>by obtain⟨t,e⟩:=h3 x hx;rw[e];simp[MapKept.IsKey]) with⟨q1,q2⟩ | ⟨j2,e2,q1,q2,q3⟩
   ·exact absurd hs (q2 e hem)
   ·exact⟨j2,e2,by simpa using q1,q2,q3⟩
  have hj2:es[j2]?=some e2:=by simpa using q2
  have hsb:Instr.sameBits 10000 (.string s) (.string s)=true:=by
   unfold Instr.sameBits
   exact(MapKept.bytes_beq s s).2 rfl
  have hkt:∀ W,(Instr.keyThatStays (((es[j2]?).map (·.key)).getD (.string s)) (.string s)).run Tryz.prog W=.ok (.string s) W:=fun W=>by
   rw[hj2]
   simp[Instr.keyThatStays,q3,hsb]
  refine⟨s,e.val,_,setBlock (setBlock w1 r (.mapIter (some m) clock (seen.push e.born) clock)) m (.map (es.modify j2 fun x=>{ x with key:=.string s,val:=.nilFunc }) clock),?_,fun ty=>by rw[←hs];exact hr,?_,?_,⟨_,clock,seen.push e.born,zM0 b1,(zFV (fun q=>hmr q.symm)).trans b2,?_,?_,?_⟩,?_⟩
  ·have:=zK1 h4.2.1 (List.mem_map.2 ⟨e,hem,rfl⟩) hns
   omega
  ·rw[←hs]
   exact run_entry_at _ r m clock seen es clock e b2 b1 hem h4.2.1
  ·simp[Instr.mapUpdate,run_underlying Tryz.underlying113,MapKept.run_getObj_map b1,hc,MapKept.run_findKey Tryz.underlying9 q1,MapKept.run_setObj_map _ b1,Result.andThen,hkt]
   rfl
  ·intro x hx
   obtain⟨k,hk⟩:=List.getElem?_of_mem hx
   rw[Array.toList_modify,List.getElem?_modify] at hk
   split at hk
   ·cases hq:es.toList[k]? with
    | none=>rw[hq] at hk;cases hk
    | some y=>rw[hq] at hk;injection hk with hk;exact⟨s,by rw[←hk]⟩
   ·exact h3 x (List.mem_of_getElem? (by simpa using hk))
  ·exact MapKept.stamped_modify h4 j2 _ (fun _ _=>rfl) (fun x _ hx=>by rw[hj2] at hx;injection hx with hx;subst hx;exact q3.symm)
  ·have hborn:(es.modify j2 fun x=>{ x with key:=.string s,val:=.nilFunc }).toList.map (·.born)=es.toList.map (·.born):=by
    apply List.ext_getElem?
    intro k
    rw[List.getElem?_map,List.getElem?_map,Array.toList_modify,List.getElem?_modify]
    split
    ·cases es.toList[k]? <;> rfl
    ·simp
   rw[hborn]
   have:=zK1 h4.2.1 (List.mem_map.2 ⟨e,hem,rfl⟩) hns
   omega
  ·have hdr:w1.os=w.os∧w1.tape=w.tape∧w1.output=w.output∧w1.heap=w.heap:=by rcases hw1 with rfl | rfl <;> exact⟨rfl,rfl,rfl,rfl⟩
   refine⟨hdr.1,hdr.2.1,hdr.2.2.1,by simp[setBlock,hdr.2.2.2],fun k hm hr=>?_⟩
   rw[zFV hm,zFV hr,hdr.2.2.2]
end
theorem zG4.begin {w:World}{m:Nat}{F:ByteArray→Option Value}(h:MapF w m F):∃ left o,(Instr.range 113 (.map (some m))).run Tryz.prog w=.ok (.pointer (some ⟨w.heap.size,0,none⟩)) (w.alloc o)∧zG4 (w.alloc o) m w.heap.size left:=by
 obtain⟨es,clock,h1,h2,h3,h4⟩:=h
 refine⟨_,.mapIter (some m) clock #[] clock,?_,⟨es,clock,#[],zA3 h1,heap_alloc_new _ _,h2,h3,rfl⟩⟩
 simp[Instr.range,run_underlying Tryz.underlying113,MapKept.run_getObj_map h1,Result.andThen]
theorem range_none (w:World):(Instr.range 113 (.map none)).run Tryz.prog w=.ok (.pointer (some ⟨w.heap.size,0,none⟩)) (w.alloc (.mapIter none 0 #[] 0)):=by
 simp[Instr.range,run_underlying Tryz.underlying113,Result.andThen]
theorem next_none {w:World}{r:Nat}(h:w.heap[r]?=some (.mapIter none 0 #[] 0))(ty:TypeId):(Instr.next (.pointer (some ⟨r,0,none⟩)) false ty).run Tryz.prog w=.ok (.tuple #[.bool false]) w:=by
 simp[Instr.next,getObj,Sem.run,h,Result.andThen]
end Go.Proofs.YtbokdbaagacnlaaGreatDoor
namespace Go.Proofs.YtbokdbaagacnlaaGreatDoor
open Go.RowKit Go.Lib Go.ChangeMaps
abbrev OfW' (sp:List (ByteArray × Int))(b0:ByteArray→Int→WSt):Nat→Prop:=fun b=>∃ q∈sp,Mine (b0 q.1 q.2) b
def pushS (S:WSt)(wid t v:Int):Int × List (Int × Int):=(t,Win.trim wid t (S.kept ++ [(t,v)]))
def Took (w:World)(sp:List (ByteArray × Int))(s:ByteArray)(t v:Int)(es:Array MapEntry)(seen:Array Nat)(st st':ByteArray→Int→WSt):Prop:=
 ∀ q∈sp,(st' q.1 q.2).blk=(st q.1 q.2).blk∧((st' q.1 q.2).row.ownBlock=(st q.1 q.2).row.ownBlock∨∃ g,(st' q.1 q.2).row.ownBlock=some g∧w.heap.size≤g) ∧
  (((q.1=s∧∃ e∈es.toList,e.key=i64V q.2∧seen.contains e.born=true)∧(st' q.1 q.2).time=t∧(st' q.1 q.2).kept=(pushS (st q.1 q.2) q.2 t v).2) ∨
   (¬ (q.1=s∧∃ e∈es.toList,e.key=i64V q.2∧seen.contains e.born=true)∧(st' q.1 q.2).time=(st q.1 q.2).time∧(st' q.1 q.2).kept=(st q.1 q.2).kept))
structure TK (w:World) (m:Nat) (sp:List (ByteArray × Int)) (I:ByteArray→Nat) (st:ByteArray→Int→WSt) (s:ByteArray) (t v:Int) (es:Array MapEntry) (clock r:Nat) (wr:World) (seen:Array Nat):Prop where
 it:wr.heap[r]?=some (.mapIter (some (I s)) clock seen clock)
 map:wr.heap[I s]?=some (.map es clock)
 keep:KeepX (OfW' sp st) w wr
 wins:∃ st',Wins wr m sp I st'∧Took w sp s t v es seen st st'
theorem zP6 (w:World)(m:Nat)(es:Array MapEntry)(clock:Nat)(h:w.heap[m]?=some (.map es clock)):(Instr.range 191 (.map (some m))).run Tryz.prog w=.ok (.pointer (some ⟨w.heap.size,0,none⟩)) (w.alloc (.mapIter (some m) clock #[] clock)):=by
 simp[Instr.range,run_underlying Tryz.underlying191,MapKept.run_getObj_map h,Result.andThen]
def leftI (w:World)(m r:Nat):Nat:=match w.heap[m]?,w.heap[r]? with
 | some (.map es _),some (.mapIter _ _ seen _)=>((es.toList.map (·.born)).filter fun b=>!seen.contains b).length
 | _,_=>0
theorem TK.begin {w:World}{m:Nat}{sp:List (ByteArray × Int)}{I:ByteArray→Nat}{st:ByteArray→Int→WSt}{s:ByteArray}{t v:Int}{es:Array MapEntry}{clock:Nat}(h:Wins w m sp I st)(he:w.heap[I s]?=some (.map es clock)):TK w m sp I st s t v es clock w.heap.size (w.alloc (.mapIter (some (I s)) clock #[] clock)) #[]:=by
 refine⟨heap_alloc_new _ _,zA3 he,(KeepX.refl _ w).alloc _,st,h.moves fun b hb=>Below.heap_alloc w _ b ?_,fun q hq=>⟨rfl,.inl rfl,.inr ⟨fun hx=>by obtain⟨-,e,-,-,hc⟩:=hx;simp at hc,rfl,rfl⟩⟩⟩
 rcases hb with rfl | ⟨q,hq,rfl | hm⟩
 ·obtain⟨F,hF,-⟩:=h.outer
  exact hF.lt
 ·obtain⟨F,hF,-⟩:=h.inner q hq
  exact hF.lt
 ·obtain⟨cs,T',e,-⟩:=Win.mine_cells (h.win q hq) hm
  exact zA2 e
theorem zJX {α β:Type}{f:α→β}:∀ {l:List α},(l.map f).Nodup→∀ {a b:α},a∈l→b∈l→f a=f b→a=b
 | [],_,_,_,ha,_,_=>by cases ha
 | x :: l,h,a,b,ha,hb,e=>by
  rw[List.map_cons,List.nodup_cons] at h
  rcases List.mem_cons.1 ha with rfl | ha1
  ·rcases List.mem_cons.1 hb with rfl | hb1
   ·rfl
   ·exact absurd (List.mem_map.2 ⟨b,hb1,e.symm⟩) h.1
  ·rcases List.mem_cons.1 hb with rfl | hb1
   ·exact absurd (List.mem_map.2 ⟨a,ha1,e⟩) h.1
   ·exact zJX h.2 ha1 hb1 e
theorem zQO {w:World}{m r clock b c:Nat}{a:Option Nat}{es:Array MapEntry}{seen:Array Nat}(h1:w.heap[m]?=some (.map es clock))(h2:w.heap[r]?=some (.mapIter a b seen c)):leftI w m r=((es.toList.map (·.born)).filter fun b=>!seen.contains b).length:=by
 simp only[leftI,h1,h2]
section
variable {w:World} {m:Nat} {sp:List (ByteArray × Int)} {I:ByteArray→Nat} {st st':ByteArray→Int→WSt} {s:ByteArray} {t v:Int} {es:Array MapEntry} {clock:Nat} {wr:World} {seen:Array Nat}
theorem Wins.iter_not (h:Wins w m sp I st){q:ByteArray × Int}(hq:q∈sp){b x y:Nat}{a:Option Nat}(hb:w.heap[b]?=some (.mapIter a x seen y)):¬ Mine (st q.1 q.2) b:=fun hm=>by
 obtain⟨cs,T,e,-⟩:=Win.mine_cells (h.win q hq) hm
 rw[hb] at e
 cases e
theorem TK.next (h:TK w m sp I st s t v es clock w.heap.size wr seen){w1:World}(hw1:w1=wr∨w1=wr.drew)(x:Nat){W:World}(hW:W=setBlock w1 w.heap.size (.mapIter (some (I s)) clock (seen.push x) clock)):
  W.heap[w.heap.size]?=some (.mapIter (some (I s)) clock (seen.push x) clock)∧W.heap[I s]?=some (.map es clock)∧KeepX (OfW' sp st) w W∧∃ st',Wins W m sp I st'∧Took w sp s t v es seen st st':=by
 obtain⟨st',hw,ht⟩:=h.wins
 have a1:w1.heap=wr.heap∧w1.os=wr.os∧w1.tape=wr.tape∧w1.output=wr.output:=by rcases hw1 with rfl | rfl <;> exact⟨rfl,rfl,rfl,rfl⟩
 have a2:w1.heap[w.heap.size]?=some (.mapIter (some (I s)) clock seen clock):=by rw[a1.1];exact h.it
 have oth:∀ k,k≠w.heap.size→W.heap[k]?=wr.heap[k]?:=fun k hk=>by rw[hW,zFV hk,a1.1]
 have hmn:I s≠w.heap.size:=fun e=>by
  have:=h.map
  rw[e,h.it] at this
  cases this
 refine⟨by rw[hW];exact zM0 a2,(oth _ hmn).trans h.map,⟨by rw[hW];exact a1.2.1.trans h.keep.os,by rw[hW];exact a1.2.2.1.trans h.keep.tape,by rw[hW];exact a1.2.2.2.trans h.keep.output,by rw[hW];simp[setBlock,a1.1];exact h.keep.size,fun k hk hn=>(oth k (by omega)).trans (h.keep.block k hk hn)⟩,st',hw.moves fun b hb=>oth b fun e=>?_,ht⟩
 subst e
 rcases hb with e | ⟨q,hq,e | hm⟩
 ·obtain⟨F,hF,-⟩:=hw.outer
  obtain⟨es2,cl2,hes2⟩:=hF.isMap
  rw[←e,h.it] at hes2
  cases hes2
 ·obtain⟨F,hF,-⟩:=hw.inner q hq
  obtain⟨es2,cl2,hes2⟩:=hF.isMap
  rw[←e,h.it] at hes2
  cases hes2
 ·exact hw.iter_not hq h.it hm
theorem TK.push {W w2:World}(hit:W.heap[w.heap.size]?=some (.mapIter (some (I s)) clock seen clock)){seen0:Array Nat}{e:MapEntry}(hse:seen=seen0.push e.born)(hmp:W.heap[I s]?=some (.map es clock))(hkp:KeepX (OfW' sp st) w W)(hw:Wins W m sp I st')(ht:Took w sp s t v es seen0 st st')
  (hst:MapKept.Stamped es clock) (hem:e∈es.toList) (hns:seen0.contains e.born=false) {n:Int} (hk:e.key=i64V n) (hq:(s,n)∈sp) (hle:(st' s n).time≤t) {mv:Value}
  (h1:Win.WinI w2 (st' s n).blk n t (Win.trim n t ((st' s n).kept ++ [(t,v)])) mv) (h2:mv.ownBlock=(st' s n).row.ownBlock∨∃ g,mv.ownBlock=some g∧W.heap.size≤g) (h3:Win.Only (Win.Mine (st' s n).blk (st' s n).row) W w2):
  TK w m sp I st s t v es clock w.heap.size w2 seen:=by
 have K:KeepX (Mine (st' s n)) W w2:=⟨h3.os,h3.tape,h3.output,h3.size,h3.block⟩
 have hg:=hw.good _ hq
 have hup:Win.Up ((st' s n).kept ++ [(t,v)]):=hg.2.1.snoc (hg.2.2.mono hle)
 have hal:Win.AllLe t ((st' s n).kept ++ [(t,v)]):=hg.2.2.snoc (x:=(t,v)) hle
 have hsf:=zEB n t ((st' s n).kept ++ [(t,v)])
 have T:=hw.turn hq K h1 h2 ⟨zLV _ _ _,zN4 hsf hup,fun x hx=>hal x (hsf.subset hx)⟩
 have hme:=ht _ hq
 refine⟨(K.block _ (zA2 hit) (hw.iter_not hq hit)).trans hit,(K.block _ (zA2 hmp) (hw.map_not hq hmp)).trans hmp,⟨K.os.trans hkp.os,K.tape.trans hkp.tape,K.output.trans hkp.output,Nat.le_trans hkp.size K.size,fun k lt hn=>(K.block k (Nat.lt_of_lt_of_le lt hkp.size) ?_).trans (hkp.block k lt hn)⟩,_,T,fun q hq2=>?_⟩
 ·rintro(e1 | e1)
  ·exact hn ⟨_,hq,.inl (e1.trans hme.1)⟩
  ·rcases hme.2.1 with e2 | ⟨g,e2,e3⟩
   ·exact hn ⟨_,hq,.inr (e2.symm.trans e1)⟩
   ·rw[e1] at e2
    injection e2 with e2
    omega
 ·by_cases hqe:q=(s,n)
  ·subst hqe
   rw[zCF]
   refine⟨hme.1,?_,.inl ⟨⟨rfl,e,hem,hk,by rw[hse];simp⟩,rfl,?_⟩⟩
   ·rcases h2 with h2 | ⟨g,h2,h4⟩
    ·rcases hme.2.1 with e2 | ⟨g,e2,e3⟩
     ·exact .inl (h2.trans e2)
     ·exact .inr ⟨g,h2.trans e2,e3⟩
    ·exact .inr ⟨g,h2,Nat.le_trans hkp.size h4⟩
   ·rcases hme.2.2 with⟨⟨-,e2,m2,k2,c2⟩,-⟩ | ⟨-,-,hkk⟩
    ·have:=zJX hst.2.2 hem m2 (hk.trans k2.symm)
     rw[←this,hns] at c2
     cases c2
    ·show Win.trim n t ((st' s n).kept ++ [(t,v)])=Win.trim n t ((st s n).kept ++ [(t,v)])
     rw[hkk]
  ·rw[zB9 _ hqe]
   obtain⟨a1,a2,a3⟩:=ht q hq2
   have hiff:(q.1=s∧∃ e∈es.toList,e.key=i64V q.2∧seen.contains e.born=true)↔(q.1=s∧∃ e∈es.toList,e.key=i64V q.2∧seen0.contains e.born=true):=by
    constructor
    ·rintro⟨b1,e2,b2,b3,b4⟩
     refine⟨b1,e2,b2,b3,?_⟩
     rw[hse] at b4
     by_cases hb:e2.born=e.born
     ·have:=zJX hst.2.1 b2 hem hb
      subst this
      rw[b3] at hk
      injection hk with _ hk
      exact absurd (Prod.ext b1 hk) hqe
     ·simpa[hb] using b4
    ·rintro⟨b1,e2,b2,b3,b4⟩
     refine⟨b1,e2,b2,b3,?_⟩
     rw[hse]
     simp at b4 ⊢
     exact .inl b4
   exact⟨a1,a2,by rw[hiff];exact a3⟩
end
set_option maxRecDepth 1000000 in
set_option maxHeartbeats 2000000 in
theorem win_take {w:World}{m:Nat}{sp:List (ByteArray × Int)}{I:ByteArray→Nat}{st:ByteArray→Int→WSt}(h:Wins w m sp I st){s:ByteArray}(hs:∃ n,(s,n)∈sp){t v:Int}(ht:In64 t)(hle:∀ q∈sp,(st q.1 q.2).time≤t):
  Calls Tryz.prog 81 #[.map (some m),.string s,.int .i64 v,.int .i64 t] w fun e w'=>e=.returned (.tuple #[])∧KeepX (OfW' sp st) w w' ∧
   ∃ st',Wins w' m sp I st'∧∀ q∈sp,(st' q.1 q.2).blk=(st q.1 q.2).blk∧((st' q.1 q.2).row.ownBlock=(st q.1 q.2).row.ownBlock∨∃ g,(st' q.1 q.2).row.ownBlock=some g∧w.heap.size≤g)∧(q.1=s→(st' q.1 q.2).time=t∧(st' q.1 q.2).kept=(pushS (st q.1 q.2) q.2 t v).2)∧(q.1≠s→(st' q.1 q.2).time=(st q.1 q.2).time∧(st' q.1 q.2).kept=(st q.1 q.2).kept):=by
 obtain⟨F,hF,hF2⟩:=h.outer
 have hlo:=hF.lookup zH5 Tryz.underlying124 Tryz.underlying9 Tryz.zeroInner s
 rw[(hF2 s).1 hs,Option.getD_some] at hlo
 obtain⟨n0,hn0⟩:=hs
 obtain⟨G,hG,hG2⟩:=h.inner _ hn0
 obtain⟨es,clock,he1,he2,he3,he4⟩:=hG
 have hrg:=zP6 w (I s) es clock he1
 have HH:Hid _:=And.intro h (And.intro he1 (And.intro he2 (And.intro he3 he4)))
 clear h hF hF2
 go_enter Tryz.func81,Tryz.ntmps81
 go_wp2_with fail
 go_loopw [14] (fun _ wr=>∃ seen,Hid (TK w m sp I st s t v es clock w.heap.size wr seen)) (fun _ wr=>leftI wr (I s) w.heap.size)
 case atStart=>exact⟨#[],TK.begin HH.out.1 HH.out.2.1⟩
 case round=>
  obtain⟨seen,HI⟩:=hrel
  have hsb:=HH.out.2.2.2.1
  rcases run_next_at (P:=Tryz.prog) wr 0 w.heap.size (I s) clock clock seen es clock HI.out.it HI.out.map hsb.1 (Nat.le_refl _) with⟨h0,hr⟩ | ⟨e,he,w1,hw1,hr⟩
  ·have hnx:∀ ty,(Instr.next (.pointer (some ⟨w.heap.size,0,none⟩)) false ty).run Tryz.prog wr=.ok (.tuple #[.bool false]) wr:=fun ty=>hr
   have HZ:Hid _:=h0
   clear hr h0
   go_wp2
   go_end0
   obtain⟨st',hw,ht⟩:=HI.out.wins
   refine⟨rfl,HI.out.keep,st',hw,fun q hq=>⟨(ht q hq).1,(ht q hq).2.1,fun hqs=>?_,fun hqs=>?_⟩⟩
   ·obtain⟨-,-,hh⟩:=ht q hq
    rcases hh with⟨-,hh⟩ | ⟨hno,-⟩
    ·exact hh
    ·exfalso
     obtain⟨e,h1,h2,-⟩:=(HH.out.2.2.2.2 q.2 _).1 ((hG2 q.2).1 (by rw[←hqs];exact hq))
     refine hno ⟨hqs,e,h1,h2,?_⟩
     have hz:=HZ.out
     rw[left_size,List.length_eq_zero_iff,List.filter_eq_nil_iff] at hz
     have:=hz e.born (List.mem_map.2 ⟨e,h1,rfl⟩)
     simpa using this
   ·obtain⟨-,-,hh⟩:=ht q hq
    rcases hh with⟨hy,-⟩ | ⟨-,hh⟩
    ·exact absurd hy.1 hqs
    ·exact hh
  ·have hem:e∈es.toList:=by unfold leftOf at he;simp at he ⊢;exact he.1
   have hns:seen.contains e.born=false:=by unfold leftOf at he;simp at he ⊢;exact he.2
   obtain⟨n,hn⟩:=HH.out.2.2.1 e hem
   have hin:(s,n)∈sp∧e.val=ptr (st s n).blk:=by
    have h1:=(HH.out.2.2.2.2 n e.val).2 ⟨e,hem,hn,rfl⟩
    by_cases hq:(s,n)∈sp
    ·rw[(hG2 n).1 hq] at h1
     injection h1 with h1
     exact⟨hq,h1.symm⟩
    ·rw[(hG2 n).2 hq] at h1
     cases h1
   obtain⟨W,hW⟩:∃ W,W=setBlock w1 w.heap.size (.mapIter (some (I s)) clock (seen.push e.born) clock):=⟨_,rfl⟩
   obtain⟨b1,b2,b3,st',b4,b5⟩:=HI.out.next hw1 e.born hW
   have hent:=run_entry_at (P:=Tryz.prog) W w.heap.size (I s) clock seen es clock e b1 b2 hem hsb.2.1
   rw[←hW,hn,hin.2] at hr
   rw[hn,hin.2] at hent
   have hnx:∀ ty,(Instr.next (.pointer (some ⟨w.heap.size,0,none⟩)) false ty).run Tryz.prog wr=.ok (.tuple #[.bool true,i64V n,ptr (st s n).blk]) W:=fun ty=>hr
   have hg:=b4.good _ hin.1
   have hbl:=(b5 _ hin.1).1
   have htm:(st' s n).time≤t:=by
    rcases (b5 _ hin.1).2.2 with⟨-,h1,-⟩ | ⟨-,h1,-⟩
    ·exact Int.le_of_eq h1
    ·have:=hle _ hin.1
     simp only at h1 this
     omega
   have hp:=Win.pushI (b4.win _ hin.1) hg.1 t v ht htm (fun x hx=>Int.le_trans (hg.2.2 x hx) htm)
   have hm0:=zQO HI.out.map HI.out.it
   have hlt:=zK1 hsb.2.1 (List.mem_map.2 ⟨e,hem,rfl⟩) hns
   simp only at hp hbl
   rw[hbl] at hp
   have HB:Hid _:=And.intro b1 (And.intro b2 (And.intro b3 (And.intro b4 (And.intro b5 (And.intro hem (And.intro hns (And.intro hn (And.intro hin (And.intro htm (And.intro hm0 (And.intro hlt hbl)))))))))))
   clear hr b1 b2 b3 b4 b5 hem hns hn hin htm hm0 hlt hbl hg hW he hw1 hsb
   go_wp2_with fail
   refine hp.mono ?_
   rintro e' w2 ⟨rfl,mv,c1,c2,c3⟩
   have HP:Hid _:=And.intro c1 (And.intro c2 c3)
   clear c1 c2 c3 hp
   go_wp2
   go_roundw
   case rel=>
    obtain⟨b1,b2,b3,b4,b5,hem,hns,hn,hin,htm,hm0,hlt,hbl⟩:=HB.out
    obtain⟨c1,c2,c3⟩:=HP.out
    rw[←hbl] at c1 c3
    exact⟨seen.push e.born,TK.push b1 rfl b2 b3 b4 b5 HH.out.2.2.2.1 hem hns hn hin.1 htm c1 c2 c3⟩
   case measure=>
    obtain⟨b1,b2,b3,b4,b5,hem,hns,hn,hin,htm,hm0,hlt,hbl⟩:=HB.out
    obtain⟨c1,c2,c3⟩:=HP.out
    rw[←hbl] at c1 c3
    have hk:=TK.push b1 rfl b2 b3 b4 b5 HH.out.2.2.2.1 hem hns hn hin.1 htm c1 c2 c3
    have:=zQO hk.map hk.it
    omega
end Go.Proofs.YtbokdbaagacnlaaGreatDoor
