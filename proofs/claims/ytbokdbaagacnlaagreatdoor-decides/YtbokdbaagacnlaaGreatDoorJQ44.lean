import Derived.Test.YtbokdbaagacnlaaGreatDoorJQ43
import Derived.Deep.Slices
import Derived.Deep.Strs
import Derived.Lib.SmallJoins
import Derived.Carry
import Derived.ProofKit
namespace Go.Proofs.YtbokdbaagacnlaaGreatDoor
open Go.RowKit Go.Lib
structure Ctx (A:Nat→Addr) (w0 w1:World) (R:Nat):Prop where
 sents:SentsX A w0
 below:Below w0.heap.size w0 w1
 ge:w0.heap.size≤R
 lt:R<w1.heap.size
theorem Ctx.under {A:Nat→Addr}{w0 w1 w:World}{R:Nat}(h:Ctx A w0 w1 R)(hk:Keep R w1 w):Below w0.heap.size w0 w:=h.below.trans (hk.below h.below.size h.ge)
theorem Ctx.at {A:Nat→Addr}{w0 w1 w:World}{R:Nat}(h:Ctx A w0 w1 R)(hk:Keep R w1 w):SentsX A w:=h.sents.below (h.under hk)
def SP (w1:World)(R:Nat)(av:Value)(seed:Int)(k:Nat)(tr:ByteArray)(w:World):Prop:=Keep R w1 w∧WorldP w R seed tr av false∧tr.size+1000 * k≤1000000000
def SI (w1:World)(R:Nat)(av:Value)(seed:Int)(tr:ByteArray)(_:Unit)(w:World):Prop:=Keep R w1 w∧WorldP w R seed tr av true∧tr.size≤1000000000
theorem SP.fuel {w1:World}{R:Nat}(av:Value)(seed:Int)(hR:R<w1.heap.size):Fuel w1.heap.size (SP w1 R av seed) where
 base:=fun _ _ _ h=>h.1.size
 same:=fun _ _ _ _ h hb=>⟨⟨hb.os.trans h.1.os,hb.tape.trans h.1.tape,hb.output.trans h.1.output,Nat.le_trans h.1.size hb.size,fun k lt ne=>(hb.block k lt).trans (h.1.block k lt ne)⟩,(hb.block R hR).trans h.2.1,h.2.2⟩
 less:=fun _ _ _ h=>⟨h.1,h.2.1,by have:=h.2.2;omega⟩
theorem SI.stable {w1:World}{R:Nat}(av:Value)(seed:Int)(tr:ByteArray)(hR:R<w1.heap.size):zKH w1.heap.size (SI w1 R av seed tr):=
 ⟨fun _ _ h=>h.1.size,fun _ _ _ h hb=>⟨⟨hb.os.trans h.1.os,hb.tape.trans h.1.tape,hb.output.trans h.1.output,Nat.le_trans h.1.size hb.size,fun k lt ne=>(hb.block k lt).trans (h.1.block k lt ne)⟩,(hb.block R hR).trans h.2.1,h.2.2⟩⟩
section
variable {w1:World} {R b1 b2:Nat} {av:Value} {seed:Int} {nm:ByteArray}
end
def PTree (s:ByteArray)(t:Option Tree):Prop:=∃ f q,PRel s (t,f,q)
theorem Asks.keep {p:Option Addr}{lo R b:Nat}{w w':World}{t:Tree}(h:Asks p lo w b t)(hk:Keep R w w')(hR:R<lo):Asks p lo w' b t:=by
 obtain⟨lo2,F,h1,h2,h3⟩:=h.prog
 refine⟨lo2,F,h1,h2.above hk.size fun k l lt=>hk.block k lt (by omega),fun q hq=>?_⟩
 obtain⟨b1,b2,e,l1,l2,o1,o2⟩:=h3 q hq
 exact⟨b1,b2,e,l1,l2,hk.heap o1 (by omega),hk.heap o2 (by omega)⟩
theorem PRel.zero {s:ByteArray}{t:Tree}{f p:Nat}(h:PRel s (some t,f,p)):f=0:=by
 rcases h.forms with⟨q,-⟩ | ⟨q,-⟩ | ⟨-,q,-⟩
 ·cases q
 ·cases q
 ·exact q
theorem PRel.wrong {s:ByteArray}{f p:Nat}(h:PRel s (none,f,p)):(((f:Nat):Int) != 0)=true:=by
 rw[bne_iff_ne]
 rcases h.forms with⟨-,q,-⟩ | ⟨-,q⟩ | ⟨q,-⟩
 ·omega
 ·omega
 ·cases q
theorem PRel.fits {s:ByteArray}{t:Tree}{f p:Nat}(h:PRel s (some t,f,p)):Fit t∧size t≤200:=by
 rcases h with⟨-,h⟩ | ⟨h1,⟨J,-,h⟩ | ⟨u,J,-,-,h⟩ | ⟨u,J,h2,h3,h⟩⟩
 ·cases h
 ·cases h
 ·cases h
 ·injection h with h
  injection h with h
  subst h
  exact zNL h1 h2 h3
theorem node_ne {P:Nat→Prop}{w:World}{t:Tree}{pa:Option Addr}(h:zA9 P w t (.pointer pa)):pa≠none:=by
 intro e
 subst e
 have key:∀ {k p:Nat} {n:Int} {a b:ByteArray} {vs:List Value},¬ zCO P w (.pointer none) k p n a b vs:=by
  rintro k p n a b vs ⟨x,pv,e,-⟩
  cases e
 cases t with
 | num p n=>unfold zA9 at h;exact key h
 | neg p a=>unfold zA9 at h;obtain⟨va,h,-⟩:=h;exact key h
 | bin k p a b=>unfold zA9 at h;obtain⟨va,vb,h,-⟩:=h;exact key h
 | ite p a b c=>unfold zA9 at h;obtain⟨va,vb,vc,h,-⟩:=h;exact key h
 | meas p a b n=>unfold zA9 at h;exact key h
 | probe p a ts=>unfold zA9 at h;obtain⟨vs,h,-⟩:=h;exact key h
def TreeT (lo:Nat)(w:World)(pa:Option Addr):Option Tree→Prop
 | none=>pa=none
 | some t=>Fit t∧size t≤200∧match zCD (zAE 15 4) (asks t) with
  | none=>zA9 (From lo) w t (.pointer pa)∧pa≠none
  | some _=>pa=none
set_option maxRecDepth 1000000 in
set_option maxHeartbeats 4000000 in
theorem law_tree (s:ByteArray)(hs:s.size≤9223372036854775807){w:World}(hT:TabsR w):
  Calls Tryz.prog 18 #[.string s] w fun e w'=>∃ t pa,PTree s t∧e=.returned (.pointer pa)∧Below w.heap.size w w'∧TreeT w.heap.size w' pa t:=by
 have hr:=ref_parse s hs w hT.tabs
 clear hT
 go_enter Tryz.func18,Tryz.ntmps18
 go_wp2_with fail
 refine hr.mono ?_
 rintro e w1 ⟨t,f,p,pa,rfl,hP,hb1,htr⟩
 have HP:Hid (PTree s t):=⟨f,p,hP⟩
 have HB1:Hid (Below w.heap.size w w1):=hb1
 cases t with
 | none=>
  have hfb:=hP.wrong
  clear hr hP hb1 htr
  go_wp2
  go_ret
  exact⟨none,none,HP.out,rfl,HB1.out,rfl⟩
 | some t=>
  have hf:=hP.zero
  subst hf
  have HF:Hid _:=hP.fits
  have HTR:Hid (zA9 (From w.heap.size) w1 t (.pointer pa)):=htr
  have hnm:=law_names 15 w1
  clear hr hP hb1 htr
  go_wp2_with fail
  refine hnm.mono ?_
  rintro e w4 ⟨hv,rfl,hb4,ho4⟩
  have hnode:zA9 (fun b=>b<w4.heap.size) w4 t (.pointer pa):=HTR.out.moves fun b _ hlt=>⟨Nat.lt_of_lt_of_le hlt hb4.size,hb4.block b hlt⟩
  have hms:=zCA t HF.out.1 _ w4 (.pointer pa) hv (zAE 15 4) hnode (.of_owns ho4) (by have:=zCI 15 4;omega)
  have HB4:Hid (Below w1.heap.size w1 w4):=hb4
  obtain⟨ho,hc,rfl⟩:=zGK ho4
  clear hnm hb4 ho4 hnode
  go_wp2_with fail
  refine hms.mono ?_
  rintro e w5 ⟨hb5,htold⟩
  have HB5:Hid (Below w1.heap.size w1 w5):=HB4.out.trans (hb5.mono HB4.out.size)
  clear hms hb5
  cases hmi:zCD (zAE 15 4) (asks t) with
  | some q=>
   rw[hmi] at htold
   obtain⟨a,vs,rfl,b,pv,eb,-,hbk,-⟩:=htold
   injection eb with eb
   injection eb with eb
   subst eb
   have HMI:Hid _:=hmi
   clear hmi hbk
   go_wp2
   go_ret
   refine⟨some t,none,HP.out,rfl,HB1.out.trans (HB5.out.mono HB1.out.size),HF.out.1,HF.out.2,?_⟩
   rw[HMI.out]
  | none=>
   rw[hmi] at htold
   have htold:e=.returned (.pointer none):=htold
   subst htold
   have HMI:Hid _:=hmi
   clear hmi
   go_wp2
   go_ret
   refine⟨some t,pa,HP.out,rfl,HB1.out.trans (HB5.out.mono HB1.out.size),HF.out.1,HF.out.2,?_⟩
   rw[HMI.out]
   exact⟨HTR.out.moves fun b hb hlt=>⟨hb,HB5.out.block b hlt⟩,node_ne HTR.out⟩
end Go.Proofs.YtbokdbaagacnlaaGreatDoor
namespace Go.Proofs.YtbokdbaagacnlaaGreatDoor
open Go.RowKit Go.Lib Go.Shelf
set_option maxRecDepth 1000000 in
set_option maxHeartbeats 2000000 in
theorem ref_New_no {w:World}{pa:Option Addr}{g:Nat}{l0 l1 l2 l3 l4 count:Int}(hg:w.heap[g]?=some (.cells #[.int .i64 l0,.int .i64 l1,.int .i64 l2,.int .i64 l3,.int .i64 l4] 2 (0,0)))(hno:zB7 l0 l1 l2 l3 l4=false∨count<l0∨l1<count):
  Calls Tryz.prog 21 #[.pointer pa,.slice (some ⟨g,0,none⟩) 5 5,.int .i64 count] w fun e w'=>e=.returned (.pointer none)∧∃ n,w'=w.drewN n:=by
 have c0:=zA0 (i:=0) (v:=.int .i64 l0) hg rfl
 have c1:=zA0 (i:=1) (v:=.int .i64 l1) hg rfl
 have c2:=zA0 (i:=2) (v:=.int .i64 l2) hg rfl
 have c3:=zA0 (i:=3) (v:=.int .i64 l3) hg rfl
 have c4:=zA0 (i:=4) (v:=.int .i64 l4) hg rfl
 have hor:l0<0∨l1<l0∨l2<1∨l3<0∨l4<0∨count<l0∨l1<count:=by
  rcases hno with h | h | h
  ·unfold zB7 at h
   simp only[Bool.and_eq_false_iff,decide_eq_false_iff_not] at h
   omega
  ·omega
  ·omega
 clear hg hno
 by_cases h0:l0<0
 ·go_enter Tryz.func21,Tryz.ntmps21
  go_wp2_with fail
  go_quiet (fail)
  go_wp2
  go_ret
  exact⟨rfl,_,rfl⟩
 by_cases h1:l1<l0
 ·go_enter Tryz.func21,Tryz.ntmps21
  go_wp2_with fail
  go_quiet (fail)
  go_wp2
  go_ret
  exact⟨rfl,_,rfl⟩
 by_cases h2:l2<1
 ·go_enter Tryz.func21,Tryz.ntmps21
  go_wp2_with fail
  go_quiet (fail)
  go_wp2
  go_ret
  exact⟨rfl,_,rfl⟩
 by_cases h3:l3<0
 ·go_enter Tryz.func21,Tryz.ntmps21
  go_wp2_with fail
  go_quiet (fail)
  go_wp2
  go_ret
  exact⟨rfl,_,rfl⟩
 by_cases h4:l4<0
 ·go_enter Tryz.func21,Tryz.ntmps21
  go_wp2_with fail
  go_quiet (fail)
  go_wp2
  go_ret
  exact⟨rfl,_,rfl⟩
 by_cases h5:count<l0
 ·go_enter Tryz.func21,Tryz.ntmps21
  go_wp2_with fail
  go_quiet (fail)
  go_wp2
  go_ret
  exact⟨rfl,_,rfl⟩
 have h6:l1<count:=by omega
 go_enter Tryz.func21,Tryz.ntmps21
 go_wp2_with fail
 go_quiet (fail)
 go_wp2
 go_ret
 exact⟨rfl,_,rfl⟩
def Mate (A:Nat→Addr)(w0:World)(t:Tree)(i:Nat)(dv sv:Value)(Z1 N1 N0:Nat→Prop)(w:World):Prop:=
 (dv=.pointer none∧∃ so,sv=.pointer so)∨∃ y s Z2 N2,dv=ptr y∧sv=ptr s∧Pair A w0 t i y s Z2 N2 w∧(∀ b,Z2 b→¬ N0 b∧¬ N1 b)∧∀ b,Z1 b→¬ Z2 b∧¬ N2 b
def Two (A:Nat→Addr)(w0:World)(t:Tree)(N0:Nat→Prop)(nv:Value)(i x r:Nat)(dv sv:Value)(w:World):Prop:=
 ∃ Z1 N1,Pair A w0 t i x r Z1 N1 w∧zA9 N0 w t nv∧(∀ b,N0 b→b<w.heap.size)∧(∀ b,Z1 b→¬ N0 b)∧Mate A w0 t i dv sv Z1 N1 N0 w
section
variable {A:Nat→Addr} {w0:World} {t:Tree} {N0:Nat→Prop} {nv:Value} {i x r:Nat} {dv sv:Value} {w:World} {pa:Option Addr}
theorem Two.mid {Z1 N1:Nat→Prop}(hp:Pair A w0 t i x r Z1 N1 w)(hn:zA9 N0 w t nv)(hl:∀ b,N0 b→b<w.heap.size)(hz:∀ b,Z1 b→¬ N0 b)(hm:Mate A w0 t i dv sv Z1 N1 N0 w){w':World}{Z':Nat→Prop}{j:Nat}(hj:i≤j)(hp':Pair A w0 t j x r Z' N1 w')(hg:Grew Z1 Z' w)(hk:KeepX Z1 w w'):Two A w0 t N0 nv j x r dv sv w':=by
 refine⟨Z',N1,hp',hn.moves fun b hb hlt=>⟨hb,hk.block b hlt fun e=>hz b e hb⟩,fun b hb=>Nat.lt_of_lt_of_le (hl b hb) hk.size,fun b hb e=>?_,?_⟩
 ·rcases hg b hb with q | q
  ·exact hz b q e
  ·have:=hl b e
   omega
 ·rcases hm with hm | ⟨y,s,Z2,N2,rfl,rfl,h2,h3,h4⟩
  ·exact .inl hm
  ·refine .inr ⟨y,s,Z2,N2,rfl,rfl,(h2.other hk fun b hb=>⟨(hp.zn hb).1,h4 b hb⟩).more hj,h3,fun b hb=>?_⟩
   rcases hg b hb with q | q
   ·exact h4 b q
   ·exact⟨fun e=>by have:=h2.lt e;omega,fun e=>by have:=h2.ltN e;omega⟩
theorem Two.go (h:Two A w0 t N0 nv i x r dv sv w){w':World}(hb:Below w.heap.size w w'):Two A w0 t N0 nv i x r dv sv w':=by
 obtain⟨Z1,N1,h1,h2,h3,h4,h5⟩:=h
 exact Two.mid h1 h2 h3 h4 h5 (Nat.le_refl _) (h1.go hb) (fun b hb=>.inl hb) (KeepX.of_below hb)
theorem Two.more (h:Two A w0 t N0 nv i x r dv sv w){j:Nat}(hj:i≤j):Two A w0 t N0 nv j x r dv sv w:=by
 obtain⟨Z1,N1,h1,h2,h3,h4,h5⟩:=h
 exact Two.mid h1 h2 h3 h4 h5 hj (h1.more hj) (fun b hb=>.inl hb) (KeepX.refl _ _)
theorem Two.below (h:Two A w0 t N0 nv i x r dv sv w):Below w0.heap.size w0 w:=by
 obtain⟨Z1,N1,h1,h2,h3,h4,h5⟩:=h
 exact h1.below
theorem Two.feed (h:Two A w0 t N0 nv i x r dv sv w)(hi:i<1073741824){tk:Bool}(name:ByteArray){v tm:Int}(hv:In64 v)(ht:In64 tm):
  Calls Tryz.prog 11 #[ptr x,ptr r,.agg #[.bool tk,.string name,.int .i64 v,.int .i64 tm]] w fun e w'=>e=.returned (.bool true)∧Two A w0 t N0 nv (i+1) x r dv sv w':=by
 obtain⟨Z1,N1,h1,h2,h3,h4,h5⟩:=h
 refine(h1.feed hi name hv ht).mono ?_
 rintro e w' ⟨rfl,Z',q1,q2,q3⟩
 exact⟨rfl,Two.mid h1 h2 h3 h4 h5 (Nat.le_succ _) q1 q2 q3⟩
theorem Two.tick (h:Two A w0 t N0 nv i x r dv sv w){tm:Int}(ht:In64 tm):
  Calls Tryz.prog 8 #[ptr x,.int .i64 tm] w fun e w1=>∃ n d p m,e=.returned (.agg #[.int .i64 tm,.int .i64 n,.int .i64 0,.int .i64 0,.int .i64 d,.int .i64 p,.int .i64 m,.string { data:=#[] }])∧KeepQ w w1 ∧
   ∀ w2,Below w1.heap.size w1 w2→Calls Tryz.prog 9 #[ptr r,.int .i64 tm] w2 fun e w'=>e=.returned (.tuple #[.int .i64 n,.agg #[.int .i64 0,.int .i64 d,.int .i64 p,.int .i64 m]])∧KeepQ w2 w'∧Two A w0 t N0 nv i x r dv sv w':=by
 obtain⟨Z1,N1,h1,h2,h3,h4,h5⟩:=h
 refine(h1.tick ht).mono ?_
 rintro e w1 ⟨n,d,p,m,rfl,k1,hr⟩
 refine⟨n,d,p,m,rfl,fun b cs T hT hb=>(k1.block b (zA2 hb) (h1.calm hb hT)).trans hb,fun w2 hb2=>?_⟩
 refine(hr w2 hb2).mono ?_
 rintro e w' ⟨rfl,q1,q2,q3⟩
 have k2:KeepX Z1 w w2:=k1.below hb2
 exact⟨rfl,q3,Two.mid h1 h2 h3 h4 h5 (Nat.le_refl _) q1 (fun b hb=>.inl hb) (k2.trans q2)⟩
end
def EvsL (w:World)(bo:Option Addr)(E:List (Bool × Int × Int × Int)):Prop:=∀ (i:Nat) (q:Bool × Int × Int × Int),E[i]?=some q→In64 q.2.1∧In64 q.2.2.1∧In64 q.2.2.2∧∃ C off,bo=some ⟨C,off,none⟩∧w.cell? ⟨C,off+i * 4,none⟩=some (.bool q.1)∧w.cell? ⟨C,off+i * 4+1,none⟩=some (.int .i64 q.2.1)∧w.cell? ⟨C,off+i * 4+2,none⟩=some (.int .i64 q.2.2.1)∧w.cell? ⟨C,off+i * 4+3,none⟩=some (.int .i64 q.2.2.2)
end Go.Proofs.YtbokdbaagacnlaaGreatDoor
namespace Go.Proofs.YtbokdbaagacnlaaGreatDoor
open Go.ChangeShapes Go.WideShapes Go.ChangeAt Go.RowKit Go.Lib Go.Deep Go.Joins
theorem Tryz.cellsEvent : Tryz.prog.cellsOf 38=4:=by kernel_rfl
theorem Tryz.cellsI64 : Tryz.prog.cellsOf 2=1:=by kernel_rfl
theorem Tryz.cellsInt : Tryz.prog.cellsOf 3=1:=by kernel_rfl
theorem Tryz.cellsBool : Tryz.prog.cellsOf 4=1:=by kernel_rfl
theorem zFK {n:Int}(h:(Lit.int .i64 n).wf=true):In64 n:=by
 have h1:IntKind.i64.min = -9223372036854775808:=by decide
 have h2:IntKind.i64.max=9223372036854775807:=by decide
 simp[Lit.wf,h1,h2] at h
 unfold In64
 omega
theorem list4 {α:Type}{cs:List α}(h:cs.length=4):∃ v0 v1 v2 v3,cs=[v0,v1,v2,v3]:=by
 match cs,h with
 | [v0,v1,v2,v3],_=>exact⟨v0,v1,v2,v3,rfl⟩
theorem list1 {α:Type}{cs:List α}(h:cs.length=1):∃ v0,cs=[v0]:=by
 match cs,h with
 | [v0],_=>exact⟨v0,rfl⟩
theorem zO1 {α:Type}{f:Nat→α}{n i:Nat}{x:α}(h:((List.range n).map f)[i]?=some x):i<n∧f i=x:=by
 rw[List.getElem?_map] at h
 have hi:i<n:=by
  rcases Nat.lt_or_ge i n with h' | h'
  ·exact h'
  ·rw[List.getElem?_eq_none (by simpa using h')] at h;simp at h
 rw[List.getElem?_range hi] at h
 simp at h
 exact⟨hi,h⟩
section
variable {H:Type} {enc:TypeId × Value→H} {P:Program} {w:World} {base:Nat} {spare:Nat→Bool} {held:Bool}
theorem zOY {t t' t'' t3 t4:TypeId}{v v' v'' v3 v4:Value}{d d' d'' d3 d4:DataW H}{p p' p'' p3 p4:List MemPlace}(h:DataW.Trod enc P w base spare held t v d p)(h':DataW.Trod enc P w base spare held t' v' d' p')(h'':DataW.Trod enc P w base spare held t'' v'' d'' p'')(h3:DataW.Trod enc P w base spare held t3 v3 d3 p3)(h4:DataW.Trod enc P w base spare held t4 v4 d4 p4):DataW.TrodAll enc P w base spare held [t,t',t'',t3,t4] [v,v',v'',v3,v4] [d,d',d'',d3,d4] (p ++ (p' ++ (p'' ++ (p3 ++ p4)))):=⟨p,p' ++ (p'' ++ (p3 ++ p4)),h,trodAll_mk4 h' h'' h3 h4,rfl⟩
end
theorem nums_of {H:Type}{enc:TypeId × Value→H}{W:World}{fuel:Nat}{sa:Option Addr}{len cap:Nat}{x:DataW H × List MemPlace}(h:DataW.trod enc Tryz.prog W 0 (fun _=>true) true fuel 22 [.slice sa len cap]=some x):
  ∃ L:List Int,L.length=len∧zFC W sa L∧∀ v∈L,In64 v:=by
 rcases open_slice Tryz.underlying22 h with⟨hc,-⟩ | ⟨a,len',cap',m,n,D,Pl,hc,-,hl,hm,hmm,-,hall⟩
 ·simp at hc
  obtain⟨rfl,rfl,rfl⟩:=hc
  exact⟨[],rfl,fun i v h=>by simp at h,fun v hv=>by cases hv⟩
 ·simp at hc
  obtain⟨rfl,rfl,rfl⟩:=hc
  simp only[if_true] at hmm
  subst hmm
  rw[Tryz.cellsI64] at hall
  have each:∀ i,i<len→∃ q:Int,In64 q∧W.cell? (a.add i)=some (.int .i64 q):=by
   intro i hi
   obtain⟨cs,h1,h2⟩:=hall i (by omega)
   obtain⟨_,hlen,hcell⟩:=World.cells?_some h1
   obtain⟨v0,rfl⟩:=list1 hlen
   obtain⟨k,e0,-,w0⟩:=DataW.trod_int Tryz.underlying2 h2
   simp at e0
   subst e0
   have c0:=hcell 0 (by omega)
   rw[add_add] at c0
   exact⟨k,zFK w0,by simpa using c0⟩
  obtain⟨f,hf⟩:=choose_lt each
  refine⟨(List.range len).map f,by simp,fun i v hx=>?_,fun v hv=>?_⟩
  ·obtain⟨hi,rfl⟩:=zO1 hx
   obtain⟨b,off,spot⟩:=a
   have hspot:spot=none:=by
    have:=World.cell?_spot (hf 0 (by omega)).2
    simpa[Addr.add] using this
   subst hspot
   have:=(hf i hi).2
   rw[Addr.add_lit] at this
   exact⟨b,off,rfl,this⟩
  ·obtain⟨i,hi,rfl⟩:=List.mem_map.1 hv
   exact(hf i (by simpa using hi)).1
theorem evsL_of {H:Type}{enc:TypeId × Value→H}{W:World}{fuel:Nat}{sa:Option Addr}{len cap:Nat}{x:DataW H × List MemPlace}(h:DataW.trod enc Tryz.prog W 0 (fun _=>true) true fuel 23 [.slice sa len cap]=some x):
  ∃ E:List (Bool × Int × Int × Int),E.length=len∧EvsL W sa E:=by
 rcases open_slice Tryz.underlying23 h with⟨hc,-⟩ | ⟨a,len',cap',m,n,D,Pl,hc,-,hl,hm,hmm,-,hall⟩
 ·simp at hc
  obtain⟨rfl,rfl,rfl⟩:=hc
  exact⟨[],rfl,fun i q h=>by simp at h⟩
 ·simp at hc
  obtain⟨rfl,rfl,rfl⟩:=hc
  simp only[if_true] at hmm
  subst hmm
  rw[Tryz.cellsEvent] at hall
  have each:∀ i,i<len→∃ q:Bool × Int × Int × Int,In64 q.2.1∧In64 q.2.2.1∧In64 q.2.2.2∧W.cell? (a.add (i * 4))=some (.bool q.1)∧W.cell? (a.add (i * 4+1))=some (.int .i64 q.2.1)∧W.cell? (a.add (i * 4+2))=some (.int .i64 q.2.2.1)∧W.cell? (a.add (i * 4+3))=some (.int .i64 q.2.2.2):=by
   intro i hi
   obtain⟨cs,h1,h2⟩:=hall i (by omega)
   obtain⟨_,hlen,hcell⟩:=World.cells?_some h1
   obtain⟨y0,y1,y2,y3,n',hxy,-,t0,t1,t2,t3⟩:=trod_struct4 Tryz.underlying38 h2
   obtain⟨v0,v1,v2,v3,rfl⟩:=list4 hlen
   simp[Tryz.cellsI64,Tryz.cellsInt,Tryz.cellsBool] at t0 t1 t2 t3
   obtain⟨b,e0,-⟩:=DataW.trod_bool Tryz.underlying4 t0
   obtain⟨A,e1,-,w1⟩:=DataW.trod_int Tryz.underlying3 t1
   obtain⟨B,e2,-,w2⟩:=DataW.trod_int Tryz.underlying2 t2
   obtain⟨C,e3,-,w3⟩:=DataW.trod_int Tryz.underlying2 t3
   simp at e0 e1 e2 e3
   subst e0 e1 e2 e3
   have c0:=hcell 0 (by omega)
   have c1:=hcell 1 (by omega)
   have c2:=hcell 2 (by omega)
   have c3:=hcell 3 (by omega)
   rw[add_add] at c0 c1 c2 c3
   exact⟨(b,A,B,C),zFK w1,zFK w2,zFK w3,by simpa using c0,by simpa using c1,by simpa using c2,by simpa using c3⟩
  obtain⟨f,hf⟩:=choose_lt each
  refine⟨(List.range len).map f,by simp,fun i q hx=>?_⟩
  obtain⟨hi,rfl⟩:=zO1 hx
  obtain⟨g1,g2,g2',g3,g4,g5,g6⟩:=hf i hi
  obtain⟨b,off,spot⟩:=a
  have hspot:spot=none:=by
   have:=World.cell?_spot (hf 0 (by omega)).2.2.2.1
   simpa[Addr.add] using this
  subst hspot
  rw[Addr.add_lit] at g3 g4 g5 g6
  exact⟨g1,g2,g2',b,off,rfl,g3,by rw[Nat.add_assoc];exact g4,by rw[Nat.add_assoc];exact g5,by rw[Nat.add_assoc];exact g6⟩
end Go.Proofs.YtbokdbaagacnlaaGreatDoor
