import Derived.Test.YtbokdbaagacnlaaGreatDoorJQ8
import Derived.Deep.RegionHeld3
namespace Go.Proofs.YtbokdbaagacnlaaGreatDoor
open Go.RowKit Go.Lib
theorem Tryz.infoPtr : (Tryz.prog.info? 31).map (fun i=>(i.zero,i.size,i.bytes))=some (some (.pointer none),1,8):=by kernel_rfl
theorem zDR (w:World)(a:Value)(t:TypeId):∀ j u,[a][j]?=some u→(w.alloc (.cells #[a] t)).cell? ((⟨w.heap.size,0,none⟩:Addr).add j)=some u:=by
 intro j u hj
 match j,hj with
 | 0,hj=>simp at hj;subst hj;simp[Addr.add]
 | (j+1),hj=>simp at hj
theorem owns_slice {b e n:Nat}{w:World}{pv:Value}{vs:List Value}(h:w.ownsRow b e 1 pv n vs):∃ ao ln cp,pv=.slice ao ln cp:=by
 rcases h.2 with⟨h1,-⟩ | ⟨g,cap,cur,h1,-⟩
 ·exact⟨_,_,_,h1⟩
 ·exact⟨_,_,_,h1⟩
theorem zMF {P:Nat→Prop}{b:Nat}{w:World}{pv:Value}{vs:List Value}(h:w.ownsRow b 31 1 pv vs.length vs)(hb:∀ g,pv.ownBlock=some g→P g):zFO P w pv vs:=by
 rcases h.2 with⟨h1,h2⟩ | ⟨g,cap,cur,h1,h2,h3,h4,h5,h6,h7⟩
 ·exact .inl ⟨h1,List.eq_nil_of_length_eq_zero h2⟩
 ·exact .inr ⟨g,cap,cur,h1,hb g (by rw[h1];rfl),h3,h4,h5,by simpa using h6,by simpa using h7⟩
theorem zL6 {P:Nat→Prop}{w:World}:∀ {ts:List Tree} {vs:List Value} {t:Tree} {v:Value},zAJ P w ts vs→zA9 P w t v→zAJ P w (ts ++ [t]) (vs ++ [v])
 | [],vs,t,v,h,k=>by
  unfold zAJ at h
  subst h
  simp only[List.nil_append]
  unfold zAJ
  exact⟨v,[],rfl,k,by unfold zAJ;rfl⟩
 | _ :: _,vs,t,v,h,k=>by
  unfold zAJ at h
  obtain⟨x,xs,rfl,h1,h2⟩:=h
  simp only[List.cons_append]
  unfold zAJ
  exact⟨x,xs ++ [v],rfl,h1,zL6 h2 k⟩
section
variable {s:ByteArray} {L:List Tok} {R bl cap base:Nat}
def AP (bn:Nat)(pv:Value):Nat→Prop:=fun b=>bn<b∧pv.ownBlock≠some b
structure ArgsRel (s:ByteArray) (L:List Tok) (R bl cap base I bn:Nat) (w:World) (pv:Value) (vs:List Value) (J:Nat) (b:Bool):Prop where
 node:zBL w bn 112 (pl L I) 0 (tx s L I) { data:=#[] } pv
 own:w.ownsRow (bn+1) 31 1 pv vs.length vs
 st:St s L R bl cap base w J b
 lt:J<L.length
 cnt:vs.length≤J
 ge:I+2≤J
 bad:b=true→D s L (.args []) (I+2) (.bad J)
 ok:b=false→∃ acc,zAJ (AP bn pv) w acc vs∧(kd L J≠44→D s L (.args []) (I+2) (.ok acc J))∧(kd L J=44→∀ o,D s L (.args acc) (J+1) o→D s L (.args []) (I+2) o)
theorem zOR {bn:Nat}{w w':World}{p:Nat}{word:ByteArray}{pv:Value}{vs:List Value}{acc:List Tree}(hk:Keep R w w')(hR:R<bn)
  (h1:zBL w bn 112 p 0 word { data:=#[] } pv) (h2:w.ownsRow (bn+1) 31 1 pv vs.length vs) (h3:zAJ (AP bn pv) w acc vs):
  zBL w' bn 112 p 0 word { data:=#[] } pv∧w'.ownsRow (bn+1) 31 1 pv vs.length vs∧zAJ (AP bn pv) w' acc vs:=by
 refine⟨hk.heap h1 (by omega),h2.kept (row:=some R) ⟨hk.os,hk.tape,hk.output,hk.size,fun k hk' hne=>hk.block k hk' (fun e=>hne (by rw[e]))⟩ (.inr fun e=>?_),h3.moves fun b hb hs=>⟨hb,hk.block b hs (fun e=>?_)⟩⟩
 ·have:=(h2.lt _ e).1
  omega
 ·have:=hb.1
  omega
theorem zOQ {I bn J0 lo:Nat}{w4 w5:World}{x:Obj}{pv pv':Value}{vs:List Value}{acc:List Tree}{o4:Out}{p4:Option Addr}
  (hbn:base≤bn) (hlo:bn<lo) (hpv:∀ g,pv.ownBlock=some g→g<lo)
  (hA:zGI s L R bl cap base lo w4 o4 (.pointer p4)) (hD:D s L .choice J0 o4) (hcnt:vs.length<J0) (hge:I+2≤J0)
  (h1:zBL w4 bn 112 (pl L I) 0 (tx s L I) { data:=#[] } pv) (h2:w4.ownsRow (bn+1) 31 1 pv vs.length vs) (h3:zAJ (AP bn pv) w4 acc vs)
  (hC:∀ o,D s L (.args acc) J0 o→D s L (.args []) (I+2) o)
  (h5:w5.ownsRow (bn+1) 31 1 pv' (vs.length+1) (vs ++ [Value.pointer p4])) (hg:World.grownBy (w4.alloc x) w5 pv.ownBlock)
  (hb:pv'.ownBlock=pv.ownBlock∨pv'.ownBlock=some (w4.heap.size+1)):
  ∃ J b,ArgsRel s L R bl cap base I bn (w5.setCell ⟨bn,5,none⟩ pv') pv' (vs ++ [Value.pointer p4]) J b∧(b=false→J0<J):=by
 have hold:∀ b,b<w4.heap.size→b≠bn→pv.ownBlock≠some b→(w5.setCell ⟨bn,5,none⟩ pv').heap[b]?=w4.heap[b]?:=by
  intro b hs hne hrow
  rw[Below.heap_setCell _ _ _ _ hne,hg.block b (by simp;omega) (fun e=>hrow e.symm),Below.heap_alloc _ _ _ hs]
 have l4:=zA2 h1
 have hn5:zBL w5 bn 112 (pl L I) 0 (tx s L I) { data:=#[] } pv:=by
  have:w5.heap[bn]?=w4.heap[bn]?:=by
   rw[hg.block bn (by simp;omega) (fun e=>by have:=(h2.lt _ e.symm).1;omega),Below.heap_alloc _ _ _ l4]
  exact this.trans h1
 have hnode:zBL (w5.setCell ⟨bn,5,none⟩ pv') bn 112 (pl L I) 0 (tx s L I) { data:=#[] } pv':=zA4 hn5
 have hown:(w5.setCell ⟨bn,5,none⟩ pv').ownsRow (bn+1) 31 1 pv' (vs ++ [Value.pointer p4]).length (vs ++ [Value.pointer p4]):=by
  rw[List.length_append,List.length_singleton]
  refine h5.kept (row:=some bn) ⟨rfl,rfl,rfl,by simp,fun k hk hne=>Below.heap_setCell _ _ _ _ (fun e=>hne (by rw[e]))⟩ (.inr fun e=>?_)
  have:=(h5.lt _ e).1
  omega
 have hst:∀ {J:Nat} {b:Bool},St s L R bl cap base w4 J b→St s L R bl cap base (w5.setCell ⟨bn,5,none⟩ pv') J b:=by
  intro J b h
  obtain⟨cur,t1,t2⟩:=h.tk
  have hR:=h.hR
  have hbl:=h.hbl
  have nrow:∀ k,k<base→pv.ownBlock≠some k:=fun k hk e=>by have:=(h2.lt _ e).1;omega
  refine⟨(hold R (zA2 h.rd) (by omega) (nrow R hR)).trans h.rd,⟨cur,(hold bl (zA2 t1) (by omega) (nrow bl hbl)).trans t1,t2⟩,hR,hbl,h.ne,?_,h.len⟩
  have:=hg.size
  have:=h.size
  simp at *
  omega
 have hmv:∀ {P:Nat→Prop},(∀ b,P b→bn<b∧pv.ownBlock≠some b)→zOV P (AP bn pv') w4 (w5.setCell ⟨bn,5,none⟩ pv'):=by
  intro P hP b hb' hs
  obtain⟨q1,q2⟩:=hP b hb'
  refine⟨⟨q1,fun e=>?_⟩,hold b hs (by omega) q2⟩
  rcases hb with hb | hb
  ·exact q2 (hb.symm.trans e)
  ·have:=Option.some.inj (hb.symm.trans e)
   omega
 have hgr:=hD.grow
 cases o4 with
 | bad J=>
  obtain⟨a1,a2⟩:=hA
  simp only[Out.at] at hgr
  exact⟨J,true,⟨hnode,hown,hst a1,a2,by simp;omega,by omega,fun _=>hC _ (.arBad hD),(fun e=>by cases e)⟩,(fun e=>by cases e)⟩
 | ok ts J=>
  obtain⟨a1,a2,a,rfl,a4⟩:=hA
  have hlt:=zDT hD rfl
  refine⟨J,false,⟨hnode,hown,hst a1,a2,by simp;omega,by omega,(fun e=>by cases e),fun _=>⟨acc ++ [a],?_,fun hk=>hC _ (.arEnd hD hk),fun hk o ho=>hC _ (.arGo hD hk ho)⟩⟩,fun _=>hlt⟩
  refine zL6 (h3.moves (hmv fun b hb'=>hb')) (a4.moves (hmv fun b hb'=>⟨?_,fun e=>?_⟩))
  ·have:lo≤b:=hb'
   omega
  ·have:lo≤b:=hb'
   have:=hpv b e
   omega
set_option maxRecDepth 1000000 in
set_option maxHeartbeats 4000000 in
theorem call_probe (hE:Ends L){N:Nat}(hcho:Con s L R bl cap base 60 .choice N){w:World}{I:Nat}(hI:I<L.length)(hN:L.length - I≤N+1)(hk:kd L I=97)(hm:isMeasure (tx s L I)=false)(hst:St s L R bl cap base w I false):
  Calls Tryz.prog 219 #[.pointer (some ⟨R,0,none⟩)] w fun e w'=>∃ (o:Out) (pa:Option Addr),e=.returned (.pointer pa)∧D s L .minus I o∧Keep R w w'∧zGI s L R bl cap base w.heap.size w' o (.pointer pa):=by
 obtain⟨i0,hi,hz0,hz1,hz2⟩:=info_parts Tryz.infoPtr
 have hlen:=hst.len
 have hbR:=hst.hR
 have hI1:I+1<L.length:=hE.next hI (by omega) (by omega)
 have HE:Hid (Ends L):=hE
 have HC:Hid (Con s L R bl cap base 60 .choice N):=hcho
 have HS:Hid (St s L R bl cap base w I false):=hst
 have HA:Hid (kd L I=97):=hk
 have HME:Hid (isMeasure (tx s L I)=false):=hm
 clear hE hst hk hcho
 go_enter Tryz.func219,Tryz.ntmps219
 go_wp2_with fail
 refine(zAV HS.out hI (k:=97) HA.out).mono ?_
 rintro e w1 ⟨rfl,hs1,hk1⟩
 have HK1:Hid (Keep R w w1):=hk1
 have HS1:Hid (St s L R bl cap base w1 (I+1) false):=hs1
 have l1:R<w1.heap.size:=zA2 hs1.rd
 clear hs1 hk1
 go_wp2_with fail
 refine(zHO (HS1.out.alloc _) hI1 40).mono ?_
 rintro e w2 ⟨I2,b2,kt2,pt2,tt2,rfl,hr2,hs2,hk2⟩
 have hI2:=hr2.lt HE.out hI1 (by omega) (by omega)
 have HR2:Hid (zCW s L (I+1) false 40 I2 b2 kt2 pt2 tt2):=hr2
 have HK2:Hid (Keep R w w2):=(HK1.out.alloc _).trans hk2
 have HS2:Hid (St s L R bl cap base w2 I2 b2):=hs2
 have a1:w2.cell? ⟨w1.heap.size,1,none⟩=some (.int .i64 (pl L I)):=hk2.cell (World.cell?_alloc_at (w:=w1) _ _ _ _ rfl) (by simp;omega)
 have a2:w2.cell? ⟨w1.heap.size,2,none⟩=some (.string (tx s L I)):=hk2.cell (World.cell?_alloc_at (w:=w1) _ _ _ _ rfl) (by simp;omega)
 have l12:w1.heap.size<w2.heap.size:=World.block_lt_of_cell? _ _ a1
 have lR2:R<w2.heap.size:=zA2 hs2.rd
 have hsz2:=hs2.size
 have r2:w2.cell? ⟨R,2,none⟩=some (.bool b2):=zA0 hs2.rd rfl
 clear hs2 hk2 hr2
 cases b2 with
 | true=>
  go_wp2_with (first | (go_at_call 233;refine(zGS _ _).mono ?_;rintro e w' ⟨rfl,hw⟩;subst hw))
  go_ret
  rcases HR2.out.good with⟨-,-,h,-⟩ | ⟨k2,rfl,-⟩
  ·cases h
  ·exact⟨.bad (I+1),_,rfl,.caB1 HA.out k2,HK2.out.alloc _,HS2.out.alloc _,hI2⟩
 | false=>
  have HP:Hid (kd L (I+1)=40):=by
   rcases HR2.out.good with⟨k2,-⟩ | ⟨-,-,h⟩
   ·exact k2
   ·cases h
  obtain rfl:I2=I+2:=by
   rcases HR2.out.good with⟨-,h,-⟩ | ⟨-,-,h⟩
   ·exact h
   ·cases h
  clear HR2
  have kk:=zEG (HS2.out.alloc (.cells #[.int .u8 112,.int .i64 (pl L I),.int .i64 0,.string (tx s L I),.string { data:=#[] },.slice none 0 0] 121)) hI2
  go_wp2_with (first | (go_at_call 233;refine(zGS _ _).mono ?_;rintro e w' ⟨rfl,hw⟩;subst hw))
  refine kk.mono ?_
  rintro e w3 ⟨rfl,q,rfl⟩
  clear kk
  by_cases hp:kd L (I+2)=41
  ·have h1:((kd L (I+2):Int) != 41)=false:=by simp[hp]
   have HQ:Hid (kd L (I+2)=41):=hp
   have hI3:=HE.out.next hI2 (by omega) (by omega)
   clear hp
   go_wp2_with fail
   refine(zAV ((HS2.out.alloc _).drewN q) hI2 (k:=41) HQ.out).mono ?_
   rintro e w4 ⟨rfl,hs4,hk4⟩
   have HN4:Hid (zBL w4 w2.heap.size 112 (pl L I) 0 (tx s L I) { data:=#[] } (.slice none 0 0)):=hk4.heap zBE (by omega)
   have HK4:Hid (Keep R w w4):=((HK2.out.alloc _).drewN q).trans hk4
   have HS4:Hid (St s L R bl cap base w4 (I+2+1) false):=hs4
   clear hs4 hk4
   go_wp2
   go_ret
   refine⟨.ok [.probe (pl L I) (tx s L I) []] (I+3),_,rfl,.pbNone HA.out HP.out HME.out HQ.out,HK4.out,HS4.out,hI3,_,rfl,?_⟩
   unfold zA9
   exact⟨[],⟨w2.heap.size,_,rfl,HK2.out.size,HN4.out,.inl ⟨rfl,rfl⟩⟩,by unfold zAJ;rfl⟩
  ·have h1:((kd L (I+2):Int) != 41)=true:=by simp;omega
   have HQ:Hid (kd L (I+2)≠41):=hp
   clear hp
   go_wp2_with fail
   refine(HC.out _ (I+2) hI2 (by omega) ((HS2.out.alloc _).drewN q)).mono ?_
   rintro e w4 ⟨o4,p4,rfl,hD4,hk4,ha4⟩
   have HD4:Hid (D s L .choice (I+2) o4):=hD4
   have n4:zBL w4 w2.heap.size 112 (pl L I) 0 (tx s L I) { data:=#[] } (.slice none 0 0):=hk4.heap zBE (by omega)
   have HN4:Hid (zBL w4 w2.heap.size 112 (pl L I) 0 (tx s L I) { data:=#[] } (.slice none 0 0)):=n4
   have HK4:Hid (Keep R w w4):=((HK2.out.alloc _).drewN q).trans hk4
   have HA4:Hid (zGI s L R bl cap base (w2.heap.size+1) w4 o4 (.pointer p4)):=by simp at ha4;exact ha4
   have m4:=zA0 (i:=5) n4 rfl
   have l4:=zA2 n4
   have hs4:base≤w4.heap.size:=by have:=hk4.size;simp at this;omega
   clear hD4 hk4 ha4 n4
   go_wp2_with (first | (at_builtin; refine zAA _ rfl _ _ 119 rfl (w2.heap.size + 1) 31 i0 (.pointer none) 1 8 Tryz.underlying119 hi hz0 hz1 hz2 rfl (by decide) (.slice none 0 0) 0 [] rfl (World.ownsRow_nil _ _ _ _) ⟨w4.heap.size, 0, none⟩ 1 1 [.pointer p4] rfl rfl (zDR _ _ _) (fun x hx => by simp at hx; subst hx; rfl) (by unfold maxLen; omega) (by omega) (by simp; omega) (by decide) ?_; intro v' w5 hown hgrow hnil
                         obtain⟨ao,ln,cp,rfl⟩:=owns_slice hown
                         have HG5:Hid (World.grownBy (w4.alloc (.cells #[.pointer p4] 31)) w5 none):=hgrow
                         have HO5:Hid (w5.ownsRow (w2.heap.size+1) 31 1 (.slice ao ln cp) 1 [.pointer p4]):=hown
                         have HB5:Hid ((Value.slice ao ln cp).ownBlock=none∨(Value.slice ao ln cp).ownBlock=some (w4.heap.size+1)):=by simp at hnil;exact hnil
                         have n5:zBL w5 w2.heap.size 112 (pl L I) 0 (tx s L I) { data:=#[] } (.slice none 0 0):=(HG5.out.block _ (by simp;omega) (by intro h;cases h)).trans (zA3 HN4.out)
                         have m5:=zA0 (i:=5) n5 rfl
                         have f5:=zA1 (i:=5) n5
                         clear n5 hgrow hown hnil))
   obtain⟨J1,b1,hrel1,hJ1⟩:=zOQ (I:=I) (bn:=w2.heap.size) (J0:=I+2) (lo:=w2.heap.size+1)
    hsz2 (by omega) (fun g hg=>by cases hg) HA4.out HD4.out (by simp) (Nat.le_refl _) HN4.out (World.ownsRow_nil _ _ _ _) (acc:=[]) (by unfold zAJ;rfl) (fun o ho=>ho) HO5.out HG5.out HB5.out
   have HK6:Hid (Keep R w (w5.setCell ⟨w2.heap.size,5,none⟩ (.slice ao ln cp))):=by
    refine Keep.setNew (HK4.out.trans ?_) HK2.out.size _
    exact⟨HG5.out.os,HG5.out.tape,HG5.out.output,by have:=HG5.out.size;simp at this;omega,fun k hk _=>(HG5.out.block k (by simp;omega) (by intro h;cases h)).trans (Below.heap_alloc _ _ _ hk)⟩
   have HREL:Hid (ArgsRel s L R bl cap base I w2.heap.size (w5.setCell ⟨w2.heap.size,5,none⟩ (.slice ao ln cp)) (.slice ao ln cp) ([] ++ [.pointer p4]) J1 b1):=hrel1
   clear hrel1 hJ1 HO5 HG5 HB5 HA4 HN4 HD4 m4 m5 f5 hs4
   go_loopw [9] (fun v wr=>∃ (ao:Option Addr) (ln cp:Nat) (vs:List Value) (J:Nat) (b:Bool),Hid (Keep R w wr)∧Hid (ArgsRel s L R bl cap base I w2.heap.size wr (.slice ao ln cp) vs J b)) (fun _ wr=>zJU wr R L.length)
   case atStart=>exact⟨ao,ln,cp,_,J1,b1,HK6,HREL⟩
   case round=>
    obtain⟨ao,ln,cp,vs,J,b,HKr,HRel⟩:=hrel
    have hJ:=HRel.out.lt
    have hcn:=HRel.out.cnt
    have hRb:R<w2.heap.size:=lR2
    have cb:wr.cell? ⟨R,2,none⟩=some (.bool b):=zA0 HRel.out.st.rd rfl
    have hszr:base≤wr.heap.size:=HRel.out.st.size
    have hszw:=HKr.out.size
    have lnr:w2.heap.size<wr.heap.size:=zA2 HRel.out.node
    cases b with
    | true=>
     go_wp2_with fail
     refine(zEF HRel.out.st hJ 41).mono ?_
     rintro e w7 ⟨rfl,hs7,hk7⟩
     have HS7:Hid (St s L R bl cap base w7 J true):=hs7
     have HK7:Hid (Keep R w w7):=HKr.out.trans hk7
     clear hs7 hk7
     go_wp2
     go_ret
     exact⟨.bad J,_,rfl,.pbBad HA.out HP.out HME.out HQ.out (HRel.out.bad rfl),HK7.out,HS7.out,hJ⟩
    | false=>
     by_cases hcm:kd L J=44
     rotate_left 1
     ·have h44:((kd L J:Int) != 44)=true:=by simp;omega
      have HX:Hid (kd L J≠44):=hcm
      clear hcm
      go_wp2_with fail
      refine(zEG HRel.out.st hJ).mono ?_
      rintro e w7 ⟨rfl,q7,rfl⟩
      by_cases hcl:kd L J=41
      ·have HY:Hid (kd L J=41):=hcl
       clear hcl
       have hJ1:=HE.out.next hJ (by have:=HY.out;omega) (by have:=HY.out;omega)
       go_wp2_with fail
       refine(zAV (HRel.out.st.drewN q7) hJ (k:=41) HY.out).mono ?_
       rintro e w8 ⟨rfl,hs8,hk8⟩
       have HKK:Hid (Keep R wr w8):=((Keep.refl R wr).drewN q7).trans hk8
       have HS8:Hid (St s L R bl cap base w8 (J+1) false):=hs8
       clear hs8 hk8
       go_wp2
       go_ret
       obtain⟨acc,g1,g2,-⟩:=HRel.out.ok rfl
       obtain⟨k1,k2,k3⟩:=zOR HKK.out hRb HRel.out.node HRel.out.own g1
       refine⟨.ok [.probe (pl L I) (tx s L I) acc] (J+1),_,rfl,.pbGo HA.out HP.out HME.out HQ.out (g2 HX.out) HY.out,HKr.out.trans HKK.out,HS8.out,hJ1,_,rfl,?_⟩
       unfold zA9
       have hw2:=HK2.out.size
       refine⟨vs,⟨w2.heap.size,_,rfl,hw2,k1,zMF k2 fun g hg=>?_⟩,k3.moves fun b hb hs=>⟨?_,rfl⟩⟩
       ·have:=(k2.lt _ hg).1
        show _≤_
        omega
       ·have:=hb.1
        show _≤_
        omega
      ·have HY:Hid (kd L J≠41):=hcl
       clear hcl
       go_wp2_with fail
       refine(zD0 (HRel.out.st.drewN q7) hJ (k:=41) HY.out).mono ?_
       rintro e w8 ⟨rfl,hs8,hk8⟩
       have HKK:Hid (Keep R wr w8):=((Keep.refl R wr).drewN q7).trans hk8
       have HS8:Hid (St s L R bl cap base w8 J true):=hs8
       clear hs8 hk8
       go_wp2
       go_ret
       obtain⟨acc,g1,g2,-⟩:=HRel.out.ok rfl
       exact⟨.bad J,_,rfl,.pbB1 HA.out HP.out HME.out HQ.out (g2 HX.out) HY.out,HKr.out.trans HKK.out,HS8.out,hJ⟩
     have h44:((kd L J:Int) != 44)=false:=by simp[hcm]
     have HX:Hid (kd L J=44):=hcm
     clear hcm
     have hJ1:=HE.out.next hJ (by have:=HX.out;omega) (by have:=HX.out;omega)
     go_wp2_with fail
     refine(zEG HRel.out.st hJ).mono ?_
     rintro e w7 ⟨rfl,q7,rfl⟩
     go_wp2_with fail
     refine(zAV (HRel.out.st.drewN q7) hJ (k:=44) HX.out).mono ?_
     rintro e w8 ⟨rfl,hs8,hk8⟩
     have HKK:Hid (Keep R wr w8):=((Keep.refl R wr).drewN q7).trans hk8
     have HS8:Hid (St s L R bl cap base w8 (J+1) false):=hs8
     clear hs8 hk8
     have hIJ:=HRel.out.ge
     go_wp2_with fail
     refine(HC.out _ (J+1) hJ1 (by omega) HS8.out).mono ?_
     rintro e w9 ⟨o9,p9,rfl,hD9,hk9,ha9⟩
     have HD9:Hid (D s L .choice (J+1) o9):=hD9
     have HK9:Hid (Keep R wr w9):=HKK.out.trans hk9
     have HA9:Hid (zGI s L R bl cap base w8.heap.size w9 o9 (.pointer p9)):=ha9
     clear hD9 hk9 ha9
     obtain⟨acc,g1,-,g3⟩:=HRel.out.ok rfl
     obtain⟨n9,own9,nd9⟩:=zOR HK9.out hRb HRel.out.node HRel.out.own g1
     have HN9:Hid (zBL w9 w2.heap.size 112 (pl L I) 0 (tx s L I) { data:=#[] } (.slice ao ln cp)):=n9
     have HND9:Hid (zAJ (AP w2.heap.size (.slice ao ln cp)) w9 acc vs):=nd9
     have HG3:Hid (kd L J=44→∀ o,D s L (.args acc) (J+1) o→D s L (.args []) (I+2) o):=g3
     have m9:=zA0 (i:=5) n9 rfl
     have l9:=zA2 n9
     have hs9:=HK9.out.size
     have hs8:=HKK.out.size
     clear n9 nd9 g1 g3
     go_wp2_with (first | (at_builtin; refine zAA _ rfl _ _ 119 rfl (w2.heap.size + 1) 31 i0 (.pointer none) 1 8 Tryz.underlying119 hi hz0 hz1 hz2 rfl (by decide) (.slice ao ln cp) vs.length vs rfl (own9.alloc _) ⟨w9.heap.size, 0, none⟩ 1 1 [.pointer p9] rfl rfl (zDR _ _ _) (fun x hx => by simp at hx; subst hx; rfl) (by unfold maxLen; omega) (by omega) (by simp; omega) (by decide) ?_; intro v' w5 hown hgrow hnil
                           obtain⟨ao',ln',cp',rfl⟩:=owns_slice hown
                           have HG5:Hid (World.grownBy (w9.alloc (.cells #[.pointer p9] 31)) w5 (Value.slice ao ln cp).ownBlock):=hgrow
                           have HO5:Hid (w5.ownsRow (w2.heap.size+1) 31 1 (.slice ao' ln' cp') (vs.length+1) (vs ++ [.pointer p9])):=hown
                           have HB5:Hid ((Value.slice ao' ln' cp').ownBlock=(Value.slice ao ln cp).ownBlock∨(Value.slice ao' ln' cp').ownBlock=some (w9.heap.size+1)):=by simp at hnil;exact hnil
                           have n5:zBL w5 w2.heap.size 112 (pl L I) 0 (tx s L I) { data:=#[] } (.slice ao ln cp):=(HG5.out.block _ (by simp;omega) (fun e=>by have:=(own9.lt _ e.symm).1;omega)).trans (zA3 HN9.out)
                           have m5:=zA0 (i:=5) n5 rfl
                           have f5:=zA1 (i:=5) n5
                           clear n5 hgrow hown hnil))
     obtain⟨J2,b2,hrel2,hJ2⟩:=zOQ (I:=I) (bn:=w2.heap.size) (J0:=J+1) (lo:=w8.heap.size) hsz2 (by omega) (fun g hg=>by have:=(HRel.out.own.lt _ hg).2;omega) HA9.out HD9.out (by omega) (by omega) HN9.out own9 HND9.out (fun o ho=>HG3.out HX.out o ho) HO5.out HG5.out HB5.out
     have hw2:=HK2.out.size
     have HK6':Hid (Keep R w (w5.setCell ⟨w2.heap.size,5,none⟩ (.slice ao' ln' cp'))):=by
      have hk9:=HKr.out.trans HK9.out
      have z1:=HG5.out.size
      have z2:=hk9.size
      simp at z1
      refine⟨HG5.out.os.trans hk9.os,HG5.out.tape.trans hk9.tape,HG5.out.output.trans hk9.output,by simp;omega,fun k hk hne=>?_⟩
      rw[Below.heap_setCell _ _ _ _ (by simp;omega),HG5.out.block k (by simp;omega) (fun e=>by have:=(own9.lt _ e.symm).1;omega),Below.heap_alloc _ _ _ (by omega)]
      exact hk9.block k hk hne
     go_roundw
     case rel=>exact⟨ao',ln',cp',_,J2,b2,HK6',hrel2⟩
     case measure=>
      rw[zDF HRel.out.st.rd]
      cases b2 with
      | true=>rw[zHV hrel2.st.rd];omega
      | false=>
       rw[zDF hrel2.st.rd]
       have:=hJ2 rfl
       omega
theorem call_of (hE:Ends L)(hG:Good s L){N:Nat}(hcho:Con s L R bl cap base 60 .choice N):zQA s L R bl cap base (N+1):=by
 intro w I hI hN hk hst
 cases hm:isMeasure (tx s L I) with
 | true=>exact zOO hE hG hI hk hm hst
 | false=>exact call_probe hE hcho hI hN hk hm hst
theorem zQI (hE:Ends L)(hG:Good s L):∀ N,Con s L R bl cap base 198 .minus N∧Con s L R bl cap base 60 .choice N
 | 0=>⟨fun w I hI hN=>absurd hI (by omega),fun w I hI hN=>absurd hI (by omega)⟩
 | N+1=>by
  obtain⟨h1,h2⟩:=zQI hE hG N
  have hm:=minus_of hE hG h1 h2 (call_of hE hG h2)
  exact⟨hm,choice_of hE (compare_of hE (sum_of hE (product_of hE hm))) h2⟩
end
theorem zK5 (s:ByteArray):∀ (f i k:Nat),i≤k→k<zBD s f i→zEV (zBH s k)=true
 | 0,i,k,h1,h2=>by simp[zBD] at h2;omega
 | f+1,i,k,h1,h2=>by
  unfold zBD at h2
  split at h2
  ·rename_i h
   rcases Nat.lt_or_ge i k with hlt | hge
   ·exact zK5 s f (i+1) k hlt h2
   ·obtain rfl:k=i:=by omega
    exact h.2
  ·omega
theorem zO5 (s:ByteArray)(a b:Nat):(s.extract a b).data.toList=(s.data.toList.take b).drop a:=by
 simp[ByteArray.data_extract,List.extract_eq_drop_take']
theorem zNB {s:ByteArray}{i:Nat}(hi:i≤s.size)(h:(zAX s i).kind=110):zHL ((zAX s i).text s):=by
 revert h
 unfold zAX
 have h1:=zK6 hi
 split
 ·simp
 split
 ·rename_i h2 hsg
  intro h
  rw[zE8] at hsg
  simp only at h
  rw[h] at hsg
  simp at hsg
 split
 ·split
  ·rename_i h9
   intro _
   refine⟨fun x hx=>?_,?_⟩
   ·unfold Tok.text at hx
    simp only[zO5] at hx
    obtain⟨k,hk⟩:=List.getElem?_of_mem hx
    rw[List.getElem?_drop,List.getElem?_take] at hk
    split at hk
    ·rename_i hlt
     have:=zK5 s (s.size - i) i (i+k) (by omega) hlt
     unfold zBH at this
     rw[hk] at this
     exact this
    ·cases hk
   ·unfold Tok.text
    simp only[ByteArray.size_extract]
    omega
  ·simp
 ·split
  ·simp
  ·simp
theorem zG6 (s:ByteArray)(P:Tok→Prop)(hP:∀ i,i≤s.size→P (zAX s i)):∀ n i,i≤s.size→s.size - i≤n→∀ t∈zC8 s i,P t:=by
 have one:∀ i,i≤s.size→P (zA8 s i):=fun i hi=>hP _ (zJN hi).2
 intro n
 induction n with
 | zero=>
  intro i hi hn t ht
  have hl:(zA8 s i).last=true:=by
   cases h:(zA8 s i).last with
   | true=>rfl
   | false=>have:=zBV hi h;omega
  rw[zB0 hl] at ht
  simp at ht
  subst ht
  exact one i hi
 | succ n ih=>
  intro i hi hn t ht
  cases h:(zA8 s i).last with
  | true=>
   rw[zB0 h] at ht
   simp at ht
   subst ht
   exact one i hi
  | false=>
   have h2:=zBV hi h
   rw[zBC hi h] at ht
   rcases List.mem_cons.1 ht with rfl | ht
   ·exact one i hi
   ·exact ih _ h2.2 (by omega) t ht
theorem zJK (s:ByteArray):∀ n i,i≤s.size→s.size - i≤n→Ends (zC8 s i)∧(zC8 s i).length≤s.size - i+1:=by
 have single:∀ i,(zA8 s i).last=true→Ends (zC8 s i)∧(zC8 s i).length≤s.size - i+1:=by
  intro i h
  rw[zB0 h]
  exact⟨⟨0,rfl,h⟩,by simp⟩
 intro n
 induction n with
 | zero=>
  intro i hi hn
  cases h:(zA8 s i).last with
  | true=>exact single i h
  | false=>have:=zBV hi h;omega
 | succ n ih=>
  intro i hi hn
  cases h:(zA8 s i).last with
  | true=>exact single i h
  | false=>
   have h2:=zBV hi h
   obtain⟨⟨m,h3,h4⟩,h5⟩:=ih _ h2.2 (by omega)
   rw[zBC hi h]
   refine⟨⟨m+1,by simp[h3],by simpa using h4⟩,?_⟩
   simp only[List.length_cons]
   omega
theorem zJJ (s:ByteArray):Ends (toks s):=(zJK s s.size 0 (by omega) (by omega)).1
theorem zED (s:ByteArray):(toks s).length≤s.size+1:=(zJK s s.size 0 (by omega) (by omega)).2
theorem zJI (s:ByteArray):Good s (toks s):=by
 intro i hi hk
 have:=zG6 s (fun t=>t.kind=110→zHL (t.text s)) (fun i hi h=>zNB hi h) s.size 0 (by omega) (by omega) ((toks s).getD i default) (by
  rw[List.getD_eq_getElem?_getD,List.getElem?_eq_getElem hi]
  exact List.getElem_mem hi)
 exact this hk
def PRel (s:ByteArray)(r:Option Tree × Nat × Nat):Prop:=
 (200<s.size∧r=(none,1,0)) ∨
 (s.size≤200∧((∃ J,D s (toks s) .choice 0 (.bad J)∧r=(none,2,pl (toks s) J)) ∨
  (∃ t J,D s (toks s) .choice 0 (.ok [t] J)∧kd (toks s) J≠101∧r=(none,2,pl (toks s) J)) ∨
  (∃ t J,D s (toks s) .choice 0 (.ok [t] J)∧kd (toks s) J=101∧r=(some t,0,0))))
theorem PRel.det {s:ByteArray}{r r':Option Tree × Nat × Nat}(h:PRel s r)(h':PRel s r'):r=r':=by
 rcases h with⟨h0,rfl⟩ | ⟨h0,h⟩ <;> rcases h' with⟨h0',rfl⟩ | ⟨h0',h'⟩
 ·rfl
 ·omega
 ·omega
 ·rcases h with⟨J,d,rfl⟩ | ⟨t,J,d,k,rfl⟩ | ⟨t,J,d,k,rfl⟩ <;> rcases h' with⟨J',d',rfl⟩ | ⟨t',J',d',k',rfl⟩ | ⟨t',J',d',k',rfl⟩ <;>
   (have e:=d.det d';first | (cases e;rfl) | (cases e;exact absurd k' k) | (cases e;exact absurd k k') | cases e)
def TreeAt (lo:Nat)(w:World)(t:Option Tree)(v:Value):Prop:=
 match t with
 | some t=>zA9 (From lo) w t v
 | none=>True
set_option maxRecDepth 1000000 in
set_option maxHeartbeats 2000000 in
theorem ref_parse (s:ByteArray)(hs:s.size≤9223372036854775807)(w:World)(hT:Tabs w):
  Calls Tryz.prog 36 #[.string s] w fun e w'=>∃ (t:Option Tree) (f p:Nat) (pa:Option Addr),e=.returned (.tuple #[.pointer pa,.int .i64 f,.int .i64 p])∧PRel s (t,f,p)∧Below w.heap.size w w'∧TreeAt w.heap.size w' t (.pointer pa):=by
 have HT:Hid (Tabs w):=hT
 clear hT
 by_cases h2:200<s.size
 ·have h200:(200:Int)<(s.size:Int):=by omega
  go_enter Tryz.func36,Tryz.ntmps36
  go_wp2
  go_ret3
  exact⟨none,1,0,_,rfl,.inl ⟨h2,rfl⟩,Below.refl _ _,trivial⟩
 have h200:¬ (200:Int)<(s.size:Int):=by omega
 go_enter Tryz.func36,Tryz.ntmps36
 go_wp2_with fail
 have hb0:Below w.heap.size w (w.alloc (.cells #[.slice none 0 0,.int .i64 0,.bool false] 165)):=(Below.refl _ _).alloc (Nat.le_refl _) _
 refine(ref_tokens s (by omega) _ (HT.out.below hb0)).mono ?_
 rintro e w1 ⟨v,rfl,hown,hb1⟩
 have hlen:=zED s
 have hE:=zJJ s
 have hpos:0<(toks s).length:=by obtain⟨m,hm,-⟩:=hE;omega
 obtain⟨bl,cap,rfl,hbl,cur,hcur,htake⟩:∃ bl cap,v=.slice (some ⟨bl,0,none⟩) (toks s).length cap∧w.heap.size+1≤bl∧∃ cur:Array Value,w1.heap[bl]?=some (.cells cur 169 (0,0))∧cur.toList.take ((toks s).length * 3)=zBB s (toks s):=by
  rcases hown.2 with⟨-,h0⟩ | ⟨g,cap,cur,h1,h2,h3,-,-,-,h7⟩
  ·omega
  ·exact⟨g,cap,h1,by simpa using h2,cur,h3,h7⟩
 have hrd1:RdAt (w1.setCell ⟨w.heap.size,0,none⟩ (.slice (some ⟨bl,0,none⟩) (toks s).length cap)) w.heap.size bl (toks s).length cap 0 false:=by
  have:w1.heap[w.heap.size]?=some (.cells #[.slice none 0 0,.int .i64 0,.bool false] 165 (0,0)):=(hb1.block _ (by simp)).trans zBE
  exact zA4 this
 have hblk:w1.heap[w.heap.size]?=some (.cells #[.slice none 0 0,.int .i64 0,.bool false] 165 (0,0)):=(hb1.block _ (by simp)).trans zBE
 have m0:=zA0 (i:=0) hblk rfl
 have f0:=zA1 (i:=0) hblk
 have lR:=zA2 hblk
 have lb:=zA2 hcur
 have hst:St s (toks s) w.heap.size bl cap w1.heap.size (w1.setCell ⟨w.heap.size,0,none⟩ (.slice (some ⟨bl,0,none⟩) (toks s).length cap)) 0 false:=
  ⟨hrd1,⟨cur,zA6 hcur (by simp;omega),htake⟩,lR,lb,by omega,by simp,by omega⟩
 have HB1:Hid (Below w.heap.size w (w1.setCell ⟨w.heap.size,0,none⟩ (.slice (some ⟨bl,0,none⟩) (toks s).length cap))):=by
  refine(hb0.trans (hb1.mono (by simp))).setCell (Nat.le_refl _) _
 have HST:Hid (St s (toks s) w.heap.size bl cap w1.heap.size (w1.setCell ⟨w.heap.size,0,none⟩ (.slice (some ⟨bl,0,none⟩) (toks s).length cap)) 0 false):=hst
 have hcon:=(zQI (s:=s) (R:=w.heap.size) (bl:=bl) (cap:=cap) (base:=w1.heap.size) hE (zJI s) (toks s).length).2 _ 0 hpos (by omega) hst
 have HEND:Hid (Ends (toks s)):=hE
 clear hst hrd1 hblk hown hb1 hb0 hcur htake hE
 go_wp2_with fail
 refine hcon.mono ?_
 rintro e w2 ⟨o,pa,rfl,hD,hk,ha⟩
 have HD:Hid (D s (toks s) .choice 0 o):=hD
 have HB2:Hid (Below w.heap.size w w2):=HB1.out.trans (hk.below (by simp;omega) (Nat.le_refl _))
 have hlo:w.heap.size≤w1.heap.size:=by omega
 clear hD hk hcon m0 f0
 have hbad:∀ (w3:World) (J:Nat),St s (toks s) w.heap.size bl cap w1.heap.size w3 J true→J<(toks s).length→w3.cell? ⟨w.heap.size,2,none⟩=some (.bool true)∧w3.cell? ⟨w.heap.size,0,none⟩=some (.slice (some ⟨bl,0,none⟩) (toks s).length cap)∧w3.cell? ⟨w.heap.size,1,none⟩=some (.int .i64 J)∧w3.cell? ⟨bl,J * 3+1,none⟩=some (.int .i64 (pl (toks s) J)):=
  fun w3 J h hJ=>⟨zA0 h.rd rfl,zA0 h.rd rfl,zA0 h.rd rfl,h.c1 hJ⟩
 cases o with
 | bad J=>
  obtain⟨hs2,hJ⟩:=ha
  go_wp2_with fail
  refine(zEF hs2 hJ 101).mono ?_
  rintro e w3 ⟨rfl,hs3,hk3⟩
  obtain⟨c2,c0,c1,cp⟩:=hbad w3 J hs3 hJ
  have HB3:Hid (Below w.heap.size w w3):=HB2.out.trans (hk3.below HB2.out.size (Nat.le_refl _))
  have hJi:(J:Int)<((toks s).length:Int):=by omega
  clear hs2 hs3 hk3 hbad
  go_wp2_with fail
  go_quiet (fail)
  go_wp2
  go_ret3
  exact⟨none,2,pl (toks s) J,_,rfl,.inr ⟨by omega,.inl ⟨J,HD.out,rfl⟩⟩,⟨HB3.out.os,HB3.out.tape,HB3.out.output,HB3.out.size,HB3.out.block⟩,trivial⟩
 | ok ts J=>
  obtain⟨hs2,hJ,t,rfl,hn⟩:=ha
  by_cases hk:kd (toks s) J=101
  ·go_wp2_with fail
   refine(zAV hs2 hJ (k:=101) hk).mono ?_
   rintro e w3 ⟨rfl,hs3,hk3⟩
   have c2:w3.cell? ⟨w.heap.size,2,none⟩=some (.bool false):=zA0 hs3.rd rfl
   have HB3:Hid (Below w.heap.size w w3):=HB2.out.trans (hk3.below HB2.out.size (Nat.le_refl _))
   have HN3:Hid (zA9 (From w.heap.size) w3 t (.pointer pa)):=by simp at hn;exact hn.kept hk3 (by omega) (by omega)
   have HK:Hid (kd (toks s) J=101):=hk
   clear hs2 hs3 hk3 hbad hk hn
   go_wp2
   go_ret3
   exact⟨some t,0,0,_,rfl,.inr ⟨by omega,.inr (.inr ⟨t,J,HD.out,HK.out,rfl⟩)⟩,HB3.out,HN3.out⟩
  ·go_wp2_with fail
   refine(zD0 hs2 hJ (k:=101) hk).mono ?_
   rintro e w3 ⟨rfl,hs3,hk3⟩
   obtain⟨c2,c0,c1,cp⟩:=hbad w3 J hs3 hJ
   have HB3:Hid (Below w.heap.size w w3):=HB2.out.trans (hk3.below HB2.out.size (Nat.le_refl _))
   have hJi:(J:Int)<((toks s).length:Int):=by omega
   have HK:Hid (kd (toks s) J≠101):=hk
   clear hs2 hs3 hk3 hbad hk hn
   go_wp2_with fail
   go_quiet (fail)
   go_wp2
   go_ret3
   exact⟨none,2,pl (toks s) J,_,rfl,.inr ⟨by omega,.inr (.inl ⟨t,J,HD.out,HK.out,rfl⟩)⟩,⟨HB3.out.os,HB3.out.tape,HB3.out.output,HB3.out.size,HB3.out.block⟩,trivial⟩
theorem zN9 (s:ByteArray):∀ n i,i≤s.size→s.size - i≤n→∀ I,I+1<(zC8 s i).length →
  (zC8 s i).getD (I+1) default=zA8 s ((zC8 s i).getD I default).stop∧((zC8 s i).getD I default).pos<((zC8 s i).getD I default).stop∧((zC8 s i).getD I default).stop≤s.size:=by
 intro n
 induction n with
 | zero=>
  intro i hi hn I hI
  have hl:(zA8 s i).last=true:=by
   cases h:(zA8 s i).last with
   | true=>rfl
   | false=>have:=zBV hi h;omega
  rw[zB0 hl] at hI
  simp at hI
 | succ n ih=>
  intro i hi hn I hI
  cases h:(zA8 s i).last with
  | true=>
   rw[zB0 h] at hI
   simp at hI
  | false=>
   have h2:=zBV hi h
   have h3:=zHN (zJN hi).2 h
   rw[zBC hi h] at hI ⊢
   cases I with
   | zero=>
    have hh:(zC8 s (zA8 s i).stop).getD 0 default=zA8 s (zA8 s i).stop:=by
     cases h4:(zA8 s (zA8 s i).stop).last with
     | true=>rw[zB0 h4];rfl
     | false=>rw[zBC h2.2 h4];rfl
    refine⟨by simpa using hh,?_,by simpa using h2.2⟩
    show (zA8 s i).pos<(zA8 s i).stop
    unfold zA8
    omega
   | succ I=>
    have:=ih _ h2.2 (by omega) I (by simpa using hI)
    simpa using this
theorem zL1 (s:ByteArray){I:Nat}(h:I+1<(toks s).length):
  (toks s).getD (I+1) default=zA8 s ((toks s).getD I default).stop∧((toks s).getD I default).pos<((toks s).getD I default).stop∧((toks s).getD I default).stop≤s.size:=
 zN9 s s.size 0 (by omega) (by omega) I h
theorem pl_step (s:ByteArray){I:Nat}(h:I+1<(toks s).length):pl (toks s) I<pl (toks s) (I+1):=by
 obtain⟨h1,h2,h3⟩:=zL1 s h
 have h4:=zJN h3
 have h5:(zA8 s ((toks s).getD I default).stop).pos=skip s ((toks s).getD I default).stop:=by
  unfold zA8 zAX
  repeat' split
  all_goals first | rfl | (simp only;omega)
 unfold pl
 rw[h1,h5]
 omega
theorem pl_lt (s:ByteArray){I:Nat}:∀ {J},I<J→J<(toks s).length→pl (toks s) I<pl (toks s) J
 | J+1,h,hJ=>by
  have h1:=pl_step s hJ
  rcases Nat.lt_or_ge I J with h2 | h2
  ·exact Nat.lt_trans (pl_lt s h2 (by omega)) h1
  ·obtain rfl:I=J:=by omega
   exact h1
theorem tokAt_sign {s:ByteArray}{i:Nat}(h:zAB (zAX s i)=1):∃ c:UInt8,zD4 c=true∧(zAX s i).kind=c.toNat∧(zAX s i).text s=⟨#[c]⟩:=by
 revert h
 unfold zAX
 split
 ·intro h;cases h
 split
 ·rename_i h1 h2
  intro _
  refine⟨zBH s i,h2,rfl,?_⟩
  have h3:i<s.size:=by omega
  apply ByteArray.ext
  rw[←Array.toList_inj]
  show (s.extract i (i+1)).data.toList=[zBH s i]
  rw[zE2,List.drop_take,show i+1 - i=1 by omega,List.drop_eq_getElem_cons (by simpa using h3),zDI h3]
  simp
  rfl
 repeat' split
 all_goals (intro h;cases h)
theorem zN8 (s:ByteArray){I:Nat}(hI:I<(toks s).length)(h:zAB ((toks s).getD I default)=1):∃ c:UInt8,zD4 c=true∧kd (toks s) I=c.toNat∧tx s (toks s) I=⟨#[c]⟩:=by
 have:=zG6 s (fun t=>zAB t=1→∃ c:UInt8,zD4 c=true∧t.kind=c.toNat∧t.text s=⟨#[c]⟩) (fun i _ h=>tokAt_sign h) s.size 0 (by omega) (by omega) ((toks s).getD I default) (by
  rw[List.getD_eq_getElem?_getD,List.getElem?_eq_getElem hI]
  exact List.getElem_mem hI)
 exact this h
section
variable (s:ByteArray) (R:Nat)
def CBlk (w:World)(I:Nat)(txt:ByteArray)(mv:Value):Prop:=w.heap[R]?=some (.cells #[.string s,.int .i64 (zAB ((toks s).getD I default)),.string txt,.int .i64 (pl (toks s) I),mv] 223 (0,0))
structure CStM (w:World) (I:Nat) (ms:List ByteArray):Prop where
 blk:∃ txt mv,CBlk s R w I txt mv∧(kd (toks s) I≠33→txt=tx s (toks s) I)∧w.ownsRow (R+1) 9 1 mv ms.length (ms.map Value.string)
 len:ms.length≤I
 tab:∃ W0,Tabs W0∧W0.heap.size≤R∧Below W0.heap.size W0 w
 lt:I<(toks s).length
 small:s.size≤200
end
def mrow (w:World)(R:Nat):Option Nat:=
 match w.heap[R]? with
 | some (.cells cs _ _)=>
  match (cs[4]? : Option Value) with
  | some v=>v.ownBlock
  | none=>none
 | _=>none
structure KC (R:Nat) (w w':World):Prop where
 os:w'.os=w.os
 tape:w'.tape=w.tape
 output:w'.output=w.output
 size:w.heap.size≤w'.heap.size
 block:∀ k,k<w.heap.size→k≠R→mrow w R≠some k→w'.heap[k]?=w.heap[k]?
 row:mrow w' R=mrow w R∨∃ g,mrow w' R=some g∧w.heap.size≤g
namespace KC
variable {R:Nat} {w w1 w2:World}
theorem refl (R:Nat)(w:World):KC R w w:=⟨rfl,rfl,rfl,Nat.le_refl _,fun _ _ _ _=>rfl,.inl rfl⟩
theorem trans (h:KC R w w1)(k:KC R w1 w2):KC R w w2:=by
 refine⟨k.os.trans h.os,k.tape.trans h.tape,k.output.trans h.output,Nat.le_trans h.size k.size,fun i hi hne hrow=>?_,?_⟩
 ·refine(k.block i (Nat.lt_of_lt_of_le hi h.size) hne (fun e=>?_)).trans (h.block i hi hne hrow)
  rcases h.row with r | ⟨g,r,hg⟩
  ·exact hrow (r.symm.trans e)
  ·have:=Option.some.inj (r.symm.trans e)
   omega
 ·rcases k.row with r | ⟨g,r,hg⟩
  ·rcases h.row with r' | ⟨g',r',hg'⟩
   ·exact .inl (r.trans r')
   ·exact .inr ⟨g',r.trans r',hg'⟩
  ·exact .inr ⟨g,r,Nat.le_trans h.size hg⟩
theorem of_below (h:Below w.heap.size w w1)(lR:R<w.heap.size):KC R w w1:=
 ⟨h.os,h.tape,h.output,h.size,fun k hk _ _=>h.block k hk,.inl (by unfold mrow;rw[h.block R lR])⟩
theorem alloc (h:KC R w w1)(lR:R<w1.heap.size)(o:Obj):KC R w (w1.alloc o):=h.trans (of_below ((Below.refl _ _).alloc (Nat.le_refl _) o) lR)
theorem below (h:KC R w w1)(lR:R<w.heap.size)(hm:∀ g,mrow w R=some g→R<g):Below R w w1:=
 ⟨h.os,h.tape,h.output,h.size,fun k hk=>h.block k (by omega) (by omega) (fun e=>by have:=hm k e;omega)⟩
end KC
section
variable {s:ByteArray} {R:Nat}
theorem zG0 {w:World}{I:Nat}{txt:ByteArray}{mv:Value}(h:CBlk s R w I txt mv):mrow w R=mv.ownBlock:=by
 unfold mrow
 rw[h]
 rfl
theorem kc_set3 {w w1:World}{I:Nat}{txt:ByteArray}{mv:Value}(h:KC R w w1)(h1:CBlk s R w1 I txt mv)(a b c:Value):KC R w (((w1.setCell ⟨R,1,none⟩ a).setCell ⟨R,2,none⟩ b).setCell ⟨R,3,none⟩ c):=by
 refine h.trans ⟨rfl,rfl,rfl,by simp,fun k hk hne _=>?_,.inl ?_⟩
 ·rw[Below.heap_setCell _ _ _ _ hne,Below.heap_setCell _ _ _ _ hne,Below.heap_setCell _ _ _ _ hne]
 ·have e:=zA4 (i:=3) (v:=c) (zA4 (i:=2) (v:=b) (zA4 (i:=1) (v:=a) h1))
  rw[zG0 h1]
  unfold mrow
  rw[e]
  rfl
theorem CStM.tabs {w:World}{I:Nat}{ms:List ByteArray}(h:CStM s R w I ms):Tabs w:=by
 obtain⟨W0,h1,h2,h3⟩:=h.tab
 exact h1.below h3
theorem CStM.tab_of {w w':World}{I:Nat}{ms:List ByteArray}(h:CStM s R w I ms)(hb:Below R w w'):∃ W0,Tabs W0∧W0.heap.size≤R∧Below W0.heap.size W0 w':=by
 obtain⟨W0,h1,h2,h3⟩:=h.tab
 exact⟨W0,h1,h2,h3.trans (hb.mono h2)⟩
theorem CStM.tab_kc {w w':World}{I:Nat}{ms:List ByteArray}(h:CStM s R w I ms)(hk:KC R w w'):∃ W0,Tabs W0∧W0.heap.size≤R∧Below W0.heap.size W0 w':=by
 obtain⟨txt,mv,h1,h2,h3⟩:=h.blk
 exact h.tab_of (hk.below (zA2 h1) fun g hg=>by rw[zG0 h1] at hg;exact(h3.lt _ hg).1)
theorem CStM.later {w w':World}{I:Nat}{ms:List ByteArray}(h:CStM s R w I ms)(hb:Below w.heap.size w w'):CStM s R w' I ms:=by
 obtain⟨txt,mv,h1,h2,h3⟩:=h.blk
 have lR:=zA2 h1
 exact⟨⟨txt,mv,(hb.block R lR).trans h1,h2,h3.kept (row:=none) ⟨hb.os,hb.tape,hb.output,hb.size,fun k hk _=>hb.block k hk⟩ (Classical.em _)⟩,h.len,h.tab_of (hb.mono (by omega)),h.lt,h.small⟩
theorem below_set3 {w w1:World}(h:Below R w w1)(a b c:Value):Below R w (((w1.setCell ⟨R,1,none⟩ a).setCell ⟨R,2,none⟩ b).setCell ⟨R,3,none⟩ c):=
 ((h.setCell (p:=⟨R,1,none⟩) (Nat.le_refl _) a).setCell (p:=⟨R,2,none⟩) (Nat.le_refl _) b).setCell (p:=⟨R,3,none⟩) (Nat.le_refl _) c
theorem step_state {w w0 w1:World}{I ST:Nat}{txt t2:ByteArray}{mv:Value}{ms:List ByteArray}(h:CStM s R w I ms)(hO:w.ownsRow (R+1) 9 1 mv ms.length (ms.map Value.string))(hb:Below w0.heap.size w0 w1)(hw0:w0.heap=w.heap:=by rfl)(hz:Below w.heap.size w w0:=by exact(Below.drew (Below.refl _ _)))(h1:CBlk s R w1 I txt mv)(h2:(zA8 s ST).kind≠33→t2=(zA8 s ST).text s)
  (hch:(toks s).getD (I+1) default=zA8 s ST) (hI1:I+1<(toks s).length):
  CStM s R (((w1.setCell ⟨R,1,none⟩ (.int .i64 (zAB (zA8 s ST)))).setCell ⟨R,2,none⟩ (.string t2)).setCell ⟨R,3,none⟩ (.int .i64 (zA8 s ST).pos)) (I+1) ms:=by
 have e:=zA4 (i:=3) (v:=.int .i64 (zA8 s ST).pos) (zA4 (i:=2) (v:=.string t2) (zA4 (i:=1) (v:=.int .i64 (zAB (zA8 s ST))) h1))
 have hb1:Below w.heap.size w w1:=hz.trans (by rw[←hw0];exact hb)
 have lR:R<w.heap.size:=by obtain⟨a,b,c,-⟩:=h.blk;exact zA2 c
 refine⟨⟨t2,mv,?_,?_,?_⟩,Nat.le_succ_of_le h.len,?_,hI1,h.small⟩
 ·unfold CBlk pl
  rw[hch]
  exact e
 ·unfold kd tx
  rw[hch]
  exact h2
 ·have k1:=hO.kept (row:=none) ⟨hb1.os,hb1.tape,hb1.output,hb1.size,fun k hk _=>hb1.block k hk⟩ (Classical.em _)
  refine k1.kept (row:=some R) ⟨rfl,rfl,rfl,by simp,fun k hk hne=>?_⟩ (.inr fun e=>by have:=(k1.lt _ e).1;omega)
  have hne':k≠R:=fun e=>hne (by rw[e])
  rw[Below.heap_setCell _ _ _ _ hne',Below.heap_setCell _ _ _ _ hne',Below.heap_setCell _ _ _ _ hne']
 ·exact h.tab_of (below_set3 (hb1.mono (Nat.le_of_lt lR)) _ _ _)
set_option maxRecDepth 1000000 in
set_option maxHeartbeats 1000000 in
theorem zD8 {w:World}{I:Nat}{ms:List ByteArray}(h:CStM s R w I ms)(hl:((toks s).getD I default).last=false):
  Calls Tryz.prog 121 #[.pointer (some ⟨R,0,none⟩)] w fun e w'=>e=.returned (.tuple #[])∧CStM s R w' (I+1) ms∧KC R w w':=by
 obtain⟨txt,mv,h1,h2,h3⟩:=h.blk
 have hI1:I+1<(toks s).length:=(zJJ s).next h.lt (by intro e;simp[Tok.last,kd] at hl e;exact hl.1 e) (by intro e;simp[Tok.last,kd] at hl e;exact hl.2 e)
 obtain⟨hch,hps,hss⟩:=zL1 s hI1
 have htx:txt=tx s (toks s) I:=h2 (by intro e;simp[Tok.last,kd] at hl e;exact hl.2 e)
 have hsz:txt.size=((toks s).getD I default).stop - pl (toks s) I:=by rw[htx];unfold tx Tok.text pl;rw[ByteArray.size_extract];omega
 have hadd:((pl (toks s) I:Int)+(txt.size:Int))=(((toks s).getD I default).stop:Int):=by rw[hsz];unfold pl;omega
 have c0:=zA0 (i:=0) h1 rfl
 have c1:=zA0 (i:=1) h1 rfl
 have c2:=zA0 (i:=2) h1 rfl
 have c3:=zA0 (i:=3) h1 rfl
 have lR:=zA2 h1
 have hsm:=h.small
 have hplb:pl (toks s) I≤200:=by unfold pl;omega
 have htb:txt.size≤200:=by rw[hsz];omega
 have HT:Hid (Tabs w):=h.tabs
 have HS:Hid (CStM s R w I ms):=h
 have HCH:Hid ((toks s).getD (I+1) default=zA8 s ((toks s).getD I default).stop):=hch
 have HO:Hid (w.ownsRow (R+1) 9 1 mv ms.length (ms.map Value.string)):=h3
 have H1:Hid (CBlk s R w I txt mv):=h1
 have hI:=h.lt
 clear hsz htx h2 hl hch h h3 h1
 generalize ((toks s).getD I default).stop=ST at *
 have hwr:IntKind.i64.wrap (ST:Int)=(ST:Int):=by rw[IntKind.wrap_i64];omega
 go_enter Tryz.func121,Tryz.ntmps121
 go_wp2_with fail
 go_region_with
  (first | (go_at_call 95;refine(zGM s ST (by omega) hss _ ?_).mono ?_;exact HT.out.below (Below.refl _ _).drew;rintro e w1 ⟨t2,rfl,ht2,hb1⟩;have k0:=cell_below hb1 c0;have k1:=cell_below hb1 c1;have k2:=cell_below hb1 c2;have k3:=cell_below hb1 c3;have k4:w1.heap[R]?=_:=(hb1.block R lR).trans H1.out;have z1:=zA1 (i:=1) k4;have z2:=zA1 (i:=2) k4;have z3:=zA1 (i:=3) k4;have H4:Hid (CBlk s R w1 I txt mv):=k4;clear k4))
 all_goals
  go_end0
  refine⟨rfl,?_,?_⟩
  ·exact step_state HS.out HO.out hb1 (h1:=H4.out) (h2:=ht2) (hch:=HCH.out) (hI1:=hI1)
  ·exact kc_set3 (KC.of_below ((Below.drew (Below.refl w.heap.size w)).trans hb1) lR) H4.out _ _ _
end
end Go.Proofs.YtbokdbaagacnlaaGreatDoor
