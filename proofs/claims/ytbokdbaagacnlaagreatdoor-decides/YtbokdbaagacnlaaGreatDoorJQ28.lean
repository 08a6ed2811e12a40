import Derived.Test.YtbokdbaagacnlaaGreatDoorJQ27
import Derived.Test.YtbokdbaagacnlaaGreatDoorJQ23
namespace Go.Proofs.YtbokdbaagacnlaaGreatDoor
open Go.RowKit Go.Lib
section
variable {σ:Type} {A:Nat→Addr} {SF:Nat→σ→World→Prop} {X:Nat→Prop} {lv mv:Value} {w0:World}
structure PAX (S:σ→World→Prop) (X:Nat→Prop) (lv mv:Value) (ms:List (σ→Res × σ)) (s:σ) (w:World) (ba n:Nat) (wr:World) (i:Nat) (xs:List Int) (si:σ):Prop where
 keep:KeepX X w wr
 box:wr.heap[w.heap.size]?=some (.cells #[lv,mv] 240 (0,0))
 var:One wr ba (.slice (some ⟨w.heap.size+1,0,none⟩) n n) 22
 row:wr.heap[w.heap.size+1]?=some (.cells (ints xs ++ List.replicate (n - i) (Value.int .i64 0)).toArray 2 (0,0))
 len:xs.length=i
 i64:∀ x∈xs,In64 x
 st:S si wr
 eq:∀ k,zC3 ms k s=zC3 (ms.drop i) (fun ys=>k (xs ++ ys)) si
theorem PAX.lt {S:σ→World→Prop}{ms:List (σ→Res × σ)}{s si:σ}{w wr:World}{ba n i:Nat}{xs:List Int}(h:PAX S X lv mv ms s w ba n wr i xs si):w.heap.size<wr.heap.size∧w.heap.size+1<wr.heap.size∧ba<wr.heap.size:=⟨zA2 h.box,zA2 h.row,zA2 h.var⟩
theorem PAX.push {N:Nat}{S S2:σ→World→Prop}(hS:∀ s w w',S2 s w→Below N w w'→S2 s w'){ms:List (σ→Res × σ)}{s si s1:σ}{w wr w1:World}{ba n i:Nat}{xs:List Int}{x:Int}(h:PAX S X lv mv ms s w ba n wr i xs si)(hR:∀ k,X k→k<w.heap.size)(hN:N≤w.heap.size)(hba:w.heap.size+1<ba)(hi:i<n){m:σ→Res × σ}(hm:ms[i]?=some m)(he:m si=(.val x,s1))(hx:In64 x)(hk:KeepX X wr w1)(hs:S2 s1 w1):
  PAX S2 X lv mv ms s w ba n (w1.setCell ⟨w.heap.size+1,i,none⟩ (.int .i64 x)) (i+1) (xs ++ [x]) s1:=by
 obtain⟨l1,l2,l3⟩:=h.lt
 have hrow:w1.heap[w.heap.size+1]?=_:=(hk.block _ l2 (fun q=>by have:=hR _ q;omega)).trans h.row
 refine⟨(h.keep.trans hk).setNew (by show w.heap.size≤w.heap.size+1;omega) _,?_,?_,?_,by simp[h.len],?_,?_,?_⟩
 ·exact zA6 ((hk.block _ l1 (fun q=>by have:=hR _ q;omega)).trans h.box) (by show w.heap.size≠w.heap.size+1;omega)
 ·exact zA6 ((hk.block _ l3 (fun q=>by have:=hR _ q;omega)).trans h.var) (by show ba≠w.heap.size+1;omega)
 ·rw[zA4 hrow]
  congr 2
  apply Array.ext'
  have hl:(ints xs).length=i:=by simp[ints,h.len]
  rw[Array.toList_setIfInBounds]
  simp only[ints,List.map_append,List.map_cons,List.map_nil,List.append_assoc]
  rw[List.set_append_right _ _ (by simp[h.len])]
  congr 1
  rw[show n - i=(n - (i+1))+1 by omega,List.replicate_succ]
  simp[h.len]
 ·intro y hy
  rcases List.mem_append.1 hy with hy | hy
  ·exact h.i64 y hy
  ·simp at hy;subst hy;exact hx
 ·exact hS _ _ _ hs ⟨rfl,rfl,rfl,by simp,fun k lt=>Below.heap_setCell _ _ _ k (by show k≠w.heap.size+1;omega)⟩
 ·intro k
  rw[h.eq k]
  have:ms.drop i=m :: ms.drop (i+1):=by
   rw[List.drop_eq_getElem_cons (List.getElem?_eq_some_iff.1 hm).1]
   congr 1
   exact(List.getElem?_eq_some_iff.1 hm).2
  rw[this]
  show zBI m _ si=_
  rw[zFY he]
  simp
theorem PAX.held {S:σ→World→Prop}{ms:List (σ→Res × σ)}{s si s1:σ}{w wr:World}{ba n i:Nat}{xs:List Int}(h:PAX S X lv mv ms s w ba n wr i xs si){m:σ→Res × σ}(hm:ms[i]?=some m){p:Nat}{y:Why}(he:m si=(.held p y,s1))(k:List Int→σ→Res × σ):zC3 ms k s=(.held p y,s1):=by
 rw[h.eq k]
 have:ms.drop i=m :: ms.drop (i+1):=by
  rw[List.drop_eq_getElem_cons (List.getElem?_eq_some_iff.1 hm).1]
  congr 1
  exact(List.getElem?_eq_some_iff.1 hm).2
 rw[this]
 show zBI m _ si=_
 rw[zG9 he]
set_option maxRecDepth 1000000 in
set_option maxHeartbeats 2000000 in
theorem zP2 {N:Nat}(hS:Fuel N SF)(hR:∀ k,X k→k<w0.heap.size)(hN:N≤w0.heap.size){p b1 b2 b3 g:Nat}{name:ByteArray}{G:ByteArray→Option Value}{fv:Value}{probe:List Int→σ→PFound × σ}{pv:Value}{vs:List Value}{ms:List (σ→Res × σ)}{cs:List Nat}
  (hp:zIZ SF X N fv probe) (hm:MapF w0 g G) (hgR:¬ X g) (hG:G name=some fv) (h1:One w0 b1 pv 351) (h2:One w0 b2 (.int .i64 (p:Int)) 153) (h3:One w0 b3 (.string name) 9) (n1:¬ X b1) (n2:¬ X b2) (n3:¬ X b3)
  (ho:w0.ownsRow 0 143 1 pv vs.length vs) (hoR:∀ k,pv.ownBlock=some k→¬ X k) (hlen:ms.length=vs.length) (h900:vs.length≤900) (hlc:cs.length=vs.length) (hall:∀ (i:Nat) (v:Value) (m:σ→Res × σ) (c:Nat),vs[i]?=some v→ms[i]?=some m→cs[i]?=some c→zE4 A SF c X lv (.map (some g)) v m w0):
  zE4 A SF (cs.sum+1) X lv (.map (some g)) (.func (.func 213) #[] #[ptr b1,ptr b2,ptr b3]) (zC3 ms fun xs s=>zIF p (probe xs s)) w0:=by
 obtain⟨i1,hi1,hy0,hy1,hy2⟩:=info_parts Tryz.infoI64h
 refine⟨_,_,rfl,fun args w=>by rfl,fun kf s w hk hs=>?_⟩
 have hmf:∀ (fn:Fn) (first cap:Array Value) (w:World),(Instr.makeFunc fn first cap).run Tryz.prog w=.ok (.func fn first cap) w:=fun _ _ _ _=>rfl
 obtain⟨ao,cp,rfl⟩:=zAI ho
 have how:w.ownsRow 0 143 1 (.slice ao vs.length cp) vs.length vs:=zAG ho fun k q=>hk.block k (ho.lt _ q).2 (hoR k q)
 have HO:Hid (w.ownsRow 0 143 1 (.slice ao vs.length cp) vs.length vs):=how
 have HH:Hid _:=And.intro (hk.heap h2 n2) (And.intro (hk.heap h3 n3) (And.intro hk hall))
 have c1:w.cell? ⟨b1,0,none⟩=some (.slice ao vs.length cp):=zA0 (hk.heap h1 n1) rfl
 have l1:=zA2 (hk.heap h1 n1)
 have lw:w0.heap.size≤w.heap.size:=hk.size
 have LRX:Hid (∀ k,X k→k<w.heap.size):=fun k q=>by have:=hR k q;omega
 have HB1:Hid _:=hk.heap h1 n1
 have HMAP:Hid (MapF w g G):=hm.block (hk.block _ hm.lt hgR)
 have HP:Hid _:=And.intro hp hG
 have HS:Hid (Fuel N SF):=hS
 have HLC:Hid (cs.length=vs.length):=hlc
 have HLEN:Hid (ms.length=vs.length):=hlen
 have HS0:Hid (SF (kf+1+cs.sum) s w):=by rw[show kf+1+cs.sum=kf+(cs.sum+1) by omega];exact hs
 clear hs hS hk ho how h1 h2 h3 hall hp hm hG hlen hlc
 generalize hn:vs.length=n at *
 have HNV:Hid (vs.length=n):=hn
 clear hn
 go_enter Tryz.func213,Tryz.ntmps213
 go_wp2_with (first
   | (at_make;refine wpList_make_full _ rfl _ _ 22 rfl w.heap.size 2 i1 (.int .i64 0) 1 Tryz.underlying22 hi1 hy0 hy1 _ _ _ _ n rfl rfl rfl rfl (by rw[hy2];omega) (by unfold maxLen;omega) (by simp) ?_;intro w2 hown hgrow;have Q:Hid _:=And.intro hown hgrow;have d1:w2.cell? ⟨b1,0,none⟩=some (.slice ao n cp):=zA0 ((hgrow.block _ (by simp;omega) (by simp)).trans (zA3 HB1.out)) rfl;have l2:w.heap.size+1≤w2.heap.size:=(by have:=hgrow.size;simp at this;omega);have l3:b1<w2.heap.size:=(by omega);clear hown hgrow)
   | fail)
 have hg1:w.heap.size+1<w2.heap.size:=by have:=(Q.out.1.lt _ rfl).2;simpa using this
 have hbx:Below w.heap.size w w2:=⟨Q.out.2.os,Q.out.2.tape,Q.out.2.output,by omega,fun k lt=>(Q.out.2.block k (by simp;omega) (by simp)).trans (Below.heap_alloc _ _ k lt)⟩
 have hb3:Below w.heap.size w (w2.alloc (.cells #[.slice (some ⟨w.heap.size+1,0,none⟩) n n] 22)):=hbx.alloc hbx.size _
 have hPA:PAX (SF (kf+1+(cs.drop 0).sum)) X lv (.map (some g)) ms s w w2.heap.size n (w2.alloc (.cells #[.slice (some ⟨w.heap.size+1,0,none⟩) n n] 22)) 0 [] s:=by
  refine⟨.of_below hb3,zA3 ((Q.out.2.block _ (by simp) (by simp)).trans (heap_alloc_new _ _)),heap_alloc_new _ _,zA3 ?_,rfl,by simp,HS.out.stable _ _ _ _ HS0.out hb3,fun k=>by simp⟩
  rcases Q.out.1.2 with⟨q,-⟩ | ⟨g2,cap,cur,q1,-,q3,-,-,q6,q7⟩
  ·cases q
  ·injection q1 with q1 q1b q1c
   injection q1 with q1
   injection q1 with q1
   simp at q1
   subst q1 q1c
   rw[q3]
   congr 2
   apply Array.ext'
   rw[Nat.mul_one] at q6 q7
   rw[List.take_of_length_le (by simp;omega)] at q7
   rw[q7,show (Value.int .i64 0).cells=#[.int .i64 0] from rfl,toList_madeCells_one]
   simp[ints]
 have HPL:Hid _:=hPA
 clear hPA hbx hb3 Q
 go_loopw [17] (fun v17 wr=>∃ (i:Nat) (xs:List Int) (si:σ),v17=.int .i64 i∧i≤n∧Hid (PAX (SF (kf+1+(cs.drop i).sum)) X lv (.map (some g)) ms s w w2.heap.size n wr i xs si)) (fun v17 _=>n - (intOf v17).toNat)
 case atStart=>exact⟨0,[],s,rfl,Nat.zero_le _,HPL.out⟩
 case round=>
  obtain⟨i,xs,si,rfl,hi9,HI⟩:=hrel
  rcases Nat.lt_or_ge i n with hlt | hge
  ·obtain⟨vi,hvi⟩:∃ v,vs[i]?=some v:=⟨vs[i]'(by have:=HNV.out;omega),List.getElem?_eq_getElem _⟩
   obtain⟨m,hmi⟩:∃ m,ms[i]?=some m:=⟨ms[i]'(by have:=HLEN.out;omega),List.getElem?_eq_getElem _⟩
   obtain⟨c,hci⟩:∃ c,cs[i]?=some c:=⟨cs[i]'(by have:=HLC.out;have:=HNV.out;omega),List.getElem?_eq_getElem _⟩
   have hsum:(cs.drop i).sum=c+(cs.drop (i+1)).sum:=by
    rw[List.drop_eq_getElem_cons (List.getElem?_eq_some_iff.1 hci).1,List.sum_cons,(List.getElem?_eq_some_iff.1 hci).2]
   obtain⟨f,caps,rfl,hcf,hrun⟩:=HH.out.2.2.2 i vi m c hvi hmi hci
   have hst:SF (kf+1+(cs.drop (i+1)).sum+c) si wr:=by rw[show kf+1+(cs.drop (i+1)).sum+c=kf+1+(cs.drop i).sum by omega];exact HI.out.st
   have hrow:wr.ownsRow 0 143 1 (.slice ao n cp) n vs:=zAG HO.out fun k q=>HI.out.keep.block k (HO.out.lt _ q).2 (hoR k q)
   obtain⟨gp,rfl,cv⟩:=zHZ hrow hvi
   have hlt2:(i:Int)<n:=by omega
   have d0:wr.cell? ⟨w.heap.size,0,none⟩=some lv:=zA0 HI.out.box rfl
   have d1':wr.cell? ⟨w.heap.size,1,none⟩=some (.map (some g)):=zA0 HI.out.box rfl
   have hc:=hrun (kf+1+(cs.drop (i+1)).sum) si wr (HH.out.2.2.1.trans HI.out.keep) hst
   have hcf':=hcf #[.agg #[lv,.map (some g)]]
   have HMI:Hid _:=hmi
   clear hrow hrun hmi hvi hcf hci hsum hst
   go_wp2_with fail
   refine hc.mono ?_
   rintro e w7 ⟨hk7,he⟩
   have K7:Hid (KeepX X wr w7):=hk7
   have hba:w.heap.size+1<w2.heap.size:=hg1
   have V7:Hid (One w7 w2.heap.size (.slice (some ⟨w.heap.size+1,0,none⟩) n n) 22):=(hk7.block _ HI.out.lt.2.2 (fun q=>by have:=LRX.out _ q;omega)).trans HI.out.var
   have W7:Hid (w7.heap[w.heap.size+1]?=_):=(hk7.block _ HI.out.lt.2.1 (fun q=>by have:=LRX.out _ q;omega)).trans HI.out.row
   have dv:w7.cell? ⟨w2.heap.size,0,none⟩=some (.slice (some ⟨w.heap.size+1,0,none⟩) n n):=zA0 V7.out rfl
   have dr:w7.cell? ⟨w.heap.size+1,i,none⟩=some (.int .i64 0):=zA0 W7.out (by rw[List.getElem?_toArray,List.getElem?_append_right (by simp[ints,HI.out.len]),List.getElem?_replicate,if_pos (by simp[ints,HI.out.len];omega)])
   have dz:w7.frozen? ⟨w.heap.size+1,i,none⟩=false:=zA1 W7.out
   clear hc hk7
   generalize hM:m si=r at he
   have HM:Hid _:=hM
   clear hM
   obtain⟨r,s1⟩:=r
   cases r with
   | held q y=>
    obtain⟨b,T,z,rfl,he⟩:=he
    have H3:Hid _:=he
    clear he
    go_wp2
    go_ret2
    refine⟨HI.out.keep.trans K7.out,?_⟩
    rw[HI.out.held HMI.out HM.out]
    refine⟨b,T,z,rfl,H3.out.1,H3.out.2.1,HS.out.lessBy (1+(cs.drop (i+1)).sum) _ _ _ ?_⟩
    rw[←Nat.add_assoc]
    exact H3.out.2.2
   | val x=>
    obtain⟨rfl,he⟩:=he
    have H3:Hid _:=he
    clear he
    go_wp2
    go_roundw
    case rel=>exact⟨i+1,xs ++ [x],s1,by go_num,by omega,HI.out.push (HS.out.same _) LRX.out (by omega) hg1 hlt HMI.out HM.out H3.out.1 K7.out H3.out.2⟩
    case measure=>simp[intOf];omega
  ·have hge2:¬ (i:Int)<n:=by omega
   obtain rfl:i=n:=by omega
   have hl3:=HI.out.lt
   have hrow:wr.ownsRow N 2 1 (.slice (some ⟨w.heap.size+1,0,none⟩) xs.length i) xs.length (ints xs):=by
    refine⟨by simp[ints],.inr ⟨w.heap.size+1,i,(ints xs).toArray,rfl,by omega,?_,by rw[HI.out.len];exact Nat.le_refl _,by unfold maxLen;omega,by simp[ints,HI.out.len],by simp[ints,List.take_of_length_le]⟩⟩
    have:=HI.out.row
    rw[Nat.sub_self] at this
    simpa using this
   rw[HI.out.len] at hrow
   have hvar:One wr w2.heap.size (.slice (some ⟨w.heap.size+1,0,none⟩) i i) 22:=HI.out.var
   have q2:=HI.out.keep.heap HH.out.1 n2
   have q3:=HI.out.keep.heap HH.out.2.1 n3
   have hst:SF (kf+1) si wr:=by
    have:=HI.out.st
    rw[List.drop_eq_nil_of_le (by have:=HLC.out;have:=HNV.out;omega)] at this
    exact this
   have hmw:MapF wr g G:=HMAP.out.block (HI.out.keep.block _ HMAP.out.lt hgR)
   have hask:=zQS (X:=fun k=>X k∨(Value.slice (some ⟨w.heap.size+1,0,none⟩) i i).ownBlock=some k) (F:=214) (p:=p) (caps:=#[ptr w.heap.size,ptr b3,ptr w2.heap.size]) (w:=wr)
    (Q:=fun a w1=>AnsP (probe xs si).1 a∧SF kf (probe xs si).2 w1) (fun k q=>by
     rcases q with q | q
     ·have:=LRX.out _ q;have:=HI.out.keep.size;omega
     ·injection q with q
      have q:w.heap.size+1=k:=q
      omega) (fun _=>by rfl) (fun W hW=>zOM (lv:=lv) HP.out.1 (HS.out.stable _ _ _ _ hst hW) ((hW.block _ hl3.1).trans HI.out.box) (hmw.block (hW.block _ hmw.lt)) HP.out.2 ((hW.block _ (zA2 q3)).trans q3) ((hW.block _ hl3.2.2).trans hvar) HI.out.i64 (by rw[HI.out.len];omega) (by rw[HI.out.len];exact zAG hrow fun k q=>hW.block k (hrow.lt _ q).2))
   have c2:wr.cell? ⟨b2,0,none⟩=some (.int .i64 (p:Int)):=zA0 q2 rfl
   clear hrow hvar q2 q3 hmw hst
   go_wp2_with fail
   refine hask.mono ?_
   rintro e w' ⟨a,w1,⟨hq1,hq2⟩,hk1,hb2,ha⟩
   have K2:Hid (KeepX X w w'):=by
    have l1:=hk1.size
    have l2:=hb2.size
    have l4:=HI.out.keep.size
    exact⟨hb2.os.trans (hk1.os.trans HI.out.keep.os),hb2.tape.trans (hk1.tape.trans HI.out.keep.tape),hb2.output.trans (hk1.output.trans HI.out.keep.output),by omega,fun k lt ne=>(hb2.block k (by omega) (by omega) (by omega)).trans ((hk1.block k (by omega) (fun q=>by
     rcases q with q | q
     ·exact ne q
     ·injection q with q
      have q:w.heap.size+1=k:=q
      omega)).trans (HI.out.keep.block k lt ne))⟩
   have S2:Hid (SF kf (probe xs si).2 w'):=by
    have l2:=hb2.size
    exact HS.out.same _ _ _ _ hq2 ⟨hb2.os,hb2.tape,hb2.output,l2,fun k lt=>hb2.block k (by have:=HS.out.base _ _ _ hq2;omega) (by omega) (by omega)⟩
   have EQ:Hid (zC3 ms (fun xs s=>zIF p (probe xs s)) s=zIF p (probe xs si)):=by
    have:=HI.out.eq fun xs s=>zIF p (probe xs s)
    rw[List.drop_eq_nil_of_le (by have:=HLEN.out;omega)] at this
    simp[zC3] at this
    exact this
   generalize hM:probe xs si=r at hq1 S2 EQ
   clear hask hk1 hb2 hq2 hM
   obtain⟨r,s1⟩:=r
   cases r with
   | val x=>
    obtain⟨rfl,hx⟩:=hq1
    have ha:e=_:=ha
    subst ha
    have H3:Hid _:=hx
    clear hx
    go_wp2
    go_ret2
    refine⟨K2.out,?_⟩
    rw[EQ.out]
    exact⟨rfl,H3.out,S2.out⟩
   | fail=>
    obtain⟨m,x,rfl⟩:=hq1
    obtain⟨b,rfl,hh⟩:=ha
    have H3:Hid _:=hh
    clear hh
    go_wp2
    go_ret2
    refine⟨K2.out,?_⟩
    rw[EQ.out]
    exact⟨b,_,_,rfl,H3.out,⟨rfl,_,rfl⟩,S2.out⟩
   | pan x=>
    have hq1:a=.pan 2 (.int .i64 x):=hq1
    subst hq1
    obtain⟨b,c,rfl,hh,ho⟩:=ha
    have H3:Hid _:=And.intro hh ho
    clear hh ho
    go_wp2
    go_ret2
    refine⟨K2.out,?_⟩
    rw[EQ.out]
    exact⟨b,_,_,rfl,H3.out.1,⟨rfl,c,rfl,H3.out.2⟩,S2.out⟩
end
end Go.Proofs.YtbokdbaagacnlaaGreatDoor
namespace Go.Proofs.YtbokdbaagacnlaaGreatDoor
open Go.RowKit Go.Lib
mutual
def cost : Tree→Nat
 | .num _ _=>0
 | .neg _ a=>cost a
 | .bin _ _ a b=>cost a+cost b
 | .ite _ a b c=>cost a+(cost b+cost c)
 | .meas _ _ _ _=>1
 | .probe _ _ ts=>(zOE ts).sum+1
def zOE : List Tree→List Nat
 | []=>[]
 | t :: ts=>cost t :: zOE ts
end
theorem zIP : ∀ ts,(zOE ts).length=ts.length
 | []=>by simp[zOE]
 | _ :: ts=>by simp[zOE,zIP ts]
section
variable {σ:Type} {A:Nat→Addr} {SF:Nat→σ→World→Prop} {R N:Nat} {lv:Value} {w0:World} {g:Nat} {G:ByteArray→Option Value} {E:Env σ}
end
end Go.Proofs.YtbokdbaagacnlaaGreatDoor
namespace Go.Proofs.YtbokdbaagacnlaaGreatDoor
open Go.RowKit Go.Lib
section
variable {σ:Type} {A:Nat→Addr} {SF:Nat→σ→World→Prop} {X:Nat→Prop} {D:ByteArray→Int→Prop} {N:Nat} {lv:Value} {w0:World} {g:Nat} {G:ByteArray→Option Value} {E:Env σ}
structure EnvX (A:Nat→Addr) (SF:Nat→σ→World→Prop) (X:Nat→Prop) (D:ByteArray→Int→Prop) (N:Nat) (lv:Value) (E:Env σ) (w0:World) (g:Nat) (G:ByteArray→Option Value):Prop where
 stable:Fuel N SF
 sents:∀ k s w,SF k s w→Sents A w
 room:∀ k,X k→k<w0.heap.size
 base:N≤w0.heap.size
 map:MapF w0 g G
 mapR:¬ X g
 look:match E.look with
  | none=>lv=.nilFunc
  | some l=>LookX SF X D lv l
mutual
theorem zD2 (hE:EnvX A SF X D N lv E w0 g G):∀ (t:Tree) (v:Value),Fit t→zCK (fun b=>¬ X b) w0 t v→(∀ q∈zA5 t,D q.1 q.2)→(∀ q∈asks t,∃ fv,G q.2=some fv∧zIZ SF X N fv (E.probe q.2))→zE4 A SF (cost t) X lv (.map (some g)) v (ev E t) w0
 | .num p n,v,hf,hv,_,_=>by
  unfold zCK at hv
  unfold Fit at hf
  obtain⟨b,rfl,h2,h3⟩:=hv
  simp only[cost,ev]
  exact runsX_num hE.stable (by unfold In64;omega) h3 h2
 | .neg p a,v,hf,hv,hd,hq=>by
  unfold zCK at hv
  unfold Fit at hf
  obtain⟨b,va,rfl,h2,h3,h4⟩:=hv
  simp only[cost,ev]
  exact runsX_neg hE.stable (zD2 hE a va hf h4 (by simpa[zA5] using hd) (by simpa[asks] using hq)) h3 h2
 | .bin k p a c,v,hf,hv,hd,hq=>by
  unfold zCK at hv
  unfold Fit at hf
  obtain⟨b1,b2,b3,va,vc,rfl,⟨p1,p2,p3⟩,h2,h3,h4,h5,h6⟩:=hv
  have ra:=zD2 hE a va hf.2.2.1 h5 (fun q hm=>hd q (by simp[zA5,hm])) (fun q hm=>hq q (by simp[asks,hm]))
  have rc:=zD2 hE c vc hf.2.2.2 h6 (fun q hm=>hd q (by simp[zA5,hm])) (fun q hm=>hq q (by simp[asks,hm]))
  by_cases hk:k=47
  ·subst hk
   simp only[cost,ev,if_true] at h4 ⊢
   exact zKL hE.stable hE.sents hE.room ra rc h2 h3 h4 p1 p2 p3
  ·simp only[cost,ev,if_neg hk] at h4 ⊢
   exact runsX_pair hE.stable hE.room (zIJ (hf.1.resolve_right hk)) ra rc h2 h3 h4 p1 p2 p3
 | .ite p a c d,v,hf,hv,hd,hq=>by
  unfold zCK at hv
  unfold Fit at hf
  obtain⟨b1,b2,b3,va,vc,vd,rfl,⟨p1,p2,p3⟩,h2,h3,h4,h5,h6,h7⟩:=hv
  have ra:=zD2 hE a va hf.1 h5 (fun q hm=>hd q (by simp[zA5,hm])) (fun q hm=>hq q (by simp[asks,hm]))
  have rc:=zD2 hE c vc hf.2.1 h6 (fun q hm=>hd q (by simp[zA5,hm])) (fun q hm=>hq q (by simp[asks,hm]))
  have rd:=zD2 hE d vd hf.2.2 h7 (fun q hm=>hd q (by simp[zA5,hm])) (fun q hm=>hq q (by simp[asks,hm]))
  simp only[cost,ev]
  exact zNG hE.stable hE.room ra (rc.more hE.stable (by omega)) (rd.more hE.stable (by omega)) h2 h3 h4 p1 p2 p3
 | .meas p wd m n,v,hf,hv,hd,_=>by
  unfold zCK at hv
  unfold Fit at hf
  obtain⟨b1,b2,b3,b4,rfl,⟨p1,p2,p3,p4⟩,h2,h3,h4,h5⟩:=hv
  have hl:=hE.look
  cases hlk:E.look with
  | none=>
   rw[hlk] at hl
   subst hl
   simp only[cost,ev,hlk]
   exact(zHR hE.stable hE.sents h2 p1).more hE.stable (Nat.zero_le _)
  | some l=>
   rw[hlk] at hl
   simp only[cost,ev,hlk]
   exact zM1 hE.stable hE.sents hE.room hE.base hl (hd (m,n) (by simp[zA5])) (by unfold In64;omega) (by omega) (by omega) h2 h3 h4 h5 p1 p2 p3 p4
 | .probe p wd ts,v,hf,hv,hd,hq=>by
  unfold zCK at hv
  unfold Fit at hf
  obtain⟨b1,b2,b3,pv,vs,rfl,⟨p1,p2,p3⟩,h2,h3,h4,⟨h5,h6⟩,h7⟩:=hv
  obtain⟨fv,hG,hP⟩:=hq (p,wd) (by simp[asks])
  have hlen:=zBK.length h7
  simp only[cost,ev]
  refine zP2 hE.stable hE.room hE.base hP hE.map hE.mapR hG h2 h3 h4 p1 p2 p3 h5 h6 (by rw[zG1,hlen]) (by omega) (by rw[zIP,hlen]) ?_
  exact zJQ hE ts vs hf.2.2.2.2.2 h7 (fun q hm=>hd q (by simp[zA5,hm])) (fun q hm=>hq q (by simp[asks,hm]))
theorem zJQ (hE:EnvX A SF X D N lv E w0 g G):∀ (ts:List Tree) (vs:List Value),zB8 ts→zBK (fun b=>¬ X b) w0 ts vs→(∀ q∈zAY ts,D q.1 q.2)→(∀ q∈zAD ts,∃ fv,G q.2=some fv∧zIZ SF X N fv (E.probe q.2))→∀ (i:Nat) (v:Value) (m:σ→Res × σ) (c:Nat),vs[i]?=some v→(zDU E ts)[i]?=some m→(zOE ts)[i]?=some c→zE4 A SF c X lv (.map (some g)) v m w0
 | [],vs,_,hv,_,_=>by
  unfold zBK at hv
  subst hv
  intro i v m c h
  simp at h
 | t :: ts,vs,hf,hv,hd,hq=>by
  unfold zBK at hv
  unfold zB8 at hf
  obtain⟨v0,vs',rfl,h1,h2⟩:=hv
  have r0:=zD2 hE t v0 hf.1 h1 (fun q hm=>hd q (by simp[zAY,hm])) (fun q hm=>hq q (by simp[zAD,hm]))
  have rs:=zJQ hE ts vs' hf.2 h2 (fun q hm=>hd q (by simp[zAY,hm])) (fun q hm=>hq q (by simp[zAD,hm]))
  intro i v m c hi hm hc
  cases i with
  | zero=>
   simp[zDU] at hi hm
   simp[zOE] at hc
   subst hi hm hc
   exact r0
  | succ i=>exact rs i v m c (by simpa using hi) (by simpa[zDU] using hm) (by simpa[zOE] using hc)
end
end
set_option maxRecDepth 1000000 in
set_option maxHeartbeats 1000000 in
theorem codeX_Eval {σ:Type}{A:Nat→Addr}{SF:Nat→σ→World→Prop}{X:Nat→Prop}{D:ByteArray→Int→Prop}{N kf:Nat}{lv:Value}{E:Env σ}{lo b:Nat}{wl w:World}{u:Tree}{ms:List ByteArray}{sp:List (ByteArray × Int)}{F:ByteArray→Option Value}(h:ProgB lo wl b u ms (asks u) sp F)(hkl:∀ k,lo≤k→k<wl.heap.size→w.heap[k]?=wl.heap[k]?)(hf:Fit u)
  (hst:Fuel N SF) (hsn:∀ k s w,SF k s w→Sents A w) (hR:∀ k,X k→k<w.heap.size) (hX:∀ k,lo≤k→k<wl.heap.size→¬ X k) (hlook:match E.look with | none=>lv=.nilFunc | some l=>LookX SF X D lv l)
  (hsp:∀ q∈zA5 u,D q.1 q.2) (hpr:∀ q∈asks u,∃ fv,F q.2=some fv∧zIZ SF X N fv (E.probe q.2)) {s:σ} (hs:SF (kf+cost u) s w):
  Calls Tryz.prog 71 #[ptr b,lv] w fun e w'=>KeepX X w w'∧EvR A (SF kf) (ev E u s) w' e:=by
 obtain⟨lb,g,G,h1,⟨⟨vv,mv,sv,av,h2,-,hvn,-,-⟩,hlb⟩,hm,hg,hG⟩:=h.blk
 have nb:¬ X b:=hX b h.lo (zA2 h1)
 have nlb:¬ X lb:=hX lb hlb (zA2 h2)
 have h1:=(hkl b h.lo (zA2 h1)).trans h1
 have h2:=(hkl lb hlb (zA2 h2)).trans h2
 have ng:¬ X g:=hX g hg hm.lt
 have hm:=hm.block (hkl g hg hm.lt)
 have hE:EnvX A SF X D N lv E w g G:=⟨hst,hsn,hR,hst.base _ _ _ hs,hm,ng,hlook⟩
 obtain⟨f,caps,rfl,hcf,hrun⟩:=zD2 hE u vv hf (hvn.moves fun k hb=>⟨hX k hb.1 hb.2,hkl k hb.1 hb.2⟩) hsp (fun q hq=>by
  obtain⟨fv,a,c⟩:=hpr q hq
  exact⟨fv,by rw[hG q hq];exact a,c⟩)
 have hlv:zCL lv:=by
  cases hl:E.look with
  | none=>rw[hl] at hlook;exact .inl hlook
  | some l=>
   rw[hl] at hlook
   obtain⟨f2,x2,y2,e,-⟩:=hlook
   exact .inr ⟨_,_,_,e⟩
 have hc:=hrun kf s w.drew (KeepX.refl X w).drew (hst.stable _ _ _ _ hs (Below.refl _ _).drew)
 have hcf:=hcf #[.agg #[lv,.map (some g)]]
 have c0:w.cell? ⟨b,0,none⟩=some (ptr lb):=zA0 h1 rfl
 have c1:w.cell? ⟨b,1,none⟩=some (.map (some g)):=zA0 h1 rfl
 have cv:w.cell? ⟨lb,0,none⟩=some (.func (.func f) #[] caps):=zA0 h2 rfl
 have hem:Calls Tryz.prog 54 #[ptr b] w fun e w'=>e=.returned (.bool false)∧w'=w:=by
  clear h h1 h2 hc hcf hrun hE hpr hsp hlook hG hvn hm hs hsn hst c1 cv
  go_enter Tryz.func54,Tryz.ntmps54
  go_wp2
  go_ret
  exact⟨rfl,rfl⟩
 have HH:Hid _:=And.intro (And.intro h1 nb) (And.intro h2 nlb)
 clear h h1 h2 nb nlb hlb ng hkl hX hrun hE hpr hsp hlook hG hvn hm hs hsn hst
 rcases hlv with rfl | ⟨fl,xl,yl,rfl⟩
 all_goals
  go_enter Tryz.func71,Tryz.ntmps71
  go_wp2_with fail
  refine hem.mono ?_
  rintro e w' ⟨rfl,hw⟩
  have hw:=hw.symm
  subst hw
  go_wp2_with fail
  go_region_held3 (fun w'=>w'.cell? ⟨b,0,none⟩=some (ptr lb)∧w'.cell? ⟨b,1,none⟩=some (.map (some g))∧w'.cell? ⟨lb,0,none⟩=some (.func (.func f) #[] caps)) (go_keep)
   (first
    | (refine hc.mono ?_;rintro e w1 ⟨hk,he⟩;obtain⟨n1,v1,rfl⟩:=he.form;have HK:Hid _:=hk;have HE:Hid _:=he;have k0:w1.cell? ⟨b,0,none⟩=some (ptr lb):=zA0 (hk.heap (w:=w.drew) HH.out.1.1 HH.out.1.2) rfl;have k1:w1.cell? ⟨b,1,none⟩=some (.map (some g)):=zA0 (hk.heap (w:=w.drew) HH.out.1.1 HH.out.1.2) rfl;have k2:w1.cell? ⟨lb,0,none⟩=some (.func (.func f) #[] caps):=zA0 (hk.heap (w:=w.drew) HH.out.2.1 HH.out.2.2) rfl;clear hk he))
  all_goals
   go_wp2
   go_ret2
   exact⟨(KeepX.refl X _).drew.trans HK.out,HE.out⟩
section
variable {w w':World} {m:Nat} {sp:List (ByteArray × Int)} {I:ByteArray→Nat} {st:ByteArray→Int→WSt}
theorem Win.mine_cells {w:World}{R:Nat}{wid tm:Int}{k:List (Int × Int)}{mv:Value}(h:Win.WinI w R wid tm k mv){b:Nat}(hb:b=R∨mv.ownBlock=some b):∃ cs T,w.heap[b]?=some (.cells cs T (0,0))∧(T=247∧b=R∨T=313∧mv.ownBlock=some b):=by
 rcases hb with rfl | hb
 ·exact⟨_,_,h.blk,.inl ⟨rfl,rfl⟩⟩
 ·rcases h.own.2 with⟨h1,-⟩ | ⟨g,cap,cur,h1,-,h3,-⟩
  ·rw[h1] at hb
   cases hb
  ·rw[h1] at hb
   injection hb with hb
   have hb:g=b:=hb
   subst hb
   exact⟨_,_,h3,.inr ⟨rfl,by rw[h1];rfl⟩⟩
theorem MapG.isMap {κ:Type}{kv:κ→Value}{w:World}{m:Nat}{F:κ→Option Value}(h:MapG kv w m F):∃ es clock,w.heap[m]?=some (.map es clock):=by
 obtain⟨es,clock,h1,-⟩:=h
 exact⟨es,clock,h1⟩
theorem Wins.map_not (h:Wins w m sp I st){q:ByteArray × Int}(hq:q∈sp){b:Nat}{es:Array MapEntry}{clock:Nat}(hb:w.heap[b]?=some (.map es clock)):¬ Mine (st q.1 q.2) b:=fun hm=>by
 obtain⟨cs,T,e,-⟩:=Win.mine_cells (h.win q hq) hm
 rw[hb] at e
 cases e
theorem Wins.not_both (h:Wins w m sp I st){q r:ByteArray × Int}(hq:q∈sp)(hr:r∈sp)(hne:q≠r){b:Nat}(h1:Mine (st q.1 q.2) b):¬ Mine (st r.1 r.2) b:=fun h2=>by
 obtain⟨cs,T,e,h3⟩:=Win.mine_cells (h.win q hq) h1
 obtain⟨cs',T',e',h4⟩:=Win.mine_cells (h.win r hr) h2
 rw[e] at e'
 injection e' with e'
 injection e' with _ e'
 subst e'
 have ha:=h.apart q hq r hr hne
 rcases h3 with⟨t1,b1⟩ | ⟨t1,b1⟩ <;> rcases h4 with⟨t2,b2⟩ | ⟨t2,b2⟩
 ·exact ha.1 (b1.symm.trans b2)
 ·rw[t1] at t2
  exact absurd t2 (by decide)
 ·rw[t1] at t2
  exact absurd t2 (by decide)
 ·exact ha.2 b b1 b2
theorem zFU {R:Nat}{wid tm:Int}{k:List (Int × Int)}{mv:Value}(h:Win.WinI w R wid tm k mv)(hb:∀ b,(b=R∨mv.ownBlock=some b)→w'.heap[b]?=w.heap[b]?):Win.WinI w' R wid tm k mv:=
 ⟨(hb R (.inl rfl)).trans h.blk,zAG h.own fun g hg=>hb g (.inr hg),h.wid64,h.tm64,h.times,h.len⟩
theorem Wins.moves (h:Wins w m sp I st)(hb:∀ b,(b=m∨∃ q∈sp,b=I q.1∨Mine (st q.1 q.2) b)→w'.heap[b]?=w.heap[b]?):Wins w' m sp I st:=by
 obtain⟨F,hF,hF2⟩:=h.outer
 refine⟨⟨F,hF.block (hb m (.inl rfl)),hF2⟩,fun q hq=>?_,fun q hq=>zFU (h.win q hq) fun b hm=>hb b (.inr ⟨q,hq,.inr hm⟩),h.good,h.apart⟩
 obtain⟨G,hG,hG2⟩:=h.inner q hq
 exact⟨G,hG.block (hb _ (.inr ⟨q,hq,.inl rfl⟩)),hG2⟩
def upd (st:ByteArray→Int→WSt)(q:ByteArray × Int)(S:WSt):ByteArray→Int→WSt:=fun s n=>if s=q.1∧n=q.2 then S else st s n
theorem zCF (q:ByteArray × Int)(S:WSt):upd st q S q.1 q.2=S:=by simp[upd]
theorem zB9 {q r:ByteArray × Int}(S:WSt)(h:r≠q):upd st q S r.1 r.2=st r.1 r.2:=by
 unfold upd
 rw[if_neg (fun e=>h (Prod.ext e.1 e.2))]
theorem Wins.turn (h:Wins w m sp I st){q:ByteArray × Int}(hq:q∈sp)(hk:KeepX (Mine (st q.1 q.2)) w w'){t:Int}{l:List (Int × Int)}{mv:Value}(hw:Win.WinI w' (st q.1 q.2).blk q.2 t l mv)(ho:mv.ownBlock=(st q.1 q.2).row.ownBlock∨∃ g,mv.ownBlock=some g∧w.heap.size≤g)(hg:l.length≤16∧Win.Up l∧Win.AllLe t l):
  Wins w' m sp I (upd st q ⟨(st q.1 q.2).blk,mv,t,l⟩):=by
 obtain⟨F,hF,hF2⟩:=h.outer
 obtain⟨es,cl,hes⟩:=hF.isMap
 have blkq:∀ r:ByteArray × Int,(upd st q ⟨(st q.1 q.2).blk,mv,t,l⟩ r.1 r.2).blk=(st r.1 r.2).blk:=fun r=>by
  by_cases e:r=q
  ·subst e;rw[zCF]
  ·rw[zB9 _ e]
 have other:∀ r∈sp,r≠q→∀ b,Mine (st r.1 r.2) b→w'.heap[b]?=w.heap[b]?:=fun r hr hne b hb=>by
  obtain⟨cs,T,e,-⟩:=Win.mine_cells (h.win r hr) hb
  exact hk.block b (zA2 e) (h.not_both hr hq hne hb)
 refine⟨⟨F,hF.block (hk.block m (zA2 hes) (h.map_not hq hes)),hF2⟩,fun r hr=>?_,fun r hr=>?_,fun r hr=>?_,fun r hr x hx hne=>?_⟩
 ·obtain⟨G,hG,hG2⟩:=h.inner r hr
  obtain⟨es2,cl2,hes2⟩:=hG.isMap
  refine⟨G,hG.block (hk.block _ (zA2 hes2) (h.map_not hq hes2)),fun n=>?_⟩
  have:=blkq (r.1,n)
  simp only at this
  rw[this]
  exact hG2 n
 ·by_cases e:r=q
  ·subst e
   rw[zCF]
   exact hw
  ·rw[zB9 _ e]
   exact zFU (h.win r hr) (other r hr e)
 ·by_cases e:r=q
  ·subst e
   rw[zCF]
   exact hg
  ·rw[zB9 _ e]
   exact h.good r hr
 ·rw[blkq,blkq]
  have ha:=h.apart r hr x hx hne
  refine⟨ha.1,fun g h1 h2=>?_⟩
  have lt:∀ y∈sp,∀ g,(st y.1 y.2).row.ownBlock=some g→g<w.heap.size:=fun y hy g hg=>by
   obtain⟨cs,T,e,-⟩:=Win.mine_cells (h.win y hy) (.inr hg)
   exact zA2 e
  by_cases er:r=q
  ·subst er
   rw[zCF] at h1
   rw[zB9 _ (Ne.symm hne)] at h2
   rcases ho with ho | ⟨g2,ho,hlt⟩
   ·exact ha.2 g (ho.symm.trans h1) h2
   ·have:=lt x hx g h2
    simp only at h1
    rw[ho] at h1
    injection h1 with h1
    omega
  ·rw[zB9 _ er] at h1
   by_cases ex:x=q
   ·subst ex
    rw[zCF] at h2
    rcases ho with ho | ⟨g2,ho,hlt⟩
    ·exact ha.2 g h1 (ho.symm.trans h2)
    ·have:=lt r hr g h1
     simp only at h2
     rw[ho] at h2
     injection h2 with h2
     omega
   ·rw[zB9 _ ex] at h2
    exact ha.2 g h1 h2
end
end Go.Proofs.YtbokdbaagacnlaaGreatDoor
