import Derived.Test.YtbokdbaagacnlaaGreatDoorJQ36
namespace Go.Proofs.YtbokdbaagacnlaaGreatDoor
open Go.RowKit Go.Lib
def zCM (kd p:Nat)(word:ByteArray)(xs:List Int)(tr:ByteArray):Res × ByteArray:=
 if kd=112 then(zDS p (zB3 word xs),zEC tr word)
 else match xs with
  | [x]=>(.val (clip (-x)),tr)
  | [x,y]=>if kd=47 then(if y=0 then .held p .divide else .val (quot x y),tr) else(.val (reck kd x y),tr)
  | _=>(.val 0,tr)
structure RA (w1:World) (R:Nat) (cv:Value) (seed T:Int) (K:Nat) (ms:List (ByteArray→Res × ByteArray)) (tr:ByteArray) (w:World) (ga n:Nat) (wr:World) (i:Nat) (xs:List Int) (ti:ByteArray):Prop where
 keep:Keep R w wr
 row:wr.heap[ga]?=some (.cells (ints xs ++ List.replicate (n - i) (Value.int .i64 0)).toArray 2 (0,0))
 res:wr.heap[w.heap.size]?=some (.cells #[.int .i64 0,.int .i64 0,.int .i64 0,.int .i64 0] 43 (0,0))
 len:xs.length=i
 i64:∀ x∈xs,In64 x
 st:SR w1 R cv seed T K ti wr
 eq:∀ k,zC3 ms k tr=zC3 (ms.drop i) (fun ys=>k (xs ++ ys)) ti
section
variable {w1:World} {R:Nat} {cv:Value} {seed T:Int} {K:Nat} {ms:List (ByteArray→Res × ByteArray)} {tr:ByteArray} {w:World} {ga n:Nat} {wr:World} {i:Nat} {xs:List Int} {ti:ByteArray}
theorem RA.push {K2:Nat}{w2:World}{t2:ByteArray}{x:Int}(h:RA w1 R cv seed T K ms tr w ga n wr i xs ti)(hga:w.heap.size<ga)(hw1:w1.heap.size≤w.heap.size)(hR:R<w.heap.size)(hi:i<n){m:ByteArray→Res × ByteArray}(hm:ms[i]?=some m)(he:m ti=(.val x,t2))(hx:In64 x)(hk:Keep R wr w2)(hs:SR w1 R cv seed T K2 t2 w2):
  RA w1 R cv seed T K2 ms tr w ga n (w2.setCell ⟨ga,i,none⟩ (.int .i64 x)) (i+1) (xs ++ [x]) t2:=by
 have hrow:w2.heap[ga]?=_:=(hk.block _ (zA2 h.row) (by omega)).trans h.row
 refine⟨(h.keep.trans hk).setNew (Nat.le_of_lt hga) _,?_,zA6 ((hk.block _ (zA2 h.res) (by omega)).trans h.res) (by show w.heap.size≠ga;omega),by simp[h.len],?_,?_,?_⟩
 ·rw[zA4 hrow]
  congr 2
  apply Array.ext'
  have hl:(ints xs).length=i:=by simp[ints,h.len]
  rw[Array.toList_setIfInBounds]
  simp only[ints,List.map_append,List.map_cons,List.map_nil,List.append_assoc]
  rw[List.set_append_right _ _ (by simp[h.len])]
  congr 1
  rw[show n - i=(n - (i+1))+1 by omega,List.replicate_succ]
  simp[h.len]
 ·intro y hy
  rcases List.mem_append.1 hy with hy | hy
  ·exact h.i64 y hy
  ·simp at hy;subst hy;exact hx
 ·exact⟨hs.1.setNew (by show w1.heap.size≤ga;omega) _,zA6 hs.2.1 (by show R≠ga;omega),hs.2.2⟩
 ·intro k
  rw[h.eq k]
  have:ms.drop i=m :: ms.drop (i+1):=by
   rw[List.drop_eq_getElem_cons (List.getElem?_eq_some_iff.1 hm).1]
   congr 1
   exact(List.getElem?_eq_some_iff.1 hm).2
  rw[this]
  show zBI m _ ti=_
  rw[zFY he]
  simp
theorem Row.cell {w:World}{g n c:Nat}{xs:List Int}(h:Row w (.slice (some ⟨g,0,none⟩) n c) xs){j:Nat}{u:Int}(hj:xs[j]?=some u):w.cell? ⟨g,j,none⟩=some (.int .i64 u):=by
 obtain⟨g8,cp8,e8,hat8⟩:=h
 injection e8 with e8
 injection e8 with e8
 injection e8 with e8
 subst e8
 exact hat8 j u hj
theorem RA.reads (h:RA w1 R cv seed T K ms tr w ga n wr n xs ti):Row wr (.slice (some ⟨ga,0,none⟩) n n) xs:=by
 have hr:=h.row
 rw[Nat.sub_self,List.replicate_zero,List.append_nil] at hr
 exact⟨ga,n,by rw[h.len],fun j u hj=>zA0 hr (by simp[ints,hj])⟩
theorem RA.alloc (h:RA w1 R cv seed T K ms tr w ga n wr i xs ti)(o:Obj):RA w1 R cv seed T K ms tr w ga n (wr.alloc o) i xs ti:=
 ⟨h.keep.alloc o,zA3 h.row,zA3 h.res,h.len,h.i64,h.st.below ((Below.refl _ _).alloc (Nat.le_refl _) _),h.eq⟩
theorem RA.held {t2:ByteArray}(h:RA w1 R cv seed T K ms tr w ga n wr i xs ti){m:ByteArray→Res × ByteArray}(hm:ms[i]?=some m){p:Nat}{y:Why}(he:m ti=(.held p y,t2))(k:List Int→ByteArray→Res × ByteArray):zC3 ms k tr=(.held p y,t2):=by
 rw[h.eq k]
 have:ms.drop i=m :: ms.drop (i+1):=by
  rw[List.drop_eq_getElem_cons (List.getElem?_eq_some_iff.1 hm).1]
  congr 1
  exact(List.getElem?_eq_some_iff.1 hm).2
 rw[this]
 show zBI m _ ti=_
 rw[zG9 he]
theorem zFO.at {P:Nat→Prop}{w:World}{pv:Value}{vs:List Value}(h:zFO P w pv vs):∃ ao cp,pv=.slice ao vs.length cp∧∀ (i:Nat) (v:Value),vs[i]?=some v→∃ q cur,ao=some ⟨q,0,none⟩∧P q∧w.heap[q]?=some (.cells cur 31 (0,0))∧cur[i]?=some v:=by
 rcases h with⟨rfl,rfl⟩ | ⟨q,cap,cur,rfl,h1,h2,-,-,-,h6⟩
 ·exact⟨none,0,rfl,fun i v hv=>by simp at hv⟩
 ·refine⟨_,cap,rfl,fun i v hv=>⟨q,cur,rfl,h1,h2,?_⟩⟩
  have hlt:=(List.getElem?_eq_some_iff.1 hv).1
  rw[←h6,List.getElem?_take,if_pos hlt] at hv
  simpa using hv
theorem RA.rows {N:Nat}(h:RA w1 R cv seed T K ms tr w ga n wr n xs ti)(hn:n≤900)(hga:N≤ga):wr.ownsRow N 2 1 (.slice (some ⟨ga,0,none⟩) n n) xs.length (ints xs):=by
 have:=h.len
 refine⟨by simp[ints],.inr ⟨ga,n,(ints xs).toArray,by rw[h.len],hga,?_,by omega,by unfold maxLen;omega,by simp[ints,h.len],by simp[ints,List.take_of_length_le]⟩⟩
 have:=h.row
 rw[Nat.sub_self] at this
 simpa using this
end
theorem Tryz.infoI64u : (Tryz.prog.info? 2).map (fun i=>(i.zero,i.size,i.bytes))=some (some (.int .i64 0),1,8):=by kernel_rfl
set_option maxRecDepth 1000000 in
set_option maxHeartbeats 4000000 in
theorem zGR {w1 w0:World}{R:Nat}{cv:Value}{seed T:Int}{kd p:Nat}{nn:Int}{word met:ByteArray}{v:Value}{vs:List Value}{ms:List (ByteArray→Res × ByteArray)}{cs:List Nat}(hR:R<w0.heap.size)(h:zCO (fun b=>b≠R) w0 v kd p nn word met vs)(hwd:word.size<256)
  (hkd:kd=112∨(kd=126∧vs.length=1)∨(vs.length=2∧(kd=47∨kd=43∨kd=45∨kd=42∨kd=60∨kd=62∨kd=61))) (hlen:ms.length=vs.length) (hlc:cs.length=vs.length) (h900:vs.length≤900)
  (hall:∀ (i:Nat) (v:Value) (m:ByteArray→Res × ByteArray) (c:Nat),vs[i]?=some v→ms[i]?=some m→cs[i]?=some c→zFB w1 R cv seed T c v m w0):
  zFB w1 R cv seed T (cs.sum+1) v (zC3 ms (zCM kd p word)) w0:=by
 obtain⟨i1,hi1,hy0,hy1,hy2⟩:=info_parts Tryz.infoI64u
 obtain⟨b,pv,rfl,hb,hblk,hparts⟩:=h
 obtain⟨ao,cp,rfl,hat⟩:=hparts.at
 intro kf tr w hk hs
 have hblk:=hk.heap hblk hb
 have c0:w.cell? ⟨b,0,none⟩=some (.int .u8 kd):=zA0 hblk rfl
 have c5:w.cell? ⟨b,5,none⟩=some (.slice ao vs.length cp):=zA0 hblk rfl
 have lb:=zA2 hblk
 have e35:((kd:Int) == 35)=false:=by simp;omega
 have e109:((kd:Int) == 109)=false:=by simp;omega
 have e63:((kd:Int) == 63)=false:=by simp;omega
 have HS:Hid (SR w1 R cv seed T (kf+1+cs.sum) tr w):=by rw[show kf+1+cs.sum=kf+(cs.sum+1) by omega];exact hs
 have HB:Hid _:=hblk
 have HH:Hid _:=And.intro hall (And.intro hat hk)
 have HLEN:Hid (ms.length=vs.length∧cs.length=vs.length):=⟨hlen,hlc⟩
 have HK:Hid _:=hkd
 have lw:w0.heap.size≤w.heap.size:=hk.size
 clear hs hblk hparts hat hall hk hlen hlc hkd
 generalize hn:vs.length=n at *
 have HNV:Hid (vs.length=n):=hn
 clear hn
 go_enter Tryz.func25,Tryz.ntmps25
 go_wp2_with (first
   | (at_make;refine wpList_make_full _ rfl _ _ 22 rfl w.heap.size 2 i1 (.int .i64 0) 1 Tryz.underlying22 hi1 hy0 hy1 _ _ _ _ n rfl rfl rfl rfl (by rw[hy2];omega) (by unfold maxLen;omega) (by simp) ?_;intro w2 hown hgrow;have Q:Hid _:=And.intro hown hgrow;have l2:w.heap.size+1≤w2.heap.size:=(by have:=hgrow.size;simp at this;omega);have d5:w2.cell? ⟨b,5,none⟩=some (.slice ao n cp):=zA0 ((hgrow.block _ (by simp;omega) (by simp)).trans (zA3 HB.out)) rfl;clear hown hgrow)
   | fail)
 have hga:w.heap.size+1<w2.heap.size:=by have:=(Q.out.1.lt _ rfl).2;simpa using this
 have hRw:R<w.heap.size:=by omega
 have hw1:w1.heap.size≤w.heap.size:=HS.out.1.size
 have hbx:Below w.heap.size w w2:=⟨Q.out.2.os,Q.out.2.tape,Q.out.2.output,by omega,fun k lt=>(Q.out.2.block k (by simp;omega) (by simp)).trans (Below.heap_alloc _ _ k lt)⟩
 have hRA:RA w1 R cv seed T (kf+1+(cs.drop 0).sum) ms tr w (w.heap.size+1) n w2 0 [] tr:=by
  refine⟨.of_below hbx,?_,(Q.out.2.block _ (by simp) (by simp)).trans (heap_alloc_new _ _),rfl,by simp,HS.out.below hbx,fun k=>by simp⟩
  rcases Q.out.1.2 with⟨q,-⟩ | ⟨g2,cap,cur,q1,-,q3,-,-,q6,q7⟩
  ·cases q
  ·injection q1 with q1 q1b q1c
   injection q1 with q1
   injection q1 with q1
   simp at q1
   subst q1 q1c
   rw[q3]
   congr 2
   apply Array.ext'
   rw[Nat.mul_one] at q6 q7
   rw[List.take_of_length_le (by simp;omega)] at q7
   rw[q7,show (Value.int .i64 0).cells=#[.int .i64 0] from rfl,toList_madeCells_one]
   simp[ints]
 have HRA:Hid _:=hRA
 have K01:Hid (Keep R w1 w):=HS.out.1
 clear hRA hbx Q d5 HS
 go_loopw [8] (fun v8 wr=>∃ (i:Nat) (xs:List Int) (ti:ByteArray),v8=.int .i64 i∧i≤n∧Hid (RA w1 R cv seed T (kf+1+(cs.drop i).sum) ms tr w (w.heap.size+1) n wr i xs ti)) (fun v8 _=>n - (intOf v8).toNat)
 case atStart=>exact⟨0,[],tr,rfl,Nat.zero_le _,HRA.out⟩
 case round=>
  obtain⟨i,xs,ti,rfl,hi9,HI⟩:=hrel
  have d5:wr.cell? ⟨b,5,none⟩=some (.slice ao n cp):=zA0 (HI.out.keep.heap HB.out hb) rfl
  have d0:wr.cell? ⟨b,0,none⟩=some (.int .u8 kd):=zA0 (HI.out.keep.heap HB.out hb) rfl
  have lr:w.heap.size+1<wr.heap.size:=zA2 HI.out.row
  rcases Nat.lt_or_ge i n with hlt | hge
  ·obtain⟨vi,hvi⟩:∃ v,vs[i]?=some v:=⟨vs[i]'(by have:=HNV.out;omega),List.getElem?_eq_getElem _⟩
   obtain⟨m,hmi⟩:∃ m,ms[i]?=some m:=⟨ms[i]'(by have:=HLEN.out.1;omega),List.getElem?_eq_getElem _⟩
   obtain⟨c,hci⟩:∃ c,cs[i]?=some c:=⟨cs[i]'(by have:=HLEN.out.2;omega),List.getElem?_eq_getElem _⟩
   have hsum:(cs.drop i).sum=c+(cs.drop (i+1)).sum:=by
    rw[List.drop_eq_getElem_cons (List.getElem?_eq_some_iff.1 hci).1,List.sum_cons,(List.getElem?_eq_some_iff.1 hci).2]
   have hst:SR w1 R cv seed T (kf+1+(cs.drop (i+1)).sum+c) ti wr:=by rw[show kf+1+(cs.drop (i+1)).sum+c=kf+1+(cs.drop i).sum by omega];exact HI.out.st
   have hc:=HH.out.1 i vi m c hvi hmi hci (kf+1+(cs.drop (i+1)).sum) ti wr (HH.out.2.2.trans HI.out.keep) hst
   obtain⟨q,cur,rfl,hqR,hq1,hq2⟩:=HH.out.2.1 i vi hvi
   have dq:wr.cell? ⟨q,i,none⟩=some vi:=zA0 ((HH.out.2.2.trans HI.out.keep).heap hq1 hqR) hq2
   have hlt2:(i:Int)<n:=by omega
   have HMI:Hid _:=hmi
   clear hvi hmi hci hsum hst hq1 hq2
   generalize hM:m ti=r1 at hc
   obtain⟨r,t2⟩:=r1
   have HM:Hid (m ti=(r,t2)):=hM
   clear hM
   unfold valV at hc
   simp only at hc
   cases r with
   | held q9 y=>
    have hE:(resE (.held q9 y) != 0)=true:=by cases y <;> rfl
    obtain⟨E,HE⟩:∃ E,Hid (resE (.held q9 y)=E):=⟨_,rfl⟩
    obtain⟨F,HF⟩:∃ F,Hid (resM (.held q9 y)=F):=⟨_,rfl⟩
    rw[HE.out] at hc hE
    rw[HF.out] at hc
    simp only[resN,resP] at hc
    go_wp2_with fail
    refine hc.mono ?_
    rintro e w7 ⟨hk7,rfl,hs7,hin7⟩
    have b2:=(hk7.block _ (zA2 HI.out.res) (by omega)).trans HI.out.res
    have rc0:=zA0 (i:=0) (v:=.int .i64 0) b2 rfl
    have rc1:=zA0 (i:=1) (v:=.int .i64 0) b2 rfl
    have rc2:=zA0 (i:=2) (v:=.int .i64 0) b2 rfl
    have rc3:=zA0 (i:=3) (v:=.int .i64 0) b2 rfl
    have rz0:=zA1 (i:=0) b2
    have rz1:=zA1 (i:=1) b2
    have rz2:=zA1 (i:=2) b2
    have rz3:=zA1 (i:=3) b2
    have l7:=zA2 b2
    have H7:Hid _:=And.intro hk7 hs7
    clear b2 hk7 hs7 hin7 hc
    go_wp2
    refine bodyPost_ret (v:=valV (.held q9 y)) (by simp[valV,resN,resP,HE.out,HF.out,results,Tryz.results25,go_sem,rc0,rc1,rc2,rc3,l7]) rfl ?_
    rw[HI.out.held HMI.out HM.out (zCM kd p word)]
    have q:=set4 (HI.out.keep.trans H7.out.1) H7.out.2.2.1 hRw (.int .i64 0) (.int .i64 E) (.int .i64 q9) (.int .i64 F)
    exact⟨q.1.alloc _,rfl,⟨K01.out.trans (q.1.alloc _),zA3 q.2,by have:=H7.out.2.2.2;simp only;omega⟩,by unfold In64;simp[resN]⟩
   | val x=>
    simp only[resN,resE,resP,resM] at hc
    go_wp2_with fail
    refine hc.mono ?_
    rintro e w7 ⟨hk7,rfl,hs7,hin7⟩
    have W7:=(hk7.block _ (zA2 HI.out.row) (by omega)).trans HI.out.row
    have dr:w7.cell? ⟨w.heap.size+1,i,none⟩=some (.int .i64 0):=zA0 W7 (by rw[List.getElem?_toArray,List.getElem?_append_right (by simp[ints,HI.out.len]),List.getElem?_replicate,if_pos (by simp[ints,HI.out.len];omega)])
    have dz:w7.frozen? ⟨w.heap.size+1,i,none⟩=false:=zA1 W7
    have l7:=zA2 W7
    have H7:Hid _:=And.intro hk7 (And.intro hs7 hin7)
    clear W7 hk7 hs7 hin7 hc
    go_wp2
    go_roundw
    case rel=>exact⟨i+1,xs ++ [x],t2,by go_num,by omega,(HI.out.push (by omega) hw1 hRw hlt HMI.out HM.out H7.out.2.2 H7.out.1 H7.out.2.1).alloc _⟩
    case measure=>simp[intOf];omega
  ·have hge2:¬ (i:Int)<n:=by omega
   obtain rfl:i=n:=by omega
   have hst:SR w1 R cv seed T (kf+1) ti wr:=by
    have:=HI.out.st
    rw[List.drop_eq_nil_of_le (by have:=HLEN.out.2;omega)] at this
    exact this
   have EQ:Hid (zC3 ms (zCM kd p word) tr=zCM kd p word xs ti):=by
    have:=HI.out.eq (zCM kd p word)
    rw[List.drop_eq_nil_of_le (by have:=HLEN.out.1;omega)] at this
    simp[zC3] at this
    exact this
   have b2:=HI.out.res
   have rc0:=zA0 (i:=0) (v:=.int .i64 0) b2 rfl
   have rc1:=zA0 (i:=1) (v:=.int .i64 0) b2 rfl
   have rc2:=zA0 (i:=2) (v:=.int .i64 0) b2 rfl
   have rc3:=zA0 (i:=3) (v:=.int .i64 0) b2 rfl
   have rz0:=zA1 (i:=0) b2
   have rz1:=zA1 (i:=1) b2
   have rz2:=zA1 (i:=2) b2
   have rz3:=zA1 (i:=3) b2
   have l7:=zA2 b2
   have d1:wr.cell? ⟨b,1,none⟩=some (.int .i64 p):=zA0 (HI.out.keep.heap HB.out hb) rfl
   have d3:wr.cell? ⟨b,3,none⟩=some (.string word):=zA0 (HI.out.keep.heap HB.out hb) rfl
   have t3:wr.cell? ⟨R,3,none⟩=some (.string ti):=zA0 hst.2.1 rfl
   have z3:wr.frozen? ⟨R,3,none⟩=false:=zA1 hst.2.1
   have HST:Hid _:=hst
   have hz:=hst.2.2
   clear b2 hst
   rcases HK.out with rfl | ⟨rfl,rfl⟩ | ⟨rfl,hkd⟩
   ·have s1:(ti ++ word).size=ti.size+word.size:=by simp
    clear rc0 rc1 rc2 rc3 rz0 rz1 rz2 rz3
    go_wp2_with fail
    go_region
    have hW3:zCE (wr.setCell ⟨R,3,none⟩ (.string (ti ++ word ++ ⟨#[59]⟩))).drew R cv seed T (zEC ti word):=zA4 (i:=3) HST.out.2.1
    have hK3:Keep R w (wr.setCell ⟨R,3,none⟩ (.string (ti ++ word ++ ⟨#[59]⟩))).drew:=(HI.out.keep.setR 3 _).drew
    have hB3:(wr.setCell ⟨R,3,none⟩ (.string (ti ++ word ++ ⟨#[59]⟩))).drew.heap[w.heap.size]?=some (.cells #[.int .i64 0,.int .i64 0,.int .i64 0,.int .i64 0] 43 (0,0)):=zA6 HI.out.res (by show w.heap.size≠R;omega)
    have ho3:(wr.setCell ⟨R,3,none⟩ (.string (ti ++ word ++ ⟨#[59]⟩))).drew.ownsRow 0 2 1 (.slice (some ⟨w.heap.size+1,0,none⟩) i i) xs.length (ints xs):=zAG (HI.out.rows h900 (Nat.zero_le _)) fun k q=>Below.heap_setCell wr _ _ k (by injection q with q;have q:w.heap.size+1=k:=q;show k≠R;omega)
    have hpr:=ref_Probed word HI.out.i64 (by have:=HI.out.len;omega) ho3
    have H3:Hid (Keep R w (wr.setCell ⟨R,3,none⟩ (.string (ti ++ word ++ ⟨#[59]⟩))).drew∧zCE (wr.setCell ⟨R,3,none⟩ (.string (ti ++ word ++ ⟨#[59]⟩))).drew R cv seed T (zEC ti word)∧(wr.setCell ⟨R,3,none⟩ (.string (ti ++ word ++ ⟨#[59]⟩))).drew.heap[w.heap.size]?=some (.cells #[.int .i64 0,.int .i64 0,.int .i64 0,.int .i64 0] 43 (0,0))):=⟨hK3,hW3,hB3⟩
    have hae:=zMY word xs
    have hai:=zQV word HI.out.i64 (by have:=HI.out.len;omega)
    have EQ2:Hid (zC3 ms (zCM 112 p word) tr=(zDS p (zB3 word xs),zEC ti word)):=EQ.out.trans (by unfold zCM;rw[if_pos rfl])
    clear hW3 hK3 hB3 ho3
    generalize zB3 word xs=z at *
    obtain⟨z1,z2⟩:=z
    simp only at hpr hae hai
    go_wp2_with fail
    refine hpr.mono ?_
    rintro e w8 ⟨rfl,hb8⟩
    have hk8:=H3.out.1.trans (.of_below hb8)
    have H8:Hid (Keep R w w8∧zCE w8 R cv seed T (zEC ti word)∧w8.heap[w.heap.size]?=some (.cells #[.int .i64 0,.int .i64 0,.int .i64 0,.int .i64 0] 43 (0,0))):=⟨hk8,(hb8.block R (zA2 H3.out.2.1)).trans H3.out.2.1,(hb8.block _ (zA2 H3.out.2.2)).trans H3.out.2.2⟩
    have e1:w8.cell? ⟨b,1,none⟩=some (.int .i64 p):=zA0 (hk8.heap HB.out hb) rfl
    have l8:b<w8.heap.size:=by have:=hk8.size;omega
    clear hpr hb8 hk8
    go_wp2_with fail
    have hk2:Keep R w (w8.alloc (.cells #[.int .i64 z1,.int .i64 z2] 128)):=H8.out.1.alloc _
    have hW2:zCE (w8.alloc (.cells #[.int .i64 z1,.int .i64 z2] 128)) R cv seed T (zEC ti word):=zA3 H8.out.2.1
    have hB2:(w8.alloc (.cells #[.int .i64 z1,.int .i64 z2] 128)).heap[w.heap.size]?=some (.cells #[.int .i64 0,.int .i64 0,.int .i64 0,.int .i64 0] 43 (0,0)):=zA3 H8.out.2.2
    generalize w8.alloc (.cells #[.int .i64 z1,.int .i64 z2] 128)=w9 at hk2 hW2 hB2 ⊢
    have hh:=zM7 (p:=p) (x:=(z1,z2)) (w:=w9) (zA0 (hk2.heap HB.out hb) rfl) (by simp only;omega)
    have HK2:Hid (Keep R w w9∧zCE w9 R cv seed T (zEC ti word)∧w9.heap[w.heap.size]?=some (.cells #[.int .i64 0,.int .i64 0,.int .i64 0,.int .i64 0] 43 (0,0))):=⟨hk2,hW2,hB2⟩
    unfold valV at hh
    clear hk2 hW2 hB2
    refine hh.mono ?_
    rintro e w10 ⟨rfl,hb10⟩
    have b2:=(hb10.block _ (zA2 HK2.out.2.2)).trans HK2.out.2.2
    have rc0:=zA0 (i:=0) (v:=.int .i64 0) b2 rfl
    have rc1:=zA0 (i:=1) (v:=.int .i64 0) b2 rfl
    have rc2:=zA0 (i:=2) (v:=.int .i64 0) b2 rfl
    have rc3:=zA0 (i:=3) (v:=.int .i64 0) b2 rfl
    have rz0:=zA1 (i:=0) b2
    have rz1:=zA1 (i:=1) b2
    have rz2:=zA1 (i:=2) b2
    have rz3:=zA1 (i:=3) b2
    have HB10:Hid _:=hb10
    clear b2 hb10 hh
    go_wp2
    refine bodyPost_ret (v:=valV (zDS p (z1,z2))) (by simp[valV,results,Tryz.results25,go_sem,rc0,rc1,rc2,rc3]) rfl ?_
    rw[EQ2.out]
    have q:=set4 (HK2.out.1.trans (.of_below HB10.out)) ((HB10.out.block R (zA2 HK2.out.2.1)).trans HK2.out.2.1) hRw (.int .i64 (resN (zDS p (z1,z2)))) (.int .i64 (resE (zDS p (z1,z2)))) (.int .i64 (resP (zDS p (z1,z2)))) (.int .i64 (resM (zDS p (z1,z2))))
    exact⟨q.1,rfl,⟨K01.out.trans q.1,q.2,by simp only;rw[zN6];omega⟩,zM5 hai⟩
   ·obtain⟨x,rfl⟩:∃ x,xs=[x]:=by
     have:=HI.out.len
     match xs,this with
     | [x],_=>exact⟨x,rfl⟩
    have hx:=HI.out.i64 x (by simp)
    have hrow:=HI.out.reads
    have hre:=zKM hrow hx
    have EQ2:Hid (zC3 ms (zCM 126 p word) tr=(.val (clip (-x)),ti)):=EQ.out.trans (by unfold zCM;rw[if_neg (by decide)])
    clear hrow hx
    go_wp2_with fail
    refine hre.mono ?_
    rintro e w8 ⟨rfl,nq,hw8⟩
    subst hw8
    go_wp2
    refine bodyPost_ret (v:=valV (.val (clip (-x)))) (by simp[valV,resN,resE,resP,resM,results,Tryz.results25,go_sem,rc0,rc1,rc2,rc3]) rfl ?_
    rw[EQ2.out]
    have q:=set4 (HI.out.keep.drewN nq) (show zCE (wr.drewN nq) R cv seed T ti from HST.out.2.1) hRw (.int .i64 (clip (-x))) (.int .i64 0) (.int .i64 0) (.int .i64 0)
    exact⟨q.1,rfl,⟨K01.out.trans q.1,q.2,by simp only;omega⟩,zH1 _⟩
   ·obtain⟨x,y,rfl⟩:∃ x y,xs=[x,y]:=by
     have:=HI.out.len
     match xs,this with
     | [x,y],_=>exact⟨x,y,rfl⟩
    have hx:=HI.out.i64 x (by simp)
    have hy:=HI.out.i64 y (by simp)
    have hrow:=HI.out.reads
    by_cases h47:kd=47
    ·subst h47
     have y1:wr.cell? ⟨w.heap.size+1,1,none⟩=some (.int .i64 y):=hrow.cell rfl
     clear hrow
     by_cases h0:y=0
     ·subst h0
      have EQ2:Hid (zC3 ms (zCM 47 p word) tr=(.held p .divide,ti)):=EQ.out.trans (by unfold zCM;rw[if_neg (by decide)];simp)
      go_wp2
      refine bodyPost_ret (v:=valV (.held p .divide)) (by simp[valV,resN,resE,resP,resM,results,Tryz.results25,go_sem,rc0,rc1,rc2,rc3]) rfl ?_
      rw[EQ2.out]
      have q:=set4 HI.out.keep HST.out.2.1 hRw (.int .i64 0) (.int .i64 8) (.int .i64 p) (.int .i64 0)
      exact⟨q.1,rfl,⟨K01.out.trans q.1,q.2,by simp only;omega⟩,by unfold In64;simp[resN]⟩
     ·have e0:(y == 0)=false:=by rw[beq_eq_false_iff_ne];exact h0
      have hre:=zJT HI.out.reads hx hy h0
      have EQ2:Hid (zC3 ms (zCM 47 p word) tr=(.val (quot x y),ti)):=EQ.out.trans (by unfold zCM;rw[if_neg (by decide)];simp[h0])
      go_wp2_with fail
      refine hre.mono ?_
      rintro e w8 ⟨rfl,nq,hw8⟩
      subst hw8
      go_wp2
      refine bodyPost_ret (v:=valV (.val (quot x y))) (by simp[valV,resN,resE,resP,resM,results,Tryz.results25,go_sem,rc0,rc1,rc2,rc3]) rfl ?_
      rw[EQ2.out]
      have q:=set4 (HI.out.keep.drewN nq) (show zCE (wr.drewN nq) R cv seed T ti from HST.out.2.1) hRw (.int .i64 (quot x y)) (.int .i64 0) (.int .i64 0) (.int .i64 0)
      exact⟨q.1,rfl,⟨K01.out.trans q.1,q.2,by simp only;omega⟩,zP8 _ _⟩
    ·have hre:=ref_reckon (hkd.resolve_left h47) hrow hx hy
     have EQ2:Hid (zC3 ms (zCM kd p word) tr=(.val (reck kd x y),ti)):=EQ.out.trans (by unfold zCM;rw[if_neg (by omega)];simp[h47])
     have e47:((kd:Int) == 47)=false:=by simp;omega
     have e112:((kd:Int) == 112)=false:=by simp;omega
     clear hrow hkd
     go_wp2_with fail
     refine hre.mono ?_
     rintro e w8 ⟨rfl,nq,hw8⟩
     subst hw8
     go_wp2
     refine bodyPost_ret (v:=valV (.val (reck kd x y))) (by simp[valV,resN,resE,resP,resM,results,Tryz.results25,go_sem,rc0,rc1,rc2,rc3]) rfl ?_
     rw[EQ2.out]
     have q:=set4 (HI.out.keep.drewN nq) (show zCE (wr.drewN nq) R cv seed T ti from HST.out.2.1) hRw (.int .i64 (reck kd x y)) (.int .i64 0) (.int .i64 0) (.int .i64 0)
     exact⟨q.1,rfl,⟨K01.out.trans q.1,q.2,by simp only;omega⟩,reck_in _ _ _⟩
end Go.Proofs.YtbokdbaagacnlaaGreatDoor
