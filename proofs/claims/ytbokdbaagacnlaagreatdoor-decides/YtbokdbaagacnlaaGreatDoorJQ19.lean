import Derived.Test.YtbokdbaagacnlaaGreatDoorJQ18
import Derived.Laws.EntriesVeiled
namespace Go.Proofs.YtbokdbaagacnlaaGreatDoor
open Go.RowKit Go.Lib
theorem Tryz.infoCall : (Tryz.prog.info? 236).map (fun i=>(i.zero,i.size,i.bytes))=some (some (.agg #[.int .i64 0,.string { data:=#[] }]),2,24):=by kernel_rfl
theorem Tryz.infoValue : (Tryz.prog.info? 143).map (fun i=>(i.zero,i.size,i.bytes))=some (some .nilFunc,1,8):=by kernel_rfl
def RS.Fu (r:RS)(f:Nat):Prop:=r.wrong=true∨200≤r.parts+f
theorem RS.Fu.step {r r':RS}{f:Nat}(h:r.Fu f)(hr:r.Ok)(hf:r.From r'):r'.Fu f:=by
 cases e:r'.wrong with
 | true=>exact .inl e
 | false=>
  have:=(hf hr).2 e
  rcases h with h | h
  ·rw[this.1] at h;cases h
  ·exact .inr (by omega)
def PCon (R f:Nat):Prop:=∀ (w:World) (r:RS),RSt R w r→r.Good→r.Fu f →
 Calls Tryz.prog 98 #[.pointer (some ⟨R,0,none⟩)] w fun e w'=>∃ v,e=.returned v∧zCL v∧RSt R w' (RS.part f r).2∧KR R w w'∧VOk R w.heap.size w' (RS.part f r).2 (RS.part f r).1 v
def RS.probeC (r:RS):UInt8 × RS:=RS.next { (r.place.2.name.2.require (!isMeasure r.place.2.name.1)) with asks:=(r.place.2.name.2.require (!isMeasure r.place.2.name.1)).asks ++ [(r.place.1,r.place.2.name.1)] }
theorem zPC {w:World}{g:Nat}{cs:Array Value}{e:TypeId}(h:w.heap[g]?=some (.cells cs e (0,0)))(hc:cs.size≤1000){n m:Nat}(hn:n=cs.size)(hm:m=cs.size){xs:List Value}(hx:xs=cs.toList):w.ownsRow 0 e 1 (.slice (some ⟨g,0,none⟩) n n) m xs:=by
 subst hn hm hx
 exact⟨by simp,.inr ⟨g,_,cs,rfl,Nat.zero_le _,h,Nat.le_refl _,by first | (simp[maxLen];omega) | omega,by simp,by rw[List.take_of_length_le (by simp)]⟩⟩
structure PL (R f lo g b3 n p:Nat) (X:RS) (w wr:World) (i:Nat) (vs:List Value):Prop where
 st:RSt R wr (iter (RS.part f) i X).2
 kr:KR R w wr
 row:wr.heap[g]?=some (.cells (vs ++ List.replicate (n - i) Value.nilFunc).toArray 143 (0,0))
 len:vs.length=i
 free:Fr R lo wr g
 nodes:(iter (RS.part f) i X).2.wrong=false→zBK (fun b=>Fr R lo wr b∧b≠g) wr (iter (RS.part f) i X).1 vs
 atb:One wr b3 (.int .i64 (p:Int)) 153
 fre:Free R wr b3
theorem zJD {R:Nat}{w:World}{b g i:Nat}(v:Value)(hg:g≠R)(h:Free R w b):Free R (w.setCell ⟨g,i,none⟩ v) b:=by
 have e:∀ j,zB4 (w.setCell ⟨g,i,none⟩ v) R j=zB4 w R j:=fun j=>zE6 (Below.heap_setCell _ _ _ _ (fun q=>hg q.symm))
 exact⟨h.ne,by simpa using h.lt,by rw[e];exact h.row3,by rw[e];exact h.row4,by rw[e];exact h.row5⟩
theorem PL.push {R f lo g b3 n p i:Nat}{X:RS}{w wr w7:World}{vs:List Value}{v:Value}(h:PL R f lo g b3 n p X w wr i vs)(hlo:w.heap.size≤g)(hgw:g<wr.heap.size)(hi:i<n)
  (h7:RSt R w7 (RS.part f (iter (RS.part f) i X).2).2) (k7:KR R wr w7) (hv:VOk R wr.heap.size w7 (RS.part f (iter (RS.part f) i X).2).2 (RS.part f (iter (RS.part f) i X).2).1 v) (hf:(RS.part f (iter (RS.part f) i X).2).2.wrong=false→(iter (RS.part f) i X).2.wrong=false) (hlw:lo≤wr.heap.size) (hRw:R<w.heap.size):
  PL R f lo g b3 n p X w (w7.setCell ⟨g,i,none⟩ v) (i+1) (vs ++ [v]):=by
 have f7:=(h.free.1.step k7).1
 have r7:w7.heap[g]?=_:=(h.free.1.step k7).2.trans h.row
 have hR:R<g:=Nat.lt_of_lt_of_le hRw hlo
 have hne:g≠R:=fun e=>by omega
 have hgb:b3≠g:=fun e=>by
  have q:wr.heap[b3]?=_:=h.atb
  subst e
  rw[h.row] at q
  injection q with q
  injection q with _ q
  revert q
  decide
 refine⟨h7.setFree f7.ne hR f7.row3 f7.row4 f7.row5 v,(h.kr.trans k7).setNew hlo (fun e=>by omega) v,?_,by simp[h.len],⟨zJD v hne f7,h.free.2⟩,fun hw=>?_,(Below.heap_setCell _ _ _ _ hgb).trans ((h.fre.step k7).2.trans h.atb),zJD v hne (h.fre.step k7).1⟩
 ·rw[zA4 r7]
  congr 2
  apply Array.ext'
  rw[Array.toList_setIfInBounds]
  have hl:=h.len
  rw[show n - i=(n - (i+1))+1 by omega,List.replicate_succ]
  subst hl
  simp
 ·have m1:zOU (fun b=>Fr R lo wr b∧b≠g) (fun b=>Fr R lo (w7.setCell ⟨g,i,none⟩ v) b∧b≠g) wr (w7.setCell ⟨g,i,none⟩ v):=fun b hb=>
   ⟨⟨⟨zJD v hne (hb.1.1.step k7).1,hb.1.2⟩,hb.2⟩,(Below.heap_setCell _ _ _ _ hb.2).trans (hb.1.1.step k7).2⟩
  have m2:zOU (Fr R wr.heap.size w7) (fun b=>Fr R lo (w7.setCell ⟨g,i,none⟩ v) b∧b≠g) w7 (w7.setCell ⟨g,i,none⟩ v):=fun b hb=>by
   have hbg:b≠g:=fun e=>by have:=hb.2;omega
   exact⟨⟨⟨zJD v hne hb.1,Nat.le_trans hlw hb.2⟩,hbg⟩,Below.heap_setCell _ _ _ _ hbg⟩
  exact((h.nodes (hf hw)).moves m1).snoc ((hv hw).moves m2)
section
variable {R f:Nat} {w:World} {r:RS}
set_option maxRecDepth 1000000 in
set_option maxHeartbeats 1000000 in
theorem rd_probe (hp:PCon R f)(h:RSt R w r)(hl:r.asks.length≤900)(hG:r.probeC.2.Good)(hF:r.probeC.2.Fu f):Calls Tryz.prog 133 #[.pointer (some ⟨R,0,none⟩)] w fun e w'=>∃ v,e=.returned v∧zCL v∧RSt R w' (r.probe (RS.part f)).2∧KR R w w'∧VOk R w.heap.size w' (r.probe (RS.part f)).2 (r.probe (RS.part f)).1 v:=by
 obtain⟨i0,hi,hz0,hz1,hz2⟩:=info_parts Tryz.infoCall
 obtain⟨i1,hi1,hy0,hy1,hy2⟩:=info_parts Tryz.infoValue
 have hnot:∀ (x:Bool) (w:World),(Op.unary .not (.bool x)).run Tryz.prog w=.ok (.bool (!x)) w:=fun _ _=>rfl
 have hpl:=zMA h
 have HM:Hid (r.probe (RS.part f)=(.probe r.place.1 r.place.2.name.1 (iter (RS.part f) r.probeC.1.toNat r.probeC.2).1,(iter (RS.part f) r.probeC.1.toNat r.probeC.2).2)):=rfl
 have HC:Hid (r.probeC=RS.next { (r.place.2.name.2.require (!isMeasure r.place.2.name.1)) with asks:=(r.place.2.name.2.require (!isMeasure r.place.2.name.1)).asks ++ [(r.place.1,r.place.2.name.1)] }):=rfl
 have hl2:(r.place.2.name.2.require (!isMeasure r.place.2.name.1)).asks.length≤900:=by rw[(RS.mets_require _ _).2.1,(RS.mets_name _).2.1,(RS.mets_place _).2.1];exact hl
 have HG:Hid _:=And.intro hG hF
 have HP:Hid (PCon R f):=hp
 have LR:Hid (R<w.heap.size):=h.lR
 clear h hl hG hF hp
 generalize r.probeC=X at *
 generalize r.place=P at *
 go_enter Tryz.func133,Tryz.ntmps133
 go_wp2_with fail
 refine hpl.mono ?_
 rintro e w1 ⟨rfl,h1,k1⟩
 have hnm:=zP5 h1
 have K1:Hid _:=k1
 clear hpl h1 k1
 generalize P.2.name=K at *
 go_wp2_with fail
 refine hnm.mono ?_
 rintro e w2 ⟨rfl,h2,k2⟩
 have hbl:Below w2.heap.size w2 (w2.alloc (.cells #[.int .i64 (P.1:Int)] 153)):=(Below.refl _ _).alloc (Nat.le_refl _) _
 have hik:=zH0 K.1 (w2.alloc (.cells #[.int .i64 (P.1:Int)] 153))
 have hrq:=zCH (h2.later hbl) (!isMeasure K.1)
 have K2:Hid _:=(K1.out.trans k2).trans (.of_below hbl h2.lR)
 have FRE:Hid (Free R (w2.alloc (.cells #[.int .i64 (P.1:Int)] 153)) w2.heap.size):=h2.free_new hbl (Nat.le_refl _) (by simp)
 have HA2:Hid (One (w2.alloc (.cells #[.int .i64 (P.1:Int)] 153)) w2.heap.size (.int .i64 (P.1:Int)) 153):=heap_alloc_new _ _
 clear hnm h2 k2 hbl
 go_wp2_with fail
 refine hik.mono ?_
 rintro e w' ⟨rfl,hw⟩
 have hw:=hw.symm
 subst hw
 clear hik
 go_wp2_with fail
 refine hrq.mono ?_
 rintro e w3 ⟨rfl,h3,k3⟩
 generalize K.2.require (!isMeasure K.1)=r3 at *
 have K3:Hid _:=K2.out.trans k3
 have KA:Hid (KR R (w2.alloc (.cells #[.int .i64 (P.1:Int)] 153)) w3):=k3
 have H3:Hid (RSt R w3 r3):=h3
 have cA:w3.cell? ⟨w2.heap.size,0,none⟩=some (.int .i64 (P.1:Int)):=zA0 ((FRE.out.step k3).2.trans HA2.out) rfl
 obtain⟨rv,mv,sv,av,b1,b2,b3,b4⟩:=h3.blk
 obtain⟨ao,cp,rfl⟩:=zAI b4.1
 have c4:w3.cell? ⟨R,5,none⟩=some (.slice ao r3.asks.length cp):=zA0 b1 rfl
 have z4:=zA1 (i:=5) b1
 have lR3:=h3.lR
 have HBK:Hid _:=And.intro b1 (And.intro b2 (And.intro b3 b4))
 clear hrq h3 k3 b1 b2 b3 b4
 go_wp2_with fail
 refine Code.wp_mono (Q:=Exit.then (fun a w'=>∃ (g cap:Nat),a={ tmps:=#[.pointer (some ⟨R,0,none⟩),undef,.nilFunc,.pointer (some ⟨w2.heap.size,0,none⟩),.string K.1,undef,undef,.pointer (some ⟨R,0,none⟩),.agg #[.int .i64 (P.1:Int)],.pointer (some ⟨R,0,none⟩),.string K.1,.pointer (some ⟨R,0,none⟩),.string K.1,.bool (isMeasure K.1),.bool (!isMeasure K.1),.tuple #[],.pointer (some ⟨R,0,none⟩),.pointer (some ⟨R,0,none⟩),.pointer (some ⟨R,0,none⟩),.pointer (some ⟨R,5,none⟩),.slice ao r3.asks.length cp,.agg #[.int .i64 (P.1:Int)],.string K.1,.agg #[.int .i64 (P.1:Int),.string K.1],.slice (some ⟨w3.heap.size,0,none⟩) 1 1,.slice (some ⟨g,0,none⟩) (r3.asks.length+1) cap,.pointer (some ⟨R,0,none⟩),.pointer (some ⟨R,5,none⟩),undef,undef,undef,undef,undef,undef,undef,undef,undef,undef,undef,undef,undef,undef,undef,undef,undef,undef],defers:=[] }∧Hid (RSt R w' { r3 with asks:=r3.asks ++ [(P.1,K.1)] }∧KR R w3 w')) (fun _ _ _=>False)) ?imp ?reg
 case reg=>
  go_region_law (first
    | (refine step_append_lies _ (by rfl) (.tmp 20) (.tmp 24) _ (by rfl) (R+1) 236 i0 (.agg #[.int .i64 0,.string { data:=#[] }]) 2 24 Tryz.underlying145 hi hz0 hz1 hz2 rfl (by omega) (.slice ao r3.asks.length cp) r3.asks.length (zAZ r3.asks) (by rfl) (World.ownsRow.alloc (World.ownsRow.drew HBK.out.2.2.2.1) _) ⟨_,0,none⟩ 1 1 [.int .i64 (P.1:Int),.string K.1] (by rfl) (by rfl) (zJ9 (heap_alloc_new _ _)) (by simp[Value.oneCell']) (by omega) (by unfold maxLen;omega) (by omega) (by simp;omega) _ (by rfl) ?_;intro g cap w5 hown hgrow hat hlt;have q:=H3.out.push5 (p:=P.1) (x:=K.1) HBK.out.1 HBK.out.2.1 HBK.out.2.2.1 HBK.out.2.2.2 hown ⟨hgrow.os,hgrow.tape,hgrow.output,hgrow.size,hgrow.block⟩ (hat.elim (fun e=>.inl e.symm) (fun e=>.inr fun g' hg'=>(by injection hg' with h2;rw[←h2,e];simp)));have n5:w5.heap[R]?=_:=(hgrow.block R (by simp;omega) (fun e=>by have:=(HBK.out.2.2.2.1.lt _ e.symm).1;omega)).trans (zA3 (w:=w3) HBK.out.1);have m5:=zA0 (i:=5) n5 rfl;have g5:=zA1 (i:=5) n5;have Q5:Hid _:=q;clear n5 hgrow hown hat hlt q))
  all_goals exact⟨g,cap,rfl,Q5.out⟩
 case imp=>
  clear c4 z4 cA
  intro e a w4 hq
  cases e with
  | normal=>?_
  | _=>exact hq.elim
  obtain⟨g4,cap4,rfl,H4⟩:=hq
  have hnx:=zMB H4.out.1
  have K4:Hid (KR R w w4):=K3.out.trans H4.out.2
  have KB:Hid (KR R (w2.alloc (.cells #[.int .i64 (P.1:Int)] 153)) w4):=KA.out.trans H4.out.2
  rw[←HC.out] at hnx
  go_wp2_with fail
  refine hnx.mono ?_
  rintro e w5 ⟨rfl,h5,k5⟩
  have hx:X.1.toNat<256:=X.1.toNat_lt
  have K5:Hid (KR R w w5):=K4.out.trans k5
  have KB5:Hid (KR R (w2.alloc (.cells #[.int .i64 (P.1:Int)] 153)) w5):=KB.out.trans k5
  have H5:Hid (RSt R w5 X.2):=h5
  have lR5:=h5.lR
  clear hnx h5 k5 H4 K4 KB
  generalize hN:X.1.toNat=n at *
  clear hN
  go_wp2_with (first
    | (at_make;refine wpList_make_full _ rfl _ _ 351 rfl (R+1) 143 i1 .nilFunc 1 Tryz.underlying351 hi1 hy0 hy1 _ _ _ _ n rfl rfl rfl rfl (by rw[hy2];omega) (by unfold maxLen;omega) (by omega) ?_;intro w6 hown hgrow;have Q:Hid _:=And.intro hown hgrow;clear hown hgrow)
    | fail)
  have hbl:Below w5.heap.size w5 w6:=⟨Q.out.2.os,Q.out.2.tape,Q.out.2.output,Q.out.2.size,fun k hk=>Q.out.2.block k hk (by simp)⟩
  have hg0:w5.heap.size<w6.heap.size:=(Q.out.1.lt _ rfl).2
  have hPL:PL R f w.heap.size w5.heap.size w2.heap.size n P.1 X.2 w w6 0 []:=by
   refine⟨H5.out.later hbl,K5.out.trans (.of_below hbl lR5),?_,rfl,⟨H5.out.free_new hbl (Nat.le_refl _) hg0,K5.out.size⟩,fun _=>by unfold iter zBK;rfl,?_,?_⟩
   ·obtain⟨c,hc⟩:=zHX Q.out.1 (g:=w5.heap.size) rfl
    rcases Q.out.1.2 with⟨q,-⟩ | ⟨g2,cap,cur,q1,-,q3,-,-,q6,q7⟩
    ·cases q
    ·injection q1 with q1 q1b q1c
     injection q1 with q1
     injection q1 with q1
     subst q1 q1c
     rw[q3]
     congr 2
     apply Array.ext'
     rw[Nat.mul_one] at q6 q7
     rw[List.take_of_length_le (by simp;omega)] at q7
     rw[q7,show (Value.nilFunc).cells=#[.nilFunc] from rfl,toList_madeCells_one]
     simp
   ·exact(FRE.out.step (KB5.out.trans (.of_below hbl lR5))).2.trans HA2.out
   ·exact(FRE.out.step (KB5.out.trans (.of_below hbl lR5))).1
  have HPL:Hid _:=hPL
  have hsz6:Hid (w.heap.size≤w5.heap.size∧w5.heap.size<w6.heap.size):=And.intro K5.out.size hg0
  clear hPL hbl hg0 Q
  go_loopw [33] (fun v33 wr=>∃ (i:Nat) (vs:List Value),v33=.int .i64 i∧i≤n∧Hid (PL R f w.heap.size w5.heap.size w2.heap.size n P.1 X.2 w wr i vs∧w5.heap.size<wr.heap.size)) (fun v33 _=>n - (intOf v33).toNat)
  case atStart=>exact⟨0,[],rfl,Nat.zero_le _,HPL.out,hsz6.out.2⟩
  case round=>
   obtain⟨i,vs,rfl,hi9,HI⟩:=hrel
   rcases Nat.lt_or_ge i n with hlt | hge
   ·have hgd:=RS.Good.iter (RS.Good.part f) i X.2 HG.out.1
    have hfr:=RS.From.iter (RS.From.part f) i X.2
    have hpc:=HP.out wr _ HI.out.1.st hgd (HG.out.2.step HG.out.1.1 hfr)
    have hff:=(RS.From.part f (iter (RS.part f) i X.2).2) hgd.1
    have hlt2:(i:Int)<n:=by omega
    have HFF:Hid _:=hff
    clear hgd hfr hff
    go_wp2_with fail
    refine hpc.mono ?_
    rintro e w7 ⟨v7,rfl,hf7,h7,k7,hv7⟩
    have hnx:=HI.out.1.push hsz6.out.1 HI.out.2 hlt h7 k7 hv7 (fun q=>(HFF.out.2 q).1) HI.out.1.kr.size LR.out
    have r7:w7.heap[w5.heap.size]?=_:=(HI.out.1.free.1.step k7).2.trans HI.out.1.row
    have hl:=HI.out.1.len
    have c7:w7.cell? ⟨w5.heap.size,i,none⟩=some .nilFunc:=zA0 r7 (by rw[List.getElem?_toArray,List.getElem?_append_right (by omega),hl,Nat.sub_self,List.getElem?_replicate,if_pos (by omega)])
    have z7:=zA1 (i:=i) r7
    have HNX:Hid _:=And.intro hnx (Nat.lt_of_lt_of_le HI.out.2 k7.size)
    clear hpc h7 k7 hv7 hnx r7 hl
    rcases hf7 with rfl | ⟨_,_,_,rfl⟩
    all_goals
     go_wp2
     go_roundw
     case rel=>exact⟨i+1,_,by go_num,by omega,HNX.out.1,by simpa using HNX.out.2⟩
     case measure=>simp[intOf];omega
   ·have hge2:¬ (i:Int)<n:=by omega
    have hin:i=n:=by omega
    subst hin
    have cA:wr.cell? ⟨w2.heap.size,0,none⟩=some (.int .i64 (P.1:Int)):=zA0 HI.out.1.atb rfl
    have hmk:=mk_probe (lo:=w.heap.size) HI.out.1.st HI.out.1.kr.size P.1 K.1 (ts:=(iter (RS.part f) i X.2).1) (vs:=vs) (ao:=some ⟨w5.heap.size,0,none⟩) (ln:=i) (cp:=i) (fun hw=>by
     have hr:=HI.out.1.row
     have hl:=HI.out.1.len
     rw[Nat.sub_self,List.replicate_zero,List.append_nil] at hr
     exact⟨⟨zPC hr (by simp;omega) (by simp[hl]) (by simp) (by simp),fun g' hg'=>by injection hg' with hg';subst hg';exact HI.out.1.free⟩,(HI.out.1.nodes hw).moves fun b hb=>⟨hb.1,rfl⟩⟩)
    have HKW:Hid _:=HI.out.1.kr
    go_wp2_with fail
    refine hmk.mono ?_
    rintro e w8 ⟨v8,rfl,hf8,h8,k8,hv8⟩
    have Q8:Hid _:=And.intro hf8 (And.intro h8 (And.intro (HKW.out.trans k8) hv8))
    clear hmk hf8 h8 k8 hv8
    go_wp2
    go_ret
    rw[HM.out]
    exact⟨_,rfl,Q8.out⟩
end
end Go.Proofs.YtbokdbaagacnlaaGreatDoor
