import Derived.Test.YtbokdbaagacnlaaGreatDoorJQ19
import Derived.MapKept
import Derived.Maps.Own
namespace Go.Proofs.YtbokdbaagacnlaaGreatDoor
open Go.RowKit Go.Lib
section
variable {R:Nat}
theorem zDH {P:Program}(w:World)(d:Nat)(t:TypeId){ps rs:Array TypeId}{v:Bool}(f:Fn)(a b:Array Value)(h:P.underlying t=some (.func ps rs v)):(Op.equalIn (d+1) t (.func f a b) .nilFunc).run P w=.ok false w:=by
 simp[Op.equalIn,run_underlying h]
theorem zMI {P:Program}(w:World)(t:TypeId){ps rs:Array TypeId}{v:Bool}(f:Fn)(a b:Array Value)(h:P.underlying t=some (.func ps rs v)):(binOp .neq t (.func f a b) .nilFunc).run P w=.ok (.bool true) w:=by
 simp only[binOp]
 simp[Op.equal,Op.maxDepth,zDH w 9999 t f a b h]
theorem zDV {P:Program}(w:World)(d:Nat)(t:TypeId){ps rs:Array TypeId}{v:Bool}(h:P.underlying t=some (.func ps rs v)):(Op.equalIn (d+1) t .nilFunc .nilFunc).run P w=.ok true w:=by
 simp[Op.equalIn,run_underlying h]
theorem zNS {P:Program}(w:World)(t:TypeId){ps rs:Array TypeId}{v:Bool}(h:P.underlying t=some (.func ps rs v)):(binOp .neq t .nilFunc .nilFunc).run P w=.ok (.bool false) w:=by
 simp only[binOp]
 simp[Op.equal,Op.maxDepth,zDV w 9999 t h]
theorem u8_eq {x c:UInt8}:((x.toNat:Int) == (c.toNat:Int))=decide (x=c):=by
 by_cases h:x=c
 ·subst h;simp
 ·have:x.toNat≠c.toNat:=fun e=>h (UInt8.toNat_inj.1 e)
  rw[decide_eq_false h,beq_eq_false_iff_ne]
  omega
theorem zQ8 {r:RS}(hG:r.Good)(hF:r.Fu 0):r.begin.wrong=true:=by
 cases e:r.begin.wrong with
 | true=>rfl
 | false=>
  have h:=RS.begin_ok hG.1 e
  rcases hF with q | q
  ·rw[h.1] at q;cases q
  ·omega
theorem begin_fu {r:RS}{f:Nat}(hG:r.Good)(hF:r.Fu (f+1)):r.begin.Fu f:=by
 cases e:r.begin.wrong with
 | true=>exact .inl e
 | false=>
  have h:=RS.begin_ok hG.1 e
  rcases hF with q | q
  ·rw[h.1] at q;cases q
  ·exact .inr (by omega)
set_option maxRecDepth 1000000 in
theorem rd_part0 : PCon R 0:=by
 intro w r h hG hF
 obtain⟨rv,mv,sv,av,b1,b2,b3,b4⟩:=h.blk
 have c1:w.cell? ⟨R,1,none⟩=some (.int .i64 r.parts):=zA0 b1 rfl
 have z1:=zA1 (i:=1) b1
 have hset:RSt R (w.setCell ⟨R,1,none⟩ (.int .i64 (wrap64 (r.parts+1)))) { r with parts:=wrap64 (r.parts+1) }:=h.change (zA4 (i:=1) b1) b2 b3 b4 rfl rfl rfl (by simp) (fun k _ hk=>Below.heap_setCell _ _ _ _ hk)
 have K0:Hid (KR R w (w.setCell ⟨R,1,none⟩ (.int .i64 (wrap64 (r.parts+1))))):=.setR _ b1 (by decide) (by decide) (by decide)
 have hrq:=zCH hset (decide (wrap64 (r.parts+1)≤200))
 have HG:Hid (r.Good):=hG
 have HF:Hid _:=hF
 have LR:Hid (R<w.heap.size):=h.lR
 clear h hG hF b1 b2 b3 b4 hset
 go_enter Tryz.func98,Tryz.ntmps98
 go_wp2_with fail
 refine hrq.mono ?_
 rintro e w1 ⟨rfl,h1,k1⟩
 have H1:Hid (RSt R w1 r.begin):=h1
 have K1:Hid (KR R w w1):=K0.out.trans k1
 obtain⟨rv1,mv1,sv1,av1,b1,-⟩:=H1.out.blk
 have c2:w1.cell? ⟨R,2,none⟩=some (.bool r.begin.wrong):=zA0 b1 rfl
 clear hrq h1 k1 b1 c1 z1
 have hb:=zQ8 HG.out HF.out
 rw[hb] at c2
 have HB:Hid (r.begin.wrong=true):=hb
 have HM:Hid (RS.part 0 r=(.num 0 0,r.begin)):=by
  show RS.part 0 r=_
  unfold RS.part
  have e:r.begin={ r with parts:=wrap64 (r.parts+1),wrong:=r.begin.wrong }:=rfl
  rw[e,hb]
 clear hb
 go_wp2
 go_ret
 rw[HM.out]
 exact⟨_,rfl,.inl rfl,H1.out,K1.out,fun q=>by rw[HB.out] at q;cases q⟩
set_option maxRecDepth 1000000 in
set_option maxHeartbeats 4000000 in
theorem rd_partS {f:Nat}(hp:PCon R f):PCon R (f+1):=by
 intro w r h hG hF
 obtain⟨rv,mv,sv,av,b1,b2,b3,b4⟩:=h.blk
 have c1:w.cell? ⟨R,1,none⟩=some (.int .i64 r.parts):=zA0 b1 rfl
 have z1:=zA1 (i:=1) b1
 have hset:RSt R (w.setCell ⟨R,1,none⟩ (.int .i64 (wrap64 (r.parts+1)))) { r with parts:=wrap64 (r.parts+1) }:=h.change (zA4 (i:=1) b1) b2 b3 b4 rfl rfl rfl (by simp) (fun k _ hk=>Below.heap_setCell _ _ _ _ hk)
 have K0:Hid (KR R w (w.setCell ⟨R,1,none⟩ (.int .i64 (wrap64 (r.parts+1))))):=.setR _ b1 (by decide) (by decide) (by decide)
 have hrq:=zCH hset (decide (wrap64 (r.parts+1)≤200))
 have HG:Hid (r.Good):=hG
 have HF:Hid _:=hF
 have LR:Hid (R<w.heap.size):=h.lR
 clear h hG hF b1 b2 b3 b4 hset
 go_enter Tryz.func98,Tryz.ntmps98
 go_wp2_with fail
 refine hrq.mono ?_
 rintro e w1 ⟨rfl,h1,k1⟩
 have H1:Hid (RSt R w1 r.begin):=h1
 have K1:Hid (KR R w w1):=K0.out.trans k1
 obtain⟨rv1,mv1,sv1,av1,b1,-⟩:=H1.out.blk
 have c2:w1.cell? ⟨R,2,none⟩=some (.bool r.begin.wrong):=zA0 b1 rfl
 clear hrq h1 k1 b1 c1 z1
 have HP:Hid (PCon R f):=hp
 clear hp
 cases hb:r.begin.wrong with
 | true=>
  rw[hb] at c2
  have HB:Hid (r.begin.wrong=true):=hb
  have HM:Hid (RS.part (f+1) r=(.num 0 0,r.begin)):=by show RS.part (f+1) r=_;rw[RS.part,if_pos hb]
  clear hb
  go_wp2
  go_ret
  rw[HM.out]
  exact⟨_,rfl,.inl rfl,H1.out,K1.out,fun q=>by rw[HB.out] at q;cases q⟩
 | false=>
  rw[hb] at c2
  have hnx:=zMB H1.out
  have HM0:Hid (RS.part (f+1) r=(if r.begin.next.1=110 then(Tree.num 0 r.begin.next.2.number.1,r.begin.next.2.number.2)
   else if r.begin.next.1=126 then(.neg 0 (RS.part f r.begin.next.2).1,(RS.part f r.begin.next.2).2)
   else if r.begin.next.1=47 then(.bin 47 r.begin.next.2.place.1 (RS.part f r.begin.next.2.place.2).1 (RS.part f (RS.part f r.begin.next.2.place.2).2).1,(RS.part f (RS.part f r.begin.next.2.place.2).2).2)
   else if r.begin.next.1=63 then(.ite 0 (RS.part f r.begin.next.2).1 (RS.part f (RS.part f r.begin.next.2).2).1 (RS.part f (RS.part f (RS.part f r.begin.next.2).2).2).1,(RS.part f (RS.part f (RS.part f r.begin.next.2).2).2).2)
   else if r.begin.next.1=109 then r.begin.next.2.measure
   else if r.begin.next.1=112 then r.begin.next.2.probe (RS.part f)
   else(.bin r.begin.next.1.toNat 0 (RS.part f (r.begin.next.2.require (zC0 r.begin.next.1.toNat))).1 (RS.part f (RS.part f (r.begin.next.2.require (zC0 r.begin.next.1.toNat))).2).1,(RS.part f (RS.part f (r.begin.next.2.require (zC0 r.begin.next.1.toNat))).2).2))):=by show RS.part (f+1) r=_;rw[RS.part,if_neg (by rw[hb];decide)]
  have HGN:Hid (r.begin.next.2.Good):=HG.out.begin.same (.next _) (RS.mets_next _).1 (RS.mets_next _).2.1 (RS.mets_next _).2.2
  have HFN:Hid (r.begin.next.2.Fu f):=(begin_fu HG.out HF.out).step HG.out.begin.1 (.next _)
  have HRM:Hid _:=RS.begin_room HG.out hb
  have HLN:Hid (r.begin.next.2.mets.length≤900∧r.begin.next.2.asks.length≤900∧r.begin.next.2.spans.length≤900):=by
   have q:=HRM.out
   have e1:=(RS.mets_next r.begin).1
   have e2:=(RS.mets_next r.begin).2.1
   have e5:=(RS.mets_next r.begin).2.2
   have e3:r.begin.mets=r.mets:=rfl
   have e4:r.begin.asks=r.asks:=rfl
   have e6:r.begin.spans=r.spans:=rfl
   show _∧_
   rw[e1,e2,e5,e3,e4,e6]
   omega
  have HPC:Hid (r.begin.next.2.probeC.2.Good):=by
   show RS.Good _
   have q:=HRM.out
   refine RS.Good.one (r:=r) HG.out.begin.1 ((((((RS.From.next _).trans (.place _)).trans (.name _)).trans (.require _ _)).trans (.asks _ _)).trans (.next _)) q.1 q.2.1 q.2.2.1 q.2.2.2.1 q.2.2.2.2 ?_ ?_ ?_
   ·unfold RS.probeC
    rw[(RS.mets_next _).1]
    simp only
    rw[(RS.mets_require _ _).1,(RS.mets_name _).1,(RS.mets_place _).1,(RS.mets_next _).1]
    exact Nat.le_succ _
   ·unfold RS.probeC
    rw[(RS.mets_next _).2.1]
    simp only
    rw[(RS.mets_require _ _).2.1,(RS.mets_name _).2.1,(RS.mets_place _).2.1,(RS.mets_next _).2.1]
    simp[RS.begin,RS.require]
   ·unfold RS.probeC
    rw[(RS.mets_next _).2.2]
    simp only
    rw[(RS.mets_require _ _).2.2,(RS.mets_name _).2.2,(RS.mets_place _).2.2,(RS.mets_next _).2.2]
    exact Nat.le_succ _
  have HPF:Hid (r.begin.next.2.probeC.2.Fu f):=HFN.out.step HGN.out.1 (((((RS.From.place _).trans (.name _)).trans (.require _ _)).trans (.asks _ _)).trans (.next _))
  clear hb HRM
  generalize r.begin.next=O at *
  go_wp2_with fail
  refine hnx.mono ?_
  rintro e w2 ⟨rfl,h2,k2⟩
  have H2:Hid (RSt R w2 O.2):=h2
  have KWw2:Hid (KR R w w2):=K1.out.trans k2
  clear hnx h2 k2 c2 H1 K1 K0
  by_cases h110:O.1=110
  ·have hc:(O.1.toNat:Int)=110:=by rw[h110];rfl
   have HM:Hid (RS.part (f+1) r=_):=HM0.out.trans (if_pos h110)
   have hnm:=zNM H2.out
   clear h110 HM0
   rw[hc]
   go_wp2_with fail
   refine hnm.mono ?_
   rintro e w3 ⟨rfl,h3,k3⟩
   have hmk:=mk_num (lo:=w.heap.size) h3 (KWw2.out.trans k3).size O.2.number.1
   have KWw3:Hid (KR R w w3):=KWw2.out.trans k3
   clear hnm h3 k3 hc
   go_wp2_with fail
   refine(hmk).mono ?_
   rintro e w9 ⟨v9,rfl,hf9,h9,k9,hv9⟩
   have Q9:Hid _:=And.intro hf9 (And.intro h9 (And.intro (KWw3.out.trans k9) hv9))
   clear hf9 h9 k9 hv9
   go_wp2
   go_ret
   rw[HM.out]
   exact⟨_,rfl,Q9.out⟩
  have e110:((O.1.toNat:Int) == 110)=false:=by rw[show (110:Int)=((110:UInt8).toNat:Int) from rfl,u8_eq,decide_eq_false h110]
  by_cases h126:O.1=126
  ·have hc:(O.1.toNat:Int)=126:=by rw[h126];rfl
   have HM:Hid (RS.part (f+1) r=_):=HM0.out.trans ((if_neg h110).trans (if_pos h126))
   clear h110 h126 HM0 e110
   rw[hc]
   have hpc:=HP.out w2 _ H2.out HGN.out HFN.out
   go_wp2_with fail
   refine hpc.mono ?_
   rintro e w3 ⟨v3,rfl,hf3,h3,k3,hv3⟩
   have HS3:Hid (RSt R w3 (RS.part f O.2).2):=h3
   have KS3:Hid (KR R w2 w3):=k3
   have HV3:Hid (VOk R w.heap.size w3 (RS.part f O.2).2 (RS.part f O.2).1 v3):=hv3.lower KWw2.out.size
   have KWw3:Hid (KR R w w3):=KWw2.out.trans k3
   have GS3:Hid ((RS.part f O.2).2.Good):=RS.Good.part f _ HGN.out
   have FS3:Hid ((RS.part f O.2).2.Fu f):=HFN.out.step HGN.out.1 (RS.From.part f _)
   have WS3:Hid ((RS.part f O.2).2.wrong=false→(O.2:RS).wrong=false):=fun q=>((RS.From.part f _ HGN.out.1).2 q).1
   have HFV3:Hid (zCL v3):=hf3
   clear hpc h3 k3 hv3 hf3
   have hmk:=mk_neg (lo:=w.heap.size) HS3.out KWw3.out.size HFV3.out HV3.out
   clear hc
   rcases HFV3.out with rfl | ⟨_,_,_,rfl⟩
   all_goals
    go_wp2_with fail
    refine(hmk).mono ?_
    rintro e w9 ⟨v9,rfl,hf9,h9,k9,hv9⟩
    have Q9:Hid _:=And.intro hf9 (And.intro h9 (And.intro (KWw3.out.trans k9) hv9))
    clear hf9 h9 k9 hv9
    go_wp2
    go_ret
    rw[HM.out]
    exact⟨_,rfl,Q9.out⟩
  have e126:((O.1.toNat:Int) == 126)=false:=by rw[show (126:Int)=((126:UInt8).toNat:Int) from rfl,u8_eq,decide_eq_false h126]
  by_cases h47:O.1=47
  ·have hc:(O.1.toNat:Int)=47:=by rw[h47];rfl
   have HM:Hid (RS.part (f+1) r=_):=HM0.out.trans ((if_neg h110).trans ((if_neg h126).trans (if_pos h47)))
   have hpl:=zMA H2.out
   have HGP:Hid (O.2.place.2.Good):=HGN.out.same (.place _) (RS.mets_place _).1 (RS.mets_place _).2.1 (RS.mets_place _).2.2
   have HFP:Hid (O.2.place.2.Fu f):=HFN.out.step HGN.out.1 (.place _)
   clear h110 h126 h47 HM0 e110 e126
   generalize O.2.place=P at *
   rw[hc]
   clear hc
   go_wp2_with fail
   refine hpl.mono ?_
   rintro e w3 ⟨rfl,h3,k3⟩
   have hbl:Below w3.heap.size w3 (w3.alloc (.cells #[.int .i64 (P.1:Int)] 153)):=(Below.refl _ _).alloc (Nat.le_refl _) _
   have FRE:Hid (Free R (w3.alloc (.cells #[.int .i64 (P.1:Int)] 153)) w3.heap.size):=h3.free_new hbl (Nat.le_refl _) (by simp)
   have HA:Hid (One (w3.alloc (.cells #[.int .i64 (P.1:Int)] 153)) w3.heap.size (.int .i64 (P.1:Int)) 153):=heap_alloc_new _ _
   have H3:Hid (RSt R (w3.alloc (.cells #[.int .i64 (P.1:Int)] 153)) P.2):=h3.later hbl
   have KWA:Hid (KR R w (w3.alloc (.cells #[.int .i64 (P.1:Int)] 153))):=(KWw2.out.trans k3).trans (.of_below hbl h3.lR)
   have hpc:=HP.out _ _ H3.out HGP.out HFP.out
   have GS4:Hid ((RS.part f P.2).2.Good):=RS.Good.part f _ HGP.out
   have FS4:Hid ((RS.part f P.2).2.Fu f):=HFP.out.step HGP.out.1 (RS.From.part f _)
   clear hpl h3 k3 hbl
   go_wp2_with fail
   refine hpc.mono ?_
   rintro e w4 ⟨v4,rfl,hf4,h4,k4,hv4⟩
   have H4:Hid (RSt R w4 (RS.part f P.2).2):=h4
   have K4:Hid (KR R (w3.alloc (.cells #[.int .i64 (P.1:Int)] 153)) w4):=k4
   have V4:Hid (VOk R w.heap.size w4 (RS.part f P.2).2 (RS.part f P.2).1 v4):=hv4.lower KWA.out.size
   have cA:w4.cell? ⟨w3.heap.size,0,none⟩=some (.int .i64 (P.1:Int)):=zA0 ((FRE.out.step k4).2.trans HA.out) rfl
   have HF4:Hid (zCL v4):=hf4
   clear hpc h4 k4 hv4
   rcases hf4 with rfl | ⟨f4,x4,y4,rfl⟩
   all_goals
    go_wp2_with fail
    go_region_held3 (fun w'=>w'.cell? ⟨w3.heap.size,0,none⟩=some (.int .i64 (P.1:Int))) (go_keep)
     (first
      | (go_at_call 98;refine(HP.out _ _ (H4.out.later (Below.refl _ _).drew) GS4.out FS4.out).mono ?_;rintro e w5 ⟨v5,rfl,hf5,h5,k5,hv5⟩;have kd5:KR R w4 w5:=(KR.of_below (Below.refl _ _).drew H4.out.lR).trans k5;have H5:Hid _:=h5;have K5:Hid (KR R w4 w5):=kd5;have V5:Hid (VOk R w.heap.size w5 (RS.part f (RS.part f P.2).2).2 (RS.part f (RS.part f P.2).2).1 v5):=hv5.lower (Nat.le_trans KWA.out.size K4.out.size);have V45:Hid _:=V4.out.step kd5 (fun q=>((RS.From.part f _ GS4.out.1).2 q).1);have HF5:Hid (zCL v5):=hf5;have c5:w5.cell? ⟨w3.heap.size,0,none⟩=some (.int .i64 (P.1:Int)):=zA0 ((FRE.out.step (K4.out.trans kd5)).2.trans HA.out) rfl;clear hf5 h5 k5 hv5 kd5)
      | (go_at_call 130;refine(mk_quot (lo:=w.heap.size) H5.out ((KWA.out.trans K4.out).trans K5.out).size P.1 HF4.out HF5.out V45.out V5.out).mono ?_;rintro e w9 ⟨v9,rfl,hf9,h9,k9,hv9⟩;have Q9:Hid _:=And.intro hf9 (And.intro h9 (And.intro (((KWA.out.trans K4.out).trans K5.out).trans k9) hv9));have c9:w9.cell? ⟨w3.heap.size,0,none⟩=some (.int .i64 (P.1:Int)):=zA0 ((FRE.out.step ((K4.out.trans K5.out).trans k9)).2.trans HA.out) rfl;clear hf9 h9 k9 hv9))
    go_wp2
    go_ret
    rw[HM.out]
    exact⟨_,rfl,Q9.out⟩
  have e47:((O.1.toNat:Int) == 47)=false:=by rw[show (47:Int)=((47:UInt8).toNat:Int) from rfl,u8_eq,decide_eq_false h47]
  by_cases h63:O.1=63
  ·have hc:(O.1.toNat:Int)=63:=by rw[h63];rfl
   have HM:Hid (RS.part (f+1) r=_):=HM0.out.trans ((if_neg h110).trans ((if_neg h126).trans ((if_neg h47).trans (if_pos h63))))
   clear h110 h126 h47 h63 HM0 e110 e126 e47
   rw[hc]
   clear hc
   have hpc:=HP.out w2 _ H2.out HGN.out HFN.out
   go_wp2_with fail
   refine hpc.mono ?_
   rintro e w3 ⟨v3,rfl,hf3,h3,k3,hv3⟩
   have HS3:Hid (RSt R w3 (RS.part f O.2).2):=h3
   have KS3:Hid (KR R w2 w3):=k3
   have HV3:Hid (VOk R w.heap.size w3 (RS.part f O.2).2 (RS.part f O.2).1 v3):=hv3.lower KWw2.out.size
   have KWw3:Hid (KR R w w3):=KWw2.out.trans k3
   have GS3:Hid ((RS.part f O.2).2.Good):=RS.Good.part f _ HGN.out
   have FS3:Hid ((RS.part f O.2).2.Fu f):=HFN.out.step HGN.out.1 (RS.From.part f _)
   have WS3:Hid ((RS.part f O.2).2.wrong=false→(O.2:RS).wrong=false):=fun q=>((RS.From.part f _ HGN.out.1).2 q).1
   have HFV3:Hid (zCL v3):=hf3
   clear hpc h3 k3 hv3 hf3
   have hpc:=HP.out w3 _ HS3.out GS3.out FS3.out
   go_wp2_with fail
   refine hpc.mono ?_
   rintro e w4 ⟨v4,rfl,hf4,h4,k4,hv4⟩
   have HS4:Hid (RSt R w4 (RS.part f (RS.part f O.2).2).2):=h4
   have KS4:Hid (KR R w3 w4):=k4
   have HV4:Hid (VOk R w.heap.size w4 (RS.part f (RS.part f O.2).2).2 (RS.part f (RS.part f O.2).2).1 v4):=hv4.lower KWw3.out.size
   have KWw4:Hid (KR R w w4):=KWw3.out.trans k4
   have GS4:Hid ((RS.part f (RS.part f O.2).2).2.Good):=RS.Good.part f _ GS3.out
   have FS4:Hid ((RS.part f (RS.part f O.2).2).2.Fu f):=FS3.out.step GS3.out.1 (RS.From.part f _)
   have WS4:Hid ((RS.part f (RS.part f O.2).2).2.wrong=false→((RS.part f O.2).2:RS).wrong=false):=fun q=>((RS.From.part f _ GS3.out.1).2 q).1
   have HFV4:Hid (zCL v4):=hf4
   clear hpc h4 k4 hv4 hf4
   have hpc:=HP.out w4 _ HS4.out GS4.out FS4.out
   go_wp2_with fail
   refine hpc.mono ?_
   rintro e w5 ⟨v5,rfl,hf5,h5,k5,hv5⟩
   have HS5:Hid (RSt R w5 (RS.part f (RS.part f (RS.part f O.2).2).2).2):=h5
   have KS5:Hid (KR R w4 w5):=k5
   have HV5:Hid (VOk R w.heap.size w5 (RS.part f (RS.part f (RS.part f O.2).2).2).2 (RS.part f (RS.part f (RS.part f O.2).2).2).1 v5):=hv5.lower KWw4.out.size
   have KWw5:Hid (KR R w w5):=KWw4.out.trans k5
   have GS5:Hid ((RS.part f (RS.part f (RS.part f O.2).2).2).2.Good):=RS.Good.part f _ GS4.out
   have FS5:Hid ((RS.part f (RS.part f (RS.part f O.2).2).2).2.Fu f):=FS4.out.step GS4.out.1 (RS.From.part f _)
   have WS5:Hid ((RS.part f (RS.part f (RS.part f O.2).2).2).2.wrong=false→((RS.part f (RS.part f O.2).2).2:RS).wrong=false):=fun q=>((RS.From.part f _ GS4.out.1).2 q).1
   have HFV5:Hid (zCL v5):=hf5
   clear hpc h5 k5 hv5 hf5
   have V34:Hid (VOk R w.heap.size w4 (RS.part f (RS.part f O.2).2).2 (RS.part f O.2).1 v3):=VOk.step (r:=(RS.part f O.2).2) HV3.out KS4.out WS4.out
   have V345:Hid (VOk R w.heap.size w5 (RS.part f (RS.part f (RS.part f O.2).2).2).2 (RS.part f O.2).1 v3):=VOk.step (r:=(RS.part f (RS.part f O.2).2).2) V34.out KS5.out WS5.out
   have V45:Hid _:=HV4.out.step KS5.out WS5.out
   have hmk:=mk_ite (lo:=w.heap.size) HS5.out KWw5.out.size HFV3.out HFV4.out HFV5.out V345.out V45.out HV5.out
   go_wp2_with fail
   refine(hmk).mono ?_
   rintro e w9 ⟨v9,rfl,hf9,h9,k9,hv9⟩
   have Q9:Hid _:=And.intro hf9 (And.intro h9 (And.intro (KWw5.out.trans k9) hv9))
   clear hf9 h9 k9 hv9
   go_wp2
   go_ret
   rw[HM.out]
   exact⟨_,rfl,Q9.out⟩
  have e63:((O.1.toNat:Int) == 63)=false:=by rw[show (63:Int)=((63:UInt8).toNat:Int) from rfl,u8_eq,decide_eq_false h63]
  by_cases h109:O.1=109
  ·have hc:(O.1.toNat:Int)=109:=by rw[h109];rfl
   have HM:Hid (RS.part (f+1) r=_):=HM0.out.trans ((if_neg h110).trans ((if_neg h126).trans ((if_neg h47).trans ((if_neg h63).trans (if_pos h109)))))
   have hme:=rd_measure H2.out HLN.out.1 HLN.out.2.2
   clear h110 h126 h47 h63 h109 HM0 e110 e126 e47 e63
   rw[hc]
   clear hc
   go_wp2_with fail
   refine hme.mono ?_
   rintro e w9 ⟨v9,rfl,hf9,h9,k9,hv9⟩
   have Q9:Hid _:=And.intro hf9 (And.intro h9 (And.intro (KWw2.out.trans k9) (hv9.lower KWw2.out.size)))
   clear hme hf9 h9 k9 hv9
   go_wp2
   go_ret
   rw[HM.out]
   exact⟨_,rfl,Q9.out⟩
  have e109:((O.1.toNat:Int) == 109)=false:=by rw[show (109:Int)=((109:UInt8).toNat:Int) from rfl,u8_eq,decide_eq_false h109]
  by_cases h112:O.1=112
  ·have hc:(O.1.toNat:Int)=112:=by rw[h112];rfl
   have HM:Hid (RS.part (f+1) r=_):=HM0.out.trans ((if_neg h110).trans ((if_neg h126).trans ((if_neg h47).trans ((if_neg h63).trans ((if_neg h109).trans (if_pos h112))))))
   have hme:=rd_probe HP.out H2.out HLN.out.2.1 HPC.out HPF.out
   clear h110 h126 h47 h63 h109 h112 HM0 e110 e126 e47 e63 e109
   rw[hc]
   clear hc
   go_wp2_with fail
   refine hme.mono ?_
   rintro e w9 ⟨v9,rfl,hf9,h9,k9,hv9⟩
   have Q9:Hid _:=And.intro hf9 (And.intro h9 (And.intro (KWw2.out.trans k9) (hv9.lower KWw2.out.size)))
   clear hme hf9 h9 k9 hv9
   go_wp2
   go_ret
   rw[HM.out]
   exact⟨_,rfl,Q9.out⟩
  have e112:((O.1.toNat:Int) == 112)=false:=by rw[show (112:Int)=((112:UInt8).toNat:Int) from rfl,u8_eq,decide_eq_false h112]
  have HM:Hid (RS.part (f+1) r=_):=HM0.out.trans ((if_neg h110).trans ((if_neg h126).trans ((if_neg h47).trans ((if_neg h63).trans ((if_neg h109).trans (if_neg h112))))))
  have hn47:O.1.toNat≠47:=fun e=>h47 (UInt8.toNat_inj.1 e)
  have HN47:Hid (O.1.toNat≠47):=hn47
  have hrk:=zM9 O.1.toNat w2
  have hrs:zCL (zET O.1.toNat)∧((zC0 O.1.toNat=true∧∃ F,zET O.1.toNat=.func (.func F) #[] #[])∨(zC0 O.1.toNat=false∧zET O.1.toNat=.nilFunc)):=by
   have q:=zQH O.1.toNat
   refine⟨?_,q⟩
   rcases q with⟨-,F,e⟩ | ⟨-,e⟩ <;> rw[e]
   ·exact .inr ⟨_,_,_,rfl⟩
   ·exact .inl rfl
  have hrq:=zCH H2.out (zC0 O.1.toNat)
  have HGQ:Hid ((O.2.require (zC0 O.1.toNat)).Good):=HGN.out.same (.require _ _) rfl rfl rfl
  have HFQ:Hid ((O.2.require (zC0 O.1.toNat)).Fu f):=HFN.out.step HGN.out.1 (.require _ _)
  clear h110 h126 h47 h63 h109 h112 HM0 hn47
  generalize O.1.toNat=c at *
  go_wp2_with fail
  refine hrk.mono ?_
  rintro e w' ⟨rfl,hw⟩
  have hw:=hw.symm
  subst hw
  clear hrk e110 e126 e47 e63 e109 e112
  have hnq1:∀ (w:World) (f:Fn) (a b:Array Value),(binOp .neq 189 (.func f a b) .nilFunc).run Tryz.prog w=.ok (.bool true) w:=fun w f a b=>zMI w _ f a b Tryz.underlying189
  have hnq2:∀ (w:World),(binOp .neq 189 .nilFunc .nilFunc).run Tryz.prog w=.ok (.bool false) w:=fun w=>zNS w _ Tryz.underlying189
  obtain⟨hfr,hrs⟩:=hrs
  generalize hRK:zET c=rk at *
  have HRK:Hid (zET c=rk):=hRK
  clear hRK
  generalize hIR:zC0 c=ir at *
  have HIR:Hid (zC0 c=ir):=hIR
  clear hIR
  rcases hrs with⟨rfl,F,rfl⟩ | ⟨rfl,rfl⟩
  ·clear hfr
   go_wp2_with fail
   refine hrq.mono ?_
   rintro e w3 ⟨rfl,h3,k3⟩
   have H3:Hid _:=h3
   have KWw3:Hid (KR R w w3):=KWw2.out.trans k3
   clear hrq h3 k3
   have hpc:=HP.out w3 _ H3.out HGQ.out HFQ.out
   go_wp2_with fail
   refine hpc.mono ?_
   rintro e w4 ⟨v4,rfl,hf4,h4,k4,hv4⟩
   have HS4:Hid (RSt R w4 (RS.part f (O.2.require true)).2):=h4
   have KS4:Hid (KR R w3 w4):=k4
   have HV4:Hid (VOk R w.heap.size w4 (RS.part f (O.2.require true)).2 (RS.part f (O.2.require true)).1 v4):=hv4.lower KWw3.out.size
   have KWw4:Hid (KR R w w4):=KWw3.out.trans k4
   have GS4:Hid ((RS.part f (O.2.require true)).2.Good):=RS.Good.part f _ HGQ.out
   have FS4:Hid ((RS.part f (O.2.require true)).2.Fu f):=HFQ.out.step HGQ.out.1 (RS.From.part f _)
   have WS4:Hid ((RS.part f (O.2.require true)).2.wrong=false→((O.2.require true):RS).wrong=false):=fun q=>((RS.From.part f _ HGQ.out.1).2 q).1
   have HFV4:Hid (zCL v4):=hf4
   clear hpc h4 k4 hv4 hf4
   have hpc:=HP.out w4 _ HS4.out GS4.out FS4.out
   go_wp2_with fail
   refine hpc.mono ?_
   rintro e w5 ⟨v5,rfl,hf5,h5,k5,hv5⟩
   have HS5:Hid (RSt R w5 (RS.part f (RS.part f (O.2.require true)).2).2):=h5
   have KS5:Hid (KR R w4 w5):=k5
   have HV5:Hid (VOk R w.heap.size w5 (RS.part f (RS.part f (O.2.require true)).2).2 (RS.part f (RS.part f (O.2.require true)).2).1 v5):=hv5.lower KWw4.out.size
   have KWw5:Hid (KR R w w5):=KWw4.out.trans k5
   have GS5:Hid ((RS.part f (RS.part f (O.2.require true)).2).2.Good):=RS.Good.part f _ GS4.out
   have FS5:Hid ((RS.part f (RS.part f (O.2.require true)).2).2.Fu f):=FS4.out.step GS4.out.1 (RS.From.part f _)
   have WS5:Hid ((RS.part f (RS.part f (O.2.require true)).2).2.wrong=false→((RS.part f (O.2.require true)).2:RS).wrong=false):=fun q=>((RS.From.part f _ GS4.out.1).2 q).1
   have HFV5:Hid (zCL v5):=hf5
   clear hpc h5 k5 hv5 hf5
   have V45:Hid _:=HV4.out.step KS5.out WS5.out
   have hmk:=mk_pair (lo:=w.heap.size) HS5.out KWw5.out.size c HN47.out HFV4.out HFV5.out V45.out HV5.out
   rw[HRK.out] at hmk
   go_wp2_with fail
   refine(hmk).mono ?_
   rintro e w9 ⟨v9,rfl,hf9,h9,k9,hv9⟩
   have Q9:Hid _:=And.intro hf9 (And.intro h9 (And.intro (KWw5.out.trans k9) hv9))
   clear hf9 h9 k9 hv9
   go_wp2
   go_ret
   rw[HM.out]
   exact⟨_,rfl,Q9.out⟩
  ·clear hfr
   go_wp2_with fail
   refine hrq.mono ?_
   rintro e w3 ⟨rfl,h3,k3⟩
   have H3:Hid _:=h3
   have KWw3:Hid (KR R w w3):=KWw2.out.trans k3
   clear hrq h3 k3
   have hpc:=HP.out w3 _ H3.out HGQ.out HFQ.out
   go_wp2_with fail
   refine hpc.mono ?_
   rintro e w4 ⟨v4,rfl,hf4,h4,k4,hv4⟩
   have HS4:Hid (RSt R w4 (RS.part f (O.2.require false)).2):=h4
   have KS4:Hid (KR R w3 w4):=k4
   have HV4:Hid (VOk R w.heap.size w4 (RS.part f (O.2.require false)).2 (RS.part f (O.2.require false)).1 v4):=hv4.lower KWw3.out.size
   have KWw4:Hid (KR R w w4):=KWw3.out.trans k4
   have GS4:Hid ((RS.part f (O.2.require false)).2.Good):=RS.Good.part f _ HGQ.out
   have FS4:Hid ((RS.part f (O.2.require false)).2.Fu f):=HFQ.out.step HGQ.out.1 (RS.From.part f _)
   have WS4:Hid ((RS.part f (O.2.require false)).2.wrong=false→((O.2.require false):RS).wrong=false):=fun q=>((RS.From.part f _ HGQ.out.1).2 q).1
   have HFV4:Hid (zCL v4):=hf4
   clear hpc h4 k4 hv4 hf4
   have hpc:=HP.out w4 _ HS4.out GS4.out FS4.out
   go_wp2_with fail
   refine hpc.mono ?_
   rintro e w5 ⟨v5,rfl,hf5,h5,k5,hv5⟩
   have HS5:Hid (RSt R w5 (RS.part f (RS.part f (O.2.require false)).2).2):=h5
   have KS5:Hid (KR R w4 w5):=k5
   have HV5:Hid (VOk R w.heap.size w5 (RS.part f (RS.part f (O.2.require false)).2).2 (RS.part f (RS.part f (O.2.require false)).2).1 v5):=hv5.lower KWw4.out.size
   have KWw5:Hid (KR R w w5):=KWw4.out.trans k5
   have GS5:Hid ((RS.part f (RS.part f (O.2.require false)).2).2.Good):=RS.Good.part f _ GS4.out
   have FS5:Hid ((RS.part f (RS.part f (O.2.require false)).2).2.Fu f):=FS4.out.step GS4.out.1 (RS.From.part f _)
   have WS5:Hid ((RS.part f (RS.part f (O.2.require false)).2).2.wrong=false→((RS.part f (O.2.require false)).2:RS).wrong=false):=fun q=>((RS.From.part f _ GS4.out.1).2 q).1
   have HFV5:Hid (zCL v5):=hf5
   clear hpc h5 k5 hv5 hf5
   have V45:Hid _:=HV4.out.step KS5.out WS5.out
   have hmk:=mk_pair (lo:=w.heap.size) HS5.out KWw5.out.size c HN47.out HFV4.out HFV5.out V45.out HV5.out
   rw[HRK.out] at hmk
   go_wp2_with fail
   refine(hmk).mono ?_
   rintro e w9 ⟨v9,rfl,hf9,h9,k9,hv9⟩
   have Q9:Hid _:=And.intro hf9 (And.intro h9 (And.intro (KWw5.out.trans k9) hv9))
   clear hf9 h9 k9 hv9
   go_wp2
   go_ret
   rw[HM.out]
   exact⟨_,rfl,Q9.out⟩
theorem rd_part : ∀ f,PCon R f
 | 0=>rd_part0
 | f+1=>rd_partS (rd_part f)
end
inductive Found where
 | num (n:Int)
 | nothing (n:Int)
 | pan (n:Int)
section
variable {σ:Type}
def zKH (N:Nat)(S:σ→World→Prop):Prop:=(∀ s w,S s w→N≤w.heap.size)∧∀ s w w',S s w→Below N w w'→S s w'
theorem zKH.stable {N:Nat}{S:σ→World→Prop}(h:zKH N S):Stable S:=fun s w _ hs hb=>h.2 s w _ hs (hb.mono (h.1 s w hs))
def LookR (S:σ→World→Prop)(r:Found × σ)(w:World)(e:Ending):Prop:=
 match r with
 | (.num n,s)=>e=.returned (.tuple #[.int .i64 n,.bool true])∧In64 n∧S s w
 | (.nothing n,s)=>e=.returned (.tuple #[.int .i64 n,.bool false])∧S s w
 | (.pan n,s)=>e=.panicked [{ v:=.iface 2 (.int .i64 n),recovered:=false }]∧S s w
def ansOf (A:Nat→Addr):Found→Ans
 | .num n=>.val n
 | .nothing _=>.fail 0 416 (.pointer (some (A 6)))
 | .pan n=>.pan 2 (.int .i64 n)
variable {A:Nat→Addr} {S:σ→World→Prop} {R:Nat} {lv mv:Value} {w0:World}
def zE0 (p:Nat)(r:Found × σ):Res × σ:=
 match r with
 | (.num n,s)=>(.val n,s)
 | (.nothing _,s)=>(.held p .noData,s)
 | (.pan n,s)=>(.held p (.panic n),s)
end
end Go.Proofs.YtbokdbaagacnlaaGreatDoor
namespace Go.Proofs.YtbokdbaagacnlaaGreatDoor
open Go.RowKit
def MapF (w:World)(m:Nat)(F:ByteArray→Option Value):Prop:=∃ es clock,w.heap[m]?=some (.map es clock)∧(∀ e∈es.toList,∃ s,e.key=.string s)∧MapKept.Stamped es clock∧∀ s v,F s=some v↔∃ e∈es.toList,e.key=.string s∧e.val=v
section
variable {w w':World} {m:Nat} {F:ByteArray→Option Value}
theorem MapF.new (w:World):MapF (w.alloc (.map #[] 0)) w.heap.size (fun _=>none):=⟨#[],0,heap_alloc_new _ _,by simp,MapKept.stamped_empty 0,by simp⟩
theorem MapF.block (h:MapF w m F)(hb:w'.heap[m]?=w.heap[m]?):MapF w' m F:=by
 obtain⟨es,clock,h1,h2⟩:=h
 exact⟨es,clock,hb.trans h1,h2⟩
theorem MapF.lt (h:MapF w m F):m<w.heap.size:=by obtain⟨es,clock,h1,-⟩:=h;exact zA2 h1
theorem MapF.congr {G:ByteArray→Option Value}(h:MapF w m F)(e:∀ s,F s=G s):MapF w m G:=by
 obtain⟨es,clock,h1,h2,h3,h4⟩:=h
 exact⟨es,clock,h1,h2,h3,fun s v=>by rw[←e];exact h4 s v⟩
theorem MapF.find (h:MapF w m F)(s:ByteArray):∃ es clock,w.heap[m]?=some (.map es clock)∧((Instr.findNow .string (.string s) es.toList 0=some none∧F s=none)∨∃ j e,Instr.findNow .string (.string s) es.toList 0=some (some (j,e.val))∧es.toList[j]?=some e∧e.key=.string s∧F s=some e.val):=by
 obtain⟨es,clock,h1,h2,h3,h4⟩:=h
 refine⟨es,clock,h1,?_⟩
 rcases MapKept.findNow_spec (d:=.string) (k:=.string s) (by simp[MapKept.IsKey]) es.toList 0 (fun x hx=>by obtain⟨t,e⟩:=h2 x hx;rw[e];simp[MapKept.IsKey]) with⟨q1,q2⟩ | ⟨j,e,q1,q2,q3⟩
 ·refine .inl ⟨q1,?_⟩
  cases e:F s with
  | none=>rfl
  | some v=>obtain⟨x,hx,hk,-⟩:=(h4 s v).1 e;exact absurd hk (q2 x hx)
 ·exact .inr ⟨j,e,by simpa using q1,q2,q3,(h4 s e.val).2 ⟨e,List.mem_of_getElem? q2,q3,rfl⟩⟩
theorem MapF.lookup (h:MapF w m F)(s:ByteArray):(Instr.lookup 113 (.map (some m)) (.string s) false).run Tryz.prog w=.ok ((F s).getD .nilFunc) w:=by
 obtain⟨es,clock,h1,h2⟩:=h.find s
 have hc:∀ b,(Instr.checkKey b 10000 9 (.string s)).run Tryz.prog w=.ok () w:=fun b=>MapKept.run_checkKey (k:=.string s) Tryz.underlying9 (by simp[MapKept.IsKey]) b 9999
 rcases h2 with⟨q1,q2⟩ | ⟨j,e,q1,-,-,q4⟩
 ·simp[Instr.lookup,run_underlying Tryz.underlying113,MapKept.run_getObj_map h1,hc,MapKept.run_findKey Tryz.underlying9 q1,Result.andThen,q2]
 ·simp[Instr.lookup,run_underlying Tryz.underlying113,MapKept.run_getObj_map h1,hc,MapKept.run_findKey Tryz.underlying9 q1,Result.andThen,q4]
theorem zPL (w:World)(s:ByteArray):(Instr.lookup 113 (.map none) (.string s) false).run Tryz.prog w=.ok .nilFunc w:=by
 have hc:∀ b,(Instr.checkKey b 10000 9 (.string s)).run Tryz.prog w=.ok () w:=fun b=>MapKept.run_checkKey (k:=.string s) Tryz.underlying9 (by simp[MapKept.IsKey]) b 9999
 have hf:Instr.findNow .string (.string s) ([]:List MapEntry) 0=some none:=rfl
 simp[Instr.lookup,run_underlying Tryz.underlying113,hc,MapKept.run_findKey Tryz.underlying9 hf,Result.andThen]
theorem MapF.update (h:MapF w m F)(s:ByteArray)(v:Value):∃ w',(Instr.mapUpdate 113 (.map (some m)) (.string s) v).run Tryz.prog w=.ok () w'∧MapF w' m (fun t=>if t=s then some v else F t)∧w.grownBy w' (some m):=by
 have hh:=h
 obtain⟨es,clock,h1,h2,h3,h4⟩:=hh
 obtain⟨es0,clock0,h10,hf⟩:=h.find s
 rw[h1] at h10
 injection h10 with h10
 injection h10 with e1 e2
 subst e1 e2
 have hc:∀ b,(Instr.checkKey b 10000 9 (.string s)).run Tryz.prog w=.ok () w:=fun b=>MapKept.run_checkKey (k:=.string s) Tryz.underlying9 (by simp[MapKept.IsKey]) b 9999
 have hgr:∀ o,w.grownBy { w with heap:=w.heap.setIfInBounds m o } (some m):=fun o=>⟨rfl,rfl,rfl,by simp,fun k hk hne=>by
  have:m≠k:=fun e=>hne (by rw[e])
  simp[this]⟩
 have hsame:∀ o,({ w with heap:=w.heap.setIfInBounds m o }:World).heap[m]?=some o:=fun o=>by
  have:=zA2 h1
  simp[this]
 rcases hf with⟨q1,q2⟩ | ⟨j,e,q1,q2,q3,q4⟩
 ·refine⟨_,by simp[Instr.mapUpdate,run_underlying Tryz.underlying113,MapKept.run_getObj_map h1,hc,MapKept.run_findKey Tryz.underlying9 q1,MapKept.run_setObj_map _ h1,Result.andThen];rfl,⟨_,_,hsame _,?_,?_,?_⟩,hgr _⟩
  ·intro x hx
   simp at hx
   rcases hx with hx | rfl
   ·exact h2 x (by simpa using hx)
   ·exact⟨s,rfl⟩
  ·exact MapKept.stamped_push h3 fun x hx e=>by
    have:=(h4 s x.val).2 ⟨x,hx,e,rfl⟩
    rw[q2] at this
    cases this
  ·intro t u
   by_cases hts:t=s
   ·subst hts
    simp only[if_true]
    constructor
    ·intro q
     injection q with q
     subst q
     exact⟨⟨.string t,v,clock⟩,by simp,rfl,rfl⟩
    ·rintro⟨x,hx,hk,rfl⟩
     simp at hx
     rcases hx with hx | rfl
     ·have:=(h4 t x.val).2 ⟨x,by simpa using hx,hk,rfl⟩
      rw[q2] at this
      cases this
     ·rfl
   ·show (if t=s then some v else F t)=some u↔_
    rw[if_neg hts,h4]
    constructor
    ·rintro⟨x,hx,hk,hv⟩
     exact⟨x,by simp at hx ⊢;exact .inl hx,hk,hv⟩
    ·rintro⟨x,hx,hk,hv⟩
     simp at hx
     rcases hx with hx | rfl
     ·exact⟨x,by simpa using hx,hk,hv⟩
     ·injection hk with hk
      exact absurd hk.symm hts
 ·have hsb:Instr.sameBits 10000 (.string s) (.string s)=true:=by
   unfold Instr.sameBits
   exact(MapKept.bytes_beq s s).2 rfl
  have hjs:es[j]?=some e:=by simpa using q2
  have hkt:(Instr.keyThatStays (((es[j]?).map (·.key)).getD (.string s)) (.string s)).run Tryz.prog w=.ok (.string s) w:=by
   rw[hjs]
   simp[Instr.keyThatStays,q3,hsb]
  refine⟨_,by simp[Instr.mapUpdate,run_underlying Tryz.underlying113,MapKept.run_getObj_map h1,hc,MapKept.run_findKey Tryz.underlying9 q1,MapKept.run_setObj_map _ h1,Result.andThen,hkt];rfl,⟨_,_,hsame _,?_,?_,?_⟩,hgr _⟩
  ·intro x hx
   obtain⟨k,hk⟩:=List.getElem?_of_mem hx
   rw[Array.toList_modify,List.getElem?_modify] at hk
   split at hk
   ·cases hq:es.toList[k]? with
    | none=>rw[hq] at hk;cases hk
    | some y=>rw[hq] at hk;injection hk with hk;exact⟨s,by rw[←hk]⟩
   ·exact h2 x (List.mem_of_getElem? (by simpa using hk))
  ·exact MapKept.stamped_modify h3 j _ (fun _ _=>rfl) (fun x _ hx=>by rw[hjs] at hx;injection hx with hx;subst hx;exact q3.symm)
  ·have huniq:∀ (k:Nat) (x:MapEntry),es.toList[k]?=some x→x.key=.string s→k=j:=fun k x hx hk=>by
    have a1:(es.toList.map (·.key))[k]?=some (.string s):=by rw[List.getElem?_map,hx];simp[hk]
    have a2:(es.toList.map (·.key))[j]?=some (.string s):=by rw[List.getElem?_map,q2];simp[q3]
    obtain⟨b1,c1⟩:=List.getElem?_eq_some_iff.1 a1
    obtain⟨b2,c2⟩:=List.getElem?_eq_some_iff.1 a2
    rcases Nat.lt_trichotomy k j with q | q | q
    ·exact absurd (c1.trans c2.symm) (List.pairwise_iff_getElem.1 h3.2.2 k j b1 b2 q)
    ·exact q
    ·exact absurd (c2.trans c1.symm) (List.pairwise_iff_getElem.1 h3.2.2 j k b2 b1 q)
   have hget:∀ k,(es.modify j fun x=>{ x with key:=.string s,val:=v }).toList[k]?=if j=k then(es.toList[k]?).map (fun x=>{ x with key:=.string s,val:=v }) else es.toList[k]?:=fun k=>by
    rw[Array.toList_modify,List.getElem?_modify]
    split <;> simp
   intro t u
   show (if t=s then some v else F t)=some u↔_
   by_cases hts:t=s
   ·subst hts
    rw[if_pos rfl]
    constructor
    ·intro q
     injection q with q
     subst q
     refine⟨{ e with key:=.string t,val:=v },List.mem_of_getElem? (i:=j) ?_,rfl,rfl⟩
     rw[hget,if_pos rfl,q2]
     rfl
    ·rintro⟨x,hx,hk,rfl⟩
     obtain⟨k,hk2⟩:=List.getElem?_of_mem hx
     rw[hget] at hk2
     split at hk2
     ·cases hq:es.toList[k]? with
      | none=>rw[hq] at hk2;cases hk2
      | some y=>rw[hq] at hk2;injection hk2 with hk2;rw[←hk2]
     ·rename_i hne
      exact absurd (huniq k x hk2 hk).symm hne
   ·rw[if_neg hts,h4]
    constructor
    ·rintro⟨x,hx,hk,hv⟩
     obtain⟨k,hk2⟩:=List.getElem?_of_mem hx
     have hne:¬ j=k:=fun e2=>by
      subst e2
      rw[q2] at hk2
      injection hk2 with hk2
      subst hk2
      rw[q3] at hk
      injection hk with hk
      exact hts hk.symm
     exact⟨x,List.mem_of_getElem? (i:=k) (by rw[hget,if_neg hne];exact hk2),hk,hv⟩
    ·rintro⟨x,hx,hk,hv⟩
     obtain⟨k,hk2⟩:=List.getElem?_of_mem hx
     rw[hget] at hk2
     split at hk2
     ·cases hq:es.toList[k]? with
      | none=>rw[hq] at hk2;cases hk2
      | some y=>
       rw[hq] at hk2
       injection hk2 with hk2
       rw[←hk2] at hk
       injection hk with hk
       exact absurd hk.symm hts
     ·exact⟨x,List.mem_of_getElem? hk2,hk,hv⟩
end
theorem zAS (w:World){ops:Array Oper}{rest:List Oper}{o:Oper}{a:Act}{Q:Exit→Act→World→Prop}
  (hg:o.guard=none) (m x v:Operand) (hop:o.op=Op.mapUpdate 113 m x v) (b:Nat) (F:ByteArray→Option Value) (s:ByteArray) (val:Value)
  (hm:a.eval m=.map (some b)) (h:MapF w b F) (hx:a.eval x=.string s) (hv:a.eval v=val)
  (hK:∀ w',MapF w' b (fun t=>if t=s then some val else F t)→w.grownBy w' (some b)→wpList Tryz.prog ops Q rest (a.put o.dst undef) w'):
  wpList Tryz.prog ops Q (o :: rest) a w:=by
 refine wpList_plain hg fun K' hK'=>?_
 obtain⟨w',hrun,r1,r2⟩:=h.update s val
 unfold Oper.wp
 simp[execOp,hop,hm,hx,hv,hrun,Result.andThen]
 exact hK' _ _ (hK w' r1 r2)
end Go.Proofs.YtbokdbaagacnlaaGreatDoor
