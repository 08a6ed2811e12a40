import Derived.Test.YtbokdbaagacnlaaGreatDoorJQ10
namespace Go.Proofs.YtbokdbaagacnlaaGreatDoor
open Go.RowKit Go.Lib
section
variable {s:ByteArray} {R:Nat}
set_option maxRecDepth 1000000 in
set_option maxHeartbeats 1000000 in
theorem zMT {N:Nat}(hp:CCon s R 224 .minus N){w:World}{I:Nat}{ms:List ByteArray}(hN:(toks s).length - (I+1)≤N)(h:CStM s R w I ms)(hb:zBN s I [45]=true):
  Calls Tryz.prog 237 #[.pointer (some ⟨R,0,none⟩)] w fun e w'=>∃ o,D s (toks s) .minus I o∧KC R w w'∧zDB s R ms w.heap.size w' o e:=by
 have hst:=zD8 h (zDE (by decide) hb)
 have HP:Hid (CCon s R 224 .minus N):=hp
 have HK:Hid (kd (toks s) I=45):=zDN.1 hb
 clear h hp hb
 go_enter Tryz.func237,Tryz.ntmps237
 go_wp2_with fail
 refine hst.mono ?_
 rintro e w1 ⟨rfl,hs1,hb1⟩
 have hpc:=HP.out w1 (I+1) ms hN hs1
 have lR1:R<w1.heap.size:=by obtain⟨a,b,c,-⟩:=hs1.blk;exact zA2 c
 have HB1:Hid (KC R w w1):=hb1
 clear hs1 hb1 hst
 go_wp2_with fail
 refine hpc.mono ?_
 rintro e w2 ⟨o,hD,hb2,ha⟩
 have HD:Hid (D s (toks s) .minus (I+1) o):=hD
 have HB2:Hid (KC R w w2):=HB1.out.trans hb2
 have hs2:=hb2.size
 clear hD hb2 hpc
 cases o with
 | ok ts J=>
  obtain⟨t,ty2,pa2,rfl,rfl,hn,hs⟩:=ha
  have HS:Hid (CStM s R w2 J (zAT ms (mets t))):=hs
  have HN:Hid (zAO (Hi w.heap.size) w2 t (.iface ty2 (.pointer pa2))):=hn.up HB1.out.size
  clear hs hn
  go_wp2
  go_ret2
  have bl:=(Below.refl w2.heap.size w2).alloc (Nat.le_refl _)
  refine⟨.ok [_] J,.ngGo HK.out HD.out,HB2.out.alloc (by omega) _,_,_,_,rfl,rfl,?_,by rw[mets_neg];exact HS.out.later (bl _)⟩
  unfold zAO
  exact⟨_,_,rfl,HB2.out.size,heap_alloc_new _ _,HN.out.below (bl _)⟩
 | bad J=>
  obtain⟨b,rfl,hbk⟩:=ha
  have HBK:Hid (w2.heap[b]?=some (.cells #[.int .i64 (pl (toks s) J)] 155 (0,0))):=hbk
  clear hbk
  go_wp2
  go_ret2
  exact⟨.bad J,.ngBad HK.out HD.out,HB2.out,b,rfl,HBK.out⟩
set_option maxRecDepth 1000000 in
set_option maxHeartbeats 1000000 in
theorem code_inner {N:Nat}(hp:CCon s R 96 .choice N){w:World}{I:Nat}{ms:List ByteArray}(hN:(toks s).length - (I+1)≤N)(h:CStM s R w I ms)(hb:zBN s I [40]=true):
  Calls Tryz.prog 238 #[.pointer (some ⟨R,0,none⟩)] w fun e w'=>∃ o,D s (toks s) .minus I o∧KC R w w'∧zDB s R ms w.heap.size w' o e:=by
 have hst:=zD8 h (zDE (by decide) hb)
 have HP:Hid (CCon s R 96 .choice N):=hp
 have HK:Hid (kd (toks s) I=40):=zDN.1 hb
 clear h hp hb
 go_enter Tryz.func238,Tryz.ntmps238
 go_wp2_with fail
 refine hst.mono ?_
 rintro e w1 ⟨rfl,hs1,hb1⟩
 have hpc:=HP.out w1 (I+1) ms hN hs1
 have HB1:Hid (KC R w w1):=hb1
 clear hs1 hb1 hst
 go_wp2_with fail
 refine hpc.mono ?_
 rintro e w2 ⟨o,hD,hb2,ha⟩
 have HD:Hid (D s (toks s) .choice (I+1) o):=hD
 have HB2:Hid (KC R w w2):=HB1.out.trans hb2
 clear hD hb2 hpc
 cases o with
 | ok ts J=>
  obtain⟨t,ty2,pa2,rfl,rfl,hn,hs⟩:=ha
  have htk:=zCJ hs [41] (by decide)
  have HN:Hid (∀ w',KC R w2 w'→zAO (Hi w.heap.size) w' t (.iface ty2 (.pointer pa2))):=fun w' hk=>(hn.up HB1.out.size).moves (hs.nmoves hk)
  clear hs hn
  go_wp2_with fail
  refine htk.mono ?_
  rintro e w3 ⟨hb3,ha⟩
  have HB3:Hid (KC R w w3):=HB2.out.trans hb3
  have HN3:Hid (zAO (Hi w.heap.size) w3 t (.iface ty2 (.pointer pa2))):=HN.out _ hb3
  clear hb3 htk HN
  rcases ha with⟨hb,rfl,hs⟩ | ⟨hb,b,rfl,hbk⟩
  ·have HS:Hid (CStM s R w3 (J+1) (zAT ms (mets t))):=hs
   have HK2:Hid (kd (toks s) J=41):=zDN.1 hb
   clear hs hb
   go_wp2
   go_ret2
   exact⟨.ok [t] (J+1),.paGo HK.out HD.out HK2.out,HB3.out,_,_,_,rfl,rfl,HN3.out,HS.out⟩
  ·have HBK:Hid (w3.heap[b]?=some (.cells #[.int .i64 (pl (toks s) J)] 155 (0,0))):=hbk
   have HK2:Hid (kd (toks s) J≠41):=fun k=>zC4 hb (zDN.2 k)
   clear hbk hb
   go_wp2
   go_ret2
   exact⟨.bad J,.paB1 HK.out HD.out HK2.out,HB3.out,b,rfl,HBK.out⟩
 | bad J=>
  obtain⟨b,rfl,hbk⟩:=ha
  have HBK:Hid (w2.heap[b]?=some (.cells #[.int .i64 (pl (toks s) J)] 155 (0,0))):=hbk
  clear hbk
  go_wp2
  go_ret2
  exact⟨.bad J,.paBad HK.out HD.out,HB2.out,b,rfl,HBK.out⟩
end
section
variable {s:ByteArray} {R:Nat}
theorem Tryz.infoStr : (Tryz.prog.info? 9).map (fun i=>(i.zero,i.size,i.bytes))=some (some (.string { data:=#[] }),1,16):=by kernel_rfl
theorem zIQ {w:World}{base:Nat}{mv:Value}{ms:List ByteArray}(h:w.ownsRow base 9 1 mv ms.length (ms.map Value.string))(hl:ms.length≤1000)(x:ByteArray):
  Calls Tryz.prog 179 #[mv,.string x] w fun e w'=>e=.returned (.bool (containsS ms x))∧w'=w:=by
 rcases h.2 with⟨rfl,h0⟩ | ⟨g,cap,cur,rfl,hbg,hg,hnc,hcm,hcs,htake⟩
 ·have:ms=[]:=List.length_eq_zero_iff.1 (by simpa using h0)
  subst this
  exact(Tryz.slices_Contains_string_empty none 0 x w).mono fun e w' h=>⟨h.1,h.2⟩
 ·refine(Tryz.slices_Contains_string g 0 ms.length cap ms x w (Nat.le_refl _) (by omega) ?_).mono fun e w' h=>⟨by simpa using h.1,h.2⟩
  intro j hj
  have:=h.cells (g:=g) rfl j (.string (ms.getD j ByteArray.empty)) (by simp[List.getD_eq_getElem?_getD,List.getElem?_eq_getElem hj])
  have ha:(⟨g,0,none⟩:Addr).add j=⟨g,0+j,none⟩:=by
   simp only[Addr.add]
   split
   ·rename_i h0
    subst h0
    rfl
   ·rfl
  rw[ha] at this
  exact this
theorem note_state {w w5:World}{I:Nat}{txt:ByteArray}{mv v':Value}{ms:List ByteArray}{x:ByteArray}(h:CStM s R w I ms)(h1:CBlk s R w I txt mv)(h2:kd (toks s) I≠33→txt=tx s (toks s) I)(h3:w.ownsRow (R+1) 9 1 mv ms.length (ms.map Value.string))(h4:ms.length+1≤I)
  (hown:w5.ownsRow (R+1) 9 1 v' (ms.length+1) (ms.map Value.string ++ [.string x])) (hg:(w.alloc (.cells #[.string x] 9)).grownBy w5 mv.ownBlock) (hb:v'.ownBlock=mv.ownBlock∨v'.ownBlock=some (w.heap.size+1)):
  CStM s R (w5.setCell ⟨R,4,none⟩ v') I (ms ++ [x])∧KC R w (w5.setCell ⟨R,4,none⟩ v'):=by
 have lR:=zA2 h1
 have hne:some R≠mv.ownBlock:=fun e=>by have:=(h3.lt _ e.symm).1;omega
 have h5:CBlk s R w5 I txt mv:=(hg.block R (by simp;omega) hne).trans ((Below.heap_alloc _ _ _ lR).trans h1)
 have e:=zA4 (i:=4) (v:=v') h5
 have hk:KC R w (w5.setCell ⟨R,4,none⟩ v'):=by
  refine⟨hg.os,hg.tape,hg.output,by have:=hg.size;simp at this ⊢;omega,fun k hk hkR hkm=>?_,?_⟩
  ·rw[Below.heap_setCell _ _ _ _ hkR]
   rw[zG0 h1] at hkm
   exact(hg.block k (by simp;omega) (fun e=>hkm e.symm)).trans (Below.heap_alloc _ _ _ hk)
  ·have e2:mrow (w5.setCell ⟨R,4,none⟩ v') R=v'.ownBlock:=by
    unfold mrow
    rw[e]
    rfl
   rw[e2,zG0 h1]
   rcases hb with hb | hb
   ·exact .inl hb
   ·exact .inr ⟨_,hb,by omega⟩
 refine⟨⟨⟨txt,v',e,h2,?_⟩,by simp;omega,h.tab_kc hk,h.lt,h.small⟩,hk⟩
 have k1:=hown.kept (w':=w5.setCell ⟨R,4,none⟩ v') (row:=some R) ⟨rfl,rfl,rfl,by simp,fun k hk hne=>by
  have hne':k≠R:=fun e=>hne (by rw[e])
  rw[Below.heap_setCell _ _ _ _ hne']⟩ (.inr fun e=>by have:=(hown.lt _ e).1;omega)
 simpa using k1
set_option maxRecDepth 1000000 in
set_option maxHeartbeats 1000000 in
theorem code_note {w:World}{I:Nat}{ms:List ByteArray}(h:CStM s R w I ms)(hM:ms.length+1≤I)(x:ByteArray):
  Calls Tryz.prog 254 #[.pointer (some ⟨R,0,none⟩),.string x] w fun e w'=>e=.returned (.tuple #[])∧CStM s R w' I (zDG ms x)∧KC R w w':=by
 obtain⟨i0,hi,hz0,hz1,hz2⟩:=info_parts Tryz.infoStr
 obtain⟨txt,mv,h1,h2,h3⟩:=h.blk
 have lR:=zA2 h1
 have c4:=zA0 (i:=4) h1 rfl
 have f4:=zA1 (i:=4) h1
 have hI:I≤400:=by have:=h.lt;have:=zED s;have:=h.small;omega
 have hcn:=zIQ h3 (by omega) x
 have HN:Hid (zDG ms x=if containsS ms x=true then ms else ms ++ [x]):=rfl
 obtain⟨ms2,hms2⟩:∃ m2,zDG ms x=m2:=⟨_,rfl⟩
 rw[hms2] at HN ⊢
 clear hms2
 obtain⟨ao,ln,cp,rfl⟩:=owns_slice h3
 have H:Hid (CStM s R w I ms):=h
 have H1:Hid (CBlk s R w I txt (.slice ao ln cp)):=h1
 have H2:Hid (kd (toks s) I≠33→txt=tx s (toks s) I):=h2
 have H3:Hid (w.ownsRow (R+1) 9 1 (.slice ao ln cp) ms.length (ms.map Value.string)):=h3
 clear h h1 h2 h3
 go_enter Tryz.func254,Tryz.ntmps254
 go_wp2_with fail
 refine hcn.mono ?_
 rintro e w1 ⟨rfl,hw⟩
 have hw:=hw.symm
 subst hw
 clear hcn
 cases hcx:containsS ms x with
 | true=>
  have HM:Hid (ms2=ms):=HN.out.trans (if_pos hcx)
  clear hcx
  go_wp2
  go_end0
  exact⟨rfl,by rw[HM.out];exact H.out,KC.refl _ _⟩
 | false=>
  have HM:Hid (ms2=ms ++ [x]):=HN.out.trans (if_neg (by rw[hcx];decide))
  clear hcx
  go_wp2_with (first | (at_builtin; refine zAA _ rfl _ _ 65 rfl (R + 1) 9 i0 (.string { data := #[] }) 1 16 Tryz.underlying65 hi hz0 hz1 hz2 rfl (by decide) (.slice ao ln cp) ms.length (ms.map Value.string) rfl (H3.out.alloc _) ⟨w.heap.size, 0, none⟩ 1 1 [.string x] rfl rfl (zDR _ _ _) (fun x hx => by simp at hx; subst hx; rfl) (by unfold maxLen; omega) (by omega) (by simp; omega) (by decide) ?_; intro v' w5 hown hgrow hnil
                        have q:=note_state H.out H1.out H2.out H3.out hM hown hgrow (by simpa using hnil)
                        have n5:CBlk s R w5 I txt (.slice ao ln cp):=(hgrow.block R (by simp;omega) (fun e=>by have:=(H3.out.lt _ e.symm).1;omega)).trans ((Below.heap_alloc _ _ _ lR).trans H1.out)
                        have m5:=zA0 (i:=4) n5 rfl
                        have g5:=zA1 (i:=4) n5
                        have Q:Hid _:=q
                        obtain⟨ao2,ln2,cp2,rfl⟩:=owns_slice hown
                        clear n5 hgrow hown hnil q))
  go_end0
  exact⟨rfl,by rw[HM.out];exact Q.out.1,Q.out.2⟩
end
section
variable {s:ByteArray} {R:Nat}
abbrev zKI (s:ByteArray)(w:World)(b J:Nat):Prop:=w.heap[b]?=some (.cells #[.int .i64 (pl (toks s) J)] 155 (0,0))
set_option maxRecDepth 1000000 in
set_option maxHeartbeats 1000000 in
theorem zOH {w:World}{I:Nat}{ms:List ByteArray}(h:CStM s R w (I+2) ms)(k0:kd (toks s) I=97)(k1:kd (toks s) (I+1)=40)(km:isMeasure (tx s (toks s) I)=true):
  Calls Tryz.prog 248 #[.pointer (some ⟨R,0,none⟩),.agg #[.int .i64 (pl (toks s) I)],.string (tx s (toks s) I)] w fun e w'=>∃ o,D s (toks s) .minus I o∧KC R w w'∧zDB s R ms w.heap.size w' o e:=by
 have hb0:Below w.heap.size w (w.alloc (.cells #[.int .i64 (pl (toks s) I)] 153)):=(Below.refl _ _).alloc (Nat.le_refl _) _
 have h0:=h.later hb0
 have htk:=zOF h0 3 (.inr rfl)
 have HB0:Hid (KC R w (w.alloc (.cells #[.int .i64 (pl (toks s) I)] 153))):=KC.of_below hb0 (by obtain⟨a,b,c,-⟩:=h.blk;exact zA2 c)
 have AK0:Hid (∀ w',KC R (w.alloc (.cells #[.int .i64 (pl (toks s) I)] 153)) w'→AtIs (pl (toks s) I) w.heap.size w'):=fun w' hk=>h0.at_kept hk (heap_alloc_new _ _)
 have hml:ms.length≤I+2:=h.len
 have hI:I≤400:=by have:=h.lt;have:=zED s;have:=h.small;omega
 clear h h0 hb0
 go_enter Tryz.func248,Tryz.ntmps248
 go_wp2_with fail
 refine htk.mono ?_
 rintro e w1 ⟨hb1,ha⟩
 have AT1:Hid _:=AK0.out _ hb1
 have HB1:Hid (KC R w w1):=HB0.out.trans hb1
 clear hb1 htk AK0 HB0
 rcases ha with⟨k2,rfl,hs⟩ | ⟨k2,b1,rfl,hbk⟩
 rotate_left
 ·have HBK:Hid (zKI s w1 b1 (I+2)):=hbk
  have k2:kd (toks s) (I+2)≠97:=fun e=>k2 (ck3.2 e)
  clear hbk
  go_wp2
  go_ret2
  exact⟨.bad (I+2),.meB2 k0 k1 km k2,HB1.out,b1,rfl,HBK.out⟩
 have k2:kd (toks s) (I+2)=97:=ck3.1 k2
 have htk:=zCJ hs [44] (by decide)
 have AK1:Hid (∀ w',KC R w1 w'→AtIs (pl (toks s) I) w.heap.size w'):=fun w' hk=>hs.at_kept hk AT1.out
 clear hs AT1
 go_wp2_with fail
 refine htk.mono ?_
 rintro e w2 ⟨hb2,ha⟩
 have HB2:Hid (KC R w w2):=HB1.out.trans hb2
 have AT2:Hid _:=AK1.out _ hb2
 clear hb2 htk HB1 AK1
 rcases ha with⟨k3,rfl,hs⟩ | ⟨k3,b1,rfl,hbk⟩
 rotate_left
 ·have HBK:Hid (zKI s w2 b1 (I+3)):=hbk
  have k3:kd (toks s) (I+3)≠44:=fun e=>zC4 k3 (zDN.2 e)
  clear hbk
  go_wp2
  go_ret2
  exact⟨.bad (I+3),.meB3 k0 k1 km k2 k3,HB2.out,b1,rfl,HBK.out⟩
 have k3:kd (toks s) (I+3)=44:=zDN.1 k3
 have htk:=zG2 hs
 have AK2:Hid (∀ w',KC R w2 w'→AtIs (pl (toks s) I) w.heap.size w'):=fun w' hk=>hs.at_kept hk AT2.out
 clear hs AT2
 go_wp2_with fail
 refine htk.mono ?_
 rintro e w3 ⟨hb3,ha⟩
 have HB3:Hid (KC R w w3):=HB2.out.trans hb3
 have AT3:Hid _:=AK2.out _ hb3
 clear hb3 htk HB2 AK2
 rcases ha with⟨k4,rfl,hs⟩ | ⟨k4,n,b1,rfl,hbk⟩
 rotate_left
 ·have HBK:Hid (zKI s w3 b1 (I+4)):=hbk
  have k4:kd (toks s) (I+4)≠110:=fun e=>k4 (ck2.2 e)
  clear hbk
  go_wp2
  go_ret2
  exact⟨.bad (I+4),.meB4 k0 k1 km k2 k3 k4,HB3.out,b1,rfl,HBK.out⟩
 have k4:kd (toks s) (I+4)=110:=ck2.1 k4
 have htk:=zCJ hs [41] (by decide)
 have AK3:Hid (∀ w',KC R w3 w'→AtIs (pl (toks s) I) w.heap.size w'):=fun w' hk=>hs.at_kept hk AT3.out
 clear hs AT3
 go_wp2_with fail
 refine htk.mono ?_
 rintro e w4 ⟨hb4,ha⟩
 have HB4:Hid (KC R w w4):=HB3.out.trans hb4
 have AT4:Hid _:=AK3.out _ hb4
 clear hb4 htk HB3 AK3
 rcases ha with⟨k5,rfl,hs⟩ | ⟨k5,b1,rfl,hbk⟩
 rotate_left
 ·have HBK:Hid (zKI s w4 b1 (I+5)):=hbk
  have k5:kd (toks s) (I+5)≠41:=fun e=>zC4 k5 (zDN.2 e)
  clear hbk
  go_wp2
  go_ret2
  exact⟨.bad (I+5),.meB5 k0 k1 km k2 k3 k4 k5,HB4.out,b1,rfl,HBK.out⟩
 have k5:kd (toks s) (I+5)=41:=zDN.1 k5
 have hnt:=code_note hs (by omega) (tx s (toks s) (I+2))
 have AK4:Hid (∀ w',KC R w4 w'→AtIs (pl (toks s) I) w.heap.size w'):=fun w' hk=>hs.at_kept hk AT4.out
 clear hs AT4
 go_wp2_with fail
 refine hnt.mono ?_
 rintro e w5 ⟨rfl,hs,hb5⟩
 have HB5:Hid (KC R w w5):=HB4.out.trans hb5
 have cA:w5.cell? ⟨w.heap.size,0,none⟩=some (.int .i64 (pl (toks s) I)):=zA0 (AK4.out _ hb5) rfl
 have HS:Hid (CStM s R w5 (I+5+1) (zDG ms (tx s (toks s) (I+2)))):=hs
 have lR:R<w5.heap.size:=by obtain⟨a,b,c,-⟩:=hs.blk;exact zA2 c
 clear hs hb5 hnt HB4
 go_wp2
 go_ret2
 have bl:=(Below.refl w5.heap.size w5).alloc (Nat.le_refl _)
 refine⟨.ok [_] (I+6),.meGo k0 k1 km k2 k3 k4 k5,HB5.out.alloc lR _,_,_,_,rfl,rfl,?_,by rw[mets_meas,zNR];exact HS.out.later (bl _)⟩
 unfold zAO
 exact⟨_,rfl,HB5.out.size,heap_alloc_new _ _⟩
end
section
variable {s:ByteArray} {R:Nat}
theorem CStM.lR {w:World}{I:Nat}{ms:List ByteArray}(h:CStM s R w I ms):R<w.heap.size:=by obtain⟨a,b,c,-⟩:=h.blk;exact zA2 c
theorem CStM.row_ne {w:World}{I:Nat}{ms:List ByteArray}(h:CStM s R w I ms){base e n:Nat}{v:Value}{xs:List Value}(ho:w.ownsRow base e 1 v n xs)(he:e≠9):∀ g,v.ownBlock=some g→mrow w R≠some g:=by
 intro g hg hm
 obtain⟨txt,mv,h1,h2,h3⟩:=h.blk
 rw[zG0 h1] at hm
 obtain⟨c,fz,q1⟩:=ownsRow_kind ho g hg
 obtain⟨c2,fz2,q2⟩:=ownsRow_kind h3 g hm
 rw[q1] at q2
 injection q2 with q2
 injection q2 with _ q3
 exact he q3
theorem CStM.grown {w w':World}{I:Nat}{ms:List ByteArray}{row:Option Nat}(h:CStM s R w I ms)(hg:w.grownBy w' row)(hr:∀ g,row=some g→R<g∧mrow w R≠some g):CStM s R w' I ms:=by
 have lR:=h.lR
 obtain⟨txt,mv,h1,h2,h3⟩:=h.blk
 have hne:some R≠row:=fun e=>by have:=(hr _ e.symm).1;omega
 refine⟨⟨txt,mv,(hg.block R lR hne).trans h1,h2,?_⟩,h.len,?_,h.lt,h.small⟩
 ·refine zA7 h3 fun g hgm=>hg.block g (h3.lt _ hgm).2 fun e=>?_
  exact(hr g e.symm).2 ((zG0 h1).trans hgm)
 ·exact h.tab_of ⟨hg.os,hg.tape,hg.output,hg.size,fun k hk=>hg.block k (by omega) fun e=>by have:=(hr k e.symm).1;omega⟩
theorem KC.grown {w0 w w':World}{row:Option Nat}(h:KC R w0 w)(hg:w.grownBy w' row)(lR:R<w0.heap.size)(hr:∀ g,row=some g→w0.heap.size≤g):KC R w0 w':=by
 have hb:∀ k,k<w0.heap.size→w'.heap[k]?=w.heap[k]?:=fun k hk=>hg.block k (Nat.lt_of_lt_of_le hk h.size) fun e=>by have:=hr k e.symm;omega
 have hm:mrow w' R=mrow w R:=by unfold mrow;rw[hb R lR]
 exact⟨hg.os.trans h.os,hg.tape.trans h.tape,hg.output.trans h.output,Nat.le_trans h.size hg.size,fun k hk hne hrow=>(hb k hk).trans (h.block k hk hne hrow),by rw[hm];exact h.row⟩
theorem Tryz.infoNode : (Tryz.prog.info? 226).map (fun i=>(i.zero,i.size,i.bytes))=some (some .nilIface,1,16):=by kernel_rfl
abbrev Off (lo:Nat)(v:Value):Nat→Prop:=fun b=>lo≤b∧v.ownBlock≠some b
theorem zL5 (ms:List ByteArray)(acc:List Tree)(t:Tree):zAT ms (zAL (acc ++ [t]))=zAT (zAT ms (zAL acc)) (mets t):=by
 rw[zDJ,zCB]
 simp[zAL]
structure ArgsC (s:ByteArray) (R:Nat) (I:Nat) (ms:List ByteArray) (w wr:World) (v:Value) (vs:List Value) (acc:List Tree) (J:Nat):Prop where
 st:CStM s R wr J (zAT ms (zAL acc))
 nodes:zAU (Off w.heap.size v) wr acc vs
 kc:KC R w wr
 own:wr.ownsRow w.heap.size 226 1 v vs.length vs
 cnt:vs.length≤J
 ge:I+2≤J
 rest:∀ o,D s (toks s) (.args acc) J o→D s (toks s) (.args []) (I+2) o
 at_:AtIs (pl (toks s) I) w.heap.size wr
theorem ArgsC.pushed {I J K:Nat}{ms ms2:List ByteArray}{w wr w2 w5:World}{v v' x:Value}{vs:List Value}{acc:List Tree}{t:Tree}(h:ArgsC s R I ms w wr v vs acc J)(lR:R<w.heap.size)(h2:CStM s R w2 K ms2)(hn:zAO (Hi wr.heap.size) w2 t x)(k2:KC R wr w2)(hJK:J<K){o:Obj}
  (hown:w5.ownsRow w.heap.size 226 1 v' (vs.length+1) (vs ++ [x])) (hg:(w2.alloc o).grownBy w5 v.ownBlock) (hw:v'.ownBlock=v.ownBlock∨v'.ownBlock=some (w2.alloc o).heap.size):
  CStM s R w5 K ms2∧KC R w w5∧w5.ownsRow w.heap.size 226 1 v' (vs ++ [x]).length (vs ++ [x])∧(vs ++ [x]).length≤K∧zAU (Off w.heap.size v') w5 (acc ++ [t]) (vs ++ [x])∧AtIs (pl (toks s) I) w.heap.size w5:=by
 have hne:=h.st.row_ne h.own (by decide)
 have ho2:w2.ownsRow w.heap.size 226 1 v vs.length vs:=zA7 h.own fun g hgv=>k2.block g (h.own.lt _ hgv).2 (by have:=(h.own.lt _ hgv).1;omega) (hne g hgv)
 have hne2:=h2.row_ne ho2 (by decide)
 have s1:CStM s R (w2.alloc o) K ms2:=h2.later ((Below.refl _ _).alloc (Nat.le_refl _) o)
 have kk:KC R w (w2.alloc o):=(h.kc.trans k2).alloc h2.lR o
 have hm1:mrow (w2.alloc o) R=mrow w2 R:=by unfold mrow;rw[Below.heap_alloc _ _ _ h2.lR]
 refine⟨s1.grown hg fun g hgv=>⟨by have:=(ho2.lt _ hgv).1;omega,by rw[hm1];exact hne2 g hgv⟩,kk.grown hg lR fun g hgv=>(ho2.lt _ hgv).1,?_,?_⟩
 ·simpa using hown
 refine⟨by have:=h.cnt;simp;omega,?_⟩
 have mv:zDA (Off w.heap.size v) (Off w.heap.size v') w2 w5:=by
  intro b hP cs T hb hT
  have hlt:=zA2 hb
  have hlt1:b<(w2.alloc o).heap.size:=by simp;omega
  refine⟨⟨hP.1,fun e=>?_⟩,(hg.block b hlt1 fun e=>hP.2 e.symm).trans (Below.heap_alloc _ _ _ hlt)⟩
  rcases hw with hw | hw
  ·rw[hw] at e;exact hP.2 e
  ·rw[hw] at e;injection e with e;omega
 have ha2:=h.st.at_kept k2 h.at_
 have ha3:AtIs (pl (toks s) I) w.heap.size w5:=(hg.block _ (by simp;have:=zA2 ha2;omega) fun e=>by
  obtain⟨cc,fz,q⟩:=ownsRow_kind ho2 _ e.symm
  rw[ha2] at q
  injection q with q
  injection q with _ q
  revert q
  decide).trans (zA3 ha2)
 refine⟨?_,ha3⟩
 exact((h.nodes.moves (h.st.nmoves k2)).moves mv).snoc ((hn.moves (.weak fun b hb=>⟨Nat.le_trans h.kc.size hb,fun e=>by have:=(h.own.lt _ e).2;have hb:wr.heap.size≤b:=hb;omega⟩)).moves mv)
set_option maxRecDepth 1000000 in
set_option maxHeartbeats 2000000 in
theorem code_probe {N:Nat}(hp:CCon s R 96 .choice N){w:World}{I:Nat}{ms:List ByteArray}(hN:(toks s).length - (I+2)≤N)(h:CStM s R w (I+2) ms)(k0:kd (toks s) I=97)(k1:kd (toks s) (I+1)=40)(km:isMeasure (tx s (toks s) I)=false):
  Calls Tryz.prog 249 #[.pointer (some ⟨R,0,none⟩),.agg #[.int .i64 (pl (toks s) I)],.string (tx s (toks s) I)] w fun e w'=>∃ o,D s (toks s) .minus I o∧KC R w w'∧zDB s R ms w.heap.size w' o e:=by
 obtain⟨i0,hi,hz0,hz1,hz2⟩:=info_parts Tryz.infoNode
 have hb0:Below w.heap.size w (w.alloc (.cells #[.int .i64 (pl (toks s) I)] 153)):=(Below.refl _ _).alloc (Nat.le_refl _) _
 have h0:=h.later hb0
 have hse:=zDQ h0 [41] (by decide)
 have lR:=h.lR
 have hsm:=h.small
 have htl:=zED s
 have HP:Hid (CCon s R 96 .choice N):=hp
 have HB0:Hid (KC R w (w.alloc (.cells #[.int .i64 (pl (toks s) I)] 153))):=KC.of_below hb0 h.lR
 have AK0:Hid (∀ w',KC R (w.alloc (.cells #[.int .i64 (pl (toks s) I)] 153)) w'→AtIs (pl (toks s) I) w.heap.size w'):=fun w' hk=>h0.at_kept hk (heap_alloc_new _ _)
 have H:Hid (CStM s R (w.alloc (.cells #[.int .i64 (pl (toks s) I)] 153)) (I+2) ms):=h0
 clear hp h h0 hb0
 cases hb:zBN s (I+2) [41] with
 | true=>
  rw[hb] at hse
  have hst:=zD8 H.out (zDE (by decide) hb)
  have k2:kd (toks s) (I+2)=41:=zDN.1 hb
  clear hb
  go_enter Tryz.func249,Tryz.ntmps249
  go_wp2_with fail
  refine hse.mono ?_
  rintro e w' ⟨rfl,hw⟩
  have hw:=hw.symm
  subst hw
  go_wp2_with fail
  refine hst.mono ?_
  rintro e w1 ⟨rfl,hs1,hb1⟩
  have HS:Hid (CStM s R w1 (I+2+1) ms):=hs1
  have cA:w1.cell? ⟨w.heap.size,0,none⟩=some (.int .i64 (pl (toks s) I)):=zA0 (AK0.out _ hb1) rfl
  have HB:Hid (KC R w w1):=HB0.out.trans hb1
  have lR1:=hs1.lR
  clear hs1 hb1 hst hse
  go_wp2
  go_ret2
  have bl:=(Below.refl w1.heap.size w1).alloc (Nat.le_refl _)
  refine⟨.ok [_] (I+3),.pbNone k0 k1 km k2,HB.out.alloc lR1 _,_,_,_,rfl,rfl,?_,by rw[zL8];exact HS.out.later (bl _)⟩
  unfold zAO
  exact⟨_,_,[],rfl,HB.out.size,heap_alloc_new _ _,⟨World.ownsRow_nil _ _ _ _,fun g hg=>by cases hg⟩,by unfold zAU;rfl⟩
 | false=>
  rw[hb] at hse
  have k2:kd (toks s) (I+2)≠41:=fun e=>zC4 hb (zDN.2 e)
  clear hb
  have HI:Hid (ArgsC s R I ms w (w.alloc (.cells #[.int .i64 (pl (toks s) I)] 153)) (.slice none 0 0) [] [] (I+2)):=⟨H.out,by unfold zAU;rfl,HB0.out,World.ownsRow_nil _ _ _ _,by simp,Nat.le_refl _,fun o ho=>ho,heap_alloc_new _ _⟩
  clear H
  go_enter Tryz.func249,Tryz.ntmps249
  go_wp2_with fail
  refine hse.mono ?_
  rintro e w' ⟨rfl,hw⟩
  have hw:=hw.symm
  subst hw
  clear hse
  go_wp2_with fail
  go_loopw [8] (fun v wr=>∃ (ao:Option Addr) (ln cp:Nat) (vs:List Value) (acc:List Tree) (J:Nat),v=.slice ao ln cp∧Hid (ArgsC s R I ms w wr (.slice ao ln cp) vs acc J)) (fun _ wr=>cLeft wr R 300)
  case atStart=>exact⟨none,0,0,[],[],I+2,rfl,HI⟩
  case round=>
   obtain⟨ao,ln,cp,vs,acc,J,rfl,HR⟩:=hrel
   clear HI
   have hge:=HR.out.ge
   have hJl:=HR.out.st.lt
   have hcn:=HR.out.cnt
   have hch:=HP.out wr J _ (by omega) HR.out.st
   go_wp2_with fail
   refine hch.mono ?_
   rintro e w2 ⟨o,hD,hb2,ha⟩
   have HD:Hid (D s (toks s) .choice J o):=hD
   have HB2:Hid (KC R wr w2):=hb2
   clear hD hb2 hch
   cases o with
   | bad K=>
    obtain⟨b1,rfl,hbk⟩:=ha
    have HBK:Hid (zKI s w2 b1 K):=hbk
    clear hbk
    go_wp2
    go_ret2
    exact⟨.bad K,.pbBad k0 k1 km k2 (HR.out.rest _ (.arBad HD.out)),HR.out.kc.trans HB2.out,b1,rfl,HBK.out⟩
   | ok ts K=>
    obtain⟨t,ty,pa,rfl,rfl,hn2,hs2⟩:=ha
    have HS2:Hid (CStM s R w2 K (zAT (zAT ms (zAL acc)) (mets t))):=hs2
    have HN2:Hid (zAO (Hi wr.heap.size) w2 t (.iface ty (.pointer pa))):=hn2
    have hJK:J<K:=zDT HD.out rfl
    have own2:w2.ownsRow w.heap.size 226 1 (.slice ao ln cp) vs.length vs:=zA7 HR.out.own fun g hgv=>HB2.out.block g (HR.out.own.lt _ hgv).2 (by have:=(HR.out.own.lt _ hgv).1;omega) (HR.out.st.row_ne HR.out.own (by decide) g hgv)
    have OWN2:Hid (w2.ownsRow w.heap.size 226 1 (.slice ao ln cp) vs.length vs):=own2
    have hz2s:w.heap.size≤w2.heap.size:=Nat.le_trans HR.out.kc.size HB2.out.size
    clear hs2 own2 hn2
    go_wp2_with (first | (at_builtin; refine zAA _ rfl _ _ 304 rfl w.heap.size 226 i0 .nilIface 1 16 Tryz.underlying304 hi hz0 hz1 hz2 rfl (by decide) (.slice ao ln cp) vs.length vs rfl (OWN2.out.alloc _) ⟨w2.heap.size, 0, none⟩ 1 1 [.iface ty (.pointer pa)] rfl rfl (zDR _ _ _) (fun x hx => by simp at hx; subst hx; rfl) (by unfold maxLen; omega) (by omega) (by simp; omega) (by decide) ?_; intro v' w5 hown hgrow hnil
                          have q:=HR.out.pushed lR HS2.out HN2.out HB2.out hJK hown hgrow hnil
                          obtain⟨ao2,ln2,cp2,rfl⟩:=owns_slice hown
                          have Q:Hid (_∧_):=q
                          clear hgrow hown hnil q
                          have hse:=zDQ Q.out.1 [44] (by decide)
                          have hst:zBN s K [44]=true→_:=fun e=>zD8 Q.out.1 (zDE (by decide) e)
                          have hts:=zCJ Q.out.1 [41] (by decide))
                       | fail)
    cases hb:zBN s K [44] with
    | true=>
     rw[hb] at hse
     have hst:=hst hb
     have k3:kd (toks s) K=44:=zDN.1 hb
     clear hts hb
     refine hse.mono ?_
     rintro e w' ⟨rfl,hw⟩
     have hw:=hw.symm
     subst hw
     clear hse
     go_wp2_with fail
     refine hst.mono ?_
     rintro e w6 ⟨rfl,hs6,hb6⟩
     have HS6:Hid (CStM s R w6 (K+1) (zAT (zAT ms (zAL acc)) (mets t))):=hs6
     have HB6:Hid (KC R w5 w6):=hb6
     clear hst hs6 hb6
     go_wp2
     go_roundw
     case rel=>
      refine⟨ao2,ln2,cp2,_,acc ++ [t],K+1,rfl,⟨by rw[zL5];exact HS6.out,Q.out.2.2.2.2.1.moves (Q.out.1.nmoves HB6.out),Q.out.2.1.trans HB6.out,?_,Nat.le_succ_of_le Q.out.2.2.2.1,by omega,fun o ho=>HR.out.rest _ (.arGo HD.out k3 ho),Q.out.1.at_kept HB6.out Q.out.2.2.2.2.2⟩⟩
      have ho5:=Q.out.2.2.1
      exact zA7 ho5 fun g hgv=>HB6.out.block g (ho5.lt _ hgv).2 (by have:=(ho5.lt _ hgv).1;omega) (Q.out.1.row_ne ho5 (by decide) g hgv)
     case measure=>
      have l6:=HS6.out.lt
      have:=pl_lt s (show J<K+1 by omega) l6
      have:=pl_le s l6
      rw[zJE HS6.out,zJE HR.out.st]
      omega
    | false=>
     rw[hb] at hse
     have k3:kd (toks s) K≠44:=fun e=>zC4 hb (zDN.2 e)
     clear hst hb
     refine hse.mono ?_
     rintro e w' ⟨rfl,hw⟩
     have hw:=hw.symm
     subst hw
     clear hse
     go_wp2_with fail
     refine hts.mono ?_
     rintro e w6 ⟨hb6,ha⟩
     have HB6:Hid (KC R w w6):=Q.out.2.1.trans hb6
     have HN6:Hid (zAU (Off w.heap.size (.slice ao2 ln2 cp2)) w6 (acc ++ [t]) (vs ++ [Value.iface ty (.pointer pa)])):=Q.out.2.2.2.2.1.moves (Q.out.1.nmoves hb6)
     have cA:w6.cell? ⟨w.heap.size,0,none⟩=some (.int .i64 (pl (toks s) I)):=zA0 (Q.out.1.at_kept hb6 Q.out.2.2.2.2.2) rfl
     have HO6:Hid (w6.ownsRow w.heap.size 226 1 (.slice ao2 ln2 cp2) (vs ++ [Value.iface ty (.pointer pa)]).length (vs ++ [Value.iface ty (.pointer pa)])):=zA7 Q.out.2.2.1 fun g hgv=>hb6.block g (Q.out.2.2.1.lt _ hgv).2 (by have:=(Q.out.2.2.1.lt _ hgv).1;omega) (Q.out.1.row_ne Q.out.2.2.1 (by decide) g hgv)
     clear hts hb6
     rcases ha with⟨k4,rfl,hs⟩ | ⟨k4,b1,rfl,hbk⟩
     ·have HS:Hid (CStM s R w6 (K+1) (zAT (zAT ms (zAL acc)) (mets t))):=hs
      have k4:kd (toks s) K=41:=zDN.1 k4
      have lR6:=hs.lR
      clear hs
      go_wp2
      go_ret2
      have bl:=(Below.refl w6.heap.size w6).alloc (Nat.le_refl _)
      refine⟨.ok [_] (K+1),.pbGo k0 k1 km k2 (HR.out.rest _ (.arEnd HD.out k3)) k4,HB6.out.alloc lR6 _,_,_,_,rfl,rfl,?_,by rw[zL8,zL5];exact HS.out.later (bl _)⟩
      unfold zAO
      refine⟨_,_,vs ++ [.iface ty (.pointer pa)],rfl,HB6.out.size,heap_alloc_new _ _,⟨zBA (HO6.out.alloc _) (Nat.zero_le _),fun g hg=>(HO6.out.lt _ hg).1⟩,(HN6.out.moves (.of_below (bl _))).moves (.weak fun b hb=>hb.1)⟩
     ·have HBK:Hid (zKI s w6 b1 K):=hbk
      have k4:kd (toks s) K≠41:=fun e=>zC4 k4 (zDN.2 e)
      clear hbk
      go_wp2
      go_ret2
      exact⟨.bad K,.pbB1 k0 k1 km k2 (HR.out.rest _ (.arEnd HD.out k3)) k4,HB6.out,b1,rfl,HBK.out⟩
end
end Go.Proofs.YtbokdbaagacnlaaGreatDoor
