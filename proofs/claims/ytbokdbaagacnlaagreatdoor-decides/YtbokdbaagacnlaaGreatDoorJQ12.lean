import Derived.Test.YtbokdbaagacnlaaGreatDoorJQ11
import Derived.LaidEql
namespace Go.Proofs.YtbokdbaagacnlaaGreatDoor
open Go.RowKit Go.Lib
section
variable {s:ByteArray} {R:Nat}
theorem name_last {I:Nat}(h:kd (toks s) I=97):((toks s).getD I default).last=false:=by
 have h:((toks s).getD I default).kind=97:=h
 simp only[Tok.last,h]
 decide
set_option maxRecDepth 1000000 in
set_option maxHeartbeats 1000000 in
theorem code_call {N:Nat}(hp:CCon s R 96 .choice N){w:World}{I:Nat}{ms:List ByteArray}(hN:(toks s).length - (I+1)≤N)(h:CStM s R w I ms)(k0:kd (toks s) I=97):
  Calls Tryz.prog 239 #[.pointer (some ⟨R,0,none⟩)] w fun e w'=>∃ o,D s (toks s) .minus I o∧KC R w w'∧zDB s R ms w.heap.size w' o e:=by
 have c2:w.cell? ⟨R,2,none⟩=some (.string (tx s (toks s) I)):=by
  obtain⟨txt,mv,h1,h2,-⟩:=h.blk
  rw[←h2 (by omega)]
  exact zA0 h1 rfl
 have H0:Hid (CStM s R w I ms):=h
 have HSB:Hid (((toks s).getD I default).last=false):=name_last k0
 have LR:Hid (R<w.heap.size):=h.lR
 have HP:Hid (CCon s R 96 .choice N):=hp
 have hne1:¬ w.heap.size=R:=by have:=LR.out;omega
 have hne2:¬ R=w.heap.size:=by have:=LR.out;omega
 clear h hp
 go_enter Tryz.func239,Tryz.ntmps239
 go_wp2_with fail
 refine Code.wp_mono (Q:=Exit.then (fun a w'=>∃ b8:Nat,a={ tmps:=#[.pointer (some ⟨R,0,none⟩),undef,.nilIface,.nilIface,.pointer (some ⟨b8,0,none⟩),.string (tx s (toks s) I),undef,.pointer (some ⟨R,0,none⟩),.agg #[.int .i64 (pl (toks s) I)],.pointer (some ⟨R,0,none⟩),.pointer (some ⟨R,0,none⟩),.pointer (some ⟨R,1,none⟩),.pointer (some ⟨R,2,none⟩),.string (tx s (toks s) I),undef,undef,undef,undef,undef,undef,undef,undef,undef,undef,undef,undef,undef,undef,undef,undef,undef,undef,undef,undef,undef],defers:=[] }∧Hid (CStM s R w' I ms∧KC R w w'∧AtIs (pl (toks s) I) b8 w')) (fun _ _ _=>False)) ?imp ?reg
 case reg=>
  go_region_held3 (fun w'=>w'.cell? ⟨R,2,none⟩=some (.string (tx s (toks s) I))) (go_keep)
   (first
    | (go_at_call 123;refine(zI8 (s:=s) (I:=I) (ms:=ms) (H0.out.later (by repeat (first | exact Below.refl _ _ | apply Below.drew | refine Below.alloc ?_ (Nat.le_refl _) _)))).mono ?_;rintro e w0 ⟨rfl,hb0⟩;have c20:w0.cell? ⟨R,2,none⟩=some (.string (tx s (toks s) I)):=cell_below hb0 (by assumption);have HX0:Hid _:=hb0;(first | (have b0:w0.heap[w.heap.size]?=some (.cells #[.int .i64 0] 153 (0,0)):=(hb0.block _ (by simp)).trans (heap_alloc_new w _);have q0:=zA0 (i:=0) b0 rfl;have z0:=zA1 (i:=0) b0;have HB0:Hid _:=b0;clear b0) | skip);clear hb0))
  all_goals first
   | exact⟨w0.heap.size,rfl,(H0.out.later (HX0.out.mono (Nat.le_refl _) |> fun q=>((Below.refl w.heap.size w).drew.trans q).alloc (Nat.le_trans (Nat.le_refl _) q.size) _)),KC.of_below (((Below.refl w.heap.size w).drew.trans HX0.out).alloc HX0.out.size _) LR.out,heap_alloc_new _ _⟩
   | exact⟨w.heap.size,rfl,H0.out.later ((((Below.refl w.heap.size w).alloc (Nat.le_refl _) _).drew.trans (HX0.out.mono (by simp))).setCell (p:=⟨w.heap.size,0,none⟩) (Nat.le_refl _) _),KC.of_below ((((Below.refl w.heap.size w).alloc (Nat.le_refl _) _).drew.trans (HX0.out.mono (by simp))).setCell (p:=⟨w.heap.size,0,none⟩) (Nat.le_refl _) _) LR.out,zA4 (i:=0) HB0.out⟩
 case imp=>
  clear c2
  intro e a w0 hq
  cases e with
  | normal=>?_
  | _=>exact hq.elim
  obtain⟨b8,rfl,HW⟩:=hq
  have hst:=zD8 HW.out.1 HSB.out
  have AK:Hid (∀ w',KC R w0 w'→AtIs (pl (toks s) I) b8 w'):=fun w' hk=>HW.out.1.at_kept hk HW.out.2.2
  go_wp2_with fail
  refine hst.mono ?_
  rintro e w1 ⟨rfl,hs1,hb1⟩
  have AT1:Hid _:=AK.out _ hb1
  have hb1:=HW.out.2.1.trans hb1
  have HB1:Hid (KC R w w1):=hb1
  have htk:=zCJ hs1 [40] (by decide)
  have AK1:Hid (∀ w',KC R w1 w'→AtIs (pl (toks s) I) b8 w'):=fun w' hk=>hs1.at_kept hk AT1.out
  clear hs1 hb1 hst HW AK AT1
  go_wp2_with fail
  refine htk.mono ?_
  rintro e w2 ⟨hb2,ha⟩
  have HB2:Hid (KC R w w2):=HB1.out.trans hb2
  have cA:w2.cell? ⟨b8,0,none⟩=some (.int .i64 (pl (toks s) I)):=zA0 (AK1.out _ hb2) rfl
  clear hb2 htk HB1
  rcases ha with⟨k1,rfl,hs⟩ | ⟨k1,b1,rfl,hbk⟩
  rotate_left
  ·have HBK:Hid (zKI s w2 b1 (I+1)):=hbk
   have k1:kd (toks s) (I+1)≠40:=fun e=>zC4 k1 (zDN.2 e)
   clear hbk
   go_wp2
   go_ret2
   exact⟨.bad (I+1),.caB1 k0 k1,HB2.out,b1,rfl,HBK.out⟩
  have k1:kd (toks s) (I+1)=40:=zDN.1 k1
  have hki:=zH0 (tx s (toks s) I) w2
  cases hm:isMeasure (tx s (toks s) I) with
  | true=>
   have hme:=zOH hs k0 k1 hm
   rw[hm] at hki
   clear hs hm
   go_wp2_with fail
   refine hki.mono ?_
   rintro e w' ⟨rfl,hw⟩
   have hw:=hw.symm
   subst hw
   clear hki
   go_wp2_with fail
   refine hme.mono ?_
   rintro e w3 ⟨o,hD,hb3,ha⟩
   obtain⟨a,b,rfl⟩:=zGW ha
   have HA:Hid (zDB s R ms w.heap.size w3 o (.returned (.tuple #[a,b]))):=ha.up HB2.out.size
   have HD:Hid (D s (toks s) .minus I o):=hD
   have HB:Hid (KC R w w3):=HB2.out.trans hb3
   clear ha hD hb3 hme
   go_wp2
   go_ret2
   exact⟨o,HD.out,HB.out,HA.out⟩
  | false=>
   have hme:=code_probe HP.out (by omega) hs k0 k1 hm
   rw[hm] at hki
   clear hs hm
   go_wp2_with fail
   refine hki.mono ?_
   rintro e w' ⟨rfl,hw⟩
   have hw:=hw.symm
   subst hw
   clear hki
   go_wp2_with fail
   refine hme.mono ?_
   rintro e w3 ⟨o,hD,hb3,ha⟩
   obtain⟨a,b,rfl⟩:=zGW ha
   have HA:Hid (zDB s R ms w.heap.size w3 o (.returned (.tuple #[a,b]))):=ha.up HB2.out.size
   have HD:Hid (D s (toks s) .minus I o):=hD
   have HB:Hid (KC R w w3):=HB2.out.trans hb3
   clear ha hD hb3 hme
   go_wp2
   go_ret2
   exact⟨o,HD.out,HB.out,HA.out⟩
set_option maxRecDepth 1000000 in
set_option maxHeartbeats 1000000 in
theorem cminus_of {N:Nat}(hm:CCon s R 224 .minus N)(hp:CCon s R 96 .choice N):CCon s R 224 .minus (N+1):=by
 intro w I ms hN h
 have hN:(toks s).length - (I+1)≤N:=by omega
 have h45:=zDQ h [45] (by decide)
 have h40:=zDQ h [40] (by decide)
 cases b45:zBN s I [45] with
 | true=>
  have hcl:=zMT hm hN h b45
  rw[b45] at h45
  clear h h40 b45 hm hp
  go_enter Tryz.func224,Tryz.ntmps224
  go_wp2_with fail
  refine h45.mono ?_
  rintro e w' ⟨rfl,hw⟩
  have hw:=hw.symm
  subst hw
  clear h45
  go_wp2_with fail
  refine hcl.mono ?_
  rintro e w3 ⟨o,hD,hb3,ha⟩
  obtain⟨a,b,rfl⟩:=zGW ha
  have HA:Hid (zDB s R ms w.heap.size w3 o (.returned (.tuple #[a,b]))):=ha
  have HD:Hid (D s (toks s) .minus I o):=hD
  have HB:Hid (KC R w w3):=hb3
  clear ha hD hb3 hcl
  go_wp2
  go_ret2
  exact⟨o,HD.out,HB.out,HA.out⟩
 | false=>
  have n45:kd (toks s) I≠45:=fun e=>zC4 b45 (zDN.2 e)
  rw[b45] at h45
  clear b45
  cases b40:zBN s I [40] with
  | true=>
   have hcl:=code_inner hp hN h b40
   rw[b40] at h40
   clear h b40 hm hp
   go_enter Tryz.func224,Tryz.ntmps224
   go_wp2_with fail
   refine h45.mono ?_
   rintro e w' ⟨rfl,hw⟩
   have hw:=hw.symm
   subst hw
   clear h45
   go_wp2_with fail
   refine h40.mono ?_
   rintro e w' ⟨rfl,hw⟩
   have hw:=hw.symm
   subst hw
   clear h40
   go_wp2_with fail
   refine hcl.mono ?_
   rintro e w3 ⟨o,hD,hb3,ha⟩
   obtain⟨a,b,rfl⟩:=zGW ha
   have HA:Hid (zDB s R ms w.heap.size w3 o (.returned (.tuple #[a,b]))):=ha
   have HD:Hid (D s (toks s) .minus I o):=hD
   have HB:Hid (KC R w w3):=hb3
   clear ha hD hb3 hcl
   go_wp2
   go_ret2
   exact⟨o,HD.out,HB.out,HA.out⟩
  | false=>
   have n40:kd (toks s) I≠40:=fun e=>zC4 b40 (zDN.2 e)
   rw[b40] at h40
   clear b40
   obtain⟨txt,mv,h1,-⟩:=h.blk
   have c1:=zA0 (i:=1) h1 rfl
   clear h1
   by_cases k0:kd (toks s) I=97
   ·have hcl:=code_call hp hN h k0
    rw[ck3.2 k0] at c1
    clear h hm hp
    go_enter Tryz.func224,Tryz.ntmps224
    go_wp2_with fail
    refine h45.mono ?_
    rintro e w' ⟨rfl,hw⟩
    have hw:=hw.symm
    subst hw
    clear h45
    go_wp2_with fail
    refine h40.mono ?_
    rintro e w' ⟨rfl,hw⟩
    have hw:=hw.symm
    subst hw
    clear h40
    go_wp2_with fail
    refine hcl.mono ?_
    rintro e w3 ⟨o,hD,hb3,ha⟩
    obtain⟨a,b,rfl⟩:=zGW ha
    have HA:Hid (zDB s R ms w.heap.size w3 o (.returned (.tuple #[a,b]))):=ha
    have HD:Hid (D s (toks s) .minus I o):=hD
    have HB:Hid (KC R w w3):=hb3
    clear ha hD hb3 hcl
    go_wp2
    go_ret2
    exact⟨o,HD.out,HB.out,HA.out⟩
   ·have hcl:=zG2 h
    have k3:zAB ((toks s).getD I default)≠3:=fun e=>k0 (ck3.1 e)
    have kb:(((zAB ((toks s).getD I default):Nat):Int) == 3)=false:=by rw[beq_eq_false_iff_ne];omega
    obtain⟨K,hK⟩:∃ K,zAB ((toks s).getD I default)=K:=⟨_,rfl⟩
    rw[hK] at c1 kb
    clear h hm hp
    go_enter Tryz.func224,Tryz.ntmps224
    go_wp2_with fail
    refine h45.mono ?_
    rintro e w' ⟨rfl,hw⟩
    have hw:=hw.symm
    subst hw
    clear h45
    go_wp2_with fail
    refine h40.mono ?_
    rintro e w' ⟨rfl,hw⟩
    have hw:=hw.symm
    subst hw
    clear h40
    go_wp2_with fail
    refine hcl.mono ?_
    rintro e w3 ⟨hb3,ha⟩
    have HB:Hid (KC R w w3):=hb3
    clear hb3 hcl
    rcases ha with⟨k4,rfl,hs⟩ | ⟨k4,n,b1,rfl,hbk⟩
    ·have k4:kd (toks s) I=110:=ck2.1 k4
     have HS:Hid (CStM s R w3 (I+1) ms):=hs
     have lR3:=hs.lR
     clear hs
     go_wp2
     go_ret2
     have bl:=(Below.refl w3.heap.size w3).alloc (Nat.le_refl _)
     refine⟨.ok [_] (I+1),.nuGo k4,HB.out.alloc lR3 _,_,_,_,rfl,rfl,?_,by rw[mets_num];exact HS.out.later (bl _)⟩
     unfold zAO
     exact⟨_,rfl,HB.out.size,heap_alloc_new _ _⟩
    ·have k4:kd (toks s) I≠110:=fun e=>k4 (ck2.2 e)
     have HBK:Hid (zKI s w3 b1 I):=hbk
     clear hbk
     go_wp2
     go_ret2
     exact⟨.bad I,.noGo (by omega),HB.out,b1,rfl,HBK.out⟩
theorem zK9 : ∀ N,CCon s R 224 .minus N∧CCon s R 96 .choice N
 | 0=>⟨fun w I ms hN h=>by have:=h.lt;omega,fun w I ms hN h=>by have:=h.lt;omega⟩
 | N+1=>by
  have ih:=zK9 N
  have h1:=cminus_of ih.1 ih.2
  exact⟨h1,cchoice_of (zQ5 (csum_of (zPW h1))) ih.2⟩
end
theorem tok0 (s:ByteArray):(toks s).getD 0 default=zA8 s 0:=by
 show (zC8 s 0).getD 0 default=zA8 s 0
 cases h4:(zA8 s 0).last with
 | true=>rw[zB0 h4];rfl
 | false=>rw[zBC (Nat.zero_le _) h4];rfl
theorem toks_pos (s:ByteArray):0<(toks s).length:=by obtain⟨m,hm,-⟩:=zJJ s;omega
def CTree (lo:Nat)(w:World)(t:Tree)(a:Addr):Prop:=
 ∃ tb ty pa mv,a=⟨tb,0,none⟩∧lo≤tb∧w.heap[tb]?=some (.cells #[.iface ty (.pointer pa),mv] 231 (0,0))∧zAO (Hi lo) w t (.iface ty (.pointer pa))∧w.ownsRow lo 9 1 mv (zAT [] (mets t)).length ((zAT [] (mets t)).map Value.string)
theorem CTree.below {lo:Nat}{w w':World}{t:Tree}{a:Addr}(h:CTree lo w t a)(hb:Below w.heap.size w w'):CTree lo w' t a:=by
 obtain⟨tb,ty,pa,mv,h1,h2,h3,h4,h5⟩:=h
 exact⟨tb,ty,pa,mv,h1,h2,(hb.block _ (zA2 h3)).trans h3,h4.below hb,zA7 h5 fun g hg=>hb.block g (h5.lt _ hg).2⟩
def CRead (s:ByteArray)(v:Value)(T:World→Tree→Addr→Prop)(w:World)(e:Ending):Prop:=
 (200<s.size∧e=.returned (.tuple #[.pointer none,v])) ∨
 (s.size≤200∧((∃ J b,(D s (toks s) .choice 0 (.bad J)∨∃ t,D s (toks s) .choice 0 (.ok [t] J)∧kd (toks s) J≠101)∧e=.returned (.tuple #[.pointer none,.iface 151 (.pointer (some ⟨b,0,none⟩))])∧zKI s w b J) ∨
  (∃ t J a,D s (toks s) .choice 0 (.ok [t] J)∧kd (toks s) J=101∧e=.returned (.tuple #[.pointer (some a),.nilIface])∧T w t a)))
set_option maxRecDepth 1000000 in
theorem code_Clone (s:ByteArray)(w:World)(hs:s.size≤1000):Calls Tryz.prog 94 #[.string s] w fun e w'=>e=.returned (.string s)∧Below w.heap.size w w':=by
 have hc:=Tryz.stringslite_Clone s w (by omega)
 go_enter Tryz.func94,Tryz.ntmps94
 go_wp2_with fail
 refine hc.mono ?_
 rintro e w' ⟨rfl,hb⟩
 have HB:Hid (Below w.heap.size w w'):=hb
 clear hb hc
 go_wp2
 go_ret
 exact⟨rfl,HB.out⟩
theorem ck0 {s:ByteArray}{I:Nat}:zAB ((toks s).getD I default)=0↔kd (toks s) I=101:=by
 unfold zAB kd
 split
 ·rename_i h
  exact⟨fun _=>h,fun _=>rfl⟩
 split
 ·constructor
  ·intro h;cases h
  ·intro h;omega
 split
 ·constructor
  ·intro h;cases h
  ·intro h;omega
 split
 ·constructor
  ·intro h;cases h
  ·intro h;omega
 ·constructor
  ·intro h;cases h
  ·intro h;omega
theorem zP0 {s t2:ByteArray}{w w2:World}{R:Nat}(hT:Tabs w)(hs:s.size≤200)(hR:w.heap.size≤R)(hb:Below w.heap.size w w2)
  (h1:w2.heap[R]?=some (.cells #[.string s,.int .i64 0,.string { data:=#[] },.int .i64 0,.slice none 0 0] 223 (0,0))) (h2:(zA8 s 0).kind≠33→t2=(zA8 s 0).text s):
  CStM s R (((w2.setCell ⟨R,1,none⟩ (.int .i64 (zAB (zA8 s 0)))).setCell ⟨R,2,none⟩ (.string t2)).setCell ⟨R,3,none⟩ (.int .i64 (zA8 s 0).pos)) 0 [] ∧
   Below w.heap.size w (((w2.setCell ⟨R,1,none⟩ (.int .i64 (zAB (zA8 s 0)))).setCell ⟨R,2,none⟩ (.string t2)).setCell ⟨R,3,none⟩ (.int .i64 (zA8 s 0).pos)):=by
 have e:=zA4 (i:=3) (v:=.int .i64 (zA8 s 0).pos) (zA4 (i:=2) (v:=.string t2) (zA4 (i:=1) (v:=.int .i64 (zAB (zA8 s 0))) h1))
 have hb':Below w.heap.size w (((w2.setCell ⟨R,1,none⟩ (.int .i64 (zAB (zA8 s 0)))).setCell ⟨R,2,none⟩ (.string t2)).setCell ⟨R,3,none⟩ (.int .i64 (zA8 s 0).pos)):=
  ((hb.setCell (p:=⟨R,1,none⟩) hR _).setCell (p:=⟨R,2,none⟩) hR _).setCell (p:=⟨R,3,none⟩) hR _
 refine⟨⟨⟨t2,.slice none 0 0,?_,?_,World.ownsRow_nil _ _ _ _⟩,Nat.le_refl _,⟨w,hT,hR,hb'⟩,toks_pos s,hs⟩,hb'⟩
 ·unfold CBlk pl
  rw[tok0]
  exact e
 ·unfold kd tx
  rw[tok0]
  exact h2
set_option maxRecDepth 1000000 in
set_option maxHeartbeats 1000000 in
theorem code_Read (s:ByteArray)(w:World)(hT:Tabs w)(v:Value)(hv:w.cell? ⟨5,0,none⟩=some v):
  Calls Tryz.prog 63 #[.string s] w fun e w'=>Below w.heap.size w w'∧CRead s v (CTree w.heap.size) w' e:=by
 have HT:Hid (Tabs w):=hT
 clear hT
 by_cases h2:200<s.size
 ·have h200:(200:Int)<(s.size:Int):=by omega
  go_enter Tryz.func63,Tryz.ntmps63
  go_wp2_with fail
  go_quiet (fail)
  go_wp2
  go_ret2
  exact⟨⟨rfl,rfl,rfl,Nat.le_refl _,fun _ _=>rfl⟩,.inl ⟨h2,rfl⟩⟩
 have h200:¬ (200:Int)<(s.size:Int):=by omega
 have hcl:=code_Clone s w (by omega)
 go_enter Tryz.func63,Tryz.ntmps63
 go_wp2_with fail
 refine hcl.mono ?_
 rintro e w1 ⟨rfl,hb1⟩
 clear hcl
 have hT1:=HT.out.below hb1
 have bn:(w1.alloc (.cells #[.string s,.int .i64 0,.string { data:=#[] },.int .i64 0,.slice none 0 0] 223)).heap[w1.heap.size]?=some (.cells #[.string s,.int .i64 0,.string { data:=#[] },.int .i64 0,.slice none 0 0] 223 (0,0)):=zBE
 have htf:=zGM s 0 (by omega) (Nat.zero_le _) (w1.alloc (.cells #[.string s,.int .i64 0,.string { data:=#[] },.int .i64 0,.slice none 0 0] 223)) (hT1.below ((Below.refl _ _).alloc (Nat.le_refl _) _))
 have BN:Hid _:=bn
 have HB1:Hid (Below w.heap.size w w1):=hb1
 have hsz1:=hb1.size
 clear bn hT1 hb1
 go_wp2_with fail
 refine htf.mono ?_
 rintro e w2 ⟨t2,rfl,ht2,hb2⟩
 clear htf
 have k4:=(hb2.block _ (by simp)).trans BN.out
 have z1:=zA1 (i:=1) k4
 have z2:=zA1 (i:=2) k4
 have z3:=zA1 (i:=3) k4
 have k0:=zA0 (i:=0) k4 rfl
 have k1:=zA0 (i:=1) k4 rfl
 have k2:=zA0 (i:=2) k4 rfl
 have k3:=zA0 (i:=3) k4 rfl
 have hbw:Below w.heap.size w w2:=(HB1.out.alloc (by omega) _).trans (hb2.mono (by simp;omega))
 obtain⟨hs0,hbw'⟩:=zP0 (R:=w1.heap.size) HT.out (by omega) (by omega) hbw k4 ht2
 have HS0:Hid _:=hs0
 have HBW:Hid _:=hbw'
 have hszs:=hbw'.size
 have hch:=(zK9 (s:=s) (R:=w1.heap.size) (toks s).length).2 _ 0 [] (by omega) hs0
 clear hs0 hbw' hbw hb2 k4 ht2
 go_wp2_with fail
 refine hch.mono ?_
 rintro e w3 ⟨o,hD,hb3,ha⟩
 have HD:Hid (D s (toks s) .choice 0 o):=hD
 have hbl:Below w1.heap.size _ w3:=hb3.below HS0.out.lR (fun g hg=>by
  obtain⟨txt,mv,q1,q2,q3⟩:=HS0.out.blk
  rw[zG0 q1] at hg
  exact(q3.lt _ hg).1)
 have HB3:Hid (Below w.heap.size w w3):=HBW.out.trans (hbl.mono (by omega))
 have hle3:w.heap.size≤w3.heap.size:=HB3.out.size
 have HA:Hid _:=ha
 clear ha
 clear hD hb3 hch hbl HBW HS0 k0 k1 k2 k3 z1 z2 z3
 cases o with
 | bad J=>
  obtain⟨b,rfl,hbk⟩:=HA.out
  clear HA
  have HBK:Hid (zKI s w3 b J):=hbk
  clear hbk
  go_wp2
  go_ret2
  exact⟨HB3.out,.inr ⟨by omega,.inl ⟨J,b,.inl HD.out,rfl,HBK.out⟩⟩⟩
 | ok ts J=>
  obtain⟨t,ty,pa,rfl,rfl,hn3,hs3⟩:=HA.out
  have HN:Hid (zAO (Hi w.heap.size) w3 t (.iface ty (.pointer pa))):=hn3.up hszs
  clear HA hn3
  have hst:=zI7 hs3
  obtain⟨txt,mv,q1,q2,q3⟩:=hs3.blk
  have c1:=zA0 (i:=1) q1 rfl
  have c4:=zA0 (i:=4) q1 rfl
  obtain⟨ao,ln,cp,rfl⟩:=owns_slice q3
  have HO:Hid (w3.ownsRow (w1.heap.size+1) 9 1 (.slice ao ln cp) (zAT [] (mets t)).length ((zAT [] (mets t)).map Value.string)):=q3
  clear q1 q2 q3 hs3
  by_cases k101:kd (toks s) J=101
  ·rw[ck0.2 k101] at c1
   clear hst
   go_wp2
   go_ret2
   exact⟨HB3.out.alloc hle3 _,.inr ⟨by omega,.inr ⟨t,J,_,HD.out,k101,rfl,_,_,_,_,rfl,hle3,heap_alloc_new _ _,HN.out.below ((Below.refl _ _).alloc (Nat.le_refl _) _),zBA (HO.out.alloc _) (by omega)⟩⟩⟩
  ·have k0:zAB ((toks s).getD J default)≠0:=fun e=>k101 (ck0.1 e)
   have kb:(((zAB ((toks s).getD J default):Nat):Int) != 0)=true:=by rw[bne_iff_ne];omega
   obtain⟨K,hK⟩:∃ K,zAB ((toks s).getD J default)=K:=⟨_,rfl⟩
   rw[hK] at c1 kb
   go_wp2_with fail
   refine hst.mono ?_
   rintro e w4 ⟨b4,rfl,hb4,hk4⟩
   have HQ4:Hid _:=And.intro hb4 hk4
   clear hst hb4 hk4
   go_wp2
   go_ret2
   exact⟨HB3.out.trans (HQ4.out.1.mono hle3),.inr ⟨by omega,.inl ⟨J,_,.inr ⟨t,HD.out,k101⟩,rfl,HQ4.out.2⟩⟩⟩
def CPol (lo:Nat)(w:World)(t:Tree)(p:Addr):Prop:=
 ∃ pb a,p=⟨pb,0,none⟩∧lo≤pb∧w.heap[pb]?=some (.cells #[.pointer (some a)] 177 (0,0))∧CTree lo w t a
theorem CPol.below {lo:Nat}{w w':World}{t:Tree}{p:Addr}(h:CPol lo w t p)(hb:Below w.heap.size w w'):CPol lo w' t p:=by
 obtain⟨pb,a,h1,h2,h3,h4⟩:=h
 exact⟨pb,a,h1,h2,(hb.block _ (zA2 h3)).trans h3,h4.below hb⟩
set_option maxRecDepth 1000000 in
set_option maxHeartbeats 1000000 in
theorem code_Parse (s:ByteArray)(w:World)(hT:Tabs w)(A:Addr)(hv:w.cell? ⟨5,0,none⟩=some (.iface 416 (.pointer (some A)))):
  Calls Tryz.prog 40 #[.string s] w fun e w'=>Below w.heap.size w w'∧CRead s (.iface 416 (.pointer (some A))) (CPol w.heap.size) w' e:=by
 have hr:=code_Read s w hT _ hv
 clear hT
 go_enter Tryz.func40,Tryz.ntmps40
 go_wp2_with fail
 refine hr.mono ?_
 rintro e w1 ⟨hb,hc⟩
 have HB:Hid (Below w.heap.size w w1):=hb
 have hsz:=hb.size
 clear hr hb
 rcases hc with⟨h1,rfl⟩ | ⟨h1,⟨J,b,h2,rfl,h3⟩ | ⟨t,J,a,h2,h3,rfl,h4⟩⟩
 ·go_wp2
  go_ret2
  exact⟨HB.out,.inl ⟨h1,rfl⟩⟩
 ·have H2:Hid _:=h2
  have H3:Hid (zKI s w1 b J):=h3
  clear h2 h3
  go_wp2
  go_ret2
  exact⟨HB.out,.inr ⟨h1,.inl ⟨J,b,H2.out,rfl,H3.out⟩⟩⟩
 ·have H2:Hid _:=h2
  have H4:Hid (CTree w.heap.size w1 t a):=h4
  clear h2 h4
  go_wp2
  go_ret2
  exact⟨HB.out.alloc hsz _,.inr ⟨h1,.inr ⟨t,J,_,H2.out,h3,rfl,_,a,rfl,hsz,heap_alloc_new _ _,H4.out.below ((Below.refl _ _).alloc (Nat.le_refl _) _)⟩⟩⟩
structure Sents (A:Nat→Addr) (w:World):Prop where
 g0:w.cell? ⟨5,0,none⟩=some (.iface 416 (.pointer (some (A 0))))
 g1:w.cell? ⟨6,0,none⟩=some (.iface 416 (.pointer (some (A 1))))
 g2:w.cell? ⟨0,0,none⟩=some (.iface 416 (.pointer (some (A 2))))
 g3:w.cell? ⟨1,0,none⟩=some (.iface 416 (.pointer (some (A 3))))
 g4:w.cell? ⟨2,0,none⟩=some (.iface 416 (.pointer (some (A 4))))
 g5:w.cell? ⟨3,0,none⟩=some (.iface 416 (.pointer (some (A 5))))
 g6:w.cell? ⟨4,0,none⟩=some (.iface 416 (.pointer (some (A 6))))
 g7:w.cell? ⟨7,0,none⟩=some (.iface 416 (.pointer (some (A 7))))
theorem Sents.below {A:Nat→Addr}{w w':World}(h:Sents A w)(hb:Below w.heap.size w w'):Sents A w':=
 ⟨cell_below hb h.g0,cell_below hb h.g1,cell_below hb h.g2,cell_below hb h.g3,cell_below hb h.g4,cell_below hb h.g5,cell_below hb h.g6,cell_below hb h.g7⟩
theorem Tryz.isComp : (Tryz.prog.info? 416).map (·.comparable)=some true:=by kernel_rfl
theorem Tryz.isSize : (Tryz.prog.info? 435).map (·.size)=some 1:=by kernel_rfl
abbrev told (e at_:Int):Value:=.agg #[.int .i64 e,.int .i64 at_,.int .i64 0,.string { data:=#[] }]
theorem Tryz.assertE1 (v:Value)(xT:TypeId)(w:World):(Instr.typeAssert (.iface 416 v) xT 151 true).run Tryz.prog w=.ok (.tuple #[.pointer none,.bool false]) w:=by kernel_rfl
theorem Tryz.assertE2 (v:Value)(xT:TypeId)(w:World):(Instr.typeAssert (.iface 416 v) xT 156 true).run Tryz.prog w=.ok (.tuple #[.pointer none,.bool false]) w:=by kernel_rfl
theorem Tryz.assertE3 (v:Value)(xT:TypeId)(w:World):(Instr.typeAssert (.iface 416 v) xT 159 true).run Tryz.prog w=.ok (.tuple #[.pointer none,.bool false]) w:=by kernel_rfl
set_option maxRecDepth 1000000 in
set_option maxHeartbeats 1000000 in
theorem of_nil (w:World):Calls Tryz.prog 35 #[.nilIface] w fun e w'=>e=.returned (told 0 0)∧Below w.heap.size w w':=by
 have HX:Hid (Below w.heap.size w (w.alloc (.cells #[.int .i64 0,.int .i64 0,.int .i64 0,.string { data:=#[] }] 25))):=(Below.refl _ _).alloc (Nat.le_refl _) _
 go_enter Tryz.func35,Tryz.ntmps35
 go_wp2
 refine bodyPost_ret (v:=told 0 0) (by simp[results,Tryz.results35,go_sem]) rfl ⟨rfl,?_⟩
 exact(Below.refl _ _).alloc (Nat.le_refl _) _
end Go.Proofs.YtbokdbaagacnlaaGreatDoor
