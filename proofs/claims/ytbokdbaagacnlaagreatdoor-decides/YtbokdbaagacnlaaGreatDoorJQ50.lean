import Derived.Test.YtbokdbaagacnlaaGreatDoorJQ49
import Derived.Test.YtbokdbaagacnlaaGreatDoorRows
import Derived.LaidLaws
import Derived.LaidHandle
import Derived.PinnedBridge
import Derived.LaidSub
import Derived.Lay
import Derived.LaidMore
import Derived.MakeChecks
import Derived.Test.YtbokdbaagacnlaaGreatDoorChecked
import Derived.Stop.Joined
namespace Go.Proofs.YtbokdbaagacnlaaGreatDoor
open Go.RowKit Go.Lib
theorem EvsL.below {w w':World}{bo:Option Addr}{E:List (Bool × Int × Int × Int)}(h:EvsL w bo E)(hb:Below w.heap.size w w'):EvsL w' bo E:=fun i q hq=>by
 obtain⟨h1,h2,h3,C,off,e,c0,c1,c2,c3⟩:=h i q hq
 exact⟨h1,h2,h3,C,off,e,zAR hb c0,zAR hb c1,zAR hb c2,zAR hb c3⟩
theorem zMN {w:World}{bo:Option Addr}{E:List (Bool × Int × Int × Int)}(h:EvsL w bo E)(t:Tree):∀ q∈zC5 t E,In64 q.2.2.1∧In64 q.2.2.2:=fun q hq=>by
 obtain⟨p,hp,rfl⟩:=List.mem_map.1 hq
 obtain⟨i,hi⟩:=List.getElem?_of_mem hp
 obtain⟨-,h2,h3,-⟩:=h i p hi
 exact⟨h2,h3⟩
theorem zE3 (t:Tree)(E:List (Bool × Int × Int × Int)):(zC5 t E).length=E.length:=by simp[zC5]
theorem evts_K (t:Tree)(E:List (Bool × Int × Int × Int)):(zC5 t E).map (·.1)=E.map (·.1):=by simp[zC5,zKO]
structure Mid5 (A:Nat→Addr) (w:World) (t:Tree) (r:Nat) (k:Ctl) (T:WT) (S:Fed) (g:Nat→Nat) (lv:Nat→Value) (av:Value) (pa:Option Addr) (nl nh:Nat) (E:List Evt) (ao:Option Addr) (cp n:Nat) (da:Option Addr) (dc:Nat) (wr:World):Prop where
 below:Below w.heap.size w wr
 ran:RanI t wr r pa (fun b=>nl≤b∧b<nh) g lv av 0 ⟨k,T,[]⟩ S lv wr
 row:wr.ownsRow w.heap.size 35 4 (.slice ao E.length cp) E.length (zFE E)
 dec:wr.ownsRow 0 40 8 (.slice da (zAW (bare t) (zA5 t) ⟨k,T,[]⟩ E n).L.length dc) (zAW (bare t) (zA5 t) ⟨k,T,[]⟩ E n).L.length (zAW (bare t) (zA5 t) ⟨k,T,[]⟩ E n).L.flatten
 far:∀ b,RBA r g lv av (msOf t).length b→w.heap.size≤b
theorem zPV {A:Nat→Addr}{w w1 wr w5:World}{t:Tree}{x r:Nat}{F:ByteArray→Option Value}{wl:World}{lo c:Nat}{k k5:Ctl}{T T5:WT}{S:Fed}{X X5:Nat→Prop}{g:Nat→Nat}{lv:Nat→Value}{av:Value}{pa:Option Addr}{nl nh:Nat}{E:List Evt}{ao da:Option Addr}{cp n dc:Nat}{Z N:Nat→Prop}{o:Obj}(hD:Den A w t x r F wl lo c k T S X g lv av pa nl nh E ao cp wr)(hp:PairAt A w t 0 x r Z N w1 F wl lo c k T S X g lv av pa nl nh)(hwr:w1.heap.size≤wr.heap.size)(hl5:LiveX F zAC A w wl lo c k5 (bare t) (zA5 t) T5 X5 w5)(hk:KeepX X wr w5)
  (hrow:w5.ownsRow 0 40 8 (.slice da (zAW (bare t) (zA5 t) ⟨k,T,[]⟩ E n).L.length dc) (zAW (bare t) (zA5 t) ⟨k,T,[]⟩ E n).L.length (zAW (bare t) (zA5 t) ⟨k,T,[]⟩ E n).L.flatten):Mid5 A w t r k T S g lv av pa nl nh E ao cp n da dc (w5.alloc o):=by
 have hb:Below w5.heap.size w5 (w5.alloc o):=(Below.refl _ _).alloc (Nat.le_refl _) _
 have rz:∀ b,RBA r g lv av (msOf t).length b→Z b:=fun b h=>(hp.z b).2 (.inr h)
 have xz:∀ b,X b→Z b:=fun b h=>(hp.z b).2 (.inl h)
 have nn:∀ b,nl≤b∧b<nh→N b:=fun b h=>(hp.n b).2 (.inr (.inl h))
 have ref5:RefC w5 r (.pointer pa) k (msOf t) S g lv av:=hD.ref.other hk fun b h e=>hp.apart b e h
 have node5:zA9 (fun b=>nl≤b∧b<nh) w5 t (.pointer pa):=hD.node.moves fun b h hlt=>⟨h,hk.block b hlt fun e=>(hp.zn b (xz b e)).2 (nn b h)⟩
 have hhi:=hp.high
 have hlr:w1.heap.size≤(w5.alloc o).heap.size:=Nat.le_trans hwr (Nat.le_trans hk.size hb.size)
 refine⟨hl5.below.trans (hb.mono hl5.below.size),⟨ref5.below hb,hp.ts,hp.live.ok,hp.live.times,hp.none,hp.room,node5.moves fun b h hlt=>⟨h,hb.block b hlt⟩,fun b h=>⟨fun e=>(hp.zn b (rz b e)).2 (nn b h),by omega⟩,KeepX.refl _ _,fun b h=>.inl h⟩,zA7 hD.row fun b hg=>?_,zA7 hrow fun b hg=>hb.block b (hrow.lt b hg).2,fun b h=>(hp.zn b (rz b h)).1⟩
 obtain⟨cs,hcs⟩:=zAQ hD.row hg
 have lt:=(hD.row.lt b hg).2
 exact(hb.block b (Nat.lt_of_lt_of_le lt hk.size)).trans (hk.block b lt (hD.live.calm hcs (by unfold Calm;decide)))
theorem Mid5.drew {A:Nat→Addr}{w:World}{t:Tree}{r:Nat}{k:Ctl}{T:WT}{S:Fed}{g:Nat→Nat}{lv:Nat→Value}{av:Value}{pa:Option Addr}{nl nh:Nat}{E:List Evt}{ao da:Option Addr}{cp n dc:Nat}{wr:World}(h:Mid5 A w t r k T S g lv av pa nl nh E ao cp n da dc wr):Mid5 A w t r k T S g lv av pa nl nh E ao cp n da dc wr.drew:=
 ⟨h.below.drew,⟨h.ran.ref.below (Below.refl _ _).drew,h.ran.ts,h.ran.ok,h.ran.tok,h.ran.no,h.ran.room,zA9.moves (w:=wr) (w':=wr.drew) (fun _b hx _=>⟨hx,rfl⟩) h.ran.node,h.ran.apart,KeepX.refl _ _,fun _b hb=>.inl hb⟩,zA7 h.row fun _ _=>rfl,zA7 h.dec fun _ _=>rfl,h.far⟩
theorem Mid5.after {A:Nat→Addr}{w:World}{t:Tree}{r:Nat}{k:Ctl}{T:WT}{S:Fed}{g:Nat→Nat}{lv:Nat→Value}{av:Value}{pa:Option Addr}{nl nh:Nat}{E:List Evt}{ao da:Option Addr}{cp n dc:Nat}{wr w7:World}(h:Mid5 A w t r k T S g lv av pa nl nh E ao cp n da dc wr)(hk:KeepX (RBA r g lv av (msOf t).length) wr w7):Below w.heap.size w w7∧w7.ownsRow w.heap.size 35 4 (.slice ao E.length cp) E.length (zFE E)∧∀ (b:Nat) (cs:Array Value),wr.heap[b]?=some (.cells cs 53 (0,0))→w7.heap[b]?=some (.cells cs 53 (0,0)):=by
 have hb:=h.below
 refine⟨⟨hk.os.trans hb.os,hk.tape.trans hb.tape,hk.output.trans hb.output,Nat.le_trans hb.size hk.size,fun b lt=>(hk.block b (Nat.lt_of_lt_of_le lt hb.size) fun e=>by have:=h.far b e;omega).trans (hb.block b lt)⟩,zA7 h.row fun b hg=>hk.block b (h.row.lt b hg).2 ?_,fun b cs hx=>(hk.block b (zA2 hx) (h.ran.ref.calm hx (by decide))).trans hx⟩
 obtain⟨cs,hcs⟩:=zAQ h.row hg
 exact h.ran.ref.calm hcs (by decide)
theorem Mid5.nc {A:Nat→Addr}{w:World}{t:Tree}{r:Nat}{k:Ctl}{T:WT}{S:Fed}{g:Nat→Nat}{lv:Nat→Value}{av:Value}{pa:Option Addr}{nl nh:Nat}{E:List Evt}{ao da:Option Addr}{cp n dc:Nat}{wr:World}(h:Mid5 A w t r k T S g lv av pa nl nh E ao cp n da dc wr):∀ C off,ao=some ⟨C,off,none⟩→¬ RBA r g lv av (msOf t).length C:=fun C off e=>by
 obtain⟨cs,hcs⟩:=zAQ h.row (b:=C) (by rw[e];rfl)
 exact h.ran.ref.calm hcs (by decide)
theorem own_ok {A:Nat→Addr}{w7 w8:World}{t2:Tree}{F2:ByteArray→Option Value}{wl2:World}{lo2 c2:Nat}{k2:Ctl}{T2:WT}{X2:Nat→Prop}{E:List Evt}{ao:Option Addr}{cp b0:Nat}(h:LiveX F2 zAC A w7 wl2 lo2 c2 k2 (bare t2) (zA5 t2) T2 X2 w8)(hrow:w8.ownsRow b0 35 4 (.slice ao E.length cp) E.length (zFE E))(hl:E.length≤1073741824)(hfit:∀ q∈E,In64 q.2.2.1∧In64 q.2.2.2):(denP A w7 t2 F2 wl2 lo2 c2 k2 T2 X2 E ao cp 0 (-1) w8).Ok:=by
 refine⟨h,rfl,hl,hfit,zI5 hrow,fun C off e=>?_⟩
 have e:ao=some ⟨C,off,none⟩:=e
 obtain⟨cs,hcs⟩:=zAQ hrow (b:=C) (by rw[e];rfl)
 exact h.calm hcs (by unfold Calm;decide)
theorem own_after {A:Nat→Addr}{w w7 w8 w9:World}{F2:ByteArray→Option Value}{wl2:World}{lo2 c2:Nat}{k2:Ctl}{u:Tree}{sp:List (ByteArray × Int)}{T2:WT}{X2:Nat→Prop}(h:LiveX F2 zAC A w7 wl2 lo2 c2 k2 u sp T2 X2 w8)(h7:Below w.heap.size w w7)(h8:Below w7.heap.size w7 w8)(hX:∀ b,X2 b→w7.heap.size≤b)(hk:KeepX X2 w8 w9):Below w.heap.size w w9∧∀ (b:Nat) (cs:Array Value),w7.heap[b]?=some (.cells cs 53 (0,0))→w9.heap[b]?=some (.cells cs 53 (0,0)):=by
 have hb:Below w.heap.size w w8:=h7.trans (h8.mono h7.size)
 refine⟨⟨hk.os.trans hb.os,hk.tape.trans hb.tape,hk.output.trans hb.output,Nat.le_trans hb.size hk.size,fun b lt=>(hk.block b (Nat.lt_of_lt_of_le lt hb.size) fun e=>by have:=hX b e;have:=h7.size;omega).trans (hb.block b lt)⟩,fun b cs hx=>?_⟩
 have h8x:=(h8.block b (zA2 hx)).trans hx
 exact(hk.block b (zA2 h8x) (h.calm h8x (by unfold Calm;decide))).trans h8x
set_option maxRecDepth 1000000 in
set_option maxHeartbeats 8000000 in
theorem zPN {s:ByteArray}(hs:s.size≤9223372036854775807){A:Nat→Addr}{w:World}(hT:TabsR w)(hA:SentsX A w){ao bo:Option Addr}{cp cq:Nat}{L:List Int}{start stop bad:Int}{E:List (Bool × Int × Int × Int)}(hL:zFC w ao L)(hl:∀ v∈L,In64 v)(hE:EvsL w bo E):
  Calls Tryz.prog 4 #[.string s,.slice ao L.length cp,.int .i64 start,.slice bo E.length cq,.int .i64 stop,.int .i64 bad] w fun e w'=>e=.returned (.bool true)∧Below w.heap.size w w':=by
 have HBG:Hid (∀ W,Below w.heap.size w W→Calls Tryz.prog 6 #[.string s,.slice ao L.length cp,.int .i64 start] W fun e w'=>BegunD A s L start W e w'):=fun W hW=>law_begunD hs (hT.below hW) (hA.below hW) (hL.below hW) hl
 have HX:Hid _:=And.intro hA hE
 clear hT hA hL hl hE
 by_cases hbig:1073741824<(E.length:Int)
 ·go_enter Tryz.func4,Tryz.ntmps4
  go_wp2
  go_ret
  exact⟨rfl,Below.refl _ _⟩
 have hlE:E.length≤1073741824:=by omega
 have hbg:=HBG.out w (Below.refl _ _)
 go_enter Tryz.func4,Tryz.ntmps4
 go_wp2_with fail
 refine hbg.mono ?_
 rintro e w1 ⟨cv,rv,nv,rfl,hb1,hc⟩
 rcases hc with⟨rfl,-⟩ | ⟨hyes,t,x,r,Z,N,hpt,rfl,rfl,hn,hp,hzz,hNN⟩
 ·have H1:Hid _:=hb1
  clear hbg hb1
  go_wp2
  go_ret
  exact⟨rfl,H1.out⟩
 have hev:=law_events hp.1 hp.2.1 hn (fun b hb=>hp.ltN hb) (HX.out.2.below hb1) hlE (cq:=cq)
 obtain⟨hf,hz,F,wl,lo,c,k,T,S,X,g,lv,av,pa,nl,nh,h⟩:=hp
 have HP:Hid _:=And.intro hyes (And.intro hf (And.intro hz (And.intro h hb1)))
 clear hbg hn hzz hNN hyes hpt hf hz h hb1
 go_wp2_with fail
 refine hev.mono ?_
 rintro e w2 ⟨hb2,lva,rfl,hrow⟩
 rw[zE3] at hrow
 obtain⟨ea,ec,rfl⟩:=zAI hrow
 have hD2:Den A w t x r F wl lo c k T S X g lv av pa nl nh (zC5 t E) ea ec w2:=by
  have h:=HP.out.2.2.2.1
  exact⟨(hb2.block x (zA2 h.obj)).trans h.obj,h.live.go hb2,h.ref.below hb2,h.node.moves fun b hx hlt=>⟨hx,hb2.block b hlt⟩,by rw[zE3];exact zBA hrow HP.out.2.2.2.2.size⟩
 have hdn:=zJ6 (m:=E.length) (cp:=ec) (ao:=ea) (stop:=-1) (bad:=-1) hD2.obj
 have HD2:Hid _:=And.intro hD2 hb2.size
 clear hev hb2 hrow hD2
 go_wp2_with fail
 refine hdn.mono ?_
 rintro e w3 ⟨rfl,hb3⟩
 have hbn:=zHH (w:=w3.alloc (.cells #[.slice none 0 0,.int .i64 0,.int .i64 0,.bool true] 53)) (m:=E.length) (cp:=ec) (ao:=ea) (stop:=-1) (bad:=-1)
 have hsz:(w3.alloc (.cells #[.slice none 0 0,.int .i64 0,.int .i64 0,.bool true] 53)).heap.size=w3.heap.size+1:=by simp
 rw[hsz] at hbn
 have HB3:Hid _:=hb3
 clear hdn hb3
 go_wp2_with fail
 refine hbn.mono ?_
 rintro e w4 ⟨rfl,hb4⟩
 have hn4:w4.heap[w3.heap.size]?=some (.cells #[.slice none 0 0,.int .i64 0,.int .i64 0,.bool true] 53 (0,0)):=(hb4.block _ (by omega)).trans (heap_alloc_new _ _)
 have n0:=zA0 (i:=0) (v:=.slice none 0 0) hn4 rfl
 have n3:=zA0 (i:=3) (v:=.bool true) hn4 rfl
 have ln:=zA2 hn4
 have hD4:Den A w t x r F wl lo c k T S X g lv av pa nl nh (zC5 t E) ea ec (w4.alloc (.cells #[.slice none 0 0,.int .i64 0,.int .i64 0,.bool true] 53)):=
  ((HD2.out.1.go HB3.out).go ((Below.refl _ _).alloc (Nat.le_refl _) _)).go (w':=w4) (by rw[hsz];exact hb4) |>.go ((Below.refl _ _).alloc (Nat.le_refl _) _)
 have hB4:Below w.heap.size w (w4.alloc (.cells #[.slice none 0 0,.int .i64 0,.int .i64 0,.bool true] 53)):=hD4.live.below
 have hOk:=hD4.ok (by rw[zE3];exact hlE) (zMN HX.out.2 t) stop bad
 have hdd:=zQ2 hOk hD4.obj
 have hsz4:w1.heap.size≤(w4.alloc (.cells #[.slice none 0 0,.int .i64 0,.int .i64 0,.bool true] 53)).heap.size:=by
  have q1:=HD2.out.2
  have q2:=HB3.out.size
  have q3:=hb4.size
  simp
  omega
 have HD4:Hid _:=And.intro hD4 (And.intro hsz4 hOk)
 have hPe:(denP A w t F wl lo c k T X (zC5 t E) ea ec stop bad (w4.alloc (.cells #[.slice none 0 0,.int .i64 0,.int .i64 0,.bool true] 53))).E.length=E.length:=zE3 t E
 rw[hPe] at hdd
 clear hbn hb4 hn4 hD4 hB4 hOk hPe hsz4
 go_wp2_with fail
 refine hdd.mono ?_
 rintro e w5 ⟨n,lvd,X5,hwant,rfl,hrowd,hnewd,hlive5,hgrew5,hkeep5⟩
 obtain⟨da,dc,rfl⟩:=zAI hrowd
 have hwant:Want (E.map (·.1)) bad stop n:=by
  have e:=evts_K t E
  rw[←e]
  exact hwant
 have hnE:n≤E.length:=by simpa using hwant.le
 have hMEM:=zPV HD4.out.1 HP.out.2.2.2.1 HD4.out.2.1 hlive5 hkeep5 hrowd (o:=.cells #[.slice da ((denP A w t F wl lo c k T X (zC5 t E) ea ec stop bad (w4.alloc (.cells #[.slice none 0 0,.int .i64 0,.int .i64 0,.bool true] 53))).R n).L.length dc,.int .i64 n,.int .i64 0,.bool true] 53)
 clear hdd hrowd hnewd hlive5 hgrew5 hkeep5
 have hRn:((denP A w t F wl lo c k T X (zC5 t E) ea ec stop bad (w4.alloc (.cells #[.slice none 0 0,.int .i64 0,.int .i64 0,.bool true] 53))).R n).L.length=(zAW (bare t) (zA5 t) ⟨k,T,[]⟩ (zC5 t E) n).L.length:=rfl
 rw[hRn] at hMEM ⊢
 have hran:=fun sc=>law_ran (sc:=sc) (n:=n) HP.out.2.1 HP.out.2.2.1 rfl hMEM.drew.ran (by rw[zE3];exact hnE) (by rw[zE3];exact hlE) (zMN HX.out.2 t) ⟨zI5 hMEM.drew.row,hMEM.nc⟩ hMEM.drew.dec
 have hcnt:=zNW (HX.out.2.below hMEM.below) hlE (bad:=bad) (n:=stop) (cq:=cq)
 have hcap:=row_cap hMEM.row
 rw[zE3] at hcap
 have HM:Hid _:=hMEM.drew
 have HW:Hid _:=hwant
 clear hMEM hRn hwant
 generalize (zAW (bare t) (zA5 t) ⟨k,T,[]⟩ (zC5 t E) n).L.length=nD at *
 go_wp2_with fail
 refine hcnt.mono ?_
 rintro e w6 ⟨hw6,kk,rfl,hw⟩
 subst hw6
 obtain rfl:kk=n:=want_one hw HW.out
 clear hcnt hw
 have hk0:(0:Int)≤kk:=by omega
 have hkc:(kk:Int)≤ec:=by omega
 have hkc2:kk≤ec:=by omega
 have hea:(ea=none∧kk=0)∨∃ C,ea=some ⟨C,0,none⟩:=by
  rcases hcap.2 with q | q
  ·cases ea with
   | none=>exact .inl ⟨rfl,by omega⟩
   | some a=>
    rcases HM.out.row.2 with⟨he,-⟩ | ⟨C,cap,cur,he,-⟩
    ·injection he with he
     cases he
    ·injection he with he
     exact .inr ⟨C,he⟩
  ·exact .inr q
 have d0:(w5.alloc (.cells #[.slice da nD dc,.int .i64 kk,.int .i64 0,.bool true] 53)).cell? ⟨w5.heap.size,0,none⟩=some (.slice da nD dc):=zA0 (heap_alloc_new _ _) rfl
 have hd5:(w5.alloc (.cells #[.slice da nD dc,.int .i64 kk,.int .i64 0,.bool true] 53)).drew.heap[w5.heap.size]?=some (.cells #[.slice da nD dc,.int .i64 kk,.int .i64 0,.bool true] 53 (0,0)):=heap_alloc_new w5 _
 have HD5:Hid _:=hd5
 clear hd5 n0 n3 ln hcap hnE
 rcases hea with⟨rfl,rfl⟩ | ⟨C,rfl⟩
 all_goals
  go_wp2_with fail
  go_region_held3 (fun w'=>w'.cell? ⟨w5.heap.size,0,none⟩=some (.slice da nD dc)) (first | exact d0 | exact d7 | go_keep)
   (first
    | (go_at_call 15;refine(hran _).mono ?_;rintro e w7 ⟨rfl,hk7⟩;have hA7:=HM.out.after hk7;have hd7:=hA7.2.2 _ _ HD5.out;have d7:w7.cell? ⟨w5.heap.size,0,none⟩=some (.slice da nD dc):=zA0 hd7 rfl;have H7:Hid _:=And.intro hA7.1 (And.intro hA7.2.1 hd7);clear hk7 hA7 hd7))
  all_goals
   have hbg2:=HBG.out w7 H7.out.1
   clear hran d0 d7
   go_wp2_with fail
   refine hbg2.mono ?_
   rintro e w8 ⟨cv2,rv2,nv2,rfl,hb8,hc2⟩
   rcases hc2 with⟨-,hno⟩ | ⟨-,t2,x2,r2,Z2,N2,-,rfl,rfl,-,hp2,hz2,-⟩
   ·exact absurd HP.out.1 hno
   obtain⟨-,-,F2,wl2,lo2,c2,k2,T2,S2,X2,g2,lv2,av2,pa2,nl2,nh2,h2⟩:=hp2
   have hOk2:=own_ok h2.live (zA7 H7.out.2.1 fun b hg=>hb8.block b (H7.out.2.1.lt b hg).2) (by rw[zE3];exact hlE) (zMN HX.out.2 t)
   have hown:=code_Own hOk2 rfl h2.obj
   rw[zE3] at hown
   have AFT:Hid (∀ w9,KeepX X2 w8 w9→_):=fun w9 hk=>own_after h2.live H7.out.1 hb8 (fun b hb=>hz2 b ((h2.z b).2 (.inl hb))) hk
   clear hbg2 hb8 h2 hz2 hOk2
   go_wp2_with fail
   refine hown.mono ?_
   rintro e w9 ⟨hk9,hres⟩
   have hA9:=AFT.out w9 hk9
   have hd9:=hA9.2 _ _ H7.out.2.2
   have f1:=zA0 (i:=1) (v:=.int .i64 _) hd9 rfl
   have f2:=zA0 (i:=2) (v:=.int .i64 0) hd9 rfl
   have f3:=zA0 (i:=3) (v:=.bool true) hd9 rfl
   have lf:=zA2 hd9
   have hcnt2:=zNW (HX.out.2.below hA9.1) hlE (bad:=-1) (n:=1) (cq:=cq)
   have hE9:=HX.out.2.below hA9.1
   have H9:Hid _:=hA9.1
   clear hown hk9 hA9 hd9
   obtain⟨tb,rfl,htb⟩:∃ tb,e=.returned (.bool tb)∧(tb=true↔∃ i:Nat,(E.map (·.1))[i]?=some true):=by
    have hres2:(e=.returned (.bool true)∧∃ i:Nat,(E.map (·.1))[i]?=some true)∨(e=.returned (.bool false)∧∀ i:Nat,(E.map (·.1))[i]?≠some true):=by
     rw[←evts_K t E]
     exact hres
    rcases hres2 with⟨h1,h2⟩ | ⟨h1,h2⟩
    ·exact⟨true,h1,fun _=>h2,fun _=>rfl⟩
    ·exact⟨false,h1,⟨fun e=>(by cases e),fun⟨i,hi⟩=>absurd hi (h2 i)⟩⟩
   have HTB:Hid _:=htb
   have HE9:Hid _:=hE9
   clear hres htb hE9
   go_wp2_with fail
   refine hcnt2.mono ?_
   rintro e w10 ⟨hw10,k3,rfl,hw3⟩
   subst hw10
   have hask:=ticks_ask hw3
   have hk3:=hw3.le
   rw[←HTB.out,List.length_map] at hask
   rw[List.length_map] at hk3
   clear hcnt2 hw3
   by_cases hlt3:k3<E.length
   ·obtain rfl:tb=true:=hask.2 (.inl hlt3)
    have hlt4:(k3:Int)<E.length:=by omega
    clear hask
    go_wp2
    go_ret
    exact⟨rfl,H9.out⟩
   ·have hge4:¬ (k3:Int)<E.length:=by omega
    rcases Nat.eq_zero_or_pos E.length with hE0 | hpos
    ·have htf:tb=false:=by
      cases tb with
      | false=>rfl
      | true=>
       rcases hask.1 rfl with q | q
       ·omega
       ·omega
     subst htf
     have hz0:¬ (0:Int)<E.length:=by omega
     clear hask
     go_wp2
     go_ret
     exact⟨rfl,H9.out⟩
    ·obtain⟨m,hm⟩:∃ m,E.length=m+1:=⟨E.length - 1,by omega⟩
     obtain⟨q,hq⟩:∃ q,E[m]?=some q:=⟨E[m]'(by omega),List.getElem?_eq_getElem _⟩
     obtain⟨-,-,-,D,off,rfl,c0,-,-,-⟩:=HE9.out m q hq
     have hKq:(E.map (·.1))[E.length - 1]?=some q.1:=by
      rw[show E.length - 1=m by omega,List.getElem?_map,hq]
      rfl
     have htq:tb=q.1:=by
      cases hb:q.1 with
      | true=>exact hask.2 (.inr ⟨hpos,by rw[hKq,hb]⟩)
      | false=>
       cases tb with
       | false=>rfl
       | true=>
        rcases hask.1 rfl with e | ⟨-,e⟩
        ·omega
        ·rw[hKq,hb] at e
         cases e
     subst htq
     generalize q.1=tq at *
     have hz0:(0:Int)<E.length:=by omega
     have i1:IntKind.i64.wrap ((E.length:Int) - 1)=m:=by
      simp only[IntKind.wrap_i64]
      omega
     have i2:(m:Int)<E.length:=by omega
     have i3:m<E.length:=by omega
     have i4:(0:Int)≤m:=by omega
     clear hask hKq hq hm hpos HTB
     cases tq with
     | false=>
      go_wp2
      go_ret
      exact⟨rfl,H9.out⟩
     | true=>
      go_wp2
      go_ret
      exact⟨rfl,H9.out⟩
end Go.Proofs.YtbokdbaagacnlaaGreatDoor
namespace Go.Proofs.YtbokdbaagacnlaaGreatDoor
open Go.ChangeShapes Go.WideShapes Go.ChangeAt Go.RowKit Go.Lib Go.Deep Go.Joins
section
variable {H:Type} {enc:TypeId × Value→H} {P:Program} {w:World} {base:Nat} {spare:Nat→Bool} {held:Bool}
theorem zOW {t t' t'' t3 t4 t5:TypeId}{args:Array Value}{ds:List (DataW H)}{ps:List MemPlace}(h:DataW.TrodAll enc P w base spare held [t,t',t'',t3,t4,t5] args.toList ds ps):
  ∃ v v' v'' v3 v4 v5 d d' d'' d3 d4 d5 p p' p'' p3 p4 p5,args=#[v,v',v'',v3,v4,v5]∧ds=[d,d',d'',d3,d4,d5]∧ps=p ++ p' ++ p'' ++ p3 ++ p4 ++ p5∧DataW.Trod enc P w base spare held t v d p∧DataW.Trod enc P w base spare held t' v' d' p'∧DataW.Trod enc P w base spare held t'' v'' d'' p''∧DataW.Trod enc P w base spare held t3 v3 d3 p3∧DataW.Trod enc P w base spare held t4 v4 d4 p4∧DataW.Trod enc P w base spare held t5 v5 d5 p5:=by
 obtain⟨v,vs,d,ds1,p,q,hargs,rfl,rfl,hd,hr⟩:=trodAll_cons h
 obtain⟨v',vs',d',ds2,p',q',rfl,rfl,rfl,hd',hr'⟩:=trodAll_cons hr
 obtain⟨v'',vs'',d'',ds3,p'',q'',rfl,rfl,rfl,hd'',hr''⟩:=trodAll_cons hr'
 obtain⟨v3,vs3,d3,ds4,p3,q3,rfl,rfl,rfl,hd3,hr3⟩:=trodAll_cons hr''
 obtain⟨v4,vs4,d4,ds5,p4,q4,rfl,rfl,rfl,hd4,hr4⟩:=trodAll_cons hr3
 obtain⟨v5,vs5,d5,ds6,p5,q5,rfl,rfl,rfl,hd5,hr5⟩:=trodAll_cons hr4
 obtain⟨rfl,rfl,rfl⟩:=trodAll_nil hr5
 exact⟨v,v',v'',v3,v4,v5,d,d',d'',d3,d4,d5,p,p',p'',p3,p4,p5,by cases args;simp_all,rfl,by simp,hd,hd',hd'',hd3,hd4,hd5⟩
theorem zOX {t t' t'' t3 t4 t5:TypeId}{v v' v'' v3 v4 v5:Value}{d d' d'' d3 d4 d5:DataW H}{p p' p'' p3 p4 p5:List MemPlace}(h:DataW.Trod enc P w base spare held t v d p)(h':DataW.Trod enc P w base spare held t' v' d' p')(h'':DataW.Trod enc P w base spare held t'' v'' d'' p'')(h3:DataW.Trod enc P w base spare held t3 v3 d3 p3)(h4:DataW.Trod enc P w base spare held t4 v4 d4 p4)(h5:DataW.Trod enc P w base spare held t5 v5 d5 p5):DataW.TrodAll enc P w base spare held [t,t',t'',t3,t4,t5] [v,v',v'',v3,v4,v5] [d,d',d'',d3,d4,d5] (p ++ (p' ++ (p'' ++ (p3 ++ (p4 ++ p5))))):=⟨p,p' ++ (p'' ++ (p3 ++ (p4 ++ p5))),h,zOY h' h'' h3 h4 h5,rfl⟩
end
end Go.Proofs.YtbokdbaagacnlaaGreatDoor
namespace Go.Proofs.YtbokdbaagacnlaaGreatDoor
open Go.ChangeShapes Go.WideShapes Go.RowKit
def sentD (nm:String)(x:String × List UInt8):String × DataW Unit:=(x.1,.iface nm (.ptr (.agg [.lit (.string x.2)])))
theorem zF3 {P:Program}{nm:String}{W:World}{ti tp te ts:TypeId}{ms:Array (String × TypeId)}{f:Field}
  (hi:P.underlying ti=some (.interface ms)) (hrow:∀ u,P.typeName? 3 u=some nm→u=tp)
  (hp:P.underlying tp=some (.pointer te)) (he:P.underlying te=some (.struct #[f])) (hft:f.type=ts) (hfo:f.offset=0) (hs:P.underlying ts=some .string) (hc:P.cellsOf te=1) (hcs:P.cellsOf ts=1):
  ∀ (L:List (String × List UInt8)) (ps:List MemPlace),(∀ x∈L,∀ g,P.globalNamed x.1=some g→(P.globals[g]?).map (·.type)=some ti) →
   DataW.LaidVars P W (L.map (sentD nm)) ps→ps.Nodup→(∀ b off,MemPlace.cell b off∈ps→(∃ c t,W.heap[b]?=some (.cells c t (0,0)))∧∀ u v,W.cell? ⟨b,off,none⟩=some (.iface u v)→Value.okWide P W .any 0 u v) →
   ∃ As:List Addr,As.length=L.length∧(∀ (i:Nat) x a,L[i]?=some x→As[i]?=some a→W.var? P x.1=some #[.iface tp (.pointer (some a))]∧∃ c t,W.heap[a.block]?=some (.cells c t (0,0))) ∧
    As.Pairwise (fun a b=>b≠a)∧∀ a∈As,MemPlace.cell a.block a.off∈ps
 | [],ps,_,_,_,_=>⟨[],rfl,by simp,List.Pairwise.nil,by simp⟩
 | x :: L,ps,hty,h,hnd,hrows=>by
  obtain⟨g,t,cs,fu,p,q,hg,ht,hv,hd,hr,e⟩:=h
  have ht':=hty x (List.mem_cons_self ..) g hg
  obtain rfl:=Option.some.inj (ht'.symm.trans ht)
  subst e
  obtain⟨l⟩:=cs
  have ok:∀ u v,l=[.iface u v]→Value.okWide P W .any 0 u v:=fun u v e=>by
   subst e
   exact(hrows g 0 (by simp[MemPlace.row])).2 u v (by simpa using World.var?_cell hg hv 0)
  obtain⟨a,s,rfl,hca,hsa,hza,rfl⟩:=errorString_of_trod hi hrow hp he hft hfo hs hc hcs hd ok
  rw[List.nodup_append] at hnd
  obtain⟨hn1,hn2,hn3⟩:=hnd
  obtain⟨As,hl,hAs,hpw,hmem⟩:=zF3 hi hrow hp he hft hfo hs hc hcs L q (fun y hy=>hty y (List.mem_cons_of_mem _ hy)) hr hn2 (fun b off hb=>hrows b off (List.mem_append_right _ hb))
  refine⟨a :: As,by simp[hl],?_,?_,?_⟩
  ·intro i y b hy hb
   cases i with
   | zero=>
    simp at hy hb
    subst hy;subst hb
    exact⟨hv,(hrows a.block a.off (by simp[MemPlace.row])).1⟩
   | succ i=>
    simp at hy hb
    exact hAs i y b hy hb
  ·refine List.Pairwise.cons ?_ hpw
   intro b hb hab
   subst hab
   exact hn3 _ (by simp[MemPlace.row]) _ (hmem _ hb) rfl
  ·intro b hb
   rcases List.mem_cons.1 hb with rfl | hb
   ·simp[MemPlace.row]
   ·exact List.mem_append_right _ (hmem b hb)
end Go.Proofs.YtbokdbaagacnlaaGreatDoor
namespace Go.Proofs.YtbokdbaagacnlaaGreatDoor
open Go.RowKit Go.Lib Go.Shelf
theorem Tryz.row_err (u:TypeId)(h:Tryz.prog.typeName? 3 u=some "*errors.errorString"):u=416:=
 typeName_ptr_named (nm := "errors.errorString") (by rw[show "*" ++ "errors.errorString" = "*errors.errorString" by decide];kernel_rfl) (by kernel_rfl) (by decide) u (by rw[show "*" ++ "errors.errorString" = "*errors.errorString" by decide];exact h)
theorem Tryz.cellsE : Tryz.prog.cellsOf 435=1:=by kernel_rfl
theorem Tryz.cellsS : Tryz.prog.cellsOf 9=1:=by kernel_rfl
theorem Tryz.gE0 : Tryz.prog.globalNamed "scaler/api.ErrLong" = some 5:=by kernel_rfl
theorem Tryz.gE1 : Tryz.prog.globalNamed "scaler/api.ErrCode" = some 6:=by kernel_rfl
theorem Tryz.gE2 : Tryz.prog.globalNamed "scaler/api.ErrLimits" = some 0:=by kernel_rfl
theorem Tryz.gE3 : Tryz.prog.globalNamed "scaler/api.ErrStale" = some 1:=by kernel_rfl
theorem Tryz.gE4 : Tryz.prog.globalNamed "scaler/api.ErrMetric" = some 2:=by kernel_rfl
theorem Tryz.gE5 : Tryz.prog.globalNamed "scaler/api.ErrDivide" = some 3:=by kernel_rfl
theorem Tryz.gE6 : Tryz.prog.globalNamed "scaler/api.ErrNoData" = some 4:=by kernel_rfl
theorem Tryz.gE7 : Tryz.prog.globalNamed "scaler/api.ErrCooling" = some 7:=by kernel_rfl
theorem Tryz.u8x : U8Extra Tryz.prog Tryz.lays260_ren:=⟨by kernel_rfl,by kernel_rfl,by kernel_rfl,by kernel_rfl,by kernel_rfl,by kernel_rfl,by kernel_rfl⟩
theorem Tryz.rx : RExtra Tryz.prog Tryz.lays261_ren:=⟨by kernel_rfl,by kernel_rfl,by kernel_rfl,by kernel_rfl,by kernel_rfl,by kernel_rfl,by kernel_rfl,by kernel_rfl⟩
theorem Tryz.own : ownKnob Tryz.prog.godebug=none:=by kernel_rfl
theorem zGV {P:Program}{w0:World}{laid:List (String × DataW Unit)}(hf:w0.layFits P laid []=true)(hi:w0.layIfaces P laid (w0.layVars P laid)=true):laidMet P laid (w0.layVars P laid):=by
 have e1:(laid.filter fun x=>(laid.map (·.1)).contains x.1)=laid:=List.filter_eq_self.2 fun x hx=>List.contains_iff_mem.2 (List.mem_map.2 ⟨x,hx,rfl⟩)
 have e2:(laid.filter fun x=>!(laid.map (·.1)).contains x.1)=[]:=List.filter_eq_nil_iff.2 fun x hx=>by rw[List.contains_iff_mem.2 (List.mem_map.2 ⟨x,hx,rfl⟩)];simp
 exact laidMet_layVars (w0:=w0) (laid.map (·.1)) [] (by rw[e1]) (by rw[e1];exact hf) (by rw[e1];exact hi) (by rw[e2];exact LaidIn.none)
noncomputable def witH (os:Os):World:=(World.holding Tryz.prog os ⟨#[],#[],[]⟩).setCell ⟨8,0,none⟩ (.iface 315 (.agg #[typeHandle Tryz.prog 69]))
theorem Tryz.etG : Tryz.prog.globalNamed "errors.errorType" = some 8:=by kernel_rfl
theorem Tryz.rtG : (Tryz.prog.cutTypes.find? (·.1 == "internal/reflectlite.rtype")).map (·.2)=some 315:=by kernel_rfl
theorem Tryz.oneRow : ((List.range 448).filter fun t=>Tryz.prog.rowNamed t [101,114,114,111,114])=[69]:=by kernel_rfl
theorem Tryz.sizeT : Tryz.prog.types.size=448:=by kernel_rfl
theorem zKN {W:World}(h:handlesMet Tryz.prog [("errors.errorType",Rows.laid_errors_errorType)] W):zKZ W:=by
 obtain⟨name,u,ty,e1,e2,e3,e4,e5⟩:=h _ (List.mem_singleton.2 rfl)
 have en:name=[101,114,114,111,114]:=(Option.some.inj e1).symm
 subst en
 obtain rfl:=Option.some.inj (Tryz.rtG.symm.trans e2)
 have hm:ty∈(List.range 448).filter fun t=>Tryz.prog.rowNamed t [101,114,114,111,114]:=List.mem_filter.2 ⟨List.mem_range.2 (by rw[←Tryz.sizeT];exact e3),e4⟩
 rw[Tryz.oneRow] at hm
 obtain rfl:=List.mem_singleton.1 hm
 have hh:typeHandle Tryz.prog 69=.pointer (some ⟨18,69,none⟩):=by kernel_rfl
 rw[hh] at e5
 unfold zKZ
 simpa using World.var?_cell Tryz.etG e5 0
def sentNames : List String:=["scaler/api.ErrLong","scaler/api.ErrCode","scaler/api.ErrLimits","scaler/api.ErrStale","scaler/api.ErrMetric","scaler/api.ErrDivide","scaler/api.ErrNoData","scaler/api.ErrCooling"]
def zC9 : List (String × List UInt8):=[("scaler/api.ErrLong",[116,104,101,32,116,101,120,116,32,105,115,32,116,111,111,32,108,111,110,103]),("scaler/api.ErrCode",[116,104,101,115,101,32,98,121,116,101,115,32,97,114,101,32,110,111,32,99,111,100,101]),("scaler/api.ErrLimits",[116,104,101,114,101,32,97,114,101,32,110,111,32,115,117,99,104,32,108,105,109,105,116,115]),("scaler/api.ErrStale",[116,104,101,32,116,105,109,101,32,105,115,32,112,97,115,116]),("scaler/api.ErrMetric",[116,104,101,32,112,111,108,105,99,121,32,104,97,115,32,110,111,32,115,117,99,104,32,109,101,116,114,105,99]),("scaler/api.ErrDivide",[97,32,100,105,118,105,115,105,111,110,32,98,121,32,48]),("scaler/api.ErrNoData",[116,104,101,114,101,32,105,115,32,110,111,116,104,105,110,103,32,116,111,32,109,101,97,115,117,114,101]),("scaler/api.ErrCooling",[105,116,32,105,115,32,116,111,111,32,115,111,111,110,32,102,111,114,32,97,32,99,104,97,110,103,101])]
theorem Tryz.sentTypesDecides : (zC9.all fun x=>match Tryz.prog.globalNamed x.1 with | some g=>((Tryz.prog.globals[g]?).map (·.type)) == some 69 | none=>true)=true:=by kernel_rfl
theorem zGQ (x:String × List UInt8)(hx:x∈zC9)(g:Nat)(hg:Tryz.prog.globalNamed x.1=some g):(Tryz.prog.globals[g]?).map (·.type)=some 69:=by
 have h:=List.all_eq_true.1 Tryz.sentTypesDecides x hx
 simp only[hg] at h
 exact eq_of_beq h
theorem zGP : (Rows.decidesRow.laid.filter fun x=>sentNames.contains x.1)=zC9.map (sentD "*errors.errorString"):=by kernel_rfl
theorem zGG : (Rows.decidesRow.laid.filter fun x=>x.1 == "errors.errorType")=[("errors.errorType",Rows.laid_errors_errorType)]:=by kernel_rfl
theorem zGF {W:World}(hL:laidMetH Tryz.prog Rows.decidesRow.laid W):∃ A,SentsX A W:=by
 have h1:=hL.filter fun x=>sentNames.contains x.1
 have hh0:=hL.filter fun x=>x.1 == "errors.errorType"
 rw[zGG] at hh0
 have hh:handlesMet Tryz.prog [("errors.errorType",Rows.laid_errors_errorType)] W:=hh0.2
 rw[zGP,MakeChecks.laidMetH_plain _ _ _ (by kernel_rfl)] at h1
 obtain⟨ps,hlv,hnd,hrows⟩:=h1
 obtain⟨As,hlen,hAs,hpw,-⟩:=zF3 Tryz.underlying69 Tryz.row_err Tryz.underlying416 Tryz.underlying435 rfl rfl Tryz.underlying9 Tryz.cellsE Tryz.cellsS zC9 ps zGQ hlv hnd hrows
 have hl8:As.length=8:=hlen
 have at? : ∀ k,k<8→As[k]?=some (As.getD k default):=fun k hk=>by
  rw[List.getElem?_eq_getElem (by omega),List.getD_eq_getElem?_getD,List.getElem?_eq_getElem (by omega),Option.getD_some]
 have cell:∀ k,k<8→∀ x,zC9[k]?=some x→∀ g,Tryz.prog.globalNamed x.1=some g→W.cell? ⟨g,0,none⟩=some (.iface 416 (.pointer (some (As.getD k default)))):=fun k hk x hx g hg=>by
  simpa using World.var?_cell hg (hAs k x _ hx (at? k hk)).1 0
 have row:∀ k,k<8→∃ c t,W.heap[(As.getD k default).block]?=some (.cells c t (0,0)):=fun k hk=>by
  have:k<zC9.length:=hk
  exact(hAs k zC9[k] _ (by simp[this]) (at? k hk)).2
 have lt:∀ i j,i<j→j<8→As.getD i default≠As.getD j default:=fun i j hij hj=>by
  have q:=List.pairwise_iff_getElem.1 hpw i j (by omega) (by omega) hij
  rw[List.getD_eq_getElem?_getD,List.getElem?_eq_getElem (by omega),List.getD_eq_getElem?_getD,List.getElem?_eq_getElem (by omega)]
  exact fun e=>q e.symm
 have pl:∀ i,i<8→([0,1,2,3,4,5,6,7]:List Nat).getD i 0<8:=by decide
 have pn:∀ i,i<8→∀ j,j<8→i≠j→([0,1,2,3,4,5,6,7]:List Nat).getD i 0≠([0,1,2,3,4,5,6,7]:List Nat).getD j 0:=by decide
 refine⟨fun k=>As.getD (([0,1,2,3,4,5,6,7]:List Nat).getD k 0) default,⟨cell 0 (by decide) _ rfl _ Tryz.gE0,cell 1 (by decide) _ rfl _ Tryz.gE1,cell 2 (by decide) _ rfl _ Tryz.gE2,cell 3 (by decide) _ rfl _ Tryz.gE3,cell 4 (by decide) _ rfl _ Tryz.gE4,cell 5 (by decide) _ rfl _ Tryz.gE5,cell 6 (by decide) _ rfl _ Tryz.gE6,cell 7 (by decide) _ rfl _ Tryz.gE7⟩,fun i hi=>row _ (pl i hi),fun i j hi hj hne=>?_,zKN hh⟩
 rcases Nat.lt_or_ge (([0,1,2,3,4,5,6,7]:List Nat).getD i 0) (([0,1,2,3,4,5,6,7]:List Nat).getD j 0) with h | h
 ·exact lt _ _ h (pl j hj)
 ·exact fun e=>lt _ _ (Nat.lt_of_le_of_ne h fun e=>pn i hi j hj hne e.symm) (pl i hi) e.symm
theorem zIA : (Rows.decidesRow.laid.filter fun x=>x.1 == "unicode/utf8.acceptRanges")=[("unicode/utf8.acceptRanges",acceptData)]:=by kernel_rfl
theorem zI6 : (Rows.decidesRow.laid.filter fun x=>x.1 == "unicode.Digit")=[("unicode.Digit",Pinned.digit)]:=by kernel_rfl
theorem zI1 : (Rows.decidesRow.laid.filter fun x=>x.1 == "unicode.Letter")=[("unicode.Letter",Pinned.letter)]:=by kernel_rfl
theorem zGX : (Rows.decidesRow.laid.filter fun x=>x.1 == "unicode/utf8.first")=[("unicode/utf8.first",Pinned.utf8First)]:=by kernel_rfl
theorem zGT : (Rows.decidesRow.laid.filter fun x=>x.1 == "unicode.properties")=[("unicode.properties",tabData .u8 propertiesTab)]:=by kernel_rfl
theorem zGO {W:World}(hL:laidMetH Tryz.prog Rows.decidesRow.laid W):Tabs W:=by
 have h1:=hL.filter fun x=>x.1 == "unicode/utf8.acceptRanges"
 have h2:=hL.filter fun x=>x.1 == "unicode.properties"
 have h3:=hL.filter fun x=>x.1 == "unicode.Digit"
 have h4:=hL.filter fun x=>x.1 == "unicode.Letter"
 have h5:=hL.filter fun x=>x.1 == "unicode/utf8.first"
 rw[zIA,MakeChecks.laidMetH_plain _ _ _ (by kernel_rfl)] at h1
 rw[zGT,MakeChecks.laidMetH_plain _ _ _ (by kernel_rfl)] at h2
 rw[zI6,MakeChecks.laidMetH_plain _ _ _ (by kernel_rfl)] at h3
 rw[zI1,MakeChecks.laidMetH_plain _ _ _ (by kernel_rfl)] at h4
 rw[zGX,MakeChecks.laidMetH_plain _ _ _ (by kernel_rfl)] at h5
 refine⟨?_,?_,?_,?_⟩
 ·exact utf8Tabs_of_reads Tryz.lays260 Tryz.u8x (Pinned.utf8First_eq ▸ Lib.laidMet.reads h5 (.head _)) (Lib.laidMet.reads h1 (.head _))
 ·exact tabIs_of_head Tryz.gProps (by kernel_rfl) Tryz.underlying360 Tryz.underlying5 (by kernel_rfl) (by kernel_rfl) h2
 ·exact rvar_of_reads Tryz.lays261 Tryz.rx (by kernel_rfl) (by kernel_rfl) (Pinned.letter_eq ▸ Lib.laidMet.reads h4 (.head _))
 ·exact rvar_of_reads Tryz.lays261 Tryz.rx (by kernel_rfl) (by kernel_rfl) (Pinned.digit_eq ▸ Lib.laidMet.reads h3 (.head _))
theorem zHW : (Rows.decidesRow.laid.filter fun x=>x.1 == "internal/strconv.uint64pow10")=[("internal/strconv.uint64pow10",tabData .u64 pow10Tab)]:=by kernel_rfl
theorem zGE {W:World}(hL:laidMetH Tryz.prog Rows.decidesRow.laid W):TabsR W:=by
 have h3:=hL.filter fun x=>x.1 == "internal/strconv.uint64pow10"
 rw[zHW,MakeChecks.laidMetH_plain _ _ _ (by kernel_rfl)] at h3
 exact⟨zGO hL,tabIs_of_head Tryz.gPow (by kernel_rfl) Tryz.underlying403 Tryz.underlying311 (by kernel_rfl) (by kernel_rfl) h3⟩
end Go.Proofs.YtbokdbaagacnlaaGreatDoor
