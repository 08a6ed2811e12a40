import Derived.Test.YtbokdbaagacnlaaGreatDoorJQ46
namespace Go.Proofs.YtbokdbaagacnlaaGreatDoor
open Go.RowKit Go.Lib
abbrev Cast.K (P:Cast):List Bool:=P.E.map (·.1)
def GoJ (P:Cast)(j:Nat)(w:World):Prop:=(∃ lv X',DSt P j j false false .nilIface lv X' w)∧Goes P.K P.bad P.stop j
def GoR (P:Cast)(j:Nat)(w:World):Prop:=(∃ lv X',DSt P j j true true .nilIface lv X' w)∧Want P.K P.bad P.stop j
section
variable {P:Cast} {j:Nat} {w:World}
theorem set_cell1 {b:Nat}{x y z u:Value}{T:TypeId}(v:Value)(h:w.heap[b]?=some (.cells #[x,y,z,u] T (0,0))):(w.setCell ⟨b,1,none⟩ v).heap[b]?=some (.cells #[x,v,z,u] T (0,0)):=zA4 (i:=1) (v:=v) h
theorem go_step (hP:P.Ok){q:Evt}(hq:P.E[j]?=some q)(hb:(j:Int)≠P.bad)(h:GoJ P j w):
  Calls Tryz.prog 83 (#[.agg (zBT q)] ++ #[ptr (P.wB.heap.size+13),ptr (P.wB.heap.size+14),ptr (P.wB.heap.size+12)]) ((w.setCell ⟨P.wB.heap.size+3,1,none⟩ (.int .i64 (j+1))).alloc (.cells (zBT q) 35)) fun e w1=>(∃ b,e=.returned (.bool b)∧(b=true→GoJ P (j+1) w1)∧(b=false→GoR P (j+1) w1))∨∃ ch:List PanicEntry,e=.panicked ch∧False:=by
 obtain⟨⟨lv,X',hD⟩,hg⟩:=h
 have hlt:=(List.getElem?_eq_some_iff.1 hq).1
 have hKq:P.K[j]?=some q.1:=by rw[List.getElem?_map,hq];rfl
 have hlen:(P.R j).L.length=zFR P.K j:=zP7 P.u P.sp P.s0 hP.clear P.E j
 have kW:KeepX (fun b=>b=P.wB.heap.size+3∨b=P.wB.heap.size+13∨b=P.wB.heap.size+14) w ((w.setCell ⟨P.wB.heap.size+3,1,none⟩ (.int .i64 (j+1))).alloc (.cells (zBT q) 35)):=
  (KeepX.mk rfl rfl rfl (by simp) fun k _ hk=>Below.heap_setCell _ _ _ k fun e=>hk (.inl e):KeepX _ w (w.setCell ⟨P.wB.heap.size+3,1,none⟩ (.int .i64 (j+1)))).trans (.of_below ((Below.refl _ _).alloc (Nat.le_refl _) _))
 have hD1:DSt P j (j+1) false false .nilIface lv X' ((w.setCell ⟨P.wB.heap.size+3,1,none⟩ (.int .i64 (j+1))).alloc (.cells (zBT q) 35)):=
  hD.set hP kW (zA3 (set_cell1 _ hD.d)) (zA3 (zA6 hD.o (by simp))) (zA3 (zA6 hD.own (by simp)))
 obtain⟨tk,name,v,tm⟩:=q
 refine(zHC (F:=53) (caps:=#[ptr (P.wB.heap.size+8),ptr (P.wB.heap.size+11),ptr (P.wB.heap.size+10)]) (Q:=fun b w1=>(∃ lv X',DSt P (j+1) (j+1) true (!b) .nilIface lv X' w1)∧b=!(tk && decide (((P.R j).L.length:Int)+1=P.stop))) hD1.o hD1.own hD1.t (fun _=>Tryz.call53 _ _) (fun W2 hk2 ho2=>?_)).mono ?_
 ·have hD2:DSt P j (j+1) true false .nilIface lv X' W2:=hD1.set hP ⟨hk2.os,hk2.tape,hk2.output,hk2.size,fun k lt hk=>hk2.block k lt fun e=>hk (.inr (.inl e))⟩ ((hk2.block _ (zA2 hD1.d) (by omega)).trans hD1.d) ho2 ((hk2.block _ (zA2 hD1.own) (by omega)).trans hD1.own)
  have fin:∀ e w1,TakeR P j .nilIface (tk,name,v,tm) e w1→∃ b,e=.returned (.bool b)∧One w1 (P.wB.heap.size+13) (.bool true) 4∧(∃ x,One w1 (P.wB.heap.size+14) x 20)∧(∃ lv X',DSt P (j+1) (j+1) true (!b) .nilIface lv X' w1)∧b=!(tk && decide (((P.R j).L.length:Int)+1=P.stop)):=fun e w1 ⟨b,lv2,X2,he,hb2,h2⟩=>⟨b,he,h2.o,⟨_,h2.own⟩,⟨lv2,X2,h2⟩,hb2⟩
  cases tk with
  | false=>exact(hD2.sample hP hq).mono fin
  | true=>exact(hD2.tick hP hq).mono fin
 ·rintro e w'' ⟨b,w1,rfl,⟨⟨lv2,X2,h2⟩,hbb⟩,hk,ho,hown⟩
  refine .inl ⟨b,rfl,fun hbt=>?_,fun hbf=>?_⟩
  ·have h3:=h2.set hP (ov':=!b) (x':=.nilIface) ⟨hk.os,hk.tape,hk.output,hk.size,fun k lt hn=>hk.block k lt fun e=>hn (.inr e)⟩ ((hk.block _ (zA2 h2.d) (by omega)).trans h2.d) ho hown
   subst hbt
   refine⟨⟨lv2,X2,h3⟩,hg.succ (by simpa using hlt) hb fun⟨e1,e2⟩=>?_⟩
   rw[hKq] at e1
   injection e1 with e1
   simp only at e1
   subst e1
   rw[zCZ hKq] at e2
   rw[hlen] at hbb
   have:decide (((zFR P.K j:Nat):Int)+1=P.stop)=true:=decide_eq_true (by simpa using e2)
   rw[this] at hbb
   cases hbb
  ·have h3:=h2.set hP (ov':=!b) (x':=.nilIface) ⟨hk.os,hk.tape,hk.output,hk.size,fun k lt hn=>hk.block k lt fun e=>hn (.inr e)⟩ ((hk.block _ (zA2 h2.d) (by omega)).trans h2.d) ho hown
   subst hbf
   refine⟨⟨lv2,X2,h3⟩,.inr ⟨j,rfl,hg,hb,?_,?_⟩⟩
   ·rw[hKq]
    cases tk with
    | false=>cases hbb
    | true=>rfl
   ·cases tk with
    | false=>cases hbb
    | true=>
     rw[zCZ hKq,←hlen]
     have hbb:(false:Bool)=!(true && decide (((P.R j).L.length:Int)+1=P.stop)):=hbb
     have:decide (((P.R j).L.length:Int)+1=P.stop)=true:=by
      cases hd:decide (((P.R j).L.length:Int)+1=P.stop) with
      | true=>rfl
      | false=>rw[hd] at hbb;cases hbb
     simpa using of_decide_eq_true this
def GoneD (P:Cast)(w:World):Prop:=∃ n ov st lv X',Want P.K P.bad P.stop n∧DSt P n n ov st .nilIface lv X' w
theorem go_source (hP:P.Ok)(h:GoJ P 0 w):
  Calls Tryz.prog 50 #[.func (.func 83) #[] #[ptr (P.wB.heap.size+13),ptr (P.wB.heap.size+14),ptr (P.wB.heap.size+12)],ptr (P.wB.heap.size+4),ptr (P.wB.heap.size+5),ptr (P.wB.heap.size+6)] w (ThrI (P.wB.heap.size+12) (GoneD P) (fun _ _ _=>False)):=by
 refine(zIS (J:=GoJ P) (R:=GoR P) (Pn:=fun _ _ _=>False) (tb:=P.wB.heap.size+3) (to:=1) (cp:=P.cp) (ao:=P.ao) (bad:=P.bad) (E:=P.E) hP.few (fun j W hj=>?_) (fun _ _=>Tryz.call83 _ _) (fun j q W hq hb hj=>go_step hP hq hb hj) h).mono ?_
 ·obtain⟨⟨lv,X',hD⟩,-⟩:=hj
  exact hD.src hP
 ·rintro e w' (⟨rfl,⟨⟨lv,X',hD⟩,hg⟩,-⟩ | ⟨rfl,j,⟨lv,X',hD⟩,hw⟩ | ⟨rfl,j,W,hb,-,⟨⟨lv,X',hD⟩,hg⟩,hbw⟩ | ⟨ch,j,-,hF⟩)
  ·exact .inl ⟨.inl rfl,⟨_,hD.o⟩,hD.own,_,_,_,_,_,.inl ⟨hg,.inl (by simp)⟩,hD⟩
  ·exact .inl ⟨.inl rfl,⟨_,hD.o⟩,hD.own,_,_,_,_,_,hw,hD⟩
  ·have h2:=hD.go hP hbw
   exact .inl ⟨.inr rfl,⟨_,h2.o⟩,h2.own,_,_,_,_,_,.inl ⟨hg,.inr hb⟩,h2⟩
  ·exact hF.elim
end
set_option maxRecDepth 1000000 in
theorem zGZ {ao:Option Addr}{m cp:Nat}{bad:Int}{tb to:Nat}{w:World}:Calls Tryz.prog 29 #[.slice ao m cp,.int .i64 bad,.pointer (some ⟨tb,to,none⟩)] w fun e w'=>e=.returned (.func (.func 50) #[] #[ptr w.heap.size,ptr (w.heap.size+1),ptr (w.heap.size+2)])∧Below w.heap.size w w'∧w'.heap.size=w.heap.size+3∧One w' w.heap.size (.slice ao m cp) 49∧One w' (w.heap.size+1) (.int .i64 bad) 3∧One w' (w.heap.size+2) (.pointer (some ⟨tb,to,none⟩)) 89:=by
 have hmf:∀ (fn:Fn) (first cap:Array Value) (w:World),(Instr.makeFunc fn first cap).run Tryz.prog w=.ok (.func fn first cap) w:=fun _ _ _ _=>rfl
 go_enter Tryz.func29,Tryz.ntmps29
 go_wp2
 go_ret
 refine⟨rfl,(((Below.refl _ _).alloc (Nat.le_refl _) _).alloc (by simp) _).alloc (by simp;omega) _,by simp,zA3 (zA3 (heap_alloc_new _ _)),zA3 (zAM (by simp)),zAM (by simp)⟩
def DecideR (P:Cast)(e:Ending)(w':World):Prop:=
 ∃ n lv X',Want P.K P.bad P.stop n∧e=.returned (.agg #[lv,.int .i64 n,.int .i64 0,.bool true])∧w'.ownsRow 0 40 8 lv (P.R n).L.length (P.R n).L.flatten∧(∀ g,lv.ownBlock=some g→P.wB.heap.size≤g)∧LiveX P.F zAC P.A P.w0 P.wl P.lo P.c (P.R n).k P.u P.sp (P.R n).T X' w'∧Grew P.X X' P.wB∧KeepX P.X P.wB w'
structure Pre (P:Cast) (w:World):Prop where
 size:w.heap.size=P.wB.heap.size+10
 below:Below P.wB.heap.size P.wB w
 l:One w P.wB.heap.size (.slice P.ao P.E.length P.cp) 49
 n:One w (P.wB.heap.size+1) (.int .i64 P.stop) 3
 r:w.heap[P.wB.heap.size+2]?=some (.cells #[.slice none 0 0,.int .i64 0,.int .i64 0,.bool false] 53 (0,0))
 d:w.heap[P.wB.heap.size+3]?=some (.cells #[.slice none 0 0,.int .i64 0,.int .i64 0,.bool true] 53 (0,0))
 l2:One w (P.wB.heap.size+4) (.slice P.ao P.E.length P.cp) 49
 bad:One w (P.wB.heap.size+5) (.int .i64 P.bad) 3
 p:One w (P.wB.heap.size+6) (.pointer (some ⟨P.wB.heap.size+3,1,none⟩)) 89
 e:One w (P.wB.heap.size+7) (.func (.func 50) #[] #[ptr (P.wB.heap.size+4),ptr (P.wB.heap.size+5),ptr (P.wB.heap.size+6)]) 87
 c:One w (P.wB.heap.size+8) (ptr P.c) 72
 s:One w (P.wB.heap.size+9) (.bool false) 4
theorem Pre.begin {P:Cast}(hP:P.Ok){w:World}(h:Pre P w):GoJ P 0 (thrW (runW w (decF P.wB.heap.size)) (takeF P.wB.heap.size)):=by
 have hz:=h.size
 have hb:Below w.heap.size w (thrW (runW w (decF P.wB.heap.size)) (takeF P.wB.heap.size)):=(((((Below.refl _ _).alloc (Nat.le_refl _) _).alloc (by simp) _).alloc (by simp;omega) _).alloc (by simp;omega) _).alloc (by simp;omega) _
 have mv:∀ {b:Nat} {o:Obj},w.heap[b]?=some o→(thrW (runW w (decF P.wB.heap.size)) (takeF P.wB.heap.size)).heap[b]?=some o:=fun {b o} hx=>(hb.block b (zA2 hx)).trans hx
 have hbB:Below P.wB.heap.size P.wB (thrW (runW w (decF P.wB.heap.size)) (takeF P.wB.heap.size)):=h.below.trans (hb.mono h.below.size)
 have hR:P.R 0=P.s0:=rfl
 refine⟨⟨.slice none 0 0,P.X,⟨hP.live.go hbB,fun b hb=>.inl hb,KeepX.of_below hbB,fun b hb=>.inl (hP.live.lt hb),mv h.l,mv h.n,mv h.r,mv h.d,mv h.l2,mv h.bad,mv h.p,mv h.c,mv h.s,?_,?_,?_,?_,?_,?_,fun g hg=>by cases hg⟩⟩,⟨Nat.zero_le _,fun i hi=>absurd hi (Nat.not_lt_zero _)⟩⟩
 ·have:=heap_alloc_new w (.cells #[decF P.wB.heap.size] 93)
  rw[hz] at this
  exact zA3 (zA3 (zA3 (zA3 this)))
 ·rw[hR,hP.clear]
  exact zA3 (zA3 (zA3 (zAM (by simp[hz]))))
 ·exact zA3 (zA3 (zAM (by simp[hz])))
 ·exact zA3 (zAM (by simp[hz]))
 ·exact zAM (by simp[hz])
 ·rw[hR,hP.clear]
  exact World.ownsRow_nil _ _ _ _
theorem go_seq {P:Cast}(hP:P.Ok){w:World}(h:Pre P w):
  Calls Tryz.prog 51 #[decF P.wB.heap.size,ptr (P.wB.heap.size+7),ptr (P.wB.heap.size+8)] w (ThrR (P.wB.heap.size+12) (GoneD P) (fun _ _ _=>False)):=by
 have hz:=h.size
 have hz2:(runW w (decF P.wB.heap.size)).heap.size=P.wB.heap.size+12:=by simp[hz]
 have h2:=fun hs=>zIR (lb:=P.wB.heap.size+4) (bb:=P.wB.heap.size+5) (pb:=P.wB.heap.size+6) (F:=53) (caps:=#[ptr (P.wB.heap.size+8),ptr (P.wB.heap.size+11),ptr (P.wB.heap.size+10)]) (w:=runW w (decF P.wB.heap.size)) (Q:=GoneD P) (P:=fun _ _ _=>False) hs
 rw[hz2] at h2
 have h3:=fun ht=>zOJ (w:=w) (Y:=31) (yc:=#[ptr (P.wB.heap.size+3),ptr (P.wB.heap.size+9),ptr (P.wB.heap.size+1),ptr P.wB.heap.size]) (Q:=GoneD P) (P:=fun _ _ _=>False) h.e h.c ht
 rw[hz] at h3
 exact h3 (h2 (go_source hP (h.begin hP)))
abbrev deW (P:Cast):World:=(((P.wB.alloc (.cells #[.slice P.ao P.E.length P.cp] 49)).alloc (.cells #[.int .i64 P.stop] 3)).alloc (.cells #[.slice none 0 0,.int .i64 0,.int .i64 0,.bool false] 53)).alloc (.cells #[.slice none 0 0,.int .i64 0,.int .i64 0,.bool false] 53)
structure Pre1 (P:Cast) (w:World):Prop where
 size:w.heap.size=P.wB.heap.size+7
 below:Below P.wB.heap.size P.wB w
 l:One w P.wB.heap.size (.slice P.ao P.E.length P.cp) 49
 n:One w (P.wB.heap.size+1) (.int .i64 P.stop) 3
 r:w.heap[P.wB.heap.size+2]?=some (.cells #[.slice none 0 0,.int .i64 0,.int .i64 0,.bool false] 53 (0,0))
 d:w.heap[P.wB.heap.size+3]?=some (.cells #[.slice none 0 0,.int .i64 0,.int .i64 0,.bool false] 53 (0,0))
 l2:One w (P.wB.heap.size+4) (.slice P.ao P.E.length P.cp) 49
 bad:One w (P.wB.heap.size+5) (.int .i64 P.bad) 3
 p:One w (P.wB.heap.size+6) (.pointer (some ⟨P.wB.heap.size+3,1,none⟩)) 89
theorem pre_source (P:Cast):Calls Tryz.prog 29 #[.slice P.ao P.E.length P.cp,.int .i64 P.bad,.pointer (some ⟨P.wB.heap.size+3,1,none⟩)] (deW P) fun e w'=>e=.returned (.func (.func 50) #[] #[ptr (P.wB.heap.size+4),ptr (P.wB.heap.size+5),ptr (P.wB.heap.size+6)])∧Pre1 P w':=by
 have hz:(deW P).heap.size=P.wB.heap.size+4:=by simp
 have hs:=zGZ (ao:=P.ao) (m:=P.E.length) (cp:=P.cp) (bad:=P.bad) (tb:=P.wB.heap.size+3) (to:=1) (w:=deW P)
 rw[hz] at hs
 refine hs.mono ?_
 rintro e w' ⟨rfl,hb,hz1,s4,s5,s6⟩
 have mv:∀ {b:Nat} {o:Obj},(deW P).heap[b]?=some o→w'.heap[b]?=some o:=fun {b o} hx=>(hb.block b (by have:=zA2 hx;rwa [hz] at this)).trans hx
 have hbW:Below P.wB.heap.size P.wB (deW P):=((((Below.refl _ _).alloc (Nat.le_refl _) _).alloc (by simp) _).alloc (by simp;omega) _).alloc (by simp;omega) _
 exact⟨rfl,⟨hz1,hbW.trans (hb.mono (by omega)),mv (zA3 (zA3 (zA3 (heap_alloc_new _ _)))),mv (zA3 (zA3 (zAM (by simp)))),mv (zA3 (zAM (by simp))),mv (zAM (by simp)),s4,s5,s6⟩⟩
theorem Pre1.pre {P:Cast}{w:World}(h:Pre1 P w):Pre P ((((zMO w (.func (.func 50) #[] #[ptr (P.wB.heap.size+4),ptr (P.wB.heap.size+5),ptr (P.wB.heap.size+6)]) (ptr P.c)).setCell ⟨P.wB.heap.size+3,2,none⟩ (.int .i64 0)).setCell ⟨P.wB.heap.size+3,3,none⟩ (.bool true)).alloc (.cells #[.bool false] 4)):=by
 have hz:=h.size
 have lw:=h.below.size
 generalize hW:zMO w (.func (.func 50) #[] #[ptr (P.wB.heap.size+4),ptr (P.wB.heap.size+5),ptr (P.wB.heap.size+6)]) (ptr P.c)=W
 have hzW:W.heap.size=P.wB.heap.size+9:=by rw[←hW];simp[hz]
 have hb:Below w.heap.size w W:=by rw[←hW];exact((Below.refl _ _).alloc (Nat.le_refl _) _).alloc (by simp) _
 have e7:One W (P.wB.heap.size+7) (.func (.func 50) #[] #[ptr (P.wB.heap.size+4),ptr (P.wB.heap.size+5),ptr (P.wB.heap.size+6)]) 87:=by
  rw[←hW]
  have:=heap_alloc_new w (.cells #[.func (.func 50) #[] #[ptr (P.wB.heap.size+4),ptr (P.wB.heap.size+5),ptr (P.wB.heap.size+6)]] 87)
  rw[hz] at this
  exact zA3 this
 have e8:One W (P.wB.heap.size+8) (ptr P.c) 72:=by
  rw[←hW]
  exact zAM (by simp[hz])
 clear hW
 have mv:∀ {b:Nat} {o:Obj},W.heap[b]?=some o→b≠P.wB.heap.size+3→(((W.setCell ⟨P.wB.heap.size+3,2,none⟩ (.int .i64 0)).setCell ⟨P.wB.heap.size+3,3,none⟩ (.bool true)).alloc (.cells #[.bool false] 4)).heap[b]?=some o:=fun {b o} hx ne=>zA3 ((Below.heap_setCell _ _ _ b ne).trans ((Below.heap_setCell _ _ _ b ne).trans hx))
 have up:∀ {b:Nat} {o:Obj},w.heap[b]?=some o→W.heap[b]?=some o:=fun {b o} hx=>(hb.block b (zA2 hx)).trans hx
 refine⟨by simp[hzW],((h.below.trans (hb.mono lw)).setCell (by simp) _ |>.setCell (by simp) _).alloc (by simp[hzW]) _,mv (up h.l) (by omega),mv (up h.n) (by omega),mv (up h.r) (by omega),zA3 (zA4 (i:=3) (v:=.bool true) (zA4 (i:=2) (v:=.int .i64 0) (up h.d))),mv (up h.l2) (by omega),mv (up h.bad) (by omega),mv (up h.p) (by omega),mv e7 (by omega),mv e8 (by omega),zAM (by simp[hzW])⟩
theorem Tryz.eqSeq2 (F:Nat)(caps:Array Value)(w:World):(binOp .eql 91 (.func (.func F) #[] caps) .nilFunc).run Tryz.prog w=.ok (.bool false) w:=by kernel_rfl
set_option maxRecDepth 1000000 in
set_option maxHeartbeats 4000000 in
theorem zQ2 {P:Cast}(hP:P.Ok){x:Nat}(hx:P.wB.heap[x]?=some (.cells #[ptr P.c] 74 (0,0))):
  Calls Tryz.prog 13 #[ptr x,.slice P.ao P.E.length P.cp,.bool false,.int .i64 P.stop,.int .i64 P.bad] P.wB (DecideR P):=by
 have hmf:∀ (fn:Fn) (first cap:Array Value) (w:World),(Instr.makeFunc fn first cap).run Tryz.prog w=.ok (.func fn first cap) w:=fun _ _ _ _=>rfl
 have hq2:=Tryz.eqSeq2 51
 have lx:=zA2 hx
 have hps:=pre_source P
 have HX:Hid _:=hx
 have HP:Hid _:=hP
 clear hx hP
 go_enter Tryz.func13,Tryz.ntmps13
 go_wp2_with fail
 refine hps.mono ?_
 rintro e w1 ⟨rfl,h1⟩
 have c0:=zA0 (i:=0) (v:=ptr P.c) ((h1.below.block _ lx).trans HX.out) rfl
 have d0:=h1.d
 have hz1:=h1.size
 have hds:=zF2 (F:=50) (caps:=#[ptr (P.wB.heap.size+4),ptr (P.wB.heap.size+5),ptr (P.wB.heap.size+6)]) (cv:=some ⟨P.c,0,none⟩) (w:=w1)
 rw[hz1] at hds
 have hseq:=go_seq HP.out h1.pre
 have dc1:(zMO w1 (.func (.func 50) #[] #[ptr (P.wB.heap.size+4),ptr (P.wB.heap.size+5),ptr (P.wB.heap.size+6)]) (ptr P.c)).heap[P.wB.heap.size+3]?=some (.cells #[.slice none 0 0,.int .i64 0,.int .i64 0,.bool false] 53 (0,0)):=zA3 (zA3 d0)
 have hzW:(zMO w1 (.func (.func 50) #[] #[ptr (P.wB.heap.size+4),ptr (P.wB.heap.size+5),ptr (P.wB.heap.size+6)]) (ptr P.c)).heap.size=P.wB.heap.size+9:=by simp[hz1]
 clear h1 d0 hps
 go_wp2_with fail
 refine hds.mono ?_
 rintro e w2 ⟨rfl,hw2⟩
 rw[←hw2] at hseq dc1 hzW
 have f1:=zA0 (i:=1) (v:=.int .i64 0) dc1 rfl
 have f2:=zA0 (i:=2) (v:=.int .i64 0) dc1 rfl
 have f3:=zA0 (i:=3) (v:=.bool false) dc1 rfl
 have z2:=zA1 (i:=2) dc1
 have z3:=zA1 (i:=3) dc1
 have ld:=zA2 dc1
 clear hds hw2 dc1 c0 hz1
 go_wp2_with fail
 refine hseq.mono ?_
 rintro e w3 (⟨rfl,w4,⟨n,ov,st,lv,X',hwant,hD⟩,hk⟩ | ⟨u,pv,older,rfl,-,w4,hF,-⟩)
 ·have hd3:=(hk.block _ (zA2 hD.d) (by omega)).trans hD.d
  have g0:=zA0 (i:=0) (v:=lv) hd3 rfl
  have g1:=zA0 (i:=1) (v:=.int .i64 n) hd3 rfl
  have g2:=zA0 (i:=2) (v:=.int .i64 0) hd3 rfl
  have g3:=zA0 (i:=3) (v:=.bool true) hd3 rfl
  have l3:=zA2 hd3
  obtain⟨la,lc,hla⟩:=zAI hD.row
  rw[hla] at g0
  have hr3:=(hk.block _ (zA2 hD.r) (by omega)).trans hD.r
  have y0:=zA0 (i:=0) (v:=.slice none 0 0) hr3 rfl
  have y1:=zA0 (i:=1) (v:=.int .i64 0) hr3 rfl
  have y2:=zA0 (i:=2) (v:=.int .i64 0) hr3 rfl
  have y3:=zA0 (i:=3) (v:=.bool false) hr3 rfl
  have x0:=zA1 (i:=0) hr3
  have x1:=zA1 (i:=1) hr3
  have x2:=zA1 (i:=2) hr3
  have x3:=zA1 (i:=3) hr3
  have l2:=zA2 hr3
  have FIN:Hid (∀ w6,KeepX (· = P.wB.heap.size+2) w3 w6→DecideR P (.returned (.agg #[.slice la (P.R n).L.length lc,.int .i64 n,.int .i64 0,.bool true])) w6):=fun w6 hk6=>by
   have hle:=HP.out.live.le
   have hb0:=HP.out.live.below.size
   have hlv:=(hD.live.other hk (fun b hb (e:b=_)=>by have:=hD.new b hb;omega) (fun b (e:b=_)=>by omega)).other hk6 (fun b hb (e:b=_)=>by have:=hD.new b hb;omega) (fun b (e:b=_)=>by omega)
   refine⟨n,lv,X',hwant,by rw[hla],zA7 hD.row fun g hg=>(hk6.block g (Nat.lt_of_lt_of_le (hD.row.lt g hg).2 hk.size) (by have:=hD.rownew g hg;omega)).trans (hk.block g (hD.row.lt g hg).2 (by have:=hD.rownew g hg;omega)),fun g hg=>by have:=hD.rownew g hg;omega,hlv,hD.grew,?_⟩
   have k0:=hD.keep
   exact⟨hk6.os.trans (hk.os.trans k0.os),hk6.tape.trans (hk.tape.trans k0.tape),hk6.output.trans (hk.output.trans k0.output),Nat.le_trans k0.size (Nat.le_trans hk.size hk6.size),fun b lt nx=>(hk6.block b (Nat.lt_of_lt_of_le lt (Nat.le_trans k0.size hk.size)) (by omega)).trans ((hk.block b (Nat.lt_of_lt_of_le lt k0.size) (by omega)).trans (k0.block b lt nx))⟩
  clear hseq hk hD hd3 hr3 hla f1 f2 f3 z2 z3
  go_wp2
  refine bodyPost_ret (v:=.agg #[.slice la (P.R n).L.length lc,.int .i64 n,.int .i64 0,.bool true]) ?_ rfl ?_
  ·simp[results,Tryz.results13,go_sem,y0,y1,y2,y3]
  ·refine FIN.out _ ⟨rfl,rfl,rfl,by simp,fun k _ hk=>?_⟩
   iterate 4 (refine(Below.heap_setCell _ _ _ k hk).trans ?_)
   rfl
 ·exact hF.elim
theorem zKD {w w1:World}{b:Nat}(h:Below w.heap.size w w1)(hb:w.heap.size≤b)(i j:Nat)(u v:Value)(o:Obj):Below w.heap.size w (((w1.setCell ⟨b,i,none⟩ u).setCell ⟨b,j,none⟩ v).alloc o):=((h.setCell hb _).setCell hb _).alloc (by simp;exact h.size) _
set_option maxRecDepth 1000000 in
set_option maxHeartbeats 4000000 in
theorem zJ6 {w:World}{x c m cp:Nat}{ao:Option Addr}{stop bad:Int}(hx:w.heap[x]?=some (.cells #[ptr c] 74 (0,0))):
  Calls Tryz.prog 13 #[ptr x,.slice ao m cp,.bool true,.int .i64 stop,.int .i64 bad] w fun e w'=>e=.returned (.agg #[.slice none 0 0,.int .i64 0,.int .i64 0,.bool true])∧Below w.heap.size w w':=by
 have hmf:∀ (fn:Fn) (first cap:Array Value) (w:World),(Instr.makeFunc fn first cap).run Tryz.prog w=.ok (.func fn first cap) w:=fun _ _ _ _=>rfl
 have hq2:=Tryz.eqSeq2 51
 have c0:=zA0 (i:=0) (v:=ptr c) hx rfl
 have lx:=zA2 hx
 have hbW:Below w.heap.size w ((((w.alloc (.cells #[.slice ao m cp] 49)).alloc (.cells #[.int .i64 stop] 3)).alloc (.cells #[.slice none 0 0,.int .i64 0,.int .i64 0,.bool false] 53)).alloc (.cells #[.slice none 0 0,.int .i64 0,.int .i64 0,.bool false] 53)):=((((Below.refl _ _).alloc (Nat.le_refl _) _).alloc (by simp) _).alloc (by simp;omega) _).alloc (by simp;omega) _
 have hr:((((w.alloc (.cells #[.slice ao m cp] 49)).alloc (.cells #[.int .i64 stop] 3)).alloc (.cells #[.slice none 0 0,.int .i64 0,.int .i64 0,.bool false] 53)).alloc (.cells #[.slice none 0 0,.int .i64 0,.int .i64 0,.bool false] 53)).heap[w.heap.size+2]?=some (.cells #[.slice none 0 0,.int .i64 0,.int .i64 0,.bool false] 53 (0,0)):=zA3 (zAM (by simp))
 have hd:((((w.alloc (.cells #[.slice ao m cp] 49)).alloc (.cells #[.int .i64 stop] 3)).alloc (.cells #[.slice none 0 0,.int .i64 0,.int .i64 0,.bool false] 53)).alloc (.cells #[.slice none 0 0,.int .i64 0,.int .i64 0,.bool false] 53)).heap[w.heap.size+3]?=some (.cells #[.slice none 0 0,.int .i64 0,.int .i64 0,.bool false] 53 (0,0)):=zAM (by simp)
 have hz:((((w.alloc (.cells #[.slice ao m cp] 49)).alloc (.cells #[.int .i64 stop] 3)).alloc (.cells #[.slice none 0 0,.int .i64 0,.int .i64 0,.bool false] 53)).alloc (.cells #[.slice none 0 0,.int .i64 0,.int .i64 0,.bool false] 53)).heap.size=w.heap.size+4:=by simp
 have hds:=zHG (cv:=some ⟨c,0,none⟩) (w:=(((w.alloc (.cells #[.slice ao m cp] 49)).alloc (.cells #[.int .i64 stop] 3)).alloc (.cells #[.slice none 0 0,.int .i64 0,.int .i64 0,.bool false] 53)).alloc (.cells #[.slice none 0 0,.int .i64 0,.int .i64 0,.bool false] 53))
 rw[hz] at hds
 have cx:((((w.alloc (.cells #[.slice ao m cp] 49)).alloc (.cells #[.int .i64 stop] 3)).alloc (.cells #[.slice none 0 0,.int .i64 0,.int .i64 0,.bool false] 53)).alloc (.cells #[.slice none 0 0,.int .i64 0,.int .i64 0,.bool false] 53)).cell? ⟨x,0,none⟩=some (ptr c):=zA0 (zA3 (zA3 (zA3 (zA3 hx)))) rfl
 have HH:Hid _:=And.intro hbW (And.intro hr (And.intro hd hz))
 clear hx hbW hr hd hz
 go_enter Tryz.func13,Tryz.ntmps13
 go_wp2_with fail
 refine hds.mono ?_
 rintro e w2 ⟨rfl,hw2⟩
 have hb2:Below w.heap.size w w2:=by rw[hw2];exact(HH.out.1.alloc HH.out.1.size _).alloc (by have:=HH.out.1.size;simp;omega) _
 have hz2:w2.heap.size=w.heap.size+6:=by rw[hw2];simp
 have hd2:w2.heap[w.heap.size+3]?=some (.cells #[.slice none 0 0,.int .i64 0,.int .i64 0,.bool false] 53 (0,0)):=by rw[hw2];exact zA3 (zA3 HH.out.2.2.1)
 have hr2:w2.heap[w.heap.size+2]?=some (.cells #[.slice none 0 0,.int .i64 0,.int .i64 0,.bool false] 53 (0,0)):=by rw[hw2];exact zA3 (zA3 HH.out.2.1)
 have he2:One w2 (w.heap.size+4) .nilFunc 87:=by rw[hw2];exact zA3 (zAM (by simp))
 have f1:=zA0 (i:=1) (v:=.int .i64 0) hd2 rfl
 have f2:=zA0 (i:=2) (v:=.int .i64 0) hd2 rfl
 have f3:=zA0 (i:=3) (v:=.bool false) hd2 rfl
 have z2:=zA1 (i:=2) hd2
 have z3:=zA1 (i:=3) hd2
 have ld:=zA2 hd2
 have d4:((w2.setCell ⟨w.heap.size+3,2,none⟩ (.int .i64 0)).setCell ⟨w.heap.size+3,3,none⟩ (.bool true)).heap[w.heap.size+3]?=some (.cells #[.slice none 0 0,.int .i64 0,.int .i64 0,.bool true] 53 (0,0)):=zA4 (i:=3) (v:=.bool true) (zA4 (i:=2) (v:=.int .i64 0) hd2)
 have hseq:=zHF (cb:=w.heap.size+5) (Y:=31) (yc:=#[ptr (w.heap.size+3),ptr (w.heap.size+6),ptr (w.heap.size+1),ptr w.heap.size]) (w:=((w2.setCell ⟨w.heap.size+3,2,none⟩ (.int .i64 0)).setCell ⟨w.heap.size+3,3,none⟩ (.bool true)).alloc (.cells #[.bool false] 4)) (zA3 (zA6 (zA6 he2 (by simp)) (by simp)))
 have H2:Hid _:=And.intro (zKD (b:=w.heap.size+3) hb2 (by omega) 2 3 (.int .i64 0) (.bool true) (.cells #[.bool false] 4)) (And.intro (zA3 (o:=.cells #[.bool false] 4) d4) (zA3 (o:=.cells #[.bool false] 4) (zA6 (v:=.bool true) (a:=⟨w.heap.size+3,3,none⟩) (zA6 (v:=.int .i64 0) (a:=⟨w.heap.size+3,2,none⟩) hr2 (by simp)) (by simp))))
 clear hds hw2 hb2 hd2 hr2 he2 c0 cx d4
 go_wp2_with fail
 refine hseq.mono ?_
 rintro e w3 ⟨rfl,hb3⟩
 have hd3:=(hb3.block _ (zA2 H2.out.2.1)).trans H2.out.2.1
 have hr3:=(hb3.block _ (zA2 H2.out.2.2)).trans H2.out.2.2
 have g0:=zA0 (i:=0) (v:=.slice none 0 0) hd3 rfl
 have g1:=zA0 (i:=1) (v:=.int .i64 0) hd3 rfl
 have g2:=zA0 (i:=2) (v:=.int .i64 0) hd3 rfl
 have g3:=zA0 (i:=3) (v:=.bool true) hd3 rfl
 have y0:=zA0 (i:=0) (v:=.slice none 0 0) hr3 rfl
 have y1:=zA0 (i:=1) (v:=.int .i64 0) hr3 rfl
 have y2:=zA0 (i:=2) (v:=.int .i64 0) hr3 rfl
 have y3:=zA0 (i:=3) (v:=.bool false) hr3 rfl
 have x0:=zA1 (i:=0) hr3
 have x1:=zA1 (i:=1) hr3
 have x2:=zA1 (i:=2) hr3
 have x3:=zA1 (i:=3) hr3
 have l2:=zA2 hr3
 have l3:=zA2 hd3
 have H3:Hid (Below w.heap.size w w3):=H2.out.1.trans (hb3.mono H2.out.1.size)
 clear hseq hb3 hd3 hr3 f1 f2 f3 z2 z3
 go_wp2
 refine bodyPost_ret (v:=.agg #[.slice none 0 0,.int .i64 0,.int .i64 0,.bool true]) ?_ rfl ?_
 ·simp[results,Tryz.results13,go_sem,y0,y1,y2,y3]
 ·refine⟨rfl,?_⟩
  iterate 4 (refine Below.setCell ?_ (by simp;omega) _)
  exact H3.out
set_option maxRecDepth 1000000 in
set_option maxHeartbeats 4000000 in
theorem zHH {w:World}{m cp:Nat}{ao:Option Addr}{stop bad:Int}:
  Calls Tryz.prog 13 #[.pointer none,.slice ao m cp,.bool false,.int .i64 stop,.int .i64 bad] w fun e w'=>e=.returned (.agg #[.slice none 0 0,.int .i64 0,.int .i64 0,.bool true])∧Below w.heap.size w w':=by
 have hmf:∀ (fn:Fn) (first cap:Array Value) (w:World),(Instr.makeFunc fn first cap).run Tryz.prog w=.ok (.func fn first cap) w:=fun _ _ _ _=>rfl
 have hq2:=Tryz.eqSeq2 51
 have hbW:Below w.heap.size w ((((w.alloc (.cells #[.slice ao m cp] 49)).alloc (.cells #[.int .i64 stop] 3)).alloc (.cells #[.slice none 0 0,.int .i64 0,.int .i64 0,.bool false] 53)).alloc (.cells #[.slice none 0 0,.int .i64 0,.int .i64 0,.bool false] 53)):=((((Below.refl _ _).alloc (Nat.le_refl _) _).alloc (by simp) _).alloc (by simp;omega) _).alloc (by simp;omega) _
 have hr:((((w.alloc (.cells #[.slice ao m cp] 49)).alloc (.cells #[.int .i64 stop] 3)).alloc (.cells #[.slice none 0 0,.int .i64 0,.int .i64 0,.bool false] 53)).alloc (.cells #[.slice none 0 0,.int .i64 0,.int .i64 0,.bool false] 53)).heap[w.heap.size+2]?=some (.cells #[.slice none 0 0,.int .i64 0,.int .i64 0,.bool false] 53 (0,0)):=zA3 (zAM (by simp))
 have hd:((((w.alloc (.cells #[.slice ao m cp] 49)).alloc (.cells #[.int .i64 stop] 3)).alloc (.cells #[.slice none 0 0,.int .i64 0,.int .i64 0,.bool false] 53)).alloc (.cells #[.slice none 0 0,.int .i64 0,.int .i64 0,.bool false] 53)).heap[w.heap.size+3]?=some (.cells #[.slice none 0 0,.int .i64 0,.int .i64 0,.bool false] 53 (0,0)):=zAM (by simp)
 have hz:((((w.alloc (.cells #[.slice ao m cp] 49)).alloc (.cells #[.int .i64 stop] 3)).alloc (.cells #[.slice none 0 0,.int .i64 0,.int .i64 0,.bool false] 53)).alloc (.cells #[.slice none 0 0,.int .i64 0,.int .i64 0,.bool false] 53)).heap.size=w.heap.size+4:=by simp
 have hs:=zGZ (ao:=ao) (m:=m) (cp:=cp) (bad:=bad) (tb:=w.heap.size+3) (to:=1) (w:=(((w.alloc (.cells #[.slice ao m cp] 49)).alloc (.cells #[.int .i64 stop] 3)).alloc (.cells #[.slice none 0 0,.int .i64 0,.int .i64 0,.bool false] 53)).alloc (.cells #[.slice none 0 0,.int .i64 0,.int .i64 0,.bool false] 53))
 rw[hz] at hs
 have HH:Hid _:=And.intro hbW (And.intro hr (And.intro hd hz))
 clear hbW hr hd hz
 go_enter Tryz.func13,Tryz.ntmps13
 go_wp2_with fail
 refine hs.mono ?_
 rintro e w1 ⟨rfl,hb1,hz1,-,-,-⟩
 have hds:=zF2 (F:=50) (caps:=#[ptr (w.heap.size+4),ptr (w.heap.size+5),ptr (w.heap.size+6)]) (cv:=none) (w:=w1)
 rw[hz1] at hds
 have H1:Hid (Below w.heap.size w w1∧w1.heap[w.heap.size+3]?=some (.cells #[.slice none 0 0,.int .i64 0,.int .i64 0,.bool false] 53 (0,0))∧w1.heap[w.heap.size+2]?=some (.cells #[.slice none 0 0,.int .i64 0,.int .i64 0,.bool false] 53 (0,0))):=⟨HH.out.1.trans (hb1.mono (by omega)),(hb1.block _ (by omega)).trans HH.out.2.2.1,(hb1.block _ (by omega)).trans HH.out.2.1⟩
 clear hs hb1
 go_wp2_with fail
 refine hds.mono ?_
 rintro e w2 ⟨rfl,hw2⟩
 have hb2:Below w.heap.size w w2:=by rw[hw2];exact(H1.out.1.alloc H1.out.1.size _).alloc (by have:=H1.out.1.size;simp;omega) _
 have hz2:w2.heap.size=w.heap.size+9:=by rw[hw2];simp[hz1]
 have hd2:w2.heap[w.heap.size+3]?=some (.cells #[.slice none 0 0,.int .i64 0,.int .i64 0,.bool false] 53 (0,0)):=by rw[hw2];exact zA3 (zA3 H1.out.2.1)
 have hr2:w2.heap[w.heap.size+2]?=some (.cells #[.slice none 0 0,.int .i64 0,.int .i64 0,.bool false] 53 (0,0)):=by rw[hw2];exact zA3 (zA3 H1.out.2.2)
 have he2:One w2 (w.heap.size+7) (.func (.func 50) #[] #[ptr (w.heap.size+4),ptr (w.heap.size+5),ptr (w.heap.size+6)]) 87:=by
  rw[hw2]
  have:=heap_alloc_new w1 (.cells #[.func (.func 50) #[] #[ptr (w.heap.size+4),ptr (w.heap.size+5),ptr (w.heap.size+6)]] 87)
  rw[hz1] at this
  exact zA3 this
 have hc2:One w2 (w.heap.size+8) (.pointer none) 72:=by rw[hw2];exact zAM (by simp[hz1])
 have f1:=zA0 (i:=1) (v:=.int .i64 0) hd2 rfl
 have f2:=zA0 (i:=2) (v:=.int .i64 0) hd2 rfl
 have f3:=zA0 (i:=3) (v:=.bool false) hd2 rfl
 have z2:=zA1 (i:=2) hd2
 have z3:=zA1 (i:=3) hd2
 have ld:=zA2 hd2
 have d4:((w2.setCell ⟨w.heap.size+3,2,none⟩ (.int .i64 0)).setCell ⟨w.heap.size+3,3,none⟩ (.bool true)).heap[w.heap.size+3]?=some (.cells #[.slice none 0 0,.int .i64 0,.int .i64 0,.bool true] 53 (0,0)):=zA4 (i:=3) (v:=.bool true) (zA4 (i:=2) (v:=.int .i64 0) hd2)
 have hseq:=zJ5 (Y:=31) (yc:=#[ptr (w.heap.size+3),ptr (w.heap.size+9),ptr (w.heap.size+1),ptr w.heap.size]) (w:=((w2.setCell ⟨w.heap.size+3,2,none⟩ (.int .i64 0)).setCell ⟨w.heap.size+3,3,none⟩ (.bool true)).alloc (.cells #[.bool false] 4)) (zA3 (zA6 (zA6 he2 (by simp)) (by simp))) (zA3 (zA6 (zA6 hc2 (by simp)) (by simp)))
 have H2:Hid _:=And.intro (zKD (b:=w.heap.size+3) hb2 (by omega) 2 3 (.int .i64 0) (.bool true) (.cells #[.bool false] 4)) (And.intro (zA3 (o:=.cells #[.bool false] 4) d4) (zA3 (o:=.cells #[.bool false] 4) (zA6 (v:=.bool true) (a:=⟨w.heap.size+3,3,none⟩) (zA6 (v:=.int .i64 0) (a:=⟨w.heap.size+3,2,none⟩) hr2 (by simp)) (by simp))))
 clear hds hw2 hb2 hd2 hr2 he2 hc2 d4 hz1
 go_wp2_with fail
 refine hseq.mono ?_
 rintro e w3 ⟨rfl,hb3⟩
 have hd3:=(hb3.block _ (zA2 H2.out.2.1)).trans H2.out.2.1
 have hr3:=(hb3.block _ (zA2 H2.out.2.2)).trans H2.out.2.2
 have g0:=zA0 (i:=0) (v:=.slice none 0 0) hd3 rfl
 have g1:=zA0 (i:=1) (v:=.int .i64 0) hd3 rfl
 have g2:=zA0 (i:=2) (v:=.int .i64 0) hd3 rfl
 have g3:=zA0 (i:=3) (v:=.bool true) hd3 rfl
 have y0:=zA0 (i:=0) (v:=.slice none 0 0) hr3 rfl
 have y1:=zA0 (i:=1) (v:=.int .i64 0) hr3 rfl
 have y2:=zA0 (i:=2) (v:=.int .i64 0) hr3 rfl
 have y3:=zA0 (i:=3) (v:=.bool false) hr3 rfl
 have x0:=zA1 (i:=0) hr3
 have x1:=zA1 (i:=1) hr3
 have x2:=zA1 (i:=2) hr3
 have x3:=zA1 (i:=3) hr3
 have l2:=zA2 hr3
 have l3:=zA2 hd3
 have H3:Hid (Below w.heap.size w w3):=H2.out.1.trans (hb3.mono H2.out.1.size)
 clear hseq hb3 hd3 hr3 f1 f2 f3 z2 z3
 go_wp2
 refine bodyPost_ret (v:=.agg #[.slice none 0 0,.int .i64 0,.int .i64 0,.bool true]) ?_ rfl ?_
 ·simp[results,Tryz.results13,go_sem,y0,y1,y2,y3]
 ·refine⟨rfl,?_⟩
  iterate 4 (refine Below.setCell ?_ (by simp;omega) _)
  exact H3.out
end Go.Proofs.YtbokdbaagacnlaaGreatDoor
