import Derived.Test.YtbokdbaagacnlaaGreatDoorJQ45
namespace Go.Proofs.YtbokdbaagacnlaaGreatDoor
open Go.RowKit Go.Lib
theorem infoDec : (Tryz.prog.info? 40).map (fun i=>(i.zero,i.size,i.bytes))=some (some (.agg #[.int .i64 0,.int .i64 0,.int .i64 0,.int .i64 0,.int .i64 0,.int .i64 0,.int .i64 0,.string { data:=#[] }]),8,72):=by kernel_rfl
theorem zQK {w:World}{k:Nat}{cs:Array Value}{t:TypeId}{fr:Nat × Nat}(h:w.heap[k]?=some (.cells cs t fr)):∀ (j:Nat) (u:Value),cs.toList[j]?=some u→w.cell? ((⟨k,0,none⟩:Addr).add j)=some u:=by
 intro j u hu
 have ha:(⟨k,0,none⟩:Addr).add j=⟨k,j,none⟩:=by unfold Addr.add;split <;> simp_all
 rw[ha]
 exact zA0 h (by simpa using hu)
theorem derr_other {A:Nat→Addr}{w w':World}{d:DErr}{v:Value}(h:zDZ A w d v){b0:Nat}{cs:Array Value}{T0:TypeId}{fr:Nat × Nat}(hx:w.heap[b0]?=some (.cells cs T0 fr))(hT:T0≠198∧T0≠205)(hk:KeepX (· = b0) w w'):zDZ A w' d v:=by
 cases d with
 | fine=>exact h
 | stale=>exact h
 | cooling=>exact h
 | held p y=>
  have ne:∀ {b:Nat} {cs2:Array Value} {t2:TypeId} {fr2:Nat × Nat},w.heap[b]?=some (Obj.cells cs2 t2 fr2)→t2≠T0→w'.heap[b]?=w.heap[b]?:=fun {b cs2 t2 fr2} hb ht=>hk.block b (zA2 hb) fun e=>kind_ne hb hx ht e
  obtain⟨b,T,x,rfl,h1,h2⟩:=h
  refine⟨b,T,x,rfl,(ne h1 (Ne.symm hT.1)).trans h1,?_⟩
  cases y with
  | divide=>exact h2
  | noData=>exact h2
  | failed=>exact h2
  | panic n=>
   obtain⟨e,c,rfl,h3⟩:=h2
   exact⟨e,c,rfl,(ne h3 (Ne.symm hT.2)).trans h3⟩
def Dec1R (w:World)(db sb n:Nat)(i t cnt stop:Int)(taken:Nat)(lv:Value)(d:DErr)(xs:List Value)(e:Ending)(w':World):Prop:=
 e=.returned (.bool (!decide ((n:Int)+1=stop)))∧∃ lv',w'.heap[db]?=some (.cells #[lv',.int .i64 taken,.int .i64 0,.bool true] 53 (0,0))∧w'.ownsRow 0 40 8 lv' (n+1) (xs ++ [.int .i64 t,.int .i64 cnt,.int .i64 i,.int .i64 taken,.int .i64 d.e,.int .i64 d.p,.int .i64 d.m,.string { data:=#[] }])∧One w' sb (.bool (decide ((n:Int)+1=stop))) 4∧KeepX (fun b=>b=db∨b=sb∨lv.ownBlock=some b) w w'∧(lv'.ownBlock=lv.ownBlock∨∃ g,lv'.ownBlock=some g∧w.heap.size≤g)
set_option maxRecDepth 1000000 in
set_option maxHeartbeats 2000000 in
theorem zOI {A:Nat→Addr}{w:World}{db sb nb lb n m cp:Nat}{i t cnt stop:Int}{taken:Nat}{v lv:Value}{d:DErr}{ao:Option Addr}{xs:List Value}{w0:World}(hA:SentsX A w0)(hb0:Below w0.heap.size w0 w)(hdb:w0.heap.size≤db)(hde:zDZ A w d v)(hd:w.heap[db]?=some (.cells #[lv,.int .i64 taken,.int .i64 0,.bool true] 53 (0,0)))(hrow:w.ownsRow 0 40 8 lv n xs)(hs:One w sb (.bool false) 4)(hn:One w nb (.int .i64 stop) 3)(hl:One w lb (.slice ao m cp) 49)(hnm:n+1≤m)(hm:m≤1073741824):
  Calls Tryz.prog 31 #[.int .i64 i,.agg #[.int .i64 t,.int .i64 cnt,v],ptr db,ptr sb,ptr nb,ptr lb] w (Dec1R w db sb n i t cnt stop taken lv d xs):=by
 obtain⟨i0,hi,hz0,hz1,hz2⟩:=info_parts infoDec
 obtain⟨la,lc,rfl⟩:=zAI hrow
 have d0:=zA0 (i:=0) (v:=.slice la n lc) hd rfl
 have d1:=zA0 (i:=1) (v:=.int .i64 taken) hd rfl
 have d3:=zA0 (i:=3) (v:=.bool true) hd rfl
 have z3:=zA1 (i:=3) hd
 have s0:=zA0 (i:=0) (v:=.bool false) hs rfl
 have ld:=zA2 hd
 have ls:=zA2 hs
 have lvsh:=zE9 hde
 have hn1:=zA4 (i:=3) (v:=.bool true) hd
 have hW1:Below w0.heap.size w0 ((w.setCell ⟨db,3,none⟩ (.bool true)).alloc (.cells #[.int .i64 t,.int .i64 cnt,v] 71)):=(hb0.setCell hdb _).alloc (by rw[World.size_setCell];exact hb0.size) _
 have hcall:=zGJ (t:=t) (n:=cnt) (hA.below hW1) (zLH (derr_other (w':=w.setCell ⟨db,3,none⟩ (.bool true)) hde hd (by decide) (KeepX.mk rfl rfl rfl (by simp) fun k _ hk=>Below.heap_setCell _ _ _ k hk)) ((Below.refl _ _).alloc (Nat.le_refl _) (.cells #[.int .i64 t,.int .i64 cnt,v] 71)))
 have hd1:(w.setCell ⟨db,3,none⟩ (.bool true)).heap[db]?=some (.cells #[.slice la n lc,.int .i64 taken,.int .i64 0,.bool true] 53 (0,0)):=zA4 (i:=3) (v:=.bool true) hd
 have K1:KeepX (fun b=>b=db∨b=sb∨(Value.slice la n lc).ownBlock=some b) w ((w.setCell ⟨db,3,none⟩ (.bool true)).alloc (.cells #[.int .i64 t,.int .i64 cnt,v] 71)):=(KeepX.mk rfl rfl rfl (by simp) fun k _ hk=>Below.heap_setCell _ _ _ k (fun e=>hk (.inl e)):KeepX _ w (w.setCell ⟨db,3,none⟩ (.bool true))).trans (.of_below ((Below.refl _ _).alloc (Nat.le_refl _) _))
 have hnl:=kind_ne hn hd (by decide)
 have hll:=kind_ne hl hd (by decide)
 have hsl:=kind_ne hs hd (by decide)
 have hrl:∀ g,(Value.slice la n lc).ownBlock=some g→g≠db:=fun g hg e=>row_ne (e ▸ hd) hrow (by decide) hg
 have lay:∀ w2,Below ((w.setCell ⟨db,3,none⟩ (.bool true)).alloc (.cells #[.int .i64 t,.int .i64 cnt,v] 71)).heap.size ((w.setCell ⟨db,3,none⟩ (.bool true)).alloc (.cells #[.int .i64 t,.int .i64 cnt,v] 71)) w2→w2.heap[db]?=some (.cells #[.slice la n lc,.int .i64 taken,.int .i64 0,.bool true] 53 (0,0))∧One w2 sb (.bool false) 4∧One w2 nb (.int .i64 stop) 3∧One w2 lb (.slice ao m cp) 49∧w2.ownsRow 0 40 8 (.slice la n lc) n xs∧KeepX (fun b=>b=db∨b=sb∨(Value.slice la n lc).ownBlock=some b) w w2:=fun w2 hb2=>by
  have mv:∀ {b:Nat} {o:Obj},(w.setCell ⟨db,3,none⟩ (.bool true)).heap[b]?=some o→w2.heap[b]?=some o:=fun {b o} hb=>(hb2.block b (zA2 (zA3 hb))).trans (zA3 hb)
  refine⟨mv hd1,mv (zA6 hs hsl),mv (zA6 hn hnl),mv (zA6 hl hll),zA7 hrow fun g hg=>?_,K1.trans (.of_below hb2)⟩
  obtain⟨o,ho⟩:∃ o,w.heap[g]?=some o:=⟨w.heap[g]'((hrow.lt g hg).2),Array.getElem?_eq_getElem _⟩
  exact(mv ((Below.heap_setCell _ _ _ g (hrl g hg)).trans ho)).trans ho.symm
 have LAY:Hid _:=lay
 clear hA hde hd hrow hs hn hl hn1 hW1 hd1 K1 lay hrl hnl hll hb0
 have FIN:Hid (∀ (w2 W w5:World) (v':Value),Below w2.heap.size w2 W→Below ((w.setCell ⟨db,3,none⟩ (.bool true)).alloc (.cells #[.int .i64 t,.int .i64 cnt,v] 71)).heap.size ((w.setCell ⟨db,3,none⟩ (.bool true)).alloc (.cells #[.int .i64 t,.int .i64 cnt,v] 71)) w2→w5.ownsRow 0 40 8 v' (n+1) (xs ++ [.int .i64 t,.int .i64 cnt,.int .i64 i,.int .i64 taken,.int .i64 d.e,.int .i64 d.p,.int .i64 d.m,.string { data:=#[] }])→W.grownBy w5 (Value.slice la n lc).ownBlock→(v'.ownBlock=(Value.slice la n lc).ownBlock∨v'.ownBlock=some W.heap.size) →
   w5.heap[db]?=some (.cells #[.slice la n lc,.int .i64 taken,.int .i64 0,.bool true] 53 (0,0))∧One (w5.setCell ⟨db,0,none⟩ v') sb (.bool false) 4∧One (w5.setCell ⟨db,0,none⟩ v') nb (.int .i64 stop) 3∧One (w5.setCell ⟨db,0,none⟩ v') lb (.slice ao m cp) 49∧(w5.setCell ⟨db,0,none⟩ v').heap[db]?=some (.cells #[v',.int .i64 taken,.int .i64 0,.bool true] 53 (0,0)) ∧
   ∀ bb:Bool,((w5.setCell ⟨db,0,none⟩ v').setCell ⟨sb,0,none⟩ (.bool bb)).heap[db]?=some (.cells #[v',.int .i64 taken,.int .i64 0,.bool true] 53 (0,0))∧((w5.setCell ⟨db,0,none⟩ v').setCell ⟨sb,0,none⟩ (.bool bb)).ownsRow 0 40 8 v' (n+1) (xs ++ [.int .i64 t,.int .i64 cnt,.int .i64 i,.int .i64 taken,.int .i64 d.e,.int .i64 d.p,.int .i64 d.m,.string { data:=#[] }])∧One ((w5.setCell ⟨db,0,none⟩ v').setCell ⟨sb,0,none⟩ (.bool bb)) sb (.bool bb) 4∧KeepX (fun b=>b=db∨b=sb∨(Value.slice la n lc).ownBlock=some b) w ((w5.setCell ⟨db,0,none⟩ v').setCell ⟨sb,0,none⟩ (.bool bb))∧(v'.ownBlock=(Value.slice la n lc).ownBlock∨∃ g,v'.ownBlock=some g∧w.heap.size≤g)):=fun w2 W w5 v' hW hb2 hown hg hat=>by
  obtain⟨q0,q1,q2,q3,q4,q5⟩:=LAY.out w2 hb2
  have o1:Only (fun b=>(Value.slice la n lc).ownBlock=some b) w2 w5:=(⟨hW.os,hW.tape,hW.output,hW.size,fun k lt _=>hW.block k lt⟩:Only _ w2 W).grown hg (fun b _ e=>e)
  have kb:∀ {a:Nat} {cs:Array Value} {T:Nat},w2.heap[a]?=some (.cells cs T (0,0))→T≠40→w5.heap[a]?=some (.cells cs T (0,0)):=fun hh hT=>o1.heap hh (fun q=>row_ne hh q4 (fun e=>hT e.symm) q)
  have d5:=kb q0 (by decide)
  have s5:=kb q1 (by decide)
  have n5:=kb q2 (by decide)
  have l5:=kb q3 (by decide)
  have ns:sb≠db:=kind_ne s5 d5 (by decide)
  have d6:(w5.setCell ⟨db,0,none⟩ v').heap[db]?=some (.cells #[v',.int .i64 taken,.int .i64 0,.bool true] 53 (0,0)):=zA4 (i:=0) (v:=v') d5
  have s6:One (w5.setCell ⟨db,0,none⟩ v') sb (.bool false) 4:=zA6 s5 ns
  have k5:KeepX (fun b=>b=db∨b=sb∨(Value.slice la n lc).ownBlock=some b) w w5:=q5.trans ⟨o1.os,o1.tape,o1.output,o1.size,fun k lt hk=>o1.block k lt fun e=>hk (.inr (.inr e))⟩
  refine⟨d5,s6,zA6 n5 (kind_ne n5 d5 (by decide)),zA6 l5 (kind_ne l5 d5 (by decide)),d6,fun bb=>⟨zA6 d6 ns.symm,?_,zA4 (i:=0) (v:=.bool bb) s6,?_,?_⟩⟩
  ·refine zA7 hown fun g hgg=>(Below.heap_setCell _ _ _ g fun e=>?_).trans (Below.heap_setCell _ _ _ g fun e=>?_)
   ·have e:g=sb:=e
    subst e
    exact row_ne s5 hown (by decide) hgg
   ·have e:g=db:=e
    subst e
    exact row_ne d5 hown (by decide) hgg
  ·exact k5.trans ⟨rfl,rfl,rfl,by simp,fun k lt hk=>(Below.heap_setCell _ _ _ k fun e=>hk (.inr (.inl e))).trans (Below.heap_setCell _ _ _ k fun e=>hk (.inl e))⟩
  ·rcases hat with e | e
   ·exact .inl e
   ·refine .inr ⟨_,e,?_⟩
    have:=q5.size
    have:=hW.size
    omega
 obtain⟨bb,hbb,hdd⟩:∃ bb,(((n:Int)+1) == stop)=bb∧decide ((n:Int)+1=stop)=bb:=⟨_,rfl,rfl⟩
 have HDD:Hid _:=hdd
 clear hdd
 have hgt:decide ((m:Int)<(n:Int)+1)=false:=by simp;omega
 rcases lvsh with rfl | ⟨T2,x2,rfl⟩ <;> cases bb
 all_goals
  go_enter Tryz.func31,Tryz.ntmps31
  go_wp2_with fail
  refine hcall.mono ?_
  rintro e w2 ⟨rfl,hb2⟩
  obtain⟨q0,q1,q2,q3,q4,q5⟩:=LAY.out w2 hb2
  have f0:=zA0 (i:=0) (v:=.slice la n lc) q0 rfl
  have f1:=zA0 (i:=1) (v:=.int .i64 taken) q0 rfl
  have y0:=zA1 (i:=0) q0
  have g0:=zA2 q0
  have HQ:Hid _:=And.intro hb2 q4
  have HX:Hid (∀ (j:Nat) (u:Value),[Value.int .i64 t,.int .i64 cnt,.int .i64 i,.int .i64 taken,.int .i64 d.e,.int .i64 d.p,.int .i64 d.m,.string { data:=#[] }][j]?=some u→((w2.alloc (.cells #[.int .i64 t,.int .i64 cnt,.int .i64 i,.int .i64 taken,.int .i64 d.e,.int .i64 d.p,.int .i64 d.m,.string { data:=#[] }] 40)).alloc (.cells #[.int .i64 t,.int .i64 cnt,.int .i64 i,.int .i64 taken,.int .i64 d.e,.int .i64 d.p,.int .i64 d.m,.string { data:=#[] }] 40)).cell? ((⟨w2.heap.size+1,0,none⟩:Addr).add j)=some u):=by
   exact zQK (zAM (w:=w2.alloc (.cells #[.int .i64 t,.int .i64 cnt,.int .i64 i,.int .i64 taken,.int .i64 d.e,.int .i64 d.p,.int .i64 d.m,.string { data:=#[] }] 40)) (cs:=#[.int .i64 t,.int .i64 cnt,.int .i64 i,.int .i64 taken,.int .i64 d.e,.int .i64 d.p,.int .i64 d.m,.string { data:=#[] }]) (T:=40) (n:=w2.heap.size+1) (by simp))
  clear hcall hb2 q0 q1 q2 q3 q4 q5 d0 d1 d3 z3 s0
  go_wp2_with fail
  go_region_with fail
  all_goals
   go_wp2_with (first | (at_builtin; refine zAA _ rfl _ _ 51 rfl 0 40 i0 _ 8 72 Tryz.underlying51 hi hz0 hz1 hz2 rfl (by decide) (.slice la n lc) n xs rfl (zA7 ((HQ.out.2.alloc (.cells #[.int .i64 t, .int .i64 cnt, .int .i64 i, .int .i64 taken, .int .i64 d.e, .int .i64 d.p, .int .i64 d.m, .string { data := #[] }] 40)).alloc (.cells #[.int .i64 t, .int .i64 cnt, .int .i64 i, .int .i64 taken, .int .i64 d.e, .int .i64 d.p, .int .i64 d.m, .string { data := #[] }] 40)) fun _ _ => rfl) ⟨w2.heap.size + 1, 0, none⟩ 1 1 [.int .i64 t, .int .i64 cnt, .int .i64 i, .int .i64 taken, .int .i64 d.e, .int .i64 d.p, .int .i64 d.m, .string { data := #[] }] rfl rfl (fun j u hu => HX.out j u hu) (fun x hx => by simp at hx; rcases hx with rfl | rfl | rfl | rfl | rfl | rfl | rfl | rfl <;> rfl) (by unfold maxLen; omega) (by omega) (Nat.zero_le _) (by decide) ?_; intro v' w5 hown hgrow hnil
                         have q:=FIN.out w2 _ w5 v' (by first | exact((Below.refl _ _).alloc (Nat.le_refl _) _).alloc (by simp) _ | exact(((Below.refl _ _).alloc (Nat.le_refl _) _).alloc (by simp) _).drew) HQ.out.1 hown hgrow hnil
                         obtain⟨ao2,cp2,rfl⟩:=zAI hown
                         have ft:=zA1 (i:=0) q.1
                         have ct5:=zA0 (i:=0) (v:=.slice la n lc) q.1 rfl
                         have e1:=zA0 (i:=0) (v:=.bool false) q.2.1 rfl
                         have e1z:=zA1 (i:=0) q.2.1
                         have e2:=zA0 (i:=0) (v:=.int .i64 stop) q.2.2.1 rfl
                         have e3:=zA0 (i:=0) (v:=.slice ao m cp) q.2.2.2.1 rfl
                         have e4:=zA0 (i:=0) (v:=.slice ao2 (n+1) cp2) q.2.2.2.2.1 rfl
                         have Q:Hid _:=q.2.2.2.2.2
                         clear hgrow hown hnil q f0 f1 y0))
   go_ret
   exact⟨by rw[HDD.out];rfl,_,by rw[HDD.out];exact Q.out _⟩
structure Cast where
 F:ByteArray→Option Value
 A:Nat→Addr
 w0:World
 wl:World
 wB:World
 lo:Nat
 c:Nat
 u:Tree
 sp:List (ByteArray × Int)
 s0:Ran
 X:Nat→Prop
 E:List Evt
 ao:Option Addr
 cp:Nat
 stop:Int
 bad:Int
abbrev Cast.R (P:Cast)(j:Nat):Ran:=zAW P.u P.sp P.s0 P.E j
structure Cast.Ok (P:Cast):Prop where
 live:LiveX P.F zAC P.A P.w0 P.wl P.lo P.c P.s0.k P.u P.sp P.s0.T P.X P.wB
 clear:P.s0.L=[]
 few:P.E.length≤1073741824
 fit:∀ q∈P.E,In64 q.2.2.1∧In64 q.2.2.2
 evs:EvsP P.wB P.ao P.E
 rows:∀ C off,P.ao=some ⟨C,off,none⟩→¬ P.X C
abbrev decF (B:Nat):Value:=.func (.func 31) #[] #[ptr (B+3),ptr (B+9),ptr (B+1),ptr B]
abbrev takeF (B:Nat):Value:=.func (.func 53) #[] #[ptr (B+8),ptr (B+11),ptr (B+10)]
structure DSt (P:Cast) (j tk:Nat) (ov st:Bool) (x lv:Value) (X':Nat→Prop) (w:World):Prop where
 live:LiveX P.F zAC P.A P.w0 P.wl P.lo P.c (P.R j).k P.u P.sp (P.R j).T X' w
 grew:Grew P.X X' P.wB
 keep:KeepX P.X P.wB w
 new:∀ b,X' b→b<P.wB.heap.size∨P.wB.heap.size+15≤b
 l:One w P.wB.heap.size (.slice P.ao P.E.length P.cp) 49
 n:One w (P.wB.heap.size+1) (.int .i64 P.stop) 3
 r:w.heap[P.wB.heap.size+2]?=some (.cells #[.slice none 0 0,.int .i64 0,.int .i64 0,.bool false] 53 (0,0))
 d:w.heap[P.wB.heap.size+3]?=some (.cells #[lv,.int .i64 tk,.int .i64 0,.bool true] 53 (0,0))
 l2:One w (P.wB.heap.size+4) (.slice P.ao P.E.length P.cp) 49
 bad:One w (P.wB.heap.size+5) (.int .i64 P.bad) 3
 p:One w (P.wB.heap.size+6) (.pointer (some ⟨P.wB.heap.size+3,1,none⟩)) 89
 c:One w (P.wB.heap.size+8) (ptr P.c) 72
 s:One w (P.wB.heap.size+9) (.bool st) 4
 y:One w (P.wB.heap.size+10) (decF P.wB.heap.size) 93
 k:One w (P.wB.heap.size+11) (.int .i64 (P.R j).L.length) 3
 t:One w (P.wB.heap.size+12) (takeF P.wB.heap.size) 136
 o:One w (P.wB.heap.size+13) (.bool ov) 4
 own:One w (P.wB.heap.size+14) x 20
 row:w.ownsRow 0 40 8 lv (P.R j).L.length (P.R j).L.flatten
 rownew:∀ g,lv.ownBlock=some g→P.wB.heap.size+15≤g
section
variable {P:Cast} {j tk:Nat} {ov st:Bool} {x lv:Value} {X':Nat→Prop} {w:World}
theorem DSt.le (h:DSt P j tk ov st x lv X' w):P.wB.heap.size+15≤w.heap.size:=zA2 h.own
theorem DSt.set (hP:P.Ok)(h:DSt P j tk ov st x lv X' w){w':World}{tk':Nat}{ov':Bool}{x':Value}(hk:KeepX (fun b=>b=P.wB.heap.size+3∨b=P.wB.heap.size+13∨b=P.wB.heap.size+14) w w')(hd:w'.heap[P.wB.heap.size+3]?=some (.cells #[lv,.int .i64 tk',.int .i64 0,.bool true] 53 (0,0)))(ho:One w' (P.wB.heap.size+13) (.bool ov') 4)(hx:One w' (P.wB.heap.size+14) x' 20):DSt P j tk' ov' st x' lv X' w':=by
 have hs:=hP.live.size
 have hle:=hP.live.le
 have hb0:=hP.live.below.size
 have mv:∀ {b:Nat} {cs:Array Value} {T:TypeId},w.heap[b]?=some (.cells cs T (0,0))→b≠P.wB.heap.size+3→b≠P.wB.heap.size+13→b≠P.wB.heap.size+14→w'.heap[b]?=some (.cells cs T (0,0)):=fun {b cs T} hb h1 h2 h3=>(hk.block b (zA2 hb) fun e=>by rcases e with e | e | e <;> contradiction).trans hb
 refine⟨h.live.other hk (fun b hb e=>?_) (fun b e=>?_),h.grew,⟨hk.os.trans h.keep.os,hk.tape.trans h.keep.tape,hk.output.trans h.keep.output,Nat.le_trans h.keep.size hk.size,fun b lt nx=>(hk.block b (Nat.lt_of_lt_of_le lt h.keep.size) fun e=>?_).trans (h.keep.block b lt nx)⟩,h.new,mv h.l (by omega) (by omega) (by omega),mv h.n (by omega) (by omega) (by omega),mv h.r (by omega) (by omega) (by omega),hd,mv h.l2 (by omega) (by omega) (by omega),mv h.bad (by omega) (by omega) (by omega),mv h.p (by omega) (by omega) (by omega),mv h.c (by omega) (by omega) (by omega),mv h.s (by omega) (by omega) (by omega),mv h.y (by omega) (by omega) (by omega),mv h.k (by omega) (by omega) (by omega),mv h.t (by omega) (by omega) (by omega),ho,hx,zA7 h.row fun g hg=>hk.block g (h.row.lt g hg).2 fun e=>?_,h.rownew⟩
 ·have:=h.new b hb
  omega
 ·omega
 ·omega
 ·have:=h.rownew g hg
  omega
theorem DSt.go (hP:P.Ok)(h:DSt P j tk ov st x lv X' w){w':World}(hb:Below w.heap.size w w'):DSt P j tk ov st x lv X' w':=
 h.set hP (KeepX.of_below hb) ((hb.block _ (zA2 h.d)).trans h.d) ((hb.block _ (zA2 h.o)).trans h.o) ((hb.block _ (zA2 h.own)).trans h.own)
theorem DSt.evs (hP:P.Ok)(h:DSt P j tk ov st x lv X' w):EvsP w P.ao P.E:=fun i q hq=>by
 obtain⟨C,off,e,c0,c1,c2,c3⟩:=hP.evs i q hq
 have nx:=hP.rows C off e
 have mv:∀ {o:Nat} {v:Value},P.wB.cell? ⟨C,o,none⟩=some v→w.cell? ⟨C,o,none⟩=some v:=fun {o v} hc=>(World.cell?_of_block (h.keep.block C (World.block_lt_of_cell? _ _ hc) nx)).trans hc
 exact⟨C,off,e,mv c0,mv c1,mv c2,mv c3⟩
theorem DSt.src (hP:P.Ok)(h:DSt P j j ov st x lv X' w):SrcAt (P.wB.heap.size+4) (P.wB.heap.size+5) (P.wB.heap.size+6) (P.wB.heap.size+3) 1 P.cp P.ao P.bad P.E j w:=
 ⟨h.l2,h.bad,h.p,zA0 (i:=1) h.d rfl,zA1 (i:=1) h.d,h.evs hP⟩
end
theorem zMC {P:Cast}{j:Nat}{q:Evt}(hq:P.E[j]?=some q):P.R (j+1)=(P.R j).step P.u P.sp j q:=by
 have e:zAW P.u P.sp P.s0 P.E (j+1)=match P.E[j]? with
  | none=>zAW P.u P.sp P.s0 P.E j
  | some q=>(zAW P.u P.sp P.s0 P.E j).step P.u P.sp j q:=rfl
 rw[hq] at e
 exact e
def TakeR (P:Cast)(j:Nat)(x:Value)(q:Evt)(e:Ending)(w':World):Prop:=
 ∃ b lv X',e=.returned (.bool b)∧(b=!(q.1 && decide (((P.R j).L.length:Int)+1=P.stop)))∧DSt P (j+1) (j+1) true (!b) x lv X' w'
set_option maxRecDepth 1000000 in
set_option maxHeartbeats 2000000 in
theorem DSt.sample {P:Cast}(hP:P.Ok){j:Nat}{x lv:Value}{X':Nat→Prop}{w:World}(h:DSt P j (j+1) true false x lv X' w){name:ByteArray}{v tm:Int}(hq:P.E[j]?=some (false,name,v,tm)):
  Calls Tryz.prog 53 #[.agg #[.bool false,.string name,.int .i64 v,.int .i64 tm],ptr (P.wB.heap.size+8),ptr (P.wB.heap.size+11),ptr (P.wB.heap.size+10)] w (TakeR P j x (false,name,v,tm)):=by
 have h1:=h.go hP ((Below.refl w.heap.size w).alloc (Nat.le_refl _) (.cells #[.bool false,.string name,.int .i64 v,.int .i64 tm] 137))
 have hin:=hP.fit _ (List.mem_of_getElem? hq)
 have hf:=zPK h1.live name hin.1 hin.2
 have c8:=zA0 (i:=0) (v:=ptr P.c) h1.c rfl
 have l8:=zA2 h.c
 have HH:Hid _:=And.intro h1 h
 clear h1 h
 go_enter Tryz.func53,Tryz.ntmps53
 go_wp2_with fail
 refine hf.mono ?_
 rintro e w1 ⟨rfl,X2,hl2,hg2,hk2⟩
 have H2:Hid _:=And.intro hl2 (And.intro hg2 hk2)
 clear hf hl2 hg2 hk2
 go_wp2
 go_ret
 have h1:=HH.out.1
 have hle:=h1.le
 have hst:P.R (j+1)=⟨((P.R j).k.feed P.sp (P.R j).T name v tm).2.1,((P.R j).k.feed P.sp (P.R j).T name v tm).2.2,(P.R j).L⟩:=by
  rw[zMC hq]
  rfl
 have nX:∀ {b:Nat},P.wB.heap.size≤b→b<P.wB.heap.size+15→¬ X' b:=fun {b} g1 g2 e=>by
  have:=h1.new b e
  omega
 have mv:∀ {b:Nat} {cs:Array Value} {T:TypeId},(w.alloc (.cells #[.bool false,.string name,.int .i64 v,.int .i64 tm] 137)).heap[b]?=some (.cells cs T (0,0))→P.wB.heap.size≤b→b<P.wB.heap.size+15→w1.heap[b]?=some (.cells cs T (0,0)):=fun {b cs T} hb g1 g2=>(H2.out.2.2.block b (zA2 hb) (nX g1 g2)).trans hb
 refine⟨true,lv,X2,rfl,by simp,?_⟩
 refine⟨by rw[hst];exact H2.out.1,fun b hb=>?_,?_,fun b hb=>?_,mv h1.l (by omega) (by omega),mv h1.n (by omega) (by omega),mv h1.r (by omega) (by omega),mv h1.d (by omega) (by omega),mv h1.l2 (by omega) (by omega),mv h1.bad (by omega) (by omega),mv h1.p (by omega) (by omega),mv h1.c (by omega) (by omega),mv h1.s (by omega) (by omega),mv h1.y (by omega) (by omega),by rw[hst];exact mv h1.k (by omega) (by omega),mv h1.t (by omega) (by omega),mv h1.o (by omega) (by omega),mv h1.own (by omega) (by omega),?_,h1.rownew⟩
 ·rcases H2.out.2.1 b hb with e | e
  ·exact h1.grew b e
  ·exact .inr (Nat.le_trans h1.keep.size e)
 ·have k1:=h1.keep
  refine⟨H2.out.2.2.os.trans k1.os,H2.out.2.2.tape.trans k1.tape,H2.out.2.2.output.trans k1.output,Nat.le_trans k1.size H2.out.2.2.size,fun b lt nx=>(H2.out.2.2.block b (Nat.lt_of_lt_of_le lt k1.size) fun e=>?_).trans (k1.block b lt nx)⟩
  rcases h1.grew b e with e | e
  ·exact nx e
  ·omega
 ·rcases H2.out.2.1 b hb with e | e
  ·exact h1.new b e
  ·exact .inr (Nat.le_trans hle e)
 ·rw[hst]
  refine zA7 h1.row fun g hg=>H2.out.2.2.block g (h1.row.lt g hg).2 fun e=>?_
  obtain⟨cs,hcs⟩:=zAQ h1.row hg
  exact h1.live.calm hcs (by unfold Calm;decide) e
structure TickMid (P:Cast) (j:Nat) (x lv:Value) (X':Nat→Prop) (tm:Int) (w2:World):Prop where
 live:LiveX P.F zAC P.A P.w0 P.wl P.lo P.c ((P.R j).k.decide zAC P.u (P.R j).T tm).2.1 P.u P.sp ((P.R j).k.decide zAC P.u (P.R j).T tm).2.2 X' w2
 grew:Grew P.X X' P.wB
 keep:KeepX P.X P.wB w2
 new:∀ b,X' b→b<P.wB.heap.size∨P.wB.heap.size+15≤b
 l:One w2 P.wB.heap.size (.slice P.ao P.E.length P.cp) 49
 n:One w2 (P.wB.heap.size+1) (.int .i64 P.stop) 3
 r:w2.heap[P.wB.heap.size+2]?=some (.cells #[.slice none 0 0,.int .i64 0,.int .i64 0,.bool false] 53 (0,0))
 d:w2.heap[P.wB.heap.size+3]?=some (.cells #[lv,.int .i64 (j+1:Nat),.int .i64 0,.bool true] 53 (0,0))
 l2:One w2 (P.wB.heap.size+4) (.slice P.ao P.E.length P.cp) 49
 bad:One w2 (P.wB.heap.size+5) (.int .i64 P.bad) 3
 p:One w2 (P.wB.heap.size+6) (.pointer (some ⟨P.wB.heap.size+3,1,none⟩)) 89
 c:One w2 (P.wB.heap.size+8) (ptr P.c) 72
 s:One w2 (P.wB.heap.size+9) (.bool false) 4
 y:One w2 (P.wB.heap.size+10) (decF P.wB.heap.size) 93
 k:One w2 (P.wB.heap.size+11) (.int .i64 ((P.R j).L.length+1)) 3
 t:One w2 (P.wB.heap.size+12) (takeF P.wB.heap.size) 136
 o:One w2 (P.wB.heap.size+13) (.bool true) 4
 own:One w2 (P.wB.heap.size+14) x 20
 row:w2.ownsRow 0 40 8 lv (P.R j).L.length (P.R j).L.flatten
 rownew:∀ g,lv.ownBlock=some g→P.wB.heap.size+15≤g
section
variable {P:Cast} {j:Nat} {x lv:Value} {X':Nat→Prop} {w:World}
abbrev zOZ (P:Cast)(j:Nat)(name:ByteArray)(v tm:Int)(w:World):World:=((w.setCell ⟨P.wB.heap.size+11,0,none⟩ (.int .i64 ((P.R j).L.length+1))).alloc (.cells #[.bool true,.string name,.int .i64 v,.int .i64 tm] 137)).drew
theorem zJL (P:Cast)(j:Nat)(name:ByteArray)(v tm:Int)(w:World):KeepX (· = P.wB.heap.size+11) w (zOZ P j name v tm w):=
 ((KeepX.set1 w _).trans (.of_below ((Below.refl _ _).alloc (Nat.le_refl _) _))).trans (.of_below (Below.refl _ _).drew)
theorem DSt.ticking (hP:P.Ok)(h:DSt P j (j+1) true false x lv X' w)(name:ByteArray)(v tm:Int):LiveX P.F zAC P.A P.w0 P.wl P.lo P.c (P.R j).k P.u P.sp (P.R j).T X' (zOZ P j name v tm w):=by
 have hle:=hP.live.le
 have hb0:=hP.live.below.size
 refine h.live.other (zJL P j name v tm w) (fun b hb (e:b=_)=>?_) (fun b (e:b=_)=>?_)
 ·have:=h.new b hb
  omega
 ·omega
theorem DSt.mid (_hP:P.Ok)(h:DSt P j (j+1) true false x lv X' w){name:ByteArray}{v tm:Int}{w2:World}(hl:LiveX P.F zAC P.A P.w0 P.wl P.lo P.c ((P.R j).k.decide zAC P.u (P.R j).T tm).2.1 P.u P.sp ((P.R j).k.decide zAC P.u (P.R j).T tm).2.2 X' w2)(hk:KeepX X' (zOZ P j name v tm w) w2):TickMid P j x lv X' tm w2:=by
 have k1:=zJL P j name v tm w
 have hle:=h.le
 have nX:∀ {b:Nat},P.wB.heap.size≤b→b<P.wB.heap.size+15→¬ X' b:=fun {b} g1 g2 e=>by
  have:=h.new b e
  omega
 have mv:∀ {b:Nat} {cs:Array Value} {T:TypeId},w.heap[b]?=some (.cells cs T (0,0))→P.wB.heap.size≤b→b<P.wB.heap.size+15→b≠P.wB.heap.size+11→w2.heap[b]?=some (.cells cs T (0,0)):=fun {b cs T} hb g1 g2 g3=>by
  have:=(k1.block b (zA2 hb) g3).trans hb
  exact(hk.block b (zA2 this) (nX g1 g2)).trans this
 have k11:One (zOZ P j name v tm w) (P.wB.heap.size+11) (.int .i64 ((P.R j).L.length+1)) 3:=zA3 (zA4 (i:=0) h.k)
 refine⟨hl,h.grew,?_,h.new,mv h.l (by omega) (by omega) (by omega),mv h.n (by omega) (by omega) (by omega),mv h.r (by omega) (by omega) (by omega),mv h.d (by omega) (by omega) (by omega),mv h.l2 (by omega) (by omega) (by omega),mv h.bad (by omega) (by omega) (by omega),mv h.p (by omega) (by omega) (by omega),mv h.c (by omega) (by omega) (by omega),mv h.s (by omega) (by omega) (by omega),mv h.y (by omega) (by omega) (by omega),(hk.block _ (zA2 k11) (nX (by omega) (by omega))).trans k11,mv h.t (by omega) (by omega) (by omega),mv h.o (by omega) (by omega) (by omega),mv h.own (by omega) (by omega) (by omega),zA7 h.row fun g hg=>?_,h.rownew⟩
 ·have k0:=h.keep
  refine⟨hk.os.trans (k1.os.trans k0.os),hk.tape.trans (k1.tape.trans k0.tape),hk.output.trans (k1.output.trans k0.output),Nat.le_trans k0.size (Nat.le_trans k1.size hk.size),fun b lt nx=>(hk.block b (Nat.lt_of_lt_of_le (Nat.lt_of_lt_of_le lt k0.size) k1.size) fun e=>?_).trans ((k1.block b (Nat.lt_of_lt_of_le lt k0.size) (by omega)).trans (k0.block b lt nx))⟩
  rcases h.grew b e with e | e
  ·exact nx e
  ·omega
 ·obtain⟨cs,hcs⟩:=zAQ h.row hg
  have hn:=h.rownew g hg
  have lt:=zA2 hcs
  have:=k1.block g lt (by omega)
  exact(hk.block g (Nat.lt_of_lt_of_le lt k1.size) (h.live.calm hcs (by unfold Calm;decide))).trans this
theorem TickMid.done (hP:P.Ok){w2 w3:World}{name:ByteArray}{v tm:Int}(h:TickMid P j x lv X' tm w2)(hq:P.E[j]?=some (true,name,v,tm)){e:Ending}(hd:Dec1R w2 (P.wB.heap.size+3) (P.wB.heap.size+9) (P.R j).L.length (P.R j).L.length tm ((P.R j).k.decide zAC P.u (P.R j).T tm).2.1.count P.stop (j+1) lv ((P.R j).k.decide zAC P.u (P.R j).T tm).1 (P.R j).L.flatten e w3):TakeR P j x (true,name,v,tm) e w3:=by
 obtain⟨rfl,lv',d1,d2,d3,d4,d5⟩:=hd
 have hst:=zMC hq
 have hsk:(P.R (j+1)).k=((P.R j).k.decide zAC P.u (P.R j).T tm).2.1:=by rw[hst];rfl
 have hsT:(P.R (j+1)).T=((P.R j).k.decide zAC P.u (P.R j).T tm).2.2:=by rw[hst];rfl
 have hsL:(P.R (j+1)).L=(P.R j).L ++ [decV tm ((P.R j).k.decide zAC P.u (P.R j).T tm).2.1.count (P.R j).L.length (j+1) ((P.R j).k.decide zAC P.u (P.R j).T tm).1]:=by rw[hst];rfl
 have hle:=hP.live.le
 have hb0:=hP.live.below.size
 have lw:P.wB.heap.size+15≤w2.heap.size:=zA2 h.own
 have nrow:∀ b,lv.ownBlock=some b→P.wB.heap.size+15≤b:=h.rownew
 have mv:∀ {b:Nat} {cs:Array Value} {T:TypeId},w2.heap[b]?=some (.cells cs T (0,0))→b<P.wB.heap.size+15→b≠P.wB.heap.size+3→b≠P.wB.heap.size+9→w3.heap[b]?=some (.cells cs T (0,0)):=fun {b cs T} hb g1 g2 g3=>(d4.block b (zA2 hb) fun e=>by
  rcases e with e | e | e
  ·exact g2 e
  ·exact g3 e
  ·have:=nrow b e
   omega).trans hb
 have hlv3:LiveX P.F zAC P.A P.w0 P.wl P.lo P.c ((P.R j).k.decide zAC P.u (P.R j).T tm).2.1 P.u P.sp ((P.R j).k.decide zAC P.u (P.R j).T tm).2.2 X' w3:=by
  refine h.live.other d4 (fun b hb e=>?_) (fun b e=>?_)
  ·rcases e with e | e | e
   ·have:=h.new b hb
    omega
   ·have:=h.new b hb
    omega
   ·obtain⟨cs,hcs⟩:=zAQ h.row e
    exact h.live.calm hcs (by unfold Calm;decide) hb
  ·rcases e with e | e | e
   ·omega
   ·omega
   ·have:=nrow b e
    omega
 refine⟨_,lv',X',rfl,by simp,?_⟩
 rw[Bool.not_not]
 refine⟨by rw[hsk,hsT];exact hlv3,h.grew,?_,h.new,mv h.l (by omega) (by omega) (by omega),mv h.n (by omega) (by omega) (by omega),mv h.r (by omega) (by omega) (by omega),d1,mv h.l2 (by omega) (by omega) (by omega),mv h.bad (by omega) (by omega) (by omega),mv h.p (by omega) (by omega) (by omega),mv h.c (by omega) (by omega) (by omega),d3,mv h.y (by omega) (by omega) (by omega),?_,mv h.t (by omega) (by omega) (by omega),mv h.o (by omega) (by omega) (by omega),mv h.own (by omega) (by omega) (by omega),?_,fun g hg=>?_⟩
 ·have k0:=h.keep
  refine⟨d4.os.trans k0.os,d4.tape.trans k0.tape,d4.output.trans k0.output,Nat.le_trans k0.size d4.size,fun b lt nx=>(d4.block b (Nat.lt_of_lt_of_le lt k0.size) fun e=>?_).trans (k0.block b lt nx)⟩
  rcases e with e | e | e
  ·omega
  ·omega
  ·have:=nrow b e
   omega
 ·rw[hsL]
  simp only[List.length_append,List.length_singleton]
  exact mv h.k (by omega) (by omega) (by omega)
 ·rw[hsL,List.flatten_append,List.length_append,List.length_singleton,List.flatten_cons,List.flatten_nil,List.append_nil]
  exact d2
 ·rcases d5 with e | ⟨g2,e,hg2⟩
  ·exact nrow g (e ▸ hg)
  ·rw[hg] at e
   injection e with e
   omega
set_option maxRecDepth 1000000 in
set_option maxHeartbeats 4000000 in
theorem DSt.tick (hP:P.Ok)(h:DSt P j (j+1) true false x lv X' w){name:ByteArray}{v tm:Int}(hq:P.E[j]?=some (true,name,v,tm)):
  Calls Tryz.prog 53 #[.agg #[.bool true,.string name,.int .i64 v,.int .i64 tm],ptr (P.wB.heap.size+8),ptr (P.wB.heap.size+11),ptr (P.wB.heap.size+10)] w (TakeR P j x (true,name,v,tm)):=by
 have hin:=hP.fit _ (List.mem_of_getElem? hq)
 have hlt:=(List.getElem?_eq_some_iff.1 hq).1
 have hnj:(P.R j).L.length≤j:=by
  have h1:=zP7 P.u P.sp P.s0 hP.clear P.E j
  have h2:=zLY (P.E.map (·.1)) j
  have:(P.R j).L.length=(zAW P.u P.sp P.s0 P.E j).L.length:=rfl
  omega
 have hfew:=hP.few
 have htk:=zPJ (h.ticking hP name v tm) hin.2
 have k1:=zJL P j name v tm w
 have q8:=(k1.block _ (zA2 h.c) (by omega)).trans h.c
 have q10:=(k1.block _ (zA2 h.y) (by omega)).trans h.y
 have c8:=zA0 (i:=0) (v:=ptr P.c) h.c rfl
 have c10:=zA0 (i:=0) (v:=decF P.wB.heap.size) h.y rfl
 have c11:=zA0 (i:=0) (v:=.int .i64 (P.R j).L.length) h.k rfl
 have z11:=zA1 (i:=0) h.k
 have l8:=zA2 h.c
 have l10:=zA2 h.y
 have l11:=zA2 h.k
 have CEL:Hid (∀ w2,LiveX P.F zAC P.A P.w0 P.wl P.lo P.c ((P.R j).k.decide zAC P.u (P.R j).T tm).2.1 P.u P.sp ((P.R j).k.decide zAC P.u (P.R j).T tm).2.2 X' w2→KeepX X' (zOZ P j name v tm w) w2→w2.cell? ⟨P.wB.heap.size+10,0,none⟩=some (decF P.wB.heap.size)∧w2.cell? ⟨P.wB.heap.size+8,0,none⟩=some (ptr P.c)∧w2.cell? ⟨w.heap.size,3,none⟩=some (.int .i64 tm)):=fun w2 hl hk=>by
  have hev:(zOZ P j name v tm w).heap[w.heap.size]?=some (.cells #[.bool true,.string name,.int .i64 v,.int .i64 tm] 137 (0,0)):=by
   have:=heap_alloc_new (w.setCell ⟨P.wB.heap.size+11,0,none⟩ (.int .i64 ((P.R j).L.length+1))) (.cells #[.bool true,.string name,.int .i64 v,.int .i64 tm] 137)
   rw[World.size_setCell] at this
   exact this
  exact⟨zA0 (h.mid hP hl hk).y rfl,zA0 (h.mid hP hl hk).c rfl,zA0 ((hk.block _ (zA2 hev) fun e=>by have:=h.live.lt e;omega).trans hev) rfl⟩
 have MID:Hid (∀ (w2:World) (vv:Value),zDZ P.A w2 ((P.R j).k.decide zAC P.u (P.R j).T tm).1 vv→LiveX P.F zAC P.A P.w0 P.wl P.lo P.c ((P.R j).k.decide zAC P.u (P.R j).T tm).2.1 P.u P.sp ((P.R j).k.decide zAC P.u (P.R j).T tm).2.2 X' w2→KeepX X' (zOZ P j name v tm w) w2→Calls Tryz.prog 31 #[.int .i64 (P.R j).L.length,.agg #[.int .i64 tm,.int .i64 ((P.R j).k.decide zAC P.u (P.R j).T tm).2.1.count,vv],ptr (P.wB.heap.size+3),ptr (P.wB.heap.size+9),ptr (P.wB.heap.size+1),ptr P.wB.heap.size] w2 fun e w3=>(∃ b,e=.returned (.bool b))∧(w3.cell? ⟨P.wB.heap.size+10,0,none⟩=some (decF P.wB.heap.size)∧w3.cell? ⟨P.wB.heap.size+8,0,none⟩=some (ptr P.c)∧w3.cell? ⟨w.heap.size,3,none⟩=some (.int .i64 tm))∧TakeR P j x (true,name,v,tm) e w3):=fun w2 vv hd hl hk=>by
  have hm:=h.mid hP hl hk
  have hb:=hP.live.below.size
  refine(zOI (i:=(P.R j).L.length) (t:=tm) (cnt:=((P.R j).k.decide zAC P.u (P.R j).T tm).2.1.count) hP.live.sents hl.below (by omega) hd hm.d hm.row hm.s hm.n hm.l (by omega) hfew).mono fun e w3 he=>⟨⟨_,he.1⟩,?_,hm.done hP hq he⟩
  obtain⟨-,lv',-,-,-,d4,-⟩:=he
  obtain⟨u10,u8,u3⟩:=CEL.out w2 hl hk
  have lev:=World.block_lt_of_cell? _ _ u3
  have hgl:∀ g,lv.ownBlock=some g→g<w.heap.size∧P.wB.heap.size+15≤g:=fun g hg=>⟨(h.row.lt g hg).2,h.rownew g hg⟩
  have hle:=h.le
  have nn:∀ b,(b=P.wB.heap.size+10∨b=P.wB.heap.size+8∨b=w.heap.size)→¬ (b=P.wB.heap.size+3∨b=P.wB.heap.size+9∨lv.ownBlock=some b):=fun b hb e=>by
   rcases e with e | e | e
   ·omega
   ·omega
   ·have:=hgl b e
    omega
  exact⟨(World.cell?_of_block (d4.block _ (zA2 hm.y) (nn _ (.inl rfl)))).trans u10,(World.cell?_of_block (d4.block _ (zA2 hm.c) (nn _ (.inr (.inl rfl))))).trans u8,(World.cell?_of_block (d4.block _ lev (nn _ (.inr (.inr rfl))))).trans u3⟩
 have e10:((w.setCell ⟨P.wB.heap.size+11,0,none⟩ (.int .i64 ((P.R j).L.length+1))).alloc (.cells #[.bool true,.string name,.int .i64 v,.int .i64 tm] 137)).cell? ⟨P.wB.heap.size+10,0,none⟩=some (decF P.wB.heap.size):=zA0 q10 rfl
 have e8:((w.setCell ⟨P.wB.heap.size+11,0,none⟩ (.int .i64 ((P.R j).L.length+1))).alloc (.cells #[.bool true,.string name,.int .i64 v,.int .i64 tm] 137)).cell? ⟨P.wB.heap.size+8,0,none⟩=some (ptr P.c):=zA0 q8 rfl
 have e3:((w.setCell ⟨P.wB.heap.size+11,0,none⟩ (.int .i64 ((P.R j).L.length+1))).alloc (.cells #[.bool true,.string name,.int .i64 v,.int .i64 tm] 137)).cell? ⟨w.heap.size,3,none⟩=some (.int .i64 tm):=by
  have:=heap_alloc_new (w.setCell ⟨P.wB.heap.size+11,0,none⟩ (.int .i64 ((P.R j).L.length+1))) (.cells #[.bool true,.string name,.int .i64 v,.int .i64 tm] 137)
  rw[World.size_setCell] at this
  exact zA0 this rfl
 clear q8 q10 k1 h hP hq hin
 go_enter Tryz.func53,Tryz.ntmps53
 go_wp2_with fail
 go_region_held3 (fun w'=>w'.cell? ⟨P.wB.heap.size+10,0,none⟩=some (decF P.wB.heap.size)∧w'.cell? ⟨P.wB.heap.size+8,0,none⟩=some (ptr P.c)∧w'.cell? ⟨w.heap.size,3,none⟩=some (.int .i64 tm)) (first | exact⟨e10,e8,e3⟩ | exact⟨k10,k8,k3⟩ | exact⟨m10,m8,m3⟩ | go_keep)
  (first
   | (go_at_call 24;refine htk.mono ?_;rintro e w2 ⟨vv,rfl,hd2,hl2,hk2⟩;obtain⟨k10,k8,k3⟩:=CEL.out w2 hl2 hk2;have hc2:=MID.out w2 vv hd2 hl2 hk2;have vsh:=zE9 hd2;clear hd2 hl2 hk2)
   | (go_at_call 31;refine hc2.mono ?_;rintro e w3 ⟨⟨b,rfl⟩,⟨m10,m8,m3⟩,ht3⟩;have H3:Hid _:=ht3;clear ht3))
 all_goals
  go_wp2
  go_ret
  exact H3.out
end
end Go.Proofs.YtbokdbaagacnlaaGreatDoor
