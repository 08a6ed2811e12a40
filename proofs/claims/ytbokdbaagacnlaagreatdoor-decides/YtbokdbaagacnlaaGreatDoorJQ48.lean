import Derived.Test.YtbokdbaagacnlaaGreatDoorJQ47
import Derived.Deep.RegionHeld2
namespace Go.Proofs.YtbokdbaagacnlaaGreatDoor
open Go.RowKit Go.Lib
abbrev zEE : Value:=.iface 9 (.string ⟨#[116,104,101,32,99,97,108,108,101,114]⟩)
abbrev ownF : Value:=.func (.func 33) #[] #[]
abbrev takeO (B:Nat):Value:=.func (.func 53) #[] #[ptr (B+6),ptr (B+8),ptr (B+7)]
structure OSt (P:Cast) (j tk:Nat) (ov:Bool) (x:Value) (X':Nat→Prop) (w:World):Prop where
 live:LiveX P.F zAC P.A P.w0 P.wl P.lo P.c (P.R j).k P.u P.sp (P.R j).T X' w
 grew:Grew P.X X' P.wB
 keep:KeepX P.X P.wB w
 new:∀ b,X' b→b<P.wB.heap.size∨P.wB.heap.size+12≤b
 r:One w P.wB.heap.size (.bool false) 4
 d:One w (P.wB.heap.size+1) (.int .i64 tk) 3
 l2:One w (P.wB.heap.size+2) (.slice P.ao P.E.length P.cp) 49
 bad:One w (P.wB.heap.size+3) (.int .i64 P.bad) 3
 p:One w (P.wB.heap.size+4) (.pointer (some ⟨P.wB.heap.size+1,0,none⟩)) 89
 c:One w (P.wB.heap.size+6) (ptr P.c) 72
 y:One w (P.wB.heap.size+7) ownF 93
 k:One w (P.wB.heap.size+8) (.int .i64 0) 3
 t:One w (P.wB.heap.size+9) (takeO P.wB.heap.size) 136
 o:One w (P.wB.heap.size+10) (.bool ov) 4
 own:One w (P.wB.heap.size+11) x 20
structure OEnd (P:Cast) (x:Value) (w:World):Prop where
 live:∃ k T X',LiveX P.F zAC P.A P.w0 P.wl P.lo P.c k P.u P.sp T X' w∧∀ b,X' b→b<P.wB.heap.size∨P.wB.heap.size+12≤b
 keep:KeepX P.X P.wB w
 r:One w P.wB.heap.size (.bool false) 4
 o:One w (P.wB.heap.size+10) (.bool true) 4
 own:One w (P.wB.heap.size+11) x 20
section
variable {P:Cast} {j tk:Nat} {ov:Bool} {x:Value} {X':Nat→Prop} {w:World}
theorem OSt.le (h:OSt P j tk ov x X' w):P.wB.heap.size+12≤w.heap.size:=zA2 h.own
theorem OSt.set (hP:P.Ok)(h:OSt P j tk ov x X' w){w':World}{tk':Nat}{ov':Bool}{x':Value}(hk:KeepX (fun b=>b=P.wB.heap.size+1∨b=P.wB.heap.size+10∨b=P.wB.heap.size+11) w w')(hd:One w' (P.wB.heap.size+1) (.int .i64 tk') 3)(ho:One w' (P.wB.heap.size+10) (.bool ov') 4)(hx:One w' (P.wB.heap.size+11) x' 20):OSt P j tk' ov' x' X' w':=by
 have hle:=hP.live.le
 have hb0:=hP.live.below.size
 have mv:∀ {b:Nat} {cs:Array Value} {T:TypeId},w.heap[b]?=some (.cells cs T (0,0))→b≠P.wB.heap.size+1→b≠P.wB.heap.size+10→b≠P.wB.heap.size+11→w'.heap[b]?=some (.cells cs T (0,0)):=fun {b cs T} hb h1 h2 h3=>(hk.block b (zA2 hb) fun e=>by rcases e with e | e | e <;> contradiction).trans hb
 refine⟨h.live.other hk (fun b hb e=>?_) (fun b e=>?_),h.grew,⟨hk.os.trans h.keep.os,hk.tape.trans h.keep.tape,hk.output.trans h.keep.output,Nat.le_trans h.keep.size hk.size,fun b lt nx=>(hk.block b (Nat.lt_of_lt_of_le lt h.keep.size) fun e=>?_).trans (h.keep.block b lt nx)⟩,h.new,mv h.r (by omega) (by omega) (by omega),hd,mv h.l2 (by omega) (by omega) (by omega),mv h.bad (by omega) (by omega) (by omega),mv h.p (by omega) (by omega) (by omega),mv h.c (by omega) (by omega) (by omega),mv h.y (by omega) (by omega) (by omega),mv h.k (by omega) (by omega) (by omega),mv h.t (by omega) (by omega) (by omega),ho,hx⟩
 ·have:=h.new b hb
  omega
 ·omega
 ·omega
theorem OSt.go (hP:P.Ok)(h:OSt P j tk ov x X' w){w':World}(hb:Below w.heap.size w w'):OSt P j tk ov x X' w':=
 h.set hP (KeepX.of_below hb) ((hb.block _ (zA2 h.d)).trans h.d) ((hb.block _ (zA2 h.o)).trans h.o) ((hb.block _ (zA2 h.own)).trans h.own)
theorem OSt.evs (hP:P.Ok)(h:OSt P j tk ov x X' w):EvsP w P.ao P.E:=fun i q hq=>by
 obtain⟨C,off,e,c0,c1,c2,c3⟩:=hP.evs i q hq
 have nx:=hP.rows C off e
 have mv:∀ {o:Nat} {v:Value},P.wB.cell? ⟨C,o,none⟩=some v→w.cell? ⟨C,o,none⟩=some v:=fun {o v} hc=>(World.cell?_of_block (h.keep.block C (World.block_lt_of_cell? _ _ hc) nx)).trans hc
 exact⟨C,off,e,mv c0,mv c1,mv c2,mv c3⟩
theorem OSt.src (hP:P.Ok)(h:OSt P j j ov x X' w):SrcAt (P.wB.heap.size+2) (P.wB.heap.size+3) (P.wB.heap.size+4) (P.wB.heap.size+1) 0 P.cp P.ao P.bad P.E j w:=
 ⟨h.l2,h.bad,h.p,zA0 (i:=0) h.d rfl,zA1 (i:=0) h.d,h.evs hP⟩
end
def TakeO (P:Cast)(j:Nat)(x:Value)(e:Ending)(w':World):Prop:=∃ X',e=.returned (.bool true)∧OSt P (j+1) (j+1) true x X' w'
set_option maxRecDepth 1000000 in
set_option maxHeartbeats 2000000 in
theorem OSt.sample {P:Cast}(hP:P.Ok){j:Nat}{x:Value}{X':Nat→Prop}{w:World}(h:OSt P j (j+1) true x X' w){name:ByteArray}{v tm:Int}(hq:P.E[j]?=some (false,name,v,tm)):
  Calls Tryz.prog 53 #[.agg #[.bool false,.string name,.int .i64 v,.int .i64 tm],ptr (P.wB.heap.size+6),ptr (P.wB.heap.size+8),ptr (P.wB.heap.size+7)] w (TakeO P j x):=by
 have h1:=h.go hP ((Below.refl w.heap.size w).alloc (Nat.le_refl _) (.cells #[.bool false,.string name,.int .i64 v,.int .i64 tm] 137))
 have hin:=hP.fit _ (List.mem_of_getElem? hq)
 have hf:=zPK h1.live name hin.1 hin.2
 have c8:=zA0 (i:=0) (v:=ptr P.c) h1.c rfl
 have l8:=zA2 h.c
 have HH:Hid _:=And.intro h1 h
 clear h1 h
 go_enter Tryz.func53,Tryz.ntmps53
 go_wp2_with fail
 refine hf.mono ?_
 rintro e w1 ⟨rfl,X2,hl2,hg2,hk2⟩
 have H2:Hid _:=And.intro hl2 (And.intro hg2 hk2)
 clear hf hl2 hg2 hk2
 go_wp2
 go_ret
 have h1:=HH.out.1
 have hle:=h1.le
 have hst:P.R (j+1)=⟨((P.R j).k.feed P.sp (P.R j).T name v tm).2.1,((P.R j).k.feed P.sp (P.R j).T name v tm).2.2,(P.R j).L⟩:=by
  rw[zMC hq]
  rfl
 have nX:∀ {b:Nat},P.wB.heap.size≤b→b<P.wB.heap.size+12→¬ X' b:=fun {b} g1 g2 e=>by
  have:=h1.new b e
  omega
 have mv:∀ {b:Nat} {cs:Array Value} {T:TypeId},(w.alloc (.cells #[.bool false,.string name,.int .i64 v,.int .i64 tm] 137)).heap[b]?=some (.cells cs T (0,0))→P.wB.heap.size≤b→b<P.wB.heap.size+12→w1.heap[b]?=some (.cells cs T (0,0)):=fun {b cs T} hb g1 g2=>(H2.out.2.2.block b (zA2 hb) (nX g1 g2)).trans hb
 refine⟨X2,rfl,?_⟩
 refine⟨by rw[hst];exact H2.out.1,fun b hb=>?_,?_,fun b hb=>?_,mv h1.r (by omega) (by omega),mv h1.d (by omega) (by omega),mv h1.l2 (by omega) (by omega),mv h1.bad (by omega) (by omega),mv h1.p (by omega) (by omega),mv h1.c (by omega) (by omega),mv h1.y (by omega) (by omega),mv h1.k (by omega) (by omega),mv h1.t (by omega) (by omega),mv h1.o (by omega) (by omega),mv h1.own (by omega) (by omega)⟩
 ·rcases H2.out.2.1 b hb with e | e
  ·exact h1.grew b e
  ·exact .inr (Nat.le_trans h1.keep.size e)
 ·have k1:=h1.keep
  refine⟨H2.out.2.2.os.trans k1.os,H2.out.2.2.tape.trans k1.tape,H2.out.2.2.output.trans k1.output,Nat.le_trans k1.size H2.out.2.2.size,fun b lt nx=>(H2.out.2.2.block b (Nat.lt_of_lt_of_le lt k1.size) fun e=>?_).trans (k1.block b lt nx)⟩
  rcases h1.grew b e with e | e
  ·exact nx e
  ·omega
 ·rcases H2.out.2.1 b hb with e | e
  ·exact h1.new b e
  ·exact .inr (Nat.le_trans hle e)
set_option maxRecDepth 1000000 in
theorem code_own2 (n:Int)(t cnt:Int)(v:Value)(hv:v=.nilIface∨∃ T x,v=.iface T x)(w:World):Calls Tryz.prog 33 #[.int .i64 n,.agg #[.int .i64 t,.int .i64 cnt,v]] w fun e w'=>e=.panicked [{ v:=zEE,recovered:=false }]∧Below w.heap.size w w':=by
 rcases hv with rfl | ⟨T,x,rfl⟩
 all_goals
  go_enter Tryz.func33,Tryz.ntmps33
  go_wp2
  exact⟨rfl,rfl,by first | exact Below.refl _ _ | exact(Below.refl _ _).alloc (Nat.le_refl _) _⟩
abbrev ownW (P:Cast)(name:ByteArray)(v tm:Int)(w:World):World:=((w.setCell ⟨P.wB.heap.size+8,0,none⟩ (.int .i64 1)).alloc (.cells #[.bool true,.string name,.int .i64 v,.int .i64 tm] 137)).drew
theorem zMG (P:Cast)(name:ByteArray)(v tm:Int)(w:World):KeepX (· = P.wB.heap.size+8) w (ownW P name v tm w):=
 ((KeepX.set1 w _).trans (.of_below ((Below.refl _ _).alloc (Nat.le_refl _) _))).trans (.of_below (Below.refl _ _).drew)
section
variable {P:Cast} {j:Nat} {x:Value} {X':Nat→Prop} {w:World}
theorem OSt.ticking (hP:P.Ok)(h:OSt P j (j+1) true x X' w)(name:ByteArray)(v tm:Int):LiveX P.F zAC P.A P.w0 P.wl P.lo P.c (P.R j).k P.u P.sp (P.R j).T X' (ownW P name v tm w):=by
 have hle:=hP.live.le
 have hb0:=hP.live.below.size
 refine h.live.other (zMG P name v tm w) (fun b hb (e:b=_)=>?_) (fun b (e:b=_)=>?_)
 ·have:=h.new b hb
  omega
 ·omega
theorem OSt.mid (h:OSt P j (j+1) true x X' w){name:ByteArray}{v tm:Int}{k:Ctl}{T:WT}{w2:World}(hl:LiveX P.F zAC P.A P.w0 P.wl P.lo P.c k P.u P.sp T X' w2)(hk:KeepX X' (ownW P name v tm w) w2):OEnd P x w2∧w2.cell? ⟨P.wB.heap.size+7,0,none⟩=some ownF∧w2.cell? ⟨P.wB.heap.size+6,0,none⟩=some (ptr P.c)∧w2.cell? ⟨w.heap.size,3,none⟩=some (.int .i64 tm):=by
 have k1:=zMG P name v tm w
 have hle:=h.le
 have nX:∀ {b:Nat},P.wB.heap.size≤b→b<P.wB.heap.size+12→¬ X' b:=fun {b} g1 g2 e=>by
  have:=h.new b e
  omega
 have mv:∀ {b:Nat} {cs:Array Value} {T:TypeId},w.heap[b]?=some (.cells cs T (0,0))→P.wB.heap.size≤b→b<P.wB.heap.size+12→b≠P.wB.heap.size+8→w2.heap[b]?=some (.cells cs T (0,0)):=fun {b cs T} hb g1 g2 g3=>by
  have:=(k1.block b (zA2 hb) g3).trans hb
  exact(hk.block b (zA2 this) (nX g1 g2)).trans this
 have hev:(ownW P name v tm w).heap[w.heap.size]?=some (.cells #[.bool true,.string name,.int .i64 v,.int .i64 tm] 137 (0,0)):=by
  have:=heap_alloc_new (w.setCell ⟨P.wB.heap.size+8,0,none⟩ (.int .i64 1)) (.cells #[.bool true,.string name,.int .i64 v,.int .i64 tm] 137)
  rw[World.size_setCell] at this
  exact this
 refine⟨⟨⟨_,_,X',hl,h.new⟩,?_,mv h.r (by omega) (by omega) (by omega),mv h.o (by omega) (by omega) (by omega),mv h.own (by omega) (by omega) (by omega)⟩,zA0 (mv h.y (by omega) (by omega) (by omega)) rfl,zA0 (mv h.c (by omega) (by omega) (by omega)) rfl,zA0 ((hk.block _ (zA2 hev) fun e=>by have:=h.live.lt e;omega).trans hev) rfl⟩
 have k0:=h.keep
 refine⟨hk.os.trans (k1.os.trans k0.os),hk.tape.trans (k1.tape.trans k0.tape),hk.output.trans (k1.output.trans k0.output),Nat.le_trans k0.size (Nat.le_trans k1.size hk.size),fun b lt nx=>(hk.block b (Nat.lt_of_lt_of_le (Nat.lt_of_lt_of_le lt k0.size) k1.size) fun e=>?_).trans ((k1.block b (Nat.lt_of_lt_of_le lt k0.size) (by omega)).trans (k0.block b lt nx))⟩
 rcases h.grew b e with e | e
 ·exact nx e
 ·omega
theorem OEnd.go (h:OEnd P x w){w':World}(hb:Below w.heap.size w w'):OEnd P x w':=by
 obtain⟨k,T,X',hl,hn⟩:=h.live
 exact⟨⟨k,T,X',hl.go hb,hn⟩,h.keep.trans (.of_below hb),(hb.block _ (zA2 h.r)).trans h.r,(hb.block _ (zA2 h.o)).trans h.o,(hb.block _ (zA2 h.own)).trans h.own⟩
set_option maxRecDepth 1000000 in
set_option maxHeartbeats 4000000 in
theorem OSt.tick (hP:P.Ok)(h:OSt P j (j+1) true x X' w){name:ByteArray}{v tm:Int}(hq:P.E[j]?=some (true,name,v,tm)):
  Calls Tryz.prog 53 #[.agg #[.bool true,.string name,.int .i64 v,.int .i64 tm],ptr (P.wB.heap.size+6),ptr (P.wB.heap.size+8),ptr (P.wB.heap.size+7)] w fun e w'=>e=.panicked [{ v:=zEE,recovered:=false }]∧OEnd P x w':=by
 have hin:=hP.fit _ (List.mem_of_getElem? hq)
 have htk:=zPJ (h.ticking hP name v tm) hin.2
 have k1:=zMG P name v tm w
 have q8:=(k1.block _ (zA2 h.c) (by omega)).trans h.c
 have q10:=(k1.block _ (zA2 h.y) (by omega)).trans h.y
 have c8:=zA0 (i:=0) (v:=ptr P.c) h.c rfl
 have c10:=zA0 (i:=0) (v:=ownF) h.y rfl
 have c11:=zA0 (i:=0) (v:=.int .i64 0) h.k rfl
 have z11:=zA1 (i:=0) h.k
 have l8:=zA2 h.c
 have l10:=zA2 h.y
 have l11:=zA2 h.k
 have MID:Hid (∀ (w2:World),LiveX P.F zAC P.A P.w0 P.wl P.lo P.c ((P.R j).k.decide zAC P.u (P.R j).T tm).2.1 P.u P.sp ((P.R j).k.decide zAC P.u (P.R j).T tm).2.2 X' w2→KeepX X' (ownW P name v tm w) w2→_):=fun w2 hl hk=>h.mid hl hk
 have e10:((w.setCell ⟨P.wB.heap.size+8,0,none⟩ (.int .i64 1)).alloc (.cells #[.bool true,.string name,.int .i64 v,.int .i64 tm] 137)).cell? ⟨P.wB.heap.size+7,0,none⟩=some ownF:=zA0 q10 rfl
 have e8:((w.setCell ⟨P.wB.heap.size+8,0,none⟩ (.int .i64 1)).alloc (.cells #[.bool true,.string name,.int .i64 v,.int .i64 tm] 137)).cell? ⟨P.wB.heap.size+6,0,none⟩=some (ptr P.c):=zA0 q8 rfl
 have e3:((w.setCell ⟨P.wB.heap.size+8,0,none⟩ (.int .i64 1)).alloc (.cells #[.bool true,.string name,.int .i64 v,.int .i64 tm] 137)).cell? ⟨w.heap.size,3,none⟩=some (.int .i64 tm):=by
  have:=heap_alloc_new (w.setCell ⟨P.wB.heap.size+8,0,none⟩ (.int .i64 1)) (.cells #[.bool true,.string name,.int .i64 v,.int .i64 tm] 137)
  rw[World.size_setCell] at this
  exact zA0 this rfl
 clear q8 q10 k1 h hP hq hin
 go_enter Tryz.func53,Tryz.ntmps53
 go_wp2_with fail
 refine wp_region_held_drew (S:=(fun w'=>w'.cell? ⟨P.wB.heap.size+7,0,none⟩=some ownF∧w'.cell? ⟨P.wB.heap.size+6,0,none⟩=some (ptr P.c)∧w'.cell? ⟨w.heap.size,3,none⟩=some (.int .i64 tm))) (by kernel_rfl) ⟨e10,e8,e3⟩ (fun hHeld=>?_)
 refine wpAnyH_take (i:=0) (v:=ownF) rfl (by kernel_rfl) (by kernel_rfl) (by kernel_rfl) (fun _ _ _ h=>h) (Or.inl ⟨by rfl,?_⟩) hHeld ?_
 ·intro w' hSw
  obtain⟨s1,s2,s3⟩:=hSw
  go_simp
 simp only[Act.put,List.setIfInBounds_toArray]
 refine wpAnyH_take (i:=1) (v:=.int .i64 0) rfl (by kernel_rfl) (by kernel_rfl) (by kernel_rfl) (fun _ _ _ h=>h) (Or.inl ⟨by rfl,?_⟩) hHeld ?_
 ·intro w' hSw
  obtain⟨s1,s2,s3⟩:=hSw
  go_simp
 simp only[Act.put]
 refine wpAnyH_take (i:=2) (v:=ptr P.c) rfl (by kernel_rfl) (by kernel_rfl) (by kernel_rfl) (fun _ _ _ h=>h) (Or.inl ⟨by rfl,?_⟩) hHeld ?_
 ·intro w' hSw
  obtain⟨s1,s2,s3⟩:=hSw
  go_simp
 simp only[Act.put]
 refine wpAnyH_take (i:=3) (v:=.pointer (some ⟨w.heap.size,3,none⟩)) rfl (by kernel_rfl) (by kernel_rfl) (by kernel_rfl) (fun _ _ _ h=>h) (Or.inl ⟨by rfl,?_⟩) hHeld ?_
 ·intro w' hSw
  obtain⟨s1,s2,s3⟩:=hSw
  go_simp
 simp only[Act.put]
 refine wpAnyH_take (i:=4) (v:=.int .i64 tm) rfl (by kernel_rfl) (by kernel_rfl) (by kernel_rfl) (fun _ _ _ h=>h) (Or.inl ⟨by rfl,?_⟩) hHeld ?_
 ·intro w' hSw
  obtain⟨s1,s2,s3⟩:=hSw
  go_simp
 simp only[Act.put]
 refine wpAnyH_ready (rs:=[5]) (by kernel_rfl) (by simp) ?_
 refine AllReadyH.cons rfl (fun K hK=>?_) AllReadyH.nil
 go_simp
 go_wp2_with fail
 refine htk.mono ?_
 rintro e w2 ⟨vv,rfl,hd2,hl2,hk2⟩
 obtain⟨hE2,k10,k8,k3⟩:=MID.out w2 hl2 hk2
 have hc2:=code_own2 0 tm ((P.R j).k.decide zAC P.u (P.R j).T tm).2.1.count vv (zE9 hd2) w2
 have HE:Hid _:=hE2
 clear hd2 hl2 hk2 hE2
 go_wp2_with fail
 refine hK.out _ _ ⟨k10,k8,k3⟩ (fun hHeld=>?_)
 refine wpAnyH_ready (rs:=[6]) (by kernel_rfl) (by simp) ?_
 refine AllReadyH.cons rfl (fun K hK=>?_) AllReadyH.nil
 go_simp
 go_wp2_with fail
 refine hc2.mono ?_
 rintro e w3 ⟨rfl,hb3⟩
 have H3:Hid _:=OEnd.go HE.out hb3
 clear hb3
 go_wp2
 exact⟨rfl,rfl,H3.out⟩
end
def OwJ (P:Cast)(j:Nat)(w:World):Prop:=(∃ X',OSt P j j false .nilIface X' w)∧∀ i,i<j→P.K[i]?≠some true
def OwQ (P:Cast)(w:World):Prop:=One w P.wB.heap.size (.bool false) 4∧KeepX P.X P.wB w∧∀ i:Nat,P.K[i]?≠some true
def OwP (P:Cast)(u:TypeId)(pv:Value)(w:World):Prop:=Value.iface u pv=zEE∧One w P.wB.heap.size (.bool false) 4∧KeepX P.X P.wB w∧∃ i:Nat,P.K[i]?=some true
section
variable {P:Cast} {j:Nat} {w:World}
theorem OEnd.set {x x':Value}(h:OEnd P x w){w':World}(hP:P.Ok)(hk:KeepX (· = P.wB.heap.size+11) w w')(hx:One w' (P.wB.heap.size+11) x' 20):OEnd P x' w':=by
 have hle:=hP.live.le
 have hb0:=hP.live.below.size
 obtain⟨k,T,X',hl,hn⟩:=h.live
 refine⟨⟨k,T,X',hl.other hk (fun b hb (e:b=_)=>?_) (fun b (e:b=_)=>?_),hn⟩,⟨hk.os.trans h.keep.os,hk.tape.trans h.keep.tape,hk.output.trans h.keep.output,Nat.le_trans h.keep.size hk.size,fun b lt nx=>(hk.block b (Nat.lt_of_lt_of_le lt h.keep.size) (by omega)).trans (h.keep.block b lt nx)⟩,(hk.block _ (zA2 h.r) (by omega)).trans h.r,(hk.block _ (zA2 h.o) (by omega)).trans h.o,hx⟩
 ·have:=hn b hb
  omega
 ·omega
theorem ow_step (hP:P.Ok){q:Evt}(hq:P.E[j]?=some q)(h:OwJ P j w):
  Calls Tryz.prog 83 (#[.agg (zBT q)] ++ #[ptr (P.wB.heap.size+10),ptr (P.wB.heap.size+11),ptr (P.wB.heap.size+9)]) ((w.setCell ⟨P.wB.heap.size+1,0,none⟩ (.int .i64 (j+1))).alloc (.cells (zBT q) 35)) fun e w1=>(∃ b,e=.returned (.bool b)∧(b=true→OwJ P (j+1) w1)∧(b=false→False))∨∃ ch,e=.panicked ch∧∃ older,ch={ v:=zEE,recovered:=false } :: older∧(∀ q∈older,q.goexit=false)∧OEnd P zEE w1∧∃ i:Nat,P.K[i]?=some true:=by
 obtain⟨⟨X',hD⟩,hg⟩:=h
 have hKq:P.K[j]?=some q.1:=by rw[List.getElem?_map,hq];rfl
 have kW:KeepX (fun b=>b=P.wB.heap.size+1∨b=P.wB.heap.size+10∨b=P.wB.heap.size+11) w ((w.setCell ⟨P.wB.heap.size+1,0,none⟩ (.int .i64 (j+1))).alloc (.cells (zBT q) 35)):=
  (KeepX.mk rfl rfl rfl (by simp) fun k _ hk=>Below.heap_setCell _ _ _ k fun e=>hk (.inl e):KeepX _ w (w.setCell ⟨P.wB.heap.size+1,0,none⟩ (.int .i64 (j+1)))).trans (.of_below ((Below.refl _ _).alloc (Nat.le_refl _) _))
 have hD1:OSt P j (j+1) false .nilIface X' ((w.setCell ⟨P.wB.heap.size+1,0,none⟩ (.int .i64 (j+1))).alloc (.cells (zBT q) 35)):=
  hD.set hP kW (zA3 (zA4 (i:=0) (v:=.int .i64 (j+1)) hD.d)) (zA3 (zA6 hD.o (by simp))) (zA3 (zA6 hD.own (by simp)))
 have over:∀ W2,KeepX (· = P.wB.heap.size+10) ((w.setCell ⟨P.wB.heap.size+1,0,none⟩ (.int .i64 (j+1))).alloc (.cells (zBT q) 35)) W2→One W2 (P.wB.heap.size+10) (.bool true) 4→OSt P j (j+1) true .nilIface X' W2:=fun W2 hk2 ho2=>hD1.set hP ⟨hk2.os,hk2.tape,hk2.output,hk2.size,fun k lt hk=>hk2.block k lt fun e=>hk (.inr (.inl e))⟩ ((hk2.block _ (zA2 hD1.d) (by omega)).trans hD1.d) ho2 ((hk2.block _ (zA2 hD1.own) (by omega)).trans hD1.own)
 obtain⟨tk,name,v,tm⟩:=q
 cases tk with
 | false=>
  refine(zHC (F:=53) (caps:=#[ptr (P.wB.heap.size+6),ptr (P.wB.heap.size+8),ptr (P.wB.heap.size+7)]) (Q:=fun b w1=>(∃ X',OSt P (j+1) (j+1) true .nilIface X' w1)∧b=true) hD1.o hD1.own hD1.t (fun _=>Tryz.call53 _ _) (fun W2 hk2 ho2=>((over W2 hk2 ho2).sample hP hq).mono ?_)).mono ?_
  ·rintro e w1 ⟨X2,rfl,h2⟩
   exact⟨true,rfl,h2.o,⟨_,h2.own⟩,⟨X2,h2⟩,rfl⟩
  ·rintro e w'' ⟨b,w1,rfl,⟨⟨X2,h2⟩,rfl⟩,hk,ho,hown⟩
   refine .inl ⟨true,rfl,fun _=>⟨⟨X2,?_⟩,fun i hi=>?_⟩,fun e=>by cases e⟩
   ·exact h2.set hP (ov':=false) (x':=.nilIface) ⟨hk.os,hk.tape,hk.output,hk.size,fun k lt hn=>hk.block k lt fun e=>hn (.inr e)⟩ ((hk.block _ (zA2 h2.d) (by omega)).trans h2.d) ho hown
   ·rcases Nat.lt_succ_iff_lt_or_eq.1 hi with e | rfl
    ·exact hg i e
    ·rw[hKq]
     intro e
     cases e
 | true=>
  refine(zGH (u:=9) (pv:=.string ⟨#[116,104,101,32,99,97,108,108,101,114]⟩) (F:=53) (caps:=#[ptr (P.wB.heap.size+6),ptr (P.wB.heap.size+8),ptr (P.wB.heap.size+7)]) (Q:=fun w1=>OEnd P .nilIface w1) hD1.o hD1.own hD1.t (fun _=>Tryz.call53 _ _) (fun W2 hk2 ho2=>((over W2 hk2 ho2).tick hP hq).mono ?_)).mono ?_
  ·rintro e w1 ⟨rfl,h2⟩
   exact⟨rfl,⟨_,h2.own⟩,h2⟩
  ·rintro e w'' ⟨w1,rfl,h2,hk,hown⟩
   exact .inr ⟨_,rfl,_,rfl,fun q hq=>by rw[List.mem_singleton.1 hq],h2.set hP hk hown,j,hKq⟩
theorem ow_source (hP:P.Ok)(hb:P.bad = -1)(h:OwJ P 0 w):
  Calls Tryz.prog 50 #[.func (.func 83) #[] #[ptr (P.wB.heap.size+10),ptr (P.wB.heap.size+11),ptr (P.wB.heap.size+9)],ptr (P.wB.heap.size+2),ptr (P.wB.heap.size+3),ptr (P.wB.heap.size+4)] w (ThrI (P.wB.heap.size+9) (OwQ P) (OwP P)):=by
 refine(zIS (J:=OwJ P) (R:=fun _ _=>False) (Pn:=fun _ ch w1=>∃ older,ch={ v:=zEE,recovered:=false } :: older∧(∀ q∈older,q.goexit=false)∧OEnd P zEE w1∧∃ i:Nat,P.K[i]?=some true) (tb:=P.wB.heap.size+1) (to:=0) (cp:=P.cp) (ao:=P.ao) (bad:=P.bad) (E:=P.E) hP.few (fun j W hj=>?_) (fun _ _=>Tryz.call83 _ _) (fun j q W hq _ hj=>ow_step hP hq hj) h).mono ?_
 ·obtain⟨⟨X',hD⟩,-⟩:=hj
  exact hD.src hP
 ·rintro e w' (⟨rfl,⟨⟨X',hD⟩,hg⟩,-⟩ | ⟨rfl,j,hF⟩ | ⟨rfl,j,W,hj,-⟩ | ⟨ch,j,rfl,older,rfl,hgo,hE,hi⟩)
  ·refine .inl ⟨.inl rfl,⟨_,hD.o⟩,hD.own,hD.r,hD.keep,fun i e=>?_⟩
   have hl:=(List.getElem?_eq_some_iff.1 e).1
   exact hg i (by simpa using hl) e
  ·exact hF.elim
  ·omega
  ·exact .inr ⟨_,_,older,rfl,hgo,⟨_,hE.o⟩,hE.own,rfl,hE.r,hE.keep,hi⟩
structure PreO (P:Cast) (w:World):Prop where
 size:w.heap.size=P.wB.heap.size+7
 below:Below P.wB.heap.size P.wB w
 r:One w P.wB.heap.size (.bool false) 4
 d:One w (P.wB.heap.size+1) (.int .i64 0) 3
 l2:One w (P.wB.heap.size+2) (.slice P.ao P.E.length P.cp) 49
 bad:One w (P.wB.heap.size+3) (.int .i64 P.bad) 3
 p:One w (P.wB.heap.size+4) (.pointer (some ⟨P.wB.heap.size+1,0,none⟩)) 89
 e:One w (P.wB.heap.size+5) (.func (.func 50) #[] #[ptr (P.wB.heap.size+2),ptr (P.wB.heap.size+3),ptr (P.wB.heap.size+4)]) 87
 c:One w (P.wB.heap.size+6) (ptr P.c) 72
theorem PreO.begin (hP:P.Ok)(h:PreO P w):OwJ P 0 (thrW (runW w ownF) (takeO P.wB.heap.size)):=by
 have hz:=h.size
 have hb:Below w.heap.size w (thrW (runW w ownF) (takeO P.wB.heap.size)):=(((((Below.refl _ _).alloc (Nat.le_refl _) _).alloc (by simp) _).alloc (by simp;omega) _).alloc (by simp;omega) _).alloc (by simp;omega) _
 have mv:∀ {b:Nat} {o:Obj},w.heap[b]?=some o→(thrW (runW w ownF) (takeO P.wB.heap.size)).heap[b]?=some o:=fun {b o} hx=>(hb.block b (zA2 hx)).trans hx
 have hbB:Below P.wB.heap.size P.wB (thrW (runW w ownF) (takeO P.wB.heap.size)):=h.below.trans (hb.mono h.below.size)
 refine⟨⟨P.X,⟨hP.live.go hbB,fun b hb=>.inl hb,KeepX.of_below hbB,fun b hb=>.inl (hP.live.lt hb),mv h.r,mv h.d,mv h.l2,mv h.bad,mv h.p,mv h.c,?_,?_,?_,?_,?_⟩⟩,fun i hi=>absurd hi (Nat.not_lt_zero _)⟩
 ·have:=heap_alloc_new w (.cells #[ownF] 93)
  rw[hz] at this
  exact zA3 (zA3 (zA3 (zA3 this)))
 ·exact zA3 (zA3 (zA3 (zAM (by simp[hz]))))
 ·exact zA3 (zA3 (zAM (by simp[hz])))
 ·exact zA3 (zAM (by simp[hz]))
 ·exact zAM (by simp[hz])
theorem ow_seq (hP:P.Ok)(hb:P.bad = -1)(h:PreO P w):
  Calls Tryz.prog 51 #[ownF,ptr (P.wB.heap.size+5),ptr (P.wB.heap.size+6)] w (ThrR (P.wB.heap.size+9) (OwQ P) (OwP P)):=by
 have hz:=h.size
 have hz2:(runW w ownF).heap.size=P.wB.heap.size+9:=by simp[hz]
 have h2:=fun hs=>zIR (lb:=P.wB.heap.size+2) (bb:=P.wB.heap.size+3) (pb:=P.wB.heap.size+4) (F:=53) (caps:=#[ptr (P.wB.heap.size+6),ptr (P.wB.heap.size+8),ptr (P.wB.heap.size+7)]) (w:=runW w ownF) (Q:=OwQ P) (P:=OwP P) hs
 rw[hz2] at h2
 have h3:=fun ht=>zOJ (w:=w) (Y:=33) (yc:=#[]) (Q:=OwQ P) (P:=OwP P) h.e h.c ht
 rw[hz] at h3
 exact h3 (h2 (ow_source hP hb (h.begin hP)))
end
theorem zQQ : ∀ l:List PanicEntry,(∀ q∈l,q.goexit=false)→l.dropWhile (!·.goexit)=[]
 | [],_=>rfl
 | q :: l,h=>by
  have h1:=h q (List.mem_cons_self ..)
  simp only[List.dropWhile,h1]
  exact zQQ l fun x hx=>h x (List.mem_cons_of_mem _ hx)
def OwnR (P:Cast)(e:Ending)(w':World):Prop:=KeepX P.X P.wB w'∧((e=.returned (.bool true)∧∃ i:Nat,P.K[i]?=some true)∨(e=.returned (.bool false)∧∀ i:Nat,P.K[i]?≠some true))
abbrev owW (P:Cast):World:=((P.wB.alloc (.cells #[.bool false] 4)).alloc (.cells #[.int .i64 0] 3)).drew
structure PreO1 (P:Cast) (w:World):Prop where
 size:w.heap.size=P.wB.heap.size+5
 below:Below P.wB.heap.size P.wB w
 r:One w P.wB.heap.size (.bool false) 4
 d:One w (P.wB.heap.size+1) (.int .i64 0) 3
 l2:One w (P.wB.heap.size+2) (.slice P.ao P.E.length P.cp) 49
 bad:One w (P.wB.heap.size+3) (.int .i64 P.bad) 3
 p:One w (P.wB.heap.size+4) (.pointer (some ⟨P.wB.heap.size+1,0,none⟩)) 89
theorem own_source (P:Cast)(hb:P.bad = -1):Calls Tryz.prog 29 #[.slice P.ao P.E.length P.cp,.int .i64 (-1),.pointer (some ⟨P.wB.heap.size+1,0,none⟩)] (owW P) fun e w'=>e=.returned (.func (.func 50) #[] #[ptr (P.wB.heap.size+2),ptr (P.wB.heap.size+3),ptr (P.wB.heap.size+4)])∧PreO1 P w':=by
 have hz:(owW P).heap.size=P.wB.heap.size+2:=by simp
 have hs:=zGZ (ao:=P.ao) (m:=P.E.length) (cp:=P.cp) (bad:=-1) (tb:=P.wB.heap.size+1) (to:=0) (w:=owW P)
 rw[hz] at hs
 refine hs.mono ?_
 rintro e w' ⟨rfl,hb1,hz1,s4,s5,s6⟩
 have mv:∀ {b:Nat} {o:Obj},(owW P).heap[b]?=some o→w'.heap[b]?=some o:=fun {b o} hx=>(hb1.block b (by have:=zA2 hx;rwa [hz] at this)).trans hx
 have hbW:Below P.wB.heap.size P.wB (owW P):=(((Below.refl _ _).alloc (Nat.le_refl _) _).alloc (by simp) _).drew
 exact⟨rfl,⟨hz1,hbW.trans (hb1.mono (by omega)),mv (zA3 (heap_alloc_new _ _)),mv (zAM (by simp)),s4,hb ▸ s5,s6⟩⟩
theorem PreO1.pre {P:Cast}{w:World}(h:PreO1 P w):PreO P (zMO w (.func (.func 50) #[] #[ptr (P.wB.heap.size+2),ptr (P.wB.heap.size+3),ptr (P.wB.heap.size+4)]) (ptr P.c)):=by
 have hz:=h.size
 have lw:=h.below.size
 have hb:Below w.heap.size w (zMO w (.func (.func 50) #[] #[ptr (P.wB.heap.size+2),ptr (P.wB.heap.size+3),ptr (P.wB.heap.size+4)]) (ptr P.c)):=((Below.refl _ _).alloc (Nat.le_refl _) _).alloc (by simp) _
 have up:∀ {b:Nat} {o:Obj},w.heap[b]?=some o→(zMO w (.func (.func 50) #[] #[ptr (P.wB.heap.size+2),ptr (P.wB.heap.size+3),ptr (P.wB.heap.size+4)]) (ptr P.c)).heap[b]?=some o:=fun {b o} hx=>(hb.block b (zA2 hx)).trans hx
 have e5:=heap_alloc_new w (.cells #[.func (.func 50) #[] #[ptr (P.wB.heap.size+2),ptr (P.wB.heap.size+3),ptr (P.wB.heap.size+4)]] 87)
 rw[hz] at e5
 exact⟨by simp[hz],h.below.trans (hb.mono lw),up h.r,up h.d,up h.l2,up h.bad,up h.p,zA3 e5,zAM (by simp[hz])⟩
theorem own_decs {P:Cast}{w:World}(h:PreO1 P w):Calls Tryz.prog 30 #[.func (.func 50) #[] #[ptr (P.wB.heap.size+2),ptr (P.wB.heap.size+3),ptr (P.wB.heap.size+4)],ptr P.c] w fun e w'=>e=.returned (.func (.func 51) #[] #[ptr (P.wB.heap.size+5),ptr (P.wB.heap.size+6)])∧PreO P w':=by
 have hds:=zF2 (F:=50) (caps:=#[ptr (P.wB.heap.size+2),ptr (P.wB.heap.size+3),ptr (P.wB.heap.size+4)]) (cv:=some ⟨P.c,0,none⟩) (w:=w)
 rw[h.size] at hds
 refine hds.mono ?_
 rintro e w' ⟨rfl,hw⟩
 rw[hw]
 exact⟨rfl,h.pre⟩
set_option maxRecDepth 1000000 in
set_option maxHeartbeats 4000000 in
theorem code_Own {P:Cast}(hP:P.Ok)(hbad:P.bad = -1){x:Nat}(hx:P.wB.heap[x]?=some (.cells #[ptr P.c] 74 (0,0))):
  Calls Tryz.prog 16 #[ptr x,.slice P.ao P.E.length P.cp] P.wB (OwnR P):=by
 have hmf:∀ (fn:Fn) (first cap:Array Value) (w:World),(Instr.makeFunc fn first cap).run Tryz.prog w=.ok (.func fn first cap) w:=fun _ _ _ _=>rfl
 have hq2:=Tryz.eqSeq2 51
 have c0:=zA0 (i:=0) (v:=ptr P.c) hx rfl
 have lx:=zA2 hx
 have HX:Hid _:=hx
 have HP:Hid _:=And.intro hP hbad
 clear hx hP hbad
 go_enter_defers Tryz.func16,Tryz.ntmps16
 have hos:=own_source P HP.out.2
 have b0:((P.wB.alloc (.cells #[.bool false] 4)).alloc (.cells #[.int .i64 0] 3)).cell? ⟨x,0,none⟩=some (ptr P.c):=zA0 (zA3 (zA3 HX.out)) rfl
 go_wp2_with fail
 go_region_held3 (fun w'=>w'.cell? ⟨x,0,none⟩=some (ptr P.c)) (first | exact b0 | exact m0 | exact n0 | go_keep)
  (first
   | (go_at_call 29;refine hos.mono ?_;rintro e w1 ⟨rfl,h1⟩;have m0:w1.cell? ⟨x,0,none⟩=some (ptr P.c):=zA0 ((h1.below.block _ lx).trans HX.out) rfl;have hod:=own_decs h1;clear h1)
   | (go_at_call 30;refine hod.mono ?_;rintro e w2 ⟨rfl,h2⟩;have n0:w2.cell? ⟨x,0,none⟩=some (ptr P.c):=zA0 ((h2.below.block _ lx).trans HX.out) rfl;have H2:Hid _:=h2;clear h2))
 all_goals
  have hsq:=ow_seq HP.out.1 HP.out.2 H2.out
  have FIN:Hid (∀ w4 w3,KeepX P.X P.wB w4→KeepX (· = P.wB.heap.size+9+1) w4 w3→∀ w5,KeepX (· = P.wB.heap.size) w3 w5→KeepX P.X P.wB w5):=fun w4 w3 k0 k1 w5 k2=>⟨k2.os.trans (k1.os.trans k0.os),k2.tape.trans (k1.tape.trans k0.tape),k2.output.trans (k1.output.trans k0.output),Nat.le_trans k0.size (Nat.le_trans k1.size k2.size),fun b lt nx=>(k2.block b (Nat.lt_of_lt_of_le lt (Nat.le_trans k0.size k1.size)) (by omega)).trans ((k1.block b (Nat.lt_of_lt_of_le lt k0.size) (by omega)).trans (k0.block b lt nx))⟩
  go_wp2_with fail
  refine hsq.mono ?_
  rintro e w3 (⟨rfl,w4,⟨hr,hkp,hno⟩,hk⟩ | ⟨u,pv,older,rfl,hgo,w4,⟨hpv,hr,hkp,hi⟩,hk⟩)
  ·have hr3:One w3 P.wB.heap.size (.bool false) 4:=(hk.block _ (zA2 hr) (by omega)).trans hr
   have r0:=zA0 (i:=0) (v:=.bool false) hr3 rfl
   have z0:=zA1 (i:=0) hr3
   have H3:Hid _:=And.intro hr3 (And.intro (FIN.out w4 w3 hkp hk) hno)
   clear hsq hr hkp hno hk hr3
   go_wp2
   refine leaves_cons (f:=32) (args:=#[ptr P.wB.heap.size]) (by simp) (by simp[go_sem]) ?_
   refine(mine_idle (x:=.bool false) _ ?_).mono ?_
   ·first | exact H3.out.1 | exact zA4 (i:=0) (v:=.bool false) H3.out.1
   rintro e u' w5 ⟨rfl,rfl,rfl⟩
   simp[Leaves,settle,results,Tryz.results16,go_sem,r0]
   exact⟨H3.out.2.1 _ ((KeepX.set1 _ _).trans (KeepX.set1 _ _)),.inr ⟨rfl,H3.out.2.2⟩⟩
  ·injection hpv with hu hv
   subst hu hv
   have hr3:One w3 P.wB.heap.size (.bool false) 4:=(hk.block _ (zA2 hr) (by omega)).trans hr
   have r0:=zA0 (i:=0) (v:=.bool false) hr3 rfl
   have H3:Hid _:=And.intro hr3 (And.intro (FIN.out w4 w3 hkp hk) hi)
   have HG:Hid _:=hgo
   clear hsq hr hkp hi hk hr3 hgo
   go_wp2
   refine leaves_cons (f:=32) (args:=#[ptr P.wB.heap.size]) (by simp) (by simp[go_sem]) ?_
   refine(zPH (x:=.bool false) older _ H3.out.1).mono ?_
   rintro e u' w5 ⟨rfl,rfl,rfl⟩
   have hdw:=zQQ older HG.out
   simp[Leaves,settle,hdw,results,Tryz.results16,go_sem,r0]
   exact⟨H3.out.2.1 _ (KeepX.set1 _ _),.inl ⟨rfl,H3.out.2.2⟩⟩
theorem infoEvt : (Tryz.prog.info? 35).map (fun i=>(i.zero,i.size,i.bytes))=some (some (.agg #[.bool false,.string { data:=#[] },.int .i64 0,.int .i64 0]),4,40):=by kernel_rfl
def zKO (t:Tree)(q:Bool × Int × Int × Int):Evt:=(q.1,zII (msOf t) q.2.1,q.2.2.1,q.2.2.2)
def zC5 (t:Tree)(E:List (Bool × Int × Int × Int)):List Evt:=E.map (zKO t)
def zFE (E:List Evt):List Value:=E.flatMap fun q=>(zBT q).toList
theorem event_at {w:World}{t:Tree}{N:Nat→Prop}{pa:Option Addr}(hf:Fit t)(hz:size t≤200)(hn:zA9 N w t (.pointer pa))(hN:∀ b,N b→b<w.heap.size)(q:Bool × Int × Int × Int):
  Calls Tryz.prog 7 #[.pointer pa,.agg #[.bool q.1,.int .i64 q.2.1,.int .i64 q.2.2.1,.int .i64 q.2.2.2]] w fun e w'=>e=.returned (.agg (zBT (zKO t q)))∧Below w.heap.size w w':=by
 refine zNV (ms:=msOf t) (ms_few hz) fun W hW=>?_
 exact zBW t (zBZ t hf) N W.heap.size W (.pointer pa) (.slice none 0 0) [] (fun b hb=>Nat.lt_of_lt_of_le (hN b hb) hW.size) (Nat.le_refl _) (hn.moves fun b hb hlt=>⟨hb,hW.block b hlt⟩) ⟨rfl,.inl ⟨rfl,rfl⟩⟩ (by have:=zQM hz;simp;omega)
theorem heap_old2 {w:World}{b:Nat}{o o2:Obj}(h:b<w.heap.size):((w.alloc o).alloc o2).heap[b]?=w.heap[b]?:=by
 obtain⟨x,hx⟩:∃ x,w.heap[b]?=some x:=⟨w.heap[b],Array.getElem?_eq_getElem h⟩
 rw[hx]
 exact zA3 (zA3 hx)
def EventsR (w:World)(E:List Evt)(e:Ending)(w':World):Prop:=Below w.heap.size w w'∧∃ lv,e=.returned lv∧w'.ownsRow w.heap.size 35 4 lv E.length (zFE E)
set_option maxRecDepth 1000000 in
set_option maxHeartbeats 2000000 in
theorem law_events {w:World}{t:Tree}{N:Nat→Prop}{pa:Option Addr}(hf:Fit t)(hz:size t≤200)(hn:zA9 N w t (.pointer pa))(hN:∀ b,N b→b<w.heap.size){bo:Option Addr}{cq:Nat}{E:List (Bool × Int × Int × Int)}(hE:EvsL w bo E)(hl:E.length≤1073741824):
  Calls Tryz.prog 12 #[.pointer pa,.slice bo E.length cq] w (EventsR w (zC5 t E)):=by
 obtain⟨i0,hi0,hz0,hz1,hz2⟩:=info_parts infoEvt
 have HE:Hid (∀ (wr:World),Below w.heap.size w wr→∀ q,Calls Tryz.prog 7 #[.pointer pa,.agg #[.bool q.1,.int .i64 q.2.1,.int .i64 q.2.2.1,.int .i64 q.2.2.2]] wr fun e w'=>e=.returned (.agg (zBT (zKO t q)))∧Below wr.heap.size wr w'):=fun wr hb q=>event_at hf hz (hn.moves fun b hx hlt=>⟨hx,hb.block b hlt⟩) (fun b hx=>Nat.lt_of_lt_of_le (hN b hx) hb.size) q
 have HC:Hid _:=hE
 clear hf hz hn hN hE
 go_enter Tryz.func12,Tryz.ntmps12
 go_wp2_with fail
 go_loopw [5,6] (fun v5 v6 wr=>∃ i:Nat,v6=.int .i64 i∧i≤E.length∧(∃ oa oc,v5=.slice oa i oc)∧Hid (Below w.heap.size w wr∧wr.ownsRow w.heap.size 35 4 v5 i (zFE ((zC5 t E).take i)))) (fun _ v6 _=>E.length - (intOf v6).toNat)
 case atStart=>exact⟨0,rfl,Nat.zero_le _,⟨_,_,rfl⟩,Below.refl _ _,World.ownsRow_nil _ _ _ _⟩
 case round=>
  obtain⟨i,rfl,hi,⟨oa,oc,rfl⟩,HI⟩:=hrel
  rcases Nat.lt_or_ge i E.length with hlt | hge
  ·have hlt2:(i:Int)<E.length:=by omega
   obtain⟨q,hq⟩:∃ q,E[i]?=some q:=⟨E[i],List.getElem?_eq_getElem hlt⟩
   obtain⟨-,-,-,C,off,rfl,c0,c1,c2,c3⟩:=HC.out i _ hq
   have c0:=zAR HI.out.1 c0
   have c1:=zAR HI.out.1 c1
   have c2:=zAR HI.out.1 c2
   have c3:=zAR HI.out.1 c3
   have hev:=HE.out wr HI.out.1 q
   have HQ:Hid (zFE ((zC5 t E).take (i+1))=zFE ((zC5 t E).take i) ++ [.bool (zKO t q).1,.string (zKO t q).2.1,.int .i64 (zKO t q).2.2.1,.int .i64 (zKO t q).2.2.2]):=by
    show zFE _=_
    have:(zC5 t E)[i]?=some (zKO t q):=by unfold zC5;rw[List.getElem?_map,hq];rfl
    rw[List.take_add_one,this]
    simp[zFE]
   clear hq
   go_wp2_with fail
   refine hev.mono ?_
   rintro e w2 ⟨rfl,hb2⟩
   have hown2:w2.ownsRow w.heap.size 35 4 (.slice oa i oc) i (zFE ((zC5 t E).take i)):=zA7 HI.out.2 fun g hg=>hb2.block g (HI.out.2.lt g hg).2
   have H2:Hid (Below w.heap.size w w2∧w2.ownsRow w.heap.size 35 4 (.slice oa i oc) i (zFE ((zC5 t E).take i))):=⟨HI.out.1.trans (hb2.mono HI.out.1.size),hown2⟩
   have lw2:=H2.out.1.size
   generalize hk:zKO t q=k at *
   have HX:Hid (∀ (j:Nat) (u:Value),[Value.bool k.1,.string k.2.1,.int .i64 k.2.2.1,.int .i64 k.2.2.2][j]?=some u→((w2.alloc (.cells #[.bool k.1,.string k.2.1,.int .i64 k.2.2.1,.int .i64 k.2.2.2] 35)).alloc (.cells #[.bool k.1,.string k.2.1,.int .i64 k.2.2.1,.int .i64 k.2.2.2] 35)).cell? ((⟨w2.heap.size+1,0,none⟩:Addr).add j)=some u):=by
    exact zQK (zAM (w:=w2.alloc (.cells #[.bool k.1,.string k.2.1,.int .i64 k.2.2.1,.int .i64 k.2.2.2] 35)) (cs:=#[.bool k.1,.string k.2.1,.int .i64 k.2.2.1,.int .i64 k.2.2.2]) (T:=35) (n:=w2.heap.size+1) (by simp))
   clear hev hb2 c0 c1 c2 c3 hown2 hk
   obtain⟨k1,k2,k3,k4⟩:=k
   go_wp2_with (first | (at_builtin; refine zAA _ rfl _ _ 49 rfl w.heap.size 35 i0 _ 4 40 Tryz.underlying49 hi0 hz0 hz1 hz2 rfl (by decide) (.slice oa i oc) i (zFE ((zC5 t E).take i)) rfl ((H2.out.2.alloc _).alloc _) ⟨w2.heap.size + 1, 0, none⟩ 1 1 [.bool k1, .string k2, .int .i64 k3, .int .i64 k4] rfl rfl HX.out (fun x hx => by simp at hx; rcases hx with rfl | rfl | rfl | rfl <;> rfl) (by unfold maxLen; omega) (by omega) (by simp; omega) (by decide) ?_; intro v' w5 hown hgrow hnil
                         have HF:Hid (Below w.heap.size w w5∧w5.ownsRow w.heap.size 35 4 v' (i+1) (zFE ((zC5 t E).take (i+1)))):=⟨⟨hgrow.os.trans H2.out.1.os,hgrow.tape.trans H2.out.1.tape,hgrow.output.trans H2.out.1.output,Nat.le_trans (by simp;omega) hgrow.size,fun b lt=>(hgrow.block b (by simp;omega) fun e=>by have:=(H2.out.2.lt b e.symm).1;omega).trans ((heap_old2 (by omega)).trans (H2.out.1.block b lt))⟩,by rw[HQ.out];exact hown⟩
                         obtain⟨ao2,cp2,rfl⟩:=zAI hown
                         clear hgrow hown hnil))
   go_roundw
   case rel=>exact⟨i+1,by go_num,by omega,⟨_,_,rfl⟩,HF⟩
   case measure=>simp[intOf];omega
  ·obtain rfl:i=E.length:=by omega
   have hge2:¬ (E.length:Int)<E.length:=by omega
   go_wp2
   go_ret
   have hlE:(zC5 t E).length=E.length:=by simp[zC5]
   refine⟨HI.out.1,_,rfl,?_⟩
   have:=HI.out.2
   rw[←hlE,List.take_length] at this
   rw[hlE] at this ⊢
   exact this
structure RanI (t:Tree) (w:World) (r:Nat) (pa:Option Addr) (N:Nat→Prop) (g:Nat→Nat) (lv0:Nat→Value) (av:Value) (j:Nat) (s:Ran) (S:Fed) (lv:Nat→Value) (wr:World):Prop where
 ref:RefC wr r (.pointer pa) s.k (msOf t) S g lv av
 ts:TS (zA5 t) S s.k.time s.T
 ok:s.k.Ok
 tok:TOk (zA5 t) s.k.time s.T
 no:∀ m,m ∉ msOf t→S m=[]
 room:∀ x,(S x).length≤j
 node:zA9 N wr t (.pointer pa)
 apart:∀ b,N b→¬ RBA r g lv0 av (msOf t).length b∧b<w.heap.size
 keep:KeepX (RBA r g lv0 av (msOf t).length) w wr
 grew:∀ b,RBA r g lv av (msOf t).length b→RBA r g lv0 av (msOf t).length b∨w.heap.size≤b
section
variable {t:Tree} {w:World} {r:Nat} {pa:Option Addr} {N:Nat→Prop} {g:Nat→Nat} {lv0:Nat→Value} {av:Value} {j:Nat} {s:Ran} {S:Fed} {lv:Nat→Value} {wr:World}
theorem RanI.go (h:RanI t w r pa N g lv0 av j s S lv wr){w':World}(hb:Below wr.heap.size wr w'):RanI t w r pa N g lv0 av j s S lv w':=
 ⟨h.ref.below hb,h.ts,h.ok,h.tok,h.no,h.room,h.node.moves fun b hx hlt=>⟨hx,hb.block b hlt⟩,h.apart,h.keep.trans (.of_below hb),h.grew⟩
theorem RanI.turned (h:RanI t w r pa N g lv0 av j s S lv wr){w':World}{Y:Nat→Prop}(hk:KeepX Y wr w')(hY:∀ b,Y b→RBA r g lv av (msOf t).length b):KeepX (RBA r g lv0 av (msOf t).length) w w'∧zA9 N w' t (.pointer pa):=by
 have ksz:=h.keep.size
 refine⟨⟨hk.os.trans h.keep.os,hk.tape.trans h.keep.tape,hk.output.trans h.keep.output,Nat.le_trans ksz hk.size,fun b lt nx=>(hk.block b (Nat.lt_of_lt_of_le lt ksz) fun e=>?_).trans (h.keep.block b lt nx)⟩,h.node.moves fun b hx hlt=>⟨hx,hk.block b hlt fun e=>?_⟩⟩
 ·rcases h.grew b (hY b e) with q | q
  ·exact nx q
  ·omega
 ·obtain⟨a1,a2⟩:=h.apart b hx
  rcases h.grew b (hY b e) with q | q
  ·exact a1 q
  ·omega
theorem RanI.feed (h:RanI t w r pa N g lv0 av j s S lv wr)(hj:j<1073741824){name:ByteArray}{v tm:Int}(hv:In64 v)(ht:In64 tm):
  Calls Tryz.prog 28 #[ptr r,.string name,.int .i64 v,.int .i64 tm] wr fun e w'=>(∃ n,e=.returned (.int .i64 n))∧KeepX (RBA r g lv av (msOf t).length) wr w'∧∃ S' lv',RanI t w r pa N g lv0 av (j+1) (s.step (bare t) (zA5 t) j (false,name,v,tm)) S' lv' w':=by
 refine(zQG h.ref hv ht (fun x _=>by have:=h.room x;omega)).mono ?_
 rintro e w' ⟨hfr⟩
 have hst:s.step (bare t) (zA5 t) j (false,name,v,tm)=⟨(s.k.feed (zA5 t) s.T name v tm).2.1,(s.k.feed (zA5 t) s.T name v tm).2.2,s.L⟩:=rfl
 obtain⟨-,mo,-,-,mt⟩:=zLD h.ok h.tok name hv ht
 rw[hst]
 rcases hfr with⟨q1,rfl,rfl⟩ | ⟨q1,q2,rfl,rfl⟩ | ⟨q1,q2,rfl,q3,lv1,q4,q5⟩
 ·have ef:s.k.feed (zA5 t) s.T name v tm=(.stale,s.k,s.T):=by unfold Ctl.feed;rw[if_pos q1]
  rw[ef]
  exact⟨⟨_,rfl⟩,KeepX.refl _ _,S,lv,h.ref,h.ts,h.ok,h.tok,h.no,fun x=>Nat.le_succ_of_le (h.room x),h.node,h.apart,h.keep,h.grew⟩
 ·have ef:s.k.feed (zA5 t) s.T name v tm=(.metric,s.k,s.T):=by unfold Ctl.feed;rw[if_neg q1,if_neg (fun e=>q2 ((zJA t name).2 e))]
  rw[ef]
  exact⟨⟨_,rfl⟩,KeepX.refl _ _,S,lv,h.ref,h.ts,h.ok,h.tok,h.no,fun x=>Nat.le_succ_of_le (h.room x),h.node,h.apart,h.keep,h.grew⟩
 ·have ef:s.k.feed (zA5 t) s.T name v tm=(.fine,{ s.k with time:=tm },fun x n=>if x=name then(tm,Win.trim n tm ((s.T x n).2 ++ [(tm,v)])) else s.T x n):=by unfold Ctl.feed;rw[if_neg q1,if_pos ((zJA t name).1 q2)]
  obtain⟨k1,k2⟩:=h.turned q3 (fun b hb=>.inl hb)
  have ksz:=h.keep.size
  rw[ef] at mo mt ⊢
  refine⟨⟨_,rfl⟩,⟨q3.os,q3.tape,q3.output,q3.size,fun b lt nx=>q3.block b lt fun e=>nx (.inl e)⟩,zFM S name v tm,lv1,q4,h.ts.feed v (by omega),mo,mt,fun m hm=>?_,fun x=>?_,k2,h.apart,k1,fun b hb=>?_⟩
  ·unfold zFM
   rw[if_neg (fun(e:m=name)=>hm (by rw[e];exact q2))]
   exact h.no m hm
  ·have:=h.room x
   unfold zFM
   split
   ·simp
    omega
   ·omega
  ·rcases hb with(e | ⟨i,hi,e | e⟩) | e
   ·exact h.grew b (.inl (.inl e))
   ·exact h.grew b (.inl (.inr ⟨i,hi,.inl e⟩))
   ·rcases q5 i with q | ⟨b2,q1,q2⟩
    ·exact h.grew b (.inl (.inr ⟨i,hi,.inr (q ▸ e)⟩))
    ·rw[e] at q1
     injection q1 with q1
     subst q1
     rcases q2 with q2 | q2
     ·exact h.grew b (.inl (.inr ⟨i,hi,.inr q2⟩))
     ·exact .inr (Nat.le_trans ksz q2)
   ·exact h.grew b (.inr e)
theorem RanI.tick (h:RanI t w r pa N g lv0 av j s S lv wr)(hf:Fit t)(hz:size t≤200){name:ByteArray}{v tm:Int}(ht:In64 tm):
  Calls Tryz.prog 9 #[ptr r,.int .i64 tm] wr fun e w'=>e=.returned (.tuple #[.int .i64 (s.k.decide zAC (bare t) s.T tm).2.1.count,.agg #[.int .i64 0,.int .i64 (s.k.decide zAC (bare t) s.T tm).1.e,.int .i64 (s.k.decide zAC (bare t) s.T tm).1.p,.int .i64 (s.k.decide zAC (bare t) s.T tm).1.m]])∧KeepX (RBA r g lv av (msOf t).length) wr w'∧∃ S' lv',RanI t w r pa N g lv0 av (j+1) (s.step (bare t) (zA5 t) j (true,name,v,tm)) S' lv' w':=by
 have hdm:s.k.decide zAC (bare t) s.T tm=s.k.decide zAC t s.T tm:=by unfold Ctl.decide;rw[zEM]
 obtain⟨d1,d2,d3⟩:=zK8 (k:=s.k) hf (sp:=zA5 t) (fun _ hq=>hq) h.ts (tm:=tm)
 obtain⟨-,mo,-,-,mt⟩:=zIO h.ok zAC (fun _ _ _=>rfl) t h.tok ht
 have nr:∀ b,N b→b≠r:=fun b hb e=>(h.apart b hb).1 (.inl (.inl e))
 refine(zQF h.ref h.no h.ok hf hz (h.node.moves fun b hb _=>⟨nr b hb,rfl⟩) ht).mono ?_
 rintro e w' ⟨rfl,href,hk⟩
 obtain⟨k1,k2⟩:=h.turned hk (fun b (e:b=r)=>.inl (.inl e))
 rw[hdm,d1,d2]
 refine⟨rfl,⟨hk.os,hk.tape,hk.output,hk.size,fun b lt nx=>hk.block b lt fun(e:b=r)=>nx (.inl (.inl e))⟩,S,lv,?_⟩
 have hst:s.step (bare t) (zA5 t) j (true,name,v,tm)=⟨(s.k.decide zAC t s.T tm).2.1,(s.k.decide zAC t s.T tm).2.2,s.L ++ [decV tm (s.k.decide zAC t s.T tm).2.1.count s.L.length (j+1) (s.k.decide zAC t s.T tm).1]⟩:=by
  unfold Ran.step
  simp only[hdm,if_true]
 rw[hst]
 exact⟨by simp only;rw[d2];exact href,d3,mo,mt,h.no,fun x=>Nat.le_succ_of_le (h.room x),k2,h.apart,k1,h.grew⟩
end
theorem zPS : ∀ (L:List (List Value)) (_:∀ x∈L,x.length=8) (a j:Nat) (x:List Value),L[a]?=some x→j<8→L.flatten[a * 8+j]?=x[j]?
 | [],_,a,j,x,h,_=>by simp at h
 | y :: L,h8,0,j,x,h,hj=>by
  simp at h
  subst h
  have:=h8 y (List.mem_cons_self ..)
  rw[List.flatten_cons,List.getElem?_append_left (by omega)]
  simp
 | y :: L,h8,a+1,j,x,h,hj=>by
  have h1:=h8 y (List.mem_cons_self ..)
  rw[List.flatten_cons,List.getElem?_append_right (by omega),h1]
  have:=zPS L (fun z hz=>h8 z (List.mem_cons_of_mem _ hz)) a j x (by simpa using h) hj
  rw[←this]
  congr 1
  omega
theorem zL3 (u:Tree)(sp:List (ByteArray × Int))(s:Ran)(E:List Evt){i n:Nat}(h:i≤n):(zAW u sp s E i).L <+: (zAW u sp s E n).L:=by
 induction n with
 | zero=>
  obtain rfl:i=0:=by omega
  exact List.prefix_refl _
 | succ n ih=>
  rcases Nat.lt_or_ge i (n+1) with hl | hl
  ·refine(ih (by omega)).trans ?_
   conv=>rhs;unfold zAW
   cases E[n]? with
   | none=>exact List.prefix_refl _
   | some q=>
    simp only[Ran.step]
    split
    ·exact List.prefix_append _ _
    ·exact List.prefix_refl _
  ·obtain rfl:i=n+1:=by omega
   exact List.prefix_refl _
theorem ran_eight (u:Tree)(sp:List (ByteArray × Int))(s:Ran)(hs:s.L=[])(E:List Evt)(n:Nat):∀ x∈(zAW u sp s E n).L,x.length=8:=by
 induction n with
 | zero=>intro x hx;simp[zAW,hs] at hx
 | succ n ih=>
  unfold zAW
  cases E[n]? with
  | none=>exact ih
  | some q=>
   simp only[Ran.step]
   split
   ·intro x hx
    rcases List.mem_append.1 hx with hx | hx
    ·exact ih x hx
    ·rw[List.mem_singleton.1 hx]
     rfl
   ·exact ih
end Go.Proofs.YtbokdbaagacnlaaGreatDoor
