import Derived.Test.YtbokdbaagacnlaaGreatDoorJQ35
namespace Go.Proofs.YtbokdbaagacnlaaGreatDoor
open Go.RowKit Go.Lib
def SR (w1:World)(R:Nat)(cv:Value)(seed T:Int)(k:Nat)(tr:ByteArray)(w:World):Prop:=Keep R w1 w∧zCE w R cv seed T tr∧tr.size+1000 * k≤1000000000
theorem SR.below {w1:World}{R:Nat}{cv:Value}{seed T:Int}{k:Nat}{tr:ByteArray}{w w':World}(h:SR w1 R cv seed T k tr w)(hb:Below w.heap.size w w'):SR w1 R cv seed T k tr w':=
 ⟨h.1.trans (.of_below hb),(hb.block R (zA2 h.2.1)).trans h.2.1,h.2.2⟩
theorem SR.less {w1:World}{R:Nat}{cv:Value}{seed T:Int}{k a:Nat}{tr:ByteArray}{w:World}(h:SR w1 R cv seed T (k+a) tr w):SR w1 R cv seed T k tr w:=⟨h.1,h.2.1,by have:=h.2.2;omega⟩
theorem SR.keep {w1:World}{R:Nat}{cv:Value}{seed T:Int}{k k2:Nat}{tr tr2:ByteArray}{w w':World}(h:SR w1 R cv seed T k tr w)(hk:Keep R w w')(hW:zCE w' R cv seed T tr2)(hz:tr2.size+1000 * k2≤1000000000):SR w1 R cv seed T k2 tr2 w':=⟨h.1.trans hk,hW,hz⟩
def zD3 (M:ByteArray→ByteArray→Int→Int × Int):Env ByteArray where
 look:=some fun kind metric n tr=>(zF1 (M kind metric n),zDX tr kind metric)
 probe:=fun nm xs tr=>(zEX (zB3 nm xs),zEC tr nm)
def zFB (w1:World)(R:Nat)(cv:Value)(seed T:Int)(c:Nat)(v:Value)(m:ByteArray→Res × ByteArray)(w0:World):Prop:=
 ∀ k tr w,Keep R w0 w→SR w1 R cv seed T (k+c) tr w→Calls Tryz.prog 25 #[v,ptr R] w fun e w'=>Keep R w w'∧e=.returned (valV (m tr).1)∧SR w1 R cv seed T k (m tr).2 w'∧In64 (resN (m tr).1)
theorem zFB.more {w1:World}{R:Nat}{cv:Value}{seed T:Int}{a b:Nat}{v:Value}{m:ByteArray→Res × ByteArray}{w0:World}(h:zFB w1 R cv seed T a v m w0)(hab:a≤b):zFB w1 R cv seed T b v m w0:=
 fun k tr w hk hs=>h k tr w hk (SR.less (a:=b - a) (by rw[show k+a+(b - a)=k+b by omega];exact hs))
def MeasF (w1:World)(R:Nat)(cv:Value)(seed T:Int)(M:ByteArray→ByteArray→Int→Int × Int):Prop:=
 ∀ tr kind metric n w,Keep R w1 w→zCE w R cv seed T tr→tr.size≤1000000000→kind.size<256→metric.size<256→isMeasure kind=true→0≤n→n<1000000000 →
  Calls Tryz.prog 45 #[ptr R,.string kind,.string metric,.int .i64 n] w fun e w'=>e=.returned (.agg #[.int .i64 (M kind metric n).1,.int .i64 (M kind metric n).2])∧Keep R w w'∧zCE w' R cv seed T (zDX tr kind metric)
theorem set4 {R:Nat}{w w2:World}{cv:Value}{seed T:Int}{tr:ByteArray}(hk:Keep R w w2)(hW:zCE w2 R cv seed T tr)(hR:R<w.heap.size)(a b c d:Value):
  Keep R w ((((w2.setCell ⟨w.heap.size,0,none⟩ a).setCell ⟨w.heap.size,1,none⟩ b).setCell ⟨w.heap.size,2,none⟩ c).setCell ⟨w.heap.size,3,none⟩ d)∧zCE ((((w2.setCell ⟨w.heap.size,0,none⟩ a).setCell ⟨w.heap.size,1,none⟩ b).setCell ⟨w.heap.size,2,none⟩ c).setCell ⟨w.heap.size,3,none⟩ d) R cv seed T tr:=by
 have ne:R≠w.heap.size:=by omega
 exact⟨(((hk.setNew (Nat.le_refl _) _).setNew (Nat.le_refl _) _).setNew (Nat.le_refl _) _).setNew (Nat.le_refl _) _,zA6 (zA6 (zA6 (zA6 hW ne) ne) ne) ne⟩
theorem zM5 {p:Nat}{x:Int × Int}(h:In64 x.1):In64 (resN (zDS p x)):=by
 unfold zDS
 repeat' split
 ·exact h
 all_goals (unfold In64;simp[resN])
theorem ref_done {w1:World}{R:Nat}{cv:Value}{seed T:Int}{k:Nat}{tr:ByteArray}{w w':World}{r:Res}(h:SR w1 R cv seed T k tr w)(hb:Below w.heap.size w w')(hn:In64 (resN r)):Keep R w w'∧Ending.returned (valV r)=Ending.returned (valV r)∧SR w1 R cv seed T k tr w'∧In64 (resN r):=⟨.of_below hb,rfl,h.below hb,hn⟩
section
variable {w1 w0:World} {R:Nat} {cv:Value} {seed T:Int} {M:ByteArray→ByteArray→Int→Int × Int}
set_option maxRecDepth 1000000 in
set_option maxHeartbeats 1000000 in
theorem refrun_num {p:Nat}{n:Int}{v:Value}(hn:In64 n)(h:zCO (fun b=>b≠R) w0 v 35 p n zAK zAK []):zFB w1 R cv seed T 0 v (fun s=>(.val n,s)) w0:=by
 obtain⟨b,pv,rfl,hb,hblk,-⟩:=h
 intro k tr w hk hs
 have hs:SR w1 R cv seed T k tr w:=hs
 have hblk:=hk.heap hblk hb
 have c0:w.cell? ⟨b,0,none⟩=some (.int .u8 35):=zA0 hblk rfl
 have c2:w.cell? ⟨b,2,none⟩=some (.int .i64 n):=zA0 hblk rfl
 have lb:=zA2 hblk
 have HS:Hid _:=And.intro hs hn
 clear hs hblk hk hn
 go_enter Tryz.func25,Tryz.ntmps25
 go_wp2
 refine bodyPost_ret (v:=valV (.val n)) (by simp[valV,resN,resE,resP,resM,results,Tryz.results25,go_sem]) rfl ?_
 refine ref_done HS.out.1 ?_ HS.out.2
 repeat (first | exact Below.refl _ _ | refine Below.setCell ?_ (by simp) _ | refine Below.alloc ?_ (by simp) _)
set_option maxRecDepth 1000000 in
set_option maxHeartbeats 1000000 in
theorem zP3 (hM:MeasF w1 R cv seed T M)(hMe:∀ kind metric n,(M kind metric n).2=0∨(M kind metric n).2=9∨(M kind metric n).2=11)(hMi:∀ kind metric n,In64 (M kind metric n).1){p:Nat}{n:Int}{wd met:ByteArray}{v:Value}(h0:0≤n)(h9:n<1000000000)(hwd:wd.size<256)(hmt:met.size<256)(him:isMeasure wd=true)(h:zCO (fun b=>b≠R) w0 v 109 p n wd met []):
  zFB w1 R cv seed T 1 v (fun s=>zE0 p (zF1 (M wd met n),zDX s wd met)) w0:=by
 obtain⟨b,pv,rfl,hb,hblk,-⟩:=h
 intro k tr w hk hs
 have hblk:=hk.heap hblk hb
 have c0:w.cell? ⟨b,0,none⟩=some (.int .u8 109):=zA0 hblk rfl
 have c2:w.cell? ⟨b,2,none⟩=some (.int .i64 n):=zA0 hblk rfl
 have c3:w.cell? ⟨b,3,none⟩=some (.string wd):=zA0 hblk rfl
 have c4:w.cell? ⟨b,4,none⟩=some (.string met):=zA0 hblk rfl
 have lb:=zA2 hblk
 have e1:zE0 p (zF1 (M wd met n),zDX tr wd met)=(zDS p (M wd met n),zDX tr wd met):=zPI (hMe wd met n)
 have hx:=hMe wd met n
 have hx2:=hMi wd met n
 show Calls _ _ _ _ fun e w'=>Keep R w w'∧e=.returned (valV (zE0 p (zF1 (M wd met n),zDX tr wd met)).1)∧SR w1 R cv seed T k (zE0 p (zF1 (M wd met n),zDX tr wd met)).2 w'∧In64 (resN (zE0 p (zF1 (M wd met n),zDX tr wd met)).1)
 rw[e1]
 have hz:=hs.2.2
 have HS:Hid _:=And.intro hs (And.intro hblk hx)
 go_enter Tryz.func25,Tryz.ntmps25
 have c1:w.cell? ⟨b,1,none⟩=some (.int .i64 p):=zA0 hblk rfl
 have neR:w.heap.size≠R:=by have:=zA2 hs.2.1;omega
 have neR1:w.heap.size+1≠R:=by have:=zA2 hs.2.1;omega
 have nb1:¬ b=w.heap.size+1:=by omega
 have nb2:¬ w.heap.size+1=b:=by omega
 clear hblk hs
 go_wp2_with fail
 go_region_held3 (fun w'=>w'.cell? ⟨b,1,none⟩=some (.int .i64 p)∧w'.cell? ⟨b,2,none⟩=some (.int .i64 n)∧w'.cell? ⟨b,3,none⟩=some (.string wd)∧w'.cell? ⟨b,4,none⟩=some (.string met)) (go_keep)
  (first
   | (go_at_call 45;refine(hM tr wd met n _ (by repeat (first | exact HS.out.1.1 | refine Keep.drew ?_ | refine Keep.alloc ?_ _)) (by first | exact zA3 HS.out.1.2.1 | exact zA3 (zA3 HS.out.1.2.1)) (by omega) hwd hmt him h0 h9).mono ?_;rintro e w9 ⟨rfl,hk9,hW9⟩;have hkw:Keep R w w9:=(by first | exact((Keep.refl R w).alloc _).drew.trans hk9 | exact(((Keep.refl R w).alloc _).alloc _).drew.trans hk9);have HK9:Hid _:=And.intro hkw hW9;have k1:w9.cell? ⟨b,1,none⟩=some (.int .i64 p):=zA0 (hkw.heap HS.out.2.1 hb) rfl;have k2:w9.cell? ⟨b,2,none⟩=some (.int .i64 n):=zA0 (hkw.heap HS.out.2.1 hb) rfl;have k3:w9.cell? ⟨b,3,none⟩=some (.string wd):=zA0 (hkw.heap HS.out.2.1 hb) rfl;have k4:w9.cell? ⟨b,4,none⟩=some (.string met):=zA0 (hkw.heap HS.out.2.1 hb) rfl;have b0:w9.heap[w.heap.size]?=some (.cells #[.int .i64 0,.int .i64 0,.int .i64 0,.int .i64 0] 43 (0,0)):=(by first | exact(hk9.block _ (by simp <;> omega) neR).trans (heap_alloc_new _ _) | exact(hk9.block _ (by simp <;> omega) neR).trans (zA3 (heap_alloc_new _ _)));have HB0:Hid _:=b0;(first | (have b1:w9.heap[w.heap.size+1]?=some (.cells #[.int .i64 0,.int .i64 0] 128 (0,0)):=(hk9.block _ (by simp <;> omega) neR1).trans (zEJ _ _ (by simp));have q0:=zA0 (i:=0) b1 rfl;have q1:=zA0 (i:=1) b1 rfl;have y0:=zA1 (i:=0) b1;have y1:=zA1 (i:=1) b1;have ly:=zA2 b1;clear b1) | skip);have nb9:¬ b=w9.heap.size:=(by have:=hkw.size;omega);have nb8:¬ w9.heap.size=b:=(by have:=hkw.size;omega);clear hk9 hW9 b0 hkw))
 all_goals go_wp2_with fail
 ·have hk2:Keep R w (w9.alloc (.cells #[.int .i64 (M wd met n).1,.int .i64 (M wd met n).2] 128)):=HK9.out.1.alloc _
  have hW2:zCE (w9.alloc (.cells #[.int .i64 (M wd met n).1,.int .i64 (M wd met n).2] 128)) R cv seed T (zDX tr wd met):=zA3 HK9.out.2
  have hB2:(w9.alloc (.cells #[.int .i64 (M wd met n).1,.int .i64 (M wd met n).2] 128)).heap[w.heap.size]?=some (.cells #[.int .i64 0,.int .i64 0,.int .i64 0,.int .i64 0] 43 (0,0)):=zA3 HB0.out
  generalize w9.alloc (.cells #[.int .i64 (M wd met n).1,.int .i64 (M wd met n).2] 128)=w2 at hk2 hW2 hB2 ⊢
  have hh:=zM7 (p:=p) (x:=M wd met n) (w:=w2) (zA0 (hk2.heap HS.out.2.1 hb) rfl) (by omega)
  have HK2:Hid (Keep R w w2∧zCE w2 R cv seed T (zDX tr wd met)∧w2.heap[w.heap.size]?=some (.cells #[.int .i64 0,.int .i64 0,.int .i64 0,.int .i64 0] 43 (0,0))):=⟨hk2,hW2,hB2⟩
  unfold valV at hh
  clear hk2 hW2 hB2
  refine hh.mono ?_
  rintro e w10 ⟨rfl,hb10⟩
  have b2:=(hb10.block _ (zA2 HK2.out.2.2)).trans HK2.out.2.2
  have rc0:=zA0 (i:=0) (v:=.int .i64 0) b2 rfl
  have rc1:=zA0 (i:=1) (v:=.int .i64 0) b2 rfl
  have rc2:=zA0 (i:=2) (v:=.int .i64 0) b2 rfl
  have rc3:=zA0 (i:=3) (v:=.int .i64 0) b2 rfl
  have rz0:=zA1 (i:=0) b2
  have rz1:=zA1 (i:=1) b2
  have rz2:=zA1 (i:=2) b2
  have rz3:=zA1 (i:=3) b2
  have HB10:Hid _:=hb10
  clear b2 hb10 hh
  go_wp2
  refine bodyPost_ret (v:=valV (zDS p (M wd met n))) (by simp[valV,results,Tryz.results25,go_sem,rc0,rc1,rc2,rc3]) rfl ?_
  have q:=set4 (HK2.out.1.trans (.of_below HB10.out)) ((HB10.out.block R (zA2 HK2.out.2.1)).trans HK2.out.2.1) (zA2 HS.out.1.2.1) (.int .i64 (resN (zDS p (M wd met n)))) (.int .i64 (resE (zDS p (M wd met n)))) (.int .i64 (resP (zDS p (M wd met n)))) (.int .i64 (resM (zDS p (M wd met n))))
  exact⟨q.1,rfl,HS.out.1.keep q.1 q.2 (by rw[zJH];omega),zM5 hx2⟩
 ·have hk2:Keep R w ((w9.setCell ⟨w.heap.size+1,0,none⟩ (.int .i64 (M wd met n).1)).setCell ⟨w.heap.size+1,1,none⟩ (.int .i64 (M wd met n).2)):=(HK9.out.1.setNew (by show w.heap.size≤w.heap.size+1;omega) _).setNew (by show w.heap.size≤w.heap.size+1;omega) _
  have hW2:zCE ((w9.setCell ⟨w.heap.size+1,0,none⟩ (.int .i64 (M wd met n).1)).setCell ⟨w.heap.size+1,1,none⟩ (.int .i64 (M wd met n).2)) R cv seed T (zDX tr wd met):=zA6 (zA6 HK9.out.2 (Ne.symm neR1)) (Ne.symm neR1)
  have hB2:((w9.setCell ⟨w.heap.size+1,0,none⟩ (.int .i64 (M wd met n).1)).setCell ⟨w.heap.size+1,1,none⟩ (.int .i64 (M wd met n).2)).heap[w.heap.size]?=some (.cells #[.int .i64 0,.int .i64 0,.int .i64 0,.int .i64 0] 43 (0,0)):=zA6 (zA6 HB0.out (by show w.heap.size≠w.heap.size+1;omega)) (by show w.heap.size≠w.heap.size+1;omega)
  generalize (w9.setCell ⟨w.heap.size+1,0,none⟩ (.int .i64 (M wd met n).1)).setCell ⟨w.heap.size+1,1,none⟩ (.int .i64 (M wd met n).2)=w2 at hk2 hW2 hB2 ⊢
  have hh:=zM7 (p:=p) (x:=M wd met n) (w:=w2) (zA0 (hk2.heap HS.out.2.1 hb) rfl) (by omega)
  have HK2:Hid (Keep R w w2∧zCE w2 R cv seed T (zDX tr wd met)∧w2.heap[w.heap.size]?=some (.cells #[.int .i64 0,.int .i64 0,.int .i64 0,.int .i64 0] 43 (0,0))):=⟨hk2,hW2,hB2⟩
  unfold valV at hh
  clear hk2 hW2 hB2
  refine hh.mono ?_
  rintro e w10 ⟨rfl,hb10⟩
  have b2:=(hb10.block _ (zA2 HK2.out.2.2)).trans HK2.out.2.2
  have rc0:=zA0 (i:=0) (v:=.int .i64 0) b2 rfl
  have rc1:=zA0 (i:=1) (v:=.int .i64 0) b2 rfl
  have rc2:=zA0 (i:=2) (v:=.int .i64 0) b2 rfl
  have rc3:=zA0 (i:=3) (v:=.int .i64 0) b2 rfl
  have rz0:=zA1 (i:=0) b2
  have rz1:=zA1 (i:=1) b2
  have rz2:=zA1 (i:=2) b2
  have rz3:=zA1 (i:=3) b2
  have HB10:Hid _:=hb10
  clear b2 hb10 hh
  go_wp2
  refine bodyPost_ret (v:=valV (zDS p (M wd met n))) (by simp[valV,results,Tryz.results25,go_sem,rc0,rc1,rc2,rc3]) rfl ?_
  have q:=set4 (HK2.out.1.trans (.of_below HB10.out)) ((HB10.out.block R (zA2 HK2.out.2.1)).trans HK2.out.2.1) (zA2 HS.out.1.2.1) (.int .i64 (resN (zDS p (M wd met n)))) (.int .i64 (resE (zDS p (M wd met n)))) (.int .i64 (resP (zDS p (M wd met n)))) (.int .i64 (resM (zDS p (M wd met n))))
  exact⟨q.1,rfl,HS.out.1.keep q.1 q.2 (by rw[zJH];omega),zM5 hx2⟩
end
section
variable {σ τ:Type}
theorem zEI {R:σ→τ→Prop}{m1:σ→Res × σ}{m2:τ→Res × τ}{k1:Int→σ→Res × σ}{k2:Int→τ→Res × τ}(hm:∀ s t,R s t→(m1 s).1=(m2 t).1∧R (m1 s).2 (m2 t).2)(hk:∀ n s t,R s t→(k1 n s).1=(k2 n t).1∧R (k1 n s).2 (k2 n t).2)(s:σ)(t:τ)(h:R s t):(zBI m1 k1 s).1=(zBI m2 k2 t).1∧R (zBI m1 k1 s).2 (zBI m2 k2 t).2:=by
 unfold zBI
 have h:=hm s t h
 generalize m1 s=r at h
 generalize m2 t=q at h
 obtain⟨r,s1⟩:=r
 obtain⟨q,t1⟩:=q
 obtain⟨h1,h2⟩:=h
 simp only at h1 h2
 subst h1
 cases r with
 | val n=>exact hk n s1 t1 h2
 | held p y=>exact⟨rfl,h2⟩
mutual
theorem zIL {E1:Env σ}{E2:Env τ}{R:σ→τ→Prop}{D:ByteArray→Int→Prop}{L1:ByteArray→ByteArray→Int→σ→Found × σ}{L2:ByteArray→ByteArray→Int→τ→Found × τ}(h1:E1.look=some L1)(h2:E2.look=some L2)
  (hl:∀ a b n,isMeasure a=true→D b n→∀ s t,R s t→(L1 a b n s).1=(L2 a b n t).1∧R (L1 a b n s).2 (L2 a b n t).2) (hp:∀ nm xs s t,R s t→(E1.probe nm xs s).1=(E2.probe nm xs t).1∧R (E1.probe nm xs s).2 (E2.probe nm xs t).2):
  ∀ u,Fit u→(∀ q∈zA5 u,D q.1 q.2)→∀ s t,R s t→(ev E1 u s).1=(ev E2 u t).1∧R (ev E1 u s).2 (ev E2 u t).2
 | .num _ _,_,_,s,t,h=>by simp only[ev];exact⟨trivial,h⟩
 | .neg _ a,hf,hd,s,t,h=>by
  unfold Fit at hf
  simp only[ev]
  exact zEI (zIL h1 h2 hl hp a hf fun q hq=>hd q (by simpa[zA5] using hq)) (fun n s t h=>⟨rfl,h⟩) s t h
 | .bin k p a b,hf,hd,s,t,h=>by
  unfold Fit at hf
  have ha:=zIL h1 h2 hl hp a hf.2.2.1 fun q hq=>hd q (by simp[zA5,hq])
  have hb:=zIL h1 h2 hl hp b hf.2.2.2 fun q hq=>hd q (by simp[zA5,hq])
  simp only[ev]
  split
  ·exact zEI ha (fun x s t h=>zEI hb (fun y s t h=>⟨rfl,h⟩) s t h) s t h
  ·exact zEI ha (fun x s t h=>zEI hb (fun y s t h=>⟨rfl,h⟩) s t h) s t h
 | .ite _ a b c,hf,hd,s,t,h=>by
  unfold Fit at hf
  simp only[ev]
  refine zEI (zIL h1 h2 hl hp a hf.1 fun q hq=>hd q (by simp[zA5,hq])) (fun n s t h=>?_) s t h
  split
  ·exact zIL h1 h2 hl hp b hf.2.1 (fun q hq=>hd q (by simp[zA5,hq])) s t h
  ·exact zIL h1 h2 hl hp c hf.2.2 (fun q hq=>hd q (by simp[zA5,hq])) s t h
 | .meas p wd m n,hf,hd,s,t,h=>by
  unfold Fit at hf
  simp only[ev,h1,h2]
  have q:=hl wd m n hf.2.2.2.1 (hd (m,n) (by simp[zA5])) s t h
  generalize L1 wd m n s=r at q
  generalize L2 wd m n t=r2 at q
  obtain⟨r,s1⟩:=r
  obtain⟨r2,t1⟩:=r2
  obtain⟨q1,q2⟩:=q
  simp only at q1 q2
  subst q1
  cases r with
  | num n=>exact⟨rfl,q2⟩
  | nothing n=>exact⟨rfl,q2⟩
  | pan n=>exact⟨rfl,q2⟩
 | .probe p wd ts,hf,hd,s,t,h=>by
  unfold Fit at hf
  simp only[ev]
  refine zO6 h1 h2 hl hp ts hf.2.2.2.2.2 (fun q hq=>hd q (by simpa[zA5] using hq)) (fun xs s t h=>?_) s t h
  have q:=hp wd xs s t h
  generalize E1.probe wd xs s=r at q
  generalize E2.probe wd xs t=r2 at q
  obtain⟨r,s1⟩:=r
  obtain⟨r2,t1⟩:=r2
  obtain⟨q1,q2⟩:=q
  simp only at q1 q2
  subst q1
  cases r with
  | val n=>exact⟨rfl,q2⟩
  | fail=>exact⟨rfl,q2⟩
  | pan n=>exact⟨rfl,q2⟩
theorem zO6 {E1:Env σ}{E2:Env τ}{R:σ→τ→Prop}{D:ByteArray→Int→Prop}{L1:ByteArray→ByteArray→Int→σ→Found × σ}{L2:ByteArray→ByteArray→Int→τ→Found × τ}(h1:E1.look=some L1)(h2:E2.look=some L2)
  (hl:∀ a b n,isMeasure a=true→D b n→∀ s t,R s t→(L1 a b n s).1=(L2 a b n t).1∧R (L1 a b n s).2 (L2 a b n t).2) (hp:∀ nm xs s t,R s t→(E1.probe nm xs s).1=(E2.probe nm xs t).1∧R (E1.probe nm xs s).2 (E2.probe nm xs t).2):
  ∀ us,zB8 us→(∀ q∈zAY us,D q.1 q.2)→∀ {k1:List Int→σ→Res × σ} {k2:List Int→τ→Res × τ},(∀ xs s t,R s t→(k1 xs s).1=(k2 xs t).1∧R (k1 xs s).2 (k2 xs t).2)→∀ s t,R s t→(zC3 (zDU E1 us) k1 s).1=(zC3 (zDU E2 us) k2 t).1∧R (zC3 (zDU E1 us) k1 s).2 (zC3 (zDU E2 us) k2 t).2
 | [],_,_,k1,k2,hk,s,t,h=>by simp only[zDU,zC3];exact hk [] s t h
 | u :: us,hf,hd,k1,k2,hk,s,t,h=>by
  unfold zB8 at hf
  simp only[zDU,zC3]
  exact zEI (zIL h1 h2 hl hp u hf.1 fun q hq=>hd q (by simp[zAY,hq])) (fun x s t h=>zO6 h1 h2 hl hp us hf.2 (fun q hq=>hd q (by simp[zAY,hq])) (fun xs s t h=>hk (x :: xs) s t h) s t h) s t h
end
end
abbrev Fed := ByteArray→List (Int × Int)
structure TS (sp:List (ByteArray × Int)) (S:Fed) (now:Int) (T:WT):Prop where
 up:∀ q∈sp,Win.Up (S q.1)
 le:∀ q∈sp,Win.AllLe (T q.1 q.2).1 (S q.1)
 time:∀ q∈sp,(T q.1 q.2).1≤now
 kept:∀ q∈sp,(T q.1 q.2).2=Win.keptR q.2 (T q.1 q.2).1 (S q.1)
theorem TS.look {sp:List (ByteArray × Int)}{S:Fed}{k:Ctl}{T:WT}(h:TS sp S k.time T)(kind metric:ByteArray)(n:Int):TS sp S k.time (zGU k kind metric n T).2:=by
 unfold zGU
 simp only
 have at_:∀ q:ByteArray × Int,q∈sp→q.1=metric∧q.2=n→zFG T metric n k.time q.1 q.2=(k.time,Win.keptR q.2 k.time (S q.1)):=fun q hq e=>by
  unfold zFG
  rw[if_pos e,←e.1,←e.2,h.kept q hq,Win.trim_advance (h.up q hq) (h.time q hq)]
 have no:∀ q:ByteArray × Int,¬ (q.1=metric∧q.2=n)→zFG T metric n k.time q.1 q.2=T q.1 q.2:=fun q e=>by
  unfold zFG
  rw[if_neg e]
 refine⟨h.up,fun q hq=>?_,fun q hq=>?_,fun q hq=>?_⟩
 ·by_cases e:q.1=metric∧q.2=n
  ·rw[at_ q hq e]
   exact fun x hx=>Int.le_trans (h.le q hq x hx) (h.time q hq)
  ·rw[no q e]
   exact h.le q hq
 ·by_cases e:q.1=metric∧q.2=n
  ·rw[at_ q hq e]
   exact Int.le_refl _
  ·rw[no q e]
   exact h.time q hq
 ·by_cases e:q.1=metric∧q.2=n
  ·rw[at_ q hq e]
  ·rw[no q e]
   exact h.kept q hq
def zFM (S:Fed)(name:ByteArray)(v t:Int):Fed:=fun s=>if s=name then S s ++ [(t,v)] else S s
theorem TS.feed {sp:List (ByteArray × Int)}{S:Fed}{k:Ctl}{T:WT}(h:TS sp S k.time T){name:ByteArray}(v:Int){t:Int}(ht:k.time≤t):TS sp (zFM S name v t) t (fun s n=>if s=name then(t,Win.trim n t ((T s n).2 ++ [(t,v)])) else T s n):=by
 refine⟨fun q hq=>?_,fun q hq=>?_,fun q hq=>?_,fun q hq=>?_⟩
 ·unfold zFM
  split
  ·exact(h.up q hq).snoc fun x hx=>by have:=h.le q hq x hx;have:=h.time q hq;simp only;omega
  ·exact h.up q hq
 ·simp only[zFM]
  split
  ·intro x hx
   rcases List.mem_append.1 hx with hx | hx
   ·have:=h.le q hq x hx
    have:=h.time q hq
    simp only
    omega
   ·rw[List.mem_singleton.1 hx]
    exact Int.le_refl _
  ·exact h.le q hq
 ·split
  ·exact Int.le_refl _
  ·have:=h.time q hq
   omega
 ·simp only[zFM]
  split
  ·simp only
   rw[h.kept q hq]
   exact Win.trim_push (h.up q hq) (h.le q hq) (by have:=h.time q hq;omega)
  ·exact h.kept q hq
theorem TS.fresh (sp:List (ByteArray × Int))(now:Int)(hn:-9223372036854775808≤now):TS sp (fun _=>[]) now (fun _ _=>(-9223372036854775808,[])):=
 ⟨fun _ _=>trivial,fun _ _ x hx=>(by cases hx),fun _ _=>hn,fun _ _=>rfl⟩
def zE1 (S:Fed)(now:Int)(kind metric:ByteArray)(n:Int):Int × Int:=((zBJ kind (Win.keptR n now (S metric))).1,if (zBJ kind (Win.keptR n now (S metric))).2=true then 0 else 9)
abbrev zAC : ByteArray→List Int→WT→PFound × WT:=fun nm xs s=>(zEX (zB3 nm xs),s)
theorem ev_same {u:Tree}(hf:Fit u){sp:List (ByteArray × Int)}(hsp:∀ q∈zA5 u,q∈sp){S:Fed}{k:Ctl}{T:WT}(h:TS sp S k.time T)(tr:ByteArray):(ev ⟨some (zGU k),zAC⟩ u T).1=(ev (zD3 (zE1 S k.time)) u tr).1∧TS sp S k.time (ev ⟨some (zGU k),zAC⟩ u T).2:=by
 refine zIL (E1:=⟨some (zGU k),zAC⟩) (E2:=zD3 (zE1 S k.time)) (R:=fun T _=>TS sp S k.time T) (D:=fun s n=>(s,n)∈sp) rfl rfl (fun a b n _ hd T tr hR=>⟨?_,hR.look a b n⟩) (fun nm xs T tr hR=>⟨rfl,hR⟩) u hf hsp T tr h
 have e:Win.trim n k.time (T b n).2=Win.keptR n k.time (S b):=by
  have h1:=hR.kept (b,n) hd
  have h2:=hR.time (b,n) hd
  simp only at h1 h2
  rw[h1,Win.trim_advance (hR.up (b,n) hd) h2]
 show (if (zBJ a (Win.trim n k.time (T b n).2)).2=true then Found.num _ else Found.nothing _)=zF1 (zE1 S k.time a b n)
 rw[e]
 unfold zE1 zF1
 generalize zBJ a (Win.keptR n k.time (S b))=z
 obtain⟨z,b⟩:=z
 cases b <;> simp
set_option maxRecDepth 1000000 in
set_option maxHeartbeats 2000000 in
theorem zNP {b1 b2 N:Nat}{nm:ByteArray}{xs:List Int}{v:Value}{w:World}(h1:One w b1 (.pointer none) 171)(h2:One w b2 (.string nm) 9)(hx:∀ x∈xs,In64 x)(hl:xs.length≤900)(ho:w.ownsRow N 2 1 v xs.length (ints xs)):
  Calls Tryz.prog 114 #[v,ptr b1,ptr b2] w fun e w'=>KeepX (fun k=>v.ownBlock=some k) w w'∧ProbeE (zEX (zB3 nm xs)) e:=by
 obtain⟨ao,cp,rfl⟩:=zAI ho
 have d1:w.cell? ⟨b1,0,none⟩=some (.pointer none):=zA0 h1 rfl
 have d2:w.cell? ⟨b2,0,none⟩=some (.string nm):=zA0 h2 rfl
 have HO:Hid (w.ownsRow N 2 1 (.slice ao xs.length cp) xs.length (ints xs)):=ho
 have he:=zMY nm xs
 obtain⟨a,c,hz⟩:∃ a c,zB3 nm xs=(a,c):=⟨_,_,rfl⟩
 have hp:=zPB nm hx hl ho
 rw[hz] at he hp ⊢
 simp only at he hp
 clear h1 h2 ho
 go_enter Tryz.func114,Tryz.ntmps114
 go_wp2_with fail
 refine hp.mono ?_
 rintro e w' ⟨rfl,hw⟩
 have hw:=hw.symm
 subst hw
 go_wp2_with fail
 go_loopw [35] (fun v35 wr=>∃ i:Nat,v35=.int .i64 i∧i≤xs.length∧Hid (Spoil (fun k=>(Value.slice ao xs.length cp).ownBlock=some k) xs.length ao w wr)) (fun v35 _=>xs.length - (intOf v35).toNat)
 case atStart=>exact⟨0,rfl,Nat.zero_le _,zP1 HO.out⟩
 case round=>
  obtain⟨i,rfl,hi,HI⟩:=hrel
  rcases Nat.lt_or_ge i xs.length with h8 | h8
  ·have h9:(i:Int)<xs.length:=by omega
   obtain⟨g,cur,rfl,hX,hg,hcs⟩:=HI.out.row.resolve_left (by omega)
   have ci:wr.cell? ⟨g,i,none⟩=some (cur[i]'(by omega)):=zA0 hg (by simp)
   have zi:wr.frozen? ⟨g,i,none⟩=false:=zA1 hg
   clear hg
   go_wp2
   go_roundw
   case rel=>exact⟨i+1,by go_num,by omega,HI.out.set hX i _⟩
   case measure=>simp[intOf];omega
  ·have h9:¬ (i:Int)<xs.length:=by omega
   clear hp
   rcases he with rfl | rfl | rfl
   ·go_wp2
    go_ret2
    exact⟨HI.out.keep,rfl⟩
   ·go_wp2
    go_ret2
    exact⟨HI.out.keep.below ((Below.refl _ _).alloc (Nat.le_refl _) _),_,_,rfl⟩
   ·go_wp2
    exact⟨rfl,HI.out.keep,rfl⟩
theorem SC.spoilt {w1:World}{c m:Nat}{pv:Value}{k:Ctl}{sp:List (ByteArray × Int)}{I:ByteArray→Nat}{b0:ByteArray→Int→WSt}{T:WT}{w w':World}(h:SC w1 c m pv k sp I b0 T w){v:Value}{n:Nat}{xs:List Value}(ho:w.ownsRow w1.heap.size 2 1 v n xs)(hk:KeepX (fun g=>v.ownBlock=some g) w w'):SC w1 c m pv k sp I b0 T w':=by
 obtain⟨st,hw,hst⟩:=h.wins
 have hap:=zF7 h.ctl hw
 have hg:∀ g,v.ownBlock=some g→∃ cs,w.heap[g]?=some (.cells cs 2 (0,0)):=fun g q=>by
  rcases ho.2 with⟨rfl,-⟩ | ⟨g2,cap,cur,rfl,-,h3,-⟩
  ·cases q
  ·injection q with q
   subst q
   exact⟨_,h3⟩
 have no:∀ b,(b=m∨∃ q∈sp,b=I q.1∨Mine (st q.1 q.2) b)→¬ v.ownBlock=some b:=fun b hb hv=>by
  obtain⟨cs,e⟩:=hg b hv
  rcases hb with rfl | ⟨q,hq,rfl | hm⟩
  ·obtain⟨F',hF',-⟩:=hw.outer
   obtain⟨es,cl,he⟩:=hF'.isMap
   rw[he] at e
   cases e
  ·obtain⟨F',hF',-⟩:=hw.inner q hq
   obtain⟨es,cl,he⟩:=hF'.isMap
   rw[he] at e
   cases e
  ·exact zF9 h.ctl hw e (by unfold Calm;decide) (.inr ⟨q,hq,hm⟩)
 have nc:¬ v.ownBlock=some c:=fun q=>by
  obtain⟨cs,e⟩:=hg c q
  exact zF9 h.ctl hw e (by unfold Calm;decide) (.inl rfl)
 refine⟨⟨hk.os.trans h.keep.os,hk.tape.trans h.keep.tape,hk.output.trans h.keep.output,Nat.le_trans h.keep.size hk.size,fun b lt nx=>(hk.block b (Nat.lt_of_lt_of_le lt h.keep.size) (fun q=>by have:=(ho.lt _ q).1;omega)).trans (h.keep.block b lt nx)⟩,(hk.block c (zA2 h.ctl) nc).trans h.ctl,⟨st,hw.moves fun b hb=>hk.block b (hap.2 b hb).1 (no b hb),hst⟩,h.time,h.vals⟩
theorem probe_nil {w1:World}{c m:Nat}{pv:Value}{k:Ctl}{sp:List (ByteArray × Int)}{I:ByteArray→Nat}{st:ByteArray→Int→WSt}{b1 b2:Nat}{nm:ByteArray}(h1:One w1 b1 (.pointer none) 171)(h2:One w1 b2 (.string nm) 9)(n1:¬ OfW sp st b1)(n2:¬ OfW sp st b2):
  zIZ (fun _=>SC w1 c m pv k sp I st) (OfW sp st) w1.heap.size (.func (.func 114) #[] #[ptr b1,ptr b2]) (fun xs T=>(zEX (zB3 nm xs),T)):=by
 refine⟨_,#[ptr b1,ptr b2],rfl,fun args w=>by simp,fun _ xs v T w hx hl ho hs=>?_⟩
 show Calls _ _ #[v,ptr b1,ptr b2] _ _
 refine(zNP ((hs.keep.block b1 (zA2 h1) n1).trans h1) ((hs.keep.block b2 (zA2 h2) n2).trans h2) hx hl ho).mono ?_
 rintro e w' ⟨hk,he⟩
 refine⟨⟨hk.os,hk.tape,hk.output,hk.size,fun b lt nx=>hk.block b lt fun q=>nx (.inr q)⟩,?_⟩
 have hs':=hs.spoilt ho hk
 show ProbeR (SC w1 c m pv k sp I st) (zEX (zB3 nm xs),T) w' e
 have hin:=zQV nm hx hl
 have hq:=zMY nm xs
 generalize zB3 nm xs=z at he hin hq ⊢
 obtain⟨a,b⟩:=z
 simp only at hq hin
 rcases hq with rfl | rfl | rfl
 ·exact⟨he,hin,hs'⟩
 ·exact⟨he,hs'⟩
 ·exact⟨he,hs'⟩
end Go.Proofs.YtbokdbaagacnlaaGreatDoor
