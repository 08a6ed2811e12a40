import Derived.Test.YtbokdbaagacnlaaGreatDoorJQ39
import Derived.Test.YtbokdbaagacnlaaGreatDoorJQ38
namespace Go.Proofs.YtbokdbaagacnlaaGreatDoor
open Go.RowKit Go.Lib
section
variable {w1 w0:World} {R:Nat} {cv:Value} {seed T:Int} {M:ByteArray→ByteArray→Int→Int × Int}
set_option maxRecDepth 1000000 in
set_option maxHeartbeats 2000000 in
theorem refrun_ite {a1 a2 p:Nat}{v v1 v2 v3:Value}{m1 m2 m3:ByteArray→Res × ByteArray}(hR:R<w0.heap.size)(h:zCO (fun b=>b≠R) w0 v 63 p 0 zAK zAK [v1,v2,v3])(h1:zFB w1 R cv seed T a1 v1 m1 w0)(h2:zFB w1 R cv seed T a2 v2 m2 w0)(h3:zFB w1 R cv seed T a2 v3 m3 w0):
  zFB w1 R cv seed T (a1+a2) v (zBI m1 fun n s=>if n≠0 then m2 s else m3 s) w0:=by
 obtain⟨b,pv,rfl,hb,hblk,hparts⟩:=h
 obtain⟨ao,cp,rfl,hat⟩:=hparts.at
 intro kf tr w hk hs
 have hblk:=hk.heap hblk hb
 have lw:w0.heap.size≤w.heap.size:=hk.size
 obtain⟨q,cur,rfl,hqR,hq1,hq2⟩:=hat 0 v1 rfl
 obtain⟨q',cur',e1,-,hq1',hq2'⟩:=hat 1 v2 rfl
 injection e1 with e1
 injection e1 with e1
 subst e1
 rw[hq1] at hq1'
 injection hq1' with hq1'
 injection hq1' with hq1'
 subst hq1'
 obtain⟨q',cur',e1,-,hq1',hq3'⟩:=hat 2 v3 rfl
 injection e1 with e1
 injection e1 with e1
 subst e1
 rw[hq1] at hq1'
 injection hq1' with hq1'
 injection hq1' with hq1'
 subst hq1'
 have hqw:=hk.heap hq1 hqR
 have c0:w.cell? ⟨b,0,none⟩=some (.int .u8 63):=zA0 hblk rfl
 have c5:w.cell? ⟨b,5,none⟩=some (.slice (some ⟨q,0,none⟩) 3 cp):=zA0 hblk rfl
 have d0:w.cell? ⟨q,0,none⟩=some v1:=zA0 hqw hq2
 have lb:=zA2 hblk
 have lq:=zA2 hqw
 have HB:Hid _:=And.intro hblk (And.intro hqw (And.intro hq2' hq3'))
 have bx:Below w.heap.size w (w.alloc (.cells #[.int .i64 0,.int .i64 0,.int .i64 0,.int .i64 0] 43)):=(Below.refl _ _).alloc (Nat.le_refl _) _
 have hst:SR w1 R cv seed T (kf+a2+a1) tr (w.alloc (.cells #[.int .i64 0,.int .i64 0,.int .i64 0,.int .i64 0] 43)):=by
  rw[show kf+a2+a1=kf+(a1+a2) by omega]
  exact hs.below bx
 have hc:=h1 (kf+a2) tr _ (hk.trans (.of_below bx)) hst
 have HH:Hid _:=And.intro h2 (And.intro h3 hk)
 have K01:Hid (Keep R w1 w):=hs.1
 have hRw:R<w.heap.size:=by omega
 clear hst bx hs hk h1 h2 h3 hblk hqw hq1 hq2 hat hparts hq2' hq3'
 generalize hM:m1 tr=r1 at hc
 obtain⟨r,t2⟩:=r1
 have HM:Hid (m1 tr=(r,t2)):=hM
 clear hM
 unfold valV at hc
 simp only at hc
 cases r with
 | held q9 y=>
  have hE:(resE (.held q9 y) != 0)=true:=by cases y <;> rfl
  obtain⟨E,HE⟩:∃ E,Hid (resE (.held q9 y)=E):=⟨_,rfl⟩
  obtain⟨F,HF⟩:∃ F,Hid (resM (.held q9 y)=F):=⟨_,rfl⟩
  rw[HE.out] at hc hE
  rw[HF.out] at hc
  simp only[resN,resP] at hc
  go_enter Tryz.func25,Tryz.ntmps25
  go_wp2_with fail
  refine hc.mono ?_
  rintro e w7 ⟨hk7,rfl,hs7,hin7⟩
  have b2:=(hk7.block _ (by simp) (by omega)).trans (heap_alloc_new _ _)
  have rc0:=zA0 (i:=0) (v:=.int .i64 0) b2 rfl
  have rc1:=zA0 (i:=1) (v:=.int .i64 0) b2 rfl
  have rc2:=zA0 (i:=2) (v:=.int .i64 0) b2 rfl
  have rc3:=zA0 (i:=3) (v:=.int .i64 0) b2 rfl
  have rz0:=zA1 (i:=0) b2
  have rz1:=zA1 (i:=1) b2
  have rz2:=zA1 (i:=2) b2
  have rz3:=zA1 (i:=3) b2
  have l7:=zA2 b2
  have H7:Hid _:=And.intro (((Keep.refl R w).alloc _).trans hk7) hs7
  clear b2 hk7 hs7 hin7 hc
  go_wp2
  refine bodyPost_ret (v:=valV (.held q9 y)) (by simp[valV,resN,resP,HE.out,HF.out,results,Tryz.results25,go_sem,rc0,rc1,rc2,rc3,l7]) rfl ?_
  rw[zG9 HM.out]
  have q:=set4 H7.out.1 H7.out.2.2.1 hRw (.int .i64 0) (.int .i64 E) (.int .i64 q9) (.int .i64 F)
  exact⟨q.1.alloc _,rfl,⟨K01.out.trans (q.1.alloc _),zA3 q.2,by have:=H7.out.2.2.2;simp only;omega⟩,by unfold In64;simp[resN]⟩
 | val x=>
  simp only[resN,resE,resP,resM] at hc
  go_enter Tryz.func25,Tryz.ntmps25
  go_wp2_with fail
  refine hc.mono ?_
  rintro e w7 ⟨hk7,rfl,hs7,hin7⟩
  have hk07:Keep R w w7:=((Keep.refl R w).alloc _).trans hk7
  have b2:w7.heap[w.heap.size]?=some (.cells #[.int .i64 0,.int .i64 0,.int .i64 0,.int .i64 0] 43 (0,0)):=(hk7.block _ (by simp) (by omega)).trans (heap_alloc_new _ _)
  have c57:w7.cell? ⟨b,5,none⟩=some (.slice (some ⟨q,0,none⟩) 3 cp):=zA0 (hk07.heap HB.out.1 hb) rfl
  have d17:w7.cell? ⟨q,1,none⟩=some v2:=zA0 (hk07.heap HB.out.2.1 hqR) HB.out.2.2.1
  have d27:w7.cell? ⟨q,2,none⟩=some v3:=zA0 (hk07.heap HB.out.2.1 hqR) HB.out.2.2.2
  have lb7:b<w7.heap.size:=by have:=hk07.size;omega
  have lq7:q<w7.heap.size:=by have:=hk07.size;omega
  have lw7:w.heap.size<w7.heap.size:=zA2 b2
  have H7:Hid (Keep R w w7∧SR w1 R cv seed T (kf+a2) t2 w7∧w7.heap[w.heap.size]?=some (.cells #[.int .i64 0,.int .i64 0,.int .i64 0,.int .i64 0] 43 (0,0))):=⟨hk07,hs7,b2⟩
  clear b2 hk7 hs7 hin7 hc hk07
  by_cases h0:x=0
  ·subst h0
   have hc2:=HH.out.2.1 kf t2 (w7.alloc (.cells #[.int .i64 0,.int .i64 0,.int .i64 0,.int .i64 0] 43)) (HH.out.2.2.trans (H7.out.1.alloc _)) (H7.out.2.1.below ((Below.refl _ _).alloc (Nat.le_refl _) _))
   have HE:Hid (zBI m1 (fun n s=>if n≠0 then m2 s else m3 s) tr=m3 t2):=by
    show zBI m1 _ tr=_
    rw[zFY HM.out]
    simp
   generalize m3 t2=r2 at *
   obtain⟨r2,t3⟩:=r2
   unfold valV at hc2
   simp only at hc2
   go_wp2_with fail
   refine hc2.mono ?_
   rintro e w8 ⟨hk8,rfl,hs8,hin8⟩
   have b2:=(hk8.block _ (by simp;omega) (by omega)).trans (zA3 H7.out.2.2)
   have rc0:=zA0 (i:=0) (v:=.int .i64 0) b2 rfl
   have rc1:=zA0 (i:=1) (v:=.int .i64 0) b2 rfl
   have rc2:=zA0 (i:=2) (v:=.int .i64 0) b2 rfl
   have rc3:=zA0 (i:=3) (v:=.int .i64 0) b2 rfl
   have rz0:=zA1 (i:=0) b2
   have rz1:=zA1 (i:=1) b2
   have rz2:=zA1 (i:=2) b2
   have rz3:=zA1 (i:=3) b2
   have l7:=zA2 b2
   have H8:Hid _:=And.intro ((H7.out.1.alloc _).trans hk8) (And.intro hs8 hin8)
   clear b2 hk8 hs8 hin8 hc2
   go_wp2
   refine bodyPost_ret (v:=valV r2) (by simp[valV,results,Tryz.results25,go_sem,rc0,rc1,rc2,rc3]) rfl ?_
   rw[HE.out]
   have q:=set4 H8.out.1 H8.out.2.1.2.1 hRw (.int .i64 (resN r2)) (.int .i64 (resE r2)) (.int .i64 (resP r2)) (.int .i64 (resM r2))
   exact⟨q.1,rfl,⟨K01.out.trans q.1,q.2,H8.out.2.1.2.2⟩,H8.out.2.2⟩
  ·have e0:(x != 0)=true:=by rw[bne_iff_ne];exact h0
   have hc2:=HH.out.1 kf t2 (w7.alloc (.cells #[.int .i64 x,.int .i64 0,.int .i64 0,.int .i64 0] 43)) (HH.out.2.2.trans (H7.out.1.alloc _)) (H7.out.2.1.below ((Below.refl _ _).alloc (Nat.le_refl _) _))
   have HE:Hid (zBI m1 (fun n s=>if n≠0 then m2 s else m3 s) tr=m2 t2):=by
    show zBI m1 _ tr=_
    rw[zFY HM.out]
    simp[h0]
   generalize m2 t2=r2 at *
   obtain⟨r2,t3⟩:=r2
   unfold valV at hc2
   simp only at hc2
   go_wp2_with fail
   refine hc2.mono ?_
   rintro e w8 ⟨hk8,rfl,hs8,hin8⟩
   have b2:=(hk8.block _ (by simp;omega) (by omega)).trans (zA3 H7.out.2.2)
   have rc0:=zA0 (i:=0) (v:=.int .i64 0) b2 rfl
   have rc1:=zA0 (i:=1) (v:=.int .i64 0) b2 rfl
   have rc2:=zA0 (i:=2) (v:=.int .i64 0) b2 rfl
   have rc3:=zA0 (i:=3) (v:=.int .i64 0) b2 rfl
   have rz0:=zA1 (i:=0) b2
   have rz1:=zA1 (i:=1) b2
   have rz2:=zA1 (i:=2) b2
   have rz3:=zA1 (i:=3) b2
   have l7:=zA2 b2
   have H8:Hid _:=And.intro ((H7.out.1.alloc _).trans hk8) (And.intro hs8 hin8)
   clear b2 hk8 hs8 hin8 hc2
   go_wp2
   refine bodyPost_ret (v:=valV r2) (by simp[valV,results,Tryz.results25,go_sem,rc0,rc1,rc2,rc3]) rfl ?_
   rw[HE.out]
   have q:=set4 H8.out.1 H8.out.2.1.2.1 hRw (.int .i64 (resN r2)) (.int .i64 (resE r2)) (.int .i64 (resP r2)) (.int .i64 (resM r2))
   exact⟨q.1,rfl,⟨K01.out.trans q.1,q.2,H8.out.2.1.2.2⟩,H8.out.2.2⟩
structure MeasOk (w1:World) (R:Nat) (cv:Value) (seed T:Int) (M:ByteArray→ByteArray→Int→Int × Int):Prop where
 tells:MeasF w1 R cv seed T M
 err:∀ kind metric n,(M kind metric n).2=0∨(M kind metric n).2=9∨(M kind metric n).2=11
 i64:∀ kind metric n,In64 (M kind metric n).1
theorem onAll_one (m:ByteArray→Res × ByteArray)(p:Nat):zC3 [m] (zCM 126 p zAK)=zBI m fun n s=>(.val (clip (-n)),s):=by
 funext s
 simp only[zC3,zBI,zCM]
 rfl
theorem onAll_two {k:Nat}(h:k≠112)(m1 m2:ByteArray→Res × ByteArray)(p:Nat):zC3 [m1,m2] (zCM k p zAK)=if k=47 then zF4 m1 m2 fun x y s=>(if y=0 then .held p .divide else .val (quot x y),s) else zF4 m1 m2 fun x y s=>(.val (reck k x y),s):=by
 funext s
 by_cases hk:k=47
 ·subst hk
  simp only[zC3,zF4,zBI,zCM]
  rfl
 ·simp only[zC3,zF4,zBI,zCM,if_neg hk,if_neg h]
theorem zAJ.length {P:Nat→Prop}{w:World}:∀ {ts:List Tree} {vs:List Value},zAJ P w ts vs→vs.length=ts.length
 | [],vs,h=>by unfold zAJ at h;subst h;rfl
 | t :: ts,vs,h=>by
  unfold zAJ at h
  obtain⟨v,vs',rfl,-,h2⟩:=h
  simp[zAJ.length h2]
theorem zNE : ∀ ts:List Tree,(ts.map size).sum=zCS ts
 | []=>by simp[zCS]
 | t :: ts=>by simp[zCS,zNE ts]
mutual
theorem zEW (hM:MeasOk w1 R cv seed T M)(hR:R<w0.heap.size):∀ (t:Tree) (v:Value),Fit t→zA9 (fun b=>b≠R) w0 t v→zFB w1 R cv seed T (size t) v (ev (zD3 M) t) w0
 | .num p n,v,hf,hv=>by
  unfold zA9 at hv
  unfold Fit at hf
  simp only[ev]
  exact(refrun_num (by unfold In64;omega) hv).more (Nat.zero_le _)
 | .neg p a,v,hf,hv=>by
  unfold zA9 at hv
  unfold Fit at hf
  obtain⟨va,h1,h2⟩:=hv
  have ra:=zEW hM hR a va hf h2
  have hr:=zGR (ms:=[ev (zD3 M) a]) (cs:=[size a]) hR h1 (by decide) (.inr (.inl ⟨rfl,rfl⟩)) rfl rfl (by simp) (fun i v m c h3 h4 h5=>by
   match i,h3,h4,h5 with
   | 0,h3,h4,h5=>
    simp at h3 h4 h5
    subst h3 h4 h5
    exact ra)
  rw[onAll_one] at hr
  simp only[ev]
  exact hr.more (by simp[size])
 | .bin k p a c,v,hf,hv=>by
  unfold zA9 at hv
  unfold Fit at hf
  obtain⟨va,vc,h1,h2,h3⟩:=hv
  have ra:=zEW hM hR a va hf.2.2.1 h2
  have rc:=zEW hM hR c vc hf.2.2.2 h3
  have hk:k=47∨k=43∨k=45∨k=42∨k=60∨k=62∨k=61:=by
   rcases hf.1 with h | h
   ·exact .inr (zIJ h)
   ·exact .inl h
  have hr:=zGR (ms:=[ev (zD3 M) a,ev (zD3 M) c]) (cs:=[size a,size c]) hR h1 (by decide) (.inr (.inr ⟨rfl,hk⟩)) rfl rfl (by simp) (fun i v m e h4 h5 h6=>by
   match i,h4,h5,h6 with
   | 0,h4,h5,h6=>
    simp at h4 h5 h6
    subst h4 h5 h6
    exact ra
   | 1,h4,h5,h6=>
    simp at h4 h5 h6
    subst h4 h5 h6
    exact rc)
  rw[onAll_two (by omega)] at hr
  simp only[ev]
  exact hr.more (by simp[size])
 | .ite p a c d,v,hf,hv=>by
  unfold zA9 at hv
  unfold Fit at hf
  obtain⟨va,vb,vc,h1,h2,h3,h4⟩:=hv
  have ra:=zEW hM hR a va hf.1 h2
  have rb:=zEW hM hR c vb hf.2.1 h3
  have rc:=zEW hM hR d vc hf.2.2 h4
  simp only[ev]
  exact(refrun_ite (a2:=size c+size d) hR h1 ra (rb.more (by omega)) (rc.more (by omega))).more (by simp[size];omega)
 | .meas p wd m n,v,hf,hv=>by
  unfold zA9 at hv
  unfold Fit at hf
  simp only[ev]
  exact(zP3 hM.tells hM.err hM.i64 (by omega) (by omega) (by omega) (by omega) hf.2.2.2.1 hv).more (by simp[size])
 | .probe p wd ts,v,hf,hv=>by
  unfold zA9 at hv
  unfold Fit at hf
  obtain⟨vs,h1,h2⟩:=hv
  have hlen:=h2.length
  have rs:=zNH hM hR ts vs hf.2.2.2.2.2 h2
  have hr:=zGR (ms:=zDU (zD3 M) ts) (cs:=ts.map size) hR h1 (by omega) (.inl rfl) (by rw[zG1,hlen]) (by rw[List.length_map,hlen]) (by omega) rs
  have e:zC3 (zDU (zD3 M) ts) (zCM 112 p wd)=ev (zD3 M) (.probe p wd ts):=by
   simp only[ev]
   congr 1
   funext xs s
   show _=zIF p (zEX (zB3 wd xs),zEC s wd)
   rw[probed_of (zMY wd xs)]
   unfold zCM
   rw[if_pos rfl]
  rw[e] at hr
  exact hr.more (by rw[zNE];simp[size])
theorem zNH (hM:MeasOk w1 R cv seed T M)(hR:R<w0.heap.size):∀ (ts:List Tree) (vs:List Value),zB8 ts→zAJ (fun b=>b≠R) w0 ts vs→∀ (i:Nat) (v:Value) (m:ByteArray→Res × ByteArray) (c:Nat),vs[i]?=some v→(zDU (zD3 M) ts)[i]?=some m→(ts.map size)[i]?=some c→zFB w1 R cv seed T c v m w0
 | [],vs,_,hv=>by
  unfold zAJ at hv
  subst hv
  intro i v m c h
  simp at h
 | t :: ts,vs,hf,hv=>by
  unfold zAJ at hv
  unfold zB8 at hf
  obtain⟨v0,vs',rfl,h1,h2⟩:=hv
  have r0:=zEW hM hR t v0 hf.1 h1
  have rs:=zNH hM hR ts vs' hf.2 h2
  intro i v m c hi hm hc
  cases i with
  | zero=>
   simp[zDU] at hi hm hc
   subst hi hm hc
   exact r0
  | succ i=>exact rs i v m c (by simpa using hi) (by simpa[zDU] using hm) (by simpa using hc)
end
end
end Go.Proofs.YtbokdbaagacnlaaGreatDoor
namespace Go.Proofs.YtbokdbaagacnlaaGreatDoor
open Go.RowKit Go.Lib Go.Shelf
section
variable {r:Nat} {rv:Value} {k:Ctl} {ms:List ByteArray} {S:Fed} {g:Nat→Nat} {lv:Nat→Value} {av:Value}
theorem RefC.keep {w w':World}(h:RefC w r rv k ms S g lv av){R:Nat}{cs:Array Value}{T:TypeId}{fr:Nat × Nat}(hR:w.heap[R]?=some (.cells cs T fr))(hT:T≠78∧T≠118∧T≠135∧T≠115)(hk:Keep R w w'):RefC w' r rv k ms S g lv av:=by
 have mv:∀ {b:Nat} {cs2:Array Value} {T2:TypeId},w.heap[b]?=some (Obj.cells cs2 T2 (0,0))→T2≠T→w'.heap[b]?=w.heap[b]?:=fun {b cs2 T2} hb ht=>hk.block b (zA2 hb) fun e=>by
  rw[e,hR] at hb
  injection hb with hb
  injection hb with _ hb
  exact ht hb.symm
 have ow:∀ {base e size n:Nat} {v:Value} {xs:List Value},w.ownsRow base e size v n xs→e≠T→w'.ownsRow base e size v n xs:=fun {base e size n v xs} ho ht=>zA7 ho fun b hb=>by
  rcases ho.2 with⟨rfl,-⟩ | ⟨g2,cap,cur,rfl,-,h3,-⟩
  ·cases hb
  ·injection hb with hb
   subst hb
   exact mv h3 ht
 exact⟨(mv h.blk (Ne.symm hT.1)).trans h.blk,ow h.row (Ne.symm hT.2.2.2),fun i s hs=>(mv (h.ser i s hs) (Ne.symm hT.2.1)).trans (h.ser i s hs),fun i s hs=>ow (h.own i s hs) (Ne.symm hT.2.2.1),h.nodup,h.few,h.fit,h.apart⟩
theorem worldR_set {w:World}{R:Nat}{cv:Value}{seed T:Int}{tr:ByteArray}(hW:zCE w R cv seed T tr)(X:ByteArray)(o:Obj):zCE ((w.setCell ⟨R,3,none⟩ (.string X)).alloc o) R cv seed T X:=zA3 (zA4 (i:=3) hW)
theorem zO2 (w:World)(a:Addr)(v:Value)(cs:Array Value)(T:TypeId):((w.setCell a v).alloc (.cells cs T)).heap[w.heap.size]?=some (.cells cs T (0,0)):=by
 have:=heap_alloc_new (w.setCell a v) (.cells cs T)
 simpa using this
theorem Keep.drew1 {R:Nat}{w w':World}(h:Keep R w w'):Keep R w w'.drew:=⟨h.os,h.tape,h.output,h.size,h.block⟩
set_option maxRecDepth 1000000 in
set_option maxHeartbeats 1000000 in
theorem zM8 {R:Nat}{seed T n:Int}{tr kind metric:ByteArray}{w:World}(h:RefC w r rv k ms S g lv av)(hno:∀ m,m ∉ ms→S m=[])(hW:zCE w R (ptr r) seed T tr)(ht:tr.size≤1000000000)(hk:kind.size<256)(hm:metric.size<256)(hi:isMeasure kind=true)(hn:In64 n)(hT:In64 T):
  Calls Tryz.prog 45 #[ptr R,.string kind,.string metric,.int .i64 n] w fun e w'=>e=.returned (.agg #[.int .i64 (zE1 S T kind metric n).1,.int .i64 (zE1 S T kind metric n).2])∧Keep R w w'∧zCE w' R (ptr r) seed T (zDX tr kind metric):=by
 have hms:∀ W,Keep R w W→Calls Tryz.prog 74 #[ptr r,.string kind,.string metric,.int .i64 n,.int .i64 T] W fun e w'=>e=.returned (.agg #[.int .i64 (zE1 S T kind metric n).1,.int .i64 (zE1 S T kind metric n).2])∧Below W.heap.size W w':=fun W hKW=>zNK (h.keep hW (by decide) hKW) hi (hno metric) hn hT
 generalize zE1 S T kind metric n=mm at hms ⊢
 obtain⟨m1,m2⟩:=mm
 simp only at hms ⊢
 have c0:w.cell? ⟨R,0,none⟩=some (ptr r):=zA0 hW rfl
 have c2:w.cell? ⟨R,2,none⟩=some (.int .i64 T):=zA0 hW rfl
 have c3:w.cell? ⟨R,3,none⟩=some (.string tr):=zA0 hW rfl
 have z3:w.frozen? ⟨R,3,none⟩=false:=zA1 hW
 have lR:=zA2 hW
 have s1:(tr ++ kind).size=tr.size+kind.size:=by simp
 have s2:(tr ++ kind ++ (⟨#[32]⟩:ByteArray)).size=tr.size+kind.size+1:=by simp;rfl
 have s3:(tr ++ kind ++ (⟨#[32]⟩:ByteArray) ++ metric).size=tr.size+kind.size+1+metric.size:=by rw[ByteArray.size_append,s2]
 have hk0:Keep R w ((w.setCell ⟨R,3,none⟩ (.string (tr ++ kind ++ { data:=#[32] } ++ metric ++ { data:=#[59] }))).alloc (.cells #[.int .i64 0,.int .i64 0] 128)):=((Keep.refl R w).setR 3 _).alloc _
 have HMS:Hid (∀ W,Keep R w W→Calls Tryz.prog 74 #[ptr r,.string kind,.string metric,.int .i64 n,.int .i64 T] W fun e w'=>e=.returned (.agg #[.int .i64 m1,.int .i64 m2])∧Below W.heap.size W w'):=hms
 have hWR:zCE ((w.setCell ⟨R,3,none⟩ (.string (tr ++ kind ++ { data:=#[32] } ++ metric ++ { data:=#[59] }))).alloc (.cells #[.int .i64 0,.int .i64 0] 128)) R (ptr r) seed T (tr ++ kind ++ { data:=#[32] } ++ metric ++ { data:=#[59] }):=worldR_set hW _ _
 have hq0:((w.setCell ⟨R,3,none⟩ (.string (tr ++ kind ++ { data:=#[32] } ++ metric ++ { data:=#[59] }))).alloc (.cells #[.int .i64 0,.int .i64 0] 128)).heap[w.heap.size]?=some (.cells #[.int .i64 0,.int .i64 0] 128 (0,0)):=zO2 _ _ _ _ _
 have k0:((w.setCell ⟨R,3,none⟩ (.string (tr ++ kind ++ { data:=#[32] } ++ metric ++ { data:=#[59] }))).alloc (.cells #[.int .i64 0,.int .i64 0] 128)).cell? ⟨R,0,none⟩=some (ptr r):=zA0 hWR rfl
 have k2:((w.setCell ⟨R,3,none⟩ (.string (tr ++ kind ++ { data:=#[32] } ++ metric ++ { data:=#[59] }))).alloc (.cells #[.int .i64 0,.int .i64 0] 128)).cell? ⟨R,2,none⟩=some (.int .i64 T):=zA0 hWR rfl
 have HW:Hid _:=And.intro hk0 (And.intro hWR hq0)
 clear hW hms h hno hk0 hWR hq0
 go_enter Tryz.func45,Tryz.ntmps45
 go_wp2_with fail
 go_region_held3 (fun w'=>w'.cell? ⟨R,0,none⟩=some (ptr r)∧w'.cell? ⟨R,2,none⟩=some (.int .i64 T)) (go_keep)
  (first
   | (go_at_call 74;refine(HMS.out _ HW.out.1.drew1).mono ?_;rintro e w2 ⟨rfl,hb2⟩;have hR2:=(hb2.block R (zA2 HW.out.2.1)).trans HW.out.2.1;have hq2:=(hb2.block _ (zA2 HW.out.2.2)).trans HW.out.2.2;have e0:w2.cell? ⟨R,0,none⟩=some (ptr r):=zA0 hR2 rfl;have e2:w2.cell? ⟨R,2,none⟩=some (.int .i64 T):=zA0 hR2 rfl;have rc0:=zA0 (i:=0) (v:=.int .i64 0) hq2 rfl;have rc1:=zA0 (i:=1) (v:=.int .i64 0) hq2 rfl;have rz0:=zA1 (i:=0) hq2;have rz1:=zA1 (i:=1) hq2;have H2:Hid _:=And.intro hb2 hR2;have lw:w.heap.size≠R:=(by omega);clear hb2 hR2 hq2))
 all_goals
  go_wp2
  refine bodyPost_ret (v:=.agg #[.int .i64 m1,.int .i64 m2]) (by simp[results,Tryz.results45,go_sem,rc0,rc1]) rfl ?_
  refine⟨rfl,?_,?_⟩
  ·refine Keep.setNew (Keep.setNew ?_ (Nat.le_refl _) _) (Nat.le_refl _) _
   have h0:=HW.out.1
   have h1:=H2.out.1
   exact⟨h1.os.trans h0.os,h1.tape.trans h0.tape,h1.output.trans h0.output,Nat.le_trans h0.size h1.size,fun b lt ne=>(h1.block b (Nat.lt_of_lt_of_le lt h0.size)).trans (h0.block b lt ne)⟩
  ·unfold zDX
   exact zA6 (zA6 H2.out.2 (Nat.ne_of_lt lR)) (Nat.ne_of_lt lR)
theorem meas_ref {w1:World}{R:Nat}{seed T:Int}{cs:Array Value}{fr:Nat × Nat}(h:RefC w1 r rv k ms S g lv av)(hno:∀ m,m ∉ ms→S m=[])(hR:w1.heap[R]?=some (.cells cs 82 fr))(hT:In64 T):MeasOk w1 R (ptr r) seed T (zE1 S T):=by
 refine⟨fun tr kind metric n w hk hW ht h1 h2 h3 h4 h5=>zM8 (h.keep hR (by decide) hk) hno hW ht h1 h2 h3 (by unfold In64;omega) hT,fun kind metric n=>?_,fun kind metric n=>?_⟩
 ·unfold zE1
  simp only
  split
  ·exact .inl rfl
  ·exact .inr (.inl rfl)
 ·refine meas_in kind (Win.keptR_length _) fun x hx=>?_
  by_cases hm:metric∈ms
  ·exact((h.fit metric hm).1 x (zJB hx)).2
  ·have:=zJB hx
   rw[hno metric hm] at this
   cases this
end
def Ctl.tickR (k:Ctl)(t:Tree)(S:Fed)(tm:Int):DErr × Ctl:=
 if tm<k.time then(.stale,k)
 else match (ev (zD3 (zE1 S tm)) t zAK).1 with
  | .val n=>(if (({ k with time:=tm }:Ctl).approach (Min.min (Max.max n k.min) k.max) tm).1=true then .cooling else .fine,(({ k with time:=tm }:Ctl).approach (Min.min (Max.max n k.min) k.max) tm).2)
  | .held p y=>(.held p y,{ k with time:=tm })
theorem zK8 {k:Ctl}{t:Tree}(hf:Fit t){sp:List (ByteArray × Int)}(hsp:∀ q∈zA5 t,q∈sp){S:Fed}{T:WT}(h:TS sp S k.time T){tm:Int}:
  (k.decide zAC t T tm).1=(k.tickR t S tm).1∧(k.decide zAC t T tm).2.1=(k.tickR t S tm).2∧TS sp S (k.decide zAC t T tm).2.1.time (k.decide zAC t T tm).2.2:=by
 unfold Ctl.decide Ctl.tickR
 by_cases hlt:tm<k.time
 ·simp only[if_pos hlt]
  exact⟨trivial,trivial,h⟩
 ·simp only[if_neg hlt]
  have h1:TS sp S ({ k with time:=tm }:Ctl).time T:=⟨h.up,h.le,fun q hq=>by have:=h.time q hq;show _≤tm;omega,h.kept⟩
  have hev:=ev_same hf hsp h1 zAK
  simp only at hev
  generalize ev ⟨some (zGU { k with time:=tm }),zAC⟩ t T=z at hev
  obtain⟨z,T'⟩:=z
  obtain⟨e1,e2⟩:=hev
  simp only at e1 e2
  rw[←e1]
  cases z with
  | val n=>
   refine⟨rfl,rfl,?_⟩
   have:(({ k with time:=tm }:Ctl).approach (Min.min (Max.max n k.min) k.max) tm).2.time=tm:=by
    unfold Ctl.approach
    repeat' split
    all_goals rfl
   simp only
   rw[this]
   exact e2
  | held p y=>exact⟨rfl,rfl,e2⟩
theorem zDY {k:Ctl}{X tm p N:Int}(hp:(X<k.count∧p=k.down)∨(k.count<X∧p=k.up))(hr:k.changed=false∨p≤tm - k.change)(hN:N=k.count+Min.min (Max.max (X - k.count) (-k.step)) k.step):k.approach X tm=(false,{ k with count:=N,changed:=true,change:=tm }):=by
 have hc:k.cools p tm=false:=by
  unfold Ctl.cools
  rcases hr with h | h
  ·rw[h];rfl
  ·rw[decide_eq_false (by omega),Bool.and_false]
 have hpz:(if X<k.count then k.down else k.up)=p:=by
  rcases hp with⟨h,e⟩ | ⟨h,e⟩
  ·rw[if_pos h,e]
  ·rw[if_neg (by omega),e]
 unfold Ctl.approach
 rw[if_neg (by omega),hpz,hc,if_neg (by decide),hN]
theorem zJF {k:Ctl}{X tm p:Int}(hp:(X<k.count∧p=k.down)∨(k.count<X∧p=k.up))(hch:k.changed=true)(hr:¬ p≤tm - k.change):k.approach X tm=(true,k):=by
 have hc:k.cools p tm=true:=by
  unfold Ctl.cools
  rw[hch,decide_eq_true (by omega)]
  rfl
 have hpz:(if X<k.count then k.down else k.up)=p:=by
  rcases hp with⟨h,e⟩ | ⟨h,e⟩
  ·rw[if_pos h,e]
  ·rw[if_neg (by omega),e]
 unfold Ctl.approach
 rw[if_neg (by omega),hpz,hc,if_pos rfl]
theorem zN0 {k:Ctl}{X tm:Int}(h:X=k.count):k.approach X tm=(false,k):=by
 unfold Ctl.approach
 rw[if_pos h]
section
variable {w:World} {r:Nat} {rv:Value} {k:Ctl} {ms:List ByteArray} {S:Fed} {g:Nat→Nat} {lv:Nat→Value} {av:Value}
theorem zJ8 {P:Nat→Prop}{t:Tree}{v:Value}(h:zA9 P w t v):∃ pa,v=.pointer pa:=by
 have key:∀ {kd p:Nat} {n:Int} {a b:ByteArray} {vs:List Value},zCO P w v kd p n a b vs→∃ pa,v=.pointer pa:=fun h=>by
  obtain⟨b,pv,rfl,-⟩:=h
  exact⟨_,rfl⟩
 cases t with
 | num p n=>unfold zA9 at h;exact key h
 | neg p a=>unfold zA9 at h;obtain⟨va,h,-⟩:=h;exact key h
 | bin k p a b=>unfold zA9 at h;obtain⟨va,vb,h,-⟩:=h;exact key h
 | ite p a b c=>unfold zA9 at h;obtain⟨va,vb,vc,h,-⟩:=h;exact key h
 | meas p a b n=>unfold zA9 at h;exact key h
 | probe p a ts=>unfold zA9 at h;obtain⟨vs,h,-⟩:=h;exact key h
theorem RefC.turn {w':World}(h:RefC w r rv k ms S g lv av)(hk:KeepX (· = r) w w'){k':Ctl}(hb:w'.heap[r]?=some (.cells #[rv,.int .i64 k'.min,.int .i64 k'.max,.int .i64 k'.step,.int .i64 k'.up,.int .i64 k'.down,.int .i64 k'.count,.int .i64 k'.time,.bool k'.changed,.int .i64 k'.change,av] 78 (0,0))):RefC w' r rv k' ms S g lv av:=by
 have mv:∀ {b:Nat} {cs2:Array Value} {T2:TypeId},w.heap[b]?=some (Obj.cells cs2 T2 (0,0))→T2≠78→w'.heap[b]?=w.heap[b]?:=fun {b cs2 T2} hx ht=>hk.block b (zA2 hx) fun e=>by
  have e:b=r:=e
  rw[e,h.blk] at hx
  injection hx with hx
  injection hx with _ hx
  exact ht hx.symm
 have ow:∀ {base e size n:Nat} {v:Value} {xs:List Value},w.ownsRow base e size v n xs→e≠78→w'.ownsRow base e size v n xs:=fun {base e size n v xs} ho ht=>zA7 ho fun b hx=>by
  rcases ho.2 with⟨rfl,-⟩ | ⟨g2,cap,cur,rfl,-,h3,-⟩
  ·cases hx
  ·injection hx with hx
   subst hx
   exact mv h3 ht
 exact⟨hb,ow h.row (by decide),fun i s hs=>(mv (h.ser i s hs) (by decide)).trans (h.ser i s hs),fun i s hs=>ow (h.own i s hs) (by decide),h.nodup,h.few,h.fit,h.apart⟩
theorem zH3 (h:RefC w r rv k ms S g lv av)(hno:∀ m,m ∉ ms→S m=[]){t:Tree}(hf:Fit t)(hz:size t≤200)(hn:zA9 (fun b=>b≠r) w t rv){tm:Int}(ht:In64 tm):
  KeepX (· = r) w (((w.setCell ⟨r,7,none⟩ (.int .i64 tm)).alloc (.cells #[.int .i64 0,.int .i64 0,.int .i64 0,.int .i64 0] 43)).alloc (.cells #[ptr r,.int .i64 0,.int .i64 tm,.string { data:=#[] }] 82))∧RefC (((w.setCell ⟨r,7,none⟩ (.int .i64 tm)).alloc (.cells #[.int .i64 0,.int .i64 0,.int .i64 0,.int .i64 0] 43)).alloc (.cells #[ptr r,.int .i64 0,.int .i64 tm,.string { data:=#[] }] 82)) r rv { k with time:=tm } ms S g lv av∧(((w.setCell ⟨r,7,none⟩ (.int .i64 tm)).alloc (.cells #[.int .i64 0,.int .i64 0,.int .i64 0,.int .i64 0] 43)).alloc (.cells #[ptr r,.int .i64 0,.int .i64 tm,.string { data:=#[] }] 82)).heap[w.heap.size]?=some (.cells #[.int .i64 0,.int .i64 0,.int .i64 0,.int .i64 0] 43 (0,0))∧(((w.setCell ⟨r,7,none⟩ (.int .i64 tm)).alloc (.cells #[.int .i64 0,.int .i64 0,.int .i64 0,.int .i64 0] 43)).alloc (.cells #[ptr r,.int .i64 0,.int .i64 tm,.string { data:=#[] }] 82)).heap[w.heap.size+1]?=some (.cells #[ptr r,.int .i64 0,.int .i64 tm,.string { data:=#[] }] 82 (0,0)) ∧
   Calls Tryz.prog 25 #[rv,.pointer (some ⟨w.heap.size+1,0,none⟩)] (((w.setCell ⟨r,7,none⟩ (.int .i64 tm)).alloc (.cells #[.int .i64 0,.int .i64 0,.int .i64 0,.int .i64 0] 43)).alloc (.cells #[ptr r,.int .i64 0,.int .i64 tm,.string { data:=#[] }] 82)) fun e w'=>Keep (w.heap.size+1) (((w.setCell ⟨r,7,none⟩ (.int .i64 tm)).alloc (.cells #[.int .i64 0,.int .i64 0,.int .i64 0,.int .i64 0] 43)).alloc (.cells #[ptr r,.int .i64 0,.int .i64 tm,.string { data:=#[] }] 82)) w'∧e=.returned (valV (ev (zD3 (zE1 S tm)) t zAK).1)∧In64 (resN (ev (zD3 (zE1 S tm)) t zAK).1):=by
 have k0:KeepX (· = r) w (w.setCell ⟨r,7,none⟩ (.int .i64 tm)):=⟨rfl,rfl,rfl,by simp,fun b _ ne=>Below.heap_setCell w _ _ b ne⟩
 have h0:RefC (w.setCell ⟨r,7,none⟩ (.int .i64 tm)) r rv { k with time:=tm } ms S g lv av:=h.turn k0 (zA4 (i:=7) h.blk)
 have hb:Below (w.setCell ⟨r,7,none⟩ (.int .i64 tm)).heap.size (w.setCell ⟨r,7,none⟩ (.int .i64 tm)) (((w.setCell ⟨r,7,none⟩ (.int .i64 tm)).alloc (.cells #[.int .i64 0,.int .i64 0,.int .i64 0,.int .i64 0] 43)).alloc (.cells #[ptr r,.int .i64 0,.int .i64 tm,.string { data:=#[] }] 82)):=((Below.refl _ _).alloc (Nat.le_refl _) _).alloc (by simp) _
 have hv0:((w.setCell ⟨r,7,none⟩ (.int .i64 tm)).alloc (.cells #[.int .i64 0,.int .i64 0,.int .i64 0,.int .i64 0] 43)).heap[w.heap.size]?=some (.cells #[.int .i64 0,.int .i64 0,.int .i64 0,.int .i64 0] 43 (0,0)):=zO2 _ _ _ _ _
 have hW:(((w.setCell ⟨r,7,none⟩ (.int .i64 tm)).alloc (.cells #[.int .i64 0,.int .i64 0,.int .i64 0,.int .i64 0] 43)).alloc (.cells #[ptr r,.int .i64 0,.int .i64 tm,.string { data:=#[] }] 82)).heap[w.heap.size+1]?=some (.cells #[ptr r,.int .i64 0,.int .i64 tm,.string { data:=#[] }] 82 (0,0)):=by
  have:=heap_alloc_new ((w.setCell ⟨r,7,none⟩ (.int .i64 tm)).alloc (.cells #[.int .i64 0,.int .i64 0,.int .i64 0,.int .i64 0] 43)) (.cells #[ptr r,.int .i64 0,.int .i64 tm,.string { data:=#[] }] 82)
  simpa using this
 have hn1:zA9 (fun b=>b≠w.heap.size+1) (((w.setCell ⟨r,7,none⟩ (.int .i64 tm)).alloc (.cells #[.int .i64 0,.int .i64 0,.int .i64 0,.int .i64 0] 43)).alloc (.cells #[ptr r,.int .i64 0,.int .i64 tm,.string { data:=#[] }] 82)) t rv:=hn.moves fun b hb2 hlt=>⟨by omega,(hb.block b (by simpa using hlt)).trans (Below.heap_setCell w _ _ b hb2)⟩
 refine⟨k0.trans (.of_below hb),h0.below hb,zA3 hv0,hW,?_⟩
 refine(zEW (meas_ref (seed:=0) (h0.below hb) hno hW ht) (zA2 hW) t rv hf hn1 0 zAK _ (Keep.refl _ _) ⟨Keep.refl _ _,hW,by show 0+1000 * (0+size t)≤_;omega⟩).mono ?_
 rintro e w' ⟨a1,a2,-,a4⟩
 exact⟨a1,a2,a4⟩
set_option maxRecDepth 1000000 in
set_option maxHeartbeats 2000000 in
theorem zNC (h:RefC w r rv k ms S g lv av)(hno:∀ m,m ∉ ms→S m=[])(_hok:k.Ok){t:Tree}(hf:Fit t)(hz:size t≤200)(hn:zA9 (fun b=>b≠r) w t rv){tm:Int}(ht:In64 tm)(hnv:tm<k.time∨∃ p y,(ev (zD3 (zE1 S tm)) t zAK).1=.held p y):
  Calls Tryz.prog 9 #[ptr r,.int .i64 tm] w fun e w'=>e=.returned (.tuple #[.int .i64 (k.tickR t S tm).2.count,.agg #[.int .i64 0,.int .i64 (k.tickR t S tm).1.e,.int .i64 (k.tickR t S tm).1.p,.int .i64 (k.tickR t S tm).1.m]])∧RefC w' r rv (k.tickR t S tm).2 ms S g lv av∧KeepX (· = r) w w':=by
 have c6:=zA0 (i:=6) (v:=.int .i64 k.count) h.blk rfl
 have c7:=zA0 (i:=7) (v:=.int .i64 k.time) h.blk rfl
 have z7:=zA1 (i:=7) h.blk
 have lr:=zA2 h.blk
 by_cases hlt:tm<k.time
 ·have HE:Hid (k.tickR t S tm=(.stale,k)):=by
   show k.tickR t S tm=_
   unfold Ctl.tickR
   rw[if_pos hlt]
  have HH:Hid _:=h
  clear h hn hno
  go_enter Tryz.func9,Tryz.ntmps9
  go_wp2
  refine bodyPost_ret (v:=.tuple #[.int .i64 k.count,.agg #[.int .i64 0,.int .i64 6,.int .i64 0,.int .i64 0]]) (by simp[results,Tryz.results9,go_sem]) rfl ?_
  rw[HE.out]
  have hb:Below w.heap.size w (w.alloc (.cells #[.int .i64 0,.int .i64 6,.int .i64 0,.int .i64 0] 43)):=(Below.refl _ _).alloc (Nat.le_refl _) _
  exact⟨rfl,HH.out.below hb,KeepX.of_below hb⟩
 ·have HLT:Hid (¬ tm<k.time):=hlt
  have c0:=zA0 (i:=0) (v:=rv) h.blk rfl
  obtain⟨pa,rfl⟩:=zJ8 hn
  obtain⟨q1,q2,q3,q4,q5⟩:=zH3 h hno hf hz hn ht
  have HQ:Hid _:=And.intro q1 (And.intro q2 (And.intro q3 q4))
  have HT:Hid (k.tickR t S tm=match (ev (zD3 (zE1 S tm)) t zAK).1 with
   | .val n=>(if (({ k with time:=tm }:Ctl).approach (Min.min (Max.max n k.min) k.max) tm).1=true then .cooling else .fine,(({ k with time:=tm }:Ctl).approach (Min.min (Max.max n k.min) k.max) tm).2)
   | .held p y=>(.held p y,{ k with time:=tm })):=by
   show k.tickR t S tm=_
   unfold Ctl.tickR
   rw[if_neg hlt]
  clear hn hno h q1 q2 q3 q4
  generalize (ev (zD3 (zE1 S tm)) t zAK).1=z at *
  obtain⟨p,y,rfl⟩:=hnv.resolve_left hlt
  go_enter Tryz.func9,Tryz.ntmps9
  go_wp2_with fail
  refine q5.mono ?_
  rintro e w7 ⟨hk7,rfl,hin⟩
  have hR7:=HQ.out.2.1.keep HQ.out.2.2.2 (by decide) hk7
  have hv7:=(hk7.block _ (zA2 HQ.out.2.2.1) (by omega)).trans HQ.out.2.2.1
  have H7:Hid _:=And.intro hk7 (And.intro hR7 hv7)
  have k7:KeepX (· = r) w w7:=by
   have h0:=HQ.out.1
   exact⟨hk7.os.trans h0.os,hk7.tape.trans h0.tape,hk7.output.trans h0.output,Nat.le_trans h0.size hk7.size,fun b lt ne=>(hk7.block b (Nat.lt_of_lt_of_le lt h0.size) (by omega)).trans (h0.block b lt ne)⟩
  have FIN:Hid (∀ (k':Ctl) (w8 w9:World),RefC w8 r (.pointer pa) k' ms S g lv av→KeepX (· = r) w w8→w8.heap[w.heap.size]?=some (.cells #[.int .i64 0,.int .i64 0,.int .i64 0,.int .i64 0] 43 (0,0))→Keep w.heap.size w8 w9→RefC w9 r (.pointer pa) k' ms S g lv av∧KeepX (· = r) w w9):=fun k' w8 w9 h8 h9 h10 h11=>
   ⟨h8.keep h10 (by decide) h11,⟨h11.os.trans h9.os,h11.tape.trans h9.tape,h11.output.trans h9.output,Nat.le_trans h9.size h11.size,fun b lt ne=>(h11.block b (Nat.lt_of_lt_of_le lt h9.size) (by omega)).trans (h9.block b lt ne)⟩⟩
  have l7:=zA2 H7.out.2.2
  have lr7:=zA2 H7.out.2.1.blk
  have e1:=zA0 (i:=1) (v:=.int .i64 k.min) H7.out.2.1.blk rfl
  have e2:=zA0 (i:=2) (v:=.int .i64 k.max) H7.out.2.1.blk rfl
  have e3:=zA0 (i:=3) (v:=.int .i64 k.step) H7.out.2.1.blk rfl
  have e4:=zA0 (i:=4) (v:=.int .i64 k.up) H7.out.2.1.blk rfl
  have e5:=zA0 (i:=5) (v:=.int .i64 k.down) H7.out.2.1.blk rfl
  have e6:=zA0 (i:=6) (v:=.int .i64 k.count) H7.out.2.1.blk rfl
  have e8:=zA0 (i:=8) (v:=.bool k.changed) H7.out.2.1.blk rfl
  have e9:=zA0 (i:=9) (v:=.int .i64 k.change) H7.out.2.1.blk rfl
  have f6:=zA1 (i:=6) H7.out.2.1.blk
  have f8:=zA1 (i:=8) H7.out.2.1.blk
  have f9:=zA1 (i:=9) H7.out.2.1.blk
  have nrw:r≠w.heap.size:=by omega
  have rc0:=zA0 (i:=0) (v:=.int .i64 0) H7.out.2.2 rfl
  have rz0:=zA1 (i:=0) H7.out.2.2
  have rc1:=zA0 (i:=1) (v:=.int .i64 0) H7.out.2.2 rfl
  have rz1:=zA1 (i:=1) H7.out.2.2
  have rc2:=zA0 (i:=2) (v:=.int .i64 0) H7.out.2.2 rfl
  have rz2:=zA1 (i:=2) H7.out.2.2
  have rc3:=zA0 (i:=3) (v:=.int .i64 0) H7.out.2.2 rfl
  have rz3:=zA1 (i:=3) H7.out.2.2
  have K7:Hid _:=k7
  clear q5 hk7 hR7 hv7 k7
  have hval:valV (.held p y)=.agg #[.int .i64 0,.int .i64 (DErr.held p y).e,.int .i64 (DErr.held p y).p,.int .i64 (DErr.held p y).m]:=by cases y <;> rfl
  have hE:((DErr.held p y).e != 0)=true:=by cases y <;> rfl
  rw[hval]
  have HT2:Hid (k.tickR t S tm=(.held p y,{ k with time:=tm })):=HT.out
  clear hval HT
  generalize hde:(DErr.held p y).e=de at *
  generalize hdp:(DErr.held p y).p=dp at *
  generalize hdm:(DErr.held p y).m=dm at *
  have HD:Hid _:=And.intro hde (And.intro hdp hdm)
  clear hde hdp hdm
  go_wp2_with fail
  go_region
  all_goals
   go_wp2
   refine bodyPost_ret (v:=.tuple #[.int .i64 k.count,.agg #[.int .i64 0,.int .i64 de,.int .i64 dp,.int .i64 dm]]) (by simp[results,Tryz.results9,go_sem,rc0,rc1,rc2,rc3,l7]) rfl ?_
   rw[HT2.out]
   refine⟨by rw[HD.out.1,HD.out.2.1,HD.out.2.2],FIN.out _ w7 _ H7.out.2.1 K7.out H7.out.2.2 ?_⟩
   refine(Keep.alloc ?_ _).drew1
   iterate 4 (refine Keep.setR ?_ _ _)
   exact Keep.refl _ _
end
end Go.Proofs.YtbokdbaagacnlaaGreatDoor
