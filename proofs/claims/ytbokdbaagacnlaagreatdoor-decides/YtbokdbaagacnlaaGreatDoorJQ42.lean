import Derived.Test.YtbokdbaagacnlaaGreatDoorJQ38
import Derived.Test.YtbokdbaagacnlaaGreatDoorJQ37
namespace Go.Proofs.YtbokdbaagacnlaaGreatDoor
open Go.RowKit Go.Lib Go.Shelf
def RB (r:Nat)(g:Nat→Nat)(lv:Nat→Value)(n:Nat)(b:Nat):Prop:=b=r∨∃ i,i<n∧(b=g i∨(lv i).ownBlock=some b)
theorem zAQ {w:World}{base e size n:Nat}{v:Value}{xs:List Value}(h:w.ownsRow base e size v n xs){b:Nat}(hb:v.ownBlock=some b):∃ cs,w.heap[b]?=some (.cells cs e (0,0)):=by
 rcases h.2 with⟨rfl,-⟩ | ⟨g2,cap,cur,rfl,-,h3,-⟩
 ·cases hb
 ·injection hb with hb
  subst hb
  exact⟨_,h3⟩
section
variable {w:World} {r:Nat} {rv:Value} {k:Ctl} {ms:List ByteArray} {S:Fed} {g:Nat→Nat} {lv:Nat→Value} {av:Value}
theorem RefC.mids (h:RefC w r rv k ms S g lv av){i:Nat}{s:ByteArray}(hs:ms[i]?=some s){t:Int}{X wa:World}(hX:Below w.heap.size (w.setCell ⟨r,7,none⟩ (.int .i64 t)) X)(hg:X.grownBy wa (lv i).ownBlock):
  wa.heap[r]?=some (.cells #[rv,.int .i64 k.min,.int .i64 k.max,.int .i64 k.step,.int .i64 k.up,.int .i64 k.down,.int .i64 k.count,.int .i64 t,.bool k.changed,.int .i64 k.change,av] 78 (0,0))∧wa.heap[g i]?=some (.cells #[.string s,lv i] 118 (0,0))∧∀ (q:Nat) (cs:Array Value),w.heap[q]?=some (Obj.cells cs 115 (0,0))→wa.heap[q]?=some (Obj.cells cs 115 (0,0)):=by
 have nown:∀ {b:Nat},(lv i).ownBlock=some b→∃ cs,w.heap[b]?=some (.cells cs 135 (0,0)):=fun hb=>zAQ (h.own i s hs) hb
 have mid:∀ b o,w.heap[b]?=some o→b≠r→¬ (lv i).ownBlock=some b→wa.heap[b]?=some o:=fun b o hb ne nb=>by
  have l1:=zA2 hb
  have a1:=(Below.heap_setCell w ⟨r,7,none⟩ (.int .i64 t) b ne).trans hb
  have a2:=(hX.block b l1).trans a1
  exact(hg.block b (zA2 a2) (fun e=>nb e.symm)).trans a2
 have nt:∀ {b:Nat} {cs:Array Value} {T:TypeId},w.heap[b]?=some (Obj.cells cs T (0,0))→T≠135→¬ (lv i).ownBlock=some b:=fun {b cs T} hb hT q=>by
  obtain⟨cs2,e2⟩:=nown q
  rw[hb] at e2
  injection e2 with e2
  injection e2 with _ e2
  exact hT e2
 have nr:∀ {b:Nat} {cs:Array Value} {T:TypeId},w.heap[b]?=some (Obj.cells cs T (0,0))→T≠78→b≠r:=fun {b cs T} hb hT q=>by
  rw[q,h.blk] at hb
  injection hb with e
  injection e with _ e
  exact hT e.symm
 refine⟨?_,mid _ _ (h.ser i s hs) (nr (h.ser i s hs) (by decide)) (nt (h.ser i s hs) (by decide)),fun q cs hq=>mid _ _ hq (nr hq (by decide)) (nt hq (by decide))⟩
 have a1:=zA4 (i:=7) (v:=.int .i64 t) h.blk
 have a2:=(hX.block r (zA2 h.blk)).trans a1
 exact(hg.block r (zA2 a2) (fun e=>nt h.blk (by decide) e.symm)).trans a2
theorem RefC.fed (h:RefC w r rv k ms S g lv av){i:Nat}{s:ByteArray}(hs:ms[i]?=some s){v t:Int}(hv:In64 v)(ht:In64 t)(hroom:(S s).length<1073741824){X wa:World}{ga ca:Nat}(hX:Below w.heap.size (w.setCell ⟨r,7,none⟩ (.int .i64 t)) X)(hg:X.grownBy wa (lv i).ownBlock)
  (ho:wa.ownsRow 0 135 2 (.slice (some ⟨ga,0,none⟩) ((S s).length+1) ca) ((S s).length+1) (Win.sCells (Value.int .i64) (S s) ++ [.int .i64 t,.int .i64 v])) (hat:(lv i).ownBlock=some ga∨w.heap.size≤ga):
  RefC (wa.setCell ⟨g i,1,none⟩ (.slice (some ⟨ga,0,none⟩) ((S s).length+1) ca)) r rv { k with time:=t } ms (zFM S s v t) g (fun j=>if j=i then .slice (some ⟨ga,0,none⟩) ((S s).length+1) ca else lv j) av ∧
   KeepX (RB r g lv ms.length) w (wa.setCell ⟨g i,1,none⟩ (.slice (some ⟨ga,0,none⟩) ((S s).length+1) ca)):=by
 have hi:i<ms.length:=(List.getElem?_eq_some_iff.1 hs).1
 have ngr:∀ j x,ms[j]?=some x→g j≠r:=fun j x hx e=>by
  have:=h.ser j x hx
  rw[e,h.blk] at this
  injection this with e1
  injection e1 with _ e1
  exact absurd e1 (by decide)
 have nown:∀ {b:Nat},(lv i).ownBlock=some b→∃ cs,w.heap[b]?=some (.cells cs 135 (0,0)):=fun hb=>zAQ (h.own i s hs) hb
 -- what lies in the middle world
 have mid:∀ b o,w.heap[b]?=some o→b≠r→¬ (lv i).ownBlock=some b→wa.heap[b]?=some o:=fun b o hb ne nb=>by
  have l1:=zA2 hb
  have a1:=(Below.heap_setCell w ⟨r,7,none⟩ (.int .i64 t) b ne).trans hb
  have a2:=(hX.block b l1).trans a1
  exact(hg.block b (zA2 a2) (fun e=>nb e.symm)).trans a2
 have hr:wa.heap[r]?=some (.cells #[rv,.int .i64 k.min,.int .i64 k.max,.int .i64 k.step,.int .i64 k.up,.int .i64 k.down,.int .i64 k.count,.int .i64 t,.bool k.changed,.int .i64 k.change,av] 78 (0,0)):=by
  have a1:=zA4 (i:=7) (v:=.int .i64 t) h.blk
  have a2:=(hX.block r (zA2 h.blk)).trans a1
  refine(hg.block r (zA2 a2) (fun e=>?_)).trans a2
  obtain⟨cs,e2⟩:=nown e.symm
  rw[h.blk] at e2
  injection e2 with e2
  injection e2 with _ e2
  exact absurd e2 (by decide)
 have hser:∀ j x,ms[j]?=some x→wa.heap[g j]?=some (.cells #[.string x,lv j] 118 (0,0)):=fun j x hx=>mid _ _ (h.ser j x hx) (ngr j x hx) fun q=>by
  obtain⟨cs,e2⟩:=nown q
  rw[h.ser j x hx] at e2
  injection e2 with e2
  injection e2 with _ e2
  exact absurd e2 (by decide)
 have hgi:=hser i s hs
 have hne:∀ j x,ms[j]?=some x→j≠i→g j≠g i:=fun j x hx e=>(h.apart j i (List.getElem?_eq_some_iff.1 hx).1 hi e).1
 have srow:∀ b,av.ownBlock=some b→b≠r∧¬ (lv i).ownBlock=some b∧b≠g i:=fun b hb=>by
  obtain⟨cs,e⟩:=zAQ h.row hb
  refine⟨fun q=>?_,fun q=>?_,fun q=>?_⟩
  ·rw[q,h.blk] at e;injection e with e;injection e with _ e;exact absurd e (by decide)
  ·obtain⟨cs2,e2⟩:=nown q
   rw[e] at e2;injection e2 with e2;injection e2 with _ e2;exact absurd e2 (by decide)
  ·rw[q,h.ser i s hs] at e;injection e with e;injection e with _ e;exact absurd e (by decide)
 have sget:∀ x,x∈ms→x=s→∀ j,ms[j]?=some x→j=i:=fun x _ e j hj=>by
  subst e
  exact(List.getElem?_inj (List.getElem?_eq_some_iff.1 hj).1 h.nodup).1 (hj.trans hs.symm)
 have hgain:w.heap.size≤wa.heap.size:=by have:=hX.size;have:=hg.size;simp at *;omega
 refine⟨⟨(Below.heap_setCell wa _ _ r (ngr i s hs).symm).trans hr,zA7 h.row fun b hb=>?_,fun j x hx=>?_,fun j x hx=>?_,h.nodup,h.few,fun x hx=>?_,fun a b ha hb hab=>?_⟩,?_⟩
 ·obtain⟨q1,q2,q3⟩:=srow b hb
  obtain⟨cs,e⟩:=zAQ h.row hb
  rw[Below.heap_setCell wa _ _ b q3,mid b _ e q1 q2,e]
 ·by_cases e:j=i
  ·subst e
   rw[if_pos rfl]
   rw[hs] at hx
   injection hx with hx
   subst hx
   exact zA4 (i:=1) hgi
  ·rw[if_neg e]
   exact(Below.heap_setCell wa _ _ _ (hne j x hx e)).trans (hser j x hx)
 ·by_cases e:j=i
  ·subst e
   rw[if_pos rfl]
   rw[hs] at hx
   injection hx with hx
   subst hx
   have e1:zFM S s v t s=S s ++ [(t,v)]:=by simp[zFM]
   rw[e1,Win.sCells_append,List.length_append]
   have e2:Win.sCells (Value.int .i64) [(t,v)]=[.int .i64 t,.int .i64 v]:=by simp[Win.sCells]
   rw[e2]
   refine zA7 ho fun b hb=>Below.heap_setCell wa _ _ b ?_
   intro q
   obtain⟨cs,e3⟩:=zAQ ho hb
   rw[q,hgi] at e3
   injection e3 with e3
   injection e3 with _ e3
   exact absurd e3 (by decide)
  ·rw[if_neg e]
   have hxs:x≠s:=fun q=>e (sget x (List.mem_of_getElem? hx) q j hx)
   have e1:zFM S s v t x=S x:=by simp[zFM,hxs]
   rw[e1]
   refine zA7 (h.own j x hx) fun b hb=>?_
   obtain⟨cs,e3⟩:=zAQ (h.own j x hx) hb
   have n1:b≠r:=fun q=>by rw[q,h.blk] at e3;injection e3 with e3;injection e3 with _ e3;exact absurd e3 (by decide)
   have n2:¬ (lv i).ownBlock=some b:=fun q=>(h.apart j i (List.getElem?_eq_some_iff.1 hx).1 hi e).2 b hb q
   have n3:b≠g i:=fun q=>by rw[q,h.ser i s hs] at e3;injection e3 with e3;injection e3 with _ e3;exact absurd e3 (by decide)
   rw[Below.heap_setCell wa _ _ b n3,mid b _ e3 n1 n2,e3]
 ·by_cases e:x=s
  ·subst e
   have e1:zFM S x v t x=S x ++ [(t,v)]:=by simp[zFM]
   rw[e1]
   refine⟨fun y hy=>?_,by simp;omega⟩
   rcases List.mem_append.1 hy with hy | hy
   ·exact(h.fit x hx).1 y hy
   ·rw[List.mem_singleton.1 hy]
    exact⟨ht,hv⟩
  ·have e1:zFM S s v t x=S x:=by simp[zFM,e]
   rw[e1]
   exact h.fit x hx
 ·refine⟨(h.apart a b ha hb hab).1,fun q=>?_⟩
  have sep:∀ j,j<ms.length→j≠i→(lv j).ownBlock≠some ga:=fun j hj e q=>by
   obtain⟨x,hx⟩:∃ x,ms[j]?=some x:=⟨ms[j],List.getElem?_eq_getElem hj⟩
   rcases hat with q2 | q2
   ·exact(h.apart j i hj hi e).2 ga q q2
   ·have:=((h.own j x hx).lt _ q).2
    omega
  by_cases ea:a=i
  ·subst ea
   rw[if_pos rfl,if_neg (Ne.symm hab)]
   intro q1 q2
   injection q1 with q1
   subst q1
   exact sep b hb (Ne.symm hab) q2
  ·rw[if_neg ea]
   by_cases eb:b=i
   ·subst eb
    rw[if_pos rfl]
    intro q1 q2
    injection q2 with q2
    subst q2
    exact sep a ha ea q1
   ·rw[if_neg eb]
    exact(h.apart a b ha hb hab).2 q
 ·refine⟨hg.os.trans hX.os,hg.tape.trans hX.tape,hg.output.trans hX.output,by simpa using hgain,fun b lt nx=>?_⟩
  have n1:b≠r:=fun q=>nx (.inl q)
  have n2:¬ (lv i).ownBlock=some b:=fun q=>nx (.inr ⟨i,hi,.inr q⟩)
  have n3:b≠g i:=fun q=>nx (.inr ⟨i,hi,.inl q⟩)
  obtain⟨o,hb⟩:∃ o,w.heap[b]?=some o:=⟨w.heap[b],Array.getElem?_eq_getElem lt⟩
  rw[Below.heap_setCell wa _ _ b n3,mid b o hb n1 n2,hb]
structure FeedR (w:World) (r:Nat) (rv:Value) (k:Ctl) (ms:List ByteArray) (S:Fed) (g:Nat→Nat) (lv:Nat→Value) (av:Value) (name:ByteArray) (v t:Int) (e:Ending) (w':World):Prop where
 is:(t<k.time∧e=.returned (.int .i64 6)∧w'=w)∨(¬ t<k.time∧name ∉ ms∧e=.returned (.int .i64 7)∧w'=w) ∨
  (¬ t<k.time∧name∈ms∧e=.returned (.int .i64 0)∧KeepX (RB r g lv ms.length) w w'∧∃ lv',RefC w' r rv { k with time:=t } ms (zFM S name v t) g lv' av∧∀ i,lv' i=lv i∨∃ b,(lv' i).ownBlock=some b∧((lv i).ownBlock=some b∨w.heap.size≤b))
set_option maxRecDepth 1000000 in
set_option maxHeartbeats 4000000 in
theorem zQG (h:RefC w r rv k ms S g lv av){name:ByteArray}{v t:Int}(hv:In64 v)(ht:In64 t)(hroom:∀ s∈ms,(S s).length<1073741824):
  Calls Tryz.prog 28 #[ptr r,.string name,.int .i64 v,.int .i64 t] w fun e w'=>FeedR w r rv k ms S g lv av name v t e w':=by
 have hlen:=h.few
 have c7:=zA0 (i:=7) (v:=.int .i64 k.time) h.blk rfl
 have z7:=zA1 (i:=7) h.blk
 obtain⟨i0,hi0,hz0,hz1,hz2⟩:=info_parts Win.infoRef
 have HH:Hid _:=And.intro h (And.intro hv (And.intro ht hroom))
 by_cases hlt:t<k.time
 ·clear h hroom
  go_enter Tryz.func28,Tryz.ntmps28
  go_wp2
  go_ret
  exact⟨.inl ⟨hlt,rfl,rfl⟩⟩
 ·have HLT:Hid (¬ t<k.time):=hlt
  clear h hroom
  go_enter Tryz.func28,Tryz.ntmps28
  go_wp2_with fail
  go_loopw [9] (fun v9 W=>∃ i:Nat,v9=.int .i64 i∧i≤ms.length∧W=w∧Hid (name ∉ ms.take i)) (fun v9 _=>ms.length - (intOf v9).toNat)
  case atStart=>exact⟨0,rfl,Nat.zero_le _,rfl,by show name ∉ _;simp⟩
  case round=>
   obtain⟨i,rfl,hi,hW,HNO⟩:=hrel
   subst hW
   rcases Nat.lt_or_ge i ms.length with hlt2 | hge
   ·obtain⟨s,hs⟩:∃ s,ms[i]?=some s:=⟨ms[i],List.getElem?_eq_getElem hlt2⟩
    obtain⟨q,cp,hav,hq⟩:=HH.out.1.get hlt2
    have c10:=zA0 (i:=10) (v:=av) HH.out.1.blk rfl
    have s0:=zA0 (i:=0) (v:=.string s) (HH.out.1.ser i s hs) rfl
    have s1:=zA0 (i:=1) (v:=lv i) (HH.out.1.ser i s hs) rfl
    have t1:=zA1 (i:=1) (HH.out.1.ser i s hs)
    obtain⟨la,lc,hla⟩:=zAI (HH.out.1.own i s hs)
    rw[hla] at s1
    rw[hav] at c10
    have hlt3:(i:Int)<ms.length:=by omega
    have HS:Hid _:=hs
    have HLA:Hid (lv i=.slice la (S s).length lc):=hla
    by_cases hsm:s=name
    ·subst hsm
     have ngr:g i≠r:=fun e=>by
      have:=HH.out.1.ser i s hs
      rw[e,HH.out.1.blk] at this
      injection this with e1
      injection e1 with _ e1
      exact absurd e1 (by decide)
     have nqr:q≠r:=fun e=>by
      obtain⟨cs,e2⟩:=zAQ HH.out.1.row (b:=q) (by rw[hav];rfl)
      rw[e,HH.out.1.blk] at e2
      injection e2 with e1
      injection e1 with _ e1
      exact absurd e1 (by decide)
     have ngq:q≠g i:=fun e=>by
      obtain⟨cs,e2⟩:=zAQ HH.out.1.row (b:=q) (by rw[hav];rfl)
      rw[e,HH.out.1.ser i s hs] at e2
      injection e2 with e1
      injection e1 with _ e1
      exact absurd e1 (by decide)
     have lq:=World.block_lt_of_cell? _ _ hq
     have lg:=zA2 (HH.out.1.ser i s hs)
     have lr:=zA2 HH.out.1.blk
     simp only at lq
     obtain⟨cq,hqb⟩:=zAQ HH.out.1.row (b:=q) (by rw[hav];rfl)
     have hcq:cq[i]?=some (ptr (g i)):=by simpa[World.cell?,hqb] using hq
     have hrow:(wr.setCell ⟨r,7,none⟩ (.int .i64 t)).ownsRow 0 135 2 (.slice la (S s).length lc) (S s).length (Win.sCells (Value.int .i64) (S s)):=by
      rw[←hla]
      refine zA7 (HH.out.1.own i s hs) fun b hb=>Below.heap_setCell wr _ _ b fun e=>?_
      obtain⟨cs,e2⟩:=zAQ (HH.out.1.own i s hs) hb
      rw[e,HH.out.1.blk] at e2
      injection e2 with e1
      injection e1 with _ e1
      exact absurd e1 (by decide)
     have k10:(wr.setCell ⟨r,7,none⟩ (.int .i64 t)).cell? ⟨r,10,none⟩=some (.slice (some ⟨q,0,none⟩) ms.length cp):=zA0 (zA4 (i:=7) HH.out.1.blk) (by rw[hav];rfl)
     have kq:(wr.setCell ⟨r,7,none⟩ (.int .i64 t)).cell? ⟨q,i,none⟩=some (ptr (g i)):=zA0 ((Below.heap_setCell wr ⟨r,7,none⟩ (.int .i64 t) q nqr).trans hqb) hcq
     have kg:(wr.setCell ⟨r,7,none⟩ (.int .i64 t)).cell? ⟨g i,1,none⟩=some (.slice la (S s).length lc):=zA0 ((Below.heap_setCell wr ⟨r,7,none⟩ (.int .i64 t) (g i) ngr).trans (HH.out.1.ser i s hs)) (by rw[hla];rfl)
     have hrm:=HH.out.2.2.2 s (List.mem_of_getElem? hs)
     have FIN:Hid (∀ (X wa:World) (ga ca:Nat),Below wr.heap.size (wr.setCell ⟨r,7,none⟩ (.int .i64 t)) X→X.grownBy wa (Value.slice la (S s).length lc).ownBlock→wa.ownsRow 0 135 2 (.slice (some ⟨ga,0,none⟩) ((S s).length+1) ca) ((S s).length+1) (Win.sCells (Value.int .i64) (S s) ++ [.int .i64 t,.int .i64 v])→((Value.slice la (S s).length lc).ownBlock=some ga∨wr.heap.size≤ga) →
       wa.cell? ⟨r,10,none⟩=some (.slice (some ⟨q,0,none⟩) ms.length cp)∧wa.cell? ⟨q,i,none⟩=some (ptr (g i))∧wa.cell? ⟨g i,1,none⟩=some (.slice la (S s).length lc)∧wa.frozen? ⟨g i,1,none⟩=false∧(wa.setCell ⟨g i,1,none⟩ (.slice (some ⟨ga,0,none⟩) ((S s).length+1) ca)).cell? ⟨r,10,none⟩=some (.slice (some ⟨q,0,none⟩) ms.length cp)∧(wa.setCell ⟨g i,1,none⟩ (.slice (some ⟨ga,0,none⟩) ((S s).length+1) ca)).cell? ⟨q,i,none⟩=some (ptr (g i))∧FeedR wr r rv k ms S g lv av s v t (.returned (.int .i64 0)) (wa.setCell ⟨g i,1,none⟩ (.slice (some ⟨ga,0,none⟩) ((S s).length+1) ca))):=fun X wa ga ca hX hg ho hat=>by
      rw[←hla] at hg hat
      obtain⟨m1,m2,m3⟩:=HH.out.1.mids hs hX hg
      have hfd:=HH.out.1.fed hs HH.out.2.1 HH.out.2.2.1 hrm hX hg ho hat
      refine⟨zA0 m1 (by rw[hav];rfl),zA0 (m3 q _ hqb) hcq,zA0 m2 (by rw[hla];rfl),zA1 m2,zA0 ((Below.heap_setCell wa _ _ r ngr.symm).trans m1) (by rw[hav];rfl),zA0 ((Below.heap_setCell wa _ _ q ngq).trans (m3 q _ hqb)) hcq,⟨.inr (.inr ⟨by have:=HLT.out;omega,List.mem_of_getElem? hs,rfl,hfd.2,_,hfd.1,fun j=>?_⟩)⟩⟩
      by_cases e:j=i
      ·subst e
       simp only[if_true]
       exact .inr ⟨ga,rfl,hat⟩
      ·exact .inl (if_neg e)
     have HRW:Hid _:=hrow
     have HNEW:Hid (∀ (cs:Array Value) (T:TypeId),((wr.setCell ⟨r,7,none⟩ (.int .i64 t)).alloc (.cells cs T)).heap[wr.heap.size]?=some (.cells cs T (0,0))):=fun cs T=>by
      have:=heap_alloc_new (wr.setCell ⟨r,7,none⟩ (.int .i64 t)) (.cells cs T)
      simpa using this
     clear hs hla hav hrow hcq hqb
     generalize hlS:(S s).length=ln at *
     go_wp2_with fail
     go_region_law (first
      | (refine step_append_lies _ (by rfl) (.tmp 57) (.tmp 61) _ (by rfl) 0 135 i0 _ 2 16 Tryz.underlying116 hi0 hz0 hz1 hz2 rfl (by omega) (.slice la ln lc) ln (Win.sCells (Value.int .i64) (S s)) (by rfl) (zA7 (World.ownsRow.alloc HRW.out (.cells #[.int .i64 t,.int .i64 v] 135)) fun _ _=>rfl) ⟨wr.heap.size,0,none⟩ 1 1 [.int .i64 t,.int .i64 v] (by rfl) (by rfl) (zJ9 (HNEW.out _ _)) (by simp[Value.oneCell']) (by omega) (by unfold maxLen;omega) (by omega) (by omega) _ (by rfl) ?_;intro ga ca wa hoA hgA hatA hltA;have hF:=FIN.out _ wa ga ca (((Below.refl _ _).alloc (by simp) _).drew) hgA hoA (by rcases hatA with q | q;exact .inl q;exact .inr (by rw[q];simp));have a1:=hF.1;have a2:=hF.2.1;have a3:=hF.2.2.1;have a4:=hF.2.2.2.1;have HF:Hid _:=hF.2.2.2.2.2.2;clear hF hoA hgA hatA hltA))
     all_goals
      go_wp2
      go_ret
      exact HF.out
    ·have hne:(s.toList == name.toList)=false:=by simpa using fun e=>hsm (zOP e)
     clear hs hla hav
     go_wp2
     go_roundw
     case rel=>
      refine⟨i+1,by go_num,by omega,by first | rfl | trivial,?_⟩
      show name ∉ ms.take (i+1)
      rw[List.take_add_one,HS.out]
      intro hh
      rcases List.mem_append.1 hh with hh | hh
      ·exact HNO.out hh
      ·simp at hh
       exact hsm hh.symm
     case measure=>simp[intOf];omega
   ·have hge2:¬ (i:Int)<ms.length:=by omega
    have c10:=zA0 (i:=10) (v:=av) HH.out.1.blk rfl
    obtain⟨la,lc,hla⟩:=zAI HH.out.1.row
    rw[hla] at c10
    clear hla
    go_wp2
    go_ret
    refine⟨.inr (.inl ⟨by have:=HLT.out;omega,?_,rfl,rfl⟩)⟩
    have:=HNO.out
    rwa [List.take_of_length_le hge] at this
end
end Go.Proofs.YtbokdbaagacnlaaGreatDoor
namespace Go.Proofs.YtbokdbaagacnlaaGreatDoor
open Go.Lib
mutual
theorem zBZ : ∀ t,Fit t→Fine t
 | .num _ _,_=>by unfold Fine;trivial
 | .neg _ a,h=>by unfold Fit at h;unfold Fine;exact zBZ a h
 | .bin k p a b,h=>by
  unfold Fit at h
  unfold Fine
  refine⟨?_,zBZ a h.2.2.1,zBZ b h.2.2.2⟩
  rcases h.1 with q | q
  ·intro e
   rw[e] at q
   exact absurd q (by decide)
  ·omega
 | .ite _ a b c,h=>by unfold Fit at h;unfold Fine;exact⟨zBZ a h.1,zBZ b h.2.1,zBZ c h.2.2⟩
 | .meas _ _ _ _,_=>by unfold Fine;trivial
 | .probe _ _ ts,h=>by unfold Fit at h;unfold Fine;exact⟨by omega,zIK ts h.2.2.2.2.2⟩
theorem zIK : ∀ ts,zB8 ts→zCX ts
 | [],_=>by unfold zCX;trivial
 | t :: ts,h=>by unfold zB8 at h;unfold zCX;exact⟨zBZ t h.1,zIK ts h.2⟩
end
mutual
theorem zC1 : ∀ t,mets t=(zA5 t).map (·.1)
 | .num _ _=>by simp[mets,zA5]
 | .neg _ a=>by simp[mets,zA5,zC1 a]
 | .bin _ _ a b=>by simp[mets,zA5,zC1 a,zC1 b]
 | .ite _ a b c=>by simp[mets,zA5,zC1 a,zC1 b,zC1 c]
 | .meas _ _ _ _=>by simp[mets,zA5]
 | .probe _ _ ts=>by simp[mets,zA5,zHA ts]
theorem zHA : ∀ ts,zAL ts=(zAY ts).map (·.1)
 | []=>by simp[zAL,zAY]
 | t :: ts=>by simp[zAL,zAY,zC1 t,zHA ts]
end
theorem mem_note1 {ms:List ByteArray}{x y:ByteArray}:y∈zDG ms x↔y∈ms∨y=x:=by
 unfold zDG
 split
 ·rename_i h
  constructor
  ·exact .inl
  ·rintro(h2 | rfl)
   ·exact h2
   ·exact(containsS_iff _ _).1 h
 ·simp
theorem mem_notes {xs:List ByteArray}:∀ {ms:List ByteArray} {y:ByteArray},y∈zAT ms xs↔y∈ms∨y∈xs:=by
 induction xs with
 | nil=>intro ms y;simp[zAT]
 | cons x xs ih=>
  intro ms y
  show y∈zAT (zDG ms x) xs↔_
  rw[ih,mem_note1]
  simp[or_assoc]
theorem zPF {ms:List ByteArray}{x:ByteArray}(h:ms.Nodup):(zDG ms x).Nodup:=by
 unfold zDG
 split
 ·exact h
 ·rename_i hx
  rw[List.nodup_append]
  refine⟨h,by simp,fun a ha b hb e=>?_⟩
  rw[List.mem_singleton.1 hb] at e
  subst e
  exact hx ((containsS_iff _ _).2 ha)
theorem zPE {xs:List ByteArray}:∀ {ms:List ByteArray},ms.Nodup→(zAT ms xs).Nodup:=by
 induction xs with
 | nil=>intro ms h;exact h
 | cons x xs ih=>intro ms h;exact ih (zPF h)
theorem len_notes {xs:List ByteArray}:∀ {ms:List ByteArray},(zAT ms xs).length≤ms.length+xs.length:=by
 induction xs with
 | nil=>intro ms;simp[zAT]
 | cons x xs ih=>
  intro ms
  have h1:=ih (ms:=zDG ms x)
  have h2:=(zFZ ms x).2
  show (zAT (zDG ms x) xs).length≤_
  simp
  omega
abbrev msOf (t:Tree):List ByteArray:=zAT [] (mets t)
theorem zJA (t:Tree)(name:ByteArray):name∈msOf t↔∃ q∈zA5 t,q.1=name:=by
 rw[mem_notes,zC1]
 simp
theorem ms_few {t:Tree}(h:size t≤200):(msOf t).length≤200:=by
 have h1:=len_notes (ms:=[]) (xs:=mets t)
 have h2:=zHP.1 t
 have h3:(mets t).length=(zA5 t).length:=by rw[zC1];simp
 simp at h1
 show (zAT [] (mets t)).length≤200
 omega
end Go.Proofs.YtbokdbaagacnlaaGreatDoor
namespace Go.Proofs.YtbokdbaagacnlaaGreatDoor
open Go.RowKit Go.Lib Go.Shelf
theorem zG5 {w:World}{a b:Nat}{c1 c2:Array Value}{t1 t2:TypeId}(h1:w.heap[a]?=some (.cells c1 t1 (0,0)))(h2:w.heap[b]?=some (.cells c2 t2 (0,0)))(h:t1≠t2):a≠b:=fun e=>by
 rw[e,h2] at h1
 injection h1 with h1
 injection h1 with _ h1
 exact h h1.symm
structure NewI (w W:World) (rv:Value) (k:Ctl) (ms:List ByteArray) (nv:Value) (i:Nat) (g:Nat→Nat) (av:Value):Prop where
 ref:RefC W w.heap.size rv k (ms.take i) (fun _=>[]) g (fun _=>.slice none 0 0) av
 row:W.ownsRow w.heap.size 115 1 av i ((List.range i).map fun j=>ptr (g j))
 high:∀ j,j<i→w.heap.size≤g j
 names:W.ownsRow w.heap.size 9 1 nv ms.length (ms.map Value.string)
 below:Below w.heap.size w W
theorem NewI.more {w W:World}{rv:Value}{k:Ctl}{ms:List ByteArray}{nv:Value}{i:Nat}{g:Nat→Nat}{av:Value}(h:NewI w W rv k ms nv i g av){s:ByteArray}(hs:ms[i]?=some s)(hnd:ms.Nodup)(hfew:ms.length≤200){X wa:World}{ga ca:Nat}(hX:Below W.heap.size W X)(hq:X.heap[W.heap.size]?=some (.cells #[.string s,.slice none 0 0] 118 (0,0)))(hg:X.grownBy wa av.ownBlock)
  (ho:wa.ownsRow w.heap.size 115 1 (.slice (some ⟨ga,0,none⟩) (i+1) ca) (i+1) (((List.range i).map fun j=>ptr (g j)) ++ [ptr W.heap.size])):
  wa.cell? ⟨w.heap.size,10,none⟩=some av∧wa.frozen? ⟨w.heap.size,10,none⟩=false∧NewI w (wa.setCell ⟨w.heap.size,10,none⟩ (.slice (some ⟨ga,0,none⟩) (i+1) ca)) rv k ms nv (i+1) (fun j=>if j=i then W.heap.size else g j) (.slice (some ⟨ga,0,none⟩) (i+1) ca):=by
 have hi:i<ms.length:=(List.getElem?_eq_some_iff.1 hs).1
 have hlt:(ms.take i).length=i:=by rw[List.length_take];omega
 have ltr:=zA2 h.ref.blk
 have mid:∀ (b:Nat) (cs:Array Value) (T:TypeId),W.heap[b]?=some (Obj.cells cs T (0,0))→T≠115→wa.heap[b]?=some (Obj.cells cs T (0,0)):=fun b cs T hb hT=>by
  have a2:=(hX.block b (zA2 hb)).trans hb
  refine(hg.block b (zA2 a2) (fun e=>?_)).trans a2
  obtain⟨cs2,e2⟩:=zAQ h.row e.symm
  exact zG5 hb e2 hT rfl
 have hr:=mid _ _ _ h.ref.blk (by decide)
 have hq2:wa.heap[W.heap.size]?=some (.cells #[.string s,.slice none 0 0] 118 (0,0)):=by
  refine(hg.block _ (zA2 hq) (fun e=>?_)).trans hq
  obtain⟨cs2,e2⟩:=zAQ h.row e.symm
  exact absurd (zA2 e2) (Nat.lt_irrefl _)
 have hset:∀ b,b≠w.heap.size→(wa.setCell ⟨w.heap.size,10,none⟩ (.slice (some ⟨ga,0,none⟩) (i+1) ca)).heap[b]?=wa.heap[b]?:=fun b hb=>Below.heap_setCell wa _ _ b hb
 have hgr:∀ j x,(ms.take i)[j]?=some x→g j≠w.heap.size:=fun j x hx=>zG5 (h.ref.ser j x hx) h.ref.blk (by decide)
 have hrow2:(wa.setCell ⟨w.heap.size,10,none⟩ (.slice (some ⟨ga,0,none⟩) (i+1) ca)).ownsRow w.heap.size 115 1 (.slice (some ⟨ga,0,none⟩) (i+1) ca) (i+1) ((List.range (i+1)).map fun j=>ptr (if j=i then W.heap.size else g j)):=by
  have e:((List.range (i+1)).map fun j=>ptr (if j=i then W.heap.size else g j))=((List.range i).map fun j=>ptr (g j)) ++ [ptr W.heap.size]:=by
   rw[List.range_succ,List.map_append]
   congr 1
   ·refine List.map_congr_left fun j hj=>?_
    have:=List.mem_range.1 hj
    rw[if_neg (by omega)]
   ·simp
  rw[e]
  refine zA7 ho fun b hb=>hset b ?_
  obtain⟨cs,e2⟩:=zAQ ho hb
  exact zG5 e2 hr (by decide)
 have htk:ms.take (i+1)=ms.take i ++ [s]:=by rw[List.take_add_one,hs];rfl
 have hlt2:(ms.take (i+1)).length=i+1:=by rw[List.length_take];omega
 have hsz:W.heap.size≤wa.heap.size:=Nat.le_trans hX.size hg.size
 refine⟨zA0 (i:=10) hr rfl,zA1 (i:=10) hr,⟨⟨zA4 (i:=10) hr,?_,fun j x hx=>?_,fun j x hx=>?_,hnd.sublist (List.take_sublist _ _),by omega,fun x _=>⟨fun y hy=>(List.not_mem_nil hy).elim,by simp⟩,fun a b ha hb hab=>⟨?_,fun c hc=>by cases hc⟩⟩,hrow2,fun j hj=>?_,?_,?_⟩⟩
 ·rw[hlt2]
  exact zBA hrow2 (Nat.zero_le _)
 ·by_cases e:j=i
  ·subst e
   rw[if_pos rfl]
   have hxs:x=s:=by
    rw[htk,List.getElem?_append_right (by omega)] at hx
    simp[hlt] at hx
    exact hx.symm
   subst hxs
   exact(hset _ (by omega)).trans hq2
  ·rw[if_neg e]
   have hjl:=(List.getElem?_eq_some_iff.1 hx).1
   have hx2:(ms.take i)[j]?=some x:=by
    rw[htk,List.getElem?_append_left (by omega)] at hx
    exact hx
   exact(hset _ (hgr j x hx2)).trans (mid _ _ _ (h.ref.ser j x hx2) (by decide))
 ·exact⟨rfl,.inl ⟨rfl,rfl⟩⟩
 ·rw[hlt2] at ha hb
  have lg:∀ j,j<i→g j<W.heap.size:=fun j hj=>by
   have hx:(ms.take i)[j]?=some (ms.take i)[j]:=List.getElem?_eq_getElem (by omega)
   exact zA2 (h.ref.ser j _ hx)
  by_cases ea:a=i
  ·subst ea
   rw[if_pos rfl,if_neg (fun e=>hab e.symm)]
   have:=lg b (by omega)
   omega
  ·rw[if_neg ea]
   by_cases eb:b=i
   ·rw[if_pos eb]
    have:=lg a (by omega)
    omega
   ·rw[if_neg eb]
    exact(h.ref.apart a b (by omega) (by omega) hab).1
 ·by_cases e:j=i
  ·simp only[if_pos e]
   exact h.below.size
  ·simp only[if_neg e]
   exact h.high j (by omega)
 ·refine zA7 h.names fun b hb=>?_
  obtain⟨cs,e⟩:=zAQ h.names hb
  rw[hset b (zG5 e h.ref.blk (by decide)),mid _ _ _ e (by decide),e]
 ·have hb2:Below w.heap.size W wa:=⟨hg.os.trans hX.os,hg.tape.trans hX.tape,hg.output.trans hX.output,hsz,fun b hb=>by
   refine(hg.block b (by have:=hX.size;omega) (fun e=>?_)).trans (hX.block b (by omega))
   have:=(h.row.lt _ e.symm).1
   omega⟩
  have hb3:Below w.heap.size wa (wa.setCell ⟨w.heap.size,10,none⟩ (.slice (some ⟨ga,0,none⟩) (i+1) ca)):=⟨rfl,rfl,rfl,by simp,fun b hb=>hset b (by omega)⟩
  exact h.below.trans (hb2.trans hb3)
theorem Tryz.infoSer : (Tryz.prog.info? 115).map (fun i=>(i.zero,i.size,i.bytes))=some (some (.pointer none),1,8):=by kernel_rfl
set_option maxRecDepth 1000000 in
set_option maxHeartbeats 2000000 in
theorem ref_New_of {w:World}{pa:Option Addr}{ms:List ByteArray}(hnd:ms.Nodup)(hfew:ms.length≤200){g:Nat}{l0 l1 l2 l3 l4 count:Int}(hg:w.heap[g]?=some (.cells #[.int .i64 l0,.int .i64 l1,.int .i64 l2,.int .i64 l3,.int .i64 l4] 2 (0,0)))(hyes:zB7 l0 l1 l2 l3 l4=true)(h1:l0≤count)(h2:count≤l1)
  (hmet:∀ W,Below w.heap.size w W→Calls Tryz.prog 22 #[.pointer pa,.slice none 0 0] W fun e w'=>∃ lv',e=.returned lv'∧w'.ownsRow W.heap.size 9 1 lv' ms.length (ms.map Value.string)∧Below W.heap.size W w'):
  Calls Tryz.prog 21 #[.pointer pa,.slice (some ⟨g,0,none⟩) 5 5,.int .i64 count] w fun e w'=>e=.returned (ptr w.heap.size)∧∃ nv g av,NewI w w' (.pointer pa) (ctl0 l0 l1 l2 l3 l4 count) ms nv ms.length g av:=by
 have c0:=zA0 (i:=0) (v:=.int .i64 l0) hg rfl
 have c1:=zA0 (i:=1) (v:=.int .i64 l1) hg rfl
 have c2:=zA0 (i:=2) (v:=.int .i64 l2) hg rfl
 have c3:=zA0 (i:=3) (v:=.int .i64 l3) hg rfl
 have c4:=zA0 (i:=4) (v:=.int .i64 l4) hg rfl
 have hps:¬ l0<0∧¬ l1<l0∧¬ l2<1∧¬ l3<0∧¬ l4<0:=by
  unfold zB7 at hyes
  simp only[Bool.and_eq_true,decide_eq_true_eq] at hyes
  omega
 obtain⟨p0,p1,p2,p3,p4⟩:=hps
 have p5:¬ count<l0:=by omega
 have p6:¬ l1<count:=by omega
 obtain⟨i0,hi0,hz0,hz1,hz2⟩:=info_parts Tryz.infoSer
 have HI0:Hid _:=And.intro hi0 (And.intro hz0 (And.intro hz1 hz2))
 have HM:Hid _:=hmet
 have HN:Hid _:=And.intro hnd hfew
 clear hg hyes hmet hi0 hz0 hz1 hz2 hnd
 go_enter Tryz.func21,Tryz.ntmps21
 go_wp2_with fail
 go_quiet (fail)
 go_wp2_with fail
 go_region
 go_wp2_with fail
 rename_i nq _ _ _ _ _
 clear c0 c1 c2 c3 c4
 have hbA:Below w.heap.size w ((w.drewN (nq+1)).alloc (.cells #[.pointer pa,.int .i64 l0,.int .i64 l1,.int .i64 l2,.int .i64 l3,.int .i64 l4,.int .i64 count,.int .i64 (-9223372036854775808),.bool false,.int .i64 0,.slice none 0 0] 78)):=(below_drewN (Below.refl _ _) _).alloc (by simp) _
 refine(HM.out _ hbA).mono ?_
 rintro e w4 ⟨nv,rfl,ho4,hb4⟩
 have hr4:w4.heap[w.heap.size]?=some (.cells #[.pointer pa,.int .i64 l0,.int .i64 l1,.int .i64 l2,.int .i64 l3,.int .i64 l4,.int .i64 count,.int .i64 (-9223372036854775808),.bool false,.int .i64 0,.slice none 0 0] 78 (0,0)):=(hb4.block _ (by simp)).trans (heap_alloc_new (w.drewN (nq+1)) _)
 have hb04:Below w.heap.size w w4:=hbA.trans (hb4.mono (by simp))
 obtain⟨na,nc,hnv⟩:=zAI ho4
 subst hnv
 have HO:Hid (NewI w w4 (.pointer pa) (ctl0 l0 l1 l2 l3 l4 count) ms (.slice na ms.length nc) 0 (fun _=>0) (.slice none 0 0)):=by
  refine⟨⟨hr4,⟨rfl,.inl ⟨rfl,rfl⟩⟩,fun j x hx=>?_,fun j x hx=>⟨rfl,.inl ⟨rfl,rfl⟩⟩,by simp,by simp,fun x hx=>⟨fun y hy=>(List.not_mem_nil hy).elim,by simp⟩,fun a b ha _ _=>?_⟩,⟨rfl,.inl ⟨rfl,rfl⟩⟩,fun j hj=>absurd hj (Nat.not_lt_zero _),zBA ho4 (by simp),hb04⟩
  ·simp at hx
  ·simp at ha
 clear hbA ho4 hb4 hr4 hb04
 go_wp2_with fail
 go_loopw [9] (fun v9 wr=>∃ i:Nat,v9=.int .i64 i∧i≤ms.length∧Hid (∃ g av,NewI w wr (.pointer pa) (ctl0 l0 l1 l2 l3 l4 count) ms (.slice na ms.length nc) i g av)) (fun v9 _=>ms.length - (intOf v9).toNat)
 case atStart=>exact⟨0,rfl,Nat.zero_le _,_,_,HO.out⟩
 case round=>
  obtain⟨i,rfl,hi,HI⟩:=hrel
  clear HO
  rcases Nat.lt_or_ge i ms.length with hlt | hge
  ·obtain⟨s,hs⟩:∃ s,ms[i]?=some s:=⟨ms[i],List.getElem?_eq_getElem hlt⟩
   obtain⟨gg,av,hI⟩:=HI.out
   obtain⟨la,lc,hav⟩:=zAI hI.row
   subst hav
   have c10:=zA0 (i:=10) (v:=.slice la i lc) hI.ref.blk rfl
   obtain⟨q,hna,hq⟩:=zHZ hI.names (j:=i) (x:=.string s) (by rw[List.getElem?_map,hs];rfl)
   subst hna
   have hlt3:(i:Int)<ms.length:=by omega
   have FIN:Hid (∀ (X wa:World) (ga ca:Nat),Below wr.heap.size wr X→X.heap[wr.heap.size]?=some (.cells #[.string s,.slice none 0 0] 118 (0,0))→X.grownBy wa (Value.slice la i lc).ownBlock→wa.ownsRow w.heap.size 115 1 (.slice (some ⟨ga,0,none⟩) (i+1) ca) (i+1) (((List.range i).map fun j=>ptr (gg j)) ++ [ptr wr.heap.size])→wa.cell? ⟨w.heap.size,10,none⟩=some (.slice la i lc)∧wa.frozen? ⟨w.heap.size,10,none⟩=false∧∃ g av,NewI w (wa.setCell ⟨w.heap.size,10,none⟩ (.slice (some ⟨ga,0,none⟩) (i+1) ca)) (.pointer pa) (ctl0 l0 l1 l2 l3 l4 count) ms (.slice (some ⟨q,0,none⟩) ms.length nc) (i+1) g av):=fun X wa ga ca hX hq2 hg2 ho2=>by
    have:=hI.more hs HN.out.1 HN.out.2 hX hq2 hg2 ho2
    exact⟨this.1,this.2.1,_,_,this.2.2⟩
   have HRW:Hid _:=hI.row
   have HSZ:Hid (w.heap.size≤wr.heap.size):=hI.below.size
   have HNEW:Hid (((wr.alloc (.cells #[.string s,.slice none 0 0] 118)).alloc (.cells #[ptr wr.heap.size] 115)).heap[wr.heap.size+1]?=some (.cells #[ptr wr.heap.size] 115 (0,0))):=zEJ _ _ (by simp)
   have k1:(wr.alloc (.cells #[.string s,.slice none 0 0] 118)).cell? ⟨w.heap.size,10,none⟩=some (.slice la i lc):=zA0 (zA3 hI.ref.blk) rfl
   have k2:((wr.alloc (.cells #[.string s,.slice none 0 0] 118)).alloc (.cells #[ptr wr.heap.size] 115)).cell? ⟨w.heap.size,10,none⟩=some (.slice la i lc):=zA0 (zA3 (zA3 hI.ref.blk)) rfl
   clear hI HI hs
   go_wp2_with fail
   go_region_law (first
    | (refine step_append_lies _ (by rfl) (.tmp 86) (.tmp 93) _ (by rfl) w.heap.size 115 i0 _ 1 8 Tryz.underlying76 HI0.out.1 HI0.out.2.1 HI0.out.2.2.1 HI0.out.2.2.2 rfl (by omega) (.slice la i lc) i ((List.range i).map fun j=>ptr (gg j)) (by rfl) (zA7 (World.ownsRow.alloc (World.ownsRow.alloc HRW.out (.cells #[.string s,.slice none 0 0] 118)) (.cells #[ptr wr.heap.size] 115)) fun _ _=>rfl) ⟨wr.heap.size+1,0,none⟩ 1 1 [ptr wr.heap.size] (by rfl) (by rfl) (zFI HNEW.out) (by simp[Value.oneCell']) (by omega) (by unfold maxLen;omega) (by omega) (by have:=HSZ.out;simp;omega) _ (by rfl) ?_;intro ga ca wa hoA hgA hatA hltA;have hF:=FIN.out _ wa ga ca ((((Below.refl _ _).alloc (Nat.le_refl _) _).alloc (by simp) _).drew) (zA3 (heap_alloc_new wr _)) hgA hoA;have a1:=hF.1;have a2:=hF.2.1;have HF:Hid _:=hF.2.2;clear hF hoA hgA hatA hltA))
   all_goals
    go_wp2
    go_roundw
    case rel=>exact⟨i+1,by go_num,by omega,HF.out⟩
    case measure=>simp[intOf];omega
  ·have hge2:¬ (i:Int)<ms.length:=by omega
   have hie:i=ms.length:=by omega
   obtain⟨gg,av,hI⟩:=HI.out
   have HII:Hid _:=hI
   clear hI HI
   go_wp2
   go_ret
   refine⟨rfl,.slice na ms.length nc,gg,av,?_⟩
   have:=HII.out
   rw[hie] at this
   exact this
end Go.Proofs.YtbokdbaagacnlaaGreatDoor
