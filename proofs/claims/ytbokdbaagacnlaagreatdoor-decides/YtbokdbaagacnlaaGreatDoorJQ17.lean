import Derived.Test.YtbokdbaagacnlaaGreatDoorJQ16
import Derived.Lib.SliceRun
import Derived.Defers
import Derived.Recover
import Derived.Test.YtbokdbaagacnlaaGreatDoorJQ2
import Derived.Test.YtbokdbaagacnlaaGreatDoorJQ12
namespace Go.Proofs.YtbokdbaagacnlaaGreatDoor
open Go.RowKit Go.Lib
def zET (k:Nat):Value:=
 if k=43 then .func (.func 182) #[] #[] else if k=45 then .func (.func 183) #[] #[] else if k=42 then .func (.func 184) #[] #[]
 else if k=60 then .func (.func 185) #[] #[] else if k=62 then .func (.func 187) #[] #[] else if k=61 then .func (.func 188) #[] #[] else .nilFunc
abbrev One (w:World)(b:Nat)(x:Value)(T:TypeId):Prop:=w.heap[b]?=some (.cells #[x] T (0,0))
mutual
def zCK (P:Nat→Prop)(w:World):Tree→Value→Prop
 | .num _ n,v=>∃ b,v=.func (.func 169) #[] #[ptr b]∧P b∧One w b (.int .i64 n) 2
 | .neg _ a,v=>∃ b va,v=.func (.func 171) #[] #[ptr b]∧P b∧One w b va 143∧zCK P w a va
 | .bin k p a c,v=>∃ b1 b2 b3 va vc,v=.func (.func (if k=47 then 173 else 189)) #[] #[ptr b1,ptr b2,ptr b3]∧(P b1∧P b2∧P b3)∧One w b1 va 143∧One w b2 vc 143 ∧
   One w b3 (if k=47 then .int .i64 (p:Int) else zET k) (if k=47 then 153 else 189)∧zCK P w a va∧zCK P w c vc
 | .ite _ a c d,v=>∃ b1 b2 b3 va vc vd,v=.func (.func 176) #[] #[ptr b1,ptr b2,ptr b3]∧(P b1∧P b2∧P b3)∧One w b1 va 143∧One w b2 vc 143∧One w b3 vd 143∧zCK P w a va∧zCK P w c vc∧zCK P w d vd
 | .meas p wd m n,v=>∃ b1 b2 b3 b4,v=.func (.func 210) #[] #[ptr b1,ptr b2,ptr b3,ptr b4]∧(P b1∧P b2∧P b3∧P b4)∧One w b1 (.int .i64 (p:Int)) 153∧One w b2 (.string wd) 9∧One w b3 (.string m) 9∧One w b4 (.int .i64 n) 2
 | .probe p wd ts,v=>∃ b1 b2 b3 pv vs,v=.func (.func 213) #[] #[ptr b1,ptr b2,ptr b3]∧(P b1∧P b2∧P b3)∧One w b1 pv 351∧One w b2 (.int .i64 (p:Int)) 153∧One w b3 (.string wd) 9 ∧
   (w.ownsRow 0 143 1 pv vs.length vs∧∀ g,pv.ownBlock=some g→P g)∧zBK P w ts vs
def zBK (P:Nat→Prop)(w:World):List Tree→List Value→Prop
 | [],vs=>vs=[]
 | t :: ts,vs=>∃ v vs',vs=v :: vs'∧zCK P w t v∧zBK P w ts vs'
end
def zOU (P Q:Nat→Prop)(w w':World):Prop:=∀ b,P b→Q b∧w'.heap[b]?=w.heap[b]?
section
variable {P Q:Nat→Prop} {w w':World}
mutual
theorem zCK.moves (hm:zOU P Q w w'):∀ {t:Tree} {v:Value},zCK P w t v→zCK Q w' t v
 | .num _ _,_,h=>by
  unfold zCK at h ⊢
  obtain⟨b,h1,h2,h3⟩:=h
  exact⟨b,h1,(hm b h2).1,(hm b h2).2.trans h3⟩
 | .neg _ _,_,h=>by
  unfold zCK at h ⊢
  obtain⟨b,va,h1,h2,h3,h4⟩:=h
  exact⟨b,va,h1,(hm b h2).1,(hm b h2).2.trans h3,h4.moves hm⟩
 | .bin _ _ _ _,_,h=>by
  unfold zCK at h ⊢
  obtain⟨b1,b2,b3,va,vc,h1,⟨p1,p2,p3⟩,h2,h3,h4,h5,h6⟩:=h
  exact⟨b1,b2,b3,va,vc,h1,⟨(hm _ p1).1,(hm _ p2).1,(hm _ p3).1⟩,(hm _ p1).2.trans h2,(hm _ p2).2.trans h3,(hm _ p3).2.trans h4,h5.moves hm,h6.moves hm⟩
 | .ite _ _ _ _,_,h=>by
  unfold zCK at h ⊢
  obtain⟨b1,b2,b3,va,vc,vd,h1,⟨p1,p2,p3⟩,h2,h3,h4,h5,h6,h7⟩:=h
  exact⟨b1,b2,b3,va,vc,vd,h1,⟨(hm _ p1).1,(hm _ p2).1,(hm _ p3).1⟩,(hm _ p1).2.trans h2,(hm _ p2).2.trans h3,(hm _ p3).2.trans h4,h5.moves hm,h6.moves hm,h7.moves hm⟩
 | .meas _ _ _ _,_,h=>by
  unfold zCK at h ⊢
  obtain⟨b1,b2,b3,b4,h1,⟨p1,p2,p3,p4⟩,h2,h3,h4,h5⟩:=h
  exact⟨b1,b2,b3,b4,h1,⟨(hm _ p1).1,(hm _ p2).1,(hm _ p3).1,(hm _ p4).1⟩,(hm _ p1).2.trans h2,(hm _ p2).2.trans h3,(hm _ p3).2.trans h4,(hm _ p4).2.trans h5⟩
 | .probe _ _ _,_,h=>by
  unfold zCK at h ⊢
  obtain⟨b1,b2,b3,pv,vs,h1,⟨p1,p2,p3⟩,h2,h3,h4,⟨h5,h6⟩,h7⟩:=h
  exact⟨b1,b2,b3,pv,vs,h1,⟨(hm _ p1).1,(hm _ p2).1,(hm _ p3).1⟩,(hm _ p1).2.trans h2,(hm _ p2).2.trans h3,(hm _ p3).2.trans h4,⟨zA7 h5 fun g hg=>(hm g (h6 g hg)).2,fun g hg=>(hm g (h6 g hg)).1⟩,h7.moves hm⟩
theorem zBK.moves (hm:zOU P Q w w'):∀ {ts:List Tree} {vs:List Value},zBK P w ts vs→zBK Q w' ts vs
 | [],_,h=>by unfold zBK at h ⊢;exact h
 | _ :: _,_,h=>by
  unfold zBK at h ⊢
  obtain⟨v,vs',h1,h2,h3⟩:=h
  exact⟨v,vs',h1,h2.moves hm,h3.moves hm⟩
end
theorem zBK.snoc : ∀ {ts:List Tree} {vs:List Value} {t:Tree} {v:Value},zBK P w ts vs→zCK P w t v→zBK P w (ts ++ [t]) (vs ++ [v])
 | [],vs,t,v,h,k=>by
  unfold zBK at h
  subst h
  unfold zBK
  exact⟨v,[],rfl,k,by unfold zBK;rfl⟩
 | a :: ts,vs,t,v,h,k=>by
  unfold zBK at h
  obtain⟨x,vs',rfl,h2,h3⟩:=h
  show zBK P w (a :: (ts ++ [t])) _
  unfold zBK
  exact⟨x,vs' ++ [v],rfl,h2,zBK.snoc h3 k⟩
end
def zCL (v:Value):Prop:=v=.nilFunc∨∃ f x y,v=.func f x y
section
variable {R:Nat} {w w':World} {r r':RS}
abbrev Fr (R lo:Nat)(w:World)(b:Nat):Prop:=Free R w b∧lo≤b
def VOk (R lo:Nat)(w:World)(r:RS)(t:Tree)(v:Value):Prop:=r.wrong=false→zCK (Fr R lo w) w t v
theorem KR.vmoves {lo:Nat}(k:KR R w w'):zOU (Fr R lo w) (Fr R lo w') w w':=fun _ f=>⟨⟨(f.1.step k).1,f.2⟩,(f.1.step k).2⟩
theorem VOk.step {lo:Nat}{t:Tree}{v:Value}(h:VOk R lo w r t v)(k:KR R w w')(hw:r'.wrong=false→r.wrong=false):VOk R lo w' r' t v:=fun q=>(h (hw q)).moves k.vmoves
theorem VOk.lower {lo lo':Nat}{t:Tree}{v:Value}(h:VOk R lo w r t v)(hl:lo'≤lo):VOk R lo' w r t v:=fun q=>(h q).moves fun _ f=>⟨⟨f.1,Nat.le_trans hl f.2⟩,rfl⟩
theorem KR.new (hR:R<w.heap.size)(o:Obj):KR R w (w.alloc o):=.of_below ((Below.refl _ _).alloc (Nat.le_refl _) o) hR
end
set_option maxRecDepth 1000000 in
theorem zM9 (k:Nat)(w:World):Calls Tryz.prog 134 #[.int .u8 k] w fun e w'=>e=.returned (zET k)∧w'=w:=by
 by_cases h1:k=43
 ·subst h1
  go_enter Tryz.func134,Tryz.ntmps134
  go_wp2
  go_ret
  exact⟨rfl,rfl⟩
 by_cases h2:k=45
 ·subst h2
  go_enter Tryz.func134,Tryz.ntmps134
  go_wp2
  go_ret
  exact⟨rfl,rfl⟩
 by_cases h3:k=42
 ·subst h3
  go_enter Tryz.func134,Tryz.ntmps134
  go_wp2
  go_ret
  exact⟨rfl,rfl⟩
 by_cases h4:k=60
 ·subst h4
  go_enter Tryz.func134,Tryz.ntmps134
  go_wp2
  go_ret
  exact⟨rfl,rfl⟩
 by_cases h5:k=62
 ·subst h5
  go_enter Tryz.func134,Tryz.ntmps134
  go_wp2
  go_ret
  exact⟨rfl,rfl⟩
 by_cases h6:k=61
 ·subst h6
  go_enter Tryz.func134,Tryz.ntmps134
  go_wp2
  go_ret
  exact⟨rfl,rfl⟩
 have HR:Hid (zET k=.nilFunc):=by show zET k=.nilFunc;simp[zET,h1,h2,h3,h4,h5,h6]
 have e1:((k:Int) == 43)=false:=by rw[beq_eq_false_iff_ne];omega
 have e2:((k:Int) == 45)=false:=by rw[beq_eq_false_iff_ne];omega
 have e3:((k:Int) == 42)=false:=by rw[beq_eq_false_iff_ne];omega
 have e4:((k:Int) == 60)=false:=by rw[beq_eq_false_iff_ne];omega
 have e5:((k:Int) == 62)=false:=by rw[beq_eq_false_iff_ne];omega
 have e6:((k:Int) == 61)=false:=by rw[beq_eq_false_iff_ne];omega
 clear h1 h2 h3 h4 h5 h6
 go_enter Tryz.func134,Tryz.ntmps134
 go_wp2
 go_ret
 exact⟨by rw[HR.out];rfl,rfl⟩
theorem zQH (k:Nat):(zC0 k=true∧∃ F,zET k=.func (.func F) #[] #[])∨(zC0 k=false∧zET k=.nilFunc):=by
 by_cases h:zC0 k=true
 ·refine .inl ⟨h,?_⟩
  simp[zC0] at h
  rcases h with((((rfl | rfl) | rfl) | rfl) | rfl) | rfl <;> exact⟨_,rfl⟩
 ·have h:zC0 k=false:=by simpa using h
  refine .inr ⟨h,?_⟩
  simp[zC0] at h
  simp[zET,h]
end Go.Proofs.YtbokdbaagacnlaaGreatDoor
namespace Go.Proofs.YtbokdbaagacnlaaGreatDoor
open Go.RowKit Go.Lib
structure Only (P:Nat→Prop) (w w':World):Prop where
 os:w'.os=w.os
 tape:w'.tape=w.tape
 output:w'.output=w.output
 size:w.heap.size≤w'.heap.size
 block:∀ k,k<w.heap.size→¬ P k→w'.heap[k]?=w.heap[k]?
namespace Only
variable {P Q:Nat→Prop} {w w1 w2:World}
theorem refl (P:Nat→Prop)(w:World):Only P w w:=⟨rfl,rfl,rfl,Nat.le_refl _,fun _ _ _=>rfl⟩
theorem trans (h:Only P w w1)(k:Only Q w1 w2)(hq:∀ b,b<w.heap.size→Q b→P b):Only P w w2:=
 ⟨k.os.trans h.os,k.tape.trans h.tape,k.output.trans h.output,Nat.le_trans h.size k.size,fun i hi hne=>(k.block i (Nat.lt_of_lt_of_le hi h.size) (fun q=>hne (hq i hi q))).trans (h.block i hi hne)⟩
theorem mono (h:Only P w w1)(hq:∀ b,b<w.heap.size→P b→Q b):Only Q w w1:=⟨h.os,h.tape,h.output,h.size,fun k hk hn=>h.block k hk (fun q=>hn (hq k hk q))⟩
theorem of_below (h:Below w.heap.size w w1):Only P w w1:=⟨h.os,h.tape,h.output,h.size,fun k hk _=>h.block k hk⟩
theorem below (h:Only P w w1){B:Nat}(hB:B≤w.heap.size)(hP:∀ b,P b→B≤b):Below B w w1:=⟨h.os,h.tape,h.output,h.size,fun k hk=>h.block k (by omega) (fun q=>by have:=hP k q;omega)⟩
theorem alloc (h:Only P w w1)(o:Obj):Only P w (w1.alloc o):=
 ⟨h.os,h.tape,h.output,by simp;exact Nat.le_succ_of_le h.size,fun k hk hne=>(Below.heap_alloc w1 o k (Nat.lt_of_lt_of_le hk h.size)).trans (h.block k hk hne)⟩
theorem drew (h:Only P w w1):Only P w w1.drew:=⟨h.os,h.tape,h.output,h.size,h.block⟩
theorem drewN (h:Only P w w1)(n:Nat):Only P w (w1.drewN n):=⟨h.os,h.tape,h.output,h.size,h.block⟩
theorem setCell (h:Only P w w1){a:Addr}(ha:a.block<w.heap.size→P a.block)(v:Value):Only P w (w1.setCell a v):=
 ⟨h.os,h.tape,h.output,by simp;exact h.size,fun k hk hne=>(Below.heap_setCell w1 _ v k (fun e=>by subst e;exact hne (ha hk))).trans (h.block k hk hne)⟩
theorem grown (h:Only P w w1){row:Option Nat}(hg:w1.grownBy w2 row)(hr:∀ b,b<w.heap.size→row=some b→P b):Only P w w2:=
 ⟨hg.os.trans h.os,hg.tape.trans h.tape,hg.output.trans h.output,Nat.le_trans h.size hg.size,fun k hk hne=>(hg.block k (Nat.lt_of_lt_of_le hk h.size) (fun e=>hne (hr k hk e.symm))).trans (h.block k hk hne)⟩
theorem heap (h:Only P w w1){k:Nat}{o:Obj}(hk:w.heap[k]?=some o)(hne:¬ P k):w1.heap[k]?=some o:=(h.block k (zA2 hk) hne).trans hk
theorem cell (h:Only P w w1){a:Addr}{v:Value}(hc:w.cell? a=some v)(hne:¬ P a.block):w1.cell? a=some v:=
 (World.cell?_of_block (h.block a.block (World.block_lt_of_cell? w a hc) hne)).trans hc
theorem owns (h:Only P w w1){base e size n:Nat}{v:Value}{xs:List Value}(ho:w.ownsRow base e size v n xs)(hne:∀ g,v.ownBlock=some g→¬ P g):w1.ownsRow base e size v n xs:=by
 refine⟨ho.1,?_⟩
 rcases ho.2 with hn | ⟨g,cap,cur,rfl,hbg,hg,rest⟩
 ·exact .inl hn
 ·exact .inr ⟨g,cap,cur,rfl,hbg,h.heap hg (hne g rfl),rest⟩
end Only
theorem below_drewN {B:Nat}{w w1:World}(h:Below B w w1)(n:Nat):Below B w (w1.drewN n):=⟨h.os,h.tape,h.output,h.size,h.block⟩
theorem cell_past {w:World}{a:Addr}{v:Value}(h:w.cell? a=some v)(o:Obj):(w.alloc o).cell? a=some v:=
 (World.cell?_of_block (Below.heap_alloc w o a.block (World.block_lt_of_cell? w a h))).trans h
theorem block_new (w:World)(cs:Array Value)(T:TypeId):(w.alloc (.cells cs T)).heap[w.heap.size]?=some (.cells cs T (0,0)):=heap_alloc_new w _
theorem cells_two_new (w:World)(a b:Value)(T:TypeId):∀ (j:Nat) (u:Value),[a,b][j]?=some u→(w.alloc (.cells #[a,b] T)).cell? ((⟨w.heap.size,0,none⟩:Addr).add j)=some u:=by
 intro j u hu
 rw[Addr.add_lit]
 refine zA0 (block_new w #[a,b] T) ?_
 rw[Nat.zero_add]
 simpa using hu
theorem two_one {a b:Value}(ha:a.oneCell'=true)(hb:b.oneCell'=true):∀ u∈[a,b],u.oneCell'=true:=by
 intro u hu
 simp only[List.mem_cons,List.not_mem_nil,or_false] at hu
 rcases hu with rfl | rfl
 ·exact ha
 ·exact hb
theorem kind_ne {w:World}{a b:Nat}{cs ds:Array Value}{T U:Nat}{y z:Nat × Nat}(h:w.heap[a]?=some (.cells cs T y))(k:w.heap[b]?=some (.cells ds U z))(hne:T≠U):a≠b:=by
 intro e
 subst e
 rw[h] at k
 injection k with k
 injection k with _ k
 exact hne k
theorem row_ne {w:World}{a base e size n:Nat}{cs:Array Value}{T:Nat}{y:Nat × Nat}{v:Value}{xs:List Value}(h:w.heap[a]?=some (.cells cs T y))(ho:w.ownsRow base e size v n xs)(hne:e≠T):v.ownBlock≠some a:=by
 intro e'
 obtain⟨c,fz,q⟩:=ownsRow_kind ho a e'
 exact kind_ne q h hne rfl
theorem zGK {w:World}{base e size n:Nat}{v:Value}{xs:List Value}(h:w.ownsRow base e size v n xs):∃ ao cp,v=.slice ao n cp:=by
 rcases h.2 with⟨rfl,rfl⟩ | ⟨g,cap,cur,rfl,-⟩
 ·exact⟨_,_,rfl⟩
 ·exact⟨_,_,rfl⟩
set_option maxRecDepth 1000000 in
theorem zKC {p q:Nat}{x:Value}(u:TypeId)(pv:Value)(older:List PanicEntry)(w:World)(hp:One w p (.bool false) 4)(hq:One w q x 69):
  CallsD Tryz.prog 247 #[ptr p,ptr q] (.panicking ({ v:=.iface u pv,recovered:=false } :: older)) w fun e u' w'=>
   e=.returned (.tuple #[])∧u'=.panicking ({ v:=.iface u pv,recovered:=true } :: older)∧w'=(w.alloc (.cells #[.iface u pv] 205)).setCell ⟨q,0,none⟩ (.iface 199 (ptr w.heap.size)):=by
 have c0:w.cell? ⟨p,0,none⟩=some (.bool false):=zA0 hp rfl
 have hq':=zA3 (o:=.cells #[.iface u pv] 205) hq
 have c1:(w.alloc (.cells #[.iface u pv] 205)).cell? ⟨q,0,none⟩=some x:=zA0 hq' rfl
 have z1:(w.alloc (.cells #[.iface u pv] 205)).frozen? ⟨q,0,none⟩=false:=zA1 hq'
 refine callsD_of_wpS Tryz.func247 rfl fun c₀ cs hu=>?_
 apply wpS_seq
 apply wpS_region
 simp[wpOpsS,go_sem,recoverD,hu,Tryz.ntmps247,Exit.thenS]
 apply wpS_seq
 apply wpS_region
 simp[wpOpsS,go_sem,c0,Exit.thenS]
 refine wpS_cond (t:=true) (by simp[Act.eval,Array.replicate]) ?_
 simp only[if_true]
 apply wpS_region
 simp[wpOpsS,go_sem,c1,z1,bodyPostS,results,Tryz.results247]
set_option maxRecDepth 1000000 in
theorem zLP {p q:Nat}(w:World)(hp:One w p (.bool true) 4):
  CallsD Tryz.prog 247 #[ptr p,ptr q] .returning w fun e u' w'=>e=.returned (.tuple #[])∧u'=.returning∧w'=w:=by
 have c0:w.cell? ⟨p,0,none⟩=some (.bool true):=zA0 hp rfl
 refine callsD_of_wpS Tryz.func247 rfl fun c₀ cs hu=>?_
 apply wpS_seq
 apply wpS_region
 simp[wpOpsS,go_sem,recoverD,hu,Tryz.ntmps247,Exit.thenS]
 apply wpS_seq
 apply wpS_region
 simp[wpOpsS,go_sem,c0,Exit.thenS]
 refine wpS_cond (t:=false) (by simp[Act.eval,Array.replicate]) ?_
 simp only[Bool.false_eq_true,if_false]
 refine wpS_of_wp (wp_skip ?_)
 cases c₀
 simp_all[bodyPostS,results,Tryz.results247]
inductive Ans where
 | val (n:Int)
 | fail (n:Int) (T:TypeId) (x:Value)
 | pan (u:TypeId) (pv:Value)
def AnsE : Ans→Ending→Prop
 | .val n,e=>e=.returned (.tuple #[.int .i64 n,.nilIface])
 | .fail n T x,e=>e=.returned (.tuple #[.int .i64 n,.iface T x])
 | .pan u pv,e=>e=.panicked [{ v:=.iface u pv,recovered:=false }]
def AnsR : Ans→Nat→World→Ending→Prop
 | .val n,_,_,e=>e=.returned (.tuple #[.int .i64 n,.nilIface])
 | .fail n T x,_,_,e=>e=.returned (.tuple #[.int .i64 n,.iface T x])
 | .pan u pv,b,w,e=>e=.returned (.tuple #[.int .i64 0,.iface 199 (ptr b)])∧One w b (.iface u pv) 205
structure But2 (p:Nat) (w w':World):Prop where
 os:w'.os=w.os
 tape:w'.tape=w.tape
 output:w'.output=w.output
 size:w.heap.size≤w'.heap.size
 block:∀ k,k<w.heap.size→k≠p→k≠p+1→w'.heap[k]?=w.heap[k]?
structure KeepX (X:Nat→Prop) (w w':World):Prop where
 os:w'.os=w.os
 tape:w'.tape=w.tape
 output:w'.output=w.output
 size:w.heap.size≤w'.heap.size
 block:∀ k,k<w.heap.size→¬ X k→w'.heap[k]?=w.heap[k]?
theorem KeepX.of_below {X:Nat→Prop}{w w':World}(h:Below w.heap.size w w'):KeepX X w w':=⟨h.os,h.tape,h.output,h.size,fun k lt _=>h.block k lt⟩
theorem KeepX.trans {X:Nat→Prop}{w w1 w2:World}(h:KeepX X w w1)(k:KeepX X w1 w2):KeepX X w w2:=⟨k.os.trans h.os,k.tape.trans h.tape,k.output.trans h.output,Nat.le_trans h.size k.size,fun i lt n=>(k.block i (Nat.lt_of_lt_of_le lt h.size) n).trans (h.block i lt n)⟩
theorem Keep.x {R:Nat}{w w':World}(h:Keep R w w'):KeepX (· = R) w w':=⟨h.os,h.tape,h.output,h.size,h.block⟩
theorem KeepX.one {R:Nat}{w w':World}(h:KeepX (· = R) w w'):Keep R w w':=⟨h.os,h.tape,h.output,h.size,h.block⟩
theorem But2.below {p:Nat}{w w1 w2:World}(h:But2 p w w1)(hb:Below w1.heap.size w1 w2):But2 p w w2:=⟨hb.os.trans h.os,hb.tape.trans h.tape,hb.output.trans h.output,Nat.le_trans h.size hb.size,fun k lt a b=>(hb.block k (Nat.lt_of_lt_of_le lt h.size)).trans (h.block k lt a b)⟩
theorem zAM {w:World}{cs:Array Value}{T:TypeId}{n:Nat}(h:w.heap.size=n):(w.alloc (.cells cs T)).heap[n]?=some (.cells cs T (0,0)):=by subst h;exact block_new w cs T
set_option maxRecDepth 1000000 in
set_option maxHeartbeats 1000000 in
theorem zKW {X:Nat→Prop}{F:Nat}{caps:Array Value}{w:World}{Q:Ans→World→Prop}(hR:∀ k,X k→k<w.heap.size)(hcf:∀ w:World,(callFunc F caps).run Tryz.prog w=.ok (.enter F caps) w)
  (hc:∀ W,Below w.heap.size w W→Calls Tryz.prog F caps W fun e w1=>∃ a,AnsE a e∧KeepX X W w1∧Q a w1):
  Calls Tryz.prog 230 #[.func (.func F) #[] caps] w fun e w'=>∃ a w1,Q a w1∧KeepX X w w1∧But2 w.heap.size w1 w'∧AnsR a w1.heap.size w' e:=by
 have hmf:∀ (fn:Fn) (first cap:Array Value) (w:World),(Instr.makeFunc fn first cap).run Tryz.prog w=.ok (.func fn first cap) w:=fun _ _ _ _=>rfl
 have hb:Below w.heap.size w ((w.alloc (.cells #[.nilIface] 69)).alloc (.cells #[.bool false] 4)):=((Below.refl _ _).alloc (Nat.le_refl _) _).alloc (by simp) _
 have hc:=hc _ hb
 have HB:Hid _:=hb
 clear hb
 go_enter_defers Tryz.func230,Tryz.ntmps230
 go_wp2_with fail
 refine hc.mono ?_
 rintro e w1 ⟨a,ha,hk,hq⟩
 have O1:Hid (One w1 w.heap.size .nilIface 69):=(hk.block _ (by simp;omega) (fun q=>by have:=hR _ q;omega)).trans (zA3 (heap_alloc_new _ _))
 have O2:Hid (One w1 (w.heap.size+1) (.bool false) 4):=(hk.block _ (by simp) (fun q=>by have:=hR _ q;omega)).trans (by have:=zAM (w:=w.alloc (.cells #[.nilIface] 69)) (cs:=#[.bool false]) (T:=4) (n:=w.heap.size+1) (by simp);exact this)
 have K1:Hid (KeepX X w w1):=(KeepX.of_below HB.out).trans hk
 have HQ:Hid (Q a w1):=hq
 have c0:w1.cell? ⟨w.heap.size,0,none⟩=some .nilIface:=zA0 O1.out rfl
 have c1:w1.cell? ⟨w.heap.size+1,0,none⟩=some (.bool false):=zA0 O2.out rfl
 have z0:w1.frozen? ⟨w.heap.size,0,none⟩=false:=zA1 O1.out
 have z1:w1.frozen? ⟨w.heap.size+1,0,none⟩=false:=zA1 O2.out
 have ls:=zA2 O2.out
 clear hc hk hq
 cases a with
 | val n=>
  have ha:e=.returned (.tuple #[.int .i64 n,.nilIface]):=ha
  subst ha
  go_wp2_with fail
  go_region
  all_goals
   go_wp2
   refine leaves_cons (f:=247) (args:=#[.pointer (some ⟨w.heap.size+1,0,none⟩),.pointer (some ⟨w.heap.size,0,none⟩)]) (by simp) (by simp[go_sem]) ?_
   refine(zLP (p:=w.heap.size+1) (q:=w.heap.size) _ ?_).mono ?_
   ·exact zA6 (zA4 (zA6 O2.out (by simp))) (by simp)
   rintro e u' w'' ⟨rfl,rfl,rfl⟩
   simp[Leaves,settle,results,Tryz.results230,go_sem,c0]
   refine⟨_,w1,HQ.out,K1.out,⟨rfl,rfl,rfl,by simp,fun k _ h1 h2=>?_⟩,rfl⟩
   exact(Below.heap_setCell _ _ _ k h1).trans ((Below.heap_setCell _ _ _ k h2).trans (Below.heap_setCell _ _ _ k h1))
 | fail n T x=>
  have ha:e=.returned (.tuple #[.int .i64 n,.iface T x]):=ha
  subst ha
  go_wp2_with fail
  go_region
  all_goals
   go_wp2
   refine leaves_cons (f:=247) (args:=#[.pointer (some ⟨w.heap.size+1,0,none⟩),.pointer (some ⟨w.heap.size,0,none⟩)]) (by simp) (by simp[go_sem]) ?_
   refine(zLP (p:=w.heap.size+1) (q:=w.heap.size) _ ?_).mono ?_
   ·exact zA6 (zA4 (zA6 O2.out (by simp))) (by simp)
   rintro e u' w'' ⟨rfl,rfl,rfl⟩
   simp[Leaves,settle,results,Tryz.results230,go_sem,c0]
   refine⟨_,w1,HQ.out,K1.out,⟨rfl,rfl,rfl,by simp,fun k _ h1 h2=>?_⟩,rfl⟩
   exact(Below.heap_setCell _ _ _ k h1).trans ((Below.heap_setCell _ _ _ k h2).trans (Below.heap_setCell _ _ _ k h1))
 | pan u pv=>
  have ha:e=.panicked [{ v:=.iface u pv,recovered:=false }]:=ha
  subst ha
  go_wp2
  refine leaves_cons (f:=247) (args:=#[.pointer (some ⟨w.heap.size+1,0,none⟩),.pointer (some ⟨w.heap.size,0,none⟩)]) (by simp) (by simp[go_sem]) ?_
  refine(zKC (p:=w.heap.size+1) (q:=w.heap.size) u pv [] _ O2.out O1.out).mono ?_
  rintro e u' w'' ⟨rfl,rfl,rfl⟩
  have OE:One ((w1.alloc (.cells #[.iface u pv] 205)).setCell ⟨w.heap.size,0,none⟩ (.iface 199 (ptr w1.heap.size))) w.heap.size (.iface 199 (ptr w1.heap.size)) 69:=zA4 (zA3 O1.out)
  have cE:=zA0 (i:=0) (v:=.iface 199 (ptr w1.heap.size)) OE rfl
  simp[Leaves,settle,results,Tryz.results230,go_sem,cE]
  refine⟨.pan u pv,w1,HQ.out,K1.out,⟨rfl,rfl,rfl,by simp,fun k lt h1 _=>?_⟩,rfl,?_⟩
  ·exact(Below.heap_setCell _ _ _ k h1).trans (Below.heap_alloc _ _ k lt)
  ·exact zA6 (heap_alloc_new _ _) (by show w1.heap.size≠w.heap.size;omega)
def zGN (w:World)(b p:Nat)(T:TypeId)(x:Value):Prop:=w.heap[b]?=some (.cells #[.int .i64 (p:Int),.iface T x] 198 (0,0))
set_option maxRecDepth 1000000 in
theorem zHE (p:Nat)(T:TypeId)(x:Value)(w:World):Calls Tryz.prog 175 #[.agg #[.int .i64 (p:Int)],.iface T x] w fun e w'=>∃ b,e=.returned (.iface 159 (ptr b))∧zGN w' b p T x∧Below w.heap.size w w':=by
 go_enter Tryz.func175,Tryz.ntmps175
 go_wp2
 go_ret
 exact⟨_,rfl,zAM (by simp),((Below.refl _ _).alloc (Nat.le_refl _) _).alloc (by simp) _⟩
def AskR : Ans→Nat→World→Ending→Prop
 | .val n,_,_,e=>e=.returned (.tuple #[.int .i64 n,.nilIface])
 | .fail _ T x,p,w,e=>∃ b,e=.returned (.tuple #[.int .i64 0,.iface 159 (ptr b)])∧zGN w b p T x
 | .pan u pv,p,w,e=>∃ b c,e=.returned (.tuple #[.int .i64 0,.iface 159 (ptr b)])∧zGN w b p 199 (ptr c)∧One w c (.iface u pv) 205
set_option maxRecDepth 1000000 in
set_option maxHeartbeats 1000000 in
theorem zQS {X:Nat→Prop}{F p:Nat}{caps:Array Value}{w:World}{Q:Ans→World→Prop}(hR:∀ k,X k→k<w.heap.size)(hcf:∀ w:World,(callFunc F caps).run Tryz.prog w=.ok (.enter F caps) w)
  (hc:∀ W,Below w.heap.size w W→Calls Tryz.prog F caps W fun e w1=>∃ a,AnsE a e∧KeepX X W w1∧Q a w1):
  Calls Tryz.prog 211 #[.agg #[.int .i64 (p:Int)],.func (.func F) #[] caps] w fun e w'=>∃ a w1,Q a w1∧KeepX X w w1∧But2 (w.heap.size+1) w1 w'∧AskR a p w' e:=by
 have hb:Below w.heap.size w (w.alloc (.cells #[.int .i64 (p:Int)] 153)):=(Below.refl _ _).alloc (Nat.le_refl _) _
 have hp:(w.alloc (.cells #[.int .i64 (p:Int)] 153)).heap[w.heap.size]?=some (.cells #[.int .i64 (p:Int)] 153 (0,0)):=heap_alloc_new _ _
 have hr:=zKW (X:=X) (F:=F) (caps:=caps) (w:=w.alloc (.cells #[.int .i64 (p:Int)] 153)) (Q:=Q) (fun k q=>by have:=hR k q;simp;omega) hcf (fun W hW=>hc W (hb.trans (hW.mono (by simp))))
 have HX:Hid _:=And.intro hb hp
 clear hc hb hp
 go_enter Tryz.func211,Tryz.ntmps211
 go_wp2_with fail
 refine hr.mono ?_
 rintro e w' ⟨a,w1,hq,hk,hb2,ha⟩
 have HQ:Hid (Q a w1∧KeepX X w w1∧But2 (w.heap.size+1) w1 w'):=⟨hq,(KeepX.of_below HX.out.1).trans hk,by simpa using hb2⟩
 have P1:Hid (w'.heap[w.heap.size]?=some (.cells #[.int .i64 (p:Int)] 153 (0,0))):=(hb2.block _ (by have:=hk.size;simp at this;omega) (by simp) (by simp;omega)).trans ((hk.block _ (by simp) (fun q=>by have:=hR _ q;omega)).trans HX.out.2)
 have c0:w'.cell? ⟨w.heap.size,0,none⟩=some (.int .i64 (p:Int)):=zA0 P1.out rfl
 clear hr hk hb2 hq
 cases a with
 | val n=>
  have ha:e=_:=ha
  subst ha
  go_wp2
  go_ret2
  exact⟨.val n,w1,HQ.out.1,HQ.out.2.1,HQ.out.2.2,rfl⟩
 | fail n T x=>
  have ha:e=_:=ha
  subst ha
  have hh:=zHE p T x w'
  go_wp2_with fail
  refine hh.mono ?_
  rintro e w2 ⟨b,rfl,hh2,hb3⟩
  have HH:Hid _:=And.intro hh2 hb3
  clear hh hh2 hb3
  go_wp2
  go_ret2
  refine⟨.fail n T x,w1,HQ.out.1,HQ.out.2.1,?_,b,rfl,HH.out.1⟩
  exact HQ.out.2.2.below HH.out.2
 | pan u pv=>
  obtain⟨ha,ho⟩:=ha
  subst ha
  have HO:Hid _:=ho
  have hh:=zHE p 199 (ptr w1.heap.size) w'
  clear ho
  go_wp2_with fail
  refine hh.mono ?_
  rintro e w2 ⟨b,rfl,hh2,hb3⟩
  have HH:Hid _:=And.intro hh2 hb3
  clear hh hh2 hb3
  go_wp2
  go_ret2
  refine⟨.pan u pv,w1,HQ.out.1,HQ.out.2.1,HQ.out.2.2.below HH.out.2,b,_,rfl,HH.out.1,?_⟩
  exact(HH.out.2.block _ (zA2 HO.out)).trans HO.out
inductive Why where
 | divide
 | noData
 | failed
 | panic (n:Int)
inductive Res where
 | val (n:Int)
 | held (p:Nat) (why:Why)
def zOT (A:Nat→Addr)(w:World):Why→TypeId→Value→Prop
 | .divide,T,x=>T=416∧x=.pointer (some (A 5))
 | .noData,T,x=>T=416∧x=.pointer (some (A 6))
 | .failed,T,x=>T=200∧∃ c,x=ptr c
 | .panic n,T,x=>T=199∧∃ c,x=ptr c∧One w c (.iface 2 (.int .i64 n)) 205
theorem zOT.below {A:Nat→Addr}{w w':World}{y:Why}{T:TypeId}{x:Value}(h:zOT A w y T x)(hb:Below w.heap.size w w'):zOT A w' y T x:=by
 cases y with
 | divide=>exact h
 | noData=>exact h
 | failed=>exact h
 | panic n=>
  obtain⟨h1,c,h2,h3⟩:=h
  exact⟨h1,c,h2,(hb.block c (zA2 h3)).trans h3⟩
section
variable {σ:Type}
def EvR (A:Nat→Addr)(S:σ→World→Prop)(r:Res × σ)(w:World)(e:Ending):Prop:=
 match r with
 | (.val n,s)=>e=.returned (.tuple #[.int .i64 n,.nilIface])∧In64 n∧S s w
 | (.held p y,s)=>∃ b T x,e=.returned (.tuple #[.int .i64 0,.iface 159 (ptr b)])∧zGN w b p T x∧zOT A w y T x∧S s w
def Runs (A:Nat→Addr)(S:σ→World→Prop)(R:Nat)(lv mv:Value)(v:Value)(m:σ→Res × σ)(w0:World):Prop:=
 ∃ f caps,v=.func (.func f) #[] caps∧(∀ (args:Array Value) (w:World),(callFunc f (args ++ caps)).run Tryz.prog w=.ok (.enter f (args ++ caps)) w) ∧
  ∀ s w,Keep R w0 w→S s w→Calls Tryz.prog f (#[.agg #[lv,mv]] ++ caps) w fun e w'=>Keep R w w'∧EvR A S (m s) w' e
theorem Runs.later {A:Nat→Addr}{S:σ→World→Prop}{R:Nat}{lv mv v:Value}{m:σ→Res × σ}{w0 w1:World}(h:Runs A S R lv mv v m w0)(hk:Keep R w0 w1):Runs A S R lv mv v m w1:=by
 obtain⟨f,caps,h1,h2,h3⟩:=h
 exact⟨f,caps,h1,h2,fun s w k hs=>h3 s w (hk.trans k) hs⟩
def Stable (S:σ→World→Prop):Prop:=∀ s w w',S s w→Below w.heap.size w w'→S s w'
variable {A:Nat→Addr} {S:σ→World→Prop} {R:Nat} {lv mv:Value} {w0:World}
def zBI (m:σ→Res × σ)(k:Int→σ→Res × σ):σ→Res × σ:=fun s=>
 match m s with
 | (.val n,s1)=>k n s1
 | r=>r
theorem EvR.below (hS:Stable S){r:Res × σ}{w w':World}{e:Ending}(h:EvR A S r w e)(hb:Below w.heap.size w w'):EvR A S r w' e:=by
 obtain⟨r,s⟩:=r
 cases r with
 | val n=>exact⟨h.1,h.2.1,hS _ _ _ h.2.2 hb⟩
 | held p y=>
  obtain⟨b,T,x,h1,h2,h3,h4⟩:=h
  exact⟨b,T,x,h1,(hb.block b (zA2 h2)).trans h2,h3.below hb,hS _ _ _ h4 hb⟩
def zF4 (m1 m2:σ→Res × σ)(k:Int→Int→σ→Res × σ):σ→Res × σ:=zBI m1 fun x=>zBI m2 fun y=>k x y
def BothR (A:Nat→Addr)(S:σ→World→Prop)(m1 m2:σ→Res × σ)(s:σ)(w:World)(e:Ending):Prop:=
 (∃ x y s2,e=.returned (.tuple #[.int .i64 x,.int .i64 y,.nilIface])∧In64 x∧In64 y∧S s2 w∧∀ k,zF4 m1 m2 k s=k x y s2) ∨
 (∃ p why s2 b T x,e=.returned (.tuple #[.int .i64 0,.int .i64 0,.iface 159 (ptr b)])∧zGN w b p T x∧zOT A w why T x∧S s2 w∧∀ k,zF4 m1 m2 k s=(.held p why,s2))
end
def reck (k:Nat)(x y:Int):Int:=
 if k=43 then clip (x+y) else if k=45 then clip (x - y) else if k=42 then clip (x * y)
 else if k=60 then(if x<y then 1 else 0) else if k=62 then(if y<x then 1 else 0) else if k=61 then(if x=y then 1 else 0) else 0
theorem reck_in (k:Nat)(x y:Int):In64 (reck k x y):=by
 unfold reck
 repeat' split
 all_goals first | exact zH1 _ | (unfold In64;omega)
set_option maxRecDepth 1000000 in
theorem zI9 (b:Bool)(w:World):Calls Tryz.prog 186 #[.bool b] w fun e w'=>e=.returned (.int .i64 (if b=true then 1 else 0))∧w'=w:=by
 cases b <;>
 ·go_enter Tryz.func186,Tryz.ntmps186
  go_wp2
  go_ret
  exact⟨rfl,rfl⟩
set_option maxRecDepth 1000000 in
theorem code_less (x y:Int)(w:World):Calls Tryz.prog 185 #[.int .i64 x,.int .i64 y] w fun e w'=>e=.returned (.int .i64 (if x<y then 1 else 0))∧w'=w:=by
 have ho:=zI9 (decide (x<y)) w
 go_enter Tryz.func185,Tryz.ntmps185
 go_wp2_with fail
 refine ho.mono ?_
 rintro e w' ⟨rfl,hw⟩
 have hw:=hw.symm
 subst hw
 go_wp2
 all_goals
  go_ret
  exact⟨rfl,rfl⟩
set_option maxRecDepth 1000000 in
theorem code_more (x y:Int)(w:World):Calls Tryz.prog 187 #[.int .i64 x,.int .i64 y] w fun e w'=>e=.returned (.int .i64 (if y<x then 1 else 0))∧w'=w:=by
 have ho:=zI9 (decide (y<x)) w
 go_enter Tryz.func187,Tryz.ntmps187
 go_wp2_with fail
 refine ho.mono ?_
 rintro e w' ⟨rfl,hw⟩
 have hw:=hw.symm
 subst hw
 go_wp2
 all_goals
  go_ret
  exact⟨rfl,rfl⟩
set_option maxRecDepth 1000000 in
theorem code_even (x y:Int)(w:World):Calls Tryz.prog 188 #[.int .i64 x,.int .i64 y] w fun e w'=>e=.returned (.int .i64 (if x=y then 1 else 0))∧w'=w:=by
 have ho:=zI9 (x == y) w
 go_enter Tryz.func188,Tryz.ntmps188
 go_wp2_with fail
 refine ho.mono ?_
 rintro e w' ⟨rfl,hw⟩
 have hw:=hw.symm
 subst hw
 go_wp2
 all_goals
  go_ret
  exact⟨rfl,rfl⟩
set_option maxRecDepth 1000000 in
theorem reck_runs {k:Nat}(hk:k=43∨k=45∨k=42∨k=60∨k=62∨k=61):∃ f,zET k=.func (.func f) #[] #[]∧(∀ (args:Array Value) (w:World),(callFunc f args).run Tryz.prog w=.ok (.enter f args) w) ∧
  ∀ x y w,In64 x→In64 y→Calls Tryz.prog f #[.int .i64 x,.int .i64 y] w fun e w'=>e=.returned (.int .i64 (reck k x y))∧w'=w:=by
 rcases hk with rfl | rfl | rfl | rfl | rfl | rfl
 ·exact⟨_,rfl,fun _ _=>by rfl,fun x y w hx hy=>b_Sum hx hy w⟩
 ·exact⟨_,rfl,fun _ _=>by rfl,fun x y w hx hy=>zIW hx hy w⟩
 ·exact⟨_,rfl,fun _ _=>by rfl,fun x y w hx hy=>b_Product hx hy w⟩
 ·exact⟨_,rfl,fun _ _=>by rfl,fun x y w _ _=>code_less x y w⟩
 ·exact⟨_,rfl,fun _ _=>by rfl,fun x y w _ _=>code_more x y w⟩
 ·exact⟨_,rfl,fun _ _=>by rfl,fun x y w _ _=>code_even x y w⟩
section
variable {σ:Type} {A:Nat→Addr} {S:σ→World→Prop} {R:Nat} {lv mv:Value} {w0:World}
end
end Go.Proofs.YtbokdbaagacnlaaGreatDoor
