import Derived.Test.YtbokdbaagacnlaaGreatDoorJQ8
import Derived.Lib.SliceRun
namespace Go.Proofs.YtbokdbaagacnlaaGreatDoor.Win
def inW (wid now t:Int):Bool:=decide (0<wid) && decide (now<t+wid)
def keptR {α:Type}(wid now:Int)(l:List (Int × α)):List (Int × α):=
 (l.filter (fun x=>inW wid now x.1)).drop ((l.filter (fun x=>inW wid now x.1)).length - 16)
def trim {α:Type}(wid now:Int)(k:List (Int × α)):List (Int × α):=(k.drop (k.length - 16)).dropWhile (fun x=>!inW wid now x.1)
def Up {α:Type}:List (Int × α)→Prop
 | []=>True
 | x :: l=>(∀ y∈l,x.1≤y.1)∧Up l
def AllLe {α:Type}(now:Int)(l:List (Int × α)):Prop:=∀ x∈l,x.1≤now
section
variable {α:Type} {wid now t:Int}
theorem Up.snoc {l:List (Int × α)}{x:Int × α}(h:Up l)(hx:AllLe x.1 l):Up (l ++ [x]):=by
 induction l with
 | nil=>simp[Up]
 | cons y l ih=>
  obtain⟨h1,h2⟩:=h
  refine⟨fun z hz=>?_,ih h2 (fun z hz=>hx z (List.mem_cons_of_mem _ hz))⟩
  rcases List.mem_append.1 hz with hz | hz
  ·exact h1 z hz
  ·rw[List.mem_singleton.1 hz];exact hx y (List.mem_cons_self ..)
theorem AllLe.mono {l:List (Int × α)}(h:AllLe now l)(ht:now≤t):AllLe t l:=fun x hx=>Int.le_trans (h x hx) ht
theorem AllLe.snoc {l:List (Int × α)}{x:Int × α}(h:AllLe now l)(hx:now≤x.1):AllLe x.1 (l ++ [x]):=by
 intro y hy
 rcases List.mem_append.1 hy with hy | hy
 ·exact Int.le_trans (h y hy) hx
 ·rw[List.mem_singleton.1 hy];exact Int.le_refl _
theorem inW_up {a b:Int}(h:inW wid now a=true)(hab:a≤b):inW wid now b=true:=by
 simp[inW] at h ⊢
 omega
theorem inW_down {a:Int}(ht:now≤t)(h:inW wid now a=false):inW wid t a=false:=by
 simp[inW] at h ⊢
 omega
def zES (wid now:Int)(l:List (Int × α)):Nat:=(l.takeWhile (fun x=>!inW wid now x.1)).length
theorem zKG (l:List (Int × α)):zES wid now l≤l.length:=by
 unfold zES
 induction l with
 | nil=>simp
 | cons x l ih=>
  rw[List.takeWhile_cons]
  split <;> simp <;> omega
theorem zER (x:Int × α)(l:List (Int × α)):zES wid now (x :: l)=if inW wid now x.1=true then 0 else zES wid now l+1:=by
 unfold zES
 rw[List.takeWhile_cons]
 cases inW wid now x.1 <;> simp
theorem filter_up {l:List (Int × α)}(h:Up l):l.filter (fun x=>inW wid now x.1)=l.drop (zES wid now l):=by
 induction l with
 | nil=>simp
 | cons x l ih=>
  rw[zER]
  cases hx:inW wid now x.1 with
  | true=>
   have:∀ y∈x :: l,inW wid now y.1=true:=by
    intro y hy
    rcases List.mem_cons.1 hy with rfl | hy
    ·exact hx
    ·exact inW_up hx (h.1 y hy)
   rw[List.filter_eq_self.2 this]
   simp
  | false=>
   rw[List.filter_cons]
   simp[hx,ih h.2]
theorem zKP {l:List (Int × α)}(h:Up l):∀ d,(l.drop d).dropWhile (fun x=>!inW wid now x.1)=l.drop (max d (zES wid now l)):=by
 induction l with
 | nil=>simp
 | cons x l ih=>
  intro d
  rw[zER]
  cases d with
  | zero=>
   cases hx:inW wid now x.1 with
   | true=>simp[hx]
   | false=>
    have:=ih h.2 0
    simp at this
    simp[hx,this]
  | succ d=>
   have e:=ih h.2 d
   simp only[List.drop_succ_cons]
   rw[e]
   cases hx:inW wid now x.1 with
   | true=>
    have:zES wid now l=0:=by
     cases l with
     | nil=>rfl
     | cons y l=>rw[zER,if_pos (inW_up hx (h.1 y (List.mem_cons_self ..)))]
    simp[this]
   | false=>
    have:max (d+1) (zES wid now l+1)=max d (zES wid now l)+1:=by omega
    simp[this]
theorem zI2 {l:List (Int × α)}(h:Up l):keptR wid now l=l.drop (max (zES wid now l) (l.length - 16)):=by
 unfold keptR
 have:=zKG (wid:=wid) (now:=now) l
 rw[filter_up h,List.length_drop,List.drop_drop]
 congr 1
 omega
theorem zN5 {l:List (Int × α)}(h:Up l){d:Nat}(hd:d≤l.length)(hm:d≤max (zES wid t l) (l.length - 16)):trim wid t (l.drop d)=keptR wid t l:=by
 unfold trim
 rw[List.length_drop,List.drop_drop,zKP h,zI2 h]
 congr 1
 omega
theorem zKF (ht:now≤t)(l m:List (Int × α)):zES wid now l≤zES wid t (l ++ m):=by
 induction l with
 | nil=>simp[zES]
 | cons x l ih=>
  rw[List.cons_append,zER,zER]
  cases hx:inW wid now x.1 with
  | true=>simp
  | false=>simp[inW_down ht hx,ih]
theorem trim_advance {l:List (Int × α)}(h:Up l)(ht:now≤t):trim wid t (keptR wid now l)=keptR wid t l:=by
 rw[zI2 h]
 have h1:=zKG (wid:=wid) (now:=now) l
 have h2:=zKF (wid:=wid) ht l []
 rw[List.append_nil] at h2
 exact zN5 h (by omega) (by omega)
theorem trim_push {l:List (Int × α)}(h:Up l)(hl:AllLe now l){v:α}(ht:now≤t):trim wid t (keptR wid now l ++ [(t,v)])=keptR wid t (l ++ [(t,v)]):=by
 have h1:=zKG (wid:=wid) (now:=now) l
 have h2:=zKF (wid:=wid) ht l [(t,v)]
 have hu:Up (l ++ [(t,v)]):=h.snoc (hl.mono ht)
 rw[zI2 h,←List.drop_append_of_le_length (by omega)]
 exact zN5 hu (by simp;omega) (by simp;omega)
theorem keptR_length (l:List (Int × α)):(keptR wid now l).length≤16:=by
 unfold keptR
 rw[List.length_drop]
 omega
theorem zLB (x:Int × α)(l:List (Int × α)):keptR wid now (x :: l)=if (keptR wid now l).length<16∧inW wid now x.1=true then x :: keptR wid now l else keptR wid now l:=by
 unfold keptR
 rw[List.filter_cons,List.length_drop]
 cases hx:inW wid now x.1 with
 | false=>simp
 | true=>
  simp only[if_true,List.length_cons]
  generalize l.filter (fun x=>inW wid now x.1)=f
  by_cases hf:f.length<16
  ·rw[if_pos ⟨by omega,trivial⟩,show f.length+1 - 16=0 by omega,show f.length - 16=0 by omega]
   simp
  ·rw[if_neg (by omega),show f.length+1 - 16=(f.length - 16)+1 by omega]
   simp
theorem zLA : ∀ (a b:List (Int × α)),¬ (keptR wid now b).length<16→keptR wid now (a ++ b)=keptR wid now b
 | [],b,_=>rfl
 | x :: a,b,h=>by
  have ih:=zLA a b h
  rw[List.cons_append,zLB,ih,if_neg (fun k=>h k.1)]
theorem zIM {p:Int × α→Bool}:∀ (l:List (Int × α)) (m:Nat),m≤l.length→(∀ j,j<m→∀ x,l[j]?=some x→p x=true)→(∀ x,l[m]?=some x→p x=false)→l.dropWhile p=l.drop m
 | [],m,_,_,_=>by simp
 | x :: l,0,_,_,h=>by
  have:=h x (by simp)
  simp[this]
 | x :: l,m+1,hm,h1,h2=>by
  have hx:=h1 0 (by omega) x (by simp)
  rw[List.dropWhile_cons,if_pos hx,List.drop_succ_cons]
  exact zIM l m (by simpa using hm) (fun j hj y hy=>h1 (j+1) (by omega) y (by simpa using hy)) (fun y hy=>h2 y (by simpa using hy))
theorem trim_at {k:List (Int × α)}{i:Nat}(h1:k.length - 16≤i)(h2:i≤k.length)(h3:∀ j,k.length - 16≤j→j<i→∀ x,k[j]?=some x→inW wid now x.1=false)(h4:∀ x,k[i]?=some x→inW wid now x.1=true):trim wid now k=k.drop i:=by
 unfold trim
 rw[zIM (k.drop (k.length - 16)) (i - (k.length - 16)) (by rw[List.length_drop];omega),List.drop_drop]
 ·congr 1
  omega
 ·intro j hj x hx
  rw[List.getElem?_drop] at hx
  rw[h3 _ (by omega) (by omega) x hx]
  rfl
 ·intro x hx
  rw[List.getElem?_drop,show k.length - 16+(i - (k.length - 16))=i by omega] at hx
  rw[h4 x hx]
  rfl
end
def foremost {α:Type}(ahead:α→α→Bool):List α→Option α
 | []=>none
 | a :: l=>some (l.foldl (fun f x=>if ahead x f=true then x else f) a)
end Go.Proofs.YtbokdbaagacnlaaGreatDoor.Win
namespace Go.Proofs.YtbokdbaagacnlaaGreatDoor.Win
open Go.RowKit Go.Lib
structure Only (P:Nat→Prop) (w w':World):Prop where
 os:w'.os=w.os
 tape:w'.tape=w.tape
 output:w'.output=w.output
 size:w.heap.size≤w'.heap.size
 block:∀ k,k<w.heap.size→¬ P k→w'.heap[k]?=w.heap[k]?
namespace Only
variable {P Q:Nat→Prop} {w w1 w2:World}
theorem refl (P:Nat→Prop)(w:World):Only P w w:=⟨rfl,rfl,rfl,Nat.le_refl _,fun _ _ _=>rfl⟩
theorem trans (h:Only P w w1)(k:Only Q w1 w2)(hq:∀ b,b<w.heap.size→Q b→P b):Only P w w2:=
 ⟨k.os.trans h.os,k.tape.trans h.tape,k.output.trans h.output,Nat.le_trans h.size k.size,fun i hi hne=>(k.block i (Nat.lt_of_lt_of_le hi h.size) (fun q=>hne (hq i hi q))).trans (h.block i hi hne)⟩
theorem mono (h:Only P w w1)(hq:∀ b,b<w.heap.size→P b→Q b):Only Q w w1:=⟨h.os,h.tape,h.output,h.size,fun k hk hn=>h.block k hk (fun q=>hn (hq k hk q))⟩
theorem of_below (h:Below w.heap.size w w1):Only P w w1:=⟨h.os,h.tape,h.output,h.size,fun k hk _=>h.block k hk⟩
theorem below (h:Only P w w1){B:Nat}(hB:B≤w.heap.size)(hP:∀ b,P b→B≤b):Below B w w1:=⟨h.os,h.tape,h.output,h.size,fun k hk=>h.block k (by omega) (fun q=>by have:=hP k q;omega)⟩
theorem alloc (h:Only P w w1)(o:Obj):Only P w (w1.alloc o):=
 ⟨h.os,h.tape,h.output,by simp;exact Nat.le_succ_of_le h.size,fun k hk hne=>(Below.heap_alloc w1 o k (Nat.lt_of_lt_of_le hk h.size)).trans (h.block k hk hne)⟩
theorem drew (h:Only P w w1):Only P w w1.drew:=⟨h.os,h.tape,h.output,h.size,h.block⟩
theorem drewN (h:Only P w w1)(n:Nat):Only P w (w1.drewN n):=⟨h.os,h.tape,h.output,h.size,h.block⟩
theorem setCell (h:Only P w w1){a:Addr}(ha:a.block<w.heap.size→P a.block)(v:Value):Only P w (w1.setCell a v):=
 ⟨h.os,h.tape,h.output,by simp;exact h.size,fun k hk hne=>(Below.heap_setCell w1 _ v k (fun e=>by subst e;exact hne (ha hk))).trans (h.block k hk hne)⟩
theorem grown (h:Only P w w1){row:Option Nat}(hg:w1.grownBy w2 row)(hr:∀ b,b<w.heap.size→row=some b→P b):Only P w w2:=
 ⟨hg.os.trans h.os,hg.tape.trans h.tape,hg.output.trans h.output,Nat.le_trans h.size hg.size,fun k hk hne=>(hg.block k (Nat.lt_of_lt_of_le hk h.size) (fun e=>hne (hr k hk e.symm))).trans (h.block k hk hne)⟩
theorem heap (h:Only P w w1){k:Nat}{o:Obj}(hk:w.heap[k]?=some o)(hne:¬ P k):w1.heap[k]?=some o:=(h.block k (zA2 hk) hne).trans hk
theorem cell (h:Only P w w1){a:Addr}{v:Value}(hc:w.cell? a=some v)(hne:¬ P a.block):w1.cell? a=some v:=
 (World.cell?_of_block (h.block a.block (World.block_lt_of_cell? w a hc) hne)).trans hc
theorem owns (h:Only P w w1){base e size n:Nat}{v:Value}{xs:List Value}(ho:w.ownsRow base e size v n xs)(hne:∀ g,v.ownBlock=some g→¬ P g):w1.ownsRow base e size v n xs:=by
 refine⟨ho.1,?_⟩
 rcases ho.2 with hn | ⟨g,cap,cur,rfl,hbg,hg,rest⟩
 ·exact .inl hn
 ·exact .inr ⟨g,cap,cur,rfl,hbg,h.heap hg (hne g rfl),rest⟩
end Only
theorem below_drewN {B:Nat}{w w1:World}(h:Below B w w1)(n:Nat):Below B w (w1.drewN n):=⟨h.os,h.tape,h.output,h.size,h.block⟩
theorem cell_past {w:World}{a:Addr}{v:Value}(h:w.cell? a=some v)(o:Obj):(w.alloc o).cell? a=some v:=
 (World.cell?_of_block (Below.heap_alloc w o a.block (World.block_lt_of_cell? w a h))).trans h
theorem block_new (w:World)(cs:Array Value)(T:TypeId):(w.alloc (.cells cs T)).heap[w.heap.size]?=some (.cells cs T (0,0)):=heap_alloc_new w _
theorem cells_two_new (w:World)(a b:Value)(T:TypeId):∀ (j:Nat) (u:Value),[a,b][j]?=some u→(w.alloc (.cells #[a,b] T)).cell? ((⟨w.heap.size,0,none⟩:Addr).add j)=some u:=by
 intro j u hu
 rw[Addr.add_lit]
 refine zA0 (block_new w #[a,b] T) ?_
 rw[Nat.zero_add]
 simpa using hu
theorem two_one {a b:Value}(ha:a.oneCell'=true)(hb:b.oneCell'=true):∀ u∈[a,b],u.oneCell'=true:=by
 intro u hu
 simp only[List.mem_cons,List.not_mem_nil,or_false] at hu
 rcases hu with rfl | rfl
 ·exact ha
 ·exact hb
theorem kind_ne {w:World}{a b:Nat}{cs ds:Array Value}{T U:Nat}{y z:Nat × Nat}(h:w.heap[a]?=some (.cells cs T y))(k:w.heap[b]?=some (.cells ds U z))(hne:T≠U):a≠b:=by
 intro e
 subst e
 rw[h] at k
 injection k with k
 injection k with _ k
 exact hne k
theorem row_ne {w:World}{a base e size n:Nat}{cs:Array Value}{T:Nat}{y:Nat × Nat}{v:Value}{xs:List Value}(h:w.heap[a]?=some (.cells cs T y))(ho:w.ownsRow base e size v n xs)(hne:e≠T):v.ownBlock≠some a:=by
 intro e'
 obtain⟨c,fz,q⟩:=ownsRow_kind ho a e'
 exact kind_ne q h hne rfl
theorem owns_slice {w:World}{base e size n:Nat}{v:Value}{xs:List Value}(h:w.ownsRow base e size v n xs):∃ ao cp,v=.slice ao n cp:=by
 rcases h.2 with⟨rfl,rfl⟩ | ⟨g,cap,cur,rfl,-⟩
 ·exact⟨_,_,rfl⟩
 ·exact⟨_,_,rfl⟩
theorem zFL {g T:Nat}{z:Nat × Nat}:∀ (vs:List Value) (o:Nat) (w:World) (cs:Array Value),w.heap[g]?=some (.cells cs T z)→o+vs.length≤cs.size →
  ∃ cs',(w.setCells g o vs).heap[g]?=some (.cells cs' T z)∧cs'.size=cs.size∧cs'.toList=cs.toList.take o ++ vs ++ cs.toList.drop (o+vs.length)
 | [],o,w,cs,h,_=>⟨cs,h,rfl,by simp⟩
 | v :: vs,o,w,cs,h,hl=>by
  have hl':o+1+vs.length≤cs.size:=by simp at hl;omega
  obtain⟨cs',h1,h2,h3⟩:=zFL vs (o+1) (w.setCell ⟨g,o,none⟩ v) _ (zA4 (i:=o) (v:=v) h) (by simp;omega)
  refine⟨cs',h1,by simpa using h2,?_⟩
  rw[h3]
  have ho:o<cs.toList.length:=by simp;omega
  simp only[Array.toList_setIfInBounds]
  rw[List.take_set,List.drop_set_of_lt (by omega),List.take_succ_eq_append_getElem ho,List.set_append_right _ _ (by simp;omega)]
  simp[show o+1+vs.length=o+(vs.length+1) by omega,Nat.min_eq_left (Nat.le_of_lt (by simpa using ho):o≤cs.size)]
theorem Only.setCells {P:Nat→Prop}{g:Nat}{w:World}(hg:g<w.heap.size→P g):∀ (vs:List Value) (o:Nat) (w1:World),Only P w w1→Only P w (w1.setCells g o vs)
 | [],_,_,h=>h
 | v :: vs,o,_,h=>Only.setCells hg vs (o+1) _ (h.setCell (a:=⟨g,o,none⟩) hg v)
theorem zM2 {P:Program}(w:World)(t e ty:TypeId)(z:Value)(ht:P.underlying t=some (.slice e))(hv:∀ w,(zeroValue e).run P w=.ok z w)(b o n c:Nat)(hn:0<n)
  (hc:∀ j,j<(Builtin.zeroCells z.cells n).toList.length→(w.cell? ⟨b,o+j,none⟩).isSome=true) (hf:∀ j,j<(Builtin.zeroCells z.cells n).toList.length→w.frozen? ⟨b,o+j,none⟩=false) (h1:∀ v∈(Builtin.zeroCells z.cells n).toList,v.oneCell'=true):
  (Builtin.clear_ #[t] ty #[.slice (some ⟨b,o,none⟩) n c]).run P w=.ok (.tuple #[]) (w.setCells b o (Builtin.zeroCells z.cells n).toList):=by
 have hst:=run_storeCells_cells (P:=P) b o (Builtin.zeroCells z.cells n).toList 0 w (by simpa using hc) (by simpa using hf) h1
 simp only[Nat.add_zero] at hst
 obtain⟨m,rfl⟩:∃ m,n=m+1:=⟨n - 1,by omega⟩
 simp[Builtin.clear_,run_underlying ht,hv,hst]
abbrev Mine (R:Nat)(mv:Value):Nat→Prop:=fun b=>b=R∨mv.ownBlock=some b
section
variable {α:Type} (enc:α→Value)
def sCells (l:List (Int × α)):List Value:=l.flatMap fun x=>[.int .i64 x.1,enc x.2]
theorem zEH (x:Int × α)(l:List (Int × α)):sCells enc (x :: l)=.int .i64 x.1 :: enc x.2 :: sCells enc l:=by simp[sCells]
theorem sCells_append (l m:List (Int × α)):sCells enc (l ++ m)=sCells enc l ++ sCells enc m:=by simp[sCells]
theorem zCG : ∀ l:List (Int × α),(sCells enc l).length=l.length * 2
 | []=>rfl
 | x :: l=>by rw[zEH];simp[zCG l];omega
theorem zG7 : ∀ (l:List (Int × α)) (i:Nat) (x:Int × α),l[i]?=some x→(sCells enc l)[i * 2]?=some (.int .i64 x.1)∧(sCells enc l)[i * 2+1]?=some (enc x.2)
 | [],i,x,h=>by simp at h
 | y :: l,0,x,h=>by
  obtain rfl:y=x:=by simpa using h
  rw[zEH]
  simp
 | y :: l,i+1,x,h=>by
  have ih:=zG7 l i x (by simpa using h)
  rw[zEH,show (i+1) * 2=i * 2+1+1 by omega]
  simpa using ih
theorem zJP : ∀ (l:List (Int × α)) (i:Nat),sCells enc (l.drop i)=(sCells enc l).drop (i * 2)
 | [],i=>by simp[sCells]
 | y :: l,0=>by simp
 | y :: l,i+1=>by
  rw[List.drop_succ_cons,zJP l i,zEH,show (i+1) * 2=i * 2+1+1 by omega]
  simp
theorem zHQ (henc:∀ x,(enc x).oneCell'=true)(l:List (Int × α)):∀ u∈sCells enc l,u.oneCell'=true:=by
 intro u hu
 unfold sCells at hu
 obtain⟨x,-,hx⟩:=List.mem_flatMap.1 hu
 simp at hx
 rcases hx with rfl | rfl
 ·rfl
 ·exact henc _
def I64 (n:Int):Prop:=-9223372036854775808≤n∧n≤9223372036854775807
structure Win (T sT:Nat) (w:World) (R:Nat) (wid tm:Int) (k:List (Int × α)) (mv:Value):Prop where
 blk:w.heap[R]?=some (.cells #[.int .i64 wid,.int .i64 tm,mv] T (0,0))
 own:w.ownsRow 0 sT 2 mv k.length (sCells enc k)
 wid64:I64 wid
 tm64:I64 tm
 times:∀ x∈k,I64 x.1
 len:k.length≤17
variable {enc}
theorem Win.only {T sT:Nat}{w w':World}{R:Nat}{wid tm:Int}{k:List (Int × α)}{mv:Value}{P:Nat→Prop}(h:Win enc T sT w R wid tm k mv)(ho:Only P w w')(h1:¬ P R)(h2:∀ g,mv.ownBlock=some g→¬ P g):Win enc T sT w' R wid tm k mv:=
 ⟨ho.heap h.blk h1,ho.owns h.own h2,h.wid64,h.tm64,h.times,h.len⟩
theorem Win.below {T sT:Nat}{w w':World}{R:Nat}{wid tm:Int}{k:List (Int × α)}{mv:Value}(h:Win enc T sT w R wid tm k mv)(hb:Below w.heap.size w w'):Win enc T sT w' R wid tm k mv:=
 h.only (P:=fun _=>False) (.of_below hb) id (fun _ _=>id)
theorem Win.cells {T sT:Nat}{w:World}{R:Nat}{wid tm:Int}{k:List (Int × α)}{mv:Value}(h:Win enc T sT w R wid tm k mv){i:Nat}{x:Int × α}(hx:k[i]?=some x):
  ∃ g cp,mv=.slice (some ⟨g,0,none⟩) k.length cp∧w.cell? ⟨g,i * 2,none⟩=some (.int .i64 x.1)∧w.cell? ⟨g,i * 2+1,none⟩=some (enc x.2):=by
 have hi:i<k.length:=(List.getElem?_eq_some_iff.1 hx).1
 obtain⟨q1,q2⟩:=zG7 enc k i x hx
 rcases h.own.2 with⟨-,h0⟩ | ⟨g,cap,cur,rfl,-,hg,hnc,hcm,hcs,htake⟩
 ·omega
 refine⟨g,cap,rfl,?_,?_⟩
 ·rw[←htake,List.getElem?_take,if_pos (by omega)] at q1
  simpa[World.cell?,hg] using q1
 ·rw[←htake,List.getElem?_take,if_pos (by omega)] at q2
  simpa[World.cell?,hg] using q2
end
end Go.Proofs.YtbokdbaagacnlaaGreatDoor.Win
