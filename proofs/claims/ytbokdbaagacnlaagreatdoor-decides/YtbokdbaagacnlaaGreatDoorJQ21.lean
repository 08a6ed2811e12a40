import Derived.Test.YtbokdbaagacnlaaGreatDoorJQ20
namespace Go.Proofs.YtbokdbaagacnlaaGreatDoor
open Go.RowKit Go.Lib
inductive PFound where
 | val (n:Int)
 | fail
 | pan (n:Int)
def ints (xs:List Int):List Value:=xs.map fun x=>.int .i64 x
section
variable {σ:Type}
def ProbeR (S:σ→World→Prop)(r:PFound × σ)(w:World)(e:Ending):Prop:=
 match r with
 | (.val n,s)=>e=.returned (.tuple #[.int .i64 n,.nilIface])∧In64 n∧S s w
 | (.fail,s)=>(∃ n c,e=.returned (.tuple #[.int .i64 n,.iface 200 (ptr c)]))∧S s w
 | (.pan n,s)=>e=.panicked [{ v:=.iface 2 (.int .i64 n),recovered:=false }]∧S s w
def AnsP : PFound→Ans→Prop
 | .val n,a=>a=.val n∧In64 n
 | .fail,a=>∃ n c,a=.fail n 200 (ptr c)
 | .pan n,a=>a=.pan 2 (.int .i64 n)
variable {A:Nat→Addr} {S:σ→World→Prop} {R:Nat} {lv mv:Value} {w0:World}
end
end Go.Proofs.YtbokdbaagacnlaaGreatDoor
namespace Go.Proofs.YtbokdbaagacnlaaGreatDoor
section
variable {σ:Type}
def zC3 : List (σ→Res × σ)→(List Int→σ→Res × σ)→σ→Res × σ
 | [],k=>k []
 | m :: ms,k=>zBI m fun x=>zC3 ms fun xs=>k (x :: xs)
theorem zFY {m:σ→Res × σ}{k:Int→σ→Res × σ}{s s1:σ}{n:Int}(h:m s=(.val n,s1)):zBI m k s=k n s1:=by simp only[zBI,h]
theorem zG9 {m:σ→Res × σ}{k:Int→σ→Res × σ}{s s1:σ}{p:Nat}{y:Why}(h:m s=(.held p y,s1)):zBI m k s=(.held p y,s1):=by simp only[zBI,h]
def zIF (p:Nat)(r:PFound × σ):Res × σ:=
 match r with
 | (.val n,s)=>(.val n,s)
 | (.fail,s)=>(.held p .failed,s)
 | (.pan n,s)=>(.held p (.panic n),s)
structure Env (σ:Type) where
 look:Option (ByteArray→ByteArray→Int→σ→Found × σ)
 probe:ByteArray→List Int→σ→PFound × σ
mutual
def ev (E:Env σ):Tree→σ→Res × σ
 | .num _ n=>fun s=>(.val n,s)
 | .neg _ a=>zBI (ev E a) fun n s=>(.val (clip (-n)),s)
 | .bin k p a b=>if k=47 then zF4 (ev E a) (ev E b) fun x y s=>(if y=0 then .held p .divide else .val (quot x y),s) else zF4 (ev E a) (ev E b) fun x y s=>(.val (reck k x y),s)
 | .ite _ a b c=>zBI (ev E a) fun n s=>if n≠0 then ev E b s else ev E c s
 | .meas p wd m n=>fun s=>match E.look with
  | none=>(.held p .noData,s)
  | some l=>zE0 p (l wd m n s)
 | .probe p wd ts=>zC3 (zDU E ts) fun xs s=>zIF p (E.probe wd xs s)
def zDU (E:Env σ):List Tree→List (σ→Res × σ)
 | []=>[]
 | t :: ts=>ev E t :: zDU E ts
end
mutual
theorem zEM (E:Env σ):∀ t,ev E (bare t)=ev E t
 | .num _ _=>by simp[bare,ev]
 | .neg _ a=>by simp[bare,ev,zEM E a]
 | .bin k p a b=>by
  by_cases h:k=47
  ·simp[bare,ev,h,zEM E a,zEM E b]
  ·simp[bare,ev,h,zEM E a,zEM E b]
 | .ite _ a b c=>by simp[bare,ev,zEM E a,zEM E b,zEM E c]
 | .meas _ _ _ _=>by simp[bare,ev]
 | .probe _ _ ts=>by simp[bare,ev,zLE E ts]
theorem zLE (E:Env σ):∀ ts,zDU E (zFA ts)=zDU E ts
 | []=>by simp[zFA,zDU]
 | t :: ts=>by simp[zFA,zDU,zEM E t,zLE E ts]
end
theorem zG1 (E:Env σ):∀ ts,(zDU E ts).length=ts.length
 | []=>rfl
 | _ :: ts=>by simp[zDU,zG1 E ts]
end
end Go.Proofs.YtbokdbaagacnlaaGreatDoor
namespace Go.Proofs.YtbokdbaagacnlaaGreatDoor
open Go.RowKit Go.Lib
section
variable {σ:Type} {A:Nat→Addr} {S:σ→World→Prop} {R:Nat} {lv mv:Value} {w0:World}
structure PA (S:σ→World→Prop) (R:Nat) (lv mv:Value) (ms:List (σ→Res × σ)) (s:σ) (w:World) (ba n:Nat) (wr:World) (i:Nat) (xs:List Int) (si:σ):Prop where
 keep:Keep R w wr
 box:wr.heap[w.heap.size]?=some (.cells #[lv,mv] 240 (0,0))
 var:One wr ba (.slice (some ⟨w.heap.size+1,0,none⟩) n n) 22
 row:wr.heap[w.heap.size+1]?=some (.cells (ints xs ++ List.replicate (n - i) (Value.int .i64 0)).toArray 2 (0,0))
 len:xs.length=i
 i64:∀ x∈xs,In64 x
 st:S si wr
 eq:∀ k,zC3 ms k s=zC3 (ms.drop i) (fun ys=>k (xs ++ ys)) si
theorem PA.lt {ms:List (σ→Res × σ)}{s si:σ}{w wr:World}{ba n i:Nat}{xs:List Int}(h:PA S R lv mv ms s w ba n wr i xs si):w.heap.size<wr.heap.size∧w.heap.size+1<wr.heap.size∧ba<wr.heap.size:=⟨zA2 h.box,zA2 h.row,zA2 h.var⟩
theorem PA.push {N:Nat}(hS:zKH N S){ms:List (σ→Res × σ)}{s si s1:σ}{w wr w1:World}{ba n i:Nat}{xs:List Int}{x:Int}(h:PA S R lv mv ms s w ba n wr i xs si)(hR:R<w.heap.size)(hN:N≤w.heap.size)(hba:w.heap.size+1<ba)(hi:i<n){m:σ→Res × σ}(hm:ms[i]?=some m)(he:m si=(.val x,s1))(hx:In64 x)(hk:Keep R wr w1)(hs:S s1 w1):
  PA S R lv mv ms s w ba n (w1.setCell ⟨w.heap.size+1,i,none⟩ (.int .i64 x)) (i+1) (xs ++ [x]) s1:=by
 obtain⟨l1,l2,l3⟩:=h.lt
 have hrow:w1.heap[w.heap.size+1]?=_:=(hk.block _ l2 (by omega)).trans h.row
 refine⟨(h.keep.trans hk).setNew (by show w.heap.size≤w.heap.size+1;omega) _,?_,?_,?_,by simp[h.len],?_,?_,?_⟩
 ·exact zA6 ((hk.block _ l1 (by omega)).trans h.box) (by show w.heap.size≠w.heap.size+1;omega)
 ·exact zA6 ((hk.block _ l3 (by omega)).trans h.var) (by show ba≠w.heap.size+1;omega)
 ·rw[zA4 hrow]
  congr 2
  apply Array.ext'
  have hl:(ints xs).length=i:=by simp[ints,h.len]
  rw[Array.toList_setIfInBounds]
  simp only[ints,List.map_append,List.map_cons,List.map_nil,List.append_assoc]
  rw[List.set_append_right _ _ (by simp[h.len])]
  congr 1
  rw[show n - i=(n - (i+1))+1 by omega,List.replicate_succ]
  simp[h.len]
 ·intro y hy
  rcases List.mem_append.1 hy with hy | hy
  ·exact h.i64 y hy
  ·simp at hy;subst hy;exact hx
 ·exact hS.2 _ _ _ hs ⟨rfl,rfl,rfl,by simp,fun k lt=>Below.heap_setCell _ _ _ k (by show k≠w.heap.size+1;omega)⟩
 ·intro k
  rw[h.eq k]
  have:ms.drop i=m :: ms.drop (i+1):=by
   rw[List.drop_eq_getElem_cons (List.getElem?_eq_some_iff.1 hm).1]
   congr 1
   exact(List.getElem?_eq_some_iff.1 hm).2
  rw[this]
  show zBI m _ si=_
  rw[zFY he]
  simp
theorem PA.held {ms:List (σ→Res × σ)}{s si s1:σ}{w wr:World}{ba n i:Nat}{xs:List Int}(h:PA S R lv mv ms s w ba n wr i xs si){m:σ→Res × σ}(hm:ms[i]?=some m){p:Nat}{y:Why}(he:m si=(.held p y,s1))(k:List Int→σ→Res × σ):zC3 ms k s=(.held p y,s1):=by
 rw[h.eq k]
 have:ms.drop i=m :: ms.drop (i+1):=by
  rw[List.drop_eq_getElem_cons (List.getElem?_eq_some_iff.1 hm).1]
  congr 1
  exact(List.getElem?_eq_some_iff.1 hm).2
 rw[this]
 show zBI m _ si=_
 rw[zG9 he]
theorem Tryz.infoI64h : (Tryz.prog.info? 2).map (fun i=>(i.zero,i.size,i.bytes))=some (some (.int .i64 0),1,8):=by kernel_rfl
end
theorem zIJ {k:Nat}(h:zC0 k=true):k=43∨k=45∨k=42∨k=60∨k=62∨k=61:=by
 simp[zC0] at h
 omega
section
variable {σ:Type} {A:Nat→Addr} {S:σ→World→Prop} {R N:Nat} {lv:Value} {w0:World} {g:Nat} {G:ByteArray→Option Value} {E:Env σ}
theorem zBK.length {P:Nat→Prop}{w:World}:∀ {ts:List Tree} {vs:List Value},zBK P w ts vs→vs.length=ts.length
 | [],vs,h=>by unfold zBK at h;subst h;rfl
 | t :: ts,vs,h=>by
  unfold zBK at h
  obtain⟨v,vs',rfl,-,h2⟩:=h
  simp[zBK.length h2]
end
def zFS (l:List UInt8):Tree × RS:=RS.part 200 ⟨l,0,false,[],[],[]⟩
def okB (l:List UInt8):Prop:=(zFS l).2.wrong=false∧(zFS l).2.rest=[]
instance (l:List UInt8):Decidable (okB l):=inferInstanceAs (Decidable (_∧_))
theorem readB_enc {t:Tree}(h:Fit t)(hs:size t≤200):zFS (enc t)=(bare t,⟨[],size t,false,zAT [] (mets t),asks t,zA5 t⟩):=by
 have:=zEY t 200 [] 0 [] [] [] h (by omega) (by omega) (by omega)
 unfold zFS
 simpa using this
structure LoadedB (lo:Nat) (w:World) (b:Nat) (t:Tree) (ms:List ByteArray) (qs:List (Nat × ByteArray)) (sp:List (ByteArray × Int)):Prop where
 blk:∃ vv mv sv av,w.heap[b]?=some (.cells #[vv,mv,sv,av] 147 (0,0))∧zCL vv∧zCK (fun g=>lo≤g∧g<w.heap.size) w t vv∧w.ownsRow lo 9 1 mv ms.length (ms.map Value.string)∧w.ownsRow lo 236 2 av qs.length (zAZ qs)∧w.ownsRow lo 194 2 sv sp.length (zAP sp)
 lo:lo≤b
theorem LoadedB.below {lo b:Nat}{w w':World}{t:Tree}{ms:List ByteArray}{qs:List (Nat × ByteArray)}{sp:List (ByteArray × Int)}(h:LoadedB lo w b t ms qs sp)(hb:Below w.heap.size w w'):LoadedB lo w' b t ms qs sp:=by
 obtain⟨⟨vv,mv,sv,av,h1,h2,h3,h4,h5,h7⟩,h6⟩:=h
 exact⟨⟨vv,mv,sv,av,(hb.block b (zA2 h1)).trans h1,h2,h3.moves fun g hg=>⟨⟨hg.1,Nat.lt_of_lt_of_le hg.2 hb.size⟩,hb.block g hg.2⟩,zAG h4 fun g hg=>hb.block g (h4.lt _ hg).2,zAG h5 fun g hg=>hb.block g (h5.lt _ hg).2,zAG h7 fun g hg=>hb.block g (h7.lt _ hg).2⟩,h6⟩
set_option maxRecDepth 1000000 in
set_option maxHeartbeats 1000000 in
theorem rd_Read {A:Nat→Addr}{w:World}(hT:TabsR w)(hS:Sents A w){v:Value}{l:List UInt8}(hl:zBM w.heap.size w v l):
  Calls Tryz.prog 64 #[v] w fun e w'=>Below w.heap.size w w'∧((okB l∧∃ b,e=.returned (.tuple #[ptr b,.nilIface])∧LoadedB w.heap.size w' b (zFS l).1 (zFS l).2.mets (zFS l).2.asks (zFS l).2.spans)∨(¬ okB l∧e=.returned (.tuple #[.pointer none,.iface 416 (.pointer (some (A 1)))]))):=by
 obtain⟨ao,cp,rfl,hcp⟩:=hl.slice
 have hb0:Below w.heap.size w (w.alloc (.cells #[.slice ao l.length cp,.int .i64 0,.bool false,.slice none 0 0,.slice none 0 0,.slice none 0 0] 234)):=(Below.refl _ _).alloc (Nat.le_refl _) _
 have h0:RSt w.heap.size (w.alloc (.cells #[.slice ao l.length cp,.int .i64 0,.bool false,.slice none 0 0,.slice none 0 0,.slice none 0 0] 234)) ⟨l,0,false,[],[],[]⟩:=⟨⟨_,_,_,_,heap_alloc_new _ _,hl.below hb0,World.ownsRow_nil _ _ _ _,World.ownsRow_nil _ _ _ _,World.ownsRow_nil _ _ _ _⟩,⟨w,hT,Nat.le_refl _,hb0⟩⟩
 have hpc:=rd_part (R:=w.heap.size) 200 _ _ h0 ⟨fun _=>by simp,fun _=>by simp,by simp,by simp,by simp⟩ (.inr (by simp))
 have HB0:Hid _:=And.intro hb0 h0
 have HS:Hid (Sents A w):=hS
 have HR:Hid (zFS l=RS.part 200 ⟨l,0,false,[],[],[]⟩):=rfl
 clear hT hS hl hb0 h0
 generalize RS.part 200 ⟨l,0,false,[],[],[]⟩=Z at *
 go_enter Tryz.func64,Tryz.ntmps64
 go_wp2_with fail
 refine hpc.mono ?_
 rintro e w1 ⟨v1,rfl,hf1,h1,k1,hv1⟩
 have hbl:Below w.heap.size w w1:=HB0.out.1.trans (HB0.out.2.below_of k1)
 have HBL:Hid (Below w.heap.size w w1):=hbl
 obtain⟨rv,mv,sv,av,b1,b2,b3,b4,b5⟩:=h1.blk
 obtain⟨ao1,cp1,rfl,hcp1⟩:=b2.slice
 obtain⟨aom,cpm,rfl⟩:=zAI b3
 obtain⟨aoa,cpa,rfl⟩:=zAI b4
 obtain⟨aos,cps,rfl⟩:=zAI b5
 have c0:w1.cell? ⟨w.heap.size,0,none⟩=some (.slice ao1 Z.2.rest.length cp1):=zA0 b1 rfl
 have c2:w1.cell? ⟨w.heap.size,2,none⟩=some (.bool Z.2.wrong):=zA0 b1 rfl
 have c3:w1.cell? ⟨w.heap.size,3,none⟩=some (.slice aom Z.2.mets.length cpm):=zA0 b1 rfl
 have c4:w1.cell? ⟨w.heap.size,4,none⟩=some (.slice aos Z.2.spans.length cps):=zA0 b1 rfl
 have c5:w1.cell? ⟨w.heap.size,5,none⟩=some (.slice aoa Z.2.asks.length cpa):=zA0 b1 rfl
 have g1:w1.cell? ⟨6,0,none⟩=some (.iface 416 (.pointer (some (A 1)))):=(HS.out.below hbl).g1
 have HQ:Hid _:=And.intro hf1 (And.intro b3 (And.intro b4 (And.intro hv1 b5)))
 have hszR:w.heap.size<w1.heap.size:=zA2 b1
 clear hpc h1 k1 hv1 b1 b2 b3 b4 b5 hbl
 cases hw:Z.2.wrong with
 | true=>
  have HK:Hid (¬ okB l):=fun q=>by have:=q.1;rw[HR.out,hw] at this;cases this
  rw[hw] at c2
  clear hw
  rcases hf1 with rfl | ⟨_,_,_,rfl⟩
  all_goals
   go_wp2_with fail
   go_quiet (fail)
   go_wp2
   go_ret2
   exact⟨⟨HBL.out.os,HBL.out.tape,HBL.out.output,HBL.out.size,HBL.out.block⟩,.inr ⟨HK.out,rfl⟩⟩
 | false=>
  rw[hw] at c2
  by_cases hr:Z.2.rest.length=0
  ·have HK:Hid (okB l):=⟨by rw[HR.out];exact hw,by rw[HR.out];exact List.eq_nil_of_length_eq_zero hr⟩
   have HV:Hid (zCK (Fr w.heap.size (w.alloc (.cells #[.slice ao l.length cp,.int .i64 0,.bool false,.slice none 0 0,.slice none 0 0,.slice none 0 0] 234)).heap.size w1) w1 Z.1 v1):=HQ.out.2.2.2.1 hw
   rw[hr] at c0
   have hgt:¬ (0:Int)<((0:Nat):Int):=by simp
   clear hw hr
   rcases hf1 with rfl | ⟨_,_,_,rfl⟩
   all_goals
    go_wp2_with fail
    go_region
    all_goals
     go_wp2
     go_ret2
     have bl:∀ o,Below w1.heap.size w1 ((w1.alloc o).drew):=fun o=>((Below.refl _ _).alloc (Nat.le_refl _) o).drew
     refine⟨HBL.out.trans ((bl _).mono HBL.out.size),.inl ⟨HK.out,_,rfl,⟨⟨_,_,_,_,heap_alloc_new _ _,HQ.out.1,?_,?_,?_,?_⟩,HBL.out.size⟩⟩⟩
     ·rw[HR.out]
      exact HV.out.moves fun g hg=>⟨⟨by have:=hg.2;simp at this;omega,Nat.lt_of_lt_of_le hg.1.lt (bl _).size⟩,(bl _).block g hg.1.lt⟩
     ·rw[HR.out]
      exact zAG (zBA HQ.out.2.1 (by omega)) fun g hg=>(bl _).block g (HQ.out.2.1.lt _ hg).2
     ·rw[HR.out]
      exact zAG (zBA HQ.out.2.2.1 (by omega)) fun g hg=>(bl _).block g (HQ.out.2.2.1.lt _ hg).2
     ·rw[HR.out]
      exact zAG (zBA HQ.out.2.2.2.2 (by omega)) fun g hg=>(bl _).block g (HQ.out.2.2.2.2.lt _ hg).2
  ·have HK:Hid (¬ okB l):=fun q=>by have:=q.2;rw[HR.out] at this;rw[this] at hr;exact hr rfl
   have hgt:(0:Int)<(Z.2.rest.length:Int):=by omega
   clear hw hr
   rcases hf1 with rfl | ⟨_,_,_,rfl⟩
   all_goals
    go_wp2_with fail
    go_quiet (fail)
    go_wp2
    go_ret2
    exact⟨⟨HBL.out.os,HBL.out.tape,HBL.out.output,HBL.out.size,HBL.out.block⟩,.inr ⟨HK.out,rfl⟩⟩
def zDL (w:World)(pv:Value)(F:ByteArray→Option Value):Prop:=((pv=.map none∧∀ s,F s=none)∨∃ m,pv=.map (some m)∧MapF w m F)∧∀ s v,F s=some v→zCL v
theorem zDL.below {w w':World}{pv:Value}{F:ByteArray→Option Value}(h:zDL w pv F)(hb:Below w.heap.size w w'):zDL w' pv F:=by
 obtain⟨h1,h2⟩:=h
 refine⟨?_,h2⟩
 rcases h1 with h1 | ⟨m,h1,h3⟩
 ·exact .inl h1
 ·exact .inr ⟨m,h1,h3.block (hb.block m h3.lt)⟩
theorem zDL.lookup {w:World}{pv:Value}{F:ByteArray→Option Value}(h:zDL w pv F)(s:ByteArray):(Instr.lookup 113 pv (.string s) false).run Tryz.prog w=.ok ((F s).getD .nilFunc) w:=by
 rcases h.1 with⟨rfl,h1⟩ | ⟨m,rfl,h3⟩
 ·rw[h1]
  exact zPL w s
 ·exact h3.lookup s
def zDC (F:ByteArray→Option Value)(s:ByteArray):Prop:=∃ f x y,F s=some (.func f x y)
theorem there_or {F:ByteArray→Option Value}(h:∀ s v,F s=some v→zCL v)(s:ByteArray):(∃ f x y,F s=some (.func f x y))∨((F s).getD .nilFunc=.nilFunc∧¬ zDC F s):=by
 cases e:F s with
 | none=>exact .inr ⟨rfl,fun⟨_,_,_,q⟩=>by rw[e] at q;cases q⟩
 | some v=>
  rcases h s v e with rfl | ⟨f,x,y,rfl⟩
  ·exact .inr ⟨rfl,fun⟨_,_,_,q⟩=>by rw[e] at q;cases q⟩
  ·exact .inl ⟨f,x,y,rfl⟩
theorem zIY : ∀ (l:List (Nat × ByteArray)) (i:Nat) (x:Nat × ByteArray),l[i]?=some x→(zAZ l)[i * 2]?=some (.int .i64 (x.1:Int))∧(zAZ l)[i * 2+1]?=some (.string x.2)
 | [],i,x,h=>by simp at h
 | a :: l,0,x,h=>by simp at h;subst h;simp[zAZ]
 | a :: l,i+1,x,h=>by
  have ih:=zIY l i x (by simpa using h)
  have e:zAZ (a :: l)=.int .i64 (a.1:Int) :: .string a.2 :: zAZ l:=by simp[zAZ]
  rw[e,show (i+1) * 2=i * 2+1+1 by omega]
  simpa using ih
theorem call_at {w:World}{base n:Nat}{ao:Option Addr}{m cp:Nat}{qs:List (Nat × ByteArray)}(h:w.ownsRow base 236 2 (.slice ao m cp) n (zAZ qs)){i:Nat}{x:Nat × ByteArray}(hi:qs[i]?=some x):∃ g,ao=some ⟨g,0,none⟩∧w.cell? ⟨g,i * 2,none⟩=some (.int .i64 (x.1:Int))∧w.cell? ⟨g,i * 2+1,none⟩=some (.string x.2):=by
 have q:=zIY qs i x hi
 rcases h.2 with⟨h1,rfl⟩ | ⟨g,cap,cur,h1,-⟩
 ·have:zAZ qs=[]:=List.eq_nil_of_length_eq_zero (by have:=h.1;omega)
  rw[this] at q
  simp at q
 ·injection h1 with h1 h2 h3
  subst h1
  have ha:∀ j,(⟨g,0,none⟩:Addr).add j=⟨g,j,none⟩:=fun j=>by unfold Addr.add;split <;> simp_all
  have c1:=h.cells (g:=g) rfl _ _ q.1
  have c2:=h.cells (g:=g) rfl _ _ q.2
  rw[ha] at c1 c2
  exact⟨g,rfl,c1,c2⟩
structure Bound (w wr:World) (g:Nat) (F:ByteArray→Option Value) (qs:List (Nat × ByteArray)) (i:Nat):Prop where
 below:Below w.heap.size w wr
 map:∃ G,MapF wr g G∧(∀ q∈qs.take i,G q.2=F q.2)∧∀ s v,G s=some v→F s=some v
 there:∀ q∈qs.take i,zDC F q.2
def BindPost (w:World)(F:ByteArray→Option Value)(qs:List (Nat × ByteArray))(e:Ending)(w':World):Prop:=Below w.heap.size w w' ∧
   (((∀ q∈qs,zDC F q.2)∧∃ g G,e=.returned (.tuple #[.map (some g),.nilIface])∧w.heap.size≤g∧MapF w' g G∧∀ q∈qs,G q.2=F q.2) ∨
    (∃ i q b,qs[i]?=some q∧(∀ q∈qs.take i,zDC F q.2)∧¬ zDC F q.2∧e=.returned (.tuple #[.map none,.iface 156 (ptr b)])∧w'.heap[b]?=some (.cells #[.int .i64 (q.1:Int),.string q.2] 158 (0,0))))
set_option maxRecDepth 1000000 in
set_option maxHeartbeats 1000000 in
theorem code_bind {w:World}{pv:Value}{F:ByteArray→Option Value}(hp:zDL w pv F){lo n:Nat}{av:Value}{qs:List (Nat × ByteArray)}(hn:n=qs.length)(ha:w.ownsRow lo 236 2 av n (zAZ qs))(h900:n≤900):
  Calls Tryz.prog 65 #[av,pv] w fun e w'=>BindPost w F qs e w':=by
 obtain⟨ao,cp,rfl⟩:=zAI ha
 have hmm:=@run_makeMap Tryz.prog
 have HP:Hid (zDL w pv F):=hp
 have HA:Hid (w.ownsRow lo 236 2 (.slice ao n cp) n (zAZ qs)):=ha
 have HN:Hid (n=qs.length):=hn
 have heq1:∀ (w:World) (f:Fn) (a b:Array Value),(binOp .eql 214 (.func f a b) .nilFunc).run Tryz.prog w=.ok (.bool false) w:=fun w f a b=>by
  simp only[binOp]
  simp[Op.equal,Op.maxDepth,zDH w 9999 214 f a b Tryz.underlying214]
 have heq2:∀ (w:World),(binOp .eql 214 .nilFunc .nilFunc).run Tryz.prog w=.ok (.bool true) w:=fun w=>by
  simp only[binOp]
  simp[Op.equal,Op.maxDepth,zDV w 9999 214 Tryz.underlying214]
 clear hp ha hn
 go_enter Tryz.func65,Tryz.ntmps65
 go_wp2_with fail
 go_loopw [13] (fun v13 wr=>∃ i:Nat,v13=.int .i64 i∧i≤n∧Hid (Bound w wr w.heap.size F qs i)) (fun v13 _=>n - (intOf v13).toNat)
 case atStart=>exact⟨0,rfl,Nat.zero_le _,⟨(Below.refl _ _).alloc (Nat.le_refl _) _,⟨_,.new w,by simp,by simp⟩,by simp⟩⟩
 case round=>
  obtain⟨i,rfl,hi,HI⟩:=hrel
  rcases Nat.lt_or_ge i n with hlt | hge
  ·obtain⟨x,hx⟩:∃ x,qs[i]?=some x:=⟨qs[i]'(by have:=HN.out;omega),List.getElem?_eq_getElem _⟩
   obtain⟨g,rfl,c0,c1⟩:=call_at (zAG HA.out fun g hg=>HI.out.below.block g (HA.out.lt _ hg).2) hx
   have hlt2:(i:Int)<n:=by omega
   have hlk:=((HP.out.below HI.out.below).below ((Below.refl _ _).alloc (Nat.le_refl _) (.cells #[.int .i64 (x.1:Int),.string x.2] 236))).lookup x.2
   have HX:Hid (qs[i]?=some x):=hx
   clear hx
   rcases there_or HP.out.2 x.2 with⟨f,a,b,hF⟩ | ⟨hF,hno⟩
   ·rw[hF] at hlk
    have hlk:(Instr.lookup 113 pv (.string x.2) false).run Tryz.prog (wr.alloc (.cells #[.int .i64 (x.1:Int),.string x.2] 236))=.ok (.func f a b) _:=hlk
    have HF:Hid (F x.2=some (.func f a b)):=hF
    obtain⟨G,hG1,hG2,hG3⟩:=HI.out.map
    have HG:Hid _:=And.intro hG1 (And.intro hG2 hG3)
    clear hF hG1 hG2 hG3
    go_wp2_with (first
      | (at_mapUpdate;refine zAS _ rfl _ _ _ rfl w.heap.size G x.2 (.func f a b) rfl (HG.out.1.block (Below.heap_alloc _ _ _ HG.out.1.lt)) rfl rfl ?_;intro w5 hm5 hg5;have Q5:Hid _:=And.intro hm5 hg5;clear hm5 hg5)
      | fail)
    go_roundw
    case rel=>
     refine⟨i+1,by go_num,by omega,⟨?_,⟨_,Q5.out.1,?_,?_⟩,?_⟩⟩
     ·exact⟨Q5.out.2.os.trans HI.out.below.os,Q5.out.2.tape.trans HI.out.below.tape,Q5.out.2.output.trans HI.out.below.output,Nat.le_trans HI.out.below.size (by have:=Q5.out.2.size;simp at this;omega),fun k hk=>(Q5.out.2.block k (by have:=HI.out.below.size;simp;omega) (fun e=>by injection e with e;omega)).trans ((Below.heap_alloc _ _ _ (Nat.lt_of_lt_of_le hk HI.out.below.size)).trans (HI.out.below.block k hk))⟩
     ·intro q hq
      rw[List.take_add_one,HX.out] at hq
      simp at hq
      by_cases e:q.2=x.2
      ·simp only[e,if_true];exact HF.out.symm
      ·simp only[e,if_false]
       rcases hq with hq | rfl
       ·exact HG.out.2.1 q hq
       ·exact absurd rfl e
     ·intro t v hv
      by_cases e:t=x.2
      ·simp only[e,if_true] at hv;rw[e,HF.out];exact hv
      ·simp only[e,if_false] at hv;exact HG.out.2.2 t v hv
     ·intro q hq
      rw[List.take_add_one,HX.out] at hq
      simp at hq
      rcases hq with hq | rfl
      ·exact HI.out.there q hq
      ·exact⟨_,_,_,HF.out⟩
    case measure=>simp[intOf];omega
   ·rw[hF] at hlk
    have HNO:Hid (¬ zDC F x.2):=hno
    clear hF hno
    go_wp2_with fail
    go_region
    all_goals
     go_wp2
     go_ret2
     refine⟨?_,.inr ⟨i,x,_,HX.out,HI.out.there,HNO.out,rfl,zAN (by simp)⟩⟩
     exact((HI.out.below.alloc HI.out.below.size _).drew.alloc (by have:=HI.out.below.size;simp;omega) _)
  ·have hge2:¬ (i:Int)<n:=by omega
   have HE:Hid (i=qs.length):=by show i=qs.length;have:=HN.out;omega
   go_wp2
   go_ret2
   obtain⟨G,hG1,hG2,-⟩:=HI.out.map
   have ht:=HI.out.there
   rw[HE.out,List.take_length] at hG2 ht
   exact⟨HI.out.below,.inl ⟨ht,_,G,rfl,Nat.le_refl _,hG1,hG2⟩⟩
structure ProgB (lo:Nat) (w:World) (b:Nat) (t:Tree) (ms:List ByteArray) (qs:List (Nat × ByteArray)) (sp:List (ByteArray × Int)) (F:ByteArray→Option Value):Prop where
 blk:∃ lb g G,w.heap[b]?=some (.cells #[ptr lb,.map (some g)] 150 (0,0))∧LoadedB lo w lb t ms qs sp∧MapF w g G∧lo≤g∧∀ q∈qs,G q.2=F q.2
 lo:lo≤b
set_option maxRecDepth 1000000 in
set_option maxHeartbeats 1000000 in
theorem code_Load {A:Nat→Addr}{w:World}(hT:TabsR w)(hS:Sents A w){v:Value}{l:List UInt8}(hl:zBM w.heap.size w v l){pv:Value}{F:ByteArray→Option Value}(hp:zDL w pv F)(hq:(zFS l).2.asks.length≤900):
  Calls Tryz.prog 41 #[v,pv] w fun e w'=>Below w.heap.size w w' ∧
   ((okB l∧(∀ q∈(zFS l).2.asks,zDC F q.2)∧∃ b,e=.returned (.tuple #[ptr b,.nilIface])∧ProgB w.heap.size w' b (zFS l).1 (zFS l).2.mets (zFS l).2.asks (zFS l).2.spans F) ∨
    (okB l∧∃ i q b,(zFS l).2.asks[i]?=some q∧(∀ q∈(zFS l).2.asks.take i,zDC F q.2)∧¬ zDC F q.2∧e=.returned (.tuple #[.pointer none,.iface 156 (ptr b)])∧w'.heap[b]?=some (.cells #[.int .i64 (q.1:Int),.string q.2] 158 (0,0))) ∨
    (¬ okB l∧e=.returned (.tuple #[.pointer none,.iface 416 (.pointer (some (A 1)))]))):=by
 have hrd:=rd_Read hT hS hl
 have HP:Hid (zDL w pv F):=hp
 clear hT hS hl hp
 generalize zFS l=Z at *
 go_enter Tryz.func41,Tryz.ntmps41
 go_wp2_with fail
 refine hrd.mono ?_
 rintro e w1 ⟨hb1,ha⟩
 have HB1:Hid (Below w.heap.size w w1):=hb1
 clear hrd hb1
 rcases ha with⟨hok,b,rfl,hL⟩ | ⟨hok,rfl⟩
 ·have HL:Hid (LoadedB w.heap.size w1 b Z.1 Z.2.mets Z.2.asks Z.2.spans):=hL
  obtain⟨vv,mv,sv,av,b1,-,-,-,b5,-⟩:=hL.blk
  have c2:w1.cell? ⟨b,3,none⟩=some av:=zA0 b1 rfl
  have hbd:=code_bind (HP.out.below HB1.out) rfl b5 hq
  obtain⟨ao,cp,rfl⟩:=zAI b5
  clear hL b1 b5
  go_wp2_with fail
  refine hbd.mono ?_
  rintro e w2 ⟨hb2,ha⟩
  have HB2:Hid (Below w.heap.size w w2):=HB1.out.trans (hb2.mono HB1.out.size)
  have HL2:Hid (LoadedB w.heap.size w2 b Z.1 Z.2.mets Z.2.asks Z.2.spans):=HL.out.below hb2
  clear hbd hb2
  rcases ha with⟨hth,g,G,rfl,hg,hm,hG⟩ | ⟨i,q,b2,q1,q2,q3,rfl,q5⟩
  ·have HQ:Hid _:=And.intro hth (And.intro hm hG)
   clear hth hm hG
   go_wp2
   go_ret2
   have bl:Below w2.heap.size w2 (w2.alloc (.cells #[ptr b,.map (some g)] 150)):=(Below.refl _ _).alloc (Nat.le_refl _) _
   exact⟨HB2.out.trans (bl.mono HB2.out.size),.inl ⟨hok,HQ.out.1,_,rfl,⟨⟨b,g,G,heap_alloc_new _ _,HL2.out.below bl,HQ.out.2.1.block (bl.block _ HQ.out.2.1.lt),Nat.le_trans HB1.out.size hg,HQ.out.2.2⟩,HB2.out.size⟩⟩⟩
  ·have HQ:Hid _:=And.intro q1 (And.intro q2 (And.intro q3 q5))
   clear q1 q2 q3 q5
   go_wp2
   go_ret2
   exact⟨HB2.out,.inr (.inl ⟨hok,i,q,b2,HQ.out.1,HQ.out.2.1,HQ.out.2.2.1,rfl,HQ.out.2.2.2⟩)⟩
 ·go_wp2
  go_ret2
  exact⟨HB1.out,.inr (.inr ⟨hok,rfl⟩)⟩
theorem zFI {w:World}{k:Nat}{x:Value}{t:TypeId}(h:w.heap[k]?=some (.cells #[x] t (0,0))):∀ j u,[x][j]?=some u→w.cell? ((⟨k,0,none⟩:Addr).add j)=some u:=by
 intro j u hu
 cases j with
 | zero=>
  simp at hu
  subst hu
  exact zA0 h rfl
 | succ j=>simp at hu
theorem Out8.pushed {B g cap:Nat}{w w2:World}{v:Value}{l:List UInt8}{b:UInt8}{x:Value}{o:Obj}(hB:B≤w.heap.size)(ho:Out8 B w v l)(hx:zB1 [b]=[x])
  (h2:w2.ownsRow B 5 1 (.slice (some ⟨g,0,none⟩) (l.length+1) cap) (l.length+1) (zB1 l ++ [x])) (hg:(w.drew.alloc o).grownBy w2 v.ownBlock):Out8 B w2 (.slice (some ⟨g,0,none⟩) (l.length+1) cap) (l ++ [b])∧W8 B w w2:=
 Out8.push (w:=w) (w1:=w.drew.alloc o) ((W8.refl B w).drew.alloc hB o) (World.ownsRow.alloc (World.ownsRow.drew ho) _) (by simp;omega) hx h2 hg
theorem W8.cell {B:Nat}{w w':World}(h:W8 B w w'){b i:Nat}{v:Value}{cs:Array Value}{t:TypeId}(hb:w.heap[b]?=some (.cells cs t (0,0)))(ht:t≠5)(hv:cs[i]?=some v):w'.cell? ⟨b,i,none⟩=some v:=zA0 (h.kind b cs t _ hb ht) hv
theorem Tryz.isNumber (v:Value)(xT:TypeId)(w:World):(Instr.typeAssert (.iface 288 v) xT 288 true).run Tryz.prog w=.ok (.tuple #[v,.bool true]) w:=by kernel_rfl
theorem Tryz.isMinus (v:Value)(xT:TypeId)(w:World):(Instr.typeAssert (.iface 292 v) xT 292 true).run Tryz.prog w=.ok (.tuple #[v,.bool true]) w:=by kernel_rfl
theorem Tryz.notMinusNumber (v:Value)(xT:TypeId)(w:World):(Instr.typeAssert (.iface 292 v) xT 288 true).run Tryz.prog w=.ok (.tuple #[.pointer none,.bool false]) w:=by kernel_rfl
theorem Tryz.isPair (v:Value)(xT:TypeId)(w:World):(Instr.typeAssert (.iface 295 v) xT 295 true).run Tryz.prog w=.ok (.tuple #[v,.bool true]) w:=by kernel_rfl
theorem Tryz.notPairNumber (v:Value)(xT:TypeId)(w:World):(Instr.typeAssert (.iface 295 v) xT 288 true).run Tryz.prog w=.ok (.tuple #[.pointer none,.bool false]) w:=by kernel_rfl
theorem Tryz.notPairMinus (v:Value)(xT:TypeId)(w:World):(Instr.typeAssert (.iface 295 v) xT 292 true).run Tryz.prog w=.ok (.tuple #[.pointer none,.bool false]) w:=by kernel_rfl
theorem Tryz.isChoice (v:Value)(xT:TypeId)(w:World):(Instr.typeAssert (.iface 276 v) xT 276 true).run Tryz.prog w=.ok (.tuple #[v,.bool true]) w:=by kernel_rfl
theorem Tryz.notChoiceNumber (v:Value)(xT:TypeId)(w:World):(Instr.typeAssert (.iface 276 v) xT 288 true).run Tryz.prog w=.ok (.tuple #[.pointer none,.bool false]) w:=by kernel_rfl
theorem Tryz.notChoiceMinus (v:Value)(xT:TypeId)(w:World):(Instr.typeAssert (.iface 276 v) xT 292 true).run Tryz.prog w=.ok (.tuple #[.pointer none,.bool false]) w:=by kernel_rfl
theorem Tryz.notChoicePair (v:Value)(xT:TypeId)(w:World):(Instr.typeAssert (.iface 276 v) xT 295 true).run Tryz.prog w=.ok (.tuple #[.pointer none,.bool false]) w:=by kernel_rfl
theorem Tryz.isMeasure (v:Value)(xT:TypeId)(w:World):(Instr.typeAssert (.iface 298 v) xT 298 true).run Tryz.prog w=.ok (.tuple #[v,.bool true]) w:=by kernel_rfl
theorem Tryz.notMeasureNumber (v:Value)(xT:TypeId)(w:World):(Instr.typeAssert (.iface 298 v) xT 288 true).run Tryz.prog w=.ok (.tuple #[.pointer none,.bool false]) w:=by kernel_rfl
theorem Tryz.notMeasureMinus (v:Value)(xT:TypeId)(w:World):(Instr.typeAssert (.iface 298 v) xT 292 true).run Tryz.prog w=.ok (.tuple #[.pointer none,.bool false]) w:=by kernel_rfl
theorem Tryz.notMeasurePair (v:Value)(xT:TypeId)(w:World):(Instr.typeAssert (.iface 298 v) xT 295 true).run Tryz.prog w=.ok (.tuple #[.pointer none,.bool false]) w:=by kernel_rfl
theorem Tryz.notMeasureChoice (v:Value)(xT:TypeId)(w:World):(Instr.typeAssert (.iface 298 v) xT 276 true).run Tryz.prog w=.ok (.tuple #[.pointer none,.bool false]) w:=by kernel_rfl
theorem Tryz.isProbe (v:Value)(xT:TypeId)(w:World):(Instr.typeAssert (.iface 303 v) xT 303 true).run Tryz.prog w=.ok (.tuple #[v,.bool true]) w:=by kernel_rfl
theorem Tryz.notProbeNumber (v:Value)(xT:TypeId)(w:World):(Instr.typeAssert (.iface 303 v) xT 288 true).run Tryz.prog w=.ok (.tuple #[.pointer none,.bool false]) w:=by kernel_rfl
theorem Tryz.notProbeMinus (v:Value)(xT:TypeId)(w:World):(Instr.typeAssert (.iface 303 v) xT 292 true).run Tryz.prog w=.ok (.tuple #[.pointer none,.bool false]) w:=by kernel_rfl
theorem Tryz.notProbePair (v:Value)(xT:TypeId)(w:World):(Instr.typeAssert (.iface 303 v) xT 295 true).run Tryz.prog w=.ok (.tuple #[.pointer none,.bool false]) w:=by kernel_rfl
theorem Tryz.notProbeChoice (v:Value)(xT:TypeId)(w:World):(Instr.typeAssert (.iface 303 v) xT 276 true).run Tryz.prog w=.ok (.tuple #[.pointer none,.bool false]) w:=by kernel_rfl
theorem Tryz.notProbeMeasure (v:Value)(xT:TypeId)(w:World):(Instr.typeAssert (.iface 303 v) xT 298 true).run Tryz.prog w=.ok (.tuple #[.pointer none,.bool false]) w:=by kernel_rfl
section
variable {B:Nat}
set_option maxRecDepth 1000000 in
theorem w_num {p:Nat}{n:Int}(h0:0≤n)(h1:n<1000000000):WCon B (.num p n):=by
 intro w vo v l hn ho hB hl
 unfold zAO at hn
 obtain⟨b,rfl,hb,hblk⟩:=hn
 obtain⟨i0,hi,hz0,hz1,hz2⟩:=info_parts Tryz.infoByte
 have c0:=zA0 (i:=0) hblk rfl
 have HBK:Hid (w.heap[b]?=some (.cells #[.int .i64 n] 291 (0,0))):=hblk
 have HO:Hid (Out8 B w vo l):=ho
 have hln:l.length≤999995:=by simp[enc,be4] at hl;omega
 have ta:=Tryz.isNumber
 clear ho hblk hl
 go_enter Tryz.func99,Tryz.ntmps99
 go_wp2_with fail
 go_region_held3 (fun w'=>w'.cell? ⟨b,0,none⟩=some (.int .i64 n)) (go_keep)
  (first
   | (refine step_append_lies _ (by rfl) (.tmp 15) (.tmp 16) _ (by rfl) B 5 i0 (.int .u8 0) 1 1 Tryz.underlying111 hi hz0 hz1 hz2 rfl (by omega) vo l.length (zB1 l) (by rfl) (World.ownsRow.alloc (World.ownsRow.drew HO.out) _) ⟨_,0,none⟩ 1 1 [.int .u8 110] (by rfl) (by rfl) (zFI (heap_alloc_new _ _)) (by simp[Value.oneCell']) (by omega) (by unfold maxLen;omega) (by omega) (by simp;omega) _ (by rfl) ?_;intro g cap w5 hown hgrow hat hlt;have hQ:=Out8.pushed (b:=110) hB HO.out rfl hown hgrow;have c5:w5.cell? ⟨b,0,none⟩=some (.int .i64 n):=hQ.2.cell HBK.out (by decide) rfl;have Q:Hid _:=hQ;have hB5:B≤w5.heap.size:=Nat.le_trans hB hQ.2.size;clear hown hgrow hat hlt hQ)
   | (go_at_call 136;refine(zF8 Q.out.1 hB5 (by simp;omega) h0 h1).mono ?_;rintro e w6 ⟨v6,rfl,h6⟩;have Q6:Hid _:=h6;clear h6;have c6:w6.cell? ⟨b,0,none⟩=some (.int .i64 n):=(Q.out.2.trans Q6.out.2).cell HBK.out (by decide) rfl))
 go_wp2
 go_ret
 refine⟨_,rfl,?_,Q.out.2.trans Q6.out.2⟩
 have:=Q6.out.1
 simpa[enc] using this
set_option maxRecDepth 1000000 in
theorem w_neg {p:Nat}{a:Tree}(hA:WCon B a):WCon B (.neg p a):=by
 intro w vo v l hn ho hB hl
 unfold zAO at hn
 obtain⟨b,va,rfl,hb,hblk,hca⟩:=hn
 obtain⟨i0,hi,hz0,hz1,hz2⟩:=info_parts Tryz.infoByte
 have c0:=zA0 (i:=0) hblk rfl
 have HBK:Hid (w.heap[b]?=some (.cells #[va] 294 (0,0))):=hblk
 have HC:Hid (zAO (Lt B) w a va):=hca
 have HA:Hid (WCon B a):=hA
 have HO:Hid (Out8 B w vo l):=ho
 have hln:l.length+1+(enc a).length≤1000000:=by simp[enc] at hl;omega
 have ta:=Tryz.isMinus
 have tm0:=Tryz.notMinusNumber
 clear ho hblk hl hca hA
 go_enter Tryz.func99,Tryz.ntmps99
 go_wp2_with fail
 go_region_held3 (fun w'=>w'.cell? ⟨b,0,none⟩=some va) (go_keep)
  (first
   | (refine step_append_lies _ (by rfl) (.tmp 26) (.tmp 27) _ (by rfl) B 5 i0 (.int .u8 0) 1 1 Tryz.underlying111 hi hz0 hz1 hz2 rfl (by omega) vo l.length (zB1 l) (by rfl) (World.ownsRow.alloc (World.ownsRow.drew HO.out) _) ⟨_,0,none⟩ 1 1 [.int .u8 126] (by rfl) (by rfl) (zFI (heap_alloc_new _ _)) (by simp[Value.oneCell']) (by omega) (by unfold maxLen;omega) (by omega) (by simp;omega) _ (by rfl) ?_;intro g cap w5 hown hgrow hat hlt;have hQ:=Out8.pushed (b:=126) hB HO.out rfl hown hgrow;have hB5:B≤w5.heap.size:=Nat.le_trans hB hQ.2.size;have c5:w5.cell? ⟨b,0,none⟩=some va:=hQ.2.cell HBK.out (by decide) rfl;have Q:Hid _:=hQ;clear hown hgrow hat hlt hQ)
   | (go_at_call 99;refine(HA.out _ _ va _ (HC.out.moves (zH9 Q.out.2.below)) Q.out.1 hB5 (by simp;omega)).mono ?_;rintro e w6 ⟨v6,rfl,h6⟩;have Q6:Hid _:=h6;clear h6;have c6:w6.cell? ⟨b,0,none⟩=some va:=(Q.out.2.trans Q6.out.2).cell HBK.out (by decide) rfl))
 go_wp2
 go_ret
 refine⟨_,rfl,?_,Q.out.2.trans Q6.out.2⟩
 have:=Q6.out.1
 simpa[enc] using this
set_option maxRecDepth 1000000 in
set_option maxHeartbeats 1000000 in
theorem w_meas {p:Nat}{wd m:ByteArray}{n:Int}(hwd:wd.size<256)(hm:m.size<256)(h0:0≤n)(h1:n<1000000000):WCon B (.meas p wd m n):=by
 intro w vo v l hn ho hB hl
 unfold zAO at hn
 obtain⟨b,rfl,hb,hblk⟩:=hn
 obtain⟨i0,hi,hz0,hz1,hz2⟩:=info_parts Tryz.infoByte
 have c0:=zA0 (i:=0) hblk rfl
 have c1:=zA0 (i:=1) hblk rfl
 have HBK:Hid (w.heap[b]?=some (.cells #[.int .i64 p,.string wd,.string m,.int .i64 n] 302 (0,0))):=hblk
 have HO:Hid (Out8 B w vo l):=ho
 have hln:l.length+2+(zH4 wd).length+(zH4 m).length+4≤1000000:=by simp[enc,be4] at hl;omega
 have ta:=Tryz.isMeasure
 have tm0:=Tryz.notMeasureNumber
 have tm1:=Tryz.notMeasureMinus
 have tm2:=Tryz.notMeasurePair
 have tm3:=Tryz.notMeasureChoice
 clear ho hblk hl
 go_enter Tryz.func99,Tryz.ntmps99
 go_wp2_with fail
 go_region_held3 (fun w'=>w'.cell? ⟨b,0,none⟩=some (.int .i64 p)∧w'.cell? ⟨b,1,none⟩=some (.string wd)) (go_keep)
  (first
   | (refine step_append_lies _ (by rfl) (.tmp 63) (.tmp 64) _ (by rfl) B 5 i0 (.int .u8 0) 1 1 Tryz.underlying111 hi hz0 hz1 hz2 rfl (by omega) vo l.length (zB1 l) (by rfl) (World.ownsRow.alloc (World.ownsRow.drew HO.out) _) ⟨_,0,none⟩ 1 1 [.int .u8 109] (by rfl) (by rfl) (zFI (heap_alloc_new _ _)) (by simp[Value.oneCell']) (by omega) (by unfold maxLen;omega) (by omega) (by simp;omega) _ (by rfl) ?_;intro g cap w5 hown hgrow hat hlt;have hQ:=Out8.pushed (b:=109) hB HO.out rfl hown hgrow;have hB5:B≤w5.heap.size:=Nat.le_trans hB hQ.2.size;have c50:w5.cell? ⟨b,0,none⟩=some (.int .i64 p):=hQ.2.cell HBK.out (by decide) rfl;have c51:w5.cell? ⟨b,1,none⟩=some (.string wd):=hQ.2.cell HBK.out (by decide) rfl;have Q:Hid _:=hQ;clear hown hgrow hat hlt hQ)
   | (go_at_call 140;refine(zDW Q.out.1 hB5 (by simp;omega) p).mono ?_;rintro e w6 ⟨v6,rfl,h6⟩;have Q6:Hid _:=And.intro h6.1 (Q.out.2.trans h6.2);have hB6:B≤w6.heap.size:=Nat.le_trans hB5 h6.2.size;clear h6;have c60:w6.cell? ⟨b,0,none⟩=some (.int .i64 p):=Q6.out.2.cell HBK.out (by decide) rfl;have c61:w6.cell? ⟨b,1,none⟩=some (.string wd):=Q6.out.2.cell HBK.out (by decide) rfl)
   | (go_at_call 139;refine(zEO Q6.out.1 hB6 (by simp;omega) wd (by omega)).mono ?_;rintro e w7 ⟨v7,rfl,h7⟩;have Q7:Hid _:=And.intro h7.1 (Q6.out.2.trans h7.2);have hB7:B≤w7.heap.size:=Nat.le_trans hB6 h7.2.size;clear h7;have c70:w7.cell? ⟨b,0,none⟩=some (.int .i64 p):=Q7.out.2.cell HBK.out (by decide) rfl;have c71:w7.cell? ⟨b,1,none⟩=some (.string wd):=Q7.out.2.cell HBK.out (by decide) rfl))
 have c72:w7.cell? ⟨b,2,none⟩=some (.string m):=Q7.out.2.cell HBK.out (by decide) rfl
 have c73:w7.cell? ⟨b,3,none⟩=some (.int .i64 n):=Q7.out.2.cell HBK.out (by decide) rfl
 go_wp2_with fail
 go_region_held3 (fun w'=>w'.cell? ⟨b,2,none⟩=some (.string m)∧w'.cell? ⟨b,3,none⟩=some (.int .i64 n)) (go_keep)
  (first
   | (go_at_call 139;refine(zEO (World.ownsRow.drew Q7.out.1) hB7 (by simp at hln ⊢;omega) m (by omega)).mono ?_;rintro e w8 ⟨v8,rfl,h8⟩;have Q8:Hid _:=And.intro h8.1 (Q7.out.2.drew.trans h8.2);have hB8:B≤w8.heap.size:=Nat.le_trans hB7 h8.2.size;clear h8;have c82:w8.cell? ⟨b,2,none⟩=some (.string m):=Q8.out.2.cell HBK.out (by decide) rfl;have c83:w8.cell? ⟨b,3,none⟩=some (.int .i64 n):=Q8.out.2.cell HBK.out (by decide) rfl)
   | (go_at_call 136;refine(zF8 Q8.out.1 hB8 (by simp at hln ⊢;omega) h0 h1).mono ?_;rintro e w9 ⟨v9,rfl,h9⟩;have Q9:Hid _:=And.intro h9.1 (Q8.out.2.trans h9.2);clear h9;have c92:w9.cell? ⟨b,2,none⟩=some (.string m):=Q9.out.2.cell HBK.out (by decide) rfl;have c93:w9.cell? ⟨b,3,none⟩=some (.int .i64 n):=Q9.out.2.cell HBK.out (by decide) rfl))
 go_wp2
 go_ret
 refine⟨_,rfl,?_,Q9.out.2⟩
 have:=Q9.out.1
 simpa[enc] using this
end
theorem zHY {w:World}{g:Nat}{cs:Array Value}{e:TypeId}(h:w.heap[g]?=some (.cells cs e (0,0)))(hc:cs.size≤1000){n:Nat}(hn:n=cs.size){xs:List Value}(hx:xs=cs.toList):w.ownsRow 0 e 1 (.slice (some ⟨g,0,none⟩) n n) n xs:=by
 subst hn hx
 exact⟨by simp,.inr ⟨g,_,cs,rfl,Nat.zero_le _,h,Nat.le_refl _,by first | (simp[maxLen];omega) | omega,by simp,by rw[List.take_of_length_le (by simp)]⟩⟩
theorem zBY {w:World}{o:Obj}{k:Nat}(h:k=w.heap.size):(w.alloc o).heap[k]?=some o:=by subst h;exact heap_alloc_new _ _
theorem zAO.form {P:Nat→Prop}{w:World}{t:Tree}{v:Value}(h:zAO P w t v):∃ ty b,v=.iface ty (ptr b):=by
 cases t <;> unfold zAO at h
 ·obtain⟨b,rfl,-⟩:=h;exact⟨_,_,rfl⟩
 ·obtain⟨b,_,rfl,-⟩:=h;exact⟨_,_,rfl⟩
 ·obtain⟨b,_,_,rfl,-⟩:=h;exact⟨_,_,rfl⟩
 ·obtain⟨b,_,_,_,rfl,-⟩:=h;exact⟨_,_,rfl⟩
 ·obtain⟨b,rfl,-⟩:=h;exact⟨_,_,rfl⟩
 ·obtain⟨b,_,_,rfl,-⟩:=h;exact⟨_,_,rfl⟩
section
variable {B:Nat}
set_option maxRecDepth 1000000 in
set_option maxHeartbeats 1000000 in
theorem w_ite {p:Nat}{a c d:Tree}(hA:WCon B a)(hC:WCon B c)(hD:WCon B d):WCon B (.ite p a c d):=by
 intro w vo v l hn ho hB hl
 unfold zAO at hn
 obtain⟨b,va,vc,vd,rfl,hb,hblk,hca,hcc,hcd⟩:=hn
 obtain⟨tya,ba,rfl⟩:=hca.form
 obtain⟨tyc,bc,rfl⟩:=hcc.form
 obtain⟨tyd,bd,rfl⟩:=hcd.form
 obtain⟨i0,hi,hz0,hz1,hz2⟩:=info_parts Tryz.infoByte
 have c0:=zA0 (i:=0) hblk rfl
 have c1:=zA0 (i:=1) hblk rfl
 have c2:=zA0 (i:=2) hblk rfl
 have HBK:Hid (w.heap[b]?=some (.cells #[(.iface tya (ptr ba)),(.iface tyc (ptr bc)),(.iface tyd (ptr bd))] 278 (0,0))):=hblk
 have HC:Hid (∀ w',W8 B w w'→zAU (Lt B) w' [a,c,d] [(.iface tya (ptr ba)),(.iface tyc (ptr bc)),(.iface tyd (ptr bd))]):=fun w' hw=>by
  have hm:=zH9 hw.below
  unfold zAU
  refine⟨(.iface tya (ptr ba)),_,rfl,hca.moves hm,?_⟩
  unfold zAU
  refine⟨(.iface tyc (ptr bc)),_,rfl,hcc.moves hm,?_⟩
  unfold zAU
  refine⟨(.iface tyd (ptr bd)),_,rfl,hcd.moves hm,?_⟩
  unfold zAU
  rfl
 have HT:Hid (∀ t∈[a,c,d],WCon B t):=by
  intro t ht
  simp at ht
  rcases ht with rfl | rfl | rfl
  ·exact hA
  ·exact hC
  ·exact hD
 have HO:Hid (Out8 B w vo l):=ho
 have hln:l.length+1+(encs [a,c,d]).length≤1000000:=by simp[enc,encs] at hl ⊢;omega
 have ta:=Tryz.isChoice
 have tm0:=Tryz.notChoiceNumber
 have tm1:=Tryz.notChoiceMinus
 have tm2:=Tryz.notChoicePair
 clear ho hblk hl hca hcc hcd hA hC hD
 go_enter Tryz.func99,Tryz.ntmps99
 go_wp2_with fail
 go_region_held3 (fun w'=>w'.cell? ⟨b,0,none⟩=some (.iface tya (ptr ba))∧w'.cell? ⟨b,1,none⟩=some (.iface tyc (ptr bc))∧w'.cell? ⟨b,2,none⟩=some (.iface tyd (ptr bd))) (go_keep)
  (first
   | (refine step_append_lies _ (by rfl) (.tmp 43) (.tmp 44) _ (by rfl) B 5 i0 (.int .u8 0) 1 1 Tryz.underlying111 hi hz0 hz1 hz2 rfl (by omega) vo l.length (zB1 l) (by rfl) (by repeat (first | with_reducible exact HO.out | with_reducible apply World.ownsRow.drew | with_reducible apply World.ownsRow.alloc)) ⟨_,0,none⟩ 1 1 [.int .u8 63] (by rfl) (by rfl) (zFI (by first | exact zBY (by simp) | exact zA3 (zBY (by simp)))) (by simp[Value.oneCell']) (by omega) (by unfold maxLen;omega) (by omega) (by first | exact hB | (simp;omega) | (simp;done)) _ (by rfl) ?_;intro g cap w5 hown hgrow hat hlt;have hQ:=Out8.push (b:=63) (x:=.int .u8 63) (w:=w) (l:=l) (v:=vo) (by repeat (first | exact W8.refl _ _ | with_reducible apply W8.drew | refine W8.alloc ?_ (by first | exact hB | (simp;omega) | (simp;done)) _)) (by repeat (first | with_reducible exact HO.out | with_reducible apply World.ownsRow.drew | with_reducible apply World.ownsRow.alloc)) (by first | exact hB | (simp;omega) | (simp;done)) rfl hown hgrow;have hB5:B≤w5.heap.size:=Nat.le_trans hB hQ.2.size;have HW:Hid _:=W8.grown (B:=B) (v:=vo) (n:=l.length) (xs:=zB1 l) (by repeat (first | with_reducible exact HO.out | with_reducible apply World.ownsRow.drew | with_reducible apply World.ownsRow.alloc)) hgrow (by first | exact hB | (simp;omega) | (simp;done));have Q:Hid _:=hQ;have c50:w5.cell? ⟨b,0,none⟩=some (.iface tya (ptr ba)):=hQ.2.cell HBK.out (by decide) rfl;have c51:w5.cell? ⟨b,1,none⟩=some (.iface tyc (ptr bc)):=hQ.2.cell HBK.out (by decide) rfl;have c52:w5.cell? ⟨b,2,none⟩=some (.iface tyd (ptr bd)):=hQ.2.cell HBK.out (by decide) rfl;clear hown hgrow hat hlt hQ)
   | (go_at_call 138;refine(zCR [a,c,d] HT.out (vs:=[(.iface tya (ptr ba)),(.iface tyc (ptr bc)),(.iface tyd (ptr bd))]) (HC.out _ (by first | exact Q.out.2 | exact Q.out.2.alloc hB5 _)) (zHY (by first | exact zBY (by simp) | exact HW.out.kind _ _ _ _ (zBY (by simp)) (by decide) | exact HW.out.kind _ _ _ _ (zA3 (zBY (by simp))) (by decide)) (by simp) rfl rfl) (by first | exact Q.out.1 | exact World.ownsRow.alloc Q.out.1 _) (by first | exact hB5 | (simp;omega)) (by simp at hln ⊢;omega) (by simp)).mono ?_;rintro e w6 ⟨v6,rfl,h6⟩;have Q6:Hid _:=And.intro h6.1 (W8.trans (by first | exact Q.out.2 | exact Q.out.2.alloc hB5 _) h6.2);clear h6;have c60:w6.cell? ⟨b,0,none⟩=some (.iface tya (ptr ba)):=Q6.out.2.cell HBK.out (by decide) rfl;have c61:w6.cell? ⟨b,1,none⟩=some (.iface tyc (ptr bc)):=Q6.out.2.cell HBK.out (by decide) rfl;have c62:w6.cell? ⟨b,2,none⟩=some (.iface tyd (ptr bd)):=Q6.out.2.cell HBK.out (by decide) rfl))
 all_goals
  go_wp2
  go_ret
  refine⟨_,rfl,?_,Q6.out.2⟩
  have:=Q6.out.1
  simpa[enc,encs] using this
end
end Go.Proofs.YtbokdbaagacnlaaGreatDoor
