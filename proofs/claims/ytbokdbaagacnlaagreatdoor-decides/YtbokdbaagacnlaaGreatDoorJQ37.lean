import Derived.Test.YtbokdbaagacnlaaGreatDoorJQ36
namespace Go.Proofs.YtbokdbaagacnlaaGreatDoor
open Go.RowKit Go.Lib
theorem run_clearM {w:World}{m:Nat}{F:ByteArray→Option Value}(h:MapF w m F)(ty:TypeId):∃ w',(Builtin.clear_ #[113] ty #[.map (some m)]).run Tryz.prog w=.ok (.tuple #[]) w'∧w.grownBy w' (some m):=by
 obtain⟨es,clock,h1,-⟩:=h
 refine⟨_,by simp[Builtin.clear_,run_underlying Tryz.underlying113,MapKept.run_getObj_map h1,MapKept.run_setObj_map _ h1,Result.andThen];rfl,?_⟩
 exact⟨rfl,rfl,rfl,by simp,fun k hk hne=>by
  have:m≠k:=fun e=>hne (by rw[e])
  simp[this]⟩
theorem zH2 (w:World){ops:Array Oper}{rest:List Oper}{o:Oper}{a:Act}{Q:Exit→Act→World→Prop}(hg:o.guard=none)(x:Operand)(hop:o.op=.call { callee:=.builtin .clear,args:=#[x],argTypes:=#[113] })
  {m:Nat} {F:ByteArray→Option Value} (hx:a.eval x=.map (some m)) (ho:MapF w m F) (hK:∀ w',w.grownBy w' (some m)→wpList Tryz.prog ops Q rest (a.put o.dst (.tuple #[])) w'):wpList Tryz.prog ops Q (o :: rest) a w:=by
 refine wpList_plain hg fun K hK'=>?_
 obtain⟨w',hr,h2⟩:=run_clearM ho o.type
 unfold Oper.wp execOp
 simp only[hop,resolve,invoke,builtin,Sem.run_bind,Sem.run_pure,Result.andThen_ok,List.map_toArray,List.map_cons,List.map_nil,hx,hr]
 exact hK' _ _ (hK w' h2)
structure Asks (p:Option Addr) (lo:Nat) (w:World) (b:Nat) (t:Tree):Prop where
 prog:∃ lo2 F,lo≤lo2∧ProgB lo2 w b (bare t) (zAT [] (mets t)) (asks t) (zA5 t) F ∧
  ∀ q∈asks t,∃ b1 b2,F q.2=some (.func (.func 114) #[] #[ptr b1,ptr b2])∧lo≤b1∧lo≤b2∧One w b1 (.pointer p) 171∧One w b2 (.string q.2) 9
def ProgT (p:Option Addr)(lo:Nat)(w:World)(e:Ending):Option Tree→Prop
 | none=>e=.returned (.pointer none)
 | some t=>Fit t∧size t≤200∧match zCD (zAE 15 4) (asks t) with
  | none=>∃ b,e=.returned (ptr b)∧Asks p lo w b t
  | some _=>e=.returned (.pointer none)
set_option maxRecDepth 1000000 in
set_option maxHeartbeats 4000000 in
theorem zME (s:ByteArray)(p:Option Addr){A:Nat→Addr}{w:World}(hT:TabsR w)(hA:Sents A w):
  Calls Tryz.prog 39 #[.string s,.pointer p] w fun e w'=>∃ (t:Option Tree) (f q:Nat),PRel s (t,f,q)∧Below w.heap.size w w'∧ProgT p w.heap.size w' e t:=by
 have hp:=code_Parse s w hT.tabs (A 0) hA.g0
 have HX:Hid _:=And.intro hT hA
 clear hT hA
 go_enter Tryz.func39,Tryz.ntmps39
 go_wp2_with fail
 refine hp.mono ?_
 rintro e w1 ⟨hb1,hc⟩
 have HB1:Hid (Below w.heap.size w w1):=hb1
 clear hp hb1
 rcases hc with⟨h1,rfl⟩ | ⟨h1,⟨J,b,h2,rfl,h3⟩ | ⟨t,J,a,h2,h3,rfl,h4⟩⟩
 ·have HP:Hid (PRel s (none,1,0)):=.inl ⟨h1,rfl⟩
  clear h1
  go_wp2
  go_ret
  exact⟨none,1,0,HP.out,HB1.out,rfl⟩
 ·have HP:Hid (PRel s (none,2,pl (toks s) J)):=.inr ⟨h1,by
   rcases h2 with h2 | ⟨t,h2,h4⟩
   ·exact .inl ⟨J,h2,rfl⟩
   ·exact .inr (.inl ⟨t,J,h2,h4,rfl⟩)⟩
  clear h1 h2 h3
  go_wp2
  go_ret
  exact⟨none,2,_,HP.out,HB1.out,rfl⟩
 ·have HP:Hid (PRel s (some t,0,0)):=.inr ⟨h1,.inr (.inr ⟨t,J,h2,h3,rfl⟩)⟩
  obtain⟨hf,hsz⟩:=zNL h1 h2 h3
  obtain⟨pb,a',rfl,hpr⟩:=h4
  have h4:CPol w.heap.size w1 t ⟨pb,0,none⟩:=⟨pb,a',rfl,hpr⟩
  have hps:=zNO 15 p w1
  have HF:Hid _:=And.intro hf (And.intro hsz h4)
  clear h1 h2 h3 hf hsz hpr h4
  go_wp2_with fail
  refine hps.mono ?_
  rintro e w2 ⟨hb2,⟨h0,-⟩ | ⟨-,rfl,hpm⟩⟩
  ·exact absurd h0 (by decide)
  have HB2:Hid (Below w1.heap.size w1 w2):=hb2
  obtain⟨F,hF,hPF⟩:=hpm.map
  have HM:Hid _:=And.intro hF hPF
  have hc1:=code_Code HF.out.1 HF.out.2.1 (HF.out.2.2.below hb2)
  clear hps hb2 hpm hF hPF
  go_wp2_with fail
  refine hc1.mono ?_
  rintro e w3 ⟨c,rfl,ho3,hb3⟩
  have O3:Hid _:=And.intro ho3 hb3
  obtain⟨ca,cp,rfl⟩:=zAI ho3
  have B03:Hid (Below w.heap.size w w3):=(HB1.out.trans (HB2.out.mono HB1.out.size)).trans (hb3.mono (Nat.le_trans HB1.out.size HB2.out.size))
  have hld:=load_enc (HX.out.1.below B03.out) (HX.out.2.below B03.out) HF.out.1 HF.out.2.1 ho3.rest (pv:=.map (some w1.heap.size)) (F:=F) ⟨.inr ⟨_,rfl,HM.out.1.block (hb3.block _ HM.out.1.lt)⟩,fun s v q=>by
   rcases (HM.out.2.no s v q).2 with q2 | q2
   ·obtain⟨b1,b2,e,-⟩:=HM.out.2.yes s q2
    rw[q] at e
    injection e with e
    exact .inr ⟨_,_,_,e⟩
   ·exact .inl q2⟩
  clear hc1 ho3 hb3
  go_wp2_with fail
  refine hld.mono ?_
  rintro e w4 ⟨hb4,gv,iv,rfl,hgot⟩
  have B34:Hid (Below w3.heap.size w3 w4):=hb4
  have hm4:MapF w4 w1.heap.size F:=HM.out.1.block ((hb4.block _ (Nat.lt_of_lt_of_le HM.out.1.lt O3.out.2.size)).trans (O3.out.2.block _ HM.out.1.lt))
  clear hld hb4
  rcases hgot with⟨hall,b,rfl,rfl,hpb⟩ | ⟨i,q,b,hq1,hq2,hq3,rfl,rfl,hq4⟩
  ·have HG:Hid _:=And.intro hall hpb
   clear hall hpb
   go_wp2_with (first
     | (refine zH2 _ rfl _ rfl rfl hm4 ?_;intro w5 hg5;have Q5:Hid _:=hg5;clear hg5)
     | fail)
   go_ret
   have L1:=HM.out.1.lt
   have B45:Below w.heap.size w w5:=⟨Q5.out.os.trans (B34.out.os.trans B03.out.os),Q5.out.tape.trans (B34.out.tape.trans B03.out.tape),Q5.out.output.trans (B34.out.output.trans B03.out.output),Nat.le_trans (Nat.le_trans B03.out.size B34.out.size) Q5.out.size,fun k lt=>(Q5.out.block k (by have:=B03.out.size;have:=B34.out.size;omega) (by have:=HB1.out.size;intro e;injection e with e;omega)).trans ((B34.out.block k (by have:=B03.out.size;omega)).trans (B03.out.block k lt))⟩
   refine⟨some t,0,0,HP.out,B45,HF.out.1,HF.out.2.1,?_⟩
   rw[find_of (zJY HM.out.2) HG.out.1]
   refine⟨b,rfl,w3.heap.size,F,B03.out.size,HG.out.2.above Q5.out.size fun k lo lt=>Q5.out.block k lt (by have:=O3.out.2.size;intro e;injection e with e;omega),fun q hq=>?_⟩
   have hin:=(zJY HM.out.2 q.2).1 (HG.out.1 q hq)
   obtain⟨f,x,y,e⟩:=HG.out.1 q hq
   rcases (HM.out.2.no _ _ e).2 with q2 | q2
   ·obtain⟨b1,b2,e2,l1,l2,o1,o2⟩:=HM.out.2.yes _ q2
    have h3:=O3.out.2.size
    have step:∀ {k:Nat} {cs:Array Value} {T:TypeId},w2.heap[k]?=some (.cells cs T (0,0))→w5.heap[k]?=some (.cells cs T (0,0)):=fun {k cs T} hk=>by
     have lk:=zA2 hk
     have a3:=(O3.out.2.block k lk).trans hk
     have a4:=(B34.out.block k (by omega)).trans a3
     refine(Q5.out.block k (zA2 a4) ?_).trans a4
     intro e
     injection e with e
     subst e
     obtain⟨es,clock,hm,-⟩:=HM.out.1
     rw[hm] at hk
     cases hk
    exact⟨b1,b2,e2,Nat.le_trans HB1.out.size l1,Nat.le_trans HB1.out.size l2,step o1,step o2⟩
   ·cases q2
  ·have HG:Hid _:=And.intro hq1 (And.intro hq2 hq3)
   clear hq1 hq2 hq3 hq4
   go_wp2_with (first
     | (refine zH2 _ rfl _ rfl rfl hm4 ?_;intro w5 hg5;have Q5:Hid _:=hg5;clear hg5)
     | fail)
   go_ret
   have B45:Below w.heap.size w w5:=⟨Q5.out.os.trans (B34.out.os.trans B03.out.os),Q5.out.tape.trans (B34.out.tape.trans B03.out.tape),Q5.out.output.trans (B34.out.output.trans B03.out.output),Nat.le_trans (Nat.le_trans B03.out.size B34.out.size) Q5.out.size,fun k lt=>(Q5.out.block k (by have:=B03.out.size;have:=B34.out.size;omega) (by have:=HB1.out.size;intro e;injection e with e;omega)).trans ((B34.out.block k (by have:=B03.out.size;omega)).trans (B03.out.block k lt))⟩
   refine⟨some t,0,0,HP.out,B45,HF.out.1,HF.out.2.1,?_⟩
   rw[find_at (zJY HM.out.2) HG.out.1 HG.out.2.1 HG.out.2.2]
   rfl
end Go.Proofs.YtbokdbaagacnlaaGreatDoor
namespace Go.Proofs.YtbokdbaagacnlaaGreatDoor
open Go.Lib
theorem zHP : (∀ t:Tree,(zA5 t).length≤size t)∧∀ ts:List Tree,(zAY ts).length≤zCS ts:=by
 refine⟨fun t=>?_,fun ts=>?_⟩
 ·exact go t
 ·exact gos ts
where
 go:∀ t:Tree,(zA5 t).length≤size t
  | .num .. => by simp[zA5]
  | .neg _ a=>by have:=go a;simp[zA5,size];omega
  | .bin _ _ a b=>by have:=go a;have:=go b;simp[zA5,size];omega
  | .ite _ a b c=>by have:=go a;have:=go b;have:=go c;simp[zA5,size];omega
  | .meas .. => by simp[zA5,size]
  | .probe _ _ ts=>by have:=gos ts;simp[zA5,size];omega
 gos:∀ ts:List Tree,(zAY ts).length≤zCS ts
  | []=>by simp[zAY]
  | t :: ts=>by have:=go t;have:=gos ts;simp[zAY,zCS];omega
mutual
theorem zD1 : ∀ t,zA5 (bare t)=zA5 t
 | .num _ _=>by simp[bare,zA5]
 | .neg _ a=>by simp[bare,zA5,zD1 a]
 | .bin _ _ a b=>by simp[bare,zA5,zD1 a,zD1 b]
 | .ite _ a b c=>by simp[bare,zA5,zD1 a,zD1 b,zD1 c]
 | .meas _ _ _ _=>by simp[bare]
 | .probe _ _ ts=>by simp[bare,zA5,zJM ts]
theorem zJM : ∀ ts,zAY (zFA ts)=zAY ts
 | []=>by simp[zFA]
 | t :: ts=>by simp[zFA,zAY,zD1 t,zJM ts]
end
mutual
theorem zDM : ∀ t,Fit t→∀ q∈zA5 t,0≤q.2∧q.2<1000000000
 | .num _ _,_,q,h=>by simp[zA5] at h
 | .neg _ a,hf,q,h=>by unfold Fit at hf;simp[zA5] at h;exact zDM a hf q h
 | .bin _ _ a b,hf,q,h=>by
  unfold Fit at hf
  simp[zA5] at h
  rcases h with h | h
  ·exact zDM a hf.2.2.1 q h
  ·exact zDM b hf.2.2.2 q h
 | .ite _ a b c,hf,q,h=>by
  unfold Fit at hf
  simp[zA5] at h
  rcases h with h | h | h
  ·exact zDM a hf.1 q h
  ·exact zDM b hf.2.1 q h
  ·exact zDM c hf.2.2 q h
 | .meas _ _ _ _,hf,q,h=>by
  unfold Fit at hf
  simp[zA5] at h
  subst h
  exact hf.2.2.2.2.2.2
 | .probe _ _ ts,hf,q,h=>by
  unfold Fit at hf
  simp[zA5] at h
  exact zL2 ts hf.2.2.2.2.2 q h
theorem zL2 : ∀ ts,zB8 ts→∀ q∈zAY ts,0≤q.2∧q.2<1000000000
 | [],_,q,h=>by simp[zAY] at h
 | t :: ts,hf,q,h=>by
  unfold zB8 at hf
  simp[zAY] at h
  rcases h with h | h
  ·exact zDM t hf.1 q h
  ·exact zL2 ts hf.2 q h
end
end Go.Proofs.YtbokdbaagacnlaaGreatDoor
namespace Go.Proofs.YtbokdbaagacnlaaGreatDoor
open Go.RowKit Go.Lib
theorem ProgB.lower {lo lo' b:Nat}{w:World}{t:Tree}{ms:List ByteArray}{qs:List (Nat × ByteArray)}{sp:List (ByteArray × Int)}{F:ByteArray→Option Value}(h:ProgB lo w b t ms qs sp F)(hl:lo'≤lo):ProgB lo' w b t ms qs sp F:=by
 obtain⟨⟨lb,g,G,h1,⟨⟨vv,mv,sv,av,k1,k2,k3,k4,k5,k7⟩,k6⟩,h3,h4,h5⟩,h6⟩:=h
 exact⟨⟨lb,g,G,h1,⟨⟨vv,mv,sv,av,k1,k2,k3.moves fun g hg=>⟨⟨Nat.le_trans hl hg.1,hg.2⟩,rfl⟩,zBA k4 hl,zBA k5 hl,zBA k7 hl⟩,Nat.le_trans hl k6⟩,h3,Nat.le_trans hl h4,h5⟩,Nat.le_trans hl h6⟩
theorem Asks.probes {lo b:Nat}{w:World}{t:Tree}(h:Asks none lo w b t):∃ F,ProgB lo w b (bare t) (zAT [] (mets t)) (asks (bare t)) (zA5 t) F∧∀ c,w.heap.size≤c→zHK F zAC w lo c (bare t) (zA5 t):=by
 obtain⟨lo2,F,hl,hp,hq⟩:=h.prog
 rw[zD9]
 refine⟨F,hp.lower hl,fun c hc w1 k' pb m I st hw1 hs1 ho q hqq=>?_⟩
 rw[zD9] at hqq
 obtain⟨b1,b2,hF,l1,l2,o1,o2⟩:=hq q hqq
 refine⟨_,hF,?_⟩
 have g1:=zA2 o1
 have g2:=zA2 o2
 exact probe_nil ((hw1 b1 l1 g1).trans o1) ((hw1 b2 l2 g2).trans o2) (fun e=>by have:=ho _ e;omega) (fun e=>by have:=ho _ e;omega)
def BegX (A:Nat→Addr)(w:World)(L:List Int)(count:Int)(e:Ending)(w':World):Option Tree→Prop
 | none=>e=.returned (.tuple #[.pointer none,begV false false 0])
 | some t=>Fit t∧size t≤200∧match zCD (zAE 15 4) (asks t) with
  | some _=>e=.returned (.tuple #[.pointer none,begV false false 0])
  | none=>(okL L count=false∧e=.returned (.tuple #[.pointer none,begV true false 5])) ∨
   (okL L count=true∧∃ x c F wl lo X,e=.returned (.tuple #[ptr x,begV true true 0])∧w'.heap[x]?=some (.cells #[ptr c] 74 (0,0))∧LiveX F zAC A w wl lo c (ctlL L count) (bare t) (zA5 t) zJZ X w'∧w.heap.size<lo∧∀ b,X b→wl.heap.size≤b)
set_option maxRecDepth 1000000 in
set_option maxHeartbeats 2000000 in
theorem zIB (s:ByteArray){A:Nat→Addr}{w:World}(hT:TabsR w)(hA:SentsX A w){ao:Option Addr}{cp:Nat}{L:List Int}{count:Int}(hL:zFC w ao L)(hl:∀ v∈L,In64 v):
  Calls Tryz.prog 19 #[.string s,.slice ao L.length cp,.int .i64 count,.bool false] w fun e w'=>∃ (t:Option Tree) (f q:Nat),PRel s (t,f,q)∧Below w.heap.size w w'∧BegX A w L count e w' t:=by
 have hx:Below w.heap.size w (w.alloc (.cells #[.bool false,.bool false,.int .i64 0,.int .i64 0,.int .i64 0,.string { data:=#[] }] 27)):=(Below.refl _ _).alloc (Nat.le_refl _) _
 have hrb:(w.alloc (.cells #[.bool false,.bool false,.int .i64 0,.int .i64 0,.int .i64 0,.string { data:=#[] }] 27)).heap[w.heap.size]?=some (.cells #[.bool false,.bool false,.int .i64 0,.int .i64 0,.int .i64 0,.string { data:=#[] }] 27 (0,0)):=heap_alloc_new _ _
 have hpg:=zME s none (hT.below hx) (hA.below hx).sents
 have HX:Hid _:=And.intro hx (And.intro hA (And.intro hL hl))
 have HRB:Hid _:=hrb
 have hsz:(w.alloc (.cells #[.bool false,.bool false,.int .i64 0,.int .i64 0,.int .i64 0,.string { data:=#[] }] 27)).heap.size=w.heap.size+1:=by simp
 rw[hsz] at hpg
 clear hx hrb hT hA hL hl hsz
 have CTL:Hid (∀ (t:Tree) (W:World) (b:Nat),Fit t→size t≤200→Below (w.heap.size+1) (w.alloc (.cells #[.bool false,.bool false,.int .i64 0,.int .i64 0,.int .i64 0,.string { data:=#[] }] 27)) W→Asks none (w.heap.size+1) W b t →
   Calls Tryz.prog 17 #[ptr b,.slice ao L.length cp,.int .i64 count] W fun e w'=>Below W.heap.size W w'∧Below w.heap.size w w'∧w'.heap[w.heap.size]?=some (.cells #[.bool false,.bool false,.int .i64 0,.int .i64 0,.int .i64 0,.string { data:=#[] }] 27 (0,0)) ∧
    ∃ pv bp bt be,e=.returned (.tuple #[pv,begV bp bt be])∧(pv=.pointer none∨∃ x,pv=ptr x)∧∀ w3,Keep w.heap.size w' w3→(okL L count=false∧(.returned (.tuple #[pv,begV bp bt be]):Ending)=.returned (.tuple #[.pointer none,begV true false 5])) ∨
   (okL L count=true∧∃ x c F wl lo X,(.returned (.tuple #[pv,begV bp bt be]):Ending)=.returned (.tuple #[ptr x,begV true true 0])∧w3.heap[x]?=some (.cells #[ptr c] 74 (0,0))∧LiveX F zAC A w wl lo c (ctlL L count) (bare t) (zA5 t) zJZ X w3∧w.heap.size<lo∧∀ b,X b→wl.heap.size≤b)):=fun t W b hf hz hW hask=>by
  have hWw:Below w.heap.size w W:=HX.out.1.trans (hW.mono (by omega))
  have lW:w.heap.size<W.heap.size:=by have:=hW.size;simp at this;omega
  have hrW:W.heap[w.heap.size]?=some (.cells #[.bool false,.bool false,.int .i64 0,.int .i64 0,.int .i64 0,.string { data:=#[] }] 27 (0,0)):=(hW.block _ (by omega)).trans HRB.out
  obtain⟨F,hp,hpr⟩:=hask.probes
  refine(zMD (P:=zAC) HX.out.2.1 hWw hp (zF0 t hf) (fun q hq=>by rwa [zD1] at hq) (fun _ _ _=>rfl) hpr (by have:=zHP.1 t;omega) (fun q hq=>?_) (HX.out.2.2.1.below hWw) HX.out.2.2.2).mono ?_
  ·have:=zDM t hf q hq;unfold In64;omega
  ·rintro e w' ⟨hb,h⟩
   have hr':=(hb.block _ lW).trans hrW
   have hbw:Below w.heap.size w w':=hWw.trans (hb.mono hWw.size)
   have hlo:w.heap.size<w.heap.size+1:=Nat.lt_succ_self _
   rcases h with⟨h1,rfl⟩ | ⟨h1,x,c,rfl,hx,X,hlv,hX⟩
   ·exact⟨hb,hbw,hr',_,_,_,_,rfl,.inl rfl,fun w3 _=>.inl ⟨h1,rfl⟩⟩
   ·refine⟨hb,hbw,hr',_,_,_,_,rfl,.inr ⟨x,rfl⟩,fun w3 hk=>.inr ⟨h1,x,c,F,W,w.heap.size+1,X,rfl,?_,hlv.set hr' (by unfold Calm;decide) (Nat.le_refl _) (.inl hlo) hk.x,hlo,hX⟩⟩
    refine(hk.block x (zA2 hx) fun e=>?_).trans hx
    rw[e,hr'] at hx
    injection hx with e1
    injection e1 with _ e1
    exact absurd e1 (by decide)
 have RB0:Hid (∀ W,Below (w.heap.size+1) (w.alloc (.cells #[.bool false,.bool false,.int .i64 0,.int .i64 0,.int .i64 0,.string { data:=#[] }] 27)) W→W.heap[w.heap.size]?=some (.cells #[.bool false,.bool false,.int .i64 0,.int .i64 0,.int .i64 0,.string { data:=#[] }] 27 (0,0))∧Below w.heap.size w W):=fun W hW=>⟨(hW.block _ (by omega)).trans HRB.out,HX.out.1.trans (hW.mono (by omega))⟩
 go_enter Tryz.func19,Tryz.ntmps19
 go_wp2_with fail
 refine hpg.mono ?_
 rintro e w0 ⟨t0,f0,q0,hP,hb0,hpt⟩
 have HP:Hid _:=hP
 have HB0:Hid _:=RB0.out w0 hb0
 have HW0:Hid _:=hb0
 clear hpg hb0 hP
 cases t0 with
 | none=>
  have hpt:e=.returned (.pointer none):=hpt
  subst hpt
  have rc0:=zA0 (i:=0) (v:=.bool false) HB0.out.1 rfl
  have rc1:=zA0 (i:=1) (v:=.bool false) HB0.out.1 rfl
  have rc2:=zA0 (i:=2) (v:=.int .i64 0) HB0.out.1 rfl
  have rc3:=zA0 (i:=3) (v:=.int .i64 0) HB0.out.1 rfl
  have rc4:=zA0 (i:=4) (v:=.int .i64 0) HB0.out.1 rfl
  have rc5:=zA0 (i:=5) (v:=.string { data:=#[] }) HB0.out.1 rfl
  have rz0:=zA1 (i:=0) HB0.out.1
  have rz1:=zA1 (i:=1) HB0.out.1
  have rz2:=zA1 (i:=2) HB0.out.1
  have rz3:=zA1 (i:=3) HB0.out.1
  have rz4:=zA1 (i:=4) HB0.out.1
  have rz5:=zA1 (i:=5) HB0.out.1
  go_wp2
  refine bodyPost_ret (v:=.tuple #[.pointer none,begV false false 0]) (by simp[results,Tryz.results19,go_sem,rc0,rc1,rc2,rc3,rc4,rc5]) rfl ?_
  exact⟨none,_,_,HP.out,(by(iterate 6 (refine Below.setCell ?_ (by exact Nat.le_refl _) _));exact HB0.out.2),rfl⟩
 | some t=>
  obtain⟨hf,hz,hm⟩:=hpt
  cases hms:zCD (zAE 15 4) (asks t) with
  | some q=>
   rw[hms] at hm
   have hm:e=.returned (.pointer none):=hm
   subst hm
   have HMS:Hid _:=And.intro hf (And.intro hz hms)
   clear hf hz hms
   have rc0:=zA0 (i:=0) (v:=.bool false) HB0.out.1 rfl
   have rc1:=zA0 (i:=1) (v:=.bool false) HB0.out.1 rfl
   have rc2:=zA0 (i:=2) (v:=.int .i64 0) HB0.out.1 rfl
   have rc3:=zA0 (i:=3) (v:=.int .i64 0) HB0.out.1 rfl
   have rc4:=zA0 (i:=4) (v:=.int .i64 0) HB0.out.1 rfl
   have rc5:=zA0 (i:=5) (v:=.string { data:=#[] }) HB0.out.1 rfl
   have rz0:=zA1 (i:=0) HB0.out.1
   have rz1:=zA1 (i:=1) HB0.out.1
   have rz2:=zA1 (i:=2) HB0.out.1
   have rz3:=zA1 (i:=3) HB0.out.1
   have rz4:=zA1 (i:=4) HB0.out.1
   have rz5:=zA1 (i:=5) HB0.out.1
   go_wp2
   refine bodyPost_ret (v:=.tuple #[.pointer none,begV false false 0]) (by simp[results,Tryz.results19,go_sem,rc0,rc1,rc2,rc3,rc4,rc5]) rfl ?_
   refine⟨some t,_,_,HP.out,(by(iterate 6 (refine Below.setCell ?_ (by exact Nat.le_refl _) _));exact HB0.out.2),HMS.out.1,HMS.out.2.1,?_⟩
   rw[HMS.out.2.2]
  | none=>
   rw[hms] at hm
   obtain⟨b,rfl,hask⟩:∃ b,e=.returned (ptr b)∧Asks none (w.heap.size+1) w0 b t:=hm
   have hcl:=CTL.out t w0 b hf hz HW0.out hask
   have HMS:Hid _:=And.intro hf (And.intro hz hms)
   clear hf hz hms hask
   go_wp2_with fail
   refine hcl.mono ?_
   rintro e w5 ⟨hb5,hbw5,hr5,pv,bp,bt,be,rfl,hpv,hq⟩
   have HQ:Hid _:=And.intro hbw5 hq
   have HB5:Hid _:=hr5
   clear hcl hb5 hbw5 hr5 hq
   have rc0:=zA0 (i:=0) (v:=.bool false) HB5.out rfl
   have rc1:=zA0 (i:=1) (v:=.bool false) HB5.out rfl
   have rc2:=zA0 (i:=2) (v:=.int .i64 0) HB5.out rfl
   have rc3:=zA0 (i:=3) (v:=.int .i64 0) HB5.out rfl
   have rc4:=zA0 (i:=4) (v:=.int .i64 0) HB5.out rfl
   have rc5:=zA0 (i:=5) (v:=.string { data:=#[] }) HB5.out rfl
   have rz0:=zA1 (i:=0) HB5.out
   have rz1:=zA1 (i:=1) HB5.out
   have rz2:=zA1 (i:=2) HB5.out
   have rz3:=zA1 (i:=3) HB5.out
   have rz4:=zA1 (i:=4) HB5.out
   have rz5:=zA1 (i:=5) HB5.out
   rcases hpv with rfl | ⟨x,rfl⟩
   ·go_wp2
    refine bodyPost_ret (v:=.tuple #[.pointer none,begV bp bt be]) (by simp[results,Tryz.results19,go_sem,rc0,rc1,rc2,rc3,rc4,rc5]) rfl ?_
    refine⟨some t,_,_,HP.out,(by(iterate 6 (refine Below.setCell ?_ (by exact Nat.le_refl _) _));exact HQ.out.1),HMS.out.1,HMS.out.2.1,?_⟩
    rw[HMS.out.2.2]
    exact HQ.out.2 _ (by(iterate 6 (refine Keep.setR ?_ _ _));exact Keep.refl _ _)
   ·go_wp2
    refine bodyPost_ret (v:=.tuple #[ptr x,begV bp bt be]) (by simp[results,Tryz.results19,go_sem,rc0,rc1,rc2,rc3,rc4,rc5]) rfl ?_
    refine⟨some t,_,_,HP.out,(by(iterate 6 (refine Below.setCell ?_ (by exact Nat.le_refl _) _));exact HQ.out.1),HMS.out.1,HMS.out.2.1,?_⟩
    rw[HMS.out.2.2]
    exact HQ.out.2 _ (by(iterate 6 (refine Keep.setR ?_ _ _));exact Keep.refl _ _)
end Go.Proofs.YtbokdbaagacnlaaGreatDoor
