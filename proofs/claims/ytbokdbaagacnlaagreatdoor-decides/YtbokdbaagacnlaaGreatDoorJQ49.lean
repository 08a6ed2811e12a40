import Derived.Test.YtbokdbaagacnlaaGreatDoorJQ48
namespace Go.Proofs.YtbokdbaagacnlaaGreatDoor
open Go.RowKit Go.Lib
set_option maxRecDepth 1000000 in
set_option maxHeartbeats 1000000 in
theorem law_same2 (w:World)(t c a b e p m:Int):
  Calls Tryz.prog 10 #[.agg #[.int .i64 t,.int .i64 c,.int .i64 a,.int .i64 b,.int .i64 e,.int .i64 p,.int .i64 m,.string { data:=#[] }],.int .i64 t,.int .i64 c,.agg #[.int .i64 0,.int .i64 e,.int .i64 p,.int .i64 m]] w fun r w'=>r=.returned (.bool true)∧Below w.heap.size w w':=by
 go_enter Tryz.func10,Tryz.ntmps10
 go_wp2
 go_ret
 exact⟨rfl,((Below.refl _ _).alloc (Nat.le_refl _) _).alloc (by simp) _⟩
theorem row_dec {w:World}{la:Option Addr}{nD lc:Nat}{L:List (List Value)}(h:w.ownsRow 0 40 8 (.slice la nD lc) nD L.flatten)(h8:∀ x∈L,x.length=8){a:Nat}{x:List Value}(hx:L[a]?=some x):∃ C,la=some ⟨C,0,none⟩∧∀ j v,x[j]?=some v→w.cell? ⟨C,a * 8+j,none⟩=some v:=by
 rcases h.2 with⟨he,h0⟩ | ⟨C,cap,cur,he,-,hg,-,-,-,ht⟩
 ·have hl:=h.1
  subst h0
  have hf:=zPS L h8 a 0 x hx (by omega)
  have h8x:=h8 x (List.mem_of_getElem? hx)
  have:L.flatten=[]:=List.length_eq_zero_iff.1 (by omega)
  rw[this] at hf
  have:x[0]?=none:=by rw[←hf];rfl
  rw[List.getElem?_eq_none_iff] at this
  omega
 ·injection he with he _ _
  refine⟨C,he,fun j v hv=>zA0 hg ?_⟩
  have h8x:=h8 x (List.mem_of_getElem? hx)
  have hj:j<8:=by
   have:=(List.getElem?_eq_some_iff.1 hv).1
   omega
  have hf:=zPS L h8 a j x hx hj
  rw[hv,←ht,List.getElem?_take] at hf
  split at hf
  ·simpa using hf
  ·cases hf
set_option maxRecDepth 1000000 in
set_option maxHeartbeats 4000000 in
theorem law_ran {t:Tree}{w:World}{r:Nat}{pa:Option Addr}{N:Nat→Prop}{g:Nat→Nat}{lv0:Nat→Value}{av:Value}{s0:Ran}{S:Fed}(hf:Fit t)(hz:size t≤200)(hs0:s0.L=[])(h0:RanI t w r pa N g lv0 av 0 s0 S lv0 w){E:List Evt}{n sc lc:Nat}{la sa:Option Addr}(hn:n≤E.length)(hl:E.length≤1073741824)(hfit:∀ q∈E,In64 q.2.2.1∧In64 q.2.2.2)(hE:EvsP w sa E∧∀ C off,sa=some ⟨C,off,none⟩→¬ RBA r g lv0 av (msOf t).length C)
  (hL:w.ownsRow 0 40 8 (.slice la (zAW (bare t) (zA5 t) s0 E n).L.length lc) (zAW (bare t) (zA5 t) s0 E n).L.length (zAW (bare t) (zA5 t) s0 E n).L.flatten):
  Calls Tryz.prog 15 #[.slice la (zAW (bare t) (zA5 t) s0 E n).L.length lc,ptr r,.slice sa n sc,.bool true] w fun e w'=>e=.returned (.bool true)∧KeepX (RBA r g lv0 av (msOf t).length) w w':=by
 have h8:=ran_eight (bare t) (zA5 t) s0 hs0 E n
 have hlen:∀ i,(zAW (bare t) (zA5 t) s0 E i).L.length≤i:=fun i=>by
  have h1:=zP7 (bare t) (zA5 t) s0 hs0 E i
  have h2:=zLY (E.map (·.1)) i
  omega
 -- the events' row,the decisions' row
 have EV:Hid (∀ wr,KeepX (RBA r g lv0 av (msOf t).length) w wr→EvsP wr sa E):=fun wr hk i q hq=>by
  obtain⟨C,off,e,c0,c1,c2,c3⟩:=hE.1 i q hq
  have nx:=hE.2 C off e
  have mv:∀ {o:Nat} {v:Value},w.cell? ⟨C,o,none⟩=some v→wr.cell? ⟨C,o,none⟩=some v:=fun {o v} hc=>(World.cell?_of_block (hk.block C (World.block_lt_of_cell? _ _ hc) nx)).trans hc
  exact⟨C,off,e,mv c0,mv c1,mv c2,mv c3⟩
 have DC:Hid (∀ wr,KeepX (RBA r g lv0 av (msOf t).length) w wr→wr.ownsRow 0 40 8 (.slice la (zAW (bare t) (zA5 t) s0 E n).L.length lc) (zAW (bare t) (zA5 t) s0 E n).L.length (zAW (bare t) (zA5 t) s0 E n).L.flatten):=fun wr hk=>zA7 hL fun b hb=>hk.block b (hL.lt b hb).2 fun e=>by
  obtain⟨cs,hcs⟩:=zAQ hL hb
  exact h0.ref.calm hcs (by decide) e
 have PRE:Hid (∀ i q,i<n→E[i]?=some q→q.1=true→(zAW (bare t) (zA5 t) s0 E n).L[(zAW (bare t) (zA5 t) s0 E i).L.length]?=some (decV q.2.2.2 ((zAW (bare t) (zA5 t) s0 E i).k.decide zAC (bare t) (zAW (bare t) (zA5 t) s0 E i).T q.2.2.2).2.1.count (zAW (bare t) (zA5 t) s0 E i).L.length (i+1) ((zAW (bare t) (zA5 t) s0 E i).k.decide zAC (bare t) (zAW (bare t) (zA5 t) s0 E i).T q.2.2.2).1)):=fun i q hi hq ht=>by
  have hp:=zL3 (bare t) (zA5 t) s0 E (i:=i+1) (n:=n) (by omega)
  have e:zAW (bare t) (zA5 t) s0 E (i+1)=(zAW (bare t) (zA5 t) s0 E i).step (bare t) (zA5 t) i q:=by
   have e:zAW (bare t) (zA5 t) s0 E (i+1)=match E[i]? with
    | none=>zAW (bare t) (zA5 t) s0 E i
    | some q=>(zAW (bare t) (zA5 t) s0 E i).step (bare t) (zA5 t) i q:=rfl
   rw[hq] at e
   exact e
  rw[e] at hp
  unfold Ran.step at hp
  rw[if_pos ht] at hp
  obtain⟨l2,hl2⟩:=hp
  rw[←hl2]
  simp
 have STEP:Hid (∀ i q,E[i]?=some q→zAW (bare t) (zA5 t) s0 E (i+1)=(zAW (bare t) (zA5 t) s0 E i).step (bare t) (zA5 t) i q):=fun i q hq=>by
  have e:zAW (bare t) (zA5 t) s0 E (i+1)=match E[i]? with
   | none=>zAW (bare t) (zA5 t) s0 E i
   | some q=>(zAW (bare t) (zA5 t) s0 E i).step (bare t) (zA5 t) i q:=rfl
  rw[hq] at e
  exact e
 have MON:Hid (∀ i,i≤n→(zAW (bare t) (zA5 t) s0 E i).L.length≤(zAW (bare t) (zA5 t) s0 E n).L.length):=fun i hi=>(zL3 (bare t) (zA5 t) s0 E hi).length_le
 have H8:Hid _:=And.intro h8 (And.intro hf (And.intro hz hfit))
 have H0:Hid (∃ S lv,RanI t w r pa N g lv0 av 0 (zAW (bare t) (zA5 t) s0 E 0) S lv w):=⟨S,lv0,h0⟩
 have hlenn:=hlen n
 clear h0 hL hE h8 hf hz hfit hs0
 generalize hnD:(zAW (bare t) (zA5 t) s0 E n).L.length=nD at *
 go_enter Tryz.func15,Tryz.ntmps15
 go_wp2_with fail
 go_loopw [9,10] (fun v9 v10 wr=>∃ i:Nat,v10=.int .i64 i∧i≤n∧v9=.int .i64 (zAW (bare t) (zA5 t) s0 E i).L.length∧Hid (∃ S lv,RanI t w r pa N g lv0 av i (zAW (bare t) (zA5 t) s0 E i) S lv wr)) (fun _ v10 _=>n - (intOf v10).toNat)
 case atStart=>exact⟨0,rfl,Nat.zero_le _,by rw[show (zAW (bare t) (zA5 t) s0 E 0).L.length=0 by have:=hlen 0;omega];rfl,H0⟩
 case round=>
  clear H0
  obtain⟨i,rfl,hi,rfl,HI⟩:=hrel
  have hli:=hlen i
  rcases Nat.lt_or_ge i n with hlt | hge
  ·obtain⟨q,hq⟩:∃ q,E[i]?=some q:=⟨E[i]'(by omega),List.getElem?_eq_getElem _⟩
   obtain⟨S1,lv1,h1⟩:=HI.out
   obtain⟨C,off,rfl,c0,c1,c2,c3⟩:=EV.out wr h1.keep i q hq
   have hin:=H8.out.2.2.2 q (List.mem_of_getElem? hq)
   have hlt2:(i:Int)<n:=by omega
   have hst:=STEP.out i q hq
   have hpre:=PRE.out i q hlt hq
   obtain⟨tk,name,v,tm⟩:=q
   simp only at c0 c1 c2 c3 hin hpre
   have hW:=h1.go ((Below.refl wr.heap.size wr).alloc (Nat.le_refl _) (.cells #[.bool tk,.string name,.int .i64 v,.int .i64 tm] 35))
   cases tk with
   | false=>
    have hfd:=hW.feed (by omega) hin.1 hin.2 (name:=name)
    have HST:Hid _:=hst
    clear hpre h1 hW hst hq
    go_wp2_with fail
    refine hfd.mono ?_
    rintro e w2 ⟨⟨z,rfl⟩,-,S2,lv2,h2⟩
    have H2:Hid (∃ S lv,RanI t w r pa N g lv0 av (i+1) (zAW (bare t) (zA5 t) s0 E (i+1)) S lv w2):=by
     rw[HST.out]
     exact⟨S2,lv2,h2⟩
    have HL2:Hid ((zAW (bare t) (zA5 t) s0 E (i+1)).L.length=(zAW (bare t) (zA5 t) s0 E i).L.length):=by
     show _=_
     rw[HST.out]
     rfl
    clear hfd h2
    go_wp2
    go_roundw
    case rel=>exact⟨i+1,by go_num,by omega,by rw[HL2.out],H2⟩
    case measure=>simp[intOf];omega
   | true=>
    have hpre:=hpre rfl
    have htk:=hW.tick (name:=name) (v:=v) H8.out.2.1 H8.out.2.2.1 hin.2
    have hmon:=MON.out (i+1) (by omega)
    have hL1:(zAW (bare t) (zA5 t) s0 E (i+1)).L.length=(zAW (bare t) (zA5 t) s0 E i).L.length+1:=by
     rw[hst]
     simp[Ran.step]
    have hnq:∀ w2,KeepX (RBA r g lv1 av (msOf t).length) (wr.alloc (.cells #[.bool true,.string name,.int .i64 v,.int .i64 tm] 35)) w2→w2.heap[wr.heap.size]?=some (.cells #[.bool true,.string name,.int .i64 v,.int .i64 tm] 35 (0,0)):=fun w2 hk=>(hk.block _ (by simp) (hW.ref.calm (heap_alloc_new _ _) (by decide))).trans (heap_alloc_new _ _)
    have HST:Hid _:=And.intro hst (And.intro hL1 (And.intro hpre hnq))
    rw[hL1] at hmon
    clear hpre h1 hW hst hq hL1 hnq
    generalize hLi:(zAW (bare t) (zA5 t) s0 E i).L.length=a at *
    generalize hcn:((zAW (bare t) (zA5 t) s0 E i).k.decide zAC (bare t) (zAW (bare t) (zA5 t) s0 E i).T tm).2.1.count=cnt at *
    generalize hde:((zAW (bare t) (zA5 t) s0 E i).k.decide zAC (bare t) (zAW (bare t) (zA5 t) s0 E i).T tm).1=de at *
    have HG:Hid _:=And.intro hLi (And.intro hcn hde)
    clear hLi hcn hde
    go_wp2_with fail
    refine htk.mono ?_
    rintro e w2 ⟨rfl,hk2,S2,lv2,h2⟩
    have ho2:=HST.out.2.2.2 w2 hk2
    have o3:=zA0 (i:=3) (v:=.int .i64 tm) ho2 rfl
    have lo2:=zA2 ho2
    obtain⟨D,hD,hcell⟩:=row_dec (DC.out w2 h2.keep) H8.out.1 HST.out.2.2.1
    subst hD
    have x0:=hcell 0 _ rfl
    have x1:=hcell 1 _ rfl
    have x2:=hcell 2 _ rfl
    have x3:=hcell 3 _ rfl
    have x4:=hcell 4 _ rfl
    have x5:=hcell 5 _ rfl
    have x6:=hcell 6 _ rfl
    have x7:=hcell 7 _ rfl
    have lD:=World.block_lt_of_cell? _ _ x0
    simp only at lD
    have H2:Hid (∃ S lv,RanI t w r pa N g lv0 av (i+1) (zAW (bare t) (zA5 t) s0 E (i+1)) S lv w2):=by
     rw[HST.out.1]
     exact⟨S2,lv2,h2⟩
    clear htk h2 hk2 ho2 hcell
    have hal:(a:Int)<nD:=by omega
    have x0:w2.cell? ⟨D,a * 8,none⟩=some (.int .i64 tm):=x0
    have x1:w2.cell? ⟨D,a * 8+1,none⟩=some (.int .i64 cnt):=x1
    have x2:w2.cell? ⟨D,a * 8+2,none⟩=some (.int .i64 a):=x2
    have x3:w2.cell? ⟨D,a * 8+3,none⟩=some (.int .i64 (i+1:Nat)):=x3
    have x4:w2.cell? ⟨D,a * 8+4,none⟩=some (.int .i64 de.e):=x4
    have x5:w2.cell? ⟨D,a * 8+5,none⟩=some (.int .i64 de.p):=x5
    have x6:w2.cell? ⟨D,a * 8+6,none⟩=some (.int .i64 de.m):=x6
    have x7:w2.cell? ⟨D,a * 8+7,none⟩=some (.string zAK):=x7
    have hbV:Below w2.heap.size w2 (w2.alloc (.cells #[.int .i64 0,.int .i64 de.e,.int .i64 de.p,.int .i64 de.m] 43)):=(Below.refl _ _).alloc (Nat.le_refl _) _
    have b0:=zAR hbV x0
    have b1:=zAR hbV x1
    have b2:=zAR hbV x2
    have b3:=zAR hbV x3
    have b4:=zAR hbV x4
    have b5:=zAR hbV x5
    have b6:=zAR hbV x6
    have b7:=zAR hbV x7
    have bo:=zAR hbV o3
    have hvb:=heap_alloc_new w2 (.cells #[.int .i64 0,.int .i64 de.e,.int .i64 de.p,.int .i64 de.m] 43)
    have bv0:(w2.alloc (.cells #[.int .i64 0,.int .i64 de.e,.int .i64 de.p,.int .i64 de.m] 43)).cell? ⟨w2.heap.size,0,none⟩=some (.int .i64 0):=zA0 hvb rfl
    have bv1:(w2.alloc (.cells #[.int .i64 0,.int .i64 de.e,.int .i64 de.p,.int .i64 de.m] 43)).cell? ⟨w2.heap.size,1,none⟩=some (.int .i64 de.e):=zA0 hvb rfl
    have bv2:(w2.alloc (.cells #[.int .i64 0,.int .i64 de.e,.int .i64 de.p,.int .i64 de.m] 43)).cell? ⟨w2.heap.size,2,none⟩=some (.int .i64 de.p):=zA0 hvb rfl
    have bv3:(w2.alloc (.cells #[.int .i64 0,.int .i64 de.e,.int .i64 de.p,.int .i64 de.m] 43)).cell? ⟨w2.heap.size,3,none⟩=some (.int .i64 de.m):=zA0 hvb rfl
    go_wp2_with fail
    go_region_held3 (fun w'=>w'.cell? ⟨D,a * 8,none⟩=some (.int .i64 tm)∧w'.cell? ⟨D,a * 8+1,none⟩=some (.int .i64 cnt)∧w'.cell? ⟨D,a * 8+2,none⟩=some (.int .i64 a)∧w'.cell? ⟨D,a * 8+3,none⟩=some (.int .i64 (i+1:Nat))∧w'.cell? ⟨D,a * 8+4,none⟩=some (.int .i64 de.e)∧w'.cell? ⟨D,a * 8+5,none⟩=some (.int .i64 de.p)∧w'.cell? ⟨D,a * 8+6,none⟩=some (.int .i64 de.m)∧w'.cell? ⟨D,a * 8+7,none⟩=some (.string zAK)∧w'.cell? ⟨wr.heap.size,3,none⟩=some (.int .i64 tm)∧w'.cell? ⟨w2.heap.size,0,none⟩=some (.int .i64 0)∧w'.cell? ⟨w2.heap.size,1,none⟩=some (.int .i64 de.e)∧w'.cell? ⟨w2.heap.size,2,none⟩=some (.int .i64 de.p)∧w'.cell? ⟨w2.heap.size,3,none⟩=some (.int .i64 de.m)) (first | exact⟨b0,b1,b2,b3,b4,b5,b6,b7,bo,bv0,bv1,bv2,bv3⟩ | exact hS5 | go_keep)
     (first
      | (go_at_call 10;refine(law_same2 _ tm cnt a (i+1:Nat) de.e de.p de.m).mono ?_;rintro e w5 ⟨rfl,hb5⟩;have hS5:=(⟨zAR hb5 b0,zAR hb5 b1,zAR hb5 b2,zAR hb5 b3,zAR hb5 b4,zAR hb5 b5,zAR hb5 b6,zAR hb5 b7,zAR hb5 bo,zAR hb5 bv0,zAR hb5 bv1,zAR hb5 bv2,zAR hb5 bv3⟩:(fun w'=>w'.cell? ⟨D,a * 8,none⟩=some (.int .i64 tm)∧w'.cell? ⟨D,a * 8+1,none⟩=some (.int .i64 cnt)∧w'.cell? ⟨D,a * 8+2,none⟩=some (.int .i64 a)∧w'.cell? ⟨D,a * 8+3,none⟩=some (.int .i64 (i+1:Nat))∧w'.cell? ⟨D,a * 8+4,none⟩=some (.int .i64 de.e)∧w'.cell? ⟨D,a * 8+5,none⟩=some (.int .i64 de.p)∧w'.cell? ⟨D,a * 8+6,none⟩=some (.int .i64 de.m)∧w'.cell? ⟨D,a * 8+7,none⟩=some (.string zAK)∧w'.cell? ⟨wr.heap.size,3,none⟩=some (.int .i64 tm)∧w'.cell? ⟨w2.heap.size,0,none⟩=some (.int .i64 0)∧w'.cell? ⟨w2.heap.size,1,none⟩=some (.int .i64 de.e)∧w'.cell? ⟨w2.heap.size,2,none⟩=some (.int .i64 de.p)∧w'.cell? ⟨w2.heap.size,3,none⟩=some (.int .i64 de.m)) w5);have H5:Hid _:=hb5;clear hb5))
    all_goals
     obtain⟨y0,y1,y2,y3,y4,y5,y6,y7,yo,yv⟩:=hS5
     clear x0 x1 x2 x3 x4 x5 x6 x7 b0 b1 b2 b3 b4 b5 b6 b7 hvb bv0 bv1 bv2 bv3 bo o3 y0 y1 y4 y5 y6 y7 yv
     go_wp2
     go_roundw
     case rel=>
      refine⟨i+1,by go_num,by omega,by rw[HST.out.2.1];go_num,?_⟩
      obtain⟨S2,lv2,h2⟩:=H2.out
      exact⟨S2,lv2,(h2.go hbV.drew).go H5.out⟩
     case measure=>simp[intOf];omega
  ·obtain rfl:i=n:=by omega
   have hge2:¬ (i:Int)<i:=by omega
   obtain⟨S1,lv1,h1⟩:=HI.out
   have HK:Hid _:=h1.keep
   clear h1
   rw[hnD]
   go_wp2
   go_ret
   exact⟨rfl,HK.out⟩
end Go.Proofs.YtbokdbaagacnlaaGreatDoor
namespace Go.Proofs.YtbokdbaagacnlaaGreatDoor
open Go.RowKit Go.Lib Go.Shelf
def Begins (s:ByteArray)(L:List Int)(count:Int):Prop:=∃ t,PTree s (some t)∧zCD (zAE 15 4) (asks t)=none∧okL L count=true
theorem zNN {s:ByteArray}{a b:Option Tree}(h:PTree s a)(k:PTree s b):a=b:=by
 obtain⟨f1,q1,e1⟩:=h
 obtain⟨f2,q2,e2⟩:=k
 have:=e1.det e2
 injection this
def BegunD (A:Nat→Addr)(s:ByteArray)(L:List Int)(count:Int)(w:World)(e:Ending)(w':World):Prop:=
 ∃ cv rv nv,e=.returned (.tuple #[.pointer cv,.pointer rv,.pointer nv,.bool true])∧Below w.heap.size w w'∧((cv=none∧¬ Begins s L count)∨(Begins s L count∧∃ t x r Z N,PTree s (some t)∧cv=some ⟨x,0,none⟩∧rv=some ⟨r,0,none⟩∧zA9 N w' t (.pointer nv)∧Pair A w t 0 x r Z N w'∧(∀ b,Z b→w.heap.size≤b)∧∀ b,N b→w.heap.size≤b∨b=x))
set_option maxRecDepth 1000000 in
set_option maxHeartbeats 8000000 in
theorem law_begunD {s:ByteArray}(hs:s.size≤9223372036854775807){A:Nat→Addr}{w:World}(hT:TabsR w)(hA:SentsX A w){ao:Option Addr}{cp:Nat}{L:List Int}{count:Int}(hL:zFC w ao L)(hl:∀ v∈L,In64 v):
  Calls Tryz.prog 6 #[.string s,.slice ao L.length cp,.int .i64 count] w fun e w'=>BegunD A s L count w e w':=by
 have htr:=law_tree s hs hT
 have HX:Hid _:=And.intro hT (And.intro hA (And.intro hL hl))
 clear hT hA hL hl
 go_enter Tryz.func6,Tryz.ntmps6
 go_wp2_with fail
 refine htr.mono ?_
 rintro e w1 ⟨t,pa,hP,rfl,hb1,hTT⟩
 have hnc:=zIB s (HX.out.1.below hb1) (HX.out.2.1.below hb1) (cp:=cp) (count:=count) (HX.out.2.2.1.below hb1) HX.out.2.2.2
 have H1:Hid _:=And.intro hP (And.intro hb1 hTT)
 clear htr hP hb1 hTT
 go_wp2_with fail
 refine hnc.mono ?_
 rintro e w2 ⟨t2,f,q,hP2,hb2,hbeg⟩
 obtain rfl:t=t2:=by
  obtain⟨f1,q1,h1⟩:=H1.out.1
  have:=h1.det hP2
  injection this
 have HB2:Hid (Below w.heap.size w w2):=H1.out.2.1.trans (hb2.mono H1.out.2.1.size)
 have HB12:Hid _:=hb2
 clear hnc hb2 hP2
 have HN:Hid (zFC w2 ao L∧∀ v∈L,In64 v):=⟨HX.out.2.2.1.below HB2.out,HX.out.2.2.2⟩
 cases t with
 | none=>
  obtain rfl:pa=none:=H1.out.2.2
  have hbeg:e=_:=hbeg
  subst hbeg
  go_wp2_with fail
  go_quiet (fail)
  go_wp2
  refine bodyPost_ret (v:=.tuple #[.pointer none,.pointer none,.pointer none,.bool true]) (by simp[results,Tryz.results6,go_sem]) rfl ?_
  exact⟨none,none,none,rfl,below_drewN (HB2.out.alloc HB2.out.size _) _,.inl ⟨rfl,fun⟨t,h,_⟩=>by cases zNN H1.out.1 h⟩⟩
 | some t=>
  obtain⟨hf,hz,hm⟩:=hbeg
  have hTT:=H1.out.2.2
  obtain⟨-,-,hTT⟩:=hTT
  cases hms:zCD (zAE 15 4) (asks t) with
  | some mq=>
   rw[hms] at hm hTT
   obtain rfl:pa=none:=hTT
   have hm:e=_:=hm
   subst hm
   have HMS:Hid _:=And.intro hf (And.intro hz hms)
   clear hf hz hms
   go_wp2_with fail
   go_quiet (fail)
   go_wp2
   refine bodyPost_ret (v:=.tuple #[.pointer none,.pointer none,.pointer none,.bool true]) (by simp[results,Tryz.results6,go_sem]) rfl ?_
   exact⟨none,none,none,rfl,below_drewN (HB2.out.alloc HB2.out.size _) _,.inl ⟨rfl,fun⟨t2,h,hm2,_⟩=>by
    have e:=zNN H1.out.1 h
    injection e with e
    rw[←e,HMS.out.2.2] at hm2
    cases hm2⟩⟩
  | none=>
   rw[hms] at hm hTT
   obtain⟨hnode,hpa⟩:=hTT
   obtain⟨a,rfl⟩:∃ a,pa=some a:=Option.ne_none_iff_exists'.1 hpa
   have HNODE:Hid (zA9 (fun b=>w.heap.size≤b∧b<w1.heap.size) w1 t (.pointer (some a))):=hnode.moves fun b hge hlt=>⟨⟨hge,hlt⟩,rfl⟩
   have HMS:Hid _:=And.intro hf (And.intro hz hms)
   clear hnode hpa hf hz hms
   have FINN:Hid (∀ W,Below w2.heap.size w2 W→zA9 (fun b=>w.heap.size≤b∧b<w1.heap.size) W t (.pointer (some a))∧Below w.heap.size w W):=fun W hW=>⟨HNODE.out.moves fun b hb _=>⟨hb,(hW.block b (Nat.lt_of_lt_of_le hb.2 HB12.out.size)).trans (HB12.out.block b hb.2)⟩,HB2.out.trans (hW.mono HB2.out.size)⟩
   rcases hm with⟨hok,rfl⟩ | ⟨hok,x,c,F,wl,lo,X,rfl,hx,hlv,hlo,hX⟩
   ·have hno:zB7 (L.getD 0 0) (L.getD 1 0) (L.getD 2 0) (L.getD 3 0) (L.getD 4 0)=false∨count<L.getD 0 0∨L.getD 1 0<count:=by
     unfold okL at hok
     simp only[Bool.and_eq_false_iff,decide_eq_false_iff_not] at hok
     rcases hok with h | h | h
     ·exact .inl h
     ·exact .inr (.inl (by omega))
     ·exact .inr (.inr (by omega))
    have hbB:Below w2.heap.size w2 (w2.alloc (.cells #[.bool true,.bool false,.int .i64 5,.int .i64 0,.int .i64 0,.string { data:=#[] }] 27)):=(Below.refl _ _).alloc (Nat.le_refl _) _
    have hrB:(w2.alloc (.cells #[.bool true,.bool false,.int .i64 5,.int .i64 0,.int .i64 0,.string { data:=#[] }] 27)).heap[w2.heap.size]?=some (Obj.cells #[.bool true,.bool false,.int .i64 5,.int .i64 0,.int .i64 0,.string { data:=#[] }] 27 (0,0)):=heap_alloc_new _ _
    have hlim:=zL9 (HN.out.1.below hbB) (cp:=cp)
    have hsz:(w2.alloc (.cells #[.bool true,.bool false,.int .i64 5,.int .i64 0,.int .i64 0,.string { data:=#[] }] 27)).heap.size=w2.heap.size+1:=by simp
    rw[hsz] at hlim
    have HOK:Hid _:=And.intro hok hno
    have HBB:Hid _:=And.intro hbB hrB
    clear hok hno hbB hrB
    go_wp2_with fail
    refine hlim.mono ?_
    rintro e w3 ⟨rfl,hb3,hg3⟩
    have hnw:=ref_New_no (pa:=some a) (count:=count) hg3 HOK.out.2
    have hr3:=(hb3.block _ (Nat.lt_succ_self _)).trans HBB.out.2
    have b0:=zA0 (i:=0) (v:=.bool true) hr3 rfl
    have b2:=zA0 (i:=2) (v:=.int .i64 5) hr3 rfl
    have H3:Hid (Below w2.heap.size w2 w3):=HBB.out.1.trans (hb3.mono (Nat.le_succ _))
    clear hlim hb3 hg3 hr3
    go_wp2_with fail
    refine hnw.mono ?_
    rintro e w4 ⟨rfl,n,hw4⟩
    have hw4:=hw4.symm
    subst hw4
    clear hnw
    go_wp2_with fail
    go_quiet (fail)
    go_wp2
    refine bodyPost_ret (v:=.tuple #[.pointer none,.pointer none,.pointer (some a),.bool true]) (by simp[results,Tryz.results6,go_sem]) rfl ?_
    exact⟨none,none,some a,rfl,(FINN.out _ (below_drewN (below_drewN H3.out n) _)).2,.inl ⟨rfl,fun⟨t2,h,_,hk2⟩=>by
     rw[HOK.out.1] at hk2
     cases hk2⟩⟩
   ·have hyes:zB7 (L.getD 0 0) (L.getD 1 0) (L.getD 2 0) (L.getD 3 0) (L.getD 4 0)=true∧L.getD 0 0≤count∧count≤L.getD 1 0:=by
     have hok2:=hok
     unfold okL at hok2
     simpa only[Bool.and_eq_true,decide_eq_true_eq] using hok2
    have hbB:Below w2.heap.size w2 (w2.alloc (.cells #[.bool true,.bool true,.int .i64 0,.int .i64 0,.int .i64 0,.string { data:=#[] }] 27)):=(Below.refl _ _).alloc (Nat.le_refl _) _
    have hrB:(w2.alloc (.cells #[.bool true,.bool true,.int .i64 0,.int .i64 0,.int .i64 0,.string { data:=#[] }] 27)).heap[w2.heap.size]?=some (Obj.cells #[.bool true,.bool true,.int .i64 0,.int .i64 0,.int .i64 0,.string { data:=#[] }] 27 (0,0)):=heap_alloc_new _ _
    have hlim:=zL9 (HN.out.1.below hbB) (cp:=cp)
    have hsz:(w2.alloc (.cells #[.bool true,.bool true,.int .i64 0,.int .i64 0,.int .i64 0,.string { data:=#[] }] 27)).heap.size=w2.heap.size+1:=by simp
    rw[hsz] at hlim
    have HOK:Hid _:=And.intro hok hyes
    have HBB:Hid _:=And.intro hbB hrB
    have HLV:Hid _:=And.intro hx (And.intro hlv (And.intro hlo hX))
    clear hok hyes hbB hrB hx hlv hlo hX
    go_wp2_with fail
    refine hlim.mono ?_
    rintro e w3 ⟨rfl,hb3,hg3⟩
    have H3:Hid (Below w2.heap.size w2 w3):=HBB.out.1.trans (hb3.mono (Nat.le_succ _))
    have hn3:=(FINN.out _ H3.out).1
    have hnw:=ref_New (pa:=some a) (count:=count) HMS.out.1 HMS.out.2.1 (hn3.moves fun b _ hlt=>⟨hlt,rfl⟩) hg3 HOK.out.2.1 HOK.out.2.2.1 HOK.out.2.2.2
    have hr3:=(hb3.block _ (Nat.lt_succ_self _)).trans HBB.out.2
    have HR3:Hid _:=hr3
    clear hlim hb3 hg3 hr3 hn3
    go_wp2_with fail
    refine hnw.mono ?_
    rintro e w4 ⟨rfl,hb4,gg,av,href,hhi,hav⟩
    have hr4:=(hb4.block _ (zA2 HR3.out)).trans HR3.out
    have b1:=zA0 (i:=1) (v:=.bool true) hr4 rfl
    have b2:=zA0 (i:=2) (v:=.int .i64 0) hr4 rfl
    have H4:Hid (∀ W,Below w4.heap.size w4 W→BegunD A s L count w (.returned (.tuple #[ptr x,ptr w3.heap.size,.pointer (some a),.bool true])) W):=fun W hW=>by
     have hb24:Below w2.heap.size w2 W:=(H3.out.trans (hb4.mono H3.out.size)).trans (hW.mono (Nat.le_trans H3.out.size hb4.size))
     have hF:=FINN.out W hb24
     have lz:=H3.out.size
     refine⟨_,_,_,rfl,hF.2,.inr ⟨⟨t,H1.out.1,HMS.out.2.2,HOK.out.1⟩,?_⟩⟩
     obtain⟨Z,N,p1,p2,p3,p4⟩:=pair_new HX.out.2.1 HMS.out.1 HMS.out.2.1 H1.out.2.1 ((hb24.block _ (zA2 HLV.out.1)).trans HLV.out.1) (HLV.out.2.1.go hb24) (fun b hb=>⟨HLV.out.2.2.2 b hb,Nat.lt_of_lt_of_le (HLV.out.2.1.lt hb) lz⟩) (Nat.lt_of_lt_of_le (zA2 HLV.out.1) lz) (href.below hW) hhi hav (Nat.le_trans HLV.out.2.1.le lz) HLV.out.2.2.1 hF.1
     exact⟨t,x,_,Z,N,H1.out.1,rfl,rfl,p1,p2,p3,p4⟩
    clear hnw hb4 href hhi hav hr4
    go_wp2_with fail
    go_quiet (fail)
    go_wp2
    refine bodyPost_ret (v:=.tuple #[ptr x,ptr w3.heap.size,.pointer (some a),.bool true]) (by simp[results,Tryz.results6,go_sem]) rfl ?_
    exact H4.out _ (below_drewN (Below.refl _ _) _)
end Go.Proofs.YtbokdbaagacnlaaGreatDoor
namespace Go.Proofs.YtbokdbaagacnlaaGreatDoor
open Go.RowKit Go.Lib
theorem flat4 : ∀ (E:List Evt) (a j:Nat) (q:Evt),E[a]?=some q→j<4→(zFE E)[a * 4+j]?=(zBT q).toList[j]?
 | [],a,j,q,h,_=>by simp at h
 | y :: E,0,j,q,h,hj=>by
  simp at h
  subst h
  show ((zBT y).toList ++ zFE E)[0 * 4+j]?=_
  rw[List.getElem?_append_left (by simp;omega)]
  simp
 | y :: E,a+1,j,q,h,hj=>by
  show ((zBT y).toList ++ zFE E)[(a+1) * 4+j]?=_
  rw[List.getElem?_append_right (by simp;omega)]
  have:=flat4 E a j q (by simpa using h) hj
  rw[←this]
  congr 1
  simp
  omega
theorem zI5 {w:World}{base n cp:Nat}{ao:Option Addr}{E:List Evt}(h:w.ownsRow base 35 4 (.slice ao n cp) n (zFE E)):EvsP w ao E:=fun i q hq=>by
 rcases h.2 with⟨he,h0⟩ | ⟨C,cap,cur,he,-,hg,-,-,-,ht⟩
 ·have hl:=h.1
  subst h0
  have hf:=flat4 E i 0 q hq (by omega)
  have:zFE E=[]:=List.length_eq_zero_iff.1 (by omega)
  rw[this] at hf
  simp at hf
 ·injection he with he _ _
  have at_:∀ (j:Nat) (v:Value),(zBT q).toList[j]?=some v→w.cell? ⟨C,i * 4+j,none⟩=some v:=fun j v hv=>by
   refine zA0 hg ?_
   have hj:j<4:=by
    have:=(List.getElem?_eq_some_iff.1 hv).1
    simpa using this
   have hf:=flat4 E i j q hq hj
   rw[hv,←ht,List.getElem?_take] at hf
   split at hf
   ·simpa using hf
   ·cases hf
  refine⟨C,0,he,?_,?_,?_,?_⟩
  ·rw[Nat.zero_add]
   exact at_ 0 _ rfl
  ·rw[Nat.zero_add]
   exact at_ 1 _ rfl
  ·rw[Nat.zero_add]
   exact at_ 2 _ rfl
  ·rw[Nat.zero_add]
   exact at_ 3 _ rfl
theorem row_cap {w:World}{base n cp:Nat}{ao:Option Addr}{e sz:Nat}{xs:List Value}(h:w.ownsRow base e sz (.slice ao n cp) n xs):n≤cp∧(n=0∨∃ C,ao=some ⟨C,0,none⟩):=by
 rcases h.2 with⟨he,h0⟩ | ⟨C,cap,cur,he,h1,hg,h2,h3,h4,ht⟩
 ·injection he with e1 e2 e3
  omega
 ·injection he with e1 e2 e3
  subst e3
  exact⟨by omega,.inr ⟨C,e1⟩⟩
theorem no_ticks {K:List Bool}{bad:Int}{n:Nat}(h:Goes K bad 1 n):∀ i,i≤n→zFR K i=0:=fun i hi=>by
 induction i with
 | zero=>rfl
 | succ i ih=>
  have h0:=ih (by omega)
  obtain⟨b,hb⟩:∃ b,K[i]?=some b:=⟨K[i]'(by have:=h.1;omega),List.getElem?_eq_getElem _⟩
  rw[zCZ hb,h0]
  cases b with
  | false=>rfl
  | true=>
   have:=(h.2 i (by omega)).2
   rw[zCZ hb,h0] at this
   exact absurd ⟨hb,rfl⟩ this
theorem tick_pos {K:List Bool}{n i:Nat}(h:K[i]?=some true)(hi:i<n):0<zFR K n:=by
 induction n with
 | zero=>omega
 | succ n ih=>
  rcases Nat.lt_or_ge i n with hl | hl
  ·have:=ih hl
   cases hb:K[n]? with
   | none=>
    have e:K.length≤n:=List.getElem?_eq_none_iff.1 hb
    unfold zFR at this ⊢
    rw[List.take_of_length_le e] at this
    rw[List.take_of_length_le (by omega)]
    exact this
   | some b=>
    rw[zCZ hb]
    omega
  ·obtain rfl:i=n:=by omega
   rw[zCZ h]
   simp
theorem ticks_ask {K:List Bool}{k:Nat}(h:Want K (-1) 1 k):(∃ i:Nat,K[i]?=some true)↔(k<K.length∨(0<K.length∧K[K.length - 1]?=some true)):=by
 constructor
 ·rintro⟨i,hi⟩
  have hl:=(List.getElem?_eq_some_iff.1 hi).1
  rcases h with⟨h,rfl | hb⟩ | ⟨j,rfl,h,-,hj,-⟩
  ·have h1:=no_ticks h _ (Nat.le_refl _)
   have h2:=tick_pos hi hl
   omega
  ·omega
  ·have hlj:=(List.getElem?_eq_some_iff.1 hj).1
   rcases Nat.lt_or_ge (j+1) K.length with hq | hq
   ·exact .inl hq
   ·refine .inr ⟨by omega,?_⟩
    rw[show K.length - 1=j by omega]
    exact hj
 ·rintro(hk | ⟨-,hk⟩)
  ·rcases h with⟨h,rfl | hb⟩ | ⟨j,rfl,h,-,hj,-⟩
   ·omega
   ·omega
   ·exact⟨j,hj⟩
  ·exact⟨_,hk⟩
structure Den (A:Nat→Addr) (w:World) (t:Tree) (x r:Nat) (F:ByteArray→Option Value) (wl:World) (lo c:Nat) (k:Ctl) (T:WT) (S:Fed) (X:Nat→Prop) (g:Nat→Nat) (lv:Nat→Value) (av:Value) (pa:Option Addr) (nl nh:Nat) (E:List Evt) (ao:Option Addr) (cp:Nat) (wr:World):Prop where
 obj:wr.heap[x]?=some (.cells #[ptr c] 74 (0,0))
 live:LiveX F zAC A w wl lo c k (bare t) (zA5 t) T X wr
 ref:RefC wr r (.pointer pa) k (msOf t) S g lv av
 node:zA9 (fun b=>nl≤b∧b<nh) wr t (.pointer pa)
 row:wr.ownsRow w.heap.size 35 4 (.slice ao E.length cp) E.length (zFE E)
section
variable {A:Nat→Addr} {w:World} {t:Tree} {x r:Nat} {F:ByteArray→Option Value} {wl:World} {lo c:Nat} {k:Ctl} {T:WT} {S:Fed} {X:Nat→Prop} {g:Nat→Nat} {lv:Nat→Value} {av:Value} {pa:Option Addr} {nl nh:Nat} {E:List Evt} {ao:Option Addr} {cp:Nat} {wr:World}
theorem Den.go (h:Den A w t x r F wl lo c k T S X g lv av pa nl nh E ao cp wr){w':World}(hb:Below wr.heap.size wr w'):Den A w t x r F wl lo c k T S X g lv av pa nl nh E ao cp w':=
 ⟨(hb.block x (zA2 h.obj)).trans h.obj,h.live.go hb,h.ref.below hb,h.node.moves fun b hx hlt=>⟨hx,hb.block b hlt⟩,zA7 h.row fun b hg=>hb.block b (h.row.lt b hg).2⟩
abbrev denP (A:Nat→Addr)(w:World)(t:Tree)(F:ByteArray→Option Value)(wl:World)(lo c:Nat)(k:Ctl)(T:WT)(X:Nat→Prop)(E:List Evt)(ao:Option Addr)(cp:Nat)(stop bad:Int)(wr:World):Cast:=⟨F,A,w,wl,wr,lo,c,bare t,zA5 t,⟨k,T,[]⟩,X,E,ao,cp,stop,bad⟩
theorem Den.ok (h:Den A w t x r F wl lo c k T S X g lv av pa nl nh E ao cp wr)(hl:E.length≤1073741824)(hfit:∀ q∈E,In64 q.2.2.1∧In64 q.2.2.2)(stop bad:Int):(denP A w t F wl lo c k T X E ao cp stop bad wr).Ok:=by
 refine⟨h.live,rfl,hl,hfit,zI5 h.row,fun C off e=>?_⟩
 have e:ao=some ⟨C,off,none⟩:=e
 obtain⟨cs,hcs⟩:=zAQ h.row (b:=C) (by rw[e];rfl)
 exact h.live.calm hcs (by unfold Calm;decide)
end
end Go.Proofs.YtbokdbaagacnlaaGreatDoor
