import Derived.Test.YtbokdbaagacnlaaGreatDoorJQ33
import Derived.Test.YtbokdbaagacnlaaGreatDoorJQ31
namespace Go.Proofs.YtbokdbaagacnlaaGreatDoor
open Go.RowKit Go.Lib
theorem zCI (h:Int):∀ k,(zAE h k).length≤k
 | 0=>by simp[zAE]
 | k+1=>by
  have:=zCI h k
  unfold zAE
  split
  ·simp;omega
  ·omega
set_option maxRecDepth 1000000 in
set_option maxHeartbeats 1000000 in
theorem law_names (h:Int)(w:World):Calls Tryz.prog 37 #[.int .i64 h] w fun e w'=>∃ v,e=.returned v∧Below w.heap.size w w'∧w'.ownsRow 0 9 1 v (zAE h 4).length ((zAE h 4).map Value.string):=by
 obtain⟨i0,hi,hz0,hz1,hz2⟩:=info_parts Tryz.infoStr
 have hrow:(w.alloc (.cells (zBS.map Value.string).toArray 9)).heap[w.heap.size]?=some (.cells (zBS.map Value.string).toArray 9 (0,0)):=heap_alloc_new _ _
 have HB0:Hid (Below w.heap.size w (w.alloc (.cells (zBS.map Value.string).toArray 9))):=(Below.refl _ _).alloc (Nat.le_refl _) _
 have HR:Hid _:=hrow
 clear hrow
 go_enter Tryz.func37,Tryz.ntmps37
 go_wp2_with fail
 go_loopw [4,5] (fun v4 v5 wr=>∃ (k:Nat) (ao:Option Addr) (ln cp:Nat),v5=.int .i64 k∧k≤4∧v4=.slice ao ln cp∧Hid (wr.ownsRow (w.heap.size+1) 9 1 (.slice ao ln cp) (zAE h k).length ((zAE h k).map Value.string)∧Below (w.heap.size+1) (w.alloc (.cells (zBS.map Value.string).toArray 9)) wr)) (fun _ v5 _=>4 - (intOf v5).toNat)
 case atStart=>exact⟨0,none,0,0,rfl,by omega,rfl,World.ownsRow_nil _ _ _ _,Below.refl _ _⟩
 case round=>
  obtain⟨k,ao,ln,cp,rfl,hk,rfl,HK⟩:=hrel
  by_cases h4:k=4
  ·subst h4
   go_wp2
   go_ret
   exact⟨_,rfl,HB0.out.trans (HK.out.2.mono (by omega)),zBA HK.out.1 (Nat.zero_le _)⟩
  have hk4:k=0∨k=1∨k=2∨k=3:=by omega
  have hszr:w.heap.size+1≤wr.heap.size:=by have:=HK.out.2.size;simpa using this
  clear h4
  rcases hk4 with rfl | rfl | rfl | rfl
  ·have c:wr.cell? ⟨w.heap.size,0,none⟩=some (.string ⟨#[109,97,120]⟩):=zA0 ((HK.out.2.block _ (by omega)).trans HR.out) rfl
   have hln:=zCI h 0
   cases hb:(bits BinOp.and IntKind.i64 h 1 == 1) with
   | true=>
    have HP:Hid (zAE h 1=zAE h 0 ++ [⟨#[109,97,120]⟩]):=by
     have e:bitB h 0=true:=hb
     show zAE h 1=_
     conv=>lhs;unfold zAE
     rw[if_pos e]
     rfl
    go_wp2_with (first
      | (at_builtin;refine zAA _ rfl _ _ 65 rfl (w.heap.size+1) 9 i0 (.string { data:=#[] }) 1 16 Tryz.underlying65 hi hz0 hz1 hz2 rfl (by decide) (.slice ao ln cp) (zAE h 0).length ((zAE h 0).map Value.string) rfl (HK.out.1.alloc _) ⟨wr.heap.size,0,none⟩ 1 1 [.string ⟨#[109,97,120]⟩] rfl rfl (zBU rfl) (fun x hx=>by simp at hx;subst hx;rfl) (by unfold maxLen;omega) (by omega) (by simp;omega) (by decide) ?_;intro v' w5 hown hgrow hnil;have Q:Hid _:=And.intro hown hgrow;obtain⟨ao2,cp2,rfl⟩:=zAI hown;clear hown hgrow hnil)
      | fail)
    go_roundw
    case rel=>
     refine⟨1,_,_,_,by go_num,by omega,rfl,?_,?_⟩
     ·rw[HP.out,List.length_append,List.map_append]
      exact Q.out.1
     ·exact(HK.out.2.alloc hszr _).trans (zEK (HK.out.1.alloc _) Q.out.2 (by simp;omega))
    case measure=>simp[intOf]
   | false=>
    have HP:Hid (zAE h 1=zAE h 0):=by
     have e:bitB h 0=false:=hb
     show zAE h 1=_
     conv=>lhs;unfold zAE
     rw[if_neg (by rw[e];decide)]
    go_wp2
    go_roundw
    case rel=>exact⟨1,ao,ln,cp,by go_num,by omega,rfl,by rw[HP.out];exact HK.out.1,HK.out.2⟩
    case measure=>simp[intOf]
  ·have c:wr.cell? ⟨w.heap.size,1,none⟩=some (.string ⟨#[116,119,105,99,101]⟩):=zA0 ((HK.out.2.block _ (by omega)).trans HR.out) rfl
   have hln:=zCI h 1
   cases hb:(bits BinOp.and IntKind.i64 (h / 2) 1 == 1) with
   | true=>
    have HP:Hid (zAE h 2=zAE h 1 ++ [⟨#[116,119,105,99,101]⟩]):=by
     have e:bitB h 1=true:=hb
     show zAE h 2=_
     conv=>lhs;unfold zAE
     rw[if_pos e]
     rfl
    go_wp2_with (first
      | (at_builtin;refine zAA _ rfl _ _ 65 rfl (w.heap.size+1) 9 i0 (.string { data:=#[] }) 1 16 Tryz.underlying65 hi hz0 hz1 hz2 rfl (by decide) (.slice ao ln cp) (zAE h 1).length ((zAE h 1).map Value.string) rfl (HK.out.1.alloc _) ⟨wr.heap.size,0,none⟩ 1 1 [.string ⟨#[116,119,105,99,101]⟩] rfl rfl (zBU rfl) (fun x hx=>by simp at hx;subst hx;rfl) (by unfold maxLen;omega) (by omega) (by simp;omega) (by decide) ?_;intro v' w5 hown hgrow hnil;have Q:Hid _:=And.intro hown hgrow;obtain⟨ao2,cp2,rfl⟩:=zAI hown;clear hown hgrow hnil)
      | fail)
    go_roundw
    case rel=>
     refine⟨2,_,_,_,by go_num,by omega,rfl,?_,?_⟩
     ·rw[HP.out,List.length_append,List.map_append]
      exact Q.out.1
     ·exact(HK.out.2.alloc hszr _).trans (zEK (HK.out.1.alloc _) Q.out.2 (by simp;omega))
    case measure=>simp[intOf]
   | false=>
    have HP:Hid (zAE h 2=zAE h 1):=by
     have e:bitB h 1=false:=hb
     show zAE h 2=_
     conv=>lhs;unfold zAE
     rw[if_neg (by rw[e];decide)]
    go_wp2
    go_roundw
    case rel=>exact⟨2,ao,ln,cp,by go_num,by omega,rfl,by rw[HP.out];exact HK.out.1,HK.out.2⟩
    case measure=>simp[intOf]
  ·have c:wr.cell? ⟨w.heap.size,2,none⟩=some (.string ⟨#[98,111,111,109]⟩):=zA0 ((HK.out.2.block _ (by omega)).trans HR.out) rfl
   have hln:=zCI h 2
   cases hb:(bits BinOp.and IntKind.i64 (h / 4) 1 == 1) with
   | true=>
    have HP:Hid (zAE h 3=zAE h 2 ++ [⟨#[98,111,111,109]⟩]):=by
     have e:bitB h 2=true:=hb
     show zAE h 3=_
     conv=>lhs;unfold zAE
     rw[if_pos e]
     rfl
    go_wp2_with (first
      | (at_builtin;refine zAA _ rfl _ _ 65 rfl (w.heap.size+1) 9 i0 (.string { data:=#[] }) 1 16 Tryz.underlying65 hi hz0 hz1 hz2 rfl (by decide) (.slice ao ln cp) (zAE h 2).length ((zAE h 2).map Value.string) rfl (HK.out.1.alloc _) ⟨wr.heap.size,0,none⟩ 1 1 [.string ⟨#[98,111,111,109]⟩] rfl rfl (zBU rfl) (fun x hx=>by simp at hx;subst hx;rfl) (by unfold maxLen;omega) (by omega) (by simp;omega) (by decide) ?_;intro v' w5 hown hgrow hnil;have Q:Hid _:=And.intro hown hgrow;obtain⟨ao2,cp2,rfl⟩:=zAI hown;clear hown hgrow hnil)
      | fail)
    go_roundw
    case rel=>
     refine⟨3,_,_,_,by go_num,by omega,rfl,?_,?_⟩
     ·rw[HP.out,List.length_append,List.map_append]
      exact Q.out.1
     ·exact(HK.out.2.alloc hszr _).trans (zEK (HK.out.1.alloc _) Q.out.2 (by simp;omega))
    case measure=>simp[intOf]
   | false=>
    have HP:Hid (zAE h 3=zAE h 2):=by
     have e:bitB h 2=false:=hb
     show zAE h 3=_
     conv=>lhs;unfold zAE
     rw[if_neg (by rw[e];decide)]
    go_wp2
    go_roundw
    case rel=>exact⟨3,ao,ln,cp,by go_num,by omega,rfl,by rw[HP.out];exact HK.out.1,HK.out.2⟩
    case measure=>simp[intOf]
  ·have c:wr.cell? ⟨w.heap.size,3,none⟩=some (.string ⟨#[195,164,104]⟩):=zA0 ((HK.out.2.block _ (by omega)).trans HR.out) rfl
   have hln:=zCI h 3
   cases hb:(bits BinOp.and IntKind.i64 (h / 8) 1 == 1) with
   | true=>
    have HP:Hid (zAE h 4=zAE h 3 ++ [⟨#[195,164,104]⟩]):=by
     have e:bitB h 3=true:=hb
     show zAE h 4=_
     conv=>lhs;unfold zAE
     rw[if_pos e]
     rfl
    go_wp2_with (first
      | (at_builtin;refine zAA _ rfl _ _ 65 rfl (w.heap.size+1) 9 i0 (.string { data:=#[] }) 1 16 Tryz.underlying65 hi hz0 hz1 hz2 rfl (by decide) (.slice ao ln cp) (zAE h 3).length ((zAE h 3).map Value.string) rfl (HK.out.1.alloc _) ⟨wr.heap.size,0,none⟩ 1 1 [.string ⟨#[195,164,104]⟩] rfl rfl (zBU rfl) (fun x hx=>by simp at hx;subst hx;rfl) (by unfold maxLen;omega) (by omega) (by simp;omega) (by decide) ?_;intro v' w5 hown hgrow hnil;have Q:Hid _:=And.intro hown hgrow;obtain⟨ao2,cp2,rfl⟩:=zAI hown;clear hown hgrow hnil)
      | fail)
    go_roundw
    case rel=>
     refine⟨4,_,_,_,by go_num,by omega,rfl,?_,?_⟩
     ·rw[HP.out,List.length_append,List.map_append]
      exact Q.out.1
     ·exact(HK.out.2.alloc hszr _).trans (zEK (HK.out.1.alloc _) Q.out.2 (by simp;omega))
    case measure=>simp[intOf]
   | false=>
    have HP:Hid (zAE h 4=zAE h 3):=by
     have e:bitB h 3=false:=hb
     show zAE h 4=_
     conv=>lhs;unfold zAE
     rw[if_neg (by rw[e];decide)]
    go_wp2
    go_roundw
    case rel=>exact⟨4,ao,ln,cp,by go_num,by omega,rfl,by rw[HP.out];exact HK.out.1,HK.out.2⟩
    case measure=>simp[intOf]
theorem zJY {h:Int}{p:Option Addr}{lo:Nat}{w:World}{F:ByteArray→Option Value}(hp:PF h p lo w 4 F)(s:ByteArray):zDC F s↔inL (zAE h 4) s=true:=by
 have hin:inL (zAE h 4) s=true↔s∈zAE h 4:=by
  unfold inL
  rw[List.any_eq_true]
  constructor
  ·rintro⟨x,hx,e⟩
   have:x=s:=by
    apply ByteArray.ext
    rw[toList_data,toList_data] at e
    exact Array.toList_inj.1 (eq_of_beq e)
   exact this ▸ hx
  ·exact fun hs=>⟨s,hs,by simp⟩
 rw[hin]
 constructor
 ·rintro⟨f,x,y,e⟩
  rcases (hp.no s _ e).2 with q | q
  ·exact q
  ·cases q
 ·intro hs
  obtain⟨b1,b2,e,-⟩:=hp.yes s hs
  exact⟨_,_,_,e⟩
theorem find_of {qs:List (Nat × ByteArray)}{hl:List ByteArray}{F:ByteArray→Option Value}(hF:∀ s,zDC F s↔inL hl s=true):(∀ q∈qs,zDC F q.2)→zCD hl qs=none:=by
 intro h
 unfold zCD
 rw[List.find?_eq_none]
 intro q hq
 simp[(hF q.2).1 (h q hq)]
theorem find_at {qs:List (Nat × ByteArray)}{hl:List ByteArray}{F:ByteArray→Option Value}(hF:∀ s,zDC F s↔inL hl s=true){i:Nat}{q:Nat × ByteArray}(hq:qs[i]?=some q)(h1:∀ q∈qs.take i,zDC F q.2)(h2:¬ zDC F q.2):zCD hl qs=some q:=by
 have hs:qs=qs.take i ++ q :: qs.drop (i+1):=by
  have hlt:=(List.getElem?_eq_some_iff.1 hq).1
  have e:=(List.getElem?_eq_some_iff.1 hq).2
  rw[←e,List.getElem_cons_drop,List.take_append_drop]
 have hn:inL hl q.2=false:=by
  cases e:inL hl q.2 with
  | true=>exact absurd ((hF _).2 e) h2
  | false=>rfl
 rw[hs,zCC,find_of hF h1]
 simp[zCD,hn]
def Spo (pv:Value)(w:World)(r:Nat)(left:Nat):Prop:=(pv=.map none∧w.heap[r]?=some (.mapIter none 0 #[] 0))∨∃ m,pv=.map (some m)∧m≠r∧zG4 w m r left
structure SpoK (pv:Value) (r:Nat) (w w':World):Prop where
 os:w'.os=w.os
 tape:w'.tape=w.tape
 output:w'.output=w.output
 size:w'.heap.size=w.heap.size
 block:∀ k,pv≠.map (some k)→k≠r→w'.heap[k]?=w.heap[k]?
theorem SpoK.refl (pv:Value)(r:Nat)(w:World):SpoK pv r w w:=⟨rfl,rfl,rfl,rfl,fun _ _ _=>rfl⟩
theorem SpoK.trans {pv:Value}{r:Nat}{w w1 w2:World}(h1:SpoK pv r w w1)(h2:SpoK pv r w1 w2):SpoK pv r w w2:=⟨h2.os.trans h1.os,h2.tape.trans h1.tape,h2.output.trans h1.output,h2.size.trans h1.size,fun k a b=>(h2.block k a b).trans (h1.block k a b)⟩
def leftS (pv:Value)(w:World)(r:Nat):Nat:=
 match pv with
 | .map (some m)=>match w.heap[m]?,w.heap[r]? with
  | some (.map es _),some (.mapIter _ _ seen _)=>((es.toList.map (·.born)).filter fun b=>!seen.contains b).length
  | _,_=>0
 | _=>0
theorem zG4.leftS {w:World}{m r left:Nat}(h:zG4 w m r left):Go.Proofs.YtbokdbaagacnlaaGreatDoor.leftS (.map (some m)) w r=left:=by
 obtain⟨es,clock,seen,h1,h2,-,-,h5⟩:=h
 unfold Go.Proofs.YtbokdbaagacnlaaGreatDoor.leftS
 simp only[h1,h2]
 exact h5
theorem Spo.next {pv:Value}{w:World}{r left:Nat}(h:Spo pv w r left):(∀ ty,(Instr.next (.pointer (some ⟨r,0,none⟩)) false ty).run Tryz.prog w=.ok (.tuple #[.bool false]) w) ∨
  ∃ (s:ByteArray) (v:Value) (w1 w2:World),(∀ ty,(Instr.next (.pointer (some ⟨r,0,none⟩)) false ty).run Tryz.prog w=.ok (.tuple #[.bool true,.string s,v]) w1)∧((Instr.entry (.pointer (some ⟨r,0,none⟩))).run Tryz.prog w1=.ok (.tuple #[.string s,v]) w1) ∧
   ((Instr.mapUpdate 113 pv (.string s) .nilFunc).run Tryz.prog w1=.ok () w2)∧Spo pv w2 r (left - 1)∧SpoK pv r w w2∧leftS pv w2 r<leftS pv w r:=by
 rcases h with⟨rfl,h1⟩ | ⟨m,rfl,hm,h1⟩
 ·exact .inl (next_none h1)
 ·rcases h1.next hm with h2 | ⟨s,v,w1,w2,hl,h2,h3,h4,h5,h6,h7,h8,h9,h10⟩
  ·exact .inl h2
  ·refine .inr ⟨s,v,w1,w2,h2,h3,h4,.inr ⟨m,rfl,hm,h5⟩,⟨h6,h7,h8,h9,fun k a b=>h10 k (fun e=>a (by rw[e])) b⟩,?_⟩
   rw[h5.leftS,h1.leftS]
   omega
theorem Spo.begin {pv:Value}{w:World}(h:pv=.map none∨∃ m F,pv=.map (some m)∧MapF w m F):∃ left o,(Instr.range 113 pv).run Tryz.prog w=.ok (.pointer (some ⟨w.heap.size,0,none⟩)) (w.alloc o)∧Spo pv (w.alloc o) w.heap.size left:=by
 rcases h with rfl | ⟨m,F,rfl,h1⟩
 ·exact⟨0,_,range_none w,.inl ⟨rfl,heap_alloc_new _ _⟩⟩
 ·obtain⟨left,o,h2,h3⟩:=zG4.begin h1
  exact⟨left,o,h2,.inr ⟨m,rfl,Nat.ne_of_lt h1.lt,h3⟩⟩
theorem Out8.own {B:Nat}{w:World}{v:Value}{l:List UInt8}(h:Out8 B w v l){k:Nat}(e:v.ownBlock=some k):B≤k∧∃ cur,w.heap[k]?=some (.cells cur 5 (0,0)):=by
 rcases h.2 with⟨rfl,h1⟩ | ⟨g,cap,cur,rfl,hbg,hg,-⟩
 ·cases e
 ·injection e with e
  have e:g=k:=e
  subst e
  exact⟨hbg,cur,hg⟩
theorem ProgB.above {lo b:Nat}{w w':World}{t:Tree}{ms:List ByteArray}{qs:List (Nat × ByteArray)}{sp:List (ByteArray × Int)}{F:ByteArray→Option Value}(h:ProgB lo w b t ms qs sp F)(hs:w.heap.size≤w'.heap.size)(hb:∀ k,lo≤k→k<w.heap.size→w'.heap[k]?=w.heap[k]?):ProgB lo w' b t ms qs sp F:=by
 obtain⟨⟨lb,g,G,h1,⟨⟨vv,mv,sv,av,k1,k2,k3,k4,k5,k7⟩,k6⟩,h3,h4,h5⟩,h6⟩:=h
 have hm:∀ {c:Nat} {x:Obj},lo≤c→w.heap[c]?=some x→w'.heap[c]?=some x:=fun hc hx=>(hb _ hc (zA2 hx)).trans hx
 exact⟨⟨lb,g,G,hm h6 h1,⟨⟨vv,mv,sv,av,hm k6 k1,k2,k3.moves fun g hg=>⟨⟨hg.1,Nat.lt_of_lt_of_le hg.2 hs⟩,hb g hg.1 hg.2⟩,zAG k4 fun g hg=>hb g (k4.lt _ hg).1 (k4.lt _ hg).2,zAG k5 fun g hg=>hb g (k5.lt _ hg).1 (k5.lt _ hg).2,zAG k7 fun g hg=>hb g (k7.lt _ hg).1 (k7.lt _ hg).2⟩,k6⟩,h3.block (hb g h4 h3.lt),h4,h5⟩,h6⟩
theorem asks_size : (∀ t:Tree,(asks t).length≤size t)∧∀ ts:List Tree,(zAD ts).length≤zCS ts:=by
 refine⟨fun t=>?_,fun ts=>?_⟩
 ·exact go t
 ·exact gos ts
where
 go:∀ t:Tree,(asks t).length≤size t
  | .num .. => by simp[asks,size]
  | .neg _ a=>by have:=go a;simp[asks,size];omega
  | .bin _ _ a b=>by have:=go a;have:=go b;simp[asks,size];omega
  | .ite _ a b c=>by have:=go a;have:=go b;have:=go c;simp[asks,size];omega
  | .meas .. => by simp[asks,size]
  | .probe _ _ ts=>by have:=gos ts;simp[asks,size];omega
 gos:∀ ts:List Tree,(zAD ts).length≤zCS ts
  | []=>by simp[zAD,zCS]
  | t :: ts=>by have:=go t;have:=gos ts;simp[zAD,zCS];omega
theorem Out8.keep {B:Nat}{w w':World}{v:Value}{l:List UInt8}(h:Out8 B w v l)(hb:∀ g,v.ownBlock=some g→g<w.heap.size→w'.heap[g]?=w.heap[g]?):Out8 B w' v l:=zAG h fun g hg=>hb g hg (World.ownsRow.lt h _ hg).2
structure Up (lo:Nat) (w w':World):Prop where
 size:w.heap.size≤w'.heap.size
 block:∀ k,lo≤k→k<w.heap.size→w'.heap[k]?=w.heap[k]?
theorem Up.below {lo:Nat}{w w1 w2:World}(h:Up lo w w1)(hb:Below w1.heap.size w1 w2):Up lo w w2:=⟨Nat.le_trans h.size hb.size,fun k a b=>(hb.block k (Nat.lt_of_lt_of_le b h.size)).trans (h.block k a b)⟩
theorem Up.setCell {lo:Nat}{w w1:World}(h:Up lo w w1){R i:Nat}(hR:R<lo)(v:Value):Up lo w (w1.setCell ⟨R,i,none⟩ v):=⟨by simp;exact h.size,fun k a b=>(Below.heap_setCell w1 _ v k (by show k≠R;omega)).trans (h.block k a b)⟩
theorem ProgB.up {lo b:Nat}{w w':World}{t:Tree}{ms:List ByteArray}{qs:List (Nat × ByteArray)}{sp:List (ByteArray × Int)}{F:ByteArray→Option Value}(h:ProgB lo w b t ms qs sp F)(hu:Up lo w w'):ProgB lo w' b t ms qs sp F:=h.above hu.size hu.block
def GotB (lo:Nat)(w:World)(t:Tree)(F:ByteArray→Option Value)(gv ev:Value):Prop:=
 ((∀ q∈asks t,zDC F q.2)∧∃ b,gv=ptr b∧ev=.nilIface∧ProgB lo w b (bare t) (zAT [] (mets t)) (asks t) (zA5 t) F) ∨
 (∃ i q b,(asks t)[i]?=some q∧(∀ q∈(asks t).take i,zDC F q.2)∧¬ zDC F q.2∧gv=.pointer none∧ev=.iface 156 (ptr b)∧w.heap[b]?=some (.cells #[.int .i64 (q.1:Int),.string q.2] 158 (0,0)))
theorem load_enc {A:Nat→Addr}{w:World}(hT:TabsR w)(hS:Sents A w){v:Value}{t:Tree}(hf:Fit t)(hs:size t≤200)(hl:zBM w.heap.size w v (enc t)){pv:Value}{F:ByteArray→Option Value}(hp:zDL w pv F):
  Calls Tryz.prog 41 #[v,pv] w fun e w'=>Below w.heap.size w w'∧∃ gv ev,e=.returned (.tuple #[gv,ev])∧GotB w.heap.size w' t F gv ev:=by
 have hr:=readB_enc hf hs
 have hk:okB (enc t):=by unfold okB;rw[hr];exact⟨rfl,rfl⟩
 have:=code_Load hT hS hl hp (by rw[hr];have:=asks_size.1 t;show (asks t).length≤900;omega)
 rw[hr] at this
 refine this.mono ?_
 rintro e w' ⟨hb,⟨-,h1,b,rfl,h2⟩ | ⟨-,i,q,b,h1,h2,h3,rfl,h4⟩ | ⟨h,-⟩⟩
 ·exact⟨hb,_,_,rfl,.inl ⟨h1,b,rfl,rfl,h2⟩⟩
 ·exact⟨hb,_,_,rfl,.inr ⟨i,q,b,h1,h2,h3,rfl,rfl,h4⟩⟩
 ·exact absurd hk h
abbrev zJZ : WT:=fun _ _=>(-9223372036854775808,[])
abbrev ctl0 (min max step up down count:Int):Ctl:=⟨min,max,step,up,down,-9223372036854775808,count,false,0⟩
theorem zP9 {min max step up down count:Int}(h:zB7 min max step up down=true)(h1:min≤count)(h2:count≤max)(hm:In64 max)(hs:In64 step)(hu:In64 up)(hd:In64 down):(ctl0 min max step up down count).Ok:=by
 unfold zB7 at h
 simp only[Bool.and_eq_true,decide_eq_true_eq] at h
 unfold In64 at hm hs hu hd
 refine⟨h.1,⟨h.2.1,hm.2⟩,⟨h.2.2.1,hs.2⟩,⟨h.2.2.2.1,hu.2⟩,⟨h.2.2.2.2,hd.2⟩,?_,⟨h1,h2⟩,?_⟩
 ·show In64 (-9223372036854775808);unfold In64;omega
 ·show In64 0;unfold In64;omega
def okL (L:List Int)(count:Int):Bool:=zB7 (L.getD 0 0) (L.getD 1 0) (L.getD 2 0) (L.getD 3 0) (L.getD 4 0) && (decide (L.getD 0 0≤count) && decide (count≤L.getD 1 0))
abbrev ctlL (L:List Int)(count:Int):Ctl:=ctl0 (L.getD 0 0) (L.getD 1 0) (L.getD 2 0) (L.getD 3 0) (L.getD 4 0) count
theorem zMK {L:List Int}(h:∀ v∈L,In64 v)(i:Nat):In64 (L.getD i 0):=by
 rw[List.getD_eq_getElem?_getD]
 cases e:L[i]? with
 | none=>show In64 0;unfold In64;omega
 | some v=>exact h v (List.mem_of_getElem? e)
abbrev WB (m:Nat)(sp:List (ByteArray × Int))(I:ByteArray→Nat)(st:ByteArray→Int→WSt)(b:Nat):Prop:=b=m∨∃ q∈sp,b=I q.1∨Mine (st q.1 q.2) b
structure LiveX (F:ByteArray→Option Value) (P:ByteArray→List Int→WT→PFound × WT) (A:Nat→Addr) (w0 wl:World) (lo c:Nat) (k:Ctl) (u:Tree) (sp:List (ByteArray × Int)) (T:WT) (X:Nat→Prop) (w:World):Prop where
 sents:SentsX A w0
 below:Below w0.heap.size w0 w
 ok:k.Ok
 fit:Fit u
 spans:∀ q∈zA5 u,q∈sp
 times:TOk sp k.time T
 size:w0.heap.size≤wl.heap.size∧wl.heap.size≤c
 same:∀ nm xs s,(P nm xs s).2=s
 probe:zHK F P wl lo c u sp
 ex:∃ (pb m:Nat) (ms:List ByteArray) (I:ByteArray→Nat) (st:ByteArray→Int→WSt),ProgB lo wl pb u ms (asks u) sp F∧(∀ b,lo≤b→b<wl.heap.size→w.heap[b]?=wl.heap[b]?) ∧
  (∀ b,OfW sp st b→wl.heap.size≤b)∧zE5 w c (ptr pb) (.map (some m)) k∧Wins w m sp I st∧(∀ q∈sp,(st q.1 q.2).time=(T q.1 q.2).1∧(st q.1 q.2).kept=(T q.1 q.2).2)∧∀ b,X b↔(b=c∨WB m sp I st b)
section
variable {F:ByteArray→Option Value} {P:ByteArray→List Int→WT→PFound × WT} {A:Nat→Addr} {w0 wl:World} {lo c:Nat} {k:Ctl} {u:Tree} {sp:List (ByteArray × Int)} {T:WT} {X:Nat→Prop} {w:World}
theorem LiveP.x (h:LiveP F P A w0 wl lo c k u sp T w):∃ X,LiveX F P A w0 wl lo c k u sp T X w:=by
 obtain⟨pb,m,ms,I,st,h2,h3,h6,h7,h8,h9⟩:=h.ex
 exact⟨fun b=>b=c∨WB m sp I st b,h.sents,h.below,h.ok,h.fit,h.spans,h.times,h.size,h.same,h.probe,pb,m,ms,I,st,h2,h3,h6,h7,h8,h9,fun b=>Iff.rfl⟩
theorem LiveX.p (h:LiveX F P A w0 wl lo c k u sp T X w):LiveP F P A w0 wl lo c k u sp T w:=by
 obtain⟨pb,m,ms,I,st,h2,h3,h6,h7,h8,h9,-⟩:=h.ex
 exact⟨h.sents,h.below,h.ok,h.fit,h.spans,h.times,h.size,h.same,h.probe,pb,m,ms,I,st,h2,h3,h6,h7,h8,h9⟩
theorem LiveX.le (h:LiveX F P A w0 wl lo c k u sp T X w):wl.heap.size≤w.heap.size:=h.p.le
theorem LiveX.lt (h:LiveX F P A w0 wl lo c k u sp T X w){b:Nat}(hb:X b):b<w.heap.size:=by
 obtain⟨pb,m,ms,I,st,h2,h3,h6,h7,h8,h9,hX⟩:=h.ex
 rcases (hX b).1 hb with rfl | hb
 ·exact zA2 h7
 ·exact((zF7 h7 h8).2 b hb).1
theorem LiveX.other (h:LiveX F P A w0 wl lo c k u sp T X w){Y:Nat→Prop}{w':World}(hk:KeepX Y w w')(hXY:∀ b,X b→¬ Y b)(hY:∀ b,Y b→w0.heap.size≤b∧(b<lo∨wl.heap.size≤b)):LiveX F P A w0 wl lo c k u sp T X w':=by
 obtain⟨pb,m,ms,I,st,h2,h3,h6,h7,h8,h9,hX⟩:=h.ex
 have hap:=zF7 h7 h8
 have lc:=zA2 h7
 have hs:=h.size
 have hb:=h.below
 exact⟨h.sents,⟨hk.os.trans hb.os,hk.tape.trans hb.tape,hk.output.trans hb.output,Nat.le_trans hb.size hk.size,fun b lt=>(hk.block b (Nat.lt_of_lt_of_le lt hb.size) (fun e=>by have:=(hY b e).1;omega)).trans (hb.block b lt)⟩,h.ok,h.fit,h.spans,h.times,hs,h.same,h.probe,pb,m,ms,I,st,h2,fun b l1 l2=>(hk.block b (by omega) (fun e=>by have:=(hY b e).2;omega)).trans (h3 b l1 l2),h6,(hk.block c lc (hXY c ((hX c).2 (.inl rfl)))).trans h7,h8.moves fun b hx2=>hk.block b (hap.2 b hx2).1 (hXY b ((hX b).2 (.inr hx2))),h9,hX⟩
theorem LiveX.go (h:LiveX F P A w0 wl lo c k u sp T X w){w':World}(hb:Below w.heap.size w w'):LiveX F P A w0 wl lo c k u sp T X w':=
 h.other (Y:=fun _=>False) (KeepX.of_below hb) (fun _ _ e=>e) (fun _ e=>e.elim)
theorem LiveX.calm (h:LiveX F P A w0 wl lo c k u sp T X w){b:Nat}{cs:Array Value}{t:TypeId}{fr:Nat × Nat}(hx:w.heap[b]?=some (.cells cs t fr))(ht:Calm t):¬ X b:=fun hb=>by
 obtain⟨pb,m,ms,I,st,h2,h3,h6,h7,h8,h9,hX⟩:=h.ex
 have hno:=zF9 h7 h8 hx ht
 rcases (hX b).1 hb with e | e | ⟨q,hq,e | e⟩
 ·exact hno (.inl e)
 ·subst e
  obtain⟨F',hF',-⟩:=h8.outer
  obtain⟨es,cl,he⟩:=hF'.isMap
  rw[he] at hx
  cases hx
 ·subst e
  obtain⟨F',hF',-⟩:=h8.inner q hq
  obtain⟨es,cl,he⟩:=hF'.isMap
  rw[he] at hx
  cases hx
 ·exact hno (.inr ⟨q,hq,e⟩)
theorem LiveX.set (h:LiveX F P A w0 wl lo c k u sp T X w){w':World}{b0:Nat}{cs:Array Value}{t:TypeId}{fr:Nat × Nat}(hx:w.heap[b0]?=some (.cells cs t fr))(ht:Calm t)(hw:w0.heap.size≤b0)(hl:b0<lo∨wl.heap.size≤b0)(hk:KeepX (· = b0) w w'):LiveX F P A w0 wl lo c k u sp T X w':=
 h.other hk (fun b hb (e:b=b0)=>h.calm hx ht (e ▸ hb)) (fun b (e:b=b0)=>e ▸ ⟨hw,hl⟩)
def Grew (X X':Nat→Prop)(w:World):Prop:=∀ b,X' b→X b∨w.heap.size≤b
theorem zPK (h:LiveX F P A w0 wl lo c k u sp T X w)(name:ByteArray){v t:Int}(hv:In64 v)(ht:In64 t):
  Calls Tryz.prog 49 #[ptr c,.string name,.int .i64 v,.int .i64 t] w fun e w'=>e=.returned ((k.feed sp T name v t).1.at A)∧∃ X',LiveX F P A w0 wl lo c (k.feed sp T name v t).2.1 u sp (k.feed sp T name v t).2.2 X' w'∧Grew X X' w∧KeepX X w w':=by
 obtain⟨pb,m,ms,I,st,h2,h3,h6,h7,h8,h9,hX⟩:=h.ex
 have hs:=h.size
 have lc:=zA2 h7
 refine(code_Feed (h.sents.below h.below).sents h7 h8 h9 h.times.time (name:=name) (v:=v) ht).mono ?_
 rintro e w' ⟨rfl,hk,hc,st',a1,a2⟩
 obtain⟨m1,m2,m3,m4,m5⟩:=zLD h.ok h.times name hv ht
 have hb:=h.below
 refine⟨rfl,fun b=>b=c∨WB m sp I st' b,⟨h.sents,⟨hk.os.trans hb.os,hk.tape.trans hb.tape,hk.output.trans hb.output,Nat.le_trans hb.size hk.size,fun b lt=>(hk.block b (Nat.lt_of_lt_of_le lt hb.size) (fun e=>?_)).trans (hb.block b lt)⟩,m2,h.fit,h.spans,m5,hs,h.same,h.probe,pb,m,ms,I,st',h2,fun b l1 l2=>(hk.block b (by omega) (fun e=>?_)).trans (h3 b l1 l2),fun b hx=>?_,hc,a1,fun q hq=>(a2 q hq).2.2,fun b=>Iff.rfl⟩,fun b hx=>?_,⟨hk.os,hk.tape,hk.output,hk.size,fun b lt nx=>hk.block b lt fun e=>nx ((hX b).2 ?_)⟩⟩
 ·rcases e with e | e
  ·omega
  ·have:=h6 b e
   omega
 ·rcases e with e | e
  ·omega
  ·have:=h6 b e
   omega
 ·obtain⟨q,hq,hm⟩:=hx
  obtain⟨b1,b2,-⟩:=a2 q hq
  rcases hm with hm | hm
  ·exact h6 b ⟨q,hq,.inl (hm.trans b1)⟩
  ·rcases b2 with b2 | ⟨g,b2,b3⟩
   ·exact h6 b ⟨q,hq,.inr (b2.symm.trans hm)⟩
   ·rw[hm] at b2
    injection b2 with b2
    omega
 ·rcases hx with hx | hx | ⟨q,hq,hm | hm⟩
  ·exact .inl ((hX b).2 (.inl hx))
  ·exact .inl ((hX b).2 (.inr (.inl hx)))
  ·exact .inl ((hX b).2 (.inr (.inr ⟨q,hq,.inl hm⟩)))
  ·obtain⟨b1,b2,-⟩:=a2 q hq
   rcases hm with hm | hm
   ·exact .inl ((hX b).2 (.inr (.inr ⟨q,hq,.inr (.inl (hm.trans b1))⟩)))
   ·rcases b2 with b2 | ⟨g,b2,b3⟩
    ·exact .inl ((hX b).2 (.inr (.inr ⟨q,hq,.inr (.inr (b2.symm.trans hm))⟩)))
    ·rw[hm] at b2
     injection b2 with b2
     exact .inr (by omega)
 ·rcases e with e | ⟨q,hq,e⟩
  ·exact .inl e
  ·exact .inr (.inr ⟨q,hq,.inr e⟩)
theorem lx_decide (h:LiveX F P A w0 wl lo c k u sp T X w){t:Int}(ht:In64 t):
  Calls Tryz.prog 44 #[ptr c,.int .i64 t] w fun e w'=>∃ v,e=.returned v∧zDZ A w' (k.decide P u T t).1 v∧LiveX F P A w0 wl lo c (k.decide P u T t).2.1 u sp (k.decide P u T t).2.2 X w'∧KeepX X w w':=by
 obtain⟨pb,m,ms,I,st,h2,h3,h6,h7,h8,h9,hX⟩:=h.ex
 have hs:=h.size
 have lc:=zA2 h7
 refine(zPY (P:=P) h.sents h.below (by omega) (fun b hx=>by have:=h6 b hx;omega) h7 h.ok h8 h9 h.times.time h.times.vals h2 h3 h.fit h.spans h6 hs.2 (fun w1 k' hk1 q hq=>h.probe w1 k' pb m I st (fun b l1 l2=>(hk1.block b (by omega) (fun e=>by have e:b=c:=e;omega)).trans (h3 b l1 l2)) (Nat.le_trans (by omega) hk1.size) h6 q hq) ht).mono ?_
 rintro e w' ⟨v,rfl,hk,hd,hc,st',a1,a2⟩
 obtain⟨m1,m2,m3,m4,m5⟩:=zIO h.ok P h.same u h.times ht
 have hb:=h.below
 have back:∀ q∈sp,∀ b,Mine (st q.1 q.2) b→Mine (st' q.1 q.2) b:=fun q hq b hm=>zF6 (a2 q hq).1.symm (a2 q hq).2.1.symm hm
 refine⟨v,rfl,hd,⟨h.sents,⟨hk.os.trans hb.os,hk.tape.trans hb.tape,hk.output.trans hb.output,Nat.le_trans hb.size hk.size,fun b lt=>(hk.block b (Nat.lt_of_lt_of_le lt hb.size) (fun e=>?_)).trans (hb.block b lt)⟩,m2,h.fit,h.spans,m5,hs,h.same,h.probe,pb,m,ms,I,st',h2,fun b l1 l2=>(hk.block b (by omega) (fun e=>?_)).trans (h3 b l1 l2),fun b hx=>?_,hc,a1,fun q hq=>(a2 q hq).2.2,fun b=>(hX b).trans ?_⟩,⟨hk.os,hk.tape,hk.output,hk.size,fun b lt nx=>hk.block b lt fun e=>nx ((hX b).2 ?_)⟩⟩
 ·rcases e with e | e
  ·omega
  ·have:=h6 b e
   omega
 ·rcases e with e | e
  ·omega
  ·have:=h6 b e
   omega
 ·obtain⟨q,hq,hm⟩:=hx
  exact h6 b ⟨q,hq,zF6 (a2 q hq).1 (a2 q hq).2.1 hm⟩
 ·constructor
  ·rintro(e | e | ⟨q,hq,e | e⟩)
   ·exact .inl e
   ·exact .inr (.inl e)
   ·exact .inr (.inr ⟨q,hq,.inl e⟩)
   ·exact .inr (.inr ⟨q,hq,.inr (back q hq b e)⟩)
  ·rintro(e | e | ⟨q,hq,e | e⟩)
   ·exact .inl e
   ·exact .inr (.inl e)
   ·exact .inr (.inr ⟨q,hq,.inl e⟩)
   ·exact .inr (.inr ⟨q,hq,.inr (zF6 (a2 q hq).1 (a2 q hq).2.1 e)⟩)
 ·rcases e with e | ⟨q,hq,e⟩
  ·exact .inl e
  ·exact .inr (.inr ⟨q,hq,.inr e⟩)
theorem zPJ (h:LiveX F P A w0 wl lo c k u sp T X w){t:Int}(ht:In64 t):
  Calls Tryz.prog 24 #[ptr c,.int .i64 t] w fun e w'=>∃ v,e=.returned (.agg #[.int .i64 t,.int .i64 (k.decide P u T t).2.1.count,v])∧zDZ A w' (k.decide P u T t).1 v∧LiveX F P A w0 wl lo c (k.decide P u T t).2.1 u sp (k.decide P u T t).2.2 X w'∧KeepX X w w':=by
 have hlt:=h.le
 refine(zOL (Q:=fun v n w2=>n=(k.decide P u T t).2.1.count∧zDZ A w2 (k.decide P u T t).1 v∧LiveX F P A w0 wl lo c (k.decide P u T t).2.1 u sp (k.decide P u T t).2.2 X w2∧KeepX X w w2∧∃ cs fr,w2.heap[w.heap.size]?=some (.cells cs 71 fr)) fun W hb hnew=>?_).mono ?_
 ·have hgo:=h.go hb
  refine(lx_decide hgo ht).mono ?_
  rintro e w2 ⟨v,rfl,h1,h2,h3⟩
  have hd:=(h3.block _ (zA2 hnew) (hgo.calm hnew (by unfold Calm;decide))).trans hnew
  refine⟨v,_,rfl,⟨rfl,h1,h2,(KeepX.of_below hb).trans h3,_,_,hd⟩,zE9 h1,?_,fun cs Ty he=>?_⟩
  ·obtain⟨pb,m,ms,I,st,q2,q3,q6,q7,q8,q9⟩:=h2.ex
   exact zA0 q7 rfl
  ·rw[hnew] at he
   rw[hd]
   exact he
 ·rintro e w' ⟨v,n,w2,rfl,⟨rfl,h1,h2,h3,cs,fr,hd⟩,hk⟩
  exact⟨v,rfl,derr_keep h1 hd hk,h2.set hd (by unfold Calm;decide) (Nat.le_trans h.size.1 hlt) (.inr hlt) hk,⟨hk.os.trans h3.os,hk.tape.trans h3.tape,hk.output.trans h3.output,Nat.le_trans h3.size hk.size,fun b lt nx=>(hk.block b (Nat.lt_of_lt_of_le lt h3.size) (fun e=>by have e:b=w.heap.size:=e;omega)).trans (h3.block b lt nx)⟩⟩
end
theorem lx_New {F:ByteArray→Option Value}{P:ByteArray→List Int→WT→PFound × WT}{A:Nat→Addr}{w0 wl w:World}{b lo:Nat}{ms:List ByteArray}{u:Tree}{sp:List (ByteArray × Int)}(hA:SentsX A w0)(hb0:Below w0.heap.size w0 wl)(hp:ProgB lo wl b u ms (asks u) sp F)(hwl:Below wl.heap.size wl w)(hf:Fit u)(hsp:∀ q∈zA5 u,q∈sp)(hsm:∀ nm xs s,(P nm xs s).2=s)(hpr:∀ c,wl.heap.size≤c→zHK F P wl lo c u sp)(h900:sp.length≤900)(h64:∀ q∈sp,In64 q.2)
  {min max step up down count:Int} (hm:In64 max) (hs:In64 step) (hu:In64 up) (hd:In64 down) (hyes:zB7 min max step up down=true) (h1:min≤count) (h2:count≤max):
  Calls Tryz.prog 34 #[ptr b,.agg #[.int .i64 min,.int .i64 max,.int .i64 step,.int .i64 up,.int .i64 down],.int .i64 count] w fun e w'=>∃ c,e=.returned (.tuple #[ptr c,.nilIface])∧Below w.heap.size w w'∧∃ X,LiveX F P A w0 wl lo c (ctl0 min max step up down count) u sp zJZ X w'∧∀ b,X b→w.heap.size≤b:=by
 have hp0:=hp
 have hp:=hp.above hwl.size fun k _ lt=>hwl.block k lt
 obtain⟨⟨lb,g,G,p1,⟨⟨vv,mv,sv,av,k1,k2,k3,k4,k5,k7⟩,k6⟩,p3,p4,p5⟩,p6⟩:=hp
 refine(zPZ p1 k1 hyes h1 h2 (fun W hW=>zLL ((hW.block b (zA2 p1)).trans p1)) (Q:=fun W w3=>∃ I st,Over W w3 sp I st) fun W hW=>?_).mono ?_
 ·refine(code_over (w:=W) rfl (zAG k7 fun g hg=>hW.block g (k7.lt _ hg).2) h900 h64).mono ?_
  rintro e w3 ⟨rfl,I,st,ho⟩
  exact⟨rfl,ho.below,I,st,ho⟩
 ·rintro e w' ⟨W,w3,hW,h3,⟨I,st,ho⟩,rfl,rfl⟩
  have hw3:Below w.heap.size w w3:=hW.trans (h3.mono hW.size)
  have hw':Below w.heap.size w (w3.alloc (.cells #[ptr b,.int .i64 min,.int .i64 max,.int .i64 step,.int .i64 up,.int .i64 down,.map (some W.heap.size),.int .i64 (-9223372036854775808),.int .i64 count,.bool false,.int .i64 0] 126)):=hw3.alloc hw3.size _
  refine⟨_,rfl,hw',fun b=>b=w3.heap.size∨WB W.heap.size sp I st b,⟨hA,hb0.trans ((hwl.trans (hw'.mono hwl.size)).mono hb0.size),zP9 hyes h1 h2 hm hs hu hd,hf,hsp,⟨fun q hq=>Int.le_refl _,fun q hq x hx=>by cases hx⟩,⟨hb0.size,Nat.le_trans hwl.size hw3.size⟩,hsm,hpr _ (Nat.le_trans hwl.size hw3.size),b,W.heap.size,ms,I,st,hp0,fun k l1 l2=>(hw'.block k (Nat.lt_of_lt_of_le l2 hwl.size)).trans (hwl.block k l2),fun k hk=>?_,heap_alloc_new _ _,ho.wins.moves fun k hk=>Below.heap_alloc _ _ k ?_,fun q hq=>?_,fun b=>Iff.rfl⟩,fun k hk=>?_⟩
  ·obtain⟨q,hq,hm⟩:=hk
   obtain⟨-,n2,n3⟩:=ho.new q hq
   have:=hW.size
   have:=hwl.size
   rcases hm with hm | hm
   ·omega
   ·rw[n2] at hm
    cases hm
  ·rcases hk with rfl | ⟨q,hq,rfl | hm⟩
   ·obtain⟨F',hF',-⟩:=ho.wins.outer
    exact hF'.lt
   ·obtain⟨F',hF',-⟩:=ho.wins.inner q hq
    exact hF'.lt
   ·obtain⟨cs,T',e,-⟩:=Win.mine_cells (ho.wins.win q hq) hm
    exact zA2 e
  ·rw[(ho.new q hq).2.1]
   exact⟨rfl,rfl⟩
  ·have l1:=hw3.size
   have l2:=hW.size
   rcases hk with hk | hk | ⟨q,hq,hk | hm⟩
   ·omega
   ·omega
   ·have:=(ho.new q hq).1
    omega
   ·obtain⟨-,n2,n3⟩:=ho.new q hq
    rcases hm with hm | hm
    ·omega
    ·rw[n2] at hm
     cases hm
theorem zMD {F:ByteArray→Option Value}{P:ByteArray→List Int→WT→PFound × WT}{A:Nat→Addr}{w0 w:World}{b lo:Nat}{ms:List ByteArray}{u:Tree}{sp:List (ByteArray × Int)}(hA:SentsX A w0)(hb0:Below w0.heap.size w0 w)(hp:ProgB lo w b u ms (asks u) sp F)(hf:Fit u)(hsp:∀ q∈zA5 u,q∈sp)(hsm:∀ nm xs s,(P nm xs s).2=s)(hpr:∀ c,w.heap.size≤c→zHK F P w lo c u sp)(h900:sp.length≤900)(h64:∀ q∈sp,In64 q.2)
  {ao:Option Addr} {cp:Nat} {L:List Int} {count:Int} (hL:zFC w ao L) (hl:∀ v∈L,In64 v):
  Calls Tryz.prog 17 #[ptr b,.slice ao L.length cp,.int .i64 count] w fun e w'=>Below w.heap.size w w' ∧
   ((okL L count=false∧e=.returned (.tuple #[.pointer none,begV true false 5]))∨(okL L count=true∧∃ x c,e=.returned (.tuple #[ptr x,begV true true 0])∧w'.heap[x]?=some (.cells #[ptr c] 74 (0,0))∧∃ X,LiveX F P A w0 w lo c (ctlL L count) u sp zJZ X w'∧∀ b,X b→w.heap.size≤b)):=by
 have hs:∀ W,Below w.heap.size w W→SentsX A W:=fun W hW=>hA.below (hb0.trans (hW.mono hb0.size))
 cases hok:okL L count with
 | false=>
  obtain⟨lb,g,G,p1,-⟩:=hp.blk
  have hno:zB7 (L.getD 0 0) (L.getD 1 0) (L.getD 2 0) (L.getD 3 0) (L.getD 4 0)=false∨count<L.getD 0 0∨L.getD 1 0<count:=by
   unfold okL at hok
   simp only[Bool.and_eq_false_iff,decide_eq_false_iff_not] at hok
   rcases hok with h | h | h
   ·exact .inl h
   ·exact .inr (.inl (by omega))
   ·exact .inr (.inr (by omega))
  refine(zMS hL (fun W hW=>zQ0 (hs W hW).sents ((hW.block b (zA2 p1)).trans p1) hno) (fun W hW=>of_limits (hs W hW))).mono ?_
  rintro e w' ⟨rfl,hb⟩
  exact⟨hb,.inl ⟨rfl,rfl⟩⟩
 | true=>
  unfold okL at hok
  simp only[Bool.and_eq_true,decide_eq_true_eq] at hok
  refine(zKR hL (Q:=fun c w3=>Below w.heap.size w w3∧∃ X,LiveX F P A w0 w lo c (ctlL L count) u sp zJZ X w3∧∀ b,X b→w.heap.size≤b) (fun W hW=>?_) (fun W _=>of_nil W)).mono ?_
  ·refine(lx_New (P:=P) hA hb0 hp hW hf hsp hsm hpr h900 h64 (zMK hl 1) (zMK hl 2) (zMK hl 3) (zMK hl 4) hok.1 hok.2.1 hok.2.2).mono ?_
   rintro e w' ⟨c,rfl,hb,X,hlv,hX⟩
   exact⟨c,rfl,hb,hW.trans (hb.mono hW.size),X,hlv,fun b hx=>Nat.le_trans hW.size (hX b hx)⟩
  ·rintro e w' ⟨c,x,w3,w4,rfl,hb,⟨hb3,X,hlv,hX⟩,hb34,hr4,hk,hx4⟩
   have hne:x≠w.heap.size:=fun e=>by rw[e,hr4] at hx4;injection hx4 with e1;injection e1 with _ e1;exact absurd e1 (by decide)
   have hx:=(hk.block x (zA2 hx4) hne).trans hx4
   exact⟨hb,.inr ⟨rfl,x,c,rfl,hx,X,(hlv.go hb34).set hr4 (by unfold Calm;decide) hb0.size (.inr (Nat.le_refl _)) hk.x,hX⟩⟩
end Go.Proofs.YtbokdbaagacnlaaGreatDoor
