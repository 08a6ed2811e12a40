import Derived.Test.YtbokdbaagacnlaaGreatDoorJQ32
namespace Go.Proofs.YtbokdbaagacnlaaGreatDoor
open Go.RowKit Go.Lib
def zBS : List ByteArray:=[⟨#[109,97,120]⟩,⟨#[116,119,105,99,101]⟩,⟨#[98,111,111,109]⟩,⟨#[195,164,104]⟩]
def bitB (h:Int):Nat→Bool
 | 0=>bits .and .i64 h 1 == 1
 | 1=>bits .and .i64 (h / 2) 1 == 1
 | 2=>bits .and .i64 (h / 4) 1 == 1
 | 3=>bits .and .i64 (h / 8) 1 == 1
 | _=>bits .and .i64 (h / 16) 1 == 1
def zAE (h:Int):Nat→List ByteArray
 | 0=>[]
 | k+1=>if bitB h k=true then zAE h k ++ [zBS.getD k ⟨#[]⟩] else zAE h k
structure PF (h:Int) (p:Option Addr) (lo:Nat) (w:World) (k:Nat) (F:ByteArray→Option Value):Prop where
 yes:∀ s∈zAE h k,∃ b1 b2,F s=some (.func (.func 114) #[] #[ptr b1,ptr b2])∧lo≤b1∧lo≤b2∧One w b1 (.pointer p) 171∧One w b2 (.string s) 9
 no:∀ s v,F s=some v→s∈zBS.take k∧(s∈zAE h k∨v=.nilFunc)
theorem zIG (h:Int):∀ k,k≤4→∀ s∈zAE h k,s∈zBS.take k
 | 0,_,s,hs=>by simp[zAE] at hs
 | k+1,hk,s,hs=>by
  have ih:=zIG h k (by omega)
  have hg:zBS[k]?=some (zBS.getD k ⟨#[]⟩):=by rw[List.getD_eq_getElem?_getD];rcases (show k=0∨k=1∨k=2∨k=3 by omega) with rfl | rfl | rfl | rfl <;> rfl
  rw[List.take_add_one,hg]
  unfold zAE at hs
  split at hs
  ·rcases List.mem_append.1 hs with hs | hs
   ·exact List.mem_append.2 (.inl (ih s hs))
   ·exact List.mem_append.2 (.inr (by simpa using hs))
  ·exact List.mem_append.2 (.inl (ih s hs))
theorem fresh_word : ∀ k,k<4→zBS.getD k ⟨#[]⟩ ∉ zBS.take k:=by
 intro k hk
 rcases (show k=0∨k=1∨k=2∨k=3 by omega) with rfl | rfl | rfl | rfl <;> simp[zBS]
section
variable {h:Int} {p:Option Addr} {lo k:Nat} {w w':World} {F:ByteArray→Option Value}
theorem PF.moves (hp:PF h p lo w k F)(hb:∀ g o,lo≤g→w.heap[g]?=some (.cells o 171 (0,0))∨w.heap[g]?=some (.cells o 9 (0,0))→w'.heap[g]?=w.heap[g]?):PF h p lo w' k F:=
 ⟨fun s hs=>by obtain⟨b1,b2,h1,h2,h3,h4,h5⟩:=hp.yes s hs;exact⟨b1,b2,h1,h2,h3,(hb b1 _ h2 (.inl h4)).trans h4,(hb b2 _ h3 (.inr h5)).trans h5⟩,hp.no⟩
theorem PF.hit (hp:PF h p lo w k F)(hk:k<4)(hb:bitB h k=true){b1 b2:Nat}(l1:lo≤b1)(l2:lo≤b2)(o1:One w b1 (.pointer p) 171)(o2:One w b2 (.string (zBS.getD k ⟨#[]⟩)) 9):
  PF h p lo w (k+1) (fun t=>if t=zBS.getD k ⟨#[]⟩ then some (.func (.func 114) #[] #[ptr b1,ptr b2]) else F t):=by
 have hg:zBS[k]?=some (zBS.getD k ⟨#[]⟩):=by rw[List.getD_eq_getElem?_getD];rcases (show k=0∨k=1∨k=2∨k=3 by omega) with rfl | rfl | rfl | rfl <;> rfl
 constructor
 ·intro s hs
  by_cases e:s=zBS.getD k ⟨#[]⟩
  ·exact⟨b1,b2,by simp only[e,if_true],l1,l2,o1,by rw[e];exact o2⟩
  ·simp only[zAE,hb,if_true,List.mem_append,List.mem_singleton,e,or_false] at hs
   simp only[e,if_false]
   exact hp.yes s hs
 ·intro s v hv
  rw[List.take_add_one,hg]
  by_cases e:s=zBS.getD k ⟨#[]⟩
  ·exact⟨by simp[e],.inl (by simp[zAE,hb,e])⟩
  ·simp only[e,if_false] at hv
   obtain⟨q1,q2⟩:=hp.no s v hv
   exact⟨by simp[q1],q2.imp (fun q=>by simp[zAE,hb,q]) id⟩
theorem PF.miss (hp:PF h p lo w k F)(hk:k<4)(hb:bitB h k=false):PF h p lo w (k+1) F:=by
 have hn:zAE h (k+1)=zAE h k:=by simp[zAE,hb]
 have hg:zBS[k]?=some (zBS.getD k ⟨#[]⟩):=by rw[List.getD_eq_getElem?_getD];rcases (show k=0∨k=1∨k=2∨k=3 by omega) with rfl | rfl | rfl | rfl <;> rfl
 exact⟨by rw[hn];exact hp.yes,fun s v hv=>by rw[hn,List.take_add_one,hg];obtain⟨q1,q2⟩:=hp.no s v hv;exact⟨by simp[q1],q2⟩⟩
theorem PF.nil (hp:PF h p lo w k F)(hk:k<4)(hb:bitB h k=false):PF h p lo w (k+1) (fun t=>if t=zBS.getD k ⟨#[]⟩ then some .nilFunc else F t):=by
 have hn:zAE h (k+1)=zAE h k:=by simp[zAE,hb]
 have hg:zBS[k]?=some (zBS.getD k ⟨#[]⟩):=by rw[List.getD_eq_getElem?_getD];rcases (show k=0∨k=1∨k=2∨k=3 by omega) with rfl | rfl | rfl | rfl <;> rfl
 constructor
 ·intro s hs
  rw[hn] at hs
  have e:s≠zBS.getD k ⟨#[]⟩:=fun e=>fresh_word k hk (e ▸ zIG h k (by omega) s hs)
  simp only[e,if_false]
  exact hp.yes s hs
 ·intro s v hv
  rw[hn,List.take_add_one,hg]
  by_cases e:s=zBS.getD k ⟨#[]⟩
  ·simp only[e,if_true] at hv
   injection hv with hv
   exact⟨by simp[e],.inr hv.symm⟩
  ·simp only[e,if_false] at hv
   obtain⟨q1,q2⟩:=hp.no s v hv
   exact⟨by simp[q1],q2⟩
end
set_option maxRecDepth 1000000 in
theorem zPA (w:World):Calls Tryz.prog 92 #[] w fun e w'=>e=.returned (.slice (some ⟨w.heap.size,0,none⟩) 4 4)∧w'=w.alloc (.cells (zBS.map Value.string).toArray 9):=by
 go_enter Tryz.func92,Tryz.ntmps92
 go_wp2
 go_ret
 exact⟨rfl,rfl⟩
set_option maxRecDepth 1000000 in
theorem zFF (s:ByteArray)(p:Option Addr)(w:World):Calls Tryz.prog 93 #[.string s,.pointer p] w fun e w'=>e=.returned (.func (.func 114) #[] #[ptr (w.heap.size+1),ptr w.heap.size])∧w'=(w.alloc (.cells #[.string s] 9)).alloc (.cells #[.pointer p] 171):=by
 have hmf:∀ (fn:Fn) (first cap:Array Value) (w:World),(Instr.makeFunc fn first cap).run Tryz.prog w=.ok (.func fn first cap) w:=fun _ _ _ _=>rfl
 go_enter Tryz.func93,Tryz.ntmps93
 go_wp2
 go_ret
 exact⟨rfl,rfl⟩
structure PM (h:Int) (p:Option Addr) (w wr:World) (k:Nat):Prop where
 below:Below w.heap.size w wr
 row:wr.heap[w.heap.size+1]?=some (.cells (zBS.map Value.string).toArray 9 (0,0))
 map:∃ F,MapF wr w.heap.size F∧PF h p w.heap.size wr k F
set_option maxRecDepth 1000000 in
set_option maxHeartbeats 1000000 in
theorem zNO (h:Int)(p:Option Addr)(w:World):Calls Tryz.prog 62 #[.int .i64 h,.pointer p] w fun e w'=>Below w.heap.size w w'∧((h=0∧e=.returned (.map none))∨(h≠0∧e=.returned (.map (some w.heap.size))∧PM h p w w' 4)):=by
 by_cases h0:h=0
 ·subst h0
  go_enter Tryz.func62,Tryz.ntmps62
  go_wp2
  go_ret
  exact⟨Below.refl _ _,.inl ⟨trivial,rfl⟩⟩
 have hb0:(h == 0)=false:=by rw[beq_eq_false_iff_ne];exact h0
 have H0:Hid (h≠0):=h0
 have hmm:=@run_makeMap Tryz.prog
 have hwd:=zPA (w.alloc (.map #[] 0))
 clear h0
 go_enter Tryz.func62,Tryz.ntmps62
 go_wp2_with fail
 refine hwd.mono ?_
 rintro e w1 ⟨rfl,hw1⟩
 have hPM:PM h p w w1 0:=by
  rw[hw1]
  exact⟨((Below.refl _ _).alloc (Nat.le_refl _) _).alloc (by simp) _,zAN (by simp),⟨_,(MapF.new w).block (Below.heap_alloc _ _ _ (MapF.new w).lt),⟨fun s hs=>by simp[zAE] at hs,fun s v hv=>by cases hv⟩⟩⟩
 have HPM:Hid (PM h p w w1 0):=hPM
 clear hwd hw1 hPM
 go_wp2_with fail
 go_loopw [13] (fun v13 wr=>∃ k:Nat,v13=.int .i64 k∧k≤4∧Hid (PM h p w wr k)) (fun v13 _=>4 - (intOf v13).toNat)
 case atStart=>exact⟨0,rfl,by omega,HPM⟩
 case round=>
  obtain⟨k,rfl,hk,HK⟩:=hrel
  by_cases h4:k=4
  ·subst h4
   go_wp2
   go_ret
   exact⟨HK.out.below,.inr ⟨H0.out,rfl,HK.out⟩⟩
  have hk4:k=0∨k=1∨k=2∨k=3:=by omega
  obtain⟨F,hF,hPF⟩:=HK.out.map
  have HF:Hid _:=And.intro hF hPF
  have LG:Hid (w.heap.size<wr.heap.size):=hF.lt
  clear hF hPF h4
  rcases hk4 with rfl | rfl | rfl | rfl
  ·have c:wr.cell? ⟨w.heap.size+1,0,none⟩=some (.string ⟨#[109,97,120]⟩):=zA0 HK.out.row rfl
   have hpr:=zFF ⟨#[109,97,120]⟩ p wr
   cases hb:(bits BinOp.and IntKind.i64 h 1 == 1) with
   | true=>
    have HBT:Hid (bitB h 0=true):=hb
    go_wp2_with fail
    refine hpr.mono ?_
    rintro e w2 ⟨rfl,hw2⟩
    have hbl:Below wr.heap.size wr w2:=by rw[hw2];exact((Below.refl _ _).alloc (Nat.le_refl _) _).alloc (by simp) _
    have o1:One w2 (wr.heap.size+1) (.pointer p) 171:=by rw[hw2];exact zAN (by simp)
    have o2:One w2 wr.heap.size (.string ⟨#[109,97,120]⟩) 9:=by rw[hw2];exact zA3 (heap_alloc_new _ _)
    have HO:Hid _:=And.intro hbl (And.intro o1 o2)
    clear hw2 hbl o1 o2 hpr
    go_wp2_with (first
      | (at_mapUpdate;refine zAS _ rfl _ _ _ rfl w.heap.size F ⟨#[109,97,120]⟩ _ rfl (HF.out.1.block (HO.out.1.block _ LG.out)) rfl rfl ?_;intro w5 hm5 hg5;have Q5:Hid _:=And.intro hm5 hg5;clear hm5 hg5)
      | fail)
    go_roundw
    case rel=>
     refine⟨1,by go_num,by omega,?_⟩
     have hk5:∀ g,g≠w.heap.size→g<w2.heap.size→w5.heap[g]?=w2.heap[g]?:=fun g hg hl=>Q5.out.2.block g hl (fun e=>hg (by injection e))
     refine⟨⟨(Q5.out.2.os.trans HO.out.1.os).trans HK.out.below.os,(Q5.out.2.tape.trans HO.out.1.tape).trans HK.out.below.tape,(Q5.out.2.output.trans HO.out.1.output).trans HK.out.below.output,Nat.le_trans HK.out.below.size (Nat.le_trans HO.out.1.size Q5.out.2.size),fun g hg=>(hk5 g (by omega) (by have:=HK.out.below.size;have:=HO.out.1.size;omega)).trans ((HO.out.1.block g (by have:=HK.out.below.size;omega)).trans (HK.out.below.block g hg))⟩,?_,⟨_,Q5.out.1,?_⟩⟩
     ·have q:=zA2 HK.out.row
      exact(hk5 _ (by omega) (by have:=HO.out.1.size;omega)).trans ((HO.out.1.block _ q).trans HK.out.row)
     ·have p1:PF h p w.heap.size w2 0 F:=HF.out.2.moves fun g o _ ho=>HO.out.1.block g (by rcases ho with ho | ho <;> exact zA2 ho)
      have hgs:=HK.out.below.size
      exact(PF.hit p1 (by omega) HBT.out (b1:=wr.heap.size+1) (b2:=wr.heap.size) (by omega) hgs HO.out.2.1 HO.out.2.2).moves fun g o hg ho=>hk5 g (fun e=>by subst e;obtain⟨es,clk,q,-⟩:=HF.out.1.block (HO.out.1.block _ LG.out);rcases ho with ho | ho <;> (rw[q] at ho;cases ho)) (by rcases ho with ho | ho <;> exact zA2 ho)
    case measure=>simp[intOf]
   | false=>
    have HBT:Hid (bitB h 0=false):=hb
    cases hb4:(bits BinOp.and IntKind.i64 (h / 16) 1 == 1) with
    | true=>
     go_wp2_with (first
       | (at_mapUpdate;refine zAS _ rfl _ _ _ rfl w.heap.size F ⟨#[109,97,120]⟩ _ rfl HF.out.1 rfl rfl ?_;intro w5 hm5 hg5;have Q5:Hid _:=And.intro hm5 hg5;clear hm5 hg5)
       | fail)
     go_roundw
     case rel=>
      refine⟨1,by go_num,by omega,?_⟩
      have hk5:∀ g,g≠w.heap.size→g<wr.heap.size→w5.heap[g]?=wr.heap[g]?:=fun g hg hl=>Q5.out.2.block g hl (fun e=>hg (by injection e))
      refine⟨⟨Q5.out.2.os.trans HK.out.below.os,Q5.out.2.tape.trans HK.out.below.tape,Q5.out.2.output.trans HK.out.below.output,Nat.le_trans HK.out.below.size Q5.out.2.size,fun g hg=>(hk5 g (by omega) (by have:=HK.out.below.size;omega)).trans (HK.out.below.block g hg)⟩,?_,⟨_,Q5.out.1,?_⟩⟩
      ·exact(hk5 _ (by omega) (zA2 HK.out.row)).trans HK.out.row
      ·exact(HF.out.2.nil (by omega) HBT.out).moves fun g o hg ho=>hk5 g (fun e=>by subst e;obtain⟨es,clk,q,-⟩:=HF.out.1;rcases ho with ho | ho <;> (rw[q] at ho;cases ho)) (by rcases ho with ho | ho <;> exact zA2 ho)
     case measure=>simp[intOf]
    | false=>
     go_wp2
     go_roundw
     case rel=>exact⟨1,by go_num,by omega,⟨HK.out.below,HK.out.row,⟨F,HF.out.1,HF.out.2.miss (by omega) HBT.out⟩⟩⟩
     case measure=>simp[intOf]
  ·have c:wr.cell? ⟨w.heap.size+1,1,none⟩=some (.string ⟨#[116,119,105,99,101]⟩):=zA0 HK.out.row rfl
   have hpr:=zFF ⟨#[116,119,105,99,101]⟩ p wr
   cases hb:(bits BinOp.and IntKind.i64 (h / 2) 1 == 1) with
   | true=>
    have HBT:Hid (bitB h 1=true):=hb
    go_wp2_with fail
    refine hpr.mono ?_
    rintro e w2 ⟨rfl,hw2⟩
    have hbl:Below wr.heap.size wr w2:=by rw[hw2];exact((Below.refl _ _).alloc (Nat.le_refl _) _).alloc (by simp) _
    have o1:One w2 (wr.heap.size+1) (.pointer p) 171:=by rw[hw2];exact zAN (by simp)
    have o2:One w2 wr.heap.size (.string ⟨#[116,119,105,99,101]⟩) 9:=by rw[hw2];exact zA3 (heap_alloc_new _ _)
    have HO:Hid _:=And.intro hbl (And.intro o1 o2)
    clear hw2 hbl o1 o2 hpr
    go_wp2_with (first
      | (at_mapUpdate;refine zAS _ rfl _ _ _ rfl w.heap.size F ⟨#[116,119,105,99,101]⟩ _ rfl (HF.out.1.block (HO.out.1.block _ LG.out)) rfl rfl ?_;intro w5 hm5 hg5;have Q5:Hid _:=And.intro hm5 hg5;clear hm5 hg5)
      | fail)
    go_roundw
    case rel=>
     refine⟨2,by go_num,by omega,?_⟩
     have hk5:∀ g,g≠w.heap.size→g<w2.heap.size→w5.heap[g]?=w2.heap[g]?:=fun g hg hl=>Q5.out.2.block g hl (fun e=>hg (by injection e))
     refine⟨⟨(Q5.out.2.os.trans HO.out.1.os).trans HK.out.below.os,(Q5.out.2.tape.trans HO.out.1.tape).trans HK.out.below.tape,(Q5.out.2.output.trans HO.out.1.output).trans HK.out.below.output,Nat.le_trans HK.out.below.size (Nat.le_trans HO.out.1.size Q5.out.2.size),fun g hg=>(hk5 g (by omega) (by have:=HK.out.below.size;have:=HO.out.1.size;omega)).trans ((HO.out.1.block g (by have:=HK.out.below.size;omega)).trans (HK.out.below.block g hg))⟩,?_,⟨_,Q5.out.1,?_⟩⟩
     ·have q:=zA2 HK.out.row
      exact(hk5 _ (by omega) (by have:=HO.out.1.size;omega)).trans ((HO.out.1.block _ q).trans HK.out.row)
     ·have p1:PF h p w.heap.size w2 1 F:=HF.out.2.moves fun g o _ ho=>HO.out.1.block g (by rcases ho with ho | ho <;> exact zA2 ho)
      have hgs:=HK.out.below.size
      exact(PF.hit p1 (by omega) HBT.out (b1:=wr.heap.size+1) (b2:=wr.heap.size) (by omega) hgs HO.out.2.1 HO.out.2.2).moves fun g o hg ho=>hk5 g (fun e=>by subst e;obtain⟨es,clk,q,-⟩:=HF.out.1.block (HO.out.1.block _ LG.out);rcases ho with ho | ho <;> (rw[q] at ho;cases ho)) (by rcases ho with ho | ho <;> exact zA2 ho)
    case measure=>simp[intOf]
   | false=>
    have HBT:Hid (bitB h 1=false):=hb
    cases hb4:(bits BinOp.and IntKind.i64 (h / 16) 1 == 1) with
    | true=>
     go_wp2_with (first
       | (at_mapUpdate;refine zAS _ rfl _ _ _ rfl w.heap.size F ⟨#[116,119,105,99,101]⟩ _ rfl HF.out.1 rfl rfl ?_;intro w5 hm5 hg5;have Q5:Hid _:=And.intro hm5 hg5;clear hm5 hg5)
       | fail)
     go_roundw
     case rel=>
      refine⟨2,by go_num,by omega,?_⟩
      have hk5:∀ g,g≠w.heap.size→g<wr.heap.size→w5.heap[g]?=wr.heap[g]?:=fun g hg hl=>Q5.out.2.block g hl (fun e=>hg (by injection e))
      refine⟨⟨Q5.out.2.os.trans HK.out.below.os,Q5.out.2.tape.trans HK.out.below.tape,Q5.out.2.output.trans HK.out.below.output,Nat.le_trans HK.out.below.size Q5.out.2.size,fun g hg=>(hk5 g (by omega) (by have:=HK.out.below.size;omega)).trans (HK.out.below.block g hg)⟩,?_,⟨_,Q5.out.1,?_⟩⟩
      ·exact(hk5 _ (by omega) (zA2 HK.out.row)).trans HK.out.row
      ·exact(HF.out.2.nil (by omega) HBT.out).moves fun g o hg ho=>hk5 g (fun e=>by subst e;obtain⟨es,clk,q,-⟩:=HF.out.1;rcases ho with ho | ho <;> (rw[q] at ho;cases ho)) (by rcases ho with ho | ho <;> exact zA2 ho)
     case measure=>simp[intOf]
    | false=>
     go_wp2
     go_roundw
     case rel=>exact⟨2,by go_num,by omega,⟨HK.out.below,HK.out.row,⟨F,HF.out.1,HF.out.2.miss (by omega) HBT.out⟩⟩⟩
     case measure=>simp[intOf]
  ·have c:wr.cell? ⟨w.heap.size+1,2,none⟩=some (.string ⟨#[98,111,111,109]⟩):=zA0 HK.out.row rfl
   have hpr:=zFF ⟨#[98,111,111,109]⟩ p wr
   cases hb:(bits BinOp.and IntKind.i64 (h / 4) 1 == 1) with
   | true=>
    have HBT:Hid (bitB h 2=true):=hb
    go_wp2_with fail
    refine hpr.mono ?_
    rintro e w2 ⟨rfl,hw2⟩
    have hbl:Below wr.heap.size wr w2:=by rw[hw2];exact((Below.refl _ _).alloc (Nat.le_refl _) _).alloc (by simp) _
    have o1:One w2 (wr.heap.size+1) (.pointer p) 171:=by rw[hw2];exact zAN (by simp)
    have o2:One w2 wr.heap.size (.string ⟨#[98,111,111,109]⟩) 9:=by rw[hw2];exact zA3 (heap_alloc_new _ _)
    have HO:Hid _:=And.intro hbl (And.intro o1 o2)
    clear hw2 hbl o1 o2 hpr
    go_wp2_with (first
      | (at_mapUpdate;refine zAS _ rfl _ _ _ rfl w.heap.size F ⟨#[98,111,111,109]⟩ _ rfl (HF.out.1.block (HO.out.1.block _ LG.out)) rfl rfl ?_;intro w5 hm5 hg5;have Q5:Hid _:=And.intro hm5 hg5;clear hm5 hg5)
      | fail)
    go_roundw
    case rel=>
     refine⟨3,by go_num,by omega,?_⟩
     have hk5:∀ g,g≠w.heap.size→g<w2.heap.size→w5.heap[g]?=w2.heap[g]?:=fun g hg hl=>Q5.out.2.block g hl (fun e=>hg (by injection e))
     refine⟨⟨(Q5.out.2.os.trans HO.out.1.os).trans HK.out.below.os,(Q5.out.2.tape.trans HO.out.1.tape).trans HK.out.below.tape,(Q5.out.2.output.trans HO.out.1.output).trans HK.out.below.output,Nat.le_trans HK.out.below.size (Nat.le_trans HO.out.1.size Q5.out.2.size),fun g hg=>(hk5 g (by omega) (by have:=HK.out.below.size;have:=HO.out.1.size;omega)).trans ((HO.out.1.block g (by have:=HK.out.below.size;omega)).trans (HK.out.below.block g hg))⟩,?_,⟨_,Q5.out.1,?_⟩⟩
     ·have q:=zA2 HK.out.row
      exact(hk5 _ (by omega) (by have:=HO.out.1.size;omega)).trans ((HO.out.1.block _ q).trans HK.out.row)
     ·have p1:PF h p w.heap.size w2 2 F:=HF.out.2.moves fun g o _ ho=>HO.out.1.block g (by rcases ho with ho | ho <;> exact zA2 ho)
      have hgs:=HK.out.below.size
      exact(PF.hit p1 (by omega) HBT.out (b1:=wr.heap.size+1) (b2:=wr.heap.size) (by omega) hgs HO.out.2.1 HO.out.2.2).moves fun g o hg ho=>hk5 g (fun e=>by subst e;obtain⟨es,clk,q,-⟩:=HF.out.1.block (HO.out.1.block _ LG.out);rcases ho with ho | ho <;> (rw[q] at ho;cases ho)) (by rcases ho with ho | ho <;> exact zA2 ho)
    case measure=>simp[intOf]
   | false=>
    have HBT:Hid (bitB h 2=false):=hb
    cases hb4:(bits BinOp.and IntKind.i64 (h / 16) 1 == 1) with
    | true=>
     go_wp2_with (first
       | (at_mapUpdate;refine zAS _ rfl _ _ _ rfl w.heap.size F ⟨#[98,111,111,109]⟩ _ rfl HF.out.1 rfl rfl ?_;intro w5 hm5 hg5;have Q5:Hid _:=And.intro hm5 hg5;clear hm5 hg5)
       | fail)
     go_roundw
     case rel=>
      refine⟨3,by go_num,by omega,?_⟩
      have hk5:∀ g,g≠w.heap.size→g<wr.heap.size→w5.heap[g]?=wr.heap[g]?:=fun g hg hl=>Q5.out.2.block g hl (fun e=>hg (by injection e))
      refine⟨⟨Q5.out.2.os.trans HK.out.below.os,Q5.out.2.tape.trans HK.out.below.tape,Q5.out.2.output.trans HK.out.below.output,Nat.le_trans HK.out.below.size Q5.out.2.size,fun g hg=>(hk5 g (by omega) (by have:=HK.out.below.size;omega)).trans (HK.out.below.block g hg)⟩,?_,⟨_,Q5.out.1,?_⟩⟩
      ·exact(hk5 _ (by omega) (zA2 HK.out.row)).trans HK.out.row
      ·exact(HF.out.2.nil (by omega) HBT.out).moves fun g o hg ho=>hk5 g (fun e=>by subst e;obtain⟨es,clk,q,-⟩:=HF.out.1;rcases ho with ho | ho <;> (rw[q] at ho;cases ho)) (by rcases ho with ho | ho <;> exact zA2 ho)
     case measure=>simp[intOf]
    | false=>
     go_wp2
     go_roundw
     case rel=>exact⟨3,by go_num,by omega,⟨HK.out.below,HK.out.row,⟨F,HF.out.1,HF.out.2.miss (by omega) HBT.out⟩⟩⟩
     case measure=>simp[intOf]
  ·have c:wr.cell? ⟨w.heap.size+1,3,none⟩=some (.string ⟨#[195,164,104]⟩):=zA0 HK.out.row rfl
   have hpr:=zFF ⟨#[195,164,104]⟩ p wr
   cases hb:(bits BinOp.and IntKind.i64 (h / 8) 1 == 1) with
   | true=>
    have HBT:Hid (bitB h 3=true):=hb
    go_wp2_with fail
    refine hpr.mono ?_
    rintro e w2 ⟨rfl,hw2⟩
    have hbl:Below wr.heap.size wr w2:=by rw[hw2];exact((Below.refl _ _).alloc (Nat.le_refl _) _).alloc (by simp) _
    have o1:One w2 (wr.heap.size+1) (.pointer p) 171:=by rw[hw2];exact zAN (by simp)
    have o2:One w2 wr.heap.size (.string ⟨#[195,164,104]⟩) 9:=by rw[hw2];exact zA3 (heap_alloc_new _ _)
    have HO:Hid _:=And.intro hbl (And.intro o1 o2)
    clear hw2 hbl o1 o2 hpr
    go_wp2_with (first
      | (at_mapUpdate;refine zAS _ rfl _ _ _ rfl w.heap.size F ⟨#[195,164,104]⟩ _ rfl (HF.out.1.block (HO.out.1.block _ LG.out)) rfl rfl ?_;intro w5 hm5 hg5;have Q5:Hid _:=And.intro hm5 hg5;clear hm5 hg5)
      | fail)
    go_roundw
    case rel=>
     refine⟨4,by go_num,by omega,?_⟩
     have hk5:∀ g,g≠w.heap.size→g<w2.heap.size→w5.heap[g]?=w2.heap[g]?:=fun g hg hl=>Q5.out.2.block g hl (fun e=>hg (by injection e))
     refine⟨⟨(Q5.out.2.os.trans HO.out.1.os).trans HK.out.below.os,(Q5.out.2.tape.trans HO.out.1.tape).trans HK.out.below.tape,(Q5.out.2.output.trans HO.out.1.output).trans HK.out.below.output,Nat.le_trans HK.out.below.size (Nat.le_trans HO.out.1.size Q5.out.2.size),fun g hg=>(hk5 g (by omega) (by have:=HK.out.below.size;have:=HO.out.1.size;omega)).trans ((HO.out.1.block g (by have:=HK.out.below.size;omega)).trans (HK.out.below.block g hg))⟩,?_,⟨_,Q5.out.1,?_⟩⟩
     ·have q:=zA2 HK.out.row
      exact(hk5 _ (by omega) (by have:=HO.out.1.size;omega)).trans ((HO.out.1.block _ q).trans HK.out.row)
     ·have p1:PF h p w.heap.size w2 3 F:=HF.out.2.moves fun g o _ ho=>HO.out.1.block g (by rcases ho with ho | ho <;> exact zA2 ho)
      have hgs:=HK.out.below.size
      exact(PF.hit p1 (by omega) HBT.out (b1:=wr.heap.size+1) (b2:=wr.heap.size) (by omega) hgs HO.out.2.1 HO.out.2.2).moves fun g o hg ho=>hk5 g (fun e=>by subst e;obtain⟨es,clk,q,-⟩:=HF.out.1.block (HO.out.1.block _ LG.out);rcases ho with ho | ho <;> (rw[q] at ho;cases ho)) (by rcases ho with ho | ho <;> exact zA2 ho)
    case measure=>simp[intOf]
   | false=>
    have HBT:Hid (bitB h 3=false):=hb
    cases hb4:(bits BinOp.and IntKind.i64 (h / 16) 1 == 1) with
    | true=>
     go_wp2_with (first
       | (at_mapUpdate;refine zAS _ rfl _ _ _ rfl w.heap.size F ⟨#[195,164,104]⟩ _ rfl HF.out.1 rfl rfl ?_;intro w5 hm5 hg5;have Q5:Hid _:=And.intro hm5 hg5;clear hm5 hg5)
       | fail)
     go_roundw
     case rel=>
      refine⟨4,by go_num,by omega,?_⟩
      have hk5:∀ g,g≠w.heap.size→g<wr.heap.size→w5.heap[g]?=wr.heap[g]?:=fun g hg hl=>Q5.out.2.block g hl (fun e=>hg (by injection e))
      refine⟨⟨Q5.out.2.os.trans HK.out.below.os,Q5.out.2.tape.trans HK.out.below.tape,Q5.out.2.output.trans HK.out.below.output,Nat.le_trans HK.out.below.size Q5.out.2.size,fun g hg=>(hk5 g (by omega) (by have:=HK.out.below.size;omega)).trans (HK.out.below.block g hg)⟩,?_,⟨_,Q5.out.1,?_⟩⟩
      ·exact(hk5 _ (by omega) (zA2 HK.out.row)).trans HK.out.row
      ·exact(HF.out.2.nil (by omega) HBT.out).moves fun g o hg ho=>hk5 g (fun e=>by subst e;obtain⟨es,clk,q,-⟩:=HF.out.1;rcases ho with ho | ho <;> (rw[q] at ho;cases ho)) (by rcases ho with ho | ho <;> exact zA2 ho)
     case measure=>simp[intOf]
    | false=>
     go_wp2
     go_roundw
     case rel=>exact⟨4,by go_num,by omega,⟨HK.out.below,HK.out.row,⟨F,HF.out.1,HF.out.2.miss (by omega) HBT.out⟩⟩⟩
     case measure=>simp[intOf]
def inL (hl:List ByteArray)(s:ByteArray):Bool:=hl.any fun x=>x.toList == s.toList
def zCD (hl:List ByteArray)(qs:List (Nat × ByteArray)):Option (Nat × ByteArray):=qs.find? fun q=>!inL hl q.2
theorem zCC (hl:List ByteArray)(a b:List (Nat × ByteArray)):zCD hl (a ++ b)=(zCD hl a).or (zCD hl b):=by simp[zCD,List.find?_append]
def zN2 (P:Nat→Prop)(w:World)(m:Option (Nat × ByteArray))(e:Ending):Prop:=
 match m with
 | none=>e=.returned (.pointer none)
 | some q=>∃ a vs,e=.returned (.pointer (some a))∧zCO P w (.pointer (some a)) 112 q.1 0 q.2 zAK vs
def XCon (t:Tree):Prop:=
 ∀ (P:Nat→Prop) (w:World) (v hv:Value) (hl:List ByteArray),zA9 P w t v→Txts w hv hl→hl.length≤900 →
  Calls Tryz.prog 38 #[v,hv] w fun e w'=>Below w.heap.size w w'∧zN2 P w' (zCD hl (asks t)) e
theorem zIX {ts:List Tree}{k:Nat}{t:Tree}(h:ts[k]?=some t):zAD (ts.take (k+1))=zAD (ts.take k) ++ asks t:=by
 rw[List.take_add_one,h]
 have:∀ a b,zAD (a ++ b)=zAD a ++ zAD b:=by
  intro a b
  induction a with
  | nil=>simp[zAD]
  | cons x a ih=>simp[zAD,ih]
 rw[this]
 simp[zAD]
theorem zHJ (ts:List Tree)(k:Nat):zAD ts=zAD (ts.take k) ++ zAD (ts.drop k):=by
 have:∀ a b,zAD (a ++ b)=zAD a ++ zAD b:=by
  intro a b
  induction a with
  | nil=>simp[zAD]
  | cons x a ih=>simp[zAD,ih]
 rw[←this,List.take_append_drop]
set_option maxRecDepth 1000000 in
set_option maxHeartbeats 1000000 in
theorem zBQ {P:Nat→Prop}{w:World}{k0 p:Nat}{n:Int}{word metric:ByteArray}{v hv:Value}{vs:List Value}{ts:List Tree}{hl:List ByteArray}(hk:k0≠112)
  (hn:zCO P w v k0 p n word metric vs) (hts:zAJ P w ts vs) (ih:∀ t∈ts,XCon t) (hh:Txts w hv hl) (h9:hl.length≤900) (hvl:vs.length≤1000):
  Calls Tryz.prog 38 #[v,hv] w fun e w'=>Below w.heap.size w w'∧zN2 P w' (zCD hl (zAD ts)) e:=by
 obtain⟨b,pv,rfl,hPb,hb,hpa⟩:=hn
 have c0:=zA0 (i:=0) hb rfl
 have hlen:=zC2 hts
 have hq:∃ (ao:Option Addr) (cap:Nat),pv=.slice ao vs.length cap∧∀ (W:World),Below w.heap.size w W→∀ k x,vs[k]?=some x→∃ q,ao=some ⟨q,0,none⟩∧W.cell? ⟨q,k,none⟩=some x:=by
  rcases hpa with⟨rfl,rfl⟩ | ⟨q,cap,cur,rfl,hPq,hcur,-,-,-,htake⟩
  ·exact⟨none,0,rfl,fun W hW k x hx=>by simp at hx⟩
  ·refine⟨some ⟨q,0,none⟩,cap,rfl,fun W hW k x hx=>⟨q,rfl,?_⟩⟩
   have hc:cur[k]?=some x:=by
    rw[←htake,List.getElem?_take] at hx
    split at hx
    ·simpa using hx
    ·cases hx
   exact zA0 ((hW.block q (zA2 hcur)).trans hcur) hc
 obtain⟨ao,cap,rfl,hq⟩:=hq
 have hne:((k0:Int) == 112)=false:=by rw[beq_eq_false_iff_ne];omega
 obtain⟨ho,hc,rfl,-⟩:∃ ho hc,hv=.slice ho hl.length hc∧True:=by obtain⟨ho,hc,h1,-⟩:=hh;exact⟨ho,hc,h1,trivial⟩
 have HQ:Hid _:=hq
 have HTS:Hid (zAJ P w ts vs):=hts
 have HIH:Hid (∀ t∈ts,XCon t):=ih
 have HBK:Hid _:=hb
 have HH:Hid (Txts w (.slice ho hl.length hc) hl):=hh
 have H9:Hid (hl.length≤900):=h9
 have HLN:Hid (ts.length=vs.length):=hlen
 clear hq hts ih hb hpa hh hlen h9
 generalize vs.length=m at *
 go_enter Tryz.func38,Tryz.ntmps38
 go_wp2_with fail
 go_loopw [7] (fun i wr=>∃ k:Nat,k≤m∧i=.int .i64 k∧Hid (Below w.heap.size w wr∧zCD hl (zAD (ts.take k))=none)) (fun i _=>m - (intOf i).toNat)
 case atStart=>exact⟨0,Nat.zero_le _,rfl,Below.refl _ _,by simp[zAD,zCD]⟩
 case round=>
  obtain⟨k,hkv,rfl,HBr⟩:=hrel
  have c5r:wr.cell? ⟨b,5,none⟩=some (.slice ao m cap):=zA0 (i:=5) ((HBr.out.1.block b (zA2 HBK.out)).trans HBK.out) rfl
  rcases Nat.lt_or_ge k m with hkl | hkl
  ·have hkz:(k:Int)<(m:Int):=by omega
   obtain⟨t,ht⟩:∃ t,ts[k]?=some t:=⟨ts[k]'(by have:=HLN.out;omega),List.getElem?_eq_getElem _⟩
   obtain⟨x,hx,hnx⟩:=zGB HTS.out k t ht
   obtain⟨q,rfl,hcq⟩:=HQ.out wr HBr.out.1 k x hx
   obtain⟨xa,rfl⟩:=zI3 hnx
   have hcall:=HIH.out t (List.mem_of_getElem? ht) P wr (.pointer (some xa)) (.slice ho hl.length hc) hl (hnx.moves fun c hc hlt=>⟨hc,HBr.out.1.block c hlt⟩) (HH.out.below HBr.out.1) H9.out
   have HTK:Hid (zAD (ts.take (k+1))=zAD (ts.take k) ++ asks t):=zIX ht
   have HSP:Hid (zAD ts=zAD (ts.take (k+1)) ++ zAD (ts.drop (k+1))):=zHJ ts _
   clear hx ht
   go_wp2_with fail
   refine hcall.mono ?_
   rintro e w2 ⟨hb2,hm⟩
   have HB2:Hid (Below w.heap.size w w2):=HBr.out.1.trans (hb2.mono HBr.out.1.size)
   clear hcall hb2
   cases hms:zCD hl (asks t) with
   | none=>
    rw[hms] at hm
    have hm:e=.returned (.pointer none):=hm
    subst hm
    have HN1:Hid (zCD hl (zAD (ts.take (k+1)))=none):=by
     show _=_
     rw[HTK.out,zCC,HBr.out.2,hms]
     rfl
    clear hms
    go_wp2
    go_roundw
    case rel=>exact⟨k+1,hkl,by go_num,HB2.out,HN1.out⟩
    case measure=>simp[intOf];omega
   | some z=>
    rw[hms] at hm
    obtain⟨a,vs2,rfl,hnd⟩:=hm
    have HN1:Hid (zCD hl (zAD ts)=some z):=by
     show _=_
     rw[HSP.out,zCC,HTK.out,zCC,HBr.out.2,hms]
     rfl
    have HND:Hid _:=hnd
    clear hms hnd
    go_wp2
    go_ret
    refine⟨HB2.out,?_⟩
    rw[HN1.out]
    exact⟨a,vs2,rfl,HND.out⟩
  ·have hkz:¬ (k:Int)<(m:Int):=by omega
   have HKE:Hid (zCD hl (zAD ts)=none):=by
    show _=_
    have:=HBr.out.2
    rwa [List.take_of_length_le (by have:=HLN.out;omega)] at this
   go_wp2
   go_ret
   exact⟨HBr.out.1,by rw[HKE.out];rfl⟩
set_option maxRecDepth 1000000 in
set_option maxHeartbeats 1000000 in
theorem zJ1 {P:Nat→Prop}{w:World}{p:Nat}{n:Int}{word metric:ByteArray}{v hv:Value}{vs:List Value}{hl:List ByteArray}(hin:inL hl word=false)(hn:zCO P w v 112 p n word metric vs)(hh:Txts w hv hl)(h9:hl.length≤900):
  Calls Tryz.prog 38 #[v,hv] w fun e w'=>Below w.heap.size w w'∧∃ a,e=.returned (.pointer (some a))∧zCO P w' (.pointer (some a)) 112 p n word metric vs:=by
 have HN:Hid (zCO P w v 112 p n word metric vs):=hn
 obtain⟨b,pv,rfl,hPb,hb,hpa⟩:=hn
 have c0:=zA0 (i:=0) hb rfl
 obtain⟨ho,hc,rfl,-⟩:∃ ho hc,hv=.slice ho hl.length hc∧True:=by obtain⟨ho,hc,h1,-⟩:=hh;exact⟨ho,hc,h1,trivial⟩
 have HBK:Hid _:=hb
 have HH:Hid (Txts w (.slice ho hl.length hc) hl):=hh
 have HIN:Hid (inL hl word=false):=hin
 have hnot:∀ (x:Bool) (w:World),(Op.unary .not (.bool x)).run Tryz.prog w=.ok (.bool (!x)) w:=fun _ _=>rfl
 clear hb hpa hh hin
 go_enter Tryz.func38,Tryz.ntmps38
 go_wp2_with fail
 have c3:w.cell? ⟨b,3,none⟩=some (.string word):=zA0 HBK.out rfl
 have HHX:Hid (∀ (j:Nat) (x:ByteArray),hl[j]?=some x→∃ g,ho=some ⟨g,0,none⟩∧w.cell? ⟨g,j,none⟩=some (.string x)):=by
  obtain⟨o2,c2,e,-,hx⟩:=HH.out
  injection e with e1
  subst e1
  exact hx
 generalize hM9:hl.length=M9 at *
 have HM9:Hid (hl.length=M9):=hM9
 have h9m:M9≤900:=by first | exact H9.out | exact h9
 clear hM9
 go_loopw [5,6] (fun v5 v6 wr=>∃ (j q:Nat),v6=.int .i64 j∧j≤M9∧v5=.bool (inL (hl.take j) word)∧wr=w.drewN q) (fun _ v6 _=>M9 - (intOf v6).toNat)
 case atStart=>exact⟨0,0,rfl,Nat.zero_le _,rfl,rfl⟩
 case round=>
  obtain⟨j,q,rfl,hj,rfl,rfl⟩:=hrel
  rcases Nat.lt_or_ge j M9 with hlt | hge
  ·obtain⟨x,hx⟩:∃ x,hl[j]?=some x:=⟨hl[j]'(by have:=HM9.out;omega),List.getElem?_eq_getElem _⟩
   obtain⟨g,rfl,cg⟩:=HHX.out j x hx
   have hlt2:(j:Int)<M9:=by omega
   have HJ:Hid (inL (hl.take (j+1)) word=(inL (hl.take j) word || (x.toList == word.toList))):=by
    show _=_
    rw[List.take_add_one,hx]
    simp[inL]
   clear hx
   cases hin2:inL (hl.take j) word with
   | true=>
    rw[hin2] at HJ
    clear hin2
    go_wp2_with fail
    go_quiet (fail)
    go_wp2
    go_roundw
    case rel=>exact⟨j+1,_,by go_num,by omega,by rw[HJ.out];rfl,rfl⟩
    case measure=>simp[intOf];omega
   | false=>
    rw[hin2] at HJ
    clear hin2
    cases hxe:(x.toList == word.toList) with
    | true=>
     rw[hxe] at HJ
     go_wp2_with fail
     go_quiet (fail)
     go_wp2
     go_roundw
     case rel=>exact⟨j+1,_,by go_num,by omega,by rw[HJ.out];rfl,rfl⟩
     case measure=>simp[intOf];omega
    | false=>
     rw[hxe] at HJ
     go_wp2_with fail
     go_quiet (fail)
     go_wp2
     go_roundw
     case rel=>exact⟨j+1,_,by go_num,by omega,by rw[HJ.out];rfl,rfl⟩
     case measure=>simp[intOf];omega
  ·have hge2:¬ (j:Int)<M9:=by omega
   have HFU:Hid (inL (hl.take j) word=inL hl word):=by show _=_;rw[List.take_of_length_le (by have:=HM9.out;omega)]
   rw[HFU.out]
   rw[HIN.out]
   go_wp2
   go_ret
   exact⟨⟨rfl,rfl,rfl,Nat.le_refl _,fun _ _=>rfl⟩,_,rfl,HN.out⟩
set_option maxRecDepth 1000000 in
set_option maxHeartbeats 1000000 in
theorem zHU {P:Nat→Prop}{w:World}{p:Nat}{n:Int}{word metric:ByteArray}{v hv:Value}{vs:List Value}{ts:List Tree}{hl:List ByteArray}(hin:inL hl word=true)
  (hn:zCO P w v 112 p n word metric vs) (hts:zAJ P w ts vs) (ih:∀ t∈ts,XCon t) (hh:Txts w hv hl) (h9:hl.length≤900) (hvl:vs.length≤1000):
  Calls Tryz.prog 38 #[v,hv] w fun e w'=>Below w.heap.size w w'∧zN2 P w' (zCD hl (zAD ts)) e:=by
 obtain⟨b,pv,rfl,hPb,hb,hpa⟩:=hn
 have c0:=zA0 (i:=0) hb rfl
 have hlen:=zC2 hts
 have hq:∃ (ao:Option Addr) (cap:Nat),pv=.slice ao vs.length cap∧∀ (W:World),Below w.heap.size w W→∀ k x,vs[k]?=some x→∃ q,ao=some ⟨q,0,none⟩∧W.cell? ⟨q,k,none⟩=some x:=by
  rcases hpa with⟨rfl,rfl⟩ | ⟨q,cap,cur,rfl,hPq,hcur,-,-,-,htake⟩
  ·exact⟨none,0,rfl,fun W hW k x hx=>by simp at hx⟩
  ·refine⟨some ⟨q,0,none⟩,cap,rfl,fun W hW k x hx=>⟨q,rfl,?_⟩⟩
   have hc:cur[k]?=some x:=by
    rw[←htake,List.getElem?_take] at hx
    split at hx
    ·simpa using hx
    ·cases hx
   exact zA0 ((hW.block q (zA2 hcur)).trans hcur) hc
 obtain⟨ao,cap,rfl,hq⟩:=hq
 obtain⟨ho,hc,rfl,-⟩:∃ ho hc,hv=.slice ho hl.length hc∧True:=by obtain⟨ho,hc,h1,-⟩:=hh;exact⟨ho,hc,h1,trivial⟩
 have HQ:Hid _:=hq
 have HTS:Hid (zAJ P w ts vs):=hts
 have HIH:Hid (∀ t∈ts,XCon t):=ih
 have HBK:Hid _:=hb
 have HH:Hid (Txts w (.slice ho hl.length hc) hl):=hh
 have H9:Hid (hl.length≤900):=h9
 have HLN:Hid (ts.length=vs.length):=hlen
 have HIN:Hid (inL hl word=true):=hin
 have hnot:∀ (x:Bool) (w:World),(Op.unary .not (.bool x)).run Tryz.prog w=.ok (.bool (!x)) w:=fun _ _=>rfl
 clear hq hts ih hb hpa hh hlen h9 hin
 generalize vs.length=m at *
 go_enter Tryz.func38,Tryz.ntmps38
 go_wp2_with fail
 have c3:w.cell? ⟨b,3,none⟩=some (.string word):=zA0 HBK.out rfl
 have HHX:Hid (∀ (j:Nat) (x:ByteArray),hl[j]?=some x→∃ g,ho=some ⟨g,0,none⟩∧w.cell? ⟨g,j,none⟩=some (.string x)):=by
  obtain⟨o2,c2,e,-,hx⟩:=HH.out
  injection e with e1
  subst e1
  exact hx
 generalize hM9:hl.length=M9 at *
 have HM9:Hid (hl.length=M9):=hM9
 have h9m:M9≤900:=by first | exact H9.out | exact h9
 clear hM9
 go_loopw [5,6] (fun v5 v6 wr=>∃ (j q:Nat),v6=.int .i64 j∧j≤M9∧v5=.bool (inL (hl.take j) word)∧wr=w.drewN q) (fun _ v6 _=>M9 - (intOf v6).toNat)
 case atStart=>exact⟨0,0,rfl,Nat.zero_le _,rfl,rfl⟩
 case round=>
  obtain⟨j,q,rfl,hj,rfl,rfl⟩:=hrel
  rcases Nat.lt_or_ge j M9 with hlt | hge
  ·obtain⟨x,hx⟩:∃ x,hl[j]?=some x:=⟨hl[j]'(by have:=HM9.out;omega),List.getElem?_eq_getElem _⟩
   obtain⟨g,rfl,cg⟩:=HHX.out j x hx
   have hlt2:(j:Int)<M9:=by omega
   have HJ:Hid (inL (hl.take (j+1)) word=(inL (hl.take j) word || (x.toList == word.toList))):=by
    show _=_
    rw[List.take_add_one,hx]
    simp[inL]
   clear hx
   cases hin2:inL (hl.take j) word with
   | true=>
    rw[hin2] at HJ
    clear hin2
    go_wp2_with fail
    go_quiet (fail)
    go_wp2
    go_roundw
    case rel=>exact⟨j+1,_,by go_num,by omega,by rw[HJ.out];rfl,rfl⟩
    case measure=>simp[intOf];omega
   | false=>
    rw[hin2] at HJ
    clear hin2
    cases hxe:(x.toList == word.toList) with
    | true=>
     rw[hxe] at HJ
     go_wp2_with fail
     go_quiet (fail)
     go_wp2
     go_roundw
     case rel=>exact⟨j+1,_,by go_num,by omega,by rw[HJ.out];rfl,rfl⟩
     case measure=>simp[intOf];omega
    | false=>
     rw[hxe] at HJ
     go_wp2_with fail
     go_quiet (fail)
     go_wp2
     go_roundw
     case rel=>exact⟨j+1,_,by go_num,by omega,by rw[HJ.out];rfl,rfl⟩
     case measure=>simp[intOf];omega
  ·have hge2:¬ (j:Int)<M9:=by omega
   have HFU:Hid (inL (hl.take j) word=inL hl word):=by show _=_;rw[List.take_of_length_le (by have:=HM9.out;omega)]
   rw[HFU.out]
   rw[HIN.out]
   go_wp2_with fail
   go_loopw [7] (fun i wr=>∃ k:Nat,k≤m∧i=.int .i64 k∧Hid (Below w.heap.size w wr∧zCD hl (zAD (ts.take k))=none)) (fun i _=>m - (intOf i).toNat)
   case atStart=>exact⟨0,Nat.zero_le _,rfl,⟨rfl,rfl,rfl,Nat.le_refl _,fun _ _=>rfl⟩,by simp[zAD,zCD]⟩
   case round=>
    obtain⟨k,hkv,rfl,HBr⟩:=hrel
    have c5r:wr.cell? ⟨b,5,none⟩=some (.slice ao m cap):=zA0 (i:=5) ((HBr.out.1.block b (zA2 HBK.out)).trans HBK.out) rfl
    rcases Nat.lt_or_ge k m with hkl | hkl
    ·have hkz:(k:Int)<(m:Int):=by omega
     obtain⟨t,ht⟩:∃ t,ts[k]?=some t:=⟨ts[k]'(by have:=HLN.out;omega),List.getElem?_eq_getElem _⟩
     obtain⟨x,hx,hnx⟩:=zGB HTS.out k t ht
     obtain⟨q,rfl,hcq⟩:=HQ.out wr HBr.out.1 k x hx
     obtain⟨xa,rfl⟩:=zI3 hnx
     have hcall:=HIH.out t (List.mem_of_getElem? ht) P wr (.pointer (some xa)) (.slice ho M9 hc) hl (hnx.moves fun c hc hlt=>⟨hc,HBr.out.1.block c hlt⟩) (HH.out.below HBr.out.1) (by rw[HM9.out];exact h9m)
     have HTK:Hid (zAD (ts.take (k+1))=zAD (ts.take k) ++ asks t):=zIX ht
     have HSP:Hid (zAD ts=zAD (ts.take (k+1)) ++ zAD (ts.drop (k+1))):=zHJ ts _
     clear hx ht
     go_wp2_with fail
     refine hcall.mono ?_
     rintro e w2 ⟨hb2,hm⟩
     have HB2:Hid (Below w.heap.size w w2):=HBr.out.1.trans (hb2.mono HBr.out.1.size)
     clear hcall hb2
     cases hms:zCD hl (asks t) with
     | none=>
      rw[hms] at hm
      have hm:e=.returned (.pointer none):=hm
      subst hm
      have HN1:Hid (zCD hl (zAD (ts.take (k+1)))=none):=by
       show _=_
       rw[HTK.out,zCC,HBr.out.2,hms]
       rfl
      clear hms
      go_wp2
      go_roundw
      case rel=>exact⟨k+1,hkl,by go_num,HB2.out,HN1.out⟩
      case measure=>simp[intOf];omega
     | some z=>
      rw[hms] at hm
      obtain⟨a,vs2,rfl,hnd⟩:=hm
      have HN1:Hid (zCD hl (zAD ts)=some z):=by
       show _=_
       rw[HSP.out,zCC,HTK.out,zCC,HBr.out.2,hms]
       rfl
      have HND:Hid _:=hnd
      clear hms hnd
      go_wp2
      go_ret
      refine⟨HB2.out,?_⟩
      rw[HN1.out]
      exact⟨a,vs2,rfl,HND.out⟩
    ·have hkz:¬ (k:Int)<(m:Int):=by omega
     have HKE:Hid (zCD hl (zAD ts)=none):=by
      show _=_
      have:=HBr.out.2
      rwa [List.take_of_length_le (by have:=HLN.out;omega)] at this
     go_wp2
     go_ret
     exact⟨HBr.out.1,by rw[HKE.out];rfl⟩
mutual
theorem zCA : ∀ t,Fit t→XCon t
 | .num _ _,_=>fun P w v hv hl hn hh h9=>by
  unfold zA9 at hn
  simpa[asks,zAD] using zBQ (ts:=[]) (by decide) hn zBX (fun t ht=>by cases ht) hh h9 (by simp)
 | .neg _ a,hf=>fun P w v hv hl hn hh h9=>by
  unfold Fit at hf
  unfold zA9 at hn
  obtain⟨va,hn,ha⟩:=hn
  have h1:=zCA a hf
  simpa[asks,zAD] using zBQ (ts:=[a]) (by decide) hn (zB2 ha zBX) (fun t ht=>by simp at ht;subst ht;exact h1) hh h9 (by simp)
 | .bin _ _ a b,hf=>fun P w v hv hl hn hh h9=>by
  unfold Fit at hf
  unfold zA9 at hn
  obtain⟨va,vb,hn,ha,hb⟩:=hn
  have h1:=zCA a hf.2.2.1
  have h2:=zCA b hf.2.2.2
  simpa[asks,zAD] using zBQ (ts:=[a,b]) (by have:=hf.1;simp[zC0] at this;omega) hn (zB2 ha (zB2 hb zBX)) (fun t ht=>by simp at ht;rcases ht with rfl | rfl;exact h1;exact h2) hh h9 (by simp)
 | .ite _ a b c,hf=>fun P w v hv hl hn hh h9=>by
  unfold Fit at hf
  unfold zA9 at hn
  obtain⟨va,vb,vc,hn,ha,hb,hc⟩:=hn
  have h1:=zCA a hf.1
  have h2:=zCA b hf.2.1
  have h3:=zCA c hf.2.2
  simpa[asks,zAD] using zBQ (ts:=[a,b,c]) (by decide) hn (zB2 ha (zB2 hb (zB2 hc zBX))) (fun t ht=>by simp at ht;rcases ht with rfl | rfl | rfl;exact h1;exact h2;exact h3) hh h9 (by simp)
 | .meas _ _ _ _,_=>fun P w v hv hl hn hh h9=>by
  unfold zA9 at hn
  simpa[asks,zAD] using zBQ (ts:=[]) (by decide) hn zBX (fun t ht=>by cases ht) hh h9 (by simp)
 | .probe p word ts,hf=>fun P w v hv hl hn hh h9=>by
  unfold Fit at hf
  unfold zA9 at hn
  obtain⟨vs,hn,hts⟩:=hn
  have h1:=zFW ts hf.2.2.2.2.2
  cases hin:inL hl word with
  | true=>
   have e:zCD hl (asks (.probe p word ts))=zCD hl (zAD ts):=by simp[zCD,asks,hin]
   rw[e]
   exact zHU hin hn hts h1 hh h9 (by rw[←zC2 hts];omega)
  | false=>
   have e:zCD hl (asks (.probe p word ts))=some (p,word):=by simp[zCD,asks,hin]
   rw[e]
   exact(zJ1 hin hn hh h9).mono fun e w' ⟨q1,a,q2,q3⟩=>⟨q1,a,vs,q2,q3⟩
theorem zFW : ∀ ts,zB8 ts→∀ t∈ts,XCon t
 | [],_=>fun t ht=>by cases ht
 | t0 :: ts,hf=>by
  unfold zB8 at hf
  have h1:=zCA t0 hf.1
  have h2:=zFW ts hf.2
  intro t ht
  rcases List.mem_cons.1 ht with h | h
  ·rw[h];exact h1
  ·exact h2 t h
end
end Go.Proofs.YtbokdbaagacnlaaGreatDoor
