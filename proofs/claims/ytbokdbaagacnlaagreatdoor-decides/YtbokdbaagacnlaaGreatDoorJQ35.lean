import Derived.Test.YtbokdbaagacnlaaGreatDoorJQ34
namespace Go.Proofs.YtbokdbaagacnlaaGreatDoor
open Go.RowKit Go.Lib
def tops (x:Int)(l:List Int):Int:=l.foldl max x
theorem zN7 (x y:Int)(l:List Int):tops x (l ++ [y])=max (tops x l) y:=by simp[tops,List.foldl_append]
theorem tops_in {x:Int}(hx:In64 x):∀ l:List Int,(∀ y∈l,In64 y)→In64 (tops x l):=by
 intro l
 induction l generalizing x with
 | nil=>intro _;exact hx
 | cons y l ih=>
  intro h
  have hy:=h y (by simp)
  have:In64 (max x y):=by unfold In64 at *;omega
  exact ih this (fun z hz=>h z (by simp[hz]))
def zB3 (nm:ByteArray)(xs:List Int):Int × Int:=
 if nm.toList=[109,97,120] then(match xs with | []=>(5,10) | x :: _=>(tops x xs,0))
 else if nm.toList=[116,119,105,99,101] then(match xs with | [x]=>(clip (x+x),0) | _=>(5,10))
 else if nm.toList=[98,111,111,109] then(xs.length,11)
 else(7,0)
set_option maxRecDepth 1000000 in
set_option maxHeartbeats 1000000 in
theorem zPB (nm:ByteArray){xs:List Int}{v:Value}{N:Nat}{w:World}(hx:∀ x∈xs,In64 x)(hl:xs.length≤900)(ho:w.ownsRow N 2 1 v xs.length (ints xs)):
  Calls Tryz.prog 115 #[.string nm,v] w fun e w'=>e=.returned (.tuple #[.int .i64 (zB3 nm xs).1,.int .i64 (zB3 nm xs).2])∧w'=w:=by
 obtain⟨ao,cp,rfl⟩:=zAI ho
 have HO:Hid (w.ownsRow N 2 1 (.slice ao xs.length cp) xs.length (ints xs)):=ho
 have HX:Hid _:=hx
 clear ho hx
 have at0:∀ (i:Nat) (x:Int),xs[i]?=some x→∃ g,ao=some ⟨g,0,none⟩∧w.cell? ⟨g,i,none⟩=some (.int .i64 x):=fun i x hi=>by
  obtain⟨g,e,c⟩:=zHZ HO.out (show (ints xs)[i]?=some (.int .i64 x) by simp[ints,hi])
  exact⟨g,e,c⟩
 by_cases h1:nm.toList=[109,97,120]
 ·have e1:(nm.toList == [109,97,120])=true:=by rw[h1];rfl
  cases hxs:xs with
  | nil=>
   have HR:Hid (zB3 nm []=(5,10)):=by show zB3 nm []=_;unfold zB3;rw[if_pos h1]
   subst hxs
   clear at0
   go_enter Tryz.func115,Tryz.ntmps115
   go_wp2
   go_ret2
   exact⟨by rw[HR.out];rfl,rfl⟩
  | cons x l=>
   have HR:Hid (zB3 nm xs=(tops x xs,0)):=by show zB3 nm xs=_;unfold zB3;rw[if_pos h1,hxs]
   obtain⟨g,rfl,c0⟩:=at0 0 x (by rw[hxs];rfl)
   have hpos:¬ ((xs.length:Int)=0):=by rw[hxs];simp only[List.length_cons];omega
   have hpos2:(0:Int)<xs.length:=by rw[hxs];simp only[List.length_cons];omega
   have HXS:Hid _:=hxs
   rw[←hxs]
   generalize hn:xs.length=n at *
   have HN:Hid _:=hn
   have HAT:Hid _:=at0
   clear hxs hn at0
   go_enter Tryz.func115,Tryz.ntmps115
   go_wp2_with fail
   go_loopw [6,21] (fun v6 v21 wr=>∃ i:Nat,v21=.int .i64 i∧i≤n∧v6=.int .i64 (tops x (xs.take i))∧Hid (wr=w)) (fun _ v21 _=>n - (intOf v21).toNat)
   case atStart=>exact⟨0,rfl,Nat.zero_le _,by simp[tops],rfl⟩
   case round=>
    obtain⟨i,rfl,hi,rfl,HW⟩:=hrel
    have hw:=HW.out
    subst hw
    rcases Nat.lt_or_ge i n with h8 | h8
    ·have h9:(i:Int)<n:=by omega
     obtain⟨y,hy⟩:∃ y,xs[i]?=some y:=⟨xs[i]'(by have:=HN.out;omega),List.getElem?_eq_getElem _⟩
     obtain⟨g2,eg,ci⟩:=HAT.out i y hy
     injection eg with eg
     injection eg with eg
     subst eg
     have HT:Hid (tops x (xs.take (i+1))=max (tops x (xs.take i)) y):=by
      show tops x (xs.take (i+1))=_
      rw[List.take_add_one,hy]
      exact zN7 _ _ _
     clear hy
     generalize tops x (xs.take i)=X at *
     go_wp2
     go_roundw
     case rel=>exact⟨i+1,by go_num,by omega,by rw[HT.out],trivial⟩
     case measure=>simp[intOf];omega
    ·have h9:¬ (i:Int)<n:=by omega
     have HT:Hid (tops x (xs.take i)=tops x xs):=by
      show tops x (xs.take i)=_
      rw[List.take_of_length_le (by have:=HN.out;omega)]
     generalize tops x (xs.take i)=X at *
     go_wp2
     go_ret2
     exact⟨by rw[HR.out,←HT.out];rfl,rfl⟩
 ·have e1:(nm.toList == [109,97,120])=false:=by simpa using h1
  by_cases h2:nm.toList=[116,119,105,99,101]
  ·have e2:(nm.toList == [116,119,105,99,101])=true:=by rw[h2];rfl
   by_cases hone:xs.length=1
   ·obtain⟨x,rfl⟩:∃ x,xs=[x]:=by
     match xs,hone with
     | [x],_=>exact⟨x,rfl⟩
    have HR:Hid (zB3 nm [x]=(clip (x+x),0)):=by show zB3 nm [x]=_;unfold zB3;rw[if_neg h1,if_pos h2]
    obtain⟨g,rfl,c0⟩:=at0 0 x rfl
    have hx:=HX.out x (by simp)
    have hx1:=hx.1
    have hx2:=hx.2
    clear at0 hx
    have hln:([x]:List Int).length=1:=rfl
    rw[hln]
    by_cases u1:4611686018427387903<x
    ·have HC:Hid (clip (x+x)=9223372036854775807):=zON (by omega)
     go_enter Tryz.func115,Tryz.ntmps115
     go_wp2
     go_ret2
     exact⟨by rw[HR.out,HC.out];rfl,rfl⟩
    ·by_cases u2:x < -4611686018427387904
     ·have HC:Hid (clip (x+x) = -9223372036854775808):=by
       show clip (x+x)=_
       rcases Int.lt_or_le (x+x) (-9223372036854775808) with h | h
       ·exact zQU h
       ·omega
      go_enter Tryz.func115,Tryz.ntmps115
      go_wp2
      go_ret2
      exact⟨by rw[HR.out,HC.out];rfl,rfl⟩
     ·have HC:Hid (clip (x+x)=2 * x):=by
       show clip (x+x)=_
       rw[zQ4 (by unfold In64;omega)]
       omega
      have w2:wrap64 (2 * x)=2 * x:=zC6 (by unfold In64;omega)
      go_enter Tryz.func115,Tryz.ntmps115
      go_wp2
      go_ret2
      exact⟨by rw[HR.out,HC.out];rfl,rfl⟩
   ·have HR:Hid (zB3 nm xs=(5,10)):=by
     show zB3 nm xs=_
     unfold zB3
     rw[if_neg h1,if_pos h2]
     match xs,hone with
     | [],_=>rfl
     | [x],h=>exact absurd rfl h
     | _ :: _ :: _,_=>rfl
    have hone2:((xs.length:Int) != 1)=true:=by simp;omega
    generalize xs.length=n at *
    clear at0
    go_enter Tryz.func115,Tryz.ntmps115
    go_wp2
    go_ret2
    exact⟨by rw[HR.out];rfl,rfl⟩
  ·have e2:(nm.toList == [116,119,105,99,101])=false:=by simpa using h2
   by_cases h3:nm.toList=[98,111,111,109]
   ·have e3:(nm.toList == [98,111,111,109])=true:=by rw[h3];rfl
    have HR:Hid (zB3 nm xs=((xs.length:Int),11)):=by show zB3 nm xs=_;unfold zB3;rw[if_neg h1,if_neg h2,if_pos h3]
    generalize xs.length=n at *
    clear at0
    go_enter Tryz.func115,Tryz.ntmps115
    go_wp2
    go_ret2
    exact⟨by rw[HR.out];rfl,rfl⟩
   ·have e3:(nm.toList == [98,111,111,109])=false:=by simpa using h3
    have HR:Hid (zB3 nm xs=(7,0)):=by show zB3 nm xs=_;unfold zB3;rw[if_neg h1,if_neg h2,if_neg h3]
    clear at0
    go_enter Tryz.func115,Tryz.ntmps115
    go_wp2
    go_ret2
    exact⟨by rw[HR.out];rfl,rfl⟩
/-! What a value or a reason is told as,part by part. -/
def resN : Res→Int
 | .val n=>n
 | .held _ _=>0
def resE : Res→Int
 | .val _=>0
 | .held _ .divide=>8
 | .held _ .noData=>9
 | .held _ .failed=>10
 | .held _ (.panic _)=>11
def resP : Res→Int
 | .val _=>0
 | .held p _=>(p:Int)
def resM : Res→Int
 | .held _ (.panic n)=>n
 | _=>0
def toldV (r:Res):Value:=.agg #[.int .i64 (resE r),.int .i64 (resP r),.int .i64 (resM r),.string { data:=#[] }]
def ErrIs (w:World)(r:Res)(iv:Value):Prop:=
 ((∃ n,r=.val n∧iv=.nilIface)∨(∃ p y T x,r=.held p y∧iv=.iface T x))∧∀ w',Below w.heap.size w w'→Calls Tryz.prog 35 #[iv] w' fun e w2=>e=.returned (toldV r)∧Below w'.heap.size w' w2
theorem EvR.told {σ:Type}{A:Nat→Addr}{S:σ→World→Prop}{r:Res}{s:σ}{w:World}{e:Ending}(h:EvR A S (r,s) w e)(hs:SentsX A w):∃ iv,e=.returned (.tuple #[.int .i64 (resN r),iv])∧ErrIs w r iv∧S s w:=by
 cases r with
 | val n=>exact⟨.nilIface,h.1,⟨.inl ⟨n,rfl,rfl⟩,fun w' _=>of_nil4 w'⟩,h.2.2⟩
 | held p y=>
  obtain⟨b,T,x,h1,h2,h3,h4⟩:=h
  refine⟨_,h1,⟨.inr ⟨p,y,_,_,rfl,rfl⟩,fun w' hb=>?_⟩,h4⟩
  have:=of_hold (hs.below hb) (((hb.block b (zA2 h2)).trans h2:zGN w' b p T x)) (h3.below hb)
  refine this.mono ?_
  rintro e w2 ⟨rfl,hb2⟩
  refine⟨?_,hb2⟩
  cases y <;> rfl
def valV (r:Res):Value:=.agg #[.int .i64 (resN r),.int .i64 (resE r),.int .i64 (resP r),.int .i64 (resM r)]
def zDS (p:Nat)(x:Int × Int):Res:=if x.2=0 then .val x.1 else if x.2=11 then .held p (.panic x.1) else if x.2=9 then .held p .noData else .held p .failed
def zF1 (x:Int × Int):Found:=if x.2=0 then .num x.1 else if x.2=11 then .pan x.1 else .nothing x.1
def zEX (x:Int × Int):PFound:=if x.2=0 then .val x.1 else if x.2=11 then .pan x.1 else .fail
theorem zPI {σ:Type}{p:Nat}{x:Int × Int}{s:σ}(h:x.2=0∨x.2=9∨x.2=11):zE0 p (zF1 x,s)=(zDS p x,s):=by
 unfold zF1 zDS
 rcases h with h | h | h <;> simp[h,zE0]
theorem probed_of {σ:Type}{p:Nat}{x:Int × Int}{s:σ}(h:x.2=0∨x.2=10∨x.2=11):zIF p (zEX x,s)=(zDS p x,s):=by
 unfold zEX zDS
 rcases h with h | h | h <;> simp[h,zIF]
theorem zMY (nm:ByteArray)(xs:List Int):(zB3 nm xs).2=0∨(zB3 nm xs).2=10∨(zB3 nm xs).2=11:=by
 unfold zB3
 repeat' split
 all_goals simp
theorem zQV (nm:ByteArray){xs:List Int}(hx:∀ x∈xs,In64 x)(hl:xs.length≤900):In64 (zB3 nm xs).1:=by
 unfold zB3
 split
 ·split
  ·unfold In64;simp
  ·rename_i x l
   exact tops_in (hx x (by simp)) _ hx
 ·split
  ·split
   ·exact zH1 _
   ·unfold In64;simp
  ·split
   ·unfold In64;simp only;omega
   ·unfold In64;simp
def NodeP (w:World)(b p:Nat):Prop:=w.cell? ⟨b,1,none⟩=some (.int .i64 (p:Int))
set_option maxRecDepth 1000000 in
theorem zM7 {b p:Nat}{x:Int × Int}{w:World}(hp:NodeP w b p)(hx:x.2=0∨x.2=9∨x.2=10∨x.2=11):
  Calls Tryz.prog 46 #[ptr b,.agg #[.int .i64 x.1,.int .i64 x.2]] w fun e w'=>e=.returned (valV (zDS p x))∧Below w.heap.size w w':=by
 obtain⟨n,y⟩:=x
 simp only at hx ⊢
 have c1:w.cell? ⟨b,1,none⟩=some (.int .i64 (p:Int)):=hp
 have lb:=World.block_lt_of_cell? w _ c1
 simp only at lb
 rcases hx with rfl | rfl | rfl | rfl
 ·go_enter Tryz.func46,Tryz.ntmps46
  go_wp2
  refine bodyPost_ret (v:=valV (.val n)) (by simp[valV,resN,resE,resP,resM,results,Tryz.results46,go_sem]) rfl ?_
  refine⟨rfl,?_⟩
  repeat (first | exact Below.refl _ _ | refine Below.setCell ?_ (by simp) _ | refine Below.alloc ?_ (by simp) _)
 ·go_enter Tryz.func46,Tryz.ntmps46
  go_wp2_with fail
  go_region
  all_goals go_wp2
  all_goals
   refine bodyPost_ret (v:=valV (.held p .noData)) (by simp[valV,resN,resE,resP,resM,results,Tryz.results46,go_sem]) rfl ?_
   refine⟨rfl,?_⟩
   repeat (first | exact Below.refl _ _ | refine Below.drew ?_ | refine Below.setCell ?_ (by simp) _ | refine Below.alloc ?_ (by simp) _)
 ·go_enter Tryz.func46,Tryz.ntmps46
  go_wp2_with fail
  go_region
  all_goals go_wp2
  all_goals
   refine bodyPost_ret (v:=valV (.held p .failed)) (by simp[valV,resN,resE,resP,resM,results,Tryz.results46,go_sem]) rfl ?_
   refine⟨rfl,?_⟩
   repeat (first | exact Below.refl _ _ | refine Below.drew ?_ | refine Below.setCell ?_ (by simp) _ | refine Below.alloc ?_ (by simp) _)
 ·go_enter Tryz.func46,Tryz.ntmps46
  go_wp2_with fail
  go_region
  all_goals go_wp2
  all_goals
   refine bodyPost_ret (v:=valV (.held p (.panic n))) (by simp[valV,resN,resE,resP,resM,results,Tryz.results46,go_sem]) rfl ?_
   refine⟨rfl,?_⟩
   repeat (first | exact Below.refl _ _ | refine Below.drew ?_ | refine Below.setCell ?_ (by simp) _ | refine Below.alloc ?_ (by simp) _)
set_option maxRecDepth 1000000 in
set_option maxHeartbeats 1000000 in
theorem ref_Probed (nm:ByteArray){xs:List Int}{v:Value}{N:Nat}{w:World}(hx:∀ x∈xs,In64 x)(hl:xs.length≤900)(ho:w.ownsRow N 2 1 v xs.length (ints xs)):
  Calls Tryz.prog 47 #[.string nm,v] w fun e w'=>e=.returned (.agg #[.int .i64 (zB3 nm xs).1,.int .i64 (zB3 nm xs).2])∧Below w.heap.size w w':=by
 obtain⟨ao,cp,rfl⟩:=zAI ho
 have HO:Hid (w.ownsRow N 2 1 (.slice ao xs.length cp) xs.length (ints xs)):=ho
 have HX:Hid _:=hx
 clear ho hx
 have at0:∀ (i:Nat) (x:Int),xs[i]?=some x→∃ g,ao=some ⟨g,0,none⟩∧w.cell? ⟨g,i,none⟩=some (.int .i64 x):=fun i x hi=>by
  obtain⟨g,e,c⟩:=zHZ HO.out (show (ints xs)[i]?=some (.int .i64 x) by simp[ints,hi])
  exact⟨g,e,c⟩
 by_cases h1:nm.toList=[109,97,120]
 ·have e1:(nm.toList == [109,97,120])=true:=by rw[h1];rfl
  cases hxs:xs with
  | nil=>
   have HR:Hid (zB3 nm []=(5,10)):=by show zB3 nm []=_;unfold zB3;rw[if_pos h1]
   subst hxs
   clear at0
   go_enter Tryz.func47,Tryz.ntmps47
   go_wp2
   refine bodyPost_ret (v:=.agg #[.int .i64 5,.int .i64 10]) (by simp[results,Tryz.results47,go_sem]) rfl ?_
   refine⟨by rw[HR.out],?_⟩
   repeat (first | exact Below.refl _ _ | refine Below.drew ?_ | refine below_drewN ?_ _ | refine Below.setCell ?_ (by simp) _ | refine Below.alloc ?_ (by simp) _)
  | cons x l=>
   have HR:Hid (zB3 nm xs=(tops x xs,0)):=by show zB3 nm xs=_;unfold zB3;rw[if_pos h1,hxs]
   obtain⟨g,rfl,c0⟩:=at0 0 x (by rw[hxs];rfl)
   have lg:=World.block_lt_of_cell? w _ c0
   simp only at lg
   have hpos:¬ ((xs.length:Int)=0):=by rw[hxs];simp only[List.length_cons];omega
   have hpos2:(0:Int)<xs.length:=by rw[hxs];simp only[List.length_cons];omega
   have HXS:Hid _:=hxs
   rw[←hxs]
   generalize hn:xs.length=n at *
   have HN:Hid _:=hn
   have HAT:Hid _:=at0
   clear hxs hn at0
   go_enter Tryz.func47,Tryz.ntmps47
   go_wp2_with fail
   go_loopw [5,6] (fun v6 v21 wr=>∃ i:Nat,v21=.int .i64 i∧i≤n∧v6=.int .i64 (tops x (xs.take i))∧wr=w.alloc (.cells #[.int .i64 0,.int .i64 0] 128)) (fun _ v21 _=>n - (intOf v21).toNat)
   case atStart=>exact⟨0,rfl,Nat.zero_le _,by simp[tops],rfl⟩
   case round=>
    obtain⟨i,rfl,hi,rfl,rfl⟩:=hrel
    rcases Nat.lt_or_ge i n with h8 | h8
    ·have h9:(i:Int)<n:=by omega
     obtain⟨y,hy⟩:∃ y,xs[i]?=some y:=⟨xs[i]'(by have:=HN.out;omega),List.getElem?_eq_getElem _⟩
     obtain⟨g2,eg,ci⟩:=HAT.out i y hy
     injection eg with eg
     injection eg with eg
     subst eg
     have lg:=World.block_lt_of_cell? w _ ci
     simp only at lg
     have HT:Hid (tops x (xs.take (i+1))=max (tops x (xs.take i)) y):=by
      show tops x (xs.take (i+1))=_
      rw[List.take_add_one,hy]
      exact zN7 _ _ _
     clear hy
     generalize tops x (xs.take i)=X at *
     rcases Int.lt_or_le X y with h7 | h7
     ·go_wp2
      go_roundw
      case rel=>exact⟨i+1,by go_num,by omega,by rw[HT.out,Int.max_eq_right (by omega)],trivial⟩
      case measure=>simp[intOf];omega
     ·have h6:¬ X<y:=by omega
      go_wp2
      go_roundw
      case rel=>exact⟨i+1,by go_num,by omega,by rw[HT.out,Int.max_eq_left (by omega)],trivial⟩
      case measure=>simp[intOf];omega
    ·have h9:¬ (i:Int)<n:=by omega
     have HT:Hid (tops x (xs.take i)=tops x xs):=by
      show tops x (xs.take i)=_
      rw[List.take_of_length_le (by have:=HN.out;omega)]
     generalize tops x (xs.take i)=X at *
     go_wp2
     refine bodyPost_ret (v:=.agg #[.int .i64 X,.int .i64 0]) (by simp[results,Tryz.results47,go_sem]) rfl ?_
     refine⟨by rw[HR.out,←HT.out],?_⟩
     repeat (first | exact Below.refl _ _ | refine Below.drew ?_ | refine below_drewN ?_ _ | refine Below.setCell ?_ (by simp) _ | refine Below.alloc ?_ (by simp) _)
 ·have e1:(nm.toList == [109,97,120])=false:=by simpa using h1
  by_cases h2:nm.toList=[116,119,105,99,101]
  ·have e2:(nm.toList == [116,119,105,99,101])=true:=by rw[h2];rfl
   by_cases hone:xs.length=1
   ·obtain⟨x,rfl⟩:∃ x,xs=[x]:=by
     match xs,hone with
     | [x],_=>exact⟨x,rfl⟩
    have HR:Hid (zB3 nm [x]=(clip (x+x),0)):=by show zB3 nm [x]=_;unfold zB3;rw[if_neg h1,if_pos h2]
    obtain⟨g,rfl,c0⟩:=at0 0 x rfl
    have lg:=World.block_lt_of_cell? w _ c0
    simp only at lg
    have hx:=HX.out x (by simp)
    have HPL:Hid _:=hx
    clear at0 hx
    have hln:([x]:List Int).length=1:=rfl
    rw[hln]
    go_enter Tryz.func47,Tryz.ntmps47
    go_wp2_with fail
    go_quiet ((exact Calls.quiet_of_same (r_plus HPL.out HPL.out _)))
    go_wp2
    refine bodyPost_ret (v:=.agg #[.int .i64 (clip (x+x)),.int .i64 0]) (by simp[results,Tryz.results47,go_sem]) rfl ?_
    refine⟨by rw[HR.out],?_⟩
    repeat (first | exact Below.refl _ _ | refine Below.drew ?_ | refine below_drewN ?_ _ | refine Below.setCell ?_ (by simp) _ | refine Below.alloc ?_ (by simp) _)
   ·have HR:Hid (zB3 nm xs=(5,10)):=by
     show zB3 nm xs=_
     unfold zB3
     rw[if_neg h1,if_pos h2]
     match xs,hone with
     | [],_=>rfl
     | [x],h=>exact absurd rfl h
     | _ :: _ :: _,_=>rfl
    have hone2:((xs.length:Int) != 1)=true:=by simp;omega
    generalize xs.length=n at *
    clear at0
    go_enter Tryz.func47,Tryz.ntmps47
    go_wp2
    refine bodyPost_ret (v:=.agg #[.int .i64 5,.int .i64 10]) (by simp[results,Tryz.results47,go_sem]) rfl ?_
    refine⟨by rw[HR.out],?_⟩
    repeat (first | exact Below.refl _ _ | refine Below.drew ?_ | refine below_drewN ?_ _ | refine Below.setCell ?_ (by simp) _ | refine Below.alloc ?_ (by simp) _)
  ·have e2:(nm.toList == [116,119,105,99,101])=false:=by simpa using h2
   by_cases h3:nm.toList=[98,111,111,109]
   ·have e3:(nm.toList == [98,111,111,109])=true:=by rw[h3];rfl
    have HR:Hid (zB3 nm xs=((xs.length:Int),11)):=by show zB3 nm xs=_;unfold zB3;rw[if_neg h1,if_neg h2,if_pos h3]
    generalize xs.length=n at *
    clear at0
    go_enter Tryz.func47,Tryz.ntmps47
    go_wp2
    refine bodyPost_ret (v:=.agg #[.int .i64 n,.int .i64 11]) (by simp[results,Tryz.results47,go_sem]) rfl ?_
    refine⟨by rw[HR.out],?_⟩
    repeat (first | exact Below.refl _ _ | refine Below.drew ?_ | refine below_drewN ?_ _ | refine Below.setCell ?_ (by simp) _ | refine Below.alloc ?_ (by simp) _)
   ·have e3:(nm.toList == [98,111,111,109])=false:=by simpa using h3
    have HR:Hid (zB3 nm xs=(7,0)):=by show zB3 nm xs=_;unfold zB3;rw[if_neg h1,if_neg h2,if_neg h3]
    clear at0
    go_enter Tryz.func47,Tryz.ntmps47
    go_wp2
    refine bodyPost_ret (v:=.agg #[.int .i64 7,.int .i64 0]) (by simp[results,Tryz.results47,go_sem]) rfl ?_
    refine⟨by rw[HR.out],?_⟩
    repeat (first | exact Below.refl _ _ | refine Below.drew ?_ | refine below_drewN ?_ _ | refine Below.setCell ?_ (by simp) _ | refine Below.alloc ?_ (by simp) _)
def Row (w:World)(v:Value)(xs:List Int):Prop:=∃ g cp,v=.slice (some ⟨g,0,none⟩) xs.length cp∧∀ (i:Nat) (x:Int),xs[i]?=some x→w.cell? ⟨g,i,none⟩=some (.int .i64 x)
set_option maxRecDepth 1000000 in
theorem zKM {x:Int}{v:Value}{w:World}(hr:Row w v [x])(hx:In64 x):Calls Tryz.prog 48 #[.int .u8 126,v] w fun e w'=>e=.returned (.int .i64 (clip (-x)))∧∃ n,w'=w.drewN n:=by
 obtain⟨g,cp,rfl,hc⟩:=hr
 have c0:=hc 0 x rfl
 have hn:=zL4 hx w
 clear hc
 have hln:([x]:List Int).length=1:=rfl
 rw[hln]
 go_enter Tryz.func48,Tryz.ntmps48
 go_wp2_with fail
 refine hn.mono ?_
 rintro e w' ⟨rfl,hw⟩
 have hw:=hw.symm
 subst hw
 go_wp2
 go_ret
 exact⟨rfl,0,rfl⟩
set_option maxRecDepth 1000000 in
theorem zJT {x y:Int}{v:Value}{w:World}(hr:Row w v [x,y])(hx:In64 x)(hy:In64 y)(h0:y≠0):Calls Tryz.prog 48 #[.int .u8 47,v] w fun e w'=>e=.returned (.int .i64 (quot x y))∧∃ n,w'=w.drewN n:=by
 obtain⟨g,cp,rfl,hc⟩:=hr
 have c0:=hc 0 x rfl
 have c1:=hc 1 y rfl
 have HQ:Hid _:=And.intro hx hy
 clear hc
 have hln:([x,y]:List Int).length=2:=rfl
 rw[hln]
 go_enter Tryz.func48,Tryz.ntmps48
 go_wp2_with fail
 go_quiet ((exact Calls.quiet_of_same (r_over HQ.out.1 HQ.out.2 h0 _)))
 go_wp2
 go_ret
 exact⟨rfl,_,rfl⟩
set_option maxRecDepth 1000000 in
set_option maxHeartbeats 1000000 in
theorem ref_reckon {k:Nat}{x y:Int}{v:Value}{w:World}(hk:k=43∨k=45∨k=42∨k=60∨k=62∨k=61)(hr:Row w v [x,y])(hx:In64 x)(hy:In64 y):Calls Tryz.prog 48 #[.int .u8 k,v] w fun e w'=>e=.returned (.int .i64 (reck k x y))∧∃ n,w'=w.drewN n:=by
 obtain⟨g,cp,rfl,hc⟩:=hr
 have c0:=hc 0 x rfl
 have c1:=hc 1 y rfl
 clear hc
 have hln:([x,y]:List Int).length=2:=rfl
 rw[hln]
 rcases hk with rfl | rfl | rfl | rfl | rfl | rfl
 ·have HQ:Hid _:=And.intro hx hy
  go_enter Tryz.func48,Tryz.ntmps48
  go_wp2_with fail
  go_quiet ((exact Calls.quiet_of_same (r_plus HQ.out.1 HQ.out.2 _)))
  go_wp2
  go_ret
  exact⟨rfl,_,rfl⟩
 ·have HQ:Hid _:=And.intro hx hy
  go_enter Tryz.func48,Tryz.ntmps48
  go_wp2_with fail
  go_quiet ((exact Calls.quiet_of_same (r_less HQ.out.1 HQ.out.2 _)))
  go_wp2
  go_ret
  exact⟨rfl,_,rfl⟩
 ·have HQ:Hid _:=And.intro hx hy
  go_enter Tryz.func48,Tryz.ntmps48
  go_wp2_with fail
  go_quiet ((exact Calls.quiet_of_same (r_times HQ.out.1 HQ.out.2 _)))
  go_wp2
  go_ret
  exact⟨rfl,_,rfl⟩
 ·by_cases h:x<y
  ·have HR:Hid (reck 60 x y=1):=by show reck 60 x y=_;unfold reck;simp[h]
   go_enter Tryz.func48,Tryz.ntmps48
   go_wp2_with fail
   go_quiet (fail)
   go_wp2
   go_ret
   exact⟨by rw[HR.out];rfl,_,rfl⟩
  ·have HR:Hid (reck 60 x y=0):=by show reck 60 x y=_;unfold reck;simp[h]
   go_enter Tryz.func48,Tryz.ntmps48
   go_wp2_with fail
   go_quiet (fail)
   go_wp2
   go_ret
   exact⟨by rw[HR.out];rfl,_,rfl⟩
 ·by_cases h:y<x
  ·have HR:Hid (reck 62 x y=1):=by show reck 62 x y=_;unfold reck;simp[h]
   go_enter Tryz.func48,Tryz.ntmps48
   go_wp2_with fail
   go_quiet (fail)
   go_wp2
   go_ret
   exact⟨by rw[HR.out];rfl,_,rfl⟩
  ·have HR:Hid (reck 62 x y=0):=by show reck 62 x y=_;unfold reck;simp[h]
   go_enter Tryz.func48,Tryz.ntmps48
   go_wp2_with fail
   go_quiet (fail)
   go_wp2
   go_ret
   exact⟨by rw[HR.out];rfl,_,rfl⟩
 ·by_cases h:x=y
  ·have HR:Hid (reck 61 x y=1):=by show reck 61 x y=_;unfold reck;simp[h]
   have hb:(x == y)=true:=by simpa using h
   go_enter Tryz.func48,Tryz.ntmps48
   go_wp2_with fail
   go_quiet (fail)
   go_wp2
   go_ret
   exact⟨by rw[HR.out];rfl,_,rfl⟩
  ·have HR:Hid (reck 61 x y=0):=by show reck 61 x y=_;unfold reck;simp[h]
   have hb:(x == y)=false:=by simpa using h
   go_enter Tryz.func48,Tryz.ntmps48
   go_wp2_with fail
   go_quiet (fail)
   go_wp2
   go_ret
   exact⟨by rw[HR.out];rfl,_,rfl⟩
theorem zEJ (w:World)(cs:Array Value){T:TypeId}{n:Nat}(h:n=w.heap.size):(w.alloc (.cells cs T)).heap[n]?=some (.cells cs T (0,0)):=by subst h;exact block_new w cs T
abbrev zCE (w:World)(R:Nat)(cv:Value)(seed T:Int)(tr:ByteArray):Prop:=w.heap[R]?=some (.cells #[cv,.int .i64 seed,.int .i64 T,.string tr] 82 (0,0))
def zDX (tr kind metric:ByteArray):ByteArray:=tr ++ kind ++ ⟨#[32]⟩ ++ metric ++ ⟨#[59]⟩
def zEC (tr nm:ByteArray):ByteArray:=tr ++ nm ++ ⟨#[59]⟩
theorem zJH (tr kind metric:ByteArray):(zDX tr kind metric).size=tr.size+kind.size+1+metric.size+1:=by
 unfold zDX
 rw[ByteArray.size_append,ByteArray.size_append,ByteArray.size_append,ByteArray.size_append]
 rfl
theorem zN6 (tr nm:ByteArray):(zEC tr nm).size=tr.size+nm.size+1:=by
 unfold zEC
 rw[ByteArray.size_append,ByteArray.size_append]
 rfl
abbrev WorldP (w:World)(R:Nat)(seed:Int)(tr:ByteArray)(av:Value)(ins:Bool):Prop:=w.heap[R]?=some (.cells #[.int .i64 seed,.string tr,av,.bool ins] 266 (0,0))
def ProbeE (r:PFound)(e:Ending):Prop:=
 match r with
 | .val n=>e=.returned (.tuple #[.int .i64 n,.nilIface])
 | .fail=>∃ n c,e=.returned (.tuple #[.int .i64 n,.iface 200 (ptr c)])
 | .pan n=>e=.panicked [{ v:=.iface 2 (.int .i64 n),recovered:=false }]
structure Spoil (X:Nat→Prop) (n:Nat) (ao:Option Addr) (w wr:World):Prop where
 keep:KeepX X w wr
 row:n=0∨∃ g cur,ao=some ⟨g,0,none⟩∧X g∧wr.heap[g]?=some (.cells cur 2 (0,0))∧n≤cur.size
theorem Spoil.set {X:Nat→Prop}{n:Nat}{g:Nat}{w wr:World}(h:Spoil X n (some ⟨g,0,none⟩) w wr)(hX:X g)(i:Nat)(v:Value):Spoil X n (some ⟨g,0,none⟩) w (wr.setCell ⟨g,i,none⟩ v):=by
 refine⟨⟨h.keep.os,h.keep.tape,h.keep.output,by simp;exact h.keep.size,fun k lt nx=>(Below.heap_setCell _ _ _ k (fun e=>nx (by rw[e];exact hX))).trans (h.keep.block k lt nx)⟩,?_⟩
 rcases h.row with h | ⟨g2,cur,e,-,h1,h2⟩
 ·exact .inl h
 ·injection e with e
  injection e with e
  subst e
  exact .inr ⟨g,_,rfl,hX,zA4 h1,by simpa using h2⟩
theorem zP1 {N n:Nat}{ao:Option Addr}{cp:Nat}{w:World}{xs:List Value}(ho:w.ownsRow N 2 1 (.slice ao n cp) n xs):Spoil (fun k=>(Value.slice ao n cp).ownBlock=some k) n ao w w:=by
 refine⟨KeepX.of_below (Below.refl _ _),?_⟩
 rcases ho.2 with⟨-,h⟩ | ⟨g,cap,cur,h1,-,h3,h4,-,h6,-⟩
 ·exact .inl h
 ·injection h1 with h1 h2 h3'
  subst h1
  exact .inr ⟨g,cur,rfl,rfl,h3,by omega⟩
theorem KeepX.below {X:Nat→Prop}{w w1 w2:World}(h:KeepX X w w1)(hb:Below w1.heap.size w1 w2):KeepX X w w2:=h.trans (.of_below hb)
end Go.Proofs.YtbokdbaagacnlaaGreatDoor
