import Derived.Test.YtbokdbaagacnlaaGreatDoorJQ26
namespace Go.Proofs.YtbokdbaagacnlaaGreatDoor
open Go.RowKit Go.Lib
set_option maxRecDepth 1000000 in
theorem sum_any (a v:Int)(w:World):Calls Tryz.prog 182 #[.int .i64 a,.int .i64 v] w fun e w'=>∃ r,e=.returned (.int .i64 r)∧w'=w∧(In64 a→In64 v→r=clip (a+v)):=by
 by_cases h:In64 a∧In64 v
 ·exact(b_Sum h.1 h.2 w).mono fun e w' ⟨h1,h2⟩=>⟨_,h1,h2,fun _ _=>rfl⟩
 ·have HN:Hid _:=h
  clear h
  go_enter Tryz.func182,Tryz.ntmps182
  go_wp2
  all_goals
   go_ret
   exact⟨_,rfl,rfl,fun h1 h2=>absurd ⟨h1,h2⟩ HN.out⟩
set_option maxRecDepth 1000000 in
theorem newest_any (a v:Int)(w:World):Calls Tryz.prog 194 #[.int .i64 a,.int .i64 v] w fun e w'=>∃ r,e=.returned (.int .i64 r)∧w'=w∧(In64 a→In64 v→r=v):=by
 go_enter Tryz.func194,Tryz.ntmps194
 go_wp2
 go_ret
 exact⟨_,rfl,rfl,fun _ _=>rfl⟩
def zCY (k:List (Int × Int)):Int:=(k.map (·.2)).foldl (fun a v=>clip (a+v)) 0
def zFJ (k:List (Int × Int)):Int:=(k.map (·.2)).foldl (fun _ v=>v) 0
set_option maxRecDepth 1000000 in
theorem code_total {w:World}{R:Nat}{wid tm:Int}{k:List (Int × Int)}{mv:Value}(h:Win.WinI w R wid tm k mv)(hl:k.length≤16)(hk:∀ x∈k,In64 x.2):
  Calls Tryz.prog 142 #[ptr R] w fun e w'=>e=.returned (.int .i64 (zCY k))∧Below w.heap.size w w':=by
 have hf:=Win.foldA (sf:=182) (enters_of Tryz.func182 (by kernel_rfl) rfl) (gf:=fun a v=>clip (a+v)) sum_any (fun a v _ _=>zH1 _) h hl hk (a0:=0) (by unfold In64;omega)
 clear h
 go_enter Tryz.func142,Tryz.ntmps142
 go_wp2_with fail
 refine hf.mono ?_
 rintro e w2 ⟨rfl,hb⟩
 have HB:Hid _:=hb
 clear hf hb
 go_wp2
 go_ret
 exact⟨rfl,HB.out⟩
set_option maxRecDepth 1000000 in
theorem zPX {w:World}{R:Nat}{wid tm:Int}{k:List (Int × Int)}{mv:Value}(h:Win.WinI w R wid tm k mv)(hl:k.length≤16)(hk:∀ x∈k,In64 x.2):
  Calls Tryz.prog 146 #[ptr R] w fun e w'=>e=.returned (.int .i64 (zFJ k))∧Below w.heap.size w w':=by
 have hf:=Win.foldA (sf:=194) (enters_of Tryz.func194 (by kernel_rfl) rfl) (gf:=fun _ v=>v) newest_any (fun a v _ h=>h) h hl hk (a0:=0) (by unfold In64;omega)
 clear h
 go_enter Tryz.func146,Tryz.ntmps146
 go_wp2_with fail
 refine hf.mono ?_
 rintro e w2 ⟨rfl,hb⟩
 have HB:Hid _:=hb
 clear hf hb
 go_wp2
 go_ret
 exact⟨rfl,HB.out⟩
def zI4 (o:Option Int):Int × Bool:=match o with | none=>(0,false) | some a=>(a,true)
theorem fore_end (o:Option Int):Win.foreEndI o=.returned (.tuple #[.int .i64 (zI4 o).1,.bool (zI4 o).2]):=by
 cases o <;> rfl
def zBJ (kind:ByteArray)(k:List (Int × Int)):Int × Bool:=
 if kind.toList=[99,111,117,110,116] then((k.length:Int),true)
 else if kind.toList=[115,117,109] then(zCY k,true)
 else if kind.toList=[108,101,97,115,116] then zI4 (Win.foremost Win.lessI (k.map (·.2)))
 else if kind.toList=[109,111,115,116] then zI4 (Win.foremost (fun a b=>Win.lessI b a) (k.map (·.2)))
 else if kind.toList=[109,101,97,110] then(if k.length=0 then(0,false) else(quot (zCY k) k.length,true))
 else if kind.toList=[108,97,115,116] then(zFJ k,decide (0<k.length))
 else(0,false)
theorem zLW (k:List (Int × Int)):In64 (zCY k):=by
 unfold zCY
 generalize k.map (·.2)=l
 have:∀ (l:List Int) (a:Int),In64 a→In64 (l.foldl (fun a v=>clip (a+v)) a):=by
  intro l
  induction l with
  | nil=>intro a h;exact h
  | cons x l ih=>intro a _;exact ih _ (zH1 _)
 exact this l 0 (by unfold In64;omega)
set_option maxRecDepth 1000000 in
set_option maxHeartbeats 2000000 in
theorem zMU (kind:ByteArray){w:World}{R:Nat}{wid tm:Int}{k:List (Int × Int)}{mv:Value}(h:Win.WinI w R wid tm k mv)(hl:k.length≤16)(hk:∀ x∈k,In64 x.2):
  Calls Tryz.prog 100 #[.string kind,ptr R] w fun e w'=>e=.returned (.tuple #[.int .i64 (zBJ kind k).1,.bool (zBJ kind k).2])∧Below w.heap.size w w':=by
 have hlen:=Win.lenI h
 have ht:=code_total h hl hk
 have hn:=zPX h hl hk
 have h1:=Win.leastI h
 have h2:=Win.mostI h
 rw[fore_end] at h1 h2
 have hti:=zLW k
 clear h hk
 by_cases e0:kind.toList=[99,111,117,110,116]
 ·have b0:(kind.toList == [99,111,117,110,116])=true:=by rw[e0];rfl
  have HM:Hid (zBJ kind k=((k.length:Int),true)):=by show zBJ kind k=_;unfold zBJ;rw[if_pos e0]
  clear ht hn h1 h2
  go_enter Tryz.func100,Tryz.ntmps100
  go_wp2_with fail
  refine hlen.mono ?_
  rintro e w0 ⟨rfl,hw0⟩
  have hw0:=hw0.symm
  subst hw0
  go_wp2
  go_ret2
  exact⟨by rw[HM.out];rfl,Below.refl _ _⟩
 have b0:(kind.toList == [99,111,117,110,116])=false:=by simpa using e0
 by_cases e1:kind.toList=[115,117,109]
 ·have b1:(kind.toList == [115,117,109])=true:=by rw[e1];rfl
  have HM:Hid (zBJ kind k=(zCY k,true)):=by show zBJ kind k=_;unfold zBJ;rw[if_neg e0,if_pos e1]
  clear hn h1 h2
  generalize zCY k=S at *
  go_enter Tryz.func100,Tryz.ntmps100
  go_wp2_with fail
  refine hlen.mono ?_
  rintro e w0 ⟨rfl,hw0⟩
  have hw0:=hw0.symm
  subst hw0
  go_wp2_with fail
  refine ht.mono ?_
  rintro e w2 ⟨rfl,hb⟩
  have HB:Hid _:=hb
  clear hb ht
  go_wp2
  go_ret2
  exact⟨by rw[HM.out];rfl,HB.out⟩
 have b1:(kind.toList == [115,117,109])=false:=by simpa using e1
 by_cases e2:kind.toList=[108,101,97,115,116]
 ·have b2:(kind.toList == [108,101,97,115,116])=true:=by rw[e2];rfl
  have HM:Hid (zBJ kind k=zI4 (Win.foremost Win.lessI (k.map (·.2)))):=by show zBJ kind k=_;unfold zBJ;rw[if_neg e0,if_neg e1,if_pos e2]
  clear ht hn h2
  generalize zI4 (Win.foremost Win.lessI (k.map (·.2)))=L at *
  go_enter Tryz.func100,Tryz.ntmps100
  go_wp2_with fail
  refine hlen.mono ?_
  rintro e w0 ⟨rfl,hw0⟩
  have hw0:=hw0.symm
  subst hw0
  go_wp2_with fail
  refine h1.mono ?_
  rintro e w2 ⟨rfl,hb⟩
  have HB:Hid _:=hb
  clear hb h1
  go_wp2
  go_ret2
  exact⟨by rw[HM.out];rfl,HB.out⟩
 have b2:(kind.toList == [108,101,97,115,116])=false:=by simpa using e2
 by_cases e3:kind.toList=[109,111,115,116]
 ·have b3:(kind.toList == [109,111,115,116])=true:=by rw[e3];rfl
  have HM:Hid (zBJ kind k=zI4 (Win.foremost (fun a b=>Win.lessI b a) (k.map (·.2)))):=by show zBJ kind k=_;unfold zBJ;rw[if_neg e0,if_neg e1,if_neg e2,if_pos e3]
  clear ht hn h1
  generalize zI4 (Win.foremost (fun a b=>Win.lessI b a) (k.map (·.2)))=L at *
  go_enter Tryz.func100,Tryz.ntmps100
  go_wp2_with fail
  refine hlen.mono ?_
  rintro e w0 ⟨rfl,hw0⟩
  have hw0:=hw0.symm
  subst hw0
  go_wp2_with fail
  refine h2.mono ?_
  rintro e w2 ⟨rfl,hb⟩
  have HB:Hid _:=hb
  clear hb h2
  go_wp2
  go_ret2
  exact⟨by rw[HM.out];rfl,HB.out⟩
 have b3:(kind.toList == [109,111,115,116])=false:=by simpa using e3
 by_cases e4:kind.toList=[109,101,97,110]
 ·have b4:(kind.toList == [109,101,97,110])=true:=by rw[e4];rfl
  have HM:Hid (zBJ kind k=(if k.length=0 then(0,false) else(quot (zCY k) k.length,true))):=by show zBJ kind k=_;unfold zBJ;rw[if_neg e0,if_neg e1,if_neg e2,if_neg e3,if_pos e4]
  clear hn h1 h2
  by_cases h0:k.length=0
  ·rw[if_pos h0] at HM
   have h0':¬ (0:Int)<k.length:=by omega
   rw[h0] at hlen h0'
   clear ht
   go_enter Tryz.func100,Tryz.ntmps100
   go_wp2_with fail
   refine hlen.mono ?_
   rintro e w0 ⟨rfl,hw0⟩
   have hw0:=hw0.symm
   subst hw0
   go_wp2
   go_ret2
   exact⟨by rw[HM.out];rfl,Below.refl _ _⟩
  ·rw[if_neg h0] at HM
   have h0':(0:Int)<k.length:=by omega
   have hq:=fun w=>zLQ hti (show In64 (k.length:Int) by unfold In64;omega) (by omega) w
   generalize zCY k=S at *
   generalize k.length=n at *
   go_enter Tryz.func100,Tryz.ntmps100
   go_wp2_with fail
   refine hlen.mono ?_
   rintro e w0 ⟨rfl,hw0⟩
   have hw0:=hw0.symm
   subst hw0
   go_wp2_with fail
   refine ht.mono ?_
   rintro e w2 ⟨rfl,hb⟩
   have HB:Hid _:=hb
   clear hb ht
   go_wp2_with fail
   refine(hq _).mono ?_
   rintro e w3 ⟨rfl,hw3⟩
   have hw3:=hw3.symm
   subst hw3
   go_wp2
   go_ret2
   exact⟨by rw[HM.out];rfl,HB.out⟩
 have b4:(kind.toList == [109,101,97,110])=false:=by simpa using e4
 by_cases e5:kind.toList=[108,97,115,116]
 ·have b5:(kind.toList == [108,97,115,116])=true:=by rw[e5];rfl
  have HM:Hid (zBJ kind k=(zFJ k,decide (0<k.length))):=by show zBJ kind k=_;unfold zBJ;rw[if_neg e0,if_neg e1,if_neg e2,if_neg e3,if_neg e4,if_pos e5]
  clear ht h1 h2
  by_cases h0:0<k.length
  ·have h0':(0:Int)<k.length:=by omega
   rw[decide_eq_true h0] at HM
   generalize zFJ k=S at *
   generalize k.length=n at *
   go_enter Tryz.func100,Tryz.ntmps100
   go_wp2_with fail
   refine hlen.mono ?_
   rintro e w0 ⟨rfl,hw0⟩
   have hw0:=hw0.symm
   subst hw0
   go_wp2_with fail
   refine hn.mono ?_
   rintro e w2 ⟨rfl,hb⟩
   have HB:Hid _:=hb
   clear hb hn
   go_wp2
   go_ret2
   exact⟨by rw[HM.out];rfl,HB.out⟩
  ·have h0':¬ (0:Int)<k.length:=by omega
   rw[decide_eq_false h0] at HM
   generalize zFJ k=S at *
   generalize k.length=n at *
   go_enter Tryz.func100,Tryz.ntmps100
   go_wp2_with fail
   refine hlen.mono ?_
   rintro e w0 ⟨rfl,hw0⟩
   have hw0:=hw0.symm
   subst hw0
   go_wp2_with fail
   refine hn.mono ?_
   rintro e w2 ⟨rfl,hb⟩
   have HB:Hid _:=hb
   clear hb hn
   go_wp2
   go_ret2
   exact⟨by rw[HM.out];rfl,HB.out⟩
 have b5:(kind.toList == [108,97,115,116])=false:=by simpa using e5
 have HM:Hid (zBJ kind k=(0,false)):=by show zBJ kind k=_;unfold zBJ;rw[if_neg e0,if_neg e1,if_neg e2,if_neg e3,if_neg e4,if_neg e5]
 clear ht hn h1 h2
 go_enter Tryz.func100,Tryz.ntmps100
 go_wp2_with fail
 refine hlen.mono ?_
 rintro e w0 ⟨rfl,hw0⟩
 have hw0:=hw0.symm
 subst hw0
 go_wp2
 go_ret2
 exact⟨by rw[HM.out];rfl,Below.refl _ _⟩
section
variable {σ:Type}
structure Fuel (N:Nat) (SF:Nat→σ→World→Prop):Prop where
 base:∀ k s w,SF k s w→N≤w.heap.size
 same:∀ k s w w',SF k s w→Below N w w'→SF k s w'
 less:∀ k s w,SF (k+1) s w→SF k s w
theorem Fuel.lessBy {N:Nat}{SF:Nat→σ→World→Prop}(h:Fuel N SF):∀ (a k:Nat) (s:σ) (w:World),SF (k+a) s w→SF k s w
 | 0,_,_,_,q=>q
 | a+1,k,s,w,q=>h.lessBy a k s w (h.less _ _ _ q)
theorem Fuel.stable {N:Nat}{SF:Nat→σ→World→Prop}(h:Fuel N SF)(k:Nat):Stable (SF k):=fun s w w' hs hb=>h.same k s w w' hs (hb.mono (h.base k s w hs))
def RunsF (A:Nat→Addr)(SF:Nat→σ→World→Prop)(a:Nat)(R:Nat)(lv mv:Value)(v:Value)(m:σ→Res × σ)(w0:World):Prop:=
 ∃ f caps,v=.func (.func f) #[] caps∧(∀ (args:Array Value) (w:World),(callFunc f (args ++ caps)).run Tryz.prog w=.ok (.enter f (args ++ caps)) w) ∧
  ∀ k s w,Keep R w0 w→SF (k+a) s w→Calls Tryz.prog f (#[.agg #[lv,mv]] ++ caps) w fun e w'=>Keep R w w'∧EvR A (SF k) (m s) w' e
theorem RunsF.more {N a b:Nat}{A:Nat→Addr}{SF:Nat→σ→World→Prop}{R:Nat}{lv mv v:Value}{m:σ→Res × σ}{w0:World}(hS:Fuel N SF)(h:RunsF A SF a R lv mv v m w0)(hab:a≤b):RunsF A SF b R lv mv v m w0:=by
 obtain⟨f,caps,h1,h2,h3⟩:=h
 exact⟨f,caps,h1,h2,fun k s w kp hs=>h3 k s w kp (hS.lessBy (b - a) _ _ _ (by rw[show k+a+(b - a)=k+b by omega];exact hs))⟩
variable {A:Nat→Addr} {SF:Nat→σ→World→Prop} {N R:Nat} {lv mv:Value} {w0:World}
end
theorem KeepX.refl (X:Nat→Prop)(w:World):KeepX X w w:=⟨rfl,rfl,rfl,Nat.le_refl _,fun _ _ _=>rfl⟩
theorem KeepX.alloc {X:Nat→Prop}{w w1:World}(h:KeepX X w w1)(o:Obj):KeepX X w (w1.alloc o):=
 ⟨h.os,h.tape,h.output,by simp;exact Nat.le_succ_of_le h.size,fun k hk hne=>(Below.heap_alloc w1 o k (Nat.lt_of_lt_of_le hk h.size)).trans (h.block k hk hne)⟩
theorem KeepX.drew {X:Nat→Prop}{w w1:World}(h:KeepX X w w1):KeepX X w w1.drew:=⟨h.os,h.tape,h.output,h.size,h.block⟩
theorem KeepX.setNew {X:Nat→Prop}{w w1:World}(h:KeepX X w w1){a:Addr}(ha:w.heap.size≤a.block)(v:Value):KeepX X w (w1.setCell a v):=
 ⟨h.os,h.tape,h.output,by simp;exact h.size,fun k hk hne=>(Below.heap_setCell w1 _ v k (by omega)).trans (h.block k hk hne)⟩
theorem KeepX.heap {X:Nat→Prop}{w w1:World}(h:KeepX X w w1){k:Nat}{o:Obj}(hk:w.heap[k]?=some o)(hne:¬ X k):w1.heap[k]?=some o:=(h.block k (zA2 hk) hne).trans hk
section
variable {σ:Type}
def zE4 (A:Nat→Addr)(SF:Nat→σ→World→Prop)(a:Nat)(X:Nat→Prop)(lv mv:Value)(v:Value)(m:σ→Res × σ)(w0:World):Prop:=
 ∃ f caps,v=.func (.func f) #[] caps∧(∀ (args:Array Value) (w:World),(callFunc f (args ++ caps)).run Tryz.prog w=.ok (.enter f (args ++ caps)) w) ∧
  ∀ k s w,KeepX X w0 w→SF (k+a) s w→Calls Tryz.prog f (#[.agg #[lv,mv]] ++ caps) w fun e w'=>KeepX X w w'∧EvR A (SF k) (m s) w' e
theorem zE4.more {N a b:Nat}{A:Nat→Addr}{SF:Nat→σ→World→Prop}{X:Nat→Prop}{lv mv v:Value}{m:σ→Res × σ}{w0:World}(hS:Fuel N SF)(h:zE4 A SF a X lv mv v m w0)(hab:a≤b):zE4 A SF b X lv mv v m w0:=by
 obtain⟨f,caps,h1,h2,h3⟩:=h
 exact⟨f,caps,h1,h2,fun k s w kp hs=>h3 k s w kp (hS.lessBy (b - a) _ _ _ (by rw[show k+a+(b - a)=k+b by omega];exact hs))⟩
variable {A:Nat→Addr} {SF:Nat→σ→World→Prop} {N:Nat} {X:Nat→Prop} {lv mv:Value} {w0:World}
set_option maxRecDepth 1000000 in
theorem runsX_num (hS:Fuel N SF){b:Nat}{n:Int}(hn:In64 n)(hb:One w0 b (.int .i64 n) 2)(hbR:¬ X b):zE4 A SF 0 X lv mv (.func (.func 169) #[] #[ptr b]) (fun s=>(.val n,s)) w0:=by
 refine⟨_,_,rfl,fun args w=>by rfl,fun k s w hk hs=>?_⟩
 have hbw:One w b (.int .i64 n) 2:=hk.heap hb hbR
 have c0:w.cell? ⟨b,0,none⟩=some (.int .i64 n):=zA0 hbw rfl
 have lb:=zA2 hbw
 have hs:SF k s w:=hs
 have hS:=hS.stable k
 have HS:Hid _:=And.intro hs hS
 clear hs hS
 go_enter Tryz.func169,Tryz.ntmps169
 go_wp2
 go_ret2
 exact⟨(KeepX.refl X w).alloc _,rfl,hn,HS.out.2 _ _ _ HS.out.1 ((Below.refl _ _).alloc (Nat.le_refl _) _)⟩
set_option maxRecDepth 1000000 in
theorem runsX_neg (hS:Fuel N SF){a b:Nat}{va:Value}{m:σ→Res × σ}(hm:zE4 A SF a X lv mv va m w0)(hb:One w0 b va 143)(hbR:¬ X b):zE4 A SF a X lv mv (.func (.func 171) #[] #[ptr b]) (zBI m fun n s=>(.val (clip (-n)),s)) w0:=by
 obtain⟨f,caps,rfl,hcf,hm⟩:=hm
 refine⟨_,_,rfl,fun args w=>by rfl,fun k s w hk hs=>?_⟩
 have hbw:One w b (.func (.func f) #[] caps) 143:=hk.heap hb hbR
 have c0:w.cell? ⟨b,0,none⟩=some (.func (.func f) #[] caps):=zA0 hbw rfl
 have lb:=zA2 hbw
 have K1:Hid (KeepX X w (w.alloc (.cells #[lv,mv] 240))):=(KeepX.refl X w).alloc _
 have hm:=hm k s (w.alloc (.cells #[lv,mv] 240)) (hk.trans K1.out) (hS.stable _ _ _ _ hs ((Below.refl _ _).alloc (Nat.le_refl _) _))
 have hcf:=hcf #[.agg #[lv,mv]]
 clear hs hS hk hb
 go_enter Tryz.func171,Tryz.ntmps171
 go_wp2_with fail
 refine hm.mono ?_
 rintro e w1 ⟨hk1,he⟩
 have K2:Hid (KeepX X w w1):=K1.out.trans hk1
 clear hm hk1 K1
 generalize hM:m s=r1 at he
 obtain⟨r,s1⟩:=r1
 have HM:Hid _:=hM
 clear hM
 cases r with
 | val n=>
  obtain⟨rfl,hn,hs1⟩:=he
  have hng:=zLR hn w1
  have HS1:Hid _:=hs1
  clear hs1
  go_wp2_with fail
  refine hng.mono ?_
  rintro e w2 ⟨rfl,hw⟩
  have hw:=hw.symm
  subst hw
  clear hng
  go_wp2
  go_ret2
  refine⟨K2.out,?_⟩
  simp only[zBI,HM.out]
  exact⟨rfl,zH1 _,HS1.out⟩
 | held p y=>
  obtain⟨b1,T,x,rfl,h2⟩:=he
  have H2:Hid _:=h2
  clear h2
  go_wp2
  go_ret2
  refine⟨K2.out,?_⟩
  simp only[zBI,HM.out]
  exact⟨b1,T,x,rfl,H2.out⟩
set_option maxRecDepth 1000000 in
set_option maxHeartbeats 1000000 in
theorem zLO (hS:Fuel N SF){k a1 a2:Nat}{v1 v2:Value}{m1 m2:σ→Res × σ}(h1:zE4 A SF a1 X lv mv v1 m1 w0)(h2:zE4 A SF a2 X lv mv v2 m2 w0){s:σ}{w:World}(hk:KeepX X w0 w)(hR:∀ k,X k→k<w.heap.size)(hs:SF (k+(a1+a2)) s w):
  Calls Tryz.prog 174 #[.agg #[lv,mv],v1,v2] w fun e w'=>KeepX X w w'∧BothR A (SF k) m1 m2 s w' e:=by
 obtain⟨f1,caps1,rfl,hcf1,h1⟩:=h1
 obtain⟨f2,caps2,rfl,hcf2,h2⟩:=h2
 have K1:Hid (KeepX X w (w.alloc (.cells #[lv,mv] 240))):=(KeepX.refl X w).alloc _
 have hs:SF (k+a2+a1) s w:=by rw[show k+a2+a1=k+(a1+a2) by omega];exact hs
 have h1:=h1 (k+a2) s (w.alloc (.cells #[lv,mv] 240)) (hk.trans K1.out) (hS.stable _ _ _ _ hs ((Below.refl _ _).alloc (Nat.le_refl _) _))
 have HS:Hid (Fuel N SF):=hS
 have H2:Hid _:=h2
 have HK:Hid _:=hk
 have hcf1:=hcf1 #[.agg #[lv,mv]]
 have hcf2:=hcf2 #[.agg #[lv,mv]]
 clear hs hS hk h2
 go_enter Tryz.func174,Tryz.ntmps174
 go_wp2_with fail
 refine h1.mono ?_
 rintro e w1 ⟨hk1,he⟩
 have K2:Hid (KeepX X w w1):=K1.out.trans hk1
 have B1:Hid (w1.heap[w.heap.size]?=some (.cells #[lv,mv] 240 (0,0))):=(hk1.block _ (by simp) (fun q=>by have:=hR _ q;omega)).trans (heap_alloc_new _ _)
 have c0:w1.cell? ⟨w.heap.size,0,none⟩=some lv:=zA0 B1.out rfl
 have c1:w1.cell? ⟨w.heap.size,1,none⟩=some mv:=zA0 B1.out rfl
 have lb:=zA2 B1.out
 clear h1 hk1 K1
 generalize hM:m1 s=r1 at he
 obtain⟨r,s1⟩:=r1
 have HM:Hid _:=hM
 clear hM
 cases r with
 | held p y=>
  obtain⟨b1,T,x,rfl,h2⟩:=he
  have H3:Hid _:=h2
  clear h2
  go_wp2
  refine bodyPost_ret (v:=.tuple #[.int .i64 0,.int .i64 0,.iface 159 (ptr b1)]) (by simp[results,Tryz.results174,go_sem]) rfl ?_
  refine⟨K2.out,.inr ⟨p,y,s1,b1,T,x,rfl,H3.out.1,H3.out.2.1,HS.out.lessBy _ _ _ _ H3.out.2.2,fun k=>?_⟩⟩
  simp only[zF4,zBI,HM.out]
 | val x=>
  obtain⟨rfl,hn,hs1⟩:=he
  have h2:=H2.out k s1 w1 (HK.out.trans K2.out) hs1
  have HN:Hid (In64 x):=hn
  clear hs1 hn
  go_wp2_with fail
  refine h2.mono ?_
  rintro e w2 ⟨hk2,he⟩
  have K3:Hid (KeepX X w w2):=K2.out.trans hk2
  clear h2 hk2
  generalize hM2:m2 s1=r2 at he
  obtain⟨r,s2⟩:=r2
  have HM2:Hid _:=hM2
  clear hM2
  cases r with
  | held p y=>
   obtain⟨b1,T,z,rfl,h2⟩:=he
   have H3:Hid _:=h2
   clear h2
   go_wp2
   refine bodyPost_ret (v:=.tuple #[.int .i64 0,.int .i64 0,.iface 159 (ptr b1)]) (by simp[results,Tryz.results174,go_sem]) rfl ?_
   refine⟨K3.out,.inr ⟨p,y,s2,b1,T,z,rfl,H3.out.1,H3.out.2.1,H3.out.2.2,fun k=>?_⟩⟩
   simp only[zF4,zBI,HM.out,HM2.out]
  | val y=>
   obtain⟨rfl,hn,hs2⟩:=he
   have H3:Hid _:=And.intro hn hs2
   clear hn hs2
   go_wp2
   refine bodyPost_ret (v:=.tuple #[.int .i64 x,.int .i64 y,.nilIface]) (by simp[results,Tryz.results174,go_sem]) rfl ?_
   refine⟨K3.out,.inl ⟨x,y,s2,rfl,HN.out,H3.out.1,H3.out.2,fun k=>?_⟩⟩
   simp only[zF4,zBI,HM.out,HM2.out]
end
section
variable {σ:Type} {A:Nat→Addr} {SF:Nat→σ→World→Prop} {N:Nat} {X:Nat→Prop} {lv mv:Value} {w0:World}
set_option maxRecDepth 1000000 in
set_option maxHeartbeats 1000000 in
theorem runsX_pair (hS:Fuel N SF)(hR:∀ k,X k→k<w0.heap.size){a1 a2 k b1 b2 b3:Nat}{v1 v2:Value}{m1 m2:σ→Res × σ}(hk:k=43∨k=45∨k=42∨k=60∨k=62∨k=61)(h1:zE4 A SF a1 X lv mv v1 m1 w0)(h2:zE4 A SF a2 X lv mv v2 m2 w0)
  (hb1:One w0 b1 v1 143) (hb2:One w0 b2 v2 143) (hb3:One w0 b3 (zET k) 189) (hn1:¬ X b1) (hn2:¬ X b2) (hn3:¬ X b3):
  zE4 A SF (a1+a2) X lv mv (.func (.func 189) #[] #[ptr b1,ptr b2,ptr b3]) (zF4 m1 m2 fun x y s=>(.val (reck k x y),s)) w0:=by
 obtain⟨fr,hfr,hcr,hrk⟩:=reck_runs hk
 rw[hfr] at hb3
 refine⟨_,_,rfl,fun args w=>by rfl,fun kf s w hk hs=>?_⟩
 have K1:Hid (KeepX X w (w.alloc (.cells #[lv,mv] 240))):=(KeepX.refl X w).alloc _
 have hbo:=zLO (k:=kf) hS h1 h2 (hk.trans K1.out) (fun k q=>by have:=hR k q;have:=hk.size;simp;omega) (hS.stable _ _ _ _ hs ((Below.refl _ _).alloc (Nat.le_refl _) _))
 obtain⟨f1,caps1,rfl,-⟩:=h1
 obtain⟨f2,caps2,rfl,-⟩:=h2
 have c1:w.cell? ⟨b1,0,none⟩=some (.func (.func f1) #[] caps1):=zA0 (hk.heap hb1 hn1) rfl
 have c2:w.cell? ⟨b2,0,none⟩=some (.func (.func f2) #[] caps2):=zA0 (hk.heap hb2 hn2) rfl
 have l1:=zA2 (hk.heap hb1 hn1)
 have l2:=zA2 (hk.heap hb2 hn2)
 have B3:Hid (One w b3 (.func (.func fr) #[] #[]) 189):=hk.heap hb3 hn3
 have l3:=zA2 B3.out
 have hcr:=hcr
 have HR:Hid _:=hrk
 clear hs hS hk hb1 hb2 hb3 hfr hrk
 go_enter Tryz.func189,Tryz.ntmps189
 go_wp2_with fail
 refine hbo.mono ?_
 rintro e w1 ⟨hk1,he⟩
 have K2:Hid (KeepX X w w1):=K1.out.trans hk1
 have c3:w1.cell? ⟨b3,0,none⟩=some (.func (.func fr) #[] #[]):=zA0 (K2.out.heap B3.out hn3) rfl
 clear hbo hk1 K1
 rcases he with⟨x,y,s2,rfl,hx,hy,hs2,hM⟩ | ⟨p,why,s2,b,T,z,rfl,g1,g2,g3,hM⟩
 ·have hre:=HR.out x y w1 hx hy
  have HM:Hid _:=And.intro hs2 hM
  clear hs2 hM hx hy
  go_wp2_with fail
  refine hre.mono ?_
  rintro e w2 ⟨rfl,hw⟩
  have hw:=hw.symm
  subst hw
  clear hre
  go_wp2
  go_ret2
  refine⟨K2.out,?_⟩
  rw[HM.out.2]
  exact⟨rfl,reck_in _ _ _,HM.out.1⟩
 ·have HM:Hid _:=And.intro g1 (And.intro g2 (And.intro g3 hM))
  clear g1 g2 g3 hM
  go_wp2
  go_ret2
  refine⟨K2.out,?_⟩
  rw[HM.out.2.2.2]
  exact⟨b,T,z,rfl,HM.out.1,HM.out.2.1,HM.out.2.2.1⟩
set_option maxRecDepth 1000000 in
set_option maxHeartbeats 1000000 in
theorem zKL (hS:Fuel N SF)(hA:∀ k s w,SF k s w→Sents A w)(hR:∀ k,X k→k<w0.heap.size){a1 a2 p b1 b2 b3:Nat}{v1 v2:Value}{m1 m2:σ→Res × σ}(h1:zE4 A SF a1 X lv mv v1 m1 w0)(h2:zE4 A SF a2 X lv mv v2 m2 w0)
  (hb1:One w0 b1 v1 143) (hb2:One w0 b2 v2 143) (hb3:One w0 b3 (.int .i64 (p:Int)) 153) (hn1:¬ X b1) (hn2:¬ X b2) (hn3:¬ X b3):
  zE4 A SF (a1+a2) X lv mv (.func (.func 173) #[] #[ptr b1,ptr b2,ptr b3]) (zF4 m1 m2 fun x y s=>(if y=0 then .held p .divide else .val (quot x y),s)) w0:=by
 refine⟨_,_,rfl,fun args w=>by rfl,fun kf s w hk hs=>?_⟩
 have K1:Hid (KeepX X w (w.alloc (.cells #[lv,mv] 240))):=(KeepX.refl X w).alloc _
 have hbo:=zLO (k:=kf) hS h1 h2 (hk.trans K1.out) (fun k q=>by have:=hR k q;have:=hk.size;simp;omega) (hS.stable _ _ _ _ hs ((Below.refl _ _).alloc (Nat.le_refl _) _))
 obtain⟨f1,caps1,rfl,-⟩:=h1
 obtain⟨f2,caps2,rfl,-⟩:=h2
 have c1:w.cell? ⟨b1,0,none⟩=some (.func (.func f1) #[] caps1):=zA0 (hk.heap hb1 hn1) rfl
 have c2:w.cell? ⟨b2,0,none⟩=some (.func (.func f2) #[] caps2):=zA0 (hk.heap hb2 hn2) rfl
 have l1:=zA2 (hk.heap hb1 hn1)
 have l2:=zA2 (hk.heap hb2 hn2)
 have B3:Hid (One w b3 (.int .i64 (p:Int)) 153):=hk.heap hb3 hn3
 have l3:=zA2 B3.out
 have HA:Hid _:=And.intro hA hS
 clear hs hS hk hb1 hb2 hb3 hA
 go_enter Tryz.func173,Tryz.ntmps173
 go_wp2_with fail
 refine hbo.mono ?_
 rintro e w1 ⟨hk1,he⟩
 have K2:Hid (KeepX X w w1):=K1.out.trans hk1
 have c3:w1.cell? ⟨b3,0,none⟩=some (.int .i64 (p:Int)):=zA0 (K2.out.heap B3.out hn3) rfl
 clear hbo hk1 K1
 rcases he with⟨x,y,s2,rfl,hx,hy,hs2,hM⟩ | ⟨p2,why,s2,b,T,z,rfl,g1,g2,g3,hM⟩
 ·have cD:=(HA.out.1 _ _ _ hs2).g5
  by_cases h0:y=0
  ·subst h0
   have hh:=zHE p 416 (.pointer (some (A 5))) w1
   have HM:Hid _:=And.intro hs2 hM
   clear hs2 hM hx hy
   go_wp2_with fail
   refine hh.mono ?_
   rintro e w2 ⟨b,rfl,hh2,hb3⟩
   have HH:Hid _:=And.intro hh2 hb3
   clear hh hh2 hb3
   go_wp2
   go_ret2
   refine⟨K2.out.trans (.of_below HH.out.2),?_⟩
   rw[HM.out.2]
   exact⟨b,_,_,rfl,HH.out.1,⟨rfl,rfl⟩,HA.out.2.stable _ _ _ _ HM.out.1 HH.out.2⟩
  ·have e0:(y == 0)=false:=by rw[beq_eq_false_iff_ne];exact h0
   have hq:=zLQ hx hy h0 w1
   have HM:Hid _:=And.intro hs2 hM
   clear hs2 hM hx hy
   go_wp2_with fail
   refine hq.mono ?_
   rintro e w2 ⟨rfl,hw⟩
   have hw:=hw.symm
   subst hw
   clear hq
   go_wp2
   go_ret2
   refine⟨K2.out,?_⟩
   rw[HM.out.2,if_neg h0]
   exact⟨rfl,zP8 _ _,HM.out.1⟩
 ·have HM:Hid _:=And.intro g1 (And.intro g2 (And.intro g3 hM))
  clear g1 g2 g3 hM
  go_wp2
  go_ret2
  refine⟨K2.out,?_⟩
  rw[HM.out.2.2.2]
  exact⟨b,T,z,rfl,HM.out.1,HM.out.2.1,HM.out.2.2.1⟩
set_option maxRecDepth 1000000 in
set_option maxHeartbeats 1000000 in
theorem zNG (hS:Fuel N SF)(hR:∀ k,X k→k<w0.heap.size){a1 a2 b1 b2 b3:Nat}{v1 v2 v3:Value}{m1 m2 m3:σ→Res × σ}(h1:zE4 A SF a1 X lv mv v1 m1 w0)(h2:zE4 A SF a2 X lv mv v2 m2 w0)(h3:zE4 A SF a2 X lv mv v3 m3 w0)
  (hb1:One w0 b1 v1 143) (hb2:One w0 b2 v2 143) (hb3:One w0 b3 v3 143) (hn1:¬ X b1) (hn2:¬ X b2) (hn3:¬ X b3):
  zE4 A SF (a1+a2) X lv mv (.func (.func 176) #[] #[ptr b1,ptr b2,ptr b3]) (zBI m1 fun n s=>if n≠0 then m2 s else m3 s) w0:=by
 obtain⟨f1,caps1,rfl,hcf1,h1⟩:=h1
 obtain⟨f2,caps2,rfl,hcf2,h2⟩:=h2
 obtain⟨f3,caps3,rfl,hcf3,h3⟩:=h3
 refine⟨_,_,rfl,fun args w=>by rfl,fun kf s w hk hs=>?_⟩
 have K1:Hid (KeepX X w (w.alloc (.cells #[lv,mv] 240))):=(KeepX.refl X w).alloc _
 have hs:SF (kf+a2+a1) s w:=by rw[show kf+a2+a1=kf+(a1+a2) by omega];exact hs
 have h1:=h1 (kf+a2) s (w.alloc (.cells #[lv,mv] 240)) (hk.trans K1.out) (hS.stable _ _ _ _ hs ((Below.refl _ _).alloc (Nat.le_refl _) _))
 have c1:w.cell? ⟨b1,0,none⟩=some (.func (.func f1) #[] caps1):=zA0 (hk.heap hb1 hn1) rfl
 have l1:=zA2 (hk.heap hb1 hn1)
 have HB:Hid (One w b2 (.func (.func f2) #[] caps2) 143∧One w b3 (.func (.func f3) #[] caps3) 143):=⟨hk.heap hb2 hn2,hk.heap hb3 hn3⟩
 have HH:Hid _:=And.intro h2 (And.intro h3 hk)
 have hcf1:=hcf1 #[.agg #[lv,mv]]
 have hcf2:=hcf2 #[.agg #[lv,mv]]
 have hcf3:=hcf3 #[.agg #[lv,mv]]
 have lR:∀ k,X k→k<w.heap.size:=fun k q=>by have:=hR k q;have:=hk.size;omega
 have HS:Hid (Fuel N SF):=hS
 clear hs hS hk hb1 hb2 hb3 h2 h3
 go_enter Tryz.func176,Tryz.ntmps176
 go_wp2_with fail
 refine h1.mono ?_
 rintro e w1 ⟨hk1,he⟩
 have K2:Hid (KeepX X w w1):=K1.out.trans hk1
 have B1:Hid (w1.heap[w.heap.size]?=some (.cells #[lv,mv] 240 (0,0))):=(hk1.block _ (by simp) (fun q=>by have:=lR _ q;omega)).trans (heap_alloc_new _ _)
 have d0:w1.cell? ⟨w.heap.size,0,none⟩=some lv:=zA0 B1.out rfl
 have d1:w1.cell? ⟨w.heap.size,1,none⟩=some mv:=zA0 B1.out rfl
 have c2:w1.cell? ⟨b2,0,none⟩=some (.func (.func f2) #[] caps2):=zA0 (K2.out.heap HB.out.1 hn2) rfl
 have c3:w1.cell? ⟨b3,0,none⟩=some (.func (.func f3) #[] caps3):=zA0 (K2.out.heap HB.out.2 hn3) rfl
 clear h1 hk1 K1
 generalize hM:m1 s=r1 at he
 obtain⟨r,s1⟩:=r1
 have HM:Hid _:=hM
 clear hM
 cases r with
 | held p y=>
  obtain⟨b,T,x,rfl,h2⟩:=he
  have H2:Hid _:=h2
  clear h2
  go_wp2
  go_ret2
  refine⟨K2.out,?_⟩
  simp only[zBI,HM.out]
  exact⟨b,T,x,rfl,H2.out.1,H2.out.2.1,HS.out.lessBy _ _ _ _ H2.out.2.2⟩
 | val n=>
  obtain⟨rfl,-,hs1⟩:=he
  by_cases h0:n=0
  ·have hc:=HH.out.2.1 kf s1 w1 (HH.out.2.2.trans K2.out) hs1
   subst h0
   clear hs1
   go_wp2_with fail
   refine hc.mono ?_
   rintro e w2 ⟨hk2,he⟩
   have K3:Hid (KeepX X w w2):=K2.out.trans hk2
   have E2:Hid (zBI m1 (fun n s=>if n≠0 then m2 s else m3 s) s=m3 s1):=by
    show zBI m1 _ s=_
    simp only[zBI,HM.out]
    rw[if_neg (by simp)]
   clear hc hk2
   generalize hM3:m3 s1=r3 at he
   have E3:Hid _:=E2.out.trans hM3
   clear hM3
   obtain⟨r,s2⟩:=r3
   cases r with
   | val y=>
    obtain⟨rfl,he⟩:=he
    have H3:Hid _:=he
    clear he
    go_wp2
    go_ret2
    refine⟨K3.out,?_⟩
    rw[E3.out]
    exact⟨rfl,H3.out⟩
   | held p y=>
    obtain⟨b,T,x,rfl,he⟩:=he
    have H3:Hid _:=he
    clear he
    go_wp2
    go_ret2
    refine⟨K3.out,?_⟩
    rw[E3.out]
    exact⟨b,T,x,rfl,H3.out⟩
  ·have e0:(n != 0)=true:=by rw[bne_iff_ne];exact h0
   have hc:=HH.out.1 kf s1 w1 (HH.out.2.2.trans K2.out) hs1
   clear hs1
   go_wp2_with fail
   refine hc.mono ?_
   rintro e w2 ⟨hk2,he⟩
   have K3:Hid (KeepX X w w2):=K2.out.trans hk2
   have E2:Hid (zBI m1 (fun n s=>if n≠0 then m2 s else m3 s) s=m2 s1):=by
    show zBI m1 _ s=_
    simp only[zBI,HM.out]
    rw[if_pos h0]
   clear hc hk2
   generalize hM3:m2 s1=r3 at he
   have E3:Hid _:=E2.out.trans hM3
   clear hM3
   obtain⟨r,s2⟩:=r3
   cases r with
   | val y=>
    obtain⟨rfl,he⟩:=he
    have H3:Hid _:=he
    clear he
    go_wp2
    go_ret2
    refine⟨K3.out,?_⟩
    rw[E3.out]
    exact⟨rfl,H3.out⟩
   | held p y=>
    obtain⟨b,T,x,rfl,he⟩:=he
    have H3:Hid _:=he
    clear he
    go_wp2
    go_ret2
    refine⟨K3.out,?_⟩
    rw[E3.out]
    exact⟨b,T,x,rfl,H3.out⟩
end
section
variable {σ:Type}
def LookX (SF:Nat→σ→World→Prop)(X:Nat→Prop)(D:ByteArray→Int→Prop)(lv:Value)(look:ByteArray→ByteArray→Int→σ→Found × σ):Prop:=
 ∃ f first caps,lv=.func (.func f) first caps∧(∀ (args:Array Value) (w:World),(callFunc f (first ++ (args ++ caps))).run Tryz.prog w=.ok (.enter f (first ++ (args ++ caps))) w) ∧
  ∀ k kind metric n s w,D metric n→In64 n→kind.size<256→metric.size<256→SF (k+1) s w→Calls Tryz.prog f (first ++ (#[.string kind,.string metric,.int .i64 n] ++ caps)) w fun e w'=>KeepX X w w'∧LookR (SF k) (look kind metric n s) w' e
variable {A:Nat→Addr} {SF:Nat→σ→World→Prop} {N:Nat} {X:Nat→Prop} {lv mv:Value} {w0:World}
set_option maxRecDepth 1000000 in
set_option maxHeartbeats 1000000 in
theorem zQ3 (hS:Fuel N SF)(hA:∀ k s w,SF k s w→Sents A w){kf:Nat}{look:ByteArray→ByteArray→Int→σ→Found × σ}{D:ByteArray→Int→Prop}(hl:LookX SF X D lv look){w:World}{s:σ}(hs:SF (kf+1) s w){b0 b2 b3 b4:Nat}{kind metric:ByteArray}{n:Int}(hD:D metric n)(hn:In64 n)(hks:kind.size<256)(hms:metric.size<256)
  (h0:w.heap[b0]?=some (.cells #[lv,mv] 240 (0,0))) (h2:One w b2 (.string kind) 9) (h3:One w b3 (.string metric) 9) (h4:One w b4 (.int .i64 n) 2):
  Calls Tryz.prog 212 #[ptr b0,ptr b2,ptr b3,ptr b4] w fun e w1=>∃ a,AnsE a e∧KeepX X w w1∧(a=ansOf A (look kind metric n s).1∧SF kf (look kind metric n s).2 w1∧∀ x,a=.val x→In64 x):=by
 obtain⟨f,first,caps,rfl,hcf,hl⟩:=hl
 have hl:=hl kf kind metric n s w hD hn hks hms hs
 have hcf:=hcf #[.string kind,.string metric,.int .i64 n]
 have c0:w.cell? ⟨b0,0,none⟩=some (.func (.func f) first caps):=zA0 h0 rfl
 have c2:w.cell? ⟨b2,0,none⟩=some (.string kind):=zA0 h2 rfl
 have c3:w.cell? ⟨b3,0,none⟩=some (.string metric):=zA0 h3 rfl
 have c4:w.cell? ⟨b4,0,none⟩=some (.int .i64 n):=zA0 h4 rfl
 have HA:Hid _:=hA
 have HS:Hid (Fuel N SF):=hS
 clear hS hA hs h0 h2 h3 h4
 go_enter Tryz.func212,Tryz.ntmps212
 go_wp2_with fail
 refine hl.mono ?_
 rintro e w1 ⟨hk,he⟩
 have HK:Hid _:=hk
 clear hl hk
 generalize hM:look kind metric n s=r at he
 have HM:Hid _:=hM
 clear hM
 obtain⟨r,s1⟩:=r
 cases r with
 | num x=>
  obtain⟨rfl,hx,hs1⟩:=he
  have H1:Hid _:=And.intro hx hs1
  clear hx hs1
  go_wp2
  go_ret2
  refine⟨.val x,rfl,HK.out,?_⟩
  rw[HM.out]
  exact⟨rfl,H1.out.2,fun y q=>by injection q with q;subst q;exact H1.out.1⟩
 | nothing x=>
  obtain⟨rfl,hs1⟩:=he
  have cN:=(HA.out _ _ _ hs1).g6
  have H1:Hid _:=hs1
  clear hs1
  go_wp2_with fail
  go_region
  all_goals
   go_wp2
   go_ret2
   refine⟨.fail 0 416 (.pointer (some (A 6))),rfl,HK.out.drew,?_⟩
   rw[HM.out]
   exact⟨rfl,HS.out.stable _ _ _ _ H1.out (Below.refl _ _).drew,fun y q=>by cases q⟩
 | pan x=>
  obtain⟨rfl,hs1⟩:=he
  have H1:Hid _:=hs1
  clear hs1
  go_wp2
  refine⟨rfl,.pan 2 (.int .i64 x),rfl,HK.out,?_⟩
  rw[HM.out]
  exact⟨rfl,H1.out,fun y q=>by cases q⟩
set_option maxRecDepth 1000000 in
set_option maxHeartbeats 1000000 in
theorem zM1 (hS:Fuel N SF)(hA:∀ k s w,SF k s w→Sents A w)(hR:∀ k,X k→k<w0.heap.size)(hN:N≤w0.heap.size){look:ByteArray→ByteArray→Int→σ→Found × σ}{D:ByteArray→Int→Prop}(hl:LookX SF X D lv look){p b1 b2 b3 b4:Nat}{kind metric:ByteArray}{n:Int}(hD:D metric n)(hn:In64 n)(hks:kind.size<256)(hms:metric.size<256)
  (h1:One w0 b1 (.int .i64 (p:Int)) 153) (h2:One w0 b2 (.string kind) 9) (h3:One w0 b3 (.string metric) 9) (h4:One w0 b4 (.int .i64 n) 2) (n1:¬ X b1) (n2:¬ X b2) (n3:¬ X b3) (n4:¬ X b4):
  zE4 A SF 1 X lv mv (.func (.func 210) #[] #[ptr b1,ptr b2,ptr b3,ptr b4]) (fun s=>zE0 p (look kind metric n s)) w0:=by
 refine⟨_,_,rfl,fun args w=>by rfl,fun kf s w hk hs=>?_⟩
 have lw:w0.heap.size≤w.heap.size:=hk.size
 have hbx:Below w.heap.size w (w.alloc (.cells #[lv,mv] 240)):=(Below.refl _ _).alloc (Nat.le_refl _) _
 have hh1:=hk.heap h1 n1
 have hh2:=hk.heap h2 n2
 have hh3:=hk.heap h3 n3
 have hh4:=hk.heap h4 n4
 have hask:=zQS (X:=X) (F:=212) (p:=p) (caps:=#[ptr w.heap.size,ptr b2,ptr b3,ptr b4]) (w:=w.alloc (.cells #[lv,mv] 240))
  (Q:=fun a w1=>a=ansOf A (look kind metric n s).1∧SF kf (look kind metric n s).2 w1∧∀ x,a=.val x→In64 x) (fun k q=>by have:=hR k q;simp;omega) (fun _=>by rfl) (fun W hW=>by
   have hb:Below w.heap.size w W:=hbx.trans (hW.mono hbx.size)
   refine Calls.mono (zQ3 (mv:=mv) hS hA hl (hS.stable _ _ _ _ hs hb) hD hn hks hms ((hW.block _ (by simp)).trans (heap_alloc_new _ _)) ((hb.block _ (zA2 hh2)).trans hh2) ((hb.block _ (zA2 hh3)).trans hh3) ((hb.block _ (zA2 hh4)).trans hh4)) ?_
   rintro e w1 ⟨a,q1,q2,q3⟩
   exact⟨a,q1,q2,q3⟩)
 have hmf:∀ (fn:Fn) (first cap:Array Value) (w:World),(Instr.makeFunc fn first cap).run Tryz.prog w=.ok (.func fn first cap) w:=fun _ _ _ _=>rfl
 obtain⟨f,first,caps,rfl,-,-⟩:=hl
 have heq:∀ w:World,(binOp .eql 238 (.func (.func f) first caps) .nilFunc).run Tryz.prog w=.ok (.bool false) w:=fun w=>by
  simp only[binOp]
  simp[Op.equal,Op.maxDepth,zDH w 9999 238 (.func f) first caps Tryz.underlying238]
 have c1:w.cell? ⟨b1,0,none⟩=some (.int .i64 (p:Int)):=zA0 hh1 rfl
 have lb:=zA2 hh1
 have HX:Hid _:=And.intro hS (And.intro hbx lw)
 clear hS hA hh1 hh2 hh3 hh4 h1 h2 h3 h4 hs hbx lw hk
 go_enter Tryz.func210,Tryz.ntmps210
 go_wp2_with fail
 refine hask.mono ?_
 rintro e w' ⟨a,w1,⟨hq1,hq2,hq3⟩,hk1,hb2,ha⟩
 have K2:Hid (KeepX X w w'):=by
  have l1:=hk1.size
  have l2:=hb2.size
  simp at l1 hb2
  exact⟨hb2.os.trans hk1.os,hb2.tape.trans hk1.tape,hb2.output.trans hk1.output,by omega,fun k lt ne=>(hb2.block k (by omega) (by omega) (by omega)).trans ((hk1.block k (by simp;omega) ne).trans (Below.heap_alloc _ _ k lt))⟩
 have S2:Hid (SF kf (look kind metric n s).2 w'):=by
  have l2:=hb2.size
  have:=HX.out.2.2
  simp at hb2
  exact HX.out.1.same _ _ _ _ hq2 ⟨hb2.os,hb2.tape,hb2.output,l2,fun k lt=>hb2.block k (by have:=HX.out.1.base _ _ _ hq2;omega) (by omega) (by omega)⟩
 generalize hM:look kind metric n s=r at hq1 S2
 have HM:Hid _:=hM
 clear hask hk1 hb2 hq2 hM
 obtain⟨r,s1⟩:=r
 cases r with
 | num x=>
  have hq1:a=.val x:=hq1
  subst hq1
  have ha:e=_:=ha
  subst ha
  have HI:Hid _:=hq3 x rfl
  clear hq3
  go_wp2
  go_ret2
  refine⟨K2.out,?_⟩
  rw[HM.out]
  exact⟨rfl,HI.out,S2.out⟩
 | nothing x=>
  have hq1:a=.fail 0 416 (.pointer (some (A 6))):=hq1
  subst hq1
  obtain⟨b,rfl,hh⟩:=ha
  have HH:Hid _:=hh
  clear hh hq3
  go_wp2
  go_ret2
  refine⟨K2.out,?_⟩
  rw[HM.out]
  exact⟨b,_,_,rfl,HH.out,⟨rfl,rfl⟩,S2.out⟩
 | pan x=>
  have hq1:a=.pan 2 (.int .i64 x):=hq1
  subst hq1
  obtain⟨b,c,rfl,hh,ho⟩:=ha
  have HH:Hid _:=And.intro hh ho
  clear hh ho hq3
  go_wp2
  go_ret2
  refine⟨K2.out,?_⟩
  rw[HM.out]
  exact⟨b,_,_,rfl,HH.out.1,⟨rfl,c,rfl,HH.out.2⟩,S2.out⟩
set_option maxRecDepth 1000000 in
theorem zHR (hS:Fuel N SF)(hA:∀ k s w,SF k s w→Sents A w){p b1 b2 b3 b4:Nat}(h1:One w0 b1 (.int .i64 (p:Int)) 153)(n1:¬ X b1):
  zE4 A SF 0 X .nilFunc mv (.func (.func 210) #[] #[ptr b1,ptr b2,ptr b3,ptr b4]) (fun s=>(.held p .noData,s)) w0:=by
 refine⟨_,_,rfl,fun args w=>by rfl,fun kf s w hk hs=>?_⟩
 have hbx:Below w.heap.size w (w.alloc (.cells #[.nilFunc,mv] 240)):=(Below.refl _ _).alloc (Nat.le_refl _) _
 have hs1:SF kf s _:=hS.stable _ _ _ _ hs hbx
 have cN:=(hA _ _ _ hs1).g6
 have hh1:=hk.heap h1 n1
 have c1:w.cell? ⟨b1,0,none⟩=some (.int .i64 (p:Int)):=zA0 hh1 rfl
 have lb:=zA2 hh1
 have heq:∀ w:World,(binOp .eql 238 .nilFunc .nilFunc).run Tryz.prog w=.ok (.bool true) w:=fun w=>by
  simp only[binOp]
  simp[Op.equal,Op.maxDepth,zDV w 9999 238 Tryz.underlying238]
 have hh:=zHE p 416 (.pointer (some (A 6))) (w.alloc (.cells #[.nilFunc,mv] 240))
 have HX:Hid _:=And.intro hbx (And.intro hs1 hS)
 clear hbx hs1 hs hS hA hh1 h1 hk
 go_enter Tryz.func210,Tryz.ntmps210
 go_wp2_with fail
 refine hh.mono ?_
 rintro e w2 ⟨b,rfl,hh2,hb3⟩
 have HH:Hid _:=And.intro hh2 hb3
 clear hh hh2 hb3
 go_wp2
 go_ret2
 exact⟨KeepX.of_below (HX.out.1.trans (HH.out.2.mono HX.out.1.size)),b,_,_,rfl,HH.out.1,⟨rfl,rfl⟩,HX.out.2.2.stable _ _ _ _ HX.out.2.1 HH.out.2⟩
end
section
variable {σ:Type}
def zIZ (SF:Nat→σ→World→Prop)(X:Nat→Prop)(N:Nat)(fv:Value)(probe:List Int→σ→PFound × σ):Prop:=
 ∃ f caps,fv=.func (.func f) #[] caps∧(∀ (args:Array Value) (w:World),(callFunc f (args ++ caps)).run Tryz.prog w=.ok (.enter f (args ++ caps)) w) ∧
  ∀ k xs v s w,(∀ x∈xs,In64 x)→xs.length≤900→w.ownsRow N 2 1 v xs.length (ints xs)→SF (k+1) s w→Calls Tryz.prog f (#[v] ++ caps) w fun e w'=>KeepX (fun k=>X k∨v.ownBlock=some k) w w'∧ProbeR (SF k) (probe xs s) w' e
variable {A:Nat→Addr} {SF:Nat→σ→World→Prop} {X:Nat→Prop} {lv mv:Value} {w0:World}
set_option maxRecDepth 1000000 in
set_option maxHeartbeats 1000000 in
theorem zOM {N kf:Nat}{fv:Value}{probe:List Int→σ→PFound × σ}(hp:zIZ SF X N fv probe){w:World}{s:σ}(hs:SF (kf+1) s w){b0 b3 ba g:Nat}{name:ByteArray}{G:ByteArray→Option Value}{v:Value}{xs:List Int}
  (h0:w.heap[b0]?=some (.cells #[lv,.map (some g)] 240 (0,0))) (hm:MapF w g G) (hG:G name=some fv) (h3:One w b3 (.string name) 9) (ha:One w ba v 22) (hx:∀ x∈xs,In64 x) (hl:xs.length≤900) (ho:w.ownsRow N 2 1 v xs.length (ints xs)):
  Calls Tryz.prog 214 #[ptr b0,ptr b3,ptr ba] w fun e w1=>∃ a,AnsE a e∧KeepX (fun k=>X k∨v.ownBlock=some k) w w1∧AnsP (probe xs s).1 a∧SF kf (probe xs s).2 w1:=by
 obtain⟨f,caps,rfl,hcf,hp⟩:=hp
 have hp:=hp kf xs v s w hx hl ho hs
 obtain⟨ao,cp,rfl⟩:=zAI ho
 have hcf:=hcf #[.slice ao xs.length cp]
 have hlk:=hm.lookup name
 rw[hG] at hlk
 have hlk:(Instr.lookup 113 (.map (some g)) (.string name) false).run Tryz.prog w=.ok (.func (.func f) #[] caps) w:=hlk
 have c0:w.cell? ⟨b0,1,none⟩=some (.map (some g)):=zA0 h0 rfl
 have c3:w.cell? ⟨b3,0,none⟩=some (.string name):=zA0 h3 rfl
 have ca:w.cell? ⟨ba,0,none⟩=some (.slice ao xs.length cp):=zA0 ha rfl
 clear hs h0 h3 ha hm hG ho hx
 go_enter Tryz.func214,Tryz.ntmps214
 go_wp2_with fail
 refine hp.mono ?_
 rintro e w1 ⟨hk,he⟩
 have HK:Hid _:=hk
 clear hp hk
 generalize hM:probe xs s=r at he
 have HM:Hid _:=hM
 clear hM
 obtain⟨r,s1⟩:=r
 cases r with
 | val x=>
  obtain⟨rfl,hx,hs1⟩:=he
  have H1:Hid _:=And.intro hx hs1
  clear hx hs1
  go_wp2
  go_ret2
  refine⟨.val x,rfl,HK.out,?_⟩
  rw[HM.out]
  exact⟨⟨rfl,H1.out.1⟩,H1.out.2⟩
 | fail=>
  obtain⟨⟨m,x,rfl⟩,hs1⟩:=he
  have H1:Hid _:=hs1
  clear hs1
  go_wp2
  go_ret2
  refine⟨.fail m 200 (ptr x),rfl,HK.out,?_⟩
  rw[HM.out]
  exact⟨⟨m,x,rfl⟩,H1.out⟩
 | pan x=>
  obtain⟨rfl,hs1⟩:=he
  have H1:Hid _:=hs1
  clear hs1
  go_wp2
  refine⟨rfl,.pan 2 (.int .i64 x),rfl,HK.out,?_⟩
  rw[HM.out]
  exact⟨rfl,H1.out⟩
end
end Go.Proofs.YtbokdbaagacnlaaGreatDoor
