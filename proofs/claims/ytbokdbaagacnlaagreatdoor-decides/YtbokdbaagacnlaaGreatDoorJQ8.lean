import Derived.Test.YtbokdbaagacnlaaGreatDoorJQ7
namespace Go.Proofs.YtbokdbaagacnlaaGreatDoor
open Go.RowKit Go.Lib
section
variable {s:ByteArray} {L:List Tok} {R bl cap base:Nat}
set_option maxRecDepth 1000000 in
set_option maxHeartbeats 2000000 in
theorem choice_of (hE:Ends L){N:Nat}(hcmp:Con s L R bl cap base 90 .compare (N+1))(hcho:Con s L R bl cap base 60 .choice N):
  Con s L R bl cap base 60 .choice (N+1):=by
 intro w I hI hN hst
 have hm0:=hcmp w I hI hN hst
 have HM:Hid (Con s L R bl cap base 60 .choice N):=hcho
 have HE:Hid (Ends L):=hE
 have hlen:=hst.len
 have lRw:R<w.heap.size:=zA2 hst.rd
 clear hcho hcmp hE
 go_enter Tryz.func60,Tryz.ntmps60
 go_wp2_with fail
 refine hm0.mono ?_
 rintro e w1 ⟨o,va,rfl,hD,hk,ha⟩
 clear hm0 hst
 have HD:Hid (D s L .compare I o):=hD
 have HK:Hid (Keep R w w1):=hk
 cases o with
 | bad J=>
  obtain⟨hs1,hJ⟩:=ha
  have HS1:Hid (St s L R bl cap base w1 J true):=hs1
  have c2:w1.cell? ⟨R,2,none⟩=some (.bool true):=zA0 hs1.rd rfl
  clear hD hk hs1
  go_wp2_with fail
  refine(zEG HS1.out hJ).mono ?_
  rintro e w2 ⟨rfl,q,rfl⟩
  go_wp2
  go_ret
  exact⟨.bad J,_,rfl,.chBad HD.out,HK.out.drewN q,HS1.out.drewN q,hJ⟩
 | ok ts J=>
  obtain⟨hs1,hJ,t,rfl,hn⟩:=ha
  have HS1:Hid (St s L R bl cap base w1 J false):=hs1
  have HN1:Hid (zA9 (From w.heap.size) w1 t (.pointer va)):=hn
  have c2:w1.cell? ⟨R,2,none⟩=some (.bool false):=zA0 hs1.rd rfl
  clear hD hk hs1 hn
  by_cases hq:kd L J=63
  rotate_left 1
  ·have h1:((kd L J:Int) != 63)=true:=by simp;omega
   have HQ:Hid (kd L J≠63):=hq
   clear hq
   go_wp2_with fail
   refine(zEG HS1.out hJ).mono ?_
   rintro e w2 ⟨rfl,q,rfl⟩
   go_wp2
   go_ret
   exact⟨.ok [t] J,_,rfl,.chOne HD.out HQ.out,HK.out.drewN q,HS1.out.drewN q,hJ,t,rfl,HN1.out.kept ((Keep.refl R w1).drewN q) lRw (Nat.le_refl _)⟩
  have h1:((kd L J:Int) != 63)=false:=by simp[hq]
  have HQ:Hid (kd L J=63):=hq
  clear hq
  have hJ1:J+1<L.length:=HE.out.next hJ (by have:=HQ.out;omega) (by have:=HQ.out;omega)
  have hIJ:I<J:=zDT HD.out rfl
  go_wp2_with fail
  refine(zEG HS1.out hJ).mono ?_
  rintro e w2 ⟨rfl,q,rfl⟩
  have htk:=zAV (HS1.out.drewN q) hJ (k:=63) HQ.out
  go_wp2_with fail
  refine htk.mono ?_
  rintro e w3 ⟨rfl,hs3,hk3⟩
  have HKA:Hid (Keep R w1 w3):=((Keep.refl R w1).drewN q).trans hk3
  have HS3:Hid (St s L R bl cap base w3 (J+1) false):=hs3
  have sz3:=hs3.size
  have lR:R<w3.heap.size:=zA2 hs3.rd
  clear hs3 hk3 htk
  go_wp2_with fail
  refine(HM.out _ (J+1) hJ1 (by omega) (HS3.out.alloc _)).mono ?_
  rintro e w5 ⟨o,vb,rfl,hD5,hk5,ha5⟩
  have c5:w5.cell? ⟨w3.heap.size,1,none⟩=some (.int .i64 (pl L J)):=hk5.cell (World.cell?_alloc_at (w:=w3) _ _ _ _ rfl) (by simp;omega)
  have HD5:Hid (D s L .choice (J+1) o):=hD5
  have HK5:Hid (Keep R w1 w5):=(HKA.out.alloc _).trans hk5
  clear hD5 hk5
  cases o with
  | bad K=>
   obtain⟨hs5,hK⟩:=ha5
   have HS5:Hid (St s L R bl cap base w5 K true):=hs5
   clear hs5
   go_wp2_with fail
   refine(zEF HS5.out hK 58).mono ?_
   rintro e w6 ⟨rfl,hs6,hk6⟩
   have c6:w6.cell? ⟨R,2,none⟩=some (.bool true):=zA0 hs6.rd rfl
   have HS6:Hid (St s L R bl cap base w6 K true):=hs6
   have HK6:Hid (Keep R w5 w6):=hk6
   clear hs6 hk6
   go_wp2
   go_ret
   exact⟨.bad K,_,rfl,.chB1 HD.out HQ.out HD5.out,(HK.out.trans HK5.out).trans HK6.out,HS6.out,hK⟩
  | ok ts K=>
   obtain⟨hs5,hK,b,rfl,hn5⟩:=ha5
   have HS5:Hid (St s L R bl cap base w5 K false):=hs5
   have HN5:Hid (zA9 (From w.heap.size) w5 b (.pointer vb)):=hn5.kept (Keep.refl R w5) (by simp;omega) (by have:=HK.out.size;have:=HKA.out.size;simp;omega)
   clear hs5 hn5
   have hJK:J+1<K:=zDT HD5.out rfl
   by_cases hc:kd L K=58
   rotate_left 1
   ·have HC:Hid (kd L K≠58):=hc
    clear hc
    go_wp2_with fail
    refine(zD0 HS5.out hK (k:=58) HC.out).mono ?_
    rintro e w6 ⟨rfl,hs6,hk6⟩
    have c6:w6.cell? ⟨R,2,none⟩=some (.bool true):=zA0 hs6.rd rfl
    have HS6:Hid (St s L R bl cap base w6 K true):=hs6
    have HK6:Hid (Keep R w5 w6):=hk6
    clear hs6 hk6
    go_wp2
    go_ret
    exact⟨.bad K,_,rfl,.chB2 HD.out HQ.out HD5.out HC.out,(HK.out.trans HK5.out).trans HK6.out,HS6.out,hK⟩
   have HC:Hid (kd L K=58):=hc
   clear hc
   have hK1:K+1<L.length:=HE.out.next hK (by have:=HC.out;omega) (by have:=HC.out;omega)
   go_wp2_with fail
   refine(zAV HS5.out hK (k:=58) HC.out).mono ?_
   rintro e w6 ⟨rfl,hs6,hk6⟩
   have c6:w6.cell? ⟨R,2,none⟩=some (.bool false):=zA0 hs6.rd rfl
   have c6':w6.cell? ⟨w3.heap.size,1,none⟩=some (.int .i64 (pl L J)):=hk6.cell c5 (by simp;omega)
   have HS6:Hid (St s L R bl cap base w6 (K+1) false):=hs6
   have HK6:Hid (Keep R w1 w6):=HK5.out.trans hk6
   have HN6:Hid (zA9 (From w.heap.size) w6 b (.pointer vb)):=HN5.out.kept hk6 lRw (Nat.le_refl _)
   clear hs6 hk6 c5
   go_wp2_with fail
   refine(HM.out _ (K+1) hK1 (by omega) HS6.out).mono ?_
   rintro e w7 ⟨o,vc,rfl,hD7,hk7,ha7⟩
   have c7:w7.cell? ⟨w3.heap.size,1,none⟩=some (.int .i64 (pl L J)):=hk7.cell c6' (by simp;omega)
   have HD7:Hid (D s L .choice (K+1) o):=hD7
   have HK7:Hid (Keep R w1 w7):=HK6.out.trans hk7
   have HN7:Hid (zA9 (From w.heap.size) w7 b (.pointer vb)):=HN6.out.kept hk7 lRw (Nat.le_refl _)
   have HA7:Hid (zGI s L R bl cap base w6.heap.size w7 o (.pointer vc)):=ha7
   clear hD7 hk7 ha7 c6' c6 c2
   go_wp2_with fail
   go_ret
   cases o with
   | ok ts M=>
    obtain⟨g1,g2,c,rfl,g4⟩:=HA7.out
    exact⟨.ok [.ite (pl L J) t b c] M,_,rfl,.chIf HD.out HQ.out HD5.out HC.out HD7.out,((HK.out.trans HK7.out).alloc _).alloc _,(g1.alloc _).alloc _,g2,_,rfl,node_three (by have:=HK.out.size;have:=HK7.out.size;omega) lRw (HN1.out.kept HK7.out lRw (Nat.le_refl _)) HN7.out (g4.kept (Keep.refl R w7) (zA2 HS6.out.rd) (by have:=HK.out.size;have:=HK6.out.size;omega))⟩
   | bad M=>exact⟨.bad M,_,rfl,.chB3 HD.out HQ.out HD5.out HC.out HD7.out,((HK.out.trans HK7.out).alloc _).alloc _,(HA7.out.1.alloc _).alloc _,HA7.out.2⟩
end
def zHL (b:ByteArray):Prop:=(∀ x∈b.data.toList,zEV x=true)∧b.size≤9
def Good (s:ByteArray)(L:List Tok):Prop:=∀ i,i<L.length→kd L i=110→zHL (tx s L i)
theorem zEN : zHL { data:=#[] }:=⟨by simp,by decide⟩
section
variable (s:ByteArray) (L:List Tok) (R bl cap base:Nat)
def zQA (N:Nat):Prop:=
 ∀ (w:World) (I:Nat),I<L.length→L.length - I≤N→kd L I=97→St s L R bl cap base w I false →
  Calls Tryz.prog 219 #[.pointer (some ⟨R,0,none⟩)] w fun e w'=>∃ (o:Out) (pa:Option Addr),e=.returned (.pointer pa)∧D s L .minus I o∧Keep R w w'∧zGI s L R bl cap base w.heap.size w' o (.pointer pa)
end
theorem node_one {lo R:Nat}{w:World}{va:Value}{p:Nat}{a:Tree}(hb:lo≤w.heap.size)(hR:R<lo)(ha:zA9 (From lo) w a va):
  zA9 (From lo) ((w.alloc (.cells #[va] 31)).alloc (.cells #[.int .u8 126,.int .i64 p,.int .i64 0,.string zAK,.string zAK,.slice (some ⟨w.heap.size,0,none⟩) 1 1] 121)) (.neg p a) (.pointer (some ⟨w.heap.size+1,0,none⟩)):=by
 unfold zA9
 refine⟨va,⟨w.heap.size+1,_,rfl,by show lo≤_;omega,?_,.inr ⟨w.heap.size,1,#[va],rfl,hb,zA3 zBE,by simp,by unfold maxLen;omega,rfl,rfl⟩⟩,ha.moves (zF5 _ _ hR)⟩
 have:=zBE (w:=w.alloc (.cells #[va] 31)) (cs:=#[.int .u8 126,.int .i64 p,.int .i64 0,.string zAK,.string zAK,.slice (some ⟨w.heap.size,0,none⟩) 1 1]) (t:=121)
 simpa using this
theorem node_num {lo b:Nat}{w:World}{p:Nat}{n:Int}(hb:lo≤w.heap.size)(hn:b=w.heap.size):
  zA9 (From lo) (w.alloc (.cells #[.int .u8 35,.int .i64 p,.int .i64 n,.string zAK,.string zAK,.slice none 0 0] 121)) (.num p n) (.pointer (some ⟨b,0,none⟩)):=by
 subst hn
 unfold zA9
 exact⟨w.heap.size,_,rfl,hb,zBE,.inl ⟨rfl,rfl⟩⟩
section
variable {s:ByteArray} {L:List Tok} {R bl cap base:Nat}
set_option maxRecDepth 1000000 in
set_option maxHeartbeats 2000000 in
theorem minus_of (hE:Ends L)(hG:Good s L){N:Nat}(hmin:Con s L R bl cap base 198 .minus N)(hcho:Con s L R bl cap base 60 .choice N)(hcal:zQA s L R bl cap base (N+1)):
  Con s L R bl cap base 198 .minus (N+1):=by
 intro w I hI hN hst
 have hm0:=zEG hst hI
 have HM:Hid (Con s L R bl cap base 198 .minus N):=hmin
 have HC:Hid (Con s L R bl cap base 60 .choice N):=hcho
 have HCA:Hid (zQA s L R bl cap base (N+1)):=hcal
 have HE:Hid (Ends L):=hE
 have HG:Hid (Good s L):=hG
 have HS:Hid (St s L R bl cap base w I false):=hst
 have hlen:=hst.len
 have lRw:R<w.heap.size:=zA2 hst.rd
 have c2:w.cell? ⟨R,2,none⟩=some (.bool false):=zA0 hst.rd rfl
 clear hmin hcho hcal hE hG hst
 have hcs:((kd L I:Int) == 45)=true∧Hid (kd L I=45)∨((kd L I:Int) == 45)=false∧(((kd L I:Int) == 40)=true∧Hid (kd L I=40)∨((kd L I:Int) == 40)=false∧(((kd L I:Int) == 97)=true∧Hid (kd L I=97)∨((kd L I:Int) == 97)=false∧(Hid (kd L I=110)∨Hid (¬ (kd L I=45∨kd L I=40∨kd L I=97∨kd L I=110))))):=by
  by_cases h1:kd L I=45
  ·exact .inl ⟨by simp[h1],h1⟩
  ·refine .inr ⟨by simp;omega,?_⟩
   by_cases h2:kd L I=40
   ·exact .inl ⟨by simp[h2],h2⟩
   ·refine .inr ⟨by simp;omega,?_⟩
    by_cases h3:kd L I=97
    ·exact .inl ⟨by simp[h3],h3⟩
    ·refine .inr ⟨by simp;omega,?_⟩
     by_cases h4:kd L I=110
     ·exact .inl h4
     ·exact .inr (by show ¬ _;omega)
 go_enter Tryz.func198,Tryz.ntmps198
 go_wp2_with fail
 refine hm0.mono ?_
 rintro e w1 ⟨rfl,q,rfl⟩
 clear hm0
 rcases hcs with⟨h1,HQ⟩ | ⟨h1,⟨h2,HQ⟩ | ⟨h2,⟨h3,HQ⟩ | ⟨h3,HQ⟩⟩⟩
 ·have hI1:I+1<L.length:=HE.out.next hI (by have:=HQ.out;omega) (by have:=HQ.out;omega)
  go_wp2_with fail
  refine(zAV (HS.out.drewN q) hI (k:=45) HQ.out).mono ?_
  rintro e w3 ⟨rfl,hs3,hk3⟩
  have HK3:Hid (Keep R w w3):=((Keep.refl R w).drewN q).trans hk3
  have HS3:Hid (St s L R bl cap base w3 (I+1) false):=hs3
  have lR:R<w3.heap.size:=zA2 hs3.rd
  clear hs3 hk3
  go_wp2_with fail
  refine(HM.out _ (I+1) hI1 (by omega) (HS3.out.alloc _)).mono ?_
  rintro e w5 ⟨o,va,rfl,hD5,hk5,ha5⟩
  have c5:w5.cell? ⟨w3.heap.size,1,none⟩=some (.int .i64 (pl L I)):=hk5.cell (World.cell?_alloc_at (w:=w3) _ _ _ _ rfl) (by simp;omega)
  have HD5:Hid (D s L .minus (I+1) o):=hD5
  have HK5:Hid (Keep R w w5):=(HK3.out.alloc _).trans hk5
  have HA5:Hid (zGI s L R bl cap base (w3.heap.size+1) w5 o (.pointer va)):=by simp at ha5;exact ha5
  clear hD5 hk5 ha5
  go_wp2_with fail
  go_ret
  cases o with
  | ok ts K=>
   obtain⟨g1,g2,b,rfl,g4⟩:=HA5.out
   exact⟨.ok [.neg (pl L I) b] K,_,rfl,.ngGo HQ.out HD5.out,(HK5.out.alloc _).alloc _,(g1.alloc _).alloc _,g2,_,rfl,node_one (by have:=HK5.out.size;omega) lRw (g4.kept (Keep.refl R w5) (by omega) (by have:=HK3.out.size;omega))⟩
  | bad K=>exact⟨.bad K,_,rfl,.ngBad HQ.out HD5.out,(HK5.out.alloc _).alloc _,(HA5.out.1.alloc _).alloc _,HA5.out.2⟩
 ·have hI1:I+1<L.length:=HE.out.next hI (by have:=HQ.out;omega) (by have:=HQ.out;omega)
  go_wp2_with fail
  refine(zAV (HS.out.drewN q) hI (k:=40) HQ.out).mono ?_
  rintro e w3 ⟨rfl,hs3,hk3⟩
  have HK3:Hid (Keep R w w3):=((Keep.refl R w).drewN q).trans hk3
  have HS3:Hid (St s L R bl cap base w3 (I+1) false):=hs3
  clear hs3 hk3
  go_wp2_with fail
  refine(HC.out _ (I+1) hI1 (by omega) HS3.out).mono ?_
  rintro e w5 ⟨o,va,rfl,hD5,hk5,ha5⟩
  have HD5:Hid (D s L .choice (I+1) o):=hD5
  have HK5:Hid (Keep R w w5):=HK3.out.trans hk5
  clear hD5 hk5
  cases o with
  | bad K=>
   obtain⟨hs5,hK⟩:=ha5
   have HS5:Hid (St s L R bl cap base w5 K true):=hs5
   clear hs5
   go_wp2_with fail
   refine(zEF HS5.out hK 41).mono ?_
   rintro e w6 ⟨rfl,hs6,hk6⟩
   have HS6:Hid (St s L R bl cap base w6 K true):=hs6
   have HK6:Hid (Keep R w w6):=HK5.out.trans hk6
   clear hs6 hk6
   go_wp2
   go_ret
   exact⟨.bad K,_,rfl,.paBad HQ.out HD5.out,HK6.out,HS6.out,hK⟩
  | ok ts K=>
   obtain⟨hs5,hK,b,rfl,hn5⟩:=ha5
   have HS5:Hid (St s L R bl cap base w5 K false):=hs5
   have HN5:Hid (zA9 (From w.heap.size) w5 b (.pointer va)):=hn5.kept (Keep.refl R w5) (zA2 HS3.out.rd) HK3.out.size
   clear hs5 hn5
   by_cases hc:kd L K=41
   ·have HP:Hid (kd L K=41):=hc
    clear hc
    have hK1:K+1<L.length:=HE.out.next hK (by have:=HP.out;omega) (by have:=HP.out;omega)
    go_wp2_with fail
    refine(zAV HS5.out hK (k:=41) HP.out).mono ?_
    rintro e w6 ⟨rfl,hs6,hk6⟩
    have HS6:Hid (St s L R bl cap base w6 (K+1) false):=hs6
    have HK6:Hid (Keep R w w6):=HK5.out.trans hk6
    have HN6:Hid (zA9 (From w.heap.size) w6 b (.pointer va)):=HN5.out.kept hk6 lRw (Nat.le_refl _)
    clear hs6 hk6
    go_wp2
    go_ret
    exact⟨.ok [b] (K+1),_,rfl,.paGo HQ.out HD5.out HP.out,HK6.out,HS6.out,hK1,b,rfl,HN6.out⟩
   ·have HP:Hid (kd L K≠41):=hc
    clear hc
    go_wp2_with fail
    refine(zD0 HS5.out hK (k:=41) HP.out).mono ?_
    rintro e w6 ⟨rfl,hs6,hk6⟩
    have HS6:Hid (St s L R bl cap base w6 K true):=hs6
    have HK6:Hid (Keep R w w6):=HK5.out.trans hk6
    clear hs6 hk6
    go_wp2
    go_ret
    exact⟨.bad K,_,rfl,.paB1 HQ.out HD5.out HP.out,HK6.out,HS6.out,hK⟩
 ·go_wp2_with fail
  refine(HCA.out _ I hI hN HQ.out (HS.out.drewN q)).mono ?_
  rintro e w5 ⟨o,va,rfl,hD5,hk5,ha5⟩
  have HD5:Hid (D s L .minus I o):=hD5
  have HK5:Hid (Keep R w w5):=((Keep.refl R w).drewN q).trans hk5
  have HA5:Hid (zGI s L R bl cap base w.heap.size w5 o (.pointer va)):=ha5
  clear hD5 hk5 ha5
  go_wp2
  go_ret
  exact⟨o,_,rfl,HD5.out,HK5.out,HA5.out⟩
 ·rcases HQ with HQ | HQ
  ·have hI1:I+1<L.length:=HE.out.next hI (by have:=HQ.out;omega) (by have:=HQ.out;omega)
   have hdg:=HG.out I hI HQ.out
   go_wp2_with fail
   refine(zAV (HS.out.drewN q) hI (k:=110) HQ.out).mono ?_
   rintro e w3 ⟨rfl,hs3,hk3⟩
   have HK3:Hid (Keep R w w3):=((Keep.refl R w).drewN q).trans hk3
   have HS3:Hid (St s L R bl cap base w3 (I+1) false):=hs3
   clear hs3 hk3
   go_wp2_with (first | (go_at_call 220;refine(zHT _ _ hdg.1 hdg.2).mono ?_;rintro e w' ⟨rfl,hw⟩;have hw:=hw.symm;subst hw))
   go_ret
   exact⟨.ok [.num (pl L I) (zDO (tx s L I).data.toList)] (I+1),_,rfl,.nuGo HQ.out,(HK3.out.alloc _).alloc _,(HS3.out.alloc _).alloc _,hI1,_,rfl,node_num (by have:=HK3.out.size;simp;omega) (by simp)⟩
  ·go_wp2_with fail
   refine(zD0 (HS.out.drewN q) hI (k:=110) (by have:=HQ.out;omega)).mono ?_
   rintro e w3 ⟨rfl,hs3,hk3⟩
   have HK3:Hid (Keep R w w3):=((Keep.refl R w).drewN q).trans hk3
   have HS3:Hid (St s L R bl cap base w3 I true):=hs3
   clear hs3 hk3
   go_wp2_with (first | (go_at_call 220;refine(zHT _ _ zEN.1 zEN.2).mono ?_;rintro e w' ⟨rfl,hw⟩;have hw:=hw.symm;subst hw))
   go_ret
   exact⟨.bad I,_,rfl,.noGo HQ.out,(HK3.out.alloc _).alloc _,(HS3.out.alloc _).alloc _,hI⟩
end
def zCW (s:ByteArray)(L:List Tok)(I:Nat)(b:Bool)(k I':Nat)(b':Bool)(kt pt:Nat)(tt:ByteArray):Prop:=
 (b=true∧I'=I∧b'=true∧kt=0∧pt=0∧tt={ data:=#[] })∨(b=false∧kd L I=k∧I'=I+1∧b'=false∧kt=k∧pt=pl L I∧tt=tx s L I)∨(b=false∧kd L I≠k∧I'=I∧b'=true∧kt=0∧pt=0∧tt={ data:=#[] })
theorem zCW.lt {s:ByteArray}{L:List Tok}{I I' k kt pt:Nat}{b b':Bool}{tt:ByteArray}(h:zCW s L I b k I' b' kt pt tt)(hE:Ends L)(hI:I<L.length)(h1:k≠101)(h2:k≠33):I'<L.length:=by
 rcases h with⟨-,rfl,-⟩ | ⟨-,hk,rfl,-⟩ | ⟨-,-,rfl,-⟩
 ·exact hI
 ·exact hE.next hI (by omega) (by omega)
 ·exact hI
theorem zCW.digits {s:ByteArray}{L:List Tok}{I I' kt pt:Nat}{b b':Bool}{tt:ByteArray}(h:zCW s L I b 110 I' b' kt pt tt)(hG:Good s L)(hI:I<L.length):zHL tt:=by
 rcases h with⟨-,-,-,-,-,rfl⟩ | ⟨-,hk,-,-,-,-,rfl⟩ | ⟨-,-,-,-,-,-,rfl⟩
 ·exact zEN
 ·exact hG I hI hk
 ·exact zEN
theorem zCW.bad {s:ByteArray}{L:List Tok}{I k I' kt pt:Nat}{b':Bool}{tt:ByteArray}(h:zCW s L I true k I' b' kt pt tt):I'=I∧b'=true:=by
 rcases h with⟨-,h1,h2,-⟩ | ⟨h,-⟩ | ⟨h,-⟩
 ·exact⟨h1,h2⟩
 ·cases h
 ·cases h
theorem zCW.good {s:ByteArray}{L:List Tok}{I k I' kt pt:Nat}{b':Bool}{tt:ByteArray}(h:zCW s L I false k I' b' kt pt tt):(kd L I=k∧I'=I+1∧b'=false∧tt=tx s L I)∨(kd L I≠k∧I'=I∧b'=true):=by
 rcases h with⟨h,-⟩ | ⟨-,h1,h2,h3,-,-,h4⟩ | ⟨-,h1,h2,h3,-⟩
 ·cases h
 ·exact .inl ⟨h1,h2,h3,h4⟩
 ·exact .inr ⟨h1,h2,h3⟩
section
variable {s:ByteArray} {L:List Tok} {R bl cap base:Nat}
theorem zHO {w:World}{I:Nat}{b:Bool}(h:St s L R bl cap base w I b)(hI:I<L.length)(k:Nat):
  Calls Tryz.prog 61 #[.pointer (some ⟨R,0,none⟩),.int .u8 k] w fun e w'=>∃ (I':Nat) (b':Bool) (kt pt:Nat) (tt:ByteArray),e=.returned (zDD kt pt tt)∧zCW s L I b k I' b' kt pt tt∧St s L R bl cap base w' I' b'∧Keep R w w':=by
 cases b with
 | true=>exact(zEF h hI k).mono fun e w' ⟨h1,h2,h3⟩=>⟨I,true,0,0,_,h1,.inl ⟨rfl,rfl,rfl,rfl,rfl,rfl⟩,h2,h3⟩
 | false=>
  by_cases hk:kd L I=k
  ·exact(zAV h hI hk).mono fun e w' ⟨h1,h2,h3⟩=>⟨I+1,false,k,_,_,h1,.inr (.inl ⟨rfl,hk,rfl,rfl,rfl,rfl,rfl⟩),h2,h3⟩
  ·exact(zD0 h hI hk).mono fun e w' ⟨h1,h2,h3⟩=>⟨I,true,0,0,_,h1,.inr (.inr ⟨rfl,hk,rfl,rfl,rfl,rfl,rfl⟩),h2,h3⟩
def zBL (w:World)(b k p:Nat)(n:Int)(word metric:ByteArray)(pv:Value):Prop:=w.heap[b]?=some (.cells #[.int .u8 k,.int .i64 p,.int .i64 n,.string word,.string metric,pv] 121 (0,0))
set_option maxRecDepth 1000000 in
set_option maxHeartbeats 2000000 in
theorem zOO (hE:Ends L)(hG:Good s L){w:World}{I:Nat}(hI:I<L.length)(hk:kd L I=97)(hm:isMeasure (tx s L I)=true)(hst:St s L R bl cap base w I false):
  Calls Tryz.prog 219 #[.pointer (some ⟨R,0,none⟩)] w fun e w'=>∃ (o:Out) (pa:Option Addr),e=.returned (.pointer pa)∧D s L .minus I o∧Keep R w w'∧zGI s L R bl cap base w.heap.size w' o (.pointer pa):=by
 have hlen:=hst.len
 have hbR:=hst.hR
 have hI1:I+1<L.length:=hE.next hI (by omega) (by omega)
 have HE:Hid (Ends L):=hE
 have HG:Hid (Good s L):=hG
 have HS:Hid (St s L R bl cap base w I false):=hst
 have HA:Hid (kd L I=97):=hk
 have HME:Hid (isMeasure (tx s L I)=true):=hm
 clear hE hG hst hk
 go_enter Tryz.func219,Tryz.ntmps219
 go_wp2_with fail
 refine(zAV HS.out hI (k:=97) HA.out).mono ?_
 rintro e w1 ⟨rfl,hs1,hk1⟩
 have HK1:Hid (Keep R w w1):=hk1
 have HS1:Hid (St s L R bl cap base w1 (I+1) false):=hs1
 have l1:R<w1.heap.size:=zA2 hs1.rd
 clear hs1 hk1
 go_wp2_with fail
 refine(zHO (HS1.out.alloc _) hI1 40).mono ?_
 rintro e w2 ⟨I2,b2,kt2,pt2,tt2,rfl,hr2,hs2,hk2⟩
 have hI2:=hr2.lt HE.out hI1 (by omega) (by omega)
 have HR2:Hid (zCW s L (I+1) false 40 I2 b2 kt2 pt2 tt2):=hr2
 have HK2:Hid (Keep R w w2):=(HK1.out.alloc _).trans hk2
 have HS2:Hid (St s L R bl cap base w2 I2 b2):=hs2
 have a1:w2.cell? ⟨w1.heap.size,1,none⟩=some (.int .i64 (pl L I)):=hk2.cell (World.cell?_alloc_at (w:=w1) _ _ _ _ rfl) (by simp;omega)
 have a2:w2.cell? ⟨w1.heap.size,2,none⟩=some (.string (tx s L I)):=hk2.cell (World.cell?_alloc_at (w:=w1) _ _ _ _ rfl) (by simp;omega)
 have l12:w1.heap.size<w2.heap.size:=World.block_lt_of_cell? _ _ a1
 have hsz2:=hs2.size
 clear hs2 hk2 hr2
 go_wp2_with (first | (go_at_call 233;refine(zGS _ _).mono ?_;rintro e w' ⟨rfl,hw⟩;subst hw))
 refine(zHO (HS2.out.alloc _) hI2 97).mono ?_
 rintro e w3 ⟨I3,b3,kt3,pt3,tt3,rfl,hr3,hs3,hk3⟩
 have hI3:=hr3.lt HE.out hI2 (by omega) (by omega)
 have HR3:Hid (zCW s L I2 b2 97 I3 b3 kt3 pt3 tt3):=hr3
 have n3:zBL w3 w2.heap.size 109 (pl L I) 0 (tx s L I) { data:=#[] } (.slice none 0 0):=hk3.heap zBE (by omega)
 have HK3:Hid (Keep R w w3):=(HK2.out.alloc _).trans hk3
 have HS3:Hid (St s L R bl cap base w3 I3 b3):=hs3
 have m3:=zA0 (i:=4) n3 rfl
 have f3:=zA1 (i:=4) n3
 have l3:=zA2 n3
 have HN3:Hid (zBL w3 w2.heap.size 109 (pl L I) 0 (tx s L I) { data:=#[] } (.slice none 0 0)):=n3
 clear hs3 hk3 hr3 n3 a1 a2
 go_wp2_with fail
 have HW4:Hid (Keep R w ((w3.setCell ⟨w2.heap.size,4,none⟩ (.string tt3)).alloc (.cells #[.int .u8 kt3,.int .i64 pt3,.string tt3] 169))):=(HK3.out.setNew (by have:=HK2.out.size;simp;omega) _).alloc _
 have HN4:Hid (zBL ((w3.setCell ⟨w2.heap.size,4,none⟩ (.string tt3)).alloc (.cells #[.int .u8 kt3,.int .i64 pt3,.string tt3] 169)) w2.heap.size 109 (pl L I) 0 (tx s L I) tt3 (.slice none 0 0)):=zA3 (zA4 HN3.out)
 refine(zHO ((HS3.out.setNew (a:=⟨w2.heap.size,4,none⟩) hsz2 (.string tt3)).alloc _) hI3 44).mono ?_
 rintro e w5 ⟨I5,b5,kt5,pt5,tt5,rfl,hr5,hs5,hk5⟩
 have hI5:=hr5.lt HE.out hI3 (by omega) (by omega)
 have HR5:Hid (zCW s L I3 b3 44 I5 b5 kt5 pt5 tt5):=hr5
 have HN5:Hid (zBL w5 w2.heap.size 109 (pl L I) 0 (tx s L I) tt3 (.slice none 0 0)):=hk5.heap HN4.out (by omega)
 have HK5:Hid (Keep R w w5):=HW4.out.trans hk5
 have HS5:Hid (St s L R bl cap base w5 I5 b5):=hs5
 clear hs5 hk5 hr5 HN4 HW4 m3 f3
 go_wp2_with fail
 refine(zHO HS5.out hI5 110).mono ?_
 rintro e w6 ⟨I6,b6,kt6,pt6,tt6,rfl,hr6,hs6,hk6⟩
 have hI6:=hr6.lt HE.out hI5 (by omega) (by omega)
 have hdg:=hr6.digits HG.out hI5
 have HR6:Hid (zCW s L I5 b5 110 I6 b6 kt6 pt6 tt6):=hr6
 have n6:zBL w6 w2.heap.size 109 (pl L I) 0 (tx s L I) tt3 (.slice none 0 0):=hk6.heap HN5.out (by omega)
 have HN6:Hid (zBL w6 w2.heap.size 109 (pl L I) 0 (tx s L I) tt3 (.slice none 0 0)):=n6
 have HK6:Hid (Keep R w w6):=HK5.out.trans hk6
 have HS6:Hid (St s L R bl cap base w6 I6 b6):=hs6
 have m6:=zA0 (i:=2) n6 rfl
 have f6:=zA1 (i:=2) n6
 have l6:=zA2 n6
 clear hs6 hk6 hr6 n6
 go_wp2_with (first | (go_at_call 220;refine(zHT _ _ hdg.1 hdg.2).mono ?_;rintro e w' ⟨rfl,hw⟩;subst hw))
 have HW7:Hid (Keep R w ((w6.setCell ⟨w2.heap.size,2,none⟩ (.int .i64 (zDO tt6.data.toList))).alloc (.cells #[.int .u8 kt6,.int .i64 pt6,.string tt6] 169))):=(HK6.out.setNew (by have:=HK2.out.size;simp;omega) _).alloc _
 have HN7:Hid (zBL ((w6.setCell ⟨w2.heap.size,2,none⟩ (.int .i64 (zDO tt6.data.toList))).alloc (.cells #[.int .u8 kt6,.int .i64 pt6,.string tt6] 169)) w2.heap.size 109 (pl L I) (zDO tt6.data.toList) (tx s L I) tt3 (.slice none 0 0)):=zA3 (zA4 HN6.out)
 refine(zHO ((HS6.out.setNew (a:=⟨w2.heap.size,2,none⟩) hsz2 (.int .i64 (zDO tt6.data.toList))).alloc _) hI6 41).mono ?_
 rintro e w8 ⟨I8,b8,kt8,pt8,tt8,rfl,hr8,hs8,hk8⟩
 have hI8:=hr8.lt HE.out hI6 (by omega) (by omega)
 have HR8:Hid (zCW s L I6 b6 41 I8 b8 kt8 pt8 tt8):=hr8
 have HN8:Hid (zBL w8 w2.heap.size 109 (pl L I) (zDO tt6.data.toList) (tx s L I) tt3 (.slice none 0 0)):=hk8.heap HN7.out (by omega)
 have HK8:Hid (Keep R w w8):=HW7.out.trans hk8
 have HS8:Hid (St s L R bl cap base w8 I8 b8):=hs8
 clear hs8 hk8 hr8 HN7 HW7 m6 f6
 go_wp2
 go_ret
 have hk:=HA.out
 have hm:=HME.out
 have bad:∀ J,I8=J→b8=true→D s L .minus I (.bad J)→∃ (o:Out) (pa:Option Addr),Ending.returned (.pointer (some ⟨w2.heap.size,0,none⟩))=.returned (.pointer pa)∧D s L .minus I o∧Keep R w w8∧zGI s L R bl cap base w.heap.size w8 o (.pointer pa):=by
  rintro J rfl rfl hd
  exact⟨.bad I8,_,rfl,hd,HK8.out,HS8.out,hI8⟩
 have r2:=HR2.out
 have r3:=HR3.out
 have r5:=HR5.out
 have r6:=HR6.out
 have r8:=HR8.out
 rcases r2.good with⟨k2,rfl,rfl,-⟩ | ⟨k2,rfl,rfl⟩
 rotate_left 1
 ·obtain⟨rfl,rfl⟩:=r3.bad
  obtain⟨rfl,rfl⟩:=r5.bad
  obtain⟨rfl,rfl⟩:=r6.bad
  obtain⟨e8,d8⟩:=r8.bad
  exact bad _ e8 d8 (.caB1 hk k2)
 rcases r3.good with⟨k3,rfl,rfl,rfl⟩ | ⟨k3,rfl,rfl⟩
 rotate_left 1
 ·obtain⟨rfl,rfl⟩:=r5.bad
  obtain⟨rfl,rfl⟩:=r6.bad
  obtain⟨e8,d8⟩:=r8.bad
  exact bad _ e8 d8 (.meB2 hk k2 hm k3)
 rcases r5.good with⟨k5,rfl,rfl,-⟩ | ⟨k5,rfl,rfl⟩
 rotate_left 1
 ·obtain⟨rfl,rfl⟩:=r6.bad
  obtain⟨e8,d8⟩:=r8.bad
  exact bad _ e8 d8 (.meB3 hk k2 hm k3 k5)
 rcases r6.good with⟨k6,rfl,rfl,rfl⟩ | ⟨k6,rfl,rfl⟩
 rotate_left 1
 ·obtain⟨e8,d8⟩:=r8.bad
  exact bad _ e8 d8 (.meB4 hk k2 hm k3 k5 k6)
 rcases r8.good with⟨k8,rfl,rfl,-⟩ | ⟨k8,e8,d8⟩
 ·refine⟨.ok [.meas (pl L I) (tx s L I) (tx s L (I+2)) (zDO (tx s L (I+4)).data.toList)] (I+6),_,rfl,.meGo hk k2 hm k3 k5 k6 k8,HK8.out,HS8.out,hI8,_,rfl,?_⟩
  unfold zA9
  exact⟨w2.heap.size,_,rfl,HK2.out.size,HN8.out,.inl ⟨rfl,rfl⟩⟩
 ·exact bad _ e8 d8 (.meB5 hk k2 hm k3 k5 k6 k8)
end
end Go.Proofs.YtbokdbaagacnlaaGreatDoor
namespace Go.Proofs.YtbokdbaagacnlaaGreatDoor
open Go.RowKit
theorem zM3 {P:Program}(w:World)(base:Nat)(t ty e:TypeId)(i:TypeInfo)(z:Value)(size bytes:Nat)(ht:P.underlying t=some (.slice e))(hi:P.info? e=some i)(hz:i.zero=some z)
  (hsize:i.size=size) (hby:i.bytes=bytes) (hzs:z.cells.size=size) (hsz:0<size)
  (v:Value) (n:Nat) (xs:List Value) (hown:w.ownsRow base e size v n xs)
  (a:Addr) (m c:Nat) (news:List Value) (hl:news.length=m * size) (hnews:∀ j u,news[j]?=some u→w.cell? (a.add j)=some u) (h1:∀ u∈news,u.oneCell'=true)
  (h63:n+m≤maxLen) (hbytes:(n+m) * bytes≤140737488355328) (hbase:base≤w.heap.size) (hm:0<m):
  ∃ v' w',(Builtin.append_ #[t,t] ty #[v,.slice (some a) m c]).run P w=.ok v' w'∧w'.ownsRow base e size v' (n+m) (xs ++ news)∧w.grownBy w' v.ownBlock∧(v'.ownBlock=v.ownBlock∨v'.ownBlock=some w.heap.size):=by
 obtain⟨v',w',hr,h2,h3,-⟩:=run_append_own (P:=P) w base t ty e i z size bytes ht hi hz hsize hby hzs hsz v n xs hown a m c news hl hnews h1 h63 hbytes hbase
 refine⟨v',w',hr,h2,h3,?_⟩
 subst hsize
 subst hby
 have hsmall:n+m≤9223372036854775807:=by simp only[maxLen] at h63;omega
 rcases hown.2 with⟨rfl,rfl⟩ | ⟨g,cap,cur,rfl,hbg,hg,hnc,hcm,hcs,htake⟩
 ·have hr2:=run_append_nil (P:=P) w t ty e i z ht hi hz a m c news hl hnews (by omega) (by omega) (by have hb:=hbytes;simp only[Nat.zero_add] at hb;omega)
  rw[hr] at hr2
  injection hr2 with e1 e2
  subst e1
  exact .inr rfl
 ·by_cases hroom:n+m≤cap
  ·have hfit:n * i.size+news.length≤cur.size:=by rw[hl,hcs,←Nat.add_mul];exact Nat.mul_le_mul_right _ hroom
   have hr2:=run_append_room (P:=P) w t ty e i ht hi g n cap cur hg a m c news hl hnews h1 hroom hfit
   rw[hr] at hr2
   injection hr2 with e1 e2
   subst e1
   exact .inl rfl
  ·have holds:∀ j u,xs[j]?=some u→w.cell? ((⟨g,0,none⟩:Addr).add j)=some u:=hown.cells (g:=g) rfl
   have hr2:=run_append_grow (P:=P) w t ty e i z ht hi hz ⟨g,0,none⟩ n cap xs hown.1 holds a m c news hl hnews (by omega) (by omega) (growslice_fits (by omega) hbytes)
   rw[hr] at hr2
   injection hr2 with e1 e2
   subst e1
   exact .inr rfl
theorem zAA {P:Program}(w:World){ops:Array Oper}{rest:List Oper}{o:Oper}{a:Act}{Q:Exit→Act→World→Prop}(hgd:o.guard=none)(s x:Operand)(t:TypeId)
  (ho:o.op=.call { callee:=.builtin .append,args:=#[s,x],argTypes:=#[t,t] })
  (base:Nat) (e:TypeId) (i:TypeInfo) (z:Value) (size bytes:Nat) (ht:P.underlying t=some (.slice e)) (hi:P.info? e=some i) (hz:i.zero=some z)
  (hsize:i.size=size) (hby:i.bytes=bytes) (hzs:z.cells.size=size) (hsz:0<size)
  (v:Value) (n:Nat) (xs:List Value) (hs:a.eval s=v) (hown:w.ownsRow base e size v n xs)
  (ad:Addr) (m c:Nat) (news:List Value) (hx:a.eval x=.slice (some ad) m c) (hl:news.length=m * size) (hnews:∀ j u,news[j]?=some u→w.cell? (ad.add j)=some u) (h1:∀ u∈news,u.oneCell'=true)
  (h63:n+m≤maxLen) (hbytes:(n+m) * bytes≤140737488355328) (hbase:base≤w.heap.size) (hm:0<m)
  (h:∀ v' w',w'.ownsRow base e size v' (n+m) (xs ++ news)→w.grownBy w' v.ownBlock→(v'.ownBlock=v.ownBlock∨v'.ownBlock=some w.heap.size)→wpList P ops Q rest (a.put o.dst v') w'):wpList P ops Q (o :: rest) a w:=by
 refine wpList_plain hgd fun K hK=>?_
 obtain⟨v',w',hr,h2,h3,h4⟩:=zM3 (P:=P) w base t o.type e i z size bytes ht hi hz hsize hby hzs hsz v n xs hown ad m c news hl hnews h1 h63 hbytes hbase hm
 unfold Oper.wp execOp
 simp only[ho,resolve,invoke,builtin,Sem.run_bind,Sem.run_pure,Result.andThen_ok,List.map_toArray,List.map_cons,List.map_nil,hs,hx,hr]
 exact hK _ _ (h v' w' h2 h3 h4)
end Go.Proofs.YtbokdbaagacnlaaGreatDoor
