import Derived.Test.YtbokdbaagacnlaaGreatDoorJQ8
import Derived.Test.YtbokdbaagacnlaaGreatDoorJQ14
import Derived.Lib.AppendStr
import Derived.Deep.AppendLies
import Derived.Deep.RegionHeldLaw
import Derived.Deep.RegionHeld3
namespace Go.Proofs.YtbokdbaagacnlaaGreatDoor
open Go.RowKit Go.Lib
def zB1 (l:List UInt8):List Value:=l.map fun b=>Value.int .u8 b.toNat
theorem zHI (a b:List UInt8):zB1 (a ++ b)=zB1 a ++ zB1 b:=by simp[zB1]
theorem Tryz.infoByte : (Tryz.prog.info? 5).map (fun i=>(i.zero,i.size,i.bytes))=some (some (.int .u8 0),1,1):=by kernel_rfl
abbrev Out8 (B:Nat)(w:World)(v:Value)(l:List UInt8):Prop:=w.ownsRow B 5 1 v l.length (zB1 l)
theorem Out8.nil (B:Nat)(w:World):Out8 B w (.slice none 0 0) []:=World.ownsRow_nil _ _ _ _
theorem zEK {w w':World}{B e size n:Nat}{v:Value}{xs:List Value}(ho:w.ownsRow B e size v n xs)(hg:w.grownBy w' v.ownBlock)(hB:B≤w.heap.size):Below B w w':=
 ⟨hg.os,hg.tape,hg.output,hg.size,fun k hk=>hg.block k (by omega) fun e=>by have:=(ho.lt k e.symm).1;omega⟩
structure W8 (B:Nat) (w w':World):Prop where
 below:Below B w w'
 kind:∀ (k:Nat) (cs:Array Value) (T:TypeId) (z:Nat × Nat),w.heap[k]?=some (.cells cs T z)→T≠5→w'.heap[k]?=some (.cells cs T z)
namespace W8
variable {B:Nat} {w w1 w2:World}
theorem refl (B:Nat)(w:World):W8 B w w:=⟨.refl _ _,fun _ _ _ _ h _=>h⟩
theorem trans (h:W8 B w w1)(k:W8 B w1 w2):W8 B w w2:=⟨h.below.trans k.below,fun b cs T z hb hT=>k.kind b cs T z (h.kind b cs T z hb hT) hT⟩
theorem alloc (h:W8 B w w1)(hB:B≤w1.heap.size)(o:Obj):W8 B w (w1.alloc o):=⟨h.below.alloc hB o,fun b cs T z hb hT=>zA3 (h.kind b cs T z hb hT)⟩
theorem drew (h:W8 B w w1):W8 B w w1.drew:=⟨h.below.drew,fun b cs T z hb hT=>h.kind b cs T z hb hT⟩
theorem grown {n:Nat}{v:Value}{xs:List Value}(ho:w.ownsRow B 5 1 v n xs)(hg:w.grownBy w1 v.ownBlock)(hB:B≤w.heap.size):W8 B w w1:=
 ⟨zEK ho hg hB,fun b cs T z hb hT=>(hg.block b (zA2 hb) fun e=>by
  obtain⟨c,fz,q⟩:=ownsRow_kind ho b e.symm
  rw[hb] at q
  injection q with q
  injection q with _ q
  exact hT q).trans hb⟩
theorem size (h:W8 B w w1):w.heap.size≤w1.heap.size:=h.below.size
end W8
theorem zBU {w:World}{o:Obj}{x:Value}{t:TypeId}(h:o=.cells #[x] t):∀ j u,[x][j]?=some u→(w.alloc o).cell? ((⟨w.heap.size,0,none⟩:Addr).add j)=some u:=by
 subst h
 intro j u hu
 cases j with
 | zero=>
  simp at hu
  subst hu
  exact zA0 (heap_alloc_new _ _) rfl
 | succ j=>simp at hu
theorem zMX (n:Nat):zB1 [UInt8.ofNat n]=[.int .u8 ((n:Int) % 256)]:=by simp[zB1]
theorem Out8.push {B:Nat}{w w1 w2:World}{v v':Value}{l:List UInt8}{b:UInt8}{x:Value}(hb:W8 B w w1)(ho:Out8 B w1 v l)(hB:B≤w1.heap.size)(hx:zB1 [b]=[x])
  (h2:w2.ownsRow B 5 1 v' (l.length+1) (zB1 l ++ [x])) (hg:w1.grownBy w2 v.ownBlock):Out8 B w2 v' (l ++ [b])∧W8 B w w2:=by
 refine⟨?_,hb.trans (.grown ho hg hB)⟩
 unfold Out8
 rw[zHI,hx,List.length_append]
 exact h2
section
variable {B:Nat} {w:World} {v:Value} {l:List UInt8}
set_option maxRecDepth 1000000 in
theorem zDW (ho:Out8 B w v l)(hB:B≤w.heap.size)(hl:l.length≤1000000)(p:Nat):
  Calls Tryz.prog 140 #[v,.agg #[.int .i64 p]] w fun e w'=>∃ v',e=.returned v'∧Out8 B w' v' (l ++ [UInt8.ofNat p])∧W8 B w w':=by
 obtain⟨i0,hi,hz0,hz1,hz2⟩:=info_parts Tryz.infoByte
 have HO:Hid (Out8 B w v l):=ho
 clear ho
 go_enter Tryz.func140,Tryz.ntmps140
 go_wp2_with (first | (at_builtin;refine zAA _ rfl _ _ 111 rfl B 5 i0 (.int .u8 0) 1 1 Tryz.underlying111 hi hz0 hz1 hz2 rfl (by decide) v l.length (zB1 l) rfl ((HO.out.alloc _).alloc _) ⟨(w.alloc (.cells #[.int .i64 p] 153)).heap.size,0,none⟩ 1 1 [.int .u8 ((p:Int) % 256)] (by simp[Act.eval]) rfl (zBU rfl) (fun x hx=>by simp at hx;subst hx;rfl) (by unfold maxLen;omega) (by omega) (by simp;omega) (by decide) ?_;intro v' w5 hown hgrow hnil;have Q:Hid _:=Out8.push (((W8.refl B w).alloc hB _).alloc (by simp;omega) _) ((HO.out.alloc _).alloc _) (by simp;omega) (zMX p) hown hgrow;clear hown hgrow hnil) | fail)
 go_ret
 exact⟨_,rfl,Q.out⟩
set_option maxRecDepth 1000000 in
theorem zEO (ho:Out8 B w v l)(hB:B≤w.heap.size)(hl:l.length≤1000000)(s:ByteArray)(hs:s.size≤1000):
  Calls Tryz.prog 139 #[v,.string s] w fun e w'=>∃ v',e=.returned v'∧Out8 B w' v' (l ++ zH4 s)∧W8 B w w':=by
 obtain⟨i0,hi,hz0,hz1,hz2⟩:=info_parts Tryz.infoByte
 have HO:Hid (Out8 B w v l):=ho
 clear ho
 go_enter Tryz.func139,Tryz.ntmps139
 go_wp2_with (first
   | (at_builtin;refine zAA _ rfl _ _ 111 rfl B 5 i0 (.int .u8 0) 1 1 Tryz.underlying111 hi hz0 hz1 hz2 rfl (by decide) v l.length (zB1 l) rfl (HO.out.alloc _) ⟨w.heap.size,0,none⟩ 1 1 [.int .u8 ((s.size:Int) % 256)] (by simp[Act.eval]) rfl (zBU rfl) (fun x hx=>by simp at hx;subst hx;rfl) (by unfold maxLen;omega) (by omega) (by simp;omega) (by decide) ?_;intro v' w5 hown hgrow hnil;have hQ:=Out8.push ((W8.refl B w).alloc hB _) (HO.out.alloc _) (by simp;omega) (zMX s.size) hown hgrow;have Q:Hid _:=hQ;have hB5:B≤w5.heap.size:=Nat.le_trans hB hQ.2.size;clear hown hgrow hnil hQ)
   | (at_builtin;refine wpList_append_own_string _ rfl _ _ 111 9 rfl B 5 i0 Tryz.underlying111 Tryz.underlying9 hi hz0 hz1 hz2 v' (l.length+1) (zB1 (l ++ [UInt8.ofNat s.size])) rfl (by have:=Q.out.1;unfold Out8 at this;rw[List.length_append] at this;exact this) s rfl (by unfold maxLen;omega) (by omega) hB5 ?_;intro v2 w6 hown2 hgrow2 hnil2;have Q2:Hid _:=And.intro hown2 hgrow2;clear hown2 hgrow2 hnil2)
   | fail)
 go_ret
 refine⟨_,rfl,?_,Q.out.2.trans (.grown Q.out.1 Q2.out.2 hB5)⟩
 have:=Q2.out.1
 unfold Out8 zH4
 rw[show l ++ UInt8.ofNat s.size :: s.data.toList=l ++ [UInt8.ofNat s.size] ++ s.data.toList by simp,zHI,List.length_append,List.length_append,show s.data.toList.length=s.size by simp]
 exact this
set_option maxRecDepth 1000000 in
theorem zF8 (ho:Out8 B w v l)(hB:B≤w.heap.size)(hl:l.length≤1000000){n:Int}(h0:0≤n)(h1:n<1000000000):
  Calls Tryz.prog 136 #[v,.int .i64 n] w fun e w'=>∃ v',e=.returned v'∧Out8 B w' v' (l ++ be4 n)∧W8 B w w':=by
 obtain⟨i0,hi,hz0,hz1,hz2⟩:=info_parts Tryz.infoByte
 have HO:Hid (Out8 B w v l):=ho
 clear ho
 go_enter Tryz.func136,Tryz.ntmps136
 go_wp2_with fail
 go_loopw [0,6] (fun v0 v6 wr=>∃ k:Nat,v6=.int .i64 k∧k≤4∧Hid (Out8 B wr v0 (l ++ (be4 n).take k)∧W8 B w wr)) (fun _ v6 _=>4 - (intOf v6).toNat)
 case atStart=>exact⟨0,rfl,by omega,by simpa using HO.out,W8.refl _ _⟩
 case round=>
  obtain⟨k,rfl,hk,HR⟩:=hrel
  by_cases h4:k=4
  ·subst h4
   go_wp2
   go_ret
   exact⟨_,rfl,by simpa[be4] using HR.out.1,HR.out.2⟩
  ·have hk3:k=0∨k=1∨k=2∨k=3:=by omega
   rcases hk3 with rfl | rfl | rfl | rfl
   ·have hx:zB1 [(be4 n)[0]'(by simp[be4])]=[.int .u8 (n / 16777216)]:=by
     obtain⟨m,rfl⟩:=Int.eq_ofNat_of_zero_le h0
     simp[be4,zB1]
     try omega
    have ht:l ++ (be4 n).take 1=l ++ (be4 n).take 0 ++ [(be4 n)[0]'(by simp[be4])]:=by simp[be4]
    have hln:(l ++ (be4 n).take 0).length≤1000010:=by simp[be4];omega
    have hBr:B≤wr.heap.size:=Nat.le_trans hB HR.out.2.size
    go_wp2_with (first
      | (at_builtin;refine zAA _ rfl _ _ 111 rfl B 5 i0 (.int .u8 0) 1 1 Tryz.underlying111 hi hz0 hz1 hz2 rfl (by decide) _ (l ++ (be4 n).take 0).length (zB1 (l ++ (be4 n).take 0)) rfl (HR.out.1.alloc _) ⟨wr.heap.size,0,none⟩ 1 1 [.int .u8 (n / 16777216)] (by simp[Act.eval]) rfl (zBU rfl) (fun x hx=>by simp at hx;subst hx;rfl) (by unfold maxLen;omega) (by omega) (by simp;omega) (by decide) ?_;intro v' w5 hown hgrow hnil;have Q:Hid _:=Out8.push (HR.out.2.alloc hBr _) (HR.out.1.alloc _) (by simp;omega) hx hown hgrow;clear hown hgrow hnil)
      | fail)
    go_roundw
    case rel=>exact⟨1,rfl,by omega,by rw[ht];exact Q.out⟩
    case measure=>simp[intOf]
   ·have hx:zB1 [(be4 n)[1]'(by simp[be4])]=[.int .u8 (n / 65536 % 256)]:=by
     obtain⟨m,rfl⟩:=Int.eq_ofNat_of_zero_le h0
     simp[be4,zB1]
     try omega
    have ht:l ++ (be4 n).take 2=l ++ (be4 n).take 1 ++ [(be4 n)[1]'(by simp[be4])]:=by simp[be4]
    have hln:(l ++ (be4 n).take 1).length≤1000010:=by simp[be4];omega
    have hBr:B≤wr.heap.size:=Nat.le_trans hB HR.out.2.size
    go_wp2_with (first
      | (at_builtin;refine zAA _ rfl _ _ 111 rfl B 5 i0 (.int .u8 0) 1 1 Tryz.underlying111 hi hz0 hz1 hz2 rfl (by decide) _ (l ++ (be4 n).take 1).length (zB1 (l ++ (be4 n).take 1)) rfl (HR.out.1.alloc _) ⟨wr.heap.size,0,none⟩ 1 1 [.int .u8 (n / 65536 % 256)] (by simp[Act.eval]) rfl (zBU rfl) (fun x hx=>by simp at hx;subst hx;rfl) (by unfold maxLen;omega) (by omega) (by simp;omega) (by decide) ?_;intro v' w5 hown hgrow hnil;have Q:Hid _:=Out8.push (HR.out.2.alloc hBr _) (HR.out.1.alloc _) (by simp;omega) hx hown hgrow;clear hown hgrow hnil)
      | fail)
    go_roundw
    case rel=>exact⟨2,rfl,by omega,by rw[ht];exact Q.out⟩
    case measure=>simp[intOf]
   ·have hx:zB1 [(be4 n)[2]'(by simp[be4])]=[.int .u8 (n / 256 % 256)]:=by
     obtain⟨m,rfl⟩:=Int.eq_ofNat_of_zero_le h0
     simp[be4,zB1]
     try omega
    have ht:l ++ (be4 n).take 3=l ++ (be4 n).take 2 ++ [(be4 n)[2]'(by simp[be4])]:=by simp[be4]
    have hln:(l ++ (be4 n).take 2).length≤1000010:=by simp[be4];omega
    have hBr:B≤wr.heap.size:=Nat.le_trans hB HR.out.2.size
    go_wp2_with (first
      | (at_builtin;refine zAA _ rfl _ _ 111 rfl B 5 i0 (.int .u8 0) 1 1 Tryz.underlying111 hi hz0 hz1 hz2 rfl (by decide) _ (l ++ (be4 n).take 2).length (zB1 (l ++ (be4 n).take 2)) rfl (HR.out.1.alloc _) ⟨wr.heap.size,0,none⟩ 1 1 [.int .u8 (n / 256 % 256)] (by simp[Act.eval]) rfl (zBU rfl) (fun x hx=>by simp at hx;subst hx;rfl) (by unfold maxLen;omega) (by omega) (by simp;omega) (by decide) ?_;intro v' w5 hown hgrow hnil;have Q:Hid _:=Out8.push (HR.out.2.alloc hBr _) (HR.out.1.alloc _) (by simp;omega) hx hown hgrow;clear hown hgrow hnil)
      | fail)
    go_roundw
    case rel=>exact⟨3,rfl,by omega,by rw[ht];exact Q.out⟩
    case measure=>simp[intOf]
   ·have hx:zB1 [(be4 n)[3]'(by simp[be4])]=[.int .u8 (n % 256)]:=by
     obtain⟨m,rfl⟩:=Int.eq_ofNat_of_zero_le h0
     simp[be4,zB1]
     try omega
    have ht:l ++ (be4 n).take 4=l ++ (be4 n).take 3 ++ [(be4 n)[3]'(by simp[be4])]:=by simp[be4]
    have hln:(l ++ (be4 n).take 3).length≤1000010:=by simp[be4];omega
    have hBr:B≤wr.heap.size:=Nat.le_trans hB HR.out.2.size
    go_wp2_with (first
      | (at_builtin;refine zAA _ rfl _ _ 111 rfl B 5 i0 (.int .u8 0) 1 1 Tryz.underlying111 hi hz0 hz1 hz2 rfl (by decide) _ (l ++ (be4 n).take 3).length (zB1 (l ++ (be4 n).take 3)) rfl (HR.out.1.alloc _) ⟨wr.heap.size,0,none⟩ 1 1 [.int .u8 (n % 256)] (by simp[Act.eval]) rfl (zBU rfl) (fun x hx=>by simp at hx;subst hx;rfl) (by unfold maxLen;omega) (by omega) (by simp;omega) (by decide) ?_;intro v' w5 hown hgrow hnil;have Q:Hid _:=Out8.push (HR.out.2.alloc hBr _) (HR.out.1.alloc _) (by simp;omega) hx hown hgrow;clear hown hgrow hnil)
      | fail)
    go_roundw
    case rel=>exact⟨4,rfl,by omega,by rw[ht];exact Q.out⟩
    case measure=>simp[intOf]
end
abbrev Lt (B:Nat):Nat→Prop:=fun b=>b<B
theorem zH9 {B:Nat}{w w':World}(h:Below B w w'):zDA (Lt B) (Lt B) w w':=fun b hP _ _ _ _=>⟨hP,h.block b hP⟩
theorem zAU.length {P:Nat→Prop}{w:World}:∀ {ts:List Tree} {vs:List Value},zAU P w ts vs→vs.length=ts.length
 | [],vs,h=>by unfold zAU at h;rw[h];rfl
 | t :: ts,vs,h=>by
  unfold zAU at h
  obtain⟨v,vs',rfl,h2,h3⟩:=h
  simp[zAU.length h3]
theorem zAU.get {P:Nat→Prop}{w:World}:∀ {ts:List Tree} {vs:List Value},zAU P w ts vs→∀ (j:Nat) (t:Tree),ts[j]?=some t→∃ v,vs[j]?=some v∧zAO P w t v
 | [],vs,h,j,t,hj=>by simp at hj
 | a :: ts,vs,h,j,t,hj=>by
  unfold zAU at h
  obtain⟨v,vs',rfl,h2,h3⟩:=h
  cases j with
  | zero=>simp at hj;subst hj;exact⟨v,rfl,h2⟩
  | succ j=>simp at hj;simpa using zAU.get h3 j t hj
theorem zGY : ∀ a b,encs (a ++ b)=encs a ++ encs b
 | [],b=>by simp[encs]
 | t :: a,b=>by simp[encs,zGY a b]
theorem zO9 {ts:List Tree}{j:Nat}{t:Tree}(h:ts[j]?=some t):encs (ts.take (j+1))=encs (ts.take j) ++ enc t:=by
 rw[List.take_add_one,h,zGY]
 simp[encs]
theorem zO8 {ts:List Tree}(j:Nat):(encs (ts.take j)).length≤(encs ts).length:=by
 have h:=zGY (ts.take j) (ts.drop j)
 rw[List.take_append_drop] at h
 rw[h,List.length_append]
 omega
theorem zAI {w:World}{base e size n:Nat}{v:Value}{xs:List Value}(h:w.ownsRow base e size v n xs):∃ ao cp,v=.slice ao n cp:=by
 rcases h.2 with⟨rfl,rfl⟩ | ⟨g,cap,cur,rfl,-⟩
 ·exact⟨_,_,rfl⟩
 ·exact⟨_,_,rfl⟩
theorem zHZ {w:World}{base e n:Nat}{ao:Option Addr}{cp m:Nat}{xs:List Value}(h:w.ownsRow base e 1 (.slice ao m cp) n xs){j:Nat}{x:Value}(hj:xs[j]?=some x):∃ g,ao=some ⟨g,0,none⟩∧w.cell? ⟨g,j,none⟩=some x:=by
 rcases h.2 with⟨h1,rfl⟩ | ⟨g,cap,cur,h1,-⟩
 ·have:xs=[]:=List.eq_nil_of_length_eq_zero (by have:=h.1;omega)
  subst this
  simp at hj
 ·injection h1 with h1 h2 h3
  subst h1
  refine⟨g,rfl,?_⟩
  have:=h.cells (g:=g) rfl j x hj
  rwa [show (⟨g,0,none⟩:Addr).add j=⟨g,j,none⟩ by unfold Addr.add;split <;> simp_all] at this
theorem W8.owns {B:Nat}{w w':World}(h:W8 B w w'){base e n:Nat}{v:Value}{xs:List Value}(ho:w.ownsRow base e 1 v n xs)(he:e≠5):w'.ownsRow base e 1 v n xs:=
 zA7 ho fun g hg=>by
  obtain⟨c,fz,q⟩:=ownsRow_kind ho g hg
  rw[h.kind g c e fz q he,q]
def WCon (B:Nat)(t:Tree):Prop:=∀ (w:World) (vo v:Value) (l:List UInt8),zAO (Lt B) w t v→Out8 B w vo l→B≤w.heap.size→l.length+(enc t).length≤1000000 →
 Calls Tryz.prog 99 #[vo,v] w fun e w'=>∃ vo',e=.returned vo'∧Out8 B w' vo' (l ++ enc t)∧W8 B w w'
set_option maxRecDepth 1000000 in
theorem zCR {B:Nat}(ts:List Tree)(hts:∀ t∈ts,WCon B t){w:World}{vo lv:Value}{l:List UInt8}{vs:List Value}(hn:zAU (Lt B) w ts vs)(hr:w.ownsRow 0 226 1 lv vs.length vs)(ho:Out8 B w vo l)(hB:B≤w.heap.size)(hl:l.length+(encs ts).length≤1000000)(h200:ts.length≤1000):
  Calls Tryz.prog 138 #[vo,lv] w fun e w'=>∃ vo',e=.returned vo'∧Out8 B w' vo' (l ++ encs ts)∧W8 B w w':=by
 obtain⟨ao,cp,rfl⟩:=zAI hr
 have hlen:=hn.length
 have HN:Hid (zAU (Lt B) w ts vs):=hn
 have HR:Hid (w.ownsRow 0 226 1 (.slice ao vs.length cp) vs.length vs):=hr
 have HO:Hid (Out8 B w vo l):=ho
 have HT:Hid (∀ t∈ts,WCon B t):=hts
 clear hn hr ho hts
 generalize vs.length=m at *
 have HL:Hid (m=ts.length):=hlen
 have hm:m≤1000:=by omega
 clear hlen h200
 go_enter Tryz.func138,Tryz.ntmps138
 go_wp2_with fail
 go_loopw [0,9] (fun v0 v9 wr=>∃ j:Nat,v9=.int .i64 j∧j≤m∧Hid (Out8 B wr v0 (l ++ encs (ts.take j))∧W8 B w wr)) (fun _ v9 _=>m - (intOf v9).toNat)
 case atStart=>exact⟨0,rfl,Nat.zero_le _,by simpa[encs] using HO.out,W8.refl _ _⟩
 case round=>
  obtain⟨j,rfl,hj,HI⟩:=hrel
  rcases Nat.lt_or_ge j m with hlt | hge
  ·obtain⟨t,ht⟩:∃ t,ts[j]?=some t:=⟨ts[j],List.getElem?_eq_getElem (by have:=HL.out;omega)⟩
   obtain⟨v,hv,hcn⟩:=HN.out.get j t ht
   obtain⟨g,rfl,c1⟩:=zHZ (HI.out.2.owns HR.out (by decide)) hv
   have hlt2:(j:Int)<m:=by omega
   have hbd:(l ++ encs (ts.take j)).length+(enc t).length≤1000000:=by
    have h1:=zO9 ht
    have h2:=zO8 (ts:=ts) (j+1)
    rw[h1,List.length_append] at h2
    rw[List.length_append]
    omega
   have hpc:=HT.out t (List.mem_of_getElem? ht) wr _ v (l ++ encs (ts.take j)) (hcn.moves (zH9 HI.out.2.below)) HI.out.1 (Nat.le_trans hB HI.out.2.size) hbd
   have HE:Hid (encs (ts.take (j+1))=encs (ts.take j) ++ enc t):=zO9 ht
   clear ht hv hcn hbd
   go_wp2_with fail
   refine hpc.mono ?_
   rintro e w2 ⟨v2,rfl,h2⟩
   have H2:Hid _:=h2
   clear h2 hpc
   go_wp2
   go_roundw
   case rel=>exact⟨j+1,by go_num,by omega,by rw[HE.out,←List.append_assoc];exact H2.out.1,HI.out.2.trans H2.out.2⟩
   case measure=>simp[intOf];omega
  ·have hge2:¬ (j:Int)<m:=by omega
   have HJ:Hid (j=ts.length):=by have:=HL.out;show j=ts.length;omega
   go_wp2
   go_ret
   refine⟨_,rfl,?_,HI.out.2⟩
   have:=HI.out.1
   rw[HJ.out,List.take_length] at this
   exact this
end Go.Proofs.YtbokdbaagacnlaaGreatDoor
namespace Go.Proofs.YtbokdbaagacnlaaGreatDoor
open Go.Lib
open Go.RowKit (wrap64)
def RS.Len (r:RS):Prop:=(r.wrong=false→(r.mets.length:Int)≤r.parts∧(r.asks.length:Int)≤r.parts∧(r.spans.length:Int)≤r.parts)∧r.mets.length≤200∧r.asks.length≤200∧r.spans.length≤200
def RS.Good (r:RS):Prop:=r.Ok∧r.Len
theorem RS.Good.same {r r':RS}(h:r.Good)(hf:r.From r')(hm:r'.mets=r.mets)(ha:r'.asks=r.asks)(hs:r'.spans=r.spans):r'.Good:=by
 have h2:=hf h.1
 refine⟨h2.1,?_,by rw[hm];exact h.2.2.1,by rw[ha];exact h.2.2.2.1,by rw[hs];exact h.2.2.2.2⟩
 intro hw
 have h3:=h2.2 hw
 have h4:=h.2.1 h3.1
 rw[hm,ha,hs]
 omega
theorem RS.mets_require (r:RS)(b:Bool):(r.require b).mets=r.mets∧(r.require b).asks=r.asks∧(r.require b).spans=r.spans:=⟨rfl,rfl,rfl⟩
theorem RS.mets_take (r:RS)(n:Nat):(r.take n).2.mets=r.mets∧(r.take n).2.asks=r.asks∧(r.take n).2.spans=r.spans:=by
 unfold RS.take
 split <;> exact⟨rfl,rfl,rfl⟩
theorem RS.mets_next (r:RS):r.next.2.mets=r.mets∧r.next.2.asks=r.asks∧r.next.2.spans=r.spans:=RS.mets_take r 1
theorem RS.mets_place (r:RS):r.place.2.mets=r.mets∧r.place.2.asks=r.asks∧r.place.2.spans=r.spans:=RS.mets_next r
theorem RS.mets_number (r:RS):r.number.2.mets=r.mets∧r.number.2.asks=r.asks∧r.number.2.spans=r.spans:=RS.mets_take r 4
theorem RS.mets_name (r:RS):r.name.2.mets=r.mets∧r.name.2.asks=r.asks∧r.name.2.spans=r.spans:=⟨(RS.mets_take _ _).1.trans (RS.mets_next r).1,(RS.mets_take _ _).2.1.trans (RS.mets_next r).2.1,(RS.mets_take _ _).2.2.trans (RS.mets_next r).2.2⟩
theorem RS.mets_measure (r:RS):r.measure.2.mets.length≤r.mets.length+1∧r.measure.2.asks=r.asks∧r.measure.2.spans.length=r.spans.length+1:=by
 unfold RS.measure
 dsimp only
 refine⟨?_,?_,?_⟩
 ·have h:=zFZ (((r.place.2.name).2.require (isMeasure (r.place.2.name).1)).name).2.number.2.mets (((r.place.2.name).2.require (isMeasure (r.place.2.name).1)).name).1
  rw[(RS.mets_number _).1,(RS.mets_name _).1,(RS.mets_require _ _).1,(RS.mets_name _).1,(RS.mets_place _).1] at h
  rw[(RS.mets_number _).1,(RS.mets_name _).1,(RS.mets_require _ _).1,(RS.mets_name _).1,(RS.mets_place _).1]
  omega
 ·rw[(RS.mets_number _).2.1,(RS.mets_name _).2.1,(RS.mets_require _ _).2.1,(RS.mets_name _).2.1,(RS.mets_place _).2.1]
 ·rw[List.length_append,(RS.mets_number _).2.2,(RS.mets_name _).2.2,(RS.mets_require _ _).2.2,(RS.mets_name _).2.2,(RS.mets_place _).2.2]
  simp
theorem RS.Good.begin {r:RS}(h:r.Good):r.begin.Good:=h.same (.begin r) rfl rfl rfl
theorem RS.begin_room {r:RS}(h:r.Good)(hb:r.begin.wrong=false):r.begin.parts=r.parts+1∧r.parts<200∧(r.mets.length:Int)≤r.parts∧(r.asks.length:Int)≤r.parts∧(r.spans.length:Int)≤r.parts:=by
 have h1:=RS.begin_ok h.1 hb
 have h2:=h.2.1 h1.1
 exact⟨h1.2.1,h1.2.2.2,h2.1,h2.2⟩
theorem RS.Good.one {r r1 r':RS}(hr1:r1.Ok)(hf:r1.From r')(hp:r1.parts=r.parts+1)(h200:r.parts<200)(h1:(r.mets.length:Int)≤r.parts)(h2:(r.asks.length:Int)≤r.parts)(h5:(r.spans.length:Int)≤r.parts)(hm:r'.mets.length≤r.mets.length+1)(ha:r'.asks.length≤r.asks.length+1)(hs:r'.spans.length≤r.spans.length+1):r'.Good:=by
 have h3:=hf hr1
 refine⟨h3.1,fun hw=>?_,by omega,by omega,by omega⟩
 have:=(h3.2 hw).2
 omega
theorem RS.Good.iter {g:RS→Tree × RS}(hg:∀ r:RS,r.Good→(g r).2.Good):∀ (n:Nat) (r:RS),r.Good→(iter g n r).2.Good
 | 0,_,h=>h
 | n+1,r,h=>hg _ (RS.Good.iter hg n r h)
theorem RS.Good.part : ∀ (f:Nat) (r:RS),r.Good→(RS.part f r).2.Good
 | 0,r,h=>⟨fun hw=>(by cases hw),fun hw=>(by cases hw),h.2.2⟩
 | f+1,r,h=>by
  have ih:=RS.Good.part f
  have hB:=h.begin
  unfold RS.part
  dsimp only
  split
  ·exact hB
  ·rename_i hw
   have hw:r.begin.wrong=false:=by cases e:r.begin.wrong <;> simp_all
   have hroom:=RS.begin_room h hw
   have hN:=hB.same (.next _) (RS.mets_next _).1 (RS.mets_next _).2.1 (RS.mets_next _).2.2
   (repeat' split)
   ·exact hN.same (.number _) (RS.mets_number _).1 (RS.mets_number _).2.1 (RS.mets_number _).2.2
   ·exact ih _ hN
   ·exact ih _ (ih _ (hN.same (.place _) (RS.mets_place _).1 (RS.mets_place _).2.1 (RS.mets_place _).2.2))
   ·exact ih _ (ih _ (ih _ hN))
   ·have hm:=RS.mets_measure r.begin.next.2
    rw[(RS.mets_next _).1,(RS.mets_next _).2.1,(RS.mets_next _).2.2] at hm
    exact RS.Good.one (r:=r) hB.1 ((RS.From.next _).trans (.measure _)) hroom.1 hroom.2.1 hroom.2.2.1 hroom.2.2.2.1 hroom.2.2.2.2 hm.1 (by rw[hm.2.1];exact Nat.le_succ _) (by rw[hm.2.2];exact Nat.le_refl _)
   ·unfold RS.probe
    dsimp only
    refine RS.Good.iter ih _ _ ?_
    refine RS.Good.one (r:=r) hB.1 ((((((RS.From.next _).trans (.place _)).trans (.name _)).trans (.require _ _)).trans (.asks _ _)).trans (.next _)) hroom.1 hroom.2.1 hroom.2.2.1 hroom.2.2.2.1 hroom.2.2.2.2 ?_ ?_ ?_
    ·rw[(RS.mets_next _).1]
     simp only
     rw[(RS.mets_require _ _).1,(RS.mets_name _).1,(RS.mets_place _).1,(RS.mets_next _).1]
     exact Nat.le_succ _
    ·rw[(RS.mets_next _).2.1]
     simp only
     rw[(RS.mets_require _ _).2.1,(RS.mets_name _).2.1,(RS.mets_place _).2.1,(RS.mets_next _).2.1]
     simp[RS.begin,RS.require]
    ·rw[(RS.mets_next _).2.2]
     simp only
     rw[(RS.mets_require _ _).2.2,(RS.mets_name _).2.2,(RS.mets_place _).2.2,(RS.mets_next _).2.2]
     exact Nat.le_succ _
   ·exact ih _ (ih _ (hN.same (.require _ _) rfl rfl rfl))
end Go.Proofs.YtbokdbaagacnlaaGreatDoor
namespace Go.Proofs.YtbokdbaagacnlaaGreatDoor
open Go.RowKit Go.Lib
def zBM (R:Nat)(w:World)(v:Value)(l:List UInt8):Prop:=∃ ao cp,v=.slice ao l.length cp∧l.length≤cp∧∀ (j:Nat) (b:UInt8),l[j]?=some b→∃ C off,C<R∧ao=some ⟨C,off,none⟩∧w.cell? ⟨C,off+j,none⟩=some (.int .u8 b.toNat)
def zFP (w:World)(v:Value)(l:List UInt8):Prop:=∃ ao cp,v=.slice ao l.length cp∧∀ (j:Nat) (b:UInt8),l[j]?=some b→∃ C off,ao=some ⟨C,off,none⟩∧w.cell? ⟨C,off+j,none⟩=some (.int .u8 b.toNat)
def zAZ (l:List (Nat × ByteArray)):List Value:=l.flatMap fun x=>[.int .i64 (x.1:Int),.string x.2]
def zAP (l:List (ByteArray × Int)):List Value:=l.flatMap fun x=>[.string x.1,.int .i64 x.2]
theorem zJ0 (a b:List (ByteArray × Int)):zAP (a ++ b)=zAP a ++ zAP b:=by simp[zAP]
theorem zKE (a b:List (Nat × ByteArray)):zAZ (a ++ b)=zAZ a ++ zAZ b:=by simp[zAZ]
structure TabsR (w:World):Prop where
 tabs:Tabs w
 pow:TabIs Tryz.prog w "internal/strconv.uint64pow10" .u64 pow10Tab
theorem Tryz.gPow : Tryz.prog.globalNamed "internal/strconv.uint64pow10" = some 15:=by kernel_rfl
theorem TabsR.below {w w':World}(h:TabsR w)(hb:Below w.heap.size w w'):TabsR w':=⟨h.tabs.below hb,TabIs_below Tryz.gPow h.pow hb⟩
structure RSt (R:Nat) (w:World) (r:RS):Prop where
 blk:∃ rv mv sv av,w.heap[R]?=some (.cells #[rv,.int .i64 r.parts,.bool r.wrong,mv,sv,av] 234 (0,0))∧zBM R w rv r.rest∧w.ownsRow (R+1) 9 1 mv r.mets.length (r.mets.map Value.string)∧w.ownsRow (R+1) 236 2 av r.asks.length (zAZ r.asks)∧w.ownsRow (R+1) 194 2 sv r.spans.length (zAP r.spans)
 tab:∃ W0,TabsR W0∧W0.heap.size≤R∧Below W0.heap.size W0 w
def zB4 (w:World)(R k:Nat):Option Nat:=
 match w.heap[R]? with
 | some (.cells cs _ _)=>(match (cs[k]? : Option Value) with | some v=>v.ownBlock | none=>none)
 | _=>none
theorem zBG {w:World}{R k:Nat}{cs:Array Value}{t:TypeId}{z:Nat × Nat}{v:Value}(h:w.heap[R]?=some (.cells cs t z))(hv:cs[k]?=some v):zB4 w R k=v.ownBlock:=by
 unfold zB4
 rw[h]
 simp only[hv]
theorem zE6 {w w':World}{R k:Nat}(h:w'.heap[R]?=w.heap[R]?):zB4 w' R k=zB4 w R k:=by unfold zB4;rw[h]
structure KR (R:Nat) (w w':World):Prop where
 os:w'.os=w.os
 tape:w'.tape=w.tape
 output:w'.output=w.output
 size:w.heap.size≤w'.heap.size
 block:∀ k,k<w.heap.size→k≠R→zB4 w R 3≠some k→zB4 w R 4≠some k→zB4 w R 5≠some k→w'.heap[k]?=w.heap[k]?
 row3:zB4 w' R 3=zB4 w R 3∨∀ g,zB4 w' R 3=some g→w.heap.size≤g
 row4:zB4 w' R 4=zB4 w R 4∨∀ g,zB4 w' R 4=some g→w.heap.size≤g
 row5:zB4 w' R 5=zB4 w R 5∨∀ g,zB4 w' R 5=some g→w.heap.size≤g
namespace KR
variable {R:Nat} {w w1 w2:World}
theorem refl (R:Nat)(w:World):KR R w w:=⟨rfl,rfl,rfl,Nat.le_refl _,fun _ _ _ _ _ _=>rfl,.inl rfl,.inl rfl,.inl rfl⟩
theorem rowne {k i:Nat}(hk:k<w.heap.size)(h:zB4 w1 R i=zB4 w R i∨∀ g,zB4 w1 R i=some g→w.heap.size≤g)(hne:zB4 w R i≠some k):zB4 w1 R i≠some k:=by
 rcases h with h | h
 ·rw[h];exact hne
 ·intro e;have:=h k e;omega
theorem zM4 {i:Nat}(hs:w.heap.size≤w1.heap.size)(h:zB4 w1 R i=zB4 w R i∨∀ g,zB4 w1 R i=some g→w.heap.size≤g)(k:zB4 w2 R i=zB4 w1 R i∨∀ g,zB4 w2 R i=some g→w1.heap.size≤g):zB4 w2 R i=zB4 w R i∨∀ g,zB4 w2 R i=some g→w.heap.size≤g:=by
 rcases k with k | k
 ·rw[k];exact h
 ·exact .inr fun g hg=>Nat.le_trans hs (k g hg)
theorem trans (h:KR R w w1)(k:KR R w1 w2):KR R w w2:=
 ⟨k.os.trans h.os,k.tape.trans h.tape,k.output.trans h.output,Nat.le_trans h.size k.size,
  fun b hb hR h3 h4 h5=>(k.block b (Nat.lt_of_lt_of_le hb h.size) hR (rowne hb h.row3 h3) (rowne hb h.row4 h4) (rowne hb h.row5 h5)).trans (h.block b hb hR h3 h4 h5),
  zM4 h.size h.row3 k.row3,zM4 h.size h.row4 k.row4,zM4 h.size h.row5 k.row5⟩
theorem of_below (h:Below w.heap.size w w1)(hR:R<w.heap.size):KR R w w1:=
 ⟨h.os,h.tape,h.output,h.size,fun k hk _ _ _ _=>h.block k hk,.inl (zE6 (h.block R hR)),.inl (zE6 (h.block R hR)),.inl (zE6 (h.block R hR))⟩
theorem setR {cs:Array Value}{t:TypeId}{i:Nat}(v:Value)(h:w.heap[R]?=some (.cells cs t (0,0)))(h3:i≠3)(h4:i≠4)(h5:i≠5):KR R w (w.setCell ⟨R,i,none⟩ v):=by
 have e:=zA4 (i:=i) (v:=v) h
 have hr:∀ k,i≠k→zB4 (w.setCell ⟨R,i,none⟩ v) R k=zB4 w R k:=fun k hk=>by
  unfold zB4
  rw[e,h]
  simp only
  rw[Array.getElem?_setIfInBounds_ne hk]
 exact⟨rfl,rfl,rfl,by simp,fun k _ hR _ _ _=>Below.heap_setCell _ _ _ _ hR,.inl (hr 3 h3),.inl (hr 4 h4),.inl (hr 5 h5)⟩
theorem below (h:KR R w w1){B:Nat}(hB:B≤R)(hw:R<w.heap.size)(h3:∀ g,zB4 w R 3=some g→R<g)(h4:∀ g,zB4 w R 4=some g→R<g)(h5:∀ g,zB4 w R 5=some g→R<g):Below B w w1:=
 ⟨h.os,h.tape,h.output,h.size,fun k hk=>h.block k (by omega) (by omega) (fun e=>by have:=h3 k e;omega) (fun e=>by have:=h4 k e;omega) (fun e=>by have:=h5 k e;omega)⟩
end KR
section
variable {R:Nat} {w w':World} {r r':RS}
theorem zBM.below {v:Value}{l:List UInt8}(h:zBM R w v l)(hb:Below R w w'):zBM R w' v l:=by
 obtain⟨ao,cp,h1,h2,h3⟩:=h
 refine⟨ao,cp,h1,h2,fun j b hj=>?_⟩
 obtain⟨C,off,hC,h4,h5⟩:=h3 j b hj
 exact⟨C,off,hC,h4,(World.cell?_of_block (hb.block C hC)).trans h5⟩
theorem RSt.lR (h:RSt R w r):R<w.heap.size:=by obtain⟨a,b,c,d,h,-⟩:=h.blk;exact zA2 h
theorem RSt.rows (h:RSt R w r):(∀ g,zB4 w R 3=some g→R<g)∧(∀ g,zB4 w R 4=some g→R<g)∧(∀ g,zB4 w R 5=some g→R<g):=by
 obtain⟨rv,mv,sv,av,h1,-,h3,h4,h5⟩:=h.blk
 refine⟨?_,?_,?_⟩
 ·intro g hg
  rw[zBG h1 (k:=3) rfl] at hg
  exact(h3.lt _ hg).1
 ·intro g hg
  rw[zBG h1 (k:=4) rfl] at hg
  exact(h5.lt _ hg).1
 ·intro g hg
  rw[zBG h1 (k:=5) rfl] at hg
  exact(h4.lt _ hg).1
theorem RSt.below_of (h:RSt R w r)(hk:KR R w w'):Below R w w':=hk.below (Nat.le_refl _) h.lR h.rows.1 h.rows.2.1 h.rows.2.2
theorem RSt.tab_of (h:RSt R w r)(hb:Below R w w'):∃ W0,TabsR W0∧W0.heap.size≤R∧Below W0.heap.size W0 w':=by
 obtain⟨W0,h1,h2,h3⟩:=h.tab
 exact⟨W0,h1,h2,h3.trans (hb.mono h2)⟩
theorem RSt.tabs (h:RSt R w r):TabsR w:=by obtain⟨W0,h1,-,h3⟩:=h.tab;exact h1.below h3
theorem RSt.change (h:RSt R w r){rv mv sv av:Value}(hR:w'.heap[R]?=some (.cells #[rv,.int .i64 r'.parts,.bool r'.wrong,mv,sv,av] 234 (0,0)))(hrest:zBM R w rv r'.rest)
  (hm:w.ownsRow (R+1) 9 1 mv r'.mets.length (r'.mets.map Value.string)) (ha:w.ownsRow (R+1) 236 2 av r'.asks.length (zAZ r'.asks)∧w.ownsRow (R+1) 194 2 sv r'.spans.length (zAP r'.spans))
  (hos:w'.os=w.os) (htp:w'.tape=w.tape) (hou:w'.output=w.output) (hsz:w.heap.size≤w'.heap.size) (hk:∀ k,k<w.heap.size→k≠R→w'.heap[k]?=w.heap[k]?):RSt R w' r':=by
 have lR:=h.lR
 have hb:Below R w w':=⟨hos,htp,hou,hsz,fun k hk'=>hk k (by omega) (by omega)⟩
 refine⟨⟨rv,mv,sv,av,hR,hrest.below hb,zA7 hm fun g hg=>hk g (hm.lt _ hg).2 (by have:=(hm.lt _ hg).1;omega),zA7 ha.1 fun g hg=>hk g (ha.1.lt _ hg).2 (by have:=(ha.1.lt _ hg).1;omega),zA7 ha.2 fun g hg=>hk g (ha.2.lt _ hg).2 (by have:=(ha.2.lt _ hg).1;omega)⟩,h.tab_of hb⟩
theorem RSt.later (h:RSt R w r)(hb:Below w.heap.size w w'):RSt R w' r:=by
 have lR:=h.lR
 obtain⟨rv,mv,sv,av,h1,h2,h3,h4⟩:=h.blk
 exact h.change ((hb.block R lR).trans h1) h2 h3 h4 hb.os hb.tape hb.output hb.size (fun k hk _=>hb.block k hk)
structure Free (R:Nat) (w:World) (b:Nat):Prop where
 ne:b≠R
 lt:b<w.heap.size
 row3:zB4 w R 3≠some b
 row4:zB4 w R 4≠some b
 row5:zB4 w R 5≠some b
theorem RSt.rowlt (h:RSt R w r):(∀ g,zB4 w R 3=some g→g<w.heap.size)∧(∀ g,zB4 w R 4=some g→g<w.heap.size)∧(∀ g,zB4 w R 5=some g→g<w.heap.size):=by
 obtain⟨rv,mv,sv,av,h1,-,h3,h4,h5⟩:=h.blk
 refine⟨?_,?_,?_⟩
 ·intro g hg
  rw[zBG h1 (k:=3) rfl] at hg
  exact(h3.lt _ hg).2
 ·intro g hg
  rw[zBG h1 (k:=4) rfl] at hg
  exact(h5.lt _ hg).2
 ·intro g hg
  rw[zBG h1 (k:=5) rfl] at hg
  exact(h4.lt _ hg).2
theorem RSt.free_new (h:RSt R w r)(hb:Below w.heap.size w w'){b:Nat}(h1:w.heap.size≤b)(h2:b<w'.heap.size):Free R w' b:=by
 have lR:=h.lR
 have e:∀ i,zB4 w' R i=zB4 w R i:=fun i=>zE6 (hb.block R lR)
 exact⟨by omega,h2,fun q=>by rw[e] at q;have:=h.rowlt.1 b q;omega,fun q=>by rw[e] at q;have:=h.rowlt.2.1 b q;omega,fun q=>by rw[e] at q;have:=h.rowlt.2.2 b q;omega⟩
theorem Free.step {b:Nat}(f:Free R w b)(k:KR R w w'):Free R w' b∧w'.heap[b]?=w.heap[b]?:=
 ⟨⟨f.ne,Nat.lt_of_lt_of_le f.lt k.size,KR.rowne f.lt k.row3 f.row3,KR.rowne f.lt k.row4 f.row4,KR.rowne f.lt k.row5 f.row5⟩,k.block b f.lt f.ne f.row3 f.row4 f.row5⟩
theorem Free.heap {b:Nat}{o:Obj}(f:Free R w b)(k:KR R w w')(h:w.heap[b]?=some o):w'.heap[b]?=some o:=(f.step k).2.trans h
theorem RSt.setFree (h:RSt R w r){b i:Nat}(f:b≠R)(hlo:R<b)(h3:zB4 w R 3≠some b)(h4:zB4 w R 4≠some b)(h5:zB4 w R 5≠some b)(v:Value):RSt R (w.setCell ⟨b,i,none⟩ v) r:=by
 obtain⟨rv,mv,sv,av,h1,h2,h7,h8,h9⟩:=h.blk
 have hk:∀ k,k≠b→(w.setCell ⟨b,i,none⟩ v).heap[k]?=w.heap[k]?:=fun k hk=>Below.heap_setCell _ _ _ _ hk
 have hb:Below R w (w.setCell ⟨b,i,none⟩ v):=⟨rfl,rfl,rfl,by simp,fun k hk'=>hk k (by omega)⟩
 refine⟨⟨rv,mv,sv,av,(hk R (fun e=>f e.symm)).trans h1,h2.below hb,zA7 h7 fun g hg=>hk g fun e=>?_,zA7 h8 fun g hg=>hk g fun e=>?_,zA7 h9 fun g hg=>hk g fun e=>?_⟩,h.tab_of hb⟩
 ·subst e;rw[zBG h1 (k:=3) rfl] at h3;exact h3 hg
 ·subst e;rw[zBG h1 (k:=5) rfl] at h5;exact h5 hg
 ·subst e;rw[zBG h1 (k:=4) rfl] at h4;exact h4 hg
theorem KR.setNew {w0:World}(h:KR R w0 w){b i:Nat}(hb:w0.heap.size≤b)(hR:R≠b)(v:Value):KR R w0 (w.setCell ⟨b,i,none⟩ v):=by
 have hk:∀ k,k≠b→(w.setCell ⟨b,i,none⟩ v).heap[k]?=w.heap[k]?:=fun k hk=>Below.heap_setCell _ _ _ _ hk
 have e:∀ j,zB4 (w.setCell ⟨b,i,none⟩ v) R j=zB4 w R j:=fun j=>zE6 (hk R hR)
 exact⟨h.os,h.tape,h.output,by simpa using h.size,fun k hk' hR' h3 h4 h5=>(hk k (by omega)).trans (h.block k hk' hR' h3 h4 h5),by rw[e];exact h.row3,by rw[e];exact h.row4,by rw[e];exact h.row5⟩
end
end Go.Proofs.YtbokdbaagacnlaaGreatDoor
