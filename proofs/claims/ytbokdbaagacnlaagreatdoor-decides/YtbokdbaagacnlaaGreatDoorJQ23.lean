import Derived.Test.YtbokdbaagacnlaaGreatDoorJQ22
import Derived.Test.YtbokdbaagacnlaaGreatDoorJQ4
import Derived.Laws.CopyRow
import Derived.Laws.IdiomCopy
namespace Go.Proofs.YtbokdbaagacnlaaGreatDoor
open Go.RowKit Go.Lib
def MCon (t:Tree):Prop:=
 ∀ (P:Nat→Prop) (N:Nat) (w:World) (v lv:Value) (ms:List ByteArray),(∀ b,P b→b<N)→N≤w.heap.size→zA9 P w t v→w.ownsRow N 9 1 lv ms.length (ms.map Value.string)→ms.length+(mets t).length≤1000 →
  Calls Tryz.prog 22 #[v,lv] w fun e w'=>∃ lv',e=.returned lv'∧w'.ownsRow N 9 1 lv' (zAT ms (mets t)).length ((zAT ms (mets t)).map Value.string)∧Below N w w'
theorem zC2 {P:Nat→Prop}{w:World}:∀ {ts:List Tree} {vs:List Value},zAJ P w ts vs→ts.length=vs.length
 | [],_,h=>by unfold zAJ at h;subst h;rfl
 | t :: ts,_,h=>by
  unfold zAJ at h
  obtain⟨v,vs',rfl,-,h2⟩:=h
  simp[zC2 h2]
theorem zGB {P:Nat→Prop}{w:World}:∀ {ts:List Tree} {vs:List Value},zAJ P w ts vs→∀ (k:Nat) t,ts[k]?=some t→∃ v,vs[k]?=some v∧zA9 P w t v
 | [],_,_,k,t,h=>by simp at h
 | t0 :: ts,_,h,0,t,e=>by
  unfold zAJ at h
  obtain⟨v,vs',rfl,h1,h2⟩:=h
  simp at e
  subst e
  exact⟨v,rfl,h1⟩
 | t0 :: ts,_,h,k+1,t,e=>by
  unfold zAJ at h
  obtain⟨v,vs',rfl,h1,h2⟩:=h
  simp at e
  simpa using zGB h2 k t e
theorem zI3 {P:Nat→Prop}{w:World}:∀ {t:Tree} {v:Value},zA9 P w t v→∃ a,v=.pointer (some a)
 | .num _ _,_,h=>by unfold zA9 at h;obtain⟨b,pv,h1,-⟩:=h;exact⟨_,h1⟩
 | .neg _ _,_,h=>by unfold zA9 at h;obtain⟨va,⟨b,pv,h1,-⟩,-⟩:=h;exact⟨_,h1⟩
 | .bin _ _ _ _,_,h=>by unfold zA9 at h;obtain⟨va,vb,⟨b,pv,h1,-⟩,-⟩:=h;exact⟨_,h1⟩
 | .ite _ _ _ _,_,h=>by unfold zA9 at h;obtain⟨va,vb,vc,⟨b,pv,h1,-⟩,-⟩:=h;exact⟨_,h1⟩
 | .meas _ _ _ _,_,h=>by unfold zA9 at h;obtain⟨b,pv,h1,-⟩:=h;exact⟨_,h1⟩
 | .probe _ _ _,_,h=>by unfold zA9 at h;obtain⟨vs,⟨b,pv,h1,-⟩,-⟩:=h;exact⟨_,h1⟩
theorem zNT {ts:List Tree}{k:Nat}{t:Tree}(h:ts[k]?=some t):zAL (ts.take (k+1))=zAL (ts.take k) ++ mets t:=by
 rw[List.take_add_one,h,zDJ]
 simp[zAL]
theorem zNU {ts:List Tree}{k:Nat}:(zAL (ts.take k)).length≤(zAL ts).length:=by
 have:zAL ts=zAL (ts.take k) ++ zAL (ts.drop k):=by rw[←zDJ,List.take_append_drop]
 rw[this]
 simp
set_option maxRecDepth 1000000 in
set_option maxHeartbeats 1000000 in
theorem zBR {P:Nat→Prop}{w:World}{N k0 p:Nat}{n:Int}{word metric:ByteArray}{v lv:Value}{vs:List Value}{ts:List Tree}{ms:List ByteArray}(hk:k0≠109)(hP:∀ b,P b→b<N)(hN:N≤w.heap.size)
  (hn:zCO P w v k0 p n word metric vs) (hts:zAJ P w ts vs) (ih:∀ t∈ts,MCon t) (hown:w.ownsRow N 9 1 lv ms.length (ms.map Value.string)) (hl:ms.length+(zAL ts).length≤1000) (hvl:vs.length≤1000):
  Calls Tryz.prog 22 #[v,lv] w fun e w'=>∃ lv',e=.returned lv'∧w'.ownsRow N 9 1 lv' (zAT ms (zAL ts)).length ((zAT ms (zAL ts)).map Value.string)∧Below N w w':=by
 obtain⟨b,pv,rfl,hPb,hb,hpa⟩:=hn
 have c0:=zA0 (i:=0) hb rfl
 have c5:=zA0 (i:=5) hb rfl
 have hbN:=hP b hPb
 have hlen:=zC2 hts
 have hq:∃ (ao:Option Addr) (cap:Nat),pv=.slice ao vs.length cap∧∀ (W:World),Below N w W→∀ k x,vs[k]?=some x→∃ q,ao=some ⟨q,0,none⟩∧W.cell? ⟨q,k,none⟩=some x:=by
  rcases hpa with⟨rfl,rfl⟩ | ⟨q,cap,cur,rfl,hPq,hcur,-,-,-,htake⟩
  ·exact⟨none,0,rfl,fun W hW k x hx=>by simp at hx⟩
  ·refine⟨some ⟨q,0,none⟩,cap,rfl,fun W hW k x hx=>⟨q,rfl,?_⟩⟩
   have hc:cur[k]?=some x:=by
    rw[←htake,List.getElem?_take] at hx
    split at hx
    ·simpa using hx
    ·cases hx
   exact zA0 ((hW.block q (hP q hPq)).trans hcur) hc
 obtain⟨ao,cap,rfl,hq⟩:=hq
 have hne:((k0:Int) == 109)=false:=by rw[beq_eq_false_iff_ne];omega
 have HQ:Hid _:=hq
 have HTS:Hid (zAJ P w ts vs):=hts
 have HIH:Hid (∀ t∈ts,MCon t):=ih
 have HP:Hid (∀ b,P b→b<N):=hP
 have HBK:Hid _:=hb
 have HO:Hid (w.ownsRow N 9 1 lv ms.length (ms.map Value.string)):=hown
 obtain⟨lo,ll,lc,rfl⟩:=owns_slice hown
 clear hq hts ih hP hb hpa hown
 go_enter Tryz.func22,Tryz.ntmps22
 go_wp2_with fail
 go_loopw [1,6] (fun l i wr=>∃ (k:Nat) (lo:Option Addr) (ll lc:Nat),k≤vs.length∧i=.int .i64 k∧l=.slice lo ll lc∧Hid (wr.ownsRow N 9 1 (.slice lo ll lc) (zAT ms (zAL (ts.take k))).length ((zAT ms (zAL (ts.take k))).map Value.string))∧Hid (Below N w wr)) (fun _ i _=>vs.length - (intOf i).toNat)
 case atStart=>exact⟨0,lo,ll,lc,Nat.zero_le _,rfl,rfl,HO.out,Below.refl _ _⟩
 case round=>
  obtain⟨k,lo,ll,lc,hkv,rfl,rfl,HOr,HBr⟩:=hrel
  have c5r:wr.cell? ⟨b,5,none⟩=_:=zA0 (i:=5) ((HBr.out.block b hbN).trans HBK.out) rfl
  rcases Nat.lt_or_ge k vs.length with hkl | hkl
  ·have hkz:(k:Int)<(vs.length:Int):=by omega
   obtain⟨t,ht⟩:∃ t,ts[k]?=some t:=⟨ts[k]'(by omega),List.getElem?_eq_getElem _⟩
   obtain⟨x,hx,hnx⟩:=zGB HTS.out k t ht
   obtain⟨q,rfl,hcq⟩:=HQ.out wr HBr.out k x hx
   obtain⟨xa,rfl⟩:=zI3 hnx
   have hpart:(zAL (ts.take (k+1))).length≤(zAL ts).length:=zNU
   have htk:=zNT ht
   have hcall:=HIH.out t (List.mem_of_getElem? ht) P N wr (.pointer (some xa)) (.slice lo ll lc) _ HP.out (Nat.le_trans hN HBr.out.size) (hnx.moves fun c hc _=>⟨hc,HBr.out.block c (HP.out c hc)⟩) HOr.out (by
    have:=(zIH (zAL (ts.take k)) ms).2
    rw[htk,List.length_append] at hpart
    omega)
   rw[←zCB,←htk] at hcall
   clear htk hpart hnx
   go_wp2_with fail
   refine hcall.mono ?_
   rintro e w2 ⟨lv2,rfl,hown2,hb2⟩
   obtain⟨lo2,ll2,lc2,rfl⟩:=owns_slice hown2
   have HO2:Hid _:=hown2
   have HB2:Hid (Below N w w2):=HBr.out.trans hb2
   clear hown2 hb2 hcall
   go_wp2
   go_roundw
   case rel=>exact⟨k+1,lo2,ll2,lc2,hkl,by go_num,rfl,HO2,HB2⟩
   case measure=>simp[intOf];omega
  ·have hkz:¬ (k:Int)<(vs.length:Int):=by omega
   have hke:ts.take k=ts:=List.take_of_length_le (by omega)
   rw[hke] at HOr
   go_wp2
   go_ret
   exact⟨_,rfl,HOr.out,HBr.out⟩
mutual
def Fine : Tree→Prop
 | .num _ _=>True
 | .neg _ a=>Fine a
 | .bin k _ a b=>k≠109∧Fine a∧Fine b
 | .ite _ a b c=>Fine a∧Fine b∧Fine c
 | .meas _ _ _ _=>True
 | .probe _ _ ts=>ts.length≤1000∧zCX ts
def zCX : List Tree→Prop
 | []=>True
 | t :: ts=>Fine t∧zCX ts
end
theorem zBX {P:Nat→Prop}{w:World}:zAJ P w [] []:=by unfold zAJ;rfl
theorem zB2 {P:Nat→Prop}{w:World}{t:Tree}{v:Value}{ts:List Tree}{vs:List Value}(h:zA9 P w t v)(k:zAJ P w ts vs):zAJ P w (t :: ts) (v :: vs):=by unfold zAJ;exact⟨v,vs,rfl,h,k⟩
mutual
theorem zBW : ∀ t,Fine t→MCon t
 | .num _ _,_=>fun P N w v lv ms hP hN hn ho hl=>by
  unfold zA9 at hn
  simpa[mets,zAL] using zBR (ts:=[]) (by decide) hP hN hn zBX (fun t ht=>by cases ht) ho (by simpa[mets,zAL] using hl) (by simp)
 | .neg _ a,hf=>fun P N w v lv ms hP hN hn ho hl=>by
  unfold Fine at hf
  unfold zA9 at hn
  obtain⟨va,hn,ha⟩:=hn
  have h1:=zBW a hf
  simpa[mets,zAL] using zBR (ts:=[a]) (by decide) hP hN hn (zB2 ha zBX) (fun t ht=>by simp at ht;subst ht;exact h1) ho (by simpa[mets,zAL] using hl) (by simp)
 | .bin _ _ a b,hf=>fun P N w v lv ms hP hN hn ho hl=>by
  unfold Fine at hf
  unfold zA9 at hn
  obtain⟨va,vb,hn,ha,hb⟩:=hn
  have h1:=zBW a hf.2.1
  have h2:=zBW b hf.2.2
  simpa[mets,zAL] using zBR (ts:=[a,b]) hf.1 hP hN hn (zB2 ha (zB2 hb zBX)) (fun t ht=>by simp at ht;rcases ht with rfl | rfl;exact h1;exact h2) ho (by simpa[mets,zAL] using hl) (by simp)
 | .ite _ a b c,hf=>fun P N w v lv ms hP hN hn ho hl=>by
  unfold Fine at hf
  unfold zA9 at hn
  obtain⟨va,vb,vc,hn,ha,hb,hc⟩:=hn
  have h1:=zBW a hf.1
  have h2:=zBW b hf.2.1
  have h3:=zBW c hf.2.2
  simpa[mets,zAL] using zBR (ts:=[a,b,c]) (by decide) hP hN hn (zB2 ha (zB2 hb (zB2 hc zBX))) (fun t ht=>by simp at ht;rcases ht with rfl | rfl | rfl;exact h1;exact h2;exact h3) ho (by simpa[mets,zAL,Nat.add_assoc] using hl) (by simp)
 | .meas _ _ m _,_=>fun P N w v lv ms hP hN hn ho hl=>by
  unfold zA9 at hn
  obtain⟨b,pv,rfl,-,hb,-⟩:=hn
  exact zJ2 hb hN ho (by omega)
 | .probe _ _ ts,hf=>fun P N w v lv ms hP hN hn ho hl=>by
  unfold Fine at hf
  unfold zA9 at hn
  obtain⟨vs,hn,hts⟩:=hn
  have h1:=zFX ts hf.2
  simpa[mets] using zBR (by decide) hP hN hn hts h1 ho (by simpa[mets] using hl) (by rw[←zC2 hts];exact hf.1)
theorem zFX : ∀ ts,zCX ts→∀ t∈ts,MCon t
 | [],_=>fun t ht=>by cases ht
 | t0 :: ts,hf=>fun t ht=>by
  unfold zCX at hf
  have h1:=zBW t0 hf.1
  have h2:=zFX ts hf.2
  rcases List.mem_cons.1 ht with rfl | h
  ·exact h1
  ·exact h2 t h
end
end Go.Proofs.YtbokdbaagacnlaaGreatDoor
namespace Go.Proofs.YtbokdbaagacnlaaGreatDoor
theorem zGL : ∀ a b,zCX (a ++ b)↔zCX a∧zCX b
 | [],b=>by simp[zCX]
 | t :: a,b=>by simp[zCX,zGL a b,and_assoc]
def Out.trees : Out→List Tree
 | .ok ts _=>ts
 | .bad _=>[]
theorem D.fine {s:ByteArray}{L:List Tok}{v:Lvl}{I:Nat}{o:Out}(h:D s L v I o):I≤o.at∧(o.at≤1000→zCX v.got→zCX o.trees∧(o.isOk=true→o.trees.length+I≤v.got.length+o.at)):=by
 induction h <;> simp only[Out.at,Out.isOk,Out.trees,Lvl.got,zCX,zGL,Fine,List.length_append,List.length_nil,List.length_cons] at * <;> grind
end Go.Proofs.YtbokdbaagacnlaaGreatDoor
namespace Go.Proofs.YtbokdbaagacnlaaGreatDoor
open Go.Lib
theorem zK0 : ∀ a b,zB8 (a ++ b)↔zB8 a∧zB8 b
 | [],b=>by simp[zB8]
 | t :: a,b=>by simp[zB8,zK0 a b,and_assoc]
theorem zIE : ∀ a b,zCS (a ++ b)=zCS a+zCS b
 | [],b=>by simp[zCS]
 | t :: a,b=>by simp[zCS,zIE a b];omega
theorem zID : ∀ ts:List Tree,ts.length≤zCS ts
 | []=>by simp[zCS]
 | t :: ts=>by have:=zID ts;have:=zQD t;simp[zCS];omega
set_option maxHeartbeats 4000000 in
theorem D.fits {s:ByteArray}{L:List Tok}(hn:∀ I,kd L I=97→zCN (tx s L I)=true∧(tx s L I).size<256)(hd:∀ I,kd L I=110→0≤zDO (tx s L I).data.toList∧zDO (tx s L I).data.toList<1000000000)(hp:∀ I,kd L I≠101→pl L I<200)
  {v:Lvl} {I:Nat} {o:Out} (h:D s L v I o):I≤o.at∧(o.at≤250→zB8 v.got→zB8 o.trees∧(o.isOk=true→zCS o.trees+I≤zCS v.got+o.at)):=by
 have hl:=zID
 induction h <;> simp only[Out.at,Out.isOk,Out.trees,Lvl.got,zB8,zK0,zCS,zIE,Fit,size,zC0] at * <;> grind
theorem zQB (s:ByteArray)(i:Nat):∀ f k n g,i≤k→k≤s.size→s.size - k≤f→f≤g→zAH (s.extract i (zAH s f k n).1) g (k - i) n=((zAH s f k n).1 - i,(zAH s f k n).2)
 | 0,k,n,g,h1,h2,h3,h4=>by
  have hsz:(s.extract i k).size=k - i:=by simp;omega
  simp only[zAH]
  cases g with
  | zero=>simp[zAH]
  | succ g=>
   unfold zAH
   rw[if_neg (by rw[hsz];omega)]
 | f+1,k,n,0,h1,h2,h3,h4=>by omega
 | f+1,k,n,g+1,h1,h2,h3,h4=>by
  rw[show zAH s (f+1) k n=if k<s.size∧zD7 (n == 0) (Utf8.decode s k).1=true then zAH s f (k+(Utf8.decode s k).2) (n+1) else(k,n) from by rw[zAH]]
  split
  ·rename_i hh
   have w1:=width_pos s k
   have w2:=zDP hh.1
   have hl:=zC7 s f (k+(Utf8.decode s k).2) (n+1) w2
   have ih:=zQB s i f (k+(Utf8.decode s k).2) (n+1) g (by omega) w2 (by omega) (by omega)
   generalize hE:(zAH s f (k+(Utf8.decode s k).2) (n+1)).1=e at *
   have hsz:(s.extract i e).size=e - i:=by simp;omega
   have hx:s.extract i e=(s.extract i s.size).extract 0 (e - i):=(zFN s i e hl.2.1 (by omega)).symm
   have hd:Utf8.decode (s.extract i e) (k - i)=Utf8.decode s k:=by
    have e1:Utf8.decode (s.extract i s.size) (k - i)=Utf8.decode s k:=by rw[tail_decode];congr 1;omega
    rw[hx,zK7 (s.extract i s.size) (e - i) (k - i) (by rw[tail_size];omega) (by omega) (by rw[e1];omega),e1]
   conv=>lhs;rw[zAH]
   rw[hd,hsz,if_pos ⟨by omega,hh.2⟩,show k - i+(Utf8.decode s k).2=k+(Utf8.decode s k).2 - i by omega]
   exact ih
  ·have hsz:(s.extract i k).size=k - i:=by simp;omega
   unfold zAH
   rw[if_neg (by rw[hsz];omega)]
theorem byteAt_sub {s:ByteArray}{i e:Nat}(h:i<e)(_he:e≤s.size):zBH (s.extract i e) 0=zBH s i:=by
 unfold zBH
 simp[ByteArray.data_extract]
 rw[List.getElem?_take_of_lt (by omega)]
 simp
theorem tok_name {s:ByteArray}{i:Nat}(hi:i≤s.size)(h:(zAX s i).kind=97):zCN ((zAX s i).text s)=true∧((zAX s i).text s).size≤s.size:=by
 unfold zAX at h ⊢
 split at h
 ·cases h
 rename_i h1
 rw[if_neg h1]
 split at h
 ·rename_i h2
  have h':(zBH s i).toNat=97:=h
  have e:zBH s i=97:=UInt8.toNat_inj.1 h'
  rw[e] at h2
  exact absurd h2 (by decide)
 rename_i h2
 rw[if_neg h2]
 split at h
 ·split at h <;> cases h
 rename_i h3
 rw[if_neg h3]
 split at h
 ·cases h
 rename_i h4
 rw[if_neg h4]
 have hl:=zC7 s (s.size - i) i 0 hi
 have hlt:=hl.2.2.2.1 (by have:¬ (zAF s i).2=0:=fun e=>h4 (.inl e);unfold zAF at this;omega)
 have hw:=zQB s i (s.size - i) i 0 (s.size - i) (Nat.le_refl _) hi (Nat.le_refl _) (Nat.le_refl _)
 change zCN (s.extract i (zAF s i).1)=true∧(s.extract i (zAF s i).1).size≤s.size
 have hsz:(s.extract i (zAF s i).1).size=(zAF s i).1 - i:=by have:(zAF s i).1≤s.size:=hl.2.1;simp;omega
 refine⟨?_,by have:(zAF s i).1≤s.size:=hl.2.1;omega⟩
 have hpos:i<(zAF s i).1:=hlt
 have hle:(zAF s i).1≤s.size:=hl.2.1
 have hb:=byteAt_sub hpos hle
 have h3':zEV (zBH s i)=false:=by
  cases e:zEV (zBH s i) with
  | false=>rfl
  | true=>
   exfalso
   apply h3
   unfold zCQ
   obtain⟨f,hf⟩:∃ f,s.size - i=f+1:=⟨s.size - i - 1,by omega⟩
   rw[hf,zBD,if_pos ⟨by omega,e⟩]
   have:=zGC s f (i+1) (by omega)
   omega
 have hw2:zAF (s.extract i (zAF s i).1) 0=((zAF s i).1 - i,(zAF s i).2):=by
  have e1:=zFD (s.extract i (zAF s i).1) (s.size - i) ((s.extract i (zAF s i).1).size - 0) 0 0 (by rw[hsz];omega) (Nat.le_refl _)
  rw[Nat.sub_self] at hw
  exact e1.symm.trans hw
 have hd0:zCQ (s.extract i (zAF s i).1) 0=0:=by
  unfold zCQ
  obtain⟨f,hf⟩:∃ f,(s.extract i (zAF s i).1).size - 0=f+1:=⟨(s.extract i (zAF s i).1).size - 0 - 1,by omega⟩
  rw[hf,zBD,if_neg (by rw[hb,h3'];simp)]
 unfold zCN zAX
 rw[hb,hw2,hd0,hsz,if_neg (by omega),if_neg h2,if_neg (by omega),if_neg h4]
 simp
theorem zQC {s:ByteArray}(P:Tok→Prop)(hP:∀ i,i≤s.size→P (zAX s i)){I:Nat}(hI:I<(toks s).length):P ((toks s).getD I default):=
 zG6 s P hP s.size 0 (by omega) (by omega) _ (by
  rw[List.getD_eq_getElem?_getD,List.getElem?_eq_getElem hI]
  exact List.getElem_mem hI)
theorem zNL {s:ByteArray}(hs:s.size≤200){t:Tree}{J:Nat}(h:D s (toks s) .choice 0 (.ok [t] J))(hJ:kd (toks s) J=101):Fit t∧size t≤200:=by
 have hlt:=kd_lt hJ (by decide)
 have hlen:=zED s
 have q:=D.fits (s:=s) (L:=toks s) (fun I hk=>by
   have:=zQC (s:=s) (fun t=>t.kind=97→zCN (t.text s)=true∧(t.text s).size≤s.size) (fun i hi h=>tok_name hi h) (kd_lt hk (by decide)) hk
   exact⟨this.1,Nat.lt_of_le_of_lt this.2 (by omega)⟩)
  (fun I hk=>by
   have hg:zHL (tx s (toks s) I):=zJI s I (kd_lt hk (by decide)) hk
   have:=zGA hg.1 _ (Nat.le_refl _)
   have h9:=pow9 (k:=(tx s (toks s) I).size) hg.2
   rw[List.take_of_length_le (by simp)] at this
   omega)
  (fun I hk=>by
   by_cases hI:I<(toks s).length
   ·have:=zQC (s:=s) (fun t=>t.kind≠101→t.pos<s.size) (fun i hi h=>by
     unfold zAX at h ⊢
     split at h
     ·exact absurd rfl h
     ·(repeat' split) <;> simp <;> omega) hI hk
    exact Nat.lt_of_lt_of_le this hs
   ·unfold pl
    rw[List.getD_eq_getElem?_getD,List.getElem?_eq_none (by omega)]
    decide) h
 have q2:=q.2 (by simp only[Out.at];omega) (by simp[Lvl.got,zB8])
 simp only[Out.trees,zB8,Out.isOk,zCS,Lvl.got,Out.at] at q2
 exact⟨q2.1.1,by have:=q2.2 trivial;omega⟩
end Go.Proofs.YtbokdbaagacnlaaGreatDoor
namespace Go.Proofs.YtbokdbaagacnlaaGreatDoor
open Go.RowKit Go.Lib
theorem zAO.bounded {lo:Nat}{w:World}{t:Tree}{v:Value}(h:zAO (Hi lo) w t v):zAO (Lt w.heap.size) w t v:=h.moves fun _ _ _ _ hb _=>⟨zA2 hb,rfl⟩
theorem W8.below_size {w w':World}(h:W8 w.heap.size w w'):Below w.heap.size w w':=h.below
set_option maxRecDepth 1000000 in
theorem code_Write {lo:Nat}{w:World}{t:Tree}{tb:Nat}{v mv:Value}(hf:Fit t)(hs:size t≤200)(hb:w.heap[tb]?=some (.cells #[v,mv] 231 (0,0)))(hn:zAO (Hi lo) w t v):
  Calls Tryz.prog 67 #[ptr tb] w fun e w'=>∃ vo,e=.returned vo∧Out8 w.heap.size w' vo (enc t)∧Below w.heap.size w w':=by
 have hl:=zD5 t hf
 have hpc:=zN3 (B:=w.heap.size) t hf w (.slice none 0 0) v [] hn.bounded (Out8.nil _ _) (Nat.le_refl _) (by simp;omega)
 have c0:w.cell? ⟨tb,0,none⟩=some v:=zA0 hb rfl
 obtain⟨ty,b,rfl⟩:=hn.form
 clear hb hn hf hl
 go_enter Tryz.func67,Tryz.ntmps67
 go_wp2_with fail
 refine hpc.mono ?_
 rintro e w1 ⟨vo,rfl,ho,hw⟩
 have Q:Hid _:=And.intro ho hw
 clear hpc ho hw
 go_wp2
 go_ret
 exact⟨_,rfl,by simpa using Q.out.1,Q.out.2.below⟩
set_option maxRecDepth 1000000 in
theorem code_Code {lo:Nat}{w:World}{t:Tree}{pb:Nat}(hf:Fit t)(hs:size t≤200)(h:CPol lo w t ⟨pb,0,none⟩):
  Calls Tryz.prog 42 #[ptr pb] w fun e w'=>∃ vo,e=.returned vo∧Out8 w.heap.size w' vo (enc t)∧Below w.heap.size w w':=by
 obtain⟨pb',a',e,-,h5,tb,ty,pa,mv,rfl,-,h6,h7,-⟩:=h
 injection e with e
 subst e
 have hem:=code_empty h5
 have hwr:=code_Write hf hs h6 h7
 have c0:w.cell? ⟨pb,0,none⟩=some (ptr tb):=zA0 h5 rfl
 clear h5 h6 h7
 go_enter Tryz.func42,Tryz.ntmps42
 go_wp2_with fail
 refine hem.mono ?_
 rintro e w' ⟨rfl,hw⟩
 have hw:=hw.symm
 subst hw
 clear hem
 go_wp2_with fail
 refine hwr.mono ?_
 rintro e w1 ⟨vo,rfl,ho,hw⟩
 have Q:Hid _:=And.intro ho hw
 clear hwr ho hw
 go_wp2
 go_ret
 exact⟨_,rfl,Q.out⟩
theorem Out8.rest {B:Nat}{w:World}{v:Value}{l:List UInt8}(h:Out8 B w v l):zBM w.heap.size w v l:=by
 have h0:=h
 rcases h.2 with⟨rfl,h1⟩ | ⟨g,cap,cur,rfl,hbg,hg,hnc,-⟩
 ·have:l=[]:=List.eq_nil_of_length_eq_zero h1
  subst this
  exact⟨none,0,rfl,Nat.le_refl _,fun j b hj=>by simp at hj⟩
 ·refine⟨some ⟨g,0,none⟩,cap,rfl,hnc,fun j b hj=>⟨g,0,zA2 hg,rfl,?_⟩⟩
  have:=h0.cells (g:=g) rfl j (.int .u8 b.toNat) (by simp[zB1,hj])
  rwa [show (⟨g,0,none⟩:Addr).add j=⟨g,0+j,none⟩ by unfold Addr.add;split <;> simp_all] at this
theorem zBM.bytes {R:Nat}{w:World}{v:Value}{l:List UInt8}(h:zBM R w v l):zFP w v l:=by
 obtain⟨ao,cp,h1,-,h3⟩:=h
 exact⟨ao,cp,h1,fun j b hj=>by obtain⟨C,off,-,h4,h5⟩:=h3 j b hj;exact⟨C,off,h4,h5⟩⟩
def zKK (f p:Nat)(s:ByteArray):Value:=.agg #[.int .i64 (f:Int),.int .i64 (p:Int),.int .i64 0,.string s]
set_option maxRecDepth 1000000 in
theorem of_nil4 (w:World):Calls Tryz.prog 35 #[.nilIface] w fun e w'=>e=.returned (zKK 0 0 ⟨#[]⟩)∧Below w.heap.size w w':=by
 go_enter Tryz.func35,Tryz.ntmps35
 go_wp2
 refine bodyPost_ret (v:=zKK 0 0 ⟨#[]⟩) (by simp[zKK,results,Tryz.results35,go_sem]) rfl ⟨rfl,?_⟩
 exact(Below.refl _ _).alloc (Nat.le_refl _) _
mutual
theorem zF0 : ∀ t,Fit t→Fit (bare t)
 | .num _ _,h=>by unfold Fit at h;simp only[bare];unfold Fit;exact h
 | .neg _ a,h=>by unfold Fit at h;simp only[bare];unfold Fit;exact zF0 a h
 | .bin k p a b,h=>by unfold Fit at h;simp only[bare];unfold Fit;exact⟨h.1,by split <;> omega,zF0 a h.2.2.1,zF0 b h.2.2.2⟩
 | .ite _ a b c,h=>by unfold Fit at h;simp only[bare];unfold Fit;exact⟨zF0 a h.1,zF0 b h.2.1,zF0 c h.2.2⟩
 | .meas _ _ _ _,h=>by simp only[bare];exact h
 | .probe p w ts,h=>by
  unfold Fit at h
  simp only[bare]
  unfold Fit
  exact⟨h.1,h.2.1,h.2.2.1,h.2.2.2.1,by rw[zIV];exact h.2.2.2.2.1,zO4 ts h.2.2.2.2.2⟩
theorem zO4 : ∀ ts,zB8 ts→zB8 (zFA ts)
 | [],h=>by simp only[zFA];exact h
 | t :: ts,h=>by unfold zB8 at h;simp only[zFA];unfold zB8;exact⟨zF0 t h.1,zO4 ts h.2⟩
theorem zIV : ∀ ts,(zFA ts).length=ts.length
 | []=>by simp[zFA]
 | _ :: ts=>by simp[zFA,zIV ts]
end
mutual
theorem zD9 : ∀ t,asks (bare t)=asks t
 | .num _ _=>by simp[bare,asks]
 | .neg _ a=>by simp[bare,asks,zD9 a]
 | .bin _ _ a b=>by simp[bare,asks,zD9 a,zD9 b]
 | .ite _ a b c=>by simp[bare,asks,zD9 a,zD9 b,zD9 c]
 | .meas _ _ _ _=>by simp[bare]
 | .probe _ _ ts=>by simp[bare,asks,zLS ts]
theorem zLS : ∀ ts,zAD (zFA ts)=zAD ts
 | []=>by simp[zFA]
 | t :: ts=>by simp[zFA,zAD,zD9 t,zLS ts]
end
theorem EvR.form {σ:Type}{A:Nat→Addr}{S:σ→World→Prop}{r:Res × σ}{w:World}{e:Ending}(h:EvR A S r w e):∃ n v,e=.returned (.tuple #[.int .i64 n,v]):=by
 obtain⟨r,s⟩:=r
 cases r with
 | val n=>exact⟨n,_,h.1⟩
 | held p y=>obtain⟨b,T,x,h1,-⟩:=h;exact⟨0,_,h1⟩
structure SentsX (A:Nat→Addr) (w:World):Prop where
 sents:Sents A w
 row:∀ i,i<8→∃ c t,w.heap[(A i).block]?=some (.cells c t (0,0))
 ne:∀ i j,i<8→j<8→i≠j→A i≠A j
 etype:zKZ w
theorem SentsX.below {A:Nat→Addr}{w w':World}(h:SentsX A w)(hb:Below w.heap.size w w'):SentsX A w':=
 ⟨h.sents.below hb,fun i hi=>by obtain⟨c,t,e⟩:=h.row i hi;exact⟨c,t,(hb.block _ (zA2 e)).trans e⟩,h.ne,h.etype.below hb⟩
theorem Tryz.assertH1 (v:Value)(xT:TypeId)(w:World):(Instr.typeAssert (.iface 159 v) xT 151 true).run Tryz.prog w=.ok (.tuple #[.pointer none,.bool false]) w:=by kernel_rfl
theorem Tryz.assertH2 (v:Value)(xT:TypeId)(w:World):(Instr.typeAssert (.iface 159 v) xT 156 true).run Tryz.prog w=.ok (.tuple #[.pointer none,.bool false]) w:=by kernel_rfl
theorem Tryz.assertH3 (v:Value)(xT:TypeId)(w:World):(Instr.typeAssert (.iface 159 v) xT 159 true).run Tryz.prog w=.ok (.tuple #[v,.bool true]) w:=by kernel_rfl
def toldW : Why→Nat→Value
 | .divide,p=>zGD 8 p 0
 | .noData,p=>zGD 9 p 0
 | .failed,p=>zGD 10 p 0
 | .panic n,p=>zGD 11 p n
section
variable {A:Nat→Addr} {w:World} {b p:Nat} {T:TypeId} {x:Value} {y:Why}
theorem plain_hold (hs:SentsX A w)(hh:zGN w b p T x)(hw:zOT A w y T x):Calls Tryz.prog 57 #[ptr b] w fun e w'=>e=.returned (toldW y p)∧Below w.heap.size w w':=by
 cases y with
 | divide=>
  obtain⟨rfl,rfl⟩:=hw
  exact zPR b p (A 5) w hs.etype (zA0 hh rfl) (zA0 hh rfl) hs.sents.g5
 | noData=>
  obtain⟨rfl,rfl⟩:=hw
  obtain⟨c5,t5,h5⟩:=hs.row 5 (by decide)
  obtain⟨c6,t6,h6⟩:=hs.row 6 (by decide)
  exact zPP b p (A 6) w hs.etype (zA0 hh rfl) (zA0 hh rfl) (A 5) hs.sents.g5 hs.sents.g6 (hs.ne 6 5 (by decide) (by decide) (by decide)) h6 h5
 | failed=>
  obtain⟨rfl,c,rfl⟩:=hw
  exact zPQ b p ⟨c,0,none⟩ w hs.etype (zA0 hh rfl) (zA0 hh rfl)
 | panic n=>
  obtain⟨rfl,c,rfl,ho⟩:=hw
  exact hold_panic b c p ⟨c,0,none⟩ w hs.etype (zA0 hh rfl) (zA0 hh rfl) n (zA0 ho rfl) rfl
set_option maxRecDepth 1000000 in
set_option maxHeartbeats 1000000 in
theorem of_hold (hs:SentsX A w)(hh:zGN w b p T x)(hw:zOT A w y T x):Calls Tryz.prog 35 #[.iface 159 (ptr b)] w fun e w'=>e=.returned (toldW y p)∧Below w.heap.size w w':=by
 have hx:Below w.heap.size w (w.alloc (.cells #[.int .i64 0,.int .i64 0,.int .i64 0,.string { data:=#[] }] 25)):=(Below.refl _ _).alloc (Nat.le_refl _) _
 have hcl:=plain_hold (hs.below hx) (((hx.block b (zA2 hh)).trans hh:zGN _ b p T x)) (hw.below hx)
 obtain⟨ce,cn,he⟩:∃ ce cn,toldW y p=.agg #[.int .i64 ce,.int .i64 (p:Int),.int .i64 cn,.string { data:=#[] }]:=by cases y <;> exact⟨_,_,rfl⟩
 rw[he] at hcl ⊢
 have t1:=Tryz.assertH1
 have t2:=Tryz.assertH2
 have t3:=Tryz.assertH3
 have HX:Hid _:=hx
 clear hs hh hw hx he
 go_enter Tryz.func35,Tryz.ntmps35
 go_wp2_with fail
 refine hcl.mono ?_
 rintro e w1 ⟨rfl,hb1⟩
 have bn:w1.heap[w.heap.size]?=some (.cells #[.int .i64 0,.int .i64 0,.int .i64 0,.string { data:=#[] }] 25 (0,0)):=(hb1.block _ (by simp)).trans zBE
 have c0:=zA0 (i:=0) bn rfl
 have c1:=zA0 (i:=1) bn rfl
 have c2:=zA0 (i:=2) bn rfl
 have c3:=zA0 (i:=3) bn rfl
 have z0:=zA1 (i:=0) bn
 have z1:=zA1 (i:=1) bn
 have z2:=zA1 (i:=2) bn
 have z3:=zA1 (i:=3) bn
 have HB:Hid (Below w.heap.size w w1):=HX.out.trans (hb1.mono (by simp))
 clear bn hb1 hcl HX
 go_wp2
 refine bodyPost_ret (v:=.agg #[.int .i64 ce,.int .i64 (p:Int),.int .i64 cn,.string { data:=#[] }]) (by simp[results,Tryz.results35,go_sem,c0,c1,c2,c3]) rfl ⟨rfl,?_⟩
 iterate 4 (refine Below.setCell ?_ (by exact Nat.le_refl _) _)
 exact HB.out
end
def zFC (w:World)(ao:Option Addr)(L:List Int):Prop:=∀ (j:Nat) (v:Int),L[j]?=some v→∃ C off,ao=some ⟨C,off,none⟩∧w.cell? ⟨C,off+j,none⟩=some (.int .i64 v)
theorem zFC.below {w w':World}{ao:Option Addr}{L:List Int}(h:zFC w ao L)(hb:Below w.heap.size w w'):zFC w' ao L:=fun j v hv=>by
 obtain⟨C,off,rfl,hc⟩:=h j v hv
 exact⟨C,off,rfl,zAR hb hc⟩
theorem Tryz.sizeI64 : (Tryz.prog.info? 2).map (·.size)=some 1:=by kernel_rfl
theorem five_of (L:List Int):((#[.int .i64 0,.int .i64 0,.int .i64 0,.int .i64 0,.int .i64 0]:Array Value).toList.take 0 ++ (L.take 5).map (Value.int .i64) ++ (#[.int .i64 0,.int .i64 0,.int .i64 0,.int .i64 0,.int .i64 0]:Array Value).toList.drop (0+((L.take 5).map (Value.int .i64)).length)).toArray=#[.int .i64 (L.getD 0 0),.int .i64 (L.getD 1 0),.int .i64 (L.getD 2 0),.int .i64 (L.getD 3 0),.int .i64 (L.getD 4 0)]:=by
 rcases L with _ | ⟨a,_ | ⟨b,_ | ⟨c,_ | ⟨d,_ | ⟨e,L⟩⟩⟩⟩⟩ <;> simp
theorem zJR {W:World}{g:Nat}{T:TypeId}(hg:W.heap[g]?=some (.cells #[.int .i64 0,.int .i64 0,.int .i64 0,.int .i64 0,.int .i64 0] T (0,0))){ao:Option Addr}{cp:Nat}{L:List Int}(hL:zFC W ao L)(ty:TypeId):
  ∃ m w2,(Builtin.copy_ #[22,22] ty #[.slice (some ⟨g,0,none⟩) 5 5,.slice ao L.length cp]).run Tryz.prog W=.ok (goInt m) w2∧w2.heap[g]?=some (.cells #[.int .i64 (L.getD 0 0),.int .i64 (L.getD 1 0),.int .i64 (L.getD 2 0),.int .i64 (L.getD 3 0),.int .i64 (L.getD 4 0)] T (0,0))∧Keep g W w2:=by
 cases L with
 | nil=>exact⟨0,W,run_copy_none (P:=Tryz.prog) W _ _ ty 2 _ _ 5 5 0 cp Tryz.underlying22 Tryz.sizeI64 (by simp),hg,⟨rfl,rfl,rfl,Nat.le_refl _,fun _ _ _=>rfl⟩⟩
 | cons a L=>
  obtain⟨C,off,rfl,-⟩:=hL 0 a rfl
  have hadd:∀ j,(⟨C,off,none⟩:Addr).add j=⟨C,off+j,none⟩:=fun j=>by unfold Addr.add;split <;> simp_all
  have hr:=run_copy_row (P:=Tryz.prog) W 22 22 ty 2 g 0 5 5 ⟨C,off,none⟩ (a :: L).length cp _ T (((a :: L).take 5).map (Value.int .i64)) Tryz.underlying22 Tryz.sizeI64 hg (by rw[List.length_map,List.length_take];exact Nat.min_comm _ _) (fun j v hv=>by
   rw[hadd]
   rw[List.getElem?_map,List.getElem?_take] at hv
   split at hv
   ·cases hx:(a :: L)[j]? with
    | none=>rw[hx] at hv;simp at hv
    | some x=>
     rw[hx] at hv
     simp at hv
     subst hv
     obtain⟨C',off',e,hc⟩:=hL j x hx
     injection e with e
     injection e with e1 e2
     subst e1 e2
     exact hc
   ·simp at hv) (by simp;omega) (by intro v hv;obtain⟨x,-,rfl⟩:=List.mem_map.1 hv;rfl)
  rw[five_of] at hr
  exact⟨_,_,hr,setRow_heap W g _ _ T _ hg,⟨rfl,rfl,rfl,by simp[World.setRow],fun k _ ne=>setRow_other W g k _ (fun e=>ne e)⟩⟩
abbrev begV (p t:Bool)(e:Int):Value:=.agg #[.bool p,.bool t,.int .i64 e,.int .i64 0,.int .i64 0,.string { data:=#[] }]
abbrev limV (L:List Int):Value:=.agg #[.int .i64 (L.getD 0 0),.int .i64 (L.getD 1 0),.int .i64 (L.getD 2 0),.int .i64 (L.getD 3 0),.int .i64 (L.getD 4 0)]
set_option maxRecDepth 1000000 in
set_option maxHeartbeats 1000000 in
theorem zMS {w:World}{b:Nat}{ao:Option Addr}{cp:Nat}{L:List Int}{count:Int}(hL:zFC w ao L){a:Addr}
  (hnew:∀ W,Below w.heap.size w W→Calls Tryz.prog 34 #[ptr b,limV L,.int .i64 count] W fun e w'=>e=.returned (.tuple #[.pointer none,.iface 416 (.pointer (some a))])∧Below W.heap.size W w')
  (hof:∀ W,Below w.heap.size w W→Calls Tryz.prog 35 #[.iface 416 (.pointer (some a))] W fun e w'=>e=.returned (.agg #[.int .i64 5,.int .i64 0,.int .i64 0,.string { data:=#[] }])∧Below W.heap.size W w'):
  Calls Tryz.prog 17 #[ptr b,.slice ao L.length cp,.int .i64 count] w fun e w'=>e=.returned (.tuple #[.pointer none,begV true false 5])∧Below w.heap.size w w':=by
 have hB1:Below w.heap.size w ((w.alloc (.cells #[.bool false,.bool false,.int .i64 0,.int .i64 0,.int .i64 0,.string { data:=#[] }] 27)).alloc (.cells #[.int .i64 0,.int .i64 0,.int .i64 0,.int .i64 0,.int .i64 0] 95)):=((Below.refl _ _).alloc (Nat.le_refl _) _).alloc (by simp) _
 have hg:((w.alloc (.cells #[.bool false,.bool false,.int .i64 0,.int .i64 0,.int .i64 0,.string { data:=#[] }] 27)).alloc (.cells #[.int .i64 0,.int .i64 0,.int .i64 0,.int .i64 0,.int .i64 0] 95)).heap[w.heap.size+1]?=some (.cells #[.int .i64 0,.int .i64 0,.int .i64 0,.int .i64 0,.int .i64 0] 95 (0,0)):=by
  have:=heap_alloc_new (w.alloc (.cells #[.bool false,.bool false,.int .i64 0,.int .i64 0,.int .i64 0,.string { data:=#[] }] 27)) (.cells #[.int .i64 0,.int .i64 0,.int .i64 0,.int .i64 0,.int .i64 0] 95)
  simpa using this
 obtain⟨m,w2,hrun,h5,hk⟩:=zJR hg (hL.below hB1) (cp:=cp) 3
 have a0:=zA0 (i:=0) (v:=.int .i64 (L.getD 0 0)) h5 rfl
 have a1:=zA0 (i:=1) (v:=.int .i64 (L.getD 1 0)) h5 rfl
 have a2:=zA0 (i:=2) (v:=.int .i64 (L.getD 2 0)) h5 rfl
 have a3:=zA0 (i:=3) (v:=.int .i64 (L.getD 3 0)) h5 rfl
 have a4:=zA0 (i:=4) (v:=.int .i64 (L.getD 4 0)) h5 rfl
 have hB2:Below w.heap.size w w2:=⟨hk.os.trans hB1.os,hk.tape.trans hB1.tape,hk.output.trans hB1.output,Nat.le_trans hB1.size hk.size,fun k lt=>(hk.block k (Nat.lt_of_lt_of_le lt hB1.size) (by omega)).trans (hB1.block k lt)⟩
 have hres:w2.heap[w.heap.size]?=some (.cells #[.bool false,.bool false,.int .i64 0,.int .i64 0,.int .i64 0,.string { data:=#[] }] 27 (0,0)):=(hk.block _ (by simp;omega) (by omega)).trans (zA3 (heap_alloc_new _ _))
 have hnw:=hnew w2 hB2
 have HB:Hid _:=And.intro hB1 (And.intro hg (And.intro hres hB2))
 clear hB1 hg hL hk h5 hB2 hnew hres
 unfold limV at hnw
 generalize L.getD 0 0=l0 at *
 generalize L.getD 1 0=l1 at *
 generalize L.getD 2 0=l2 at *
 generalize L.getD 3 0=l3 at *
 generalize L.getD 4 0=l4 at *
 generalize L.length=n at *
 go_enter Tryz.func17,Tryz.ntmps17
 go_wp2_with fail
 refine hnw.mono ?_
 rintro e w3 ⟨rfl,hb3⟩
 have hB3:Below w.heap.size w w3:=HB.out.2.2.2.trans (hb3.mono HB.out.2.2.2.size)
 have hr3:=(hb3.block _ (zA2 HB.out.2.2.1)).trans HB.out.2.2.1
 have hof:=hof w3 hB3
 have H3:Hid _:=And.intro hB3 hr3
 clear hnw hb3 hB3 hr3
 go_wp2_with fail
 refine hof.mono ?_
 rintro e w4 ⟨rfl,hb4⟩
 have hr4:=(hb4.block _ (zA2 H3.out.2)).trans H3.out.2
 have H4:Hid (Below w.heap.size w w4):=H3.out.1.trans (hb4.mono H3.out.1.size)
 have rc0:=zA0 (i:=0) (v:=.bool false) hr4 rfl
 have rc1:=zA0 (i:=1) (v:=.bool false) hr4 rfl
 have rc2:=zA0 (i:=2) (v:=.int .i64 0) hr4 rfl
 have rc3:=zA0 (i:=3) (v:=.int .i64 0) hr4 rfl
 have rc4:=zA0 (i:=4) (v:=.int .i64 0) hr4 rfl
 have rc5:=zA0 (i:=5) (v:=.string { data:=#[] }) hr4 rfl
 have rz0:=zA1 (i:=0) hr4
 have rz1:=zA1 (i:=1) hr4
 have rz2:=zA1 (i:=2) hr4
 have rz3:=zA1 (i:=3) hr4
 have rz4:=zA1 (i:=4) hr4
 have rz5:=zA1 (i:=5) hr4
 clear hof hb4 hr4
 go_wp2
 refine bodyPost_ret (v:=.tuple #[.pointer none,begV true false 5]) (by simp[results,Tryz.results17,go_sem,rc0,rc1,rc2,rc3,rc4,rc5]) rfl ?_
 exact⟨rfl,by(iterate 6 (refine Below.setCell ?_ (by exact Nat.le_refl _) _));exact H4.out⟩
set_option maxRecDepth 1000000 in
set_option maxHeartbeats 1000000 in
theorem zKR {w:World}{b:Nat}{ao:Option Addr}{cp:Nat}{L:List Int}{count:Int}(hL:zFC w ao L){Q:Nat→World→Prop}
  (hnew:∀ W,Below w.heap.size w W→Calls Tryz.prog 34 #[ptr b,limV L,.int .i64 count] W fun e w'=>∃ c,e=.returned (.tuple #[ptr c,.nilIface])∧Below W.heap.size W w'∧Q c w')
  (hof:∀ W,Below w.heap.size w W→Calls Tryz.prog 35 #[.nilIface] W fun e w'=>e=.returned (.agg #[.int .i64 0,.int .i64 0,.int .i64 0,.string { data:=#[] }])∧Below W.heap.size W w'):
  Calls Tryz.prog 17 #[ptr b,.slice ao L.length cp,.int .i64 count] w fun e w'=>∃ c x w3 w4,e=.returned (.tuple #[ptr x,begV true true 0])∧Below w.heap.size w w'∧Q c w3∧Below w3.heap.size w3 w4∧w4.heap[w.heap.size]?=some (.cells #[.bool false,.bool false,.int .i64 0,.int .i64 0,.int .i64 0,.string { data:=#[] }] 27 (0,0))∧Keep w.heap.size w4 w'∧w4.heap[x]?=some (.cells #[ptr c] 74 (0,0)):=by
 have hB1:Below w.heap.size w ((w.alloc (.cells #[.bool false,.bool false,.int .i64 0,.int .i64 0,.int .i64 0,.string { data:=#[] }] 27)).alloc (.cells #[.int .i64 0,.int .i64 0,.int .i64 0,.int .i64 0,.int .i64 0] 95)):=((Below.refl _ _).alloc (Nat.le_refl _) _).alloc (by simp) _
 have hg:((w.alloc (.cells #[.bool false,.bool false,.int .i64 0,.int .i64 0,.int .i64 0,.string { data:=#[] }] 27)).alloc (.cells #[.int .i64 0,.int .i64 0,.int .i64 0,.int .i64 0,.int .i64 0] 95)).heap[w.heap.size+1]?=some (.cells #[.int .i64 0,.int .i64 0,.int .i64 0,.int .i64 0,.int .i64 0] 95 (0,0)):=by
  have:=heap_alloc_new (w.alloc (.cells #[.bool false,.bool false,.int .i64 0,.int .i64 0,.int .i64 0,.string { data:=#[] }] 27)) (.cells #[.int .i64 0,.int .i64 0,.int .i64 0,.int .i64 0,.int .i64 0] 95)
  simpa using this
 obtain⟨m,w2,hrun,h5,hk⟩:=zJR hg (hL.below hB1) (cp:=cp) 3
 have a0:=zA0 (i:=0) (v:=.int .i64 (L.getD 0 0)) h5 rfl
 have a1:=zA0 (i:=1) (v:=.int .i64 (L.getD 1 0)) h5 rfl
 have a2:=zA0 (i:=2) (v:=.int .i64 (L.getD 2 0)) h5 rfl
 have a3:=zA0 (i:=3) (v:=.int .i64 (L.getD 3 0)) h5 rfl
 have a4:=zA0 (i:=4) (v:=.int .i64 (L.getD 4 0)) h5 rfl
 have hB2:Below w.heap.size w w2:=⟨hk.os.trans hB1.os,hk.tape.trans hB1.tape,hk.output.trans hB1.output,Nat.le_trans hB1.size hk.size,fun k lt=>(hk.block k (Nat.lt_of_lt_of_le lt hB1.size) (by omega)).trans (hB1.block k lt)⟩
 have hres:w2.heap[w.heap.size]?=some (.cells #[.bool false,.bool false,.int .i64 0,.int .i64 0,.int .i64 0,.string { data:=#[] }] 27 (0,0)):=(hk.block _ (by simp;omega) (by omega)).trans (zA3 (heap_alloc_new _ _))
 have hnw:=hnew w2 hB2
 have HB:Hid _:=And.intro hB1 (And.intro hg (And.intro hres hB2))
 clear hB1 hg hL hk h5 hB2 hnew hres
 unfold limV at hnw
 generalize L.getD 0 0=l0 at *
 generalize L.getD 1 0=l1 at *
 generalize L.getD 2 0=l2 at *
 generalize L.getD 3 0=l3 at *
 generalize L.getD 4 0=l4 at *
 generalize L.length=n at *
 go_enter Tryz.func17,Tryz.ntmps17
 go_wp2_with fail
 refine hnw.mono ?_
 rintro e w3 ⟨c,rfl,hb3,hq3⟩
 have hB3:Below w.heap.size w w3:=HB.out.2.2.2.trans (hb3.mono HB.out.2.2.2.size)
 have hr3:=(hb3.block _ (zA2 HB.out.2.2.1)).trans HB.out.2.2.1
 have hB3a:Below w.heap.size w (w3.alloc (.cells #[ptr c] 74)):=hB3.alloc hB3.size _
 have hof:=hof _ hB3a
 have H3:Hid _:=And.intro hB3 (And.intro hr3 hq3)
 clear hnw hb3 hB3 hr3 hq3 hB3a
 go_wp2_with fail
 refine hof.mono ?_
 rintro e w4 ⟨rfl,hb4⟩
 have hx4:=(hb4.block _ (by simp)).trans (heap_alloc_new w3 (.cells #[ptr c] 74))
 have hr4:=(hb4.block _ (Nat.lt_of_lt_of_le (zA2 H3.out.2.1) (by simp))).trans (zA3 H3.out.2.1)
 have hb34:Below w3.heap.size w3 w4:=((Below.refl _ w3).alloc (Nat.le_refl _) _).trans (hb4.mono (by simp))
 have H4:Hid _:=And.intro (H3.out.1.trans (hb34.mono H3.out.1.size)) (And.intro hb34 (And.intro hx4 hr4))
 have rc0:=zA0 (i:=0) (v:=.bool false) hr4 rfl
 have rc1:=zA0 (i:=1) (v:=.bool false) hr4 rfl
 have rc2:=zA0 (i:=2) (v:=.int .i64 0) hr4 rfl
 have rc3:=zA0 (i:=3) (v:=.int .i64 0) hr4 rfl
 have rc4:=zA0 (i:=4) (v:=.int .i64 0) hr4 rfl
 have rc5:=zA0 (i:=5) (v:=.string { data:=#[] }) hr4 rfl
 have rz0:=zA1 (i:=0) hr4
 have rz1:=zA1 (i:=1) hr4
 have rz2:=zA1 (i:=2) hr4
 have rz3:=zA1 (i:=3) hr4
 have rz4:=zA1 (i:=4) hr4
 have rz5:=zA1 (i:=5) hr4
 clear hof hb4 hr4 hx4 hb34
 go_wp2
 refine bodyPost_ret (v:=.tuple #[ptr w3.heap.size,begV true true 0]) (by simp[results,Tryz.results17,go_sem,rc0,rc1,rc2,rc3,rc4,rc5]) rfl ?_
 refine⟨c,w3.heap.size,w3,w4,rfl,by(iterate 6 (refine Below.setCell ?_ (by exact Nat.le_refl _) _));exact H4.out.1,H3.out.2.2,H4.out.2.1,H4.out.2.2.2,?_,H4.out.2.2.1⟩
 iterate 6 (refine Keep.setR ?_ _ _)
 exact Keep.refl _ _
end Go.Proofs.YtbokdbaagacnlaaGreatDoor
