import Derived.Test.YtbokdbaagacnlaaGreatDoorJQ15
import Derived.Laws.IdiomStrings
namespace Go.Proofs.YtbokdbaagacnlaaGreatDoor
open Go.RowKit Go.Lib
section
variable {R:Nat} {w w':World} {r r':RS}
theorem zFP.drew {v:Value}{l:List UInt8}(h:zFP w v l):zFP w.drew v l:=h
theorem RSt.set2 (h:RSt R w r)(b:Bool):RSt R (w.setCell ⟨R,2,none⟩ (.bool (r.wrong || !b))) (r.require b)∧KR R w (w.setCell ⟨R,2,none⟩ (.bool (r.wrong || !b))):=by
 obtain⟨rv,mv,sv,av,h1,h2,h3,h4⟩:=h.blk
 exact⟨h.change (zA4 (i:=2) h1) h2 h3 h4 rfl rfl rfl (by simp) (fun k _ hk=>Below.heap_setCell _ _ _ _ hk),.setR _ h1 (by decide) (by decide) (by decide)⟩
set_option maxRecDepth 1000000 in
theorem zCH (h:RSt R w r)(b:Bool):Calls Tryz.prog 124 #[.pointer (some ⟨R,0,none⟩),.bool b] w fun e w'=>e=.returned (.tuple #[])∧RSt R w' (r.require b)∧KR R w w':=by
 have H2:Hid _:=h.set2 b
 obtain⟨rv,mv,sv,av,h1,h2,h3,h4⟩:=h.blk
 have c2:=zA0 (i:=2) h1 rfl
 have z2:=zA1 (i:=2) h1
 clear h h1 h2 h3 h4
 have hnot:∀ (x:Bool) (w:World),(Op.unary .not (.bool x)).run Tryz.prog w=.ok (.bool (!x)) w:=fun _ _=>rfl
 cases hw:r.wrong with
 | true=>
  rw[hw] at c2 H2
  go_enter Tryz.func124,Tryz.ntmps124
  go_wp2
  go_end0
  exact⟨rfl,by simpa using H2.out⟩
 | false=>
  rw[hw] at c2 H2
  go_enter Tryz.func124,Tryz.ntmps124
  go_wp2
  go_end0
  exact⟨rfl,by simpa using H2.out⟩
theorem zBM.slice {v:Value}{l:List UInt8}(h:zBM R w v l):∃ ao cp,v=.slice ao l.length cp∧l.length≤cp:=by obtain⟨ao,cp,h1,h2,-⟩:=h;exact⟨ao,cp,h1,h2⟩
theorem zBM.drop {ao:Option Addr}{cp:Nat}{l:List UInt8}(h:zBM R w (.slice ao l.length cp) l)(n:Nat)(hn:n≤l.length){ao':Option Addr}(ha:n<l.length→∃ C off,ao=some ⟨C,off,none⟩∧ao'=some ⟨C,off+n,none⟩):zBM R w (.slice ao' (l.length - n) (cp - n)) (l.drop n):=by
 obtain⟨ao2,cp2,h1,h2,h3⟩:=h
 injection h1 with e1 e2 e3
 subst e1 e3
 refine⟨ao',cp - n,by simp,by simp;omega,fun j b hj=>?_⟩
 rw[List.getElem?_drop] at hj
 have hlt:n+j<l.length:=by
  rcases Nat.lt_or_ge (n+j) l.length with q | q
  ·exact q
  ·rw[List.getElem?_eq_none q] at hj;cases hj
 obtain⟨C,off,hC,h4,h5⟩:=h3 _ b hj
 obtain⟨C2,off2,h6,h7⟩:=ha (by omega)
 rw[h4] at h6
 injection h6 with h6
 injection h6 with h6 h8
 subst h6 h8
 exact⟨C,off+n,hC,h7,by rw[Nat.add_assoc];exact h5⟩
theorem zFP.zeros {B n:Nat}{g:Nat}{c:Nat}(h:w.ownsRow B 5 1 (.slice (some ⟨g,0,none⟩) n c) n (madeCells (Value.int .u8 0).cells (n * 1)).toList):zFP w (.slice (some ⟨g,0,none⟩) n c) (List.replicate n 0):=by
 refine⟨some ⟨g,0,none⟩,c,by simp,fun j b hj=>?_⟩
 rw[Nat.mul_one,show (Value.int .u8 0).cells=#[.int .u8 0] from rfl,toList_madeCells_one] at h
 rw[List.getElem?_replicate] at hj
 split at hj
 ·rename_i hlt
  injection hj with hj
  subst hj
  have:=h.cells (g:=g) rfl j (.int .u8 0) (by rw[List.getElem?_replicate,if_pos hlt])
  refine⟨g,0,rfl,?_⟩
  rw[show (⟨g,0,none⟩:Addr).add j=⟨g,0+j,none⟩ by unfold Addr.add;split <;> simp_all] at this
  exact this
 ·cases hj
theorem zBM.head {ao:Option Addr}{cp:Nat}{l:List UInt8}(h:zBM R w (.slice ao l.length cp) l)(n:Nat)(hn:n≤l.length)(cp':Nat):zFP w (.slice ao n cp') (l.take n):=by
 obtain⟨ao2,cp2,h1,h2,h3⟩:=h
 injection h1 with e1 e2 e3
 subst e1 e3
 refine⟨ao,cp',by simp;omega,fun j b hj=>?_⟩
 rw[List.getElem?_take] at hj
 split at hj
 ·obtain⟨C,off,hC,h4,h5⟩:=h3 _ b hj
  exact⟨C,off,h4,h5⟩
 ·cases hj
theorem zBM.set {v:Value}{l:List UInt8}(h:zBM R w v l)(i:Nat)(x:Value):zBM R (w.setCell ⟨R,i,none⟩ x) v l:=
 h.below ⟨rfl,rfl,rfl,by simp,fun k hk=>Below.heap_setCell _ _ _ _ (by simp;omega)⟩
set_option maxRecDepth 1000000 in
set_option maxHeartbeats 1000000 in
theorem zP4 (h:RSt R w r)(n:Nat)(hn:n≤1000):Calls Tryz.prog 168 #[.pointer (some ⟨R,0,none⟩),.int .i64 n] w fun e w'=>∃ v,e=.returned v∧RSt R w' (r.take n).2∧KR R w w'∧zFP w' v (r.take n).1:=by
 obtain⟨i0,hi,hz0,hz1,hz2⟩:=info_parts Tryz.infoByte
 have hrq:=zCH h (decide (n≤r.rest.length))
 obtain⟨rv,mv,sv,av,h1,h2,h3,h4⟩:=h.blk
 obtain⟨ao,cp,rfl,hcp⟩:=h2.slice
 have c0:=zA0 (i:=0) h1 rfl
 clear h h1 h2 h3 h4
 generalize hm:r.rest.length=m at *
 have HM:Hid (r.rest.length=m):=hm
 clear hm
 go_enter Tryz.func168,Tryz.ntmps168
 go_wp2_with fail
 refine hrq.mono ?_
 rintro e w1 ⟨rfl,h1,k1⟩
 clear hrq c0
 have H1:Hid _:=h1
 have K1:Hid _:=k1
 obtain⟨rv1,mv1,sv1,av1,b1,b2,b3,b4⟩:=h1.blk
 have c2:w1.cell? ⟨R,2,none⟩=some (.bool (r.require (decide (n≤m))).wrong):=zA0 b1 rfl
 have c0:w1.cell? ⟨R,0,none⟩=some rv1:=zA0 b1 rfl
 have z0:=zA1 (i:=0) b1
 have hb2:zBM R w1 rv1 r.rest:=b2
 obtain⟨ao1,cp1,rfl,hcp1⟩:=hb2.slice
 have HB2:Hid (zBM R w1 (.slice ao1 r.rest.length cp1) r.rest):=hb2
 have HB:Hid _:=And.intro b1 (And.intro b3 b4)
 clear h1 k1 b1 b2 b3 b4 hb2
 rw[HM.out] at hcp1 c0
 cases hw:(r.require (decide (n≤m))).wrong with
 | true=>
  have HW:Hid ((r.require (decide (n≤m))).wrong=true):=hw
  rw[hw] at c2
  clear hw
  go_wp2_with (first
    | (at_make;refine wpList_make_full _ rfl _ _ 111 rfl (R+1) 5 i0 (.int .u8 0) 1 Tryz.underlying111 hi hz0 hz1 _ _ _ _ n rfl rfl rfl rfl (by rw[hz2];omega) (by unfold maxLen;omega) (Nat.succ_le_of_lt H1.out.lR) ?_;intro w2 hown hgrow;have Q:Hid _:=And.intro hown hgrow;clear hown hgrow)
    | fail)
  go_ret
  have hbl:Below w1.heap.size w1 w2:=⟨Q.out.2.os,Q.out.2.tape,Q.out.2.output,Q.out.2.size,fun k hk=>Q.out.2.block k hk (by simp)⟩
  refine⟨_,rfl,?_,K1.out.trans (.of_below hbl H1.out.lR),?_⟩
  ·unfold RS.take
   rw[HM.out,if_pos HW.out]
   exact H1.out.later hbl
  ·unfold RS.take
   rw[HM.out,if_pos HW.out]
   exact .zeros Q.out.1
 | false=>
  have HW:Hid ((r.require (decide (n≤m))).wrong=false):=hw
  have hnm:n≤m:=of_decide_eq_true (RS.require_wrong hw).2
  rw[hw] at c2
  clear hw
  go_wp2
  all_goals
   go_ret
   refine⟨_,rfl,?_,K1.out.trans (.setR _ HB.out.1 (by decide) (by decide) (by decide)),?_⟩
   ·unfold RS.take
    rw[HM.out,if_neg (by rw[HW.out];decide)]
    refine H1.out.change (zA4 (i:=0) HB.out.1) ?_ HB.out.2.1 HB.out.2.2 rfl rfl rfl (by simp) (fun k _ hk=>Below.heap_setCell _ _ _ _ hk)
    first
     | (have q:=HB2.out.drop n (by rw[HM.out];exact hnm) (ao':=Option.map (fun x=>x.add n) ao1) (fun hlt=>by
       obtain⟨ao2,cp2,e1,-,h3⟩:=HB2.out
       injection e1 with e1
       obtain⟨C,off,-,h4,-⟩:=h3 0 _ (List.getElem?_eq_getElem (by omega))
       refine⟨C,off,e1.trans h4,?_⟩
       rw[e1.trans h4]
       show some ((⟨C,off,none⟩:Addr).add n)=_
       congr 1
       unfold Addr.add
       split <;> simp_all)
        rw[HM.out] at q
        exact q)
     | (have q:=HB2.out.drop n (by rw[HM.out];exact hnm) (ao':=ao1) (fun hlt=>by rw[HM.out] at hlt;omega)
        rw[HM.out,show cp1 - n=0 by omega] at q
        exact q)
   ·unfold RS.take
    rw[HM.out,if_neg (by rw[HW.out];decide)]
    exact(HB2.out.set _ _).head n (by rw[HM.out];exact hnm) _
set_option maxRecDepth 1000000 in
theorem zMB (h:RSt R w r):Calls Tryz.prog 125 #[.pointer (some ⟨R,0,none⟩)] w fun e w'=>e=.returned (.int .u8 r.next.1.toNat)∧RSt R w' r.next.2∧KR R w w':=by
 have htk:=zP4 h 1 (by decide)
 clear h
 go_enter Tryz.func125,Tryz.ntmps125
 go_wp2_with fail
 refine htk.mono ?_
 rintro e w1 ⟨v,rfl,h1,k1,hb⟩
 have Q:Hid _:=And.intro h1 k1
 clear htk h1 k1
 obtain⟨x,hx⟩:∃ x,(r.take 1).1=[x]:=by
  unfold RS.take
  split
  ·exact⟨_,rfl⟩
  ·rename_i hw
   have:¬ r.rest.length<1:=by
    intro hl
    apply hw
    show (r.wrong || !decide (1≤r.rest.length))=true
    rw[decide_eq_false (by omega)]
    simp
   match hr:r.rest with
   | []=>simp[hr] at this
   | x :: l=>exact⟨x,by simp⟩
 rw[hx] at hb
 have HX:Hid (r.next.1=x):=by show (r.take 1).1.headD 0=x;rw[hx];rfl
 obtain⟨ao,cp,rfl,hc⟩:=hb
 obtain⟨C,off,rfl,c1⟩:=hc 0 x rfl
 simp only[Nat.add_zero] at c1
 clear hc hx
 go_wp2
 go_ret
 exact⟨by rw[HX.out];rfl,Q.out⟩
set_option maxRecDepth 1000000 in
theorem zMA (h:RSt R w r):Calls Tryz.prog 129 #[.pointer (some ⟨R,0,none⟩)] w fun e w'=>e=.returned (.agg #[.int .i64 r.place.1])∧RSt R w' r.place.2∧KR R w w':=by
 have hb0:Below w.heap.size w (w.alloc (.cells #[.int .i64 0] 153)):=(Below.refl _ _).alloc (Nat.le_refl _) _
 have hnx:=zMB (h.later hb0)
 have f0:Free R (w.alloc (.cells #[.int .i64 0] 153)) w.heap.size:=h.free_new hb0 (Nat.le_refl _) (by simp)
 have LR:Hid (R<w.heap.size):=h.lR
 have H0:Hid _:=KR.of_below hb0 h.lR
 have F0:Hid (Free R (w.alloc (.cells #[.int .i64 0] 153)) w.heap.size):=f0
 clear h hb0 f0
 go_enter Tryz.func129,Tryz.ntmps129
 go_wp2_with fail
 refine hnx.mono ?_
 rintro e w1 ⟨rfl,h1,k1⟩
 have hrq:=zCH h1 (decide ((r.next.1.toNat:Int)<200))
 have K1:Hid _:=H0.out.trans k1
 have F1:Hid _:=And.intro (F0.out.step k1).1 (F0.out.heap k1 (heap_alloc_new _ _))
 clear hnx h1 k1
 have hx:r.next.1.toNat<256:=r.next.1.toNat_lt
 generalize hX:r.next.1.toNat=X at *
 go_wp2_with fail
 refine hrq.mono ?_
 rintro e w2 ⟨rfl,h2,k2⟩
 have b2:=F1.out.1.heap k2 F1.out.2
 have z0:=zA1 (i:=0) b2
 have c0:=zA0 (i:=0) b2 rfl
 have HK:Hid _:=K1.out.trans k2
 have hf:Free R w2 w.heap.size:=(F1.out.1.step k2).1
 have hb2:w2.heap[w.heap.size]?=some (.cells #[.int .i64 0] 153 (0,0)):=b2
 have H2:Hid _:=h2
 clear hrq h2 k2
 have HE:Hid (decide ((X:Int)<200)=decide (X<200)):=by show _=_;congr 1;simp;omega
 have HXX:Hid (r.next.1.toNat=X):=hX
 have HF:Hid _:=And.intro hf hb2
 clear hX b2 hf hb2 hx
 go_wp2
 have q:=zA4 (i:=0) (v:=.int .i64 X) HF.out.2
 have c1:=zA0 (i:=0) q rfl
 refine bodyPost_ret (v:=.agg #[.int .i64 X]) (by simp[results,Tryz.results129,go_sem,c1]) rfl ⟨?_,?_,?_⟩
 ·show _=Ending.returned (.agg #[.int .i64 (r.next.1.toNat:Int)])
  rw[HXX.out]
 ·have h3:=H2.out
  rw[HE.out] at h3
  have e:r.place.2=r.next.2.require (decide (X<200)):=by unfold RS.place;rw[HXX.out]
  rw[e]
  exact h3.setFree HF.out.1.ne LR.out HF.out.1.row3 HF.out.1.row4 HF.out.1.row5 _
 ·exact HK.out.setNew (Nat.le_refl _) (Nat.ne_of_lt LR.out) _
end
theorem conv_bytes {w:World}{v:Value}{l:List UInt8}(h:zFP w v l):(convert 111 9 v).run Tryz.prog w=.ok (.string ⟨l.toArray⟩) w:=by
 obtain⟨ao,cp,rfl,h2⟩:=h
 match l,h2 with
 | [],_=>
  rw[run_convert_bytes_string w _ _ _ _ _ cp Tryz.underlying111 Tryz.underlying5 Tryz.underlying9]
  cases ao <;> simp[Conv.bytesToString,loadCells]
  all_goals rfl
 | x :: l,h2=>
  obtain⟨C,off,rfl,-⟩:=h2 0 x rfl
  refine run_convert_bytes_back w _ _ _ ⟨C,off,none⟩ cp (x :: l) Tryz.underlying111 Tryz.underlying5 Tryz.underlying9 fun j hj=>?_
  obtain⟨C2,off2,e,h3⟩:=h2 j _ (List.getElem?_eq_getElem hj)
  injection e with e
  injection e with e1 e2
  subst e1 e2
  rw[show (⟨C,off,none⟩:Addr).add j=⟨C,off+j,none⟩ by unfold Addr.add;split <;> simp_all]
  exact h3
theorem tokAt_pos {s:ByteArray}{i:Nat}(h:(zAX s i).kind=97):(zAX s i).pos=i:=by
 unfold zAX at h ⊢
 (repeat' split) <;> simp_all
theorem zK2 (b:ByteArray):b.extract 0 b.size=b:=by
 apply ByteArray.ext
 rw[ByteArray.data_extract]
 simp
set_option maxRecDepth 1000000 in
theorem zQ1 (b:ByteArray)(hb:b.size≤1000)(w:World)(hT:Tabs w):Calls Tryz.prog 208 #[.string b] w fun e w'=>e=.returned (.bool (zCN b))∧Below w.heap.size w w':=by
 have hf:=zLM b 0 hb (Nat.zero_le _) w hT
 rw[zK2] at hf
 clear hT
 go_enter Tryz.func208,Tryz.ntmps208
 go_wp2_with fail
 refine hf.mono ?_
 rintro e w1 ⟨tx,rfl,htx,hb1⟩
 have HB:Hid (Below w.heap.size w w1):=hb1
 clear hf hb1
 by_cases hk:(zAX b 0).kind=97
 ·have hck:zAB (zAX b 0)=3:=by unfold zAB;simp[hk]
  have ht:=htx (by omega)
  have hp:=tokAt_pos hk
  rw[hck]
  by_cases he:tx=b
  ·have HN:Hid (zCN b=true):=by
    show zCN b=true
    unfold zCN
    rw[decide_eq_true_eq]
    have hs:(zAX b 0).stop=b.size:=by
     have h1:(b.extract (zAX b 0).pos (zAX b 0).stop).size=b.size:=by
      have:(zAX b 0).text b=b:=by rw[←ht];exact he
      unfold Tok.text at this
      rw[this]
     have h2:=(zHN (s:=b) (i:=0) (Nat.zero_le _) (by unfold Tok.last;simp[hk])).2.1
     rw[ByteArray.size_extract,hp] at h1
     omega
    have e:zAX b 0=⟨(zAX b 0).kind,(zAX b 0).pos,(zAX b 0).stop⟩:=rfl
    rw[e,hk,hp,hs]
   clear htx ht hp hck hk
   subst he
   go_wp2
   go_ret
   exact⟨by rw[HN.out];rfl,HB.out⟩
  ·have HN:Hid (zCN b=false):=by
    show zCN b=false
    unfold zCN
    rw[decide_eq_false_iff_not]
    intro e
    apply he
    rw[ht,e]
    exact zK2 b
   have hne:(tx.toList == b.toList)=false:=by rw[beq_eq_false_iff_ne];intro e;apply he;apply ByteArray.ext;rw[toList_data,toList_data] at e;exact Array.toList_inj.1 e
   clear htx ht hp hck hk
   go_wp2
   go_ret
   exact⟨by rw[HN.out];rfl,HB.out⟩
 ·have HN:Hid (zCN b=false):=by
   show zCN b=false
   unfold zCN
   rw[decide_eq_false_iff_not]
   intro e
   apply hk
   rw[e]
  have hck:((zAB (zAX b 0):Nat):Int)≠3:=by
   unfold zAB
   (repeat' split) <;> omega
  have hcb:(((zAB (zAX b 0):Nat):Int) == 3)=false:=by rw[beq_eq_false_iff_ne];exact hck
  generalize zAB (zAX b 0)=K at *
  clear htx hk
  go_wp2
  go_ret
  exact⟨by rw[HN.out];rfl,HB.out⟩
theorem or_byte {N:Int}{c:Nat}(h0:0≤N)(h1:N<1099511627776)(hc:c<256):bits .or .i64 (wrap64 (N * 256)) (wrap64 (c:Int))=256 * N+c:=by
 obtain⟨M,rfl⟩:=Int.eq_ofNat_of_zero_le h0
 have hM:M<1099511627776:=by omega
 have e1:wrap64 ((M:Int) * 256)=((256 * M:Nat):Int):=by unfold wrap64;omega
 have e2:wrap64 (c:Int)=(c:Int):=by unfold wrap64;omega
 rw[e1,e2]
 have a1:(BitVec.ofInt IntKind.i64.bits ((256 * M:Nat):Int)).toNat=256 * M:=by
  rw[BitVec.ofInt_natCast,BitVec.toNat_ofNat]
  exact Nat.mod_eq_of_lt (by show _<2 ^ 64;omega)
 have a2:(BitVec.ofInt IntKind.i64.bits (c:Int)).toNat=c:=by
  rw[BitVec.ofInt_natCast,BitVec.toNat_ofNat]
  exact Nat.mod_eq_of_lt (by show _<2 ^ 64;omega)
 unfold bits
 simp only[BitVec.toNat_or,a1,a2]
 rw[show 256 * M ||| c=256 * M+c from(Nat.two_pow_add_eq_or_of_lt (i:=8) (by omega) M).symm,IntKind.wrap_i64]
 omega
theorem zPD (l:List UInt8)(b:UInt8):zCP (l ++ [b])=256 * zCP l+b.toNat:=by simp[zCP]
theorem zJV {l:List UInt8}{j:Nat}{b:UInt8}(h:l[j]?=some b):zCP (l.take (j+1))=256 * zCP (l.take j)+b.toNat:=by
 rw[List.take_add_one,h]
 exact zPD _ _
theorem zJW (l:List UInt8):∀ j,j≤l.length→0≤zCP (l.take j)∧zCP (l.take j)<256 ^ j
 | 0,_=>by simp[zCP]
 | j+1,h=>by
  have ih:=zJW l j (by omega)
  rw[zJV (List.getElem?_eq_getElem (by omega:j<l.length))]
  have hb:l[j].toNat<256:=l[j].toNat_lt
  have e:(256:Int) ^ (j+1)=256 * 256 ^ j:=by rw[Int.pow_succ,Int.mul_comm]
  rw[e]
  omega
theorem zQ7 (w:World)(q:Nat)(os:Array Obj):Below w.heap.size w (Go.Sort.grow (w.drewN q) os):=
 ⟨rfl,rfl,rfl,by simp[Go.Sort.grow],fun k hk=>by simp[Go.Sort.grow,Array.getElem?_append_left hk]⟩
theorem zL7 : ∀ (k u:Nat),nDigits u≤k+1↔u<10 ^ (k+1)
 | 0,u=>by
  unfold nDigits
  split
  ·simp;omega
  ·rename_i h
   have h2:1≤nDigits (u / 10):=by unfold nDigits;split <;> omega
   constructor
   ·intro h3;omega
   ·intro h3;simp at h3;omega
 | k+1,u=>by
  unfold nDigits
  split
  ·rename_i h
   have:10≤10 ^ (k+1+1):=by
    have:=Nat.pow_le_pow_right (n:=10) (by omega) (show 1≤k+1+1 by omega)
    omega
   constructor
   ·intro _;omega
   ·intro _;omega
  ·have ih:=zL7 k (u / 10)
   have e:10 ^ (k+1+1)=10 * 10 ^ (k+1):=by rw[Nat.pow_succ,Nat.mul_comm]
   rw[e]
   constructor
   ·intro h3
    have:=ih.1 (by omega)
    omega
   ·intro h3
    have:=ih.2 (by omega)
    omega
theorem itoa_len {n:Int}(h0:0≤n):decide (((itoa n).length:Int)≤9)=decide (n<1000000000):=by
 obtain⟨m,rfl⟩:=Int.eq_ofNat_of_zero_le h0
 have e:itoa (m:Int)=decDigits m:=by unfold itoa;rw[if_neg (by omega)];simp
 rw[e,decDigits_length]
 have h9:nDigits m≤9↔m<1000000000:=zL7 8 m
 generalize nDigits m=q at *
 rw[decide_eq_decide]
 omega
section
variable {R:Nat} {w w':World} {r r':RS}
theorem RS.take_length (r:RS)(n:Nat):(r.take n).1.length=n:=by
 unfold RS.take
 split
 ·simp
 ·rename_i h
  have h2:=(RS.require_wrong (by simpa using h)).2
  have:=of_decide_eq_true h2
  simp
  omega
set_option maxRecDepth 1000000 in
theorem zP5 (h:RSt R w r):Calls Tryz.prog 177 #[.pointer (some ⟨R,0,none⟩)] w fun e w'=>e=.returned (.string r.name.1)∧RSt R w' r.name.2∧KR R w w':=by
 have hnx:=zMB h
 clear h
 go_enter Tryz.func177,Tryz.ntmps177
 go_wp2_with fail
 refine hnx.mono ?_
 rintro e w1 ⟨rfl,h1,k1⟩
 have hx:r.next.1.toNat<256:=r.next.1.toNat_lt
 have htk:=zP4 h1 r.next.1.toNat (by omega)
 have K1:Hid _:=k1
 clear hnx h1 k1
 have HN:Hid (r.name=(⟨(r.next.2.take r.next.1.toNat).1.toArray⟩,(r.next.2.take r.next.1.toNat).2.require (zCN ⟨(r.next.2.take r.next.1.toNat).1.toArray⟩))):=rfl
 have hl:=RS.take_length r.next.2 r.next.1.toNat
 generalize r.next.1.toNat=X at *
 generalize r.next.2.take X=Y at *
 go_wp2_with fail
 refine htk.mono ?_
 rintro e w2 ⟨v2,rfl,h2,k2,hb2⟩
 have hcv:=conv_bytes hb2
 have hnm:=zQ1 ⟨Y.1.toArray⟩ (by show Y.1.toArray.size≤1000;simp;omega) w2 h2.tabs.tabs
 have K2:Hid _:=K1.out.trans k2
 have H2:Hid _:=h2
 clear htk h2 k2 hb2 hl
 go_wp2_with fail
 refine hnm.mono ?_
 rintro e w3 ⟨rfl,hb3⟩
 have hrq:=zCH (H2.out.later hb3) (zCN ⟨Y.1.toArray⟩)
 have K3:Hid _:=K2.out.trans (.of_below hb3 H2.out.lR)
 clear hnm hb3
 go_wp2_with fail
 refine hrq.mono ?_
 rintro e w4 ⟨rfl,h4,k4⟩
 have Q:Hid _:=And.intro h4 (K3.out.trans k4)
 clear hrq h4 k4
 go_wp2
 go_ret
 rw[HN.out]
 exact⟨rfl,Q.out⟩
set_option maxRecDepth 1000000 in
theorem zNM (h:RSt R w r):Calls Tryz.prog 127 #[.pointer (some ⟨R,0,none⟩)] w fun e w'=>e=.returned (.int .i64 r.number.1)∧RSt R w' r.number.2∧KR R w w':=by
 have htk:=zP4 h 4 (by decide)
 clear h
 go_enter Tryz.func127,Tryz.ntmps127
 go_wp2_with fail
 refine htk.mono ?_
 rintro e w1 ⟨v1,rfl,h1,k1,hb1⟩
 have hl:=RS.take_length r 4
 have HN:Hid (r.number=(zCP (r.take 4).1,(r.take 4).2.require (decide (zCP (r.take 4).1<1000000000)))):=rfl
 generalize r.take 4=Y at *
 obtain⟨ao,cp,rfl,hc⟩:=hb1
 obtain⟨C,off,rfl,-⟩:=hc 0 _ (List.getElem?_eq_getElem (by omega))
 have H1:Hid _:=And.intro h1 k1
 have HC:Hid (∀ (j:Nat) (b:UInt8),Y.1[j]?=some b→w1.cell? ⟨C,off+j,none⟩=some (.int .u8 b.toNat)):=fun j b hj=>by
  obtain⟨C2,off2,e,h3⟩:=hc j b hj
  injection e with e
  injection e with e1 e2
  subst e1 e2
  exact h3
 clear htk h1 k1 hc
 rw[hl]
 go_wp2_with fail
 go_loopw [3,9] (fun v3 v9 wr=>∃ j:Nat,v9=.int .i64 j∧j≤4∧v3=.int .i64 (zCP (Y.1.take j))∧wr=w1) (fun _ v9 _=>4 - (intOf v9).toNat)
 case atStart=>exact⟨0,rfl,by omega,rfl,rfl⟩
 case round=>
  obtain⟨j,rfl,hj,rfl,rfl⟩:=hrel
  rcases Nat.lt_or_ge j 4 with hlt | hge
  ·obtain⟨b,hb⟩:∃ b,Y.1[j]?=some b:=⟨Y.1[j],List.getElem?_eq_getElem (by omega)⟩
   have c1:=HC.out j b hb
   have hlt2:(j:Int)<4:=by omega
   have HT:Hid (bits .or .i64 (wrap64 (zCP (Y.1.take j) * 256)) (wrap64 (b.toNat:Int))=zCP (Y.1.take (j+1))):=by
    show _=_
    have q:=zJW Y.1 j (by omega)
    have q2:(256:Int) ^ j≤256 ^ 3:=by rcases (show j=0∨j=1∨j=2∨j=3 by omega) with rfl | rfl | rfl | rfl <;> decide
    rw[zJV hb,or_byte q.1 (by omega) b.toNat_lt]
   generalize zCP (Y.1.take j)=N at *
   clear hb
   go_wp2
   go_roundw
   case rel=>exact⟨j+1,by go_num,by omega,by rw[HT.out],trivial⟩
   case measure=>simp[intOf];omega
  ·have hge2:¬ (j:Int)<4:=by omega
   have hj4:j=4:=by omega
   subst hj4
   have hall:Y.1.take 4=Y.1:=List.take_of_length_le (by omega)
   rw[hall]
   have q:=zJW Y.1 4 (by omega)
   rw[hall] at q
   have hfm:=Tryz.strconv_FormatInt_10 (zCP Y.1) (by omega) (by omega) wr H1.out.1.tabs.pow
   have HI:Hid _:=itoa_len q.1
   clear hall q
   go_wp2_with fail
   refine hfm.mono ?_
   rintro e w2 ⟨rfl,kk,os,hw2⟩
   have hb2:Below wr.heap.size wr w2:=by rw[hw2];exact zQ7 _ _ _
   have hrq:=zCH (H1.out.1.later hb2) (decide (((itoa (zCP Y.1)).length:Int)≤9))
   have K2:Hid _:=H1.out.2.trans (.of_below hb2 H1.out.1.lR)
   clear hfm hw2 hb2
   generalize (itoa (zCP Y.1))=L at *
   go_wp2_with fail
   refine hrq.mono ?_
   rintro e w3 ⟨rfl,h3,k3⟩
   rw[HI.out] at h3
   have Q:Hid _:=And.intro h3 (K2.out.trans k3)
   clear hrq h3 k3
   go_wp2
   go_ret
   rw[HN.out]
   exact⟨rfl,Q.out⟩
end
end Go.Proofs.YtbokdbaagacnlaaGreatDoor
