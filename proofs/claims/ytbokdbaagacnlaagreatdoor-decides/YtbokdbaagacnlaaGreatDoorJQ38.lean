import Derived.Laws.BytesArg
import Derived.Test.YtbokdbaagacnlaaGreatDoorJQ36
namespace Go.Proofs.YtbokdbaagacnlaaGreatDoor.Win
open Go.RowKit Go.Lib Go.Shelf
set_option maxRecDepth 1000000 in
theorem ref_in (t wid now:Int)(w:World)(h1:I64 t)(h2:I64 wid)(h3:I64 now):
  Calls Tryz.prog 148 #[.int .i64 t,.int .i64 wid,.int .i64 now] w fun e w'=>e=.returned (.bool (inW wid now t))∧w'=w:=by
 unfold I64 at *
 go_enter Tryz.func148,Tryz.ntmps148
 go_wp2
 ·go_ret
  refine⟨?_,rfl⟩
  show Ending.returned (.bool false)=_
  have hw:wid≤0:=by assumption
  rw[inW,decide_eq_false (by omega),Bool.false_and]
 ·go_ret
  refine⟨?_,rfl⟩
  show Ending.returned (.bool (decide (9223372036854775807 - wid<t) || decide (now<t+wid)))=_
  have hw:0<wid:=by assumption
  have ht:t≤9223372036854775807 - wid:=by assumption
  rw[inW,decide_eq_true hw,Bool.true_and,decide_eq_false (by omega:¬ 9223372036854775807 - wid<t),Bool.false_or]
 ·go_ret
  refine⟨?_,rfl⟩
  show Ending.returned (.bool true)=_
  have hw:0<wid:=by assumption
  have ht:9223372036854775807 - wid<t:=by assumption
  rw[inW,decide_eq_true hw,Bool.true_and,decide_eq_true (by omega)]
theorem infoRef : (Tryz.prog.info? 135).map (fun i=>(i.zero,i.size,i.bytes))=some (some (.agg #[.int .i64 0,.int .i64 0]),2,16):=by kernel_rfl
theorem row_cells {w:World}{base sT:Nat}{v:Value}{l:List (Int × Int)}(h:w.ownsRow base sT 2 v l.length (sCells (Value.int .i64) l)){i:Nat}{x:Int × Int}(hx:l[i]?=some x):
  ∃ g cp,v=.slice (some ⟨g,0,none⟩) l.length cp∧w.cell? ⟨g,i * 2,none⟩=some (.int .i64 x.1)∧w.cell? ⟨g,i * 2+1,none⟩=some (.int .i64 x.2):=by
 have hi:i<l.length:=(List.getElem?_eq_some_iff.1 hx).1
 obtain⟨q1,q2⟩:=zG7 (Value.int .i64) l i x hx
 rcases h.2 with⟨-,h0⟩ | ⟨g,cap,cur,rfl,-,hg,hnc,hcm,hcs,htake⟩
 ·omega
 refine⟨g,cap,rfl,?_,?_⟩
 ·rw[←htake,List.getElem?_take,if_pos (by omega)] at q1
  simpa[World.cell?,hg] using q1
 ·rw[←htake,List.getElem?_take,if_pos (by omega)] at q2
  simpa[World.cell?,hg] using q2
set_option maxRecDepth 1000000 in
set_option maxHeartbeats 2000000 in
theorem ref_kept {w:World}{base:Nat}{lv:Value}{l:List (Int × Int)}{wid now:Int}(own:w.ownsRow base 135 2 lv l.length (sCells (Value.int .i64) l))(hl:l.length≤1073741824)(h2:I64 wid)(h3:I64 now)(ht:∀ x∈l,I64 x.1):
  Calls Tryz.prog 103 #[lv,.int .i64 wid,.int .i64 now] w fun e w'=>
   ∃ v',e=.returned v'∧w'.ownsRow w.heap.size 135 2 v' (keptR wid now l).length (sCells (Value.int .i64) (keptR wid now l))∧Below w.heap.size w w':=by
 obtain⟨i0,hi0,hz0,hz1,hz2⟩:=info_parts infoRef
 obtain⟨ao,cp,rfl⟩:=owns_slice own
 have OWN:Hid (w.ownsRow base 135 2 (.slice ao l.length cp) l.length (sCells (Value.int .i64) l)):=own
 have HT:Hid (∀ x∈l,I64 x.1):=ht
 clear own ht
 generalize hn:l.length=n at *
 go_enter Tryz.func103,Tryz.ntmps103
 go_wp2_with fail
 go_loopw [7,8] (fun v7 v8 wr=>∃ (j m:Nat) (oo:Option Addr) (oc:Nat),j≤n∧v8=.int .i64 ((j:Int) - 1)∧v7=.slice oo m oc∧m=(keptR wid now (l.drop j)).length∧m≤16∧Hid (wr.ownsRow w.heap.size 135 2 (.slice oo m oc) m (sCells (Value.int .i64) (keptR wid now (l.drop j))))∧Hid (Below w.heap.size w wr)) (fun _ v8 _=>(intOf v8+1).toNat)
 case atStart=>
  refine⟨n,0,none,0,Nat.le_refl _,rfl,rfl,?_,by omega,?_,Below.refl _ _⟩
  ·rw[List.drop_of_length_le (by omega)];rfl
  ·rw[List.drop_of_length_le (by omega)];exact World.ownsRow_nil _ _ _ _
 case round=>
  obtain⟨j,m,oo,oc,hj,rfl,rfl,hm,hm16,HO,HB⟩:=hrel
  rcases Nat.eq_zero_or_pos j with h0 | h0
  ·subst h0
   have HF:Hid (wr.ownsRow w.heap.size 135 2 (.slice oo m oc) (keptR wid now l).length (sCells (Value.int .i64) (keptR wid now l))):=by
    have:=HO.out
    rw[List.drop_zero] at hm this
    rw[hm] at this ⊢
    exact this
   clear hm
   go_wp2
   go_ret
   exact⟨_,rfl,HF.out,HB.out⟩
  ·by_cases h16:m<16
   ·obtain⟨p,rfl⟩:∃ p,j=p+1:=⟨j - 1,by omega⟩
    have ep:((p+1:Nat):Int) - 1=(p:Int):=by omega
    obtain⟨x,hx⟩:∃ x,l[p]?=some x:=⟨l[p],List.getElem?_eq_getElem (by omega)⟩
    have ow2:=(Only.of_below (P:=fun _=>False) HB.out).owns OWN.out (fun _ _ h=>h)
    rw[←hn] at ow2
    obtain⟨g,cp',he,q1,q2⟩:=row_cells ow2 hx
    injection he with he1 he2 he3
    subst he1
    clear he2 he3 ow2
    have hxt:=HT.out x (List.mem_of_getElem? hx)
    have hin:=ref_in x.1 wid now wr hxt h2 h3
    have hdr:l.drop p=x :: l.drop (p+1):=by rw[List.drop_eq_getElem_cons (by omega)];congr 1;rw[List.getElem?_eq_getElem (by omega)] at hx;exact Option.some.inj hx
    have hkc:=zLB (wid:=wid) (now:=now) x (l.drop (p+1))
    rw[←hdr,←hm] at hkc
    obtain⟨x1,x2⟩:=x
    dsimp only at q1 q2 hin hkc
    have h16':(m:Int)<16:=by omega
    have hpn:(p:Int)<n:=by omega
    rw[ep]
    clear hdr hxt hx
    cases hib:inW wid now x1 with
    | false=>
     rw[hib] at hin hkc
     rw[if_neg (by simp)] at hkc
     have HKC:Hid _:=hkc
     have HM:Hid _:=hm
     clear hkc hm hib
     go_wp2_with fail
     refine hin.mono ?_
     rintro e w' ⟨rfl,hw⟩
     have hw:=hw.symm
     subst hw
     clear hin
     go_wp2
     go_roundw
     case rel=>exact⟨p,m,oo,oc,by omega,by go_num,rfl,by rw[HKC.out,HM.out],hm16,by rw[HKC.out];exact HO,HB⟩
     case measure=>simp[intOf]
    | true=>
     rw[hib] at hin hkc
     rw[if_pos ⟨h16,rfl⟩] at hkc
     have HKC:Hid _:=hkc
     have HM:Hid _:=hm
     clear hkc hm hib
     rcases HO.out.2 with⟨he,hm0⟩ | ⟨g',cap',cur',he,-,hg',-,hcm',-,-⟩
     ·injection he with he1 he2 he3
      subst he1 he3 hm0
      clear he2
      go_wp2_with fail
      refine hin.mono ?_
      rintro e w' ⟨rfl,hw⟩
      have hw:=hw.symm
      subst hw
      clear hin
      go_wp2
      go_roundw
      case rel=>
       have e0:keptR wid now (l.drop (p+1))=[]:=List.length_eq_zero_iff.1 HM.out.symm
       refine⟨p,1,_,_,by omega,by go_num,rfl,by rw[HKC.out,e0];rfl,by omega,?_,HB.out.alloc HB.out.size _⟩
       rw[HKC.out,e0]
       exact⟨rfl,.inr ⟨_,1,_,rfl,HB.out.size,block_new _ _ _,Nat.le_refl _,by decide,rfl,rfl⟩⟩
      case measure=>simp[intOf]
     ·injection he with he1 he2 he3
      subst he1 he3
      clear he2
      have hcc:=HO.out.cells (g:=g') rfl
      have HC:Hid (∀ j u,(sCells (Value.int .i64) (keptR wid now (l.drop (p+1))))[j]?=some u→wr.cell? ((⟨g',0,none⟩:Addr).add j)=some u):=hcc
      clear hcc hg'
      have hon:Hid ((wr.alloc (.cells #[.int .i64 x1,.int .i64 x2] 135)).ownsRow w.heap.size 135 2 (.slice (some ⟨wr.heap.size,0,none⟩) 1 1) 1 [.int .i64 x1,.int .i64 x2]):=⟨rfl,.inr ⟨_,1,_,rfl,HB.out.size,block_new _ _ _,Nat.le_refl _,by decide,rfl,rfl⟩⟩
      go_wp2_with fail
      refine hin.mono ?_
      rintro e w' ⟨rfl,hw⟩
      have hw:=hw.symm
      subst hw
      clear hin
      go_wp2_with (at_builtin;refine wpList_append_own _ rfl _ _ 116 rfl w.heap.size 135 i0 (.agg #[.int .i64 0,.int .i64 0]) 2 16 Tryz.underlying116 hi0 hz0 hz1 hz2 rfl (by decide) _ _ _ rfl hon.out ⟨g',0,none⟩ m oc (sCells (Value.int .i64) (keptR wid now (l.drop (p+1)))) rfl ?qc1 ?qc2 ?qc3 ?qc4 ?qc5 ?qc6 ?_)
      case qc1=>rw[zCG,←HM.out]
      case qc2=>exact fun j u hj=>cell_past (HC.out j u hj) _
      case qc3=>exact zHQ _ (fun _=>rfl) _
      case qc4=>unfold maxLen;omega
      case qc5=>omega
      case qc6=>have:=HB.out.size;simp;omega
      intro v' w1 hown hgrow hnil
      have hB:Below w.heap.size w w1:=(HB.out.alloc HB.out.size _).grown hgrow (by have:=HB.out.size;simp;omega) (by intro k hk;simp[Value.ownBlock] at hk;have:=HB.out.size;omega)
      obtain⟨oo2,oc2,rfl⟩:=owns_slice hown
      have HO2:Hid (w1.ownsRow w.heap.size 135 2 (.slice oo2 (1+m) oc2) (1+m) (sCells (Value.int .i64) ((x1,x2) :: keptR wid now (l.drop (p+1))))):=by rw[zEH];exact hown
      have HB2:Hid (Below w.heap.size w w1):=hB
      clear hB hown hgrow hnil
      go_wp2
      go_roundw
      case rel=>exact⟨p,1+m,_,_,by omega,by go_num,rfl,by rw[HKC.out,List.length_cons,←HM.out];omega,by omega,by rw[HKC.out];exact HO2,HB2⟩
      case measure=>simp[intOf]
   ·have HF:Hid (wr.ownsRow w.heap.size 135 2 (.slice oo m oc) (keptR wid now l).length (sCells (Value.int .i64) (keptR wid now l))):=by
     have e:=zLA (wid:=wid) (now:=now) (l.take j) (l.drop j) (by omega)
     rw[List.take_append_drop] at e
     have:=HO.out
     rw[hm] at this ⊢
     rw[e]
     exact this
    have h16':¬ (m:Int)<16:=by omega
    clear hm
    go_wp2
    go_ret
    exact⟨_,rfl,HF.out,HB.out⟩
end Go.Proofs.YtbokdbaagacnlaaGreatDoor.Win
namespace Go.Proofs.YtbokdbaagacnlaaGreatDoor
open Go.RowKit Go.Lib Go.Shelf
set_option maxRecDepth 1000000 in
set_option maxHeartbeats 1000000 in
theorem zG8 (w:World){a b n:Int}(ha:In64 a)(hb:In64 b)(hn:0≤n∧n≤9223372036854775807):Calls Tryz.prog 26 #[.int .i64 a,.int .i64 b,.int .i64 n] w fun e w'=>e=.returned (.bool (decide (n≤b - a)))∧w'=w:=by
 unfold In64 at ha hb
 have f1:IntKind.i64.wrap (9223372036854775807 - n)=9223372036854775807 - n:=by simp only[IntKind.wrap_i64];omega
 by_cases h1:a≤9223372036854775807 - n
 ·have f2:IntKind.i64.wrap (a+n)=a+n:=by simp only[IntKind.wrap_i64];omega
  go_enter Tryz.func26,Tryz.ntmps26
  go_wp2
  go_ret
  refine⟨?_,rfl⟩
  show Ending.returned (.bool (decide (a+n≤b)))=_
  rw[decide_eq_decide.2 (show (a+n≤b)↔(n≤b - a) by omega)]
 ·go_enter Tryz.func26,Tryz.ntmps26
  go_wp2
  go_ret
  refine⟨?_,rfl⟩
  show Ending.returned (.bool false)=_
  rw[decide_eq_false (show ¬ n≤b - a by omega)]
end Go.Proofs.YtbokdbaagacnlaaGreatDoor
namespace Go.Proofs.YtbokdbaagacnlaaGreatDoor
open Go.Lib
def zBO (ahead:Int→Int→Bool)(d:Int)(l:List Int):Int:=l.foldl (fun f x=>if ahead x f=true then x else f) d
theorem zEL (ahead:Int→Int→Bool):∀ (l:List Int) (d:Int),zBO ahead d l=d∨zBO ahead d l∈l
 | [],d=>.inl rfl
 | x :: l,d=>by
  show zBO ahead (if ahead x d=true then x else d) l=d∨zBO ahead (if ahead x d=true then x else d) l∈x :: l
  rcases zEL ahead l (if ahead x d=true then x else d) with h | h
  ·by_cases e:ahead x d=true
   ·rw[if_pos e] at h ⊢
    exact .inr (by rw[h];exact List.mem_cons_self)
   ·rw[if_neg e] at h ⊢
    exact .inl h
  ·exact .inr (List.mem_cons_of_mem _ h)
theorem zML : ∀ (l:List Int) (d:Int),zBO Win.lessI d l≤d∧∀ x∈l,zBO Win.lessI d l≤x
 | [],d=>⟨Int.le_refl _,fun x hx=>by cases hx⟩
 | y :: l,d=>by
  have ih:=zML l (if Win.lessI y d=true then y else d)
  have e:zBO Win.lessI d (y :: l)=zBO Win.lessI (if Win.lessI y d=true then y else d) l:=rfl
  rw[e]
  have h2:(if Win.lessI y d=true then y else d)≤d∧(if Win.lessI y d=true then y else d)≤y:=by
   unfold Win.lessI
   by_cases h:y<d
   ·simp[h];omega
   ·simp[h];omega
  refine⟨by omega,fun x hx=>?_⟩
  rcases List.mem_cons.1 hx with rfl | hx
  ·omega
  ·exact ih.2 x hx
theorem zMM : ∀ (l:List Int) (d:Int),d≤zBO (fun a b=>Win.lessI b a) d l∧∀ x∈l,x≤zBO (fun a b=>Win.lessI b a) d l
 | [],d=>⟨Int.le_refl _,fun x hx=>by cases hx⟩
 | y :: l,d=>by
  have ih:=zMM l (if Win.lessI d y=true then y else d)
  have e:zBO (fun a b=>Win.lessI b a) d (y :: l)=zBO (fun a b=>Win.lessI b a) (if Win.lessI d y=true then y else d) l:=rfl
  rw[e]
  have h2:d≤(if Win.lessI d y=true then y else d)∧y≤(if Win.lessI d y=true then y else d):=by
   unfold Win.lessI
   by_cases h:d<y
   ·simp[h];omega
   ·simp[h];omega
  refine⟨by omega,fun x hx=>?_⟩
  rcases List.mem_cons.1 hx with rfl | hx
  ·omega
  ·exact ih.2 x hx
theorem fore_least {L:List Int}{d:Int}(hd:d∈L):zI4 (Win.foremost Win.lessI L)=(zBO Win.lessI d L,true):=by
 cases L with
 | nil=>cases hd
 | cons a l=>
  show (zBO Win.lessI a l,true)=_
  have h1:=zML l a
  have h2:=zML (a :: l) d
  have m1:=zEL Win.lessI l a
  have m2:=zEL Win.lessI (a :: l) d
  have q1:zBO Win.lessI a l∈a :: l:=by
   rcases m1 with h | h
   ·rw[h];exact List.mem_cons_self
   ·exact List.mem_cons_of_mem _ h
  have q2:zBO Win.lessI d (a :: l)∈a :: l:=by
   rcases m2 with h | h
   ·rw[h];exact hd
   ·exact h
  have a1:=h2.2 _ q1
  have a2:zBO Win.lessI a l≤zBO Win.lessI d (a :: l):=by
   rcases List.mem_cons.1 q2 with h | h
   ·rw[h];exact h1.1
   ·exact h1.2 _ h
  rw[show zBO Win.lessI a l=zBO Win.lessI d (a :: l) by omega]
theorem fore_most {L:List Int}{d:Int}(hd:d∈L):zI4 (Win.foremost (fun a b=>Win.lessI b a) L)=(zBO (fun a b=>Win.lessI b a) d L,true):=by
 cases L with
 | nil=>cases hd
 | cons a l=>
  show (zBO (fun a b=>Win.lessI b a) a l,true)=_
  have h1:=zMM l a
  have h2:=zMM (a :: l) d
  have m1:=zEL (fun a b=>Win.lessI b a) l a
  have m2:=zEL (fun a b=>Win.lessI b a) (a :: l) d
  have q1:zBO (fun a b=>Win.lessI b a) a l∈a :: l:=by
   rcases m1 with h | h
   ·rw[h];exact List.mem_cons_self
   ·exact List.mem_cons_of_mem _ h
  have q2:zBO (fun a b=>Win.lessI b a) d (a :: l)∈a :: l:=by
   rcases m2 with h | h
   ·rw[h];exact hd
   ·exact h
  have a1:=h2.2 _ q1
  have a2:zBO (fun a b=>Win.lessI b a) d (a :: l)≤zBO (fun a b=>Win.lessI b a) a l:=by
   rcases List.mem_cons.1 q2 with h | h
   ·rw[h];exact h1.1
   ·exact h1.2 _ h
  rw[show zBO (fun a b=>Win.lessI b a) a l=zBO (fun a b=>Win.lessI b a) d (a :: l) by omega]
theorem zLC {ahead:Int→Int→Bool}{d:Int}{K:List (Int × Int)}{j:Nat}{x:Int × Int}(h:K[j]?=some x):zBO ahead d ((K.take (j+1)).map (·.2))=if ahead x.2 (zBO ahead d ((K.take j).map (·.2)))=true then x.2 else zBO ahead d ((K.take j).map (·.2)):=by
 rw[List.take_add_one,h]
 simp[zBO,List.foldl_append]
theorem total_take {K:List (Int × Int)}{j:Nat}{x:Int × Int}(h:K[j]?=some x):zCY (K.take (j+1))=clip (zCY (K.take j)+x.2):=by
 unfold zCY
 rw[List.take_add_one,h]
 simp[List.foldl_append]
theorem zPG {K:List (Int × Int)}{x:Int × Int}(h:K[K.length - 1]?=some x):zFJ K=x.2:=by
 have hk:K≠[]:=fun e=>by subst e;simp at h
 obtain⟨l,y,rfl⟩:∃ l y,K=l ++ [y]:=⟨K.dropLast,K.getLast hk,(List.dropLast_concat_getLast hk).symm⟩
 simp at h
 subst h
 simp[zFJ,List.foldl_append]
end Go.Proofs.YtbokdbaagacnlaaGreatDoor
namespace Go.Proofs.YtbokdbaagacnlaaGreatDoor
open Go.RowKit Go.Lib Go.Shelf
theorem zOP {a b:ByteArray}(h:a.toList=b.toList):a=b:=by
 rw[ByteArray.toList_eq,ByteArray.toList_eq] at h
 exact ByteArray.ext (Array.toList_inj.1 h)
structure RefC (w:World) (r:Nat) (rv:Value) (k:Ctl) (ms:List ByteArray) (S:Fed) (g:Nat→Nat) (lv:Nat→Value) (av:Value):Prop where
 blk:w.heap[r]?=some (.cells #[rv,.int .i64 k.min,.int .i64 k.max,.int .i64 k.step,.int .i64 k.up,.int .i64 k.down,.int .i64 k.count,.int .i64 k.time,.bool k.changed,.int .i64 k.change,av] 78 (0,0))
 row:w.ownsRow 0 115 1 av ms.length ((List.range ms.length).map fun i=>ptr (g i))
 ser:∀ i s,ms[i]?=some s→w.heap[g i]?=some (.cells #[.string s,lv i] 118 (0,0))
 own:∀ i s,ms[i]?=some s→w.ownsRow 0 135 2 (lv i) (S s).length (Win.sCells (Value.int .i64) (S s))
 nodup:ms.Nodup
 few:ms.length≤200
 fit:∀ s∈ms,(∀ x∈S s,In64 x.1∧In64 x.2)∧(S s).length≤1073741824
 apart:∀ i j,i<ms.length→j<ms.length→i≠j→g i≠g j∧∀ b,(lv i).ownBlock=some b→(lv j).ownBlock≠some b
theorem RefC.get {w:World}{r:Nat}{rv:Value}{k:Ctl}{ms:List ByteArray}{S:Fed}{g:Nat→Nat}{lv:Nat→Value}{av:Value}(h:RefC w r rv k ms S g lv av){i:Nat}(hi:i<ms.length):∃ q cp,av=.slice (some ⟨q,0,none⟩) ms.length cp∧w.cell? ⟨q,i,none⟩=some (ptr (g i)):=by
 rcases h.row.2 with⟨-,e⟩ | ⟨q,cap,cur,e,-⟩
 ·omega
 ·refine⟨q,cap,e,?_⟩
  have:=h.row.cells (g:=q) (by rw[e];rfl) i (ptr (g i)) (by simp[hi])
  have ha:(⟨q,0,none⟩:Addr).add i=⟨q,i,none⟩:=by unfold Addr.add;split <;> simp_all
  rw[ha] at this
  exact this
theorem RefC.below {w:World}{r:Nat}{rv:Value}{k:Ctl}{ms:List ByteArray}{S:Fed}{g:Nat→Nat}{lv:Nat→Value}{av:Value}(h:RefC w r rv k ms S g lv av){w':World}(hb:Below w.heap.size w w'):RefC w' r rv k ms S g lv av:=
 ⟨(hb.block r (zA2 h.blk)).trans h.blk,zA7 h.row fun b hg=>hb.block b (h.row.lt _ hg).2,fun i s hs=>(hb.block _ (zA2 (h.ser i s hs))).trans (h.ser i s hs),fun i s hs=>zA7 (h.own i s hs) fun b hg=>hb.block b ((h.own i s hs).lt _ hg).2,h.nodup,h.few,h.fit,h.apart⟩
theorem zJB {wid now:Int}{l:List (Int × Int)}{x:Int × Int}(h:x∈Win.keptR wid now l):x∈l:=by
 unfold Win.keptR at h
 exact(List.mem_filter.1 (List.mem_of_mem_drop h)).1
def zEU (kind:ByteArray)(K:List (Int × Int)):Int × Int:=((zBJ kind K).1,if (zBJ kind K).2=true then 0 else 9)
def FoundL (w wr:World)(ms:List ByteArray)(S:Fed)(metric:ByteArray)(n now:Int)(i:Nat)(v:Value):Prop:=
 (metric ∉ ms.take i∧v=.slice none 0 0)∨(metric∈ms.take i∧wr.ownsRow w.heap.size 135 2 v (Win.keptR n now (S metric)).length (Win.sCells (Value.int .i64) (Win.keptR n now (S metric))))
set_option maxRecDepth 1000000 in
set_option maxHeartbeats 2000000 in
theorem zNK {w:World}{r:Nat}{rv:Value}{k:Ctl}{ms:List ByteArray}{S:Fed}{g:Nat→Nat}{lv:Nat→Value}{av:Value}(h:RefC w r rv k ms S g lv av){kind metric:ByteArray}{n now:Int}(hk:isMeasure kind=true)(hm:metric ∉ ms→S metric=[])(hn:In64 n)(hnow:In64 now):
  Calls Tryz.prog 74 #[ptr r,.string kind,.string metric,.int .i64 n,.int .i64 now] w fun e w'=>e=.returned (.agg #[.int .i64 (zE1 S now kind metric n).1,.int .i64 (zE1 S now kind metric n).2])∧Below w.heap.size w w':=by
 have hB0:Below w.heap.size w (w.alloc (.cells #[.int .i64 0,.int .i64 0] 128)):=(Below.refl _ _).alloc (Nat.le_refl _) _
 have hR0:(w.alloc (.cells #[.int .i64 0,.int .i64 0] 128)).heap[w.heap.size]?=some (.cells #[.int .i64 0,.int .i64 0] 128 (0,0)):=heap_alloc_new _ _
 have HB0:Hid _:=And.intro hB0 hR0
 have HH:Hid _:=h
 have H64:Hid _:=And.intro hn hnow
 have hlen:=h.few
 clear hB0 hR0 h hn hnow
 go_enter Tryz.func74,Tryz.ntmps74
 go_wp2_with fail
 go_loopw [11,12] (fun v11 v12 wr=>∃ i:Nat,v12=.int .i64 i∧i≤ms.length∧(∃ oo m oc,v11=.slice oo m oc)∧Hid (Below w.heap.size w wr∧wr.heap[w.heap.size]?=some (.cells #[.int .i64 0,.int .i64 0] 128 (0,0))∧FoundL w wr ms S metric n now i v11)) (fun _ v12 _=>ms.length - (intOf v12).toNat)
 case atStart=>exact⟨0,rfl,Nat.zero_le _,⟨_,_,_,rfl⟩,HB0.out.1,HB0.out.2,.inl ⟨by simp,rfl⟩⟩
 case round=>
  obtain⟨i,rfl,hi,⟨oo,m,oc,rfl⟩,HI⟩:=hrel
  have hr:=HH.out.below HI.out.1
  rcases Nat.lt_or_ge i ms.length with hlt | hge
  ·obtain⟨s,hs⟩:∃ s,ms[i]?=some s:=⟨ms[i],List.getElem?_eq_getElem hlt⟩
   obtain⟨q,cp,hav,hq⟩:=hr.get hlt
   have c10:=zA0 (i:=10) (v:=av) hr.blk rfl
   have s0:=zA0 (i:=0) (v:=.string s) (hr.ser i s hs) rfl
   have s1:=zA0 (i:=1) (v:=lv i) (hr.ser i s hs) rfl
   have hkp:=Win.ref_kept (hr.own i s hs) (HH.out.fit s (List.mem_of_getElem? hs)).2 H64.out.1 H64.out.2 (wid:=n) (now:=now) (fun x hx=>((HH.out.fit s (List.mem_of_getElem? hs)).1 x hx).1)
   obtain⟨la,lc,hla⟩:=zAI (hr.own i s hs)
   rw[hla] at s1 hkp
   rw[hav] at c10
   have hlt2:(i:Int)<ms.length:=by omega
   have HS:Hid _:=hs
   clear hr hav hla hs
   by_cases hsm:s=metric
   ·have HSM:Hid (s=metric):=hsm
    subst hsm
    go_wp2_with fail
    refine hkp.mono ?_
    rintro e w2 ⟨v',rfl,ho2,hb2⟩
    obtain⟨oa,ob,rfl⟩:=zAI ho2
    have H2:Hid _:=And.intro ho2 hb2
    clear hkp ho2 hb2
    go_wp2
    go_roundw
    case rel=>
     have ht:ms.take (i+1)=ms.take i ++ [s]:=by rw[List.take_add_one,HS.out];rfl
     exact⟨i+1,by go_num,by omega,⟨_,_,_,rfl⟩,HI.out.1.trans (H2.out.2.mono HI.out.1.size),(H2.out.2.block _ (zA2 HI.out.2.1)).trans HI.out.2.1,.inr ⟨by rw[ht];simp,zBA H2.out.1 HI.out.1.size⟩⟩
    case measure=>simp[intOf];omega
   ·have hne:(s.toList == metric.toList)=false:=by simpa using fun e=>hsm (zOP e)
    clear hkp
    go_wp2
    go_roundw
    case rel=>
     have ht:ms.take (i+1)=ms.take i ++ [s]:=by rw[List.take_add_one,HS.out];rfl
     refine⟨i+1,by go_num,by omega,⟨_,_,_,rfl⟩,HI.out.1,HI.out.2.1,?_⟩
     unfold FoundL
     rw[ht,List.mem_append,List.mem_singleton]
     rcases HI.out.2.2 with⟨a,b⟩ | ⟨a,b⟩
     ·exact .inl ⟨fun h=>h.elim a (fun e=>hsm e.symm),b⟩
     ·exact .inr ⟨.inl a,b⟩
    case measure=>simp[intOf];omega
  ·have hge2:¬ (i:Int)<ms.length:=by omega
   have c10:=zA0 (i:=10) (v:=av) hr.blk rfl
   obtain⟨la,lc,hla⟩:=zAI hr.row
   rw[hla] at c10
   have ho:wr.ownsRow w.heap.size 135 2 (.slice oo m oc) (Win.keptR n now (S metric)).length (Win.sCells (Value.int .i64) (Win.keptR n now (S metric))):=by
    rcases HI.out.2.2 with⟨h1,h2⟩ | h
    ·rw[show i=ms.length by omega,List.take_length] at h1
     rw[hm h1,h2]
     exact World.ownsRow_nil _ _ _ _
    ·exact h.2
   obtain⟨oa,ob,e⟩:=zAI ho
   injection e with e1 e2 e3
   subst e1 e2 e3
   have hK16:=Win.keptR_length (wid:=n) (now:=now) (S metric)
   have hKin:∀ x∈Win.keptR n now (S metric),In64 x.2:=fun x hx=>by
    by_cases h:metric∈ms
    ·exact((HH.out.fit metric h).1 x (zJB hx)).2
    ·have:=zJB hx
     rw[hm h] at this
     cases this
   have HM:Hid (zE1 S now kind metric n=zEU kind (Win.keptR n now (S metric))):=rfl
   have rc0:=zA0 (i:=0) (v:=.int .i64 0) HI.out.2.1 rfl
   have rc1:=zA0 (i:=1) (v:=.int .i64 0) HI.out.2.1 rfl
   have rz0:=zA1 (i:=0) HI.out.2.1
   have rz1:=zA1 (i:=1) HI.out.2.1
   have lr:=zA2 HI.out.2.1
   have HO:Hid _:=ho
   have HIN:Hid _:=hKin
   clear hr hla ho hKin
   generalize Win.keptR n now (S metric)=K at *
   by_cases e0:kind.toList=[99,111,117,110,116]
   ·have b0:(kind.toList == [99,111,117,110,116])=true:=by rw[e0];rfl
    have HE:Hid (zEU kind K=((K.length:Int),0)):=by show zEU kind K=_;unfold zEU zBJ;rw[if_pos e0];rfl
    go_wp2
    refine bodyPost_ret (v:=.agg #[.int .i64 K.length,.int .i64 0]) (by simp[results,Tryz.results74,go_sem,rc0,rc1]) rfl ?_
    rw[HM.out,HE.out]
    exact⟨rfl,(HI.out.1.setCell (Nat.le_refl _) _).setCell (Nat.le_refl _) _⟩
   have b0:(kind.toList == [99,111,117,110,116])=false:=by simpa using e0
   have hti:=fun j=>zLW (K.take j)
   go_wp2_with fail
   go_loopw [14,15] (fun v14 v15 W=>∃ j:Nat,v15=.int .i64 j∧j≤K.length∧v14=.int .i64 (zCY (K.take j))∧W=wr) (fun _ v15 _=>K.length - (intOf v15).toNat)
   case atStart=>exact⟨0,rfl,Nat.zero_le _,rfl,rfl⟩
   case round=>
    obtain⟨j,rfl,hj,rfl,hW⟩:=hrel
    subst hW
    rcases Nat.lt_or_ge j K.length with hlt | hgj
    ·obtain⟨x,hx⟩:∃ x,K[j]?=some x:=⟨K[j],List.getElem?_eq_getElem hlt⟩
     obtain⟨q,cq,e,-,x1⟩:=Win.row_cells HO.out hx
     injection e with e1 e2 e3
     subst e1 e3
     have hpl:=r_plus (hti j) (HIN.out x (List.mem_of_getElem? hx))
     have hlt2:(j:Int)<K.length:=by omega
     have HTT:Hid _:=total_take hx
     clear hx
     go_wp2_with fail
     refine(hpl _).mono ?_
     rintro e w2 ⟨rfl,hw2⟩
     have hw2:=hw2.symm
     subst hw2
     clear hpl
     go_wp2
     go_roundw
     case rel=>exact⟨j+1,by go_num,by omega,by rw[HTT.out],by first | rfl | trivial⟩
     case measure=>simp[intOf];omega
    ·have hgj2:¬ (j:Int)<K.length:=by omega
     have htk:K.take j=K:=List.take_of_length_le hgj
     rw[htk]
     have htt:=hti j
     rw[htk] at htt
     by_cases e1:kind.toList=[115,117,109]
     ·have b1:(kind.toList == [115,117,109])=true:=by rw[e1];rfl
      have HE:Hid (zEU kind K=(zCY K,0)):=by show zEU kind K=_;unfold zEU zBJ;rw[if_neg e0,if_pos e1];rfl
      generalize zCY K=tt at *
      go_wp2
      refine bodyPost_ret (v:=.agg #[.int .i64 (tt),.int .i64 0]) (by simp[results,Tryz.results74,go_sem,rc0,rc1]) rfl ?_
      rw[HM.out,HE.out]
      exact⟨rfl,(HI.out.1.setCell (Nat.le_refl _) _).setCell (Nat.le_refl _) _⟩
     have b1:(kind.toList == [115,117,109])=false:=by simpa using e1
     by_cases h0:K.length=0
     ·have HE:Hid (zEU kind K=(0,9)):=by
       have hK:K=[]:=List.eq_nil_of_length_eq_zero h0
       show zEU kind K=_
       subst hK
       unfold zEU zBJ
       rw[if_neg e0,if_neg e1]
       repeat' split
       all_goals first | rfl | simp_all[zI4,Win.foremost]
      have h0i:((K.length:Int) == 0)=true:=by rw[h0];rfl
      generalize zCY K=tt at *
      go_wp2
      refine bodyPost_ret (v:=.agg #[.int .i64 (0),.int .i64 9]) (by simp[results,Tryz.results74,go_sem,rc0,rc1]) rfl ?_
      rw[HM.out,HE.out]
      exact⟨rfl,(HI.out.1.setCell (Nat.le_refl _) _).setCell (Nat.le_refl _) _⟩
     have h0i:((K.length:Int) == 0)=false:=by simpa using h0
     by_cases e2:kind.toList=[109,101,97,110]
     ·have b2:(kind.toList == [109,101,97,110])=true:=by rw[e2];rfl
      have HE:Hid (zEU kind K=(quot (zCY K) K.length,0)):=by
       show zEU kind K=_
       unfold zEU zBJ
       rw[if_neg e0,if_neg e1,if_neg (by rw[e2];decide),if_neg (by rw[e2];decide),if_pos e2,if_neg h0]
       rfl
      have hov:=r_over htt (show In64 (K.length:Int) by unfold In64;omega) (by omega)
      generalize zCY K=tt at *
      go_wp2_with fail
      refine(hov _).mono ?_
      rintro e w2 ⟨rfl,hw2⟩
      have hw2:=hw2.symm
      subst hw2
      clear hov
      go_wp2
      refine bodyPost_ret (v:=.agg #[.int .i64 (quot tt K.length),.int .i64 0]) (by simp[results,Tryz.results74,go_sem,rc0,rc1]) rfl ?_
      rw[HM.out,HE.out]
      exact⟨rfl,(HI.out.1.setCell (Nat.le_refl _) _).setCell (Nat.le_refl _) _⟩
     have b2:(kind.toList == [109,101,97,110])=false:=by simpa using e2
     obtain⟨x,hx⟩:∃ x,K[K.length - 1]?=some x:=⟨K[K.length - 1]'(by omega),List.getElem?_eq_getElem _⟩
     obtain⟨q,cq,e,-,x1⟩:=Win.row_cells HO.out hx
     injection e with e1' e2' e3'
     subst e1' e3'
     have HX:Hid _:=hx
     clear hx
     generalize zCY K=tt at *
     have h3:kind.toList=[108,101,97,115,116]∨kind.toList=[109,111,115,116]∨kind.toList=[108,97,115,116]:=by
      unfold isMeasure at hk
      rw[List.contains_iff_mem] at hk
      simp only[List.mem_cons,List.not_mem_nil,or_false] at hk
      rcases hk with h | h | h | h | h | h
      ·exact absurd h e1
      ·exact absurd h e0
      ·exact .inl h
      ·exact .inr (.inl h)
      ·exact absurd h e2
      ·exact .inr (.inr h)
     rcases h3 with e3 | e3 | e3
     ·have b3:(kind.toList == [108,101,97,115,116])=true:=by rw[e3];rfl
      have b4:(kind.toList == [108,97,115,116])=false:=by rw[e3];rfl
      have b5:(kind.toList == [109,111,115,116])=false:=by rw[e3];rfl
      have HE:Hid (zEU kind K=(zBO Win.lessI x.2 (K.map (·.2)),0)):=by
       show zEU kind K=_
       unfold zEU zBJ
       rw[if_neg e0,if_neg e1,if_pos e3,fore_least (d:=x.2) (List.mem_map.2 ⟨x,List.mem_of_getElem? HX.out,rfl⟩)]
       rfl
      have hF:∀ m,In64 (zBO Win.lessI x.2 ((K.take m).map (·.2))):=fun m=>by
       rcases zEL Win.lessI ((K.take m).map (·.2)) x.2 with h | h
       ·rw[h];exact HIN.out x (List.mem_of_getElem? HX.out)
       ·obtain⟨y,hy,e⟩:=List.mem_map.1 h
        rw[←e];exact HIN.out y (List.mem_of_mem_take hy)
      have HF:Hid _:=hF
      clear hF
      go_wp2_with fail
      go_loopw [17,18] (fun v17 v18 W=>∃ m:Nat,v18=.int .i64 m∧m≤K.length∧v17=.int .i64 (zBO Win.lessI x.2 ((K.take m).map (·.2)))∧W=wr) (fun _ v18 _=>K.length - (intOf v18).toNat)
      case atStart=>exact⟨0,rfl,Nat.zero_le _,rfl,rfl⟩
      case round=>
       obtain⟨m,rfl,hm2,rfl,hW⟩:=hrel
       subst hW
       rcases Nat.lt_or_ge m K.length with hlm | hgm
       ·obtain⟨y,hy⟩:∃ y,K[m]?=some y:=⟨K[m],List.getElem?_eq_getElem hlm⟩
        obtain⟨q',cq',e,-,y1⟩:=Win.row_cells HO.out hy
        injection e with e1' e2' e3'
        injection e1' with e1'
        injection e1' with e1'
        subst e1' e3'
        have HT:Hid _:=zLC (ahead:=Win.lessI) (d:=x.2) hy
        have hlm2:(m:Int)<K.length:=by omega
        clear hy
        generalize zBO Win.lessI x.2 ((K.take m).map (·.2))=fm at *
        by_cases hc:y.2<fm
        ·have HC:Hid _:=hc
         go_wp2
         go_roundw
         case rel=>exact⟨m+1,by go_num,by omega,by rw[HT.out,if_pos (by unfold Win.lessI;exact decide_eq_true HC.out)],by first | rfl | trivial⟩
         case measure=>simp[intOf];omega
        ·have HC:Hid _:=hc
         go_wp2
         go_roundw
         case rel=>exact⟨m+1,by go_num,by omega,by rw[HT.out,if_neg (by unfold Win.lessI;exact fun h=>HC.out (of_decide_eq_true h))],by first | rfl | trivial⟩
         case measure=>simp[intOf];omega
       ·have hgm2:¬ (m:Int)<K.length:=by omega
        rw[List.take_of_length_le hgm]
        generalize zBO Win.lessI x.2 (K.map (·.2))=fm at *
        go_wp2
        refine bodyPost_ret (v:=.agg #[.int .i64 (fm),.int .i64 0]) (by simp[results,Tryz.results74,go_sem,rc0,rc1]) rfl ?_
        rw[HM.out,HE.out]
        exact⟨rfl,(HI.out.1.setCell (Nat.le_refl _) _).setCell (Nat.le_refl _) _⟩
     ·have b3:(kind.toList == [109,111,115,116])=true:=by rw[e3];rfl
      have b4:(kind.toList == [108,97,115,116])=false:=by rw[e3];rfl
      have b5:(kind.toList == [108,101,97,115,116])=false:=by rw[e3];rfl
      have HE:Hid (zEU kind K=(zBO (fun a b=>Win.lessI b a) x.2 (K.map (·.2)),0)):=by
       show zEU kind K=_
       unfold zEU zBJ
       rw[if_neg e0,if_neg e1,if_neg (by rw[e3];decide),if_pos e3,fore_most (d:=x.2) (List.mem_map.2 ⟨x,List.mem_of_getElem? HX.out,rfl⟩)]
       rfl
      have hF:∀ m,In64 (zBO (fun a b=>Win.lessI b a) x.2 ((K.take m).map (·.2))):=fun m=>by
       rcases zEL (fun a b=>Win.lessI b a) ((K.take m).map (·.2)) x.2 with h | h
       ·rw[h];exact HIN.out x (List.mem_of_getElem? HX.out)
       ·obtain⟨y,hy,e⟩:=List.mem_map.1 h
        rw[←e];exact HIN.out y (List.mem_of_mem_take hy)
      have HF:Hid _:=hF
      clear hF
      go_wp2_with fail
      go_loopw [17,18] (fun v17 v18 W=>∃ m:Nat,v18=.int .i64 m∧m≤K.length∧v17=.int .i64 (zBO (fun a b=>Win.lessI b a) x.2 ((K.take m).map (·.2)))∧W=wr) (fun _ v18 _=>K.length - (intOf v18).toNat)
      case atStart=>exact⟨0,rfl,Nat.zero_le _,rfl,rfl⟩
      case round=>
       obtain⟨m,rfl,hm2,rfl,hW⟩:=hrel
       subst hW
       rcases Nat.lt_or_ge m K.length with hlm | hgm
       ·obtain⟨y,hy⟩:∃ y,K[m]?=some y:=⟨K[m],List.getElem?_eq_getElem hlm⟩
        obtain⟨q',cq',e,-,y1⟩:=Win.row_cells HO.out hy
        injection e with e1' e2' e3'
        injection e1' with e1'
        injection e1' with e1'
        subst e1' e3'
        have HT:Hid _:=zLC (ahead:=(fun a b=>Win.lessI b a)) (d:=x.2) hy
        have hlm2:(m:Int)<K.length:=by omega
        clear hy
        generalize zBO (fun a b=>Win.lessI b a) x.2 ((K.take m).map (·.2))=fm at *
        by_cases hc:fm<y.2
        ·have HC:Hid _:=hc
         go_wp2
         go_roundw
         case rel=>exact⟨m+1,by go_num,by omega,by rw[HT.out,if_pos (by unfold Win.lessI;exact decide_eq_true HC.out)],by first | rfl | trivial⟩
         case measure=>simp[intOf];omega
        ·have HC:Hid _:=hc
         go_wp2
         go_roundw
         case rel=>exact⟨m+1,by go_num,by omega,by rw[HT.out,if_neg (by unfold Win.lessI;exact fun h=>HC.out (of_decide_eq_true h))],by first | rfl | trivial⟩
         case measure=>simp[intOf];omega
       ·have hgm2:¬ (m:Int)<K.length:=by omega
        rw[List.take_of_length_le hgm]
        generalize zBO (fun a b=>Win.lessI b a) x.2 (K.map (·.2))=fm at *
        go_wp2
        refine bodyPost_ret (v:=.agg #[.int .i64 (fm),.int .i64 0]) (by simp[results,Tryz.results74,go_sem,rc0,rc1]) rfl ?_
        rw[HM.out,HE.out]
        exact⟨rfl,(HI.out.1.setCell (Nat.le_refl _) _).setCell (Nat.le_refl _) _⟩
     ·have b3:(kind.toList == [108,97,115,116])=true:=by rw[e3];rfl
      have HE:Hid (zEU kind K=(x.2,0)):=by
       show zEU kind K=_
       unfold zEU zBJ
       rw[if_neg e0,if_neg e1,if_neg (by rw[e3];decide),if_neg (by rw[e3];decide),if_neg e2,if_pos e3,zPG HX.out,decide_eq_true (by omega)]
       rfl
      go_wp2_with fail
      go_loopw [17,18] (fun v17 v18 W=>v18=.int .i64 0∧v17=.int .i64 x.2∧W=wr) (fun _ _ _=>0)
      case atStart=>exact⟨rfl,rfl,rfl⟩
      case round=>
       obtain⟨rfl,rfl,hW⟩:=hrel
       subst hW
       have h0p:(0:Int)<K.length:=by omega
       go_wp2
       refine bodyPost_ret (v:=.agg #[.int .i64 (x.2),.int .i64 0]) (by simp[results,Tryz.results74,go_sem,rc0,rc1]) rfl ?_
       rw[HM.out,HE.out]
       exact⟨rfl,(HI.out.1.setCell (Nat.le_refl _) _).setCell (Nat.le_refl _) _⟩
end Go.Proofs.YtbokdbaagacnlaaGreatDoor
