import Derived.Test.YtbokdbaagacnlaaGreatDoorJQ25
import Derived.RangeFuncNested
import Derived.RangeFuncBound
import Derived.RangeFuncCalls
import Derived.RangeFuncLeaves
import Derived.Shelf.RegionOpen
import Derived.OwnWalkIn
import Derived.TacticsInMore
import Derived.LoopNIn
import Derived.LoopIn
import Derived.Test.YtbokdbaagacnlaaGreatDoorJQ22
import Derived.Test.YtbokdbaagacnlaaGreatDoorJQ4
namespace Go.Proofs.YtbokdbaagacnlaaGreatDoor.Win
open Go.RowKit Go.Lib Go.Shelf
set_option maxHeartbeats 2000000 in
set_option maxRecDepth 1000000 in
theorem cloneI {w:World}{mv:Value}{k:List (Int × Int)}(own:w.ownsRow 0 313 2 mv k.length (sCells (Value.int .i64) k))(hl:k.length≤17):
  Calls Tryz.prog 232 #[mv] w fun e w'=>
   ∃ v',e=.returned v'∧w'.ownsRow w.heap.size 313 2 v' k.length (sCells (Value.int .i64) k)∧Below w.heap.size w w':=by
 obtain⟨i0,hi0,hz0,hz1,hz2⟩:=info_parts zMJ
 have q22:∀ (w:World) (a:Option Addr) (n c n' c':Nat),(binOp .eql 245 (.slice a n c) (.slice none n' c')).run Tryz.prog w=.ok (.bool a.isNone) w:=fun w a n c n' c'=>Lib.run_eql_slice_nil w _ _ a n c n' c' Tryz.underlying245
 have OWN:Hid (w.ownsRow 0 313 2 mv k.length (sCells (Value.int .i64) k)):=own
 rcases own.2 with⟨rfl,h0⟩ | ⟨g,cap,cur,rfl,-,hg,hnc,hcm,hcs,htake⟩
 ·clear own
  have hk:k=[]:=List.length_eq_zero_iff.1 h0
  subst hk
  go_enter Tryz.func232,Tryz.ntmps232
  go_wp2
  go_ret
  exact⟨_,rfl,World.ownsRow_nil _ _ _ _,Below.refl _ _⟩
 ·have hcc:=own.cells (g:=g) rfl
  have A:Hid (∀ j u,(sCells (Value.int .i64) k)[j]?=some u→w.cell? ((⟨g,0,none⟩:Addr).add j)=some u):=hcc
  clear hcc own hg hcs htake
  generalize hn:k.length=n at *
  go_enter Tryz.func232,Tryz.ntmps232
  go_wp2_with (at_builtin;refine wpList_append_own _ rfl _ _ 245 rfl w.heap.size 313 i0 (.agg #[.int .i64 0,(Value.int .i64) 0]) 2 16 Tryz.underlying245 hi0 hz0 hz1 hz2 rfl (by decide) _ _ _ rfl (World.ownsRow_made w #[] 0 (Nat.le_refl _) (Nat.zero_le _) (by simp)) ⟨g,0,none⟩ n cap (sCells (Value.int .i64) k) rfl ?qc1 ?qc2 ?qc3 ?qc4 ?qc5 ?qc6 ?_)
  case qc1=>rw[zCG,hn]
  case qc2=>exact fun j u hj=>cell_past (A.out j u hj) _
  case qc3=>exact zHQ _ (fun _=>rfl) _
  case qc4=>unfold maxLen;omega
  case qc5=>omega
  case qc6=>simp
  intro v' w1 hown hgrow hnil
  have hB:Below w.heap.size w w1:=((Below.refl _ w).alloc (Nat.le_refl _) _).grown hgrow (by simp) (by intro k hk;simp[Value.ownBlock] at hk;omega)
  have HO:Hid (w1.ownsRow w.heap.size 313 2 v' n (sCells (Value.int .i64) k)):=hown
  have HB:Hid _:=hB
  clear hB hown hgrow hnil
  go_wp2
  go_ret
  exact⟨v',rfl,HO.out,HB.out⟩
set_option maxRecDepth 1000000 in
theorem allI (w:World)(R:Nat):Calls Tryz.prog 215 #[.pointer (some ⟨R,0,none⟩)] w fun e w'=>
  e=.returned (.func (.func 231) #[] #[.pointer (some ⟨w.heap.size,0,none⟩)])∧w'=w.alloc (.cells #[.pointer (some ⟨R,0,none⟩)] 195):=by
 have hmf:∀ (fn:Fn) (first cap:Array Value) (w:World),(Instr.makeFunc fn first cap).run Tryz.prog w=.ok (.func fn first cap) w:=fun _ _ _ _=>rfl
 go_enter Tryz.func215,Tryz.ntmps215
 go_wp2
 go_ret
 exact⟨rfl,rfl⟩
attribute [local go_sem] Oper.semAt_some
def zKY (W W':World):Prop:=∀ (b:Nat) (cs:Array Value) (z:Nat × Nat),W.heap[b]?=some (Obj.cells cs 313 z)→W'.heap[b]?=W.heap[b]?
theorem zKY.trans {A B C:World}(h:zKY A B)(k:zKY B C):zKY A C:=fun b cs z hb=>(k b cs z ((h b cs z hb).trans hb)).trans (h b cs z hb)
theorem zKY.owns {W W':World}(h:zKY W W'){base n:Nat}{v:Value}{xs:List Value}(ho:W.ownsRow base 313 2 v n xs):W'.ownsRow base 313 2 v n xs:=by
 refine⟨ho.1,?_⟩
 rcases ho.2 with hn | ⟨g,cap,cur,rfl,hbg,hg,rest⟩
 ·exact .inl hn
 ·exact .inr ⟨g,cap,cur,rfl,hbg,(h g _ _ hg).trans hg,rest⟩
theorem cellsI {w:World}{base:Nat}{v:Value}{l:List (Int × Int)}(h:w.ownsRow base 313 2 v l.length (sCells (Value.int .i64) l)){i:Nat}{x:Int × Int}(hx:l[i]?=some x):
  ∃ g cp,v=.slice (some ⟨g,0,none⟩) l.length cp∧w.cell? ⟨g,i * 2,none⟩=some (.int .i64 x.1)∧w.cell? ⟨g,i * 2+1,none⟩=some ((Value.int .i64) x.2):=by
 have hi:i<l.length:=(List.getElem?_eq_some_iff.1 hx).1
 obtain⟨q1,q2⟩:=zG7 (Value.int .i64) l i x hx
 rcases h.2 with⟨-,h0⟩ | ⟨g,cap,cur,rfl,-,hg,hnc,hcm,hcs,htake⟩
 ·omega
 refine⟨g,cap,rfl,?_,?_⟩
 ·rw[←htake,List.getElem?_take,if_pos (by omega)] at q1
  simpa[World.cell?,hg] using q1
 ·rw[←htake,List.getElem?_take,if_pos (by omega)] at q2
  simpa[World.cell?,hg] using q2
set_option maxRecDepth 1000000 in
set_option maxHeartbeats 2000000 in
theorem iterI (n:Nat)(l Bx R:Nat)(mv:Value)(k:List (Int × Int))(J Jx:List (Int × Int)→World→Prop)
  (hY:∀ pre x W,J pre W→pre.length<k.length→YieldAt Fence.wide (n - 1) Tryz.prog l #[.int .i64 x.1,(Value.int .i64) x.2] W fun e W'=>
   (e=.returned (.bool true)∧J (pre ++ [x]) W'∧zKY W W')∨(e=.returned (.bool false)∧Jx (pre ++ [x]) W'))
  (W:World) (hJ:AbidesFrom W.heap.size J) (hBx:W.cell? ⟨Bx,0,none⟩=some (.pointer (some ⟨R,0,none⟩))) (hc2:W.cell? ⟨R,2,none⟩=some mv) (own:W.ownsRow 0 313 2 mv k.length (sCells (Value.int .i64) k)) (hl:k.length≤16) (h0:J [] W):
  CallsIn Fence.wide n Tryz.prog 231 #[.func (.yield l) #[] #[],.pointer (some ⟨Bx,0,none⟩)] W fun e W'=>(∃ v,e=.returned v)∧((∃ ys,ys=k∧J ys W')∨(∃ pre,True∧Jx pre W')):=by
 have hcl:=cloneI own (by omega)
 obtain⟨ao,cp,rfl⟩:=owns_slice own
 clear own
 generalize hm:k.length=m at *
 refine callsIn_of_wp Tryz.func231 rfl trivial ?_ rfl
 simp only[Tryz.ntmps231,List.size_toArray,List.length_cons,List.length_nil,Nat.reduceAdd,Nat.reduceSub,Array.replicate_succ,Array.replicate_zero,List.push_toArray,List.append_toArray,List.nil_append,List.cons_append]
 gi_wp2_with fail
 refine⟨trivial,fun h=>(by cases h),(callsIn_wide.2 hcl).mono ?_⟩
 rintro e w1 ⟨cv,rfl,hown,hb1⟩
 obtain⟨co,cc,rfl⟩:=owns_slice hown
 have hJ1:J [] w1:=hJ [] W w1 none h0 ⟨hb1.os,hb1.tape,hb1.output,hb1.size,fun k hk _=>hb1.block k hk⟩ (fun r e=>by cases e)
 have HROW:Hid (w1.ownsRow 0 313 2 (.slice co m cc) k.length (sCells (Value.int .i64) k)):=by rw[hm];exact⟨hown.1,hown.2.imp id (fun⟨g,cap,cur,a1,_,a3⟩=>⟨g,cap,cur,a1,Nat.zero_le _,a3⟩)⟩
 have HJ0:Hid (J [] w1):=hJ1
 have HY:Hid _:=hY
 have HJ:Hid (AbidesFrom W.heap.size J):=hJ
 clear hown hb1 hcl hBx hc2 hJ1 hJ h0 hY
 gi_wp2_with fail
 gi_loopw [11] (fun v11 wr=>∃ j:Nat,v11=.int .i64 j∧j≤m∧Hid (J (k.take j) wr)∧Hid (wr.ownsRow 0 313 2 (.slice co m cc) k.length (sCells (Value.int .i64) k))) (fun v11 _=>m - (intOf v11).toNat)
 case atStart=>exact⟨0,rfl,Nat.zero_le _,HJ0,HROW⟩
 case round=>
  obtain⟨j,rfl,hj,HJr,HR⟩:=hrel
  clear HJ0 HROW
  rcases Nat.lt_or_ge j m with hlt | hge
  ·obtain⟨x,hx⟩:∃ x,k[j]?=some x:=⟨k[j],List.getElem?_eq_getElem (by omega)⟩
   obtain⟨g,cp',he,q1,q2⟩:=cellsI HR.out hx
   injection he with he1 he2 he3
   subst he1
   clear he2 he3
   have HTK:Hid (k.take (j+1)=k.take j ++ [x]):=(by rw[List.take_add_one,hx];rfl:k.take (j+1)=k.take j ++ [x])
   have hJa:J (k.take j) (wr.alloc (.cells #[.int .i64 x.1,(Value.int .i64) x.2] 313)):=HJ.out _ _ _ none HJr.out (World.grownBy_alloc wr _ none) (fun r e=>by cases e)
   obtain⟨fn,tmps,assign,body,hy,hR⟩:=HY.out (k.take j) x _ hJa (by rw[List.length_take];omega)
   obtain⟨x1,x2⟩:=x
   dsimp only at q1 q2 hy
   have hlt2:(j:Int)<m:=by omega
   clear hx hJa
   gi_wp2_with fail
   refine⟨fun h=>(by cases h),hR.mono ?_⟩
   rintro e w2 (⟨rfl,hJ2,hk2⟩ | ⟨rfl,hJx2⟩)
   ·have HJ2:Hid (J (k.take (j+1)) w2):=by rw[HTK.out];exact hJ2
    have HR2:Hid (w2.ownsRow 0 313 2 (.slice (some ⟨g,0,none⟩) m cc) k.length (sCells (Value.int .i64) k)):=hk2.owns (HR.out.alloc _)
    clear hJ2 hk2 hy hR q1 q2
    gi_wp2
    go_roundw
    case rel=>exact⟨j+1,by go_num,by omega,HJ2,HR2⟩
    case measure=>simp[intOf];omega
   ·have HX:Hid _:=hJx2
    clear hJx2 hy hR q1 q2
    gi_wp2
    refine bodyPost_ret (results_none rfl _ _ _) rfl ?_
    first | exact⟨⟨_,rfl⟩,.inr ⟨_,trivial,HX.out⟩⟩ | exact⟨⟨_,rfl⟩,.inr ⟨_,HX.out⟩⟩
  ·have HF:Hid (J k wr):=by have:=HJr.out;rw[List.take_of_length_le (by omega)] at this;exact this
   have hge2:¬ (j:Int)<m:=by omega
   gi_wp2
   go_end0
   first | exact⟨⟨_,rfl⟩,.inl ⟨_,rfl,HF.out⟩⟩ | exact⟨⟨_,rfl⟩,.inl HF.out⟩
attribute [local go_sem] Oper.semAt_some
structure FldA (sf:Nat) (w W:World) (n:Int):Prop where
 st:W.heap[w.heap.size]?=some (.cells #[.func (.func sf) #[] #[]] 189 (0,0))
 hvb:W.heap[w.heap.size+1]?=some (.cells #[.int .i64 n] 2 (0,0))
 bel:Below w.heap.size w W
theorem FldA.grown {w W W':World}{sf B:Nat}{n:Int}{row:Option Nat}(h:FldA sf w W n)(hB:w.heap.size≤B)(hg:W.grownBy W' row)(hr:∀ r,row=some r→B≤r∧∃ o:Obj,W.heap[r]?=some o∧o.isCells=false):FldA sf w W' n:=by
 have hne:∀ {b:Nat} {cs:Array Value} {T:Nat} {z:Nat × Nat},W.heap[b]?=some (.cells cs T z)→some b≠row:=fun hb e=>by
  obtain⟨-,o,ho,hc⟩:=hr _ e.symm
  rw[hb] at ho
  injection ho with ho
  subst ho
  cases hc
 exact⟨(hg.block _ (zA2 h.st) (hne h.st)).trans h.st,(hg.block _ (zA2 h.hvb) (hne h.hvb)).trans h.hvb,h.bel.grown hg h.bel.size (fun k e=>Nat.le_trans hB (hr k e).1)⟩
theorem FldA.next {sf:Nat}{w W:World}{n:Int}(h:FldA sf w W n)(m:Int):KeepsOthers W (W.setCell ⟨w.heap.size+1,0,none⟩ (.int .i64 m))∧zKY W (W.setCell ⟨w.heap.size+1,0,none⟩ (.int .i64 m))∧FldA sf w (W.setCell ⟨w.heap.size+1,0,none⟩ (.int .i64 m)) m:=by
 refine⟨KeepsOthers.setCell _ _ _,fun b cs z hb=>Below.heap_setCell _ _ _ _ (kind_ne hb h.hvb (by decide)),⟨zA6 h.st (by simp),zA4 (i:=0) (v:=.int .i64 m) h.hvb,h.bel.setCell (p:=⟨w.heap.size+1,0,none⟩) (by simp) _⟩⟩
set_option maxRecDepth 1000000 in
set_option maxHeartbeats 2000000 in
theorem foldA {sf:Nat}(ef:∀ args W,(callFunc sf args).run Tryz.prog W=.ok (.enter sf args) W){gf:Int→Int→Int}(hsf:∀ a v w,Calls Tryz.prog sf #[.int .i64 a,.int .i64 v] w fun e w'=>∃ r,e=.returned (.int .i64 r)∧w'=w∧(In64 a→In64 v→r=gf a v))(hgf:∀ a v,In64 a→In64 v→In64 (gf a v)){w:World}{R:Nat}{wid tm:Int}{k:List (Int × Int)}{mv:Value}(h:WinI w R wid tm k mv)(hl:k.length≤16)(hk:∀ x∈k,In64 x.2){a0:Int}(ha0:In64 a0):
  Calls Tryz.prog 190 #[.pointer (some ⟨R,0,none⟩),.int .i64 a0,.func (.func sf) #[] #[]] w fun e w'=>e=.returned (.int .i64 ((k.map (·.2)).foldl gf a0))∧Below w.heap.size w w':=by
 have hfn:∀ (w:World) (f:Fn) (a b:Array Value),(binOp .eql 189 (.func f a b) .nilFunc).run Tryz.prog w=.ok (.bool false) w:=fun w f a b=>zO7 w _ f a b Tryz.underlying189
 have hal:=fun W=>callsIn_wide (n:=3 - 1).2 (allI W R)
 refine(callsIn_wide (n:=3)).1 ?_
 refine callsIn_of_wp_marks Tryz.func190 rfl trivial ?_ rfl
 simp only[Tryz.ntmps190,List.size_toArray,List.length_cons,List.length_nil,Nat.reduceAdd,Nat.reduceSub,Array.replicate_succ,Array.replicate_zero,List.push_toArray,List.append_toArray,List.nil_append,List.cons_append]
 gi_wp2_with fail
 refine⟨trivial,(hal _).mono ?_⟩
 rintro e w' ⟨rfl,rfl⟩
 have b0:=block_new w #[.func (.func sf) #[] #[]] 189
 have b1:=block_new (w.alloc (.cells #[.func (.func sf) #[] #[]] 189)) #[.int .i64 a0] 2
 have b2:=block_new ((w.alloc (.cells #[.func (.func sf) #[] #[]] 189)).alloc (.cells #[.int .i64 a0] 2)) #[.pointer (some ⟨R,0,none⟩)] 195
 simp only[World.size_alloc] at b1 b2
 have hB0:Below w.heap.size w (((w.alloc (.cells #[.func (.func sf) #[] #[]] 189)).alloc (.cells #[.int .i64 a0] 2)).alloc (.cells #[.pointer (some ⟨R,0,none⟩)] 195)):=(((Below.refl _ w).alloc (Nat.le_refl _) _).alloc (by simp) _).alloc (by simp;omega) _
 have hwin:=h.below hB0
 have F0:FldA sf w (((w.alloc (.cells #[.func (.func sf) #[] #[]] 189)).alloc (.cells #[.int .i64 a0] 2)).alloc (.cells #[.pointer (some ⟨R,0,none⟩)] 195)) a0:=
  ⟨zA3 (zA3 b0),zA3 b1,hB0⟩
 obtain⟨W0,hW0⟩:∃ W0,W0=(((w.alloc (.cells #[.func (.func sf) #[] #[]] 189)).alloc (.cells #[.int .i64 a0] 2)).alloc (.cells #[.pointer (some ⟨R,0,none⟩)] 195)):=⟨_,rfl⟩
 rw[←hW0] at b2 hB0 hwin F0
 have hsz:w.heap.size≤W0.heap.size:=hB0.size
 gi_wp2_with fail
 rw[←hW0]
 have hseq:SeqStopsK Fence.wide (3 - 1) Tryz.prog 231 #[.pointer (some ⟨w.heap.size+1+1,0,none⟩)] (fun x:Int × Int=>#[.int .i64 x.1,Value.int .i64 x.2]) zKY (fun ys=>ys=k) (fun _=>True) k.length W0:=fun l J Jx W hW hJ _ hY h0=>by
  have hw2:=hwin.below hW
  exact iterI 2 l (w.heap.size+1+1) R mv k J Jx hY W hJ (zA0 ((hW.block _ (zA2 b2)).trans b2) rfl) (zA0 (i:=2) hw2.blk rfl) hw2.own hl h0
 clear hW0 hfn hal
 refine wpIn_rangeFunc_ownF rfl (by decide) (gf:=231) (lb:=#[.pointer (some ⟨w.heap.size+1+1,0,none⟩)]) rfl trivial (enters_of Tryz.func231 (by kernel_rfl) rfl) hseq zKY.trans (fun W l o o' _ hl hc _ b cs z hb=>by
   refine World.putObj_heap_other (fun e=>?_)
   subst e
   rw[hb] at hl
   injection hl with hl
   subst hl
   cases hc) (Below.refl _ _) (fun _=>rfl)
  (fun pre W=>∃ a,FldA sf w W a∧(pre <+: k→a=(pre.map (·.2)).foldl gf a0∧In64 a)) (fun _ _ _=>False) (fun pre W W' row h hg hr=>by obtain⟨a,h1,h2⟩:=h;exact⟨a,h1.grown hsz hg hr,h2⟩) (fun _ _ _ _ _ hs _ _=>hs) ⟨a0,F0,fun _=>⟨rfl,ha0⟩⟩
  (fun x=>{ tmps:=#[.pointer (some ⟨R,0,none⟩),.int .i64 a0,.func (.func sf) #[] #[],undef,undef,.pointer (some ⟨w.heap.size,0,none⟩),.int .i64 0,.pointer (some ⟨w.heap.size+1,0,none⟩),undef,.int .i64 x.2,.pointer (some ⟨R,0,none⟩),.bool false,.bool false,.func (.func sf) #[] #[],.bool false,.bool false,undef,.int .i64 a0,.pointer (some ⟨R,0,none⟩),.func (.func 231) #[] #[.pointer (some ⟨w.heap.size+1+1,0,none⟩)],.int .i64 x.1,.int .i64 x.2,undef,undef,undef,undef,undef],defers:=[] }) ?assign ?body ?done ?stop
 case assign=>
  intro l x W K hK
  gi_wp2
  exact hK
 case body=>
  rintro l pre x W ⟨a,hF,hpre⟩ hlen
  have cs:W.cell? ⟨w.heap.size,0,none⟩=some (.func (.func sf) #[] #[]):=zA0 hF.st rfl
  have ch:W.cell? ⟨w.heap.size+1,0,none⟩=some (.int .i64 a):=zA0 hF.hvb rfl
  have ff:W.frozen? ⟨w.heap.size+1,0,none⟩=false:=zA1 hF.hvb
  have hst:=hsf a x.2 W
  have HN:Hid _:=hF
  have HP:Hid _:=And.intro hpre (And.intro hk hgf)
  clear hF F0 hseq hwin b0 b1 b2 hB0 hsf hgf hpre hk
  gi_wp2_with fail
  refine⟨trivial,(CallsIn.inRound l (callsIn_wide.2 hst)).mono ?_⟩
  rintro e W5 ⟨r,rfl,hw,hr⟩
  have hw:=hw.symm
  subst hw
  have HR:Hid _:=hr
  clear hst hr
  gi_wp2
  have q:=HN.out.next r
  refine⟨q.1,q.2.1,r,q.2.2,fun hpx=>?_⟩
  have hp:pre <+: k:=(List.prefix_append pre [x]).trans hpx
  have hx:x∈k:=hpx.subset (by simp)
  obtain⟨e1,e2⟩:=HP.out.1 hp
  have e3:=HR.out e2 (HP.out.2.1 x hx)
  rw[List.map_append,List.foldl_append,←e1,e3]
  exact⟨rfl,HP.out.2.2 _ _ e2 (HP.out.2.1 x hx)⟩
 case done=>
  rintro D ys W hD rfl ⟨a,hF,hpre⟩ hK
  obtain⟨e1,-⟩:=hpre List.prefix_rfl
  have ch:W.cell? ⟨w.heap.size+1,0,none⟩=some (.int .i64 a):=zA0 hF.hvb rfl
  have HF:Hid _:=hF
  have HE1:Hid _:=e1
  clear hF F0 hseq hwin b0 b1 b2 hB0 hpre e1
  gi_wp2
  refine⟨by simp,.inl ⟨_,_,rfl,run_takeDeferred hK,?_⟩⟩
  have hE:=HF.out.grown (B:=w.heap.size) (Nat.le_refl _) (grownBy_putObj' W D (.deferred none)) (fun r e=>by cases e;exact⟨by omega,_,hK,rfl⟩)
  exact⟨_,results_tmp rfl _ _ _,by rw[←HE1.out];rfl,hE.bel⟩
 case stop=>
  rintro D c pre W _ _ h _
  exact h.elim
end Go.Proofs.YtbokdbaagacnlaaGreatDoor.Win
namespace Go.Proofs.YtbokdbaagacnlaaGreatDoor
open Go.RowKit
def MapG {κ:Type}(kv:κ→Value)(w:World)(m:Nat)(F:κ→Option Value):Prop:=∃ es clock,w.heap[m]?=some (.map es clock)∧(∀ e∈es.toList,∃ s,e.key=kv s)∧MapKept.Stamped es clock∧∀ s v,F s=some v↔∃ e∈es.toList,e.key=kv s∧e.val=v
section
variable {κ:Type} {kv:κ→Value} {w w':World} {m:Nat} {F:κ→Option Value}
theorem MapG.new (kv:κ→Value)(w:World):MapG kv (w.alloc (.map #[] 0)) w.heap.size (fun _=>none):=⟨#[],0,heap_alloc_new _ _,by simp,MapKept.stamped_empty 0,by simp⟩
theorem MapG.block (h:MapG kv w m F)(hb:w'.heap[m]?=w.heap[m]?):MapG kv w' m F:=by
 obtain⟨es,clock,h1,h2⟩:=h
 exact⟨es,clock,hb.trans h1,h2⟩
theorem MapG.lt (h:MapG kv w m F):m<w.heap.size:=by obtain⟨es,clock,h1,-⟩:=h;exact zA2 h1
theorem MapG.congr {G:κ→Option Value}(h:MapG kv w m F)(e:∀ s,F s=G s):MapG kv w m G:=by
 obtain⟨es,clock,h1,h2,h3,h4⟩:=h
 exact⟨es,clock,h1,h2,h3,fun s v=>by rw[←e];exact h4 s v⟩
theorem MapG.find {d:TypeDesc}(hd:∀ a,MapKept.IsKey d (kv a))(h:MapG kv w m F)(s:κ):∃ es clock,w.heap[m]?=some (.map es clock)∧((Instr.findNow d (kv s) es.toList 0=some none∧F s=none)∨∃ j e,Instr.findNow d (kv s) es.toList 0=some (some (j,e.val))∧es.toList[j]?=some e∧e.key=kv s∧F s=some e.val):=by
 obtain⟨es,clock,h1,h2,h3,h4⟩:=h
 refine⟨es,clock,h1,?_⟩
 rcases MapKept.findNow_spec (d:=d) (k:=kv s) (hd s) es.toList 0 (fun x hx=>by obtain⟨t,e⟩:=h2 x hx;rw[e];exact hd t) with⟨q1,q2⟩ | ⟨j,e,q1,q2,q3⟩
 ·refine .inl ⟨q1,?_⟩
  cases e:F s with
  | none=>rfl
  | some v=>obtain⟨x,hx,hk,-⟩:=(h4 s v).1 e;exact absurd hk (q2 x hx)
 ·exact .inr ⟨j,e,by simpa using q1,q2,q3,(h4 s e.val).2 ⟨e,List.mem_of_getElem? q2,q3,rfl⟩⟩
theorem MapG.lookup {d:TypeDesc}(hd:∀ a,MapKept.IsKey d (kv a)){T kt et:TypeId}{z:Value}(hT:Tryz.prog.underlying T=some (.map kt et))(hkt:Tryz.prog.underlying kt=some d)(hz:∀ w,(zeroValue et).run Tryz.prog w=.ok z w)(h:MapG kv w m F)(s:κ):(Instr.lookup T (.map (some m)) (kv s) false).run Tryz.prog w=.ok ((F s).getD z) w:=by
 obtain⟨es,clock,h1,h2⟩:=h.find hd s
 have hc:∀ b,(Instr.checkKey b 10000 kt (kv s)).run Tryz.prog w=.ok () w:=fun b=>MapKept.run_checkKey (k:=kv s) hkt (hd s) b 9999
 rcases h2 with⟨q1,q2⟩ | ⟨j,e,q1,-,-,q4⟩
 ·simp[Instr.lookup,run_underlying hT,MapKept.run_getObj_map h1,hc,MapKept.run_findKey hkt q1,Result.andThen,q2,hz]
 ·simp[Instr.lookup,run_underlying hT,MapKept.run_getObj_map h1,hc,MapKept.run_findKey hkt q1,Result.andThen,q4]
set_option maxRecDepth 100000 in
theorem MapG.update [DecidableEq κ]{d:TypeDesc}(hd:∀ a,MapKept.IsKey d (kv a))(kinj:∀ a b,kv a=kv b→a=b){T kt et:TypeId}(hT:Tryz.prog.underlying T=some (.map kt et))(hkt:Tryz.prog.underlying kt=some d)(h:MapG kv w m F)(s:κ)(v:Value):∃ w',(Instr.mapUpdate T (.map (some m)) (kv s) v).run Tryz.prog w=.ok () w'∧MapG kv w' m (fun t=>if t=s then some v else F t)∧w.grownBy w' (some m):=by
 have hh:=h
 obtain⟨es,clock,h1,h2,h3,h4⟩:=hh
 obtain⟨es0,clock0,h10,hf⟩:=h.find hd s
 rw[h1] at h10
 injection h10 with h10
 injection h10 with e1 e2
 subst e1 e2
 have hc:∀ b,(Instr.checkKey b 10000 kt (kv s)).run Tryz.prog w=.ok () w:=fun b=>MapKept.run_checkKey (k:=kv s) hkt (hd s) b 9999
 have hgr:∀ o,w.grownBy { w with heap:=w.heap.setIfInBounds m o } (some m):=fun o=>⟨rfl,rfl,rfl,by simp,fun k hk hne=>by
  have:m≠k:=fun e=>hne (by rw[e])
  simp[this]⟩
 have hsame:∀ o,({ w with heap:=w.heap.setIfInBounds m o }:World).heap[m]?=some o:=fun o=>by
  have:=zA2 h1
  simp[this]
 rcases hf with⟨q1,q2⟩ | ⟨j,e,q1,q2,q3,q4⟩
 ·refine⟨_,by simp[Instr.mapUpdate,run_underlying hT,MapKept.run_getObj_map h1,hc,MapKept.run_findKey hkt q1,MapKept.run_setObj_map _ h1,Result.andThen];rfl,⟨_,_,hsame _,?_,?_,?_⟩,hgr _⟩
  ·intro x hx
   simp at hx
   rcases hx with hx | rfl
   ·exact h2 x (by simpa using hx)
   ·exact⟨s,rfl⟩
  ·exact MapKept.stamped_push h3 fun x hx e=>by
    have:=(h4 s x.val).2 ⟨x,hx,e,rfl⟩
    rw[q2] at this
    cases this
  ·intro t u
   by_cases hts:t=s
   ·subst hts
    simp only[if_true]
    constructor
    ·intro q
     injection q with q
     subst q
     exact⟨⟨kv t,v,clock⟩,by simp,rfl,rfl⟩
    ·rintro⟨x,hx,hk,rfl⟩
     simp at hx
     rcases hx with hx | rfl
     ·have:=(h4 t x.val).2 ⟨x,by simpa using hx,hk,rfl⟩
      rw[q2] at this
      cases this
     ·rfl
   ·show (if t=s then some v else F t)=some u↔_
    rw[if_neg hts,h4]
    constructor
    ·rintro⟨x,hx,hk,hv⟩
     exact⟨x,by simp at hx ⊢;exact .inl hx,hk,hv⟩
    ·rintro⟨x,hx,hk,hv⟩
     simp at hx
     rcases hx with hx | rfl
     ·exact⟨x,by simpa using hx,hk,hv⟩
     ·exact absurd (kinj _ _ hk).symm hts
 ·have hks:(Instr.keyThatStays (kv s) (kv s)).run Tryz.prog w=.ok (kv s) w:=MapKept.run_keyThatStays (hd s)
  have hjs:es[j]?=some e:=by simpa using q2
  have hstay:(Instr.keyThatStays (((es[j]?).map (·.key)).getD (kv s)) (kv s)).run Tryz.prog w=.ok (kv s) w:=by
   rw[hjs]
   simp only[Option.map_some,Option.getD_some,q3]
   exact hks
  refine⟨_,by simp[Instr.mapUpdate,run_underlying hT,MapKept.run_getObj_map h1,hc,MapKept.run_findKey hkt q1,MapKept.run_setObj_map _ h1,Result.andThen,hstay];rfl,⟨_,_,hsame _,?_,?_,?_⟩,hgr _⟩
  ·intro x hx
   obtain⟨k,hk⟩:=List.getElem?_of_mem hx
   rw[Array.toList_modify,List.getElem?_modify] at hk
   split at hk
   ·cases hq:es.toList[k]? with
    | none=>rw[hq] at hk;cases hk
    | some y=>rw[hq] at hk;injection hk with hk;exact⟨s,by rw[←hk]⟩
   ·exact h2 x (List.mem_of_getElem? (by simpa using hk))
  ·exact MapKept.stamped_modify h3 j _ (fun _ _=>rfl) (fun x _ hx=>by rw[hjs] at hx;injection hx with hx;subst hx;exact q3.symm)
  ·have huniq:∀ (k:Nat) (x:MapEntry),es.toList[k]?=some x→x.key=kv s→k=j:=fun k x hx hk=>by
    have a1:(es.toList.map (·.key))[k]?=some (kv s):=by rw[List.getElem?_map,hx];simp[hk]
    have a2:(es.toList.map (·.key))[j]?=some (kv s):=by rw[List.getElem?_map,q2];simp[q3]
    obtain⟨b1,c1⟩:=List.getElem?_eq_some_iff.1 a1
    obtain⟨b2,c2⟩:=List.getElem?_eq_some_iff.1 a2
    rcases Nat.lt_trichotomy k j with q | q | q
    ·exact absurd (c1.trans c2.symm) (List.pairwise_iff_getElem.1 h3.2.2 k j b1 b2 q)
    ·exact q
    ·exact absurd (c2.trans c1.symm) (List.pairwise_iff_getElem.1 h3.2.2 j k b2 b1 q)
   have hget:∀ k,(es.modify j fun x=>{ x with key:=kv s,val:=v }).toList[k]?=if j=k then(es.toList[k]?).map (fun x=>{ x with key:=kv s,val:=v }) else es.toList[k]?:=fun k=>by
    rw[Array.toList_modify,List.getElem?_modify]
    split <;> simp
   intro t u
   show (if t=s then some v else F t)=some u↔_
   by_cases hts:t=s
   ·subst hts
    rw[if_pos rfl]
    constructor
    ·intro q
     injection q with q
     subst q
     refine⟨{ e with key:=kv t,val:=v },List.mem_of_getElem? (i:=j) ?_,rfl,rfl⟩
     rw[hget,if_pos rfl,q2]
     rfl
    ·rintro⟨x,hx,hk,rfl⟩
     obtain⟨k,hk2⟩:=List.getElem?_of_mem hx
     rw[hget] at hk2
     split at hk2
     ·cases hq:es.toList[k]? with
      | none=>rw[hq] at hk2;cases hk2
      | some y=>rw[hq] at hk2;injection hk2 with hk2;rw[←hk2]
     ·rename_i hne
      exact absurd (huniq k x hk2 hk).symm hne
   ·rw[if_neg hts,h4]
    constructor
    ·rintro⟨x,hx,hk,hv⟩
     obtain⟨k,hk2⟩:=List.getElem?_of_mem hx
     have hne:¬ j=k:=fun e2=>by
      subst e2
      rw[q2] at hk2
      injection hk2 with hk2
      subst hk2
      rw[q3] at hk
      exact hts (kinj _ _ hk).symm
     exact⟨x,List.mem_of_getElem? (i:=k) (by rw[hget,if_neg hne];exact hk2),hk,hv⟩
    ·rintro⟨x,hx,hk,hv⟩
     obtain⟨k,hk2⟩:=List.getElem?_of_mem hx
     rw[hget] at hk2
     split at hk2
     ·cases hq:es.toList[k]? with
      | none=>rw[hq] at hk2;cases hk2
      | some y=>
       rw[hq] at hk2
       injection hk2 with hk2
       rw[←hk2] at hk
       exact absurd (kinj _ _ hk).symm hts
     ·exact⟨x,List.mem_of_getElem? hk2,hk,hv⟩
end
end Go.Proofs.YtbokdbaagacnlaaGreatDoor
namespace Go.Proofs.YtbokdbaagacnlaaGreatDoor
open Go.RowKit Go.Lib
abbrev i64V (n:Int):Value:=.int .i64 n
theorem zH5 (s:ByteArray):MapKept.IsKey .string (.string s):=by simp[MapKept.IsKey]
theorem i64Key (n:Int):MapKept.IsKey (.int .i64) (i64V n):=by simp[MapKept.IsKey]
theorem Tryz.zeroInner (w:World):(zeroValue 191).run Tryz.prog w=.ok (.map none) w:=by kernel_rfl
theorem Tryz.zeroWin (w:World):(zeroValue 195).run Tryz.prog w=.ok (.pointer none) w:=by kernel_rfl
structure WSt where
 blk:Nat
 row:Value
 time:Int
 kept:List (Int × Int)
structure Wins (w:World) (m:Nat) (sp:List (ByteArray × Int)) (I:ByteArray→Nat) (st:ByteArray→Int→WSt):Prop where
 outer:∃ F,MapG Value.string w m F∧∀ s,((∃ n,(s,n)∈sp)→F s=some (.map (some (I s))))∧((∀ n,(s,n) ∉ sp)→F s=none)
 inner:∀ q∈sp,∃ F,MapG i64V w (I q.1) F∧∀ n,((q.1,n)∈sp→F n=some (ptr (st q.1 n).blk))∧((q.1,n) ∉ sp→F n=none)
 win:∀ q∈sp,Win.WinI w (st q.1 q.2).blk q.2 (st q.1 q.2).time (st q.1 q.2).kept (st q.1 q.2).row
 good:∀ q∈sp,(st q.1 q.2).kept.length≤16∧Win.Up (st q.1 q.2).kept∧Win.AllLe (st q.1 q.2).time (st q.1 q.2).kept
 apart:∀ q∈sp,∀ r∈sp,q≠r→(st q.1 q.2).blk≠(st r.1 r.2).blk∧∀ g,(st q.1 q.2).row.ownBlock=some g→(st r.1 r.2).row.ownBlock≠some g
def Mine (q:WSt)(b:Nat):Prop:=b=q.blk∨q.row.ownBlock=some b
set_option maxRecDepth 1000000 in
set_option maxHeartbeats 1000000 in
theorem code_at {w:World}{m:Nat}{sp:List (ByteArray × Int)}{I:ByteArray→Nat}{st:ByteArray→Int→WSt}(h:Wins w m sp I st){q:ByteArray × Int}(hq:q∈sp){t:Int}(ht:In64 t)(hle:(st q.1 q.2).time≤t):
  Calls Tryz.prog 101 #[.map (some m),.int .i64 t,.string q.1,.int .i64 q.2] w fun e w'=>e=.returned (ptr (st q.1 q.2).blk) ∧
   ∃ mv,Win.WinI w' (st q.1 q.2).blk q.2 t (Win.trim q.2 t (st q.1 q.2).kept) mv∧mv.ownBlock=(st q.1 q.2).row.ownBlock∧KeepX (Mine (st q.1 q.2)) w w':=by
 obtain⟨F,hF,hF2⟩:=h.outer
 have hlo:=hF.lookup zH5 Tryz.underlying124 Tryz.underlying9 Tryz.zeroInner q.1
 rw[(hF2 q.1).1 ⟨q.2,hq⟩,Option.getD_some] at hlo
 obtain⟨G,hG,hG2⟩:=h.inner q hq
 have hli:=hG.lookup i64Key Tryz.underlying191 Tryz.underlying2 Tryz.zeroWin q.2
 rw[(hG2 q.2).1 hq,Option.getD_some] at hli
 have hg:=h.good q hq
 have hadv:=Win.advanceI (h.win q hq) t ht hle (fun x hx=>Int.le_trans (hg.2.2 x hx) hle)
 generalize st q.1 q.2=S at *
 clear h hq hg hF hF2 hG hG2
 go_enter Tryz.func101,Tryz.ntmps101
 go_wp2_with fail
 refine hadv.mono ?_
 rintro e w2 ⟨rfl,mv,h1,h2,h3⟩
 have HH:Hid _:=And.intro h1 (And.intro h2 h3)
 clear h1 h2 h3 hadv
 go_wp2
 go_ret
 exact⟨rfl,mv,HH.out.1,HH.out.2.1,⟨HH.out.2.2.os,HH.out.2.2.tape,HH.out.2.2.output,HH.out.2.2.size,HH.out.2.2.block⟩⟩
end Go.Proofs.YtbokdbaagacnlaaGreatDoor
