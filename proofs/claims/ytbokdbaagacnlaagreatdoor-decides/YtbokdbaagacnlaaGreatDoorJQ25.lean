import Derived.Test.YtbokdbaagacnlaaGreatDoorJQ24
import Derived.Deep.RegionLaw
import Derived.Shelf.Abstract
namespace Go.Proofs.YtbokdbaagacnlaaGreatDoor.Win
open Go.RowKit Go.Lib
abbrev WinI := Win (α:=Int) (Value.int .i64) 247 313
set_option maxRecDepth 1000000 in
theorem reachesI {w:World}{R:Nat}{wid tm:Int}{k:List (Int × Int)}{mv:Value}(h:WinI w R wid tm k mv)(t:Int)(v:Int)(ht:I64 t)(hle:t≤tm):
  Calls Tryz.prog 195 #[.pointer (some ⟨R,0,none⟩),.agg #[.int .i64 t,(Value.int .i64) v]] w fun e w'=>e=.returned (.bool (inW wid tm t))∧Below w.heap.size w w':=by
 have c0:=zA0 (i:=0) h.blk rfl
 have c1:=zA0 (i:=1) h.blk rfl
 have h1:=h.wid64
 have h2:=h.tm64
 unfold I64 at *
 have a0:∀ o,(w.alloc o).cell? ⟨R,0,none⟩=some (.int .i64 wid):=cell_past c0
 have a1:∀ o,(w.alloc o).cell? ⟨R,1,none⟩=some (.int .i64 tm):=cell_past c1
 have n0:(w.alloc (.cells #[.int .i64 t,(Value.int .i64) v] 313)).cell? ⟨w.heap.size,0,none⟩=some (.int .i64 t):=zA0 (block_new _ _ _) rfl
 clear h
 go_enter Tryz.func195,Tryz.ntmps195
 go_wp2_with fail
 go_quiet (fail)
 go_wp2
 ·go_ret
  refine⟨?_,below_drewN ((Below.refl _ _).alloc (Nat.le_refl _) _) nq⟩
  have hk:IntKind.u64.wrap (IntKind.u64.wrap tm - IntKind.u64.wrap t)=tm - t:=by
   simp only[IntKind.wrap_u64]
   omega
  show Ending.returned (.bool (decide (IntKind.u64.wrap (IntKind.u64.wrap tm - IntKind.u64.wrap t)<wid)))=_
  have hw:0<wid:=by assumption
  rw[hk,inW,decide_eq_true hw,Bool.true_and]
  congr 2
  exact decide_eq_decide.2 (by omega)
 ·go_ret
  refine⟨?_,below_drewN ((Below.refl _ _).alloc (Nat.le_refl _) _) nq⟩
  have hw:¬ 0<wid:=by omega
  show Ending.returned (.bool false)=_
  rw[inW,decide_eq_false hw,Bool.false_and]
theorem zMJ : (Tryz.prog.info? 313).map (fun i=>(i.zero,i.size,i.bytes))=some (some (.agg #[.int .i64 0,(Value.int .i64) 0]),2,16):=by kernel_rfl
theorem zerosI (n:Nat):(Builtin.zeroCells (Value.agg #[.int .i64 0,(Value.int .i64) 0]).cells n).toList.length=n * 2∧∀ v∈(Builtin.zeroCells (Value.agg #[.int .i64 0,(Value.int .i64) 0]).cells n).toList,v.oneCell'=true:=by
 have e:(Value.agg #[.int .i64 0,(Value.int .i64) 0]).cells=#[.int .i64 0,(Value.int .i64) 0]:=rfl
 rw[e]
 refine⟨by simp[Builtin.zeroCells],fun v hv=>?_⟩
 simp only[Builtin.zeroCells,Array.toList_map,List.mem_map] at hv
 obtain⟨i,-,rfl⟩:=hv
 have:i % 2=0∨i % 2=1:=by omega
 show (#[Value.int .i64 0,(Value.int .i64) 0][i % 2]!).oneCell'=true
 rcases this with h | h <;> rw[h] <;> rfl
set_option maxHeartbeats 4000000 in
set_option maxRecDepth 1000000 in
theorem deleteI {w:World}{mv:Value}{k:List (Int × Int)}(own:w.ownsRow 0 313 2 mv k.length (sCells (Value.int .i64) k))(hl:k.length≤17)(left:Nat)(hle:left≤k.length):
  Calls Tryz.prog 196 #[mv,.int .i64 0,.int .i64 left] w fun e w'=>
   ∃ mv',e=.returned mv'∧w'.ownsRow 0 313 2 mv' (k.drop left).length (sCells (Value.int .i64) (k.drop left))∧mv'.ownBlock=mv.ownBlock∧Only (fun b=>mv.ownBlock=some b) w w':=by
 by_cases h0:left=0
 ·subst h0
  have OWN:Hid (w.ownsRow 0 313 2 mv k.length (sCells (Value.int .i64) k)):=own
  rcases own.2 with⟨rfl,h⟩ | ⟨g,cap,cur,rfl,-,-,hnc,hcm,-⟩
  ·clear own
   go_enter Tryz.func196,Tryz.ntmps196
   go_wp2
   go_ret
   exact⟨_,rfl,by simpa using OWN.out,rfl,.refl _ _⟩
  ·clear own
   unfold maxLen at hcm
   generalize hn:k.length=n at *
   go_enter Tryz.func196,Tryz.ntmps196
   go_wp2
   go_ret
   exact⟨_,rfl,by simpa[hn] using OWN.out,rfl,.refl _ _⟩
 ·have hz:=zerosI
  obtain⟨i0,hi0,hz0,hz1,hz2⟩:=info_parts zMJ
  rcases own.2 with⟨rfl,h⟩ | ⟨g,cap,cur,rfl,-,hg,hnc,hcm,hcs,htake⟩
  ·omega
  unfold maxLen at hcm
  have hln:(sCells (Value.int .i64) k).length=k.length * 2:=zCG _ _
  obtain⟨news,hnews⟩:∃ news,news=sCells (Value.int .i64) (k.drop left):=⟨_,rfl⟩
  have hlen:news.length=(k.length - left) * 2:=by rw[hnews,zCG,List.length_drop]
  have hcc:∀ j,j<k.length * 2→w.cell? ⟨g,j,none⟩=(sCells (Value.int .i64) k)[j]?:=by
   intro j hj
   have e:(sCells (Value.int .i64) k)[j]?=cur[j]?:=by rw[←htake,List.getElem?_take,if_pos hj];simp
   rw[e]
   simp[World.cell?,hg]
  obtain⟨A,hA,hsrc⟩:∃ A:Addr,(if cap=left then some (⟨g,0,none⟩:Addr) else some ⟨g,left * 2,none⟩)=some A∧Hid (∀ t u,news[t]?=some u→w.drew.cell? (A.add t)=some u):=by
   by_cases h:cap=left
   ·refine⟨⟨g,0,none⟩,by simp[h],fun t u hu=>?_⟩
    have h0:news.length=0:=by rw[hlen];omega
    rw[List.length_eq_zero_iff.1 h0] at hu
    simp at hu
   ·refine⟨⟨g,left * 2,none⟩,by simp[h],fun t u hu=>?_⟩
    have ht:t<(k.length - left) * 2:=by
     have:=(List.getElem?_eq_some_iff.1 hu).1
     rwa [hlen] at this
    rw[Addr.add_lit]
    have:=hcc (left * 2+t) (by omega)
    rw[hnews,zJP,List.getElem?_drop] at hu
    exact this.trans hu
  have s1:Hid (news.length=(k.length - left) * 2):=hlen
  have s2:Hid (∀ u∈news,u.oneCell'=true):=by rw[hnews];exact zHQ _ (fun _=>rfl) _
  have s3:Hid (∀ t,t<news.length→(w.drew.cell? ⟨g,0+0 * 2+t,none⟩).isSome=true∧w.drew.frozen? ⟨g,0+0 * 2+t,none⟩=false):=by
   intro t ht
   rw[hlen] at ht
   rw[Nat.zero_mul,Nat.zero_add]
   refine⟨?_,zA1 (w:=w.drew) hg⟩
   show (w.cell? _).isSome=true
   rw[hcc t (by omega),List.getElem?_eq_getElem (by rw[hln];omega)]
   rfl
  obtain⟨W1,hW1⟩:∃ W1,W1=w.drew.setCells g (0+0 * 2) news:=⟨_,rfl⟩
  have hW:Hid (W1=w.drew.setCells g (0+0 * 2) news):=hW1
  have hzl:=(hz (k.length - (k.length - left))).1
  obtain⟨cs1,b1,z1,t1⟩:=zFL news 0 w.drew cur hg (by rw[hlen,hcs];omega)
  have B1:W1.heap[g]?=some (.cells cs1 313 (0,0)):=by rw[hW1];exact b1
  have hcl:∀ ty,(Builtin.clear_ #[245] ty #[.slice (some ⟨g,(k.length - left) * 2,none⟩) (k.length - (k.length - left)) (cap - (k.length - left))]).run Tryz.prog W1=_:=fun ty=>
   zM2 W1 _ 313 ty (.agg #[.int .i64 0,(Value.int .i64) 0]) Tryz.underlying245 Tryz.zeroValue313 g _ _ _ (by omega)
    (fun j hj=>by rw[hzl] at hj;simp only[World.cell?,B1];rw[Array.getElem?_eq_getElem (by rw[z1,hcs];omega)];rfl) (fun j hj=>zA1 B1) (hz _).2
  obtain⟨W2,hW2⟩:∃ W2,W2=W1.setCells g ((k.length - left) * 2) (Builtin.zeroCells (Value.agg #[.int .i64 0,(Value.int .i64) 0]).cells (k.length - (k.length - left))).toList:=⟨_,rfl⟩
  rw[←hW2] at hcl
  obtain⟨cs2,b2,z2,t2⟩:=zFL (Builtin.zeroCells (Value.agg #[.int .i64 0,(Value.int .i64) 0]).cells (k.length - (k.length - left))).toList ((k.length - left) * 2) W1 cs1 B1 (by rw[hzl,z1,hcs];omega)
  rw[←hW2] at b2
  have RES:Hid (W2.ownsRow 0 313 2 (.slice (some ⟨g,0,none⟩) (k.length - left) cap) (k.drop left).length (sCells (Value.int .i64) (k.drop left))∧Only (fun b=>(Value.slice (some ⟨g,0,none⟩) k.length cap).ownBlock=some b) w W2):=by
   refine⟨⟨zCG _ _,.inr ⟨g,cap,cs2,by rw[List.length_drop],Nat.zero_le _,b2,by rw[List.length_drop];omega,by unfold maxLen;omega,by rw[z2,z1,hcs],?_⟩⟩,?_⟩
   ·rw[t2,t1,List.length_drop,←hnews]
    simp only[List.take_zero,List.nil_append]
    rw[List.take_append_of_le_length (by simp;omega),List.take_append_of_le_length (by simp;omega),List.take_take,Nat.min_self,List.take_append_of_le_length (by omega),List.take_of_length_le (by omega)]
   ·rw[hW2,hW1]
    exact Only.setCells (P:=fun b=>(Value.slice (some ⟨g,0,none⟩) k.length cap).ownBlock=some b) (g:=g) (fun _=>rfl) _ _ _ (Only.setCells (P:=fun b=>(Value.slice (some ⟨g,0,none⟩) k.length cap).ownBlock=some b) (g:=g) (fun _=>rfl) _ _ _ (Only.refl _ w).drew)
  have hic:0≤cap:=by omega
  have hjc:left≤cap:=by omega
  generalize hkn:k.length=n at *
  clear hW1 hcc hnews hlen hg htake own hln hz b1 t1 B1 hW2 hzl b2 z2 t2
  go_enter Tryz.func196,Tryz.ntmps196
  go_wp2_with fail
  go_region_law (refine step_append_room rfl (.tmp 22) (.tmp 25) 245 rfl 313 i0 2 Tryz.underlying245 hi0 hz1 g 0 0 cap (by simp[Act.eval,Act.put]) A (n - left) (cap - left) news (by simp[Act.eval,Act.put]) s1.out hsrc.out s2.out (by omega) s3.out ?_;rw[←hW.out])
  go_wp2
  go_ret
  exact⟨_,rfl,RES.out.1,rfl,RES.out.2⟩
theorem cutI {W w2 w3:World}{R:Nat}{wid t:Int}{k:List (Int × Int)}{mv mv':Value}{i:Nat}(h:WinI W R wid t k mv)(hb:Below W.heap.size W w2)(hown:w3.ownsRow 0 313 2 mv' (k.drop i).length (sCells (Value.int .i64) (k.drop i)))(he:mv'.ownBlock=mv.ownBlock)(ho:Only (fun b=>mv.ownBlock=some b) w2 w3):
  WinI (w3.setCell ⟨R,2,none⟩ mv') R wid t (k.drop i) mv'∧Only (Mine R mv) W (w3.setCell ⟨R,2,none⟩ mv'):=by
 have h2:=h.below hb
 have hne:=row_ne h2.blk h2.own (by decide)
 have b3:=ho.heap h2.blk hne
 refine⟨⟨zA4 (i:=2) (v:=mv') b3,?_,h.wid64,h.tm64,fun x hx=>h.times x (List.mem_of_mem_drop hx),by rw[List.length_drop];have:=h.len;omega⟩,?_⟩
 ·exact((Only.refl (fun b=>b=R) w3).setCell (a:=⟨R,2,none⟩) (fun _=>rfl) mv').owns hown (fun g hg e=>by subst e;exact hne (he ▸ hg))
 ·exact(((Only.of_below hb).trans ho (fun b _ q=>.inr q)).setCell (a:=⟨R,2,none⟩) (fun _=>.inl rfl) mv')
set_option maxRecDepth 1000000 in
set_option maxHeartbeats 1000000 in
theorem advanceI {w:World}{R:Nat}{wid tm:Int}{k:List (Int × Int)}{mv:Value}(h:WinI w R wid tm k mv)(t:Int)(ht:I64 t)(hle:tm≤t)(hts:∀ x∈k,x.1≤t):
  Calls Tryz.prog 147 #[.pointer (some ⟨R,0,none⟩),.int .i64 t] w fun e w'=>e=.returned (.bool true)∧∃ mv',WinI w' R wid t (trim wid t k) mv'∧mv'.ownBlock=mv.ownBlock∧Only (Mine R mv) w w':=by
 have b0:=h.blk
 have c1:=zA0 (i:=1) b0 rfl
 have c2:=zA0 (i:=2) b0 rfl
 have f1:=zA1 (i:=1) b0
 obtain⟨ao,cp,rfl⟩:=owns_slice h.own
 have hlt:¬ t<tm:=by omega
 have hkl:=h.len
 -- the window at its new time
 have b1:(w.setCell ⟨R,1,none⟩ (.int .i64 t)).heap[R]?=some (.cells #[.int .i64 wid,.int .i64 t,.slice ao k.length cp] 247 (0,0)):=zA4 (i:=1) (v:=.int .i64 t) b0
 have o1:(w.setCell ⟨R,1,none⟩ (.int .i64 t)).ownsRow 0 313 2 (.slice ao k.length cp) k.length (sCells (Value.int .i64) k):=
  ((Only.refl (fun b=>b=R) w).setCell (a:=⟨R,1,none⟩) (fun _=>rfl) (.int .i64 t)).owns h.own (fun g hg e=>by subst e;exact row_ne b0 h.own (by decide) hg)
 have H1:Hid (WinI (w.setCell ⟨R,1,none⟩ (.int .i64 t)) R wid t k (.slice ao k.length cp)):=⟨b1,o1,h.wid64,ht,h.times,h.len⟩
 have HTS:Hid (∀ x∈k,x.1≤t):=hts
 clear hts
 have d2:=zA0 (i:=2) b1 rfl
 obtain⟨W,hW⟩:∃ W,W=w.setCell ⟨R,1,none⟩ (.int .i64 t):=⟨_,rfl⟩
 rw[←hW] at b1 o1 H1 d2
 have HO:Hid (Only (Mine R (.slice ao k.length cp)) w W):=by rw[hW];exact(Only.refl _ w).setCell (a:=⟨R,1,none⟩) (fun _=>.inl rfl) _
 clear o1 h b0
 generalize hkn:k.length=n at *
 go_enter Tryz.func147,Tryz.ntmps147
 go_wp2_with fail
 all_goals
  rw[←hW]
  go_loopw [5] (fun v wr=>∃ i:Nat,v=.int .i64 i∧n - 16≤i∧i≤n∧Hid (∀ j,n - 16≤j→j<i→∀ x,k[j]?=some x→inW wid t x.1=false)∧Hid (Below W.heap.size W wr)) (fun v _=>n - (intOf v).toNat)
  case atStart=>exact⟨n - 16,by congr 1;omega,Nat.le_refl _,by omega,fun j h1 h2=>by omega,Below.refl _ _⟩
  case round=>
   obtain⟨i,rfl,hi1,hi2,HN,HB⟩:=hrel
   have H2:Hid (WinI wr R wid t k (.slice ao n cp)):=H1.out.below HB.out
   have e2:wr.cell? ⟨R,2,none⟩=some (.slice ao n cp):=zA0 (i:=2) H2.out.blk rfl
   have hdl:∀ w2,Below wr.heap.size wr w2→Calls Tryz.prog 196 #[.slice ao n cp,.int .i64 0,.int .i64 i] w2 _:=fun w2 hb2=>deleteI (by rw[←hkn] at H2 ⊢;exact(H2.out.below hb2).own) (by omega) i (by omega)
   have HDL:Hid _:=hdl
   rcases Nat.lt_or_ge i n with hlt2 | hge
   ·obtain⟨x,hx⟩:∃ x,k[i]?=some x:=⟨k[i],List.getElem?_eq_getElem (by omega)⟩
    obtain⟨g,cp',he,q1,q2⟩:=H2.out.cells hx
    injection he with he1 he2 he3
    subst he1
    have htm:=And.intro (H2.out.times x (List.mem_of_getElem? hx)) (HTS.out x (List.mem_of_getElem? hx))
    have hre:=reachesI H2.out x.1 x.2 htm.1 htm.2
    obtain⟨x1,x2⟩:=x
    dsimp only at q1 q2 hre
    clear he2 he3 c1 c2 d2 b1 f1
    have hlt3:(i:Int)<n:=by omega
    have HX:Hid (k[i]?=some (x1,x2)):=hx
    clear hx htm
    cases hin:inW wid t x1 with
    | true=>
     rw[hin] at hre
     have HI:Hid (∀ x,k[i]?=some x→inW wid t x.1=true):=fun x hx=>by rw[HX.out] at hx;injection hx with hx;subst hx;exact hin
     clear hin hdl
     go_wp2_with fail
     refine hre.mono ?_
     rintro e w2 ⟨rfl,hb2⟩
     have HB2:Hid (Below wr.heap.size wr w2):=hb2
     clear hre q1 q2 e2 hb2
     have hdl:=HDL.out w2 HB2.out
     have e3:w2.cell? ⟨R,2,none⟩=some (.slice (some ⟨g,0,none⟩) n cp):=zA0 (H2.out.below HB2.out).blk rfl
     go_wp2_with fail
     refine hdl.mono ?_
     rintro e w3 ⟨mv',rfl,hown,he,ho⟩
     have hQ:=cutI H1.out (HB.out.trans (HB2.out.mono HB.out.size)) hown he ho
     have h3:=ho.heap (H2.out.below HB2.out).blk (row_ne (H2.out.below HB2.out).blk (H2.out.below HB2.out).own (by decide))
     have m3:=zA0 (i:=2) h3 rfl
     have f3:=zA1 (i:=2) h3
     obtain⟨ao',cp'',rfl⟩:=owns_slice hown
     generalize (k.drop i).length=m at *
     have HQ:Hid _:=hQ
     have HE:Hid _:=he
     clear hQ he ho hown h3 hdl e3
     go_wp2
     go_ret
     rw[trim_at (by omega) (by omega) (by rw[hkn];exact HN.out) HI.out]
     exact⟨rfl,_,HQ.out.1,HE.out,HO.out.trans HQ.out.2 (fun b _ q=>q)⟩
    | false=>
     rw[hin] at hre
     have HN2:Hid (∀ j,n - 16≤j→j<i+1→∀ x,k[j]?=some x→inW wid t x.1=false):=fun j h1 h2 x hx=>by
      rcases Nat.lt_or_ge j i with h3 | h3
      ·exact HN.out j h1 h3 x hx
      ·obtain rfl:j=i:=by omega
       rw[HX.out] at hx
       injection hx with hx
       subst hx
       exact hin
     clear hin hdl HDL
     go_wp2_with fail
     refine hre.mono ?_
     rintro e w2 ⟨rfl,hb2⟩
     have HB2:Hid (Below W.heap.size W w2):=HB.out.trans (hb2.mono HB.out.size)
     clear hre q1 q2 e2 hb2
     go_wp2
     go_roundw
     case rel=>exact⟨i+1,by go_num,by omega,by omega,HN2,HB2⟩
     case measure=>simp[intOf];omega
   ·have HI:Hid (∀ x,k[i]?=some x→inW wid t x.1=true):=fun x hx=>by rw[List.getElem?_eq_none (by omega)] at hx;cases hx
    obtain⟨w2,hw2⟩:∃ w2,w2=wr:=⟨_,rfl⟩
    have HB2:Hid (Below wr.heap.size wr w2):=by rw[hw2];exact Below.refl _ _
    have hge2:¬ (i:Int)<n:=by omega
    rw[←hw2]
    rw[←hw2] at e2
    clear hdl c1 c2 d2 b1 f1 hw2
    have hdl:=HDL.out w2 HB2.out
    have e3:w2.cell? ⟨R,2,none⟩=some (.slice ao n cp):=zA0 (H2.out.below HB2.out).blk rfl
    go_wp2_with fail
    refine hdl.mono ?_
    rintro e w3 ⟨mv',rfl,hown,he,ho⟩
    have hQ:=cutI H1.out (HB.out.trans (HB2.out.mono HB.out.size)) hown he ho
    have h3:=ho.heap (H2.out.below HB2.out).blk (row_ne (H2.out.below HB2.out).blk (H2.out.below HB2.out).own (by decide))
    have m3:=zA0 (i:=2) h3 rfl
    have f3:=zA1 (i:=2) h3
    obtain⟨ao',cp'',rfl⟩:=owns_slice hown
    generalize (k.drop i).length=m at *
    have HQ:Hid _:=hQ
    have HE:Hid _:=he
    clear hQ he ho hown h3 hdl e3
    go_wp2
    go_ret
    rw[trim_at (by omega) (by omega) (by rw[hkn];exact HN.out) HI.out]
    exact⟨rfl,_,HQ.out.1,HE.out,HO.out.trans HQ.out.2 (fun b _ q=>q)⟩
set_option maxRecDepth 1000000 in
theorem lenI {w:World}{R:Nat}{wid tm:Int}{k:List (Int × Int)}{mv:Value}(h:WinI w R wid tm k mv):
  Calls Tryz.prog 141 #[.pointer (some ⟨R,0,none⟩)] w fun e w'=>e=.returned (.int .i64 k.length)∧w'=w:=by
 obtain⟨ao,cp,rfl⟩:=owns_slice h.own
 have c2:=zA0 (i:=2) h.blk rfl
 clear h
 go_enter Tryz.func141,Tryz.ntmps141
 go_wp2
 go_ret
 exact⟨rfl,rfl⟩
set_option maxRecDepth 1000000 in
theorem newI (w:World)(wid:Int)(hw:I64 wid):
  Calls Tryz.prog 85 #[.int .i64 wid] w fun e w'=>e=.returned (.pointer (some ⟨w.heap.size,0,none⟩))∧Below w.heap.size w w'∧w'.heap.size=w.heap.size+1∧WinI w' w.heap.size wid (-9223372036854775808) [] (.slice none 0 0):=by
 go_enter Tryz.func85,Tryz.ntmps85
 go_wp2
 go_ret
 exact⟨rfl,(Below.refl _ _).alloc (Nat.le_refl _) _,by simp,block_new _ _ _,World.ownsRow_nil _ _ _ _,hw,by unfold I64;omega,by simp,by simp⟩
theorem pushedI {w w5:World}{R:Nat}{wid tm:Int}{k:List (Int × Int)}{mv v':Value}{t:Int}{v:Int}(h:WinI w R wid tm k mv)(h16:k.length≤16)(ht:I64 t){o:Obj}(hown:w5.ownsRow 0 313 2 v' (k.length+1) (sCells (Value.int .i64) k ++ [.int .i64 t,(Value.int .i64) v]))(hg:(w.alloc o).grownBy w5 mv.ownBlock):
  WinI (w5.setCell ⟨R,2,none⟩ v') R wid tm (k ++ [(t,v)]) v'∧Only (Mine R mv) w (w5.setCell ⟨R,2,none⟩ v'):=by
 have hne:=row_ne h.blk h.own (by decide)
 have b5:w5.heap[R]?=some (.cells #[.int .i64 wid,.int .i64 tm,mv] 247 (0,0)):=(hg.block R (by simp;have:=zA2 h.blk;omega) (fun e=>hne e.symm)).trans (zA3 h.blk)
 have hne5:=row_ne b5 hown (by decide)
 refine⟨⟨zA4 (i:=2) (v:=v') b5,?_,h.wid64,h.tm64,?_,by simp;omega⟩,?_⟩
 ·have:=((Only.refl (fun b=>b=R) w5).setCell (a:=⟨R,2,none⟩) (fun _=>rfl) v').owns hown (fun g hg e=>by subst e;exact hne5 hg)
  rw[sCells_append]
  simpa[sCells] using this
 ·intro x hx
  rcases List.mem_append.1 hx with hx | hx
  ·exact h.times x hx
  ·rw[List.mem_singleton.1 hx];exact ht
 ·exact(((Only.refl _ w).alloc o).grown hg (fun b _ e=>.inr e)).setCell (a:=⟨R,2,none⟩) (fun _=>.inl rfl) v'
set_option maxRecDepth 1000000 in
set_option maxHeartbeats 1000000 in
theorem pushI {w:World}{R:Nat}{wid tm:Int}{k:List (Int × Int)}{mv:Value}(h:WinI w R wid tm k mv)(h16:k.length≤16)(t:Int)(v:Int)(ht:I64 t)(hle:tm≤t)(hts:∀ x∈k,x.1≤t):
  Calls Tryz.prog 104 #[.pointer (some ⟨R,0,none⟩),.int .i64 t,(Value.int .i64) v] w fun e w'=>e=.returned (.bool true)∧∃ mv',WinI w' R wid t (trim wid t (k ++ [(t,v)])) mv'∧(mv'.ownBlock=mv.ownBlock∨∃ g,mv'.ownBlock=some g∧w.heap.size≤g)∧Only (Mine R mv) w w':=by
 obtain⟨i0,hi0,hz0,hz1,hz2⟩:=info_parts zMJ
 obtain⟨ao,cp,rfl⟩:=owns_slice h.own
 have c1:=zA0 (i:=1) h.blk rfl
 have c2:=zA0 (i:=2) h.blk rfl
 have hlt:¬ t<tm:=by omega
 have H:Hid (WinI w R wid tm k (.slice ao k.length cp)):=h
 have HTS:Hid (∀ x∈k,x.1≤t):=hts
 clear hts h
 go_enter Tryz.func104,Tryz.ntmps104
 go_wp2_with (first | (at_builtin; refine zAA _ rfl _ _ 245 rfl 0 313 i0 (.agg #[.int .i64 0, (Value.int .i64) 0]) 2 16 Tryz.underlying245 hi0 hz0 hz1 hz2 rfl (by decide) (.slice ao k.length cp) k.length (sCells (Value.int .i64) k) rfl (H.out.own.alloc _) ⟨w.heap.size, 0, none⟩ 1 1 [.int .i64 t, (Value.int .i64) v] rfl rfl (cells_two_new _ _ _ _) (two_one rfl rfl) (by unfold maxLen; omega) (by omega) (by omega) (by decide) ?_; intro v' w5 hown hgrow hnil
                       have hQ:=pushedI H.out h16 ht hown hgrow
                       have hne:=row_ne H.out.blk H.out.own (by decide)
                       have b5:w5.heap[R]?=some (.cells #[.int .i64 wid,.int .i64 tm,.slice ao k.length cp] 247 (0,0)):=(hgrow.block R (by simp;have:=zA2 H.out.blk;omega) (fun e=>hne e.symm)).trans (zA3 H.out.blk)
                       have m5:=zA0 (i:=2) b5 rfl
                       have f5:=zA1 (i:=2) b5
                       obtain⟨ao2,cp2,rfl⟩:=owns_slice hown
                       have had:=advanceI hQ.1 t ht hle (fun x hx=>by rcases List.mem_append.1 hx with hx | hx;exact HTS.out x hx;rw[List.mem_singleton.1 hx];exact Int.le_refl _)
                       have HQ:Hid _:=hQ
                       have HNIL:Hid _:=hnil
                       clear hQ hown hgrow hnil b5 hne))
 refine had.mono ?_
 rintro e w6 ⟨rfl,mv',hw,he,ho⟩
 have HR:Hid _:=And.intro hw (And.intro he ho)
 clear hw he ho had
 go_wp2
 go_ret
 refine⟨rfl,mv',HR.out.1,?_,?_⟩
 ·rw[HR.out.2.1]
  rcases HNIL.out with h | h
  ·exact .inl h
  ·exact .inr ⟨_,h,by simp⟩
 ·refine HQ.out.2.trans HR.out.2.2 fun b hb q=>?_
  rcases q with q | q
  ·exact .inl q
  ·rcases HNIL.out with h | h
   ·exact .inr (h ▸ q)
   ·rw[h] at q
    injection q with q
    simp at q
    omega
end Go.Proofs.YtbokdbaagacnlaaGreatDoor.Win
namespace Go.Proofs.YtbokdbaagacnlaaGreatDoor.Win
open Go.RowKit Go.Lib Go.Shelf
def lessI (a b:Int):Bool:=decide (a<b)
set_option maxRecDepth 1000000 in
theorem clessI (a b:Int)(w:World):Calls Tryz.prog 192 #[(Value.int .i64) a,(Value.int .i64) b] w fun e w'=>e=.returned (.bool (lessI a b))∧w'=w:=by
 unfold lessI
 go_enter Tryz.func192,Tryz.ntmps192
 go_wp2
 all_goals go_ret
 all_goals exact⟨rfl,rfl⟩
set_option maxRecDepth 1000000 in
theorem cmostI (a b:Int)(w:World):Calls Tryz.prog 193 #[(Value.int .i64) a,(Value.int .i64) b] w fun e w'=>e=.returned (.bool (lessI b a))∧w'=w:=by
 have h:=clessI b a w
 generalize lessI b a=B at *
 go_enter Tryz.func193,Tryz.ntmps193
 go_wp2_with fail
 refine h.mono ?_
 rintro e w' ⟨rfl,hw⟩
 have hw:=hw.symm
 subst hw
 clear h
 go_wp2
 go_ret
 exact⟨rfl,rfl⟩
def foreEndI (o:Option Int):Ending:=match o with | none=>.returned (.tuple #[(Value.int .i64) 0,.bool false]) | some a=>.returned (.tuple #[(Value.int .i64) a,.bool true])
set_option maxRecDepth 1000000 in
set_option maxHeartbeats 1000000 in
theorem zO3 {w:World}{R:Nat}{wid tm:Int}{k:List (Int × Int)}{mv:Value}(h:WinI w R wid tm k mv)(f:Nat)(ef:∀ args W,(callFunc f args).run Tryz.prog W=.ok (.enter f args) W)(ahead:Int→Int→Bool)(hf:∀ a b w,Calls Tryz.prog f #[(Value.int .i64) a,(Value.int .i64) b] w fun e w'=>e=.returned (.bool (ahead a b))∧w'=w):
  Calls Tryz.prog 191 #[.pointer (some ⟨R,0,none⟩),.func (.func f) #[] #[]] w fun e w'=>e=foreEndI (foremost ahead (k.map (·.2)))∧Below w.heap.size w w':=by
 obtain⟨ao,cp,rfl⟩:=owns_slice h.own
 have c2:w.cell? ⟨R,2,none⟩=some (.slice ao k.length cp):=zA0 (i:=2) h.blk rfl
 have H:Hid (WinI w R wid tm k (.slice ao k.length cp)):=h
 cases k with
 | nil=>
  clear h
  go_enter Tryz.func191,Tryz.ntmps191
  go_wp2
  go_ret2
  exact⟨rfl,Below.refl _ _⟩
 | cons x0 l=>
  obtain⟨g,cp',he,q1,q2⟩:=h.cells (i:=0) (x:=x0) rfl
  injection he with he1 he2 he3
  subst he1
  rw[Nat.zero_mul] at q2
  have hl:l.length+1≤17:=h.len
  have HF:Hid (∀ a b w,Calls Tryz.prog f #[(Value.int .i64) a,(Value.int .i64) b] w fun e w'=>e=.returned (.bool (ahead a b))∧w'=w):=hf
  clear h he2 he3 q1 hf
  have hlc:l.length+1≤cp:=by
   rcases H.out.own.2 with⟨-,h0⟩ | ⟨g,cap,cur,he,-,-,hnc,-⟩
   ·simp at h0
   ·injection he with _ _ he;subst he;simpa using hnc
  have hcm:cp≤9223372036854775807:=by
   rcases H.out.own.2 with⟨-,h0⟩ | ⟨g,cap,cur,he,-,-,-,hcm,-⟩
   ·simp at h0
   ·injection he with _ _ he;subst he;unfold maxLen at hcm;omega
  rw[List.length_cons] at c2
  generalize hn:l.length=n at *
  have hnz:(((n:Int)+1) == 0)=false:=beq_eq_false_iff_ne.2 (by omega)
  by_cases hc1:cp=1
  ·have h0:n=0:=by omega
   subst h0
   subst hc1
   obtain rfl:l=[]:=List.length_eq_zero_iff.1 hn
   go_enter Tryz.func191,Tryz.ntmps191
   go_wp2_with fail
   refine wp_loop_rounds 1 ?_
   rw[rounds_succ]
   go_wp2
   go_ret2
   exact⟨rfl,Below.refl _ _⟩
  ·go_enter Tryz.func191,Tryz.ntmps191
   go_wp2_with fail
   go_loopw [7,30] (fun v7 v30 wr=>∃ i:Nat,v30=.int .i64 i∧i≤n∧v7=(Value.int .i64) (((l.take i).map (·.2)).foldl (fun f x=>if ahead x f=true then x else f) x0.2)∧Hid (Below w.heap.size w wr)) (fun _ v30 _=>n - (intOf v30).toNat)
   case atStart=>exact⟨0,rfl,Nat.zero_le _,rfl,Below.refl _ _⟩
   case round=>
    obtain⟨i,rfl,hi,rfl,HB⟩:=hrel
    rcases Nat.lt_or_ge i n with hlt | hge
    ·obtain⟨x,hx⟩:∃ x,l[i]?=some x:=⟨l[i],List.getElem?_eq_getElem (by omega)⟩
     obtain⟨g',cp',he,r1,r2⟩:=(H.out.below HB.out).cells (i:=i+1) (x:=x) (by simpa using hx)
     injection he with he1 he2 he3
     injection he1 with he1
     injection he1 with he1
     subst he1
     clear he2 he3
     rw[show (i+1) * 2=2+i * 2 by omega] at r1 r2
     have ht:(l.take (i+1)).map (·.2)=(l.take i).map (·.2) ++ [x.2]:=by
      rw[List.take_add_one,hx]
      simp
     have HT:Hid ((l.take (i+1)).map (·.2)=(l.take i).map (·.2) ++ [x.2]):=ht
     clear ht
     obtain⟨x1,x2⟩:=x
     dsimp only at r1 r2
     obtain⟨y,hy⟩:∃ y,((l.take i).map (·.2)).foldl (fun f x=>if ahead x f=true then x else f) x0.2=y:=⟨_,rfl⟩
     have HY:Hid (((l.take i).map (·.2)).foldl (fun f x=>if ahead x f=true then x else f) x0.2=y):=hy
     rw[hy]
     clear hy
     have hlt2:(i:Int)<n:=by omega
     have hca:=HF.out x2 y
     go_wp2_with fail
     refine(hca _).mono ?_
     rintro e w2 ⟨rfl,hw2⟩
     have HB2:Hid (Below w.heap.size w w2):=by rw[hw2];exact HB.out.alloc HB.out.size _
     have n1:w2.cell? ⟨wr.heap.size,1,none⟩=some ((Value.int .i64) x2):=by rw[hw2];exact zA0 (block_new _ _ _) rfl
     clear hw2 hca r1 r2
     cases hah:ahead x2 y with
     | true=>
      have HAH:Hid (ahead x2 y=true):=hah
      clear hah
      go_wp2
      go_roundw
      case rel=>exact⟨i+1,by go_num,by omega,by rw[HT.out,List.foldl_append,HY.out];simp[HAH.out],HB2⟩
      case measure=>simp[intOf];omega
     | false=>
      have HAH:Hid (ahead x2 y=false):=hah
      clear hah
      go_wp2
      go_roundw
      case rel=>exact⟨i+1,by go_num,by omega,by rw[HT.out,List.foldl_append,HY.out];simp[HAH.out],HB2⟩
      case measure=>simp[intOf];omega
    ·obtain rfl:i=n:=by omega
     have ht:l.take i=l:=List.take_of_length_le (by omega)
     have HT:Hid (foremost ahead ((x0 :: l).map (·.2))=some (((l.take i).map (·.2)).foldl (fun f x=>if ahead x f=true then x else f) x0.2)):=by rw[ht];rfl
     clear ht
     generalize ((l.take i).map (·.2)).foldl (fun f x=>if ahead x f=true then x else f) x0.2=y at *
     go_wp2
     go_ret2
     rw[HT.out]
     exact⟨rfl,HB.out⟩
set_option maxRecDepth 1000000 in
theorem leastI {w:World}{R:Nat}{wid tm:Int}{k:List (Int × Int)}{mv:Value}(h:WinI w R wid tm k mv):
  Calls Tryz.prog 143 #[.pointer (some ⟨R,0,none⟩)] w fun e w'=>e=foreEndI (foremost lessI (k.map (·.2)))∧Below w.heap.size w w':=by
 have hf:=zO3 h 192 (enters_of Tryz.func192 (by kernel_rfl) rfl) lessI clessI
 clear h
 generalize foremost lessI (k.map (·.2))=o at *
 go_enter Tryz.func143,Tryz.ntmps143
 go_wp2_with fail
 refine hf.mono ?_
 rintro e w' ⟨rfl,hb⟩
 have HB:Hid (Below w.heap.size w w'):=hb
 clear hb hf
 cases o <;> (unfold foreEndI;go_wp2;go_ret2;exact⟨rfl,HB.out⟩)
set_option maxRecDepth 1000000 in
theorem mostI {w:World}{R:Nat}{wid tm:Int}{k:List (Int × Int)}{mv:Value}(h:WinI w R wid tm k mv):
  Calls Tryz.prog 144 #[.pointer (some ⟨R,0,none⟩)] w fun e w'=>e=foreEndI (foremost (fun a b=>lessI b a) (k.map (·.2)))∧Below w.heap.size w w':=by
 have hf:=zO3 h 193 (enters_of Tryz.func193 (by kernel_rfl) rfl) (fun a b=>lessI b a) cmostI
 clear h
 generalize foremost (fun a b=>lessI b a) (k.map (·.2))=o at *
 go_enter Tryz.func144,Tryz.ntmps144
 go_wp2_with fail
 refine hf.mono ?_
 rintro e w' ⟨rfl,hb⟩
 have HB:Hid (Below w.heap.size w w'):=hb
 clear hb hf
 cases o <;> (unfold foreEndI;go_wp2;go_ret2;exact⟨rfl,HB.out⟩)
end Go.Proofs.YtbokdbaagacnlaaGreatDoor.Win
