import Derived.Test.YtbokdbaagacnlaaGreatDoorJQ30
namespace Go.Proofs.YtbokdbaagacnlaaGreatDoor
open Go.RowKit Go.Lib
set_option maxRecDepth 1000000 in
set_option maxHeartbeats 1000000 in
theorem zLL {w:World}{b lb:Nat}{gv:Value}(hb:w.heap[b]?=some (.cells #[ptr lb,gv] 150 (0,0))):Calls Tryz.prog 54 #[ptr b] w fun e w'=>e=.returned (.bool false)∧w'=w:=by
 have c0:w.cell? ⟨b,0,none⟩=some (ptr lb):=zA0 hb rfl
 clear hb
 go_enter Tryz.func54,Tryz.ntmps54
 go_wp2
 go_ret
 exact⟨rfl,rfl⟩
set_option maxRecDepth 1000000 in
set_option maxHeartbeats 1000000 in
theorem zQ0 {A:Nat→Addr}{w:World}(hS:Sents A w){b lb:Nat}{gv:Value}(hb:w.heap[b]?=some (.cells #[ptr lb,gv] 150 (0,0))){min max step up down count:Int}(hno:zB7 min max step up down=false∨count<min∨max<count):
  Calls Tryz.prog 34 #[ptr b,.agg #[.int .i64 min,.int .i64 max,.int .i64 step,.int .i64 up,.int .i64 down],.int .i64 count] w fun e w'=>e=.returned (.tuple #[.pointer none,.iface 416 (.pointer (some (A 2)))])∧Below w.heap.size w w':=by
 have hB0:Below w.heap.size w (w.alloc (.cells #[.int .i64 min,.int .i64 max,.int .i64 step,.int .i64 up,.int .i64 down] 99)):=(Below.refl _ _).alloc (Nat.le_refl _) _
 have hem:=zLL ((hB0.block b (zA2 hb)).trans hb)
 have hps:=zHD (w.alloc (.cells #[.int .i64 min,.int .i64 max,.int .i64 step,.int .i64 up,.int .i64 down] 99)) min max step up down
 have g2:=hS.g2
 have HB:Hid _:=And.intro hB0 hS
 clear hB0 hS hb
 go_enter Tryz.func34,Tryz.ntmps34
 go_wp2_with fail
 refine hem.mono ?_
 rintro e w1 ⟨rfl,rfl⟩
 clear hem
 go_wp2_with fail
 refine hps.mono ?_
 rintro e w2 ⟨rfl,hb2⟩
 have d:(w.alloc (.cells #[.int .i64 min,.int .i64 max,.int .i64 step,.int .i64 up,.int .i64 down] 99)).heap[w.heap.size]?=some (.cells #[.int .i64 min,.int .i64 max,.int .i64 step,.int .i64 up,.int .i64 down] 99 (0,0)):=heap_alloc_new _ _
 have d2:=(hb2.block _ (zA2 d)).trans d
 have k0:=zA0 (i:=0) (v:=.int .i64 min) d2 rfl
 have k1:=zA0 (i:=1) (v:=.int .i64 max) d2 rfl
 have hB2:Below w.heap.size w w2:=⟨hb2.os.trans HB.out.1.os,hb2.tape.trans HB.out.1.tape,hb2.output.trans HB.out.1.output,Nat.le_trans HB.out.1.size hb2.size,fun k hk=>(hb2.block k (Nat.lt_of_lt_of_le hk HB.out.1.size)).trans (HB.out.1.block k hk)⟩
 have g22:=(HB.out.2.below hB2).g2
 have HB2:Hid _:=hB2
 clear d d2 hb2 hB2 hps
 cases hp:zB7 min max step up down with
 | false=>
  go_wp2_with fail
  go_region
  all_goals
   go_wp2
   go_ret2
   exact⟨rfl,HB2.out.drew⟩
 | true=>
  rw[hp] at hno
  by_cases hlt:count<min
  ·go_wp2_with fail
   go_region
   all_goals
    go_wp2
    go_ret2
    exact⟨rfl,HB2.out.drew⟩
  ·have hgt:max<count:=by rcases hno with h | h | h;cases h;exact absurd h hlt;exact h
   go_wp2_with fail
   go_region
   all_goals
    go_wp2
    go_ret2
    exact⟨rfl,HB2.out.drew⟩
abbrev zFQ (R:Nat):WSt:=⟨R,.slice none 0 0,-9223372036854775808,[]⟩
theorem Wins.add {w w5:World}{m:Nat}{sp:List (ByteArray × Int)}{I I':ByteArray→Nat}{st:ByteArray→Int→WSt}(h:Wins w m sp I st){q:ByteArray × Int}{R:Nat}(hI:∀ r∈sp,I' r.1=I r.1)
  (ho:∃ F,MapG Value.string w5 m F∧∀ s,((∃ n,(s,n)∈sp ++ [q])→F s=some (.map (some (I' s))))∧((∀ n,(s,n) ∉ sp ++ [q])→F s=none))
  (hi:∃ G,MapG i64V w5 (I' q.1) G∧G q.2=some (ptr R)∧∀ n,n≠q.2→((q.1,n)∈sp→G n=some (ptr (st q.1 n).blk))∧((q.1,n) ∉ sp→G n=none))
  (hki:∀ r∈sp,r.1≠q.1→w5.heap[I r.1]?=w.heap[I r.1]?) (hkw:∀ r∈sp,∀ b,Mine (st r.1 r.2) b→w5.heap[b]?=w.heap[b]?) (hn:Win.WinI w5 R q.2 (-9223372036854775808) [] (.slice none 0 0)) (hR:w.heap.size≤R):
  Wins w5 m (sp ++ [q]) I' (upd st q (zFQ R)):=by
 have hsp:∀ r:ByteArray × Int,r∈sp ++ [q]→r≠q→r∈sp:=fun r hr hne=>by
  rcases List.mem_append.1 hr with hr | hr
  ·exact hr
  ·exact absurd (List.mem_singleton.1 hr) hne
 have lt:∀ r∈sp,∀ b,Mine (st r.1 r.2) b→b<w.heap.size:=fun r hr b hb=>by
  obtain⟨cs,T,e,-⟩:=Win.mine_cells (h.win r hr) hb
  exact zA2 e
 refine⟨ho,fun r hr=>?_,fun r hr=>?_,fun r hr=>?_,fun r hr x hx hne=>?_⟩
 ·by_cases hs:r.1=q.1
  ·obtain⟨G,hG,hG1,hG2⟩:=hi
   refine⟨G,by rw[hs];exact hG,fun n=>?_⟩
   rw[hs]
   by_cases hnq:n=q.2
   ·subst hnq
    refine⟨fun _=>?_,fun hx=>absurd (List.mem_append_right sp (List.mem_singleton.2 rfl)) hx⟩
    rw[zCF]
    exact hG1
   ·have hne:(q.1,n)≠q:=fun e=>hnq (show (q.1,n).2=q.2 from congrArg Prod.snd e)
    have hu:=zB9 (st:=st) (zFQ R) hne
    refine⟨fun hx=>?_,fun hx=>(hG2 n hnq).2 fun hy=>hx (List.mem_append_left _ hy)⟩
    rw[show upd st q (zFQ R) q.1 n=st q.1 n from hu]
    exact(hG2 n hnq).1 (hsp _ hx hne)
  ·have hr2:=hsp r hr (fun e=>hs (congrArg Prod.fst e))
   obtain⟨G,hG,hG2⟩:=h.inner r hr2
   refine⟨G,by rw[hI r hr2];exact hG.block (hki r hr2 hs),fun n=>?_⟩
   have hne:(r.1,n)≠q:=fun e=>hs (show (r.1,n).1=q.1 from congrArg Prod.fst e)
   have hu:=zB9 (st:=st) (zFQ R) hne
   refine⟨fun hx=>?_,fun hx=>(hG2 n).2 fun hy=>hx (List.mem_append_left _ hy)⟩
   rw[show upd st q (zFQ R) r.1 n=st r.1 n from hu]
   exact(hG2 n).1 (hsp _ hx hne)
 ·by_cases e:r=q
  ·subst e
   rw[zCF]
   exact hn
  ·rw[zB9 _ e]
   have hr2:=hsp r hr e
   exact zFU (h.win r hr2) (hkw r hr2)
 ·by_cases e:r=q
  ·subst e
   rw[zCF]
   exact⟨Nat.zero_le _,trivial,fun x hx=>by cases hx⟩
  ·rw[zB9 _ e]
   exact h.good r (hsp r hr e)
 ·by_cases er:r=q
  ·subst er
   have hx2:=hsp x hx (Ne.symm hne)
   rw[zCF,zB9 _ (Ne.symm hne)]
   refine⟨fun e=>?_,fun g hg=>by cases hg⟩
   have:=lt x hx2 _ (.inl rfl)
   have e:R=(st x.1 x.2).blk:=e
   omega
  ·have hr2:=hsp r hr er
   rw[zB9 _ er]
   by_cases ex:x=q
   ·subst ex
    rw[zCF]
    refine⟨fun e=>?_,fun g _ hg=>by cases hg⟩
    have:=lt r hr2 _ (.inl rfl)
    have e:(st r.1 r.2).blk=R:=e
    omega
   ·rw[zB9 _ ex]
    exact h.apart r hr2 x (hsp x hx ex) hne
theorem zH6 : ∀ (l:List (ByteArray × Int)) (i:Nat) (x:ByteArray × Int),l[i]?=some x→(zAP l)[i * 2]?=some (.string x.1)∧(zAP l)[i * 2+1]?=some (.int .i64 x.2)
 | [],i,x,h=>by simp at h
 | a :: l,0,x,h=>by simp at h;subst h;simp[zAP]
 | a :: l,i+1,x,h=>by
  have ih:=zH6 l i x (by simpa using h)
  have e:zAP (a :: l)=.string a.1 :: .int .i64 a.2 :: zAP l:=by simp[zAP]
  rw[e,show (i+1) * 2=i * 2+1+1 by omega]
  simpa using ih
theorem span_at {w:World}{base n:Nat}{ao:Option Addr}{m cp:Nat}{qs:List (ByteArray × Int)}(h:w.ownsRow base 194 2 (.slice ao m cp) n (zAP qs)){i:Nat}{x:ByteArray × Int}(hi:qs[i]?=some x):∃ g,ao=some ⟨g,0,none⟩∧w.cell? ⟨g,i * 2,none⟩=some (.string x.1)∧w.cell? ⟨g,i * 2+1,none⟩=some (.int .i64 x.2):=by
 have q:=zH6 qs i x hi
 rcases h.2 with⟨h1,rfl⟩ | ⟨g,cap,cur,h1,-⟩
 ·have:zAP qs=[]:=List.eq_nil_of_length_eq_zero (by have:=h.1;omega)
  rw[this] at q
  simp at q
 ·injection h1 with h1 h2 h3
  subst h1
  have ha:∀ j,(⟨g,0,none⟩:Addr).add j=⟨g,j,none⟩:=fun j=>by unfold Addr.add;split <;> simp_all
  have c1:=h.cells (g:=g) rfl _ _ q.1
  have c2:=h.cells (g:=g) rfl _ _ q.2
  rw[ha] at c1 c2
  exact⟨g,rfl,c1,c2⟩
structure Over (w wr:World) (sp:List (ByteArray × Int)) (I:ByteArray→Nat) (st:ByteArray→Int→WSt):Prop where
 below:Below w.heap.size w wr
 wins:Wins wr w.heap.size sp I st
 new:∀ q∈sp,w.heap.size<I q.1∧st q.1 q.2=zFQ (st q.1 q.2).blk∧w.heap.size<(st q.1 q.2).blk
 apart:∀ q∈sp,∀ r∈sp,q.1≠r.1→I q.1≠I r.1
section
variable {w wr w5:World} {sp:List (ByteArray × Int)} {I I':ByteArray→Nat} {st:ByteArray→Int→WSt} {s:ByteArray} {x:Int} {R:Nat}
theorem Over.step (h:Over w wr sp I st)(hI:∀ r∈sp,I' r.1=I r.1)(hIs:w.heap.size<I' s)(hap:∀ r∈sp,r.1≠s→I r.1≠I' s)(hR:wr.heap.size≤R)(hRw:w.heap.size<R)(bel:Below w.heap.size w w5)
  (ho:∃ F,MapG Value.string w5 w.heap.size F∧∀ t,((∃ n,(t,n)∈sp ++ [(s,x)])→F t=some (.map (some (I' t))))∧((∀ n,(t,n) ∉ sp ++ [(s,x)])→F t=none))
  (hi:∃ G,MapG i64V w5 (I' s) G∧G x=some (ptr R)∧∀ n,n≠x→((s,n)∈sp→G n=some (ptr (st s n).blk))∧((s,n) ∉ sp→G n=none))
  (hki:∀ r∈sp,r.1≠s→w5.heap[I r.1]?=wr.heap[I r.1]?) (hkw:∀ r∈sp,∀ b,Mine (st r.1 r.2) b→w5.heap[b]?=wr.heap[b]?) (hn:Win.WinI w5 R x (-9223372036854775808) [] (.slice none 0 0)):
  Over w w5 (sp ++ [(s,x)]) I' (upd st (s,x) (zFQ R)):=by
 have hsp:∀ r:ByteArray × Int,r∈sp ++ [(s,x)]→r≠(s,x)→r∈sp:=fun r hr hne=>by
  rcases List.mem_append.1 hr with hr | hr
  ·exact hr
  ·exact absurd (List.mem_singleton.1 hr) hne
 refine⟨bel,h.wins.add (q:=(s,x)) hI ho hi hki hkw hn hR,fun q hq=>?_,fun q hq r hr hne=>?_⟩
 ·by_cases e:q=(s,x)
  ·subst e
   have hu:upd st (s,x) (zFQ R) s x=zFQ R:=zCF (s,x) _
   exact⟨hIs,by rw[hu],by rw[hu];exact hRw⟩
  ·have hq2:=hsp q hq e
   rw[zB9 _ e,hI q hq2]
   exact h.new q hq2
 ·by_cases e:q.1=s
  ·have hr2:=hsp r hr (fun e2=>hne (e.trans (congrArg Prod.fst e2).symm))
   rw[e,hI r hr2]
   exact fun e3=>hap r hr2 (fun e4=>hne (e.trans e4.symm)) e3.symm
  ·have hq2:=hsp q hq (fun e2=>e (congrArg Prod.fst e2))
   rw[hI q hq2]
   by_cases e5:r.1=s
   ·rw[e5]
    exact hap q hq2 e
   ·have hr2:=hsp r hr (fun e2=>e5 (congrArg Prod.fst e2))
    rw[hI r hr2]
    exact h.apart q hq2 r hr2 hne
theorem Over.old {w0 w2:World}(h:Over w wr sp I st){n0:Int}(hn0:(s,n0)∈sp){G:Int→Option Value}(hG:MapG i64V wr (I s) G)(hG2:∀ n,((s,n)∈sp→G n=some (ptr (st s n).blk))∧((s,n) ∉ sp→G n=none))(hW0:Below wr.heap.size wr w0)(hsz:w0.heap.size=wr.heap.size+1)
  (hb2:Below w0.heap.size w0 w2) (hs2:w2.heap.size=w0.heap.size+1) (hw2:Win.WinI w2 w0.heap.size x (-9223372036854775808) [] (.slice none 0 0)) (hm5:MapG i64V w5 (I s) (fun t=>if t=x then some (ptr (wr.heap.size+1)) else G t)) (hg5:w2.grownBy w5 (some (I s))):
  Over w w5 (sp ++ [(s,x)]) I (upd st (s,x) (zFQ (wr.heap.size+1))):=by
 have hIs:w.heap.size<I s:=(h.new _ hn0).1
 have hlt:=hG.lt
 have hle:=h.below.size
 obtain⟨F,hF,hF2⟩:=h.wins.outer
 have old:∀ k,k<wr.heap.size→k≠I s→w5.heap[k]?=wr.heap[k]?:=fun k hk hne=>(hg5.block k (by omega) (fun e=>by injection e with e;exact hne e)).trans ((hb2.block k (by omega)).trans (hW0.block k hk))
 have lt:∀ r∈sp,∀ b,Mine (st r.1 r.2) b→b<wr.heap.size:=fun r hr b hb=>by
  obtain⟨cs,T,e,-⟩:=Win.mine_cells (h.wins.win r hr) hb
  exact zA2 e
 refine h.step (fun _ _=>rfl) hIs (fun r hr hne=>h.apart r hr _ hn0 hne) (by omega) (by omega) ⟨hg5.os.trans (hb2.os.trans (hW0.os.trans h.below.os)),hg5.tape.trans (hb2.tape.trans (hW0.tape.trans h.below.tape)),hg5.output.trans (hb2.output.trans (hW0.output.trans h.below.output)),by have:=hg5.size;omega,fun k hk=>(old k (by omega) (by omega)).trans (h.below.block k hk)⟩
  ⟨F,hF.block (old _ hF.lt (by omega)),fun t=>⟨fun ht=>(hF2 t).1 ?_,fun ht=>(hF2 t).2 fun n hn=>ht n (List.mem_append_left _ hn)⟩⟩ ⟨_,hm5,if_pos rfl,fun n hn=>?_⟩ (fun r hr hne=>?_) (fun r hr b hb=>?_) ?_
 ·obtain⟨n,hn⟩:=ht
  rcases List.mem_append.1 hn with hn | hn
  ·exact⟨n,hn⟩
  ·have:=congrArg Prod.fst (List.mem_singleton.1 hn)
   simp only at this
   exact⟨n0,by rw[this];exact hn0⟩
 ·simp only[hn,if_false]
  exact hG2 n
 ·obtain⟨G',hG',-⟩:=h.wins.inner r hr
  exact old _ hG'.lt (h.apart r hr _ hn0 hne)
 ·obtain⟨es,cl,hes⟩:=hG.isMap
  exact old b (lt r hr b hb) (fun e=>h.wins.map_not hr hes (e ▸ hb))
 ·rw[hsz] at hw2
  refine zFU hw2 fun b hb=>?_
  rcases hb with rfl | hb
  ·exact hg5.block _ (by omega) (fun e=>by injection e with e;omega)
  ·cases hb
end
theorem Over.fresh {w wr w1 w3 w4 w2 w5:World}{sp:List (ByteArray × Int)}{I:ByteArray→Nat}{st:ByteArray→Int→WSt}{s:ByteArray}{x:Int}(h:Over w wr sp I st)(hno:∀ n,(s,n) ∉ sp){F:ByteArray→Option Value}(hF:MapG Value.string wr w.heap.size F)(hF2:∀ s,((∃ n,(s,n)∈sp)→F s=some (.map (some (I s))))∧((∀ n,(s,n) ∉ sp)→F s=none))
  (hW1:Below wr.heap.size wr w1) (hs1:w1.heap.size=wr.heap.size+2) (hm3:MapG Value.string w3 w.heap.size (fun t=>if t=s then some (.map (some (wr.heap.size+1))) else F t)) (hg3:w1.grownBy w3 (some w.heap.size)) (hW4:Below w3.heap.size w3 w4) (hs4:w4.heap.size=w3.heap.size)
  (hb2:Below w4.heap.size w4 w2) (hs2:w2.heap.size=w4.heap.size+1) (hw2:Win.WinI w2 w4.heap.size x (-9223372036854775808) [] (.slice none 0 0)) (hm5:MapG i64V w5 (wr.heap.size+1) (fun t=>if t=x then some (ptr w3.heap.size) else none)) (hg5:w2.grownBy w5 (some (wr.heap.size+1))):
  Over w w5 (sp ++ [(s,x)]) (fun t=>if t=s then wr.heap.size+1 else I t) (upd st (s,x) (zFQ w3.heap.size)):=by
 have hle:=h.below.size
 have h3:=hg3.size
 have hsx:∀ r∈sp,r.1≠s:=fun r hr e=>hno r.2 (by rw[←e];exact hr)
 have old:∀ k,k<wr.heap.size→k≠w.heap.size→w5.heap[k]?=wr.heap[k]?:=fun k hk hne=>(hg5.block k (by omega) (fun e=>by injection e with e;omega)).trans ((hb2.block k (by omega)).trans ((hW4.block k (by omega)).trans ((hg3.block k (by omega) (fun e=>by injection e with e;omega)).trans (hW1.block k hk))))
 have lt:∀ r∈sp,∀ b,Mine (st r.1 r.2) b→b<wr.heap.size:=fun r hr b hb=>by
  obtain⟨cs,T,e,-⟩:=Win.mine_cells (h.wins.win r hr) hb
  exact zA2 e
 have hi:∀ r∈sp,(fun t=>if t=s then wr.heap.size+1 else I t) r.1=I r.1:=fun r hr=>if_neg (hsx r hr)
 have ilt:∀ r∈sp,I r.1<wr.heap.size:=fun r hr=>by
  obtain⟨G',hG',-⟩:=h.wins.inner r hr
  exact hG'.lt
 have hii:(if s=s then wr.heap.size+1 else I s)=wr.heap.size+1:=if_pos rfl
 refine h.step hi (by rw[hii];omega) (fun r hr _=>by rw[hii];have:=ilt r hr;omega) (by omega) (by omega) ⟨hg5.os.trans (hb2.os.trans (hW4.os.trans (hg3.os.trans (hW1.os.trans h.below.os)))),hg5.tape.trans (hb2.tape.trans (hW4.tape.trans (hg3.tape.trans (hW1.tape.trans h.below.tape)))),hg5.output.trans (hb2.output.trans (hW4.output.trans (hg3.output.trans (hW1.output.trans h.below.output)))),by have:=hg5.size;omega,fun k hk=>(old k (by omega) (by omega)).trans (h.below.block k hk)⟩
  ⟨_,hm3.block (w':=w5) ?_,fun t=>⟨fun ht=>?_,fun ht=>?_⟩⟩ ⟨_,by rw[hii];exact hm5,if_pos rfl,fun n hn=>⟨fun hq=>absurd hq (hno n),fun _=>if_neg hn⟩⟩ (fun r hr _=>?_) (fun r hr b hb=>?_) ?_
 ·have:=hF.lt
  exact(hg5.block _ (by omega) (fun e=>by injection e with e;omega)).trans ((hb2.block _ (by omega)).trans (hW4.block _ (by omega)))
 ·by_cases hts:t=s
  ·simp only[hts,if_true]
  ·simp only[hts,if_false]
   obtain⟨n,hn⟩:=ht
   rcases List.mem_append.1 hn with hn | hn
   ·exact(hF2 t).1 ⟨n,hn⟩
   ·exact absurd (congrArg Prod.fst (List.mem_singleton.1 hn)) hts
 ·have hts:t≠s:=fun e=>ht x (List.mem_append_right _ (by rw[e];exact List.mem_singleton.2 rfl))
  simp only[hts,if_false]
  exact(hF2 t).2 fun n hn=>ht n (List.mem_append_left _ hn)
 ·exact old _ (ilt r hr) (by have:=(h.new r hr).1;omega)
 ·exact old b (lt r hr b hb) (fun e=>by
   obtain⟨es,cl,hes⟩:=hF.isMap
   exact h.wins.map_not hr hes (e ▸ hb))
 ·rw[hs4] at hw2
  refine zFU hw2 fun b hb=>?_
  rcases hb with rfl | hb
  ·exact hg5.block _ (by omega) (fun e=>by injection e with e;omega)
  ·cases hb
set_option maxRecDepth 1000000 in
set_option maxHeartbeats 4000000 in
theorem code_over {w:World}{lo n:Nat}{av:Value}{sp:List (ByteArray × Int)}(hn:n=sp.length)(ha:w.ownsRow lo 194 2 av n (zAP sp))(h900:n≤900)(h64:∀ q∈sp,In64 q.2):
  Calls Tryz.prog 56 #[av] w fun e w'=>e=.returned (.map (some w.heap.size))∧∃ I st,Over w w' sp I st:=by
 obtain⟨ao,cp,rfl⟩:=zAI ha
 have hmm:=@run_makeMap Tryz.prog
 have HA:Hid (w.ownsRow lo 194 2 (.slice ao n cp) n (zAP sp)):=ha
 have HN:Hid (n=sp.length):=hn
 have H64:Hid (∀ q∈sp,In64 q.2):=h64
 clear ha hn h64
 go_enter Tryz.func56,Tryz.ntmps56
 go_wp2_with fail
 go_loopw [9] (fun v9 wr=>∃ i:Nat,v9=.int .i64 i∧i≤n∧∃ I st,Hid (Over w wr (sp.take i) I st)) (fun v9 _=>n - (intOf v9).toNat)
 case atStart=>
  refine⟨0,rfl,Nat.zero_le _,fun _=>0,fun _ _=>zFQ 0,⟨(Below.refl _ _).alloc (Nat.le_refl _) _,⟨⟨_,MapG.new _ w,fun s=>⟨fun hx=>?_,fun _=>rfl⟩⟩,?_,?_,?_,?_⟩,?_,?_⟩⟩
  ·obtain⟨n,hx⟩:=hx
   simp at hx
  all_goals
   intro q hq
   simp at hq
 case round=>
  obtain⟨i,rfl,hi,I,st,HI⟩:=hrel
  rcases Nat.lt_or_ge i n with hlt | hge
  ·obtain⟨⟨s,x⟩,hx⟩:∃ x,sp[i]?=some x:=⟨sp[i]'(by have:=HN.out;omega),List.getElem?_eq_getElem _⟩
   obtain⟨g,rfl,c0,c1⟩:=span_at (zAG HA.out fun g hg=>HI.out.below.block g (HA.out.lt _ hg).2) hx
   have hlt2:(i:Int)<n:=by omega
   have hx64:In64 x:=H64.out _ (List.mem_of_getElem? hx)
   have HX:Hid (sp[i]?=some (s,x)):=hx
   obtain⟨F,hF,hF2⟩:=HI.out.wins.outer
   have hlo:=(hF.block (w':=wr.alloc (.cells #[.string s,.int .i64 x] 194)) (Below.heap_alloc _ _ _ hF.lt)).lookup zH5 Tryz.underlying124 Tryz.underlying9 Tryz.zeroInner s
   clear hx
   by_cases hin:∃ n,(s,n)∈sp.take i
   ·rw[(hF2 s).1 hin,Option.getD_some] at hlo
    have heq:=Tryz.eqInner (I s) (wr.alloc (.cells #[.string s,.int .i64 x] 194))
    obtain⟨n0,hn0⟩:=hin
    obtain⟨G,hG,hG2⟩:=HI.out.wins.inner _ hn0
    have hW0:Below wr.heap.size wr (wr.alloc (.cells #[.string s,.int .i64 x] 194)).drew:=((Below.refl _ _).alloc (Nat.le_refl _) _).drew
    have d0:(wr.alloc (.cells #[.string s,.int .i64 x] 194)).drew.heap[wr.heap.size]?=some (.cells #[.string s,.int .i64 x] 194 (0,0)):=heap_alloc_new _ _
    have dlo:=(hF.block (w':=(wr.alloc (.cells #[.string s,.int .i64 x] 194)).drew) (hW0.block _ hF.lt)).lookup zH5 Tryz.underlying124 Tryz.underlying9 Tryz.zeroInner s
    rw[(hF2 s).1 ⟨n0,hn0⟩,Option.getD_some] at dlo
    have hsz:(wr.alloc (.cells #[.string s,.int .i64 x] 194)).drew.heap.size=wr.heap.size+1:=by simp
    have e0:=zA0 (i:=0) d0 rfl
    have e1:=zA0 (i:=1) d0 rfl
    have HW:Hid _:=And.intro hF (And.intro hF2 (And.intro hn0 (And.intro hG (And.intro hG2 (And.intro hW0 (And.intro hsz d0))))))
    clear hF hF2 hn0 hG hG2 hW0 hsz d0
    go_wp2_with fail
    go_region_with
     (first | (go_at_call 85;refine(Win.newI _ x hx64).mono ?_;rintro e w2 ⟨rfl,hb2,hs2,hw2⟩;obtain⟨w5,hrun,hm5,hg5⟩:=((HW.out.2.2.2.1.block (HW.out.2.2.2.2.2.1.block _ HW.out.2.2.2.1.lt)).block (hb2.block _ (Nat.lt_of_lt_of_le HW.out.2.2.2.1.lt HW.out.2.2.2.2.2.1.size))).update i64Key (fun a b h=>by injection h) Tryz.underlying191 Tryz.underlying2 x (ptr (wr.heap.size+1));have k0:=cell_below hb2 e0;have k1:=cell_below hb2 e1;have hlo2:=((HW.out.1.block (HW.out.2.2.2.2.2.1.block _ HW.out.1.lt)).block (hb2.block _ (Nat.lt_of_lt_of_le HW.out.1.lt HW.out.2.2.2.2.2.1.size))).lookup zH5 Tryz.underlying124 Tryz.underlying9 Tryz.zeroInner s;rw[(HW.out.2.1 s).1 ⟨n0,HW.out.2.2.1⟩,Option.getD_some] at hlo2;have H2:Hid _:=And.intro hb2 (And.intro hs2 (And.intro hw2 (And.intro hm5 hg5)));clear hb2 hs2 hw2 hm5 hg5))
    all_goals
     have HO:Hid _:=HI.out.old HW.out.2.2.1 HW.out.2.2.2.1 HW.out.2.2.2.2.1 HW.out.2.2.2.2.2.1 HW.out.2.2.2.2.2.2.1 H2.out.1 H2.out.2.1 H2.out.2.2.1 H2.out.2.2.2.1 H2.out.2.2.2.2
     clear hrun hlo2 k0 k1
     go_wp2
     go_roundw
     case rel=>exact⟨i+1,by go_num,by omega,_,_,by rw[List.take_add_one,HX.out];exact HO.out⟩
     case measure=>simp[intOf];omega
   ·have hno:∀ n,(s,n) ∉ sp.take i:=fun n hn=>hin ⟨n,hn⟩
    rw[(hF2 s).2 hno,Option.getD_none] at hlo
    have heq:=Tryz.eqNone (wr.alloc (.cells #[.string s,.int .i64 x] 194))
    have hW0:Below wr.heap.size wr (wr.alloc (.cells #[.string s,.int .i64 x] 194)):=(Below.refl _ _).alloc (Nat.le_refl _) _
    have hs0:(wr.alloc (.cells #[.string s,.int .i64 x] 194)).heap.size=wr.heap.size+1:=by simp
    have hW1:Below wr.heap.size wr ((wr.alloc (.cells #[.string s,.int .i64 x] 194)).alloc (.map #[] 0)):=hW0.alloc (by omega) _
    have hs1:((wr.alloc (.cells #[.string s,.int .i64 x] 194)).alloc (.map #[] 0)).heap.size=wr.heap.size+2:=by simp
    have d1:((wr.alloc (.cells #[.string s,.int .i64 x] 194)).alloc (.map #[] 0)).heap[wr.heap.size]?=some (.cells #[.string s,.int .i64 x] 194 (0,0)):=zA3 (heap_alloc_new _ _)
    have hin1:=MapG.new i64V (wr.alloc (.cells #[.string s,.int .i64 x] 194))
    rw[hs0] at hin1
    have c10:=zA0 (i:=0) d1 rfl
    have c11:=zA0 (i:=1) d1 rfl
    obtain⟨w3,hup3,hm3,hg3⟩:=(hF.block (hW1.block _ hF.lt)).update zH5 (fun a b h=>by injection h) Tryz.underlying124 Tryz.underlying9 s (.map (some (wr.heap.size+1)))
    have hle:=HI.out.below.size
    have hlt0:=hF.lt
    have h3s:=hg3.size
    have d3:w3.drew.heap[wr.heap.size]?=some (.cells #[.string s,.int .i64 x] 194 (0,0)):=(hg3.block _ (by omega) (fun e=>by injection e with e;omega)).trans d1
    have hin3:MapG i64V w3.drew (wr.heap.size+1) (fun _=>none):=hin1.block (hg3.block _ (by omega) (fun e=>by injection e with e;omega))
    have dlo:=(hm3.block (w':=w3.drew) rfl).lookup zH5 Tryz.underlying124 Tryz.underlying9 Tryz.zeroInner s
    simp only[if_true,Option.getD_some] at dlo
    have e0:=zA0 (i:=0) d3 rfl
    have e1:=zA0 (i:=1) d3 rfl
    have HW:Hid _:=And.intro hF (And.intro hF2 (And.intro hno (And.intro hW1 (And.intro hs1 (And.intro hm3 (And.intro hg3 (And.intro hin3 (And.intro hlt0 h3s))))))))
    clear hF hF2 hno hin hW0 hs0 hW1 hs1 d1 hin1 hm3 hg3 hle hlt0 h3s d3 hin3
    go_wp2_with fail
    go_region_with
     (first | (go_at_call 85;refine(Win.newI _ x hx64).mono ?_;rintro e w2 ⟨rfl,hb2,hs2,hw2⟩;obtain⟨w5,hrun,hm5,hg5⟩:=(HW.out.2.2.2.2.2.2.2.1.block (hb2.block _ HW.out.2.2.2.2.2.2.2.1.lt)).update i64Key (fun a b h=>by injection h) Tryz.underlying191 Tryz.underlying2 x (ptr w3.heap.size);have k0:=cell_below hb2 e0;have k1:=cell_below hb2 e1;have hlo2:=(HW.out.2.2.2.2.2.1.block (hb2.block _ HW.out.2.2.2.2.2.1.lt)).lookup zH5 Tryz.underlying124 Tryz.underlying9 Tryz.zeroInner s;simp only[if_true,Option.getD_some] at hlo2;have H2:Hid _:=And.intro hb2 (And.intro hs2 (And.intro hw2 (And.intro hm5 hg5)));clear hb2 hs2 hw2 hm5 hg5))
    all_goals
     have HO:Hid _:=HI.out.fresh (w4:=w3.drew) HW.out.2.2.1 HW.out.1 HW.out.2.1 HW.out.2.2.2.1 HW.out.2.2.2.2.1 HW.out.2.2.2.2.2.1 HW.out.2.2.2.2.2.2.1 (Below.refl _ _).drew rfl H2.out.1 H2.out.2.1 H2.out.2.2.1 H2.out.2.2.2.1 H2.out.2.2.2.2
     clear hrun hlo2 k0 k1
     go_wp2
     go_roundw
     case rel=>exact⟨i+1,by go_num,by omega,_,_,by rw[List.take_add_one,HX.out];exact HO.out⟩
     case measure=>simp[intOf];omega
  ·have hge2:¬ (i:Int)<n:=by omega
   have HE:Hid (i=sp.length):=by show i=sp.length;have:=HN.out;omega
   go_wp2
   go_ret
   have h:=HI.out
   rw[HE.out,List.take_length] at h
   exact⟨rfl,I,st,h⟩
theorem PRel.forms {s:ByteArray}{t:Option Tree}{f p:Nat}(h:PRel s (t,f,p)):(t.isSome=false∧f=1∧p=0)∨(t.isSome=false∧f=2)∨(t.isSome=true∧f=0∧p=0):=by
 rcases h with⟨-,h⟩ | ⟨-,⟨J,-,h⟩ | ⟨t,J,-,-,h⟩ | ⟨t,J,-,-,h⟩⟩
 ·injection h with h1 h2;injection h2 with h2 h3;subst h1;exact .inl ⟨rfl,h2,h3⟩
 ·injection h with h1 h2;injection h2 with h2 h3;subst h1;exact .inr (.inl ⟨rfl,h2⟩)
 ·injection h with h1 h2;injection h2 with h2 h3;subst h1;exact .inr (.inl ⟨rfl,h2⟩)
 ·injection h with h1 h2;injection h2 with h2 h3;subst h1;exact .inr (.inr ⟨rfl,h2,h3⟩)
end Go.Proofs.YtbokdbaagacnlaaGreatDoor
