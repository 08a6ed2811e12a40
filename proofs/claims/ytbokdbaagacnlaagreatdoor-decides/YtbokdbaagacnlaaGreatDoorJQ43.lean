import Derived.Test.YtbokdbaagacnlaaGreatDoorJQ42
import Derived.Test.YtbokdbaagacnlaaGreatDoorJQ41
namespace Go.Proofs.YtbokdbaagacnlaaGreatDoor
open Go.RowKit Go.Lib Go.Shelf
theorem zQM {t:Tree}(h:size t≤200):(mets t).length≤200:=by
 have h2:=zHP.1 t
 rw[zC1]
 simp
 omega
theorem ref_New {w:World}{pa:Option Addr}{t:Tree}(hf:Fit t)(hz:size t≤200)(hn:zA9 (fun b=>b<w.heap.size) w t (.pointer pa)){g:Nat}{l0 l1 l2 l3 l4 count:Int}(hg:w.heap[g]?=some (.cells #[.int .i64 l0,.int .i64 l1,.int .i64 l2,.int .i64 l3,.int .i64 l4] 2 (0,0)))(hyes:zB7 l0 l1 l2 l3 l4=true)(h1:l0≤count)(h2:count≤l1):
  Calls Tryz.prog 21 #[.pointer pa,.slice (some ⟨g,0,none⟩) 5 5,.int .i64 count] w fun e w'=>e=.returned (ptr w.heap.size)∧Below w.heap.size w w'∧∃ g av,RefC w' w.heap.size (.pointer pa) (ctl0 l0 l1 l2 l3 l4 count) (msOf t) (fun _=>[]) g (fun _=>.slice none 0 0) av∧(∀ j,j<(msOf t).length→w.heap.size≤g j)∧∀ b,av.ownBlock=some b→w.heap.size≤b:=by
 refine(ref_New_of (ms:=msOf t) (zPE List.nodup_nil) (ms_few hz) hg hyes h1 h2 fun W hW=>?_).mono ?_
 ·have hm:=zBW t (zBZ t hf) (fun b=>b<w.heap.size) W.heap.size W (.pointer pa) (.slice none 0 0) [] (fun b hb=>by have:=hW.size;omega) (Nat.le_refl _) (hn.moves fun b hb _=>⟨hb,hW.block b hb⟩) ⟨rfl,.inl ⟨rfl,rfl⟩⟩ (by have:=zQM hz;simp;omega)
  exact hm
 ·rintro e w' ⟨rfl,nv,gg,av,h⟩
  refine⟨rfl,h.below,gg,av,?_,h.high,fun b hb=>(h.row.lt _ hb).1⟩
  have:=h.ref
  rwa [List.take_length] at this
theorem run_make5 (w:World):(Instr.makeSlice 22 (.int .i64 5) (.int .i64 5)).run Tryz.prog w=.ok (.slice (some ⟨w.heap.size,0,none⟩) 5 5) (w.alloc (.cells #[.int .i64 0,.int .i64 0,.int .i64 0,.int .i64 0,.int .i64 0] 2)):=by kernel_rfl
set_option maxRecDepth 1000000 in
set_option maxHeartbeats 1000000 in
theorem zL9 {w:World}{ao:Option Addr}{cp:Nat}{L:List Int}(hL:zFC w ao L):
  Calls Tryz.prog 20 #[.slice ao L.length cp] w fun e w'=>e=.returned (.slice (some ⟨w.heap.size,0,none⟩) 5 5)∧Below w.heap.size w w'∧w'.heap[w.heap.size]?=some (.cells #[.int .i64 (L.getD 0 0),.int .i64 (L.getD 1 0),.int .i64 (L.getD 2 0),.int .i64 (L.getD 3 0),.int .i64 (L.getD 4 0)] 2 (0,0)):=by
 have hmk:=run_make5 w
 have hB1:Below w.heap.size w (w.alloc (.cells #[.int .i64 0,.int .i64 0,.int .i64 0,.int .i64 0,.int .i64 0] 2)):=(Below.refl _ _).alloc (Nat.le_refl _) _
 obtain⟨m,w2,hrun,h5,hk⟩:=zJR (heap_alloc_new w (.cells #[.int .i64 0,.int .i64 0,.int .i64 0,.int .i64 0,.int .i64 0] 2)) (hL.below hB1) (cp:=cp) 3
 have hB2:Below w.heap.size w w2:=⟨hk.os.trans hB1.os,hk.tape.trans hB1.tape,hk.output.trans hB1.output,Nat.le_trans hB1.size hk.size,fun k lt=>(hk.block k (Nat.lt_of_lt_of_le lt hB1.size) (by omega)).trans (hB1.block k lt)⟩
 have HB:Hid _:=And.intro hB2 h5
 clear hB1 hL hk h5 hB2
 go_enter Tryz.func20,Tryz.ntmps20
 go_wp2
 go_ret
 exact⟨rfl,HB.out⟩
def zII (ms:List ByteArray)(M:Int):ByteArray:=if 0≤M∧M<ms.length then ms.getD M.toNat { data:=#[110,111,110,101] } else { data:=#[110,111,110,101] }
set_option maxRecDepth 1000000 in
set_option maxHeartbeats 1000000 in
theorem zNV {w:World}{pa:Option Addr}{ms:List ByteArray}{tk:Bool}{M v t:Int}(_hfew:ms.length≤200)
  (hmet:∀ W,Below w.heap.size w W→Calls Tryz.prog 22 #[.pointer pa,.slice none 0 0] W fun e w'=>∃ lv',e=.returned lv'∧w'.ownsRow W.heap.size 9 1 lv' ms.length (ms.map Value.string)∧Below W.heap.size W w'):
  Calls Tryz.prog 7 #[.pointer pa,.agg #[.bool tk,.int .i64 M,.int .i64 v,.int .i64 t]] w fun e w'=>e=.returned (.agg #[.bool tk,.string (zII ms M),.int .i64 v,.int .i64 t])∧Below w.heap.size w w':=by
 have HM:Hid _:=hmet
 clear hmet
 go_enter Tryz.func7,Tryz.ntmps7
 go_wp2_with fail
 have hb1:Below w.heap.size w ((w.alloc (.cells #[.bool tk,.int .i64 M,.int .i64 v,.int .i64 t] 38)).alloc (.cells #[.bool false,.string { data:=#[] },.int .i64 0,.int .i64 0] 35)):=((Below.refl _ _).alloc (Nat.le_refl _) _).alloc (by simp) _
 have ho1:((w.alloc (.cells #[.bool tk,.int .i64 M,.int .i64 v,.int .i64 t] 38)).alloc (.cells #[.bool false,.string { data:=#[] },.int .i64 0,.int .i64 0] 35)).heap[w.heap.size]?=some (.cells #[.bool tk,.int .i64 M,.int .i64 v,.int .i64 t] 38 (0,0)):=zA3 (heap_alloc_new _ _)
 have hr1:((w.alloc (.cells #[.bool tk,.int .i64 M,.int .i64 v,.int .i64 t] 38)).alloc (.cells #[.bool false,.string { data:=#[] },.int .i64 0,.int .i64 0] 35)).heap[w.heap.size+1]?=some (.cells #[.bool false,.string { data:=#[] },.int .i64 0,.int .i64 0] 35 (0,0)):=zEJ _ _ (by simp)
 refine(HM.out _ hb1).mono ?_
 rintro e w2 ⟨lv,rfl,hown,hb2⟩
 obtain⟨la,lc,hlv⟩:=zAI hown
 subst hlv
 have ho2:=(hb2.block _ (zA2 ho1)).trans ho1
 have hr2:=(hb2.block _ (zA2 hr1)).trans hr1
 have o0:=zA0 (i:=0) (v:=.bool tk) ho2 rfl
 have o1:=zA0 (i:=1) (v:=.int .i64 M) ho2 rfl
 have o2:=zA0 (i:=2) (v:=.int .i64 v) ho2 rfl
 have o3:=zA0 (i:=3) (v:=.int .i64 t) ho2 rfl
 have r0:=zA0 (i:=0) (v:=.bool false) hr2 rfl
 have r1:=zA0 (i:=1) (v:=.string { data:=#[] }) hr2 rfl
 have r2:=zA0 (i:=2) (v:=.int .i64 0) hr2 rfl
 have r3:=zA0 (i:=3) (v:=.int .i64 0) hr2 rfl
 have z0:=zA1 (i:=0) hr2
 have z1:=zA1 (i:=1) hr2
 have z2:=zA1 (i:=2) hr2
 have z3:=zA1 (i:=3) hr2
 have HB:Hid (Below w.heap.size w w2):=hb1.trans (hb2.mono (by simp;omega))
 have HO:Hid _:=hown
 clear hb1 ho1 hr1 hown hb2 ho2 hr2
 by_cases hm:0≤M∧M<ms.length
 ·obtain⟨s,hs⟩:∃ s,ms[M.toNat]?=some s:=⟨ms[M.toNat]'(by omega),List.getElem?_eq_getElem (by omega)⟩
  obtain⟨q,hla,hq⟩:=zHZ HO.out (j:=M.toNat) (x:=.string s) (by rw[List.getElem?_map,hs];rfl)
  subst hla
  have HNM:Hid (zII ms M=s):=by
   show zII ms M=s
   unfold zII;rw[if_pos hm,List.getD_eq_getElem?_getD,hs];rfl
  obtain⟨hm0,hm1⟩:=hm
  obtain⟨n,rfl⟩:∃ n:Nat,M=n:=⟨M.toNat,by omega⟩
  rw[Int.toNat_natCast] at hq
  have hn0:(0:Int)≤n:=by omega
  clear hs hm0
  go_wp2
  refine bodyPost_ret (v:=.agg #[.bool tk,.string s,.int .i64 v,.int .i64 t]) (by simp[results,Tryz.results7,go_sem,r0,r1,r2,r3]) rfl ?_
  refine⟨by rw[HNM.out],?_⟩
  first | exact HB.out | ((iterate 4 (refine Below.setCell ?_ (by simp) _));exact HB.out)
 ·have HNM:Hid (zII ms M={ data:=#[110,111,110,101] }):=by
   show zII ms M=_
   unfold zII
   rw[if_neg hm]
  by_cases hm0:0≤M
  ·have hm1:¬ M<ms.length:=fun e=>hm ⟨hm0,e⟩
   clear hm
   go_wp2
   refine bodyPost_ret (v:=.agg #[.bool tk,.string { data:=#[110,111,110,101] },.int .i64 v,.int .i64 t]) (by simp[results,Tryz.results7,go_sem,r0,r1,r2,r3]) rfl ?_
   refine⟨by rw[HNM.out],?_⟩
   first | exact HB.out | ((iterate 4 (refine Below.setCell ?_ (by simp) _));exact HB.out)
  ·clear hm
   go_wp2
   refine bodyPost_ret (v:=.agg #[.bool tk,.string { data:=#[110,111,110,101] },.int .i64 v,.int .i64 t]) (by simp[results,Tryz.results7,go_sem,r0,r1,r2,r3]) rfl ?_
   refine⟨by rw[HNM.out],?_⟩
   first | exact HB.out | ((iterate 4 (refine Below.setCell ?_ (by simp) _));exact HB.out)
end Go.Proofs.YtbokdbaagacnlaaGreatDoor
namespace Go.Proofs.YtbokdbaagacnlaaGreatDoor
open Go.RowKit Go.Lib
section
variable {F:ByteArray→Option Value} {P:ByteArray→List Int→WT→PFound × WT} {A:Nat→Addr} {w0 wl:World} {lo c x:Nat} {k:Ctl} {u:Tree} {sp:List (ByteArray × Int)} {T:WT} {X:Nat→Prop} {w:World}
set_option maxRecDepth 1000000 in
set_option maxHeartbeats 1000000 in
theorem px_Feed (hx:w.heap[x]?=some (.cells #[ptr c] 74 (0,0)))(h:LiveX F P A w0 wl lo c k u sp T X w)(name:ByteArray){v t:Int}(hv:In64 v)(ht:In64 t):
  Calls Tryz.prog 27 #[ptr x,.string name,.int .i64 v,.int .i64 t] w fun e w'=>e=.returned (.agg #[.int .i64 (k.feed sp T name v t).1.e,.int .i64 0,.int .i64 0,.string { data:=#[] }])∧∃ X',LiveX F P A w0 wl lo c (k.feed sp T name v t).2.1 u sp (k.feed sp T name v t).2.2 X' w'∧Grew X X' w∧KeepX X w w':=by
 have c0:w.cell? ⟨x,0,none⟩=some (ptr c):=zA0 hx rfl
 have lx:=zA2 hx
 have hw1:Below w.heap.size w (w.alloc (.cells #[.int .i64 0,.int .i64 0,.int .i64 0,.string { data:=#[] }] 25)):=(Below.refl _ _).alloc (Nat.le_refl _) _
 have hr1:(w.alloc (.cells #[.int .i64 0,.int .i64 0,.int .i64 0,.string { data:=#[] }] 25)).heap[w.heap.size]?=some (.cells #[.int .i64 0,.int .i64 0,.int .i64 0,.string { data:=#[] }] 25 (0,0)):=heap_alloc_new _ _
 have hf:=zPK (h.go hw1) name hv ht
 have HW:Hid _:=And.intro hw1 (And.intro hr1 h)
 clear h hx hw1 hr1
 go_enter Tryz.func27,Tryz.ntmps27
 go_wp2_with fail
 refine hf.mono ?_
 rintro e w1 ⟨rfl,X',hl,hgr,hk⟩
 have hof:=of_ferr (hl.sents.below hl.below) (k.feed sp T name v t).1
 have hr1:=(hk.block _ (zA2 HW.out.2.1) ((HW.out.2.2.go HW.out.1).calm HW.out.2.1 (by unfold Calm;decide))).trans HW.out.2.1
 have HL:Hid _:=And.intro hl (And.intro hk hr1)
 have HGR:Hid _:=hgr
 clear hf hl hk hr1 hgr
 generalize hfe:(k.feed sp T name v t).1=fe at *
 have HFE:Hid _:=hfe
 clear hfe
 have hsh:fe.at A=.nilIface∨∃ T x,fe.at A=.iface T x:=by
  cases fe
  ·exact .inl rfl
  ·exact .inr ⟨_,_,rfl⟩
  ·exact .inr ⟨_,_,rfl⟩
 generalize fe.at A=fv at *
 generalize hfc:fe.e=fc at *
 have HFC:Hid _:=hfc
 clear hfc
 have fin:∀ w2,Below w1.heap.size w1 w2→Hid (w2.heap[w.heap.size]?=some (.cells #[.int .i64 0,.int .i64 0,.int .i64 0,.string { data:=#[] }] 25 (0,0))∧∀ w3,Keep w.heap.size w2 w3→∃ X',LiveX F P A w0 wl lo c (k.feed sp T name v t).2.1 u sp (k.feed sp T name v t).2.2 X' w3∧Grew X X' w∧KeepX X w w3):=fun w2 hb=>by
  have hr2:=(hb.block _ (zA2 HL.out.2.2)).trans HL.out.2.2
  refine⟨hr2,fun w3 hk3=>⟨X',(HL.out.1.go hb).set hr2 (by unfold Calm;decide) (Nat.le_trans HW.out.2.2.size.1 HW.out.2.2.le) (.inr HW.out.2.2.le) hk3.x,fun b hx2=>(HGR.out b hx2).imp id fun e=>Nat.le_trans HW.out.1.size e,⟨hk3.os.trans (hb.os.trans (HL.out.2.1.os.trans HW.out.1.os)),hk3.tape.trans (hb.tape.trans (HL.out.2.1.tape.trans HW.out.1.tape)),hk3.output.trans (hb.output.trans (HL.out.2.1.output.trans HW.out.1.output)),Nat.le_trans HW.out.1.size (Nat.le_trans HL.out.2.1.size (Nat.le_trans hb.size hk3.size)),fun b lt nx=>?_⟩⟩⟩
  have l1:=Nat.lt_of_lt_of_le lt HW.out.1.size
  have l2:=Nat.lt_of_lt_of_le l1 HL.out.2.1.size
  exact(hk3.block b (Nat.lt_of_lt_of_le l2 hb.size) (by omega)).trans ((hb.block b l2).trans ((HL.out.2.1.block b l1 nx).trans (HW.out.1.block b lt)))
 have FIN:Hid _:=fin
 clear fin
 rcases hsh with rfl | ⟨T2,x2,rfl⟩
 all_goals
  go_wp2_with fail
  refine hof.mono ?_
  rintro e w2 ⟨rfl,hb⟩
  have H2:=FIN.out w2 hb
  have hr2:=H2.out.1
  have rc0:=zA0 (i:=0) (v:=.int .i64 0) hr2 rfl
  have rz0:=zA1 (i:=0) hr2
  have rc1:=zA0 (i:=1) (v:=.int .i64 0) hr2 rfl
  have rz1:=zA1 (i:=1) hr2
  have rc2:=zA0 (i:=2) (v:=.int .i64 0) hr2 rfl
  have rz2:=zA1 (i:=2) hr2
  have rc3:=zA0 (i:=3) (v:=.string { data:=#[] }) hr2 rfl
  have rz3:=zA1 (i:=3) hr2
  clear hof hb hr2
  go_wp2
  refine bodyPost_ret (v:=.agg #[.int .i64 fc,.int .i64 0,.int .i64 0,.string { data:=#[] }]) (by simp[results,Tryz.results27,go_sem,rc0,rc1,rc2,rc3]) rfl ?_
  refine⟨by rw[HFE.out,HFC.out],H2.out.2 _ ?_⟩
  iterate 4 (refine Keep.setR ?_ _ _)
  exact Keep.refl _ _
set_option maxRecDepth 1000000 in
set_option maxHeartbeats 1000000 in
theorem px_Tick (hx:w.heap[x]?=some (.cells #[ptr c] 74 (0,0)))(h:LiveX F P A w0 wl lo c k u sp T X w){t:Int}(ht:In64 t):
  Calls Tryz.prog 8 #[ptr x,.int .i64 t] w fun e w'=>e=.returned (.agg #[.int .i64 t,.int .i64 (k.decide P u T t).2.1.count,.int .i64 0,.int .i64 0,.int .i64 (k.decide P u T t).1.e,.int .i64 (k.decide P u T t).1.p,.int .i64 (k.decide P u T t).1.m,.string { data:=#[] }])∧LiveX F P A w0 wl lo c (k.decide P u T t).2.1 u sp (k.decide P u T t).2.2 X w'∧KeepX X w w':=by
 have c0:w.cell? ⟨x,0,none⟩=some (ptr c):=zA0 hx rfl
 have lx:=zA2 hx
 have hw1:Below w.heap.size w (w.alloc (.cells #[.int .i64 0,.int .i64 0,.int .i64 0,.int .i64 0,.int .i64 0,.int .i64 0,.int .i64 0,.string { data:=#[] }] 40)):=(Below.refl _ _).alloc (Nat.le_refl _) _
 have hr1:(w.alloc (.cells #[.int .i64 0,.int .i64 0,.int .i64 0,.int .i64 0,.int .i64 0,.int .i64 0,.int .i64 0,.string { data:=#[] }] 40)).heap[w.heap.size]?=some (.cells #[.int .i64 0,.int .i64 0,.int .i64 0,.int .i64 0,.int .i64 0,.int .i64 0,.int .i64 0,.string { data:=#[] }] 40 (0,0)):=heap_alloc_new _ _
 have hf:=zPJ (h.go hw1) ht
 have HW:Hid _:=And.intro hw1 (And.intro hr1 h)
 clear h hx hw1 hr1
 go_enter Tryz.func8,Tryz.ntmps8
 go_wp2_with fail
 refine hf.mono ?_
 rintro e w1 ⟨v,rfl,hd,hl,hk⟩
 have hof:=zGJ (t:=t) (n:=(k.decide P u T t).2.1.count) (hl.sents.below hl.below) hd
 have hsh:=zE9 hd
 have hr1:=(hk.block _ (zA2 HW.out.2.1) ((HW.out.2.2.go HW.out.1).calm HW.out.2.1 (by unfold Calm;decide))).trans HW.out.2.1
 have HL:Hid _:=And.intro hl (And.intro hk hr1)
 clear hf hl hk hr1 hd
 have fin:∀ w2,Below w1.heap.size w1 w2→Hid (w2.heap[w.heap.size]?=some (.cells #[.int .i64 0,.int .i64 0,.int .i64 0,.int .i64 0,.int .i64 0,.int .i64 0,.int .i64 0,.string { data:=#[] }] 40 (0,0))∧∀ w3,Keep w.heap.size w2 w3→LiveX F P A w0 wl lo c (k.decide P u T t).2.1 u sp (k.decide P u T t).2.2 X w3∧KeepX X w w3):=fun w2 hb=>by
  have hr2:=(hb.block _ (zA2 HL.out.2.2)).trans HL.out.2.2
  refine⟨hr2,fun w3 hk3=>⟨(HL.out.1.go hb).set hr2 (by unfold Calm;decide) (Nat.le_trans HW.out.2.2.size.1 HW.out.2.2.le) (.inr HW.out.2.2.le) hk3.x,⟨hk3.os.trans (hb.os.trans (HL.out.2.1.os.trans HW.out.1.os)),hk3.tape.trans (hb.tape.trans (HL.out.2.1.tape.trans HW.out.1.tape)),hk3.output.trans (hb.output.trans (HL.out.2.1.output.trans HW.out.1.output)),Nat.le_trans HW.out.1.size (Nat.le_trans HL.out.2.1.size (Nat.le_trans hb.size hk3.size)),fun b lt nx=>?_⟩⟩⟩
  have l1:=Nat.lt_of_lt_of_le lt HW.out.1.size
  have l2:=Nat.lt_of_lt_of_le l1 HL.out.2.1.size
  exact(hk3.block b (Nat.lt_of_lt_of_le l2 hb.size) (by omega)).trans ((hb.block b l2).trans ((HL.out.2.1.block b l1 nx).trans (HW.out.1.block b lt)))
 have FIN:Hid _:=fin
 clear fin
 generalize hdn:(k.decide P u T t).2.1.count=dn at *
 generalize hde:(k.decide P u T t).1.e=de at *
 generalize hdp:(k.decide P u T t).1.p=dp at *
 generalize hdm:(k.decide P u T t).1.m=dm at *
 have HD:Hid _:=And.intro hdn (And.intro hde (And.intro hdp hdm))
 clear hdn hde hdp hdm
 rcases hsh with rfl | ⟨T2,x2,rfl⟩
 all_goals
  go_wp2_with fail
  refine hof.mono ?_
  rintro e w2 ⟨rfl,hb⟩
  have H2:=FIN.out w2 hb
  have hr2:=H2.out.1
  have rc0:=zA0 (i:=0) (v:=.int .i64 0) hr2 rfl
  have rz0:=zA1 (i:=0) hr2
  have rc1:=zA0 (i:=1) (v:=.int .i64 0) hr2 rfl
  have rz1:=zA1 (i:=1) hr2
  have rc2:=zA0 (i:=2) (v:=.int .i64 0) hr2 rfl
  have rz2:=zA1 (i:=2) hr2
  have rc3:=zA0 (i:=3) (v:=.int .i64 0) hr2 rfl
  have rz3:=zA1 (i:=3) hr2
  have rc4:=zA0 (i:=4) (v:=.int .i64 0) hr2 rfl
  have rz4:=zA1 (i:=4) hr2
  have rc5:=zA0 (i:=5) (v:=.int .i64 0) hr2 rfl
  have rz5:=zA1 (i:=5) hr2
  have rc6:=zA0 (i:=6) (v:=.int .i64 0) hr2 rfl
  have rz6:=zA1 (i:=6) hr2
  have rc7:=zA0 (i:=7) (v:=.string { data:=#[] }) hr2 rfl
  have rz7:=zA1 (i:=7) hr2
  clear hof hb hr2
  go_wp2
  refine bodyPost_ret (v:=.agg #[.int .i64 t,.int .i64 dn,.int .i64 0,.int .i64 0,.int .i64 de,.int .i64 dp,.int .i64 dm,.string { data:=#[] }]) (by simp[results,Tryz.results8,go_sem,rc0,rc1,rc2,rc3,rc4,rc5,rc6,rc7]) rfl ?_
  refine⟨by rw[HD.out.1,HD.out.2.1,HD.out.2.2.1,HD.out.2.2.2],H2.out.2 _ ?_⟩
  iterate 8 (refine Keep.setR ?_ _ _)
  exact Keep.refl _ _
end
end Go.Proofs.YtbokdbaagacnlaaGreatDoor
namespace Go.Proofs.YtbokdbaagacnlaaGreatDoor
open Go.RowKit Go.Lib Go.Shelf
def KeepV (N:Nat)(W w':World):Prop:=∀ (b:Nat) (cs:Array Value) (T:TypeId),N≤b→(T=25∨T=35)→W.heap[b]?=some (Obj.cells cs T (0,0))→w'.heap[b]?=some (Obj.cells cs T (0,0))
set_option maxRecDepth 1000000 in
set_option maxHeartbeats 1000000 in
theorem zPM {w:World}{x r:Nat}{tk:Bool}{name:ByteArray}{v t E:Int}{Q Q2:World→Prop}
  (hc:∀ W,Below w.heap.size w W→Calls Tryz.prog 27 #[ptr x,.string name,.int .i64 v,.int .i64 t] W fun e w'=>e=.returned (.agg #[.int .i64 E,.int .i64 0,.int .i64 0,.string { data:=#[] }])∧KeepV w.heap.size W w'∧Q w')
  (hr:∀ (w1 w2:World),Q w1→Below w1.heap.size w1 w2→Calls Tryz.prog 28 #[ptr r,.string name,.int .i64 v,.int .i64 t] w2 fun e w'=>e=.returned (.int .i64 E)∧KeepV w.heap.size w2 w'∧Q2 w'):
  Calls Tryz.prog 11 #[ptr x,ptr r,.agg #[.bool tk,.string name,.int .i64 v,.int .i64 t]] w fun e w'=>e=.returned (.bool true)∧Q2 w':=by
 have HC:Hid _:=hc
 have HR:Hid _:=hr
 clear hc hr
 go_enter Tryz.func11,Tryz.ntmps11
 go_wp2_with fail
 have hb1:Below w.heap.size w (w.alloc (.cells #[.bool tk,.string name,.int .i64 v,.int .i64 t] 35)):=(Below.refl _ _).alloc (Nat.le_refl _) _
 have ho1:(w.alloc (.cells #[.bool tk,.string name,.int .i64 v,.int .i64 t] 35)).heap[w.heap.size]?=some (Obj.cells #[.bool tk,.string name,.int .i64 v,.int .i64 t] 35 (0,0)):=heap_alloc_new _ _
 refine(HC.out _ hb1).mono ?_
 rintro e w1 ⟨rfl,hk1,hq1⟩
 have ho2:=hk1 _ _ _ (Nat.le_refl _) (.inr rfl) ho1
 have o1:=zA0 (i:=1) (v:=.string name) ho2 rfl
 have o2:=zA0 (i:=2) (v:=.int .i64 v) ho2 rfl
 have o3:=zA0 (i:=3) (v:=.int .i64 t) ho2 rfl
 have lw:=zA2 ho2
 have HQ1:Hid _:=hq1
 clear hb1 ho1 hk1 hq1
 go_wp2_with fail
 have hb2:Below w1.heap.size w1 (w1.alloc (.cells #[.int .i64 E,.int .i64 0,.int .i64 0,.string { data:=#[] }] 25)):=(Below.refl _ _).alloc (Nat.le_refl _) _
 have hT:(w1.alloc (.cells #[.int .i64 E,.int .i64 0,.int .i64 0,.string { data:=#[] }] 25)).heap[w1.heap.size]?=some (Obj.cells #[.int .i64 E,.int .i64 0,.int .i64 0,.string { data:=#[] }] 25 (0,0)):=heap_alloc_new _ _
 refine(HR.out _ _ HQ1.out hb2).mono ?_
 rintro e w2 ⟨rfl,hk2,hq2⟩
 have hT2:=hk2 _ _ _ (Nat.le_of_lt lw) (.inl rfl) hT
 have t0:=zA0 (i:=0) (v:=.int .i64 E) hT2 rfl
 have t1:=zA0 (i:=1) (v:=.int .i64 0) hT2 rfl
 have HQ2:Hid _:=hq2
 clear hb2 hT hk2 hq2 hT2 ho2 o1 o2 o3
 go_wp2
 go_ret
 exact⟨rfl,HQ2.out⟩
theorem LiveX.lower {F:ByteArray→Option Value}{P:ByteArray→List Int→WT→PFound × WT}{A:Nat→Addr}{w0 wl:World}{lo c:Nat}{k:Ctl}{u:Tree}{sp:List (ByteArray × Int)}{T:WT}{X:Nat→Prop}{w:World}(h:LiveX F P A w0 wl lo c k u sp T X w){v:World}(hs:SentsX A v)(hb:Below v.heap.size v w0):LiveX F P A v wl lo c k u sp T X w:=
 ⟨hs,hb.trans (h.below.mono hb.size),h.ok,h.fit,h.spans,h.times,⟨Nat.le_trans hb.size h.size.1,h.size.2⟩,h.same,h.probe,h.ex⟩
abbrev RBA (r:Nat)(g:Nat→Nat)(lv:Nat→Value)(av:Value)(n:Nat)(b:Nat):Prop:=RB r g lv n b∨av.ownBlock=some b
section
variable {w w':World} {r:Nat} {rv:Value} {k:Ctl} {ms:List ByteArray} {S:Fed} {g:Nat→Nat} {lv:Nat→Value} {av:Value}
theorem RefC.other (h:RefC w r rv k ms S g lv av){Y:Nat→Prop}(hk:KeepX Y w w')(hY:∀ b,RBA r g lv av ms.length b→¬ Y b):RefC w' r rv k ms S g lv av:=
 ⟨(hk.block r (zA2 h.blk) (hY r (.inl (.inl rfl)))).trans h.blk,zA7 h.row fun b hg=>hk.block b (h.row.lt _ hg).2 (hY b (.inr hg)),fun i s hs=>(hk.block _ (zA2 (h.ser i s hs)) (hY _ (.inl (.inr ⟨i,(List.getElem?_eq_some_iff.1 hs).1,.inl rfl⟩)))).trans (h.ser i s hs),fun i s hs=>zA7 (h.own i s hs) fun b hg=>hk.block b ((h.own i s hs).lt _ hg).2 (hY b (.inl (.inr ⟨i,(List.getElem?_eq_some_iff.1 hs).1,.inr hg⟩))),h.nodup,h.few,h.fit,h.apart⟩
theorem RefC.lt (h:RefC w r rv k ms S g lv av){b:Nat}(hb:RBA r g lv av ms.length b):b<w.heap.size:=by
 rcases hb with(rfl | ⟨i,hi,rfl | e⟩) | e
 ·exact zA2 h.blk
 ·exact zA2 (h.ser i _ (List.getElem?_eq_getElem hi))
 ·exact((h.own i _ (List.getElem?_eq_getElem hi)).lt _ e).2
 ·exact(h.row.lt _ e).2
theorem RefC.calm (h:RefC w r rv k ms S g lv av){b:Nat}{cs:Array Value}{T:TypeId}{fr:Nat × Nat}(hx:w.heap[b]?=some (.cells cs T fr))(hT:T≠78∧T≠118∧T≠135∧T≠115):¬ RBA r g lv av ms.length b:=by
 have key:∀ {cs2:Array Value} {T2:TypeId},w.heap[b]?=some (Obj.cells cs2 T2 (0,0))→T=T2:=fun {cs2 T2} e=>by
  rw[hx] at e
  injection e with e
  injection e with _ e
 rintro((rfl | ⟨i,hi,rfl | e⟩) | e)
 ·exact hT.1 (key h.blk)
 ·exact hT.2.1 (key (h.ser i _ (List.getElem?_eq_getElem hi)))
 ·obtain⟨cs2,e2⟩:=zAQ (h.own i _ (List.getElem?_eq_getElem hi)) e
  exact hT.2.2.1 (key e2)
 ·obtain⟨cs2,e2⟩:=zAQ h.row e
  exact hT.2.2.2 (key e2)
end
structure PairAt (A:Nat→Addr) (w0:World) (t:Tree) (i x r:Nat) (Z N:Nat→Prop) (w:World) (F:ByteArray→Option Value) (wl:World) (lo c:Nat) (k:Ctl) (T:WT) (S:Fed) (X:Nat→Prop) (g:Nat→Nat) (lv:Nat→Value) (av:Value) (pa:Option Addr) (nl nh:Nat):Prop where
 obj:w.heap[x]?=some (.cells #[ptr c] 74 (0,0))
 live:LiveX F zAC A w0 wl lo c k (bare t) (zA5 t) T X w
 ref:RefC w r (.pointer pa) k (msOf t) S g lv av
 ts:TS (zA5 t) S k.time T
 node:zA9 (fun b=>nl≤b∧b<nh) w t (.pointer pa)
 none:∀ m,m ∉ msOf t→S m=[]
 room:∀ s,(S s).length≤i
 z:∀ b,Z b↔(X b∨RBA r g lv av (msOf t).length b)
 n:∀ b,N b↔(b=x∨(nl≤b∧b<nh)∨(lo≤b∧b<wl.heap.size))
 zn:∀ b,Z b→w0.heap.size≤b∧¬ N b
 apart:∀ b,X b→¬ RBA r g lv av (msOf t).length b
 high:nh≤w.heap.size
def Pair (A:Nat→Addr)(w0:World)(t:Tree)(i x r:Nat)(Z N:Nat→Prop)(w:World):Prop:=
 Fit t∧size t≤200∧∃ F wl lo c k T S X g lv av pa nl nh,PairAt A w0 t i x r Z N w F wl lo c k T S X g lv av pa nl nh
def zN1 (T:TypeId):Prop:=T=25∨T=35∨T=40∨T=74
def KeepQ (w w':World):Prop:=∀ (b:Nat) (cs:Array Value) (T:TypeId),zN1 T→w.heap[b]?=some (Obj.cells cs T (0,0))→w'.heap[b]?=some (Obj.cells cs T (0,0))
theorem zN1.calm {T:TypeId}(h:zN1 T):Calm T:=by
 unfold Calm
 rcases h with rfl | rfl | rfl | rfl <;> decide
theorem zN1.ref {T:TypeId}(h:zN1 T):T≠78∧T≠118∧T≠135∧T≠115:=by
 rcases h with rfl | rfl | rfl | rfl <;> decide
section
variable {A:Nat→Addr} {w0:World} {t:Tree} {i x r:Nat} {Z N:Nat→Prop} {w:World}
theorem Pair.lt (h:Pair A w0 t i x r Z N w){b:Nat}(hb:Z b):b<w.heap.size:=by
 obtain⟨-,-,F,wl,lo,c,k,T,S,X,g,lv,av,pa,nl,nh,h⟩:=h
 rcases (h.z b).1 hb with e | e
 ·exact h.live.lt e
 ·exact h.ref.lt e
theorem Pair.ltN (h:Pair A w0 t i x r Z N w){b:Nat}(hb:N b):b<w.heap.size:=by
 obtain⟨-,-,F,wl,lo,c,k,T,S,X,g,lv,av,pa,nl,nh,h⟩:=h
 have h1:=h.high
 have h2:=h.live.le
 rcases (h.n b).1 hb with rfl | e | e
 ·exact zA2 h.obj
 ·omega
 ·omega
theorem Pair.zn (h:Pair A w0 t i x r Z N w){b:Nat}(hb:Z b):w0.heap.size≤b∧¬ N b:=by
 obtain⟨-,-,F,wl,lo,c,k,T,S,X,g,lv,av,pa,nl,nh,h⟩:=h
 exact h.zn b hb
theorem Pair.below (h:Pair A w0 t i x r Z N w):Below w0.heap.size w0 w:=by
 obtain⟨-,-,F,wl,lo,c,k,T,S,X,g,lv,av,pa,nl,nh,h⟩:=h
 exact h.live.below
theorem Pair.calm (h:Pair A w0 t i x r Z N w){b:Nat}{cs:Array Value}{T:TypeId}{fr:Nat × Nat}(hx:w.heap[b]?=some (.cells cs T fr))(hT:zN1 T):¬ Z b:=by
 obtain⟨-,-,F,wl,lo,c,k,T,S,X,g,lv,av,pa,nl,nh,h⟩:=h
 intro hb
 rcases (h.z b).1 hb with e | e
 ·exact h.live.calm hx hT.calm e
 ·exact h.ref.calm hx hT.ref e
theorem Pair.obj (h:Pair A w0 t i x r Z N w):∃ c,w.heap[x]?=some (.cells #[ptr c] 74 (0,0)):=by
 obtain⟨-,-,F,wl,lo,c,k,T,S,X,g,lv,av,pa,nl,nh,h⟩:=h
 exact⟨c,h.obj⟩
theorem Pair.more (h:Pair A w0 t i x r Z N w){j:Nat}(hj:i≤j):Pair A w0 t j x r Z N w:=by
 obtain⟨hf,hz,F,wl,lo,c,k,T,S,X,g,lv,av,pa,nl,nh,h⟩:=h
 exact⟨hf,hz,F,wl,lo,c,k,T,S,X,g,lv,av,pa,nl,nh,h.obj,h.live,h.ref,h.ts,h.node,h.none,fun s=>Nat.le_trans (h.room s) hj,h.z,h.n,h.zn,h.apart,h.high⟩
theorem Pair.lower (h:Pair A w0 t i x r Z N w){v:World}(hs:SentsX A v)(hb:Below v.heap.size v w0):Pair A v t i x r Z N w:=by
 obtain⟨hf,hz,F,wl,lo,c,k,T,S,X,g,lv,av,pa,nl,nh,h⟩:=h
 exact⟨hf,hz,F,wl,lo,c,k,T,S,X,g,lv,av,pa,nl,nh,h.obj,h.live.lower hs hb,h.ref,h.ts,h.node,h.none,h.room,h.z,h.n,fun b hb2=>⟨Nat.le_trans hb.size (h.zn b hb2).1,(h.zn b hb2).2⟩,h.apart,h.high⟩
theorem Pair.other (h:Pair A w0 t i x r Z N w){Y:Nat→Prop}{w':World}(hk:KeepX Y w w')(hY:∀ b,Y b→w0.heap.size≤b∧¬ Z b∧¬ N b):Pair A w0 t i x r Z N w':=by
 obtain⟨hf,hz,F,wl,lo,c,k,T,S,X,g,lv,av,pa,nl,nh,h⟩:=h
 have nx:¬ Y x:=fun e=>(hY x e).2.2 ((h.n x).2 (.inl rfl))
 exact⟨hf,hz,F,wl,lo,c,k,T,S,X,g,lv,av,pa,nl,nh,(hk.block x (zA2 h.obj) nx).trans h.obj,
  h.live.other hk (fun b hb e=>(hY b e).2.1 ((h.z b).2 (.inl hb))) (fun b e=>⟨(hY b e).1,by
   have hno:¬ (lo≤b∧b<wl.heap.size):=fun q=>(hY b e).2.2 ((h.n b).2 (.inr (.inr q)))
   omega⟩),
  h.ref.other hk (fun b hb e=>(hY b e).2.1 ((h.z b).2 (.inr hb))),h.ts,h.node.moves fun b hb hlt=>⟨hb,hk.block b hlt fun e=>(hY b e).2.2 ((h.n b).2 (.inr (.inl hb)))⟩,h.none,h.room,h.z,h.n,h.zn,h.apart,Nat.le_trans h.high hk.size⟩
theorem Pair.go (h:Pair A w0 t i x r Z N w){w':World}(hb:Below w.heap.size w w'):Pair A w0 t i x r Z N w':=
 h.other (Y:=fun _=>False) (KeepX.of_below hb) (fun _ e=>e.elim)
theorem Pair.feed (h:Pair A w0 t i x r Z N w)(hi:i<1073741824){tk:Bool}(name:ByteArray){v tm:Int}(hv:In64 v)(ht:In64 tm):
  Calls Tryz.prog 11 #[ptr x,ptr r,.agg #[.bool tk,.string name,.int .i64 v,.int .i64 tm]] w fun e w'=>e=.returned (.bool true)∧∃ Z',Pair A w0 t (i+1) x r Z' N w'∧Grew Z Z' w∧KeepX Z w w':=by
 obtain⟨hf,hz,F,wl,lo,c,k,T,S,X,g,lv,av,pa,nl,nh,h⟩:=h
 have xz:∀ b,X b→Z b:=fun b hb=>(h.z b).2 (.inl hb)
 have rz:∀ b,RBA r g lv av (msOf t).length b→Z b:=fun b hb=>(h.z b).2 (.inr hb)
 refine zPM (E:=(k.feed (zA5 t) T name v tm).1.e) (Q:=fun w1=>∃ X',LiveX F zAC A w0 wl lo c (k.feed (zA5 t) T name v tm).2.1 (bare t) (zA5 t) (k.feed (zA5 t) T name v tm).2.2 X' w1∧Grew X X' w∧KeepX X w w1) (fun W hW=>?_) (fun w1 w2 hq hb2=>?_)
 ·have hl:=h.live.go hW
  refine(px_Feed ((hW.block x (zA2 h.obj)).trans h.obj) hl name hv ht).mono ?_
  rintro e w1 ⟨rfl,X',h1,h2,h3⟩
  refine⟨rfl,fun b cs Ty _ hTy hb=>(h3.block b (zA2 hb) (hl.calm hb (zN1.calm (hTy.imp id .inl)))).trans hb,X',h1,fun b hb=>(h2 b hb).imp id fun q=>Nat.le_trans hW.size q,(KeepX.of_below hW).trans h3⟩
 ·obtain⟨X',h1,h2,h3⟩:=hq
  have hr2:RefC w2 r (.pointer pa) k (msOf t) S g lv av:=(h.ref.other h3 fun b hb e=>h.apart b e hb).below hb2
  have hl2:=h1.go hb2
  have k2:KeepX X w w2:=h3.below hb2
  have lt1:∀ b,X' b→b<w1.heap.size:=fun b hb=>h1.lt hb
  have xr:∀ b,X' b→¬ RBA r g lv av (msOf t).length b:=fun b hb e=>by
   rcases h2 b hb with q | q
   ·exact h.apart b q e
   ·have:=h.ref.lt e
    omega
  refine(zQG hr2 hv ht (fun s _=>by have:=h.room s;omega)).mono ?_
  rintro e w' ⟨hfr⟩
  -- the pair behind it,whatever was told
  have fin:∀ (W:World) (k1:Ctl) (T1:WT) (S1:Fed) (lv1:Nat→Value),KeepX (RB r g lv (msOf t).length) w2 W→LiveX F zAC A w0 wl lo c k1 (bare t) (zA5 t) T1 X' w2→RefC W r (.pointer pa) k1 (msOf t) S1 g lv1 av→TS (zA5 t) S1 k1.time T1→(∀ m,m ∉ msOf t→S1 m=[])→(∀ s,(S1 s).length≤i+1) →
    (∀ j,lv1 j=lv j∨∃ b,(lv1 j).ownBlock=some b∧((lv j).ownBlock=some b∨w2.heap.size≤b))→KeepV w.heap.size w2 W∧∃ Z',Pair A w0 t (i+1) x r Z' N W∧Grew Z Z' w∧KeepX Z w W:=fun W k1 T1 S1 lv1 hk hlv href hts hno hrm hgr=>by
   have kz:KeepX Z w W:=⟨hk.os.trans k2.os,hk.tape.trans k2.tape,hk.output.trans k2.output,Nat.le_trans k2.size hk.size,fun b lt nz=>(hk.block b (Nat.lt_of_lt_of_le lt k2.size) (fun e=>nz (rz b (.inl e)))).trans (k2.block b lt fun e=>nz (xz b e))⟩
   have rgr:∀ b,RBA r g lv1 av (msOf t).length b→RBA r g lv av (msOf t).length b∨w2.heap.size≤b:=fun b hb=>by
    rcases hb with(e | ⟨j,hj,e | e⟩) | e
    ·exact .inl (.inl (.inl e))
    ·exact .inl (.inl (.inr ⟨j,hj,.inl e⟩))
    ·rcases hgr j with q | ⟨b2,q1,q2⟩
     ·exact .inl (.inl (.inr ⟨j,hj,.inr (q ▸ e)⟩))
     ·rw[e] at q1
      injection q1 with q1
      subst q1
      rcases q2 with q2 | q2
      ·exact .inl (.inl (.inr ⟨j,hj,.inr q2⟩))
      ·exact .inr q2
    ·exact .inl (.inr e)
   have sz1:=h3.size
   have sz2:=hb2.size
   have grew:Grew Z (fun b=>X' b∨RBA r g lv1 av (msOf t).length b) w:=fun b hb=>by
    rcases hb with hb | hb
    ·exact(h2 b hb).imp (xz b) id
    ·exact(rgr b hb).imp (rz b) fun q=>by omega
   have nN:∀ b,N b→b<w.heap.size:=fun b hb=>Pair.ltN ⟨hf,hz,F,wl,lo,c,k,T,S,X,g,lv,av,pa,nl,nh,h⟩ hb
   have nz:∀ b,N b→¬ Z b:=fun b hb e=>(h.zn b e).2 hb
   have w0le:=h.live.below.size
   refine⟨fun b cs Ty _ hTy hb=>(hk.block b (zA2 hb) fun e=>hr2.calm hb (zN1.ref (hTy.imp id .inl)) (.inl e)).trans hb,fun b=>X' b∨RBA r g lv1 av (msOf t).length b,⟨hf,hz,F,wl,lo,c,k1,T1,S1,X',g,lv1,av,pa,nl,nh,?_⟩,grew,kz⟩
   refine⟨(kz.block x (zA2 h.obj) (nz x ((h.n x).2 (.inl rfl)))).trans h.obj,hlv.other hk (fun b hb e=>xr b hb (.inl e)) (fun b e=>?_),href,hts,h.node.moves fun b hb hlt=>⟨hb,kz.block b hlt (nz b ((h.n b).2 (.inr (.inl hb))))⟩,hno,hrm,fun b=>Iff.rfl,h.n,fun b hb=>?_,fun b hb e=>?_,Nat.le_trans h.high kz.size⟩
   ·obtain⟨q1,q2⟩:=h.zn b (rz b (.inl e))
    have hno:¬ (lo≤b∧b<wl.heap.size):=fun q=>q2 ((h.n b).2 (.inr (.inr q)))
    exact⟨q1,by omega⟩
   ·rcases grew b hb with q | q
    ·exact h.zn b q
    ·exact⟨Nat.le_trans w0le q,fun e=>by have:=nN b e;omega⟩
   ·rcases rgr b e with q | q
    ·exact xr b hb q
    ·have:=lt1 b hb
     omega
  rcases hfr with⟨q1,rfl,rfl⟩ | ⟨q1,q2,rfl,rfl⟩ | ⟨q1,q2,rfl,q3,lv1,q4,q5⟩
  ·have ef:k.feed (zA5 t) T name v tm=(.stale,k,T):=by unfold Ctl.feed;rw[if_pos q1]
   rw[ef] at hl2 ⊢
   exact⟨rfl,fin _ k T S lv (KeepX.refl _ _) hl2 hr2 h.ts h.none (fun s=>Nat.le_succ_of_le (h.room s)) fun j=>.inl rfl⟩
  ·have ef:k.feed (zA5 t) T name v tm=(.metric,k,T):=by unfold Ctl.feed;rw[if_neg q1,if_neg (fun e=>q2 ((zJA t name).2 e))]
   rw[ef] at hl2 ⊢
   exact⟨rfl,fin _ k T S lv (KeepX.refl _ _) hl2 hr2 h.ts h.none (fun s=>Nat.le_succ_of_le (h.room s)) fun j=>.inl rfl⟩
  ·have ef:k.feed (zA5 t) T name v tm=(.fine,{ k with time:=tm },fun s n=>if s=name then(tm,Win.trim n tm ((T s n).2 ++ [(tm,v)])) else T s n):=by unfold Ctl.feed;rw[if_neg q1,if_pos ((zJA t name).1 q2)]
   rw[ef] at hl2 ⊢
   refine⟨rfl,fin _ _ _ _ lv1 q3 hl2 q4 (h.ts.feed v (by omega)) (fun m hm=>?_) (fun s=>?_) q5⟩
   ·unfold zFM
    rw[if_neg (fun(e:m=name)=>hm (by rw[e];exact q2))]
    exact h.none m hm
   ·have:=h.room s
    unfold zFM
    split
    ·simp
     omega
    ·omega
theorem Pair.tick (h:Pair A w0 t i x r Z N w){tm:Int}(ht:In64 tm):
  Calls Tryz.prog 8 #[ptr x,.int .i64 tm] w fun e w1=>∃ n d p m,e=.returned (.agg #[.int .i64 tm,.int .i64 n,.int .i64 0,.int .i64 0,.int .i64 d,.int .i64 p,.int .i64 m,.string { data:=#[] }])∧KeepX Z w w1 ∧
   ∀ w2,Below w1.heap.size w1 w2→Calls Tryz.prog 9 #[ptr r,.int .i64 tm] w2 fun e w'=>e=.returned (.tuple #[.int .i64 n,.agg #[.int .i64 0,.int .i64 d,.int .i64 p,.int .i64 m]])∧Pair A w0 t i x r Z N w'∧KeepX Z w2 w'∧KeepQ w2 w':=by
 obtain⟨hf,hz,F,wl,lo,c,k,T,S,X,g,lv,av,pa,nl,nh,h⟩:=h
 have xz:∀ b,X b→Z b:=fun b hb=>(h.z b).2 (.inl hb)
 have rz:∀ b,RBA r g lv av (msOf t).length b→Z b:=fun b hb=>(h.z b).2 (.inr hb)
 have nz:∀ b,N b→¬ Z b:=fun b hb e=>(h.zn b e).2 hb
 refine(px_Tick h.obj h.live ht).mono ?_
 rintro e w1 ⟨rfl,hl,hk⟩
 have hdm:k.decide zAC (bare t) T tm=k.decide zAC t T tm:=by unfold Ctl.decide;rw[zEM]
 obtain⟨d1,d2,d3⟩:=zK8 (k:=k) hf (sp:=zA5 t) (fun _ hq=>hq) h.ts (tm:=tm)
 rw[hdm] at hl ⊢
 rw[d1]
 refine⟨_,_,_,_,rfl,⟨hk.os,hk.tape,hk.output,hk.size,fun b lt nb=>hk.block b lt fun e=>nb (xz b e)⟩,fun w2 hb2=>?_⟩
 have k2:KeepX X w w2:=hk.below hb2
 have hr2:RefC w2 r (.pointer pa) k (msOf t) S g lv av:=(h.ref.other hk fun b hb e=>h.apart b e hb).below hb2
 have nx:∀ b,N b→¬ X b:=fun b hb e=>nz b hb (xz b e)
 have hn2:zA9 (fun b=>nl≤b∧b<nh) w2 t (.pointer pa):=h.node.moves fun b hb hlt=>⟨hb,k2.block b hlt (nx b ((h.n b).2 (.inr (.inl hb))))⟩
 have nr:¬ N r:=fun e=>nz r e (rz r (.inl (.inl rfl)))
 refine(zQF hr2 h.none h.live.ok hf hz (hn2.moves fun b hb _=>⟨fun(e:b=r)=>nr ((h.n r).2 (.inr (.inl (by rw[←e];exact hb)))),rfl⟩) ht).mono ?_
 rintro e w' ⟨rfl,href,hk3⟩
 have lw2:=hl.go hb2
 have kz:KeepX Z w2 w':=⟨hk3.os,hk3.tape,hk3.output,hk3.size,fun b lt nb=>hk3.block b lt fun e=>nb (by subst e;exact rz _ (.inl (.inl rfl)))⟩
 refine⟨by rw[d2],⟨hf,hz,F,wl,lo,c,(k.decide zAC t T tm).2.1,(k.decide zAC t T tm).2.2,S,X,g,lv,av,pa,nl,nh,?_⟩,kz,fun b cs Ty hTy hb=>(hk3.block b (zA2 hb) fun e=>hr2.calm hb hTy.ref (.inl (.inl e))).trans hb⟩
 refine⟨?_,lw2.other hk3 (fun b hb (e:b=r)=>h.apart b hb (.inl (.inl e))) (fun b (e:b=r)=>?_),d2 ▸ href,d3,hn2.moves fun b hb hlt=>⟨hb,kz.block b hlt (nz b ((h.n b).2 (.inr (.inl hb))))⟩,h.none,h.room,h.z,h.n,h.zn,h.apart,Nat.le_trans h.high (Nat.le_trans k2.size kz.size)⟩
 ·have hx2:=(k2.block x (zA2 h.obj) (nx x ((h.n x).2 (.inl rfl)))).trans h.obj
  exact(kz.block x (zA2 hx2) (nz x ((h.n x).2 (.inl rfl)))).trans hx2
 ·subst e
  obtain⟨q1,q2⟩:=h.zn b (rz b (.inl (.inl rfl)))
  have hno:¬ (lo≤b∧b<wl.heap.size):=fun q=>q2 ((h.n b).2 (.inr (.inr q)))
  exact⟨q1,by omega⟩
end
theorem pair_new {A:Nat→Addr}{w w1 wl W:World}{t:Tree}{F:ByteArray→Option Value}{lo c x r:Nat}{k:Ctl}{X:Nat→Prop}{pa:Option Addr}{g:Nat→Nat}{av:Value}(hA:SentsX A w)(hf:Fit t)(hz:size t≤200)(hb1:Below w.heap.size w w1)(hx:W.heap[x]?=some (.cells #[ptr c] 74 (0,0)))(hlv:LiveX F zAC A w1 wl lo c k (bare t) (zA5 t) zJZ X W)(hX:∀ b,X b→wl.heap.size≤b∧b<r)(hxr:x<r)
  (href:RefC W r (.pointer pa) k (msOf t) (fun _=>[]) g (fun _=>.slice none 0 0) av) (hg:∀ j,j<(msOf t).length→r≤g j) (hav:∀ b,av.ownBlock=some b→r≤b) (hwr:wl.heap.size≤r) (hlo:w1.heap.size<lo) (hn:zA9 (fun b=>w.heap.size≤b∧b<w1.heap.size) W t (.pointer pa)):
  ∃ Z N,zA9 N W t (.pointer pa)∧Pair A w t 0 x r Z N W∧(∀ b,Z b→w.heap.size≤b)∧∀ b,N b→w.heap.size≤b∨b=x:=by
 have s1:=hb1.size
 have s2:=hlv.size
 have rr:∀ b,RBA r g (fun _=>.slice none 0 0) av (msOf t).length b→r≤b:=fun b hb=>by
  rcases hb with(e | ⟨j,hj,e | e⟩) | e
  ·omega
  ·have:=hg j hj
   omega
  ·cases e
  ·exact hav b e
 refine⟨fun b=>X b∨RBA r g (fun _=>.slice none 0 0) av (msOf t).length b,fun b=>b=x∨(w.heap.size≤b∧b<w1.heap.size)∨(lo≤b∧b<wl.heap.size),hn.moves fun b hb _=>⟨.inr (.inl hb),rfl⟩,⟨hf,hz,F,wl,lo,c,k,zJZ,fun _=>[],X,g,fun _=>.slice none 0 0,av,pa,w.heap.size,w1.heap.size,⟨hx,hlv.lower hA hb1,href,TS.fresh _ _ hlv.ok.time.1,hn,fun _ _=>rfl,fun _=>Nat.le_refl _,fun _=>Iff.rfl,fun _=>Iff.rfl,fun b hb=>?_,fun b hb e=>?_,hlv.below.size⟩⟩,fun b hb=>?_,fun b hb=>?_⟩
 ·rcases hb with e | e
  ·have q:=hX b e
   refine⟨by omega,fun e2=>?_⟩
   rcases e2 with e2 | e2 | e2
   ·exact hlv.calm hx (zN1.calm (.inr (.inr (.inr rfl)))) (e2 ▸ e)
   ·omega
   ·omega
  ·have q:=rr b e
   exact⟨by omega,fun e2=>by omega⟩
 ·have:=(hX b hb).2
  have:=rr b e
  omega
 ·rcases hb with e | e
  ·have q:=hX b e
   omega
  ·have q:=rr b e
   omega
 ·omega
end Go.Proofs.YtbokdbaagacnlaaGreatDoor
