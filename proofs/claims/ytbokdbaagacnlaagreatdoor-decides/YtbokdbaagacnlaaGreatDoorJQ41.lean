import Derived.Test.YtbokdbaagacnlaaGreatDoorJQ40
namespace Go.Proofs.YtbokdbaagacnlaaGreatDoor
open Go.RowKit Go.Lib Go.Shelf
section
variable {w:World} {r:Nat} {rv:Value} {k:Ctl} {ms:List ByteArray} {S:Fed} {g:Nat→Nat} {lv:Nat→Value} {av:Value}
set_option maxRecDepth 1000000 in
set_option maxHeartbeats 8000000 in
theorem tick_low (h:RefC w r rv k ms S g lv av)(hno:∀ m,m ∉ ms→S m=[])(hok:k.Ok){t:Tree}(hf:Fit t)(hz:size t≤200)(hn:zA9 (fun b=>b≠r) w t rv){tm:Int}(ht:In64 tm)(hlt:¬ tm<k.time){n:Int}(hzn:(ev (zD3 (zE1 S tm)) t zAK).1=.val n)(g1:n<k.min):
  Calls Tryz.prog 9 #[ptr r,.int .i64 tm] w fun e w'=>e=.returned (.tuple #[.int .i64 (k.tickR t S tm).2.count,.agg #[.int .i64 0,.int .i64 (k.tickR t S tm).1.e,.int .i64 (k.tickR t S tm).1.p,.int .i64 (k.tickR t S tm).1.m]])∧RefC w' r rv (k.tickR t S tm).2 ms S g lv av∧KeepX (· = r) w w':=by
 have HLT:Hid (¬ tm<k.time):=hlt
 have c6:=zA0 (i:=6) (v:=.int .i64 k.count) h.blk rfl
 have c7:=zA0 (i:=7) (v:=.int .i64 k.time) h.blk rfl
 have z7:=zA1 (i:=7) h.blk
 have lr:=zA2 h.blk
 have c0:=zA0 (i:=0) (v:=rv) h.blk rfl
 obtain⟨pa,rfl⟩:=zJ8 hn
 obtain⟨q1,q2,q3,q4,q5⟩:=zH3 h hno hf hz hn ht
 have HQ:Hid _:=And.intro q1 (And.intro q2 (And.intro q3 q4))
 have HT:Hid (k.tickR t S tm=(if (({ k with time:=tm }:Ctl).approach (Min.min (Max.max n k.min) k.max) tm).1=true then .cooling else .fine,(({ k with time:=tm }:Ctl).approach (Min.min (Max.max n k.min) k.max) tm).2)):=by
  show k.tickR t S tm=_
  unfold Ctl.tickR
  rw[if_neg hlt,hzn]
 clear hn hno h q1 q2 q3 q4
 rw[hzn] at q5
 clear hzn
 go_enter Tryz.func9,Tryz.ntmps9
 go_wp2_with fail
 refine q5.mono ?_
 rintro e w7 ⟨hk7,rfl,hin⟩
 have hR7:=HQ.out.2.1.keep HQ.out.2.2.2 (by decide) hk7
 have hv7:=(hk7.block _ (zA2 HQ.out.2.2.1) (by omega)).trans HQ.out.2.2.1
 have H7:Hid _:=And.intro hk7 (And.intro hR7 hv7)
 have k7:KeepX (· = r) w w7:=by
  have h0:=HQ.out.1
  exact⟨hk7.os.trans h0.os,hk7.tape.trans h0.tape,hk7.output.trans h0.output,Nat.le_trans h0.size hk7.size,fun b lt ne=>(hk7.block b (Nat.lt_of_lt_of_le lt h0.size) (by omega)).trans (h0.block b lt ne)⟩
 have FIN:Hid (∀ (k':Ctl) (w8 w9:World),RefC w8 r (.pointer pa) k' ms S g lv av→KeepX (· = r) w w8→w8.heap[w.heap.size]?=some (.cells #[.int .i64 0,.int .i64 0,.int .i64 0,.int .i64 0] 43 (0,0))→Keep w.heap.size w8 w9→RefC w9 r (.pointer pa) k' ms S g lv av∧KeepX (· = r) w w9):=fun k' w8 w9 h8 h9 h10 h11=>
  ⟨h8.keep h10 (by decide) h11,⟨h11.os.trans h9.os,h11.tape.trans h9.tape,h11.output.trans h9.output,Nat.le_trans h9.size h11.size,fun b lt ne=>(h11.block b (Nat.lt_of_lt_of_le lt h9.size) (by omega)).trans (h9.block b lt ne)⟩⟩
 have l7:=zA2 H7.out.2.2
 have lr7:=zA2 H7.out.2.1.blk
 have e1:=zA0 (i:=1) (v:=.int .i64 k.min) H7.out.2.1.blk rfl
 have e2:=zA0 (i:=2) (v:=.int .i64 k.max) H7.out.2.1.blk rfl
 have e3:=zA0 (i:=3) (v:=.int .i64 k.step) H7.out.2.1.blk rfl
 have e4:=zA0 (i:=4) (v:=.int .i64 k.up) H7.out.2.1.blk rfl
 have e5:=zA0 (i:=5) (v:=.int .i64 k.down) H7.out.2.1.blk rfl
 have e6:=zA0 (i:=6) (v:=.int .i64 k.count) H7.out.2.1.blk rfl
 have e8:=zA0 (i:=8) (v:=.bool k.changed) H7.out.2.1.blk rfl
 have e9:=zA0 (i:=9) (v:=.int .i64 k.change) H7.out.2.1.blk rfl
 have f6:=zA1 (i:=6) H7.out.2.1.blk
 have f8:=zA1 (i:=8) H7.out.2.1.blk
 have f9:=zA1 (i:=9) H7.out.2.1.blk
 have nrw:r≠w.heap.size:=by omega
 have rc0:=zA0 (i:=0) (v:=.int .i64 0) H7.out.2.2 rfl
 have rz0:=zA1 (i:=0) H7.out.2.2
 have rc1:=zA0 (i:=1) (v:=.int .i64 0) H7.out.2.2 rfl
 have rz1:=zA1 (i:=1) H7.out.2.2
 have rc2:=zA0 (i:=2) (v:=.int .i64 0) H7.out.2.2 rfl
 have rz2:=zA1 (i:=2) H7.out.2.2
 have rc3:=zA0 (i:=3) (v:=.int .i64 0) H7.out.2.2 rfl
 have rz3:=zA1 (i:=3) H7.out.2.2
 have K7:Hid _:=k7
 clear q5 hk7 hR7 hv7 k7
 have hval:valV (.val n)=.agg #[.int .i64 n,.int .i64 0,.int .i64 0,.int .i64 0]:=rfl
 rw[hval]
 have om:=hok.max
 have oi:=hok.min
 have oc:=hok.count
 have os:=hok.step
 have ou:=hok.up
 have od:=hok.down
 have och:=hok.change
 have hnin:In64 n:=hin
 clear hval hin
 unfold In64 at hnin
 obtain⟨u,hu⟩:∃ u,u=Min.min (Max.max n k.min) k.max:=⟨_,rfl⟩
 have HT2:Hid (k.tickR t S tm=(if (({ k with time:=tm }:Ctl).approach u tm).1=true then .cooling else .fine,(({ k with time:=tm }:Ctl).approach u tm).2)):=by rw[hu];exact HT.out
 clear HT
 have hu2:u=k.min:=by omega
 rw[hu2] at HT2
 clear hu2 hu
 have CHG:Hid (∀ (N:Int) (nn:Nat) (w9:World),Keep w.heap.size (((((w7.alloc (.cells #[.int .i64 n,.int .i64 0,.int .i64 0,.int .i64 0] 43)).drewN nn).setCell ⟨r,6,none⟩ (.int .i64 N)).setCell ⟨r,8,none⟩ (.bool true)).setCell ⟨r,9,none⟩ (.int .i64 tm)) w9→RefC w9 r (.pointer pa) { k with time:=tm,count:=N,changed:=true,change:=tm } ms S g lv av∧KeepX (· = r) w w9):=fun N nn w9 h9=>by
  have hb8:Below w7.heap.size w7 ((w7.alloc (.cells #[.int .i64 n,.int .i64 0,.int .i64 0,.int .i64 0] 43)).drewN nn):=below_drewN ((Below.refl _ _).alloc (Nat.le_refl _) _) _
  have h8:=H7.out.2.1.below hb8
  have hks:KeepX (· = r) ((w7.alloc (.cells #[.int .i64 n,.int .i64 0,.int .i64 0,.int .i64 0] 43)).drewN nn) (((((w7.alloc (.cells #[.int .i64 n,.int .i64 0,.int .i64 0,.int .i64 0] 43)).drewN nn).setCell ⟨r,6,none⟩ (.int .i64 N)).setCell ⟨r,8,none⟩ (.bool true)).setCell ⟨r,9,none⟩ (.int .i64 tm)):=⟨rfl,rfl,rfl,by simp,fun b _ ne=>(Below.heap_setCell _ _ _ b ne).trans ((Below.heap_setCell _ _ _ b ne).trans (Below.heap_setCell _ _ _ b ne))⟩
  have hc:=h8.turn hks (k':={ k with time:=tm,count:=N,changed:=true,change:=tm }) (zA4 (i:=9) (zA4 (i:=8) (zA4 (i:=6) h8.blk)))
  exact FIN.out _ _ w9 hc (K7.out.trans ((KeepX.of_below hb8).trans hks)) ((hks.block _ (Nat.lt_of_lt_of_le (zA2 H7.out.2.2) hb8.size) (by omega)).trans ((hb8.block _ (zA2 H7.out.2.2)).trans H7.out.2.2)) h9
 have APP:Hid (∀ N:Int,(({ k with time:=tm }:Ctl).approach k.min tm)=(false,{ k with time:=tm,count:=N,changed:=true,change:=tm })→k.tickR t S tm=(.fine,{ k with time:=tm,count:=N,changed:=true,change:=tm })):=fun N e=>by
  rw[HT2.out,e]
  rfl
 rcases Int.lt_trichotomy (k.min) k.count with hlc | hec | hgc
 ·have hps:=zG8 (w7.alloc (.cells #[.int .i64 n,.int .i64 0,.int .i64 0,.int .i64 0] 43)) (a:=k.change) (b:=tm) (n:=k.down) och ht od
  have HLC:Hid _:=hlc
  cases hch:k.changed with
  | true=>
   have HCH:Hid _:=hch
   by_cases hrd:k.down≤tm - k.change
   ·have HRD:Hid _:=hrd
    rw[decide_eq_true hrd] at hps
    go_wp2_with fail
    refine hps.mono ?_
    rintro e w8 ⟨rfl,hw8⟩
    have hw8:=hw8.symm
    subst hw8
    clear hps
    by_cases hst:k.step<k.count - k.min
    ·have f1:IntKind.i64.wrap (k.count - k.min)=k.count - k.min:=by simp only[IntKind.wrap_i64];omega
     have f2:IntKind.i64.wrap (k.count - k.step)=k.count - k.step:=by simp only[IntKind.wrap_i64];omega
     have f3:decide (k.step<k.count - k.min)=true:=by simp;omega
     have f4:decide (k.count<k.min)=false:=by simp;omega
     have f5:decide (k.min<k.count)=true:=by simp;omega
     go_wp2_with fail
     repeat (go_quiet (fail);go_wp2_with fail)
     refine bodyPost_ret (v:=.tuple #[.int .i64 (k.count - k.step),.agg #[.int .i64 0,.int .i64 0,.int .i64 0,.int .i64 0]]) (by simp[results,Tryz.results9,go_sem,rc0,rc1,rc2,rc3,l7]) rfl ?_
     rw[APP.out (k.count - k.step) (zDY (k:={ k with time:=tm }) (.inl ⟨HLC.out,rfl⟩) (.inr HRD.out) (by simp only;omega))]
     exact⟨rfl,CHG.out _ _ _ (by(iterate 4 (refine Keep.setR ?_ _ _));exact Keep.refl _ _)⟩
    ·have f1:IntKind.i64.wrap (k.count - k.min)=k.count - k.min:=by simp only[IntKind.wrap_i64];omega
     have f3:decide (k.step<k.count - k.min)=false:=by simp;omega
     have f4:decide (k.count<k.min)=false:=by simp;omega
     have f5:decide (k.min<k.count)=true:=by simp;omega
     go_wp2_with fail
     repeat (go_quiet (fail);go_wp2_with fail)
     refine bodyPost_ret (v:=.tuple #[.int .i64 (k.min),.agg #[.int .i64 0,.int .i64 0,.int .i64 0,.int .i64 0]]) (by simp[results,Tryz.results9,go_sem,rc0,rc1,rc2,rc3,l7]) rfl ?_
     rw[APP.out (k.min) (zDY (k:={ k with time:=tm }) (.inl ⟨HLC.out,rfl⟩) (.inr HRD.out) (by simp only;omega))]
     exact⟨rfl,CHG.out _ _ _ (by(iterate 4 (refine Keep.setR ?_ _ _));exact Keep.refl _ _)⟩
   ·have HRD:Hid _:=hrd
    rw[decide_eq_false hrd] at hps
    go_wp2_with fail
    refine hps.mono ?_
    rintro e w8 ⟨rfl,hw8⟩
    have hw8:=hw8.symm
    subst hw8
    clear hps
    go_wp2
    refine bodyPost_ret (v:=.tuple #[.int .i64 (k.count),.agg #[.int .i64 0,.int .i64 12,.int .i64 0,.int .i64 0]]) (by simp[results,Tryz.results9,go_sem,rc0,rc1,rc2,rc3,l7]) rfl ?_
    have hap:k.tickR t S tm=(.cooling,{ k with time:=tm }):=by rw[HT2.out,zJF (k:={ k with time:=tm }) (.inl ⟨HLC.out,rfl⟩) HCH.out (by have:=HRD.out;first | exact this | (simp only;omega))];rfl
    rw[hap]
    refine⟨rfl,FIN.out _ w7 _ H7.out.2.1 K7.out H7.out.2.2 ?_⟩
    refine Keep.alloc ?_ _
    iterate 4 (refine Keep.setR ?_ _ _)
    exact Keep.refl _ _
  | false=>
   have HCH:Hid _:=hch
   clear hps
   by_cases hst:k.step<k.count - k.min
   ·have f1:IntKind.i64.wrap (k.count - k.min)=k.count - k.min:=by simp only[IntKind.wrap_i64];omega
    have f2:IntKind.i64.wrap (k.count - k.step)=k.count - k.step:=by simp only[IntKind.wrap_i64];omega
    have f3:decide (k.step<k.count - k.min)=true:=by simp;omega
    have f4:decide (k.count<k.min)=false:=by simp;omega
    have f5:decide (k.min<k.count)=true:=by simp;omega
    go_wp2_with fail
    repeat (go_quiet (fail);go_wp2_with fail)
    refine bodyPost_ret (v:=.tuple #[.int .i64 (k.count - k.step),.agg #[.int .i64 0,.int .i64 0,.int .i64 0,.int .i64 0]]) (by simp[results,Tryz.results9,go_sem,rc0,rc1,rc2,rc3,l7]) rfl ?_
    rw[APP.out (k.count - k.step) (zDY (k:={ k with time:=tm }) (.inl ⟨HLC.out,rfl⟩) (.inl HCH.out) (by simp only;omega))]
    exact⟨rfl,CHG.out _ _ _ (by(iterate 4 (refine Keep.setR ?_ _ _));exact Keep.refl _ _)⟩
   ·have f1:IntKind.i64.wrap (k.count - k.min)=k.count - k.min:=by simp only[IntKind.wrap_i64];omega
    have f3:decide (k.step<k.count - k.min)=false:=by simp;omega
    have f4:decide (k.count<k.min)=false:=by simp;omega
    have f5:decide (k.min<k.count)=true:=by simp;omega
    go_wp2_with fail
    repeat (go_quiet (fail);go_wp2_with fail)
    refine bodyPost_ret (v:=.tuple #[.int .i64 (k.min),.agg #[.int .i64 0,.int .i64 0,.int .i64 0,.int .i64 0]]) (by simp[results,Tryz.results9,go_sem,rc0,rc1,rc2,rc3,l7]) rfl ?_
    rw[APP.out (k.min) (zDY (k:={ k with time:=tm }) (.inl ⟨HLC.out,rfl⟩) (.inl HCH.out) (by simp only;omega))]
    exact⟨rfl,CHG.out _ _ _ (by(iterate 4 (refine Keep.setR ?_ _ _));exact Keep.refl _ _)⟩
 ·have HEC:Hid _:=hec
  go_wp2
  refine bodyPost_ret (v:=.tuple #[.int .i64 (k.count),.agg #[.int .i64 0,.int .i64 0,.int .i64 0,.int .i64 0]]) (by simp[results,Tryz.results9,go_sem,rc0,rc1,rc2,rc3,l7]) rfl ?_
  have hap:k.tickR t S tm=(.fine,{ k with time:=tm }):=by rw[HT2.out,zN0 (k:={ k with time:=tm }) HEC.out];rfl
  rw[hap]
  refine⟨rfl,FIN.out _ w7 _ H7.out.2.1 K7.out H7.out.2.2 ?_⟩
  refine Keep.alloc ?_ _
  iterate 4 (refine Keep.setR ?_ _ _)
  exact Keep.refl _ _
 ·exact absurd oc.1 (by omega)
end
section
variable {w:World} {r:Nat} {rv:Value} {k:Ctl} {ms:List ByteArray} {S:Fed} {g:Nat→Nat} {lv:Nat→Value} {av:Value}
set_option maxRecDepth 1000000 in
set_option maxHeartbeats 8000000 in
theorem tick_high (h:RefC w r rv k ms S g lv av)(hno:∀ m,m ∉ ms→S m=[])(hok:k.Ok){t:Tree}(hf:Fit t)(hz:size t≤200)(hn:zA9 (fun b=>b≠r) w t rv){tm:Int}(ht:In64 tm)(hlt:¬ tm<k.time){n:Int}(hzn:(ev (zD3 (zE1 S tm)) t zAK).1=.val n)(g1:¬ n<k.min)(g2:k.max<n):
  Calls Tryz.prog 9 #[ptr r,.int .i64 tm] w fun e w'=>e=.returned (.tuple #[.int .i64 (k.tickR t S tm).2.count,.agg #[.int .i64 0,.int .i64 (k.tickR t S tm).1.e,.int .i64 (k.tickR t S tm).1.p,.int .i64 (k.tickR t S tm).1.m]])∧RefC w' r rv (k.tickR t S tm).2 ms S g lv av∧KeepX (· = r) w w':=by
 have HLT:Hid (¬ tm<k.time):=hlt
 have c6:=zA0 (i:=6) (v:=.int .i64 k.count) h.blk rfl
 have c7:=zA0 (i:=7) (v:=.int .i64 k.time) h.blk rfl
 have z7:=zA1 (i:=7) h.blk
 have lr:=zA2 h.blk
 have c0:=zA0 (i:=0) (v:=rv) h.blk rfl
 obtain⟨pa,rfl⟩:=zJ8 hn
 obtain⟨q1,q2,q3,q4,q5⟩:=zH3 h hno hf hz hn ht
 have HQ:Hid _:=And.intro q1 (And.intro q2 (And.intro q3 q4))
 have HT:Hid (k.tickR t S tm=(if (({ k with time:=tm }:Ctl).approach (Min.min (Max.max n k.min) k.max) tm).1=true then .cooling else .fine,(({ k with time:=tm }:Ctl).approach (Min.min (Max.max n k.min) k.max) tm).2)):=by
  show k.tickR t S tm=_
  unfold Ctl.tickR
  rw[if_neg hlt,hzn]
 clear hn hno h q1 q2 q3 q4
 rw[hzn] at q5
 clear hzn
 go_enter Tryz.func9,Tryz.ntmps9
 go_wp2_with fail
 refine q5.mono ?_
 rintro e w7 ⟨hk7,rfl,hin⟩
 have hR7:=HQ.out.2.1.keep HQ.out.2.2.2 (by decide) hk7
 have hv7:=(hk7.block _ (zA2 HQ.out.2.2.1) (by omega)).trans HQ.out.2.2.1
 have H7:Hid _:=And.intro hk7 (And.intro hR7 hv7)
 have k7:KeepX (· = r) w w7:=by
  have h0:=HQ.out.1
  exact⟨hk7.os.trans h0.os,hk7.tape.trans h0.tape,hk7.output.trans h0.output,Nat.le_trans h0.size hk7.size,fun b lt ne=>(hk7.block b (Nat.lt_of_lt_of_le lt h0.size) (by omega)).trans (h0.block b lt ne)⟩
 have FIN:Hid (∀ (k':Ctl) (w8 w9:World),RefC w8 r (.pointer pa) k' ms S g lv av→KeepX (· = r) w w8→w8.heap[w.heap.size]?=some (.cells #[.int .i64 0,.int .i64 0,.int .i64 0,.int .i64 0] 43 (0,0))→Keep w.heap.size w8 w9→RefC w9 r (.pointer pa) k' ms S g lv av∧KeepX (· = r) w w9):=fun k' w8 w9 h8 h9 h10 h11=>
  ⟨h8.keep h10 (by decide) h11,⟨h11.os.trans h9.os,h11.tape.trans h9.tape,h11.output.trans h9.output,Nat.le_trans h9.size h11.size,fun b lt ne=>(h11.block b (Nat.lt_of_lt_of_le lt h9.size) (by omega)).trans (h9.block b lt ne)⟩⟩
 have l7:=zA2 H7.out.2.2
 have lr7:=zA2 H7.out.2.1.blk
 have e1:=zA0 (i:=1) (v:=.int .i64 k.min) H7.out.2.1.blk rfl
 have e2:=zA0 (i:=2) (v:=.int .i64 k.max) H7.out.2.1.blk rfl
 have e3:=zA0 (i:=3) (v:=.int .i64 k.step) H7.out.2.1.blk rfl
 have e4:=zA0 (i:=4) (v:=.int .i64 k.up) H7.out.2.1.blk rfl
 have e5:=zA0 (i:=5) (v:=.int .i64 k.down) H7.out.2.1.blk rfl
 have e6:=zA0 (i:=6) (v:=.int .i64 k.count) H7.out.2.1.blk rfl
 have e8:=zA0 (i:=8) (v:=.bool k.changed) H7.out.2.1.blk rfl
 have e9:=zA0 (i:=9) (v:=.int .i64 k.change) H7.out.2.1.blk rfl
 have f6:=zA1 (i:=6) H7.out.2.1.blk
 have f8:=zA1 (i:=8) H7.out.2.1.blk
 have f9:=zA1 (i:=9) H7.out.2.1.blk
 have nrw:r≠w.heap.size:=by omega
 have rc0:=zA0 (i:=0) (v:=.int .i64 0) H7.out.2.2 rfl
 have rz0:=zA1 (i:=0) H7.out.2.2
 have rc1:=zA0 (i:=1) (v:=.int .i64 0) H7.out.2.2 rfl
 have rz1:=zA1 (i:=1) H7.out.2.2
 have rc2:=zA0 (i:=2) (v:=.int .i64 0) H7.out.2.2 rfl
 have rz2:=zA1 (i:=2) H7.out.2.2
 have rc3:=zA0 (i:=3) (v:=.int .i64 0) H7.out.2.2 rfl
 have rz3:=zA1 (i:=3) H7.out.2.2
 have K7:Hid _:=k7
 clear q5 hk7 hR7 hv7 k7
 have hval:valV (.val n)=.agg #[.int .i64 n,.int .i64 0,.int .i64 0,.int .i64 0]:=rfl
 rw[hval]
 have om:=hok.max
 have oi:=hok.min
 have oc:=hok.count
 have os:=hok.step
 have ou:=hok.up
 have od:=hok.down
 have och:=hok.change
 have hnin:In64 n:=hin
 clear hval hin
 unfold In64 at hnin
 obtain⟨u,hu⟩:∃ u,u=Min.min (Max.max n k.min) k.max:=⟨_,rfl⟩
 have HT2:Hid (k.tickR t S tm=(if (({ k with time:=tm }:Ctl).approach u tm).1=true then .cooling else .fine,(({ k with time:=tm }:Ctl).approach u tm).2)):=by rw[hu];exact HT.out
 clear HT
 have hu2:u=k.max:=by omega
 rw[hu2] at HT2
 clear hu2 hu
 have CHG:Hid (∀ (N:Int) (nn:Nat) (w9:World),Keep w.heap.size (((((w7.alloc (.cells #[.int .i64 n,.int .i64 0,.int .i64 0,.int .i64 0] 43)).drewN nn).setCell ⟨r,6,none⟩ (.int .i64 N)).setCell ⟨r,8,none⟩ (.bool true)).setCell ⟨r,9,none⟩ (.int .i64 tm)) w9→RefC w9 r (.pointer pa) { k with time:=tm,count:=N,changed:=true,change:=tm } ms S g lv av∧KeepX (· = r) w w9):=fun N nn w9 h9=>by
  have hb8:Below w7.heap.size w7 ((w7.alloc (.cells #[.int .i64 n,.int .i64 0,.int .i64 0,.int .i64 0] 43)).drewN nn):=below_drewN ((Below.refl _ _).alloc (Nat.le_refl _) _) _
  have h8:=H7.out.2.1.below hb8
  have hks:KeepX (· = r) ((w7.alloc (.cells #[.int .i64 n,.int .i64 0,.int .i64 0,.int .i64 0] 43)).drewN nn) (((((w7.alloc (.cells #[.int .i64 n,.int .i64 0,.int .i64 0,.int .i64 0] 43)).drewN nn).setCell ⟨r,6,none⟩ (.int .i64 N)).setCell ⟨r,8,none⟩ (.bool true)).setCell ⟨r,9,none⟩ (.int .i64 tm)):=⟨rfl,rfl,rfl,by simp,fun b _ ne=>(Below.heap_setCell _ _ _ b ne).trans ((Below.heap_setCell _ _ _ b ne).trans (Below.heap_setCell _ _ _ b ne))⟩
  have hc:=h8.turn hks (k':={ k with time:=tm,count:=N,changed:=true,change:=tm }) (zA4 (i:=9) (zA4 (i:=8) (zA4 (i:=6) h8.blk)))
  exact FIN.out _ _ w9 hc (K7.out.trans ((KeepX.of_below hb8).trans hks)) ((hks.block _ (Nat.lt_of_lt_of_le (zA2 H7.out.2.2) hb8.size) (by omega)).trans ((hb8.block _ (zA2 H7.out.2.2)).trans H7.out.2.2)) h9
 have APP:Hid (∀ N:Int,(({ k with time:=tm }:Ctl).approach k.max tm)=(false,{ k with time:=tm,count:=N,changed:=true,change:=tm })→k.tickR t S tm=(.fine,{ k with time:=tm,count:=N,changed:=true,change:=tm })):=fun N e=>by
  rw[HT2.out,e]
  rfl
 rcases Int.lt_trichotomy (k.max) k.count with hlc | hec | hgc
 ·exact absurd oc.2 (by omega)
 ·have HEC:Hid _:=hec
  go_wp2
  refine bodyPost_ret (v:=.tuple #[.int .i64 (k.count),.agg #[.int .i64 0,.int .i64 0,.int .i64 0,.int .i64 0]]) (by simp[results,Tryz.results9,go_sem,rc0,rc1,rc2,rc3,l7]) rfl ?_
  have hap:k.tickR t S tm=(.fine,{ k with time:=tm }):=by rw[HT2.out,zN0 (k:={ k with time:=tm }) HEC.out];rfl
  rw[hap]
  refine⟨rfl,FIN.out _ w7 _ H7.out.2.1 K7.out H7.out.2.2 ?_⟩
  refine Keep.alloc ?_ _
  iterate 4 (refine Keep.setR ?_ _ _)
  exact Keep.refl _ _
 ·have hps:=zG8 (w7.alloc (.cells #[.int .i64 n,.int .i64 0,.int .i64 0,.int .i64 0] 43)) (a:=k.change) (b:=tm) (n:=k.up) och ht ou
  have HLC:Hid _:=hgc
  cases hch:k.changed with
  | true=>
   have HCH:Hid _:=hch
   by_cases hrd:k.up≤tm - k.change
   ·have HRD:Hid _:=hrd
    rw[decide_eq_true hrd] at hps
    go_wp2_with fail
    refine hps.mono ?_
    rintro e w8 ⟨rfl,hw8⟩
    have hw8:=hw8.symm
    subst hw8
    clear hps
    by_cases hst:k.step<k.max - k.count
    ·have f1:IntKind.i64.wrap (k.max - k.count)=k.max - k.count:=by simp only[IntKind.wrap_i64];omega
     have f2:IntKind.i64.wrap (k.count+k.step)=k.count+k.step:=by simp only[IntKind.wrap_i64];omega
     have f3:decide (k.step<k.max - k.count)=true:=by simp;omega
     have f4:decide (k.count<k.max)=true:=by simp;omega
     have f5:decide (k.count+k.step<k.count)=false:=by simp;omega
     go_wp2_with fail
     repeat (go_quiet (fail);go_wp2_with fail)
     refine bodyPost_ret (v:=.tuple #[.int .i64 (k.count+k.step),.agg #[.int .i64 0,.int .i64 0,.int .i64 0,.int .i64 0]]) (by simp[results,Tryz.results9,go_sem,rc0,rc1,rc2,rc3,l7]) rfl ?_
     rw[APP.out (k.count+k.step) (zDY (k:={ k with time:=tm }) (.inr ⟨HLC.out,rfl⟩) (.inr HRD.out) (by simp only;omega))]
     exact⟨rfl,CHG.out _ _ _ (by(iterate 4 (refine Keep.setR ?_ _ _));exact Keep.refl _ _)⟩
    ·have f1:IntKind.i64.wrap (k.max - k.count)=k.max - k.count:=by simp only[IntKind.wrap_i64];omega
     have f3:decide (k.step<k.max - k.count)=false:=by simp;omega
     have f4:decide (k.count<k.max)=true:=by simp;omega
     have f5:decide (k.max<k.count)=false:=by simp;omega
     go_wp2_with fail
     repeat (go_quiet (fail);go_wp2_with fail)
     refine bodyPost_ret (v:=.tuple #[.int .i64 (k.max),.agg #[.int .i64 0,.int .i64 0,.int .i64 0,.int .i64 0]]) (by simp[results,Tryz.results9,go_sem,rc0,rc1,rc2,rc3,l7]) rfl ?_
     rw[APP.out (k.max) (zDY (k:={ k with time:=tm }) (.inr ⟨HLC.out,rfl⟩) (.inr HRD.out) (by simp only;omega))]
     exact⟨rfl,CHG.out _ _ _ (by(iterate 4 (refine Keep.setR ?_ _ _));exact Keep.refl _ _)⟩
   ·have HRD:Hid _:=hrd
    rw[decide_eq_false hrd] at hps
    go_wp2_with fail
    refine hps.mono ?_
    rintro e w8 ⟨rfl,hw8⟩
    have hw8:=hw8.symm
    subst hw8
    clear hps
    go_wp2
    refine bodyPost_ret (v:=.tuple #[.int .i64 (k.count),.agg #[.int .i64 0,.int .i64 12,.int .i64 0,.int .i64 0]]) (by simp[results,Tryz.results9,go_sem,rc0,rc1,rc2,rc3,l7]) rfl ?_
    have hap:k.tickR t S tm=(.cooling,{ k with time:=tm }):=by rw[HT2.out,zJF (k:={ k with time:=tm }) (.inr ⟨HLC.out,rfl⟩) HCH.out (by have:=HRD.out;first | exact this | (simp only;omega))];rfl
    rw[hap]
    refine⟨rfl,FIN.out _ w7 _ H7.out.2.1 K7.out H7.out.2.2 ?_⟩
    refine Keep.alloc ?_ _
    iterate 4 (refine Keep.setR ?_ _ _)
    exact Keep.refl _ _
  | false=>
   have HCH:Hid _:=hch
   clear hps
   by_cases hst:k.step<k.max - k.count
   ·have f1:IntKind.i64.wrap (k.max - k.count)=k.max - k.count:=by simp only[IntKind.wrap_i64];omega
    have f2:IntKind.i64.wrap (k.count+k.step)=k.count+k.step:=by simp only[IntKind.wrap_i64];omega
    have f3:decide (k.step<k.max - k.count)=true:=by simp;omega
    have f4:decide (k.count<k.max)=true:=by simp;omega
    have f5:decide (k.count+k.step<k.count)=false:=by simp;omega
    go_wp2_with fail
    repeat (go_quiet (fail);go_wp2_with fail)
    refine bodyPost_ret (v:=.tuple #[.int .i64 (k.count+k.step),.agg #[.int .i64 0,.int .i64 0,.int .i64 0,.int .i64 0]]) (by simp[results,Tryz.results9,go_sem,rc0,rc1,rc2,rc3,l7]) rfl ?_
    rw[APP.out (k.count+k.step) (zDY (k:={ k with time:=tm }) (.inr ⟨HLC.out,rfl⟩) (.inl HCH.out) (by simp only;omega))]
    exact⟨rfl,CHG.out _ _ _ (by(iterate 4 (refine Keep.setR ?_ _ _));exact Keep.refl _ _)⟩
   ·have f1:IntKind.i64.wrap (k.max - k.count)=k.max - k.count:=by simp only[IntKind.wrap_i64];omega
    have f3:decide (k.step<k.max - k.count)=false:=by simp;omega
    have f4:decide (k.count<k.max)=true:=by simp;omega
    have f5:decide (k.max<k.count)=false:=by simp;omega
    go_wp2_with fail
    repeat (go_quiet (fail);go_wp2_with fail)
    refine bodyPost_ret (v:=.tuple #[.int .i64 (k.max),.agg #[.int .i64 0,.int .i64 0,.int .i64 0,.int .i64 0]]) (by simp[results,Tryz.results9,go_sem,rc0,rc1,rc2,rc3,l7]) rfl ?_
    rw[APP.out (k.max) (zDY (k:={ k with time:=tm }) (.inr ⟨HLC.out,rfl⟩) (.inl HCH.out) (by simp only;omega))]
    exact⟨rfl,CHG.out _ _ _ (by(iterate 4 (refine Keep.setR ?_ _ _));exact Keep.refl _ _)⟩
end
section
variable {w:World} {r:Nat} {rv:Value} {k:Ctl} {ms:List ByteArray} {S:Fed} {g:Nat→Nat} {lv:Nat→Value} {av:Value}
set_option maxRecDepth 1000000 in
set_option maxHeartbeats 8000000 in
theorem tick_mid (h:RefC w r rv k ms S g lv av)(hno:∀ m,m ∉ ms→S m=[])(hok:k.Ok){t:Tree}(hf:Fit t)(hz:size t≤200)(hn:zA9 (fun b=>b≠r) w t rv){tm:Int}(ht:In64 tm)(hlt:¬ tm<k.time){n:Int}(hzn:(ev (zD3 (zE1 S tm)) t zAK).1=.val n)(g1:¬ n<k.min)(g2:¬ k.max<n):
  Calls Tryz.prog 9 #[ptr r,.int .i64 tm] w fun e w'=>e=.returned (.tuple #[.int .i64 (k.tickR t S tm).2.count,.agg #[.int .i64 0,.int .i64 (k.tickR t S tm).1.e,.int .i64 (k.tickR t S tm).1.p,.int .i64 (k.tickR t S tm).1.m]])∧RefC w' r rv (k.tickR t S tm).2 ms S g lv av∧KeepX (· = r) w w':=by
 have HLT:Hid (¬ tm<k.time):=hlt
 have c6:=zA0 (i:=6) (v:=.int .i64 k.count) h.blk rfl
 have c7:=zA0 (i:=7) (v:=.int .i64 k.time) h.blk rfl
 have z7:=zA1 (i:=7) h.blk
 have lr:=zA2 h.blk
 have c0:=zA0 (i:=0) (v:=rv) h.blk rfl
 obtain⟨pa,rfl⟩:=zJ8 hn
 obtain⟨q1,q2,q3,q4,q5⟩:=zH3 h hno hf hz hn ht
 have HQ:Hid _:=And.intro q1 (And.intro q2 (And.intro q3 q4))
 have HT:Hid (k.tickR t S tm=(if (({ k with time:=tm }:Ctl).approach (Min.min (Max.max n k.min) k.max) tm).1=true then .cooling else .fine,(({ k with time:=tm }:Ctl).approach (Min.min (Max.max n k.min) k.max) tm).2)):=by
  show k.tickR t S tm=_
  unfold Ctl.tickR
  rw[if_neg hlt,hzn]
 clear hn hno h q1 q2 q3 q4
 rw[hzn] at q5
 clear hzn
 go_enter Tryz.func9,Tryz.ntmps9
 go_wp2_with fail
 refine q5.mono ?_
 rintro e w7 ⟨hk7,rfl,hin⟩
 have hR7:=HQ.out.2.1.keep HQ.out.2.2.2 (by decide) hk7
 have hv7:=(hk7.block _ (zA2 HQ.out.2.2.1) (by omega)).trans HQ.out.2.2.1
 have H7:Hid _:=And.intro hk7 (And.intro hR7 hv7)
 have k7:KeepX (· = r) w w7:=by
  have h0:=HQ.out.1
  exact⟨hk7.os.trans h0.os,hk7.tape.trans h0.tape,hk7.output.trans h0.output,Nat.le_trans h0.size hk7.size,fun b lt ne=>(hk7.block b (Nat.lt_of_lt_of_le lt h0.size) (by omega)).trans (h0.block b lt ne)⟩
 have FIN:Hid (∀ (k':Ctl) (w8 w9:World),RefC w8 r (.pointer pa) k' ms S g lv av→KeepX (· = r) w w8→w8.heap[w.heap.size]?=some (.cells #[.int .i64 0,.int .i64 0,.int .i64 0,.int .i64 0] 43 (0,0))→Keep w.heap.size w8 w9→RefC w9 r (.pointer pa) k' ms S g lv av∧KeepX (· = r) w w9):=fun k' w8 w9 h8 h9 h10 h11=>
  ⟨h8.keep h10 (by decide) h11,⟨h11.os.trans h9.os,h11.tape.trans h9.tape,h11.output.trans h9.output,Nat.le_trans h9.size h11.size,fun b lt ne=>(h11.block b (Nat.lt_of_lt_of_le lt h9.size) (by omega)).trans (h9.block b lt ne)⟩⟩
 have l7:=zA2 H7.out.2.2
 have lr7:=zA2 H7.out.2.1.blk
 have e1:=zA0 (i:=1) (v:=.int .i64 k.min) H7.out.2.1.blk rfl
 have e2:=zA0 (i:=2) (v:=.int .i64 k.max) H7.out.2.1.blk rfl
 have e3:=zA0 (i:=3) (v:=.int .i64 k.step) H7.out.2.1.blk rfl
 have e4:=zA0 (i:=4) (v:=.int .i64 k.up) H7.out.2.1.blk rfl
 have e5:=zA0 (i:=5) (v:=.int .i64 k.down) H7.out.2.1.blk rfl
 have e6:=zA0 (i:=6) (v:=.int .i64 k.count) H7.out.2.1.blk rfl
 have e8:=zA0 (i:=8) (v:=.bool k.changed) H7.out.2.1.blk rfl
 have e9:=zA0 (i:=9) (v:=.int .i64 k.change) H7.out.2.1.blk rfl
 have f6:=zA1 (i:=6) H7.out.2.1.blk
 have f8:=zA1 (i:=8) H7.out.2.1.blk
 have f9:=zA1 (i:=9) H7.out.2.1.blk
 have nrw:r≠w.heap.size:=by omega
 have rc0:=zA0 (i:=0) (v:=.int .i64 0) H7.out.2.2 rfl
 have rz0:=zA1 (i:=0) H7.out.2.2
 have rc1:=zA0 (i:=1) (v:=.int .i64 0) H7.out.2.2 rfl
 have rz1:=zA1 (i:=1) H7.out.2.2
 have rc2:=zA0 (i:=2) (v:=.int .i64 0) H7.out.2.2 rfl
 have rz2:=zA1 (i:=2) H7.out.2.2
 have rc3:=zA0 (i:=3) (v:=.int .i64 0) H7.out.2.2 rfl
 have rz3:=zA1 (i:=3) H7.out.2.2
 have K7:Hid _:=k7
 clear q5 hk7 hR7 hv7 k7
 have hval:valV (.val n)=.agg #[.int .i64 n,.int .i64 0,.int .i64 0,.int .i64 0]:=rfl
 rw[hval]
 have om:=hok.max
 have oi:=hok.min
 have oc:=hok.count
 have os:=hok.step
 have ou:=hok.up
 have od:=hok.down
 have och:=hok.change
 have hnin:In64 n:=hin
 clear hval hin
 unfold In64 at hnin
 obtain⟨u,hu⟩:∃ u,u=Min.min (Max.max n k.min) k.max:=⟨_,rfl⟩
 have HT2:Hid (k.tickR t S tm=(if (({ k with time:=tm }:Ctl).approach u tm).1=true then .cooling else .fine,(({ k with time:=tm }:Ctl).approach u tm).2)):=by rw[hu];exact HT.out
 clear HT
 have hu2:u=n:=by omega
 rw[hu2] at HT2
 clear hu2 hu
 have CHG:Hid (∀ (N:Int) (nn:Nat) (w9:World),Keep w.heap.size (((((w7.alloc (.cells #[.int .i64 n,.int .i64 0,.int .i64 0,.int .i64 0] 43)).drewN nn).setCell ⟨r,6,none⟩ (.int .i64 N)).setCell ⟨r,8,none⟩ (.bool true)).setCell ⟨r,9,none⟩ (.int .i64 tm)) w9→RefC w9 r (.pointer pa) { k with time:=tm,count:=N,changed:=true,change:=tm } ms S g lv av∧KeepX (· = r) w w9):=fun N nn w9 h9=>by
  have hb8:Below w7.heap.size w7 ((w7.alloc (.cells #[.int .i64 n,.int .i64 0,.int .i64 0,.int .i64 0] 43)).drewN nn):=below_drewN ((Below.refl _ _).alloc (Nat.le_refl _) _) _
  have h8:=H7.out.2.1.below hb8
  have hks:KeepX (· = r) ((w7.alloc (.cells #[.int .i64 n,.int .i64 0,.int .i64 0,.int .i64 0] 43)).drewN nn) (((((w7.alloc (.cells #[.int .i64 n,.int .i64 0,.int .i64 0,.int .i64 0] 43)).drewN nn).setCell ⟨r,6,none⟩ (.int .i64 N)).setCell ⟨r,8,none⟩ (.bool true)).setCell ⟨r,9,none⟩ (.int .i64 tm)):=⟨rfl,rfl,rfl,by simp,fun b _ ne=>(Below.heap_setCell _ _ _ b ne).trans ((Below.heap_setCell _ _ _ b ne).trans (Below.heap_setCell _ _ _ b ne))⟩
  have hc:=h8.turn hks (k':={ k with time:=tm,count:=N,changed:=true,change:=tm }) (zA4 (i:=9) (zA4 (i:=8) (zA4 (i:=6) h8.blk)))
  exact FIN.out _ _ w9 hc (K7.out.trans ((KeepX.of_below hb8).trans hks)) ((hks.block _ (Nat.lt_of_lt_of_le (zA2 H7.out.2.2) hb8.size) (by omega)).trans ((hb8.block _ (zA2 H7.out.2.2)).trans H7.out.2.2)) h9
 have APP:Hid (∀ N:Int,(({ k with time:=tm }:Ctl).approach n tm)=(false,{ k with time:=tm,count:=N,changed:=true,change:=tm })→k.tickR t S tm=(.fine,{ k with time:=tm,count:=N,changed:=true,change:=tm })):=fun N e=>by
  rw[HT2.out,e]
  rfl
 rcases Int.lt_trichotomy (n) k.count with hlc | hec | hgc
 ·have hps:=zG8 (w7.alloc (.cells #[.int .i64 n,.int .i64 0,.int .i64 0,.int .i64 0] 43)) (a:=k.change) (b:=tm) (n:=k.down) och ht od
  have HLC:Hid _:=hlc
  cases hch:k.changed with
  | true=>
   have HCH:Hid _:=hch
   by_cases hrd:k.down≤tm - k.change
   ·have HRD:Hid _:=hrd
    rw[decide_eq_true hrd] at hps
    go_wp2_with fail
    refine hps.mono ?_
    rintro e w8 ⟨rfl,hw8⟩
    have hw8:=hw8.symm
    subst hw8
    clear hps
    by_cases hst:k.step<k.count - n
    ·have f1:IntKind.i64.wrap (k.count - n)=k.count - n:=by simp only[IntKind.wrap_i64];omega
     have f2:IntKind.i64.wrap (k.count - k.step)=k.count - k.step:=by simp only[IntKind.wrap_i64];omega
     have f3:decide (k.step<k.count - n)=true:=by simp;omega
     have f4:decide (k.count<n)=false:=by simp;omega
     have f5:decide (n<k.count)=true:=by simp;omega
     go_wp2_with fail
     repeat (go_quiet (fail);go_wp2_with fail)
     refine bodyPost_ret (v:=.tuple #[.int .i64 (k.count - k.step),.agg #[.int .i64 0,.int .i64 0,.int .i64 0,.int .i64 0]]) (by simp[results,Tryz.results9,go_sem,rc0,rc1,rc2,rc3,l7]) rfl ?_
     rw[APP.out (k.count - k.step) (zDY (k:={ k with time:=tm }) (.inl ⟨HLC.out,rfl⟩) (.inr HRD.out) (by simp only;omega))]
     exact⟨rfl,CHG.out _ _ _ (by(iterate 4 (refine Keep.setR ?_ _ _));exact Keep.refl _ _)⟩
    ·have f1:IntKind.i64.wrap (k.count - n)=k.count - n:=by simp only[IntKind.wrap_i64];omega
     have f3:decide (k.step<k.count - n)=false:=by simp;omega
     have f4:decide (k.count<n)=false:=by simp;omega
     have f5:decide (n<k.count)=true:=by simp;omega
     go_wp2_with fail
     repeat (go_quiet (fail);go_wp2_with fail)
     refine bodyPost_ret (v:=.tuple #[.int .i64 (n),.agg #[.int .i64 0,.int .i64 0,.int .i64 0,.int .i64 0]]) (by simp[results,Tryz.results9,go_sem,rc0,rc1,rc2,rc3,l7]) rfl ?_
     rw[APP.out (n) (zDY (k:={ k with time:=tm }) (.inl ⟨HLC.out,rfl⟩) (.inr HRD.out) (by simp only;omega))]
     exact⟨rfl,CHG.out _ _ _ (by(iterate 4 (refine Keep.setR ?_ _ _));exact Keep.refl _ _)⟩
   ·have HRD:Hid _:=hrd
    rw[decide_eq_false hrd] at hps
    go_wp2_with fail
    refine hps.mono ?_
    rintro e w8 ⟨rfl,hw8⟩
    have hw8:=hw8.symm
    subst hw8
    clear hps
    go_wp2
    refine bodyPost_ret (v:=.tuple #[.int .i64 (k.count),.agg #[.int .i64 0,.int .i64 12,.int .i64 0,.int .i64 0]]) (by simp[results,Tryz.results9,go_sem,rc0,rc1,rc2,rc3,l7]) rfl ?_
    have hap:k.tickR t S tm=(.cooling,{ k with time:=tm }):=by rw[HT2.out,zJF (k:={ k with time:=tm }) (.inl ⟨HLC.out,rfl⟩) HCH.out (by have:=HRD.out;first | exact this | (simp only;omega))];rfl
    rw[hap]
    refine⟨rfl,FIN.out _ w7 _ H7.out.2.1 K7.out H7.out.2.2 ?_⟩
    refine Keep.alloc ?_ _
    iterate 4 (refine Keep.setR ?_ _ _)
    exact Keep.refl _ _
  | false=>
   have HCH:Hid _:=hch
   clear hps
   by_cases hst:k.step<k.count - n
   ·have f1:IntKind.i64.wrap (k.count - n)=k.count - n:=by simp only[IntKind.wrap_i64];omega
    have f2:IntKind.i64.wrap (k.count - k.step)=k.count - k.step:=by simp only[IntKind.wrap_i64];omega
    have f3:decide (k.step<k.count - n)=true:=by simp;omega
    have f4:decide (k.count<n)=false:=by simp;omega
    have f5:decide (n<k.count)=true:=by simp;omega
    go_wp2_with fail
    repeat (go_quiet (fail);go_wp2_with fail)
    refine bodyPost_ret (v:=.tuple #[.int .i64 (k.count - k.step),.agg #[.int .i64 0,.int .i64 0,.int .i64 0,.int .i64 0]]) (by simp[results,Tryz.results9,go_sem,rc0,rc1,rc2,rc3,l7]) rfl ?_
    rw[APP.out (k.count - k.step) (zDY (k:={ k with time:=tm }) (.inl ⟨HLC.out,rfl⟩) (.inl HCH.out) (by simp only;omega))]
    exact⟨rfl,CHG.out _ _ _ (by(iterate 4 (refine Keep.setR ?_ _ _));exact Keep.refl _ _)⟩
   ·have f1:IntKind.i64.wrap (k.count - n)=k.count - n:=by simp only[IntKind.wrap_i64];omega
    have f3:decide (k.step<k.count - n)=false:=by simp;omega
    have f4:decide (k.count<n)=false:=by simp;omega
    have f5:decide (n<k.count)=true:=by simp;omega
    go_wp2_with fail
    repeat (go_quiet (fail);go_wp2_with fail)
    refine bodyPost_ret (v:=.tuple #[.int .i64 (n),.agg #[.int .i64 0,.int .i64 0,.int .i64 0,.int .i64 0]]) (by simp[results,Tryz.results9,go_sem,rc0,rc1,rc2,rc3,l7]) rfl ?_
    rw[APP.out (n) (zDY (k:={ k with time:=tm }) (.inl ⟨HLC.out,rfl⟩) (.inl HCH.out) (by simp only;omega))]
    exact⟨rfl,CHG.out _ _ _ (by(iterate 4 (refine Keep.setR ?_ _ _));exact Keep.refl _ _)⟩
 ·have HEC:Hid _:=hec
  go_wp2
  refine bodyPost_ret (v:=.tuple #[.int .i64 (k.count),.agg #[.int .i64 0,.int .i64 0,.int .i64 0,.int .i64 0]]) (by simp[results,Tryz.results9,go_sem,rc0,rc1,rc2,rc3,l7]) rfl ?_
  have hap:k.tickR t S tm=(.fine,{ k with time:=tm }):=by rw[HT2.out,zN0 (k:={ k with time:=tm }) HEC.out];rfl
  rw[hap]
  refine⟨rfl,FIN.out _ w7 _ H7.out.2.1 K7.out H7.out.2.2 ?_⟩
  refine Keep.alloc ?_ _
  iterate 4 (refine Keep.setR ?_ _ _)
  exact Keep.refl _ _
 ·have hps:=zG8 (w7.alloc (.cells #[.int .i64 n,.int .i64 0,.int .i64 0,.int .i64 0] 43)) (a:=k.change) (b:=tm) (n:=k.up) och ht ou
  have HLC:Hid _:=hgc
  cases hch:k.changed with
  | true=>
   have HCH:Hid _:=hch
   by_cases hrd:k.up≤tm - k.change
   ·have HRD:Hid _:=hrd
    rw[decide_eq_true hrd] at hps
    go_wp2_with fail
    refine hps.mono ?_
    rintro e w8 ⟨rfl,hw8⟩
    have hw8:=hw8.symm
    subst hw8
    clear hps
    by_cases hst:k.step<n - k.count
    ·have f1:IntKind.i64.wrap (n - k.count)=n - k.count:=by simp only[IntKind.wrap_i64];omega
     have f2:IntKind.i64.wrap (k.count+k.step)=k.count+k.step:=by simp only[IntKind.wrap_i64];omega
     have f3:decide (k.step<n - k.count)=true:=by simp;omega
     have f4:decide (k.count<n)=true:=by simp;omega
     have f5:decide (k.count+k.step<k.count)=false:=by simp;omega
     go_wp2_with fail
     repeat (go_quiet (fail);go_wp2_with fail)
     refine bodyPost_ret (v:=.tuple #[.int .i64 (k.count+k.step),.agg #[.int .i64 0,.int .i64 0,.int .i64 0,.int .i64 0]]) (by simp[results,Tryz.results9,go_sem,rc0,rc1,rc2,rc3,l7]) rfl ?_
     rw[APP.out (k.count+k.step) (zDY (k:={ k with time:=tm }) (.inr ⟨HLC.out,rfl⟩) (.inr HRD.out) (by simp only;omega))]
     exact⟨rfl,CHG.out _ _ _ (by(iterate 4 (refine Keep.setR ?_ _ _));exact Keep.refl _ _)⟩
    ·have f1:IntKind.i64.wrap (n - k.count)=n - k.count:=by simp only[IntKind.wrap_i64];omega
     have f3:decide (k.step<n - k.count)=false:=by simp;omega
     have f4:decide (k.count<n)=true:=by simp;omega
     have f5:decide (n<k.count)=false:=by simp;omega
     go_wp2_with fail
     repeat (go_quiet (fail);go_wp2_with fail)
     refine bodyPost_ret (v:=.tuple #[.int .i64 (n),.agg #[.int .i64 0,.int .i64 0,.int .i64 0,.int .i64 0]]) (by simp[results,Tryz.results9,go_sem,rc0,rc1,rc2,rc3,l7]) rfl ?_
     rw[APP.out (n) (zDY (k:={ k with time:=tm }) (.inr ⟨HLC.out,rfl⟩) (.inr HRD.out) (by simp only;omega))]
     exact⟨rfl,CHG.out _ _ _ (by(iterate 4 (refine Keep.setR ?_ _ _));exact Keep.refl _ _)⟩
   ·have HRD:Hid _:=hrd
    rw[decide_eq_false hrd] at hps
    go_wp2_with fail
    refine hps.mono ?_
    rintro e w8 ⟨rfl,hw8⟩
    have hw8:=hw8.symm
    subst hw8
    clear hps
    go_wp2
    refine bodyPost_ret (v:=.tuple #[.int .i64 (k.count),.agg #[.int .i64 0,.int .i64 12,.int .i64 0,.int .i64 0]]) (by simp[results,Tryz.results9,go_sem,rc0,rc1,rc2,rc3,l7]) rfl ?_
    have hap:k.tickR t S tm=(.cooling,{ k with time:=tm }):=by rw[HT2.out,zJF (k:={ k with time:=tm }) (.inr ⟨HLC.out,rfl⟩) HCH.out (by have:=HRD.out;first | exact this | (simp only;omega))];rfl
    rw[hap]
    refine⟨rfl,FIN.out _ w7 _ H7.out.2.1 K7.out H7.out.2.2 ?_⟩
    refine Keep.alloc ?_ _
    iterate 4 (refine Keep.setR ?_ _ _)
    exact Keep.refl _ _
  | false=>
   have HCH:Hid _:=hch
   clear hps
   by_cases hst:k.step<n - k.count
   ·have f1:IntKind.i64.wrap (n - k.count)=n - k.count:=by simp only[IntKind.wrap_i64];omega
    have f2:IntKind.i64.wrap (k.count+k.step)=k.count+k.step:=by simp only[IntKind.wrap_i64];omega
    have f3:decide (k.step<n - k.count)=true:=by simp;omega
    have f4:decide (k.count<n)=true:=by simp;omega
    have f5:decide (k.count+k.step<k.count)=false:=by simp;omega
    go_wp2_with fail
    repeat (go_quiet (fail);go_wp2_with fail)
    refine bodyPost_ret (v:=.tuple #[.int .i64 (k.count+k.step),.agg #[.int .i64 0,.int .i64 0,.int .i64 0,.int .i64 0]]) (by simp[results,Tryz.results9,go_sem,rc0,rc1,rc2,rc3,l7]) rfl ?_
    rw[APP.out (k.count+k.step) (zDY (k:={ k with time:=tm }) (.inr ⟨HLC.out,rfl⟩) (.inl HCH.out) (by simp only;omega))]
    exact⟨rfl,CHG.out _ _ _ (by(iterate 4 (refine Keep.setR ?_ _ _));exact Keep.refl _ _)⟩
   ·have f1:IntKind.i64.wrap (n - k.count)=n - k.count:=by simp only[IntKind.wrap_i64];omega
    have f3:decide (k.step<n - k.count)=false:=by simp;omega
    have f4:decide (k.count<n)=true:=by simp;omega
    have f5:decide (n<k.count)=false:=by simp;omega
    go_wp2_with fail
    repeat (go_quiet (fail);go_wp2_with fail)
    refine bodyPost_ret (v:=.tuple #[.int .i64 (n),.agg #[.int .i64 0,.int .i64 0,.int .i64 0,.int .i64 0]]) (by simp[results,Tryz.results9,go_sem,rc0,rc1,rc2,rc3,l7]) rfl ?_
    rw[APP.out (n) (zDY (k:={ k with time:=tm }) (.inr ⟨HLC.out,rfl⟩) (.inl HCH.out) (by simp only;omega))]
    exact⟨rfl,CHG.out _ _ _ (by(iterate 4 (refine Keep.setR ?_ _ _));exact Keep.refl _ _)⟩
end
theorem zQF {w:World}{r:Nat}{rv:Value}{k:Ctl}{ms:List ByteArray}{S:Fed}{g:Nat→Nat}{lv:Nat→Value}{av:Value}(h:RefC w r rv k ms S g lv av)(hno:∀ m,m ∉ ms→S m=[])(hok:k.Ok){t:Tree}(hf:Fit t)(hz:size t≤200)(hn:zA9 (fun b=>b≠r) w t rv){tm:Int}(ht:In64 tm):
  Calls Tryz.prog 9 #[ptr r,.int .i64 tm] w fun e w'=>e=.returned (.tuple #[.int .i64 (k.tickR t S tm).2.count,.agg #[.int .i64 0,.int .i64 (k.tickR t S tm).1.e,.int .i64 (k.tickR t S tm).1.p,.int .i64 (k.tickR t S tm).1.m]])∧RefC w' r rv (k.tickR t S tm).2 ms S g lv av∧KeepX (· = r) w w':=by
 by_cases hlt:tm<k.time
 ·exact zNC h hno hok hf hz hn ht (.inl hlt)
 ·generalize hr:(ev (zD3 (zE1 S tm)) t zAK).1=z
  cases z with
  | held p y=>exact zNC h hno hok hf hz hn ht (.inr ⟨p,y,hr⟩)
  | val n=>
   by_cases g1:n<k.min
   ·exact tick_low h hno hok hf hz hn ht hlt hr g1
   ·by_cases g2:k.max<n
    ·exact tick_high h hno hok hf hz hn ht hlt hr g1 g2
    ·exact tick_mid h hno hok hf hz hn ht hlt hr g1 g2
end Go.Proofs.YtbokdbaagacnlaaGreatDoor
