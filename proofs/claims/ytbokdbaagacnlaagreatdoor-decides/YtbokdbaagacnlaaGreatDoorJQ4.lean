import Derived.Test.YtbokdbaagacnlaaGreatDoorJQ2
import Derived.Test.YtbokdbaagacnlaaGreatDoorJQ3
import Derived.Deep.QuietTactic
import Derived.BigQuiet
import Derived.Deep.RegionHeld3
import Derived.BigRegion
namespace Go.Proofs.YtbokdbaagacnlaaGreatDoor
open Go.RowKit Go.Lib
structure Ctl where
 min:Int
 max:Int
 step:Int
 up:Int
 down:Int
 time:Int
 count:Int
 changed:Bool
 change:Int
abbrev zE5 (w:World)(c:Nat)(pv wv:Value)(k:Ctl):Prop:=w.heap[c]?=some (.cells #[pv,.int .i64 k.min,.int .i64 k.max,.int .i64 k.step,.int .i64 k.up,.int .i64 k.down,wv,.int .i64 k.time,.int .i64 k.count,.bool k.changed,.int .i64 k.change] 126 (0,0))
structure Ctl.Ok (k:Ctl):Prop where
 min:0≤k.min
 max:k.min≤k.max∧k.max≤9223372036854775807
 step:1≤k.step∧k.step≤9223372036854775807
 up:0≤k.up∧k.up≤9223372036854775807
 down:0≤k.down∧k.down≤9223372036854775807
 time:In64 k.time
 count:k.min≤k.count∧k.count≤k.max
 change:In64 k.change
def Ctl.cools (k:Ctl)(pause t:Int):Bool:=k.changed && decide (t - k.change<pause)
set_option maxRecDepth 1000000 in
set_option maxHeartbeats 1000000 in
theorem zOK {w:World}{c:Nat}{pv wv:Value}{k:Ctl}(h:zE5 w c pv wv k)(hk:In64 k.change){pause t:Int}(hp:0≤pause∧pause≤9223372036854775807)(ht:In64 t):
  Calls Tryz.prog 102 #[ptr c,.int .i64 pause,.int .i64 t] w fun e w'=>e=.returned (.bool (k.cools pause t))∧∃ n,w'=w.drewN n:=by
 have c9:w.cell? ⟨c,9,none⟩=some (.bool k.changed):=zA0 h rfl
 have c10:w.cell? ⟨c,10,none⟩=some (.int .i64 k.change):=zA0 h rfl
 have hu:k.cools pause t=(k.changed && decide (t - k.change<pause)):=rfl
 generalize k.changed=b at *
 generalize k.change=x at *
 clear h
 unfold In64 at hk ht
 have HK:Hid (IntKind.u64.wrap pause=pause):=by show IntKind.u64.wrap pause=pause;simp only[IntKind.wrap_u64];omega
 have HU:Hid _:=hu
 clear hu
 cases b with
 | false=>
  go_enter Tryz.func102,Tryz.ntmps102
  go_wp2
  go_ret
  exact⟨by rw[HU.out];rfl,0,rfl⟩
 | true=>
  by_cases h1:t<x
  ·go_enter Tryz.func102,Tryz.ntmps102
   go_wp2
   go_ret
   exact⟨by rw[HU.out,Bool.true_and,decide_eq_true (by omega)];rfl,0,rfl⟩
  ·have h2:decide (t<x)=false:=by simpa using h1
   go_enter Tryz.func102,Tryz.ntmps102
   go_wp2
   go_ret
   refine⟨?_,0,rfl⟩
   rw[HU.out,Bool.true_and]
   show Ending.returned (.bool (decide (IntKind.u64.wrap (IntKind.u64.wrap t - IntKind.u64.wrap x)<pause)))=_
   have hw:IntKind.u64.wrap (IntKind.u64.wrap t - IntKind.u64.wrap x)=t - x:=by
    simp only[IntKind.wrap_u64]
    omega
   rw[hw]
theorem zMR {w:World}{c:Nat}{pv wv:Value}{k:Ctl}(h:zE5 w c pv wv k)(n:Int)(b:Bool)(t:Int):zE5 (((w.setCell ⟨c,8,none⟩ (.int .i64 n)).setCell ⟨c,9,none⟩ (.bool b)).setCell ⟨c,10,none⟩ (.int .i64 t)) c pv wv { k with count:=n,changed:=b,change:=t }:=
 zA4 (i:=10) (zA4 (i:=9) (zA4 (i:=8) h))
def Ctl.approach (k:Ctl)(wanted t:Int):Bool × Ctl:=
 if wanted=k.count then(false,k)
 else if k.cools (if wanted<k.count then k.down else k.up) t=true then(true,k)
 else(false,{ k with count:=k.count+Min.min (Max.max (wanted - k.count) (-k.step)) k.step,changed:=true,change:=t })
def coolV (A:Addr)(b:Bool):Value:=if b=true then .iface 416 (.pointer (some A)) else .nilIface
set_option maxRecDepth 1000000 in
set_option maxHeartbeats 2000000 in
theorem zMV {w:World}{c:Nat}{pv wv:Value}{k:Ctl}(h:zE5 w c pv wv k)(hk:k.Ok){A:Addr}(hA:w.cell? ⟨7,0,none⟩=some (.iface 416 (.pointer (some A)))){wanted t:Int}(hw:0≤wanted∧wanted≤9223372036854775807)(ht:In64 t):
  Calls Tryz.prog 73 #[ptr c,.int .i64 wanted,.int .i64 t] w fun e w'=>e=.returned (coolV A (k.approach wanted t).1)∧Keep c w w'∧zE5 w' c pv wv (k.approach wanted t).2:=by
 have c3:w.cell? ⟨c,3,none⟩=some (.int .i64 k.step):=zA0 h rfl
 have c4:w.cell? ⟨c,4,none⟩=some (.int .i64 k.up):=zA0 h rfl
 have c5:w.cell? ⟨c,5,none⟩=some (.int .i64 k.down):=zA0 h rfl
 have c8:w.cell? ⟨c,8,none⟩=some (.int .i64 k.count):=zA0 h rfl
 have c9:w.cell? ⟨c,9,none⟩=some (.bool k.changed):=zA0 h rfl
 have c10:w.cell? ⟨c,10,none⟩=some (.int .i64 k.change):=zA0 h rfl
 have z8:w.frozen? ⟨c,8,none⟩=false:=zA1 h
 have z9:w.frozen? ⟨c,9,none⟩=false:=zA1 h
 have z10:w.frozen? ⟨c,10,none⟩=false:=zA1 h
 have o1:=hk.count
 have o2:=hk.max
 have o3:=hk.min
 have o4:=hk.step
 have o5:=hk.up
 have o6:=hk.down
 have HH:Hid _:=And.intro h hk.change
 have lc:=zA2 h
 have hcl:=fun(n:Nat) p (hp:0≤p∧p≤9223372036854775807)=>zOK (w:=w.drewN n) (show zE5 (w.drewN n) c pv wv k from h) hk.change hp ht
 clear h hk
 rcases Int.lt_trichotomy wanted k.count with hlt | heq | hgt
 ·have hc:=fun n=>hcl n k.down o6
  have HE:Hid (k.approach wanted t=if k.cools k.down t=true then(true,k) else(false,{ k with count:=k.count+Min.min (Max.max (wanted - k.count) (-k.step)) k.step,changed:=true,change:=t })):=by
   show k.approach wanted t=_
   unfold Ctl.approach
   rw[if_neg (by omega),if_pos hlt]
  generalize k.cools k.down t=b at *
  clear hcl
  cases b with
  | true=>
   go_enter Tryz.func73,Tryz.ntmps73
   go_wp2_with fail
   go_quiet (fail)
   go_wp2_with fail
   refine(hc _).mono ?_
   rintro e w2 ⟨rfl,n2,hw2⟩
   subst hw2
   go_wp2
   go_ret
   rw[HE.out]
   exact⟨rfl,(Keep.refl c w).drewN _,HH.out.1⟩
  | false=>
   go_enter Tryz.func73,Tryz.ntmps73
   go_wp2_with fail
   go_quiet (fail)
   go_wp2_with fail
   refine(hc _).mono ?_
   rintro e w2 ⟨rfl,n2,hw2⟩
   subst hw2
   go_wp2_with fail
   go_region_both
   all_goals go_wp2
   ·go_ret
    rw[HE.out]
    have hv:k.count+Min.min (Max.max (wanted - k.count) (-k.step)) k.step=k.count + -k.step:=by omega
    refine⟨rfl,((((Keep.refl c w).drewN _).setR 8 _).setR 9 _).setR 10 _,?_⟩
    have q:=zMR (w:=w.drewN (nq+n2+1)) HH.out.1 (k.count + -k.step) true t
    simp only[Bool.false_eq_true,if_false,hv]
    exact q
   ·go_ret
    rw[HE.out]
    have hv:k.count+Min.min (Max.max (wanted - k.count) (-k.step)) k.step=k.count+(wanted - k.count):=by omega
    refine⟨rfl,((((Keep.refl c w).drewN _).setR 8 _).setR 9 _).setR 10 _,?_⟩
    have q:=zMR (w:=w.drewN (nq+n2+1)) HH.out.1 (k.count+(wanted - k.count)) true t
    simp only[Bool.false_eq_true,if_false,hv]
    exact q
 ·have HE:Hid (k.approach wanted t=(false,k)):=by
   show k.approach wanted t=_
   unfold Ctl.approach
   rw[if_pos heq]
  subst heq
  clear hcl
  go_enter Tryz.func73,Tryz.ntmps73
  go_wp2_with fail
  go_quiet (fail)
  go_wp2
  go_ret
  rw[HE.out]
  exact⟨rfl,(Keep.refl c w).drewN _,HH.out.1⟩
 ·have hc:=fun n=>hcl n k.up o5
  have HE:Hid (k.approach wanted t=if k.cools k.up t=true then(true,k) else(false,{ k with count:=k.count+Min.min (Max.max (wanted - k.count) (-k.step)) k.step,changed:=true,change:=t })):=by
   show k.approach wanted t=_
   unfold Ctl.approach
   rw[if_neg (show ¬ wanted=k.count by omega),if_neg (show ¬ wanted<k.count by omega)]
  generalize k.cools k.up t=b at *
  clear hcl
  cases b with
  | true=>
   go_enter Tryz.func73,Tryz.ntmps73
   go_wp2_with fail
   go_quiet (fail)
   go_wp2_with fail
   refine(hc _).mono ?_
   rintro e w2 ⟨rfl,n2,hw2⟩
   subst hw2
   go_wp2
   go_ret
   rw[HE.out]
   exact⟨rfl,(Keep.refl c w).drewN _,HH.out.1⟩
  | false=>
   go_enter Tryz.func73,Tryz.ntmps73
   go_wp2_with fail
   go_quiet (fail)
   go_wp2_with fail
   refine(hc _).mono ?_
   rintro e w2 ⟨rfl,n2,hw2⟩
   subst hw2
   go_wp2_with fail
   go_region_both
   all_goals go_wp2
   ·go_ret
    rw[HE.out]
    have hv:k.count+Min.min (Max.max (wanted - k.count) (-k.step)) k.step=k.count+k.step:=by omega
    refine⟨rfl,((((Keep.refl c w).drewN _).setR 8 _).setR 9 _).setR 10 _,?_⟩
    have q:=zMR (w:=w.drewN (nq+n2+1)) HH.out.1 (k.count+k.step) true t
    simp only[Bool.false_eq_true,if_false,hv]
    exact q
   ·go_ret
    rw[HE.out]
    have hv:k.count+Min.min (Max.max (wanted - k.count) (-k.step)) k.step=k.count+(wanted - k.count):=by omega
    refine⟨rfl,((((Keep.refl c w).drewN _).setR 8 _).setR 9 _).setR 10 _,?_⟩
    have q:=zMR (w:=w.drewN (nq+n2+1)) HH.out.1 (k.count+(wanted - k.count)) true t
    simp only[Bool.false_eq_true,if_false,hv]
    exact q
def zB7 (min max step up down:Int):Bool:=decide (0≤min) && (decide (min≤max) && (decide (1≤step) && (decide (0≤up) && decide (0≤down))))
set_option maxRecDepth 1000000 in
set_option maxHeartbeats 1000000 in
theorem zHD (w:World)(min max step up down:Int):Calls Tryz.prog 55 #[.agg #[.int .i64 min,.int .i64 max,.int .i64 step,.int .i64 up,.int .i64 down]] w fun e w'=>e=.returned (.bool (zB7 min max step up down))∧Below w.heap.size w w':=by
 have hu:zB7 min max step up down=(decide (0≤min) && (decide (min≤max) && (decide (1≤step) && (decide (0≤up) && decide (0≤down))))):=rfl
 have HU:Hid _:=hu
 clear hu
 by_cases h1:0≤min
 ·by_cases h2:min≤max
  ·by_cases h3:1≤step
   ·by_cases h4:0≤up
    ·by_cases h5:0≤down
     all_goals
      go_enter Tryz.func55,Tryz.ntmps55
      go_wp2
      go_ret
      exact⟨by rw[HU.out];simp[h1,h2,h3,h4,h5],(Below.refl _ _).alloc (Nat.le_refl _) _⟩
    ·go_enter Tryz.func55,Tryz.ntmps55
     go_wp2
     go_ret
     exact⟨by rw[HU.out];simp;omega,(Below.refl _ _).alloc (Nat.le_refl _) _⟩
   ·go_enter Tryz.func55,Tryz.ntmps55
    go_wp2
    go_ret
    exact⟨by rw[HU.out];simp;omega,(Below.refl _ _).alloc (Nat.le_refl _) _⟩
  ·go_enter Tryz.func55,Tryz.ntmps55
   go_wp2
   go_ret
   exact⟨by rw[HU.out];simp;omega,(Below.refl _ _).alloc (Nat.le_refl _) _⟩
 ·go_enter Tryz.func55,Tryz.ntmps55
  go_wp2
  go_ret
  exact⟨by rw[HU.out];simp;omega,(Below.refl _ _).alloc (Nat.le_refl _) _⟩
theorem zAR {w w':World}{a:Addr}{v:Value}(hb:Below w.heap.size w w')(h:w.cell? a=some v):w'.cell? a=some v:=(hb.cell (World.block_lt_of_cell? w a h)).trans h
set_option maxRecDepth 1000000 in
set_option maxHeartbeats 1000000 in
theorem zPZ {w:World}{b lb:Nat}{gv vv mv sv av:Value}(hb:w.heap[b]?=some (.cells #[ptr lb,gv] 150 (0,0)))(hl:w.heap[lb]?=some (.cells #[vv,mv,sv,av] 147 (0,0))){min max step up down count:Int}(hyes:zB7 min max step up down=true)(h1:min≤count)(h2:count≤max)
  (hem:∀ W,Below w.heap.size w W→Calls Tryz.prog 54 #[ptr b] W fun e w'=>e=.returned (.bool false)∧w'=W)
  {Q:World→World→Prop} (hov:∀ W,Below w.heap.size w W→Calls Tryz.prog 56 #[sv] W fun e w'=>e=.returned (.map (some W.heap.size))∧Below W.heap.size W w'∧Q W w'):
  Calls Tryz.prog 34 #[ptr b,.agg #[.int .i64 min,.int .i64 max,.int .i64 step,.int .i64 up,.int .i64 down],.int .i64 count] w fun e w'=>∃ W w3,Below w.heap.size w W∧Below W.heap.size W w3∧Q W w3∧e=.returned (.tuple #[ptr w3.heap.size,.nilIface])∧w'=w3.alloc (.cells #[ptr b,.int .i64 min,.int .i64 max,.int .i64 step,.int .i64 up,.int .i64 down,.map (some W.heap.size),.int .i64 (-9223372036854775808),.int .i64 count,.bool false,.int .i64 0] 126):=by
 have hB0:Below w.heap.size w (w.alloc (.cells #[.int .i64 min,.int .i64 max,.int .i64 step,.int .i64 up,.int .i64 down] 99)):=(Below.refl _ _).alloc (Nat.le_refl _) _
 have hem:=hem _ hB0
 have hps:=zHD (w.alloc (.cells #[.int .i64 min,.int .i64 max,.int .i64 step,.int .i64 up,.int .i64 down] 99)) min max step up down
 have HB:Hid _:=And.intro hB0 (And.intro hb hl)
 clear hB0 hb hl
 go_enter Tryz.func34,Tryz.ntmps34
 go_wp2_with fail
 refine hem.mono ?_
 rintro e w1 ⟨rfl,rfl⟩
 clear hem
 go_wp2_with fail
 refine hps.mono ?_
 rintro e w2 ⟨rfl,hb2⟩
 have d:(w.alloc (.cells #[.int .i64 min,.int .i64 max,.int .i64 step,.int .i64 up,.int .i64 down] 99)).heap[w.heap.size]?=some (.cells #[.int .i64 min,.int .i64 max,.int .i64 step,.int .i64 up,.int .i64 down] 99 (0,0)):=heap_alloc_new _ _
 have d2:=(hb2.block _ (zA2 d)).trans d
 have k0:=zA0 (i:=0) (v:=.int .i64 min) d2 rfl
 have k1:=zA0 (i:=1) (v:=.int .i64 max) d2 rfl
 have k2:=zA0 (i:=2) (v:=.int .i64 step) d2 rfl
 have k3:=zA0 (i:=3) (v:=.int .i64 up) d2 rfl
 have k4:=zA0 (i:=4) (v:=.int .i64 down) d2 rfl
 have hB2:Below w.heap.size w w2:=⟨hb2.os.trans HB.out.1.os,hb2.tape.trans HB.out.1.tape,hb2.output.trans HB.out.1.output,Nat.le_trans HB.out.1.size hb2.size,fun k hk=>(hb2.block k (Nat.lt_of_lt_of_le hk HB.out.1.size)).trans (HB.out.1.block k hk)⟩
 have p0:=zA0 (i:=0) (v:=ptr lb) ((hB2.block _ (zA2 HB.out.2.1)).trans HB.out.2.1) rfl
 have l2:=zA0 (i:=2) (v:=sv) ((hB2.block _ (zA2 HB.out.2.2)).trans HB.out.2.2) rfl
 have HB2:Hid _:=hB2
 clear d d2 hb2 hB2 hps
 rw[hyes]
 have n1:¬ count<min:=by omega
 have n2:¬ max<count:=by omega
 go_wp2_with fail
 go_region_held3 (fun w'=>w'.cell? ⟨w.heap.size,0,none⟩=some (.int .i64 min)∧w'.cell? ⟨w.heap.size,1,none⟩=some (.int .i64 max)∧w'.cell? ⟨w.heap.size,2,none⟩=some (.int .i64 step)∧w'.cell? ⟨w.heap.size,3,none⟩=some (.int .i64 up)∧w'.cell? ⟨w.heap.size,4,none⟩=some (.int .i64 down)∧w'.cell? ⟨b,0,none⟩=some (ptr lb)∧w'.cell? ⟨lb,2,none⟩=some sv) (go_keep)
  (first
   | (go_at_call 56;refine(hov _ HB2.out.drew).mono ?_;rintro e w3 ⟨rfl,hb3,hq3⟩;have e0:=zAR (w:=w2.drew) hb3 k0;have e1:=zAR (w:=w2.drew) hb3 k1;have e2:=zAR (w:=w2.drew) hb3 k2;have e3:=zAR (w:=w2.drew) hb3 k3;have e4:=zAR (w:=w2.drew) hb3 k4;have e5:=zAR (w:=w2.drew) hb3 p0;have e6:=zAR (w:=w2.drew) hb3 l2;have H3:Hid _:=And.intro hb3 hq3;clear hb3 hq3))
 all_goals
  go_wp2
  go_ret2
  exact⟨w2.drew,w3,HB2.out.drew,H3.out.1,H3.out.2,rfl,rfl⟩
end Go.Proofs.YtbokdbaagacnlaaGreatDoor
