import Derived.Test.YtbokdbaagacnlaaGreatDoorJQ44
import Derived.WalkLawsBesides
namespace Go.Proofs.YtbokdbaagacnlaaGreatDoor
open Go.Lib
abbrev Evt := Bool × ByteArray × Int × Int
abbrev decV (t cnt:Int)(n taken:Nat)(d:DErr):List Value:=[.int .i64 t,.int .i64 cnt,.int .i64 n,.int .i64 taken,.int .i64 d.e,.int .i64 d.p,.int .i64 d.m,.string zAK]
structure Ran where
 k:Ctl
 T:WT
 L:List (List Value)
def Ran.step (u:Tree)(sp:List (ByteArray × Int))(s:Ran)(j:Nat)(q:Evt):Ran:=
 if q.1=true then⟨(s.k.decide zAC u s.T q.2.2.2).2.1,(s.k.decide zAC u s.T q.2.2.2).2.2,s.L ++ [decV q.2.2.2 (s.k.decide zAC u s.T q.2.2.2).2.1.count s.L.length (j+1) (s.k.decide zAC u s.T q.2.2.2).1]⟩
 else⟨(s.k.feed sp s.T q.2.1 q.2.2.1 q.2.2.2).2.1,(s.k.feed sp s.T q.2.1 q.2.2.1 q.2.2.2).2.2,s.L⟩
def zAW (u:Tree)(sp:List (ByteArray × Int))(s:Ran)(E:List Evt):Nat→Ran
 | 0=>s
 | j+1=>match E[j]? with
  | none=>zAW u sp s E j
  | some q=>(zAW u sp s E j).step u sp j q
def zFR (E:List Bool)(j:Nat):Nat:=((E.take j).filter id).length
theorem zCZ {E:List Bool}{j:Nat}{b:Bool}(h:E[j]?=some b):zFR E (j+1)=zFR E j+(if b=true then 1 else 0):=by
 unfold zFR
 rw[List.take_add_one,h]
 cases b <;> simp
theorem zLY (E:List Bool)(j:Nat):zFR E j≤j:=by
 unfold zFR
 exact Nat.le_trans (List.length_filter_le _ _) (by simp;omega)
theorem zP7 (u:Tree)(sp:List (ByteArray × Int))(s:Ran)(hs:s.L=[])(E:List Evt)(j:Nat):(zAW u sp s E j).L.length=zFR (E.map (·.1)) j:=by
 induction j with
 | zero=>simp[zAW,hs,zFR]
 | succ j ih=>
  unfold zAW
  cases h:E[j]? with
  | none=>
   have hl:E.length≤j:=List.getElem?_eq_none_iff.1 h
   simp only
   rw[ih]
   unfold zFR
   rw[List.take_of_length_le (by simpa using hl),List.take_of_length_le (by simp;omega)]
  | some q=>
   have hb:(E.map (·.1))[j]?=some q.1:=by rw[List.getElem?_map,h];rfl
   rw[zCZ hb]
   simp only[Ran.step]
   split
   ·simp[ih]
   ·simp[ih]
def Goes (E:List Bool)(bad stop:Int)(j:Nat):Prop:=j≤E.length∧∀ i,i<j→(i:Int)≠bad∧¬ (E[i]?=some true∧(zFR E (i+1):Int)=stop)
def Want (E:List Bool)(bad stop:Int)(n:Nat):Prop:=
 (Goes E bad stop n∧(n=E.length∨(n:Int)=bad))∨∃ i,n=i+1∧Goes E bad stop i∧(i:Int)≠bad∧E[i]?=some true∧(zFR E (i+1):Int)=stop
theorem Want.le {E:List Bool}{bad stop:Int}{n:Nat}(h:Want E bad stop n):n≤E.length:=by
 rcases h with⟨h,-⟩ | ⟨i,rfl,-,-,h,-⟩
 ·exact h.1
 ·exact(List.getElem?_eq_some_iff.1 h).1
theorem Goes.succ {E:List Bool}{bad stop:Int}{j:Nat}(h:Goes E bad stop j)(hj:j<E.length)(hb:(j:Int)≠bad)(ht:¬ (E[j]?=some true∧(zFR E (j+1):Int)=stop)):Goes E bad stop (j+1):=by
 refine⟨hj,fun i hi=>?_⟩
 rcases Nat.lt_succ_iff_lt_or_eq.1 hi with h2 | rfl
 ·exact h.2 i h2
 ·exact⟨hb,ht⟩
theorem want_one {E:List Bool}{bad stop:Int}{n m:Nat}(h:Want E bad stop n)(k:Want E bad stop m):n=m:=by
 have key:∀ {n m:Nat},Want E bad stop n→Want E bad stop m→¬ n<m:=fun {n m} h k hl=>by
  have hm:=k.le
  have go:∀ i,i<n→i<m→True:=fun _ _ _=>trivial
  rcases h with⟨h,rfl | hb⟩ | ⟨i,rfl,h,hb,ht,hs⟩
  ·omega
  ·rcases k with⟨k,-⟩ | ⟨i,rfl,k,kb,-,-⟩
   ·exact(k.2 n hl).1 hb
   ·rcases Nat.lt_succ_iff_lt_or_eq.1 hl with h2 | rfl
    ·exact(k.2 n h2).1 hb
    ·exact kb hb
  ·rcases k with⟨k,-⟩ | ⟨i2,rfl,k,kb,-,-⟩
   ·exact(k.2 i (by omega)).2 ⟨ht,hs⟩
   ·exact(k.2 i (by omega)).2 ⟨ht,hs⟩
 have h1:=key h k
 have h2:=key k h
 omega
end Go.Proofs.YtbokdbaagacnlaaGreatDoor
namespace Go.Proofs.YtbokdbaagacnlaaGreatDoor
open Go.RowKit Go.Lib
def CountR (K:List Bool)(bad n:Int)(w:World)(e:Ending)(w':World):Prop:=w'=w∧∃ k:Nat,e=.returned (.int .i64 k)∧Want K bad n k
set_option maxRecDepth 1000000 in
set_option maxHeartbeats 2000000 in
theorem zNW {w:World}{bo:Option Addr}{cq:Nat}{E:List (Bool × Int × Int × Int)}{bad n:Int}(hE:EvsL w bo E)(hl:E.length≤1073741824):
  Calls Tryz.prog 14 #[.slice bo E.length cq,.int .i64 bad,.int .i64 n] w (CountR (E.map (·.1)) bad n w):=by
 have HE:Hid _:=hE
 clear hE
 go_enter Tryz.func14,Tryz.ntmps14
 go_wp2_with fail
 go_loopw [7,8] (fun v7 v8 wr=>∃ i:Nat,v8=.int .i64 i∧i≤E.length∧v7=.int .i64 (zFR (E.map (·.1)) i:Nat)∧wr=w∧Hid (Goes (E.map (·.1)) bad n i)) (fun _ v8 _=>E.length - (intOf v8).toNat)
 case atStart=>exact⟨0,rfl,Nat.zero_le _,rfl,rfl,⟨Nat.zero_le _,fun i hi=>absurd hi (Nat.not_lt_zero _)⟩⟩
 case round=>
  obtain⟨i,rfl,hi,rfl,hW,HG⟩:=hrel
  subst hW
  have htl:=zLY (E.map (·.1)) i
  rcases Nat.lt_or_ge i E.length with hlt | hge
  ·have hlt2:(i:Int)<E.length:=by omega
   by_cases hb:(i:Int)=bad
   ·have e0:((i:Int) == bad)=true:=by simpa using hb
    have HB:Hid _:=hb
    clear hb
    go_wp2
    go_ret
    exact⟨rfl,i,rfl,.inl ⟨HG.out,.inr HB.out⟩⟩
   ·have e0:((i:Int) == bad)=false:=by simpa using hb
    obtain⟨⟨tk,M,v,tm⟩,hq⟩:∃ q,E[i]?=some q:=⟨E[i],List.getElem?_eq_getElem hlt⟩
    obtain⟨-,-,-,C,off,rfl,c0,-,-,-⟩:=HE.out i _ hq
    have hK:(E.map (·.1))[i]?=some tk:=by rw[List.getElem?_map,hq];rfl
    have hs:=zCZ hK
    have HK:Hid _:=hK
    have HB:Hid _:=hb
    simp only at c0
    clear hb hq hK
    cases tk with
    | false=>
     have HS:Hid _:=hs
     clear hs
     go_wp2
     go_roundw
     case rel=>
      refine⟨i+1,by go_num,by omega,by rw[HS.out];simp,by first | rfl | trivial,?_⟩
      exact HG.out.succ (by simpa using hlt) HB.out fun h=>by rw[HK.out] at h;cases h.1
     case measure=>simp[intOf];omega
    | true=>
     simp only[if_true] at hs
     have HS:Hid _:=hs
     generalize zFR (E.map (·.1)) i=tt at *
     by_cases hn:(tt:Int)+1=n
     ·have e1:((tt:Int)+1 == n)=true:=by simpa using hn
      have HN:Hid _:=hn
      clear hs hn
      go_wp2
      go_ret
      refine⟨rfl,i+1,by go_num,.inr ⟨i,rfl,HG.out,HB.out,HK.out,?_⟩⟩
      rw[HS.out]
      exact_mod_cast HN.out
     ·have e1:((tt:Int)+1 == n)=false:=by simpa using hn
      have HN:Hid _:=hn
      clear hs hn
      go_wp2
      go_roundw
      case rel=>
       refine⟨i+1,by go_num,by omega,by rw[HS.out];go_num,by first | rfl | trivial,?_⟩
       refine HG.out.succ (by simpa using hlt) HB.out fun h=>HN.out ?_
       have:=h.2
       rw[HS.out] at this
       exact_mod_cast this
      case measure=>simp[intOf];omega
  ·obtain rfl:i=E.length:=by omega
   have hge2:¬ (E.length:Int)<E.length:=by omega
   go_wp2
   go_ret
   exact⟨rfl,E.length,rfl,.inl ⟨HG.out,.inl (by simp)⟩⟩
theorem Tryz.neqNil (w:World):(binOp .neq 20 .nilIface .nilIface).run Tryz.prog w=.ok (.bool false) w:=by kernel_rfl
theorem Tryz.neqIface (u:TypeId)(pv:Value)(w:World):(binOp .neq 20 (.iface u pv) .nilIface).run Tryz.prog w=.ok (.bool true) w:=by kernel_rfl
set_option maxRecDepth 1000000 in
theorem own_idle {q:Nat}{x:Value}(w:World)(hq:One w q x 20):
  CallsD Tryz.prog 84 #[ptr q] .returning w fun e u' w'=>e=.returned (.tuple #[])∧u'=.returning∧w'=w.setCell ⟨q,0,none⟩ .nilIface:=by
 have c1:w.cell? ⟨q,0,none⟩=some x:=zA0 hq rfl
 have z1:w.frozen? ⟨q,0,none⟩=false:=zA1 hq
 have hs:One (w.setCell ⟨q,0,none⟩ .nilIface) q .nilIface 20:=zA4 (i:=0) hq
 have c2:(w.setCell ⟨q,0,none⟩ .nilIface).cell? ⟨q,0,none⟩=some .nilIface:=zA0 hs rfl
 have hne:=Tryz.neqNil
 refine callsD_of_wpS Tryz.func84 rfl fun c₀ cs hu=>?_
 apply wpS_seq
 apply wpS_region
 simp[wpOpsS,go_sem,recoverD,hu,c1,z1,Tryz.ntmps84,Exit.thenS]
 apply wpS_seq
 apply wpS_region
 simp[wpOpsS,go_sem,c2,hne,Exit.thenS]
 refine wpS_cond (t:=false) (by simp[Act.eval,Array.replicate]) ?_
 simp only[Bool.false_eq_true,if_false]
 refine wpS_of_wp (wp_skip ?_)
 cases c₀
 simp_all[bodyPostS,results,Tryz.results84]
set_option maxRecDepth 1000000 in
theorem own_panics {q:Nat}{x:Value}(u:TypeId)(pv:Value)(older:List PanicEntry)(w:World)(hq:One w q x 20):
  CallsD Tryz.prog 84 #[ptr q] (.panicking ({ v:=.iface u pv,recovered:=false } :: older)) w fun e u' w'=>e=.panicked [{ v:=.iface u pv,recovered:=false }]∧u'=.panicking ({ v:=.iface u pv,recovered:=true } :: older)∧w'=w.setCell ⟨q,0,none⟩ (.iface u pv):=by
 have c1:w.cell? ⟨q,0,none⟩=some x:=zA0 hq rfl
 have z1:w.frozen? ⟨q,0,none⟩=false:=zA1 hq
 have hs:One (w.setCell ⟨q,0,none⟩ (.iface u pv)) q (.iface u pv) 20:=zA4 (i:=0) hq
 have c2:(w.setCell ⟨q,0,none⟩ (.iface u pv)).cell? ⟨q,0,none⟩=some (.iface u pv):=zA0 hs rfl
 have hne:=Tryz.neqIface u pv
 refine callsD_of_wpS Tryz.func84 rfl fun c₀ cs hu=>?_
 apply wpS_seq
 apply wpS_region
 simp[wpOpsS,go_sem,recoverD,hu,c1,z1,Tryz.ntmps84,Exit.thenS]
 apply wpS_seq
 apply wpS_region
 simp[wpOpsS,go_sem,c2,hne,Exit.thenS]
 refine wpS_cond (t:=true) (by simp[Act.eval,Array.replicate]) ?_
 simp only[if_true]
 apply wpS_region
 simp[wpOpsS,go_sem,c2,bodyPostS,Oper.upon]
set_option maxRecDepth 1000000 in
theorem thr_idle {p q:Nat}{b:Bool}(w:World)(hp:One w p (.bool b) 4)(hq:One w q .nilIface 20):
  CallsD Tryz.prog 82 #[ptr p,ptr q] .returning w fun e u' w'=>e=.returned (.tuple #[])∧u'=.returning∧w'=w.setCell ⟨p,0,none⟩ (.bool true):=by
 have c1:w.cell? ⟨p,0,none⟩=some (.bool b):=zA0 hp rfl
 have z1:w.frozen? ⟨p,0,none⟩=false:=zA1 hp
 have hs:One (w.setCell ⟨p,0,none⟩ (.bool true)) q .nilIface 20:=zA6 hq (kind_ne hq hp (by decide))
 have c2:(w.setCell ⟨p,0,none⟩ (.bool true)).cell? ⟨q,0,none⟩=some .nilIface:=zA0 hs rfl
 have hne:=Tryz.neqNil
 refine callsD_of_wpS Tryz.func82 rfl fun c₀ cs hu=>?_
 apply wpS_seq
 apply wpS_region
 simp[wpOpsS,go_sem,c1,z1,Tryz.ntmps82,Exit.thenS]
 apply wpS_seq
 apply wpS_region
 simp[wpOpsS,go_sem,recoverD,hu,Exit.thenS]
 apply wpS_seq
 apply wpS_region
 simp[wpOpsS,go_sem,c2,hne,Exit.thenS]
 refine wpS_cond (t:=false) (by simp[Act.eval,Array.replicate]) ?_
 simp only[Bool.false_eq_true,if_false]
 refine wpS_of_wp (wp_skip ?_)
 cases c₀
 simp_all[bodyPostS,results,Tryz.results82]
set_option maxRecDepth 1000000 in
theorem thr_caught {p q:Nat}{b:Bool}(u:TypeId)(pv:Value)(older:List PanicEntry)(w:World)(hp:One w p (.bool b) 4)(hq:One w q .nilIface 20):
  CallsD Tryz.prog 82 #[ptr p,ptr q] (.panicking ({ v:=.iface u pv,recovered:=false } :: older)) w fun e u' w'=>e=.returned (.tuple #[])∧u'=.panicking ({ v:=.iface u pv,recovered:=true } :: older)∧w'=w.setCell ⟨p,0,none⟩ (.bool true):=by
 have c1:w.cell? ⟨p,0,none⟩=some (.bool b):=zA0 hp rfl
 have z1:w.frozen? ⟨p,0,none⟩=false:=zA1 hp
 have hs:One (w.setCell ⟨p,0,none⟩ (.bool true)) q .nilIface 20:=zA6 hq (kind_ne hq hp (by decide))
 have c2:(w.setCell ⟨p,0,none⟩ (.bool true)).cell? ⟨q,0,none⟩=some .nilIface:=zA0 hs rfl
 have hne:=Tryz.neqNil
 refine callsD_of_wpS Tryz.func82 rfl fun c₀ cs hu=>?_
 apply wpS_seq
 apply wpS_region
 simp[wpOpsS,go_sem,c1,z1,Tryz.ntmps82,Exit.thenS]
 apply wpS_seq
 apply wpS_region
 simp[wpOpsS,go_sem,recoverD,hu,Exit.thenS]
 apply wpS_seq
 apply wpS_region
 simp[wpOpsS,go_sem,c2,hne,Exit.thenS]
 refine wpS_cond (t:=false) (by simp[Act.eval,Array.replicate]) ?_
 simp only[Bool.false_eq_true,if_false]
 refine wpS_of_wp (wp_skip ?_)
 cases c₀
 simp_all[bodyPostS,results,Tryz.results82]
set_option maxRecDepth 1000000 in
theorem thr_again {p q:Nat}{b:Bool}(u:TypeId)(pv:Value)(older:List PanicEntry)(w:World)(hp:One w p (.bool b) 4)(hq:One w q (.iface u pv) 20):
  CallsD Tryz.prog 82 #[ptr p,ptr q] (.panicking ({ v:=.iface u pv,recovered:=false } :: older)) w fun e u' w'=>e=.panicked [{ v:=.iface u pv,recovered:=false }]∧u'=.panicking ({ v:=.iface u pv,recovered:=true } :: older)∧w'=w.setCell ⟨p,0,none⟩ (.bool true):=by
 have c1:w.cell? ⟨p,0,none⟩=some (.bool b):=zA0 hp rfl
 have z1:w.frozen? ⟨p,0,none⟩=false:=zA1 hp
 have hs:One (w.setCell ⟨p,0,none⟩ (.bool true)) q (.iface u pv) 20:=zA6 hq (kind_ne hq hp (by decide))
 have c2:(w.setCell ⟨p,0,none⟩ (.bool true)).cell? ⟨q,0,none⟩=some (.iface u pv):=zA0 hs rfl
 have hne:=Tryz.neqIface u pv
 refine callsD_of_wpS Tryz.func82 rfl fun c₀ cs hu=>?_
 apply wpS_seq
 apply wpS_region
 simp[wpOpsS,go_sem,c1,z1,Tryz.ntmps82,Exit.thenS]
 apply wpS_seq
 apply wpS_region
 simp[wpOpsS,go_sem,recoverD,hu,Exit.thenS]
 apply wpS_seq
 apply wpS_region
 simp[wpOpsS,go_sem,c2,hne,Exit.thenS]
 refine wpS_cond (t:=true) (by simp[Act.eval,Array.replicate]) ?_
 simp only[if_true]
 apply wpS_region
 simp[wpOpsS,go_sem,c2,bodyPostS,Oper.upon]
theorem Tryz.eqlCaller (w:World):(binOp .eql 20 (.iface 9 (.string ⟨#[116,104,101,32,99,97,108,108,101,114]⟩)) (.iface 9 (.string ⟨#[116,104,101,32,99,97,108,108,101,114]⟩))).run Tryz.prog w=.ok (.bool true) w:=by kernel_rfl
theorem Tryz.eqlNone (w:World):(binOp .eql 20 .nilIface (.iface 9 (.string ⟨#[116,104,101,32,99,97,108,108,101,114]⟩))).run Tryz.prog w=.ok (.bool false) w:=by kernel_rfl
set_option maxRecDepth 1000000 in
theorem mine_idle {p:Nat}{x:Value}(w:World)(hp:One w p x 4):
  CallsD Tryz.prog 32 #[ptr p] .returning w fun e u' w'=>e=.returned (.tuple #[])∧u'=.returning∧w'=w.setCell ⟨p,0,none⟩ (.bool false):=by
 have c1:w.cell? ⟨p,0,none⟩=some x:=zA0 hp rfl
 have z1:w.frozen? ⟨p,0,none⟩=false:=zA1 hp
 have hne:=Tryz.eqlNone
 refine callsD_of_wpS Tryz.func32 rfl fun c₀ cs hu=>?_
 apply wpS_region
 cases c₀
 simp_all[wpOpsS,go_sem,recoverD,Tryz.ntmps32,bodyPostS,results,Tryz.results32]
set_option maxRecDepth 1000000 in
theorem zPH {p:Nat}{x:Value}(older:List PanicEntry)(w:World)(hp:One w p x 4):
  CallsD Tryz.prog 32 #[ptr p] (.panicking ({ v:=.iface 9 (.string ⟨#[116,104,101,32,99,97,108,108,101,114]⟩),recovered:=false } :: older)) w fun e u' w'=>e=.returned (.tuple #[])∧u'=.panicking ({ v:=.iface 9 (.string ⟨#[116,104,101,32,99,97,108,108,101,114]⟩),recovered:=true } :: older)∧w'=w.setCell ⟨p,0,none⟩ (.bool true):=by
 have c1:w.cell? ⟨p,0,none⟩=some x:=zA0 hp rfl
 have z1:w.frozen? ⟨p,0,none⟩=false:=zA1 hp
 have hne:=Tryz.eqlCaller
 refine callsD_of_wpS Tryz.func32 rfl fun c₀ cs hu=>?_
 apply wpS_region
 cases c₀
 simp_all[wpOpsS,go_sem,recoverD,Tryz.ntmps32,bodyPostS,results,Tryz.results32]
set_option maxRecDepth 1000000 in
set_option maxHeartbeats 1000000 in
theorem zHC {ov ow tb F:Nat}{caps:Array Value}{w:World}{tk:Bool}{name:ByteArray}{v t:Int}{x:Value}{Q:Bool→World→Prop}(hov:One w ov (.bool false) 4)(_how:One w ow x 20)(htb:One w tb (.func (.func F) #[] caps) 136)
  (hcf:∀ w:World,(callFunc F (#[.agg #[.bool tk,.string name,.int .i64 v,.int .i64 t]] ++ caps)).run Tryz.prog w=.ok (.enter F (#[.agg #[.bool tk,.string name,.int .i64 v,.int .i64 t]] ++ caps)) w)
  (hc:∀ W,KeepX (· = ov) w W→One W ov (.bool true) 4→Calls Tryz.prog F (#[.agg #[.bool tk,.string name,.int .i64 v,.int .i64 t]] ++ caps) W fun e w1=>∃ b,e=.returned (.bool b)∧One w1 ov (.bool true) 4∧(∃ x,One w1 ow x 20)∧Q b w1):
  Calls Tryz.prog 83 #[.agg #[.bool tk,.string name,.int .i64 v,.int .i64 t],ptr ov,ptr ow,ptr tb] w fun e w'=>∃ b w1,e=.returned (.bool b)∧Q b w1∧KeepX (fun k=>k=ov∨k=ow) w1 w'∧One w' ov (.bool !b) 4∧One w' ow .nilIface 20:=by
 have hmf:∀ (fn:Fn) (first cap:Array Value) (w:World),(Instr.makeFunc fn first cap).run Tryz.prog w=.ok (.func fn first cap) w:=fun _ _ _ _=>rfl
 have c0:w.cell? ⟨ov,0,none⟩=some (.bool false):=zA0 hov rfl
 have z0:w.frozen? ⟨ov,0,none⟩=false:=zA1 hov
 have c1:w.cell? ⟨tb,0,none⟩=some (.func (.func F) #[] caps):=zA0 htb rfl
 have n1:tb≠ov:=kind_ne htb hov (by decide)
 have l0:=zA2 hov
 have l1:=zA2 htb
 go_enter_defers Tryz.func83,Tryz.ntmps83
 have hW:KeepX (· = ov) w ((w.setCell ⟨ov,0,none⟩ (.bool true)).alloc (.cells #[.bool tk,.string name,.int .i64 v,.int .i64 t] 137)):=(KeepX.mk rfl rfl rfl (by simp) fun k _ hk=>Below.heap_setCell _ _ _ k hk:KeepX (· = ov) w (w.setCell ⟨ov,0,none⟩ (.bool true))).trans (.of_below ((Below.refl _ _).alloc (Nat.le_refl _) _))
 have hO:One ((w.setCell ⟨ov,0,none⟩ (.bool true)).alloc (.cells #[.bool tk,.string name,.int .i64 v,.int .i64 t] 137)) ov (.bool true) 4:=zA3 (zA4 (i:=0) hov)
 have hcall:=hc _ hW hO
 clear hW hO hc hov _how htb
 go_wp2_with fail
 refine hcall.mono ?_
 rintro e w1 ⟨b,rfl,o1,⟨x1,o2⟩,hq⟩
 have k1:w1.cell? ⟨ov,0,none⟩=some (.bool true):=zA0 o1 rfl
 have y1:w1.frozen? ⟨ov,0,none⟩=false:=zA1 o1
 have H1:Hid _:=And.intro o1 (And.intro o2 hq)
 clear hcall o1 o2 hq
 have n2:ow≠ov:=kind_ne H1.out.2.1 H1.out.1 (by decide)
 have FIN:Hid (KeepX (fun k=>k=ov∨k=ow) w1 ((w1.setCell ⟨ov,0,none⟩ (.bool !b)).setCell ⟨ow,0,none⟩ .nilIface)∧One ((w1.setCell ⟨ov,0,none⟩ (.bool !b)).setCell ⟨ow,0,none⟩ .nilIface) ov (.bool !b) 4∧One ((w1.setCell ⟨ov,0,none⟩ (.bool !b)).setCell ⟨ow,0,none⟩ .nilIface) ow .nilIface 20):=
  ⟨⟨rfl,rfl,rfl,by simp,fun k _ hk=>(Below.heap_setCell _ _ _ k fun e=>hk (.inr e)).trans (Below.heap_setCell _ _ _ k fun e=>hk (.inl e))⟩,zA6 (zA4 (i:=0) H1.out.1) n2.symm,zA4 (i:=0) (zA6 H1.out.2.1 n2)⟩
 go_wp2
 refine leaves_cons (f:=84) (args:=#[ptr ow]) (by simp) (by simp[go_sem]) ?_
 refine(own_idle (x:=x1) _ (zA6 H1.out.2.1 n2)).mono ?_
 rintro e u' w'' ⟨rfl,rfl,rfl⟩
 cases b
 ·simp[Leaves,settle,results,Tryz.results83,go_sem]
  exact⟨w1,H1.out.2.2,FIN.out⟩
 ·simp[Leaves,settle,results,Tryz.results83,go_sem]
  exact⟨w1,H1.out.2.2,FIN.out⟩
set_option maxRecDepth 1000000 in
set_option maxHeartbeats 1000000 in
theorem zGH {ov ow tb F:Nat}{caps:Array Value}{w:World}{tk:Bool}{name:ByteArray}{v t:Int}{x:Value}{u:TypeId}{pv:Value}{Q:World→Prop}(hov:One w ov (.bool false) 4)(_how:One w ow x 20)(htb:One w tb (.func (.func F) #[] caps) 136)
  (hcf:∀ w:World,(callFunc F (#[.agg #[.bool tk,.string name,.int .i64 v,.int .i64 t]] ++ caps)).run Tryz.prog w=.ok (.enter F (#[.agg #[.bool tk,.string name,.int .i64 v,.int .i64 t]] ++ caps)) w)
  (hc:∀ W,KeepX (· = ov) w W→One W ov (.bool true) 4→Calls Tryz.prog F (#[.agg #[.bool tk,.string name,.int .i64 v,.int .i64 t]] ++ caps) W fun e w1=>e=.panicked [{ v:=.iface u pv,recovered:=false }]∧(∃ x,One w1 ow x 20)∧Q w1):
  Calls Tryz.prog 83 #[.agg #[.bool tk,.string name,.int .i64 v,.int .i64 t],ptr ov,ptr ow,ptr tb] w fun e w'=>∃ w1,e=.panicked [{ v:=.iface u pv,recovered:=false },{ v:=.iface u pv,recovered:=true }]∧Q w1∧KeepX (· = ow) w1 w'∧One w' ow (.iface u pv) 20:=by
 have hmf:∀ (fn:Fn) (first cap:Array Value) (w:World),(Instr.makeFunc fn first cap).run Tryz.prog w=.ok (.func fn first cap) w:=fun _ _ _ _=>rfl
 have c0:w.cell? ⟨ov,0,none⟩=some (.bool false):=zA0 hov rfl
 have z0:w.frozen? ⟨ov,0,none⟩=false:=zA1 hov
 have c1:w.cell? ⟨tb,0,none⟩=some (.func (.func F) #[] caps):=zA0 htb rfl
 have n1:tb≠ov:=kind_ne htb hov (by decide)
 have l0:=zA2 hov
 have l1:=zA2 htb
 go_enter_defers Tryz.func83,Tryz.ntmps83
 have hW:KeepX (· = ov) w ((w.setCell ⟨ov,0,none⟩ (.bool true)).alloc (.cells #[.bool tk,.string name,.int .i64 v,.int .i64 t] 137)):=(KeepX.mk rfl rfl rfl (by simp) fun k _ hk=>Below.heap_setCell _ _ _ k hk:KeepX (· = ov) w (w.setCell ⟨ov,0,none⟩ (.bool true))).trans (.of_below ((Below.refl _ _).alloc (Nat.le_refl _) _))
 have hO:One ((w.setCell ⟨ov,0,none⟩ (.bool true)).alloc (.cells #[.bool tk,.string name,.int .i64 v,.int .i64 t] 137)) ov (.bool true) 4:=zA3 (zA4 (i:=0) hov)
 have hcall:=hc _ hW hO
 clear hW hO hc hov _how htb
 go_wp2_with fail
 refine hcall.mono ?_
 rintro e w1 ⟨rfl,⟨x1,o2⟩,hq⟩
 have H1:Hid _:=And.intro o2 hq
 clear hcall o2 hq
 go_wp2
 refine leaves_cons (f:=84) (args:=#[ptr ow]) (by simp) (by simp[go_sem]) ?_
 refine(own_panics (x:=x1) u pv [] _ H1.out.1).mono ?_
 rintro e u' w'' ⟨rfl,rfl,rfl⟩
 simp[Leaves,raised,go_sem]
 exact⟨w1,H1.out.2,⟨rfl,rfl,rfl,by simp,fun k _ hk=>Below.heap_setCell _ _ _ k hk⟩,zA4 (i:=0) H1.out.1⟩
def EvsP (w:World)(ao:Option Addr)(E:List (Bool × ByteArray × Int × Int)):Prop:=∀ (i:Nat) (q:Bool × ByteArray × Int × Int),E[i]?=some q→∃ C off,ao=some ⟨C,off,none⟩∧w.cell? ⟨C,off+i * 4,none⟩=some (.bool q.1)∧w.cell? ⟨C,off+i * 4+1,none⟩=some (.string q.2.1)∧w.cell? ⟨C,off+i * 4+2,none⟩=some (.int .i64 q.2.2.1)∧w.cell? ⟨C,off+i * 4+3,none⟩=some (.int .i64 q.2.2.2)
abbrev zBT (q:Bool × ByteArray × Int × Int):Array Value:=#[.bool q.1,.string q.2.1,.int .i64 q.2.2.1,.int .i64 q.2.2.2]
abbrev zND : Value:=.iface 9 (.string ⟨#[116,104,101,32,115,111,117,114,99,101]⟩)
structure SrcAt (lb bb pb tb to cp:Nat) (ao:Option Addr) (bad:Int) (E:List (Bool × ByteArray × Int × Int)) (j:Nat) (w:World):Prop where
 l:One w lb (.slice ao E.length cp) 49
 bad:One w bb (.int .i64 bad) 3
 p:One w pb (.pointer (some ⟨tb,to,none⟩)) 89
 cell:w.cell? ⟨tb,to,none⟩=some (.int .i64 j)
 soft:w.frozen? ⟨tb,to,none⟩=false
 evs:EvsP w ao E
def SrcR (J R:Nat→World→Prop)(Pn:Nat→List PanicEntry→World→Prop)(bad:Int)(m:Nat)(e:Ending)(w':World):Prop:=
 (e=.returned (.tuple #[])∧J m w'∧bad≠m)∨(e=.returned (.tuple #[])∧∃ j,R j w')∨(e=.panicked [{ v:=zND,recovered:=false }]∧∃ (j:Nat) (W:World),(j:Int)=bad∧j≤m∧J j W∧Below W.heap.size W w')∨∃ ch j,e=.panicked ch∧Pn j ch w'
set_option maxRecDepth 1000000 in
set_option maxHeartbeats 2000000 in
theorem zIS {lb bb pb tb to cp Y:Nat}{yc:Array Value}{ao:Option Addr}{bad:Int}{E:List (Bool × ByteArray × Int × Int)}{w:World}{J R:Nat→World→Prop}{Pn:Nat→List PanicEntry→World→Prop}(hlen:E.length≤1073741824)
  (hJ:∀ j W,J j W→SrcAt lb bb pb tb to cp ao bad E j W)
  (hcf:∀ q (w:World),(callFunc Y (#[.agg (zBT q)] ++ yc)).run Tryz.prog w=.ok (.enter Y (#[.agg (zBT q)] ++ yc)) w)
  (hst:∀ (j:Nat) q W,E[j]?=some q→(j:Int)≠bad→J j W→Calls Tryz.prog Y (#[.agg (zBT q)] ++ yc) ((W.setCell ⟨tb,to,none⟩ (.int .i64 (j+1))).alloc (.cells (zBT q) 35)) fun e w1=>(∃ b,e=.returned (.bool b)∧(b=true→J (j+1) w1)∧(b=false→R (j+1) w1))∨∃ ch,e=.panicked ch∧Pn (j+1) ch w1)
  (h0:J 0 w):
  Calls Tryz.prog 50 #[.func (.func Y) #[] yc,ptr lb,ptr bb,ptr pb] w fun e w'=>SrcR J R Pn bad E.length e w':=by
 have HJ:Hid _:=hJ
 have HST:Hid _:=hst
 have s0:=hJ 0 w h0
 have cl:=zA0 (i:=0) (v:=.slice ao E.length cp) s0.l rfl
 have H0:Hid _:=h0
 clear hJ hst h0 s0
 go_enter Tryz.func50,Tryz.ntmps50
 go_wp2_with fail
 go_loopw [9] (fun v9 wr=>∃ j:Nat,v9=.int .i64 j∧j≤E.length∧Hid (J j wr)) (fun v9 _=>E.length - (intOf v9).toNat)
 case atStart=>exact⟨0,rfl,Nat.zero_le _,H0⟩
 case round=>
  obtain⟨j,rfl,hj,HI⟩:=hrel
  have sj:=HJ.out j wr HI.out
  have cb:=zA0 (i:=0) (v:=.int .i64 bad) sj.bad rfl
  have ll:=zA0 (i:=0) (v:=.slice ao E.length cp) sj.l rfl
  have lbb:=zA2 sj.bad
  have llb:=zA2 sj.l
  have lpb:=zA2 sj.p
  have lt:=World.block_lt_of_cell? _ _ sj.cell
  simp only at lt
  rcases Nat.lt_or_ge j E.length with hlt | hge
  ·obtain⟨q,hq⟩:∃ q,E[j]?=some q:=⟨E[j],List.getElem?_eq_getElem hlt⟩
   obtain⟨C,off,rfl,c0,c1,c2,c3⟩:=sj.evs j q hq
   have hlt2:(j:Int)<E.length:=by omega
   by_cases hb:(j:Int)=bad
   ·subst hb
    have e0:((j:Int) == j)=true:=by simp
    clear sj
    go_wp2
    exact⟨rfl,.inr (.inr (.inl ⟨rfl,j,wr,rfl,hj,HI.out,(Below.refl _ _).alloc (Nat.le_refl _) _⟩))⟩
   ·have e0:((j:Int) == bad)=false:=by simpa using hb
    have cp1:=zA0 (i:=0) (v:=.pointer (some ⟨tb,to,none⟩)) sj.p rfl
    have ct:=sj.cell
    have cz:=sj.soft
    have hcall:=HST.out j q wr hq hb HI.out
    clear sj
    go_wp2_with fail
    refine hcall.mono ?_
    rintro e w1 (⟨b,rfl,h1,h2⟩ | ⟨ch,rfl,h⟩)
    ·cases b with
     | true=>
      have H1:Hid _:=h1 rfl
      clear h1 h2 hcall
      go_wp2
      go_roundw
      case rel=>exact⟨j+1,by go_num,by omega,H1⟩
      case measure=>simp[intOf];omega
     | false=>
      have H1:Hid _:=h2 rfl
      clear h1 h2 hcall
      go_wp2
      refine bodyPost_ret (results_none rfl _ _ _) rfl ?_
      exact .inr (.inl ⟨rfl,_,H1.out⟩)
    ·clear hcall
     go_wp2
     exact⟨rfl,.inr (.inr (.inr ⟨ch,_,rfl,h⟩))⟩
  ·obtain rfl:j=E.length:=by omega
   have hge2:¬ (E.length:Int)<E.length:=by omega
   by_cases hb:bad=E.length
   ·have e0:(bad == (E.length:Int))=true:=by simpa using hb
    have HB:Hid _:=hb
    clear sj hb
    go_wp2
    exact⟨rfl,.inr (.inr (.inl ⟨rfl,_,wr,HB.out.symm,Nat.le_refl _,HI.out,Below.refl _ _⟩))⟩
   ·have e0:(bad == (E.length:Int))=false:=by simpa using hb
    have HB:Hid _:=hb
    clear sj hb
    go_wp2
    refine bodyPost_end (results_none rfl _ _ _) rfl ?_
    exact .inl ⟨rfl,HI.out,HB.out⟩
def ThrI (n:Nat)(Q:World→Prop)(P:TypeId→Value→World→Prop)(e:Ending)(w:World):Prop:=
 ((e=.returned (.tuple #[])∨e=.panicked [{ v:=zND,recovered:=false }])∧(∃ b,One w (n+1) (.bool b) 4)∧One w (n+2) .nilIface 20∧Q w)∨∃ u pv older,e=.panicked ({ v:=.iface u pv,recovered:=false } :: older)∧(∀ q∈older,q.goexit=false)∧(∃ b,One w (n+1) (.bool b) 4)∧One w (n+2) (.iface u pv) 20∧P u pv w
def ThrR (n:Nat)(Q:World→Prop)(P:TypeId→Value→World→Prop)(e:Ending)(w:World):Prop:=
 (e=.returned (.tuple #[])∧∃ w1,Q w1∧KeepX (· = n+1) w1 w)∨∃ u pv older,e=.panicked ({ v:=.iface u pv,recovered:=false } :: older)∧(∀ q∈older,q.goexit=false)∧∃ w1,P u pv w1∧KeepX (· = n+1) w1 w
abbrev thrW (w:World)(tv:Value):World:=((w.alloc (.cells #[tv] 136)).alloc (.cells #[.bool false] 4)).alloc (.cells #[.nilIface] 20)
theorem KeepX.set1 {b:Nat}(w:World)(v:Value):KeepX (· = b) w (w.setCell ⟨b,0,none⟩ v):=⟨rfl,rfl,rfl,by simp,fun k _ hk=>Below.heap_setCell _ _ _ k hk⟩
set_option maxRecDepth 1000000 in
set_option maxHeartbeats 2000000 in
theorem zIR {lb bb pb F:Nat}{caps:Array Value}{w:World}{Q:World→Prop}{P:TypeId→Value→World→Prop}
  (hs:Calls Tryz.prog 50 #[.func (.func 83) #[] #[ptr (w.heap.size+1),ptr (w.heap.size+2),ptr w.heap.size],ptr lb,ptr bb,ptr pb] (thrW w (.func (.func F) #[] caps)) (ThrI w.heap.size Q P)):
  Calls Tryz.prog 52 #[.func (.func 50) #[] #[ptr lb,ptr bb,ptr pb],.func (.func F) #[] caps] w (ThrR w.heap.size Q P):=by
 have hmf:∀ (fn:Fn) (first cap:Array Value) (w:World),(Instr.makeFunc fn first cap).run Tryz.prog w=.ok (.func fn first cap) w:=fun _ _ _ _=>rfl
 go_enter_defers Tryz.func52,Tryz.ntmps52
 go_wp2_with fail
 refine hs.mono ?_
 rintro e w1 (⟨rfl | rfl,⟨b,o1⟩,o2,hq⟩ | ⟨u,pv,older,rfl,hgo,⟨b,o1⟩,o2,hp⟩)
 ·have H1:Hid _:=And.intro o1 (And.intro o2 hq)
  clear hs o1 o2 hq
  go_wp2
  refine leaves_cons (f:=82) (args:=#[ptr (w.heap.size+1),ptr (w.heap.size+2)]) (by simp) (by simp[go_sem]) ?_
  refine(thr_idle _ H1.out.1 H1.out.2.1).mono ?_
  rintro e u' w'' ⟨rfl,rfl,rfl⟩
  simp[Leaves,settle,results,Tryz.results52,go_sem]
  exact .inl ⟨rfl,w1,H1.out.2.2,KeepX.set1 _ _⟩
 ·have H1:Hid _:=And.intro o1 (And.intro o2 hq)
  clear hs o1 o2 hq
  go_wp2
  refine leaves_cons (f:=82) (args:=#[ptr (w.heap.size+1),ptr (w.heap.size+2)]) (by simp) (by simp[go_sem]) ?_
  refine(thr_caught _ _ [] _ H1.out.1 H1.out.2.1).mono ?_
  rintro e u' w'' ⟨rfl,rfl,rfl⟩
  simp[Leaves,settle,results,Tryz.results52,go_sem]
  exact .inl ⟨rfl,w1,H1.out.2.2,KeepX.set1 _ _⟩
 ·have H1:Hid _:=And.intro o1 (And.intro o2 hp)
  have HG:Hid _:=hgo
  clear hs o1 o2 hp hgo
  go_wp2
  refine leaves_cons (f:=82) (args:=#[ptr (w.heap.size+1),ptr (w.heap.size+2)]) (by simp) (by simp[go_sem]) ?_
  refine(thr_again u pv older _ H1.out.1 H1.out.2.1).mono ?_
  rintro e u' w'' ⟨rfl,rfl,rfl⟩
  simp[Leaves,raised,go_sem]
  exact .inr ⟨u,pv,_,rfl,fun q hq=>(List.mem_cons.1 hq).elim (fun e=>by rw[e]) (HG.out q),w1,H1.out.2.2,KeepX.set1 _ _⟩
theorem Tryz.eqSeqNil (w:World):(binOp .eql 87 .nilFunc .nilFunc).run Tryz.prog w=.ok (.bool true) w:=by kernel_rfl
theorem Tryz.eqSeqFunc (F:Nat)(caps:Array Value)(w:World):(binOp .eql 87 (.func (.func F) #[] caps) .nilFunc).run Tryz.prog w=.ok (.bool false) w:=by kernel_rfl
abbrev zMO (w:World)(ev cv:Value):World:=(w.alloc (.cells #[ev] 87)).alloc (.cells #[cv] 72)
set_option maxRecDepth 1000000 in
theorem zF2 {F:Nat}{caps:Array Value}{cv:Option Addr}{w:World}:
  Calls Tryz.prog 30 #[.func (.func F) #[] caps,.pointer cv] w fun e w'=>e=.returned (.func (.func 51) #[] #[ptr w.heap.size,ptr (w.heap.size+1)])∧w'=zMO w (.func (.func F) #[] caps) (.pointer cv):=by
 have hmf:∀ (fn:Fn) (first cap:Array Value) (w:World),(Instr.makeFunc fn first cap).run Tryz.prog w=.ok (.func fn first cap) w:=fun _ _ _ _=>rfl
 go_enter Tryz.func30,Tryz.ntmps30
 go_wp2
 go_ret
 exact⟨rfl,rfl⟩
set_option maxRecDepth 1000000 in
theorem zHG {cv:Option Addr}{w:World}:
  Calls Tryz.prog 30 #[.nilFunc,.pointer cv] w fun e w'=>e=.returned (.func (.func 51) #[] #[ptr w.heap.size,ptr (w.heap.size+1)])∧w'=zMO w .nilFunc (.pointer cv):=by
 have hmf:∀ (fn:Fn) (first cap:Array Value) (w:World),(Instr.makeFunc fn first cap).run Tryz.prog w=.ok (.func fn first cap) w:=fun _ _ _ _=>rfl
 go_enter Tryz.func30,Tryz.ntmps30
 go_wp2
 go_ret
 exact⟨rfl,rfl⟩
set_option maxRecDepth 1000000 in
theorem zHF {eb cb Y:Nat}{yc:Array Value}{w:World}(he:One w eb .nilFunc 87):
  Calls Tryz.prog 51 #[.func (.func Y) #[] yc,ptr eb,ptr cb] w fun e w'=>e=.returned (.tuple #[])∧Below w.heap.size w w':=by
 have c0:=zA0 (i:=0) (v:=.nilFunc) he rfl
 have hq:=Tryz.eqSeqNil
 have l0:=zA2 he
 clear he
 go_enter Tryz.func51,Tryz.ntmps51
 go_wp2
 refine bodyPost_ret (results_none rfl _ _ _) rfl ?_
 exact⟨rfl,(Below.refl _ _).alloc (Nat.le_refl _) _⟩
set_option maxRecDepth 1000000 in
theorem zJ5 {eb cb F Y:Nat}{caps yc:Array Value}{w:World}(he:One w eb (.func (.func F) #[] caps) 87)(hc:One w cb (.pointer none) 72):
  Calls Tryz.prog 51 #[.func (.func Y) #[] yc,ptr eb,ptr cb] w fun e w'=>e=.returned (.tuple #[])∧Below w.heap.size w w':=by
 have c0:=zA0 (i:=0) (v:=.func (.func F) #[] caps) he rfl
 have hq:=Tryz.eqSeqFunc F caps
 have c1:=zA0 (i:=0) (v:=.pointer none) hc rfl
 have l0:=zA2 he
 have l1:=zA2 hc
 clear he hc
 go_enter Tryz.func51,Tryz.ntmps51
 go_wp2
 refine bodyPost_ret (results_none rfl _ _ _) rfl ?_
 exact⟨rfl,(Below.refl _ _).alloc (Nat.le_refl _) _⟩
abbrev runW (w:World)(yv:Value):World:=(w.alloc (.cells #[yv] 93)).alloc (.cells #[.int .i64 0] 3)
set_option maxRecDepth 1000000 in
set_option maxHeartbeats 1000000 in
theorem zOJ {eb cb c F Y:Nat}{caps yc:Array Value}{w:World}{Q:World→Prop}{P:TypeId→Value→World→Prop}(he:One w eb (.func (.func F) #[] caps) 87)(hc:One w cb (ptr c) 72)
  (ht:Calls Tryz.prog 52 #[.func (.func F) #[] caps,.func (.func 53) #[] #[ptr cb,ptr (w.heap.size+1),ptr w.heap.size]] (runW w (.func (.func Y) #[] yc)) (ThrR (w.heap.size+2) Q P)):
  Calls Tryz.prog 51 #[.func (.func Y) #[] yc,ptr eb,ptr cb] w (ThrR (w.heap.size+2) Q P):=by
 have hmf:∀ (fn:Fn) (first cap:Array Value) (w:World),(Instr.makeFunc fn first cap).run Tryz.prog w=.ok (.func fn first cap) w:=fun _ _ _ _=>rfl
 have c0:=zA0 (i:=0) (v:=.func (.func F) #[] caps) he rfl
 have hq:=Tryz.eqSeqFunc F caps
 have c1:=zA0 (i:=0) (v:=ptr c) hc rfl
 have l0:=zA2 he
 have l1:=zA2 hc
 clear he hc
 go_enter Tryz.func51,Tryz.ntmps51
 go_wp2_with fail
 refine ht.mono ?_
 rintro e w1 (⟨rfl,h⟩ | ⟨u,pv,older,rfl,h⟩)
 ·have H:Hid _:=h
  clear ht h
  go_wp2
  refine bodyPost_end (results_none rfl _ _ _) rfl ?_
  exact .inl ⟨rfl,H.out⟩
 ·have H:Hid _:=h
  clear ht h
  go_wp2
  exact⟨rfl,.inr ⟨u,pv,older,rfl,H.out⟩⟩
end Go.Proofs.YtbokdbaagacnlaaGreatDoor
