import Derived.Test.YtbokdbaagacnlaaGreatDoorJQ29
namespace Go.Proofs.YtbokdbaagacnlaaGreatDoor
open Go.RowKit Go.Lib
theorem fore_in {ahead:Int→Int→Bool}:∀ (l:List Int),(∀ x∈l,In64 x)→In64 (zI4 (Win.foremost ahead l)).1
 | [],_=>by unfold In64;simp[zI4,Win.foremost]
 | a :: l,h=>by
  show In64 (l.foldl (fun f x=>if ahead x f=true then x else f) a)
  have:∀ (l:List Int) (a:Int),In64 a→(∀ x∈l,In64 x)→In64 (l.foldl (fun f x=>if ahead x f=true then x else f) a):=by
   intro l
   induction l with
   | nil=>intro a h _;exact h
   | cons y l ih=>
    intro a ha hl
    refine ih _ ?_ fun x hx=>hl x (by simp[hx])
    show In64 (if ahead y a=true then y else a)
    split
    ·exact hl y (by simp)
    ·exact ha
  exact this l a (h a (by simp)) fun x hx=>h x (by simp[hx])
theorem newest_in : ∀ (k:List (Int × Int)),(∀ x∈k,In64 x.2)→In64 (zFJ k):=by
 intro k h
 unfold zFJ
 have:∀ (l:List Int) (a:Int),In64 a→(∀ x∈l,In64 x)→In64 (l.foldl (fun _ v=>v) a):=by
  intro l
  induction l with
  | nil=>intro a h _;exact h
  | cons y l ih=>intro a _ hl;exact ih _ (hl y (by simp)) fun x hx=>hl x (by simp[hx])
 refine this _ 0 (by unfold In64;omega) fun x hx=>?_
 obtain⟨y,hy,rfl⟩:=List.mem_map.1 hx
 exact h y hy
theorem meas_in (kind:ByteArray){k:List (Int × Int)}(hl:k.length≤16)(h:∀ x∈k,In64 x.2):In64 (zBJ kind k).1:=by
 have hm:∀ x∈k.map (·.2),In64 x:=fun x hx=>by
  obtain⟨y,hy,rfl⟩:=List.mem_map.1 hx
  exact h y hy
 unfold zBJ
 repeat' split
 ·unfold In64;simp only;omega
 ·exact zLW k
 ·exact fore_in _ hm
 ·exact fore_in _ hm
 ·unfold In64;simp
 ·show In64 (quot (zCY k) k.length)
  exact zP8 _ _
 ·exact newest_in k h
 ·unfold In64;simp
structure Base (w1:World) (c m:Nat) (sp:List (ByteArray × Int)) (I:ByteArray→Nat) (b0:ByteArray→Int→WSt):Prop where
 c:c<w1.heap.size
 m:m<w1.heap.size
 i:∀ q∈sp,I q.1<w1.heap.size
 b:∀ q∈sp,∀ b,Mine (b0 q.1 q.2) b→b<w1.heap.size
abbrev OfW (sp:List (ByteArray × Int))(b0:ByteArray→Int→WSt):Nat→Prop:=fun b=>∃ q∈sp,Mine (b0 q.1 q.2) b
section
variable {w1:World} {c m:Nat} {pv:Value} {k:Ctl} {sp:List (ByteArray × Int)} {I:ByteArray→Nat} {b0:ByteArray→Int→WSt}
theorem SC.fuel (hB:Base w1 c m sp I b0):Fuel w1.heap.size (fun _=>SC w1 c m pv k sp I b0) where
 base:=fun _ _ _ h=>h.keep.size
 same:=fun _ T w w' h hb=>by
  obtain⟨st,hw,hst⟩:=h.wins
  refine⟨⟨hb.os.trans h.keep.os,hb.tape.trans h.keep.tape,hb.output.trans h.keep.output,Nat.le_trans h.keep.size hb.size,fun b lt nx=>(hb.block b lt).trans (h.keep.block b lt nx)⟩,(hb.block c hB.c).trans h.ctl,⟨st,hw.moves fun b hb2=>hb.block b ?_,hst⟩,h.time,h.vals⟩
  rcases hb2 with rfl | ⟨q,hq,rfl | hm⟩
  ·exact hB.m
  ·exact hB.i q hq
  ·exact hB.b q hq b (zF6 (hst q hq).1 (hst q hq).2.1 hm)
 less:=fun _ _ _ h=>h
set_option maxRecDepth 1000000 in
theorem look_ctl (hk:k.Ok):LookX (fun _=>SC w1 c m pv k sp I b0) (OfW sp b0) (fun s n=>(s,n)∈sp) (.func (.func 72) #[ptr c] #[]) (zGU k):=by
 refine⟨_,_,_,rfl,fun args w=>by rfl,fun _ kind metric n T w hD _ _ _ hs=>?_⟩
 show Calls _ _ #[ptr c,.string kind,.string metric,.int .i64 n] w _
 refine(code_look hs hk hD).mono ?_
 rintro e w' ⟨h1,rfl,h3⟩
 refine⟨h1,?_⟩
 unfold zGU
 have hm:In64 (zBJ kind (Win.trim n k.time (T metric n).2)).1:=meas_in kind (zLV _ _ _) fun x hx=>hs.vals _ hD x ((zEB n k.time (T metric n).2).subset hx)
 generalize zBJ kind (Win.trim n k.time (T metric n).2)=z at hm ⊢
 obtain⟨a,b⟩:=z
 cases b with
 | true=>exact⟨rfl,hm,h3⟩
 | false=>exact⟨rfl,h3⟩
end
inductive DErr where
 | fine
 | stale
 | cooling
 | held (p:Nat) (why:Why)
def zDZ (A:Nat→Addr)(w:World):DErr→Value→Prop
 | .fine,v=>v=.nilIface
 | .stale,v=>v=.iface 416 (.pointer (some (A 3)))
 | .cooling,v=>v=.iface 416 (.pointer (some (A 7)))
 | .held p y,v=>∃ b T x,v=.iface 159 (ptr b)∧zGN w b p T x∧zOT A w y T x
def Ctl.decide (k:Ctl)(P:ByteArray→List Int→WT→PFound × WT)(u:Tree)(T:WT)(t:Int):DErr × Ctl × WT:=
 if t<k.time then(.stale,k,T)
 else match ev ⟨some (zGU { k with time:=t }),P⟩ u T with
  | (.val n,T')=>let r:=({ k with time:=t }:Ctl).approach (Min.min (Max.max n k.min) k.max) t
   (if r.1=true then .cooling else .fine,r.2,T')
  | (.held p y,T')=>(.held p y,{ k with time:=t },T')
theorem zMZ (k:Ctl)(wanted t:Int):(k.approach wanted t).2.min=k.min∧(k.approach wanted t).2.max=k.max:=by
 unfold Ctl.approach
 repeat' split
 all_goals exact⟨rfl,rfl⟩
theorem zLI {A:Nat→Addr}{w w2 w3:World}{c pb m:Nat}{k k2:Ctl}{sp:List (ByteArray × Int)}{I:ByteArray→Nat}{st:ByteArray→Int→WSt}{T':WT}{t:Int}{b:Bool}
  (hk2:KeepX (OfW sp st) (w.setCell ⟨c,7,none⟩ (.int .i64 t)) w2) (h4:SC (w.setCell ⟨c,7,none⟩ (.int .i64 t)) c m (ptr pb) k sp I st T' w2) (hk3:Keep c w2.drew w3) (hc3:zE5 w3 c (ptr pb) (.map (some m)) k2) (hX:¬ OfW sp st c):
  ∃ v,Ending.returned (coolV (A 7) b)=.returned v∧KeepX (fun b=>b=c∨OfW sp st b) w w3∧zDZ A w3 (if b=true then .cooling else .fine) v∧zE5 w3 c (ptr pb) (.map (some m)) k2 ∧
   ∃ st',Wins w3 m sp I st'∧∀ q∈sp,(st' q.1 q.2).blk=(st q.1 q.2).blk∧(st' q.1 q.2).row.ownBlock=(st q.1 q.2).row.ownBlock∧(st' q.1 q.2).time=(T' q.1 q.2).1∧(st' q.1 q.2).kept=(T' q.1 q.2).2:=by
 obtain⟨st',a1,a2⟩:=h4.wins
 refine⟨_,rfl,⟨hk3.os.trans hk2.os,hk3.tape.trans hk2.tape,hk3.output.trans hk2.output,Nat.le_trans (by have:=hk2.size;simpa using this) hk3.size,fun b' lt nx=>?_⟩,?_,hc3,st',a1.moves fun b' hb=>?_,a2⟩
 ·have l2:b'<w2.heap.size:=Nat.lt_of_lt_of_le lt (by have:=hk2.size;simpa using this)
  exact(hk3.block b' l2 (fun e=>nx (.inl e))).trans ((hk2.block b' (by simpa using lt) (fun q=>nx (.inr q))).trans (Below.heap_setCell w _ _ b' (fun e=>nx (.inl e))))
 ·cases b
  ·exact rfl
  ·exact rfl
 ·have hcc:=h4.ctl
  rcases hb with rfl | ⟨q,hq,rfl | hm⟩
  ·obtain⟨F',hF',-⟩:=a1.outer
   obtain⟨es,cl,he⟩:=hF'.isMap
   exact hk3.block _ (zA2 he) (fun e=>by rw[e,hcc] at he;cases he)
  ·obtain⟨F',hF',-⟩:=a1.inner q hq
   obtain⟨es,cl,he⟩:=hF'.isMap
   exact hk3.block _ (zA2 he) (fun e=>by rw[e,hcc] at he;cases he)
  ·obtain⟨cs,T2,e,-⟩:=Win.mine_cells (a1.win q hq) hm
   exact hk3.block _ (zA2 e) (fun e2=>hX ⟨q,hq,zF6 (a2 q hq).1 (a2 q hq).2.1 (e2 ▸ hm)⟩)
set_option maxRecDepth 1000000 in
set_option maxHeartbeats 8000000 in
theorem zPY {A:Nat→Addr}{w0 w:World}{c pb m lo:Nat}{k:Ctl}{u:Tree}{ms:List ByteArray}{sp:List (ByteArray × Int)}{F:ByteArray→Option Value}{I:ByteArray→Nat}{st:ByteArray→Int→WSt}{T:WT}{P:ByteArray→List Int→WT→PFound × WT}
  (hA:SentsX A w0) (hb0:Below w0.heap.size w0 w) (hc0:w0.heap.size≤c) (hx0:∀ b,OfW sp st b→w0.heap.size≤b)
  (hc:zE5 w c (ptr pb) (.map (some m)) k) (hk:k.Ok) (hw:Wins w m sp I st) (hst:∀ q∈sp,(st q.1 q.2).time=(T q.1 q.2).1∧(st q.1 q.2).kept=(T q.1 q.2).2) (htm:∀ q∈sp,(T q.1 q.2).1≤k.time) (hvl:∀ q∈sp,∀ x∈(T q.1 q.2).2,In64 x.2)
  {wl:World} (hpg:ProgB lo wl pb u ms (asks u) sp F) (hkl:∀ b,lo≤b→b<wl.heap.size→w.heap[b]?=wl.heap[b]?) (hf:Fit u) (hsp:∀ q∈zA5 u,q∈sp) (hlo:∀ b,OfW sp st b→wl.heap.size≤b) (hclo:wl.heap.size≤c)
  (hP:∀ w1 k',KeepX (· = c) w w1→∀ q∈asks u,∃ fv,F q.2=some fv∧zIZ (fun _=>SC w1 c m (ptr pb) k' sp I st) (OfW sp st) w1.heap.size fv (P q.2)) {t:Int} (ht:In64 t):
  Calls Tryz.prog 44 #[ptr c,.int .i64 t] w fun e w'=>∃ v,e=.returned v∧KeepX (fun b=>b=c∨OfW sp st b) w w'∧zDZ A w' (k.decide P u T t).1 v∧zE5 w' c (ptr pb) (.map (some m)) (k.decide P u T t).2.1 ∧
   ∃ st',Wins w' m sp I st'∧∀ q∈sp,(st' q.1 q.2).blk=(st q.1 q.2).blk∧(st' q.1 q.2).row.ownBlock=(st q.1 q.2).row.ownBlock∧(st' q.1 q.2).time=((k.decide P u T t).2.2 q.1 q.2).1∧(st' q.1 q.2).kept=((k.decide P u T t).2.2 q.1 q.2).2:=by
 have hsw:SentsX A w:=hA.below hb0
 have c0:w.cell? ⟨c,0,none⟩=some (ptr pb):=zA0 hc rfl
 have c7:w.cell? ⟨c,7,none⟩=some (.int .i64 k.time):=zA0 hc rfl
 have z7:w.frozen? ⟨c,7,none⟩=false:=zA1 hc
 have g3:=hsw.sents.g3
 by_cases hlt:t<k.time
 ·have HE:Hid (k.decide P u T t=(.stale,k,T)):=by
   show k.decide P u T t=_
   unfold Ctl.decide
   rw[if_pos hlt]
  have HH:Hid _:=And.intro hc (And.intro hw hst)
  clear hc hw hst hP hpg hA hb0 hsw
  go_enter Tryz.func44,Tryz.ntmps44
  go_wp2
  go_ret
  rw[HE.out]
  exact⟨_,rfl,KeepX.refl _ w,rfl,HH.out.1,st,HH.out.2.1,fun q hq=>⟨rfl,rfl,HH.out.2.2 q hq⟩⟩
 ·have hge:¬ t<k.time:=hlt
  have hmf:∀ (fn:Fn) (first cap:Array Value) (w:World),(Instr.makeFunc fn first cap).run Tryz.prog w=.ok (.func fn first cap) w:=fun _ _ _ _=>rfl
  have hc1:zE5 (w.setCell ⟨c,7,none⟩ (.int .i64 t)) c (ptr pb) (.map (some m)) { k with time:=t }:=zA4 (i:=7) hc
  have ncx:¬ OfW sp st c:=fun⟨q,hq,hm⟩=>by
   obtain⟨cs,T',e,h3⟩:=Win.mine_cells (hw.win _ hq) hm
   rw[hc] at e
   injection e with e
   injection e with _ e
   rcases h3 with⟨t1,-⟩ | ⟨t1,-⟩ <;> (rw[t1] at e;exact absurd e (by decide))
  have ltx:∀ b,(b=m∨∃ q∈sp,b=I q.1∨Mine (st q.1 q.2) b)→b<w.heap.size∧b≠c:=fun b hb=>by
   rcases hb with rfl | ⟨q,hq,rfl | hm⟩
   ·obtain⟨F',hF',-⟩:=hw.outer
    obtain⟨es,cl,he⟩:=hF'.isMap
    exact⟨zA2 he,fun e=>by rw[e,hc] at he;cases he⟩
   ·obtain⟨F',hF',-⟩:=hw.inner q hq
    obtain⟨es,cl,he⟩:=hF'.isMap
    exact⟨zA2 he,fun e=>by rw[e,hc] at he;cases he⟩
   ·obtain⟨cs,T',e,-⟩:=Win.mine_cells (hw.win q hq) hm
    exact⟨zA2 e,fun e2=>ncx ⟨q,hq,e2 ▸ hm⟩⟩
  have hw1:Wins (w.setCell ⟨c,7,none⟩ (.int .i64 t)) m sp I st:=hw.moves fun b hb=>Below.heap_setCell w _ _ b (ltx b hb).2
  have hk1:({ k with time:=t }:Ctl).Ok:=⟨hk.min,hk.max,hk.step,hk.up,hk.down,ht,hk.count,hk.change⟩
  have hS:SC (w.setCell ⟨c,7,none⟩ (.int .i64 t)) c m (ptr pb) { k with time:=t } sp I st T (w.setCell ⟨c,7,none⟩ (.int .i64 t)):=
   ⟨KeepX.refl _ _,hc1,⟨st,hw1,fun q hq=>⟨rfl,rfl,hst q hq⟩⟩,fun q hq=>by have:=htm q hq;show _≤t;omega,hvl⟩
  have hB:Base (w.setCell ⟨c,7,none⟩ (.int .i64 t)) c m sp I st:=⟨by simpa using zA2 hc,by simpa using (ltx m (.inl rfl)).1,fun q hq=>by simpa using (ltx _ (.inr ⟨q,hq,.inl rfl⟩)).1,fun q hq b hb=>by simpa using (ltx b (.inr ⟨q,hq,.inr hb⟩)).1⟩
  have hb1:Below w0.heap.size w0 (w.setCell ⟨c,7,none⟩ (.int .i64 t)):=hb0.setCell hc0 _
  have hsn:∀ (_:Nat) (T':WT) (w':World),SC (w.setCell ⟨c,7,none⟩ (.int .i64 t)) c m (ptr pb) { k with time:=t } sp I st T' w'→SentsX A w':=fun _ T' w' h=>hA.below ⟨h.keep.os.trans hb1.os,h.keep.tape.trans hb1.tape,h.keep.output.trans hb1.output,Nat.le_trans hb1.size h.keep.size,fun b lt=>(h.keep.block b (Nat.lt_of_lt_of_le lt hb1.size) (fun hx=>by have:=hx0 b hx;omega)).trans (hb1.block b lt)⟩
  have hev:=codeX_Eval (A:=A) (SF:=fun _=>SC (w.setCell ⟨c,7,none⟩ (.int .i64 t)) c m (ptr pb) { k with time:=t } sp I st) (X:=OfW sp st) (D:=fun s n=>(s,n)∈sp) (kf:=0) (E:=⟨some (zGU { k with time:=t }),P⟩) hpg (w:=w.setCell ⟨c,7,none⟩ (.int .i64 t)) (fun b h1 h2=>(Below.heap_setCell w _ _ b (by show b≠c;omega)).trans (hkl b h1 h2)) hf (SC.fuel hB) (fun kf s w' h=>(hsn kf s w' h).sents) (fun b hb=>by obtain⟨q,hq,hm⟩:=hb;exact hB.b q hq b hm) (fun b h1 h2 hx=>by have:=hlo b hx;omega) (look_ctl hk1) (fun q hq=>hsp q hq) (hP _ _ ⟨rfl,rfl,rfl,by simp,fun k _ ne=>Below.heap_setCell w _ _ k ne⟩) (s:=T) hS
  have HH:Hid _:=And.intro hk1 (And.intro hsn (And.intro hw hst))
  have HX:Hid (¬ OfW sp st c):=ncx
  have lc:=zA2 hc
  clear hpg hkl hP hB hS hw1 hst hw htm hvl hsp hlo hx0 hb0 hA hb1 ltx hsn hc1 hsw g3 hk1 ncx
  generalize hr:ev ⟨some (zGU { k with time:=t }),P⟩ u T=r at hev
  obtain⟨r,T'⟩:=r
  have HR:Hid _:=hr
  clear hr
  cases r with
  | held p y=>
   have HE:Hid (k.decide P u T t=(.held p y,{ k with time:=t },T')):=by
    show k.decide P u T t=_
    unfold Ctl.decide
    rw[if_neg hge,HR.out]
   go_enter Tryz.func44,Tryz.ntmps44
   go_wp2_with fail
   refine hev.mono ?_
   rintro e w2 ⟨hk2,b,Ty,x,rfl,h2,h3,h4⟩
   have H2:Hid _:=And.intro hk2 (And.intro h2 (And.intro h3 h4))
   clear hev hk2 h2 h3 h4
   go_wp2
   go_ret
   rw[HE.out]
   obtain⟨st',a1,a2⟩:=H2.out.2.2.2.wins
   exact⟨_,rfl,⟨H2.out.1.os,H2.out.1.tape,H2.out.1.output,by have:=H2.out.1.size;simpa using this,fun b' lt nx=>(H2.out.1.block b' (by simpa using lt) (fun q=>nx (.inr q))).trans (Below.heap_setCell w _ _ b' (fun e=>nx (.inl e)))⟩,⟨b,Ty,x,rfl,H2.out.2.1,H2.out.2.2.1⟩,H2.out.2.2.2.ctl,st',a1,a2⟩
  | val nv=>
   have HE:Hid (k.decide P u T t=(if (({ k with time:=t }:Ctl).approach (Min.min (Max.max nv k.min) k.max) t).1=true then .cooling else .fine,(({ k with time:=t }:Ctl).approach (Min.min (Max.max nv k.min) k.max) t).2,T')):=by
    show k.decide P u T t=_
    unfold Ctl.decide
    rw[if_neg hge,HR.out]
   have om:=hk.max
   have oi:=hk.min
   have hwt:0≤Min.min (Max.max nv k.min) k.max∧Min.min (Max.max nv k.min) k.max≤9223372036854775807:=by omega
   have HWT:Hid _:=hwt
   clear hwt om oi
   go_enter Tryz.func44,Tryz.ntmps44
   go_wp2_with fail
   refine hev.mono ?_
   rintro e w2 ⟨hk2,rfl,hn,h4⟩
   have d1:w2.cell? ⟨c,1,none⟩=some (.int .i64 k.min):=zA0 h4.ctl rfl
   have d2:w2.cell? ⟨c,2,none⟩=some (.int .i64 k.max):=zA0 h4.ctl rfl
   have H2:Hid _:=And.intro hk2 (And.intro hn h4)
   have hap:=zMV (w:=w2.drew) h4.ctl HH.out.1 (HH.out.2.1 0 _ _ h4).sents.g7 (wanted:=Min.min (Max.max nv k.min) k.max) HWT.out ht
   have ap:=zMZ ({ k with time:=t }:Ctl) (Min.min (Max.max nv k.min) k.max) t
   generalize hg:({ k with time:=t }:Ctl).approach (Min.min (Max.max nv k.min) k.max) t=Z at hap ap
   have HG:Hid _:=hg
   obtain⟨zb,zk⟩:=Z
   simp only at hap ap
   unfold coolV at hap
   clear hev hk2 hn h4 hg
   cases zb with
   | true=>
    simp only[if_true] at hap
    go_wp2_with fail
    go_region_held3 (fun w'=>w'.cell? ⟨c,1,none⟩=some (.int .i64 k.min)∧w'.cell? ⟨c,2,none⟩=some (.int .i64 k.max)) (go_keep)
     (first
      | (go_at_call 73;refine hap.mono ?_;rintro e w3 ⟨rfl,hk3,hc3⟩;have e1:w3.cell? ⟨c,1,none⟩=some (.int .i64 k.min):=(by have:=zA0 (i:=1) hc3 rfl;rw[ap.1] at this;exact this);have e2:w3.cell? ⟨c,2,none⟩=some (.int .i64 k.max):=(by have:=zA0 (i:=2) hc3 rfl;rw[ap.2] at this;exact this);have H3:Hid _:=And.intro hk3 hc3;clear hk3 hc3))
    all_goals
     go_wp2
     go_ret
     rw[HE.out,HG.out]
     exact zLI (b:=true) H2.out.1 H2.out.2.2 H3.out.1 H3.out.2 HX.out
   | false=>
    simp only[Bool.false_eq_true,if_false] at hap
    go_wp2_with fail
    go_region_held3 (fun w'=>w'.cell? ⟨c,1,none⟩=some (.int .i64 k.min)∧w'.cell? ⟨c,2,none⟩=some (.int .i64 k.max)) (go_keep)
     (first
      | (go_at_call 73;refine hap.mono ?_;rintro e w3 ⟨rfl,hk3,hc3⟩;have e1:w3.cell? ⟨c,1,none⟩=some (.int .i64 k.min):=(by have:=zA0 (i:=1) hc3 rfl;rw[ap.1] at this;exact this);have e2:w3.cell? ⟨c,2,none⟩=some (.int .i64 k.max):=(by have:=zA0 (i:=2) hc3 rfl;rw[ap.2] at this;exact this);have H3:Hid _:=And.intro hk3 hc3;clear hk3 hc3))
    all_goals
     go_wp2
     go_ret
     rw[HE.out,HG.out]
     exact zLI (b:=false) H2.out.1 H2.out.2.2 H3.out.1 H3.out.2 HX.out
inductive FErr where
 | fine
 | stale
 | metric
def FErr.at (A:Nat→Addr):FErr→Value
 | .fine=>.nilIface
 | .stale=>.iface 416 (.pointer (some (A 3)))
 | .metric=>.iface 416 (.pointer (some (A 4)))
def Ctl.feed (k:Ctl)(sp:List (ByteArray × Int))(T:WT)(name:ByteArray)(v t:Int):FErr × Ctl × WT:=
 if t<k.time then(.stale,k,T)
 else if ∃ q∈sp,q.1=name then(.fine,{ k with time:=t },fun s n=>if s=name then(t,Win.trim n t ((T s n).2 ++ [(t,v)])) else T s n)
 else(.metric,k,T)
theorem Tryz.eqInner (b:Nat)(w:World):(binOp .eql 191 (.map (some b)) (.map none)).run Tryz.prog w=.ok (.bool false) w:=by kernel_rfl
theorem Tryz.eqNone (w:World):(binOp .eql 191 (.map none) (.map none)).run Tryz.prog w=.ok (.bool true) w:=by kernel_rfl
theorem zF7 {w:World}{c m:Nat}{pv:Value}{k:Ctl}{sp:List (ByteArray × Int)}{I:ByteArray→Nat}{st:ByteArray→Int→WSt}(hc:zE5 w c pv (.map (some m)) k)(hw:Wins w m sp I st):¬ OfW sp st c∧∀ b,(b=m∨∃ q∈sp,b=I q.1∨Mine (st q.1 q.2) b)→b<w.heap.size∧b≠c:=by
 have ncx:¬ OfW sp st c:=fun⟨q,hq,hm⟩=>by
  obtain⟨cs,T',e,h3⟩:=Win.mine_cells (hw.win _ hq) hm
  rw[hc] at e
  injection e with e
  injection e with _ e
  rcases h3 with⟨t1,-⟩ | ⟨t1,-⟩ <;> (rw[t1] at e;exact absurd e (by decide))
 refine⟨ncx,fun b hb=>?_⟩
 rcases hb with rfl | ⟨q,hq,rfl | hm⟩
 ·obtain⟨F',hF',-⟩:=hw.outer
  obtain⟨es,cl,he⟩:=hF'.isMap
  exact⟨zA2 he,fun e=>by rw[e,hc] at he;cases he⟩
 ·obtain⟨F',hF',-⟩:=hw.inner q hq
  obtain⟨es,cl,he⟩:=hF'.isMap
  exact⟨zA2 he,fun e=>by rw[e,hc] at he;cases he⟩
 ·obtain⟨cs,T',e,-⟩:=Win.mine_cells (hw.win q hq) hm
  exact⟨zA2 e,fun e2=>ncx ⟨q,hq,e2 ▸ hm⟩⟩
set_option maxRecDepth 1000000 in
set_option maxHeartbeats 4000000 in
theorem code_Feed {A:Nat→Addr}{w:World}{c m:Nat}{pv:Value}{k:Ctl}{sp:List (ByteArray × Int)}{I:ByteArray→Nat}{st:ByteArray→Int→WSt}{T:WT}(hA:Sents A w)
  (hc:zE5 w c pv (.map (some m)) k) (hw:Wins w m sp I st) (hst:∀ q∈sp,(st q.1 q.2).time=(T q.1 q.2).1∧(st q.1 q.2).kept=(T q.1 q.2).2) (htm:∀ q∈sp,(T q.1 q.2).1≤k.time) {name:ByteArray} {v t:Int} (ht:In64 t):
  Calls Tryz.prog 49 #[ptr c,.string name,.int .i64 v,.int .i64 t] w fun e w'=>e=.returned ((k.feed sp T name v t).1.at A)∧KeepX (fun b=>b=c∨OfW sp st b) w w'∧zE5 w' c pv (.map (some m)) (k.feed sp T name v t).2.1 ∧
   ∃ st',Wins w' m sp I st'∧∀ q∈sp,(st' q.1 q.2).blk=(st q.1 q.2).blk∧((st' q.1 q.2).row.ownBlock=(st q.1 q.2).row.ownBlock∨∃ g,(st' q.1 q.2).row.ownBlock=some g∧w.heap.size≤g)∧(st' q.1 q.2).time=((k.feed sp T name v t).2.2 q.1 q.2).1∧(st' q.1 q.2).kept=((k.feed sp T name v t).2.2 q.1 q.2).2:=by
 have c6:w.cell? ⟨c,6,none⟩=some (.map (some m)):=zA0 hc rfl
 have c7:w.cell? ⟨c,7,none⟩=some (.int .i64 k.time):=zA0 hc rfl
 have z7:w.frozen? ⟨c,7,none⟩=false:=zA1 hc
 have g3:=hA.g3
 have g4:=hA.g4
 by_cases hlt:t<k.time
 ·have HE:Hid (k.feed sp T name v t=(.stale,k,T)):=by
   show k.feed sp T name v t=_
   unfold Ctl.feed
   rw[if_pos hlt]
  have HH:Hid _:=And.intro hc (And.intro hw hst)
  clear hc hw hst hA
  go_enter Tryz.func49,Tryz.ntmps49
  go_wp2
  go_ret
  rw[HE.out]
  exact⟨rfl,KeepX.refl _ w,HH.out.1,st,HH.out.2.1,fun q hq=>⟨rfl,.inl rfl,HH.out.2.2 q hq⟩⟩
 ·obtain⟨F,hF,hF2⟩:=hw.outer
  have hlo:=hF.lookup zH5 Tryz.underlying124 Tryz.underlying9 Tryz.zeroInner name
  by_cases hin:∃ q∈sp,q.1=name
  ·have hex:∃ n,(name,n)∈sp:=by
    obtain⟨q,hq,e⟩:=hin
    exact⟨q.2,by rw[←e];exact hq⟩
   rw[(hF2 name).1 hex,Option.getD_some] at hlo
   have HE:Hid (k.feed sp T name v t=(.fine,{ k with time:=t },fun s n=>if s=name then(t,Win.trim n t ((T s n).2 ++ [(t,v)])) else T s n)):=by
    show k.feed sp T name v t=_
    unfold Ctl.feed
    rw[if_neg hlt,if_pos hin]
   have heq:=Tryz.eqInner (I name) w
   have hap:=zF7 hc hw
   have hw1:Wins (w.setCell ⟨c,7,none⟩ (.int .i64 t)) m sp I st:=hw.moves fun b hb=>Below.heap_setCell w _ _ b (hap.2 b hb).2
   have hc1:zE5 (w.setCell ⟨c,7,none⟩ (.int .i64 t)) c pv (.map (some m)) { k with time:=t }:=zA4 (i:=7) hc
   have htk:=win_take hw1 hex (v:=v) ht (fun q hq=>by have:=htm q hq;have:=(hst q hq).1;omega)
   have lc:=zA2 hc
   have HH:Hid _:=And.intro hc1 (And.intro hap (And.intro hst lc))
   clear hc hw hst hA hF hF2 hw1 hc1 hap lc htm
   go_enter Tryz.func49,Tryz.ntmps49
   go_wp2_with fail
   refine htk.mono ?_
   rintro e w2 ⟨rfl,hk2,st',h1,h2⟩
   have H2:Hid _:=And.intro hk2 (And.intro h1 h2)
   clear htk hk2 h1 h2
   go_wp2
   go_ret
   obtain⟨hk2,h1,h2⟩:=H2.out
   obtain⟨hc1,hap,hst,lc⟩:=HH.out
   rw[HE.out]
   refine⟨rfl,⟨hk2.os,hk2.tape,hk2.output,by have:=hk2.size;simpa using this,fun b lt nx=>(hk2.block b (by simpa using lt) (fun q=>nx (.inr q))).trans (Below.heap_setCell w _ _ b (fun e=>nx (.inl e)))⟩,(hk2.block c (by simpa using lc) hap.1).trans hc1,st',h1,fun q hq=>?_⟩
   obtain⟨a1,a2,a3,a4⟩:=h2 q hq
   refine⟨a1,by simpa using a2,?_⟩
   by_cases hqs:q.1=name
   ·simp only[hqs,if_true]
    rw[←hqs]
    refine⟨(a3 hqs).1,?_⟩
    rw[(a3 hqs).2,←(hst q hq).2]
    rfl
   ·simp only[hqs,if_false]
    rw[(a4 hqs).1,(a4 hqs).2]
    exact hst q hq
  ·have hex:∀ n,(name,n) ∉ sp:=fun n hn=>hin ⟨_,hn,rfl⟩
   rw[(hF2 name).2 hex,Option.getD_none] at hlo
   have heq:=Tryz.eqNone w
   have HE:Hid (k.feed sp T name v t=(.metric,k,T)):=by
    show k.feed sp T name v t=_
    unfold Ctl.feed
    rw[if_neg hlt,if_neg hin]
   have HH:Hid _:=And.intro hc (And.intro hw hst)
   clear hc hw hst hA hF hF2
   go_enter Tryz.func49,Tryz.ntmps49
   go_wp2
   go_ret
   rw[HE.out]
   exact⟨rfl,KeepX.refl _ w,HH.out.1,st,HH.out.2.1,fun q n hq=>⟨rfl,.inl rfl,HH.out.2.2 (q,n) hq⟩⟩
section
variable {σ:Type}
theorem zCT {J:σ→Prop}{m:σ→Res × σ}{k:Int→σ→Res × σ}(hm:∀ s,J s→J (m s).2)(hk:∀ n s,J s→J (k n s).2)(s:σ)(h:J s):J (zBI m k s).2:=by
 unfold zBI
 have h:=hm s h
 generalize m s=r at h
 obtain⟨r,s1⟩:=r
 cases r with
 | val n=>exact hk n s1 h
 | held p y=>exact h
mutual
theorem zDK {E:Env σ}{J:σ→Prop}(hl:∀ L,E.look=some L→∀ a b n s,J s→J (L a b n s).2)(hp:∀ nm xs s,J s→J (E.probe nm xs s).2):∀ t s,J s→J (ev E t s).2
 | .num _ _,s,h=>by simp only[ev];exact h
 | .neg _ a,s,h=>by
  simp only[ev]
  exact zCT (zDK hl hp a) (fun n s h=>h) s h
 | .bin k p a b,s,h=>by
  simp only[ev]
  split
  ·exact zCT (zDK hl hp a) (fun x s h=>zCT (zDK hl hp b) (fun y s h=>h) s h) s h
  ·exact zCT (zDK hl hp a) (fun x s h=>zCT (zDK hl hp b) (fun y s h=>h) s h) s h
 | .ite _ a b c,s,h=>by
  simp only[ev]
  refine zCT (zDK hl hp a) (fun n s h=>?_) s h
  split
  ·exact zDK hl hp b s h
  ·exact zDK hl hp c s h
 | .meas p wd m n,s,h=>by
  simp only[ev]
  split
  ·exact h
  ·rename_i l hl2
   have q:=hl l hl2 wd m n s h
   generalize l wd m n s=r at q
   obtain⟨r,s1⟩:=r
   cases r with
   | num n=>exact q
   | nothing n=>exact q
   | pan n=>exact q
 | .probe p wd ts,s,h=>by
  simp only[ev]
  refine zK3 hl hp ts (fun xs s h=>?_) s h
  have q:=hp wd xs s h
  generalize E.probe wd xs s=r at q
  obtain⟨r,s1⟩:=r
  cases r with
  | val n=>exact q
  | fail=>exact q
  | pan n=>exact q
theorem zK3 {E:Env σ}{J:σ→Prop}(hl:∀ L,E.look=some L→∀ a b n s,J s→J (L a b n s).2)(hp:∀ nm xs s,J s→J (E.probe nm xs s).2):∀ ts {k:List Int→σ→Res × σ},(∀ xs s,J s→J (k xs s).2)→∀ s,J s→J (zC3 (zDU E ts) k s).2
 | [],k,hk,s,h=>by simp only[zDU,zC3];exact hk [] s h
 | t :: ts,k,hk,s,h=>by
  simp only[zDU,zC3]
  exact zCT (zDK hl hp t) (fun x s h=>zK3 hl hp ts (fun xs s h=>hk (x :: xs) s h) s h) s h
end
end
structure TOk (sp:List (ByteArray × Int)) (now:Int) (T:WT):Prop where
 time:∀ q∈sp,(T q.1 q.2).1≤now
 vals:∀ q∈sp,∀ x∈(T q.1 q.2).2,In64 x.2
theorem TOk.look {sp:List (ByteArray × Int)}{k:Ctl}{T:WT}(h:TOk sp k.time T)(kind metric:ByteArray)(n:Int):TOk sp k.time (zGU k kind metric n T).2:=by
 unfold zGU
 refine⟨fun q hq=>?_,fun q hq x hx=>?_⟩
 ·simp only[zFG]
  split
  ·exact Int.le_refl _
  ·exact h.time q hq
 ·simp only[zFG] at hx
  split at hx
  ·rename_i e
   exact h.vals q hq x (by rw[e.1,e.2];exact(zEB _ _ _).subset hx)
  ·exact h.vals q hq x hx
structure Moved (k k':Ctl) (fine:Prop) (t:Int):Prop where
 lim:k'.min=k.min∧k'.max=k.max∧k'.step=k.step∧k'.up=k.up∧k'.down=k.down
 how:(k'.count=k.count∧k'.changed=k.changed∧k'.change=k.change) ∨
  (fine∧k'.count≠k.count∧k.min≤k'.count∧k'.count≤k.max∧k'.count - k.count≤k.step∧k.count - k'.count≤k.step ∧
   (k.changed=true→k.change+(if k'.count<k.count then k.down else k.up)≤t)∧k'.changed=true∧k'.change=t)
theorem zKX {k:Ctl}(hk:k.Ok){wanted t:Int}(hw:k.min≤wanted∧wanted≤k.max)(ht:In64 t):Moved k (k.approach wanted t).2 ((k.approach wanted t).1=false) t∧(k.approach wanted t).2.Ok∧(k.approach wanted t).2.time=k.time:=by
 unfold Ctl.approach
 have h1:=hk.step
 have h2:=hk.count
 obtain⟨pz,hpz⟩:∃ pz,pz=(if wanted<k.count then k.down else k.up):=⟨_,rfl⟩
 rw[←hpz]
 split
 ·exact⟨⟨⟨rfl,rfl,rfl,rfl,rfl⟩,.inl ⟨rfl,rfl,rfl⟩⟩,hk,rfl⟩
 ·split
  ·exact⟨⟨⟨rfl,rfl,rfl,rfl,rfl⟩,.inl ⟨rfl,rfl,rfl⟩⟩,hk,rfl⟩
  ·rename_i hne hc
   refine⟨⟨⟨rfl,rfl,rfl,rfl,rfl⟩,.inr ⟨rfl,?_,?_,?_,?_,?_,fun hch=>?_,rfl,rfl⟩⟩,⟨hk.min,hk.max,hk.step,hk.up,hk.down,hk.time,?_,ht⟩,rfl⟩
   ·simp only;omega
   ·simp only;omega
   ·simp only;omega
   ·simp only;omega
   ·simp only;omega
   ·unfold Ctl.cools at hc
    rw[hch,Bool.true_and,decide_eq_true_eq] at hc
    have e:(k.count+Min.min (Max.max (wanted - k.count) (-k.step)) k.step<k.count)↔wanted<k.count:=by omega
    simp only[e]
    rw[←hpz]
    omega
   ·simp only;omega
theorem zIO {k:Ctl}(hk:k.Ok)(P:ByteArray→List Int→WT→PFound × WT)(hP:∀ nm xs s,(P nm xs s).2=s)(u:Tree){sp:List (ByteArray × Int)}{T:WT}(hT:TOk sp k.time T){t:Int}(ht:In64 t):
  Moved k (k.decide P u T t).2.1 ((k.decide P u T t).1=.fine) t∧(k.decide P u T t).2.1.Ok∧((k.decide P u T t).1=.stale↔t<k.time)∧(k.decide P u T t).2.1.time=(if t<k.time then k.time else t)∧TOk sp (k.decide P u T t).2.1.time (k.decide P u T t).2.2:=by
 unfold Ctl.decide
 by_cases hlt:t<k.time
 ·simp only[if_pos hlt]
  exact⟨⟨⟨rfl,rfl,rfl,rfl,rfl⟩,.inl ⟨rfl,rfl,rfl⟩⟩,hk,⟨fun _=>hlt,fun _=>trivial⟩,trivial,hT⟩
 ·simp only[if_neg hlt]
  have hk1:({ k with time:=t }:Ctl).Ok:=⟨hk.min,hk.max,hk.step,hk.up,hk.down,ht,hk.count,hk.change⟩
  have hT1:TOk sp ({ k with time:=t }:Ctl).time T:=⟨fun q hq=>by have:=hT.time q hq;show _≤t;omega,hT.vals⟩
  have hJ:=zDK (E:=⟨some (zGU { k with time:=t }),P⟩) (J:=TOk sp t) (fun L e a b n s h=>by injection e with e;subst e;exact TOk.look (k:={ k with time:=t }) h a b n) (fun nm xs s h=>by show TOk sp t (P nm xs s).2;rw[hP];exact h) u T hT1
  generalize ev ⟨some (zGU { k with time:=t }),P⟩ u T=r at hJ
  obtain⟨r,T'⟩:=r
  cases r with
  | held p y=>
   exact⟨⟨⟨rfl,rfl,rfl,rfl,rfl⟩,.inl ⟨rfl,rfl,rfl⟩⟩,hk1,⟨fun e=>by simp at e,fun e=>absurd e hlt⟩,rfl,hJ⟩
  | val n=>
   have om:=hk.max
   have oi:=hk.min
   obtain⟨a1,a2,a3⟩:=zKX hk1 (wanted:=Min.min (Max.max n k.min) k.max) (t:=t) (by show k.min≤_∧_≤k.max;omega) ht
   simp only
   generalize ({ k with time:=t }:Ctl).approach (Min.min (Max.max n k.min) k.max) t=z at a1 a2 a3
   obtain⟨zb,zk⟩:=z
   simp only at a1 a2 a3 ⊢
   refine⟨⟨a1.lim,?_⟩,a2,?_,a3,?_⟩
   ·rcases a1.how with h | ⟨h1,h⟩
    ·exact .inl h
    ·exact .inr ⟨by simp[h1],h⟩
   ·cases zb <;> simp[hlt]
   ·rw[a3]
    exact hJ
theorem zLD {k:Ctl}(hk:k.Ok){sp:List (ByteArray × Int)}{T:WT}(hT:TOk sp k.time T)(name:ByteArray){v t:Int}(hv:In64 v)(ht:In64 t):
  (k.feed sp T name v t).2.1={ k with time:=(k.feed sp T name v t).2.1.time }∧(k.feed sp T name v t).2.1.Ok∧((k.feed sp T name v t).1=.stale↔t<k.time)∧(((k.feed sp T name v t).1=.fine∧(k.feed sp T name v t).2.1.time=t)∨((k.feed sp T name v t).1≠.fine∧(k.feed sp T name v t).2.1.time=k.time))∧TOk sp (k.feed sp T name v t).2.1.time (k.feed sp T name v t).2.2:=by
 unfold Ctl.feed
 by_cases hlt:t<k.time
 ·simp only[if_pos hlt]
  exact⟨trivial,hk,⟨fun _=>hlt,fun _=>trivial⟩,.inr ⟨fun e=>(by cases e),trivial⟩,hT⟩
 ·by_cases hin:∃ q∈sp,q.1=name
  ·simp only[if_neg hlt,if_pos hin]
   refine⟨trivial,⟨hk.min,hk.max,hk.step,hk.up,hk.down,ht,hk.count,hk.change⟩,⟨fun e=>(by cases e),fun e=>absurd e hlt⟩,.inl ⟨trivial,trivial⟩,⟨fun q hq=>?_,fun q hq x hx=>?_⟩⟩
   ·split
    ·exact Int.le_refl _
    ·have:=hT.time q hq
     omega
   ·split at hx
    ·have hx:=(zEB _ _ _).subset hx
     rcases List.mem_append.1 hx with hx | hx
     ·exact hT.vals q hq x hx
     ·rw[List.mem_singleton.1 hx]
      exact hv
    ·exact hT.vals q hq x hx
  ·simp only[if_neg hlt,if_neg hin]
   exact⟨trivial,hk,⟨fun e=>(by cases e),fun e=>absurd e hlt⟩,.inr ⟨fun e=>(by cases e),trivial⟩,hT⟩
theorem zNY (w:World)(R:Nat)(a b c:Value):KeepX (· = R) w (((w.setCell ⟨R,0,none⟩ a).setCell ⟨R,1,none⟩ b).setCell ⟨R,2,none⟩ c):=
 ⟨rfl,rfl,rfl,by simp,fun k _ ne=>(Below.heap_setCell _ _ _ k ne).trans ((Below.heap_setCell _ _ _ k ne).trans (Below.heap_setCell _ _ _ k ne))⟩
set_option maxRecDepth 1000000 in
set_option maxHeartbeats 1000000 in
theorem zOL {w:World}{c:Nat}{t:Int}{Q:Value→Int→World→Prop}(hd:∀ W,Below w.heap.size w W→W.heap[w.heap.size]?=some (.cells #[.int .i64 0,.int .i64 0,.nilIface] 71 (0,0))→Calls Tryz.prog 44 #[ptr c,.int .i64 t] W fun e w'=>∃ v n,e=.returned v∧Q v n w'∧(v=.nilIface∨∃ T x,v=.iface T x)∧w'.cell? ⟨c,8,none⟩=some (.int .i64 n)∧∀ cs T,W.heap[w.heap.size]?=some (.cells cs T (0,0))→w'.heap[w.heap.size]?=some (.cells cs T (0,0))):
  Calls Tryz.prog 24 #[ptr c,.int .i64 t] w fun e w'=>∃ v n w2,e=.returned (.agg #[.int .i64 t,.int .i64 n,v])∧Q v n w2∧KeepX (· = w.heap.size) w2 w':=by
 have hb:Below w.heap.size w (w.alloc (.cells #[.int .i64 0,.int .i64 0,.nilIface] 71)):=(Below.refl _ _).alloc (Nat.le_refl _) _
 have hnew:(w.alloc (.cells #[.int .i64 0,.int .i64 0,.nilIface] 71)).heap[w.heap.size]?=some (.cells #[.int .i64 0,.int .i64 0,.nilIface] 71 (0,0)):=heap_alloc_new _ _
 have hd:=hd _ hb hnew
 have HN:Hid _:=hnew
 clear hb hnew
 go_enter Tryz.func24,Tryz.ntmps24
 go_wp2_with fail
 refine hd.mono ?_
 rintro e w2 ⟨v,n,rfl,hq,hv,h8,hres⟩
 have b2:=hres _ _ HN.out
 have rc0:=zA0 (i:=0) (v:=.int .i64 0) b2 rfl
 have rc1:=zA0 (i:=1) (v:=.int .i64 0) b2 rfl
 have rc2:=zA0 (i:=2) (v:=.nilIface) b2 rfl
 have rz0:=zA1 (i:=0) b2
 have rz1:=zA1 (i:=1) b2
 have rz2:=zA1 (i:=2) b2
 have HQ:Hid (Q v n w2):=hq
 clear hd hq hres b2
 rcases hv with rfl | ⟨T,x,rfl⟩
 ·go_wp2
  refine bodyPost_ret (v:=.agg #[.int .i64 t,.int .i64 n,.nilIface]) (by simp[results,Tryz.results24,go_sem,rc0,rc1,rc2]) rfl ?_
  exact⟨_,n,w2,rfl,HQ.out,zNY w2 w.heap.size _ _ _⟩
 ·go_wp2
  refine bodyPost_ret (v:=.agg #[.int .i64 t,.int .i64 n,.iface T x]) (by simp[results,Tryz.results24,go_sem,rc0,rc1,rc2]) rfl ?_
  exact⟨_,n,w2,rfl,HQ.out,zNY w2 w.heap.size _ _ _⟩
end Go.Proofs.YtbokdbaagacnlaaGreatDoor
