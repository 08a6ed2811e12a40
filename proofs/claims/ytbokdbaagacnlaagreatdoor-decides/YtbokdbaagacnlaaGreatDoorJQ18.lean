import Derived.Test.YtbokdbaagacnlaaGreatDoorJQ17
namespace Go.Proofs.YtbokdbaagacnlaaGreatDoor
open Go.RowKit Go.Lib
theorem zAN {w:World}{o:Obj}{k:Nat}(h:k=w.heap.size):(w.alloc o).heap[k]?=some o:=by subst h;exact heap_alloc_new _ _
section
variable {R lo:Nat} {w:World} {r:RS}
set_option maxRecDepth 1000000 in
theorem mk_num (h:RSt R w r)(hlo:lo≤w.heap.size)(n:Int):Calls Tryz.prog 126 #[.int .i64 n] w fun e w'=>∃ v,e=.returned v∧zCL v∧RSt R w' r∧KR R w w'∧VOk R lo w' r (.num 0 n) v:=by
 have hb:Below w.heap.size w (w.alloc (.cells #[.int .i64 n] 2)):=((Below.refl _ _).alloc (by first | exact Nat.le_refl _ | (simp;done) | (simp;omega)) _)
 have HB:Hid _:=And.intro h hb
 have K:Hid (KR R w (w.alloc (.cells #[.int .i64 n] 2))):=KR.of_below hb h.lR
 have FR:Hid (∀ b,w.heap.size≤b→b<w.heap.size+1→Fr R lo (w.alloc (.cells #[.int .i64 n] 2)) b):=fun b h1 h2=>And.intro (h.free_new hb h1 (by first | (simp;done) | (simp;omega))) (Nat.le_trans hlo h1)
 have H:Hid (RSt R w r):=h
 clear h hb
 have hmf:∀ (fn:Fn) (first cap:Array Value) (w:World),(Instr.makeFunc fn first cap).run Tryz.prog w=.ok (.func fn first cap) w:=fun _ _ _ _=>rfl
 go_enter Tryz.func126,Tryz.ntmps126
 go_wp2
 go_ret
 refine⟨_,rfl,.inr ⟨_,_,_,rfl⟩,HB.out.1.later HB.out.2,K.out,fun hw=>?_⟩
 unfold zCK
 exact⟨_,rfl,FR.out _ (by first | exact Nat.le_refl _ | omega | (simp;done) | (simp;omega)) (by first | omega | (simp;done) | (simp;omega)),zAN (by simp)⟩
set_option maxRecDepth 1000000 in
theorem mk_neg (h:RSt R w r)(hlo:lo≤w.heap.size){a:Tree}{va:Value}(hfa:zCL va)(hva:VOk R lo w r a va):Calls Tryz.prog 128 #[va] w fun e w'=>∃ v,e=.returned v∧zCL v∧RSt R w' r∧KR R w w'∧VOk R lo w' r (.neg 0 a) v:=by
 have hb:Below w.heap.size w (w.alloc (.cells #[va] 143)):=((Below.refl _ _).alloc (by first | exact Nat.le_refl _ | (simp;done) | (simp;omega)) _)
 have HB:Hid _:=And.intro h hb
 have K:Hid (KR R w (w.alloc (.cells #[va] 143))):=KR.of_below hb h.lR
 have FR:Hid (∀ b,w.heap.size≤b→b<w.heap.size+1→Fr R lo (w.alloc (.cells #[va] 143)) b):=fun b h1 h2=>And.intro (h.free_new hb h1 (by first | (simp;done) | (simp;omega))) (Nat.le_trans hlo h1)
 have H:Hid (RSt R w r):=h
 clear h hb
 have hmf:∀ (fn:Fn) (first cap:Array Value) (w:World),(Instr.makeFunc fn first cap).run Tryz.prog w=.ok (.func fn first cap) w:=fun _ _ _ _=>rfl
 have HVa:Hid _:=hva
 clear hva
 rcases hfa with rfl | ⟨_,_,_,rfl⟩
 all_goals
  go_enter Tryz.func128,Tryz.ntmps128
  go_wp2
  go_ret
  refine⟨_,rfl,.inr ⟨_,_,_,rfl⟩,HB.out.1.later HB.out.2,K.out,fun hw=>?_⟩
  unfold zCK
  exact⟨_,_,rfl,FR.out _ (by first | exact Nat.le_refl _ | omega | (simp;done) | (simp;omega)) (by first | omega | (simp;done) | (simp;omega)),zAN (by simp),(HVa.out hw).moves K.out.vmoves⟩
set_option maxRecDepth 1000000 in
theorem mk_quot (h:RSt R w r)(hlo:lo≤w.heap.size)(p:Nat){a c:Tree}{va vc:Value}(hfa:zCL va)(hfc:zCL vc)(hva:VOk R lo w r a va)(hvc:VOk R lo w r c vc):Calls Tryz.prog 130 #[.agg #[.int .i64 p],va,vc] w fun e w'=>∃ v,e=.returned v∧zCL v∧RSt R w' r∧KR R w w'∧VOk R lo w' r (.bin 47 p a c) v:=by
 have hb:Below w.heap.size w (((w.alloc (.cells #[.int .i64 p] 153)).alloc (.cells #[va] 143)).alloc (.cells #[vc] 143)):=((((Below.refl _ _).alloc (by first | exact Nat.le_refl _ | (simp;done) | (simp;omega)) _).alloc (by first | exact Nat.le_refl _ | (simp;done) | (simp;omega)) _).alloc (by first | exact Nat.le_refl _ | (simp;done) | (simp;omega)) _)
 have HB:Hid _:=And.intro h hb
 have K:Hid (KR R w (((w.alloc (.cells #[.int .i64 p] 153)).alloc (.cells #[va] 143)).alloc (.cells #[vc] 143))):=KR.of_below hb h.lR
 have FR:Hid (∀ b,w.heap.size≤b→b<w.heap.size+3→Fr R lo (((w.alloc (.cells #[.int .i64 p] 153)).alloc (.cells #[va] 143)).alloc (.cells #[vc] 143)) b):=fun b h1 h2=>And.intro (h.free_new hb h1 (by first | (simp;done) | (simp;omega))) (Nat.le_trans hlo h1)
 have H:Hid (RSt R w r):=h
 clear h hb
 have hmf:∀ (fn:Fn) (first cap:Array Value) (w:World),(Instr.makeFunc fn first cap).run Tryz.prog w=.ok (.func fn first cap) w:=fun _ _ _ _=>rfl
 have HVa:Hid _:=hva
 clear hva
 have HVc:Hid _:=hvc
 clear hvc
 rcases hfa with rfl | ⟨_,_,_,rfl⟩ <;> rcases hfc with rfl | ⟨_,_,_,rfl⟩
 all_goals
  go_enter Tryz.func130,Tryz.ntmps130
  go_wp2
  go_ret
  refine⟨_,rfl,.inr ⟨_,_,_,rfl⟩,HB.out.1.later HB.out.2,K.out,fun hw=>?_⟩
  unfold zCK
  exact⟨_,_,_,_,_,rfl,⟨FR.out _ (by first | exact Nat.le_refl _ | omega | (simp;done) | (simp;omega)) (by first | omega | (simp;done) | (simp;omega)),FR.out _ (by first | exact Nat.le_refl _ | omega | (simp;done) | (simp;omega)) (by first | omega | (simp;done) | (simp;omega)),FR.out _ (by first | exact Nat.le_refl _ | omega | (simp;done) | (simp;omega)) (by first | omega | (simp;done) | (simp;omega))⟩,zA3 (zAN (by simp)),zAN (by simp),zA3 (zA3 (zAN (by simp))),(HVa.out hw).moves K.out.vmoves,(HVc.out hw).moves K.out.vmoves⟩
set_option maxRecDepth 1000000 in
theorem mk_pair (h:RSt R w r)(hlo:lo≤w.heap.size)(k:Nat)(hk:k≠47){a c:Tree}{va vc:Value}(hfa:zCL va)(hfc:zCL vc)(hva:VOk R lo w r a va)(hvc:VOk R lo w r c vc):Calls Tryz.prog 135 #[zET k,va,vc] w fun e w'=>∃ v,e=.returned v∧zCL v∧RSt R w' r∧KR R w w'∧VOk R lo w' r (.bin k 0 a c) v:=by
 have hb:Below w.heap.size w (((w.alloc (.cells #[zET k] 189)).alloc (.cells #[va] 143)).alloc (.cells #[vc] 143)):=((((Below.refl _ _).alloc (by first | exact Nat.le_refl _ | (simp;done) | (simp;omega)) _).alloc (by first | exact Nat.le_refl _ | (simp;done) | (simp;omega)) _).alloc (by first | exact Nat.le_refl _ | (simp;done) | (simp;omega)) _)
 have HB:Hid _:=And.intro h hb
 have K:Hid (KR R w (((w.alloc (.cells #[zET k] 189)).alloc (.cells #[va] 143)).alloc (.cells #[vc] 143))):=KR.of_below hb h.lR
 have FR:Hid (∀ b,w.heap.size≤b→b<w.heap.size+3→Fr R lo (((w.alloc (.cells #[zET k] 189)).alloc (.cells #[va] 143)).alloc (.cells #[vc] 143)) b):=fun b h1 h2=>And.intro (h.free_new hb h1 (by first | (simp;done) | (simp;omega))) (Nat.le_trans hlo h1)
 have H:Hid (RSt R w r):=h
 clear h hb
 have hmf:∀ (fn:Fn) (first cap:Array Value) (w:World),(Instr.makeFunc fn first cap).run Tryz.prog w=.ok (.func fn first cap) w:=fun _ _ _ _=>rfl
 have HVa:Hid _:=hva
 clear hva
 have HVc:Hid _:=hvc
 clear hvc
 have hfr:zCL (zET k):=by rcases zQH k with⟨-,F,e⟩ | ⟨-,e⟩ <;> rw[e];exact .inr ⟨_,_,_,rfl⟩;exact .inl rfl
 generalize hRK:zET k=rk at *
 have HRK:Hid (zET k=rk):=hRK
 clear hRK
 rcases hfr with rfl | ⟨_,_,_,rfl⟩ <;> rcases hfa with rfl | ⟨_,_,_,rfl⟩ <;> rcases hfc with rfl | ⟨_,_,_,rfl⟩
 all_goals
  go_enter Tryz.func135,Tryz.ntmps135
  go_wp2
  go_ret
  refine⟨_,rfl,.inr ⟨_,_,_,rfl⟩,HB.out.1.later HB.out.2,K.out,fun hw=>?_⟩
  unfold zCK
  exact⟨_,_,_,_,_,by rw[if_neg hk];rfl,⟨FR.out _ (by first | exact Nat.le_refl _ | omega | (simp;done) | (simp;omega)) (by first | omega | (simp;done) | (simp;omega)),FR.out _ (by first | exact Nat.le_refl _ | omega | (simp;done) | (simp;omega)) (by first | omega | (simp;done) | (simp;omega)),FR.out _ (by first | exact Nat.le_refl _ | omega | (simp;done) | (simp;omega)) (by first | omega | (simp;done) | (simp;omega))⟩,zA3 (zAN (by simp)),zAN (by simp),by rw[if_neg hk,if_neg hk,HRK.out];exact zA3 (zA3 (zAN (by simp))),(HVa.out hw).moves K.out.vmoves,(HVc.out hw).moves K.out.vmoves⟩
set_option maxRecDepth 1000000 in
theorem mk_ite (h:RSt R w r)(hlo:lo≤w.heap.size){a c d:Tree}{va vc vd:Value}(hfa:zCL va)(hfc:zCL vc)(hfd:zCL vd)(hva:VOk R lo w r a va)(hvc:VOk R lo w r c vc)(hvd:VOk R lo w r d vd):Calls Tryz.prog 131 #[va,vc,vd] w fun e w'=>∃ v,e=.returned v∧zCL v∧RSt R w' r∧KR R w w'∧VOk R lo w' r (.ite 0 a c d) v:=by
 have hb:Below w.heap.size w (((w.alloc (.cells #[va] 143)).alloc (.cells #[vc] 143)).alloc (.cells #[vd] 143)):=((((Below.refl _ _).alloc (by first | exact Nat.le_refl _ | (simp;done) | (simp;omega)) _).alloc (by first | exact Nat.le_refl _ | (simp;done) | (simp;omega)) _).alloc (by first | exact Nat.le_refl _ | (simp;done) | (simp;omega)) _)
 have HB:Hid _:=And.intro h hb
 have K:Hid (KR R w (((w.alloc (.cells #[va] 143)).alloc (.cells #[vc] 143)).alloc (.cells #[vd] 143))):=KR.of_below hb h.lR
 have FR:Hid (∀ b,w.heap.size≤b→b<w.heap.size+3→Fr R lo (((w.alloc (.cells #[va] 143)).alloc (.cells #[vc] 143)).alloc (.cells #[vd] 143)) b):=fun b h1 h2=>And.intro (h.free_new hb h1 (by first | (simp;done) | (simp;omega))) (Nat.le_trans hlo h1)
 have H:Hid (RSt R w r):=h
 clear h hb
 have hmf:∀ (fn:Fn) (first cap:Array Value) (w:World),(Instr.makeFunc fn first cap).run Tryz.prog w=.ok (.func fn first cap) w:=fun _ _ _ _=>rfl
 have HVa:Hid _:=hva
 clear hva
 have HVc:Hid _:=hvc
 clear hvc
 have HVd:Hid _:=hvd
 clear hvd
 rcases hfa with rfl | ⟨_,_,_,rfl⟩ <;> rcases hfc with rfl | ⟨_,_,_,rfl⟩ <;> rcases hfd with rfl | ⟨_,_,_,rfl⟩
 all_goals
  go_enter Tryz.func131,Tryz.ntmps131
  go_wp2
  go_ret
  refine⟨_,rfl,.inr ⟨_,_,_,rfl⟩,HB.out.1.later HB.out.2,K.out,fun hw=>?_⟩
  unfold zCK
  exact⟨_,_,_,_,_,_,rfl,⟨FR.out _ (by first | exact Nat.le_refl _ | omega | (simp;done) | (simp;omega)) (by first | omega | (simp;done) | (simp;omega)),FR.out _ (by first | exact Nat.le_refl _ | omega | (simp;done) | (simp;omega)) (by first | omega | (simp;done) | (simp;omega)),FR.out _ (by first | exact Nat.le_refl _ | omega | (simp;done) | (simp;omega)) (by first | omega | (simp;done) | (simp;omega))⟩,zA3 (zA3 (zAN (by simp))),zA3 (zAN (by simp)),zAN (by simp),(HVa.out hw).moves K.out.vmoves,(HVc.out hw).moves K.out.vmoves,(HVd.out hw).moves K.out.vmoves⟩
set_option maxRecDepth 1000000 in
theorem mk_meas (h:RSt R w r)(hlo:lo≤w.heap.size)(p:Nat)(wd m:ByteArray)(n:Int):Calls Tryz.prog 180 #[.agg #[.int .i64 p],.string wd,.string m,.int .i64 n] w fun e w'=>∃ v,e=.returned v∧zCL v∧RSt R w' r∧KR R w w'∧VOk R lo w' r (.meas p wd m n) v:=by
 have hb:Below w.heap.size w ((((w.alloc (.cells #[.int .i64 p] 153)).alloc (.cells #[.string wd] 9)).alloc (.cells #[.string m] 9)).alloc (.cells #[.int .i64 n] 2)):=(((((Below.refl _ _).alloc (by first | exact Nat.le_refl _ | (simp;done) | (simp;omega)) _).alloc (by first | exact Nat.le_refl _ | (simp;done) | (simp;omega)) _).alloc (by first | exact Nat.le_refl _ | (simp;done) | (simp;omega)) _).alloc (by first | exact Nat.le_refl _ | (simp;done) | (simp;omega)) _)
 have HB:Hid _:=And.intro h hb
 have K:Hid (KR R w ((((w.alloc (.cells #[.int .i64 p] 153)).alloc (.cells #[.string wd] 9)).alloc (.cells #[.string m] 9)).alloc (.cells #[.int .i64 n] 2))):=KR.of_below hb h.lR
 have FR:Hid (∀ b,w.heap.size≤b→b<w.heap.size+4→Fr R lo ((((w.alloc (.cells #[.int .i64 p] 153)).alloc (.cells #[.string wd] 9)).alloc (.cells #[.string m] 9)).alloc (.cells #[.int .i64 n] 2)) b):=fun b h1 h2=>And.intro (h.free_new hb h1 (by first | (simp;done) | (simp;omega))) (Nat.le_trans hlo h1)
 have H:Hid (RSt R w r):=h
 clear h hb
 have hmf:∀ (fn:Fn) (first cap:Array Value) (w:World),(Instr.makeFunc fn first cap).run Tryz.prog w=.ok (.func fn first cap) w:=fun _ _ _ _=>rfl
 go_enter Tryz.func180,Tryz.ntmps180
 go_wp2
 go_ret
 refine⟨_,rfl,.inr ⟨_,_,_,rfl⟩,HB.out.1.later HB.out.2,K.out,fun hw=>?_⟩
 unfold zCK
 exact⟨_,_,_,_,rfl,⟨FR.out _ (by first | exact Nat.le_refl _ | omega | (simp;done) | (simp;omega)) (by first | omega | (simp;done) | (simp;omega)),FR.out _ (by first | exact Nat.le_refl _ | omega | (simp;done) | (simp;omega)) (by first | omega | (simp;done) | (simp;omega)),FR.out _ (by first | exact Nat.le_refl _ | omega | (simp;done) | (simp;omega)) (by first | omega | (simp;done) | (simp;omega)),FR.out _ (by first | exact Nat.le_refl _ | omega | (simp;done) | (simp;omega)) (by first | omega | (simp;done) | (simp;omega))⟩,zA3 (zA3 (zA3 (zAN (by simp)))),zA3 (zA3 (zAN (by simp))),zA3 (zAN (by simp)),zAN (by simp)⟩
set_option maxRecDepth 1000000 in
theorem mk_probe (h:RSt R w r)(hlo:lo≤w.heap.size)(p:Nat)(wd:ByteArray){ts:List Tree}{vs:List Value}{ao:Option Addr}{ln cp:Nat}(hvp:r.wrong=false→(w.ownsRow 0 143 1 (.slice ao ln cp) vs.length vs∧∀ g,(Value.slice ao ln cp).ownBlock=some g→Fr R lo w g)∧zBK (Fr R lo w) w ts vs):Calls Tryz.prog 181 #[.agg #[.int .i64 p],.string wd,.slice ao ln cp] w fun e w'=>∃ v,e=.returned v∧zCL v∧RSt R w' r∧KR R w w'∧VOk R lo w' r (.probe p wd ts) v:=by
 have hb:Below w.heap.size w (((w.alloc (.cells #[.int .i64 p] 153)).alloc (.cells #[.string wd] 9)).alloc (.cells #[.slice ao ln cp] 351)):=((((Below.refl _ _).alloc (by first | exact Nat.le_refl _ | (simp;done) | (simp;omega)) _).alloc (by first | exact Nat.le_refl _ | (simp;done) | (simp;omega)) _).alloc (by first | exact Nat.le_refl _ | (simp;done) | (simp;omega)) _)
 have HB:Hid _:=And.intro h hb
 have K:Hid (KR R w (((w.alloc (.cells #[.int .i64 p] 153)).alloc (.cells #[.string wd] 9)).alloc (.cells #[.slice ao ln cp] 351))):=KR.of_below hb h.lR
 have FR:Hid (∀ b,w.heap.size≤b→b<w.heap.size+3→Fr R lo (((w.alloc (.cells #[.int .i64 p] 153)).alloc (.cells #[.string wd] 9)).alloc (.cells #[.slice ao ln cp] 351)) b):=fun b h1 h2=>And.intro (h.free_new hb h1 (by first | (simp;done) | (simp;omega))) (Nat.le_trans hlo h1)
 have H:Hid (RSt R w r):=h
 have HVP:Hid _:=hvp
 clear h hb hvp
 have hmf:∀ (fn:Fn) (first cap:Array Value) (w:World),(Instr.makeFunc fn first cap).run Tryz.prog w=.ok (.func fn first cap) w:=fun _ _ _ _=>rfl
 go_enter Tryz.func181,Tryz.ntmps181
 go_wp2
 go_ret
 refine⟨_,rfl,.inr ⟨_,_,_,rfl⟩,HB.out.1.later HB.out.2,K.out,fun hw=>?_⟩
 unfold zCK
 exact⟨_,_,_,_,_,rfl,⟨FR.out _ (by first | exact Nat.le_refl _ | omega | (simp;done) | (simp;omega)) (by first | omega | (simp;done) | (simp;omega)),FR.out _ (by first | exact Nat.le_refl _ | omega | (simp;done) | (simp;omega)) (by first | omega | (simp;done) | (simp;omega)),FR.out _ (by first | exact Nat.le_refl _ | omega | (simp;done) | (simp;omega)) (by first | omega | (simp;done) | (simp;omega))⟩,zAN (by simp),zA3 (zA3 (zAN (by simp))),zA3 (zAN (by simp)),⟨zA7 (HVP.out hw).1.1 fun g hg=>(K.out.vmoves g ((HVP.out hw).1.2 g hg)).2,fun g hg=>(K.out.vmoves g ((HVP.out hw).1.2 g hg)).1⟩,(HVP.out hw).2.moves K.out.vmoves⟩
end
theorem zHX {w:World}{base e size n:Nat}{v:Value}{xs:List Value}(h:w.ownsRow base e size v n xs){g:Nat}(hg:v.ownBlock=some g):∃ c,w.heap[g]?=some (.cells c e (0,0)):=by
 rcases h.2 with⟨rfl,-⟩ | ⟨g2,cap,cur,rfl,-,h3,-⟩
 ·cases hg
 ·injection hg with hg
  subst hg
  exact⟨cur,h3⟩
theorem zAG {w w':World}{base e size n:Nat}{v:Value}{xs:List Value}(h:w.ownsRow base e size v n xs)(hb:∀ g,v.ownBlock=some g→w'.heap[g]?=w.heap[g]?):w'.ownsRow base e size v n xs:=zA7 h hb
theorem zE7 {w:World}{b1 e1 s1 n1 b2 e2 s2 n2:Nat}{v1 v2:Value}{x1 x2:List Value}(h1:w.ownsRow b1 e1 s1 v1 n1 x1)(h2:w.ownsRow b2 e2 s2 v2 n2 x2)(he:e1≠e2){g:Nat}(hg:v1.ownBlock=some g):v2.ownBlock≠some g:=fun hg2=>by
 obtain⟨c1,q1⟩:=zHX h1 hg
 obtain⟨c2,q2⟩:=zHX h2 hg2
 rw[q1] at q2
 injection q2 with q2
 injection q2 with _ q2
 exact he q2
section
variable {R:Nat} {w w5:World} {r r':RS}
theorem RSt.renew (h:RSt R w r){rv mv sv av mv' sv' av' X v':Value}{i:Nat}{o:Obj}(h1:w.heap[R]?=some (.cells #[rv,.int .i64 r.parts,.bool r.wrong,mv,sv,av] 234 (0,0)))(hX:X=mv∨X=sv∨X=av)
  (hg:(w.alloc o).grownBy w5 X.ownBlock) (h5:(w5.setCell ⟨R,i,none⟩ v').heap[R]?=some (.cells #[rv,.int .i64 r'.parts,.bool r'.wrong,mv',sv',av'] 234 (0,0)))
  (hrest:zBM R w rv r'.rest) (hm:w5.ownsRow (R+1) 9 1 mv' r'.mets.length (r'.mets.map Value.string)) (ha:w5.ownsRow (R+1) 236 2 av' r'.asks.length (zAZ r'.asks)∧w5.ownsRow (R+1) 194 2 sv' r'.spans.length (zAP r'.spans))
  (hm':mv'.ownBlock=mv.ownBlock∨∀ g,mv'.ownBlock=some g→w.heap.size≤g) (hs':sv'.ownBlock=sv.ownBlock∨∀ g,sv'.ownBlock=some g→w.heap.size≤g) (ha':av'.ownBlock=av.ownBlock∨∀ g,av'.ownBlock=some g→w.heap.size≤g):RSt R (w5.setCell ⟨R,i,none⟩ v') r'∧KR R w (w5.setCell ⟨R,i,none⟩ v'):=by
 have lR:=zA2 h1
 have r3:=zBG h1 (k:=3) rfl
 have r4:=zBG h1 (k:=4) rfl
 have r5:=zBG h1 (k:=5) rfl
 have hk:KR R w (w5.setCell ⟨R,i,none⟩ v'):=by
  refine⟨hg.os,hg.tape,hg.output,by have:=hg.size;simp at this ⊢;omega,fun k hk hR h3 h4 h5'=>?_,?_,?_,?_⟩
  ·rw[Below.heap_setCell _ _ _ _ hR]
   refine(hg.block k (by simp;omega) fun e=>?_).trans (Below.heap_alloc _ _ _ hk)
   rcases hX with rfl | rfl | rfl
   ·rw[r3] at h3;exact h3 e.symm
   ·rw[r4] at h4;exact h4 e.symm
   ·rw[r5] at h5';exact h5' e.symm
  ·rw[zBG h5 (k:=3) rfl,r3];exact hm'
  ·rw[zBG h5 (k:=4) rfl,r4];exact hs'
  ·rw[zBG h5 (k:=5) rfl,r5];exact ha'
 have hb:=h.below_of hk
 refine⟨⟨⟨rv,mv',sv',av',h5,hrest.below hb,zAG hm fun g hg'=>Below.heap_setCell _ _ _ _ (by have:=(hm.lt _ hg').1;show g≠R;omega),zAG ha.1 fun g hg'=>Below.heap_setCell _ _ _ _ (by have:=(ha.1.lt _ hg').1;show g≠R;omega),zAG ha.2 fun g hg'=>Below.heap_setCell _ _ _ _ (by have:=(ha.2.lt _ hg').1;show g≠R;omega)⟩,h.tab_of hb⟩,hk⟩
theorem RSt.push3 (h:RSt R w r){rv mv sv av v':Value}{o:Obj}{x:ByteArray}(h1:w.heap[R]?=some (.cells #[rv,.int .i64 r.parts,.bool r.wrong,mv,sv,av] 234 (0,0)))(hrest:zBM R w rv r.rest)
  (hm:w.ownsRow (R+1) 9 1 mv r.mets.length (r.mets.map Value.string)) (ha:w.ownsRow (R+1) 236 2 av r.asks.length (zAZ r.asks)∧w.ownsRow (R+1) 194 2 sv r.spans.length (zAP r.spans))
  (hown:w5.ownsRow (R+1) 9 1 v' (r.mets.length+1) (r.mets.map Value.string ++ [.string x])) (hg:(w.alloc o).grownBy w5 mv.ownBlock) (hb:v'.ownBlock=mv.ownBlock∨v'.ownBlock=some (w.alloc o).heap.size):
  RSt R (w5.setCell ⟨R,3,none⟩ v') { r with mets:=r.mets ++ [x] }∧KR R w (w5.setCell ⟨R,3,none⟩ v'):=by
 have lR:=zA2 h1
 have hR5:w5.heap[R]?=some (.cells #[rv,.int .i64 r.parts,.bool r.wrong,mv,sv,av] 234 (0,0)):=(hg.block R (by simp;omega) (fun e=>by have:=(hm.lt _ e.symm).1;omega)).trans (zA3 h1)
 refine h.renew h1 (.inl rfl) hg (zA4 (i:=3) hR5) hrest (by simpa using hown) ⟨?_,?_⟩ ?_ (.inl rfl) (.inl rfl)
 ·exact zAG ha.1 fun g hg'=>(hg.block g (by have:=(ha.1.lt _ hg').2;simp;omega) fun e=>zE7 ha.1 hm (by decide) hg' e.symm).trans (Below.heap_alloc _ _ _ (ha.1.lt _ hg').2)
 ·exact zAG ha.2 fun g hg'=>(hg.block g (by have:=(ha.2.lt _ hg').2;simp;omega) fun e=>zE7 ha.2 hm (by decide) hg' e.symm).trans (Below.heap_alloc _ _ _ (ha.2.lt _ hg').2)
 ·rcases hb with hb | hb
  ·exact .inl hb
  ·exact .inr fun g hg'=>by rw[hb] at hg';injection hg' with hg';simp at hg';omega
theorem RSt.push4 (h:RSt R w r){rv mv sv av v':Value}{o:Obj}{p:Int}{x:ByteArray}(h1:w.heap[R]?=some (.cells #[rv,.int .i64 r.parts,.bool r.wrong,mv,sv,av] 234 (0,0)))(hrest:zBM R w rv r.rest)
  (hm:w.ownsRow (R+1) 9 1 mv r.mets.length (r.mets.map Value.string)) (ha:w.ownsRow (R+1) 236 2 av r.asks.length (zAZ r.asks)∧w.ownsRow (R+1) 194 2 sv r.spans.length (zAP r.spans))
  (hown:w5.ownsRow (R+1) 194 2 v' (r.spans.length+1) (zAP r.spans ++ [.string x,.int .i64 p])) (hg:(w.alloc o).grownBy w5 sv.ownBlock) (hb:v'.ownBlock=sv.ownBlock∨∀ g,v'.ownBlock=some g→w.heap.size≤g):
  RSt R (w5.setCell ⟨R,4,none⟩ v') { r with spans:=r.spans ++ [(x,p)] }∧KR R w (w5.setCell ⟨R,4,none⟩ v'):=by
 have lR:=zA2 h1
 have hR5:w5.heap[R]?=some (.cells #[rv,.int .i64 r.parts,.bool r.wrong,mv,sv,av] 234 (0,0)):=(hg.block R (by simp;omega) (fun e=>by have:=(ha.2.lt _ e.symm).1;omega)).trans (zA3 h1)
 refine h.renew h1 (.inr (.inl rfl)) hg (zA4 (i:=4) hR5) hrest ?_ ⟨?_,?_⟩ (.inl rfl) hb (.inl rfl)
 ·exact zAG hm fun g hg'=>(hg.block g (by have:=(hm.lt _ hg').2;simp;omega) fun e=>zE7 hm ha.2 (by decide) hg' e.symm).trans (Below.heap_alloc _ _ _ (hm.lt _ hg').2)
 ·exact zAG ha.1 fun g hg'=>(hg.block g (by have:=(ha.1.lt _ hg').2;simp;omega) fun e=>zE7 ha.1 ha.2 (by decide) hg' e.symm).trans (Below.heap_alloc _ _ _ (ha.1.lt _ hg').2)
 ·rw[zJ0,List.length_append]
  exact hown
theorem RSt.push5 (h:RSt R w r){rv mv sv av v':Value}{o:Obj}{p:Nat}{x:ByteArray}(h1:w.heap[R]?=some (.cells #[rv,.int .i64 r.parts,.bool r.wrong,mv,sv,av] 234 (0,0)))(hrest:zBM R w rv r.rest)
  (hm:w.ownsRow (R+1) 9 1 mv r.mets.length (r.mets.map Value.string)) (ha:w.ownsRow (R+1) 236 2 av r.asks.length (zAZ r.asks)∧w.ownsRow (R+1) 194 2 sv r.spans.length (zAP r.spans))
  (hown:w5.ownsRow (R+1) 236 2 v' (r.asks.length+1) (zAZ r.asks ++ [.int .i64 (p:Int),.string x])) (hg:(w.alloc o).grownBy w5 av.ownBlock) (hb:v'.ownBlock=av.ownBlock∨∀ g,v'.ownBlock=some g→w.heap.size≤g):
  RSt R (w5.setCell ⟨R,5,none⟩ v') { r with asks:=r.asks ++ [(p,x)] }∧KR R w (w5.setCell ⟨R,5,none⟩ v'):=by
 have lR:=zA2 h1
 have hR5:w5.heap[R]?=some (.cells #[rv,.int .i64 r.parts,.bool r.wrong,mv,sv,av] 234 (0,0)):=(hg.block R (by simp;omega) (fun e=>by have:=(ha.1.lt _ e.symm).1;omega)).trans (zA3 h1)
 refine h.renew h1 (.inr (.inr rfl)) hg (zA4 (i:=5) hR5) hrest ?_ ⟨?_,?_⟩ (.inl rfl) (.inl rfl) hb
 ·exact zAG hm fun g hg'=>(hg.block g (by have:=(hm.lt _ hg').2;simp;omega) fun e=>zE7 hm ha.1 (by decide) hg' e.symm).trans (Below.heap_alloc _ _ _ (hm.lt _ hg').2)
 ·rw[zKE,List.length_append]
  exact hown
 ·exact zAG ha.2 fun g hg'=>(hg.block g (by have:=(ha.2.lt _ hg').2;simp;omega) fun e=>zE7 ha.2 ha.1 (by decide) hg' e.symm).trans (Below.heap_alloc _ _ _ (ha.2.lt _ hg').2)
end
theorem Tryz.infoSpan : (Tryz.prog.info? 194).map (fun i=>(i.zero,i.size,i.bytes))=some (some (.agg #[.string { data:=#[] },.int .i64 0]),2,24):=by kernel_rfl
theorem zJ9 {w:World}{k:Nat}{x y:Value}{t:TypeId}(h:w.heap[k]?=some (.cells #[x,y] t (0,0))):∀ j u,[x,y][j]?=some u→w.cell? ((⟨k,0,none⟩:Addr).add j)=some u:=by
 intro j u hu
 match j with
 | 0=>
  simp at hu
  subst hu
  exact zA0 h rfl
 | 1=>
  simp at hu
  subst hu
  rw[show (⟨k,0,none⟩:Addr).add 1=⟨k,1,none⟩ by unfold Addr.add;split <;> simp_all]
  exact zA0 h rfl
 | j+2=>simp at hu
theorem RSt.blk_of {R:Nat}{w:World}{r:RS}(h:RSt R w r){rv x y mv sv av:Value}{T:TypeId}(hb:w.heap[R]?=some (.cells #[rv,x,y,mv,sv,av] T (0,0))):zBM R w rv r.rest∧w.ownsRow (R+1) 9 1 mv r.mets.length (r.mets.map Value.string)∧w.ownsRow (R+1) 236 2 av r.asks.length (zAZ r.asks)∧w.ownsRow (R+1) 194 2 sv r.spans.length (zAP r.spans):=by
 obtain⟨rv',mv',sv',av',b1,b2,b3,b4⟩:=h.blk
 rw[hb] at b1
 injection b1 with b1
 injection b1 with b1
 injection b1 with b1
 injection b1 with e1 b1
 injection b1 with _ b1
 injection b1 with _ b1
 injection b1 with e4 b1
 injection b1 with e5 b1
 injection b1 with e6 b1
 subst e1 e4 e5 e6
 exact⟨b2,b3,b4⟩
section
variable {R:Nat} {w:World} {r:RS}
set_option maxRecDepth 1000000 in
set_option maxHeartbeats 1000000 in
theorem rd_measure (h:RSt R w r)(hl:r.mets.length≤900)(hls:r.spans.length≤900):Calls Tryz.prog 132 #[.pointer (some ⟨R,0,none⟩)] w fun e w'=>∃ v,e=.returned v∧zCL v∧RSt R w' r.measure.2∧KR R w w'∧VOk R w.heap.size w' r.measure.2 r.measure.1 v:=by
 obtain⟨i0,hi,hz0,hz1,hz2⟩:=info_parts Tryz.infoStr
 obtain⟨i1,hi1,hy0,hy1,hy2⟩:=info_parts Tryz.infoSpan
 have hpl:=zMA h
 have HM:Hid (r.measure=(.meas r.place.1 r.place.2.name.1 ((r.place.2.name.2.require (isMeasure r.place.2.name.1)).name).1 ((r.place.2.name.2.require (isMeasure r.place.2.name.1)).name).2.number.1,{ ((r.place.2.name.2.require (isMeasure r.place.2.name.1)).name).2.number.2 with mets:=zDG ((r.place.2.name.2.require (isMeasure r.place.2.name.1)).name).2.number.2.mets ((r.place.2.name.2.require (isMeasure r.place.2.name.1)).name).1,spans:=((r.place.2.name.2.require (isMeasure r.place.2.name.1)).name).2.number.2.spans ++ [(((r.place.2.name.2.require (isMeasure r.place.2.name.1)).name).1,((r.place.2.name.2.require (isMeasure r.place.2.name.1)).name).2.number.1)] })):=rfl
 have hl2:((r.place.2.name.2.require (isMeasure r.place.2.name.1)).name).2.number.2.mets.length≤900:=by rw[(RS.mets_number _).1,(RS.mets_name _).1,(RS.mets_require _ _).1,(RS.mets_name _).1,(RS.mets_place _).1];exact hl
 have hl3:((r.place.2.name.2.require (isMeasure r.place.2.name.1)).name).2.number.2.spans.length≤900:=by rw[(RS.mets_number _).2.2,(RS.mets_name _).2.2,(RS.mets_require _ _).2.2,(RS.mets_name _).2.2,(RS.mets_place _).2.2];exact hls
 clear h hl hls
 generalize r.place=P at *
 go_enter Tryz.func132,Tryz.ntmps132
 go_wp2_with fail
 refine hpl.mono ?_
 rintro e w1 ⟨rfl,h1,k1⟩
 have hnm:=zP5 h1
 have K1:Hid _:=k1
 clear hpl h1 k1
 generalize P.2.name=K at *
 go_wp2_with fail
 refine hnm.mono ?_
 rintro e w2 ⟨rfl,h2,k2⟩
 have hbl:Below w2.heap.size w2 (w2.alloc (.cells #[.int .i64 (P.1:Int)] 153)):=(Below.refl _ _).alloc (Nat.le_refl _) _
 have hik:=zH0 K.1 (w2.alloc (.cells #[.int .i64 (P.1:Int)] 153))
 have hrq:=zCH (h2.later hbl) (isMeasure K.1)
 have K2:Hid _:=(K1.out.trans k2).trans (.of_below hbl h2.lR)
 have FRE:Hid (Free R (w2.alloc (.cells #[.int .i64 (P.1:Int)] 153)) w2.heap.size):=h2.free_new hbl (Nat.le_refl _) (by simp)
 have HA2:Hid (One (w2.alloc (.cells #[.int .i64 (P.1:Int)] 153)) w2.heap.size (.int .i64 (P.1:Int)) 153):=heap_alloc_new _ _
 clear hnm h2 k2 hbl
 go_wp2_with fail
 refine hik.mono ?_
 rintro e w' ⟨rfl,hw⟩
 have hw:=hw.symm
 subst hw
 clear hik
 go_wp2_with fail
 refine hrq.mono ?_
 rintro e w3 ⟨rfl,h3,k3⟩
 generalize K.2.require (isMeasure K.1)=r3 at *
 have hnm:=zP5 h3
 have K3:Hid _:=K2.out.trans k3
 have KA:Hid (KR R (w2.alloc (.cells #[.int .i64 (P.1:Int)] 153)) w3):=k3
 clear hrq h3 k3
 generalize r3.name=M at *
 go_wp2_with fail
 refine hnm.mono ?_
 rintro e w4 ⟨rfl,h4,k4⟩
 have K4:Hid _:=K3.out.trans k4
 have KB:Hid (KR R (w2.alloc (.cells #[.int .i64 (P.1:Int)] 153)) w4):=KA.out.trans k4
 have hnb:=zNM h4
 clear hnm h4 k4
 generalize hNn:M.2.number=Nn at *
 go_wp2_with fail
 refine hnb.mono ?_
 rintro e w5 ⟨rfl,h5,k5⟩
 have KW5:Hid (KR R w w5):=K4.out.trans k5
 have KC5:Hid (KR R (w2.alloc (.cells #[.int .i64 (P.1:Int)] 153)) w5):=KB.out.trans k5
 have H4:Hid (RSt R w5 Nn.2):=h5
 obtain⟨rv,mv,sv,av,b1,b2,b3,b4⟩:=h5.blk
 obtain⟨ao,cp,rfl⟩:=zAI b3
 obtain⟨aos,cps,rfl⟩:=zAI b4.2
 have c3:=zA0 (i:=3) b1 rfl
 have z3:=zA1 (i:=3) b1
 have c4:=zA0 (i:=4) b1 rfl
 have z4:=zA1 (i:=4) b1
 have hcn:=zIQ b3 (by omega) M.1
 have lR4:=h5.lR
 have FR5:Hid (Free R w5 w2.heap.size):=(FRE.out.step KC5.out).1
 have CA:Hid (w5.heap[w2.heap.size]?=some (.cells #[.int .i64 (P.1:Int)] 153 (0,0))):=(FRE.out.step KC5.out).2.trans HA2.out
 have cA:w5.cell? ⟨w2.heap.size,0,none⟩=some (.int .i64 (P.1:Int)):=zA0 CA.out rfl
 have la:=zA2 CA.out
 have hnR:¬ R=w2.heap.size:=fun e=>FR5.out.ne e.symm
 have hnR2:¬ w2.heap.size=R:=FR5.out.ne
 have HB1:Hid _:=b1
 have r3:=zBG b1 (k:=3) rfl
 have r4:=zBG b1 (k:=4) rfl
 have HR34:Hid _:=And.intro r3 r4
 have HNT:Hid (zDG Nn.2.mets M.1=if containsS Nn.2.mets M.1=true then Nn.2.mets else Nn.2.mets ++ [M.1]):=rfl
 clear hnb h5 k5 b1 b2 b3 b4 r3 r4
 go_wp2_with fail
 refine hcn.mono ?_
 rintro e w' ⟨rfl,hw⟩
 have hw:=hw.symm
 subst hw
 clear hcn
 cases hcx:containsS Nn.2.mets M.1 with
 | true=>
  have HM:Hid (r.measure=(.meas P.1 K.1 M.1 Nn.1,{ Nn.2 with spans:=Nn.2.spans ++ [(M.1,Nn.1)] })):=by
   show r.measure=_
   rw[HM.out,HNT.out,if_pos hcx]
  clear hcx c3 z3
  go_wp2_with (first
    | (at_builtin;refine zAA _ rfl _ _ 144 rfl (R+1) 194 i1 (.agg #[.string { data:=#[] },.int .i64 0]) 2 24 Tryz.underlying144 hi1 hy0 hy1 hy2 rfl (by decide) (.slice aos Nn.2.spans.length cps) Nn.2.spans.length (zAP Nn.2.spans) rfl (World.ownsRow.alloc (H4.out.blk_of HB1.out).2.2.2 _) ⟨w5.heap.size,0,none⟩ 1 1 [.string M.1,.int .i64 Nn.1] rfl rfl (zJ9 (zAN (by simp))) (by simp[Value.oneCell']) (by unfold maxLen;omega) (by omega) (by simp;omega) (by decide) ?_;intro v' w6 hown hgrow hnil;have q:=RSt.push4 (p:=Nn.1) (x:=M.1) H4.out HB1.out (H4.out.blk_of HB1.out).1 (H4.out.blk_of HB1.out).2.1 (H4.out.blk_of HB1.out).2.2 hown hgrow (hnil.elim .inl fun e=>.inr fun g hg=>(by rw[e] at hg;injection hg with hg;simp at hg ⊢;omega));have n6:w6.heap[R]?=_:=(hgrow.block R (by simp;omega) (fun e=>by have:=((H4.out.blk_of HB1.out).2.2.2.lt _ e.symm).1;omega)).trans (zA3 HB1.out);have m6:=zA0 (i:=4) n6 rfl;have g6:=zA1 (i:=4) n6;have cA6:w6.cell? ⟨w2.heap.size,0,none⟩=some (.int .i64 (P.1:Int)):=zA0 ((hgrow.block w2.heap.size (by simp;omega) (fun e=>by have:=HR34.out.2;exact FR5.out.row4 (this.trans e.symm))).trans (zA3 CA.out)) rfl;have Q6:Hid _:=q;obtain⟨ao7,cp7,rfl⟩:=zAI hown;clear n6 hgrow hown hnil q)
    | fail)
  have hmk:=mk_meas (lo:=w.heap.size) Q6.out.1 (Nat.le_trans KW5.out.size Q6.out.2.size) P.1 K.1 M.1 Nn.1
  refine hmk.mono ?_
  rintro e w8 ⟨v8,rfl,hf8,h8,k8,hv8⟩
  have Q8:Hid _:=And.intro hf8 (And.intro h8 (And.intro ((KW5.out.trans Q6.out.2).trans k8) hv8))
  clear hf8 h8 k8 hv8 hmk m6 g6 cA6
  go_wp2
  go_ret
  rw[HM.out]
  exact⟨_,rfl,Q8.out⟩
 | false=>
  have HM:Hid (r.measure=(.meas P.1 K.1 M.1 Nn.1,{ ({ Nn.2 with mets:=Nn.2.mets ++ [M.1] }:RS) with spans:=Nn.2.spans ++ [(M.1,Nn.1)] })):=by
   show r.measure=_
   rw[HM.out,HNT.out,if_neg (by rw[hcx];decide)]
  clear hcx
  go_wp2_with (first
    | (at_builtin;refine zAA _ rfl _ _ 65 rfl (R+1) 9 i0 (.string { data:=#[] }) 1 16 Tryz.underlying65 hi hz0 hz1 hz2 rfl (by decide) (.slice ao Nn.2.mets.length cp) Nn.2.mets.length (Nn.2.mets.map Value.string) rfl (World.ownsRow.alloc (H4.out.blk_of HB1.out).2.1 _) ⟨w5.heap.size,0,none⟩ 1 1 [.string M.1] rfl rfl (zBU rfl) (fun x hx=>by simp at hx;subst hx;rfl) (by unfold maxLen;omega) (by omega) (by simp;omega) (by decide) ?_;intro v' w55 hown hgrow hnil;have q:=RSt.push3 H4.out HB1.out (H4.out.blk_of HB1.out).1 (H4.out.blk_of HB1.out).2.1 (H4.out.blk_of HB1.out).2.2 hown hgrow hnil;have n5:w55.heap[R]?=_:=(hgrow.block R (by simp;omega) (fun e=>by have:=((H4.out.blk_of HB1.out).2.1.lt _ e.symm).1;omega)).trans (zA3 HB1.out);have m5:=zA0 (i:=3) n5 rfl;have g5:=zA1 (i:=3) n5;have m54:=zA0 (i:=4) n5 rfl;have g54:=zA1 (i:=4) n5;have Q5:Hid _:=And.intro q.1 (And.intro q.2 n5);have l5:w5.heap.size≤w55.heap.size:=(by have:=hgrow.size;simp at this;omega);obtain⟨ao2,cp2,rfl⟩:=zAI hown;have CA:Hid ((w55.setCell ⟨R,3,none⟩ (.slice ao2 (Nn.2.mets.length+1) cp2)).heap[w2.heap.size]?=some (.cells #[.int .i64 (P.1:Int)] 153 (0,0))):=(FR5.out.step Q5.out.2.1).2.trans CA.out;clear n5 hgrow hown hnil q c3 z3 c4 z4 cA)
    | (at_builtin;refine zAA _ rfl _ _ 144 rfl (R+1) 194 i1 (.agg #[.string { data:=#[] },.int .i64 0]) 2 24 Tryz.underlying144 hi1 hy0 hy1 hy2 rfl (by decide) (.slice aos Nn.2.spans.length cps) Nn.2.spans.length (zAP Nn.2.spans) rfl (World.ownsRow.alloc (Q5.out.1.blk_of (zA4 (i:=3) Q5.out.2.2)).2.2.2 _) ⟨w55.heap.size,0,none⟩ 1 1 [.string M.1,.int .i64 Nn.1] rfl rfl (zJ9 (zAN (by simp))) (by simp[Value.oneCell']) (by unfold maxLen;omega) (by omega) (by simp;omega) (by decide) ?_;intro v' w6 hown hgrow hnil;have q:=RSt.push4 (p:=Nn.1) (x:=M.1) Q5.out.1 (zA4 (i:=3) Q5.out.2.2) (Q5.out.1.blk_of (zA4 (i:=3) Q5.out.2.2)).1 (Q5.out.1.blk_of (zA4 (i:=3) Q5.out.2.2)).2.1 (Q5.out.1.blk_of (zA4 (i:=3) Q5.out.2.2)).2.2 hown hgrow (hnil.elim .inl fun e=>.inr fun g hg=>(by rw[e] at hg;injection hg with hg;simp at hg ⊢;omega));have n6:w6.heap[R]?=_:=(hgrow.block R (by simp;omega) (fun e=>by have:=((Q5.out.1.blk_of (zA4 (i:=3) Q5.out.2.2)).2.2.2.lt _ e.symm).1;omega)).trans (zA3 (zA4 (i:=3) Q5.out.2.2));have m6:=zA0 (i:=4) n6 rfl;have g6:=zA1 (i:=4) n6;have cA6:w6.cell? ⟨w2.heap.size,0,none⟩=some (.int .i64 (P.1:Int)):=zA0 ((hgrow.block w2.heap.size (by simp;omega) (fun e=>(FR5.out.step Q5.out.2.1).1.row4 ((zBG (zA4 (i:=3) Q5.out.2.2) (k:=4) rfl).trans e.symm))).trans (zA3 CA.out)) rfl;have Q6:Hid _:=q;obtain⟨ao7,cp7,rfl⟩:=zAI hown;clear n6 hgrow hown hnil q)
    | fail)
  have hmk:=mk_meas (lo:=w.heap.size) Q6.out.1 (Nat.le_trans (KW5.out.trans Q5.out.2.1).size Q6.out.2.size) P.1 K.1 M.1 Nn.1
  refine hmk.mono ?_
  rintro e w8 ⟨v8,rfl,hf8,h8,k8,hv8⟩
  have Q8:Hid _:=And.intro hf8 (And.intro h8 (And.intro (((KW5.out.trans Q5.out.2.1).trans Q6.out.2).trans k8) hv8))
  clear hf8 h8 k8 hv8 hmk m6 g6 cA6
  go_wp2
  go_ret
  rw[HM.out]
  exact⟨_,rfl,Q8.out⟩
end
end Go.Proofs.YtbokdbaagacnlaaGreatDoor
