import Derived.Test.YtbokdbaagacnlaaGreatDoorJQ21
namespace Go.Proofs.YtbokdbaagacnlaaGreatDoor
open Go.RowKit Go.Lib
section
variable {B:Nat}
set_option maxRecDepth 1000000 in
set_option maxHeartbeats 2000000 in
theorem w_probe {p:Nat}{wd:ByteArray}{ts:List Tree}(hwd:wd.size<256)(hlt:ts.length<256)(hT:∀ t∈ts,WCon B t):WCon B (.probe p wd ts):=by
 intro w vo v l hn ho hB hl
 unfold zAO at hn
 obtain⟨b,pv,vs,rfl,hb,hblk,⟨hrow,hrowB⟩,hns⟩:=hn
 obtain⟨i0,hi,hz0,hz1,hz2⟩:=info_parts Tryz.infoByte
 have hvl:=hns.length
 obtain⟨ao,cp,rfl⟩:=zAI hrow
 have c0:=zA0 (i:=0) hblk rfl
 have c1:=zA0 (i:=1) hblk rfl
 have HBK:Hid (w.heap[b]?=some (.cells #[.int .i64 p,.string wd,.slice ao vs.length cp] 306 (0,0))):=hblk
 have HO:Hid (Out8 B w vo l):=ho
 have HRW:Hid (w.ownsRow 0 226 1 (.slice ao vs.length cp) vs.length vs):=hrow
 have HNS:Hid (zAU (Lt B) w ts vs):=hns
 have HT:Hid (∀ t∈ts,WCon B t):=hT
 have hln:l.length+3+(zH4 wd).length+(encs ts).length≤1000000:=by simp[enc] at hl;omega
 have hx:zB1 [UInt8.ofNat ts.length]=[.int .u8 ((vs.length:Int) % 256)]:=by rw[hvl];exact zMX _
 have HX:Hid _:=hx
 have h200:ts.length≤1000:=by omega
 have hm255:vs.length<256:=by omega
 have ta:=Tryz.isProbe
 have tm0:=Tryz.notProbeNumber
 have tm1:=Tryz.notProbeMinus
 have tm2:=Tryz.notProbePair
 have tm3:=Tryz.notProbeChoice
 have tm4:=Tryz.notProbeMeasure
 clear ho hblk hl hrow hns hT hrowB hx hvl hlt
 generalize hM:vs.length=M at *
 have HM:Hid (vs.length=M):=hM
 clear hM
 go_enter Tryz.func99,Tryz.ntmps99
 go_wp2_with fail
 go_region_held3 (fun w'=>w'.cell? ⟨b,0,none⟩=some (.int .i64 p)∧w'.cell? ⟨b,1,none⟩=some (.string wd)) (go_keep)
  (first
   | (refine step_append_lies _ (by rfl) (.tmp 90) (.tmp 91) _ (by rfl) B 5 i0 (.int .u8 0) 1 1 Tryz.underlying111 hi hz0 hz1 hz2 rfl (by omega) vo l.length (zB1 l) (by rfl) (World.ownsRow.alloc (World.ownsRow.drew HO.out) _) ⟨_,0,none⟩ 1 1 [.int .u8 112] (by rfl) (by rfl) (zFI (heap_alloc_new _ _)) (by simp[Value.oneCell']) (by omega) (by unfold maxLen;omega) (by omega) (by simp;omega) _ (by rfl) ?_;intro g cap w5 hown hgrow hat hlt;have hQ:=Out8.pushed (b:=112) hB HO.out rfl hown hgrow;have hB5:B≤w5.heap.size:=Nat.le_trans hB hQ.2.size;have c50:w5.cell? ⟨b,0,none⟩=some (.int .i64 p):=hQ.2.cell HBK.out (by decide) rfl;have c51:w5.cell? ⟨b,1,none⟩=some (.string wd):=hQ.2.cell HBK.out (by decide) rfl;have Q:Hid _:=hQ;clear hown hgrow hat hlt hQ)
   | (go_at_call 140;refine(zDW Q.out.1 hB5 (by simp;omega) p).mono ?_;rintro e w6 ⟨v6,rfl,h6⟩;have Q6:Hid _:=And.intro h6.1 (Q.out.2.trans h6.2);have hB6:B≤w6.heap.size:=Nat.le_trans hB5 h6.2.size;clear h6;have c60:w6.cell? ⟨b,0,none⟩=some (.int .i64 p):=Q6.out.2.cell HBK.out (by decide) rfl;have c61:w6.cell? ⟨b,1,none⟩=some (.string wd):=Q6.out.2.cell HBK.out (by decide) rfl)
   | (go_at_call 139;refine(zEO Q6.out.1 hB6 (by simp;omega) wd (by omega)).mono ?_;rintro e w7 ⟨v7,rfl,h7⟩;have Q7:Hid _:=And.intro h7.1 (Q6.out.2.trans h7.2);have hB7:B≤w7.heap.size:=Nat.le_trans hB6 h7.2.size;clear h7;have c70:w7.cell? ⟨b,0,none⟩=some (.int .i64 p):=Q7.out.2.cell HBK.out (by decide) rfl;have c71:w7.cell? ⟨b,1,none⟩=some (.string wd):=Q7.out.2.cell HBK.out (by decide) rfl))
 have c72:w7.cell? ⟨b,2,none⟩=some (.slice ao M cp):=Q7.out.2.cell HBK.out (by decide) rfl
 obtain⟨L7,hL7⟩:∃ L7,L7=l ++ [112] ++ [UInt8.ofNat p] ++ zH4 wd:=⟨_,rfl⟩
 have Q8:Hid (Out8 B w7 v7 L7∧W8 B w w7):=by rw[hL7];exact Q7.out
 have hl7:L7.length+1+(encs ts).length≤1000000:=by rw[hL7];simp at hln ⊢;omega
 have HL7:Hid (L7=l ++ [112] ++ [UInt8.ofNat p] ++ zH4 wd):=hL7
 have HOO:Hid (Out8 B w7 v7 L7):=Q8.out.1
 clear hL7 Q7 Q6 Q hB5 hB6
 go_wp2_with fail
 go_region_held3 (fun w'=>w'.cell? ⟨b,2,none⟩=some (.slice ao M cp)) (go_keep)
  (first
   | (refine step_append_lies _ (by rfl) (.tmp 103) (.tmp 110) _ (by rfl) B 5 i0 (.int .u8 0) 1 1 Tryz.underlying111 hi hz0 hz1 hz2 rfl (by omega) v7 L7.length (zB1 L7) (by rfl) (by repeat (first | with_reducible exact HOO.out | with_reducible apply World.ownsRow.drew | with_reducible apply World.ownsRow.alloc)) ⟨_,0,none⟩ 1 1 [.int .u8 ((M:Int) % 256)] (by rfl) (by rfl) (zFI (by first | exact zBY (by simp) | exact zA3 (zBY (by simp)))) (by simp[Value.oneCell']) (by omega) (by unfold maxLen;omega) (by omega) (by first | exact hB7 | (simp;omega) | (simp;done)) _ (by rfl) ?_;intro g cap w5 hown hgrow hat hlt;have hQ:=Out8.push (b:=UInt8.ofNat ts.length) (x:=.int .u8 ((M:Int) % 256)) (w:=w) (l:=L7) (v:=v7) (by repeat (first | exact Q8.out.2 | with_reducible apply W8.drew | refine W8.alloc ?_ (by first | exact hB7 | (simp;omega) | (simp;done)) _)) (by repeat (first | with_reducible exact HOO.out | with_reducible apply World.ownsRow.drew | with_reducible apply World.ownsRow.alloc)) (by first | exact hB7 | (simp;omega) | (simp;done)) HX.out hown hgrow;have hB5:B≤w5.heap.size:=Nat.le_trans hB hQ.2.size;have HW:Hid _:=W8.grown (B:=B) (v:=v7) (n:=L7.length) (xs:=zB1 L7) (by repeat (first | with_reducible exact HOO.out | with_reducible apply World.ownsRow.drew | with_reducible apply World.ownsRow.alloc)) hgrow (by first | exact hB7 | (simp;omega) | (simp;done));have Q:Hid _:=hQ;have c52:w5.cell? ⟨b,2,none⟩=some (.slice ao M cp):=hQ.2.cell HBK.out (by decide) rfl;clear hown hgrow hat hlt hQ)
   | (go_at_call 138;refine(zCR ts HT.out (vs:=vs) (HNS.out.moves (zH9 Q.out.2.below)) (by rw[HM.out];exact Q.out.2.owns HRW.out (by decide)) Q.out.1 hB5 (by simp;omega) h200).mono ?_;rintro e w9 ⟨v9,rfl,h9⟩;have Q9:Hid _:=And.intro h9.1 (Q.out.2.trans h9.2);clear h9;have c92:w9.cell? ⟨b,2,none⟩=some (.slice ao M cp):=Q9.out.2.cell HBK.out (by decide) rfl))
 all_goals
  go_wp2
  go_ret
  refine⟨_,rfl,?_,Q9.out.2⟩
  have:=Q9.out.1
  rw[HL7.out] at this
  simpa[enc] using this
theorem byte_small {k:Nat}(h:k<256):zB1 [UInt8.ofNat k]=[.int .u8 (k:Int)]:=by
 rw[zMX]
 congr 2
 omega
set_option maxRecDepth 1000000 in
set_option maxHeartbeats 2000000 in
theorem zKB {k p:Nat}{a c:Tree}(hA:WCon B a)(hC:WCon B c)(hk:k<256){w:World}{vo va vc:Value}{l:List UInt8}{b:Nat}(hblk:w.heap[b]?=some (.cells #[.int .i64 p,.int .u8 k,va,vc] 355 (0,0)))(hca:zAO (Lt B) w a va)(hcc:zAO (Lt B) w c vc)(ho:Out8 B w vo l)(hB:B≤w.heap.size)(hl:l.length+(enc (.bin k p a c)).length≤1000000):
  Calls Tryz.prog 137 #[vo,ptr b] w fun e w'=>∃ vo',e=.returned vo'∧Out8 B w' vo' (l ++ enc (.bin k p a c))∧W8 B w w':=by
 obtain⟨tya,ba,rfl⟩:=hca.form
 obtain⟨tyc,bc,rfl⟩:=hcc.form
 obtain⟨i0,hi,hz0,hz1,hz2⟩:=info_parts Tryz.infoByte
 have c1:=zA0 (i:=1) hblk rfl
 have HBK:Hid (w.heap[b]?=some (.cells #[.int .i64 p,.int .u8 k,(.iface tya (ptr ba)),(.iface tyc (ptr bc))] 355 (0,0))):=hblk
 have HC:Hid (∀ w',W8 B w w'→zAU (Lt B) w' [a,c] [(.iface tya (ptr ba)),(.iface tyc (ptr bc))]):=fun w' hw=>by
  have hm:=zH9 hw.below
  unfold zAU
  refine⟨_,_,rfl,hca.moves hm,?_⟩
  unfold zAU
  refine⟨_,_,rfl,hcc.moves hm,?_⟩
  unfold zAU
  rfl
 have HT:Hid (∀ t∈[a,c],WCon B t):=by
  intro t ht
  simp at ht
  rcases ht with rfl | rfl
  ·exact hA
  ·exact hC
 have HO:Hid (Out8 B w vo l):=ho
 have hln:l.length+1+(if k=47 then 1 else 0)+(encs [a,c]).length≤1000000:=by
  simp only[enc,encs] at hl ⊢
  split at hl <;> simp_all <;> omega
 have HX:Hid _:=byte_small hk
 have HN:Hid (k<256):=hk
 clear ho hblk hl hca hcc hA hC hk
 by_cases h47:k=47
 ·subst h47
  simp only[if_true] at hln
  go_enter Tryz.func137,Tryz.ntmps137
  go_wp2_with (first
    | (at_builtin;refine zAA _ rfl _ _ 111 rfl B 5 i0 (.int .u8 0) 1 1 Tryz.underlying111 hi hz0 hz1 hz2 rfl (by decide) vo l.length (zB1 l) rfl (HO.out.alloc _) ⟨w.heap.size,0,none⟩ 1 1 [.int .u8 ((47:Nat):Int)] (by simp[Act.eval]) rfl (zBU rfl) (fun x hx=>by simp at hx;subst hx;rfl) (by unfold maxLen;omega) (by omega) (by simp;omega) (by decide) ?_;intro v' w5 hown hgrow hnil;have hQ:=Out8.push ((W8.refl B w).alloc hB _) (HO.out.alloc _) (by simp;omega) HX.out hown hgrow;have c50:w5.cell? ⟨b,0,none⟩=some (.int .i64 p):=hQ.2.cell HBK.out (by decide) rfl;have c51:w5.cell? ⟨b,1,none⟩=some (.int .u8 ((47:Nat):Int)):=hQ.2.cell HBK.out (by decide) rfl;have Q:Hid _:=hQ;have hB5:B≤w5.heap.size:=Nat.le_trans hB hQ.2.size;clear hown hgrow hnil hQ)
    | (go_at_call 140;refine(zDW Q.out.1 hB5 (by simp;omega) p).mono ?_;rintro e w6 ⟨v6,rfl,h6⟩;have Q6:Hid _:=And.intro h6.1 (Q.out.2.trans h6.2);have hB6:B≤w6.heap.size:=Nat.le_trans hB5 h6.2.size;clear h6;have c62:w6.cell? ⟨b,2,none⟩=some (.iface tya (ptr ba)):=Q6.out.2.cell HBK.out (by decide) rfl;have c63:w6.cell? ⟨b,3,none⟩=some (.iface tyc (ptr bc)):=Q6.out.2.cell HBK.out (by decide) rfl)
    | fail)
  go_region_held3 (fun w'=>w'.cell? ⟨b,2,none⟩=some (.iface tya (ptr ba))∧w'.cell? ⟨b,3,none⟩=some (.iface tyc (ptr bc))) (go_keep)
   (first
    | (go_at_call 138;refine(zCR [a,c] HT.out (vs:=[(.iface tya (ptr ba)),(.iface tyc (ptr bc))]) (HC.out _ (Q6.out.2.drew.alloc hB6 _)) (zHY (zBY (by simp)) (by simp) rfl rfl) (World.ownsRow.alloc (World.ownsRow.drew Q6.out.1) _) (by simp;omega) (by simp at hln ⊢;omega) (by simp)).mono ?_;rintro e w7 ⟨v7,rfl,h7⟩;have Q7:Hid _:=And.intro h7.1 ((Q6.out.2.drew.alloc hB6 _).trans h7.2);clear h7;have c72:w7.cell? ⟨b,2,none⟩=some (.iface tya (ptr ba)):=Q7.out.2.cell HBK.out (by decide) rfl;have c73:w7.cell? ⟨b,3,none⟩=some (.iface tyc (ptr bc)):=Q7.out.2.cell HBK.out (by decide) rfl))
  go_wp2
  go_ret
  refine⟨_,rfl,?_,Q7.out.2⟩
  have:=Q7.out.1
  simpa[enc,encs] using this
 ·have hb47:(((k:Nat):Int) == 47)=false:=by rw[beq_eq_false_iff_ne];omega
  have H47:Hid (¬ k=47):=h47
  simp only[if_neg h47] at hln
  clear h47
  go_enter Tryz.func137,Tryz.ntmps137
  go_wp2_with (first
    | (at_builtin;refine zAA _ rfl _ _ 111 rfl B 5 i0 (.int .u8 0) 1 1 Tryz.underlying111 hi hz0 hz1 hz2 rfl (by decide) vo l.length (zB1 l) rfl (HO.out.alloc _) ⟨w.heap.size,0,none⟩ 1 1 [.int .u8 (k:Int)] (by simp[Act.eval]) rfl (zBU rfl) (fun x hx=>by simp at hx;subst hx;rfl) (by unfold maxLen;omega) (by omega) (by simp;omega) (by decide) ?_;intro v' w5 hown hgrow hnil;have hQ:=Out8.push ((W8.refl B w).alloc hB _) (HO.out.alloc _) (by simp;omega) HX.out hown hgrow;have c51:w5.cell? ⟨b,1,none⟩=some (.int .u8 (k:Int)):=hQ.2.cell HBK.out (by decide) rfl;have c62:w5.cell? ⟨b,2,none⟩=some (.iface tya (ptr ba)):=hQ.2.cell HBK.out (by decide) rfl;have c63:w5.cell? ⟨b,3,none⟩=some (.iface tyc (ptr bc)):=hQ.2.cell HBK.out (by decide) rfl;have Q6:Hid _:=hQ;have hB6:B≤w5.heap.size:=Nat.le_trans hB hQ.2.size;clear hown hgrow hnil hQ)
    | fail)
  go_region_held3 (fun w'=>w'.cell? ⟨b,2,none⟩=some (.iface tya (ptr ba))∧w'.cell? ⟨b,3,none⟩=some (.iface tyc (ptr bc))) (go_keep)
   (first
    | (go_at_call 138;refine(zCR [a,c] HT.out (vs:=[(.iface tya (ptr ba)),(.iface tyc (ptr bc))]) (HC.out _ (Q6.out.2.drew.alloc hB6 _)) (zHY (zBY (by simp)) (by simp) rfl rfl) (World.ownsRow.alloc (World.ownsRow.drew Q6.out.1) _) (by simp;omega) (by simp at hln ⊢;omega) (by simp)).mono ?_;rintro e w7 ⟨v7,rfl,h7⟩;have Q7:Hid _:=And.intro h7.1 ((Q6.out.2.drew.alloc hB6 _).trans h7.2);clear h7;have c72:w7.cell? ⟨b,2,none⟩=some (.iface tya (ptr ba)):=Q7.out.2.cell HBK.out (by decide) rfl;have c73:w7.cell? ⟨b,3,none⟩=some (.iface tyc (ptr bc)):=Q7.out.2.cell HBK.out (by decide) rfl))
  go_wp2
  go_ret
  refine⟨_,rfl,?_,Q7.out.2⟩
  have:=Q7.out.1
  simpa[enc,encs,H47.out] using this
set_option maxRecDepth 1000000 in
theorem w_bin {k p:Nat}{a c:Tree}(hA:WCon B a)(hC:WCon B c)(hk:k<256):WCon B (.bin k p a c):=by
 intro w vo v l hn ho hB hl
 unfold zAO at hn
 obtain⟨b,va,vc,rfl,hb,hblk,hca,hcc⟩:=hn
 have hpr:=zKB hA hC hk hblk hca hcc ho hB hl
 have ta:=Tryz.isPair
 have tm0:=Tryz.notPairNumber
 have tm1:=Tryz.notPairMinus
 clear hblk hca hcc ho hl hA hC
 go_enter Tryz.func99,Tryz.ntmps99
 go_wp2_with fail
 refine hpr.mono ?_
 rintro e w6 ⟨v6,rfl,h6⟩
 have Q6:Hid _:=h6
 clear h6 hpr
 go_wp2
 go_ret
 exact⟨_,rfl,Q6.out⟩
theorem reck_lt {k:Nat}(h:zC0 k=true∨k=47):k<256:=by
 rcases h with h | h
 ·simp[zC0] at h
  omega
 ·omega
mutual
theorem zN3 : ∀ t:Tree,Fit t→WCon B t
 | .num _ _,h=>by simp only[Fit] at h;exact w_num h.1 h.2
 | .neg _ a,h=>by simp only[Fit] at h;exact w_neg (zN3 a h)
 | .bin _ _ a c,h=>by simp only[Fit] at h;exact w_bin (zN3 a h.2.2.1) (zN3 c h.2.2.2) (reck_lt h.1)
 | .ite _ a c d,h=>by simp only[Fit] at h;exact w_ite (zN3 a h.1) (zN3 c h.2.1) (zN3 d h.2.2)
 | .meas _ _ _ _,h=>by simp only[Fit] at h;exact w_meas h.2.2.1 h.2.2.2.2.2.1 h.2.2.2.2.2.2.1 h.2.2.2.2.2.2.2
 | .probe _ _ ts,h=>by simp only[Fit] at h;exact w_probe h.2.2.1 h.2.2.2.2.1 (w_alls ts h.2.2.2.2.2)
theorem w_alls : ∀ ts:List Tree,zB8 ts→∀ t∈ts,WCon B t
 | [],_=>by intro t ht;simp at ht
 | a :: ts,h=>by
  simp only[zB8] at h
  have h1:=zN3 a h.1
  have h2:=w_alls ts h.2
  intro t ht
  rcases List.mem_cons.1 ht with ht | ht
  ·rw[ht];exact h1
  ·exact h2 t ht
end
mutual
theorem zD5 : ∀ t:Tree,Fit t→(enc t).length≤600 * size t
 | .num _ _,h=>by simp[enc,be4,size]
 | .neg _ a,h=>by simp only[Fit] at h;have:=zD5 a h;simp[enc,size];omega
 | .bin k _ a c,h=>by
  simp only[Fit] at h
  have h1:=zD5 a h.2.2.1
  have h2:=zD5 c h.2.2.2
  simp only[enc,size]
  split <;> simp <;> omega
 | .ite _ a c d,h=>by
  simp only[Fit] at h
  have h1:=zD5 a h.1
  have h2:=zD5 c h.2.1
  have h3:=zD5 d h.2.2
  simp[enc,size]
  omega
 | .meas _ w m _,h=>by simp only[Fit] at h;simp[enc,zH4,be4,size];omega
 | .probe _ w ts,h=>by
  simp only[Fit] at h
  have:=zK4 ts h.2.2.2.2.2
  simp[enc,zH4,size]
  omega
theorem zK4 : ∀ ts:List Tree,zB8 ts→(encs ts).length≤600 * zCS ts
 | [],_=>by simp[encs]
 | t :: ts,h=>by
  simp only[zB8] at h
  have h1:=zD5 t h.1
  have h2:=zK4 ts h.2
  simp[encs,zCS]
  omega
end
end
structure Tk (w:World) (ob sb tb nb:Nat) (n:Int) (st:Bool) (l:List ByteArray) (tv:Value):Prop where
 ho:w.heap[ob]?=some (.cells #[.bool false] 4 (0,0))
 hs:w.heap[sb]?=some (.cells #[.bool st] 4 (0,0))
 ht:w.heap[tb]?=some (.cells #[tv] 65 (0,0))
 hn:w.heap[nb]?=some (.cells #[.int .i64 n] 3 (0,0))
 os:ob≠sb
 own:w.ownsRow 0 9 1 tv l.length (l.map Value.string)
abbrev TkP (ob sb tb:Nat)(tv:Value):Nat→Prop:=fun b=>b=ob∨b=sb∨b=tb∨tv.ownBlock=some b
theorem Tk.pushed {w w5:World}{ob sb tb nb:Nat}{n:Int}{l:List ByteArray}{tv v':Value}{x:ByteArray}{o:Obj}(h:Tk w ob sb tb nb n false l tv)(hown:w5.ownsRow 0 9 1 v' (l.length+1) (l.map Value.string ++ [.string x]))(hg:(w.alloc o).grownBy w5 tv.ownBlock)
  (hw:v'.ownBlock=tv.ownBlock∨v'.ownBlock=some (w.alloc o).heap.size):
  Tk (w5.setCell ⟨tb,0,none⟩ v') ob sb tb nb n false (l ++ [x]) v'∧Only (TkP ob sb tb tv) w (w5.setCell ⟨tb,0,none⟩ v')∧(v'.ownBlock=tv.ownBlock∨∃ g,v'.ownBlock=some g∧w.heap.size≤g)∧w5.heap[tb]?=some (.cells #[tv] 65 (0,0)):=by
 have o1:Only (fun b=>tv.ownBlock=some b) w w5:=((Only.refl _ w).alloc o).grown hg (fun b _ e=>e)
 have kb:∀ {a:Nat} {cs:Array Value} {T:Nat},w.heap[a]?=some (.cells cs T (0,0))→T≠9→w5.heap[a]?=some (.cells cs T (0,0)):=fun hh hT=>o1.heap hh (fun q=>row_ne hh h.own (fun e=>hT e.symm) q)
 have r1:=kb h.ho (by decide)
 have s1:=kb h.hs (by decide)
 have t1:=kb h.ht (by decide)
 have n1:=kb h.hn (by decide)
 have o2:Only (fun b=>b=tb) w5 (w5.setCell ⟨tb,0,none⟩ v'):=(Only.refl (fun b=>b=tb) w5).setCell (a:=⟨tb,0,none⟩) (fun _=>rfl) _
 refine⟨⟨o2.heap r1 (kind_ne r1 t1 (by decide)),o2.heap s1 (kind_ne s1 t1 (by decide)),zA4 (i:=0) (v:=v') t1,o2.heap n1 (kind_ne n1 t1 (by decide)),h.os,?_⟩,?_,?_,t1⟩
 ·have:=o2.owns hown (fun g hg e=>by subst e;exact row_ne t1 hown (by decide) hg)
  simpa using this
 ·exact(o1.mono (fun b _ q=>.inr (.inr (.inr q)))).trans o2 (fun b _ q=>.inr (.inr (.inl q)))
 ·rcases hw with q | q
  ·exact .inl q
  ·exact .inr ⟨_,q,by simp⟩
theorem row_at {w:World}{base e n cp:Nat}{ao:Option Addr}{xs:List Value}{j:Nat}{v:Value}(h:w.ownsRow base e 1 (.slice ao n cp) n xs)(hj:xs[j]?=some v):∃ g,ao=some ⟨g,0,none⟩∧w.cell? ⟨g,j,none⟩=some v:=by
 have hl:=h.1
 rcases h.2 with⟨he,h0⟩ | ⟨g,cap,cur,he,-,hg,-,-,-,ht⟩
 ·subst h0
  have:xs=[]:=List.length_eq_zero_iff.1 (by omega)
  subst this
  simp at hj
 ·injection he with he _ _
  refine⟨g,he,zA0 hg ?_⟩
  rw[←ht,List.getElem?_take] at hj
  split at hj
  ·simpa using hj
  ·cases hj
theorem Tk.only {w w':World}{ob sb tb nb:Nat}{n:Int}{st:Bool}{l:List ByteArray}{tv:Value}{P:Nat→Prop}(h:Tk w ob sb tb nb n st l tv)(ho:Only P w w')(h1:¬ P ob)(h2:¬ P sb)(h3:¬ P tb)(h5:¬ P nb)(h6:∀ g,tv.ownBlock=some g→¬ P g):Tk w' ob sb tb nb n st l tv:=
 ⟨ho.heap h.ho h1,ho.heap h.hs h2,ho.heap h.ht h3,ho.heap h.hn h5,h.os,ho.owns h.own h6⟩
theorem zJ4 {P:Program}(w:World)(d:Nat)(t:TypeId){ps rs:Array TypeId}{v:Bool}(f:Fn)(a b:Array Value)(h:P.underlying t=some (.func ps rs v)):(Op.equalIn (d+1) t (.func f a b) .nilFunc).run P w=.ok false w:=by
 simp[Op.equalIn,run_underlying h]
theorem zO7 {P:Program}(w:World)(t:TypeId){ps rs:Array TypeId}{v:Bool}(f:Fn)(a b:Array Value)(h:P.underlying t=some (.func ps rs v)):(binOp .eql t (.func f a b) .nilFunc).run P w=.ok (.bool false) w:=by
 simp only[binOp]
 simp[Op.equal,Op.maxDepth,zJ4 w 9999 t f a b h]
def Txts (w:World)(v:Value)(l:List ByteArray):Prop:=
 ∃ (ao:Option Addr) (cp:Nat),v=.slice ao l.length cp∧l.length≤cp∧∀ (j:Nat) x,l[j]?=some x→∃ g,ao=some ⟨g,0,none⟩∧w.cell? ⟨g,j,none⟩=some (.string x)
theorem Txts.of_owns {w:World}{base:Nat}{v:Value}{l:List ByteArray}(h:w.ownsRow base 9 1 v l.length (l.map Value.string)):Txts w v l:=by
 obtain⟨ao,cp,rfl⟩:=zGK h
 refine⟨ao,cp,rfl,?_,fun j x hx=>row_at h (by rw[List.getElem?_map,hx];rfl)⟩
 rcases h.2 with⟨he,h0⟩ | ⟨g,cap,cur,he,-,hg,hc,-⟩
 ·omega
 ·injection he with _ _ he;omega
theorem Txts.below {w w':World}{v:Value}{l:List ByteArray}(h:Txts w v l)(hb:Below w.heap.size w w'):Txts w' v l:=by
 obtain⟨ao,cp,h1,h2,h3⟩:=h
 refine⟨ao,cp,h1,h2,fun j x hx=>?_⟩
 obtain⟨g,h4,h5⟩:=h3 j x hx
 exact⟨g,h4,(World.cell?_of_block (hb.block g (World.block_lt_of_cell? w _ h5))).trans h5⟩
set_option maxRecDepth 1000000 in
theorem code_empty {w:World}{pb:Nat}{a:Addr}(h:w.heap[pb]?=some (.cells #[.pointer (some a)] 177 (0,0))):
  Calls Tryz.prog 66 #[.pointer (some ⟨pb,0,none⟩)] w fun e w'=>e=.returned (.bool false)∧w'=w:=by
 have c0:=zA0 (i:=0) h rfl
 clear h
 go_enter Tryz.func66,Tryz.ntmps66
 go_wp2
 go_ret
 exact⟨rfl,rfl⟩
theorem Tryz.infoStrR : (Tryz.prog.info? 9).map (fun i=>(i.zero,i.size,i.bytes))=some (some (.string { data:=#[] }),1,16):=by kernel_rfl
theorem bytes_inj {a b:ByteArray}(h:a.toList=b.toList):a=b:=by
 rw[Lib.toList_data,Lib.toList_data] at h
 exact ByteArray.ext (Array.toList_inj.1 h)
theorem take_note {ms:List ByteArray}{x:ByteArray}(h:x∈ms):zDG ms x=ms:=by
 unfold zDG
 rw[if_pos ((containsS_iff _ _).2 h)]
theorem take_new {ms:List ByteArray}{x:ByteArray}(h:x ∉ ms):zDG ms x=ms ++ [x]:=by
 unfold zDG
 rw[if_neg (fun e=>h ((containsS_iff _ _).1 e))]
set_option maxRecDepth 1000000 in
set_option maxHeartbeats 1000000 in
theorem zJ2 {w:World}{b N p:Nat}{n:Int}{word metric:ByteArray}{pv lv:Value}{ms:List ByteArray}(hb:zBL w b 109 p n word metric pv)(hN:N≤w.heap.size)
  (hown:w.ownsRow N 9 1 lv ms.length (ms.map Value.string)) (hl:ms.length≤1000):
  Calls Tryz.prog 22 #[.pointer (some ⟨b,0,none⟩),lv] w fun e w'=>∃ lv',e=.returned lv'∧w'.ownsRow N 9 1 lv' (zDG ms metric).length ((zDG ms metric).map Value.string)∧Below N w w':=by
 obtain⟨i0,hi,hz0,hz1,hz2⟩:=info_parts Tryz.infoStrR
 have c0:=zA0 (i:=0) hb rfl
 have c4:=zA0 (i:=4) hb rfl
 have HO:Hid (w.ownsRow N 9 1 lv ms.length (ms.map Value.string)):=hown
 obtain⟨ao,ln,cp,rfl⟩:=owns_slice hown
 have hln:ln=ms.length:=by
  rcases hown.2 with⟨e,h0⟩ | ⟨g,cap,cur,e,-⟩
  ·injection e;omega
  ·injection e
 subst hln
 have hcell:∀ k,k<ms.length→∃ g,ao=some ⟨g,0,none⟩∧w.cell? ⟨g,k,none⟩=some (.string (ms.getD k ByteArray.empty)):=by
  intro k hk
  rcases hown.2 with⟨e,h0⟩ | ⟨g,cap,cur,e,-⟩
  ·omega
  ·injection e with e1 e2 e3
   refine⟨g,e1,?_⟩
   have:=hown.cells (g:=g) (by rw[e1];rfl) k (.string (ms.getD k ByteArray.empty)) (by simp[List.getD_eq_getElem?_getD,List.getElem?_eq_getElem hk])
   have ha:(⟨g,0,none⟩:Addr).add k=⟨g,k,none⟩:=by
    simp only[Addr.add]
    split
    ·rename_i h0;subst h0;rfl
    ·simp
   rw[ha] at this
   exact this
 have HC:Hid _:=hcell
 clear hcell hown hb
 go_enter Tryz.func22,Tryz.ntmps22
 go_wp2_with fail
 go_loopw [5] (fun i wr=>∃ k q:Nat,k≤ms.length∧i=.int .i64 k∧wr=w.drewN q∧Hid (∀ j,j<k→ms.getD j ByteArray.empty≠metric)) (fun i _=>ms.length - (intOf i).toNat)
 case atStart=>exact⟨0,0,Nat.zero_le _,rfl,rfl,fun j hj=>absurd hj (Nat.not_lt_zero _)⟩
 case round=>
  obtain⟨k,q,hk,rfl,rfl,HN⟩:=hrel
  rcases Nat.lt_or_ge k ms.length with hkl | hkl
  ·obtain⟨g,rfl,hck⟩:=HC.out k hkl
   have hkz:(k:Int)<(ms.length:Int):=by omega
   have hmem:ms.getD k ByteArray.empty∈ms:=by
    rw[List.getD_eq_getElem?_getD,List.getElem?_eq_getElem hkl]
    exact List.getElem_mem hkl
   have HM:Hid (ms.getD k ByteArray.empty∈ms):=hmem
   by_cases hY:ms.getD k ByteArray.empty=metric
   ·rw[hY] at hck HM
    clear hY hmem
    go_wp2_with fail
    go_quiet (fail)
    go_wp2
    go_ret
    refine⟨_,rfl,?_,?_⟩
    ·rw[take_note HM.out]
     exact HO.out.kept (row:=none) ⟨rfl,rfl,rfl,Nat.le_refl _,fun _ _ _=>rfl⟩ (Classical.em _)
    ·exact⟨rfl,rfl,rfl,Nat.le_refl _,fun _ _=>rfl⟩
   ·have HY:Hid (ms.getD k ByteArray.empty≠metric):=hY
    have hbq:((ms.getD k ByteArray.empty).toList == metric.toList)=false:=by rw[beq_eq_false_iff_ne];exact fun e=>hY (bytes_inj e)
    obtain⟨Y,hYe⟩:∃ Y,Y=ms.getD k ByteArray.empty:=⟨_,rfl⟩
    rw[←hYe] at hck hY hbq
    clear hYe hmem
    go_wp2_with fail
    go_quiet (fail)
    go_wp2
    go_roundw
    case rel=>
     refine⟨k+1,_,hkl,?_,rfl,fun j hj=>?_⟩
     ·go_num
     ·rcases Nat.lt_or_ge j k with h | h
      ·exact HN.out j h
      ·obtain rfl:j=k:=by omega
       exact HY.out
    case measure=>simp[intOf];omega
  ·have hkz:¬ (k:Int)<(ms.length:Int):=by omega
   have hnew:metric ∉ ms:=by
    intro hm
    obtain⟨j,hj,e⟩:=List.getElem_of_mem hm
    refine HN.out j (by omega) ?_
    rw[List.getD_eq_getElem?_getD,List.getElem?_eq_getElem hj]
    exact e
   have HW:Hid (metric ∉ ms):=hnew
   clear hnew HC
   go_wp2_with (first | (at_builtin; refine zAA _ rfl _ _ 65 rfl N 9 i0 (.string { data := #[] }) 1 16 Tryz.underlying65 hi hz0 hz1 hz2 rfl (by decide) (.slice ao ms.length cp) ms.length (ms.map Value.string) rfl (((HO.out.kept (w' := w.drewN q) (row := none) ⟨rfl, rfl, rfl, Nat.le_refl _, fun _ _ _ => rfl⟩ (Classical.em _))).alloc _) ⟨w.heap.size, 0, none⟩ 1 1 [.string metric] rfl rfl (zDR _ _ _) (fun x hx => by simp at hx; subst hx; rfl) (by unfold maxLen; omega) (by omega) (by simp; omega) (by decide) ?_; intro v' w5 hown hgrow hnil
                         have HG:Hid _:=hgrow
                         have HV:Hid (w5.ownsRow N 9 1 v' (ms.length+1) (ms.map Value.string ++ [.string metric])):=hown
                         obtain⟨ao2,ln2,cp2,rfl⟩:=owns_slice hown
                         clear hgrow hown hnil))
   go_ret
   refine⟨_,rfl,?_,?_⟩
   ·rw[take_new HW.out]
    simpa using HV.out
   ·refine⟨HG.out.os,HG.out.tape,HG.out.output,by have:=HG.out.size;simp at this;omega,fun k hk=>?_⟩
    exact(HG.out.block k (by simp;omega) (fun e=>by have:=(HO.out.lt _ e.symm).1;omega)).trans (Below.heap_alloc _ _ _ (by simp;omega))
end Go.Proofs.YtbokdbaagacnlaaGreatDoor
