import Derived.Test.YtbokdbaagacnlaaGreatDoorJQ9
import Derived.Lib.OthersKept
import Derived.WalkSmall
namespace Go.Proofs.YtbokdbaagacnlaaGreatDoor
open Go.RowKit Go.Lib
section
variable {s:ByteArray} {R:Nat}
set_option maxRecDepth 1000000 in
theorem zI8 {w:World}{I:Nat}{ms:List ByteArray}(h:CStM s R w I ms):
  Calls Tryz.prog 123 #[.pointer (some ⟨R,0,none⟩)] w fun e w'=>e=.returned (.agg #[.int .i64 (pl (toks s) I)])∧Below w.heap.size w w':=by
 obtain⟨txt,mv,h1,-⟩:=h.blk
 have lR:=zA2 h1
 have c3:=zA0 (i:=3) h1 rfl
 clear h1 h
 go_enter Tryz.func123,Tryz.ntmps123
 go_wp2
 refine bodyPost_ret (v:=.agg #[.int .i64 (pl (toks s) I)]) (by simp[results,Tryz.results123,go_sem]) rfl ⟨rfl,?_⟩
 exact(Below.refl _ _).alloc (Nat.le_refl _) _
set_option maxRecDepth 1000000 in
theorem zI7 {w:World}{I:Nat}{ms:List ByteArray}(h:CStM s R w I ms):
  Calls Tryz.prog 97 #[.pointer (some ⟨R,0,none⟩)] w fun e w'=>∃ b,e=.returned (.iface 151 (.pointer (some ⟨b,0,none⟩)))∧Below w.heap.size w w'∧w'.heap[b]?=some (.cells #[.int .i64 (pl (toks s) I)] 155 (0,0)):=by
 have hpl:=zI8 h
 clear h
 go_enter Tryz.func97,Tryz.ntmps97
 go_wp2_with fail
 refine hpl.mono ?_
 rintro e w1 ⟨rfl,hb⟩
 have HB:Hid (Below w.heap.size w w1):=hb
 clear hpl hb
 go_wp2
 go_ret
 exact⟨_,rfl,HB.out.alloc HB.out.size _,heap_alloc_new _ _⟩
end
theorem zO0 (c:UInt8):∀ cs:List UInt8,decide (0≤Lib.indexByte cs c)=cs.any (fun d=>d.toNat == c.toNat)
 | []=>by simp[Lib.indexByte]
 | d :: cs=>by
  have ih:=zO0 c cs
  by_cases h:d=c
  ·subst h
   simp[Lib.indexByte]
  ·have h':(d.toNat == c.toNat)=false:=by simp[UInt8.toNat_inj,h]
   rw[List.any_cons,h',Bool.false_or,←ih]
   have hge:=Lib.indexByte_ge cs c
   have hbe:(d == c)=false:=by simpa using h
   simp only[Lib.indexByte,hbe,Bool.false_eq_true,if_false]
   by_cases hm:Lib.indexByte cs c = -1
   ·simp[hm]
   ·rw[if_neg (by simpa using hm),Bool.eq_iff_iff,decide_eq_true_iff,decide_eq_true_iff]
    omega
theorem zNX {t:Tok}(h:zAB t=1):t.kind≠33∧t.kind≠101:=by
 refine⟨fun e=>?_,fun e=>?_⟩ <;> (unfold zAB at h;simp[e] at h)
theorem zOS {t:Tok}(h:zAB t≠1)(cs:List UInt8)(hcs:cs.all zD4=true):cs.any (fun d=>d.toNat == t.kind)=false:=by
 rw[List.any_eq_false]
 intro d hd
 have hs:=List.all_eq_true.1 hcs d hd
 rw[zE8] at hs
 simp only[Bool.or_eq_true,beq_iff_eq] at hs
 unfold zAB at h
 simp only[beq_iff_eq]
 intro e
 apply h
 rw[if_neg (by omega),if_neg (by omega),if_neg (by omega),if_neg (by omega)]
section
variable {s:ByteArray} {R:Nat}
def zBN (s:ByteArray)(I:Nat)(cs:List UInt8):Bool:=cs.any (fun d=>d.toNat == kd (toks s) I)
set_option maxRecDepth 1000000 in
theorem zDQ {w:World}{I:Nat}{ms:List ByteArray}(h:CStM s R w I ms)(cs:List UInt8)(hcs:cs.all zD4=true):
  Calls Tryz.prog 120 #[.pointer (some ⟨R,0,none⟩),.string ⟨cs.toArray⟩] w fun e w'=>e=.returned (.bool (zBN s I cs))∧w'=w:=by
 obtain⟨txt,mv,h1,h2,-⟩:=h.blk
 have c1:=zA0 (i:=1) h1 rfl
 have c2:=zA0 (i:=2) h1 rfl
 have hI:=h.lt
 unfold zBN kd
 by_cases hk:zAB ((toks s).getD I default)=1
 ·obtain⟨c,q1,q2,q3⟩:=zN8 s hI hk
  have htx:txt=⟨#[c]⟩:=by rw[h2 (zNX hk).1,q3]
  have hcon:=Tryz.strings_Contains_one ⟨cs.toArray⟩ c w
  have e1:(⟨cs.toArray⟩:ByteArray).data.toList=cs:=rfl
  have q2':((toks s).getD I default).kind=c.toNat:=q2
  rw[e1,zO0] at hcon
  rw[q2']
  rw[hk] at c1
  subst htx
  generalize cs.any (fun d=>d.toNat == c.toNat)=B at hcon ⊢
  clear h1 h2 h q2 q3 q2' hk hcs
  go_enter Tryz.func120,Tryz.ntmps120
  go_wp2_with (first | (go_at_call 167;refine hcon.mono ?_;rintro e w' ⟨rfl,hw⟩;have hw:=hw.symm;subst hw))
  go_ret
  exact⟨by cases B <;> rfl,rfl⟩
 ·rw[zOS hk cs hcs]
  obtain⟨K,hK⟩:∃ K,zAB ((toks s).getD I default)=K:=⟨_,rfl⟩
  rw[hK] at c1 hk
  have hk':((K:Int) == 1)=false:=beq_eq_false_iff_ne.2 (by omega)
  clear h1 h2 h hk hcs hK
  go_enter Tryz.func120,Tryz.ntmps120
  go_wp2
  go_ret
  exact⟨rfl,rfl⟩
theorem zDE {I:Nat}{cs:List UInt8}(hcs:cs.all zD4=true)(h:zBN s I cs=true):((toks s).getD I default).last=false:=by
 unfold zBN at h
 obtain⟨d,hd,e⟩:=List.any_eq_true.1 h
 have hs:=List.all_eq_true.1 hcs d hd
 have e':d.toNat=((toks s).getD I default).kind:=by simpa[kd] using e
 have:=zNF (p:=0) (q:=0) hs
 rw[e'] at this
 exact this
set_option maxRecDepth 1000000 in
theorem zCJ {w:World}{I:Nat}{ms:List ByteArray}(h:CStM s R w I ms)(cs:List UInt8)(hcs:cs.all zD4=true):
  Calls Tryz.prog 122 #[.pointer (some ⟨R,0,none⟩),.string ⟨cs.toArray⟩] w fun e w'=>KC R w w' ∧
   ((zBN s I cs=true∧e=.returned .nilIface∧CStM s R w' (I+1) ms)∨(zBN s I cs=false∧∃ b,e=.returned (.iface 151 (.pointer (some ⟨b,0,none⟩)))∧w'.heap[b]?=some (.cells #[.int .i64 (pl (toks s) I)] 155 (0,0)))):=by
 have hse:=zDQ h cs hcs
 have hlR:R<w.heap.size:=by obtain⟨a,b,c,-⟩:=h.blk;exact zA2 c
 cases hb:zBN s I cs with
 | true=>
  have hst:=zD8 h (zDE hcs hb)
  rw[hb] at hse
  clear h hb
  go_enter Tryz.func122,Tryz.ntmps122
  go_wp2_with fail
  refine hse.mono ?_
  rintro e w' ⟨rfl,hw⟩
  have hw:=hw.symm
  subst hw
  go_wp2_with fail
  refine hst.mono ?_
  rintro e w1 ⟨rfl,hs1,hb1⟩
  have HS1:Hid (CStM s R w1 (I+1) ms):=hs1
  have HB1:Hid (KC R w w1):=hb1
  clear hs1 hb1
  go_wp2
  go_ret
  exact⟨HB1.out,.inl ⟨trivial,rfl,HS1.out⟩⟩
 | false=>
  have hsk:=zI7 h
  rw[hb] at hse
  clear h hb
  go_enter Tryz.func122,Tryz.ntmps122
  go_wp2_with fail
  refine hse.mono ?_
  rintro e w' ⟨rfl,hw⟩
  have hw:=hw.symm
  subst hw
  go_wp2_with fail
  refine hsk.mono ?_
  rintro e w1 ⟨b1,rfl,hbl,hbk⟩
  have HQ:Hid _:=And.intro hbl hbk
  clear hbl hbk hsk
  go_wp2
  go_ret
  exact⟨KC.of_below HQ.out.1 hlR,.inr ⟨trivial,_,rfl,HQ.out.2⟩⟩
set_option maxRecDepth 1000000 in
theorem zOF {w:World}{I:Nat}{ms:List ByteArray}(h:CStM s R w I ms)(k:Nat)(hk:k=2∨k=3):
  Calls Tryz.prog 250 #[.pointer (some ⟨R,0,none⟩),.int .i64 k] w fun e w'=>KC R w w' ∧
   ((zAB ((toks s).getD I default)=k∧e=.returned (.tuple #[.string (tx s (toks s) I),.nilIface])∧CStM s R w' (I+1) ms)∨(zAB ((toks s).getD I default)≠k∧∃ b,e=.returned (.tuple #[.string { data:=#[] },.iface 151 (.pointer (some ⟨b,0,none⟩))])∧w'.heap[b]?=some (.cells #[.int .i64 (pl (toks s) I)] 155 (0,0)))):=by
 obtain⟨txt,mv,h1,h2,-⟩:=h.blk
 have c1:=zA0 (i:=1) h1 rfl
 have c2:=zA0 (i:=2) h1 rfl
 have hlR:R<w.heap.size:=zA2 h1
 by_cases hb:zAB ((toks s).getD I default)=k
 ·have hl:((toks s).getD I default).last=false:=by
   unfold zAB at hb
   simp only[Tok.last,Bool.or_eq_false_iff,beq_eq_false_iff_ne]
   constructor
   ·intro e;rw[if_pos e] at hb;omega
   ·intro e
    rw[if_neg (by omega),if_neg (by omega),if_neg (by omega),if_pos e] at hb
    omega
  have h33:kd (toks s) I≠33:=by
   intro e
   have e':((toks s).getD I default).kind=33:=e
   simp[Tok.last] at hl
   rw[List.getD_eq_getElem?_getD] at e'
   exact hl.2 e'
  have hst:=zD8 h hl
  have htx:=h2 h33
  subst htx
  rw[hb] at c1
  have hne:((k:Int) != (k:Int))=false:=by simp
  have HBK:Hid (zAB ((toks s).getD I default)=k):=hb
  clear h hb h1 h2 hl h33
  go_enter Tryz.func250,Tryz.ntmps250
  go_wp2_with fail
  refine hst.mono ?_
  rintro e w1 ⟨rfl,hs1,hb1⟩
  have HS1:Hid (CStM s R w1 (I+1) ms):=hs1
  have HB1:Hid (KC R w w1):=hb1
  clear hs1 hb1
  go_wp2
  go_ret2
  exact⟨HB1.out,.inl ⟨HBK.out,rfl,HS1.out⟩⟩
 ·have hsk:=zI7 h
  obtain⟨K,hK⟩:∃ K,zAB ((toks s).getD I default)=K:=⟨_,rfl⟩
  rw[hK] at c1
  have hne:((K:Int) != (k:Int))=true:=bne_iff_ne.2 (by omega)
  have HBK:Hid (zAB ((toks s).getD I default)≠k):=hb
  clear h hb h1 h2 hK
  go_enter Tryz.func250,Tryz.ntmps250
  go_wp2_with fail
  refine hsk.mono ?_
  rintro e w1 ⟨b1,rfl,hbl,hbk⟩
  have HQ:Hid _:=And.intro hbl hbk
  clear hbl hbk hsk
  go_wp2
  go_ret2
  exact⟨KC.of_below HQ.out.1 hlR,.inr ⟨HBK.out,_,rfl,HQ.out.2⟩⟩
set_option maxRecDepth 1000000 in
theorem zH0 (b:ByteArray)(w:World):Calls Tryz.prog 178 #[.string b] w fun e w'=>e=.returned (.bool (isMeasure b))∧w'=w:=by
 go_enter Tryz.func178,Tryz.ntmps178
 go_wp2
 all_goals (go_ret;exact⟨by first | (rw[zEZ];simp[*];done) | (rw[zEZ];simp_all;done),rfl⟩)
end
theorem zQN {k p:Nat}{a b:Tree}:mets (.bin k p a b)=mets a ++ mets b:=by simp[mets]
theorem mets_ite {p:Nat}{a b c:Tree}:mets (.ite p a b c)=mets a ++ mets b ++ mets c:=by simp[mets]
theorem mets_num {p:Nat}{n:Int}:mets (.num p n)=[]:=by simp[mets]
theorem mets_neg {p:Nat}{a:Tree}:mets (.neg p a)=mets a:=by simp[mets]
theorem mets_meas {p:Nat}{a b:ByteArray}{n:Int}:mets (.meas p a b n)=[b]:=by simp[mets]
theorem zL8 {p:Nat}{a:ByteArray}{ts:List Tree}:mets (.probe p a ts)=zAL ts:=by simp[mets]
section
variable {s:ByteArray} {R:Nat}
theorem CStM.nmoves {w w':World}{I:Nat}{ms:List ByteArray}(h:CStM s R w I ms)(hk:KC R w w'){P:Nat→Prop}:zDA P P w w':=by
 intro b hP cs T hb hT
 obtain⟨txt,mv,h1,h2,h3⟩:=h.blk
 refine⟨hP,hk.block b (zA2 hb) (fun e=>?_) (fun e=>?_)⟩
 ·subst e
  rw[h1] at hb
  injection hb with hb
  injection hb with _ hb
  subst hb
  revert hT
  decide
 ·rw[zG0 h1] at e
  obtain⟨c,fz,q⟩:=ownsRow_kind h3 b e
  rw[hb] at q
  injection q with q
  injection q with _ q
  subst q
  revert hT
  decide
theorem zAO.kept {w w':World}{I:Nat}{ms:List ByteArray}{P:Nat→Prop}{t:Tree}{v:Value}(hn:zAO P w t v)(h:CStM s R w I ms)(hk:KC R w w'):zAO P w' t v:=hn.moves (h.nmoves hk)
abbrev AtIs (p b:Nat)(w:World):Prop:=w.heap[b]?=some (.cells #[.int .i64 (p:Int)] 153 (0,0))
theorem CStM.at_kept {w w':World}{I:Nat}{ms:List ByteArray}(h:CStM s R w I ms)(hk:KC R w w'){p b:Nat}(ha:AtIs p b w):AtIs p b w':=((h.nmoves hk (P:=fun _=>True)) b trivial _ _ ha (by decide)).2.trans ha
end
section
variable (s:ByteArray) (R:Nat)
def zDB (ms:List ByteArray)(lo:Nat)(w:World)(o:Out)(e:Ending):Prop:=
 match o with
 | .ok ts J=>∃ t ty pa,ts=[t]∧e=.returned (.tuple #[.iface ty (.pointer pa),.nilIface])∧zAO (Hi lo) w t (.iface ty (.pointer pa))∧CStM s R w J (zAT ms (mets t))
 | .bad J=>∃ b,e=.returned (.tuple #[.nilIface,.iface 151 (.pointer (some ⟨b,0,none⟩))])∧w.heap[b]?=some (.cells #[.int .i64 (pl (toks s) J)] 155 (0,0))
def CCon (f:Nat)(v:Lvl)(N:Nat):Prop:=
 ∀ (w:World) (I:Nat) (ms:List ByteArray),(toks s).length - I≤N→CStM s R w I ms →
  Calls Tryz.prog f #[.pointer (some ⟨R,0,none⟩)] w fun e w'=>∃ o,D s (toks s) v I o∧KC R w w'∧zDB s R ms w.heap.size w' o e
end
section
variable {s:ByteArray} {R:Nat}
theorem sees_text {w:World}{I:Nat}{ms:List ByteArray}(h:CStM s R w I ms){cs:List UInt8}(hcs:cs.all zD4=true)(hb:zBN s I cs=true):∃ c:UInt8,w.cell? ⟨R,2,none⟩=some (.string ⟨#[c]⟩)∧kd (toks s) I=c.toNat:=by
 obtain⟨txt,mv,h1,h2,-⟩:=h.blk
 have hk:zAB ((toks s).getD I default)=1:=by
  by_cases hk:zAB ((toks s).getD I default)=1
  ·exact hk
  ·have:=zOS hk cs hcs
   unfold zBN kd at hb
   rw[this] at hb
   cases hb
 obtain⟨c,q1,q2,q3⟩:=zN8 s h.lt hk
 refine⟨c,?_,q2⟩
 rw[←q3,←h2 (zNX hk).1]
 exact zA0 h1 rfl
set_option maxRecDepth 1000000 in
theorem zOG (g:Nat)(eg:∀ args W,(callFunc g args).run Tryz.prog W=.ok (.enter g args) W){vp:Lvl}{N:Nat}(hp:CCon s R g vp N){w:World}{I:Nat}{ms:List ByteArray}(hN:(toks s).length - (I+1)≤N)(h:CStM s R w I ms){cs:List UInt8}(hcs:cs.all zD4=true)(hb:zBN s I cs=true)(ty:Nat)(pa:Option Addr)(tl:Tree){lo:Nat}(hlo:lo≤w.heap.size)(hl:zAO (Hi lo) w tl (.iface ty (.pointer pa))):
  Calls Tryz.prog 166 #[.pointer (some ⟨R,0,none⟩),.iface ty (.pointer pa),.func (.func g) #[.pointer (some ⟨R,0,none⟩)] #[]] w fun e w'=>∃ o,D s (toks s) vp (I+1) o∧KC R w w'∧(match o with
   | .ok ts J=>∃ t ty pa,ts=[t]∧e=.returned (.tuple #[.iface ty (.pointer pa),.nilIface])∧zAO (Hi lo) w' (.bin (kd (toks s) I) (pl (toks s) I) tl t) (.iface ty (.pointer pa))∧CStM s R w' J (zAT ms (mets t))
   | .bad J=>zDB s R ms lo w' (.bad J) e):=by
 obtain⟨c,c2,hkc⟩:=sees_text h hcs hb
 have HL:Hid (∀ w',KC R w w'→zAO (Hi lo) w' tl (.iface ty (.pointer pa))):=fun w' hk=>hl.moves (h.nmoves hk)
 have HKC:Hid (kd (toks s) I=c.toNat):=hkc
 clear hl hkc
 have H0:Hid (CStM s R w I ms):=h
 have HSB:Hid (((toks s).getD I default).last=false):=zDE hcs hb
 have LR:Hid (R<w.heap.size):=by obtain⟨a,b,c,-⟩:=h.blk;exact zA2 c
 have HP:Hid (CCon s R g vp N):=hp
 have hne1:¬ w.heap.size=R:=by have:=LR.out;omega
 have hne2:¬ R=w.heap.size:=by have:=LR.out;omega
 clear h hp
 go_enter Tryz.func166,Tryz.ntmps166
 go_wp2_with fail
 refine Code.wp_mono (Q:=Exit.then (fun a w'=>∃ b8:Nat,a={ tmps:=#[.pointer (some ⟨R,0,none⟩),.iface ty (.pointer pa),.func (.func g) #[.pointer (some ⟨R,0,none⟩)] #[],undef,undef,undef,.nilIface,.nilIface,.pointer (some ⟨b8,0,none⟩),.int .u8 c.toNat,undef,undef,.pointer (some ⟨R,0,none⟩),.agg #[.int .i64 (pl (toks s) I)],.pointer (some ⟨R,0,none⟩),.pointer (some ⟨R,0,none⟩),.pointer (some ⟨R,1,none⟩),.pointer (some ⟨R,2,none⟩),.string ⟨#[c]⟩,.int .u8 c.toNat,undef,undef,undef,undef,undef,undef,undef,undef,undef,undef,undef,undef,undef,undef,undef,undef,undef],defers:=[] }∧Hid (CStM s R w' I ms∧KC R w w'∧AtIs (pl (toks s) I) b8 w')) (fun _ _ _=>False)) ?imp ?reg
 case reg=>
  go_region_held3 (fun w'=>w'.cell? ⟨R,2,none⟩=some (.string ⟨#[c]⟩)) (go_keep)
   (first
    | (go_at_call 123;refine(zI8 (s:=s) (I:=I) (ms:=ms) (H0.out.later (by repeat (first | exact Below.refl _ _ | apply Below.drew | refine Below.alloc ?_ (Nat.le_refl _) _)))).mono ?_;rintro e w0 ⟨rfl,hb0⟩;have c20:w0.cell? ⟨R,2,none⟩=some (.string ⟨#[c]⟩):=cell_below hb0 (by assumption);have HX0:Hid _:=hb0;(first | (have b0:w0.heap[w.heap.size]?=some (.cells #[.int .i64 0] 153 (0,0)):=(hb0.block _ (by simp)).trans (heap_alloc_new w _);have q0:=zA0 (i:=0) b0 rfl;have z0:=zA1 (i:=0) b0;have HB0:Hid _:=b0;clear b0) | skip);clear hb0))
  all_goals first
   | exact⟨w0.heap.size,rfl,(H0.out.later (HX0.out.mono (Nat.le_refl _) |> fun q=>((Below.refl w.heap.size w).drew.trans q).alloc (Nat.le_trans (Nat.le_refl _) q.size) _)),KC.of_below (((Below.refl w.heap.size w).drew.trans HX0.out).alloc HX0.out.size _) LR.out,heap_alloc_new _ _⟩
   | exact⟨w.heap.size,rfl,H0.out.later ((((Below.refl w.heap.size w).alloc (Nat.le_refl _) _).drew.trans (HX0.out.mono (by simp))).setCell (p:=⟨w.heap.size,0,none⟩) (Nat.le_refl _) _),KC.of_below ((((Below.refl w.heap.size w).alloc (Nat.le_refl _) _).drew.trans (HX0.out.mono (by simp))).setCell (p:=⟨w.heap.size,0,none⟩) (Nat.le_refl _) _) LR.out,zA4 (i:=0) HB0.out⟩
 case imp=>
  clear c2
  intro e a w0 hq
  cases e with
  | normal=>?_
  | _=>exact hq.elim
  obtain⟨b8,rfl,HW⟩:=hq
  have hst:=zD8 HW.out.1 HSB.out
  have AK:Hid (∀ w',KC R w0 w'→AtIs (pl (toks s) I) b8 w'):=fun w' hk=>HW.out.1.at_kept hk HW.out.2.2
  go_wp2_with fail
  refine hst.mono ?_
  rintro e w1 ⟨rfl,hs1,hb1⟩
  have AT1:Hid _:=AK.out _ hb1
  have AK1:Hid (∀ w',KC R w1 w'→AtIs (pl (toks s) I) b8 w'):=fun w' hk=>hs1.at_kept hk AT1.out
  have hb1:=HW.out.2.1.trans hb1
  have hpc:=HP.out w1 (I+1) ms hN hs1
  have lR1:R<w1.heap.size:=by obtain⟨a,b,c,-⟩:=hs1.blk;exact zA2 c
  have HB1:Hid (KC R w w1):=hb1
  clear hs1 hb1 hst AK AT1 HW
  go_wp2_with fail
  refine hpc.mono ?_
  rintro e w2 ⟨o,hD,hb2,ha⟩
  have cA:w2.cell? ⟨b8,0,none⟩=some (.int .i64 (pl (toks s) I)):=zA0 (AK1.out _ hb2) rfl
  have HD:Hid (D s (toks s) vp (I+1) o):=hD
  have HB2:Hid (KC R w w2):=HB1.out.trans hb2
  have hs2:=hb2.size
  clear hD hb2 hpc
  cases o with
  | ok ts J=>
   obtain⟨t,ty2,pa2,rfl,rfl,hn,hs⟩:=ha
   have HS:Hid (CStM s R w2 J (zAT ms (mets t))):=hs
   have HN:Hid (zAO (Hi lo) w2 t (.iface ty2 (.pointer pa2))):=hn.up (Nat.le_trans hlo HB1.out.size)
   clear hs hn
   go_wp2
   go_ret2
   have bl:=(Below.refl w2.heap.size w2).alloc (Nat.le_refl _)
   refine⟨.ok [t] J,HD.out,HB2.out.alloc (by omega) _,t,_,_,rfl,rfl,?_,HS.out.later (bl _)⟩
   unfold zAO
   refine⟨_,_,_,rfl,Nat.le_trans hlo HB2.out.size,?_,(HL.out w2 HB2.out).below (bl _),HN.out.below (bl _)⟩
   rw[HKC.out]
   exact heap_alloc_new _ _
  | bad J=>
   obtain⟨b,rfl,hbk⟩:=ha
   have HBK:Hid (w2.heap[b]?=some (.cells #[.int .i64 (pl (toks s) J)] 155 (0,0))):=hbk
   clear hbk
   go_wp2
   go_ret2
   exact⟨.bad J,HD.out,HB2.out,b,rfl,HBK.out⟩
def cLeft (w:World)(R n:Nat):Nat:=
 match w.heap[R]? with
 | some (.cells cs _ _)=>
  match (cs[3]? : Option Value) with
  | some (Value.int _ i)=>n+1 - i.toNat
  | _=>0
 | _=>0
theorem zJE {w:World}{I n:Nat}{ms:List ByteArray}(h:CStM s R w I ms):cLeft w R n=n+1 - pl (toks s) I:=by
 obtain⟨txt,mv,h1,-⟩:=h.blk
 unfold cLeft
 rw[h1]
 simp
def zPT (v:Value)(n:Nat):Nat:=match v with | .nilIface=>n | _=>0
theorem pl_le (s:ByteArray){I:Nat}(hI:I<(toks s).length):pl (toks s) I≤s.size:=by
 have:=zG6 s (fun t=>t.pos≤s.size) (fun i hi=>by unfold zAX;(repeat' split) <;> first | exact hi | exact Nat.le_refl _) s.size 0 (by omega) (by omega) ((toks s).getD I default) (by
  rw[List.getD_eq_getElem?_getD,List.getElem?_eq_getElem hI]
  exact List.getElem_mem hI)
 exact this
set_option maxRecDepth 1000000 in
set_option maxHeartbeats 1000000 in
theorem zLN (g:Nat)(eg:∀ args W,(callFunc g args).run Tryz.prog W=.ok (.enter g args) W){vp v:Lvl}{vT:Tree→Lvl}{N:Nat}(hp:CCon s R g vp N){cs:List UInt8}(hcs:cs.all zD4=true)
  (dBad:∀ I J,D s (toks s) vp I (.bad J)→D s (toks s) v I (.bad J)) (dGo:∀ I J a o,D s (toks s) vp I (.ok [a] J)→D s (toks s) (vT a) J o→D s (toks s) v I o)
  (tEnd:∀ a J,zBN s J cs=false→D s (toks s) (vT a) J (.ok [a] J)) (tBad:∀ a J K,zBN s J cs=true→D s (toks s) vp (J+1) (.bad K)→D s (toks s) (vT a) J (.bad K))
  (tGo:∀ a J b K o,zBN s J cs=true→D s (toks s) vp (J+1) (.ok [b] K)→D s (toks s) (vT (.bin (kd (toks s) J) (pl (toks s) J) a b)) K o→D s (toks s) (vT a) J o) (htl:vp.tail=false)
  {w:World} {I:Nat} {ms:List ByteArray} (hN:(toks s).length - I≤N) (h:CStM s R w I ms):
  Calls Tryz.prog 204 #[.pointer (some ⟨R,0,none⟩),.string ⟨cs.toArray⟩,.func (.func g) #[.pointer (some ⟨R,0,none⟩)] #[]] w fun e w'=>∃ o,D s (toks s) v I o∧KC R w w'∧zDB s R ms w.heap.size w' o e:=by
 have hpc:=hp w I ms hN h
 have HP:Hid (CCon s R g vp N):=hp
 have HG:Hid (∀ I J a o,D s (toks s) vp I (.ok [a] J)→D s (toks s) (vT a) J o→D s (toks s) v I o):=dGo
 have HE:Hid (∀ a J,zBN s J cs=false→D s (toks s) (vT a) J (.ok [a] J)):=tEnd
 have HTB:Hid (∀ a J K,zBN s J cs=true→D s (toks s) vp (J+1) (.bad K)→D s (toks s) (vT a) J (.bad K)):=tBad
 have HTG:Hid (∀ a J b K o,zBN s J cs=true→D s (toks s) vp (J+1) (.ok [b] K)→D s (toks s) (vT (.bin (kd (toks s) J) (pl (toks s) J) a b)) K o→D s (toks s) (vT a) J o):=tGo
 have HDB:Hid (∀ I J,D s (toks s) vp I (.bad J)→D s (toks s) v I (.bad J)):=dBad
 clear h hp dBad dGo tEnd tBad tGo
 go_enter Tryz.func204,Tryz.ntmps204
 go_wp2_with fail
 refine hpc.mono ?_
 rintro e w1 ⟨o,hD,hb1,ha⟩
 clear hpc
 cases o with
 | bad J=>
  obtain⟨b,rfl,hbk⟩:=ha
  have HBK:Hid (w1.heap[b]?=some (.cells #[.int .i64 (pl (toks s) J)] 155 (0,0))):=hbk
  have HD:Hid (D s (toks s) v I (.bad J)):=HDB.out _ _ hD
  have HB1:Hid (KC R w w1):=hb1
  clear hbk hD hb1
  go_wp2_with fail
  refine wp_loop_rounds 1 ?_
  rw[rounds_succ]
  go_wp2
  go_ret2
  exact⟨.bad J,HD.out,HB1.out,b,rfl,HBK.out⟩
 | ok ts J=>
  obtain⟨t,ty,pa,rfl,rfl,hn,hs⟩:=ha
  have HS:Hid (CStM s R w1 J (zAT ms (mets t))):=hs
  have HN:Hid (zAO (Hi w.heap.size) w1 t (.iface ty (.pointer pa))):=hn
  have HB1:Hid (KC R w w1):=hb1
  have HC:Hid (∀ o,D s (toks s) (vT t) J o→D s (toks s) v I o):=fun o ho=>HG.out _ _ _ _ hD ho
  have hIJ:I<J:=zDT hD htl
  clear hs hb1 hD hn
  go_wp2_with fail
  go_loopw [8,9] (fun v8 v9 wr=>Hid (KC R w wr)∧((∃ (J:Nat) (t:Tree) (ty:Nat) (pa:Option Addr),v8=.iface ty (.pointer pa)∧v9=.nilIface∧Hid (CStM s R wr J (zAT ms (mets t))∧zAO (Hi w.heap.size) wr t (.iface ty (.pointer pa)))∧I<J∧Hid (∀ o,D s (toks s) (vT t) J o→D s (toks s) v I o)) ∨
    (∃ (J b:Nat),v8=.nilIface∧v9=.iface 151 (.pointer (some ⟨b,0,none⟩))∧Hid (wr.heap[b]?=some (.cells #[.int .i64 (pl (toks s) J)] 155 (0,0)))∧Hid (D s (toks s) v I (.bad J)))))
   (fun _ v9 wr=>zPT v9 (cLeft wr R 300+1))
  case atStart=>exact⟨HB1,.inl ⟨J,t,ty,pa,rfl,rfl,⟨HS.out,HN.out⟩,hIJ,HC⟩⟩
  case round=>
   obtain⟨HBr,hrel⟩:=hrel
   clear HS HB1 HC hIJ HN
   rcases hrel with⟨J,t,ty,pa,rfl,rfl,HS,hIJ,HC⟩ | ⟨J,b,rfl,rfl,HBK,HD⟩
   ·have hse:=zDQ HS.out.1 cs hcs
    cases hb:zBN s J cs with
    | false=>
     rw[hb] at hse
     have HB:Hid (zBN s J cs=false):=hb
     clear hb
     go_wp2_with fail
     refine hse.mono ?_
     rintro e w' ⟨rfl,hw⟩
     have hw:=hw.symm
     subst hw
     go_wp2
     go_ret2
     exact⟨.ok [t] J,HC.out _ (HE.out _ _ HB.out),HBr.out,t,_,_,rfl,rfl,HS.out.2,HS.out.1⟩
    | true=>
     rw[hb] at hse
     have hpr:=zOG g eg HP.out (I:=J) (by omega) HS.out.1 hcs hb ty pa t HBr.out.size HS.out.2
     have HB:Hid (zBN s J cs=true):=hb
     have hJl:=HS.out.1.lt
     have hJp:=pl_le s hJl
     have hsm:=HS.out.1.small
     clear hb
     go_wp2_with fail
     refine hse.mono ?_
     rintro e w' ⟨rfl,hw⟩
     have hw:=hw.symm
     subst hw
     go_wp2_with fail
     refine hpr.mono ?_
     rintro e w2 ⟨o,hD,hb2,ha⟩
     have HB2:Hid (KC R w w2):=HBr.out.trans hb2
     clear hb2 hpr hse
     cases o with
     | ok ts K=>
      obtain⟨t2,ty2,pa2,rfl,rfl,hn,hs⟩:=ha
      have HS2:Hid (CStM s R w2 K (zAT ms (mets (.bin (kd (toks s) J) (pl (toks s) J) t t2)))∧zAO (Hi w.heap.size) w2 (.bin (kd (toks s) J) (pl (toks s) J) t t2) (.iface ty2 (.pointer pa2))):=⟨by rw[zQN,zCB];exact hs,hn⟩
      have hJK:J+1<K:=zDT hD htl
      have HC2:Hid (∀ o,D s (toks s) (vT (.bin (kd (toks s) J) (pl (toks s) J) t t2)) K o→D s (toks s) v I o):=fun o ho=>HC.out _ (HTG.out _ _ _ _ _ HB.out hD ho)
      clear hs hD hn
      go_wp2
      go_roundw
      case rel=>exact⟨HB2,.inl ⟨K,_,ty2,pa2,rfl,rfl,HS2,by omega,HC2⟩⟩
      case measure=>
       have:=pl_lt s (show J<K by omega) HS2.out.1.lt
       have:=pl_le s HS2.out.1.lt
       simp only[zPT]
       rw[zJE HS2.out.1,zJE HS.out.1]
       omega
     | bad K=>
      obtain⟨b,rfl,hbk⟩:=ha
      have HBK:Hid (w2.heap[b]?=some (.cells #[.int .i64 (pl (toks s) K)] 155 (0,0))):=hbk
      have HD2:Hid (D s (toks s) v I (.bad K)):=HC.out _ (HTB.out _ _ _ HB.out hD)
      clear hbk hD
      go_wp2
      go_roundw
      case rel=>exact⟨HB2,.inr ⟨K,b,rfl,rfl,HBK,HD2⟩⟩
      case measure=>simp only[zPT];omega
   ·go_wp2
    go_ret2
    exact⟨.bad J,HD.out,HBr.out,b,rfl,HBK.out⟩
end
section
variable {s:ByteArray} {R:Nat}
theorem zDN {I:Nat}{a:UInt8}:zBN s I [a]=true↔kd (toks s) I=a.toNat:=by
 simp[zBN]
 exact eq_comm
theorem sees2 {I:Nat}{a b:UInt8}:zBN s I [a,b]=true↔(kd (toks s) I=a.toNat∨kd (toks s) I=b.toNat):=by
 simp[zBN]
 constructor
 ·rintro(h | h)
  ·exact .inl h.symm
  ·exact .inr h.symm
 ·rintro(h | h)
  ·exact .inl h.symm
  ·exact .inr h.symm
theorem sees3 {I:Nat}{a b c:UInt8}:zBN s I [a,b,c]=true↔(kd (toks s) I=a.toNat∨kd (toks s) I=b.toNat∨kd (toks s) I=c.toNat):=by
 simp[zBN]
 constructor
 ·rintro(h | h | h)
  ·exact .inl h.symm
  ·exact .inr (.inl h.symm)
  ·exact .inr (.inr h.symm)
 ·rintro(h | h | h)
  ·exact .inl h.symm
  ·exact .inr (.inl h.symm)
  ·exact .inr (.inr h.symm)
theorem zC4 {I:Nat}{cs:List UInt8}(h:zBN s I cs=false):¬ zBN s I cs=true:=by rw[h];decide
theorem zDB.up {ms:List ByteArray}{lo lo':Nat}{w':World}{o:Out}{e:Ending}(h:zDB s R ms lo w' o e)(hl:lo'≤lo):zDB s R ms lo' w' o e:=by
 cases o with
 | ok ts J=>obtain⟨t,ty,pa,h1,h2,h3,h4⟩:=h;exact⟨t,ty,pa,h1,h2,h3.up hl,h4⟩
 | bad J=>exact h
theorem zGW {ms:List ByteArray}{w':World}{o:Out}{e:Ending}{lo:Nat}(h:zDB s R ms lo w' o e):∃ a b,e=.returned (.tuple #[a,b]):=by
 cases o with
 | ok ts J=>obtain⟨t,ty,pa,-,rfl,-⟩:=h;exact⟨_,_,rfl⟩
 | bad J=>obtain⟨b,rfl,-⟩:=h;exact⟨_,_,rfl⟩
set_option maxRecDepth 1000000 in
theorem zPW {N:Nat}(hp:CCon s R 224 .minus N):CCon s R 205 .prod N:=by
 intro w I ms hN h
 have hc:=zLN (v:=.prod) (vT:=.prodT) 224 (enters_of Tryz.func224 (by kernel_rfl) rfl) hp (cs:=[42,47]) (by decide) (fun _ _ h=>.prBad h) (fun _ _ _ _ h k=>.prGo h k)
  (fun a J h=>.ptEnd (fun k=>zC4 h (sees2.2 k))) (fun a J K h k=>.ptBad (sees2.1 h) k) (fun a J b K o h k l=>.ptGo (sees2.1 h) k l) rfl hN h
 clear h hp
 go_enter Tryz.func205,Tryz.ntmps205
 go_wp2_with fail
 refine hc.mono ?_
 rintro e w' ⟨o,hD,hb,ha⟩
 obtain⟨a,b,rfl⟩:=zGW ha
 have HA:Hid (zDB s R ms w.heap.size w' o (.returned (.tuple #[a,b]))):=ha
 have HD:Hid (D s (toks s) .prod I o):=hD
 have HB:Hid (KC R w w'):=hb
 clear ha hD hb hc
 go_wp2
 go_ret2
 exact⟨o,HD.out,HB.out,HA.out⟩
set_option maxRecDepth 1000000 in
theorem csum_of {N:Nat}(hp:CCon s R 205 .prod N):CCon s R 165 .sum N:=by
 intro w I ms hN h
 have hc:=zLN (v:=.sum) (vT:=.sumT) 205 (enters_of Tryz.func205 (by kernel_rfl) rfl) hp (cs:=[43,45]) (by decide) (fun _ _ h=>.suBad h) (fun _ _ _ _ h k=>.suGo h k)
  (fun a J h=>.stEnd (fun k=>zC4 h (sees2.2 k))) (fun a J K h k=>.stBad (sees2.1 h) k) (fun a J b K o h k l=>.stGo (sees2.1 h) k l) rfl hN h
 clear h hp
 go_enter Tryz.func165,Tryz.ntmps165
 go_wp2_with fail
 refine hc.mono ?_
 rintro e w' ⟨o,hD,hb,ha⟩
 obtain⟨a,b,rfl⟩:=zGW ha
 have HA:Hid (zDB s R ms w.heap.size w' o (.returned (.tuple #[a,b]))):=ha
 have HD:Hid (D s (toks s) .sum I o):=hD
 have HB:Hid (KC R w w'):=hb
 clear ha hD hb hc
 go_wp2
 go_ret2
 exact⟨o,HD.out,HB.out,HA.out⟩
set_option maxRecDepth 1000000 in
theorem zQ5 {N:Nat}(hp:CCon s R 165 .sum N):CCon s R 119 .compare N:=by
 intro w I ms hN h
 have hpc:=hp w I ms hN h
 have HP:Hid (CCon s R 165 .sum N):=hp
 clear h hp
 go_enter Tryz.func119,Tryz.ntmps119
 go_wp2_with fail
 refine hpc.mono ?_
 rintro e w1 ⟨o,hD,hb1,ha⟩
 clear hpc
 have HB1:Hid (KC R w w1):=hb1
 have HD:Hid (D s (toks s) .sum I o):=hD
 clear hb1 hD
 cases o with
 | bad J=>
  obtain⟨b,rfl,hbk⟩:=ha
  have HBK:Hid (w1.heap[b]?=some (.cells #[.int .i64 (pl (toks s) J)] 155 (0,0))):=hbk
  clear hbk
  go_wp2
  go_ret2
  exact⟨.bad J,.cmBad HD.out,HB1.out,b,rfl,HBK.out⟩
 | ok ts J=>
  obtain⟨t,ty,pa,rfl,rfl,hn,hs⟩:=ha
  have HS:Hid (CStM s R w1 J (zAT ms (mets t))):=hs
  have HN:Hid (zAO (Hi w.heap.size) w1 t (.iface ty (.pointer pa))):=hn
  clear hn
  have hse:=zDQ hs [60,62,61] (by decide)
  have hIJ:I<J:=zDT HD.out rfl
  clear hs
  cases hb:zBN s J [60,62,61] with
  | false=>
   rw[hb] at hse
   have HB:Hid (zBN s J [60,62,61]=false):=hb
   clear hb
   go_wp2_with fail
   refine hse.mono ?_
   rintro e w' ⟨rfl,hw⟩
   have hw:=hw.symm
   subst hw
   go_wp2
   go_ret2
   exact⟨.ok [t] J,.cmOne HD.out (fun k=>zC4 HB.out (sees3.2 k)),HB1.out,t,_,_,rfl,rfl,HN.out,HS.out⟩
  | true=>
   rw[hb] at hse
   have hpr:=zOG 165 (enters_of Tryz.func165 (by kernel_rfl) rfl) HP.out (I:=J) (by omega) HS.out (by decide) hb ty pa t HB1.out.size HN.out
   have HB:Hid (zBN s J [60,62,61]=true):=hb
   clear hb
   go_wp2_with fail
   refine hse.mono ?_
   rintro e w' ⟨rfl,hw⟩
   have hw:=hw.symm
   subst hw
   go_wp2_with fail
   refine hpr.mono ?_
   rintro e w2 ⟨o,hD,hb2,ha⟩
   have HB2:Hid (KC R w w2):=HB1.out.trans hb2
   have HD2:Hid (D s (toks s) .sum (J+1) o):=hD
   clear hb2 hpr hse hD
   cases o with
   | ok ts K=>
    obtain⟨t2,ty2,pa2,rfl,rfl,hn,hs⟩:=ha
    have HS2:Hid (CStM s R w2 K (zAT (zAT ms (mets t)) (mets t2))):=hs
    have HN2:Hid (zAO (Hi w.heap.size) w2 (.bin (kd (toks s) J) (pl (toks s) J) t t2) (.iface ty2 (.pointer pa2))):=hn
    clear hs hn
    go_wp2
    go_ret2
    exact⟨.ok [_] K,.cmTwo HD.out (sees3.1 HB.out) HD2.out,HB2.out,_,_,_,rfl,rfl,HN2.out,by rw[zQN,zCB];exact HS2.out⟩
   | bad K=>
    obtain⟨b,rfl,hbk⟩:=ha
    have HBK:Hid (w2.heap[b]?=some (.cells #[.int .i64 (pl (toks s) K)] 155 (0,0))):=hbk
    clear hbk
    go_wp2
    go_ret2
    exact⟨.bad K,.cmB1 HD.out (sees3.1 HB.out) HD2.out,HB2.out,b,rfl,HBK.out⟩
set_option maxRecDepth 1000000 in
set_option maxHeartbeats 1000000 in
theorem cchoice_of {N:Nat}(hp:CCon s R 119 .compare (N+1))(hc:CCon s R 96 .choice N):CCon s R 96 .choice (N+1):=by
 intro w I ms hN h
 have hpc:=hp w I ms hN h
 have HC:Hid (CCon s R 96 .choice N):=hc
 clear h hp hc
 go_enter Tryz.func96,Tryz.ntmps96
 go_wp2_with fail
 refine hpc.mono ?_
 rintro e w1 ⟨o,hD,hb1,ha⟩
 clear hpc
 have HB1:Hid (KC R w w1):=hb1
 have HD:Hid (D s (toks s) .compare I o):=hD
 clear hb1 hD
 cases o with
 | bad J=>
  obtain⟨b,rfl,hbk⟩:=ha
  have HBK:Hid (w1.heap[b]?=some (.cells #[.int .i64 (pl (toks s) J)] 155 (0,0))):=hbk
  clear hbk
  go_wp2
  go_ret2
  exact⟨.bad J,.chBad HD.out,HB1.out,b,rfl,HBK.out⟩
 | ok ts J=>
  obtain⟨t,ty,pa,rfl,rfl,hn,hs⟩:=ha
  have HS:Hid (CStM s R w1 J (zAT ms (mets t))):=hs
  have HN:Hid (zAO (Hi w.heap.size) w1 t (.iface ty (.pointer pa))):=hn
  clear hn
  have hse:=zDQ hs [63] (by decide)
  have hIJ:I<J:=zDT HD.out rfl
  clear hs
  cases hb:zBN s J [63] with
  | false=>
   rw[hb] at hse
   have HB:Hid (zBN s J [63]=false):=hb
   clear hb
   go_wp2_with fail
   refine hse.mono ?_
   rintro e w' ⟨rfl,hw⟩
   have hw:=hw.symm
   subst hw
   go_wp2
   go_ret2
   exact⟨.ok [t] J,.chOne HD.out (fun k=>zC4 HB.out (zDN.2 k)),HB1.out,t,_,_,rfl,rfl,HN.out,HS.out⟩
  | true=>
   rw[hb] at hse
   have hst:=zD8 HS.out (zDE (by decide) hb)
   have HB:Hid (zBN s J [63]=true):=hb
   clear hb
   go_wp2_with fail
   refine hse.mono ?_
   rintro e w' ⟨rfl,hw⟩
   have hw:=hw.symm
   subst hw
   go_wp2_with fail
   refine hst.mono ?_
   rintro e w2 ⟨rfl,hs2,hb2⟩
   have HB2:Hid (KC R w w2):=HB1.out.trans hb2
   have HN2:Hid (zAO (Hi w.heap.size) w2 t (.iface ty (.pointer pa))):=HN.out.moves (HS.out.nmoves hb2)
   have HS2:Hid (CStM s R w2 (J+1) (zAT ms (mets t))):=hs2
   have hcc:=HC.out w2 (J+1) _ (by omega) hs2
   clear hb2 hs2 hst hse
   go_wp2_with fail
   refine hcc.mono ?_
   rintro e w3 ⟨o,hD,hb3,ha⟩
   have HB3:Hid (KC R w w3):=HB2.out.trans hb3
   have HN3:Hid (zAO (Hi w.heap.size) w3 t (.iface ty (.pointer pa))):=HN2.out.moves (HS2.out.nmoves hb3)
   have HD3:Hid (D s (toks s) .choice (J+1) o):=hD
   clear hb3 hcc hD
   cases o with
   | bad K=>
    obtain⟨b,rfl,hbk⟩:=ha
    have HBK:Hid (w3.heap[b]?=some (.cells #[.int .i64 (pl (toks s) K)] 155 (0,0))):=hbk
    clear hbk
    go_wp2
    go_ret2
    exact⟨.bad K,.chB1 HD.out (zDN.1 HB.out) HD3.out,HB3.out,b,rfl,HBK.out⟩
   | ok ts K=>
    obtain⟨t2,ty2,pa2,rfl,rfl,hn,hs⟩:=ha
    have HS3:Hid (CStM s R w3 K (zAT (zAT ms (mets t)) (mets t2))):=hs
    have HM3:Hid (zAO (Hi w.heap.size) w3 t2 (.iface ty2 (.pointer pa2))):=hn.up HB2.out.size
    have hts:=zCJ hs [58] (by decide)
    have hJK:J+1<K:=zDT HD3.out rfl
    clear hs hn
    go_wp2_with fail
    refine hts.mono ?_
    rintro e w4 ⟨hb4,ht⟩
    have HB4:Hid (KC R w w4):=HB3.out.trans hb4
    have MV4:Hid (zDA (Hi w.heap.size) (Hi w.heap.size) w3 w4):=HS3.out.nmoves hb4
    clear hb4 hts
    rcases ht with⟨k1,rfl,hs4⟩ | ⟨k1,b,rfl,hbk⟩
    ·have hcc:=HC.out w4 (K+1) _ (by omega) hs4
     have HS4:Hid (CStM s R w4 (K+1) (zAT (zAT ms (mets t)) (mets t2))):=hs4
     have lR4:R<w4.heap.size:=by obtain⟨a,b,c,-⟩:=hs4.blk;exact zA2 c
     have HK1:Hid (zBN s K [58]=true):=k1
     clear hs4 k1
     go_wp2_with fail
     refine hcc.mono ?_
     rintro e w5 ⟨o,hD,hb5,ha⟩
     have HB5:Hid (KC R w w5):=HB4.out.trans hb5
     have MV5:Hid (zDA (Hi w.heap.size) (Hi w.heap.size) w3 w5):=MV4.out.trans (HS4.out.nmoves hb5)
     have HD5:Hid (D s (toks s) .choice (K+1) o):=hD
     have hs5:=hb5.size
     clear hb5 hcc hD
     cases o with
     | bad M=>
      obtain⟨b,rfl,hbk⟩:=ha
      have HBK:Hid (w5.heap[b]?=some (.cells #[.int .i64 (pl (toks s) M)] 155 (0,0))):=hbk
      clear hbk
      go_wp2
      go_ret2
      exact⟨.bad M,.chB3 HD.out (zDN.1 HB.out) HD3.out (zDN.1 HK1.out) HD5.out,HB5.out,b,rfl,HBK.out⟩
     | ok ts M=>
      obtain⟨t3,ty3,pa3,rfl,rfl,hn,hs⟩:=ha
      have HS5:Hid (CStM s R w5 M (zAT (zAT (zAT ms (mets t)) (mets t2)) (mets t3))):=hs
      have HN5:Hid (zAO (Hi w.heap.size) w5 t3 (.iface ty3 (.pointer pa3))):=hn.up HB4.out.size
      clear hs hn
      go_wp2
      go_ret2
      have bl:=(Below.refl w5.heap.size w5).alloc (Nat.le_refl _)
      refine⟨.ok [_] M,.chIf HD.out (zDN.1 HB.out) HD3.out (zDN.1 HK1.out) HD5.out,HB5.out.alloc (by omega) _,_,_,_,rfl,rfl,?_,by rw[mets_ite,zCB,zCB];exact HS5.out.later (bl _)⟩
      unfold zAO
      exact⟨_,_,_,_,rfl,HB5.out.size,heap_alloc_new _ _,(HN3.out.moves MV5.out).below (bl _),(HM3.out.moves MV5.out).below (bl _),HN5.out.below (bl _)⟩
    ·have HBK:Hid (w4.heap[b]?=some (.cells #[.int .i64 (pl (toks s) K)] 155 (0,0))):=hbk
     have HK1:Hid (zBN s K [58]=false):=k1
     clear hbk k1
     go_wp2
     go_ret2
     exact⟨.bad K,.chB2 HD.out (zDN.1 HB.out) HD3.out (fun k=>zC4 HK1.out (zDN.2 k)),HB4.out,b,rfl,HBK.out⟩
end
section
variable {s:ByteArray} {R:Nat}
theorem ck3 {I:Nat}:zAB ((toks s).getD I default)=3↔kd (toks s) I=97:=by
 unfold zAB kd
 split
 ·constructor
  ·intro h;cases h
  ·intro h;omega
 split
 ·constructor
  ·intro h;cases h
  ·intro h;omega
 split
 ·rename_i h
  exact⟨fun _=>h,fun _=>rfl⟩
 split
 ·constructor
  ·intro h;cases h
  ·intro h;omega
 ·constructor
  ·intro h;cases h
  ·intro h;omega
theorem ck2 {I:Nat}:zAB ((toks s).getD I default)=2↔kd (toks s) I=110:=by
 unfold zAB kd
 split
 ·constructor
  ·intro h;cases h
  ·intro h;omega
 split
 ·rename_i h
  exact⟨fun _=>h,fun _=>rfl⟩
 split
 ·constructor
  ·intro h;cases h
  ·intro h;omega
 split
 ·constructor
  ·intro h;cases h
  ·intro h;omega
 ·constructor
  ·intro h;cases h
  ·intro h;omega
set_option maxRecDepth 1000000 in
set_option maxHeartbeats 1000000 in
theorem zG2 {w:World}{I:Nat}{ms:List ByteArray}(h:CStM s R w I ms):
  Calls Tryz.prog 240 #[.pointer (some ⟨R,0,none⟩)] w fun e w'=>KC R w w' ∧
   ((zAB ((toks s).getD I default)=2∧e=.returned (.tuple #[.int .i64 (zDO (tx s (toks s) I).data.toList),.nilIface])∧CStM s R w' (I+1) ms)∨(zAB ((toks s).getD I default)≠2∧∃ (n:Int) (b:Nat),e=.returned (.tuple #[.int .i64 n,.iface 151 (.pointer (some ⟨b,0,none⟩))])∧w'.heap[b]?=some (.cells #[.int .i64 (pl (toks s) I)] 155 (0,0)))):=by
 have htk:=zOF h 2 (.inl rfl)
 have LR:Hid (R<w.heap.size):=by obtain⟨a,b,c,-⟩:=h.blk;exact zA2 c
 have HG:Hid (zAB ((toks s).getD I default)=2→zHL (tx s (toks s) I)):=fun hk=>zJI s I h.lt (ck2.1 hk)
 clear h
 go_enter Tryz.func240,Tryz.ntmps240
 go_wp2_with fail
 refine htk.mono ?_
 rintro e w1 ⟨hk1,ha⟩
 clear htk
 obtain⟨tx,er,rfl,hdg⟩:∃ tx er,e=.returned (.tuple #[.string tx,er])∧zHL tx:=by
  rcases ha with⟨k1,rfl,-⟩ | ⟨-,b,rfl,-⟩
  ·exact⟨_,_,rfl,HG.out k1⟩
  ·exact⟨_,_,rfl,zEN⟩
 have HDG:Hid (zHL tx):=hdg
 have HA:Hid _:=ha
 have HK:Hid (KC R w w1):=hk1
 have LR1:Hid (R<w1.heap.size):=Nat.lt_of_lt_of_le LR.out hk1.size
 clear ha hk1 LR HG hdg
 go_wp2_with fail
 go_loopw [6] (fun v wr=>∃ (n:Int) (pos:Nat),v=.int .i64 n∧n=zDO (tx.data.toList.take pos)∧pos≤tx.size∧wr.heap[w1.heap.size]?=some (.stringIter tx pos)∧Hid (Below w1.heap.size w1 wr)) (fun _ wr=>tx.size - wr.iterPos w1.heap.size)
 case atStart=>exact⟨0,0,rfl,rfl,Nat.zero_le _,World.iter_heap w1 tx 0,(Below.refl _ _).alloc (Nat.le_refl _) _⟩
 case round=>
  obtain⟨n,pos,rfl,hnn,hpz,hit,HB⟩:=hrel
  have hpos0:=iterPos_of hit
  by_cases hp:pos<tx.size
  ·have hnx:∀ ty,(Instr.next (.pointer (some ⟨w1.heap.size,0,none⟩)) true ty).run Tryz.prog wr=_:=fun ty=>Lib.run_next_any_at wr w1.heap.size tx pos ty hit hp
   have h6:=HDG.out.1 _ (List.mem_of_getElem? (zG3 (b:=tx) (k:=pos) hp))
   have ha:tx[pos].toNat<128:=by simp[zEV] at h6;omega
   have hdec:=decode_ascii tx pos hp ha
   have hNN:Hid (n=zDO (tx.data.toList.take pos)):=hnn
   have hDD:Hid (48≤tx[pos].toNat∧tx[pos].toNat≤57):=by simp[zEV] at h6;exact h6
   have hTT:Hid (∀ x∈tx.data.toList,zEV x=true):=HDG.out.1
   have h9:Hid (tx.size≤9):=HDG.out.2
   have hlt2:=zGA hTT.out pos hpz
   have hlt3:=zGA hTT.out (pos+1) hp
   have hp9:=pow9 (k:=pos) (by have:=h9.out;omega)
   have hp10:=pow9 (k:=pos+1) (by have:=h9.out;omega)
   have HN3:Hid _:=And.intro hlt2 (And.intro hlt3 (And.intro hp9 hp10))
   have HNT:Hid _:=zI0 hp
   rw[hdec] at hnx
   clear h6 hnn hlt2 hlt3 hp9 hp10
   have hit2:=Lib.iterAt_heap wr w1.heap.size tx pos (pos+1) hit
   have hb2:=Lib.below_iterAt HB.out (k:=w1.heap.size) (Nat.le_refl _) tx (pos+1)
   obtain⟨W1,hW1⟩:∃ W1,W1=wr.iterAt w1.heap.size tx (pos+1):=⟨_,rfl⟩
   rw[←hW1] at hnx hit2 hb2
   have HI2:Hid (W1.heap[w1.heap.size]?=some (.stringIter tx (pos+1))):=hit2
   have HB2:Hid (Below w1.heap.size w1 W1):=hb2
   clear hW1 hit hit2 hb2 hdec ha
   go_wp2
   go_roundw
   case rel=>
    refine⟨_,_,rfl,?_,hp,HI2.out,HB2⟩
    have q1:=HN3.out
    have q2:=hDD.out
    rw[HNT.out]
    have q4:=hNN.out
    rw[←q4] at q1 ⊢
    rw[IntWalk.wrap32_in _ (by omega),zJG (n:=(tx[pos].toNat:Int) - 48) (by omega),zJG (n:=n * 10) (by omega),zJG (by omega)]
    omega
   case measure=>
    rw[iterPos_of HI2.out,hpos0]
    omega
  ·have hnx:∀ ty,(Instr.next (.pointer (some ⟨w1.heap.size,0,none⟩)) true ty).run Tryz.prog wr=_:=fun ty=>Lib.run_next_end_at wr w1.heap.size tx pos ty hit hp
   have hfin:n=zDO tx.data.toList:=by rw[hnn,List.take_of_length_le (by simp;omega)]
   clear hnn
   go_wp2
   go_ret2
   rcases HA.out with⟨k1,he,hs⟩ | ⟨k1,b,he,hbk⟩
   ·injection he with he
    injection he with he
    have h3:=congrArg Array.toList he
    injection h3 with h3 h4
    injection h3 with h3
    injection h4 with e2
    subst e2
    rw[hfin,h3]
    have lR:R<w1.heap.size:=by obtain⟨a,b,c,-⟩:=hs.blk;exact zA2 c
    exact⟨HK.out.trans (KC.of_below HB.out lR),.inl ⟨k1,rfl,hs.later HB.out⟩⟩
   ·injection he with he
    injection he with he
    have e2:er=.iface 151 (.pointer (some ⟨b,0,none⟩)):=by
     have h3:=congrArg Array.toList he
     injection h3 with _ h4
     injection h4
    subst e2
    exact⟨HK.out.trans (KC.of_below HB.out LR1.out),.inr ⟨k1,_,b,rfl,(HB.out.block b (zA2 hbk)).trans hbk⟩⟩
end
end Go.Proofs.YtbokdbaagacnlaaGreatDoor
