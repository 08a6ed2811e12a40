import Derived.Test.YtbokdbaagacnlaaGreatDoorJQ6
import Derived.Shelf.Strings.SlTrimAscii
import Derived.Deep.RegionWith
namespace Go.Proofs.YtbokdbaagacnlaaGreatDoor
open Go.RowKit Go.Lib
theorem zOA (s:ByteArray):∀ f i,i≤s.size→s.size - i≤f→(s.data.toList.drop i).dropWhile ([32,9,10].contains ·)=s.data.toList.drop (zBP s f i)
 | 0,i,h1,h2=>by
  have:s.data.toList.drop i=[]:=List.drop_eq_nil_of_le (by simp;omega)
  simp[zBP,this]
 | f+1,i,h1,h2=>by
  unfold zBP
  rcases Nat.lt_or_ge i s.size with h | h
  ·have e:s.data.toList.drop i=s[i] :: s.data.toList.drop (i+1):=by
    rw[List.drop_eq_getElem_cons (by simpa using h)]
    rfl
   have hb:[32,9,10].contains s[i]=zJ7 (zBH s i):=by
    rw[zDI h]
    simp only[zJ7,List.contains_eq_any_beq,List.any_cons,List.any_nil,Bool.or_false,Bool.or_assoc]
   rw[e,List.dropWhile_cons,hb]
   cases hbl:zJ7 (zBH s i) with
   | true=>
    simp only[h,true_and,if_true]
    exact zOA s f (i+1) (by omega) (by omega)
   | false=>simp[e]
  ·have:s.data.toList.drop i=[]:=List.drop_eq_nil_of_le (by simp;omega)
   rw[if_neg (by omega)]
   simp[this]
theorem trim_skip (s:ByteArray)(i:Nat)(hi:i≤s.size):(⟨(Lib.trimLeftS (s.extract i s.size).data.toList [32,9,10]).toArray⟩:ByteArray)=s.extract (skip s i) s.size:=by
 have e1:(s.extract i s.size).data.toList=s.data.toList.drop i:=by
  rw[zE2,List.take_of_length_le (by simp)]
 have e2:(s.extract (skip s i) s.size).data.toList=s.data.toList.drop (skip s i):=by
  rw[zE2,List.take_of_length_le (by simp)]
 apply ByteArray.ext
 rw[←Array.toList_inj,e2,e1]
 unfold Lib.trimLeftS skip
 rw[zOA s (s.size - i) i hi (Nat.le_refl _)]
set_option maxRecDepth 1000000 in
theorem zGM (s:ByteArray)(i:Nat)(hs:s.size≤1000)(hi:i≤s.size)(w:World)(hT:Tabs w):
  Calls Tryz.prog 95 #[.string s,.int .i64 i] w fun e w'=>∃ tx,e=.returned (.agg #[.int .i64 (zAB (zA8 s i)),.string tx,.int .i64 (zA8 s i).pos])∧((zA8 s i).kind≠33→tx=(zA8 s i).text s)∧Below w.heap.size w w':=by
 have hb0:Below w.heap.size w (w.alloc (.cells #[.int .i64 0,.string { data:=#[] },.int .i64 0] 221)):=(Below.refl _ _).alloc (Nat.le_refl _) _
 have htr:=Any.strings_TrimLeft_laid Tryz.lays161 (by kernel_rfl) (s.extract i s.size) ⟨#[32,9,10]⟩ (w.alloc (.cells #[.int .i64 0,.string { data:=#[] },.int .i64 0] 221)) (by decide) (ascii_of_all (by decide))
 have hsk:=zJN hi
 have hpos:(zA8 s i).pos=skip s i:=by
  unfold zA8 zAX
  repeat' split
  all_goals first | rfl | (simp only;omega)
 have htr':Calls Tryz.prog 117 #[.string (s.extract i s.size),.string { data:=#[32,9,10] }] (w.alloc (.cells #[.int .i64 0,.string { data:=#[] },.int .i64 0] 221)) fun e w'=>e=.returned (.string (s.extract (skip s i) s.size))∧Below (w.heap.size+1) (w.alloc (.cells #[.int .i64 0,.string { data:=#[] },.int .i64 0] 221)) w':=by
  refine Calls.mono htr fun e w' ⟨h1,h2⟩=>⟨?_,by simpa using h2⟩
  rw[h1,←trim_skip s i hi]
 have HB0:Hid (Below w.heap.size w (w.alloc (.cells #[.int .i64 0,.string { data:=#[] },.int .i64 0] 221))):=hb0
 have HT:Hid (Tabs w):=hT
 have HP:Hid ((zA8 s i).pos=skip s i):=hpos
 have hF:zA8 s i=zAX s (skip s i):=rfl
 clear hb0 hT htr hpos
 go_enter Tryz.func95,Tryz.ntmps95
 go_wp2_with fail
 refine htr'.mono ?_
 rintro e w1 ⟨rfl,hb1⟩
 have c0:w1.heap[w.heap.size]?=some (.cells #[.int .i64 0,.string { data:=#[] },.int .i64 0] 221 (0,0)):=(hb1.block _ (by omega)).trans (heap_alloc_new w _)
 have HB1:Hid (Below w.heap.size w w1):=HB0.out.trans (hb1.mono (by omega))
 have hT1:=HT.out.below HB1.out
 have hf:=zLM s (skip s i) hs hsk.2 w1 hT1
 rw[←hF] at hf
 clear hF htr' hb1 hT1
 have HC0:Hid (w1.heap[w.heap.size]?=some (.cells #[.int .i64 0,.string { data:=#[] },.int .i64 0] 221 (0,0))):=c0
 clear c0
 go_wp2_with fail
 refine hf.mono ?_
 rintro e w2 ⟨tx,rfl,htx,hb2⟩
 have c2:w2.heap[w.heap.size]?=some (.cells #[.int .i64 0,.string { data:=#[] },.int .i64 0] 221 (0,0)):=(hb2.block _ (zA2 HC0.out)).trans HC0.out
 have m0:=zA0 (i:=0) c2 rfl
 have m1:=zA0 (i:=1) c2 rfl
 have m2:=zA0 (i:=2) c2 rfl
 have f0:=zA1 (i:=0) c2
 have f1:=zA1 (i:=1) c2
 have f2:=zA1 (i:=2) c2
 have HB2:Hid (Below w.heap.size w w2):=below_size HB1.out hb2
 have HX:Hid ((zA8 s i).kind≠33→tx=(zA8 s i).text s):=htx
 clear hf htx hb2 c2 HC0
 have hsz:(s.extract (skip s i) s.size).size=s.size - skip s i:=tail_size s _
 have hat:((s.size:Int) - ((s.size - skip s i:Nat):Int))=((zA8 s i).pos:Int):=by rw[HP.out];omega
 have HAT:Hid (((s.size:Int) - ((s.size - skip s i:Nat):Int))=((zA8 s i).pos:Int)):=hat
 clear hat
 go_wp2
 refine bodyPost_ret (v:=.agg #[.int .i64 (zAB (zA8 s i)),.string tx,.int .i64 ((s.size:Int) - ((s.size - skip s i:Nat):Int))]) (by simp[results,Tryz.results95,go_sem,m0,m1,m2]) rfl ⟨tx,by rw[HAT.out],HX.out,?_⟩
 exact((HB2.out.setCell (Nat.le_refl _) _).setCell (Nat.le_refl _) _).setCell (Nat.le_refl _) _
theorem zIC (s:ByteArray):∀ (L:List Tok) (I j:Nat),j<3→(zBB s L)[I * 3+j]?=(L[I]?).bind fun t=>(zBF s t)[j]?
 | [],I,j,_=>by simp[zBB]
 | t :: L,0,j,hj=>by
  have e:zBB s (t :: L)=zBF s t ++ zBB s L:=by simp[zBB]
  rw[e,List.getElem?_append_left (by simp[zBF];omega)]
  simp
 | t :: L,I+1,j,hj=>by
  have e:zBB s (t :: L)=zBF s t ++ zBB s L:=by simp[zBB]
  have e3:(zBF s t).length=3:=rfl
  rw[e,List.getElem?_append_right (by rw[e3];omega),e3,show (I+1) * 3+j - 3=I * 3+j by omega,zIC s L I j hj]
  simp
section
variable (s:ByteArray) (L:List Tok) (R bl cap base:Nat)
structure St (w:World) (I:Nat) (bad:Bool):Prop where
 rd:RdAt w R bl L.length cap I bad
 tk:∃ cur:Array Value,w.heap[bl]?=some (.cells cur 169 (0,0))∧cur.toList.take (L.length * 3)=zBB s L
 hR:R<base
 hbl:bl<base
 ne:bl≠R
 size:base≤w.heap.size
 len:L.length≤1000
end
section
variable {s:ByteArray} {L:List Tok} {R bl cap base:Nat} {w w':World} {I J:Nat} {b b':Bool}
theorem St.keep (h:St s L R bl cap base w I b)(hk:Keep R w w')(hr:RdAt w' R bl L.length cap J b'):St s L R bl cap base w' J b':=by
 obtain⟨cur,h1,h2⟩:=h.tk
 exact⟨hr,⟨cur,hk.heap h1 h.ne,h2⟩,h.hR,h.hbl,h.ne,Nat.le_trans h.size hk.size,h.len⟩
theorem St.alloc (h:St s L R bl cap base w I b)(o:Obj):St s L R bl cap base (w.alloc o) I b:=h.keep ((Keep.refl R w).alloc o) (h.rd.alloc o)
theorem St.drewN (h:St s L R bl cap base w I b)(q:Nat):St s L R bl cap base (w.drewN q) I b:=h.keep ((Keep.refl R w).drewN q) (h.rd.drewN q)
theorem St.setNew (h:St s L R bl cap base w I b){a:Addr}(ha:base≤a.block)(v:Value):St s L R bl cap base (w.setCell a v) I b:=by
 obtain⟨cur,h1,h2⟩:=h.tk
 have h3:=h.hR
 have h4:=h.hbl
 exact⟨zA6 h.rd (by omega),⟨cur,zA6 h1 (by omega),h2⟩,h3,h4,h.ne,by simp;exact h.size,h.len⟩
theorem St.cell (h:St s L R bl cap base w I b){i j:Nat}(hi:i<L.length)(hj:j<3):w.cell? ⟨bl,i * 3+j,none⟩=(zBF s (L.getD i default))[j]?:=by
 obtain⟨cur,h1,h2⟩:=h.tk
 have e:=zIC s L i j hj
 rw[←h2,List.getElem?_take,if_pos (by omega),List.getElem?_eq_getElem hi] at e
 simp only[World.cell?,h1]
 rw[List.getD_eq_getElem?_getD,List.getElem?_eq_getElem hi]
 simpa using e
theorem St.c0 (h:St s L R bl cap base w I b)(hi:I<L.length):w.cell? ⟨bl,I * 3,none⟩=some (.int .u8 (kd L I)):=h.cell (j:=0) hi (by omega)
theorem St.c1 (h:St s L R bl cap base w I b)(hi:I<L.length):w.cell? ⟨bl,I * 3+1,none⟩=some (.int .i64 (pl L I)):=h.cell (j:=1) hi (by omega)
theorem St.c2 (h:St s L R bl cap base w I b)(hi:I<L.length):w.cell? ⟨bl,I * 3+2,none⟩=some (.string (tx s L I)):=h.cell (j:=2) hi (by omega)
theorem zEG (h:St s L R bl cap base w I b)(hi:I<L.length):
  Calls Tryz.prog 91 #[.pointer (some ⟨R,0,none⟩)] w fun e w'=>e=.returned (.int .u8 (kd L I))∧∃ q,w'=w.drewN q:=
 ref_kind R bl L.length cap I (kd L I) w (zA0 h.rd rfl) (zA0 h.rd rfl) (by omega) (h.c0 hi)
theorem zAV (h:St s L R bl cap base w I false)(hi:I<L.length){k:Nat}(hk:kd L I=k):
  Calls Tryz.prog 61 #[.pointer (some ⟨R,0,none⟩),.int .u8 k] w fun e w'=>e=.returned (zDD k (pl L I) (tx s L I))∧St s L R bl cap base w' (I+1) false∧Keep R w w':=by
 subst hk
 exact(zNI R bl L.length cap I (kd L I) (pl L I) (tx s L I) w h.rd (by omega) h.len (h.c0 hi) (h.c1 hi) (h.c2 hi)).mono fun e w' ⟨h1,h2,h3⟩=>⟨h1,h.keep h3 h2,h3⟩
theorem zD0 (h:St s L R bl cap base w I false)(hi:I<L.length){k:Nat}(hk:kd L I≠k):
  Calls Tryz.prog 61 #[.pointer (some ⟨R,0,none⟩),.int .u8 k] w fun e w'=>e=.returned (zDD 0 0 { data:=#[] })∧St s L R bl cap base w' I true∧Keep R w w':=
 (zM6 R bl L.length cap I (kd L I) k (pl L I) (tx s L I) w h.rd (by omega) (h.c0 hi) (h.c1 hi) (h.c2 hi) (by simp;omega)).mono fun e w' ⟨h1,h2,h3⟩=>⟨h1,h.keep h3 h2,h3⟩
theorem zEF (h:St s L R bl cap base w I true)(hi:I<L.length)(k:Nat):
  Calls Tryz.prog 61 #[.pointer (some ⟨R,0,none⟩),.int .u8 k] w fun e w'=>e=.returned (zDD 0 0 { data:=#[] })∧St s L R bl cap base w' I true∧Keep R w w':=
 (zNJ R bl L.length cap I (kd L I) k (pl L I) (tx s L I) w h.rd (by omega) (h.c0 hi) (h.c1 hi) (h.c2 hi)).mono fun e w' ⟨h1,h2,h3⟩=>⟨h1,h.keep h3 h2,h3⟩
end
def zFO (P:Nat→Prop)(w:World)(pv:Value)(vs:List Value):Prop:=
 (pv=.slice none 0 0∧vs=[])∨∃ (q cap:Nat) (cur:Array Value),pv=.slice (some ⟨q,0,none⟩) vs.length cap∧P q∧w.heap[q]?=some (.cells cur 31 (0,0))∧vs.length≤cap∧cap≤maxLen∧cur.size=cap∧cur.toList.take vs.length=vs
def zCO (P:Nat→Prop)(w:World)(v:Value)(k p:Nat)(n:Int)(word metric:ByteArray)(vs:List Value):Prop:=
 ∃ (b:Nat) (pv:Value),v=.pointer (some ⟨b,0,none⟩)∧P b∧w.heap[b]?=some (.cells #[.int .u8 k,.int .i64 p,.int .i64 n,.string word,.string metric,pv] 121 (0,0))∧zFO P w pv vs
abbrev zAK : ByteArray:={ data:=#[] }
mutual
def zA9 (P:Nat→Prop)(w:World):Tree→Value→Prop
 | .num p n,v=>zCO P w v 35 p n zAK zAK []
 | .neg p a,v=>∃ va,zCO P w v 126 p 0 zAK zAK [va]∧zA9 P w a va
 | .bin k p a b,v=>∃ va vb,zCO P w v k p 0 zAK zAK [va,vb]∧zA9 P w a va∧zA9 P w b vb
 | .ite p a b c,v=>∃ va vb vc,zCO P w v 63 p 0 zAK zAK [va,vb,vc]∧zA9 P w a va∧zA9 P w b vb∧zA9 P w c vc
 | .meas p word metric n,v=>zCO P w v 109 p n word metric []
 | .probe p word ts,v=>∃ vs,zCO P w v 112 p 0 word zAK vs∧zAJ P w ts vs
def zAJ (P:Nat→Prop)(w:World):List Tree→List Value→Prop
 | [],vs=>vs=[]
 | t :: ts,vs=>∃ v vs',vs=v :: vs'∧zA9 P w t v∧zAJ P w ts vs'
end
def zOV (P Q:Nat→Prop)(w w':World):Prop:=∀ b,P b→b<w.heap.size→Q b∧w'.heap[b]?=w.heap[b]?
theorem zOV.heap {P Q:Nat→Prop}{w w':World}(h:zOV P Q w w'){b:Nat}{o:Obj}(hb:P b)(ho:w.heap[b]?=some o):Q b∧w'.heap[b]?=some o:=
 ⟨(h b hb (zA2 ho)).1,(h b hb (zA2 ho)).2.trans ho⟩
theorem zFO.moves {P Q:Nat→Prop}{w w':World}{pv:Value}{vs:List Value}(h:zFO P w pv vs)(hm:zOV P Q w w'):zFO Q w' pv vs:=by
 rcases h with h | ⟨q,cap,cur,h1,h2,h3,h4⟩
 ·exact .inl h
 ·exact .inr ⟨q,cap,cur,h1,(hm.heap h2 h3).1,(hm.heap h2 h3).2,h4⟩
theorem zCO.moves {P Q:Nat→Prop}{w w':World}{v:Value}{k p:Nat}{n:Int}{word metric:ByteArray}{vs:List Value}(h:zCO P w v k p n word metric vs)(hm:zOV P Q w w'):zCO Q w' v k p n word metric vs:=by
 obtain⟨b,pv,h1,h2,h3,h4⟩:=h
 exact⟨b,pv,h1,(hm.heap h2 h3).1,(hm.heap h2 h3).2,h4.moves hm⟩
mutual
theorem zA9.moves {P Q:Nat→Prop}{w w':World}(hm:zOV P Q w w'):∀ {t:Tree} {v:Value},zA9 P w t v→zA9 Q w' t v
 | .num _ _,_,h=>by unfold zA9 at h ⊢;exact h.moves hm
 | .neg _ _,_,h=>by
  unfold zA9 at h ⊢
  obtain⟨va,h1,h2⟩:=h
  exact⟨va,h1.moves hm,zA9.moves hm h2⟩
 | .bin _ _ _ _,_,h=>by
  unfold zA9 at h ⊢
  obtain⟨va,vb,h1,h2,h3⟩:=h
  exact⟨va,vb,h1.moves hm,zA9.moves hm h2,zA9.moves hm h3⟩
 | .ite _ _ _ _,_,h=>by
  unfold zA9 at h ⊢
  obtain⟨va,vb,vc,h1,h2,h3,h4⟩:=h
  exact⟨va,vb,vc,h1.moves hm,zA9.moves hm h2,zA9.moves hm h3,zA9.moves hm h4⟩
 | .meas _ _ _ _,_,h=>by unfold zA9 at h ⊢;exact h.moves hm
 | .probe _ _ _,_,h=>by
  unfold zA9 at h ⊢
  obtain⟨vs,h1,h2⟩:=h
  exact⟨vs,h1.moves hm,zAJ.moves hm h2⟩
theorem zAJ.moves {P Q:Nat→Prop}{w w':World}(hm:zOV P Q w w'):∀ {ts:List Tree} {vs:List Value},zAJ P w ts vs→zAJ Q w' ts vs
 | [],_,h=>by unfold zAJ at h ⊢;exact h
 | _ :: _,_,h=>by
  unfold zAJ at h ⊢
  obtain⟨v,vs',h1,h2,h3⟩:=h
  exact⟨v,vs',h1,zA9.moves hm h2,zAJ.moves hm h3⟩
end
abbrev From (lo:Nat):Nat→Prop:=fun b=>lo≤b
theorem zA9.kept {lo lo' R:Nat}{w w':World}{t:Tree}{v:Value}(h:zA9 (From lo) w t v)(hk:Keep R w w')(hR:R<lo)(hl:lo'≤lo):zA9 (From lo') w' t v:=
 h.moves fun b hb hs=>⟨Nat.le_trans hl hb,hk.block b hs (fun e=>by have hb:lo≤b:=hb;omega)⟩
def zJU (w:World)(R n:Nat):Nat:=
 match w.heap[R]? with
 | some (.cells cs _ _)=>
  match (cs[2]? : Option Value),(cs[1]? : Option Value) with
  | some (Value.bool false),some (Value.int _ i)=>n+1 - i.toNat
  | _,_=>0
 | _=>0
theorem zDF {w:World}{R bl n cap I m:Nat}(h:RdAt w R bl n cap I false):zJU w R m=m+1 - I:=by
 unfold zJU
 rw[h]
 simp
theorem zHV {w:World}{R bl n cap I m:Nat}(h:RdAt w R bl n cap I true):zJU w R m=0:=by
 unfold zJU
 rw[h]
 rfl
section
variable (s:ByteArray) (L:List Tok) (R bl cap base:Nat)
def zGI (lo:Nat)(w:World)(o:Out)(v:Value):Prop:=
 match o with
 | .ok ts J=>St s L R bl cap base w J false∧J<L.length∧∃ t,ts=[t]∧zA9 (From lo) w t v
 | .bad J=>St s L R bl cap base w J true∧J<L.length
def Con (f:Nat)(v:Lvl)(N:Nat):Prop:=
 ∀ (w:World) (I:Nat),I<L.length→L.length - I≤N→St s L R bl cap base w I false →
  Calls Tryz.prog f #[.pointer (some ⟨R,0,none⟩)] w fun e w'=>∃ (o:Out) (pa:Option Addr),e=.returned (.pointer pa)∧D s L v I o∧Keep R w w'∧zGI s L R bl cap base w.heap.size w' o (.pointer pa)
end
def Ends (L:List Tok):Prop:=∃ m,L.length=m+1∧(L.getD m default).last=true
theorem Ends.next {L:List Tok}(h:Ends L){i:Nat}(hi:i<L.length)(h1:kd L i≠101)(h2:kd L i≠33):i+1<L.length:=by
 obtain⟨m,hm,hl⟩:=h
 rcases Nat.lt_or_ge i m with h' | h'
 ·omega
 ·obtain rfl:i=m:=by omega
  simp[Tok.last] at hl
  rcases hl with hl | hl
  ·exact absurd hl h1
  ·exact absurd hl h2
theorem Ends.at_lt {s:ByteArray}{L:List Tok}(h:Ends L){v:Lvl}{I:Nat}{o:Out}(hd:D s L v I o)(hI:I<L.length):I≤o.at∧o.at<L.length:=by
 obtain⟨m,hm,hl⟩:=h
 have:=hd.le hm hl (by omega)
 omega
theorem zDT {s:ByteArray}{L:List Tok}{v:Lvl}{I J:Nat}{ts:List Tree}(h:D s L v I (.ok ts J))(hv:v.tail=false):I<J:=h.grow.2 hv rfl
theorem zBE {w:World}{cs:Array Value}{t:TypeId}:(w.alloc (.cells cs t)).heap[w.heap.size]?=some (.cells cs t (0,0)):=heap_alloc_new w _
theorem zF5 {lo R:Nat}{w:World}(o o':Obj)(hR:R<lo):zOV (From lo) (From lo) w ((w.alloc o).alloc o'):=fun b hb hs=>⟨hb,(((Keep.refl R w).alloc o).alloc o').block b hs (fun e=>by have hb:lo≤b:=hb;omega)⟩
theorem zMH {lo R:Nat}{w:World}{va vb:Value}{k p:Nat}{a b:Tree}(hb:lo≤w.heap.size)(hR:R<lo)(ha:zA9 (From lo) w a va)(hb':zA9 (From lo) w b vb):
  zA9 (From lo) ((w.alloc (.cells #[va,vb] 31)).alloc (.cells #[.int .u8 k,.int .i64 p,.int .i64 0,.string zAK,.string zAK,.slice (some ⟨w.heap.size,0,none⟩) 2 2] 121)) (.bin k p a b) (.pointer (some ⟨w.heap.size+1,0,none⟩)):=by
 unfold zA9
 refine⟨va,vb,⟨w.heap.size+1,_,rfl,by show lo≤_;omega,?_,.inr ⟨w.heap.size,2,#[va,vb],rfl,hb,zA3 zBE,by simp,by unfold maxLen;omega,rfl,rfl⟩⟩,ha.moves (zF5 _ _ hR),hb'.moves (zF5 _ _ hR)⟩
 have:=zBE (w:=w.alloc (.cells #[va,vb] 31)) (cs:=#[.int .u8 k,.int .i64 p,.int .i64 0,.string zAK,.string zAK,.slice (some ⟨w.heap.size,0,none⟩) 2 2]) (t:=121)
 simpa using this
section
variable {s:ByteArray} {L:List Tok} {R bl cap base:Nat}
set_option maxRecDepth 1000000 in
set_option maxHeartbeats 2000000 in
theorem product_of (hE:Ends L){N:Nat}(hmin:Con s L R bl cap base 198 .minus N):Con s L R bl cap base 154 .prod N:=by
 intro w I hI hN hst
 have hm0:=hmin w I hI hN hst
 have HM:Hid (Con s L R bl cap base 198 .minus N):=hmin
 have HE:Hid (Ends L):=hE
 have hlen:=hst.len
 have lRw:R<w.heap.size:=zA2 hst.rd
 clear hmin hE
 go_enter Tryz.func154,Tryz.ntmps154
 go_wp2_with fail
 refine hm0.mono ?_
 rintro e w1 ⟨o,va,rfl,hD,hk,ha⟩
 clear hm0
 have HD:Hid (D s L .minus I o):=hD
 have HK:Hid (Keep R w w1):=hk
 have HA:Hid (zGI s L R bl cap base w.heap.size w1 o (.pointer va)):=ha
 have HS:Hid (St s L R bl cap base w I false):=hst
 clear hD hk ha hst
 go_wp2_with fail
 go_loopw [3] (fun v wr=>∃ pa:Option Addr,v=.pointer pa∧Hid (Keep R w wr)∧((∃ (J:Nat) (t:Tree),Hid (St s L R bl cap base wr J false)∧J<L.length∧Hid (I<J)∧Hid (zA9 (From w.heap.size) wr t (.pointer pa))∧Hid (∀ o,D s L (.prodT t) J o→D s L .prod I o))∨(∃ J:Nat,Hid (St s L R bl cap base wr J true)∧J<L.length∧Hid (D s L .prod I (.bad J)))))
  (fun _ wr=>zJU wr R L.length)
 case atStart=>
  refine⟨va,rfl,HK,?_⟩
  cases o with
  | ok ts J=>
   obtain⟨h1,h2,t,rfl,h4⟩:=HA.out
   exact .inl ⟨J,t,h1,h2,zDT HD.out rfl,h4,fun o ho=>.prGo HD.out ho⟩
  | bad J=>exact .inr ⟨J,HA.out.1,HA.out.2,.prBad HD.out⟩
 case round=>
  obtain⟨pa,rfl,HK1,hrel⟩:=hrel
  rcases hrel with⟨J,t,HS1,hJ,HJ,HN,HC⟩ | ⟨J,HS1,hJ,HB⟩
  ·have c2:wr.cell? ⟨R,2,none⟩=some (.bool false):=zA0 HS1.out.rd rfl
   have hcs:(((kd L J:Int) != 42)=true∧((kd L J:Int) != 47)=true∧Hid (¬ (kd L J=42∨kd L J=47)))∨((((kd L J:Int) != 42)=false∨(((kd L J:Int) != 42)=true∧((kd L J:Int) != 47)=false))∧Hid (kd L J=42∨kd L J=47)):=by
    by_cases h1:kd L J=42
    ·exact .inr ⟨.inl (by simp[h1]),.inl h1⟩
    ·by_cases h2:kd L J=47
     ·exact .inr ⟨.inr ⟨by simp;omega,by simp[h2]⟩,.inr h2⟩
     ·exact .inl ⟨by simp;omega,by simp;omega,by show ¬ _;omega⟩
   go_wp2_with fail
   refine(zEG HS1.out hJ).mono ?_
   rintro e w2 ⟨rfl,q,rfl⟩
   rcases hcs with⟨h1,h2,HQ⟩ | ⟨hcs,HQ⟩
   ·go_wp2
    go_ret
    exact⟨.ok [t] J,_,rfl,HC.out _ (.ptEnd HQ.out),HK1.out.drewN q,HS1.out.drewN q,hJ,t,rfl,HN.out.kept ((Keep.refl R wr).drewN q) lRw (Nat.le_refl _)⟩
   have hJ1:J+1<L.length:=HE.out.next hJ (by have:=HQ.out;omega) (by have:=HQ.out;omega)
   have htk:=zAV (HS1.out.drewN q) hJ (k:=kd L J) rfl
   rcases hcs with h1 | ⟨h1,h2⟩
   all_goals
    go_wp2_with fail
    refine htk.mono ?_
    rintro e w3 ⟨rfl,hs3,hk3⟩
    have HKA:Hid (Keep R wr w3):=((Keep.refl R wr).drewN q).trans hk3
    have HS3:Hid (St s L R bl cap base w3 (J+1) false):=hs3
    have sz3:=hs3.size
    have lR:R<w3.heap.size:=zA2 hs3.rd
    clear hs3 hk3
    go_wp2_with fail
    refine(HM.out _ (J+1) hJ1 (by have:=HJ.out;omega) (HS3.out.alloc _)).mono ?_
    rintro e w5 ⟨o,vb,rfl,hD5,hk5,ha5⟩
    have c5:w5.cell? ⟨w3.heap.size,1,none⟩=some (.int .i64 (pl L J)):=hk5.cell (World.cell?_alloc_at (w:=w3) _ _ _ _ rfl) (by simp;omega)
    have HD5:Hid (D s L .minus (J+1) o):=hD5
    have HK5:Hid (Keep R wr w5):=(HKA.out.alloc _).trans hk5
    have HA5:Hid (zGI s L R bl cap base (w3.heap.size+1) w5 o (.pointer vb)):=by simp at ha5;exact ha5
    clear hD5 hk5 ha5
    go_wp2_with fail
    go_roundw
    case rel=>
     refine⟨_,rfl,(HK1.out.trans HK5.out |>.alloc _).alloc _,?_⟩
     cases o with
     | ok ts K=>
      obtain⟨g1,g2,b,rfl,g4⟩:=HA5.out
      have hle:=HE.out.at_lt HD5.out hJ1
      refine .inl ⟨K,.bin (kd L J) (pl L J) t b,(g1.alloc _).alloc _,g2,?_,zMH (by have:=HK1.out.size;have:=HK5.out.size;omega) lRw (HN.out.kept HK5.out lRw (Nat.le_refl _)) (g4.kept (Keep.refl R w5) (by omega) (by have:=HK1.out.size;have:=HKA.out.size;omega)),fun o ho=>HC.out _ (.ptGo HQ.out HD5.out ho)⟩
      have:=HJ.out
      simp[Out.at] at hle
      show _<_
      omega
     | bad K=>exact .inr ⟨K,(HA5.out.1.alloc _).alloc _,HA5.out.2,HC.out _ (.ptBad HQ.out HD5.out)⟩
    case measure=>
     rw[zDF HS1.out.rd]
     cases o with
     | ok ts K=>
      obtain⟨g1,g2,b,rfl,g4⟩:=HA5.out
      have hle:=HE.out.at_lt HD5.out hJ1
      rw[zDF (((g1.alloc _).alloc _).rd)]
      simp[Out.at] at hle
      omega
     | bad K=>
      rw[zHV (((HA5.out.1.alloc _).alloc _).rd)]
      omega
  ·have c2:wr.cell? ⟨R,2,none⟩=some (.bool true):=zA0 HS1.out.rd rfl
   go_wp2
   go_ret
   exact⟨.bad J,_,rfl,HB.out,HK1.out,HS1.out,hJ⟩
end
section
variable {s:ByteArray} {L:List Tok} {R bl cap base:Nat}
set_option maxRecDepth 1000000 in
set_option maxHeartbeats 2000000 in
theorem sum_of (hE:Ends L){N:Nat}(hprod:Con s L R bl cap base 154 .prod N):Con s L R bl cap base 113 .sum N:=by
 intro w I hI hN hst
 have hm0:=hprod w I hI hN hst
 have HM:Hid (Con s L R bl cap base 154 .prod N):=hprod
 have HE:Hid (Ends L):=hE
 have hlen:=hst.len
 have lRw:R<w.heap.size:=zA2 hst.rd
 clear hprod hE
 go_enter Tryz.func113,Tryz.ntmps113
 go_wp2_with fail
 refine hm0.mono ?_
 rintro e w1 ⟨o,va,rfl,hD,hk,ha⟩
 clear hm0
 have HD:Hid (D s L .prod I o):=hD
 have HK:Hid (Keep R w w1):=hk
 have HA:Hid (zGI s L R bl cap base w.heap.size w1 o (.pointer va)):=ha
 have HS:Hid (St s L R bl cap base w I false):=hst
 clear hD hk ha hst
 go_wp2_with fail
 go_loopw [3] (fun v wr=>∃ pa:Option Addr,v=.pointer pa∧Hid (Keep R w wr)∧((∃ (J:Nat) (t:Tree),Hid (St s L R bl cap base wr J false)∧J<L.length∧Hid (I<J)∧Hid (zA9 (From w.heap.size) wr t (.pointer pa))∧Hid (∀ o,D s L (.sumT t) J o→D s L .sum I o))∨(∃ J:Nat,Hid (St s L R bl cap base wr J true)∧J<L.length∧Hid (D s L .sum I (.bad J)))))
  (fun _ wr=>zJU wr R L.length)
 case atStart=>
  refine⟨va,rfl,HK,?_⟩
  cases o with
  | ok ts J=>
   obtain⟨h1,h2,t,rfl,h4⟩:=HA.out
   exact .inl ⟨J,t,h1,h2,zDT HD.out rfl,h4,fun o ho=>.suGo HD.out ho⟩
  | bad J=>exact .inr ⟨J,HA.out.1,HA.out.2,.suBad HD.out⟩
 case round=>
  obtain⟨pa,rfl,HK1,hrel⟩:=hrel
  rcases hrel with⟨J,t,HS1,hJ,HJ,HN,HC⟩ | ⟨J,HS1,hJ,HB⟩
  ·have c2:wr.cell? ⟨R,2,none⟩=some (.bool false):=zA0 HS1.out.rd rfl
   have hcs:(((kd L J:Int) != 43)=true∧((kd L J:Int) != 45)=true∧Hid (¬ (kd L J=43∨kd L J=45)))∨((((kd L J:Int) != 43)=false∨(((kd L J:Int) != 43)=true∧((kd L J:Int) != 45)=false))∧Hid (kd L J=43∨kd L J=45)):=by
    by_cases h1:kd L J=43
    ·exact .inr ⟨.inl (by simp[h1]),.inl h1⟩
    ·by_cases h2:kd L J=45
     ·exact .inr ⟨.inr ⟨by simp;omega,by simp[h2]⟩,.inr h2⟩
     ·exact .inl ⟨by simp;omega,by simp;omega,by show ¬ _;omega⟩
   go_wp2_with fail
   refine(zEG HS1.out hJ).mono ?_
   rintro e w2 ⟨rfl,q,rfl⟩
   rcases hcs with⟨h1,h2,HQ⟩ | ⟨hcs,HQ⟩
   ·go_wp2
    go_ret
    exact⟨.ok [t] J,_,rfl,HC.out _ (.stEnd HQ.out),HK1.out.drewN q,HS1.out.drewN q,hJ,t,rfl,HN.out.kept ((Keep.refl R wr).drewN q) lRw (Nat.le_refl _)⟩
   have hJ1:J+1<L.length:=HE.out.next hJ (by have:=HQ.out;omega) (by have:=HQ.out;omega)
   have htk:=zAV (HS1.out.drewN q) hJ (k:=kd L J) rfl
   rcases hcs with h1 | ⟨h1,h2⟩
   all_goals
    go_wp2_with fail
    refine htk.mono ?_
    rintro e w3 ⟨rfl,hs3,hk3⟩
    have HKA:Hid (Keep R wr w3):=((Keep.refl R wr).drewN q).trans hk3
    have HS3:Hid (St s L R bl cap base w3 (J+1) false):=hs3
    have sz3:=hs3.size
    have lR:R<w3.heap.size:=zA2 hs3.rd
    clear hs3 hk3
    go_wp2_with fail
    refine(HM.out _ (J+1) hJ1 (by have:=HJ.out;omega) (HS3.out.alloc _)).mono ?_
    rintro e w5 ⟨o,vb,rfl,hD5,hk5,ha5⟩
    have c5:w5.cell? ⟨w3.heap.size,1,none⟩=some (.int .i64 (pl L J)):=hk5.cell (World.cell?_alloc_at (w:=w3) _ _ _ _ rfl) (by simp;omega)
    have HD5:Hid (D s L .prod (J+1) o):=hD5
    have HK5:Hid (Keep R wr w5):=(HKA.out.alloc _).trans hk5
    have HA5:Hid (zGI s L R bl cap base (w3.heap.size+1) w5 o (.pointer vb)):=by simp at ha5;exact ha5
    clear hD5 hk5 ha5
    go_wp2_with fail
    go_roundw
    case rel=>
     refine⟨_,rfl,(HK1.out.trans HK5.out |>.alloc _).alloc _,?_⟩
     cases o with
     | ok ts K=>
      obtain⟨g1,g2,b,rfl,g4⟩:=HA5.out
      have hle:=HE.out.at_lt HD5.out hJ1
      refine .inl ⟨K,.bin (kd L J) (pl L J) t b,(g1.alloc _).alloc _,g2,?_,zMH (by have:=HK1.out.size;have:=HK5.out.size;omega) lRw (HN.out.kept HK5.out lRw (Nat.le_refl _)) (g4.kept (Keep.refl R w5) (by omega) (by have:=HK1.out.size;have:=HKA.out.size;omega)),fun o ho=>HC.out _ (.stGo HQ.out HD5.out ho)⟩
      have:=HJ.out
      simp[Out.at] at hle
      show _<_
      omega
     | bad K=>exact .inr ⟨K,(HA5.out.1.alloc _).alloc _,HA5.out.2,HC.out _ (.stBad HQ.out HD5.out)⟩
    case measure=>
     rw[zDF HS1.out.rd]
     cases o with
     | ok ts K=>
      obtain⟨g1,g2,b,rfl,g4⟩:=HA5.out
      have hle:=HE.out.at_lt HD5.out hJ1
      rw[zDF (((g1.alloc _).alloc _).rd)]
      simp[Out.at] at hle
      omega
     | bad K=>
      rw[zHV (((HA5.out.1.alloc _).alloc _).rd)]
      omega
  ·have c2:wr.cell? ⟨R,2,none⟩=some (.bool true):=zA0 HS1.out.rd rfl
   go_wp2
   go_ret
   exact⟨.bad J,_,rfl,HB.out,HK1.out,HS1.out,hJ⟩
end
theorem node_three {lo R:Nat}{w:World}{va vb vc:Value}{p:Nat}{a b c:Tree}(hb:lo≤w.heap.size)(hR:R<lo)(ha:zA9 (From lo) w a va)(hb':zA9 (From lo) w b vb)(hc:zA9 (From lo) w c vc):
  zA9 (From lo) ((w.alloc (.cells #[va,vb,vc] 31)).alloc (.cells #[.int .u8 63,.int .i64 p,.int .i64 0,.string zAK,.string zAK,.slice (some ⟨w.heap.size,0,none⟩) 3 3] 121)) (.ite p a b c) (.pointer (some ⟨w.heap.size+1,0,none⟩)):=by
 unfold zA9
 refine⟨va,vb,vc,⟨w.heap.size+1,_,rfl,by show lo≤_;omega,?_,.inr ⟨w.heap.size,3,#[va,vb,vc],rfl,hb,zA3 zBE,by simp,by unfold maxLen;omega,rfl,rfl⟩⟩,ha.moves (zF5 _ _ hR),hb'.moves (zF5 _ _ hR),hc.moves (zF5 _ _ hR)⟩
 have:=zBE (w:=w.alloc (.cells #[va,vb,vc] 31)) (cs:=#[.int .u8 63,.int .i64 p,.int .i64 0,.string zAK,.string zAK,.slice (some ⟨w.heap.size,0,none⟩) 3 3]) (t:=121)
 simpa using this
section
variable {s:ByteArray} {L:List Tok} {R bl cap base:Nat}
set_option maxRecDepth 1000000 in
set_option maxHeartbeats 2000000 in
theorem compare_of (hE:Ends L){N:Nat}(hsum:Con s L R bl cap base 113 .sum N):Con s L R bl cap base 90 .compare N:=by
 intro w I hI hN hst
 have hm0:=hsum w I hI hN hst
 have HM:Hid (Con s L R bl cap base 113 .sum N):=hsum
 have HE:Hid (Ends L):=hE
 have hlen:=hst.len
 have lRw:R<w.heap.size:=zA2 hst.rd
 clear hsum hE
 go_enter Tryz.func90,Tryz.ntmps90
 go_wp2_with fail
 refine hm0.mono ?_
 rintro e w1 ⟨o,va,rfl,hD,hk,ha⟩
 clear hm0 hst
 have HD:Hid (D s L .sum I o):=hD
 have HK:Hid (Keep R w w1):=hk
 cases o with
 | bad J=>
  obtain⟨hs1,hJ⟩:=ha
  have HS1:Hid (St s L R bl cap base w1 J true):=hs1
  have c2:w1.cell? ⟨R,2,none⟩=some (.bool true):=zA0 hs1.rd rfl
  clear hD hk hs1
  go_wp2_with fail
  refine(zEG HS1.out hJ).mono ?_
  rintro e w2 ⟨rfl,q,rfl⟩
  go_wp2
  go_ret
  exact⟨.bad J,_,rfl,.cmBad HD.out,HK.out.drewN q,HS1.out.drewN q,hJ⟩
 | ok ts J=>
  obtain⟨hs1,hJ,t,rfl,hn⟩:=ha
  have HS1:Hid (St s L R bl cap base w1 J false):=hs1
  have HN1:Hid (zA9 (From w.heap.size) w1 t (.pointer va)):=hn
  have c2:w1.cell? ⟨R,2,none⟩=some (.bool false):=zA0 hs1.rd rfl
  clear hD hk hs1 hn
  have hcs:(((kd L J:Int) != 60)=true∧((kd L J:Int) != 62)=true∧((kd L J:Int) != 61)=true∧Hid (¬ (kd L J=60∨kd L J=62∨kd L J=61))) ∨
    ((((kd L J:Int) != 60)=false∨(((kd L J:Int) != 60)=true∧((kd L J:Int) != 62)=false)∨(((kd L J:Int) != 60)=true∧((kd L J:Int) != 62)=true∧((kd L J:Int) != 61)=false))∧Hid (kd L J=60∨kd L J=62∨kd L J=61)):=by
   by_cases h1:kd L J=60
   ·exact .inr ⟨.inl (by simp[h1]),.inl h1⟩
   ·by_cases h2:kd L J=62
    ·exact .inr ⟨.inr (.inl ⟨by simp;omega,by simp[h2]⟩),.inr (.inl h2)⟩
    ·by_cases h3:kd L J=61
     ·exact .inr ⟨.inr (.inr ⟨by simp;omega,by simp;omega,by simp[h3]⟩),.inr (.inr h3)⟩
     ·exact .inl ⟨by simp;omega,by simp;omega,by simp;omega,by show ¬ _;omega⟩
  go_wp2_with fail
  refine(zEG HS1.out hJ).mono ?_
  rintro e w2 ⟨rfl,q,rfl⟩
  rcases hcs with⟨h1,h2,h3,HQ⟩ | ⟨hcs,HQ⟩
  ·go_wp2
   go_ret
   exact⟨.ok [t] J,_,rfl,.cmOne HD.out HQ.out,HK.out.drewN q,HS1.out.drewN q,hJ,t,rfl,HN1.out.kept ((Keep.refl R w1).drewN q) lRw (Nat.le_refl _)⟩
  have hJ1:J+1<L.length:=HE.out.next hJ (by have:=HQ.out;omega) (by have:=HQ.out;omega)
  have hIJ:I<J:=zDT HD.out rfl
  have htk:=zAV (HS1.out.drewN q) hJ (k:=kd L J) rfl
  rcases hcs with h1 | ⟨h1,h2⟩ | ⟨h1,h2,h3⟩
  all_goals
   go_wp2_with fail
   refine htk.mono ?_
   rintro e w3 ⟨rfl,hs3,hk3⟩
   have HKA:Hid (Keep R w1 w3):=((Keep.refl R w1).drewN q).trans hk3
   have HS3:Hid (St s L R bl cap base w3 (J+1) false):=hs3
   have sz3:=hs3.size
   have lR:R<w3.heap.size:=zA2 hs3.rd
   clear hs3 hk3
   go_wp2_with fail
   refine(HM.out _ (J+1) hJ1 (by omega) (HS3.out.alloc _)).mono ?_
   rintro e w5 ⟨o,vb,rfl,hD5,hk5,ha5⟩
   have c5:w5.cell? ⟨w3.heap.size,1,none⟩=some (.int .i64 (pl L J)):=hk5.cell (World.cell?_alloc_at (w:=w3) _ _ _ _ rfl) (by simp;omega)
   have HD5:Hid (D s L .sum (J+1) o):=hD5
   have HK5:Hid (Keep R w1 w5):=(HKA.out.alloc _).trans hk5
   have HA5:Hid (zGI s L R bl cap base (w3.heap.size+1) w5 o (.pointer vb)):=by simp at ha5;exact ha5
   clear hD5 hk5 ha5
   go_wp2_with fail
   go_ret
   cases o with
   | ok ts K=>
    obtain⟨g1,g2,b,rfl,g4⟩:=HA5.out
    exact⟨.ok [.bin (kd L J) (pl L J) t b] K,_,rfl,.cmTwo HD.out HQ.out HD5.out,((HK.out.trans HK5.out).alloc _).alloc _,(g1.alloc _).alloc _,g2,_,rfl,zMH (by have:=HK.out.size;have:=HK5.out.size;omega) lRw (HN1.out.kept HK5.out lRw (Nat.le_refl _)) (g4.kept (Keep.refl R w5) (by omega) (by have:=HK.out.size;have:=HKA.out.size;omega))⟩
   | bad K=>exact⟨.bad K,_,rfl,.cmB1 HD.out HQ.out HD5.out,((HK.out.trans HK5.out).alloc _).alloc _,(HA5.out.1.alloc _).alloc _,HA5.out.2⟩
end
end Go.Proofs.YtbokdbaagacnlaaGreatDoor
