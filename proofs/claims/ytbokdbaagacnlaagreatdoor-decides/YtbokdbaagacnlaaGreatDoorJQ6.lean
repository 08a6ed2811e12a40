import Derived.Test.YtbokdbaagacnlaaGreatDoorJQ5
import Derived.Shelf.Strings.FuncGrows
namespace Go.Proofs.YtbokdbaagacnlaaGreatDoor
open Go.RowKit Go.Lib
def digR (x:Nat):Bool:=decide (48≤x) && decide (x≤57)
def zJ3 (x:Nat):Bool:=isLetterU x || isDigitU x
set_option maxRecDepth 100000 in
theorem zIU (x:Nat)(w:World):Calls Tryz.prog 160 #[.int .i32 x] w fun e w'=>e=.returned (.bool (digR x))∧Below w.heap.size w w':=by
 have hcs:(digR x=true∧(48:Int)≤(x:Int)∧(x:Int)≤57)∨(digR x=false∧(48:Int)≤(x:Int)∧¬ (x:Int)≤57)∨(digR x=false∧¬ (48:Int)≤(x:Int)):=by
  simp[digR]
  omega
 rcases hcs with⟨e,q1,q2⟩ | ⟨e,q1,q2⟩ | ⟨e,q1⟩
 all_goals
  rw[e]
  clear e
  go_enter Tryz.func160,Tryz.ntmps160
  go_wp2
  go_ret
  exact⟨rfl,Below.refl _ _⟩
set_option maxRecDepth 100000 in
theorem zKA (x:Nat)(hx:x≤1114111)(w:World)(hT:Tabs w):Calls Tryz.prog 163 #[.int .i32 x] w fun e w'=>e=.returned (.bool (zJ3 x))∧Below w.heap.size w w':=by
 have hl:=Tryz.unicode_IsLetter_all x w (by omega) (by omega) hT.props hT.letter
 have hd:=fun W hW=>Tryz.unicode_IsDigit_all x W (by omega) (by omega) (Tabs.digit (Tabs.below hT hW))
 have hN:zJ3 x=(isLetterU x || isDigitU x):=rfl
 rw[hN]
 clear hN
 generalize isLetterU (x:Int)=A at hl ⊢
 generalize isDigitU (x:Int)=B at hd ⊢
 cases A with
 | true=>
  go_enter Tryz.func163,Tryz.ntmps163
  go_wp2_with (first | (go_at_call 152;refine hl.mono ?_;rintro e w1 ⟨rfl,hb1⟩))
  go_ret
  exact⟨rfl,hb1⟩
 | false=>
  go_enter Tryz.func163,Tryz.ntmps163
  go_wp2_with (first | (go_at_call 152;refine hl.mono ?_;rintro e w1 ⟨rfl,hb1⟩;have hd1:=hd w1 hb1) | (go_at_call 153;refine hd1.mono ?_;rintro e w2 ⟨rfl,hb2⟩))
  go_ret
  exact⟨by cases B <;> rfl,below_size hb1 hb2⟩
set_option maxRecDepth 100000 in
theorem zIT (k n m:Nat)(w:World):Calls Tryz.prog 162 #[.int .i64 k,.int .i64 n,.int .i64 m] w fun e w'=>e=.returned (.int .i64 (if m<n then 4 else k:Nat))∧w'=w:=by
 by_cases h:m<n
 ·have q:(m:Int)<(n:Int):=by omega
  rw[if_pos h]
  go_enter Tryz.func162,Tryz.ntmps162
  go_wp2
  go_ret
  exact⟨rfl,rfl⟩
 ·have q:¬ (m:Int)<(n:Int):=by omega
  rw[if_neg h]
  go_enter Tryz.func162,Tryz.ntmps162
  go_wp2
  go_ret
  exact⟨rfl,rfl⟩
def Fits (g:Nat)(p:Nat→Bool)(w:World):Prop:=(∀ args W,(callFunc g args).run Tryz.prog W=.ok (.enter g args) W)∧∀ (W:World) (x:Nat),x≤1114111→Below w.heap.size w W→Calls Tryz.prog g #[.int .i32 x] W fun e w'=>e=.returned (.bool (p x))∧Below W.heap.size W w'
set_option maxRecDepth 100000 in
theorem code_not (g:Nat)(p:Nat→Bool)(w:World)(hg:Fits g p w)(B:Nat)(W:World)(hb:Below w.heap.size w W)(hB:W.cell? ⟨B,0,none⟩=some (.func (.func g) #[] #[])):
  PredGrows Tryz.prog 203 #[.pointer (some ⟨B,0,none⟩)] (fun x=>!p x) W:=by
 intro W1 x hx hb1
 have hc:=(hb1.cell (p:=⟨B,0,none⟩) (World.block_lt_of_cell? _ _ hB)).trans hB
 have hcall:=hg.2 W1 x hx (below_size hb hb1)
 have heg:=hg.1
 show Calls Tryz.prog 203 #[.int .i32 x,.pointer (some ⟨B,0,none⟩)] W1 _
 obtain⟨b,hpx⟩:∃ b,p x=b:=⟨_,rfl⟩
 rw[hpx] at hcall
 have HPX:Hid (p x=b):=hpx
 clear hpx
 clear hg hB hb hb1
 go_enter Tryz.func203,Tryz.ntmps203
 go_wp2_with fail
 refine hcall.mono ?_
 rintro e w2 ⟨rfl,hb2⟩
 cases b
 all_goals
  go_wp2
  go_ret
  refine⟨?_,hb2⟩
  have e:=HPX.out
  show _=Ending.returned (.bool (!p x))
  rw[e]
  rfl
def zJS (p:Nat→Bool)(t:ByteArray):Int:=idxFunc (fun x=>!p x) true t
def zHS (p:Nat→Bool)(t:ByteArray):ByteArray:=if zJS p t<0 then t else t.extract 0 (zJS p t).toNat
set_option maxRecDepth 100000 in
theorem zQR (t:ByteArray)(g:Nat)(p:Nat→Bool)(w:World)(hg:Fits g p w):
  Calls Tryz.prog 161 #[.string t,.func (.func g) #[] #[]] w fun e w'=>e=.returned (.string (zHS p t))∧Below w.heap.size w w':=by
 have hb0:Below w.heap.size w (w.alloc (.cells #[.func (.func g) #[] #[]] 328)):=(Below.refl _ _).alloc (Nat.le_refl _) _
 have hC:=Tryz.strings_IndexFunc_grows 203 #[.pointer (some ⟨w.heap.size,0,none⟩)] (enters_of Tryz.func203 (by kernel_rfl) rfl) (fun x=>!p x) t (w.alloc (.cells #[.func (.func g) #[] #[]] 328)) (code_not g p w hg w.heap.size _ hb0 (by simp))
 have hr:=idxFunc_range (fun x=>!p x) true t
 have hR:zHS p t=(if zJS p t<0 then t else t.extract 0 (zJS p t).toNat):=rfl
 have hI:zJS p t=idxFunc (fun x=>!p x) true t:=rfl
 rw[←hI] at hC hr
 rw[hR]
 clear hI hR hg
 generalize zJS p t=n at hC hr ⊢
 have HB0:Hid (Below w.heap.size w (w.alloc (.cells #[.func (.func g) #[] #[]] 328))):=hb0
 clear hb0
 rcases hr with rfl | ⟨h1,h2⟩
 ·go_enter Tryz.func161,Tryz.ntmps161
  go_wp2_with (first | (go_at_call 202;refine hC.mono ?_;rintro e w1 ⟨rfl,hb1⟩;have HB1:Hid (Below w.heap.size w w1):=HB0.out.trans (hb1.mono (by simp));clear hb1))
  go_ret
  exact⟨rfl,HB1.out⟩
 ·have q1:¬ n<0:=by omega
  have q2:n≤(t.size:Int):=by omega
  rw[if_neg q1]
  go_enter Tryz.func161,Tryz.ntmps161
  go_wp2_with (first | (go_at_call 202;refine hC.mono ?_;rintro e w1 ⟨rfl,hb1⟩;have HB1:Hid (Below w.heap.size w w1):=HB0.out.trans (hb1.mono (by simp));clear hb1))
  go_ret
  exact⟨rfl,HB1.out⟩
end Go.Proofs.YtbokdbaagacnlaaGreatDoor
namespace Go.Proofs.YtbokdbaagacnlaaGreatDoor
open Go.Lib
def zCV (p:Nat→Bool)(s:ByteArray):Nat→Nat→Nat
 | 0,k=>k
 | f+1,k=>if k<s.size∧p (Utf8.decode s k).1=true then zCV p s f (k+(Utf8.decode s k).2) else k
theorem zLG (p:Nat→Bool)(s:ByteArray):∀ f k,k≤s.size→k≤zCV p s f k∧zCV p s f k≤s.size
 | 0,k,h=>⟨Nat.le_refl _,h⟩
 | f+1,k,h=>by
  unfold zCV
  split
  ·rename_i hh
   have h1:=width_pos s k
   have h2:=zDP hh.1
   have:=zLG p s f (k+(Utf8.decode s k).2) h2
   omega
  ·exact⟨Nat.le_refl _,h⟩
theorem idx_end (p:Nat→Bool)(s:ByteArray)(i:Nat)(hi:i≤s.size):∀ f pos,i+pos≤s.size→s.size - (i+pos)≤f →
  idxFuncFrom (fun x=>!p x) true (s.extract i s.size) f pos=if zCV p s f (i+pos)<s.size then((zCV p s f (i+pos) - i:Nat):Int) else -1
 | 0,pos,h1,h2=>by
  rw[show zCV p s 0 (i+pos)=i+pos from rfl,if_neg (by omega)]
  rfl
 | f+1,pos,h1,h2=>by
  unfold idxFuncFrom zCV
  rw[tail_size,tail_decode]
  by_cases hlt:i+pos<s.size
  ·rw[if_pos (by omega)]
   cases hp:p (Utf8.decode s (i+pos)).1 with
   | true=>
    have w1:=width_pos s (i+pos)
    have w2:=zDP hlt
    simp only[Bool.not_true,Bool.false_eq_true,if_false,hlt,true_and,if_true]
    rw[idx_end p s i hi f (pos+(Utf8.decode s (i+pos)).2) (by omega) (by omega)]
    simp only[Nat.add_assoc]
   | false=>
    simp only[Bool.not_false,if_true,hlt,Bool.false_eq_true,and_false,if_false]
    congr 1
    omega
  ·rw[if_neg (by omega),if_neg (show ¬ (i+pos<s.size∧_) from fun h=>hlt h.1),if_neg hlt]
theorem zFN (s:ByteArray)(i e:Nat)(he:e≤s.size)(hi:i≤e):(s.extract i s.size).extract 0 (e - i)=s.extract i e:=by
 apply ByteArray.ext
 simp only[ByteArray.data_extract,Array.extract_extract]
 congr 1 <;> omega
theorem run_end (p:Nat→Bool)(s:ByteArray)(i:Nat)(hi:i≤s.size):zHS p (s.extract i s.size)=s.extract i (zCV p s (s.size - i) i):=by
 have h:=idx_end p s i hi (s.size - i) 0 (by omega) (by omega)
 have hle:=zLG p s (s.size - i) i hi
 unfold zHS zJS idxFunc
 rw[tail_size,h]
 simp only[Nat.add_zero]
 split
 ·rw[if_neg (by omega),Int.toNat_natCast,zFN s i _ (by omega) hle.1]
 ·rename_i h
  rw[if_pos (by omega)]
  congr 1
  omega
theorem zQ6 {s:ByteArray}{i:Nat}(h:i<s.size):zBH s i=s[i]:=by
 unfold zBH
 rw[zG3 h]
 rfl
theorem zOD {s:ByteArray}{k:Nat}(h:k<s.size):digR (Utf8.decode s k).1=zEV (zBH s k)∧(zEV (zBH s k)=true→(Utf8.decode s k).2=1):=by
 rw[zQ6 h]
 rcases Nat.lt_or_ge s[k].toNat 128 with ha | ha
 ·rw[decode_ascii s k h ha]
  exact⟨rfl,fun _=>rfl⟩
 ·have:=(decode_high s k h ha).1
  have e1:digR (Utf8.decode s k).1=false:=by simp[digR];omega
  have e2:zEV s[k]=false:=by simp[zEV];omega
  rw[e1,e2]
  exact⟨rfl,fun h=>by cases h⟩
theorem zLF (s:ByteArray):∀ f k,zCV digR s f k=zBD s f k
 | 0,_=>rfl
 | f+1,k=>by
  unfold zCV zBD
  by_cases h:k<s.size
  ·obtain⟨h1,h2⟩:=zOD h
   rw[h1]
   cases hd:zEV (zBH s k) with
   | true=>simp only[h,true_and,if_true];rw[h2 hd,zLF s f (k+1)]
   | false=>simp
  ·simp[h]
theorem zQP (s:ByteArray):∀ f k n,0<n→(zAH s f k n).1=zCV zJ3 s f k
 | 0,_,_,_=>rfl
 | f+1,k,n,hn=>by
  unfold zAH zCV
  have e:zD7 (n == 0) (Utf8.decode s k).1=zJ3 (Utf8.decode s k).1:=by
   have:(n == 0)=false:=by simp;omega
   rw[this]
   simp[zD7,zJ3]
  rw[e]
  split
  ·exact zQP s f _ (n+1) (by omega)
  ·rfl
theorem word_first {s:ByteArray}{i:Nat}(h:i<s.size)(hl:isLetterU (Utf8.decode s i).1=true):(zAF s i).1=zCV zJ3 s (s.size - i) i∧0<(zAF s i).2:=by
 obtain⟨f,hf⟩:∃ f,s.size - i=f+1:=⟨s.size - i - 1,by omega⟩
 have h1:zD7 (0 == 0) (Utf8.decode s i).1=true:=by simp[zD7,hl]
 have h2:zJ3 (Utf8.decode s i).1=true:=by simp[zJ3,hl]
 unfold zAF
 rw[hf]
 unfold zAH zCV
 rw[if_pos ⟨h,h1⟩,if_pos ⟨h,h2⟩]
 refine⟨zQP s f _ 1 (by omega),?_⟩
 have:=zC7 s f (i+(Utf8.decode s i).2) (0+1) (zDP h)
 omega
theorem word_none {s:ByteArray}{i:Nat}(h:i<s.size)(hl:isLetterU (Utf8.decode s i).1=false):(zAF s i).2=0:=by
 obtain⟨f,hf⟩:∃ f,s.size - i=f+1:=⟨s.size - i - 1,by omega⟩
 unfold zAF
 rw[hf]
 unfold zAH
 rw[if_neg (by simp[zD7,hl])]
set_option maxRecDepth 100000 in
set_option maxHeartbeats 4000000 in
theorem zPU (n m b0 b1 b2 b3 c1 c2 c3:Nat)(hm:m≤n)(hw:(decodeN n b0 b1 b2 b3).2≤m)(h1:1<m→c1=b1)(h2:2<m→c2=b2)(h3:3<m→c3=b3):decodeN m b0 c1 c2 c3=decodeN n b0 b1 b2 b3:=by
 revert hw
 have hcs:m=0∨m=1∨m=2∨m=3∨3<m:=by omega
 rcases hcs with rfl | rfl | rfl | rfl | h
 ·have:=decodeN_ge1 n b0 b1 b2 b3;omega
 ·unfold decodeN;intro hw;repeat' split at hw
  all_goals (repeat' split) <;> first | rfl | (exfalso;omega) | omega
 ·obtain rfl:=h1 (by omega)
  unfold decodeN;intro hw;repeat' split at hw
  all_goals (repeat' split) <;> first | rfl | (exfalso;omega) | omega
 ·obtain rfl:=h1 (by omega)
  obtain rfl:=h2 (by omega)
  unfold decodeN;intro hw;repeat' split at hw
  all_goals (repeat' split) <;> first | rfl | (exfalso;omega) | omega
 ·obtain rfl:=h1 (by omega)
  obtain rfl:=h2 (by omega)
  obtain rfl:=h3 (by omega)
  unfold decodeN;intro hw;repeat' split at hw
  all_goals (repeat' split) <;> first | rfl | (exfalso;omega) | omega
theorem zJC (s:ByteArray)(e j:Nat)(hj:j<e):(s.extract 0 e).get! j=s.get! j:=by
 rw[←getD_get!',←getD_get!']
 simp[ByteArray.data_extract,List.getD,hj]
theorem zK7 (s:ByteArray)(e k:Nat)(he:e≤s.size)(hk:k<e)(hw:k+(Utf8.decode s k).2≤e):Utf8.decode (s.extract 0 e) k=Utf8.decode s k:=by
 have hsz:(s.extract 0 e).size=e:=by simp;omega
 rw[decode_at] at hw
 rw[decode_at,decode_at,hsz,zJC s e k hk]
 refine zPU (s.size - k) (e - k) _ _ _ _ _ _ _ (by omega) (by omega) (fun h=>?_) (fun h=>?_) (fun h=>?_)
 ·rw[zJC s e (k+1) (by omega)]
 ·rw[zJC s e (k+2) (by omega)]
 ·rw[zJC s e (k+3) (by omega)]
theorem zLJ (s:ByteArray)(i:Nat):∀ f k n,i≤k→k≤s.size→s.size - k≤f→0<n∨True→∀ e,(zAH s f k n).1=e→e≤s.size→runeCountFrom ((s.extract i s.size).extract 0 (e - i)) f (k - i)=(zAH s f k n).2 - n
 | 0,k,n,_,_,_,_,e,he,_=>by simp[zAH,runeCountFrom]
 | f+1,k,n,h1,h2,h3,_,e,he,h5=>by
  revert he
  unfold zAH runeCountFrom
  have hsz:((s.extract i s.size).extract 0 (e - i)).size=e - i:=by simp;omega
  rw[hsz]
  split
  ·rename_i hh
   intro he
   have w1:=width_pos s k
   have w2:=zDP hh.1
   have hl:=zC7 s f (k+(Utf8.decode s k).2) (n+1) w2
   have hd:Utf8.decode ((s.extract i s.size).extract 0 (e - i)) (k - i)=Utf8.decode s k:=by
    have e1:Utf8.decode (s.extract i s.size) (k - i)=Utf8.decode s k:=by rw[tail_decode];congr 1;omega
    rw[zK7 (s.extract i s.size) (e - i) (k - i) (by rw[tail_size];omega) (by omega) (by rw[e1];omega),e1]
   rw[if_pos (by omega),hd]
   have ih:=zLJ s i f (k+(Utf8.decode s k).2) (n+1) (by omega) w2 (by omega) (.inr trivial) e he h5
   rw[show k+(Utf8.decode s k).2 - i=k - i+(Utf8.decode s k).2 by omega] at ih
   rw[ih]
   omega
  ·intro he
   simp only at he
   rw[if_neg (by omega)]
   simp
end Go.Proofs.YtbokdbaagacnlaaGreatDoor
namespace Go.Proofs.YtbokdbaagacnlaaGreatDoor
open Go.RowKit Go.Lib
def zAB (t:Tok):Nat:=if t.kind=101 then 0 else if t.kind=110 then 2 else if t.kind=97 then 3 else if t.kind=33 then 4 else 1
theorem zPO (c:UInt8):decide (0≤Lib.indexByte [63,58,60,62,61,43,45,42,47,40,41,44] c)=zD4 c:=by
 have h:∀ n:Fin 256,decide (0≤Lib.indexByte [63,58,60,62,61,43,45,42,47,40,41,44] (UInt8.ofNat n.val))=zD4 (UInt8.ofNat n.val):=by decide +kernel
 have:=h ⟨c.toNat,c.toNat_lt⟩
 simpa using this
theorem zE2 (s:ByteArray)(a b:Nat):(s.extract a b).data.toList=(s.data.toList.take b).drop a:=by
 simp[ByteArray.data_extract,List.extract_eq_drop_take']
theorem fits_digit (w:World):Fits 160 digR w:=⟨enters_of Tryz.func160 (by kernel_rfl) rfl,fun W x _ _=>zIU x W⟩
theorem fits_part (w:World)(hT:Tabs w):Fits 163 zJ3 w:=⟨enters_of Tryz.func163 (by kernel_rfl) rfl,fun W x hx hb=>zKA x hx W (hT.below hb)⟩
theorem zLK (s:ByteArray):∀ f g k,s.size - k≤f→s.size - k≤g→runeCountFrom s f k=runeCountFrom s g k
 | 0,g,k,h,_=>by
  cases g with
  | zero=>rfl
  | succ g=>simp[runeCountFrom,show ¬ k<s.size by omega]
 | f+1,0,k,_,h=>by simp[runeCountFrom,show ¬ k<s.size by omega]
 | f+1,g+1,k,hf,hg=>by
  unfold runeCountFrom
  split
  ·have:=width_pos s k
   rw[zLK s f g _ (by omega) (by omega)]
  ·rfl
set_option maxRecDepth 1000000 in
set_option maxHeartbeats 2000000 in
theorem zLM (s:ByteArray)(i:Nat)(hs:s.size≤1000)(hi:i≤s.size)(w:World)(hT:Tabs w):
  Calls Tryz.prog 118 #[.string (s.extract i s.size)] w fun e w'=>∃ tx,e=.returned (.tuple #[.int .i64 (zAB (zAX s i)),.string tx])∧((zAX s i).kind≠33→tx=(zAX s i).text s)∧Below w.heap.size w w':=by
 have HT:Hid (Tabs w):=hT
 clear hT
 rcases Nat.lt_or_ge i s.size with h8 | h8
 rotate_left 1
 ·obtain rfl:i=s.size:=by omega
  have ht:zAX s s.size=⟨101,s.size,s.size⟩:=by simp[zAX]
  rw[zCU,ht]
  go_enter Tryz.func118,Tryz.ntmps118
  go_wp2
  go_ret2
  exact⟨_,rfl,fun _=>(zCU s s.size).symm,Below.refl _ _⟩
 have hdec:=Tryz.utf8_DecodeRuneInString (s.extract i s.size) w HT.out.utf
 rw[zHB h8] at hdec
 obtain⟨t,ht⟩:∃ t,t=s.extract i s.size:=⟨_,rfl⟩
 have hsz:t.size=s.size - i:=by rw[ht,tail_size]
 have h0:0<t.size:=by omega
 have hg0:t[0]=s[i]:=by
  have:t.data.toList[0]?=s.data.toList[i]?:=by rw[ht,zE2];simp[List.getElem?_drop,List.getElem?_take]
  rw[zG3 h0,zG3 h8] at this
  exact Option.some.inj this
 rw[←ht] at hdec ⊢
 have hne:t.toList.isEmpty=false:=by
  have:t.toList.length=t.size:=by rw[ByteArray.toList_eq];simp
  cases h:t.toList with
  | nil=>rw[h] at this;simp at this;omega
  | cons a l=>rfl
 have HX:Hid (t=s.extract i s.size):=ht
 have H0:Hid (t[0]=s[i]):=hg0
 clear ht hg0
 go_enter Tryz.func118,Tryz.ntmps118
 go_wp2_with fail
 refine hdec.mono ?_
 rintro e w1 ⟨rfl,hb1⟩
 have HB1:Hid (Below w.heap.size w w1):=hb1
 clear hdec hb1
 have hidx:=Tryz.strings_IndexByte { data:=#[63,58,60,62,61,43,45,42,47,40,41,44] } (t[0].toNat:Int) w1
 have hix:Lib.indexByte [63,58,60,62,61,43,45,42,47,40,41,44] ((t[0].toNat:Int)).toNat.toUInt8=Lib.indexByte [63,58,60,62,61,43,45,42,47,40,41,44] s[i]:=by
  rw[H0.out]
  simp
 have hidx':Calls Tryz.prog 159 #[.string { data:=#[63,58,60,62,61,43,45,42,47,40,41,44] },.int .u8 (t[0].toNat:Int)] w1 fun e w'=>e=.returned (.int .i64 (Lib.indexByte [63,58,60,62,61,43,45,42,47,40,41,44] s[i]))∧w'=w1:=by
  rw[←hix]
  exact hidx
 have his:=zPO s[i]
 clear hidx hix
 generalize Lib.indexByte [63,58,60,62,61,43,45,42,47,40,41,44] s[i]=n at hidx' his
 have hw1:=width_pos s i
 have hw2:=zDP h8
 go_wp2_with fail
 refine hidx'.mono ?_
 rintro e w2 ⟨rfl,hw⟩
 have hw:=hw.symm
 subst hw
 clear hidx'
 cases hsg:zD4 s[i] with
 | true=>
  have hn:(0:Int)≤n:=by rw[hsg] at his;simpa using his
  have ha:s[i].toNat<128:=by
   rw[zE8] at hsg
   simp only[Bool.or_eq_true,beq_iff_eq] at hsg
   omega
  have hd:Utf8.decode s i=(s[i].toNat,1):=decode_ascii s i h8 ha
  have HTK:Hid (zAX s i=⟨s[i].toNat,i,i+1⟩):=by
   show _=_
   rw[zAX,if_neg (by omega),if_pos (by rw[zDI h8];exact hsg),zDI h8]
  have HCK:Hid (zAB ⟨s[i].toNat,i,i+1⟩=1):=by
   show _=_
   rw[zE8] at hsg
   simp only[Bool.or_eq_true,beq_iff_eq] at hsg
   unfold zAB
   simp only
   rw[if_neg (by omega),if_neg (by omega),if_neg (by omega),if_neg (by omega)]
  rw[hd]
  have q1:(1:Int)≤(t.size:Int):=by omega
  clear his hsg hd ha hw1 hw2
  go_wp2_with fail
  go_region
  all_goals go_wp2
  go_ret2
  refine⟨t.extract 0 1,by rw[HTK.out,HCK.out];rfl,fun _=>?_,HB1.out.drew⟩
  rw[HTK.out,HX.out]
  have:=zFN s i (i+1) (by omega) (by omega)
  rw[show i+1 - i=1 by omega] at this
  exact this
 | false=>
  have hn:¬ (0:Int)≤n:=by rw[hsg] at his;simpa using his
  have HSG:Hid (zD4 (zBH s i)=false):=by rw[zDI h8];exact hsg
  clear his hsg
  have HTs:Hid (Tabs w1):=HT.out.below HB1.out
  obtain⟨hdig,-⟩:=zOD h8
  have hdigc:=zIU (Utf8.decode s i).1 w1
  rw[hdig] at hdigc
  cases hdg:zEV (zBH s i) with
  | true=>
   rw[hdg] at hdigc
   have hlt:i<zCQ s i:=by
    obtain⟨f,hf⟩:∃ f,s.size - i=f+1:=⟨s.size - i - 1,by omega⟩
    unfold zCQ
    rw[hf,zBD,if_pos ⟨h8,hdg⟩]
    have:=zGC s f (i+1) (by omega)
    omega
   have hle:=zK6 hi
   have hrun:zHS digR t=s.extract i (zCQ s i):=by rw[HX.out,run_end digR s i hi,zLF];rfl
   have hsize:(s.extract i (zCQ s i)).size=zCQ s i - i:=by simp;omega
   have HTK:Hid (zAX s i=if zCQ s i - i≤9 then⟨110,i,zCQ s i⟩ else⟨33,i,i⟩):=by
    show _=_
    rw[zAX,if_neg (by omega),if_neg (by rw[HSG.out];decide),if_pos hlt]
   clear hdig hdg hw1 hw2
   generalize zCQ s i=E at *
   generalize hU:s.extract i E=U at *
   have HU:Hid (s.extract i E=U):=hU
   clear hU
   go_wp2_with fail
   refine hdigc.mono ?_
   rintro e w2 ⟨rfl,hb2⟩
   have hrc:=zQR t 160 digR w2 (fits_digit w2)
   rw[hrun] at hrc
   have HB2:Hid (Below w.heap.size w w2):=below_size HB1.out hb2
   clear hdigc hb2 hrun
   go_wp2_with fail
   refine hrc.mono ?_
   rintro e w3 ⟨rfl,hb3⟩
   have HB3:Hid (Below w.heap.size w w3):=below_size HB2.out hb3
   clear hrc hb3
   have hlim:=zIT 2 (E - i) 9 w3
   obtain⟨Kk,hKk⟩:∃ K,K=(if 9<E - i then 4 else 2):=⟨_,rfl⟩
   rw[←hKk] at hlim
   have HKk:Hid (Kk=(if 9<E - i then 4 else 2)):=hKk
   clear hKk
   go_wp2_with fail
   refine hlim.mono ?_
   rintro e w4 ⟨rfl,hw⟩
   have hw:=hw.symm
   subst hw
   go_wp2
   go_ret2
   refine⟨U,?_,fun hk=>?_,HB3.out⟩
   ·rw[HTK.out,HKk.out]
    split <;> split <;> first | rfl | (exfalso;omega)
   ·rw[HTK.out] at hk ⊢
    split at hk
    ·rename_i h9
     rw[if_pos h9]
     exact HU.out.symm
    ·exact absurd rfl hk
  | false=>
   rw[hdg] at hdigc
   have hde:zCQ s i=i:=by
    unfold zCQ
    obtain⟨f,hf⟩:∃ f,s.size - i=f+1:=⟨s.size - i - 1,by omega⟩
    rw[hf,zBD,if_neg (by rw[hdg];simp)]
   have HTK:Hid (zAX s i=if (zAF s i).2=0∨12<(zAF s i).2 then⟨33,i,i⟩ else⟨97,i,(zAF s i).1⟩):=by
    show _=_
    rw[zAX,if_neg (by omega),if_neg (by rw[HSG.out];decide),if_neg (by omega)]
   have hrl:=Lib.rune_le s i
   clear hdig hdg hde
   cases hlt:isLetterU ((Utf8.decode s i).1:Int) with
   | true=>
    obtain⟨hwe,hwp⟩:=word_first h8 hlt
    have hwl:=zC7 s (s.size - i) i 0 hi
    have hrun:zHS zJ3 t=s.extract i (zAF s i).1:=by rw[HX.out,run_end zJ3 s i hi,hwe]
    have hcnt:Lib.runeCount (s.extract i (zAF s i).1)=(zAF s i).2:=by
     have h5:(zAF s i).1≤s.size:=hwl.2.1
     have h6:i≤(zAF s i).1:=hwl.1
     have hc:=zLJ s i (s.size - i) i 0 (Nat.le_refl _) hi (Nat.le_refl _) (.inr trivial) (zAF s i).1 rfl h5
     rw[zFN s i _ h5 h6,Nat.sub_self] at hc
     unfold Lib.runeCount
     have hz:(s.extract i (zAF s i).1).size=(zAF s i).1 - i:=by simp;omega
     rw[hz]
     have hfu:=zLK (s.extract i (zAF s i).1) ((zAF s i).1 - i) (s.size - i) 0 (by omega) (by omega)
     rw[hfu,hc]
     rfl
    have hletc:=Tryz.unicode_IsLetter_all (Utf8.decode s i).1 w1 (by omega) (by omega)
    rw[hlt] at hletc
    have h13:(zAF s i).1≤s.size:=hwl.2.1
    have h14:i≤(zAF s i).1:=hwl.1
    clear hwl hwe hw1 hw2
    generalize (zAF s i).1=E at *
    generalize (zAF s i).2=M at *
    generalize hU:s.extract i E=U at *
    have HU:Hid (s.extract i E=U):=hU
    have hUs:U.size≤1000:=by rw[←hU];simp;omega
    clear hU
    go_wp2_with fail
    refine hdigc.mono ?_
    rintro e w2 ⟨rfl,hb2⟩
    have HB2:Hid (Below w.heap.size w w2):=below_size HB1.out hb2
    have HT2:Hid (Tabs w2):=HTs.out.below hb2
    clear hdigc hb2 hletc
    have hletc:=Tryz.unicode_IsLetter_all (Utf8.decode s i).1 w2 (by omega) (by omega) HT2.out.props HT2.out.letter
    rw[hlt] at hletc
    go_wp2_with fail
    refine hletc.mono ?_
    rintro e w3 ⟨rfl,hb3⟩
    have HB3:Hid (Below w.heap.size w w3):=below_size HB2.out hb3
    have hrc:=zQR t 163 zJ3 w3 (fits_part w3 (HT2.out.below hb3))
    rw[hrun] at hrc
    clear hletc hb3 hrun
    go_wp2_with fail
    refine hrc.mono ?_
    rintro e w4 ⟨rfl,hb4⟩
    have HB4:Hid (Below w.heap.size w w4):=below_size HB3.out hb4
    have hct:=Tryz.utf8_RuneCountInString U w4 (by omega)
    rw[hcnt] at hct
    clear hrc hb4 hcnt
    go_wp2_with fail
    refine hct.mono ?_
    rintro e w5 ⟨rfl,pos,hw⟩
    have HB5:Hid (Below w.heap.size w w5):=by
     rw[hw]
     exact HB4.out.alloc HB4.out.size _
    clear hw hct
    have hlim:=zIT 3 M 12 w5
    obtain⟨Kk,hKk⟩:∃ K,K=(if 12<M then 4 else 3):=⟨_,rfl⟩
    rw[←hKk] at hlim
    have HKk:Hid (Kk=(if 12<M then 4 else 3)):=hKk
    clear hKk
    go_wp2_with fail
    refine hlim.mono ?_
    rintro e w6 ⟨rfl,hw⟩
    have hw:=hw.symm
    subst hw
    go_wp2
    go_ret2
    refine⟨U,?_,fun hk=>?_,HB5.out⟩
    ·rw[HTK.out,HKk.out]
     split <;> split <;> first | rfl | (exfalso;omega)
    ·rw[HTK.out] at hk ⊢
     split at hk
     ·exact absurd rfl hk
     ·rename_i h9
      rw[if_neg h9]
      exact HU.out.symm
   | false=>
    have hz:=word_none h8 hlt
    have HTZ:Hid (zAX s i=⟨33,i,i⟩):=by
     show _=_
     rw[HTK.out,if_pos (.inl hz)]
    clear HTK hz
    have q1:(0:Int)≤((Utf8.decode s i).2:Int):=by omega
    have q2:((Utf8.decode s i).2:Int)≤(t.size:Int):=by omega
    go_wp2_with fail
    refine hdigc.mono ?_
    rintro e w2 ⟨rfl,hb2⟩
    have HB2:Hid (Below w.heap.size w w2):=below_size HB1.out hb2
    have HT2:Hid (Tabs w2):=HTs.out.below hb2
    clear hdigc hb2
    have hletc:=Tryz.unicode_IsLetter_all (Utf8.decode s i).1 w2 (by omega) (by omega) HT2.out.props HT2.out.letter
    rw[hlt] at hletc
    go_wp2_with fail
    refine hletc.mono ?_
    rintro e w3 ⟨rfl,hb3⟩
    have HB3:Hid (Below w.heap.size w w3):=below_size HB2.out hb3
    clear hletc hb3
    go_wp2_with fail
    go_region
    all_goals go_wp2
    go_ret2
    exact⟨_,by rw[HTZ.out];rfl,fun hk=>absurd (by rw[HTZ.out]) hk,HB3.out.drew⟩
end Go.Proofs.YtbokdbaagacnlaaGreatDoor
