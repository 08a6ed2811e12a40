import Derived.Lib.IsU
import Derived.Lib.RuneCount
import Derived.Lib.SlicesS
import Derived.Test.YtbokdbaagacnlaaGreatDoorJQ1
import Derived.Lib.OwnKind
namespace Go.Proofs.YtbokdbaagacnlaaGreatDoor
open Go.Lib
def zJ7 (b:UInt8):Bool:=b == 32 || b == 9 || b == 10
def zD4 (b:UInt8):Bool:=b == 63 || b == 58 || b == 60 || b == 62 || b == 61 || b == 43 || b == 45 || b == 42 || b == 47 || b == 40 || b == 41 || b == 44
def zEV (b:UInt8):Bool:=decide (48≤b.toNat) && decide (b.toNat≤57)
def zBH (s:ByteArray)(i:Nat):UInt8:=(s.data.toList[i]?).getD 0
def zD7 (first:Bool)(r:Nat):Bool:=isLetterU r || (isDigitU r && !first)
def zBP (s:ByteArray):Nat→Nat→Nat
 | 0,i=>i
 | f+1,i=>if i<s.size∧zJ7 (zBH s i)=true then zBP s f (i+1) else i
def skip (s:ByteArray)(i:Nat):Nat:=zBP s (s.size - i) i
def zBD (s:ByteArray):Nat→Nat→Nat
 | 0,i=>i
 | f+1,i=>if i<s.size∧zEV (zBH s i)=true then zBD s f (i+1) else i
def zCQ (s:ByteArray)(i:Nat):Nat:=zBD s (s.size - i) i
def zAH (s:ByteArray):Nat→Nat→Nat→Nat × Nat
 | 0,i,n=>(i,n)
 | f+1,i,n=>if i<s.size∧zD7 (n == 0) (Utf8.decode s i).1=true then zAH s f (i+(Utf8.decode s i).2) (n+1) else(i,n)
def zAF (s:ByteArray)(i:Nat):Nat × Nat:=zAH s (s.size - i) i 0
structure Tok where
 kind:Nat
 pos:Nat
 stop:Nat
deriving DecidableEq,Inhabited
def zAX (s:ByteArray)(i:Nat):Tok:=
 if s.size≤i then⟨101,s.size,s.size⟩
 else if zD4 (zBH s i)=true then⟨(zBH s i).toNat,i,i+1⟩
 else if i<zCQ s i then(if zCQ s i - i≤9 then⟨110,i,zCQ s i⟩ else⟨33,i,i⟩)
 else if (zAF s i).2=0∨12<(zAF s i).2 then⟨33,i,i⟩ else⟨97,i,(zAF s i).1⟩
def Tok.last (t:Tok):Bool:=t.kind == 101 || t.kind == 33
def zA8 (s:ByteArray)(i:Nat):Tok:=zAX s (skip s i)
def zD6 (s:ByteArray):Nat→Nat→List Tok
 | 0,i=>[zA8 s i]
 | f+1,i=>if (zA8 s i).last=true then[zA8 s i] else zA8 s i :: zD6 s f (zA8 s i).stop
def toks (s:ByteArray):List Tok:=zD6 s s.size 0
def Tok.text (s:ByteArray)(t:Tok):ByteArray:=s.extract t.pos t.stop
def zDO (l:List UInt8):Int:=l.foldl (fun n b=>10 * n+(b.toNat - 48:Int)) 0
def isMeasure (b:ByteArray):Bool:=
 [[115,117,109],[99,111,117,110,116],[108,101,97,115,116],[109,111,115,116],[109,101,97,110],[108,97,115,116]].contains b.toList
inductive Tree where
 | num (pos:Nat) (n:Int)
 | neg (pos:Nat) (a:Tree)
 | bin (sign:Nat) (pos:Nat) (a b:Tree)
 | ite (pos:Nat) (a b c:Tree)
 | meas (pos:Nat) (word metric:ByteArray) (n:Int)
 | probe (pos:Nat) (word:ByteArray) (args:List Tree)
inductive Out where
 | ok (ts:List Tree) (i:Nat)
 | bad (i:Nat)
def Out.at : Out→Nat
 | .ok _ i=>i
 | .bad i=>i
inductive Lvl where
 | choice | compare | sum | sumT (a:Tree) | prod | prodT (a:Tree) | minus | args (acc:List Tree)
section
variable (s:ByteArray) (L:List Tok)
def kd (i:Nat):Nat:=(L.getD i default).kind
def pl (i:Nat):Nat:=(L.getD i default).pos
def tx (i:Nat):ByteArray:=(L.getD i default).text s
inductive D : Lvl→Nat→Out→Prop
 | chBad {I J}:D .compare I (.bad J)→D .choice I (.bad J)
 | chOne {I J a}:D .compare I (.ok [a] J)→kd L J≠63→D .choice I (.ok [a] J)
 | chB1 {I J a K}:D .compare I (.ok [a] J)→kd L J=63→D .choice (J+1) (.bad K)→D .choice I (.bad K)
 | chB2 {I J a b K}:D .compare I (.ok [a] J)→kd L J=63→D .choice (J+1) (.ok [b] K)→kd L K≠58→D .choice I (.bad K)
 | chB3 {I J a b K M}:D .compare I (.ok [a] J)→kd L J=63→D .choice (J+1) (.ok [b] K)→kd L K=58→D .choice (K+1) (.bad M)→D .choice I (.bad M)
 | chIf {I J a b c K M}:D .compare I (.ok [a] J)→kd L J=63→D .choice (J+1) (.ok [b] K)→kd L K=58→D .choice (K+1) (.ok [c] M)→D .choice I (.ok [.ite (pl L J) a b c] M)
 | cmBad {I J}:D .sum I (.bad J)→D .compare I (.bad J)
 | cmOne {I J a}:D .sum I (.ok [a] J)→¬ (kd L J=60∨kd L J=62∨kd L J=61)→D .compare I (.ok [a] J)
 | cmB1 {I J a K}:D .sum I (.ok [a] J)→(kd L J=60∨kd L J=62∨kd L J=61)→D .sum (J+1) (.bad K)→D .compare I (.bad K)
 | cmTwo {I J a b K}:D .sum I (.ok [a] J)→(kd L J=60∨kd L J=62∨kd L J=61)→D .sum (J+1) (.ok [b] K)→D .compare I (.ok [.bin (kd L J) (pl L J) a b] K)
 | suBad {I J}:D .prod I (.bad J)→D .sum I (.bad J)
 | suGo {I J a o}:D .prod I (.ok [a] J)→D (.sumT a) J o→D .sum I o
 | stEnd {a J}:¬ (kd L J=43∨kd L J=45)→D (.sumT a) J (.ok [a] J)
 | stBad {a J K}:(kd L J=43∨kd L J=45)→D .prod (J+1) (.bad K)→D (.sumT a) J (.bad K)
 | stGo {a J b K o}:(kd L J=43∨kd L J=45)→D .prod (J+1) (.ok [b] K)→D (.sumT (.bin (kd L J) (pl L J) a b)) K o→D (.sumT a) J o
 | prBad {I J}:D .minus I (.bad J)→D .prod I (.bad J)
 | prGo {I J a o}:D .minus I (.ok [a] J)→D (.prodT a) J o→D .prod I o
 | ptEnd {a J}:¬ (kd L J=42∨kd L J=47)→D (.prodT a) J (.ok [a] J)
 | ptBad {a J K}:(kd L J=42∨kd L J=47)→D .minus (J+1) (.bad K)→D (.prodT a) J (.bad K)
 | ptGo {a J b K o}:(kd L J=42∨kd L J=47)→D .minus (J+1) (.ok [b] K)→D (.prodT (.bin (kd L J) (pl L J) a b)) K o→D (.prodT a) J o
 | ngBad {I J}:kd L I=45→D .minus (I+1) (.bad J)→D .minus I (.bad J)
 | ngGo {I J a}:kd L I=45→D .minus (I+1) (.ok [a] J)→D .minus I (.ok [.neg (pl L I) a] J)
 | paBad {I J}:kd L I=40→D .choice (I+1) (.bad J)→D .minus I (.bad J)
 | paB1 {I J a}:kd L I=40→D .choice (I+1) (.ok [a] J)→kd L J≠41→D .minus I (.bad J)
 | paGo {I J a}:kd L I=40→D .choice (I+1) (.ok [a] J)→kd L J=41→D .minus I (.ok [a] (J+1))
 | nuGo {I}:kd L I=110→D .minus I (.ok [.num (pl L I) (zDO (tx s L I).data.toList)] (I+1))
 | noGo {I}:¬ (kd L I=45∨kd L I=40∨kd L I=97∨kd L I=110)→D .minus I (.bad I)
 | caB1 {I}:kd L I=97→kd L (I+1)≠40→D .minus I (.bad (I+1))
 | meB2 {I}:kd L I=97→kd L (I+1)=40→isMeasure (tx s L I)=true→kd L (I+2)≠97→D .minus I (.bad (I+2))
 | meB3 {I}:kd L I=97→kd L (I+1)=40→isMeasure (tx s L I)=true→kd L (I+2)=97→kd L (I+3)≠44→D .minus I (.bad (I+3))
 | meB4 {I}:kd L I=97→kd L (I+1)=40→isMeasure (tx s L I)=true→kd L (I+2)=97→kd L (I+3)=44→kd L (I+4)≠110→D .minus I (.bad (I+4))
 | meB5 {I}:kd L I=97→kd L (I+1)=40→isMeasure (tx s L I)=true→kd L (I+2)=97→kd L (I+3)=44→kd L (I+4)=110→kd L (I+5)≠41→D .minus I (.bad (I+5))
 | meGo {I}:kd L I=97→kd L (I+1)=40→isMeasure (tx s L I)=true→kd L (I+2)=97→kd L (I+3)=44→kd L (I+4)=110→kd L (I+5)=41 →
   D .minus I (.ok [.meas (pl L I) (tx s L I) (tx s L (I+2)) (zDO (tx s L (I+4)).data.toList)] (I+6))
 | pbNone {I}:kd L I=97→kd L (I+1)=40→isMeasure (tx s L I)=false→kd L (I+2)=41→D .minus I (.ok [.probe (pl L I) (tx s L I) []] (I+3))
 | pbBad {I J}:kd L I=97→kd L (I+1)=40→isMeasure (tx s L I)=false→kd L (I+2)≠41→D (.args []) (I+2) (.bad J)→D .minus I (.bad J)
 | pbB1 {I J ts}:kd L I=97→kd L (I+1)=40→isMeasure (tx s L I)=false→kd L (I+2)≠41→D (.args []) (I+2) (.ok ts J)→kd L J≠41→D .minus I (.bad J)
 | pbGo {I J ts}:kd L I=97→kd L (I+1)=40→isMeasure (tx s L I)=false→kd L (I+2)≠41→D (.args []) (I+2) (.ok ts J)→kd L J=41→D .minus I (.ok [.probe (pl L I) (tx s L I) ts] (J+1))
 | arBad {acc I J}:D .choice I (.bad J)→D (.args acc) I (.bad J)
 | arEnd {acc I J a}:D .choice I (.ok [a] J)→kd L J≠44→D (.args acc) I (.ok (acc ++ [a]) J)
 | arGo {acc I J a o}:D .choice I (.ok [a] J)→kd L J=44→D (.args (acc ++ [a])) (J+1) o→D (.args acc) I o
end
theorem D.det {s:ByteArray}{L:List Tok}{v:Lvl}{I:Nat}{o o':Out}(h:D s L v I o):D s L v I o'→o=o':=by
 intro h'
 induction h generalizing o' <;> cases h' <;> grind
def Lvl.tail : Lvl→Bool
 | .sumT _=>true
 | .prodT _=>true
 | _=>false
def Out.isOk : Out→Bool
 | .ok _ _=>true
 | .bad _=>false
theorem D.grow {s:ByteArray}{L:List Tok}{v:Lvl}{I:Nat}{o:Out}(h:D s L v I o):I≤o.at∧(v.tail=false→o.isOk=true→I<o.at):=by
 induction h <;> simp only[Out.at,Out.isOk,Lvl.tail] at * <;> grind
theorem kd_lt {L:List Tok}{i k:Nat}(h:kd L i=k)(hk:k≠0):i<L.length:=by
 rcases Nat.lt_or_ge i L.length with h' | h'
 ·exact h'
 ·exfalso
  apply hk
  rw[←h]
  simp[kd,List.getD,List.getElem?_eq_none h',default]
  rfl
theorem D.le {s:ByteArray}{L:List Tok}{m:Nat}(hm:L.length=m+1)(hl:(L.getD m default).last=true){v:Lvl}{I:Nat}{o:Out}(h:D s L v I o):I≤m→I≤o.at∧o.at≤m:=by
 have key:∀ i,i≤m→kd L i≠101→kd L i≠33→i+1≤m:=by
  intro i hi h1 h2
  rcases Nat.lt_or_ge i m with h' | h'
  ·exact h'
  ·obtain rfl:i=m:=by omega
   simp[Tok.last] at hl
   rcases hl with hl | hl
   ·exact absurd hl h1
   ·exact absurd hl h2
 induction h <;> intro hI <;> simp only[Out.at] at * <;> grind
end Go.Proofs.YtbokdbaagacnlaaGreatDoor
namespace Go.Proofs.YtbokdbaagacnlaaGreatDoor
mutual
def mets : Tree→List ByteArray
 | .num _ _=>[]
 | .neg _ a=>mets a
 | .bin _ _ a b=>mets a ++ mets b
 | .ite _ a b c=>mets a ++ mets b ++ mets c
 | .meas _ _ m _=>[m]
 | .probe _ _ ts=>zAL ts
def zAL : List Tree→List ByteArray
 | []=>[]
 | t :: ts=>mets t ++ zAL ts
end
theorem zDJ : ∀ a b,zAL (a ++ b)=zAL a ++ zAL b
 | [],b=>by simp[zAL]
 | t :: a,b=>by simp[zAL,zDJ a b]
def zDG (ms:List ByteArray)(x:ByteArray):List ByteArray:=if Lib.containsS ms x=true then ms else ms ++ [x]
def zAT (ms:List ByteArray)(xs:List ByteArray):List ByteArray:=xs.foldl zDG ms
theorem zNR (ms:List ByteArray)(x:ByteArray):zAT ms [x]=zDG ms x:=rfl
theorem zCB (ms xs ys:List ByteArray):zAT ms (xs ++ ys)=zAT (zAT ms xs) ys:=by simp[zAT]
theorem zFZ (ms:List ByteArray)(x:ByteArray):ms.length≤(zDG ms x).length∧(zDG ms x).length≤ms.length+1:=by
 unfold zDG
 split <;> simp
theorem zIH : ∀ (xs ms:List ByteArray),ms.length≤(zAT ms xs).length∧(zAT ms xs).length≤ms.length+xs.length
 | [],ms=>by simp[zAT]
 | x :: xs,ms=>by
  have h1:=zFZ ms x
  have h2:=zIH xs (zDG ms x)
  have e:zAT ms (x :: xs)=zAT (zDG ms x) xs:=rfl
  rw[e]
  simp only[List.length_cons]
  omega
def Lvl.got : Lvl→List Tree
 | .sumT a=>[a]
 | .prodT a=>[a]
 | .args l=>l
 | _=>[]
def Out.mets : Out→Nat
 | .ok ts _=>(zAL ts).length
 | .bad _=>0
end Go.Proofs.YtbokdbaagacnlaaGreatDoor
namespace Go.Proofs.YtbokdbaagacnlaaGreatDoor
open Go.RowKit Go.Lib
def nodeTys : List Nat:=[291,294,355,278,302,306,226,153]
abbrev ptr (b:Nat):Value:=.pointer (some ⟨b,0,none⟩)
abbrev Hi (lo:Nat):Nat→Prop:=fun b=>lo≤b
mutual
def zAO (P:Nat→Prop)(w:World):Tree→Value→Prop
 | .num _ n,v=>∃ b,v=.iface 288 (ptr b)∧P b∧w.heap[b]?=some (.cells #[.int .i64 n] 291 (0,0))
 | .neg _ a,v=>∃ b va,v=.iface 292 (ptr b)∧P b∧w.heap[b]?=some (.cells #[va] 294 (0,0))∧zAO P w a va
 | .bin k p a c,v=>∃ b va vc,v=.iface 295 (ptr b)∧P b∧w.heap[b]?=some (.cells #[.int .i64 p,.int .u8 k,va,vc] 355 (0,0))∧zAO P w a va∧zAO P w c vc
 | .ite _ a c d,v=>∃ b va vc vd,v=.iface 276 (ptr b)∧P b∧w.heap[b]?=some (.cells #[va,vc,vd] 278 (0,0))∧zAO P w a va∧zAO P w c vc∧zAO P w d vd
 | .meas p word m n,v=>∃ b,v=.iface 298 (ptr b)∧P b∧w.heap[b]?=some (.cells #[.int .i64 p,.string word,.string m,.int .i64 n] 302 (0,0))
 | .probe p word ts,v=>∃ b pv vs,v=.iface 303 (ptr b)∧P b∧w.heap[b]?=some (.cells #[.int .i64 p,.string word,pv] 306 (0,0))∧(w.ownsRow 0 226 1 pv vs.length vs∧∀ g,pv.ownBlock=some g→P g)∧zAU P w ts vs
def zAU (P:Nat→Prop)(w:World):List Tree→List Value→Prop
 | [],vs=>vs=[]
 | t :: ts,vs=>∃ v vs',vs=v :: vs'∧zAO P w t v∧zAU P w ts vs'
end
def zDA (P Q:Nat→Prop)(w w':World):Prop:=∀ b,P b→∀ cs T,w.heap[b]?=some (.cells cs T (0,0))→T∈nodeTys→Q b∧w'.heap[b]?=w.heap[b]?
section
variable {P Q:Nat→Prop} {w w':World}
theorem zDA.heap (h:zDA P Q w w'){b:Nat}{cs:Array Value}{T:Nat}(hP:P b)(hb:w.heap[b]?=some (.cells cs T (0,0)))(hT:T∈nodeTys):w'.heap[b]?=some (.cells cs T (0,0)):=(h b hP cs T hb hT).2.trans hb
theorem zA7 {w w':World}{base e size n:Nat}{v:Value}{xs:List Value}(h:w.ownsRow base e size v n xs)(hb:∀ g,v.ownBlock=some g→w'.heap[g]?=w.heap[g]?):w'.ownsRow base e size v n xs:=by
 refine⟨h.1,?_⟩
 rcases h.2 with hn | ⟨g,cap,cur,rfl,hbg,hg,rest⟩
 ·exact .inl hn
 ·exact .inr ⟨g,cap,cur,rfl,hbg,(hb g rfl).trans hg,rest⟩
theorem zBA {w:World}{base base' e size n:Nat}{v:Value}{xs:List Value}(h:w.ownsRow base e size v n xs)(hb:base'≤base):w.ownsRow base' e size v n xs:=by
 refine⟨h.1,?_⟩
 rcases h.2 with hn | ⟨g,cap,cur,rfl,hbg,rest⟩
 ·exact .inl hn
 ·exact .inr ⟨g,cap,cur,rfl,Nat.le_trans hb hbg,rest⟩
theorem zDA.row (h:zDA P Q w w'){base n:Nat}{v:Value}{xs:List Value}(ho:w.ownsRow base 226 1 v n xs∧∀ g,v.ownBlock=some g→P g):w'.ownsRow base 226 1 v n xs∧∀ g,v.ownBlock=some g→Q g:=by
 obtain⟨ho,hP⟩:=ho
 rcases ho.2 with hn | ⟨g,cap,cur,rfl,hbg,hg,rest⟩
 ·refine⟨⟨ho.1,.inl hn⟩,?_⟩
  intro g hg
  rw[hn.1] at hg
  cases hg
 ·refine⟨⟨ho.1,.inr ⟨g,cap,cur,rfl,hbg,h.heap (hP g rfl) hg (by decide),rest⟩⟩,?_⟩
  intro g' hg'
  injection hg' with hg'
  subst hg'
  exact(h g (hP g rfl) _ _ hg (by decide)).1
mutual
theorem zAO.moves (hm:zDA P Q w w'):∀ {t:Tree} {v:Value},zAO P w t v→zAO Q w' t v
 | .num _ _,_,h=>by
  unfold zAO at h ⊢
  obtain⟨b,h1,h0,h2⟩:=h
  have q:=hm b h0 _ _ h2 (by decide)
  exact⟨b,h1,q.1,q.2.trans h2⟩
 | .neg _ _,_,h=>by
  unfold zAO at h ⊢
  obtain⟨b,va,h1,h0,h2,h3⟩:=h
  have q:=hm b h0 _ _ h2 (by decide)
  exact⟨b,va,h1,q.1,q.2.trans h2,zAO.moves hm h3⟩
 | .bin _ _ _ _,_,h=>by
  unfold zAO at h ⊢
  obtain⟨b,va,vc,h1,h0,h2,h3,h4⟩:=h
  have q:=hm b h0 _ _ h2 (by decide)
  exact⟨b,va,vc,h1,q.1,q.2.trans h2,zAO.moves hm h3,zAO.moves hm h4⟩
 | .ite _ _ _ _,_,h=>by
  unfold zAO at h ⊢
  obtain⟨b,va,vc,vd,h1,h0,h2,h3,h4,h5⟩:=h
  have q:=hm b h0 _ _ h2 (by decide)
  exact⟨b,va,vc,vd,h1,q.1,q.2.trans h2,zAO.moves hm h3,zAO.moves hm h4,zAO.moves hm h5⟩
 | .meas _ _ _ _,_,h=>by
  unfold zAO at h ⊢
  obtain⟨b,h1,h0,h2⟩:=h
  have q:=hm b h0 _ _ h2 (by decide)
  exact⟨b,h1,q.1,q.2.trans h2⟩
 | .probe _ _ _,_,h=>by
  unfold zAO at h ⊢
  obtain⟨b,pv,vs,h1,h0,h2,h3,h4⟩:=h
  have q:=hm b h0 _ _ h2 (by decide)
  exact⟨b,pv,vs,h1,q.1,q.2.trans h2,hm.row h3,zAU.moves hm h4⟩
theorem zAU.moves (hm:zDA P Q w w'):∀ {ts:List Tree} {vs:List Value},zAU P w ts vs→zAU Q w' ts vs
 | [],_,h=>by unfold zAU at h ⊢;exact h
 | _ :: _,_,h=>by
  unfold zAU at h ⊢
  obtain⟨v,vs',h1,h2,h3⟩:=h
  exact⟨v,vs',h1,zAO.moves hm h2,zAU.moves hm h3⟩
end
theorem zAU.snoc : ∀ {ts:List Tree} {vs:List Value} {t:Tree} {v:Value},zAU P w ts vs→zAO P w t v→zAU P w (ts ++ [t]) (vs ++ [v])
 | [],vs,t,v,h,k=>by
  unfold zAU at h
  subst h
  unfold zAU
  exact⟨v,[],rfl,k,by unfold zAU;rfl⟩
 | a :: ts,vs,t,v,h,k=>by
  unfold zAU at h
  obtain⟨x,vs',rfl,h2,h3⟩:=h
  show zAU P w (a :: (ts ++ [t])) _
  unfold zAU
  exact⟨x,vs' ++ [v],rfl,h2,zAU.snoc h3 k⟩
theorem zDA.of_below (h:Below w.heap.size w w'):zDA P P w w':=fun b hP _ _ hb _=>⟨hP,h.block b (zA2 hb)⟩
theorem zDA.weak (h:∀ b,P b→Q b):zDA P Q w w:=fun b hP _ _ _ _=>⟨h b hP,rfl⟩
theorem zDA.trans {P1 P2 P3:Nat→Prop}{w0 w1 w2:World}(h:zDA P1 P2 w0 w1)(k:zDA P2 P3 w1 w2):zDA P1 P3 w0 w2:=fun b hP cs T hb hT=>
 have q:=h b hP cs T hb hT
 have r:=k b q.1 cs T (q.2.trans hb) hT
 ⟨r.1,r.2.trans q.2⟩
theorem zAO.up {lo lo':Nat}{t:Tree}{v:Value}(h:zAO (Hi lo) w t v)(hl:lo'≤lo):zAO (Hi lo') w t v:=h.moves (.weak fun _ hb=>Nat.le_trans hl hb)
theorem zAO.below {t:Tree}{v:Value}(h:zAO P w t v)(hb:Below w.heap.size w w'):zAO P w' t v:=h.moves (.of_below hb)
end
end Go.Proofs.YtbokdbaagacnlaaGreatDoor
