import Derived.Test.YtbokdbaagacnlaaGreatDoorProg
import Derived.Test.YtbokdbaagacnlaaGreatDoorJQ3
import Derived.Deep.QuietTactic
import Derived.BigQuiet
import Derived.BigRegion
import Derived.Lib.TrimU
import Derived.Lib.QuoteLoop
import Derived.Test.YtbokdbaagacnlaaGreatDoorJQS
import Derived.Lib.RuneCountTail
import Derived.Deep.DeepFit
import Derived.OwnWalk
namespace Go.Proofs.YtbokdbaagacnlaaGreatDoor
open Go.RowKit
theorem zEA (c d:UInt8):(c == d)=((c.toNat:Int) == (d.toNat:Int)):=by
 rw[Bool.eq_iff_iff]
 simp only[beq_iff_eq,←UInt8.toNat_inj]
 omega
theorem zE8 (c:UInt8):zD4 c=(((c.toNat:Int) == 63) || ((c.toNat:Int) == 58) || ((c.toNat:Int) == 60) || ((c.toNat:Int) == 62) || ((c.toNat:Int) == 61) || ((c.toNat:Int) == 43) || ((c.toNat:Int) == 45) || ((c.toNat:Int) == 42) || ((c.toNat:Int) == 47) || ((c.toNat:Int) == 40) || ((c.toNat:Int) == 41) || ((c.toNat:Int) == 44)):=by
 unfold zD4
 rw[zEA c 63,zEA c 58,zEA c 60,zEA c 62,zEA c 61,zEA c 43,zEA c 45,zEA c 42,zEA c 47,zEA c 40,zEA c 41,zEA c 44]
 rfl
set_option maxRecDepth 100000 in
theorem zQE (c:UInt8)(w:World):Calls Tryz.prog 88 #[.int .u8 c.toNat] w fun e w'=>e=.returned (.bool (zD4 c))∧w'=w:=by
 go_enter Tryz.func88,Tryz.ntmps88
 go_wp2
 all_goals (go_ret;exact⟨by rw[zE8];simp[*],rfl⟩)
set_option maxRecDepth 100000 in
theorem ref_kind (R bl n cap:Nat)(I k:Nat)(w:World)(h0:w.cell? ⟨R,0,none⟩=some (.slice (some ⟨bl,0,none⟩) n cap))(h1:w.cell? ⟨R,1,none⟩=some (.int .i64 I))
  (hlt:(I:Int)<n) (hk:w.cell? ⟨bl,I * 3,none⟩=some (.int .u8 k)):
  Calls Tryz.prog 91 #[.pointer (some ⟨R,0,none⟩)] w fun e w'=>e=.returned (.int .u8 k)∧∃ q,w'=w.drewN q:=by
 go_enter Tryz.func91,Tryz.ntmps91
 go_wp2
 go_quiet (fail)
 go_wp2
 go_ret
 exact⟨rfl,_,rfl⟩
abbrev zDD (k p:Nat)(t:ByteArray):Value:=.agg #[.int .u8 k,.int .i64 p,.string t]
def RdAt (w:World)(R bl n cap I:Nat)(bad:Bool):Prop:=w.heap[R]?=some (.cells #[.slice (some ⟨bl,0,none⟩) n cap,.int .i64 I,.bool bad] 165 (0,0))
theorem RdAt.set1 {w:World}{R bl n cap I:Nat}{bad:Bool}(h:RdAt w R bl n cap I bad)(J:Nat):RdAt (w.setCell ⟨R,1,none⟩ (.int .i64 J)) R bl n cap J bad:=zA4 h
theorem RdAt.set2 {w:World}{R bl n cap I:Nat}{bad:Bool}(h:RdAt w R bl n cap I bad)(b:Bool):RdAt (w.setCell ⟨R,2,none⟩ (.bool b)) R bl n cap I b:=zA4 h
theorem RdAt.alloc {w:World}{R bl n cap I:Nat}{bad:Bool}(h:RdAt w R bl n cap I bad)(o:Obj):RdAt (w.alloc o) R bl n cap I bad:=zA3 h
theorem RdAt.drew {w:World}{R bl n cap I:Nat}{bad:Bool}(h:RdAt w R bl n cap I bad):RdAt w.drew R bl n cap I bad:=h
theorem RdAt.drewN {w:World}{R bl n cap I:Nat}{bad:Bool}(h:RdAt w R bl n cap I bad)(q:Nat):RdAt (w.drewN q) R bl n cap I bad:=h
theorem RdAt.below {w w':World}{R bl n cap I:Nat}{bad:Bool}(h:RdAt w R bl n cap I bad)(hb:Below w.heap.size w w'):RdAt w' R bl n cap I bad:=(hb.block R (zA2 h)).trans h
set_option maxRecDepth 100000 in
theorem zNI (R bl n cap:Nat)(I k p:Nat)(t:ByteArray)(w:World)(hR:RdAt w R bl n cap I false)(hlt:(I:Int)<n)(hn:n≤1000)(hk:w.cell? ⟨bl,I * 3,none⟩=some (.int .u8 k))
  (hp:w.cell? ⟨bl,I * 3+1,none⟩=some (.int .i64 p)) (ht:w.cell? ⟨bl,I * 3+2,none⟩=some (.string t)):
  Calls Tryz.prog 61 #[.pointer (some ⟨R,0,none⟩),.int .u8 k] w fun e w'=>e=.returned (zDD k p t)∧RdAt w' R bl n cap (I+1) false∧Keep R w w':=by
 have h0:=zA0 (i:=0) hR rfl
 have h1:=zA0 (i:=1) hR rfl
 have h2:=zA0 (i:=2) hR rfl
 have hf:=zA1 (i:=1) hR
 have hf2:=zA1 (i:=2) hR
 have lR:R<w.heap.size:=zA2 hR
 have lb:bl<w.heap.size:=World.block_lt_of_cell? _ _ hk
 have HR:Hid (RdAt w R bl n cap I false):=hR
 clear hR
 go_enter Tryz.func61,Tryz.ntmps61
 go_wp2
 go_region
 go_wp2
 refine bodyPost_ret (v:=zDD k p t) (by simp[results,Tryz.results61,go_sem,zDD]) rfl ⟨rfl,?_,?_⟩
 ·exact(((HR.out.set1 (I+1)).alloc _).alloc _).drew
 ·exact((((Keep.refl R w).setR _ _).alloc _).alloc _).drew
set_option maxRecDepth 100000 in
theorem zM6 (R bl n cap:Nat)(I k k' p:Nat)(t:ByteArray)(w:World)(hR:RdAt w R bl n cap I false)(hlt:(I:Int)<n)(hk:w.cell? ⟨bl,I * 3,none⟩=some (.int .u8 k))
  (hp:w.cell? ⟨bl,I * 3+1,none⟩=some (.int .i64 p)) (ht:w.cell? ⟨bl,I * 3+2,none⟩=some (.string t)) (hne:((k:Int) == (k':Int))=false):
  Calls Tryz.prog 61 #[.pointer (some ⟨R,0,none⟩),.int .u8 k'] w fun e w'=>e=.returned (zDD 0 0 { data:=#[] })∧RdAt w' R bl n cap I true∧Keep R w w':=by
 have h0:=zA0 (i:=0) hR rfl
 have h1:=zA0 (i:=1) hR rfl
 have h2:=zA0 (i:=2) hR rfl
 have hf:=zA1 (i:=1) hR
 have hf2:=zA1 (i:=2) hR
 have lR:R<w.heap.size:=zA2 hR
 have lb:bl<w.heap.size:=World.block_lt_of_cell? _ _ hk
 have HR:Hid (RdAt w R bl n cap I false):=hR
 clear hR
 go_enter Tryz.func61,Tryz.ntmps61
 go_wp2
 go_region
 go_wp2
 refine bodyPost_ret (v:=zDD 0 0 { data:=#[] }) (by simp[results,Tryz.results61,go_sem,zDD]) rfl ⟨rfl,?_,?_⟩
 ·exact(((HR.out.set2 true).alloc _).alloc _).drew
 ·exact((((Keep.refl R w).setR _ _).alloc _).alloc _).drew
set_option maxRecDepth 100000 in
theorem zNJ (R bl n cap:Nat)(I k k' p:Nat)(t:ByteArray)(w:World)(hR:RdAt w R bl n cap I true)(hlt:(I:Int)<n)(hk:w.cell? ⟨bl,I * 3,none⟩=some (.int .u8 k))
  (hp:w.cell? ⟨bl,I * 3+1,none⟩=some (.int .i64 p)) (ht:w.cell? ⟨bl,I * 3+2,none⟩=some (.string t)):
  Calls Tryz.prog 61 #[.pointer (some ⟨R,0,none⟩),.int .u8 k'] w fun e w'=>e=.returned (zDD 0 0 { data:=#[] })∧RdAt w' R bl n cap I true∧Keep R w w':=by
 have h0:=zA0 (i:=0) hR rfl
 have h1:=zA0 (i:=1) hR rfl
 have h2:=zA0 (i:=2) hR rfl
 have hf:=zA1 (i:=1) hR
 have hf2:=zA1 (i:=2) hR
 have lR:R<w.heap.size:=zA2 hR
 have lb:bl<w.heap.size:=World.block_lt_of_cell? _ _ hk
 have HR:Hid (RdAt w R bl n cap I true):=hR
 clear hR
 go_enter Tryz.func61,Tryz.ntmps61
 go_wp2
 go_region
 go_wp2
 refine bodyPost_ret (v:=zDD 0 0 { data:=#[] }) (by simp[results,Tryz.results61,go_sem,zDD]) rfl ⟨rfl,?_,?_⟩
 ·exact(((HR.out.set2 true).alloc _).alloc _).drew
 ·exact((((Keep.refl R w).setR _ _).alloc _).alloc _).drew
theorem zEZ (b:ByteArray):isMeasure b=(b.toList == [115,117,109] || b.toList == [99,111,117,110,116] || b.toList == [108,101,97,115,116] || b.toList == [109,111,115,116] || b.toList == [109,101,97,110] || b.toList == [108,97,115,116]):=by
 simp only[isMeasure,List.contains_eq_any_beq,List.any_cons,List.any_nil,Bool.or_false,Bool.or_assoc]
set_option maxRecDepth 100000 in
theorem zGS (b:ByteArray)(w:World):Calls Tryz.prog 233 #[.string b] w fun e w'=>e=.returned (.bool (isMeasure b))∧w'=w:=by
 go_enter Tryz.func233,Tryz.ntmps233
 go_wp2
 all_goals (go_ret;exact⟨by first | (rw[zEZ];done) | (rw[zEZ];simp[*]),rfl⟩)
theorem numOf_snoc (l:List UInt8)(x:UInt8):zDO (l ++ [x])=10 * zDO l+((x.toNat:Int) - 48):=by simp[zDO]
theorem zG3 {b:ByteArray}{k:Nat}(h:k<b.size):b.data.toList[k]?=some b[k]:=by
 rw[List.getElem?_eq_getElem (by simpa using h)]
 rfl
theorem zI0 {b:ByteArray}{k:Nat}(h:k<b.size):zDO (b.data.toList.take (k+1))=10 * zDO (b.data.toList.take k)+((b[k].toNat:Int) - 48):=by
 rw[List.take_add_one,zG3 h]
 exact numOf_snoc _ _
theorem zGA {b:ByteArray}(hd:∀ x∈b.data.toList,zEV x=true):∀ k,k≤b.size→0≤zDO (b.data.toList.take k)∧zDO (b.data.toList.take k)<10 ^ k
 | 0,_=>by simp[zDO]
 | k+1,h=>by
  have h1:=zGA hd k (by omega)
  have h2:=hd _ (List.mem_of_getElem? (zG3 (b:=b) (k:=k) (by omega)))
  simp[zEV] at h2
  rw[zI0 (by omega),Int.pow_succ]
  omega
theorem zJG {n:Int}(h:-9223372036854775808≤n∧n≤9223372036854775807):wrap64 n=n:=by unfold wrap64;omega
theorem pow9 {k:Nat}(h:k≤9):(10:Int) ^ k≤1000000000:=by
 have:∀ k:Fin 10,(10:Int) ^ k.val≤1000000000:=by decide
 exact this ⟨k,by omega⟩
set_option maxRecDepth 100000 in
theorem zHT (b:ByteArray)(w:World)(hd:∀ x∈b.data.toList,zEV x=true)(hl:b.size≤9):Calls Tryz.prog 220 #[.string b] w fun e w'=>e=.returned (.int .i64 (zDO b.data.toList))∧w'=w:=by
 go_enter Tryz.func220,Tryz.ntmps220
 go_wp2
 have HD:Hid (∀ x∈b.data.toList,zEV x=true):=hd
 clear hd
 go_loop [3, 4] (fun n i => ∃ k : Nat, k ≤ b.size ∧ i = .int .i64 k ∧ n = .int .i64 (zDO (b.data.toList.take k)))
                (fun _ i=>b.size - (intOf i).toNat)
 case atStart=>exact⟨0,Nat.zero_le _,rfl,rfl⟩
 case round=>
  obtain⟨k,hk,rfl,rfl⟩:=hrel
  rcases Nat.lt_or_ge k b.size with h8 | h8
  ·have h2:=zGA HD.out k hk
   have h3:=zGA HD.out (k+1) h8
   have h4:=pow9 (k:=k) (by omega)
   have h5:=pow9 (k:=k+1) (by omega)
   have h6:=HD.out _ (List.mem_of_getElem? (zG3 (b:=b) (k:=k) h8))
   simp[zEV] at h6
   have h7:=zI0 h8
   have H2:Hid _:=h2
   have H3:Hid _:=h3
   have H4:Hid _:=h4
   have H5:Hid _:=h5
   have H6:Hid _:=h6
   have H7:Hid _:=h7
   clear h2 h3 h4 h5 h6 h7
   go_wp2
   go_round
   case rel=>
    refine⟨k+1,by omega,by go_num,?_⟩
    have h2:=H2.out
    have h3:=H3.out
    have h4:=H4.out
    have h5:=H5.out
    have h6:=H6.out
    have h7:=H7.out
    rw[h7,zJG (n:=10 * zDO (b.data.toList.take k)) (by omega),zJG (by omega)]
    congr 1
    omega
   case measure=>simp[intOf];omega
  ·obtain rfl:k=b.size:=by omega
   go_wp2
   go_ret
   have e:b.data.toList.take b.size=b.data.toList:=List.take_of_length_le (by simp)
   rw[e]
   exact⟨rfl,rfl⟩
end Go.Proofs.YtbokdbaagacnlaaGreatDoor
namespace Go.Proofs.YtbokdbaagacnlaaGreatDoor
open Go.Lib
theorem zDP {s:ByteArray}{i:Nat}(h:i<s.size):i+(Utf8.decode s i).2≤s.size:=by
 rw[decode_at]
 have:=decodeN_width_le (s.size - i) (s.get! i).toNat (s.get! (i+1)).toNat (s.get! (i+2)).toNat (s.get! (i+3)).toNat (by omega)
 omega
theorem zFD (s:ByteArray):∀ (f g i n:Nat),s.size - i≤f→s.size - i≤g→zAH s f i n=zAH s g i n
 | 0,g,i,n,h,_=>by
  cases g with
  | zero=>rfl
  | succ g=>simp[zAH,show ¬ i<s.size by omega]
 | f+1,0,i,n,_,h=>by simp[zAH,show ¬ i<s.size by omega]
 | f+1,g+1,i,n,hf,hg=>by
  unfold zAH
  split
  ·rename_i h
   have:=width_pos s i
   exact zFD s f g _ _ (by omega) (by omega)
  ·rfl
theorem zC7 (s:ByteArray):∀ (f i n:Nat),i≤s.size→i≤(zAH s f i n).1∧(zAH s f i n).1≤s.size∧n≤(zAH s f i n).2∧(n<(zAH s f i n).2→i<(zAH s f i n).1)∧(zAH s f i n).2 - n≤(zAH s f i n).1 - i
 | 0,i,n,h=>by simp[zAH];exact h
 | f+1,i,n,h=>by
  unfold zAH
  split
  ·rename_i hh
   have h1:=width_pos s i
   have h2:=zDP hh.1
   have:=zC7 s f (i+(Utf8.decode s i).2) (n+1) h2
   omega
  ·simp;exact h
theorem zIN (s:ByteArray):∀ (f g i:Nat),s.size - i≤f→s.size - i≤g→zBD s f i=zBD s g i
 | 0,g,i,h,_=>by
  cases g with
  | zero=>rfl
  | succ g=>simp[zBD,show ¬ i<s.size by omega]
 | f+1,0,i,_,h=>by simp[zBD,show ¬ i<s.size by omega]
 | f+1,g+1,i,hf,hg=>by
  unfold zBD
  split
  ·exact zIN s f g _ (by omega) (by omega)
  ·rfl
theorem zGC (s:ByteArray):∀ (f i:Nat),i≤s.size→i≤zBD s f i∧zBD s f i≤s.size
 | 0,i,h=>by simp[zBD];exact h
 | f+1,i,h=>by
  unfold zBD
  split
  ·have:=zGC s f (i+1) (by omega)
   omega
  ·exact⟨Nat.le_refl _,h⟩
theorem zH7 (s:ByteArray):∀ (f g i:Nat),s.size - i≤f→s.size - i≤g→zBP s f i=zBP s g i
 | 0,g,i,h,_=>by
  cases g with
  | zero=>rfl
  | succ g=>simp[zBP,show ¬ i<s.size by omega]
 | f+1,0,i,_,h=>by simp[zBP,show ¬ i<s.size by omega]
 | f+1,g+1,i,hf,hg=>by
  unfold zBP
  split
  ·exact zH7 s f g _ (by omega) (by omega)
  ·rfl
theorem zJO (s:ByteArray):∀ (f i:Nat),i≤s.size→i≤zBP s f i∧zBP s f i≤s.size
 | 0,i,h=>by simp[zBP];exact h
 | f+1,i,h=>by
  unfold zBP
  split
  ·have:=zJO s f (i+1) (by omega)
   omega
  ·exact⟨Nat.le_refl _,h⟩
theorem zJN {s:ByteArray}{i:Nat}(h:i≤s.size):i≤skip s i∧skip s i≤s.size:=zJO s _ i h
theorem zK6 {s:ByteArray}{i:Nat}(h:i≤s.size):i≤zCQ s i∧zCQ s i≤s.size:=zGC s _ i h
theorem skip_blank {s:ByteArray}{i:Nat}(h:i<s.size)(hb:zJ7 (zBH s i)=true):skip s i=skip s (i+1):=by
 unfold skip
 obtain⟨f,hf⟩:∃ f,s.size - i=f+1:=⟨s.size - i - 1,by omega⟩
 rw[hf,zBP,if_pos ⟨h,hb⟩]
 exact zH7 s _ _ _ (by omega) (by omega)
theorem skip_here {s:ByteArray}{i:Nat}(hb:zJ7 (zBH s i)=false):skip s i=i:=by
 unfold skip
 cases h:s.size - i with
 | zero=>rfl
 | succ f=>rw[zBP,if_neg (by simp[hb])]
theorem zLZ (s:ByteArray):skip s s.size=s.size:=by unfold skip;rw[Nat.sub_self];rfl
theorem zHN {s:ByteArray}{i:Nat}(hi:i≤s.size)(h:(zAX s i).last=false):i<(zAX s i).stop∧(zAX s i).stop≤s.size∧i<s.size∧(zAX s i).pos=i:=by
 revert h
 unfold zAX
 have h1:=zK6 hi
 have h2:=zC7 s (s.size - i) i 0 hi
 repeat' split
 all_goals simp only[Tok.last] <;> simp
 ·intro _;omega
 ·omega
 ·rename_i h3;unfold zAF at h3 ⊢;omega
theorem zBV {s:ByteArray}{i:Nat}(hi:i≤s.size)(h:(zA8 s i).last=false):i<(zA8 s i).stop∧(zA8 s i).stop≤s.size:=by
 have h1:=zJN hi
 have:=zHN h1.2 h
 unfold zA8
 omega
theorem zLX (s:ByteArray):∀ (f g i:Nat),i≤s.size→s.size - i≤f→s.size - i≤g→zD6 s f i=zD6 s g i:=by
 have last:∀ f,zD6 s f s.size=[zA8 s s.size]:=by
  intro f
  have h:(zA8 s s.size).last=true:=by
   unfold zA8
   rw[zLZ]
   simp[zAX,Tok.last]
  cases f with
  | zero=>rfl
  | succ f=>rw[zD6,if_pos h]
 intro f
 induction f with
 | zero=>
  intro g i hi h _
  obtain rfl:i=s.size:=by omega
  rw[last,last]
 | succ f ih=>
  intro g i hi hf hg
  cases g with
  | zero=>
   obtain rfl:i=s.size:=by omega
   rw[last,last]
  | succ g=>
   rw[zD6,zD6]
   cases h:(zA8 s i).last with
   | true=>rfl
   | false=>
    have:=zBV hi h
    simp only[Bool.false_eq_true,if_false]
    rw[ih g _ this.2 (by omega) (by omega)]
def zC8 (s:ByteArray)(i:Nat):List Tok:=zD6 s (s.size - i) i
theorem zB0 {s:ByteArray}{i:Nat}(h:(zA8 s i).last=true):zC8 s i=[zA8 s i]:=by
 unfold zC8
 cases s.size - i with
 | zero=>rfl
 | succ f=>rw[zD6,if_pos h]
theorem zBC {s:ByteArray}{i:Nat}(hi:i≤s.size)(h:(zA8 s i).last=false):zC8 s i=zA8 s i :: zC8 s (zA8 s i).stop:=by
 have h1:=zBV hi h
 unfold zC8
 obtain⟨f,hf⟩:∃ f,s.size - i=f+1:=⟨s.size - i - 1,by omega⟩
 rw[hf,zD6,h]
 simp only[Bool.false_eq_true,if_false]
 rw[zLX s f _ _ h1.2 (by omega) (Nat.le_refl _)]
theorem zNA {s:ByteArray}{i:Nat}(hi:i<s.size)(hb:zJ7 (zBH s i)=true):zC8 s i=zC8 s (i+1):=by
 have e:zA8 s i=zA8 s (i+1):=by unfold zA8;rw[skip_blank hi hb]
 cases h:(zA8 s i).last with
 | true=>rw[zB0 h,zB0 (e ▸ h),e]
 | false=>
  have h':(zA8 s (i+1)).last=false:=e ▸ h
  rw[zBC (i:=i) (by omega) h,zBC (i:=i+1) (by omega) h',e]
end Go.Proofs.YtbokdbaagacnlaaGreatDoor
namespace Go.Proofs.YtbokdbaagacnlaaGreatDoor
open Go.RowKit Go.Lib
structure Tabs (w:World):Prop where
 utf:Utf8Tabs 9 10 w
 props:TabIs Tryz.prog w "unicode.properties" .u8 propertiesTab
 letter:RVar 12 letterT w
 digit:RVar 13 digitT w
theorem Tryz.gProps : Tryz.prog.globalNamed "unicode.properties" = some 11:=by kernel_rfl
theorem Tabs.below {w w':World}(h:Tabs w)(hb:Below w.heap.size w w'):Tabs w':=
 ⟨⟨fun c hc=>cell_below hb (h.utf.1 c hc),fun i hi=>⟨cell_below hb (h.utf.2 i hi).1,cell_below hb (h.utf.2 i hi).2⟩⟩,TabIs_below Tryz.gProps h.props hb,RVar_below h.letter hb,RVar_below h.digit hb⟩
theorem below_size {w w' w'':World}(h:Below w.heap.size w w')(k:Below w'.heap.size w' w''):Below w.heap.size w w'':=h.trans (k.mono h.size)
set_option maxRecDepth 100000 in
theorem ref_letter (r:Nat)(hr:r≤1114111)(first:Bool)(w:World)(hT:Tabs w):
  Calls Tryz.prog 112 #[.int .i32 r,.bool first] w fun e w'=>e=.returned (.bool (zD7 first r))∧Below w.heap.size w w':=by
 have hl:=fun W hW=>Tryz.unicode_IsLetter_all r W (by omega) (by omega) (Tabs.props (Tabs.below hT hW)) (Tabs.letter (Tabs.below hT hW))
 have hd:=fun W hW=>Tryz.unicode_IsDigit_all r W (by omega) (by omega) (Tabs.digit (Tabs.below hT hW))
 have hN:zD7 first r=(isLetterU r || (isDigitU r && !first)):=rfl
 rw[hN]
 clear hN
 generalize isLetterU (r:Int)=A at hl ⊢
 generalize isDigitU (r:Int)=B at hd ⊢
 go_enter Tryz.func112,Tryz.ntmps112
 go_wp2_with fail
 refine(hl w (Below.refl _ _)).mono ?_
 rintro e w1 ⟨rfl,hb1⟩
 go_wp2_with fail
 refine(hd w1 hb1).mono ?_
 rintro e w2 ⟨rfl,hb2⟩
 have hb3:=below_size hb1 hb2
 clear hl hd hb1 hb2
 cases A <;> cases B <;> cases first
 all_goals go_wp2
 all_goals go_ret
 all_goals exact⟨rfl,hb3⟩
theorem zHB {s:ByteArray}{i:Nat}(h:i<s.size):decodeGo (s.extract i s.size)=Utf8.decode s i:=by
 unfold decodeGo
 rw[if_neg (by simp;omega),tail_decode]
 simp
set_option maxRecDepth 100000 in
theorem ref_word (s:ByteArray)(i0:Nat)(hs:s.size≤1000)(hi0:i0≤s.size)(w:World)(hT:Tabs w):
  Calls Tryz.prog 89 #[.string s,.int .i64 i0] w fun e w'=>e=.returned (.tuple #[.int .i64 (zAF s i0).1,.int .i64 (zAF s i0).2])∧Below w.heap.size w w':=by
 have HT:Hid (Tabs w):=hT
 clear hT
 go_enter Tryz.func89,Tryz.ntmps89
 go_wp2_with fail
 go_loopw [1, 6] (fun i n wr => ∃ k c : Nat, k ≤ s.size ∧ c ≤ k ∧ i = .int .i64 k ∧ n = .int .i64 c ∧ Hid (zAH s (s.size - k) k c = zAF s i0) ∧ Hid (Below w.heap.size w wr))
                (fun i _ _=>s.size - (intOf i).toNat)
 case atStart=>exact⟨i0,0,hi0,Nat.zero_le _,rfl,rfl,rfl,Below.refl _ _⟩
 case round=>
  obtain⟨k,c,hk,hc,rfl,rfl,HE,HB⟩:=hrel
  rcases Nat.lt_or_ge k s.size with h8 | h8
  ·have HT1:=HT.out.below HB.out
   have hle:=zDP h8
   have hpos:=Lib.width_pos s k
   have hrl:=Lib.rune_le s k
   have hdec:=Tryz.utf8_DecodeRuneInString (s.extract k s.size) wr HT1.utf
   rw[zHB h8] at hdec
   have HE':Hid ((if zD7 (c == 0) (Utf8.decode s k).1=true then zAH s (s.size - (k+(Utf8.decode s k).2)) (k+(Utf8.decode s k).2) (c+1) else(k,c))=zAF s i0):=by
    rw[←HE.out]
    obtain⟨f,hf⟩:∃ f,s.size - k=f+1:=⟨s.size - k - 1,by omega⟩
    rw[hf,zAH]
    simp only[h8,true_and]
    split
    ·exact zFD s _ _ _ _ (by omega) (by omega)
    ·rfl
   generalize (Utf8.decode s k).1=r at *
   generalize (Utf8.decode s k).2=d at *
   clear HE
   go_wp2_with fail
   refine hdec.mono ?_
   rintro e w1 ⟨rfl,hb1⟩
   have hlt:=ref_letter r hrl ((c:Int) == 0) w1 (HT1.below hb1)
   have ec:(c == 0)=((c:Int) == 0):=by rw[Bool.eq_iff_iff];simp
   rw[ec] at HE'
   clear ec
   clear hdec
   go_wp2_with fail
   go_fit hlt
   rintro e w2 ⟨rfl,hb2⟩
   have HB2:Hid (Below w.heap.size w w2):=below_size (below_size HB.out hb1) hb2
   clear hlt hb1 hb2 HB HT1
   generalize zD7 ((c:Int) == 0) r=np at *
   cases np
   ·go_wp2
    go_ret2
    have e:=HE'.out
    simp at e
    rw[←e]
    exact⟨rfl,HB2.out⟩
   ·go_wp2
    go_roundw
    case rel=>exact⟨k+d,c+1,by omega,by omega,by go_num,by go_num,HE'.out,HB2⟩
    case measure=>simp[intOf];omega
  ·obtain rfl:k=s.size:=by omega
   go_wp2
   go_ret2
   have e:=HE.out
   simp[zAH] at e
   rw[←e]
   exact⟨rfl,HB.out⟩
theorem Tryz.infoTok : (Tryz.prog.info? 169).map (fun i=>(i.zero,i.size,i.bytes))=some (some (.agg #[.int .u8 0,.int .i64 0,.string { data:=#[] }]),3,32):=by kernel_rfl
def zBF (s:ByteArray)(t:Tok):List Value:=[.int .u8 t.kind,.int .i64 t.pos,.string (t.text s)]
def zBB (s:ByteArray)(l:List Tok):List Value:=l.flatMap (zBF s)
theorem zB5 (s:ByteArray)(l:List Tok)(t:Tok):zBB s (l ++ [t])=zBB s l ++ zBF s t:=by simp[zBB]
theorem zDI {s:ByteArray}{i:Nat}(h:i<s.size):zBH s i=s[i]:=by
 unfold zBH
 rw[zG3 h]
 rfl
theorem zB6 (w:World)(a b c:Value)(t:TypeId):∀ j u,[a,b,c][j]?=some u→(w.alloc (.cells #[a,b,c] t)).cell? ((⟨w.heap.size,0,none⟩:Addr).add j)=some u:=by
 intro j u hj
 match j,hj with
 | 0,hj=>simp at hj;subst hj;simp[Addr.add]
 | 1,hj=>simp at hj;subst hj;simp[Addr.add]
 | 2,hj=>simp at hj;subst hj;simp[Addr.add]
 | (j+3),hj=>simp at hj
theorem zCU (s:ByteArray)(i:Nat):s.extract i i={ data:=#[] }:=by
 ext1
 simp
theorem zNF {c:UInt8}{p q:Nat}(h:zD4 c=true):(⟨c.toNat,p,q⟩:Tok).last=false:=by
 rw[zE8] at h
 simp only[Bool.or_eq_true,beq_iff_eq] at h
 simp only[Tok.last,Bool.or_eq_false_iff,beq_eq_false_iff_ne]
 omega
set_option maxRecDepth 1000000 in
set_option maxHeartbeats 2000000 in
theorem ref_tokens (s:ByteArray)(hs:s.size≤1000)(w:World)(hT:Tabs w):
  Calls Tryz.prog 59 #[.string s] w fun e w'=>∃ v,e=.returned v∧w'.ownsRow w.heap.size 169 3 v (toks s).length (zBB s (toks s))∧Below w.heap.size w w':=by
 obtain⟨i0,hi,hz0,hz1,hz2⟩:=info_parts Tryz.infoTok
 have HT:Hid (Tabs w):=hT
 clear hT
 go_enter Tryz.func59,Tryz.ntmps59
 go_wp2_with fail
 go_loopw [3, 4] (fun v vi wr => ∃ (i : Nat) (done : List Tok), i ≤ s.size ∧ vi = .int .i64 i ∧ wr.ownsRow w.heap.size 169 3 v done.length (zBB s done) ∧ Hid (Below w.heap.size w wr) ∧ Hid (done ++ zC8 s i = toks s) ∧ done.length ≤ i)
                (fun _ vi _=>s.size - (intOf vi).toNat)
 case atStart=>exact⟨0,[],Nat.zero_le _,rfl,World.ownsRow_nil _ _ _ _,Below.refl _ _,rfl,Nat.zero_le _⟩
 case round=>
  obtain⟨i,done,hi1,rfl,hown,HB,HS,hlen⟩:=hrel
  rcases Nat.lt_or_ge i s.size with h8 | h8
  ·have hg:=zDI h8
   have h63:s.size≤9223372036854775807:=by omega
   cases hb:zJ7 (zBH s i) with
   | true=>
    have HB':Hid (done ++ zC8 s (i+1)=toks s):=by
     rw[←zNA h8 hb]
     exact HS.out
    rw[hg] at hb
    have h3:s[i].toNat=32∨s[i].toNat=9∨s[i].toNat=10:=by
     simp only[zJ7,Bool.or_eq_true,beq_iff_eq,←UInt8.toNat_inj] at hb
     rcases hb with(hb | hb) | hb
     ·exact .inl hb
     ·exact .inr (.inl hb)
     ·exact .inr (.inr hb)
    clear hg hb HS
    rcases h3 with h3 | h3 | h3
    all_goals
     go_wp2
     go_roundw
     case rel=>exact⟨i+1,done,by omega,by go_num,hown,HB,HB',by omega⟩
     case measure=>simp[intOf];omega
   | false=>
    have h32:((s[i].toNat:Int) == 32)=false:=by
     rw[hg] at hb
     simp only[zJ7,Bool.or_eq_false_iff,zEA] at hb
     exact hb.1.1
    have h9:((s[i].toNat:Int) == 9)=false:=by
     rw[hg] at hb
     simp only[zJ7,Bool.or_eq_false_iff,zEA] at hb
     exact hb.1.2
    have h10:((s[i].toNat:Int) == 10)=false:=by
     rw[hg] at hb
     simp only[zJ7,Bool.or_eq_false_iff,zEA] at hb
     exact hb.2
    have HF:Hid (zA8 s i=zAX s i):=by
     show zAX s (skip s i)=_
     rw[skip_here hb]
    clear hb
    cases hsg:zD4 s[i] with
    | true=>
     have ht:zA8 s i=⟨s[i].toNat,i,i+1⟩:=by
      rw[HF.out,zAX,if_neg (by omega),if_pos (by rw[hg];exact hsg),hg]
     have hl:(zA8 s i).last=false:=by
      rw[ht]
      exact zNF hsg
     have HS':Hid ((done ++ [⟨s[i].toNat,i,i+1⟩]) ++ zC8 s (i+1)=toks s):=by
      show _=_
      rw[←HS.out,zBC (by omega) hl,ht]
      simp
     clear ht hl HS hg HF
     have q1:(0:Int)≤(i:Int):=by omega
     have q2:(i:Int)≤(i:Int)+1:=by omega
     have q3:(i:Int)+1≤(s.size:Int):=by omega
     go_wp2_with (first
      | (go_at_call 88;refine(zQE s[i] _).mono ?_;rintro e w' ⟨rfl,hw⟩;have hw:=hw.symm;subst hw)
      | (at_builtin;refine wpList_append_own _ rfl _ _ 163 rfl w.heap.size 169 i0 (.agg #[.int .u8 0,.int .i64 0,.string { data:=#[] }]) 3 32 Tryz.underlying163 hi hz0 hz1 hz2 rfl (by decide) _ _ _ rfl (hown.alloc _) ⟨wr.heap.size,0,none⟩ 1 1 [.int .u8 s[i].toNat,.int .i64 i,.string (s.extract i (i+1))] rfl rfl (zB6 _ _ _ _ _) (fun x hx=>by simp at hx;rcases hx with rfl | rfl | rfl <;> rfl) (by unfold maxLen;omega) (by omega) (by have:=HB.out.size;simp;omega) ?_;intro v' w3 hown' hgrow hnil))
     have hb3:Below w.heap.size w w3:=Below.grown (HB.out.alloc HB.out.size _) hgrow (by have:=HB.out.size;simp;omega) (fun j hj=>(hown.lt _ hj).1)
     go_roundw
     case rel=>
      refine⟨i+1,done ++ [⟨s[i].toNat,i,i+1⟩],by omega,by go_num,?_,hb3,HS',by simp;omega⟩
      rw[List.length_append,List.length_singleton,zB5]
      exact hown'
     case measure=>simp[intOf];omega
    | false=>
     go_wp2_with (first
      | (go_at_call 88;refine(zQE s[i] _).mono ?_;rintro e w' ⟨rfl,hw⟩;have hw:=hw.symm;subst hw))
     go_loop [7] (fun v=>∃ j:Nat,i≤j∧j≤s.size∧v=.int .i64 j∧Hid (zBD s (s.size - j) j=zCQ s i)) (fun v=>s.size - (intOf v).toNat)
     case atStart=>exact⟨i,Nat.le_refl _,by omega,rfl,rfl⟩
     case round=>
      obtain⟨j,hij,hjs,rfl,HD⟩:=hrel
      have hcase:(∃ h:j<s.size,(48:Int)≤(s[j].toNat:Int)∧(s[j].toNat:Int)≤57∧Hid (zBD s (s.size - (j+1)) (j+1)=zCQ s i)) ∨
        ((∃ h:j<s.size,¬ (48:Int)≤(s[j].toNat:Int))∨(∃ h:j<s.size,(48:Int)≤(s[j].toNat:Int)∧¬ (s[j].toNat:Int)≤57)∨j=s.size)∧Hid (zCQ s i=j):=by
       have e:=HD.out
       rcases Nat.lt_or_ge j s.size with h | h
       ·obtain⟨f,hf⟩:∃ f,s.size - j=f+1:=⟨s.size - j - 1,by omega⟩
        rw[hf,zBD,zDI h] at e
        by_cases h1:(48:Int)≤(s[j].toNat:Int)
        ·by_cases h2:(s[j].toNat:Int)≤57
         ·refine .inl ⟨h,h1,h2,?_⟩
          rw[if_pos ⟨h,by simp[zEV];omega⟩] at e
          show _=_
          rw[←e]
          exact zIN s _ _ _ (by omega) (by omega)
         ·refine .inr ⟨.inr (.inl ⟨h,h1,h2⟩),?_⟩
          rw[if_neg (by simp[zEV];omega)] at e
          exact e.symm
        ·refine .inr ⟨.inl ⟨h,h1⟩,?_⟩
         rw[if_neg (by simp[zEV];omega)] at e
         exact e.symm
       ·obtain rfl:j=s.size:=by omega
        refine .inr ⟨.inr (.inr rfl),?_⟩
        rw[Nat.sub_self] at e
        exact e.symm
      clear HD
      rcases hcase with⟨h,h1,h2,HD⟩ | ⟨hcase,HE⟩
      ·go_wp2
       go_round
       case rel=>exact⟨j+1,by omega,by omega,by go_num,HD⟩
       case measure=>simp[intOf];omega
      rcases hcase with⟨h,h1⟩ | ⟨h,h1,h2⟩ | hj8
      rotate_left 2
      ·have h1:¬ ((j:Int)<(s.size:Int)):=by omega
       have hji:¬ j=i:=by omega
       clear hj8
       have HT1:=HT.out.below HB.out
       have hji':((j:Int) == (i:Int))=false:=by simp;omega
       have hj0:(((j:Int) - (i:Int)) == 0)=false:=by simp;omega
       have q1:(0:Int)≤(i:Int):=by omega
       have q2:(i:Int)≤(j:Int):=by omega
       have q3:(j:Int)≤(s.size:Int):=by omega
       by_cases h99:j - i≤9
       ·have ht:zA8 s i=⟨110,i,j⟩:=by
         rw[HF.out,zAX,if_neg (by omega),if_neg (by rw[hg,hsg];decide),HE.out,if_pos (by omega),if_pos h99]
        have HH:Hid (zA8 s i=⟨110,i,j⟩):=ht
        clear ht hg HF HT1
        have h9':¬ (9:Int)<(j:Int) - (i:Int):=by omega
        go_wp2_with (first | (at_builtin;refine wpList_append_own _ rfl _ _ 163 rfl w.heap.size 169 i0 (.agg #[.int .u8 0,.int .i64 0,.string { data:=#[] }]) 3 32 Tryz.underlying163 hi hz0 hz1 hz2 rfl (by decide) _ _ _ rfl (hown.alloc _) ⟨wr.heap.size,0,none⟩ 1 1 [.int .u8 110,.int .i64 i,.string (s.extract i j)] rfl rfl (zB6 _ _ _ _ _) (fun x hx=>by simp at hx;rcases hx with rfl | rfl | rfl <;> rfl) (by unfold maxLen;omega) (by omega) (by have:=HB.out.size;simp;omega) ?_;intro v' w3 hown' hgrow hnil))
        have ht:=HH.out
        have hb3:Below w.heap.size w w3:=Below.grown (HB.out.alloc HB.out.size _) hgrow (by have:=HB.out.size;simp;omega) (fun j hj=>(hown.lt _ hj).1)
        go_roundw
        case rel=>
         refine⟨j,done ++ [⟨110,i,j⟩],by omega,by go_num,?_,hb3,?_,by simp;omega⟩
         ·rw[List.length_append,List.length_singleton,zB5]
          exact hown'
         ·show _=_
          have e:=HS.out
          rw[zBC (by omega) (by rw[ht];rfl),ht] at e
          rw[←e]
          simp
        case measure=>simp[intOf];omega
       ·have ht:zA8 s i=⟨33,i,i⟩:=by
         rw[HF.out,zAX,if_neg (by omega),if_neg (by rw[hg,hsg];decide),HE.out,if_pos (by omega),if_neg h99]
        have HH:Hid (zA8 s i=⟨33,i,i⟩):=ht
        clear ht hg HF HT1
        have h9':(9:Int)<(j:Int) - (i:Int):=by omega
        go_wp2_with (first | (at_builtin;refine wpList_append_own _ rfl _ _ 163 rfl w.heap.size 169 i0 (.agg #[.int .u8 0,.int .i64 0,.string { data:=#[] }]) 3 32 Tryz.underlying163 hi hz0 hz1 hz2 rfl (by decide) _ _ _ rfl (hown.alloc _) ⟨wr.heap.size,0,none⟩ 1 1 [.int .u8 33,.int .i64 i,.string { data:=#[] }] rfl rfl (zB6 _ _ _ _ _) (fun x hx=>by simp at hx;rcases hx with rfl | rfl | rfl <;> rfl) (by unfold maxLen;omega) (by omega) (by have:=HB.out.size;simp;omega) ?_;intro v' w3 hown' hgrow hnil))
        have ht:=HH.out
        go_ret
        have hb3:Below w.heap.size w w3:=Below.grown (HB.out.alloc HB.out.size _) hgrow (by have:=HB.out.size;simp;omega) (fun j hj=>(hown.lt _ hj).1)
        refine⟨_,rfl,?_,hb3⟩
        have e:=HS.out
        rw[zB0 (by rw[ht];rfl),ht] at e
        rw[←e,List.length_append,List.length_singleton,zB5]
        have e2:zBF s ⟨33,i,i⟩=[.int .u8 33,.int .i64 i,.string { data:=#[] }]:=by
         unfold zBF Tok.text
         rw[zCU]
         rfl
        rw[e2]
        exact hown'
      all_goals
       have HT1:=HT.out.below HB.out
       by_cases hji:j=i
       ·subst hji
        have hw:=ref_word s j hs (by omega) wr HT1
        have hwl:=zC7 s (s.size - j) j 0 (by omega)
        have hwe:zAH s (s.size - j) j 0=zAF s j:=rfl
        rw[hwe] at hwl
        have HTK:Hid (zA8 s j=if (zAF s j).2=0∨12<(zAF s j).2 then⟨33,j,j⟩ else⟨97,j,(zAF s j).1⟩):=by
         show _=_
         rw[HF.out,zAX,if_neg (by omega),if_neg (by rw[hg,hsg];decide),if_neg (by have:=HE.out;omega)]
        clear hwe hg HF HT1
        generalize (zAF s j).1=we at *
        generalize (zAF s j).2=wn at *
        obtain⟨hw1,hw2,hw3,hw4,hw5⟩:=hwl
        have q1:(0:Int)≤(j:Int):=by omega
        have q2:(j:Int)≤(we:Int):=by omega
        have q3:(we:Int)≤(s.size:Int):=by omega
        have hcs:(((wn:Int) == 0)=true∨(((wn:Int) == 0)=false∧(12:Int)<(wn:Int)))∧Hid (zA8 s j=⟨33,j,j⟩)∨((((wn:Int) == 0)=false∧¬ (12:Int)<(wn:Int)∧j<we)∧Hid (zA8 s j=⟨97,j,we⟩)):=by
         have e:=HTK.out
         by_cases h0:wn=0
         ·exact .inl ⟨.inl (by simp[h0]),by rw[if_pos (.inl h0)] at e;exact e⟩
         ·have h0':((wn:Int) == 0)=false:=by simp;omega
          by_cases h12:12<wn
          ·exact .inl ⟨.inr ⟨h0',by omega⟩,by rw[if_pos (.inr h12)] at e;exact e⟩
          ·exact .inr ⟨⟨h0',by omega,by omega⟩,by rw[if_neg (by omega)] at e;exact e⟩
        clear HTK
        rcases hcs with⟨h0 | ⟨h0,h12⟩,HH⟩ | ⟨⟨h0,h12,hlt⟩,HH⟩
        ·go_wp2_with (first | (go_at_call 89;refine hw.mono ?_;rintro e w1 ⟨rfl,hb1⟩;have hown1:=hown.kept (row:=none) ⟨hb1.os,hb1.tape,hb1.output,hb1.size,fun k hk _=>hb1.block k hk⟩ (Classical.em _);have HB1:Hid (Below w.heap.size w w1):=below_size HB.out hb1;clear hb1) | (at_builtin;refine wpList_append_own _ rfl _ _ 163 rfl w.heap.size 169 i0 (.agg #[.int .u8 0,.int .i64 0,.string { data:=#[] }]) 3 32 Tryz.underlying163 hi hz0 hz1 hz2 rfl (by decide) _ _ _ rfl (hown1.alloc _) ⟨w1.heap.size,0,none⟩ 1 1 [.int .u8 33,.int .i64 j,.string { data:=#[] }] rfl rfl (zB6 _ _ _ _ _) (fun x hx=>by simp at hx;rcases hx with rfl | rfl | rfl <;> rfl) (by unfold maxLen;omega) (by omega) (by have:=HB1.out.size;simp;omega) ?_;intro v' w3 hown' hgrow hnil))
         have ht:=HH.out
         go_ret
         have hb3:Below w.heap.size w w3:=Below.grown (HB1.out.alloc HB1.out.size _) hgrow (by have:=HB1.out.size;simp;omega) (fun j hj=>(hown1.lt _ hj).1)
         refine⟨_,rfl,?_,hb3⟩
         have e:=HS.out
         rw[zB0 (by rw[ht];rfl),ht] at e
         rw[←e,List.length_append,List.length_singleton,zB5]
         have e2:zBF s ⟨33,j,j⟩=[.int .u8 33,.int .i64 j,.string { data:=#[] }]:=by
          unfold zBF Tok.text
          rw[zCU]
          rfl
         rw[e2]
         exact hown'
        ·go_wp2_with (first | (go_at_call 89;refine hw.mono ?_;rintro e w1 ⟨rfl,hb1⟩;have hown1:=hown.kept (row:=none) ⟨hb1.os,hb1.tape,hb1.output,hb1.size,fun k hk _=>hb1.block k hk⟩ (Classical.em _);have HB1:Hid (Below w.heap.size w w1):=below_size HB.out hb1;clear hb1) | (at_builtin;refine wpList_append_own _ rfl _ _ 163 rfl w.heap.size 169 i0 (.agg #[.int .u8 0,.int .i64 0,.string { data:=#[] }]) 3 32 Tryz.underlying163 hi hz0 hz1 hz2 rfl (by decide) _ _ _ rfl (hown1.alloc _) ⟨w1.heap.size,0,none⟩ 1 1 [.int .u8 33,.int .i64 j,.string { data:=#[] }] rfl rfl (zB6 _ _ _ _ _) (fun x hx=>by simp at hx;rcases hx with rfl | rfl | rfl <;> rfl) (by unfold maxLen;omega) (by omega) (by have:=HB1.out.size;simp;omega) ?_;intro v' w3 hown' hgrow hnil))
         have ht:=HH.out
         go_ret
         have hb3:Below w.heap.size w w3:=Below.grown (HB1.out.alloc HB1.out.size _) hgrow (by have:=HB1.out.size;simp;omega) (fun j hj=>(hown1.lt _ hj).1)
         refine⟨_,rfl,?_,hb3⟩
         have e:=HS.out
         rw[zB0 (by rw[ht];rfl),ht] at e
         rw[←e,List.length_append,List.length_singleton,zB5]
         have e2:zBF s ⟨33,j,j⟩=[.int .u8 33,.int .i64 j,.string { data:=#[] }]:=by
          unfold zBF Tok.text
          rw[zCU]
          rfl
         rw[e2]
         exact hown'
        ·go_wp2_with (first | (go_at_call 89;refine hw.mono ?_;rintro e w1 ⟨rfl,hb1⟩;have hown1:=hown.kept (row:=none) ⟨hb1.os,hb1.tape,hb1.output,hb1.size,fun k hk _=>hb1.block k hk⟩ (Classical.em _);have HB1:Hid (Below w.heap.size w w1):=below_size HB.out hb1;clear hb1) | (at_builtin;refine wpList_append_own _ rfl _ _ 163 rfl w.heap.size 169 i0 (.agg #[.int .u8 0,.int .i64 0,.string { data:=#[] }]) 3 32 Tryz.underlying163 hi hz0 hz1 hz2 rfl (by decide) _ _ _ rfl (hown1.alloc _) ⟨w1.heap.size,0,none⟩ 1 1 [.int .u8 97,.int .i64 j,.string (s.extract j we)] rfl rfl (zB6 _ _ _ _ _) (fun x hx=>by simp at hx;rcases hx with rfl | rfl | rfl <;> rfl) (by unfold maxLen;omega) (by omega) (by have:=HB1.out.size;simp;omega) ?_;intro v' w3 hown' hgrow hnil))
         have ht:=HH.out
         have hb3:Below w.heap.size w w3:=Below.grown (HB1.out.alloc HB1.out.size _) hgrow (by have:=HB1.out.size;simp;omega) (fun j hj=>(hown1.lt _ hj).1)
         go_roundw
         case rel=>
          refine⟨we,done ++ [⟨97,j,we⟩],by omega,by go_num,?_,hb3,?_,by simp;omega⟩
          ·rw[List.length_append,List.length_singleton,zB5]
           exact hown'
          ·show _=_
           have e:=HS.out
           rw[zBC (by omega) (by rw[ht];rfl),ht] at e
           rw[←e]
           simp
         case measure=>simp[intOf];omega
       ·have hji':((j:Int) == (i:Int))=false:=by simp;omega
        have hj0:(((j:Int) - (i:Int)) == 0)=false:=by simp;omega
        have q1:(0:Int)≤(i:Int):=by omega
        have q2:(i:Int)≤(j:Int):=by omega
        have q3:(j:Int)≤(s.size:Int):=by omega
        by_cases h99:j - i≤9
        ·have ht:zA8 s i=⟨110,i,j⟩:=by
          rw[HF.out,zAX,if_neg (by omega),if_neg (by rw[hg,hsg];decide),HE.out,if_pos (by omega),if_pos h99]
         have HH:Hid (zA8 s i=⟨110,i,j⟩):=ht
         clear ht hg HF HT1
         have h9':¬ (9:Int)<(j:Int) - (i:Int):=by omega
         go_wp2_with (first | (at_builtin;refine wpList_append_own _ rfl _ _ 163 rfl w.heap.size 169 i0 (.agg #[.int .u8 0,.int .i64 0,.string { data:=#[] }]) 3 32 Tryz.underlying163 hi hz0 hz1 hz2 rfl (by decide) _ _ _ rfl (hown.alloc _) ⟨wr.heap.size,0,none⟩ 1 1 [.int .u8 110,.int .i64 i,.string (s.extract i j)] rfl rfl (zB6 _ _ _ _ _) (fun x hx=>by simp at hx;rcases hx with rfl | rfl | rfl <;> rfl) (by unfold maxLen;omega) (by omega) (by have:=HB.out.size;simp;omega) ?_;intro v' w3 hown' hgrow hnil))
         have ht:=HH.out
         have hb3:Below w.heap.size w w3:=Below.grown (HB.out.alloc HB.out.size _) hgrow (by have:=HB.out.size;simp;omega) (fun j hj=>(hown.lt _ hj).1)
         go_roundw
         case rel=>
          refine⟨j,done ++ [⟨110,i,j⟩],by omega,by go_num,?_,hb3,?_,by simp;omega⟩
          ·rw[List.length_append,List.length_singleton,zB5]
           exact hown'
          ·show _=_
           have e:=HS.out
           rw[zBC (by omega) (by rw[ht];rfl),ht] at e
           rw[←e]
           simp
         case measure=>simp[intOf];omega
        ·have ht:zA8 s i=⟨33,i,i⟩:=by
          rw[HF.out,zAX,if_neg (by omega),if_neg (by rw[hg,hsg];decide),HE.out,if_pos (by omega),if_neg h99]
         have HH:Hid (zA8 s i=⟨33,i,i⟩):=ht
         clear ht hg HF HT1
         have h9':(9:Int)<(j:Int) - (i:Int):=by omega
         go_wp2_with (first | (at_builtin;refine wpList_append_own _ rfl _ _ 163 rfl w.heap.size 169 i0 (.agg #[.int .u8 0,.int .i64 0,.string { data:=#[] }]) 3 32 Tryz.underlying163 hi hz0 hz1 hz2 rfl (by decide) _ _ _ rfl (hown.alloc _) ⟨wr.heap.size,0,none⟩ 1 1 [.int .u8 33,.int .i64 i,.string { data:=#[] }] rfl rfl (zB6 _ _ _ _ _) (fun x hx=>by simp at hx;rcases hx with rfl | rfl | rfl <;> rfl) (by unfold maxLen;omega) (by omega) (by have:=HB.out.size;simp;omega) ?_;intro v' w3 hown' hgrow hnil))
         have ht:=HH.out
         go_ret
         have hb3:Below w.heap.size w w3:=Below.grown (HB.out.alloc HB.out.size _) hgrow (by have:=HB.out.size;simp;omega) (fun j hj=>(hown.lt _ hj).1)
         refine⟨_,rfl,?_,hb3⟩
         have e:=HS.out
         rw[zB0 (by rw[ht];rfl),ht] at e
         rw[←e,List.length_append,List.length_singleton,zB5]
         have e2:zBF s ⟨33,i,i⟩=[.int .u8 33,.int .i64 i,.string { data:=#[] }]:=by
          unfold zBF Tok.text
          rw[zCU]
          rfl
         rw[e2]
         exact hown'
  ·obtain rfl:i=s.size:=by omega
   go_wp2_with (first | (at_builtin;refine wpList_append_own _ rfl _ _ 163 rfl w.heap.size 169 i0 (.agg #[.int .u8 0,.int .i64 0,.string { data:=#[] }]) 3 32 Tryz.underlying163 hi hz0 hz1 hz2 rfl (by decide) _ _ _ rfl (hown.alloc _) ⟨wr.heap.size,0,none⟩ 1 1 [.int .u8 101,.int .i64 s.size,.string { data:=#[] }] rfl rfl (zB6 _ _ _ _ _) (fun x hx=>by simp at hx;rcases hx with rfl | rfl | rfl <;> rfl) (by unfold maxLen;omega) (by omega) (by have:=HB.out.size;simp;omega) ?_;intro v' w3 hown' hgrow hnil))
   go_ret
   have hb3:Below w.heap.size w w3:=Below.grown (HB.out.alloc HB.out.size _) hgrow (by have:=HB.out.size;simp;omega) (fun j hj=>(hown.lt _ hj).1)
   have e:toks s=done ++ [⟨101,s.size,s.size⟩]:=by
    rw[←HS.out,zB0 (by unfold zA8;rw[zLZ];simp[zAX,Tok.last])]
    unfold zA8
    rw[zLZ]
    simp[zAX]
   refine⟨_,rfl,?_,hb3⟩
   rw[e,List.length_append,List.length_singleton,zB5]
   have e2:zBF s ⟨101,s.size,s.size⟩=[.int .u8 101,.int .i64 s.size,.string { data:=#[] }]:=by
    unfold zBF Tok.text
    rw[zCU]
    rfl
   rw[e2]
   exact hown'
end Go.Proofs.YtbokdbaagacnlaaGreatDoor
