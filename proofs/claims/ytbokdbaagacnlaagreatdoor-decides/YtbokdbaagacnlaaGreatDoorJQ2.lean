import Derived.Test.YtbokdbaagacnlaaGreatDoorJQ1
import Derived.Test.YtbokdbaagacnlaaGreatDoorProg
namespace Go.Proofs.YtbokdbaagacnlaaGreatDoor
open Go.RowKit
def In64 (x:Int):Prop:=-9223372036854775808≤x∧x≤9223372036854775807
def clip (x:Int):Int:=if x < -9223372036854775808 then -9223372036854775808 else if 9223372036854775807<x then 9223372036854775807 else x
theorem zH1 (x:Int):In64 (clip x):=by unfold clip In64;repeat' split <;> omega
theorem zQ4 {x:Int}(h:In64 x):clip x=x:=by unfold clip;rw[if_neg (by have:=h.1;omega),if_neg (by have:=h.2;omega)]
theorem zQU {x:Int}(h:x < -9223372036854775808):clip x = -9223372036854775808:=by unfold clip;rw[if_pos h]
theorem zON {x:Int}(h:9223372036854775807<x):clip x=9223372036854775807:=by unfold clip;rw[if_neg (by omega),if_pos h]
theorem zEP {x v:Int}(h:(x < -9223372036854775808∧v = -9223372036854775808)∨(9223372036854775807<x∧v=9223372036854775807)∨(-9223372036854775808≤x∧x≤9223372036854775807∧v=x)):v=clip x:=by
 unfold clip
 repeat' split <;> omega
set_option maxRecDepth 1000000 in
theorem b_Sum {x y:Int}(hx:In64 x)(hy:In64 y)(w:World):Calls Tryz.prog 182 #[.int .i64 x,.int .i64 y] w fun e w'=>e=.returned (.int .i64 (clip (x+y)))∧w'=w:=by
 obtain⟨x1,x2⟩:=hx
 obtain⟨y1,y2⟩:=hy
 go_enter Tryz.func182,Tryz.ntmps182
 go_wp2
 all_goals
  go_ret
  exact⟨congrArg (fun z=>Ending.returned (.int .i64 z)) (zEP (by omega)),rfl⟩
set_option maxRecDepth 1000000 in
theorem zIW {x y:Int}(hx:In64 x)(hy:In64 y)(w:World):Calls Tryz.prog 183 #[.int .i64 x,.int .i64 y] w fun e w'=>e=.returned (.int .i64 (clip (x - y)))∧w'=w:=by
 obtain⟨x1,x2⟩:=hx
 obtain⟨y1,y2⟩:=hy
 go_enter Tryz.func183,Tryz.ntmps183
 go_wp2
 all_goals
  go_ret
  exact⟨congrArg (fun z=>Ending.returned (.int .i64 z)) (zEP (by omega)),rfl⟩
set_option maxRecDepth 1000000 in
theorem r_plus {x y:Int}(hx:In64 x)(hy:In64 y)(w:World):Calls Tryz.prog 76 #[.int .i64 x,.int .i64 y] w fun e w'=>e=.returned (.int .i64 (clip (x+y)))∧w'=w:=by
 obtain⟨x1,x2⟩:=hx
 obtain⟨y1,y2⟩:=hy
 go_enter Tryz.func76,Tryz.ntmps76
 go_wp2
 all_goals
  go_ret
  exact⟨congrArg (fun z=>Ending.returned (.int .i64 z)) (zEP (by omega)),rfl⟩
set_option maxRecDepth 1000000 in
theorem r_less {x y:Int}(hx:In64 x)(hy:In64 y)(w:World):Calls Tryz.prog 78 #[.int .i64 x,.int .i64 y] w fun e w'=>e=.returned (.int .i64 (clip (x - y)))∧w'=w:=by
 obtain⟨x1,x2⟩:=hx
 obtain⟨y1,y2⟩:=hy
 go_enter Tryz.func78,Tryz.ntmps78
 go_wp2
 all_goals
  go_ret
  exact⟨congrArg (fun z=>Ending.returned (.int .i64 z)) (zEP (by omega)),rfl⟩
set_option maxRecDepth 1000000 in
theorem zL4 {x:Int}(hx:In64 x)(w:World):Calls Tryz.prog 77 #[.int .i64 x] w fun e w'=>e=.returned (.int .i64 (clip (-x)))∧w'=w:=by
 obtain⟨x1,x2⟩:=hx
 go_enter Tryz.func77,Tryz.ntmps77
 by_cases h:x = -9223372036854775808
 ·go_wp2
  go_ret
  exact⟨congrArg (fun z=>Ending.returned (.int .i64 z)) (zEP (by omega)),rfl⟩
 ·go_wp2
  go_ret
  exact⟨congrArg (fun z=>Ending.returned (.int .i64 z)) (zEP (by omega)),rfl⟩
set_option maxRecDepth 1000000 in
theorem zLR {x:Int}(hx:In64 x)(w:World):Calls Tryz.prog 172 #[.int .i64 x] w fun e w'=>e=.returned (.int .i64 (clip (-x)))∧w'=w:=by
 have hd:=zIW (x:=0) (by unfold In64;omega) hx w
 rw[Int.zero_sub] at hd
 go_enter Tryz.func172,Tryz.ntmps172
 go_wp2_with fail
 refine hd.mono ?_
 rintro e w' ⟨rfl,hw⟩
 have hw:=hw.symm
 subst hw
 go_wp2
 go_ret
 exact⟨rfl,rfl⟩
def quot (x y:Int):Int:=if y = -1 then clip (-x) else if x.tmod y≠0∧decide (x<0)≠decide (y<0) then wrap64 (wrap64 (x.tdiv y) - 1) else wrap64 (x.tdiv y)
set_option maxRecDepth 1000000 in
theorem zLQ {x y:Int}(hx:In64 x)(hy:In64 y)(h0:y≠0)(w:World):Calls Tryz.prog 145 #[.int .i64 x,.int .i64 y] w fun e w'=>e=.returned (.int .i64 (quot x y))∧w'=w:=by
 have hn:=zLR hx w
 obtain⟨x1,x2⟩:=hx
 obtain⟨y1,y2⟩:=hy
 go_enter Tryz.func145,Tryz.ntmps145
 by_cases h:y = -1
 ·subst h
  go_wp2_with fail
  refine hn.mono ?_
  rintro e w' ⟨rfl,hw⟩
  have hw:=hw.symm
  subst hw
  go_wp2
  go_ret
  exact⟨by rw[quot,if_pos rfl];rfl,rfl⟩
 ·have hm:(y == -1)=false:=by rw[beq_eq_false_iff_ne];exact h
  go_wp2
  all_goals
   go_ret
   refine⟨?_,rfl⟩
   rw[quot,if_neg h]
   simp_all
set_option maxRecDepth 1000000 in
theorem r_over {x y:Int}(hx:In64 x)(hy:In64 y)(h0:y≠0)(w:World):Calls Tryz.prog 80 #[.int .i64 x,.int .i64 y] w fun e w'=>e=.returned (.int .i64 (quot x y))∧w'=w:=by
 have hn:=zL4 hx w
 obtain⟨x1,x2⟩:=hx
 obtain⟨y1,y2⟩:=hy
 go_enter Tryz.func80,Tryz.ntmps80
 by_cases h:y = -1
 ·subst h
  go_wp2_with fail
  refine hn.mono ?_
  rintro e w' ⟨rfl,hw⟩
  have hw:=hw.symm
  subst hw
  go_wp2
  go_ret
  exact⟨by rw[quot,if_pos rfl];rfl,rfl⟩
 ·have hm:(y == -1)=false:=by rw[beq_eq_false_iff_ne];exact h
  go_wp2
  all_goals
   go_ret
   refine⟨?_,rfl⟩
   rw[quot,if_neg h]
   simp_all
theorem zC6 {n:Int}(h:In64 n):wrap64 n=n:=by unfold wrap64;unfold In64 at h;omega
theorem zFT (n:Int):In64 (wrap64 n):=by unfold wrap64 In64;omega
theorem zP8 (x y:Int):In64 (quot x y):=by
 unfold quot
 split
 ·exact zH1 _
 ·split <;> exact zFT _
theorem tdiv_in {p x:Int}(hp:In64 p)(h0:x≠0)(h1:x ≠ -1):In64 (p.tdiv x):=by
 by_cases hx:x=1
 ·subst hx
  rw[Int.tdiv_one]
  exact hp
 have h2:2≤x.natAbs:=by omega
 have h3:(p.tdiv x).natAbs=p.natAbs / x.natAbs:=Int.natAbs_tdiv p x
 have h4:=Nat.div_mul_le_self p.natAbs x.natAbs
 have h5:=Nat.mul_le_mul_left (p.natAbs / x.natAbs) h2
 rw[←h3] at h4 h5
 unfold In64 at hp ⊢
 omega
theorem zQL {x y:Int}(hx:In64 x)(_hy:In64 y)(h0:x≠0)(h1:x ≠ -1):wrap64 ((wrap64 (x * y)).tdiv x)=y↔In64 (x * y):=by
 have hd:=tdiv_in (zFT (x * y)) h0 h1
 rw[zC6 hd]
 constructor
 ·intro h
  have h2:=Int.tmod_add_mul_tdiv (wrap64 (x * y)) x
  rw[h] at h2
  have h3:=Int.natAbs_tmod (wrap64 (x * y)) x
  have h4:=Nat.mod_lt (wrap64 (x * y)).natAbs (show 0<x.natAbs by omega)
  rw[←h3] at h4
  have h5:=zFT (x * y)
  generalize (wrap64 (x * y)).tmod x=m at *
  have h6:∃ k:Int,wrap64 (x * y)=x * y+k * 18446744073709551616:=⟨-((x * y+9223372036854775808) / 18446744073709551616),by unfold wrap64;omega⟩
  obtain⟨k,h6⟩:=h6
  unfold In64 at *
  generalize x * y=z at *
  omega
 ·intro h
  rw[zC6 h,Int.mul_tdiv_cancel_left _ h0]
theorem zQT {x y:Int}(h:¬ In64 (x * y)):clip (x * y)=if decide (x<0)=decide (y<0) then 9223372036854775807 else -9223372036854775808:=by
 have hs:(decide (x<0)=decide (y<0)→0≤x * y)∧(decide (x<0)≠decide (y<0)→x * y≤0):=by
  by_cases hx:x<0 <;> by_cases hy:y<0 <;> simp[hx,hy]
  ·exact Int.mul_nonneg_of_nonpos_of_nonpos (by omega) (by omega)
  ·exact Int.mul_nonpos_of_nonpos_of_nonneg (by omega) (by omega)
  ·exact Int.mul_nonpos_of_nonneg_of_nonpos (by omega) (by omega)
  ·exact Int.mul_nonneg (by omega) (by omega)
 unfold In64 at h
 split
 ·next e=>exact zON (by have:=hs.1 e;omega)
 ·next e=>exact zQU (by have:=hs.2 e;omega)
set_option maxRecDepth 1000000 in
theorem b_Product {x y:Int}(hx:In64 x)(hy:In64 y)(w:World):Calls Tryz.prog 184 #[.int .i64 x,.int .i64 y] w fun e w'=>e=.returned (.int .i64 (clip (x * y)))∧w'=w:=by
 have hb:=zQL hx hy
 have hc:=zQT (x:=x) (y:=y)
 by_cases h0:x=0
 ·subst h0
  clear hb hc
  go_enter Tryz.func184,Tryz.ntmps184
  go_wp2
  go_ret
  exact⟨by rw[Int.zero_mul];rfl,rfl⟩
 by_cases h1:x = -1
 ·subst h1
  clear hb hc
  by_cases h2:y = -9223372036854775808
  ·subst h2
   have hz:wrap64 9223372036854775808 = -9223372036854775808:=by unfold wrap64;omega
   go_enter Tryz.func184,Tryz.ntmps184
   go_wp2
   go_ret
   exact⟨congrArg (fun z=>Ending.returned (.int .i64 z)) (zEP (by omega)),rfl⟩
  ·have hw:wrap64 (-y) = -y:=zC6 (by unfold In64 at *;omega)
   have hw2:wrap64 y=y:=zC6 hy
   have hn:(y == -9223372036854775808)=false:=by rw[beq_eq_false_iff_ne];exact h2
   have HY:Hid (In64 y):=hy
   clear hy
   go_enter Tryz.func184,Tryz.ntmps184
   go_wp2
   go_ret
   exact⟨congrArg (fun z=>Ending.returned (.int .i64 z)) (zEP (by have:=HY.out.1;have:=HY.out.2;omega)),rfl⟩
 have hb:=hb h0 h1
 have hwy:wrap64 y=y:=zC6 hy
 have e0:(x == 0)=false:=by rw[beq_eq_false_iff_ne];exact h0
 have e1:(x == -1)=false:=by rw[beq_eq_false_iff_ne];exact h1
 clear hx hy
 by_cases hI:In64 (x * y)
 ·have hq:=hb.2 hI
  have hw:wrap64 (x * y)=x * y:=zC6 hI
  rw[hw] at hq
  have HI:Hid _:=zQ4 hI
  clear hb hc hI
  go_enter Tryz.func184,Tryz.ntmps184
  go_wp2
  go_ret
  exact⟨congrArg (fun z=>Ending.returned (.int .i64 z)) (hw.trans HI.out.symm),rfl⟩
 ·have hq:(wrap64 ((wrap64 (x * y)).tdiv x) == y)=false:=by rw[beq_eq_false_iff_ne];exact fun e=>hI (hb.1 e)
  have HC:Hid _:=hc hI
  clear hb hc hI
  go_enter Tryz.func184,Tryz.ntmps184
  go_wp2
  all_goals
   go_ret
   refine⟨?_,rfl⟩
   rw[HC.out]
   simp_all
set_option maxRecDepth 1000000 in
theorem r_times {x y:Int}(hx:In64 x)(hy:In64 y)(w:World):Calls Tryz.prog 79 #[.int .i64 x,.int .i64 y] w fun e w'=>e=.returned (.int .i64 (clip (x * y)))∧w'=w:=by
 have hb:=zQL hy hx
 have hc:=zQT (x:=x) (y:=y)
 by_cases h0:x=0
 ·subst h0
  clear hb hc
  go_enter Tryz.func79,Tryz.ntmps79
  go_wp2
  go_ret
  exact⟨by rw[Int.zero_mul];rfl,rfl⟩
 by_cases h3:y=0
 ·subst h3
  clear hb hc
  have e0:(x == 0)=false:=by rw[beq_eq_false_iff_ne];exact h0
  go_enter Tryz.func79,Tryz.ntmps79
  go_wp2
  go_ret
  exact⟨by rw[Int.mul_zero];rfl,rfl⟩
 have e0:(x == 0)=false:=by rw[beq_eq_false_iff_ne];exact h0
 have e3:(y == 0)=false:=by rw[beq_eq_false_iff_ne];exact h3
 by_cases h1:y = -1
 ·subst h1
  clear hb hc
  by_cases h2:x = -9223372036854775808
  ·subst h2
   go_enter Tryz.func79,Tryz.ntmps79
   go_wp2
   go_ret
   exact⟨congrArg (fun z=>Ending.returned (.int .i64 z)) (zEP (by omega)),rfl⟩
  ·have hw:wrap64 (-x) = -x:=zC6 (by unfold In64 at *;omega)
   have hw2:wrap64 x=x:=zC6 hx
   have hn:(x == -9223372036854775808)=false:=by rw[beq_eq_false_iff_ne];exact h2
   have HY:Hid (In64 x):=hx
   clear hx
   go_enter Tryz.func79,Tryz.ntmps79
   go_wp2
   all_goals
    go_ret
    exact⟨congrArg (fun z=>Ending.returned (.int .i64 z)) (zEP (by have:=HY.out.1;have:=HY.out.2;omega)),rfl⟩
 have e1:(y == -1)=false:=by rw[beq_eq_false_iff_ne];exact h1
 by_cases h4:x = -1∧y = -9223372036854775808
 ·obtain⟨rfl,rfl⟩:=h4
  clear hb hc
  go_enter Tryz.func79,Tryz.ntmps79
  go_wp2
  go_ret
  exact⟨congrArg (fun z=>Ending.returned (.int .i64 z)) (zEP (by omega)),rfl⟩
 have e4:(x == -1 && y == -9223372036854775808)=false:=by simpa using h4
 have hb:=hb h3 h1
 rw[Int.mul_comm] at hb
 have hwx:wrap64 x=x:=zC6 hx
 clear hx hy
 by_cases hI:In64 (x * y)
 ·have hq:=hb.2 hI
  have hw:wrap64 (x * y)=x * y:=zC6 hI
  rw[hw] at hq
  have HI:Hid _:=zQ4 hI
  clear hb hc hI
  go_enter Tryz.func79,Tryz.ntmps79
  go_wp2
  all_goals
   go_ret
   refine⟨?_,rfl⟩
   rw[HI.out]
   simp_all
 ·have hq:(wrap64 ((wrap64 (x * y)).tdiv y) == x)=false:=by rw[beq_eq_false_iff_ne];exact fun e=>hI (hb.1 e)
  have HC:Hid _:=hc hI
  clear hb hc hI
  go_enter Tryz.func79,Tryz.ntmps79
  go_wp2
  all_goals
   go_ret
   refine⟨?_,rfl⟩
   rw[HC.out]
   simp_all
end Go.Proofs.YtbokdbaagacnlaaGreatDoor
