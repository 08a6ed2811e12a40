import Derived.WalkKit
import Derived.Deep.Draws
import Derived.Below
namespace Go.Proofs.YtbokdbaagacnlaaGreatDoor
open Go.RowKit
structure Keep (R:Nat) (w w':World):Prop where
 os:w'.os=w.os
 tape:w'.tape=w.tape
 output:w'.output=w.output
 size:w.heap.size≤w'.heap.size
 block:∀ k,k<w.heap.size→k≠R→w'.heap[k]?=w.heap[k]?
theorem zA2 {w:World}{k:Nat}{o:Obj}(h:w.heap[k]?=some o):k<w.heap.size:=by
 rcases Nat.lt_or_ge k w.heap.size with h' | h'
 ·exact h'
 ·rw[Array.getElem?_eq_none h'] at h;cases h
theorem zA3 {w:World}{k:Nat}{o x:Obj}(h:w.heap[k]?=some x):(w.alloc o).heap[k]?=some x:=(Below.heap_alloc w o k (zA2 h)).trans h
theorem zA6 {w:World}{a:Addr}{v:Value}{k:Nat}{x:Obj}(h:w.heap[k]?=some x)(hne:k≠a.block):(w.setCell a v).heap[k]?=some x:=(Below.heap_setCell w a v k hne).trans h
theorem zA4 {w:World}{R i:Nat}{v:Value}{cs:Array Value}{t:TypeId}{z:Nat × Nat}(h:w.heap[R]?=some (.cells cs t z)):(w.setCell ⟨R,i,none⟩ v).heap[R]?=some (.cells (cs.setIfInBounds i v) t z):=by
 simp[World.setCell,Array.getElem?_modify,h]
theorem zA0 {w:World}{R i:Nat}{v:Value}{cs:Array Value}{t:TypeId}{z:Nat × Nat}(h:w.heap[R]?=some (.cells cs t z))(hv:cs[i]?=some v):w.cell? ⟨R,i,none⟩=some v:=by
 simp[World.cell?,h,hv]
theorem zA1 {w:World}{R i:Nat}{cs:Array Value}{t:TypeId}(h:w.heap[R]?=some (.cells cs t (0,0))):w.frozen? ⟨R,i,none⟩=false:=by
 simp[World.frozen?,h]
namespace Keep
variable {R:Nat} {w w1 w2:World}
theorem refl (R:Nat)(w:World):Keep R w w:=⟨rfl,rfl,rfl,Nat.le_refl _,fun _ _ _=>rfl⟩
theorem trans (h:Keep R w w1)(k:Keep R w1 w2):Keep R w w2:=
 ⟨k.os.trans h.os,k.tape.trans h.tape,k.output.trans h.output,Nat.le_trans h.size k.size,fun i hi hne=>(k.block i (Nat.lt_of_lt_of_le hi h.size) hne).trans (h.block i hi hne)⟩
theorem of_below (h:Below w.heap.size w w1):Keep R w w1:=⟨h.os,h.tape,h.output,h.size,fun k hk _=>h.block k hk⟩
theorem below (h:Keep R w w1){B:Nat}(hB:B≤w.heap.size)(hR:B≤R):Below B w w1:=⟨h.os,h.tape,h.output,h.size,fun k hk=>h.block k (by omega) (by omega)⟩
theorem alloc (h:Keep R w w1)(o:Obj):Keep R w (w1.alloc o):=
 ⟨h.os,h.tape,h.output,by simp;exact Nat.le_succ_of_le h.size,fun k hk hne=>(Below.heap_alloc w1 o k (Nat.lt_of_lt_of_le hk h.size)).trans (h.block k hk hne)⟩
theorem drew (h:Keep R w w1):Keep R w w1.drew:=⟨h.os,h.tape,h.output,h.size,h.block⟩
theorem drewN (h:Keep R w w1)(n:Nat):Keep R w (w1.drewN n):=⟨h.os,h.tape,h.output,h.size,h.block⟩
theorem setR (h:Keep R w w1)(i:Nat)(v:Value):Keep R w (w1.setCell ⟨R,i,none⟩ v):=
 ⟨h.os,h.tape,h.output,by simp;exact h.size,fun k hk hne=>(Below.heap_setCell w1 _ v k hne).trans (h.block k hk hne)⟩
theorem setNew (h:Keep R w w1){a:Addr}(ha:w.heap.size≤a.block)(v:Value):Keep R w (w1.setCell a v):=
 ⟨h.os,h.tape,h.output,by simp;exact h.size,fun k hk hne=>(Below.heap_setCell w1 _ v k (by omega)).trans (h.block k hk hne)⟩
theorem heap (h:Keep R w w1){k:Nat}{o:Obj}(hk:w.heap[k]?=some o)(hne:k≠R):w1.heap[k]?=some o:=(h.block k (zA2 hk) hne).trans hk
theorem cell (h:Keep R w w1){a:Addr}{v:Value}(hc:w.cell? a=some v)(hne:a.block≠R):w1.cell? a=some v:=
 (World.cell?_of_block (h.block a.block (World.block_lt_of_cell? w a hc) hne)).trans hc
end Keep
end Go.Proofs.YtbokdbaagacnlaaGreatDoor
