import Derived.Test.YtbokdbaagacnlaaGreatDoorJQ30
namespace Go.Proofs.YtbokdbaagacnlaaGreatDoor
open Go.RowKit Go.Lib
section
variable {A:Nat→Addr} {w:World}
set_option maxRecDepth 1000000 in
set_option maxHeartbeats 4000000 in
theorem zKV (h:SentsX A w):Calls Tryz.prog 58 #[.iface 416 (.pointer (some (A 2)))] w fun e w'=>e=.returned (.int .i64 5)∧Below w.heap.size w w':=by
 obtain⟨ca,ta,ha⟩:=h.row 2 (by decide)
 obtain⟨cb0,tb0,hb0⟩:=h.row 0 (by decide)
 have hne0:=h.ne 2 0 (by decide) (by decide) (by decide)
 obtain⟨cb1,tb1,hb1⟩:=h.row 1 (by decide)
 have hne1:=h.ne 2 1 (by decide) (by decide) (by decide)
 obtain⟨⟨g0,g1,g2,g3,g4,g5,g6,g7⟩,-,-,-⟩:=h
 obtain⟨ti,hi,hcmp⟩:=Option.map_eq_some_iff.1 Tryz.isComp
 obtain⟨tj,hj,hjs⟩:=Option.map_eq_some_iff.1 Tryz.isSize
 have heq:=fun W=>run_eql_iface_ptr_same (P:=Tryz.prog) W (A 2) Tryz.underlying69 Tryz.underlying416 hi hcmp hj
 have hot0:=fun W=>run_eql_iface_ptr_other (P:=Tryz.prog) W (ca:=ca) (cb:=cb0) (ta:=ta) (tb:=tb0) Tryz.underlying69 Tryz.underlying416 hi hcmp hj (by rw[hjs];decide) hne0
 have hot1:=fun W=>run_eql_iface_ptr_other (P:=Tryz.prog) W (ca:=ca) (cb:=cb1) (ta:=ta) (tb:=tb1) Tryz.underlying69 Tryz.underlying416 hi hcmp hj (by rw[hjs];decide) hne1
 clear hi hcmp hj hjs
 go_enter Tryz.func58,Tryz.ntmps58
 go_wp2_with fail
 obtain⟨X,hX⟩:∃ X,X=w.alloc (.cells #[.nilIface,.iface 416 (.pointer (some (A 0))),.nilIface,.nilIface,.iface 416 (.pointer (some (A 1))),.iface 416 (.pointer (some (A 2))),.iface 416 (.pointer (some (A 3))),.iface 416 (.pointer (some (A 4))),.iface 416 (.pointer (some (A 5))),.iface 416 (.pointer (some (A 6))),.nilIface,.nilIface,.iface 416 (.pointer (some (A 7)))] 69):=⟨_,rfl⟩
 rw[←hX]
 have x0:X.cell? ⟨w.heap.size,0,none⟩=some (.nilIface):=by rw[hX];go_simp
 have x1:X.cell? ⟨w.heap.size,1,none⟩=some (.iface 416 (.pointer (some (A 0)))):=by rw[hX];go_simp
 have x2:X.cell? ⟨w.heap.size,2,none⟩=some (.nilIface):=by rw[hX];go_simp
 have x3:X.cell? ⟨w.heap.size,3,none⟩=some (.nilIface):=by rw[hX];go_simp
 have x4:X.cell? ⟨w.heap.size,4,none⟩=some (.iface 416 (.pointer (some (A 1)))):=by rw[hX];go_simp
 have x5:X.cell? ⟨w.heap.size,5,none⟩=some (.iface 416 (.pointer (some (A 2)))):=by rw[hX];go_simp
 have hbx:Below w.heap.size w X:=by rw[hX];exact(Below.refl _ _).alloc (Nat.le_refl _) _
 have hot0:=hot0 X ((hbx.block _ (zA2 ha)).trans ha) ((hbx.block _ (zA2 hb0)).trans hb0)
 have hot1:=hot1 X ((hbx.block _ (zA2 ha)).trans ha) ((hbx.block _ (zA2 hb1)).trans hb1)
 have HX:Hid (Below w.heap.size w X):=hbx
 clear hX hbx g0 g1 g2 g3 g4 g5 g6 g7 ha hb0 hb1
 refine wp_loop_rounds 6 ?_
 rw[rounds_succ]
 go_wp2_with fail
 rw[rounds_succ]
 go_wp2_with fail
 rw[rounds_succ]
 go_wp2_with fail
 rw[rounds_succ]
 go_wp2_with fail
 rw[rounds_succ]
 go_wp2_with fail
 rw[rounds_succ]
 go_wp2
 go_ret
 exact⟨rfl,HX.out⟩
set_option maxRecDepth 1000000 in
set_option maxHeartbeats 4000000 in
theorem zKU (h:SentsX A w):Calls Tryz.prog 58 #[.iface 416 (.pointer (some (A 3)))] w fun e w'=>e=.returned (.int .i64 6)∧Below w.heap.size w w':=by
 obtain⟨ca,ta,ha⟩:=h.row 3 (by decide)
 obtain⟨cb0,tb0,hb0⟩:=h.row 0 (by decide)
 have hne0:=h.ne 3 0 (by decide) (by decide) (by decide)
 obtain⟨cb1,tb1,hb1⟩:=h.row 1 (by decide)
 have hne1:=h.ne 3 1 (by decide) (by decide) (by decide)
 obtain⟨cb2,tb2,hb2⟩:=h.row 2 (by decide)
 have hne2:=h.ne 3 2 (by decide) (by decide) (by decide)
 obtain⟨⟨g0,g1,g2,g3,g4,g5,g6,g7⟩,-,-,-⟩:=h
 obtain⟨ti,hi,hcmp⟩:=Option.map_eq_some_iff.1 Tryz.isComp
 obtain⟨tj,hj,hjs⟩:=Option.map_eq_some_iff.1 Tryz.isSize
 have heq:=fun W=>run_eql_iface_ptr_same (P:=Tryz.prog) W (A 3) Tryz.underlying69 Tryz.underlying416 hi hcmp hj
 have hot0:=fun W=>run_eql_iface_ptr_other (P:=Tryz.prog) W (ca:=ca) (cb:=cb0) (ta:=ta) (tb:=tb0) Tryz.underlying69 Tryz.underlying416 hi hcmp hj (by rw[hjs];decide) hne0
 have hot1:=fun W=>run_eql_iface_ptr_other (P:=Tryz.prog) W (ca:=ca) (cb:=cb1) (ta:=ta) (tb:=tb1) Tryz.underlying69 Tryz.underlying416 hi hcmp hj (by rw[hjs];decide) hne1
 have hot2:=fun W=>run_eql_iface_ptr_other (P:=Tryz.prog) W (ca:=ca) (cb:=cb2) (ta:=ta) (tb:=tb2) Tryz.underlying69 Tryz.underlying416 hi hcmp hj (by rw[hjs];decide) hne2
 clear hi hcmp hj hjs
 go_enter Tryz.func58,Tryz.ntmps58
 go_wp2_with fail
 obtain⟨X,hX⟩:∃ X,X=w.alloc (.cells #[.nilIface,.iface 416 (.pointer (some (A 0))),.nilIface,.nilIface,.iface 416 (.pointer (some (A 1))),.iface 416 (.pointer (some (A 2))),.iface 416 (.pointer (some (A 3))),.iface 416 (.pointer (some (A 4))),.iface 416 (.pointer (some (A 5))),.iface 416 (.pointer (some (A 6))),.nilIface,.nilIface,.iface 416 (.pointer (some (A 7)))] 69):=⟨_,rfl⟩
 rw[←hX]
 have x0:X.cell? ⟨w.heap.size,0,none⟩=some (.nilIface):=by rw[hX];go_simp
 have x1:X.cell? ⟨w.heap.size,1,none⟩=some (.iface 416 (.pointer (some (A 0)))):=by rw[hX];go_simp
 have x2:X.cell? ⟨w.heap.size,2,none⟩=some (.nilIface):=by rw[hX];go_simp
 have x3:X.cell? ⟨w.heap.size,3,none⟩=some (.nilIface):=by rw[hX];go_simp
 have x4:X.cell? ⟨w.heap.size,4,none⟩=some (.iface 416 (.pointer (some (A 1)))):=by rw[hX];go_simp
 have x5:X.cell? ⟨w.heap.size,5,none⟩=some (.iface 416 (.pointer (some (A 2)))):=by rw[hX];go_simp
 have x6:X.cell? ⟨w.heap.size,6,none⟩=some (.iface 416 (.pointer (some (A 3)))):=by rw[hX];go_simp
 have hbx:Below w.heap.size w X:=by rw[hX];exact(Below.refl _ _).alloc (Nat.le_refl _) _
 have hot0:=hot0 X ((hbx.block _ (zA2 ha)).trans ha) ((hbx.block _ (zA2 hb0)).trans hb0)
 have hot1:=hot1 X ((hbx.block _ (zA2 ha)).trans ha) ((hbx.block _ (zA2 hb1)).trans hb1)
 have hot2:=hot2 X ((hbx.block _ (zA2 ha)).trans ha) ((hbx.block _ (zA2 hb2)).trans hb2)
 have HX:Hid (Below w.heap.size w X):=hbx
 clear hX hbx g0 g1 g2 g3 g4 g5 g6 g7 ha hb0 hb1 hb2
 refine wp_loop_rounds 7 ?_
 rw[rounds_succ]
 go_wp2_with fail
 rw[rounds_succ]
 go_wp2_with fail
 rw[rounds_succ]
 go_wp2_with fail
 rw[rounds_succ]
 go_wp2_with fail
 rw[rounds_succ]
 go_wp2_with fail
 rw[rounds_succ]
 go_wp2_with fail
 rw[rounds_succ]
 go_wp2
 go_ret
 exact⟨rfl,HX.out⟩
set_option maxRecDepth 1000000 in
set_option maxHeartbeats 4000000 in
theorem zKT (h:SentsX A w):Calls Tryz.prog 58 #[.iface 416 (.pointer (some (A 4)))] w fun e w'=>e=.returned (.int .i64 7)∧Below w.heap.size w w':=by
 obtain⟨ca,ta,ha⟩:=h.row 4 (by decide)
 obtain⟨cb0,tb0,hb0⟩:=h.row 0 (by decide)
 have hne0:=h.ne 4 0 (by decide) (by decide) (by decide)
 obtain⟨cb1,tb1,hb1⟩:=h.row 1 (by decide)
 have hne1:=h.ne 4 1 (by decide) (by decide) (by decide)
 obtain⟨cb2,tb2,hb2⟩:=h.row 2 (by decide)
 have hne2:=h.ne 4 2 (by decide) (by decide) (by decide)
 obtain⟨cb3,tb3,hb3⟩:=h.row 3 (by decide)
 have hne3:=h.ne 4 3 (by decide) (by decide) (by decide)
 obtain⟨⟨g0,g1,g2,g3,g4,g5,g6,g7⟩,-,-,-⟩:=h
 obtain⟨ti,hi,hcmp⟩:=Option.map_eq_some_iff.1 Tryz.isComp
 obtain⟨tj,hj,hjs⟩:=Option.map_eq_some_iff.1 Tryz.isSize
 have heq:=fun W=>run_eql_iface_ptr_same (P:=Tryz.prog) W (A 4) Tryz.underlying69 Tryz.underlying416 hi hcmp hj
 have hot0:=fun W=>run_eql_iface_ptr_other (P:=Tryz.prog) W (ca:=ca) (cb:=cb0) (ta:=ta) (tb:=tb0) Tryz.underlying69 Tryz.underlying416 hi hcmp hj (by rw[hjs];decide) hne0
 have hot1:=fun W=>run_eql_iface_ptr_other (P:=Tryz.prog) W (ca:=ca) (cb:=cb1) (ta:=ta) (tb:=tb1) Tryz.underlying69 Tryz.underlying416 hi hcmp hj (by rw[hjs];decide) hne1
 have hot2:=fun W=>run_eql_iface_ptr_other (P:=Tryz.prog) W (ca:=ca) (cb:=cb2) (ta:=ta) (tb:=tb2) Tryz.underlying69 Tryz.underlying416 hi hcmp hj (by rw[hjs];decide) hne2
 have hot3:=fun W=>run_eql_iface_ptr_other (P:=Tryz.prog) W (ca:=ca) (cb:=cb3) (ta:=ta) (tb:=tb3) Tryz.underlying69 Tryz.underlying416 hi hcmp hj (by rw[hjs];decide) hne3
 clear hi hcmp hj hjs
 go_enter Tryz.func58,Tryz.ntmps58
 go_wp2_with fail
 obtain⟨X,hX⟩:∃ X,X=w.alloc (.cells #[.nilIface,.iface 416 (.pointer (some (A 0))),.nilIface,.nilIface,.iface 416 (.pointer (some (A 1))),.iface 416 (.pointer (some (A 2))),.iface 416 (.pointer (some (A 3))),.iface 416 (.pointer (some (A 4))),.iface 416 (.pointer (some (A 5))),.iface 416 (.pointer (some (A 6))),.nilIface,.nilIface,.iface 416 (.pointer (some (A 7)))] 69):=⟨_,rfl⟩
 rw[←hX]
 have x0:X.cell? ⟨w.heap.size,0,none⟩=some (.nilIface):=by rw[hX];go_simp
 have x1:X.cell? ⟨w.heap.size,1,none⟩=some (.iface 416 (.pointer (some (A 0)))):=by rw[hX];go_simp
 have x2:X.cell? ⟨w.heap.size,2,none⟩=some (.nilIface):=by rw[hX];go_simp
 have x3:X.cell? ⟨w.heap.size,3,none⟩=some (.nilIface):=by rw[hX];go_simp
 have x4:X.cell? ⟨w.heap.size,4,none⟩=some (.iface 416 (.pointer (some (A 1)))):=by rw[hX];go_simp
 have x5:X.cell? ⟨w.heap.size,5,none⟩=some (.iface 416 (.pointer (some (A 2)))):=by rw[hX];go_simp
 have x6:X.cell? ⟨w.heap.size,6,none⟩=some (.iface 416 (.pointer (some (A 3)))):=by rw[hX];go_simp
 have x7:X.cell? ⟨w.heap.size,7,none⟩=some (.iface 416 (.pointer (some (A 4)))):=by rw[hX];go_simp
 have hbx:Below w.heap.size w X:=by rw[hX];exact(Below.refl _ _).alloc (Nat.le_refl _) _
 have hot0:=hot0 X ((hbx.block _ (zA2 ha)).trans ha) ((hbx.block _ (zA2 hb0)).trans hb0)
 have hot1:=hot1 X ((hbx.block _ (zA2 ha)).trans ha) ((hbx.block _ (zA2 hb1)).trans hb1)
 have hot2:=hot2 X ((hbx.block _ (zA2 ha)).trans ha) ((hbx.block _ (zA2 hb2)).trans hb2)
 have hot3:=hot3 X ((hbx.block _ (zA2 ha)).trans ha) ((hbx.block _ (zA2 hb3)).trans hb3)
 have HX:Hid (Below w.heap.size w X):=hbx
 clear hX hbx g0 g1 g2 g3 g4 g5 g6 g7 ha hb0 hb1 hb2 hb3
 refine wp_loop_rounds 8 ?_
 rw[rounds_succ]
 go_wp2_with fail
 rw[rounds_succ]
 go_wp2_with fail
 rw[rounds_succ]
 go_wp2_with fail
 rw[rounds_succ]
 go_wp2_with fail
 rw[rounds_succ]
 go_wp2_with fail
 rw[rounds_succ]
 go_wp2_with fail
 rw[rounds_succ]
 go_wp2_with fail
 rw[rounds_succ]
 go_wp2
 go_ret
 exact⟨rfl,HX.out⟩
set_option maxRecDepth 1000000 in
set_option maxHeartbeats 4000000 in
theorem zKS (h:SentsX A w):Calls Tryz.prog 58 #[.iface 416 (.pointer (some (A 7)))] w fun e w'=>e=.returned (.int .i64 12)∧Below w.heap.size w w':=by
 obtain⟨ca,ta,ha⟩:=h.row 7 (by decide)
 obtain⟨cb0,tb0,hb0⟩:=h.row 0 (by decide)
 have hne0:=h.ne 7 0 (by decide) (by decide) (by decide)
 obtain⟨cb1,tb1,hb1⟩:=h.row 1 (by decide)
 have hne1:=h.ne 7 1 (by decide) (by decide) (by decide)
 obtain⟨cb2,tb2,hb2⟩:=h.row 2 (by decide)
 have hne2:=h.ne 7 2 (by decide) (by decide) (by decide)
 obtain⟨cb3,tb3,hb3⟩:=h.row 3 (by decide)
 have hne3:=h.ne 7 3 (by decide) (by decide) (by decide)
 obtain⟨cb4,tb4,hb4⟩:=h.row 4 (by decide)
 have hne4:=h.ne 7 4 (by decide) (by decide) (by decide)
 obtain⟨cb5,tb5,hb5⟩:=h.row 5 (by decide)
 have hne5:=h.ne 7 5 (by decide) (by decide) (by decide)
 obtain⟨cb6,tb6,hb6⟩:=h.row 6 (by decide)
 have hne6:=h.ne 7 6 (by decide) (by decide) (by decide)
 obtain⟨⟨g0,g1,g2,g3,g4,g5,g6,g7⟩,-,-,-⟩:=h
 obtain⟨ti,hi,hcmp⟩:=Option.map_eq_some_iff.1 Tryz.isComp
 obtain⟨tj,hj,hjs⟩:=Option.map_eq_some_iff.1 Tryz.isSize
 have heq:=fun W=>run_eql_iface_ptr_same (P:=Tryz.prog) W (A 7) Tryz.underlying69 Tryz.underlying416 hi hcmp hj
 have hot0:=fun W=>run_eql_iface_ptr_other (P:=Tryz.prog) W (ca:=ca) (cb:=cb0) (ta:=ta) (tb:=tb0) Tryz.underlying69 Tryz.underlying416 hi hcmp hj (by rw[hjs];decide) hne0
 have hot1:=fun W=>run_eql_iface_ptr_other (P:=Tryz.prog) W (ca:=ca) (cb:=cb1) (ta:=ta) (tb:=tb1) Tryz.underlying69 Tryz.underlying416 hi hcmp hj (by rw[hjs];decide) hne1
 have hot2:=fun W=>run_eql_iface_ptr_other (P:=Tryz.prog) W (ca:=ca) (cb:=cb2) (ta:=ta) (tb:=tb2) Tryz.underlying69 Tryz.underlying416 hi hcmp hj (by rw[hjs];decide) hne2
 have hot3:=fun W=>run_eql_iface_ptr_other (P:=Tryz.prog) W (ca:=ca) (cb:=cb3) (ta:=ta) (tb:=tb3) Tryz.underlying69 Tryz.underlying416 hi hcmp hj (by rw[hjs];decide) hne3
 have hot4:=fun W=>run_eql_iface_ptr_other (P:=Tryz.prog) W (ca:=ca) (cb:=cb4) (ta:=ta) (tb:=tb4) Tryz.underlying69 Tryz.underlying416 hi hcmp hj (by rw[hjs];decide) hne4
 have hot5:=fun W=>run_eql_iface_ptr_other (P:=Tryz.prog) W (ca:=ca) (cb:=cb5) (ta:=ta) (tb:=tb5) Tryz.underlying69 Tryz.underlying416 hi hcmp hj (by rw[hjs];decide) hne5
 have hot6:=fun W=>run_eql_iface_ptr_other (P:=Tryz.prog) W (ca:=ca) (cb:=cb6) (ta:=ta) (tb:=tb6) Tryz.underlying69 Tryz.underlying416 hi hcmp hj (by rw[hjs];decide) hne6
 clear hi hcmp hj hjs
 go_enter Tryz.func58,Tryz.ntmps58
 go_wp2_with fail
 obtain⟨X,hX⟩:∃ X,X=w.alloc (.cells #[.nilIface,.iface 416 (.pointer (some (A 0))),.nilIface,.nilIface,.iface 416 (.pointer (some (A 1))),.iface 416 (.pointer (some (A 2))),.iface 416 (.pointer (some (A 3))),.iface 416 (.pointer (some (A 4))),.iface 416 (.pointer (some (A 5))),.iface 416 (.pointer (some (A 6))),.nilIface,.nilIface,.iface 416 (.pointer (some (A 7)))] 69):=⟨_,rfl⟩
 rw[←hX]
 have x0:X.cell? ⟨w.heap.size,0,none⟩=some (.nilIface):=by rw[hX];go_simp
 have x1:X.cell? ⟨w.heap.size,1,none⟩=some (.iface 416 (.pointer (some (A 0)))):=by rw[hX];go_simp
 have x2:X.cell? ⟨w.heap.size,2,none⟩=some (.nilIface):=by rw[hX];go_simp
 have x3:X.cell? ⟨w.heap.size,3,none⟩=some (.nilIface):=by rw[hX];go_simp
 have x4:X.cell? ⟨w.heap.size,4,none⟩=some (.iface 416 (.pointer (some (A 1)))):=by rw[hX];go_simp
 have x5:X.cell? ⟨w.heap.size,5,none⟩=some (.iface 416 (.pointer (some (A 2)))):=by rw[hX];go_simp
 have x6:X.cell? ⟨w.heap.size,6,none⟩=some (.iface 416 (.pointer (some (A 3)))):=by rw[hX];go_simp
 have x7:X.cell? ⟨w.heap.size,7,none⟩=some (.iface 416 (.pointer (some (A 4)))):=by rw[hX];go_simp
 have x8:X.cell? ⟨w.heap.size,8,none⟩=some (.iface 416 (.pointer (some (A 5)))):=by rw[hX];go_simp
 have x9:X.cell? ⟨w.heap.size,9,none⟩=some (.iface 416 (.pointer (some (A 6)))):=by rw[hX];go_simp
 have x10:X.cell? ⟨w.heap.size,10,none⟩=some (.nilIface):=by rw[hX];go_simp
 have x11:X.cell? ⟨w.heap.size,11,none⟩=some (.nilIface):=by rw[hX];go_simp
 have x12:X.cell? ⟨w.heap.size,12,none⟩=some (.iface 416 (.pointer (some (A 7)))):=by rw[hX];go_simp
 have hbx:Below w.heap.size w X:=by rw[hX];exact(Below.refl _ _).alloc (Nat.le_refl _) _
 have hot0:=hot0 X ((hbx.block _ (zA2 ha)).trans ha) ((hbx.block _ (zA2 hb0)).trans hb0)
 have hot1:=hot1 X ((hbx.block _ (zA2 ha)).trans ha) ((hbx.block _ (zA2 hb1)).trans hb1)
 have hot2:=hot2 X ((hbx.block _ (zA2 ha)).trans ha) ((hbx.block _ (zA2 hb2)).trans hb2)
 have hot3:=hot3 X ((hbx.block _ (zA2 ha)).trans ha) ((hbx.block _ (zA2 hb3)).trans hb3)
 have hot4:=hot4 X ((hbx.block _ (zA2 ha)).trans ha) ((hbx.block _ (zA2 hb4)).trans hb4)
 have hot5:=hot5 X ((hbx.block _ (zA2 ha)).trans ha) ((hbx.block _ (zA2 hb5)).trans hb5)
 have hot6:=hot6 X ((hbx.block _ (zA2 ha)).trans ha) ((hbx.block _ (zA2 hb6)).trans hb6)
 have HX:Hid (Below w.heap.size w X):=hbx
 clear hX hbx g0 g1 g2 g3 g4 g5 g6 g7 ha hb0 hb1 hb2 hb3 hb4 hb5 hb6
 refine wp_loop_rounds 13 ?_
 rw[rounds_succ]
 go_wp2_with fail
 rw[rounds_succ]
 go_wp2_with fail
 rw[rounds_succ]
 go_wp2_with fail
 rw[rounds_succ]
 go_wp2_with fail
 rw[rounds_succ]
 go_wp2_with fail
 rw[rounds_succ]
 go_wp2_with fail
 rw[rounds_succ]
 go_wp2_with fail
 rw[rounds_succ]
 go_wp2_with fail
 rw[rounds_succ]
 go_wp2_with fail
 rw[rounds_succ]
 go_wp2_with fail
 rw[rounds_succ]
 go_wp2_with fail
 rw[rounds_succ]
 go_wp2_with fail
 rw[rounds_succ]
 go_wp2
 go_ret
 exact⟨rfl,HX.out⟩
set_option maxRecDepth 1000000 in
set_option maxHeartbeats 1000000 in
theorem zFH {j c:Nat}(h8:((c:Int) == 8)=false)(h9:((c:Int) == 9)=false)(hse:∀ W,Below w.heap.size w W→Calls Tryz.prog 58 #[.iface 416 (.pointer (some (A j)))] W fun e w'=>e=.returned (.int .i64 (c:Int))∧Below W.heap.size W w'):Calls Tryz.prog 35 #[.iface 416 (.pointer (some (A j)))] w fun e w'=>e=.returned (zKK c 0 ⟨#[]⟩)∧Below w.heap.size w w':=by
 have t1:=Tryz.assertE1
 have t2:=Tryz.assertE2
 have t3:=Tryz.assertE3
 have hx:Below w.heap.size w (w.alloc (.cells #[.int .i64 0,.int .i64 0,.int .i64 0,.string { data:=#[] }] 25)):=(Below.refl _ _).alloc (Nat.le_refl _) _
 have hse:=hse _ hx
 have HX:Hid _:=hx
 clear hx
 go_enter Tryz.func35,Tryz.ntmps35
 go_wp2_with fail
 refine hse.mono ?_
 rintro e w1 ⟨rfl,hb1⟩
 have bn:w1.heap[w.heap.size]?=some (.cells #[.int .i64 0,.int .i64 0,.int .i64 0,.string { data:=#[] }] 25 (0,0)):=(hb1.block _ (by simp)).trans zBE
 have c0:=zA0 (i:=0) bn rfl
 have c1:=zA0 (i:=1) bn rfl
 have c2:=zA0 (i:=2) bn rfl
 have c3:=zA0 (i:=3) bn rfl
 have z0:=zA1 (i:=0) bn
 have z1:=zA1 (i:=1) bn
 have z2:=zA1 (i:=2) bn
 have z3:=zA1 (i:=3) bn
 have HB:Hid (Below w.heap.size w w1):=HX.out.trans (hb1.mono (by simp))
 clear bn hb1 hse HX
 go_wp2
 refine bodyPost_ret (v:=zKK c 0 ⟨#[]⟩) (by simp[zKK,results,Tryz.results35,go_sem,c0,c1,c2,c3]) rfl ⟨rfl,?_⟩
 iterate 4 (refine Below.setCell ?_ (by exact Nat.le_refl _) _)
 exact HB.out
theorem of_limits (h:SentsX A w):Calls Tryz.prog 35 #[.iface 416 (.pointer (some (A 2)))] w fun e w'=>e=.returned (zKK 5 0 ⟨#[]⟩)∧Below w.heap.size w w':=zFH (by decide) (by decide) fun _ hb=>zKV (h.below hb)
theorem zQJ (h:SentsX A w):Calls Tryz.prog 35 #[.iface 416 (.pointer (some (A 3)))] w fun e w'=>e=.returned (zKK 6 0 ⟨#[]⟩)∧Below w.heap.size w w':=zFH (by decide) (by decide) fun _ hb=>zKU (h.below hb)
theorem of_metric (h:SentsX A w):Calls Tryz.prog 35 #[.iface 416 (.pointer (some (A 4)))] w fun e w'=>e=.returned (zKK 7 0 ⟨#[]⟩)∧Below w.heap.size w w':=zFH (by decide) (by decide) fun _ hb=>zKT (h.below hb)
theorem of_cooling (h:SentsX A w):Calls Tryz.prog 35 #[.iface 416 (.pointer (some (A 7)))] w fun e w'=>e=.returned (zKK 12 0 ⟨#[]⟩)∧Below w.heap.size w w':=zFH (by decide) (by decide) fun _ hb=>zKS (h.below hb)
end
def SB (w0:World):Unit→World→Prop:=fun _ w=>Below w0.heap.size w0 w
theorem SB.stable (w0:World):zKH w0.heap.size (SB w0):=⟨fun _ _ h=>h.size,fun _ _ _ h hb=>h.trans hb⟩
def Calm (t:TypeId):Prop:=t≠126∧t≠247∧t≠313
def zQ9 (w w':World):Prop:=∀ (b:Nat) (cs:Array Value) (t:TypeId) (fr:Nat × Nat),w.heap[b]?=some (Obj.cells cs t fr)→Calm t→w'.heap[b]?=w.heap[b]?
theorem zQ9.trans {w w1 w2:World}(h:zQ9 w w1)(k:zQ9 w1 w2):zQ9 w w2:=fun b cs t fr hb ht=>(k b cs t fr ((h b cs t fr hb ht).trans hb) ht).trans (h b cs t fr hb ht)
theorem zQ9.of_below {w w':World}(h:Below w.heap.size w w'):zQ9 w w':=fun b _ _ _ hb _=>h.block b (zA2 hb)
def zHK (F:ByteArray→Option Value)(P:ByteArray→List Int→WT→PFound × WT)(wl:World)(lo c:Nat)(u:Tree)(sp:List (ByteArray × Int)):Prop:=
 ∀ (w1:World) (k':Ctl) (pb m:Nat) (I:ByteArray→Nat) (st:ByteArray→Int→WSt),(∀ b,lo≤b→b<wl.heap.size→w1.heap[b]?=wl.heap[b]?)→wl.heap.size≤w1.heap.size→(∀ b,OfW sp st b→wl.heap.size≤b) →
  ∀ q∈asks u,∃ fv,F q.2=some fv∧zIZ (fun _=>SC w1 c m (ptr pb) k' sp I st) (OfW sp st) w1.heap.size fv (P q.2)
structure LiveP (F:ByteArray→Option Value) (P:ByteArray→List Int→WT→PFound × WT) (A:Nat→Addr) (w0 wl:World) (lo c:Nat) (k:Ctl) (u:Tree) (sp:List (ByteArray × Int)) (T:WT) (w:World):Prop where
 sents:SentsX A w0
 below:Below w0.heap.size w0 w
 ok:k.Ok
 fit:Fit u
 spans:∀ q∈zA5 u,q∈sp
 times:TOk sp k.time T
 size:w0.heap.size≤wl.heap.size∧wl.heap.size≤c
 same:∀ nm xs s,(P nm xs s).2=s
 probe:zHK F P wl lo c u sp
 ex:∃ (pb m:Nat) (ms:List ByteArray) (I:ByteArray→Nat) (st:ByteArray→Int→WSt),ProgB lo wl pb u ms (asks u) sp F∧(∀ b,lo≤b→b<wl.heap.size→w.heap[b]?=wl.heap[b]?) ∧
  (∀ b,OfW sp st b→wl.heap.size≤b)∧zE5 w c (ptr pb) (.map (some m)) k∧Wins w m sp I st∧∀ q∈sp,(st q.1 q.2).time=(T q.1 q.2).1∧(st q.1 q.2).kept=(T q.1 q.2).2
theorem zF9 {w:World}{c m:Nat}{pv:Value}{k:Ctl}{sp:List (ByteArray × Int)}{I:ByteArray→Nat}{st:ByteArray→Int→WSt}(h7:zE5 w c pv (.map (some m)) k)(h8:Wins w m sp I st){b:Nat}{cs:Array Value}{t:TypeId}{fr:Nat × Nat}(hx:w.heap[b]?=some (.cells cs t fr))(ht:Calm t):¬ (b=c∨OfW sp st b):=by
 rintro(rfl | ⟨q,hq,hm⟩)
 ·rw[h7] at hx
  injection hx with hx
  injection hx with _ hx
  exact ht.1 hx.symm
 ·obtain⟨cs',T',e,h3⟩:=Win.mine_cells (h8.win _ hq) hm
  rw[hx] at e
  injection e with e
  injection e with _ e
  rcases h3 with⟨t1,-⟩ | ⟨t1,-⟩
  ·exact ht.2.1 (e.trans t1)
  ·exact ht.2.2 (e.trans t1)
theorem KeepX.calm {w w':World}{c m:Nat}{pv:Value}{k:Ctl}{sp:List (ByteArray × Int)}{I:ByteArray→Nat}{st:ByteArray→Int→WSt}(h7:zE5 w c pv (.map (some m)) k)(h8:Wins w m sp I st)(h:KeepX (fun b=>b=c∨OfW sp st b) w w'):zQ9 w w':=
 fun b _ _ _ hb ht=>h.block b (zA2 hb) (zF9 h7 h8 hb ht)
section
variable {F:ByteArray→Option Value} {P:ByteArray→List Int→WT→PFound × WT} {A:Nat→Addr} {w0 wl:World} {lo c:Nat} {k:Ctl} {u:Tree} {sp:List (ByteArray × Int)} {T:WT} {w:World}
theorem LiveP.le (h:LiveP F P A w0 wl lo c k u sp T w):wl.heap.size≤w.heap.size:=by
 obtain⟨pb,m,ms,I,st,h2,h3,h6,h7,h8,h9⟩:=h.ex
 have:=zA2 h7
 have:=h.size
 omega
theorem LiveP.go (h:LiveP F P A w0 wl lo c k u sp T w){w':World}(hb:Below w.heap.size w w'):LiveP F P A w0 wl lo c k u sp T w':=by
 obtain⟨pb,m,ms,I,st,h2,h3,h6,h7,h8,h9⟩:=h.ex
 have hap:=zF7 h7 h8
 have lc:=zA2 h7
 have hs:=h.size
 exact⟨h.sents,h.below.trans (hb.mono h.below.size),h.ok,h.fit,h.spans,h.times,hs,h.same,h.probe,pb,m,ms,I,st,h2,fun b l1 l2=>(hb.block b (by omega)).trans (h3 b l1 l2),h6,(hb.block c lc).trans h7,h8.moves fun b hx=>hb.block b (hap.2 b hx).1,h9⟩
theorem LiveP.set (h:LiveP F P A w0 wl lo c k u sp T w){w':World}{b0:Nat}{cs:Array Value}{t:TypeId}{fr:Nat × Nat}(hx:w.heap[b0]?=some (.cells cs t fr))(ht:Calm t)(hw:w0.heap.size≤b0)(hl:b0<lo∨wl.heap.size≤b0)(hk:KeepX (· = b0) w w'):LiveP F P A w0 wl lo c k u sp T w':=by
 obtain⟨pb,m,ms,I,st,h2,h3,h6,h7,h8,h9⟩:=h.ex
 have hap:=zF7 h7 h8
 have lc:=zA2 h7
 have hs:=h.size
 have hno:=zF9 h7 h8 hx ht
 have hb:=h.below
 refine⟨h.sents,⟨hk.os.trans hb.os,hk.tape.trans hb.tape,hk.output.trans hb.output,Nat.le_trans hb.size hk.size,fun b lt=>(hk.block b (Nat.lt_of_lt_of_le lt hb.size) (fun e=>by have e:b=b0:=e;omega)).trans (hb.block b lt)⟩,h.ok,h.fit,h.spans,h.times,hs,h.same,h.probe,pb,m,ms,I,st,h2,fun b l1 l2=>(hk.block b (by omega) (fun e=>by have e:b=b0:=e;omega)).trans (h3 b l1 l2),h6,(hk.block c lc fun e=>hno (.inl (Eq.symm e))).trans h7,h8.moves fun b hx2=>hk.block b (hap.2 b hx2).1 fun e=>?_,h9⟩
 have e:b=b0:=e
 subst e
 rcases hx2 with rfl | ⟨q,hq,rfl | hm⟩
 ·obtain⟨F',hF',-⟩:=h8.outer
  obtain⟨es,cl,he⟩:=hF'.isMap
  rw[he] at hx
  cases hx
 ·obtain⟨F',hF',-⟩:=h8.inner q hq
  obtain⟨es,cl,he⟩:=hF'.isMap
  rw[he] at hx
  cases hx
 ·exact hno (.inr ⟨q,hq,hm⟩)
theorem zE9 {w:World}{d:DErr}{v:Value}(h:zDZ A w d v):v=.nilIface∨∃ T x,v=.iface T x:=by
 cases d with
 | fine=>exact .inl h
 | stale=>exact .inr ⟨_,_,h⟩
 | cooling=>exact .inr ⟨_,_,h⟩
 | held p y=>obtain⟨b,T,x,h,-⟩:=h;exact .inr ⟨_,_,h⟩
theorem derr_keep {w w':World}{d:DErr}{v:Value}(h:zDZ A w d v){b0:Nat}{cs:Array Value}{fr:Nat × Nat}(hx:w.heap[b0]?=some (.cells cs 71 fr))(hk:KeepX (· = b0) w w'):zDZ A w' d v:=by
 cases d with
 | fine=>exact h
 | stale=>exact h
 | cooling=>exact h
 | held p y=>
  have ne:∀ {b:Nat} {cs2:Array Value} {t2:TypeId} {fr2:Nat × Nat},w.heap[b]?=some (Obj.cells cs2 t2 fr2)→t2≠71→w'.heap[b]?=w.heap[b]?:=fun {b cs2 t2 fr2} hb ht=>hk.block b (zA2 hb) fun e=>by
   have e:b=b0:=e
   subst e
   rw[hx] at hb
   injection hb with hb
   injection hb with _ hb
   exact ht hb.symm
  obtain⟨b,T,x,rfl,h1,h2⟩:=h
  refine⟨b,T,x,rfl,(ne h1 (by decide)).trans h1,?_⟩
  cases y with
  | divide=>exact h2
  | noData=>exact h2
  | failed=>exact h2
  | panic n=>
   obtain⟨e,c,rfl,h3⟩:=h2
   exact⟨e,c,rfl,(ne h3 (by decide)).trans h3⟩
end
/-! What a decision's error is told as,part by part. -/
def whyE : Why→Int
 | .divide=>8
 | .noData=>9
 | .failed=>10
 | .panic _=>11
def whyM : Why→Int
 | .panic n=>n
 | _=>0
def DErr.e : DErr→Int
 | .fine=>0
 | .stale=>6
 | .cooling=>12
 | .held _ y=>whyE y
def DErr.p : DErr→Int
 | .held p _=>(p:Int)
 | _=>0
def DErr.m : DErr→Int
 | .held _ y=>whyM y
 | _=>0
def FErr.e : FErr→Int
 | .fine=>0
 | .stale=>6
 | .metric=>7
theorem of_derr {A:Nat→Addr}{w:World}{d:DErr}{v:Value}(hs:SentsX A w)(h:zDZ A w d v):Calls Tryz.prog 35 #[v] w fun e w'=>e=.returned (.agg #[.int .i64 d.e,.int .i64 d.p,.int .i64 d.m,.string { data:=#[] }])∧Below w.heap.size w w':=by
 cases d with
 | fine=>have h:v=.nilIface:=h;subst h;exact of_nil w
 | stale=>have h:v=_:=h;subst h;exact zQJ hs
 | cooling=>have h:v=_:=h;subst h;exact of_cooling hs
 | held p y=>
  obtain⟨b,T,x,rfl,h1,h2⟩:=h
  refine(of_hold hs h1 h2).mono ?_
  rintro e w' ⟨rfl,hb⟩
  refine⟨?_,hb⟩
  cases y <;> rfl
theorem of_ferr {A:Nat→Addr}{w:World}(hs:SentsX A w)(d:FErr):Calls Tryz.prog 35 #[d.at A] w fun e w'=>e=.returned (.agg #[.int .i64 d.e,.int .i64 0,.int .i64 0,.string { data:=#[] }])∧Below w.heap.size w w':=by
 cases d with
 | fine=>exact of_nil w
 | stale=>exact zQJ hs
 | metric=>exact of_metric hs
theorem zLH {A:Nat→Addr}{w w':World}{d:DErr}{v:Value}(h:zDZ A w d v)(hb:Below w.heap.size w w'):zDZ A w' d v:=by
 cases d with
 | fine=>exact h
 | stale=>exact h
 | cooling=>exact h
 | held p y=>
  obtain⟨b,T,x,rfl,h1,h2⟩:=h
  exact⟨b,T,x,rfl,(hb.block b (zA2 h1)).trans h1,h2.below hb⟩
section
variable {F:ByteArray→Option Value} {P:ByteArray→List Int→WT→PFound × WT} {A:Nat→Addr} {w0 wl:World} {lo c x:Nat} {k:Ctl} {u:Tree} {sp:List (ByteArray × Int)} {T:WT} {w:World}
set_option maxRecDepth 1000000 in
set_option maxHeartbeats 1000000 in
theorem zGJ {d:DErr}{v:Value}{t n:Int}(hs:SentsX A w)(h:zDZ A w d v):Calls Tryz.prog 23 #[.agg #[.int .i64 t,.int .i64 n,v]] w fun e w'=>e=.returned (.agg #[.int .i64 t,.int .i64 n,.int .i64 0,.int .i64 0,.int .i64 d.e,.int .i64 d.p,.int .i64 d.m,.string { data:=#[] }])∧Below w.heap.size w w':=by
 have hx:Below w.heap.size w ((w.alloc (.cells #[.int .i64 t,.int .i64 n,v] 71)).alloc (.cells #[.int .i64 0,.int .i64 0,.int .i64 0,.int .i64 0,.int .i64 0,.int .i64 0,.int .i64 0,.string { data:=#[] }] 40)):=((Below.refl _ _).alloc (Nat.le_refl _) _).alloc (by simp) _
 have hp:((w.alloc (.cells #[.int .i64 t,.int .i64 n,v] 71)).alloc (.cells #[.int .i64 0,.int .i64 0,.int .i64 0,.int .i64 0,.int .i64 0,.int .i64 0,.int .i64 0,.string { data:=#[] }] 40)).heap[w.heap.size]?=some (.cells #[.int .i64 t,.int .i64 n,v] 71 (0,0)):=zA3 (heap_alloc_new _ _)
 have hr:((w.alloc (.cells #[.int .i64 t,.int .i64 n,v] 71)).alloc (.cells #[.int .i64 0,.int .i64 0,.int .i64 0,.int .i64 0,.int .i64 0,.int .i64 0,.int .i64 0,.string { data:=#[] }] 40)).heap[w.heap.size+1]?=some (.cells #[.int .i64 0,.int .i64 0,.int .i64 0,.int .i64 0,.int .i64 0,.int .i64 0,.int .i64 0,.string { data:=#[] }] 40 (0,0)):=by
  have:=heap_alloc_new (w.alloc (.cells #[.int .i64 t,.int .i64 n,v] 71)) (.cells #[.int .i64 0,.int .i64 0,.int .i64 0,.int .i64 0,.int .i64 0,.int .i64 0,.int .i64 0,.string { data:=#[] }] 40)
  simpa using this
 have hof:=of_derr (hs.below hx.drew) (zLH h hx.drew)
 have hv:=zE9 h
 have k0:=zA0 (i:=0) (v:=.int .i64 t) hp rfl
 have k1:=zA0 (i:=1) (v:=.int .i64 n) hp rfl
 have k2:=zA0 (i:=2) (v:=v) hp rfl
 have HH:Hid _:=And.intro hx (And.intro hp hr)
 clear h hs hx hp hr
 generalize d.e=de at *
 generalize d.p=dp at *
 generalize d.m=dm at *
 have hold:∀ w2,Below ((w.alloc (.cells #[.int .i64 t,.int .i64 n,v] 71)).alloc (.cells #[.int .i64 0,.int .i64 0,.int .i64 0,.int .i64 0,.int .i64 0,.int .i64 0,.int .i64 0,.string { data:=#[] }] 40)).drew.heap.size ((w.alloc (.cells #[.int .i64 t,.int .i64 n,v] 71)).alloc (.cells #[.int .i64 0,.int .i64 0,.int .i64 0,.int .i64 0,.int .i64 0,.int .i64 0,.int .i64 0,.string { data:=#[] }] 40)).drew w2→Hid (Below w.heap.size w w2∧w2.heap[w.heap.size]?=some (.cells #[.int .i64 t,.int .i64 n,v] 71 (0,0))∧w2.heap[w.heap.size+1]?=some (.cells #[.int .i64 0,.int .i64 0,.int .i64 0,.int .i64 0,.int .i64 0,.int .i64 0,.int .i64 0,.string { data:=#[] }] 40 (0,0))):=fun w2 hb=>⟨HH.out.1.drew.trans (hb.mono HH.out.1.size),(hb.block _ (zA2 HH.out.2.1)).trans HH.out.2.1,(hb.block _ (zA2 HH.out.2.2)).trans HH.out.2.2⟩
 have HOLD:Hid _:=hold
 clear hold
 rcases hv with rfl | ⟨T,x,rfl⟩
 ·go_enter Tryz.func23,Tryz.ntmps23
  go_wp2_with fail
  go_region_held3 (fun w'=>w'.cell? ⟨w.heap.size,0,none⟩=some (.int .i64 t)∧w'.cell? ⟨w.heap.size,1,none⟩=some (.int .i64 n)∧w'.cell? ⟨w.heap.size,2,none⟩=some (.nilIface)) (go_keep)
   (first
    | (go_at_call 35;refine hof.mono ?_;rintro e w2 ⟨rfl,hb2⟩;have H2:=HOLD.out w2 hb2;have e0:=zA0 (i:=0) (v:=.int .i64 t) H2.out.2.1 rfl;have e1:=zA0 (i:=1) (v:=.int .i64 n) H2.out.2.1 rfl;have e2:=zA0 (i:=2) (v:=.nilIface) H2.out.2.1 rfl;have rc0:=zA0 (i:=0) (v:=.int .i64 0) H2.out.2.2 rfl;have rz0:=zA1 (i:=0) H2.out.2.2;have rc1:=zA0 (i:=1) (v:=.int .i64 0) H2.out.2.2 rfl;have rz1:=zA1 (i:=1) H2.out.2.2;have rc2:=zA0 (i:=2) (v:=.int .i64 0) H2.out.2.2 rfl;have rz2:=zA1 (i:=2) H2.out.2.2;have rc3:=zA0 (i:=3) (v:=.int .i64 0) H2.out.2.2 rfl;have rz3:=zA1 (i:=3) H2.out.2.2;have rc4:=zA0 (i:=4) (v:=.int .i64 0) H2.out.2.2 rfl;have rz4:=zA1 (i:=4) H2.out.2.2;have rc5:=zA0 (i:=5) (v:=.int .i64 0) H2.out.2.2 rfl;have rz5:=zA1 (i:=5) H2.out.2.2;have rc6:=zA0 (i:=6) (v:=.int .i64 0) H2.out.2.2 rfl;have rz6:=zA1 (i:=6) H2.out.2.2;have rc7:=zA0 (i:=7) (v:=.string { data:=#[] }) H2.out.2.2 rfl;have rz7:=zA1 (i:=7) H2.out.2.2;clear hb2))
  all_goals
   go_wp2
   refine bodyPost_ret (v:=.agg #[.int .i64 t,.int .i64 n,.int .i64 0,.int .i64 0,.int .i64 de,.int .i64 dp,.int .i64 dm,.string { data:=#[] }]) (by simp[results,Tryz.results23,go_sem,rc0,rc1,rc2,rc3,rc4,rc5,rc6,rc7]) rfl ?_
   exact⟨rfl,by(iterate 8 (refine Below.setCell ?_ (by show w.heap.size≤w.heap.size+1;omega) _));exact H2.out.1⟩
 ·go_enter Tryz.func23,Tryz.ntmps23
  go_wp2_with fail
  go_region_held3 (fun w'=>w'.cell? ⟨w.heap.size,0,none⟩=some (.int .i64 t)∧w'.cell? ⟨w.heap.size,1,none⟩=some (.int .i64 n)∧w'.cell? ⟨w.heap.size,2,none⟩=some (.iface T x)) (go_keep)
   (first
    | (go_at_call 35;refine hof.mono ?_;rintro e w2 ⟨rfl,hb2⟩;have H2:=HOLD.out w2 hb2;have e0:=zA0 (i:=0) (v:=.int .i64 t) H2.out.2.1 rfl;have e1:=zA0 (i:=1) (v:=.int .i64 n) H2.out.2.1 rfl;have e2:=zA0 (i:=2) (v:=.iface T x) H2.out.2.1 rfl;have rc0:=zA0 (i:=0) (v:=.int .i64 0) H2.out.2.2 rfl;have rz0:=zA1 (i:=0) H2.out.2.2;have rc1:=zA0 (i:=1) (v:=.int .i64 0) H2.out.2.2 rfl;have rz1:=zA1 (i:=1) H2.out.2.2;have rc2:=zA0 (i:=2) (v:=.int .i64 0) H2.out.2.2 rfl;have rz2:=zA1 (i:=2) H2.out.2.2;have rc3:=zA0 (i:=3) (v:=.int .i64 0) H2.out.2.2 rfl;have rz3:=zA1 (i:=3) H2.out.2.2;have rc4:=zA0 (i:=4) (v:=.int .i64 0) H2.out.2.2 rfl;have rz4:=zA1 (i:=4) H2.out.2.2;have rc5:=zA0 (i:=5) (v:=.int .i64 0) H2.out.2.2 rfl;have rz5:=zA1 (i:=5) H2.out.2.2;have rc6:=zA0 (i:=6) (v:=.int .i64 0) H2.out.2.2 rfl;have rz6:=zA1 (i:=6) H2.out.2.2;have rc7:=zA0 (i:=7) (v:=.string { data:=#[] }) H2.out.2.2 rfl;have rz7:=zA1 (i:=7) H2.out.2.2;clear hb2))
  all_goals
   go_wp2
   refine bodyPost_ret (v:=.agg #[.int .i64 t,.int .i64 n,.int .i64 0,.int .i64 0,.int .i64 de,.int .i64 dp,.int .i64 dm,.string { data:=#[] }]) (by simp[results,Tryz.results23,go_sem,rc0,rc1,rc2,rc3,rc4,rc5,rc6,rc7]) rfl ?_
   exact⟨rfl,by(iterate 8 (refine Below.setCell ?_ (by show w.heap.size≤w.heap.size+1;omega) _));exact H2.out.1⟩
end
end Go.Proofs.YtbokdbaagacnlaaGreatDoor
