import Derived.Test.YtbokdbaagacnlaaGreatDoorJQ50
namespace Go.Proofs.YtbokdbaagacnlaaGreatDoor
open Go.ChangeShapes Go.WideShapes Go.ChangeAt Go.RowKit Go.Lib Go.Deep Go.Joins
open Go.ChangeMaps (open_string shut_string)
noncomputable def zL0 (os:Os):World:=(witH os).layVars Tryz.prog (Rows.decidesRow.laid.filter fun x=>x.2.handleName?.isNone)
theorem zKJ (os:Os):laidMetH Tryz.prog Rows.decidesRow.laid (zL0 os):=
 laidMetH_of_parts3 (fuel:=8) (zGV (w0:=witH os) (by kernel_rfl) (by kernel_rfl)) (by kernel_rfl) (by kernel_rfl)
theorem Tryz.laidOutD : laidOutB Tryz.prog=true:=by kernel_rfl
set_option maxRecDepth 100000 in
theorem zKQ (os:Os)(started:os.Started)(H:Type)(enc:TypeId × Value→H):
  ReturnsInHanded {} Tryz.checked os 4 .any (fun w args=>(Rows.decidesSpec.pre enc Tryz.prog Tryz.f4 [] false w args∧laidMetH Tryz.prog Rows.decidesRow.laid w)∧sizedMet enc Tryz.prog Tryz.f4 (OpenSpec.ofChange Rows.decidesSpec) false w args)
   (Rows.decidesSpec.post enc Tryz.prog Tryz.f4 false true false false):=by
 refine returnsInHanded_of_change_and (C:=Tryz.checked) (X:=fun w _=>laidMetH Tryz.prog Rows.decidesRow.laid w) (fun _ _ _ hh h=>h.of_heap hh) Tryz.own started (by kernel_rfl) Tryz.func4
  (ChangeSpec.witness_shaped (enc:=enc) (C:=Tryz.checked) (os:=os) (X:=fun w _=>laidMetH Tryz.prog Rows.decidesRow.laid w) false (zL0 os) #[.string ⟨#[]⟩,.slice none 0 0,.int .i64 0,.slice none 0 0,.int .i64 0,.int .i64 0] 8 (World.layVars_os _ _ _)
   (World.shaped_of_ZipB (by kernel_rfl) (by kernel_rfl)) (by kernel_rfl) (by kernel_rfl) (by kernel_rfl)
   ((zKJ os).of_heap (by simp[World.memory,World.forCall,Input.heap]))) ?_
 intro W base args ds gs before hval0 hW _ _ hL _
 have hval:∀ (j:Nat) t v,Tryz.f4.params[j]?=some t→args[j]?=some v→Value.okWide Tryz.prog W .any base t v:=hval0
 have hW':=hW
 obtain⟨p,q,hA0,hV,rfl,_,_⟩:=hW
 have hA:DataW.TrodAll enc Tryz.prog W 0 (fun _=>true) true Tryz.f4.params.toList args.toList ds p:=hA0
 rw[Tryz.params4] at hA hval
 obtain⟨v0,v1,v2,v3,v4,v5,d0,d1,d2,d3,d4,d5,p0,p1,p2,p3,p4,p5,rfl,rfl,rfl,h0,h1,h2,h3,h4,h5⟩:=zOW hA
 obtain⟨rfl,rfl⟩:=trodVars_none hV
 obtain⟨a0,rfl,rfl,rfl,w0⟩:=open_string Tryz.underlying9 (hval 0 9 v0 rfl rfl) h0
 obtain⟨s1,n1,k1,rfl⟩:=okWide_slice Tryz.underlying22 (hval 1 22 v1 rfl rfl)
 obtain⟨a2,rfl,rfl,rfl,w2⟩:=open_int Tryz.underlying2 (hval 2 2 v2 rfl rfl) h2
 obtain⟨s3,n3,k3,rfl⟩:=okWide_slice Tryz.underlying23 (hval 3 23 v3 rfl rfl)
 obtain⟨a4,rfl,rfl,rfl,w4⟩:=open_int Tryz.underlying3 (hval 4 3 v4 rfl rfl) h4
 obtain⟨a5,rfl,rfl,rfl,w5⟩:=open_int Tryz.underlying3 (hval 5 3 v5 rfl rfl) h5
 have h1k:=h1
 have h3k:=h3
 obtain⟨fu1,hf1⟩:=h1
 obtain⟨fu3,hf3⟩:=h3
 obtain⟨L,rfl,hN,hN64⟩:=nums_of (by simpa[Value.cells] using hf1)
 obtain⟨E,rfl,hE⟩:=evsL_of (by simpa[Value.cells] using hf3)
 clear hA0 hval0 hf1 hf3
 simp only[List.append_nil,List.nil_append] at hW'
 obtain⟨A,hS⟩:=zGF hL
 have hlt:∀ x∈p1 ++ p3,x.block<W.heap.size:=fun x hx=>by simpa using hW'.lt x hx
 refine(zPN (by simp[maxLen] at w0 ⊢;omega) (zGE hL) hS hN hN64 hE).mono fun e W' ⟨he,hb⟩=>?_
 subst he
 have hT:=zOX (p:=[]) (p'':=[]) (p4:=[]) (p5:=[]) (shut_string Tryz.underlying9 w0) (Below.trod Tryz.laidOutD (by kernel_rfl) (of_decide_eq_true (by kernel_rfl)) h1k hb (fun x hx=>hlt x (by simp[hx]))) (shut_int Tryz.underlying2 w2) (Below.trod Tryz.laidOutD (by kernel_rfl) (of_decide_eq_true (by kernel_rfl)) h3k hb (fun x hx=>hlt x (by simp[hx]))) (shut_int Tryz.underlying3 w4) (shut_int Tryz.underlying3 w5)
 simp only[List.nil_append,List.append_nil] at hT
 exact⟨_,rfl,_,_,_,[],p1 ++ p3,[],hW',trodAll_mk1 (shut_bool Tryz.underlying4 _),hT,rfl,hb.frame _,fun h=>by cases h⟩
theorem decides_f1 : (Rows.decidesRow.inPlace == Tryz.prog.inPlace 4)=true:=by kernel_rfl
theorem decides_f2 : (Rows.decidesRow.unfollowed == Tryz.prog.unfollowed 4)=true:=by kernel_rfl
theorem decides_f3 : (Rows.decidesRow.recurses == Tryz.prog.recurses 4)=true:=by kernel_rfl
theorem decides_f4 : (Rows.decidesRow.named == Tryz.prog.varsNamed 4)=true:=by kernel_rfl
theorem zMQ : joinedFacts Tryz.prog 4 Tryz.f4 Rows.decidesSpec Rows.decidesRow=true:=by
 unfold joinedFacts
 rw[decides_f1,decides_f2,decides_f3,decides_f4]
 kernel_rfl
theorem decides_fn : Tryz.prog.funcNamed Rows.decidesRow.func=some 4:=by kernel_rfl
theorem zOC : Tryz.f4.isInstance Tryz.prog Rows.decidesRow.origin Rows.decidesRow.targs:=of_decide_eq_true (by kernel_rfl)
theorem zOB : Tryz.f4.isWrapper Tryz.prog Rows.decidesRow.wrapper Rows.decidesRow.mainSum:=by
 unfold Func.isWrapper
 rw[if_neg (of_decide_eq_false (by kernel_rfl))]
 exact⟨rfl,rfl⟩
theorem zMP : Rows.DecidesSaid:=
 OpenClaim.holds_of_wide 4 Tryz.f4 rfl rfl rfl rfl rfl rfl rfl ⟨rfl,rfl,rfl,rfl,rfl⟩ rfl rfl rfl rfl rfl decides_fn Tryz.func4 zMQ zOC zOB
  (fun os started H enc _=>zKQ os started H enc)
end Go.Proofs.YtbokdbaagacnlaaGreatDoor
