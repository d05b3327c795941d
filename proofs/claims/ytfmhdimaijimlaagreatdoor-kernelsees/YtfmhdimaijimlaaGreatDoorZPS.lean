import Derived.Test.YtfmhdimaijimlaaGreatDoorZYH
import Derived.Laws.IdiomArrays
set_option linter.all false
set_option maxRecDepth 1000000
set_option maxHeartbeats 8000000
open Go.Proofs.Tryz
variable {w w' w1 w2:Go.World}{n m k i j b g base kn:Nat}{a:Option Go.Addr}
namespace Go.Proofs.YtfmhdimaijimlaaGreatDoor.V
theorem Ew:(Rows.kernelSeesRow.inPlace==prog.inPlace 4)=true:=by kernel_rfl
theorem CO:(Rows.kernelSeesRow.unfollowed==prog.unfollowed 4)=true:=by kernel_rfl
theorem CS:(Rows.kernelSeesRow.recurses==prog.recurses 4)=true:=by kernel_rfl
theorem CM:(Rows.kernelSeesRow.named==prog.varsNamed 4)=true:=by kernel_rfl
theorem lC:prog.funcNamed "sesame/sesamelaw21.KernelSees"=some 4:=by kernel_rfl
theorem yw {a b:Bool}(h:a=true)(k:b=true):(a&&b)=true:=by rw [h,k];rfl
theorem qv:joinedFacts prog 4 Tryz.f4 Rows.kernelSeesSpec Rows.kernelSeesRow=true:=by
 unfold joinedFacts
 repeat' (with_reducible refine yw ?_ ?_)
 all_goals (first|(with_reducible exact Ew)|(with_reducible exact CO)|(with_reducible exact CS)|(with_reducible exact CM)|(as_aux_lemma=>kernel_rfl))
theorem yf:Tryz.f4.isInstance prog Rows.kernelSeesRow.origin Rows.kernelSeesRow.targs:=of_decide_eq_true (by kernel_rfl)
theorem wZ:Tryz.f4.isWrapper prog Rows.kernelSeesRow.wrapper Rows.kernelSeesRow.mainSum:=by unfold Func.isWrapper;first|(rw [if_pos (by decide +kernel)];kernel_rfl)|(rw [if_neg (by decide +kernel)];exact⟨rfl,rfl⟩)
open Go.ChangeShapes Go.WideShapes Go.ChangeAt Go.RowKit Go.Joins
theorem rQ (os:_root_.Go.Os)(started:os.Started)(H:Type)(enc:TypeId×Value->H) :
  ReturnsInHanded {} checked os 4 .any (λw args=>(Rows.kernelSeesSpec.pre enc prog Tryz.f4 [] false w args/\laidMetH prog xN w)/\sizedMet enc prog Tryz.f4 (OpenSpec.ofChange Rows.kernelSeesSpec) false w args)
   (Rows.kernelSeesSpec.post enc prog Tryz.f4 false true false false):=by
 refine returnsInHanded_of_change_and (C:=checked) (X:=λw _=>laidMetH prog xN w) (λ_ _ _ hh h=>h.of_heap hh) Jw started (by kernel_rfl) func4
  (ChangeSpec.witness_at (enc:=enc) (C:=checked) (os:=os) (X:=λw _=>laidMetH prog xN w) false (oE os) #[.agg #[.int .i64 0,.int .i64 0,.int .i64 0,.int .i64 0,.int .i64 0,.int .i64 0,.int .i64 0,.int .i64 0,.int .i64 0,.int .i64 0],.slice none 0 0,.slice none 0 0] 8 rfl (by kernel_rfl) (by kernel_rfl) (by kernel_rfl) (by kernel_rfl) (by kernel_rfl) (nc os _)) ?_
 intro W base args ds gs before hval0 hW _ hsz0 hL _
 have hsz:(DataW.weightsEach prog (Tryz.f4.params.toList++Rows.kernelSeesSpec.plain.varTypes prog) (ds++gs)).all (·<=reachBytes)=true:=hsz0
 clear hsz0
 have hval:∀(j:Nat) t v,Tryz.f4.params[j]?=some t->args[j]?=some v->Value.okWide prog W .any base t v:=hval0
 have hW':=hW
 obtain⟨p,q,hA0,hV0,rfl,hfz,hnd⟩:=hW
 have hA:DataW.TrodAll enc prog W 0 (λ_=>true) true Tryz.f4.params.toList args.toList ds p:=hA0
 rw [params4] at hA hval hsz
 obtain⟨v0,vs0,d0,ds0,p0,q0,hargs,rfl,rfl,h0,r0⟩:=trodAll_cons hA
 obtain⟨v1,vs1,d1,ds1,p1,q1,rfl,rfl,rfl,h1,r1⟩:=trodAll_cons r0
 obtain⟨v2,vs2,d2,ds2,p2,q2,rfl,rfl,rfl,h2,r2⟩:=trodAll_cons r1
 obtain⟨rfl,rfl,rfl⟩:=trodAll_nil r2
 obtain rfl:args=#[v0,v1,v2]:=by cases args;simp_all
 obtain⟨rfl,rfl⟩:=trodVars_none hV0
 have k0:=h0
 have lt0:∀x∈p0,x.block<W.heap.size:=by obtain⟨m,hm⟩:=k0;exact DataW.trod_lt m _ _ _ hm
 have k1:=h1
 have Jb:∀x∈p1,x.block<W.heap.size:=by obtain⟨m,hm⟩:=k1;exact DataW.trod_lt m _ _ _ hm
 have k2:=h2
 have oN:∀x∈p2,x.block<W.heap.size:=by obtain⟨m,hm⟩:=k2;exact DataW.trod_lt m _ _ _ hm
 obtain⟨c,rfl⟩:=qG (hval 0 23 v0 rfl rfl) h0
 obtain⟨a0,n0,cap0,f0,rfl,hD,hRd⟩:=tL (hval 1 28 v1 rfl rfl) h1
 have hw:∀q∈d2.weights prog 25,q<=reachBytes:=λq hq=>by
  have:=List.all_eq_true.1 hsz _ (DataW.weights_mem_each (j:=2) (t:=25) (d:=d2) rfl rfl q hq)
  simpa using this
 obtain⟨a,n,cap,C,D',G',rfl,hC,hn⟩:=sY (hval 2 25 v2 rfl rfl) h2 hw
 have hl:=lU hL
 clear hA0 hval0 hsz
 refine (BJ c hD hC (by omega) hl (BY hl)).mono λe W' ⟨he,Fk⟩=>?_
 subst he
 exact⟨_,rfl,_,_,_,[],_,[],hW',trodAll_mk1 (shut_bool underlying4 _),(trodAll_cons_mk (Below.trod laidOut (by kernel_rfl) (of_decide_eq_true (by kernel_rfl)) k0 Fk lt0) (trodAll_cons_mk (Below.trod laidOut (by kernel_rfl) (of_decide_eq_true (by kernel_rfl)) k1 Fk Jb) (trodAll_cons_mk (Below.trod laidOut (by kernel_rfl) (of_decide_eq_true (by kernel_rfl)) k2 Fk oN) trodAll_mk0))),rfl,Fk.frame _,λh=>by cases h⟩
theorem BU:Rows.KernelSeesSaid :=
 OpenClaim.holds_of_wide 4 Tryz.f4 rfl rfl rfl rfl rfl rfl rfl ⟨rfl,rfl,rfl,rfl,rfl⟩ rfl rfl rfl rfl rfl lC func4 qv
  yf wZ
  (λos started H enc _=>rQ os started H enc)
end Go.Proofs.YtfmhdimaijimlaaGreatDoor.V
namespace Go.Proofs.YtfmhdimaijimlaaGreatDoor
open Go
theorem kernelSees_holds:Rows.KernelSeesCardSaid :=
 Claim7.holds_tied_plain_at .later [] [.handle] true (true,"90fbead9d07fa004a70beb7406bf7f93119a0d73e6ba5b0fd747f4c54d3690ac") true
  V.BU (λ_ h=>by cases h) (by kernel_rfl) (λ_ h=>by cases h) kernelSees_row_tie rfl ⟨rfl,rfl⟩ (by kernel_rfl) rfl
  (λf fn hf hfn=>by
   obtain rfl:f=4:=Option.some.inj (V.lC.symm.trans hf) |>.symm
   obtain rfl:fn=Tryz.f4:=(Option.some.inj (func4.symm.trans hfn)).symm
   exact⟨by kernel_rfl,λj t ht=>by
    rw [params4] at ht
    have h3:t=23\/t=28\/t=25:=by
     rcases j with _|_|_|j
     ·exact .inl (by simpa using ht.symm)
     ·exact .inr (.inl (by simpa using ht.symm))
     ·exact .inr (.inr ((by simpa using ht.symm)))
     ·simp at ht
    rcases h3 with rfl|rfl|rfl
    ·exact (show prog.wantsStandIn 23=false by kernel_rfl)
    ·exact (show prog.wantsStandIn 28=false by kernel_rfl)
    ·exact (show prog.wantsStandIn 25=false by kernel_rfl)
    ⟩)
  (by kernel_rfl)
#print axioms kernelSees_holds
end Go.Proofs.YtfmhdimaijimlaaGreatDoor
