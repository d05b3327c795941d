import Derived.Test.YtfmhdimaijimlaaGreatDoorZNI
import Derived.Test.YtfmhdimaijimlaaGreatDoorRows
import Derived.WalkKit
import Derived.ProofKit
import Derived.JoinedOf
import Derived.Laws.IdiomArrays
set_option linter.all false
set_option maxRecDepth 1000000
set_option maxHeartbeats 8000000
open Go.Proofs.Tryz
variable {w w' w1 w2:Go.World}{n m k i j b g base kn:Nat}{a:Option Go.Addr}
namespace Go.Proofs.YtfmhdimaijimlaaGreatDoor.V
theorem news_j1:(Rows.kernelNewsRow.inPlace==prog.inPlace 7)=true:=by kernel_rfl
theorem news_j2:(Rows.kernelNewsRow.unfollowed==prog.unfollowed 7)=true:=by kernel_rfl
theorem news_j3:(Rows.kernelNewsRow.recurses==prog.recurses 7)=true:=by kernel_rfl
theorem news_j4:(Rows.kernelNewsRow.named==prog.varsNamed 7)=true:=by kernel_rfl
theorem news_named:prog.funcNamed "sesame/sesamelaw21.KernelNews"=some 7:=by kernel_rfl
theorem news_and {a b:Bool}(h:a=true)(k:b=true):(a&&b)=true:=by rw [h,k];rfl
theorem news_closed:joinedFacts prog 7 Tryz.f7 Rows.kernelNewsSpec Rows.kernelNewsRow=true:=by
 unfold joinedFacts
 repeat' (with_reducible refine news_and ?_ ?_)
 all_goals (first|(with_reducible exact news_j1)|(with_reducible exact news_j2)|(with_reducible exact news_j3)|(with_reducible exact news_j4)|(as_aux_lemma=>kernel_rfl))
theorem news_inst:Tryz.f7.isInstance prog Rows.kernelNewsRow.origin Rows.kernelNewsRow.targs:=of_decide_eq_true (by kernel_rfl)
theorem news_wrap:Tryz.f7.isWrapper prog Rows.kernelNewsRow.wrapper Rows.kernelNewsRow.mainSum:=by unfold Func.isWrapper;first|(rw [if_pos (by decide +kernel)];kernel_rfl)|(rw [if_neg (by decide +kernel)];exact⟨rfl,rfl⟩)
open Go.ChangeShapes Go.WideShapes Go.ChangeAt Go.RowKit Go.Joins
theorem news_lifted (os:_root_.Go.Os)(started:os.Started)(H:Type)(enc:TypeId×Value->H) :
  ReturnsInHanded {} checked os 7 .any (λw args=>(Rows.kernelNewsSpec.pre enc prog Tryz.f7 [] false w args/\laidMetH prog xN w)/\sizedMet enc prog Tryz.f7 (OpenSpec.ofChange Rows.kernelNewsSpec) false w args)
   (Rows.kernelNewsSpec.post enc prog Tryz.f7 false true false false):=by
 refine returnsInHanded_of_change_and (C:=checked) (X:=λw _=>laidMetH prog xN w) (λ_ _ _ hh h=>h.of_heap hh) Jw started (by kernel_rfl) func7
  (ChangeSpec.witness_at (enc:=enc) (C:=checked) (os:=os) (X:=λw _=>laidMetH prog xN w) false (oE os) #[.agg #[.int .i64 0,.int .i64 0,.int .i64 0,.int .i64 0,.int .i64 0,.int .i64 0,.int .i64 0,.int .i64 0,.int .i64 0,.int .i64 0],.int .i64 0] 8 rfl (by kernel_rfl) (by kernel_rfl) (by kernel_rfl) (by kernel_rfl) (by kernel_rfl) (nc os _)) ?_
 intro W base args ds gs before hval0 hW _ hsz0 hL _
 have hsz:(DataW.weightsEach prog (Tryz.f7.params.toList++Rows.kernelNewsSpec.plain.varTypes prog) (ds++gs)).all (·<=reachBytes)=true:=hsz0
 clear hsz0
 have hval:∀(j:Nat) t v,Tryz.f7.params[j]?=some t->args[j]?=some v->Value.okWide prog W .any base t v:=hval0
 have hW':=hW
 obtain⟨p,q,hA0,hV0,rfl,hfz,hnd⟩:=hW
 have hA:DataW.TrodAll enc prog W 0 (λ_=>true) true Tryz.f7.params.toList args.toList ds p:=hA0
 rw [params7] at hA hval hsz
 obtain⟨v0,vs0,d0,ds0,p0,q0,hargs,rfl,rfl,h0,r0⟩:=trodAll_cons hA
 obtain⟨v1,vs1,d1,ds1,p1,q1,rfl,rfl,rfl,h1,r1⟩:=trodAll_cons r0
 obtain⟨rfl,rfl,rfl⟩:=trodAll_nil r1
 obtain rfl:args=#[v0,v1]:=by cases args;simp_all
 obtain⟨rfl,rfl⟩:=trodVars_none hV0
 have k0:=h0
 have lt0:∀x∈p0,x.block<W.heap.size:=by obtain⟨m,hm⟩:=k0;exact DataW.trod_lt m _ _ _ hm
 have k1:=h1
 have Jb:∀x∈p1,x.block<W.heap.size:=by obtain⟨m,hm⟩:=k1;exact DataW.trod_lt m _ _ _ hm
 obtain⟨c,rfl⟩:=qG (hval 0 23 v0 rfl rfl) h0
 obtain⟨n,rfl,rfl,rfl,wv1⟩:=open_int underlying3 (hval 1 3 v1 rfl rfl) h1
 have hl:=lU hL
 clear hA0 hval0 hsz
 refine (news_law c n hl (BY hl)).mono λe W' ⟨he,Fk⟩=>?_
 subst he
 exact⟨_,rfl,_,_,_,[],_,[],hW',trodAll_mk1 (shut_bool underlying4 _),(trodAll_cons_mk (Below.trod laidOut (by kernel_rfl) (of_decide_eq_true (by kernel_rfl)) k0 Fk lt0) (trodAll_cons_mk (shut_int underlying3 wv1) trodAll_mk0)),rfl,Fk.frame _,λh=>by cases h⟩
theorem news_row:Rows.KernelNewsSaid :=
 OpenClaim.holds_of_wide 7 Tryz.f7 rfl rfl rfl rfl rfl rfl rfl ⟨rfl,rfl,rfl,rfl,rfl⟩ rfl rfl rfl rfl rfl news_named func7 news_closed
  news_inst news_wrap
  (λos started H enc _=>news_lifted os started H enc)
end Go.Proofs.YtfmhdimaijimlaaGreatDoor.V
namespace Go.Proofs.YtfmhdimaijimlaaGreatDoor
open Go
theorem kernelNews_holds:Rows.KernelNewsCardSaid :=
 Claim7.holds_tied_plain_at .later [] [.handle] true (true,"90fbead9d07fa004a70beb7406bf7f93119a0d73e6ba5b0fd747f4c54d3690ac") true
  V.news_row (λ_ h=>by cases h) (by kernel_rfl) (λ_ h=>by cases h) kernelNews_row_tie rfl ⟨rfl,rfl⟩ (by kernel_rfl) rfl
  (λf fn hf hfn=>by
   obtain rfl:f=7:=Option.some.inj (V.news_named.symm.trans hf) |>.symm
   obtain rfl:fn=Tryz.f7:=(Option.some.inj (func7.symm.trans hfn)).symm
   exact⟨by kernel_rfl,λj t ht=>by
    rw [params7] at ht
    have h3:t=23\/t=3:=by
     rcases j with _|_|j
     ·exact .inl (by simpa using ht.symm)
     ·exact .inr ((by simpa using ht.symm))
     ·simp at ht
    rcases h3 with rfl|rfl
    ·exact (show prog.wantsStandIn 23=false by kernel_rfl)
    ·exact (show prog.wantsStandIn 3=false by kernel_rfl)
    ⟩)
  (by kernel_rfl)
#print axioms kernelNews_holds
end Go.Proofs.YtfmhdimaijimlaaGreatDoor
