import Derived.Test.YtfmhdimaijimlaaGreatDoorEYG
import Derived.Laws.IdiomArrays
set_option linter.all false
set_option maxRecDepth 1000000
set_option maxHeartbeats 8000000
open Go.Proofs.Tryz
variable {w w' w1 w2:Go.World}{n m k i j b g base kn:Nat}{a:Option Go.Addr}
namespace Go.Proofs.YtfmhdimaijimlaaGreatDoor.V
theorem gone_j1:(Rows.kernelGoneRow.inPlace==prog.inPlace 6)=true:=by kernel_rfl
theorem gone_j2:(Rows.kernelGoneRow.unfollowed==prog.unfollowed 6)=true:=by kernel_rfl
theorem gone_j3:(Rows.kernelGoneRow.recurses==prog.recurses 6)=true:=by kernel_rfl
theorem gone_j4:(Rows.kernelGoneRow.named==prog.varsNamed 6)=true:=by kernel_rfl
theorem gone_named:prog.funcNamed "sesame/sesamelaw21.KernelGone"=some 6:=by kernel_rfl
theorem gone_and {a b:Bool}(h:a=true)(k:b=true):(a&&b)=true:=by rw [h,k];rfl
theorem gone_closed:joinedFacts prog 6 Tryz.f6 Rows.kernelGoneSpec Rows.kernelGoneRow=true:=by
 unfold joinedFacts
 repeat' (with_reducible refine gone_and ?_ ?_)
 all_goals (first|(with_reducible exact gone_j1)|(with_reducible exact gone_j2)|(with_reducible exact gone_j3)|(with_reducible exact gone_j4)|(as_aux_lemma=>kernel_rfl))
theorem gone_inst:Tryz.f6.isInstance prog Rows.kernelGoneRow.origin Rows.kernelGoneRow.targs:=of_decide_eq_true (by kernel_rfl)
theorem gone_wrap:Tryz.f6.isWrapper prog Rows.kernelGoneRow.wrapper Rows.kernelGoneRow.mainSum:=by unfold Func.isWrapper;first|(rw [if_pos (by decide +kernel)];kernel_rfl)|(rw [if_neg (by decide +kernel)];exact⟨rfl,rfl⟩)
open Go.ChangeShapes Go.WideShapes Go.ChangeAt Go.RowKit Go.Joins
theorem gone_lifted (os:_root_.Go.Os)(started:os.Started)(H:Type)(enc:TypeId×Value→H) :
  ReturnsInHanded {} checked os 6 .any (λw args=>(Rows.kernelGoneSpec.pre enc prog Tryz.f6 [] false w args∧laidMetH prog lay_ w)∧sizedMet enc prog Tryz.f6 (OpenSpec.ofChange Rows.kernelGoneSpec) false w args)
   (Rows.kernelGoneSpec.post enc prog Tryz.f6 false true false false):=by
 refine returnsInHanded_of_change_and (C:=checked) (X:=λw _=>laidMetH prog lay_ w) (λ_ _ _ hh h=>h.of_heap hh) ownK started (by kernel_rfl) func6
  (ChangeSpec.witness_at (enc:=enc) (C:=checked) (os:=os) (X:=λw _=>laidMetH prog lay_ w) false (laidWorld os) #[.agg #[.int .i64 0,.int .i64 0,.int .i64 0,.int .i64 0,.int .i64 0,.int .i64 0,.int .i64 0,.int .i64 0,.int .i64 0,.int .i64 0],.slice none 0 0,.slice none 0 0] 8 rfl (by kernel_rfl) (by kernel_rfl) (by kernel_rfl) (by kernel_rfl) (by kernel_rfl) (laidWorld_met os _)) ?_
 intro W base args ds gs before hval0 hW _ hsz0 hL _
 have hsz:(DataW.weightsEach prog (Tryz.f6.params.toList++Rows.kernelGoneSpec.plain.varTypes prog) (ds++gs)).all (·≤reachBytes)=true:=hsz0
 clear hsz0
 have hval:∀(j:Nat) t v,Tryz.f6.params[j]?=some t→args[j]?=some v→Value.okWide prog W .any base t v:=hval0
 have hW':=hW
 obtain⟨p,q,hA0,hV0,rfl,hfz,hnd⟩:=hW
 have hA:DataW.TrodAll enc prog W 0 (λ_=>true) true Tryz.f6.params.toList args.toList ds p:=hA0
 rw [params6] at hA hval hsz
 obtain⟨v0,vs0,d0,ds0,p0,q0,hargs,rfl,rfl,h0,r0⟩:=trodAll_cons hA
 obtain⟨v1,vs1,d1,ds1,p1,q1,rfl,rfl,rfl,h1,r1⟩:=trodAll_cons r0
 obtain⟨v2,vs2,d2,ds2,p2,q2,rfl,rfl,rfl,h2,r2⟩:=trodAll_cons r1
 obtain⟨rfl,rfl,rfl⟩:=trodAll_nil r2
 obtain rfl:args=#[v0,v1,v2]:=by cases args;simp_all
 obtain⟨rfl,rfl⟩:=trodVars_none hV0
 have k0:=h0
 have lt0:∀x∈p0,x.block<W.heap.size:=by obtain⟨m,hm⟩:=k0;exact DataW.trod_lt m _ _ _ hm
 have k1:=h1
 have lt1:∀x∈p1,x.block<W.heap.size:=by obtain⟨m,hm⟩:=k1;exact DataW.trod_lt m _ _ _ hm
 have k2:=h2
 have lt2:∀x∈p2,x.block<W.heap.size:=by obtain⟨m,hm⟩:=k2;exact DataW.trod_lt m _ _ _ hm
 obtain⟨c,rfl⟩:=open_config (hval 0 23 v0 rfl rfl) h0
 obtain⟨a0,n0,cap0,f0,rfl,hD,hRd⟩:=open_words (hval 1 28 v1 rfl rfl) h1
 have hw:∀q∈d2.weights prog 25,q≤reachBytes:=λq hq=>by
  have:=List.all_eq_true.1 hsz _ (DataW.weights_mem_each (j:=2) (t:=25) (d:=d2) rfl rfl q hq)
  simpa using this
 obtain⟨a,n,cap,C,D',G',rfl,hC,hn⟩:=open_calls (hval 2 25 v2 rfl rfl) h2 hw
 have hl:=handle_of_laid hL
 clear hA0 hval0 hsz
 refine (gone_law c hD hC (by omega) hl (laid_pos hl)).mono λe W' ⟨he,bel⟩=>?_
 subst he
 exact⟨_,rfl,_,_,_,[],_,[],hW',trodAll_mk1 (shut_bool underlying4 _),(trodAll_cons_mk (Below.trod laidOut (by kernel_rfl) (of_decide_eq_true (by kernel_rfl)) k0 bel lt0) (trodAll_cons_mk (Below.trod laidOut (by kernel_rfl) (of_decide_eq_true (by kernel_rfl)) k1 bel lt1) (trodAll_cons_mk (Below.trod laidOut (by kernel_rfl) (of_decide_eq_true (by kernel_rfl)) k2 bel lt2) trodAll_mk0))),rfl,bel.frame _,λh=>by cases h⟩
theorem gone_row:Rows.KernelGoneSaid :=
 OpenClaim.holds_of_wide 6 Tryz.f6 rfl rfl rfl rfl rfl rfl rfl ⟨rfl,rfl,rfl,rfl,rfl⟩ rfl rfl rfl rfl rfl gone_named func6 gone_closed
  gone_inst gone_wrap
  (λos started H enc _=>gone_lifted os started H enc)
end Go.Proofs.YtfmhdimaijimlaaGreatDoor.V
namespace Go.Proofs.YtfmhdimaijimlaaGreatDoor
open Go
theorem kernelGone_holds:Rows.KernelGoneCardSaid :=
 Claim7.holds_tied_plain_at .later [] [.handle] true (true,"90fbead9d07fa004a70beb7406bf7f93119a0d73e6ba5b0fd747f4c54d3690ac") true
  V.gone_row (λ_ h=>by cases h) (by kernel_rfl) (λ_ h=>by cases h) kernelGone_row_tie rfl ⟨rfl,rfl⟩ (by kernel_rfl) rfl
  (λf fn hf hfn=>by
   obtain rfl:f=6:=Option.some.inj (V.gone_named.symm.trans hf) |>.symm
   obtain rfl:fn=Tryz.f6:=(Option.some.inj (func6.symm.trans hfn)).symm
   exact⟨by kernel_rfl,λj t ht=>by
    rw [params6] at ht
    have h3:t=23∨t=28∨t=25:=by
     rcases j with _|_|_|j
     ·exact .inl (by simpa using ht.symm)
     ·exact .inr (.inl (by simpa using ht.symm))
     ·exact .inr (.inr ((by simpa using ht.symm)))
     ·simp at ht
    rcases h3 with rfl|rfl|rfl
    ·exact (show prog.wantsStandIn 23=false by kernel_rfl)
    ·exact (show prog.wantsStandIn 28=false by kernel_rfl)
    ·exact (show prog.wantsStandIn 25=false by kernel_rfl)
   ⟩)
  (by kernel_rfl)
#print axioms kernelGone_holds
end Go.Proofs.YtfmhdimaijimlaaGreatDoor
