import Derived.Laws.IdiomArrays
import Derived.Test.YtmhinfbkmjdgfaaGreatDoorZ36
import Derived.Test.YtmhinfbkmjdgfaaGreatDoorZ37
import Derived.Test.YtmhinfbkmjdgfaaGreatDoorZ23
import Derived.Test.YtmhinfbkmjdgfaaGreatDoorZ24
import Derived.Test.YtmhinfbkmjdgfaaGreatDoorZ26
set_option linter.unusedVariables false
set_option linter.unusedSimpArgs false
set_option maxRecDepth 100000
namespace Go.Proofs.YtmhinfbkmjdgfaaGreatDoor.V
open Go.ChangeShapes Go.WideShapes Go.ChangeAt Go.RowKit Go.Joins
theorem rV (os:_root_.Go.Os)(started:os.Started)(H:Type)(enc:TypeId×Value->H) :
  ReturnsInHanded {} Tryz.checked os 5 .any (λw args=>(Rows.bookWitnessSpec.pre enc Tryz.prog Tryz.f5 [] false w args/\laidMetH Tryz.prog wh w)/\sizedMet enc Tryz.prog Tryz.f5 (OpenSpec.ofChange Rows.bookWitnessSpec) false w args)
   (Rows.bookWitnessSpec.post enc Tryz.prog Tryz.f5 false true false false):=by
 refine returnsInHanded_of_change_and (C:=Tryz.checked) (X:=λw _=>laidMetH Tryz.prog wh w) (λ_ _ _ hh h=>h.of_heap hh) IL started (by kernel_rfl) Tryz.func5
  (ChangeSpec.witness_at (enc:=enc) (C:=Tryz.checked) (os:=os) (X:=λw _=>laidMetH Tryz.prog wh w) false (ni os) #[.agg #[.int .i64 0,.int .i64 0,.int .i64 0,.int .i64 0,.int .i64 0,.int .i64 0,.int .i64 0,.int .i64 0,.int .i64 0,.int .i64 0],.slice none 0 0,.int .i64 0] 8 rfl (by kernel_rfl) (by kernel_rfl) (by kernel_rfl) (by kernel_rfl) (by kernel_rfl) (mN os _)) ?_
 intro W base args ds gs before hval0 hW _ hsz0 hL _;have hsz:(DataW.weightsEach Tryz.prog (Tryz.f5.params.toList++Rows.bookWitnessSpec.plain.varTypes Tryz.prog) (ds++gs)).all (·<=reachBytes)=true:=hsz0
 clear hsz0;have hval:∀(j:Nat) t v,Tryz.f5.params[j]?=some t->args[j]?=some v->Value.okWide Tryz.prog W .any base t v:=hval0
 have hW':=hW
 obtain⟨p,q,hA0,hV0,rfl,hfz,hnd⟩:=hW
 have hA:DataW.TrodAll enc Tryz.prog W 0 (λ_=>true) true Tryz.f5.params.toList args.toList ds p:=hA0
 rw [Tryz.params5] at hA hval hsz;obtain⟨v0,vs0,d0,ds0,p0,q0,hargs,rfl,rfl,h0,r0⟩:=trodAll_cons hA
 obtain⟨v1,vs1,d1,ds1,p1,q1,rfl,rfl,rfl,h1,r1⟩:=trodAll_cons r0
 obtain⟨v2,vs2,d2,ds2,p2,q2,rfl,rfl,rfl,h2,r2⟩:=trodAll_cons r1
 obtain⟨rfl,rfl,rfl⟩:=trodAll_nil r2
 obtain rfl:args=#[v0,v1,v2]:=by cases args;simp_all
 obtain⟨rfl,rfl⟩:=trodVars_none hV0
 have k0:=h0
 have lt0:∀x∈p0,x.block<W.heap.size:=by obtain⟨m,hm⟩:=k0;exact DataW.trod_lt m _ _ _ hm
 have k1:=h1
 have GZ:∀x∈p1,x.block<W.heap.size:=by obtain⟨m,hm⟩:=k1;exact DataW.trod_lt m _ _ _ hm
 have k2:=h2
 have pB:∀x∈p2,x.block<W.heap.size:=by obtain⟨m,hm⟩:=k2;exact DataW.trod_lt m _ _ _ hm
 obtain⟨c,rfl⟩:=qH (hval 0 23 v0 rfl rfl) h0
 obtain⟨a0,n0,cap0,f0,rfl,hD,hRd⟩:=ss (hval 1 24 v1 rfl rfl) h1
 obtain⟨n,rfl,rfl,rfl,wv2⟩:=open_int Tryz.underlying3 (hval 2 3 v2 rfl rfl) h2
 have hl:=kR hL
 clear hA0 hval0 hsz;refine (CZ c n hD hl (yw hl)).mono λe W' ⟨he,I8⟩=>?_
 subst he;exact⟨_,rfl,_,_,_,[],_,[],hW',trodAll_mk1 (shut_bool Tryz.underlying4 _),(trodAll_cons_mk (Below.trod laidOut (by kernel_rfl) (of_decide_eq_true (by kernel_rfl)) k0 I8 lt0) (trodAll_cons_mk (Below.trod laidOut (by kernel_rfl) (of_decide_eq_true (by kernel_rfl)) k1 I8 GZ) (trodAll_cons_mk (shut_int Tryz.underlying3 wv2) trodAll_mk0))),rfl,I8.frame _,λh=>by cases h⟩
theorem B5:Rows.BookWitnessSaid :=
 OpenClaim.holds_of_wide 5 Tryz.f5 rfl rfl rfl rfl rfl rfl rfl ⟨rfl,rfl,rfl,rfl,rfl⟩ rfl rfl rfl rfl rfl oj Tryz.func5 td
  zC AN
  (λos started H enc _=>rV os started H enc)
end Go.Proofs.YtmhinfbkmjdgfaaGreatDoor.V
namespace Go.Proofs.YtmhinfbkmjdgfaaGreatDoor
open Go
theorem bookWitness_holds:Rows.BookWitnessCardSaid :=
 Claim7.holds_tied_plain_at .later [] [.handle] true (true,"62d4ada93b9280b65696c6a4b5cb8dc401fa876b18e4422fd2dc7958ae250ab2") true
  V.B5 (λ_ h=>by cases h) V.EW (λ_ h=>by cases h) bookWitness_row_tie rfl ⟨rfl,rfl⟩ V.Aw rfl
  (λf fn hf hfn=>by
   obtain rfl:f=5:=Option.some.inj (V.oj.symm.trans hf) |>.symm
   obtain rfl:fn=Tryz.f5:=(Option.some.inj (Tryz.func5.symm.trans hfn)).symm
   exact⟨V.vn,λj t ht=>by
    rw [Tryz.params5] at ht;have h3:t=23\/t=24\/t=3:=by
     rcases j with _|_|_|j
     ·exact .inl (by simpa using ht.symm)
     ·exact .inr (.inl (by simpa using ht.symm))
     ·exact .inr (.inr ((by simpa using ht.symm)))
     ·simp at ht
    rcases h3 with rfl|rfl|rfl
    ·exact V.EY
    ·exact V.FN
    ·exact V.Fq
    ⟩)
  V.AF
end Go.Proofs.YtmhinfbkmjdgfaaGreatDoor
