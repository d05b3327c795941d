import Derived.Laws.IdiomArrays
import Derived.Test.YtffmodpgddecnaaGreatDoorZ40
import Derived.Test.YtffmodpgddecnaaGreatDoorZ41
import Derived.Test.YtffmodpgddecnaaGreatDoorZ21
import Derived.Test.YtffmodpgddecnaaGreatDoorZ22
set_option linter.unusedVariables false
set_option linter.unusedSimpArgs false
set_option maxRecDepth 100000
namespace Go.Proofs.YtffmodpgddecnaaGreatDoor.V
open Go.ChangeShapes Go.WideShapes Go.ChangeAt Go.RowKit Go.Joins
theorem tZ (os:_root_.Go.Os)(started:os.Started)(H:Type)(enc:TypeId×Value->H) :
  ReturnsInHanded {} Tryz.checked os 7 .any (λw args=>(Rows.topRevokedSpec.pre enc Tryz.prog Tryz.f7 [] false w args/\laidMetH Tryz.prog xy w)/\sizedMet enc Tryz.prog Tryz.f7 (OpenSpec.ofChange Rows.topRevokedSpec) false w args)
   (Rows.topRevokedSpec.post enc Tryz.prog Tryz.f7 false true false false):=by
 refine returnsInHanded_of_change_and (C:=Tryz.checked) (X:=λw _=>laidMetH Tryz.prog xy w) (λ_ _ _ hh h=>h.of_heap hh) Km started (by kernel_rfl) Tryz.func7
  (ChangeSpec.witness_at (enc:=enc) (C:=Tryz.checked) (os:=os) (X:=λw _=>laidMetH Tryz.prog xy w) false (oa os) #[.agg #[.int .i64 0,.int .i64 0,.int .i64 0,.int .i64 0,.int .i64 0,.int .i64 0,.int .i64 0,.int .i64 0,.int .i64 0,.int .i64 0],.slice none 0 0,.slice none 0 0] 8 rfl (by kernel_rfl) (by kernel_rfl) (by kernel_rfl) (by kernel_rfl) (by kernel_rfl) (mS os _)) ?_
 intro W base args ds gs before hval0 hW _ hsz0 hL _;have hsz:(DataW.weightsEach Tryz.prog (Tryz.f7.params.toList++Rows.topRevokedSpec.plain.varTypes Tryz.prog) (ds++gs)).all (·<=reachBytes)=true:=hsz0
 clear hsz0;have hval:∀(j:Nat) t v,Tryz.f7.params[j]?=some t->args[j]?=some v->Value.okWide Tryz.prog W .any base t v:=hval0
 have hW':=hW
 obtain⟨p,q,hA0,hV0,rfl,hfz,hnd⟩:=hW
 have hA:DataW.TrodAll enc Tryz.prog W 0 (λ_=>true) true Tryz.f7.params.toList args.toList ds p:=hA0
 rw [Tryz.params7] at hA hval hsz;obtain⟨v0,vs0,d0,ds0,p0,q0,hargs,rfl,rfl,h0,r0⟩:=trodAll_cons hA
 obtain⟨v1,vs1,d1,ds1,p1,q1,rfl,rfl,rfl,h1,r1⟩:=trodAll_cons r0
 obtain⟨v2,vs2,d2,ds2,p2,q2,rfl,rfl,rfl,h2,r2⟩:=trodAll_cons r1
 obtain⟨rfl,rfl,rfl⟩:=trodAll_nil r2
 obtain rfl:args=#[v0,v1,v2]:=by cases args;simp_all
 obtain⟨rfl,rfl⟩:=trodVars_none hV0
 have k0:=h0
 have lt0:∀x∈p0,x.block<W.heap.size:=by obtain⟨m,hm⟩:=k0;exact DataW.trod_lt m _ _ _ hm
 have k1:=h1
 have I3:∀x∈p1,x.block<W.heap.size:=by obtain⟨m,hm⟩:=k1;exact DataW.trod_lt m _ _ _ hm
 have k2:=h2
 have po:∀x∈p2,x.block<W.heap.size:=by obtain⟨m,hm⟩:=k2;exact DataW.trod_lt m _ _ _ hm
 obtain⟨c,rfl⟩:=q_ (hval 0 23 v0 rfl rfl) h0
 obtain⟨a0,n0,cap0,f0,rfl,hD,hRd⟩:=ui (hval 1 24 v1 rfl rfl) h1
 have hw:∀q∈d2.weights Tryz.prog 25,q<=reachBytes:=λq hq=>by
  have:=List.all_eq_true.1 hsz _ (DataW.weights_mem_each (j:=2) (t:=25) (d:=d2) rfl rfl q hq)
  simpa using this
 obtain⟨a,n,cap,C,D',G',rfl,hC,hn⟩:=tK (hval 2 25 v2 rfl rfl) h2 hw
 have hl:=mG hL
 clear hA0 hval0 hsz;refine (DQ c hD hC (by omega) hl (z8 hl)).mono λe W' ⟨he,EI⟩=>?_
 subst he;exact⟨_,rfl,_,_,_,[],_,[],hW',trodAll_mk1 (shut_bool Tryz.underlying4 _),(trodAll_cons_mk (Below.trod laidOut (by kernel_rfl) (of_decide_eq_true (by kernel_rfl)) k0 EI lt0) (trodAll_cons_mk (Below.trod laidOut (by kernel_rfl) (of_decide_eq_true (by kernel_rfl)) k1 EI I3) (trodAll_cons_mk (Below.trod laidOut (by kernel_rfl) (of_decide_eq_true (by kernel_rfl)) k2 EI po) trodAll_mk0))),rfl,EI.frame _,λh=>by cases h⟩
theorem DE:Rows.TopRevokedSaid :=
 OpenClaim.holds_of_wide 7 Tryz.f7 rfl rfl rfl rfl rfl rfl rfl ⟨rfl,rfl,rfl,rfl,rfl⟩ rfl rfl rfl rfl rfl ot Tryz.func7 tB
  Bp A8
  (λos started H enc _=>tZ os started H enc)
end Go.Proofs.YtffmodpgddecnaaGreatDoor.V
namespace Go.Proofs.YtffmodpgddecnaaGreatDoor
open Go
theorem topRevoked_holds:Rows.TopRevokedCardSaid :=
 Claim7.holds_tied_plain_at .later [] [.handle] true (true,"7be63cd315e80df55906223a8a164985d0c285e0af82d712245cb4fe03be573d") true
  V.DE (λ_ h=>by cases h) V.FE (λ_ h=>by cases h) topRevoked_row_tie rfl ⟨rfl,rfl⟩ V.BJ rfl
  (λf fn hf hfn=>by
   obtain rfl:f=7:=Option.some.inj (V.ot.symm.trans hf) |>.symm
   obtain rfl:fn=Tryz.f7:=(Option.some.inj (Tryz.func7.symm.trans hfn)).symm
   exact⟨V.xG,λj t ht=>by
    rw [Tryz.params7] at ht;have h3:t=23\/t=24\/t=25:=by
     rcases j with _|_|_|j
     ·exact .inl (by simpa using ht.symm)
     ·exact .inr (.inl (by simpa using ht.symm))
     ·exact .inr (.inr ((by simpa using ht.symm)))
     ·simp at ht
    rcases h3 with rfl|rfl|rfl
    ·exact V.GK
    ·exact V.Fi
    ·exact V.Gd
    ⟩)
  V.yJ
end Go.Proofs.YtffmodpgddecnaaGreatDoor
