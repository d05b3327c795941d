import Derived.Test.YtffmodpgddecnaaGreatZ40
import Derived.Test.YtffmodpgddecnaaGreatZ41
set_option linter.unusedVariables false
namespace Go.Proofs.YtffmodpgddecnaaGreat.V.E
open Go.ChangeShapes Go.WideShapes Go.ChangeAt Go.RowKit Go.Joins
open Go.Proofs.YtffmodpgddecnaaGreat.H (B64 Cp)
theorem plays_law {w:World}(c:Cf){a:Option Addr}{n dcap:Nat}{f:Nat→Nat}(hw:D.Ws w a n dcap f)(hnd:n*16≤140737488355328){al:Option Addr}{nl cap:Nat}{C:List R.Cl}{D' G':Nat→R.Sl}(hC:Cz w al nl C D' G')(hnl:nl*136≤140737488355328) :
  Calls Tryz.prog 3 #[c.v,.slice a n dcap,.slice al nl cap] w fun e w'=>e=.returned (.bool true)∧Below w.heap.size w w':=by
 cases hc:c.may with
 | false=>exact plays_bad c hc hw hnd hC hnl
 | true =>
  by_cases hn:n≤4096
  ·exact plays_ok c hc hw hnd hn hC hnl
  ·exact plays_many c hc hw hnd (by omega) hC hnl
set_option maxRecDepth 100000 in
theorem plays_lifted (os:_root_.Go.Os)(started:os.Started)(H:Type)(enc:TypeId×Value→H) :
  ReturnsInHanded {} Tryz.checked os 3 .any (Rows.plainPlaysSpec.pre6 enc Tryz.prog Tryz.f3 Rows.plainPlaysRow.domain false) (Rows.plainPlaysSpec.post enc Tryz.prog Tryz.f3 false true false false):=by
 refine returnsInHanded_of_change_sized (C:=Tryz.checked) ownK started (by kernel_rfl) Tryz.func3
  (ChangeSpec.witness6 (enc:=enc) (C:=Tryz.checked) false ⟨#[],#[.agg #[.int .i64 0,.int .i64 0,.int .i64 0,.int .i64 0,.int .i64 0,.int .i64 0,.int .i64 0,.int .i64 0,.int .i64 0,.int .i64 0],.slice none 0 0,.slice none 0 0],[]⟩ 8 (by kernel_rfl) (by kernel_rfl) (by kernel_rfl) (by kernel_rfl)) ?_
 intro W base args ds gs before hval0 hW hcnd hsz0 _
 have hsz:(DataW.weightsEach Tryz.prog (Tryz.f3.params.toList++Rows.plainPlaysSpec.plain.varTypes Tryz.prog) (ds++gs)).all (·≤reachBytes)=true:=hsz0
 clear hsz0
 have hval:∀(j:Nat) t v,Tryz.f3.params[j]?=some t→args[j]?=some v→Value.okWide Tryz.prog W .any base t v:=hval0
 have hW':=hW
 obtain⟨p,q,hA0,hV,rfl,hfz,hnd⟩:=hW
 have hA:DataW.TrodAll enc Tryz.prog W 0 (fun _=>true) true Tryz.f3.params.toList args.toList ds p:=hA0
 rw [Tryz.params3] at hA hval hsz
 obtain⟨v0,vs0,d0,ds0,p0,q0,hargs,rfl,rfl,h0,r0⟩:=trodAll_cons hA
 obtain⟨v1,vs1,d1,ds1,p1,q1,rfl,rfl,rfl,h1,r1⟩:=trodAll_cons r0
 obtain⟨v2,vs2,d2,ds2,p2,q2,rfl,rfl,rfl,h2,r2⟩:=trodAll_cons r1
 obtain⟨rfl,rfl,rfl⟩:=trodAll_nil r2
 obtain rfl:args=#[v0,v1,v2]:=by cases args;simp_all
 obtain⟨rfl,rfl⟩:=trodVars_none hV
 have k0:=h0
 have lt0:∀x∈p0,x.block<W.heap.size:=by obtain⟨m,hm⟩:=k0;exact DataW.trod_lt m _ _ _ hm
 have k1:=h1
 have lt1:∀x∈p1,x.block<W.heap.size:=by obtain⟨m,hm⟩:=k1;exact DataW.trod_lt m _ _ _ hm
 have k2:=h2
 have lt2:∀x∈p2,x.block<W.heap.size:=by obtain⟨m,hm⟩:=k2;exact DataW.trod_lt m _ _ _ hm
 obtain⟨c,rfl⟩:=open_config (hval 0 23 v0 rfl rfl) h0
 have hw1:∀q∈d1.weights Tryz.prog 24,q≤reachBytes:=fun q hq=>by
  have:=List.all_eq_true.1 hsz _ (DataW.weights_mem_each (j:=1) (t:=24) (d:=d1) rfl rfl q hq)
  simpa using this
 have hw:∀q∈d2.weights Tryz.prog 25,q≤reachBytes:=fun q hq=>by
  have:=List.all_eq_true.1 hsz _ (DataW.weights_mem_each (j:=2) (t:=25) (d:=d2) rfl rfl q hq)
  simpa using this
 obtain⟨a1,n1,cap1,f,rfl,hWs,hrd⟩:=open_words (hval 1 24 v1 rfl rfl) h1
 obtain⟨a,n,cap,C,D',G',rfl,hC,hn⟩:=open_calls (hval 2 25 v2 rfl rfl) h2 hw
 have hn1:=hrd.weight Tryz.underlying24 hw1
 rw [bytesWd] at hn1
 have hn2:n1*16≤140737488355328:=Nat.le_trans hn1 (by decide)
 clear hA0 hval0 hsz
 refine (plays_law c hWs hn2 hC hn).mono fun e W' ⟨he,bel⟩=>?_
 subst he
 exact⟨_,rfl,_,_,_,[],_,[],hW',trodAll_mk1 (shut_bool Tryz.underlying4 _),(trodAll_cons_mk (Below.trod laidOut (by kernel_rfl) (of_decide_eq_true (by kernel_rfl)) k0 bel lt0) (trodAll_cons_mk (Below.trod laidOut (by kernel_rfl) (of_decide_eq_true (by kernel_rfl)) k1 bel lt1) (trodAll_cons_mk (Below.trod laidOut (by kernel_rfl) (of_decide_eq_true (by kernel_rfl)) k2 bel lt2) trodAll_mk0))),rfl,bel.frame _,fun h=>by cases h⟩
end Go.Proofs.YtffmodpgddecnaaGreat.V.E
namespace Go.Proofs.YtffmodpgddecnaaGreat
open Go Go.ChangeShapes Go.WideShapes Go.ChangeAt Go.RowKit Go.Joins
theorem plainPlays_holds:Rows.PlainPlaysSaid :=
 OpenClaim.holds_of_wide 3 Tryz.f3 rfl rfl rfl rfl rfl rfl rfl ⟨rfl,rfl,rfl,rfl,rfl⟩ rfl rfl rfl rfl rfl (by kernel_rfl) Tryz.func3 (by kernel_rfl)
  (of_decide_eq_true (by kernel_rfl)) (by unfold Func.isWrapper;first|(rw [if_pos (by decide +kernel)];kernel_rfl)|(rw [if_neg (by decide +kernel)];exact⟨rfl,rfl⟩))
  (fun os started H enc _=>V.E.plays_lifted os started H enc)
#print axioms plainPlays_holds
end Go.Proofs.YtffmodpgddecnaaGreat
