import Derived.Test.YtmhinfbkmjdgfaaGreatDoorTie
import Derived.Test.YtmhinfbkmjdgfaaGreatDoorCards
import Derived.OpenShut
import Derived.ChangeOld
import Derived.Below
import Derived.SizedLaws
import Derived.JoinedCond
import Derived.Lib.SmallJoins
import Derived.Deep.Strs
import Derived.ChangeSame
import Derived.ChangeVars
import Derived.JoinedOf
import Derived.LaidLaws
import Derived.LaidHandle
import Derived.Stop.Joined
import Derived.SevenTiedAt
import Derived.Test.YtmhinfbkmjdgfaaGreatDoorZ34
set_option linter.unusedVariables false
set_option linter.unusedSimpArgs false
set_option maxRecDepth 100000
set_option maxHeartbeats 1000000
namespace Go.Proofs.YtmhinfbkmjdgfaaGreatDoor.V
open Go.ChangeShapes Go.WideShapes Go.ChangeAt Go.RowKit Go.Joins
open Go.Proofs.YtmhinfbkmjdgfaaGreatDoor.H (az Cp)
variable {H:Type}{base:Nat}{enc:TypeId×Value->H}{v:Value}{W:World}
theorem IL:ownKnob Tryz.prog.godebug=none:=by kernel_rfl
theorem laidOut:laidOutB Tryz.prog=true:=by kernel_rfl
theorem B2:Tryz.prog.cellsOf 30=2:=by kernel_rfl
theorem ER:Tryz.prog.cellsOf 28=1:=by kernel_rfl
theorem FW:Tryz.prog.cellsOf 3=1:=by kernel_rfl
theorem CP:Tryz.prog.cellsOf 23=10:=by kernel_rfl
def Reads {H:Type}(d:DataW H)(len:Nat):Prop:=(d=.nil/\len=0)\/∃xs ys,d=.slice xs ys/\xs.length=len
theorem xz {hi lo:Int}(h1:0<=hi)(h2:hi<18446744073709551616)(h3:0<=lo)(h4:lo<18446744073709551616):∃N,N<az*az/\D.di N=hi/\D.dj N=lo:=by
 have hB:az=18446744073709551616:=rfl
 have l1:hi.toNat<az:=by omega
 have l2:lo.toNat<az:=by omega
 refine⟨az*hi.toNat+lo.toNat,?_,?_,?_⟩
 ·have:az*hi.toNat<=az*(az - 1):=Nat.mul_le_mul_left _ (by omega)
  have e:az*(az - 1)+az=az*az:=by decide
  omega
 ·unfold D.di
  rw [Nat.mul_add_div (by decide),Nat.div_eq_of_lt l2];omega
 ·unfold D.dj
  rw [Nat.mul_add_mod,Nat.mod_eq_of_lt l2];omega
theorem rT {spare:Nat->Bool}{held:Bool}{n:Nat}{x:Addr}{y:DataW H×List MemPlace}
  (h:(W.cells? base x 2).bind (DataW.trod enc Tryz.prog W base spare held n 30)=some y) :
  ∃N,N<az*az/\∀c u,(D.yS N)[c]?=some u->W.cell? (x.add c)=some u:=by
 rw [Option.bind_eq_some_iff] at h;obtain⟨cs,hcs,hy⟩:=h
 obtain⟨_,hlen,hcell⟩:=World.cells?_some hcs
 obtain⟨y0,y1,m,_,_,h0,h1⟩:=trod_struct2 Tryz.underlying30 hy
 match cs,hlen with
 | [c0,c1],_ =>
  simp [ER] at h0 h1;obtain⟨k0,e0,_,w0⟩:=DataW.trod_int Tryz.underlying28 h0
  obtain⟨k1,e1,_,w1⟩:=DataW.trod_int Tryz.underlying28 h1
  simp at e0 e1
  subst e0 e1
  have b0:=bounds_u64 w0
  have b1:=bounds_u64 w1
  obtain⟨N,hN,e2,e3⟩:=xz (hi:=k0) (lo:=k1) (by omega) (by omega) (by omega) (by omega)
  refine⟨N,hN,λc u hu=>?_⟩
  have hc:c<2:=(List.getElem?_eq_some_iff.1 hu).1
  rw [hcell c hc,<-hu];simp only [D.yS,e2,e3]
theorem ss {r:Reach}{d:DataW H}{p:List MemPlace}(hv:Value.okWide Tryz.prog W r base 24 v)(h:DataW.Trod enc Tryz.prog W 0 (λ_=>true) true 24 v d p) :
  ∃a len cap f,v=.slice a len cap/\D.Ws W a len cap f/\Reads d len:=by
 obtain⟨a,len,cap,rfl⟩:=okWide_slice Tryz.underlying24 hv
 obtain⟨fuel,hf⟩:=h
 rcases DataW.trod_slice Tryz.underlying24 hf with ⟨hcs,hx⟩|⟨x,l,c,elems,rest,n,_,hcs,hx,_,hl,hm,hlen,hel,_,_⟩
 ·simp [Value.cells] at hcs
  obtain⟨rfl,rfl,rfl⟩:=hcs
  simp only [Prod.mk.injEq] at hx;exact⟨none,0,0,λ_=>0,rfl,⟨Nat.le_refl _,λ_=>⟨rfl,rfl⟩,λ_ h=>(by cases h),λ_=>by decide⟩,.inl ⟨hx.1,rfl⟩⟩
 ·simp [Value.cells] at hcs
  obtain⟨rfl,rfl,rfl⟩:=hcs
  simp only [Prod.mk.injEq] at hx;have each:∀i,∃N:Nat,N<az*az/\(i<len->∀c u,(D.yS N)[c]?=some u->W.cell? ((x.add (i*2)).add c)=some u):=by
   intro i;by_cases hi:i<len
   ·have he:=hel i hi
    rw [B2,List.getElem?_eq_getElem (by omega)] at he;obtain⟨N,h1,h2⟩:=rT he
    exact⟨N,h1,λ_=>h2⟩
   ·exact⟨0,by decide,λh=>absurd h hi⟩
  obtain⟨f,hf⟩:=Classical.axiomOfChoice each
  refine⟨some x,len,cap,f,rfl,⟨hl,(λh=>by cases h),?_,λi=>(hf i).1⟩,.inr ⟨_,_,hx.1,by simp;omega⟩⟩
  intro y hy j u hu;cases hy
  have hj:j<len*2:=by have:=(List.getElem?_eq_some_iff.1 hu).1;rwa [D.dp] at this
  have hq:=D.fy f len (j / 2) (j%2) (by omega) (by omega)
  have hjj:j / 2*2+j%2=j:=by omega
  rw [hjj] at hq;rw [hq] at hu;have hc:=(hf (j / 2)).2 (by omega) (j%2) u hu
  rw [Deep.add_add,hjj] at hc;exact hc
theorem qH {r:Reach}{b:Nat}{d:DataW H}{p:List MemPlace}(hv:Value.okWide Tryz.prog W r b 23 v)(h:DataW.Trod enc Tryz.prog W 0 (λ_=>true) true 23 v d p) :
  ∃c:Cf,v=c.v:=by
 obtain⟨cs,rfl,hsz⟩:=okWide_struct Tryz.underlying23 hv
 rw [CP] at hsz;obtain⟨l⟩:=cs
 obtain⟨fuel,hf⟩:=h
 obtain⟨xs,n,_,hx,hl,hlen,hfs⟩:=DataW.trod_struct Tryz.underlying23 hf
 match l,hsz with
 | [c0,c1,c2,c3,c4,c5,c6,c7,c8,c9],_ =>
  match xs,hlen with
  | [y0,y1,y2,y3,y4,y5,y6,y7,y8,y9],_ =>
   have f0:=hfs 0 _ rfl
   have f1:=hfs 1 _ rfl
   have f2:=hfs 2 _ rfl
   have f3:=hfs 3 _ rfl
   have f4:=hfs 4 _ rfl
   have f5:=hfs 5 _ rfl
   have f6:=hfs 6 _ rfl
   have f7:=hfs 7 _ rfl
   have f8:=hfs 8 _ rfl
   have f9:=hfs 9 _ rfl
   simp [Value.cells,FW] at f0 f1 f2 f3 f4 f5 f6 f7 f8 f9;obtain⟨o0,e0,_,w0⟩:=DataW.trod_int Tryz.underlying3 f0
   obtain⟨o1,e1,_,w1⟩:=DataW.trod_int Tryz.underlying3 f1
   obtain⟨o2,e2,_,w2⟩:=DataW.trod_int Tryz.underlying3 f2
   obtain⟨o3,e3,_,w3⟩:=DataW.trod_int Tryz.underlying3 f3
   obtain⟨o4,e4,_,w4⟩:=DataW.trod_int Tryz.underlying3 f4
   obtain⟨o5,e5,_,w5⟩:=DataW.trod_int Tryz.underlying3 f5
   obtain⟨o6,e6,_,w6⟩:=DataW.trod_int Tryz.underlying3 f6
   obtain⟨o7,e7,_,w7⟩:=DataW.trod_int Tryz.underlying3 f7
   obtain⟨o8,e8,_,w8⟩:=DataW.trod_int Tryz.underlying3 f8
   obtain⟨o9,e9,_,w9⟩:=DataW.trod_int Tryz.underlying3 f9
   simp at e0 e1 e2 e3 e4 e5 e6 e7 e8 e9
   subst e0 e1 e2 e3 e4 e5 e6 e7 e8 e9
   exact⟨⟨o0,o1,o2,o3,o4,o5,o6,o7,o8,o9⟩,rfl⟩
theorem et:Tryz.prog.globalNamed "errors.errorType"=some 0:=by kernel_rfl
theorem rt:(Tryz.prog.cutTypes.find? (·.1== "internal/reflectlite.rtype")).map (·.2)=some 531:=by kernel_rfl
theorem FE:((List.range Tryz.prog.types.size).filter λt=>Tryz.prog.rowNamed t [101,114,114,111,114])=[418]:=by kernel_rfl
def wh:List (String×DataW Unit):=[("errors.errorType",Rows.laid_errors_errorType)]
theorem kR (h:laidMetH Tryz.prog wh W):D.Laid W:=by
 have h':laidMet Tryz.prog [] W/\handlesMet Tryz.prog wh W:=h
 obtain⟨name,u,ty,e1,e2,e3,e4,e5⟩:=h'.2 _ (List.mem_singleton.2 rfl)
 have en:name=[101,114,114,111,114]:=(Option.some.inj e1).symm
 subst en;obtain rfl:=Option.some.inj (rt.symm.trans e2)
 have hm:ty∈(List.range Tryz.prog.types.size).filter λt=>Tryz.prog.rowNamed t [101,114,114,111,114]:=List.mem_filter.2 ⟨List.mem_range.2 e3,e4⟩
 rw [FE] at hm;obtain rfl:=List.mem_singleton.1 hm
 have hh:typeHandle Tryz.prog 418=.pointer (some ⟨1,418,none⟩):=by kernel_rfl
 rw [hh] at e5;simpa [D.Laid] using World.var?_cell et e5 0
theorem yw (h:D.Laid W):0<W.heap.size:=World.block_lt_of_cell? _ _ h
noncomputable def ni (os:_root_.Go.Os):World :=
 let w0:=World.holding Tryz.prog os ⟨#[],#[],[]⟩
 {w0 with heap:=w0.heap.modify 0 fun
   | .cells _ t frozen=>.cells #[.iface 531 (.agg #[.pointer (some ⟨1,418,none⟩)])] t frozen
   | o=>o }
theorem mN (os:_root_.Go.Os)(args:Array Value):laidMetH Tryz.prog wh ((ni os).forCall (λ_ _=>0) ⟨#[],args,[]⟩).memory :=
 laidMetH_of_parts (laidMet_nil _ _) (by kernel_rfl)
end Go.Proofs.YtmhinfbkmjdgfaaGreatDoor.V
