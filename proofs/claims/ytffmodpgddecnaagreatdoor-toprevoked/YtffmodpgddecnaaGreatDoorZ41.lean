import Derived.Test.YtffmodpgddecnaaGreatDoorTie
import Derived.Test.YtffmodpgddecnaaGreatDoorCards
import Derived.ProofKit
import Derived.OpenShut
import Derived.ChangeOld
import Derived.Below
import Derived.SizedLaws
import Derived.JoinedCond
import Derived.Lib.SmallJoins
import Derived.Deep.Strs
import Derived.ChangeSame
import Derived.ChangeVars
import Derived.JoinedOf
import Derived.LaidLaws
import Derived.LaidHandle
import Derived.Stop.Joined
import Derived.SevenTiedAt
import Derived.Test.YtffmodpgddecnaaGreatDoorZ33
set_option linter.unusedVariables false
set_option linter.unusedSimpArgs false
set_option maxRecDepth 100000
set_option maxHeartbeats 1000000
namespace Go.Proofs.YtffmodpgddecnaaGreatDoor.V
open Go.ChangeShapes Go.WideShapes Go.ChangeAt Go.RowKit Go.Joins
open Go.Proofs.YtffmodpgddecnaaGreatDoor.H (aq Cp)
theorem Km:ownKnob Tryz.prog.godebug=none:=by kernel_rfl
theorem laidOut:laidOutB Tryz.prog=true:=by kernel_rfl
theorem vv:Tryz.prog.cellsOf 30=2:=by kernel_rfl
theorem AP:Tryz.prog.cellsOf 28=1:=by kernel_rfl
theorem s9:Tryz.prog.cellsOf 3=1:=by kernel_rfl
theorem Gz:Tryz.prog.cellsOf 4=1:=by kernel_rfl
theorem Eg:Tryz.prog.cellsOf 37=3:=by kernel_rfl
theorem DX:Tryz.prog.cellsOf 44=13:=by kernel_rfl
theorem Db:Tryz.prog.cellsOf 23=10:=by kernel_rfl
theorem Ed:Tryz.prog.cellsOf 38=1:=by kernel_rfl
theorem CI:Tryz.prog.cellsOf 42=1:=by kernel_rfl
theorem GH:Tryz.prog.bytesOf 3=8:=by kernel_rfl
theorem GX:Tryz.prog.bytesOf 5=1:=by kernel_rfl
theorem Cv:Tryz.prog.bytesOf 44=136:=by kernel_rfl
def Reads {H:Type}(d:DataW H)(len:Nat):Prop:=(d=.nil/\len=0)\/∃xs ys,d=.slice xs ys/\xs.length=len
theorem Reads.weight {H:Type}{d:DataW H}{len:Nat}(h:Reads d len){t e:TypeId}(ht:Tryz.prog.underlying t=some (.slice e))(hw:∀n∈d.weights Tryz.prog t,n<=reachBytes):len*Tryz.prog.bytesOf e<=reachBytes:=by
 rcases h with ⟨_,rfl⟩|⟨xs,ys,rfl,rfl⟩
 ·simp
 ·have:=hw ((xs.length+ys.length)*Tryz.prog.bytesOf e) (by simp [DataW.weights,ht])
  exact Nat.le_trans (Nat.mul_le_mul_right _ (by omega)) this
theorem uV {H:Type}{e:TypeId}{d:DataW H}:∀{l:List (DataW H)},d∈l->∀n∈d.weights Tryz.prog e,n∈DataW.weightsAll Tryz.prog e l
 | x::r,h,n,hn=>by
  simp only [DataW.weightsAll,List.mem_append];rcases List.mem_cons.1 h with rfl|h
  ·exact .inl hn
  ·exact .inr (uV h n hn)
 | [],h,_,_=>by cases h
theorem AY {hi lo:Int}(h1:0<=hi)(h2:hi<18446744073709551616)(h3:0<=lo)(h4:lo<18446744073709551616):∃N,N<aq*aq/\D.cD N=hi/\D.cB N=lo:=by
 have hB:aq=18446744073709551616:=rfl
 have l1:hi.toNat<aq:=by omega
 have l2:lo.toNat<aq:=by omega
 refine⟨aq*hi.toNat+lo.toNat,?_,?_,?_⟩
 ·have:aq*hi.toNat<=aq*(aq - 1):=Nat.mul_le_mul_left _ (by omega)
  have e:aq*(aq - 1)+aq=aq*aq:=by decide
  omega
 ·unfold D.cD
  rw [Nat.mul_add_div (by decide),Nat.div_eq_of_lt l2];omega
 ·unfold D.cB
  rw [Nat.mul_add_mod,Nat.mod_eq_of_lt l2];omega
theorem sy {H:Type}{enc:TypeId×Value->H}{W:World}{base:Nat}{spare:Nat->Bool}{held:Bool}{n:Nat}{x:Addr}{y:DataW H×List MemPlace}
  (h:(W.cells? base x 2).bind (DataW.trod enc Tryz.prog W base spare held n 30)=some y) :
  ∃N,N<aq*aq/\∀c u,(D.xN N)[c]?=some u->W.cell? (x.add c)=some u:=by
 rw [Option.bind_eq_some_iff] at h;obtain⟨cs,hcs,hy⟩:=h
 obtain⟨_,hlen,hcell⟩:=World.cells?_some hcs
 obtain⟨y0,y1,m,_,_,h0,h1⟩:=trod_struct2 Tryz.underlying30 hy
 match cs,hlen with
 | [c0,c1],_ =>
  simp [AP] at h0 h1;obtain⟨k0,e0,_,w0⟩:=DataW.trod_int Tryz.underlying28 h0
  obtain⟨k1,e1,_,w1⟩:=DataW.trod_int Tryz.underlying28 h1
  simp at e0 e1
  subst e0 e1
  have b0:=bounds_u64 w0
  have b1:=bounds_u64 w1
  obtain⟨N,hN,e2,e3⟩:=AY (hi:=k0) (lo:=k1) (by omega) (by omega) (by omega) (by omega)
  refine⟨N,hN,λc u hu=>?_⟩
  have hc:c<2:=(List.getElem?_eq_some_iff.1 hu).1
  rw [hcell c hc,<-hu];simp only [D.xN,e2,e3]
theorem ui {H:Type}{enc:TypeId×Value->H}{W:World}{r:Reach}{base:Nat}{v:Value}{d:DataW H}{p:List MemPlace}(hv:Value.okWide Tryz.prog W r base 24 v)(h:DataW.Trod enc Tryz.prog W 0 (λ_=>true) true 24 v d p) :
  ∃a len cap f,v=.slice a len cap/\D.Ws W a len cap f/\Reads d len:=by
 obtain⟨a,len,cap,rfl⟩:=okWide_slice Tryz.underlying24 hv
 obtain⟨fuel,hf⟩:=h
 rcases DataW.trod_slice Tryz.underlying24 hf with ⟨hcs,hx⟩|⟨x,l,c,elems,rest,n,_,hcs,hx,_,hl,hm,hlen,hel,_,_⟩
 ·simp [Value.cells] at hcs
  obtain⟨rfl,rfl,rfl⟩:=hcs
  simp only [Prod.mk.injEq] at hx;exact⟨none,0,0,λ_=>0,rfl,⟨Nat.le_refl _,λ_=>⟨rfl,rfl⟩,λ_ h=>(by cases h),λ_=>by decide⟩,.inl ⟨hx.1,rfl⟩⟩
 ·simp [Value.cells] at hcs
  obtain⟨rfl,rfl,rfl⟩:=hcs
  simp only [Prod.mk.injEq] at hx;have each:∀i,∃N:Nat,N<aq*aq/\(i<len->∀c u,(D.xN N)[c]?=some u->W.cell? ((x.add (i*2)).add c)=some u):=by
   intro i;by_cases hi:i<len
   ·have he:=hel i hi
    rw [vv,List.getElem?_eq_getElem (by omega)] at he;obtain⟨N,h1,h2⟩:=sy he
    exact⟨N,h1,λ_=>h2⟩
   ·exact⟨0,by decide,λh=>absurd h hi⟩
  obtain⟨f,hf⟩:=Classical.axiomOfChoice each
  refine⟨some x,len,cap,f,rfl,⟨hl,(λh=>by cases h),?_,λi=>(hf i).1⟩,.inr ⟨_,_,hx.1,by simp;omega⟩⟩
  intro y hy j u hu;cases hy
  have hj:j<len*2:=by have:=(List.getElem?_eq_some_iff.1 hu).1;rwa [D.ca] at this
  have hq:=D.fy f len (j / 2) (j%2) (by omega) (by omega)
  have hjj:j / 2*2+j%2=j:=by omega
  rw [hjj] at hq;rw [hq] at hu;have hc:=(hf (j / 2)).2 (by omega) (j%2) u hu
  rw [Deep.add_add,hjj] at hc;exact hc
theorem Ho {W:World}{x:Addr}{len cap:Nat}{zs:List Int}(hl:len<=cap)(hz:zs.length=cap)(hcell:∀i,i<zs.length->W.cell? (x.add i)=some (.int .u8 (zs.getD i 0)))(hwz:∀n∈zs,(Lit.int .u8 n).wf=true) :
  R.Row W (some x) len cap ((zs.take len).map Int.toNat):=by
 have hb:∀n∈zs,0<=n/\n<256:=λn hn=>by have:=bounds_u8 (hwz _ hn);omega
 refine⟨by simp;omega,hl,(λh=>by cases h),?_,?_⟩
 ·intro y hy j u hu
  cases hy
  have hj:j<len:=by
   have:=(List.getElem?_eq_some_iff.1 hu).1
   simp [R.bG] at this;omega
  have hjz:j<zs.length:=by omega
  rw [hcell j hjz,List.getD_eq_getElem?_getD,List.getElem?_eq_getElem hjz];simp only [R.bG,List.getElem?_map,List.getElem?_take_of_lt hj,List.getElem?_eq_getElem hjz,Option.map_some,Option.some.injEq] at hu;rw [<-hu];have:=hb _ (List.getElem_mem hjz)
  simp
  omega
 ·intro n hn
  simp only [List.mem_map] at hn;obtain⟨m,hm,rfl⟩:=hn
  have:=hb m (List.mem_of_mem_take hm)
  omega
theorem Ip {W:World}{x:Addr}{len cap:Nat}{zs:List Int}(hl:len<=cap)(hz:zs.length=cap)(hcell:∀i,i<zs.length->W.cell? (x.add i)=some (.int .i64 (zs.getD i 0))) :
  R.RI W (some x) len cap (zs.take len):=by
 refine⟨by simp;omega,hl,(λh=>by cases h),?_⟩
 intro y hy j u hu;cases hy
 have hj:j<len:=by
  have:=(List.getElem?_eq_some_iff.1 hu).1
  simp [R.tQ] at this;omega
 have hjz:j<zs.length:=by omega
 rw [hcell j hjz,List.getD_eq_getElem?_getD,List.getElem?_eq_getElem hjz];simp only [R.tQ,List.getElem?_map,List.getElem?_take_of_lt hj,List.getElem?_eq_getElem hjz,Option.map_some,Option.some.injEq] at hu;rw [<-hu];simp
theorem xg {H:Type}{enc:TypeId×Value->H}{W:World}{fuel:Nat}{v:Value}{x:DataW H×List MemPlace}(hf:DataW.trod enc Tryz.prog W 0 (λ_=>true) true fuel 38 [v]=some x) :
  ∃(s:R.Sl) (L:List Nat),v=s.v/\R.Row W s.a s.n s.c L/\Reads x.1 s.n:=by
 rcases open_ints Tryz.underlying38 Tryz.underlying5 (by kernel_rfl) hf with ⟨hcs,hx⟩|⟨x,l,c,zs,hcs,_,hl,hm,hz,hx,hcell,hwz⟩
 ·simp at hcs
  subst hcs hx
  exact⟨⟨none,0,0⟩,[],rfl,R.dS W,.inl ⟨rfl,rfl⟩⟩
 ·simp at hcs
  subst hcs hx
  simp only [if_true] at hz;exact⟨⟨_,_,_⟩,_,rfl,Ho hl hz hcell hwz,.inr ⟨_,_,rfl,by simp [lits];omega⟩⟩
theorem sO {H:Type}{enc:TypeId×Value->H}{W:World}{fuel:Nat}{v:Value}{x:DataW H×List MemPlace}(hf:DataW.trod enc Tryz.prog W 0 (λ_=>true) true fuel 42 [v]=some x) :
  ∃(s:R.Sl) (L:List Int),v=s.v/\R.RI W s.a s.n s.c L/\Reads x.1 s.n:=by
 rcases open_ints Tryz.underlying42 Tryz.underlying3 (by kernel_rfl) hf with ⟨hcs,hx⟩|⟨x,l,c,zs,hcs,_,hl,hm,hz,hx,hcell,hwz⟩
 ·simp at hcs
  subst hcs hx
  exact⟨⟨none,0,0⟩,[],rfl,R.RI.nil W,.inl ⟨rfl,rfl⟩⟩
 ·simp at hcs
  subst hcs hx
  simp only [if_true] at hz;exact⟨⟨_,_,_⟩,_,rfl,Ip hl hz hcell,.inr ⟨_,_,rfl,by simp [lits];omega⟩⟩
theorem tU {H:Type}{enc:TypeId×Value->H}{W:World}{n:Nat}{c0 c1 c2:Value}{y:DataW H×List MemPlace}
  (h:DataW.trod enc Tryz.prog W 0 (λ_=>true) true n 37 [c0,c1,c2]=some y) :
  ∃(o:Int) (hi lo:Nat),c0=.int .i64 o/\c1=.int .u64 (hi:Int)/\c2=.int .u64 (lo:Int)/\hi<18446744073709551616/\lo<18446744073709551616:=by
 obtain⟨y0,y1,m,hx,_,h0,h1⟩:=trod_struct2 Tryz.underlying37 h
 simp [s9,vv] at h0 h1;obtain⟨z0,z1,m2,hy,_,g0,g1⟩:=trod_struct2 Tryz.underlying30 h1
 simp [AP] at g0 g1;obtain⟨o,e0,_,w0⟩:=DataW.trod_int Tryz.underlying3 h0
 obtain⟨a,e1,_,w1⟩:=DataW.trod_int Tryz.underlying28 g0
 obtain⟨b,e2,_,w2⟩:=DataW.trod_int Tryz.underlying28 g1
 simp at e0 e1 e2
 subst e0 e1 e2
 have b1:=bounds_u64 w1
 have b2:=bounds_u64 w2
 exact⟨o,a.toNat,b.toNat,rfl,by rw [Int.toNat_of_nonneg (by omega)],by rw [Int.toNat_of_nonneg (by omega)],by omega,by omega⟩
def One {H:Type}(W:World)(x:Addr)(d:DataW H)(c:R.Cl)(dd gg:R.Sl):Prop :=
 (∀j v,(R.cC c dd gg)[j]?=some v->W.cell? (x.add j)=some v)/\R.Is W c dd gg/\((∀q∈d.weights Tryz.prog 44,q<=reachBytes)->dd.n<=reachBytes/\gg.n*8<=reachBytes)
theorem sR {H:Type}{enc:TypeId×Value->H}{W:World}{n:Nat}{x:Addr}{y:DataW H×List MemPlace}
  (h:(W.cells? 0 x 13).bind (DataW.trod enc Tryz.prog W 0 (λ_=>true) true n 44)=some y):∃c dd gg,One W x y.1 c dd gg:=by
 rw [Option.bind_eq_some_iff] at h;obtain⟨l,hcs,hy⟩:=h
 obtain⟨_,hlen,hcell⟩:=World.cells?_some hcs
 obtain⟨xs,m,_,hx,hl,hlx,hfs⟩:=DataW.trod_struct Tryz.underlying44 hy
 match l,hlen with
 | [c0,c1,c2,c3,c4,c5,c6,c7,c8,c9,GR,GO,Jy],_ =>
  match xs,hlx with
  | [y0,y1,y2,y3,y4,y5,y6,y7,y8,y9,y10],_ =>
   have f0:=hfs 0 _ rfl
   have f1:=hfs 1 _ rfl
   have f2:=hfs 2 _ rfl
   have f3:=hfs 3 _ rfl
   have f4:=hfs 4 _ rfl
   have f5:=hfs 5 _ rfl
   have f6:=hfs 6 _ rfl
   have f7:=hfs 7 _ rfl
   have f8:=hfs 8 _ rfl
   have f9:=hfs 9 _ rfl
   have f10:=hfs 10 _ rfl
   simp [Value.cells,s9,Gz,Eg,Ed,CI] at f0 f1 f2 f3 f4 f5 f6 f7 f8 f9 f10;obtain⟨o0,e0,_,w0⟩:=DataW.trod_int Tryz.underlying3 f0
   obtain⟨o1,e1,_,w1⟩:=DataW.trod_int Tryz.underlying3 f1
   obtain⟨o2,e2,_,w2⟩:=DataW.trod_int Tryz.underlying3 f2
   obtain⟨o,hi,lo,rfl,rfl,rfl,b1,b2⟩:=tU f3
   obtain⟨gv,e4,_⟩:=DataW.trod_bool Tryz.underlying4 f4
   obtain⟨o5,e5,_,w5⟩:=DataW.trod_int Tryz.underlying3 f5
   obtain⟨o6,e6,_,w6⟩:=DataW.trod_int Tryz.underlying3 f6
   obtain⟨o7,e7,_,w7⟩:=DataW.trod_int Tryz.underlying3 f7
   obtain⟨s,D,rfl,hR,hRd⟩:=xg f8
   obtain⟨o9,e9,_,w9⟩:=DataW.trod_int Tryz.underlying3 f9
   obtain⟨g,G,rfl,hG,hGd⟩:=sO f10
   simp at e0 e1 e2 e4 e5 e6 e7 e9
   subst e0 e1 e2 e4 e5 e6 e7 e9
   refine⟨⟨o0,o1,o2,o,hi,lo,gv,o5,o6,o7,D,o9,G⟩,s,g,λj v hv=>?_,⟨hR,hG,b1,b2⟩,λhw=>?_⟩
   ·have hj:j<13:=(List.getElem?_eq_some_iff.1 hv).1
    rw [hcell j hj];exact hv
   ·rw [hx] at hw
    have hw1:∀q∈y8.1.weights Tryz.prog 38,q<=reachBytes:=λq hq=>hw q (by
     simp only [DataW.weights,Tryz.underlying44];exact DataW.weights_mem_each (ts:=[3,3,3,37,4,3,3,3,38,3,42]) (ds:=[y0.1,y1.1,y2.1,y3.1,y4.1,y5.1,y6.1,y7.1,y8.1,y9.1,y10.1]) (j:=8) (t:=38) (d:=y8.1) rfl rfl q hq)
    have hw2:∀q∈y10.1.weights Tryz.prog 42,q<=reachBytes:=λq hq=>hw q (by
     simp only [DataW.weights,Tryz.underlying44];exact DataW.weights_mem_each (ts:=[3,3,3,37,4,3,3,3,38,3,42]) (ds:=[y0.1,y1.1,y2.1,y3.1,y4.1,y5.1,y6.1,y7.1,y8.1,y9.1,y10.1]) (j:=10) (t:=42) (d:=y10.1) rfl rfl q hq)
    have h1:=hRd.weight Tryz.underlying38 hw1
    have h2:=hGd.weight Tryz.underlying42 hw2
    rw [GX] at h1;rw [GH] at h2;exact⟨by omega,h2⟩
theorem mh:reachBytes<=140737488355328:=by decide
theorem tK {H:Type}{enc:TypeId×Value->H}{W:World}{r:Reach}{base:Nat}{v:Value}{d:DataW H}{p:List MemPlace}(hv:Value.okWide Tryz.prog W r base 25 v)(h:DataW.Trod enc Tryz.prog W 0 (λ_=>true) true 25 v d p)
  (hw:∀q∈d.weights Tryz.prog 25,q<=reachBytes) :
  ∃a n cap C D' G',v=.slice a n cap/\Cz W a n C D' G'/\n*136<=140737488355328:=by
 obtain⟨a,len,cap,rfl⟩:=okWide_slice Tryz.underlying25 hv
 obtain⟨fuel,hf⟩:=h
 rcases DataW.trod_slice Tryz.underlying25 hf with ⟨hcs,hx⟩|⟨x,l,c,elems,rest,n,_,hcs,hx,_,hl,hm,hlen,hel,_,_⟩
 ·simp [Value.cells] at hcs
  obtain⟨rfl,rfl,rfl⟩:=hcs
  exact⟨none,0,0,[],λ_=>.nil,λ_=>.nil,rfl,⟨rfl,λh=>absurd h (by omega),λi c h=>by simp at h⟩,by omega⟩
 ·simp [Value.cells] at hcs
  obtain⟨rfl,rfl,rfl⟩:=hcs
  simp only [Prod.mk.injEq] at hx;have hd:d=.slice (elems.map (·.1)) (rest.map (·.1)):=hx.1
  have each:∀i,∃q:R.Cl×R.Sl×R.Sl,∀h:i<len,One W (x.add (i*13)) (elems[i]'(by omega)).1 q.1 q.2.1 q.2.2:=by
   intro i;by_cases hi:i<len
   ·have he:=hel i hi
    rw [DX,List.getElem?_eq_getElem (by omega)] at he;obtain⟨c,dd,gg,h1⟩:=sR he
    exact⟨⟨c,dd,gg⟩,λ_=>h1⟩
   ·exact⟨⟨R.clz 0 0,.nil,.nil⟩,λh=>absurd h hi⟩
  obtain⟨f,hf⟩:=Classical.axiomOfChoice each
  have hwe:∀i (h:i<len),∀q∈(elems[i]'(by omega)).1.weights Tryz.prog 44,q<=reachBytes:=λi h q hq=>hw q (by
   rw [hd];simp only [DataW.weights,Tryz.underlying25,List.mem_cons,List.mem_append];have hm:=uV (e:=44) (d:=(elems[i]'(by omega)).1) (l:=elems.map (·.1)) (List.mem_map.2 ⟨_,List.getElem_mem _,rfl⟩) q hq
   simp [hm])
  have hget:∀i c,((List.range len).map λi=>(f i).1)[i]?=some c->i<len/\c=(f i).1:=by
   intro i c h;have hi:i<len:=by have:=(List.getElem?_eq_some_iff.1 h).1;simpa using this
   rw [List.getElem?_map,List.getElem?_range hi] at h;exact⟨hi,by simpa using h.symm⟩
  have hn:=Reads.weight (d:=d) (len:=len) (.inr ⟨_,_,hd,by simp;omega⟩) Tryz.underlying25 hw
  rw [Cv] at hn;refine⟨some x,len,cap,(List.range len).map λi=>(f i).1,λi=>(f i).2.1,λi=>(f i).2.2,rfl,⟨by simp,λh0=>?_,λi c h=>?_⟩,Nat.le_trans hn mh⟩
  ·obtain⟨b,o,spot⟩:=x
   have h1:=(hf 0 h0).1 0 _ rfl
   have hs:spot=none:=by simpa [Addr.add] using World.cell?_spot h1
   subst hs;refine⟨b,o,rfl,λi c h j v hv=>?_⟩
   obtain⟨hi,rfl⟩:=hget i c h
   have:=(hf i hi).1 j v hv
   rw [bB,bB] at this;exact this
  ·obtain⟨hi,rfl⟩:=hget i c h
   have h3:=(hf i hi).2.2 (hwe i hi)
   exact⟨(hf i hi).2.1,Nat.le_trans h3.1 mh,Nat.le_trans h3.2 mh⟩
theorem q_ {H:Type}{enc:TypeId×Value->H}{W:World}{r:Reach}{b:Nat}{v:Value}{d:DataW H}{p:List MemPlace}(hv:Value.okWide Tryz.prog W r b 23 v)(h:DataW.Trod enc Tryz.prog W 0 (λ_=>true) true 23 v d p) :
  ∃c:Cf,v=c.v:=by
 obtain⟨cs,rfl,hsz⟩:=okWide_struct Tryz.underlying23 hv
 rw [Db] at hsz;obtain⟨l⟩:=cs
 obtain⟨fuel,hf⟩:=h
 obtain⟨xs,n,_,hx,hl,hlen,hfs⟩:=DataW.trod_struct Tryz.underlying23 hf
 match l,hsz with
 | [c0,c1,c2,c3,c4,c5,c6,c7,c8,c9],_ =>
  match xs,hlen with
  | [y0,y1,y2,y3,y4,y5,y6,y7,y8,y9],_ =>
   have f0:=hfs 0 _ rfl
   have f1:=hfs 1 _ rfl
   have f2:=hfs 2 _ rfl
   have f3:=hfs 3 _ rfl
   have f4:=hfs 4 _ rfl
   have f5:=hfs 5 _ rfl
   have f6:=hfs 6 _ rfl
   have f7:=hfs 7 _ rfl
   have f8:=hfs 8 _ rfl
   have f9:=hfs 9 _ rfl
   simp [Value.cells,s9] at f0 f1 f2 f3 f4 f5 f6 f7 f8 f9;obtain⟨o0,e0,_,w0⟩:=DataW.trod_int Tryz.underlying3 f0
   obtain⟨o1,e1,_,w1⟩:=DataW.trod_int Tryz.underlying3 f1
   obtain⟨o2,e2,_,w2⟩:=DataW.trod_int Tryz.underlying3 f2
   obtain⟨o3,e3,_,w3⟩:=DataW.trod_int Tryz.underlying3 f3
   obtain⟨o4,e4,_,w4⟩:=DataW.trod_int Tryz.underlying3 f4
   obtain⟨o5,e5,_,w5⟩:=DataW.trod_int Tryz.underlying3 f5
   obtain⟨o6,e6,_,w6⟩:=DataW.trod_int Tryz.underlying3 f6
   obtain⟨o7,e7,_,w7⟩:=DataW.trod_int Tryz.underlying3 f7
   obtain⟨o8,e8,_,w8⟩:=DataW.trod_int Tryz.underlying3 f8
   obtain⟨o9,e9,_,w9⟩:=DataW.trod_int Tryz.underlying3 f9
   simp at e0 e1 e2 e3 e4 e5 e6 e7 e8 e9
   subst e0 e1 e2 e3 e4 e5 e6 e7 e8 e9
   exact⟨⟨o0,o1,o2,o3,o4,o5,o6,o7,o8,o9⟩,rfl⟩
theorem et:Tryz.prog.globalNamed "errors.errorType"=some 0:=by kernel_rfl
theorem rt:(Tryz.prog.cutTypes.find? (·.1== "internal/reflectlite.rtype")).map (·.2)=some 440:=by kernel_rfl
theorem FT:((List.range Tryz.prog.types.size).filter λt=>Tryz.prog.rowNamed t [101,114,114,111,114])=[324]:=by kernel_rfl
def xy:List (String×DataW Unit):=[("errors.errorType",Rows.laid_errors_errorType)]
theorem mG {W:World}(h:laidMetH Tryz.prog xy W):D.Laid W:=by
 have h':laidMet Tryz.prog [] W/\handlesMet Tryz.prog xy W:=h
 obtain⟨name,u,ty,e1,e2,e3,e4,e5⟩:=h'.2 _ (List.mem_singleton.2 rfl)
 have en:name=[101,114,114,111,114]:=(Option.some.inj e1).symm
 subst en;obtain rfl:=Option.some.inj (rt.symm.trans e2)
 have hm:ty∈(List.range Tryz.prog.types.size).filter λt=>Tryz.prog.rowNamed t [101,114,114,111,114]:=List.mem_filter.2 ⟨List.mem_range.2 e3,e4⟩
 rw [FT] at hm;obtain rfl:=List.mem_singleton.1 hm
 have hh:typeHandle Tryz.prog 324=.pointer (some ⟨1,324,none⟩):=by kernel_rfl
 rw [hh] at e5;simpa [D.Laid] using World.var?_cell et e5 0
theorem z8 {W:World}(h:D.Laid W):0<W.heap.size:=World.block_lt_of_cell? _ _ h
noncomputable def oa (os:_root_.Go.Os):World :=
 let w0:=World.holding Tryz.prog os ⟨#[],#[],[]⟩
 {w0 with heap:=w0.heap.modify 0 fun
   | .cells _ t frozen=>.cells #[.iface 440 (.agg #[.pointer (some ⟨1,324,none⟩)])] t frozen
   | o=>o }
theorem mS (os:_root_.Go.Os)(args:Array Value):laidMetH Tryz.prog xy ((oa os).forCall (λ_ _=>0) ⟨#[],args,[]⟩).memory :=
 laidMetH_of_parts (laidMet_nil _ _) (by kernel_rfl)
end Go.Proofs.YtffmodpgddecnaaGreatDoor.V
