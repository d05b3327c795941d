import Derived.Lib.AppendZeros
import Derived.Test.YtmhinfbkmjdgfaaGreatDoorZ33
import Derived.Test.YtmhinfbkmjdgfaaGreatDoorZ21
set_option linter.unusedVariables false
set_option linter.unusedSimpArgs false
set_option maxRecDepth 100000
set_option maxHeartbeats 4000000
namespace Go.Proofs.YtmhinfbkmjdgfaaGreatDoor.V
open Go.RowKit
open Go.Proofs.YtmhinfbkmjdgfaaGreatDoor.H (az Cp)
open Go.Proofs.YtmhinfbkmjdgfaaGreatDoor.M (bM)
section
variable {w w':World}
theorem I1 {b:Nat}{c:Cf}(h:R.Bx w b c.L):(Instr.loadAt 23 (aq b)).run Tryz.prog w=.ok c.v w:=by
 have:=run_loadVar_mid (P:=Tryz.prog) w b 0 23 c.L _ h.range Tryz.underlying23 rfl (by rw [show (Tryz.prog.info? 23).map (·.size)=some 10 by kernel_rfl];rfl)
 simp [Instr.loadAt,Instr.sureAddr,this]
structure E0 where
 A:Ad
 qg:Nat
 qb:Nat
 z:S.uy
 g:Nat
 gb:Nat
 n:Nat
 c:Nat->Nat
 pg:Nat
 cg:Nat
 kn:Nat
 mo:Nat
 e:Int
 pm:Int
 lm:Int
 cs:Nat
 cw:Nat
 W:Int
 base:Nat
def E0.H (E:E0)(lg v kb:Nat):Hd:={ A:=E.A,kn:=E.kn,mo:=E.mo,qg:=E.qg,qb:=E.qb,e:=E.e,z:=E.z,g:=E.g,gb:=E.gb,n:=E.n,c:=E.c,pg:=E.pg,pm:=E.pm,lg:=lg,lm:=E.lm,cg:=E.cg,cs:=E.cs,cw:=E.cw,v:=v,kb:=kb,W:=E.W,base:=E.base }
def vS (mo:Nat)(ks:List Int):bc:={ X:=List.replicate mo tz,l:=[],L:=[],nx:=1,V:=[],t:=0,px:=1,P:=[0],ks:=ks,D:=λ_=>[] }
structure E5 (w:World)(E:E0)(d0 d1 t0 t1 t2 t3 t4 t5:Nat):Prop where
 dr:D.Dr w E.g E.gb E.n E.c 0
 G3:(d0<=E.g/\E.g<d1)/\(0<E.n->d0<=E.gb/\E.gb<d1)
 st:S.St w E.z 1 []
 Jt:∀k,S.Zb E.z k->t0<=k/\k<t1
 cat:jb w E.A E.kn E.mo (List.replicate E.mo tz) []
 G0:∀k,E.A.jP k->t1<=k/\k<t2
 qu:Q.Qu w E.qg E.qb E.e (E.mo:Int) []
 Ib:(t2<=E.qg/\E.qg<t3)/\t2<=E.qb/\E.qb<t3
 pr:∃pa cap,P.Ob w E.base E.pg E.pm 1 pa cap [0]/\∀k,k=E.pg\/aI pa k->t3<=k/\k<t4
 kc:∃e hi mi,K.Kc w E.cg E.cs E.cw E.kn K.T0 e hi mi
 Jk:t4<=E.cg/\E.cg<t5
 ord:0<E.base/\E.base<=d0/\d0<=d1/\d1<=t0/\t0<=t1/\t1<=t2/\t2<=t3/\t3<=t4/\t4<=t5/\t5<=w.heap.size
 uA:1<=E.mo/\E.mo<=256
 laid:D.Laid w
variable {E:E0}{d0 d1 t0 t1 t2 t3 t4 t5:Nat}
theorem E5.but (h:E5 w E d0 d1 t0 t1 t2 t3 t4 t5)(hb:aj (λk=>k=E.cg) w w')(hk:∃e hi mi,K.Kc w' E.cg E.cs E.cw E.kn K.T0 e hi mi):E5 w' E d0 d1 t0 t1 t2 t3 t4 t5:=by
 have ho:=h.ord
 have hc:=h.Jk
 refine { h with dr:=h.dr.vH hb (by have:=h.G3;omega) (λh0=>by have:=h.G3;have:=h.G3.2 h0;omega),st:=h.st.but hb (λk hk e=>by have:=h.Jt k hk;omega) (λk hk=>by obtain⟨o,ho,_⟩:=hk;cases ho),cat:=h.cat.but hb (λk hk e=>by have:=h.G0 k hk;omega),qu:=h.qu.but hb (by have:=h.Ib;omega) (by have:=h.Ib;omega),pr:=?_,kc:=hk,ord:=⟨ho.1,ho.2.1,ho.2.2.1,ho.2.2.2.1,ho.2.2.2.2.1,ho.2.2.2.2.2.1,ho.2.2.2.2.2.2.1,ho.2.2.2.2.2.2.2.1,ho.2.2.2.2.2.2.2.2.1,Nat.le_trans ho.2.2.2.2.2.2.2.2.2 hb.size⟩,laid:=?_ }
 ·obtain⟨pa,cap,h1,h2⟩:=h.pr
  exact⟨pa,cap,h1.but hb (λe=>by have:=h2 _ (.inl rfl);omega) (λk hk e=>by have:=h2 k (.inr hk);omega),h2⟩
 ·exact an hb h.laid (by simp only [];omega)
def E0.M (E:E0)(d0 d1 t0 t1 t2 t3 t4 t5 lg v kb:Nat):Nat->Nat->Prop
 | 0=>λk=>t1<=k/\k<t2
 | 1=>λk=>t2<=k/\k<t3
 | 2=>λk=>t0<=k/\k<t1
 | 3=>λk=>d0<=k/\k<d1
 | 4=>λk=>t3<=k/\k<t4
 | 5=>λk=>k=lg
 | 6=>λk=>(t4<=k/\k<t5)\/k=v
 | 7=>λk=>k=kb
 | _=>λ_=>False
theorem E5.J5 (h:E5 w E d0 d1 t0 t1 t2 t3 t4 t5){lg v kb:Nat}(hlg:t5<=lg/\lg<w.heap.size)(hv:t5<=v/\v<w.heap.size)(hkb:t5<=kb/\kb<w.heap.size)(hne:lg≠v/\lg≠kb/\v≠kb)(hmap:w.ownsMap Tryz.prog 3 S.hr lg 0 (.map []))(hva:L.Va w v E.cg E.A.g)(hK:Kb w (E.H lg v kb)) :
  bB w (E.H lg v kb) (vS E.mo []) K.T0 (λk=>(d0<=k/\k<d1)\/(t0<=k/\k<w.heap.size)):=by
 have ho:=h.ord
 obtain⟨eH,hcol⟩:∃eH:Nat->Nat,eH=λk=>if k<d1 then 3 else if k<t1 then 2 else if k<t2 then 0 else if k<t3 then 1 else if k<t4 then 4 else if k<t5 then 6 else if k=lg then 5 else if k=v then 6 else 7:=⟨_,rfl⟩
 have key:∀i k,E.M d0 d1 t0 t1 t2 t3 t4 t5 lg v kb i k->eH k=i:=by
  intro i k hk;rw [hcol];simp only [];match i,hk with
  | 0,hk=>simp only [E0.M] at hk;repeat (first|rw [if_neg (by omega)]|rw [if_pos (by omega)])
  | 1,hk=>simp only [E0.M] at hk;repeat (first|rw [if_neg (by omega)]|rw [if_pos (by omega)])
  | 2,hk=>simp only [E0.M] at hk;repeat (first|rw [if_neg (by omega)]|rw [if_pos (by omega)])
  | 3,hk=>simp only [E0.M] at hk;repeat (first|rw [if_neg (by omega)]|rw [if_pos (by omega)])
  | 4,hk=>simp only [E0.M] at hk;repeat (first|rw [if_neg (by omega)]|rw [if_pos (by omega)])
  | 5,hk=>simp only [E0.M] at hk;repeat (first|rw [if_neg (by omega)]|rw [if_pos (by omega)])
  | 6,hk =>
   simp only [E0.M] at hk;by_cases h5:k<t5
   ·repeat (first|rw [if_neg (by omega)]|rw [if_pos (by omega)])
   ·repeat (first|rw [if_neg (by omega)]|rw [if_pos (by omega)])
  | 7,hk=>simp only [E0.M] at hk;repeat (first|rw [if_neg (by omega)]|rw [if_pos (by omega)])
 refine⟨E.M d0 d1 t0 t1 t2 t3 t4 t5 lg v kb,?_,λi j k h1 h2=>by rw [<-key i k h1,key j k h2],?_,λk hk=>⟨by rcases hk with hk|hk<;>(show E.base<=k;omega),by omega⟩,h.uA,h.laid,⟨ho.1,(by show E.base<=_;omega)⟩⟩
 ·intro i
  match i with
  | 0=>exact⟨h.cat,h.G0⟩
  | 1=>exact⟨h.qu,λk hk=>by rcases hk with rfl|rfl;exact h.Ib.1;exact h.Ib.2⟩
  | 2=>exact⟨[],h.st,rfl,λk hk=>by rcases hk with hk|⟨o,ho,_⟩;exact h.Jt k hk;cases ho⟩
  | 3=>exact⟨h.dr,λk hk=>by rcases hk with rfl|⟨h0,rfl⟩;exact h.G3.1;exact h.G3.2 h0⟩
  | 4=>exact h.pr
  | 5=>exact⟨λ_=>0,λ_=>none,λ_=>0,λ_=>0,⟨hmap,λi hi=>(by cases hi),λi hi=>(by cases hi)⟩,λk hk=>by rcases hk with hk|⟨i,hi,_⟩;exact hk;cases hi⟩
  | 6=>exact⟨h.kc,hva,.inl h.Jk,.inr rfl,by have:=h.Jk;show v≠E.cg;omega⟩
  | 7=>exact⟨hK,rfl⟩
  | _+8=>trivial
 ·intro i k hk
  match i,hk with
  | 0,hk=>simp only [E0.M] at hk;omega
  | 1,hk=>simp only [E0.M] at hk;omega
  | 2,hk=>simp only [E0.M] at hk;omega
  | 3,hk=>simp only [E0.M] at hk;omega
  | 4,hk=>simp only [E0.M] at hk;omega
  | 5,hk=>simp only [E0.M] at hk;omega
  | 6,hk=>simp only [E0.M] at hk;omega
  | 7,hk=>simp only [E0.M] at hk;omega
end
end Go.Proofs.YtmhinfbkmjdgfaaGreatDoor.V
namespace Go.Proofs.YtmhinfbkmjdgfaaGreatDoor.V
open Go.RowKit
open Go.Proofs.YtmhinfbkmjdgfaaGreatDoor.H (az Cp)
def pW (n:Nat)(f:Nat->Nat):Pm:=⟨8,8,n,f,2,8,4,4,64⟩
def jk:bc:=vS 8 [0]
def iq:List Nat:=List.replicate 300 0
theorem lV:iq.length=300:=by unfold iq;exact List.length_replicate
def ft (N:Nat):bc:={ jk with X:=(D.cap 1 N,31)::List.replicate 7 tz,l:=[(0,-1)],L:=[1],nx:=2,V:=[(1,iq)],t:=1 }
def jM (N M t:Nat):bc:={ ft N with X:=(D.cap 1 N,31)::(D.cap 1 M,1)::List.replicate 6 tz,l:=[(0,-1),(1,0)],L:=[1,1],t:=t }
def DS (N M t:Nat):bc:={ jM N M t with D:=fE (λ_=>[]) 0 [D.cap 1 M] }
def DH (N M t:Nat):bc:={ DS N M t with px:=2,P:=[0,1],ks:=[0,1],D:=fE (DS N M t).D 1 [D.cap 1 M] }
def BO (N M t:Nat):bc:={ DH N M t with px:=3,P:=[0,1,2],ks:=[0,1,2],D:=fE (DH N M t).D 2 [D.cap 1 M] }
def nr (N M t:Nat)(K:List Nat)(o:Nat):bc:={ BO N M t with V:=[(1,S.dM iq K o)] }
variable {n N M t:Nat}{f:Nat->Nat}{p:Pm}{s:bc}{c:R.Cl}
variable {off:Int}{o:Nat}
theorem dF (h1:R.fm c=true)(h2:s.P.contains c.aE=true):tU p s c=lD p s c:=by
 unfold tU;rw [if_neg (by rw [h1];decide),if_neg (by rw [h2];decide)]
theorem JQ (hn:0<n):tU (pW n f) jk ⟨1,0,300,0,0,0,false,0,0,0,[],0,[]⟩=(⟨0,D.cap 1 (f 0),[],0⟩,ft (f 0)):=by
 rw [dF rfl rfl];show rh (pW n f) jk 300=_
 have hD:D.cR (pW n f).d jk.d.t=(f 0,0,1):=if_pos hn
 have hr:D.bH (pW n f).d jk.d jk.nx=⟨D.cap 1 (f 0),0,D.mC jk.d 1 (f 0) (-1) 31 1⟩:=by
  unfold D.bH;rw [if_neg (by decide),hD];rfl
 have hm:S.eW (pW n f).room (pW n f).qN jk.nx jk.V 300=0:=(show S.eW 2 8 1 [] 300=0 by decide)
 unfold rh;rw [hm,if_neg (by decide),hr];rfl
theorem Jm:tU (pW 0 f) jk ⟨1,0,300,0,0,0,false,0,0,0,[],0,[]⟩=(rep 11,jk):=by
 rw [dF rfl rfl];rfl
theorem IB:tU p jk ⟨3,0,0,0,0,0,false,1,0,0,[],0,[]⟩=(rep 3,jk):=by
 rw [dF rfl rfl];rfl
theorem J3 (h l:Nat):R.fm ⟨3,0,0,1,h,l,false,1,0,0,[],0,[]⟩=true:=rfl
theorem JN (h l:Nat):R.fm ⟨7,0,0,1,h,l,false,0,0,0,[],0,[]⟩=true:=rfl
theorem Dq:aX (ft N).X (ft N).l (D.cap 1 N)=0:=by unfold aX;simp [ft,aF,tk]
theorem IK:bn (ft N).X (ft N).l (D.cap 1 N)=true:=bW.2 ⟨0,by simp [ft,aF],rfl⟩
theorem JE (hf:∀i,i<n->f i<az)(hn:0<n):∃r s',tU (pW n f) (ft N) ⟨3,0,0,1,N / az,N%az,false,1,0,0,[],0,[]⟩=(r,s')/\r.data=[]/\r.num=0 /\
  ((r.code=0/\∃M t,r.cap=D.cap 1 M/\M<az/\D.cap 1 M≠D.cap 1 N/\s'=jM N M t)\/(r.cap=(0,0,0)/\(r.code=11\/r.code=12))):=by
 rw [dF (J3 _ _) rfl];show ∃r s',mS (pW n f) (ft N) (D.cap 1 N) 1=(r,s')/\_
 have hg:D.eX (ft N).d (D.cap 1 N)=31:=by
  show rg (ft N).X (aX (ft N).X (ft N).l (D.cap 1 N))=31
  rw [Dq];rfl
 have hch:D.bV (pW n f).d (ft N).d (D.cap 1 N) 1=D.eV (pW n f).d (ft N).d 1 (D.cn (pW n f).d (ft N).d 1) 0 1:=by
  unfold D.bV;rw [if_neg (by rw [show bn (ft N).d.X (ft N).d.l (D.cap 1 N)=true from IK];decide),hg,if_neg (by decide),show aX (ft N).d.X (ft N).d.l (D.cap 1 N)=0 from Dq]
  rfl
 have hsp:D.Spec (D.Ax (ft N).X (ft N).l 1) f n 9 1 (D.cn (pW n f).d (ft N).d 1):=D.ik (by omega)
 unfold mS;rw [hch];generalize D.cn (pW n f).d (ft N).d 1=R at *
 obtain⟨M,cd,t⟩:=R
 have ht:D.eV (pW n f).d (ft N).d 1 (M,cd,t) 0 1=if cd≠0 then D.no { (ft N).d with t:=t } cd else ⟨D.cap 1 M,0,D.mC (ft N).d 1 M 0 1 t⟩:=by
  have hm:Q.may (pW n f).d.e (pW n f).d.a (ft N).d.L 1=0:=(show Q.may 8 8 [1] 1=0 by decide)
  unfold D.eV;rw [hm,if_neg (by decide)]
 rw [ht];obtain⟨q,h1,h2,h3,hc⟩:=hsp
 rcases hc with ⟨e1,e2,e3,e4,e5⟩|⟨e1,e2,_⟩|⟨e1,e2,_⟩
 ·simp only at e1 e3 e4
  subst e1;rw [if_neg (by decide)];refine⟨_,_,rfl,rfl,rfl,.inl ⟨rfl,M,t,rfl,?_,?_,?_⟩⟩
  ·rw [e3];exact hf _ (by omega)
  ·intro e
   have:=bW.2 ⟨0,(show (0:Int)∈aF (ft N).l by simp [ft,aF]),(show (tk (ft N).X 0).1=D.cap 1 M from e.symm)⟩
   rw [show D.Ax (ft N).X (ft N).l 1 M=bn (ft N).X (ft N).l (D.cap 1 M) from rfl,this] at e4;cases e4
  ·rfl
 ·simp only at e1 e2
  subst e1;rw [if_pos (by decide)];exact⟨_,_,rfl,rfl,rfl,.inr ⟨rfl,.inl rfl⟩⟩
 ·simp only at e1 e2
  subst e1;rw [if_pos (by decide)];exact⟨_,_,rfl,rfl,rfl,.inr ⟨rfl,.inr rfl⟩⟩
theorem wV (h:M<az):D.cap 1 M=(1,0,M):=by
 unfold D.cap;rw [Nat.div_eq_of_lt h,Nat.mod_eq_of_lt h]
theorem GA (h:M<az):lO 64 (1,0,M)=true:=by
 have hc:D.cE (0*az+M) 64=0*az+M:=by
  rw [Nat.zero_mul,Nat.zero_add];exact Nat.mod_eq_of_lt h
 unfold lO;rw [show D.cE (((1,0,M):Cp).2.1*az+((1,0,M):Cp).2.2) 64=0*az+M from hc];simp
theorem JK (h:M<az):tU (pW n f) (jM N M t) ⟨7,0,0,1,M / az,M%az,false,0,0,0,[],0,[]⟩=(rep 0,DS N M t):=by
 rw [Nat.div_eq_of_lt h,Nat.mod_eq_of_lt h,dF (JN _ _) rfl];show wC (pW n f) (jM N M t) 0 (1,0,M)=_
 unfold wC;rw [show lO (pW n f).W (1,0,M)=true from GA h,if_neg (by decide),if_neg (show ¬(pW n f).lm<=(((jM N M t).D 0).length:Int) from (show ¬(4:Int)<=((([]:List Cp).length:Nat):Int) by decide))]
 unfold DS;rw [wV h];rfl
theorem JU:tU (pW n f) (DS N M t) ⟨9,0,0,0,0,0,false,0,0,0,[],0,[0]⟩=(⟨0,(0,0,0),[],1⟩,DH N M t):=by
 rw [dF rfl rfl];rfl
theorem JC:tU (pW n f) (DH N M t) ⟨9,0,0,0,0,0,false,0,0,0,[],0,[0]⟩=(⟨0,(0,0,0),[],2⟩,BO N M t):=by
 rw [dF rfl rfl];rfl
theorem Ds (need:Int)(h:aS need 31=true):L.cO (jM N M t).X (jM N M t).l need (D.cap 1 N)=0:=by
 unfold L.cO;have h1:bn (jM N M t).X (jM N M t).l (D.cap 1 N)=true:=bW.2 ⟨0,by simp [jM,aF],rfl⟩
 have h2:aX (jM N M t).X (jM N M t).l (D.cap 1 N)=0:=by unfold aX;simp [jM,aF,tk]
 rw [if_neg (by rw [h1];decide)]
 unfold L.eX;rw [h2,if_neg (by rw [show rg (jM N M t).X 0=31 from rfl,h];decide)]
theorem G5 (hne:D.cap 1 M≠D.cap 1 N):L.cO (jM N M t).X (jM N M t).l 1 (D.cap 1 M)=0:=by
 unfold L.cO;have h1:bn (jM N M t).X (jM N M t).l (D.cap 1 M)=true:=bW.2 ⟨1,by simp [jM,aF],rfl⟩
 have h2:aX (jM N M t).X (jM N M t).l (D.cap 1 M)=1:=by unfold aX;simp [jM,aF,tk,Ne.symm hne]
 rw [if_neg (by rw [h1];decide)]
 unfold L.eX;rw [h2,if_neg (by rw [show rg (jM N M t).X 1=1 from rfl];decide)]
theorem Jy {b:Int}{h l:Nat}{K:List Nat}(hb:0<=b/\b<=65535)(h0:0<=off)(h1:off<200)(hd:K.length<=24):R.fm ⟨6,b,0,1,h,l,true,0,off,0,K,0,[]⟩=true:=by
 have a1:R.wi b 0 65535=true:=R.cU.2 hb
 have a2:R.xn off=true:=R.cU.2 ⟨by omega,by omega⟩
 have a3:decide (K.length<=1025)=true:=decide_eq_true (by omega)
 unfold R.fm R.dQ;simp only [a1,a2,a3];rfl
theorem Jj (L:List Nat)(hl:L.length=300)(off k:Int)(h0:0<=off)(hk:0<=k)(h1:off+k<=300):S.rP [(1,L)] 1 off k=0:=by
 show (if 0<=off/\0<=k/\k<=1024/\off+k<=(L.length:Int) then (0:Int) else 5)=0
 rw [if_pos ⟨h0,hk,by omega,by omega⟩]
theorem JW {K:List Nat}(h0:0<=off)(h1:off<200)(hd:K.length=24):tU (pW n f) (BO N M t) ⟨6,0,0,1,N / az,N%az,true,0,off,0,K,0,[]⟩=(rep 0,nr N M t K off.toNat):=by
 rw [dF (Jy (by omega) h0 h1 (by omega)) rfl];show jN (BO N M t) true 0 (D.cap 1 N) off K=_
 unfold jN;rw [show eS (BO N M t) true 0 (D.cap 1 N) 2=0 from Ds (N:=N) (M:=M) (t:=t) 2 (by decide),if_neg (by decide)];have hr:=Jj iq lV off (K.length:Int) h0 (by omega) (by omega)
 rw [show S.rP (BO N M t).V (D.cap 1 N).1 off (K.length:Int)=0 from hr];congr 2
 show S.fT [(1,iq)] 1 off K=_
 unfold S.fT;rw [hr,if_pos rfl];rfl
theorem oF {K:List Nat}(h:o+K.length<=300):(S.dM iq K o).length=300:=by
 rw [S.gG (by rw [lV];exact h),lV]
theorem wM {K:List Nat}(h:∀x∈K,x<256):∀x∈S.dM iq K o,x<256:=by
 intro x hx;simp only [S.dM,List.mem_append] at hx;rcases hx with (hx|hx)|hx
 ·have:=List.eq_of_mem_replicate (List.mem_of_mem_take hx);omega
 ·exact h x hx
 ·have:=List.eq_of_mem_replicate (List.mem_of_mem_drop hx);omega
theorem J9 {K:List Nat}(hne:D.cap 1 M≠D.cap 1 N)(h:o+K.length<=300):tU (pW n f) (nr N M t K o) ⟨5,2,0,1,0,0,false,0,0,240,[],0,[]⟩=(⟨0,(0,0,0),(S.dM iq K o).take 240,0⟩,nr N M t K o):=by
 rw [dF rfl rfl];show uJ (nr N M t K o) false 2 (1,0,0) 0 240=_
 have hv:eS (nr N M t K o) false 2 (1,0,0) 1=0:=by
  show (L.dL (L.cO (jM N M t).X (jM N M t).l 1) 1 [D.cap 1 M] 3).2=0
  unfold L.dL;rw [if_neg (by simp [D.cap]),if_pos (G5 hne)]
 have hl:=oF h
 unfold uJ;rw [hv,if_neg (by decide)];have hr:S.rP (nr N M t K o).V 1 0 240=0:=Jj _ hl 0 240 (by omega) (by omega) (by omega)
 have hL:S.zj (nr N M t K o).V 1 0 240=(S.dM iq K o).take 240:=by
  show (if (0:Int)<=0/\(0:Int)<=240/\(240:Int)<=1024/\(0:Int)+240<=((S.dM iq K o).length:Int) then _ else _)=_
  rw [if_pos ⟨by omega,by omega,by omega,by omega⟩];rfl
 show ((⟨S.rP (nr N M t K o).V 1 0 240,_,S.zj (nr N M t K o).V 1 0 240,_⟩:dZ),_)=_
 rw [hr,hL]
theorem JB {K:List Nat}(h:o+K.length<=300):∃s',tU (pW n f) (nr N M t K o) ⟨6,2,0,1,N / az,N%az,true,0,0,0,[1],0,[]⟩=(rep 0,s'):=by
 rw [dF (Jy (by omega) (by omega) (by omega) (by simp)) rfl];show ∃s',jN (nr N M t K o) true 2 (D.cap 1 N) 0 [1]=_
 unfold jN;rw [show eS (nr N M t K o) true 2 (D.cap 1 N) 2=0 from Ds (N:=N) (M:=M) (t:=t) 2 (by decide),if_neg (by decide)];have hr:=Jj _ (oF h) 0 1 (by omega) (by omega) (by omega)
 rw [show S.rP (nr N M t K o).V (D.cap 1 N).1 0 (([1]:List Nat).length:Int)=0 from hr]
 exact⟨_,rfl⟩
end Go.Proofs.YtmhinfbkmjdgfaaGreatDoor.V
namespace Go.Proofs.YtmhinfbkmjdgfaaGreatDoor.V
open Go.RowKit
open Go.Proofs.YtmhinfbkmjdgfaaGreatDoor.H (az Cp)
open Go.Proofs.YtmhinfbkmjdgfaaGreatDoor.M (bM)
section
variable {w w':World}
variable {v:Nat}{u1 w5:World}
def Em (E:E0)(w5 U:World)(kb:Nat):Prop:=∃lg v,(w5.heap.size<=lg/\lg<U.heap.size)/\(w5.heap.size<=v/\v<U.heap.size)/\(w5.heap.size<=kb/\kb<U.heap.size)/\(lg≠v/\lg≠kb/\v≠kb)/\U.ownsMap Tryz.prog 3 S.hr lg 0 (.map [])/\L.Va U v E.cg E.A.g/\Kb U (E.H lg v kb)/\(∃e hi mi,K.Kc U E.cg E.cs E.cw E.kn K.T0 e hi mi)/\aj (λk=>k=E.cg) w5 U
theorem Em.first {E:E0}(hcg:E.cg<w5.heap.size)(hva:L.Va u1 v E.cg E.A.g)(hkc:∃e hi mi,K.Kc u1 E.cg E.cs E.cw E.kn K.T0 e hi mi)(hv:(w5.drew.alloc (Obj.map #[] 0)).heap.size<=v)(hb:aj (λk=>k=E.cg) (w5.drew.alloc (Obj.map #[] 0)) u1) :
  Em E w5 (u1.alloc (Obj.cells (E.H w5.heap.size v u1.heap.size).kc.toArray 125)) u1.heap.size:=by
 have hs:=hb.size
 simp only [World.size_alloc] at hs hv;have hs5:w5.drew.heap.size=w5.heap.size:=rfl
 have hvl:=hva.lt
 have hm0:(w5.drew.alloc (Obj.map #[] 0)).ownsMap Tryz.prog 3 S.hr w5.heap.size 0 (.map []):=World.ownsMap_made w5.drew _ _ _
 have hB1:=ag u1 (Obj.cells (E.H w5.heap.size v u1.heap.size).kc.toArray 125)
 refine⟨w5.heap.size,v,⟨Nat.le_refl _,by simp;omega⟩,⟨by omega,by simp;omega⟩,⟨by omega,by simp⟩,⟨by omega,by omega,by omega⟩,?_,hva.later hB1,λj x hx=>?_,?_,?_⟩
 ·exact S.bS (aj.of (S:=λ_=>False) hB1) (S.bS hb hm0 (by omega)) (λh=>h)
 ·exact (S.bf u1 _ _ j x (by simpa using hx)).1
 ·obtain⟨e,hi,mi,hk⟩:=hkc
  exact⟨e,hi,mi,hk.later hB1⟩
 ·have h1:aj (λk=>k=E.cg) w5 (w5.drew.alloc (Obj.map #[] 0)):=aj.of ((Below.refl _ _).drew.alloc (Nat.le_refl _) _)
  exact (h1.trans hb).trans (aj.of hB1)
theorem Em.nM {E:E0}(hcg:E.cg<w5.heap.size)(hva:L.Va u1 v E.cg E.A.g)(hkc:∃e hi mi,K.Kc u1 E.cg E.cs E.cw E.kn K.T0 e hi mi)(hv:w5.drew.heap.size<=v)(hb:aj (λk=>k=E.cg) w5.drew u1) :
  Em E w5 ((u1.alloc (Obj.map #[] 0)).alloc (Obj.cells (E.H u1.heap.size v (u1.heap.size+1)).kc.toArray 125)) (u1.heap.size+1):=by
 have hs:=hb.size
 have hs5:w5.drew.heap.size=w5.heap.size:=rfl
 have hvl:=hva.lt
 have hm0:(u1.alloc (Obj.map #[] 0)).ownsMap Tryz.prog 3 S.hr u1.heap.size 0 (.map []):=World.ownsMap_made u1 _ _ _
 have hB1:=ag (u1.alloc (Obj.map #[] 0)) (Obj.cells (E.H u1.heap.size v (u1.heap.size+1)).kc.toArray 125)
 have hB2:=aB u1 (Obj.map #[] 0) (Obj.cells (E.H u1.heap.size v (u1.heap.size+1)).kc.toArray 125)
 refine⟨u1.heap.size,v,⟨by omega,by simp;omega⟩,⟨by omega,by simp;omega⟩,⟨by omega,by simp⟩,⟨by omega,by omega,by omega⟩,?_,hva.later hB2,λj x hx=>?_,?_,?_⟩
 ·exact S.bS (aj.of (S:=λ_=>False) hB1) hm0 (λh=>h)
 ·have:=(S.bf (u1.alloc (Obj.map #[] 0)) (E.H u1.heap.size v (u1.heap.size+1)).kc.toArray 125 j x (by simpa using hx)).1
  rw [World.size_alloc] at this;exact this
 ·obtain⟨e,hi,mi,hk⟩:=hkc
  exact⟨e,hi,mi,hk.later hB2⟩
 ·have h1:aj (λk=>k=E.cg) w5 w5.drew:=aj.of (Below.refl _ _).drew
  exact (h1.trans hb).trans (aj.of hB2)
theorem uV (g gb n:Nat)(cf:Nat->Nat)(W:Int)(room qN mo:Nat)(e pm lm:Int)(cs cw kn:Nat)(w:World)(base d0:Nat)(hdr:D.Dr w g gb n cf 0)(hdm:d0<=g/\(0<n->d0<=gb))(h0:0<base/\base<=d0/\d0<=w.heap.size)(hl:D.Laid w)
  (b1:1<=room/\room<=64) (b2:1<=qN/\qN<=256) (b3:1<=mo/\mo<=256) (b4:1<=e/\e<=256) (b5:1<=pm/\pm<=32) (b6:1<=lm/\lm<=32) (b7:cs<=16) (b8:1<=cw/\cw<=4) (b9:kn<=64) :
  Calls Tryz.prog 59 #[(Cf.mk W (room:Int) (qN:Int) (mo:Int) e pm lm (cs:Int) (cw:Int) (kn:Int)).v,aq g] w λe' w'=>∃H N,e'=.returned (aq H.kb)/\bB w' H (vS mo [0]) K.T0 N/\H.p=⟨mo,e,n,cf,room,qN,pm,lm,W⟩/\H.cf=(Cf.mk W (room:Int) (qN:Int) (mo:Int) e pm lm (cs:Int) (cw:Int) (kn:Int)).L/\(∀k,N k->d0<=k)/\aj (λk=>d0<=k) w w':=by
 obtain⟨W0,hW⟩:∃W0,W0=w.alloc (Obj.cells (Cf.mk W (room:Int) (qN:Int) (mo:Int) e pm lm (cs:Int) (cw:Int) (kn:Int)).L.toArray 23):=⟨_,rfl⟩
 have hB:Below w.heap.size w W0:=by rw [hW];exact ag _ _
 have QT:Hid (W0.heap.size=w.heap.size+1):=by unfold Hid;rw [hW];simp
 have HX:Hid (∀U,Below W0.heap.size W0 U->R.Bx U w.heap.size (Cf.mk W (room:Int) (qN:Int) (mo:Int) e pm lm (cs:Int) (cw:Int) (kn:Int)).L):=λU hU=>by rw [hW] at hU;exact R.Bx.later hU (R.Bx.new w (Cf.mk W (room:Int) (qN:Int) (mo:Int) e pm lm (cs:Int) (cw:Int) (kn:Int)).L 23)
 have UG:=ae hdr
 have Rh:=ae hdm
 have H0:=ae h0
 have Pg:=ae hl
 have HG:Hid (g<w.heap.size/\(0<n->gb<w.heap.size)):=⟨hdr.lt,λh=>hdr.pB h⟩
 have Ts:=ae (S.EF room qN W0 b1 b2)
 have X5:=ae (λU=>Dj U mo kn b3.1 b3.2 b9)
 have SZ:=ae (λU=>Q.cu e (mo:Int) U ⟨b4,by omega,by omega⟩)
 have Xd:=ae (λU=>P.cu pm U b5.1 b5.2)
 have XM:=ae (λU=>K.I_ cs cw kn U b7 b8.1 b8.2 b9)
 have HB:=ae hB
 have HW:=ae hW
 have QG:=ae (And.intro b3 b6)
 clear hdr hdm h0 hl hB hW b1 b2 b3 b4 b5 b6 b7 b8 b9;unfold Cf.v Cf.L;go_enter Tryz.func59,Tryz.ntmps59
 go_upto_region 1 with fail
 have hW':=HW.out
 unfold Cf.L at hW';rw [<-hW'];clear hW';have x1:=(HX.out W0 (Below.refl _ _)).cell 1 rfl
 have x2:=(HX.out W0 (Below.refl _ _)).cell 2 rfl
 simp only [] at x1 x2;go_upto_region 2 with (first|(go_at_call 125;refine Ts.out.mono ?_;rintro e1 w1 ⟨z,rfl,rfl,rfl,hst,hzb,hb⟩;have O6:=ae hst;have XE:=ae hzb;have OI:=ae hb;clear hst hzb hb))
 clear x1 x2;have x3:=(HX.out w1 OI.out).cell 3 rfl
 have x9:=(HX.out w1 OI.out).cell 9 rfl
 simp only [] at x3 x9;go_upto_region 3 with (first|(go_at_call 126;refine (X5.out w1).mono ?_;rintro e1 w2 ⟨A,rfl,hca,hall,hb⟩;have Wf:=ae hca;have PE:=ae hall;have OH:=ae hb;clear hca hall hb))
 clear x3 x9;have Sr:Hid (Below W0.heap.size W0 w2):=aa OI.out OH.out
 have x3:=(HX.out w2 Sr.out).cell 3 rfl
 have x4:=(HX.out w2 Sr.out).cell 4 rfl
 simp only [] at x3 x4;go_upto_region 4 with (first|(go_at_call 127;refine (SZ.out w2).mono ?_;rintro e1 w3 ⟨qg,qb,rfl,hqu,hq1,hq2,hb⟩;have Vk:=ae hqu;have WW:=ae (And.intro hq1 hq2);have OJ:=ae hb;clear hqu hq1 hq2 hb))
 clear x3 x4;have Wz:Hid (Below W0.heap.size W0 w3):=aa Sr.out OJ.out
 have x5:=(HX.out w3 Wz.out).cell 5 rfl
 simp only [] at x5;go_upto_region 5 with (first|(go_at_call 128;refine (Xd.out w3).mono ?_;rintro e1 w4 ⟨pg,pa,pc,rfl,hpr,hb⟩;have TG:=ae hpr;have OM:=ae hb;clear hpr hb))
 clear x5;have QM:Hid (Below W0.heap.size W0 w4):=aa Wz.out OM.out
 have x7:=(HX.out w4 QM.out).cell 7 rfl
 have x8:=(HX.out w4 QM.out).cell 8 rfl
 have x9:=(HX.out w4 QM.out).cell 9 rfl
 simp only [] at x7 x8 x9;go_upto_region 6 with (first|(go_at_call 129;refine (XM.out w4).mono ?_;rintro e1 w5 ⟨cg,rfl,hkc,hcg,hb⟩;have T9:=ae hkc;have R_:=ae hcg;have OS:=ae hb;clear hkc hcg hb))
 clear x7 x8 x9;have RF:Hid (Below W0.heap.size W0 w5):=aa QM.out OS.out
 obtain⟨E,hE⟩:∃E:E0,E={ A:=A,qg:=qg,qb:=qb,z:=z,g:=g,gb:=gb,n:=n,c:=cf,pg:=pg,cg:=cg,kn:=kn,mo:=mo,e:=e,pm:=pm,lm:=lm,cs:=cs,cw:=cw,W:=W,base:=base }:=⟨_,rfl⟩
 have Xp:Hid (E5 w5 E d0 w.heap.size W0.heap.size w1.heap.size w2.heap.size w3.heap.size w4.heap.size w5.heap.size):=by
  have s0:=QT.out
  have s1:=OI.out.size
  have s2:=OH.out.size
  have s3:=OJ.out.size
  have s4:=OM.out.size
  have s5:=OS.out.size
  have h0:=H0.out
  have B25:Below w2.heap.size w2 w5:=aa OJ.out (aa OM.out OS.out)
  rw [hE];refine⟨UG.out.later (aa HB.out RF.out),⟨⟨Rh.out.1,HG.out.1⟩,λh=>⟨Rh.out.2 h,HG.out.2 h⟩⟩,O6.out.later (aa OH.out B25),XE.out,Wf.out.later B25,λk hk=>⟨PE.out k hk,Wf.out.lt k hk⟩,Vk.out.later (aa OM.out OS.out),⟨⟨WW.out.1,Vk.out.DU⟩,WW.out.2,Vk.out.blt⟩,⟨pa,pc,?_,λk hk=>?_⟩,⟨_,_,_,T9.out⟩,⟨R_.out,T9.out.lt⟩,⟨h0.1,h0.2.1,h0.2.2,by omega,by omega,by omega,by omega,by omega,by omega,Nat.le_refl _⟩,QG.out.1,cell_later (aa HB.out RF.out) Pg.out⟩
  ·have:=TG.out.later OS.out
   exact⟨this.c0,this.c1,this.c2,this.own.mono (by show base<=_;omega),this.ap,by have h9:w3.heap.size<=pg:=this.lo;show base<=pg;omega⟩
  ·rcases hk with rfl|hk
   ·exact⟨TG.out.lo,TG.out.lt⟩
   ·exact⟨TG.out.own.dB k hk,TG.out.own.lt k hk⟩
 have HEq:=ae hE
 have Ww:Hid (∀U,Below w5.heap.size w5 U->Calls Tryz.prog 130 #[aq A.g,aq cg] U λe' w'=>∃v,e'=.returned (aq v)/\L.Va w' v E.cg E.A.g/\(∃e hi mi,K.Kc w' E.cg E.cs E.cw E.kn K.T0 e hi mi)/\U.heap.size<=v/\aj (λk=>k=E.cg) U w'):=λU hU=>by
  rw [hE];exact L.xU (T9.out.later hU)
 have T8:Hid (E.cg<w5.heap.size):=by rw [hE];exact T9.out.lt
 have Sg:Hid (∀U,aj (λk=>k=E.cg) w5 U->(R.Bx U w.heap.size (Cf.mk W (z.room:Int) (z.n:Int) (mo:Int) e pm lm (cs:Int) (cw:Int) (kn:Int)).L)):=λU hU=>R.Bx.but hU (HX.out w5 RF.out) (λe=>by
  have h1:=R_.out
  have h2:=QT.out
  have h3:=QM.out.size
  rw [hE] at e;simp only [] at e;omega)
 have hmm:=@run_makeMap Tryz.prog
 clear hE;go_cut [15] (λs15 U=>∃kb,s15=aq kb/\Hid (Em E w5 U kb))
 case first =>
  refine wp_region_held_drew (S:=(λU:World=>(R.Bx U w.heap.size (Cf.mk W (z.room:Int) (z.n:Int) (mo:Int) e pm lm (cs:Int) (cw:Int) (kn:Int)).L))) (by kernel_rfl) (Sg.out _ (aj.of (Below.refl _ _).drew)) (λhHeld=>?_)
  refine nm 13 0 13 ?_
  refine tv 0 (v:=.agg #[ab W,ab (z.room:Int),ab (z.n:Int),ab (mo:Int),ab e,ab pm,ab lm,ab (cs:Int),ab (cw:Int),ab (kn:Int)]) ?_ ?_
  ·(intro w hSw;(try dsimp only at hSw);exact K.fD rfl rfl (I1 hSw))
  simp only [zz];refine nm 13 1 12 ?_
  refine tn 1 13 3 11 ?_
  simp only [zz];refine tn 2 13 7 10 ?_
  simp only [zz];refine tn 3 13 15 9 ?_
  simp only [zz];refine tn 4 13 31 8 ?_
  simp only [zz];refine tn 5 13 63 7 ?_
  simp only [zz];refine tn 7 13 191 6 ?_
  simp only [zz];refine tn 8 13 447 5 ?_
  simp only [zz];refine wpAnyH_ready (rs:=[6,9]) (by kernel_rfl) (by simp) ?_
  refine AllReadyH.cons rfl (λK hK=>?_) ?_
  ·go_simp
   refine zk hK 13 511 4 (Sg.out _ (aj.of ((Below.refl _ _).drew.alloc (Nat.le_refl _) _))) λhHeld=>?_
   clear hK K;try simp only [zz]
   refine zr 9 λK hK=>?_
   go_simp
   go_wp2_with (first|(go_at_call 130;refine (Ww.out (w5.drew.alloc (Obj.map #[] 0)) ((Below.refl _ _).drew.alloc (Nat.le_refl _) _)).mono ?_;rintro e1 u1 ⟨v,rfl,hva,hkc,hv,hb⟩;have RC:=ae hva;have SG:=ae hkc;have QQ:=ae hv;have OT:=ae hb;have RM:Hid (aj (λk=>k=E.cg) w5 u1):=(aj.of ((Below.refl _ _).drew.alloc (Nat.le_refl _) _)).trans hb;clear hva hkc hv hb))
   refine zk hK 13 1023 3 (Sg.out u1 RM.out) λhHeld=>?_
   clear hK K;try simp only [zz]
   refine tn 10 13 2047 2 ?_
   simp only [zz];refine zr 11 λK hK=>?_
   go_simp
   refine zk hK 13 4095 1 (Sg.out _ (RM.out.trans (aj.of (ag _ _)))) λhHeld=>?_
   clear hK K;try simp only [zz]
   refine tn 12 13 8191 0 ?_
   simp only [zz];refine zn ?_ _
   go_wp2;go_meet;first|(exact⟨_,rfl,by have h:=Em.first T8.out RC.out SG.out QQ.out OT.out;rw [HEq.out] at h ⊢;exact h⟩)|(exact⟨_,rfl,by have h:=Em.nM T8.out RC.out SG.out QQ.out OT.out;rw [HEq.out] at h ⊢;exact h⟩)
  refine AllReadyH.cons rfl (λK hK=>?_) AllReadyH.nil
  go_simp
  go_wp2_with (first|(go_at_call 130;refine (Ww.out w5.drew (Below.refl _ _).drew).mono ?_;rintro e1 u1 ⟨v,rfl,hva,hkc,hv,hb⟩;have RC:=ae hva;have SG:=ae hkc;have QQ:=ae hv;have OT:=ae hb;have RM:Hid (aj (λk=>k=E.cg) w5 u1):=(aj.of (Below.refl _ _).drew).trans hb;clear hva hkc hv hb))
  refine zk hK 13 959 4 (Sg.out u1 RM.out) λhHeld=>?_
  clear hK K;try simp only [zz]
  refine zr 6 λK hK=>?_
  go_simp
  refine zk hK 13 1023 3 (Sg.out _ (RM.out.trans (aj.of (ag _ _)))) λhHeld=>?_
  clear hK K;try simp only [zz]
  refine tn 10 13 2047 2 ?_
  simp only [zz];refine zr 11 λK hK=>?_
  go_simp
  refine zk hK 13 4095 1 (Sg.out _ (RM.out.trans (aj.of (aB _ _ _)))) λhHeld=>?_
  clear hK K;try simp only [zz]
  refine tn 12 13 8191 0 ?_
  simp only [zz];refine zn ?_ _
  go_wp2;go_meet;first|(exact⟨_,rfl,by have h:=Em.first T8.out RC.out SG.out QQ.out OT.out;rw [HEq.out] at h ⊢;exact h⟩)|(exact⟨_,rfl,by have h:=Em.nM T8.out RC.out SG.out QQ.out OT.out;rw [HEq.out] at h ⊢;exact h⟩)
 case rest =>
  rename World=>u
  obtain⟨kb,rfl,hEm⟩:=hcut
  obtain⟨lg,v,hlg,hv,hkb,hne,hmap,hva,hK,hkc,hbt⟩:=hEm.out
  have hE5:=Xp.out.but hbt hkc
  have hD:=hE5.J5 hlg hv hkb hne hmap hva hK
  have hlm:E.lm=lm:=by rw [HEq.out]
  have uA:E.mo=mo:=by rw [HEq.out]
  have HA:Hid (Calls Tryz.prog 131 #[aq kb,ab 0,.slice none 0 0] u λe w'=>e=.returned (ab 0)/\∃N',bB w' (E.H lg v kb) { vS E.mo [] with ks:=[]++[0],D:=fE (λ_=>[]) 0 [] } K.T0 N'/\bd u (λk=>(d0<=k/\k<w.heap.size)\/(W0.heap.size<=k/\k<u.heap.size)) w' N') :=
   tZ hD (by show E.lm<=32/\1<=E.lm;rw [hlm];exact⟨QG.out.2.2,QG.out.2.1⟩) 0 (by simp [vS]) (by omega) (by simp [vS]) (K:=[]) (Ow.rd (Ow.nil u 0 37 3) rfl) (by show ((0:Nat):Int)<=E.lm;rw [hlm];have:=QG.out.2.1;omega)
  have hst:({ vS E.mo [] with ks:=[]++[0],D:=fE (λ_=>[]) 0 [] }:bc)=vS mo [0]:=by
   have e1:fE (λ_=>([]:List Cp)) 0 []=λ_=>[]:=by funext j;simp [fE]
   rw [e1,uA];rfl
  rw [hst] at HA;have OQ:=ae hbt
  clear hEm hlg hv hkb hne hmap hva hK hkc hbt hE5 hD hlm uA hst;go_wp2_with (first|(go_at_call 131;refine HA.out.mono ?_;rintro e1 u2 ⟨rfl,N2,hd2,hw2⟩;have PO:=ae hd2;have PC:=ae hw2;clear hd2 hw2))
  have h0:=H0.out
  have hws:=QT.out
  have hcg:W0.heap.size<=E.cg:=by rw [HEq.out];exact Nat.le_trans QM.out.size R_.out
  have hb1:aj (λk=>d0<=k) w u:=(aj.of (aa HB.out RF.out)).trans (OQ.out.mono (λk e=>by omega))
  refine bodyPost_ret (v:=aq kb) (by simp [results,Tryz.results59,go_sem]) rfl ⟨E.H lg v kb,N2,rfl,PO.out,by rw [HEq.out];rfl,by rw [HEq.out];rfl,λk hk=>?_,hb1.trans (PC.out.2.mono (λk hk=>by omega))⟩
  have:=hb1.size
  rcases PC.out.1 k hk with h1|h1<;>omega
end
end Go.Proofs.YtmhinfbkmjdgfaaGreatDoor.V
namespace Go.Proofs.YtmhinfbkmjdgfaaGreatDoor.V
open Go.RowKit
open Go.Proofs.YtmhinfbkmjdgfaaGreatDoor.H (az Cp)
section
variable {w w':World}
def Cf.pm (c:Cf)(n:Nat)(f:Nat->Nat):Pm:=⟨c.m.toNat,c.q,n,f,c.o.toNat,c.p.toNat,c.r,c.l,c.W⟩
theorem Cf.enter (c:Cf)(w:World):Below w.heap.size w (w.alloc (Obj.cells c.L.toArray 23))/\R.Bx (w.alloc (Obj.cells c.L.toArray 23)) w.heap.size c.L:=⟨ag _ _,R.Bx.new w c.L 23⟩
theorem xD (c:Cf)(hc:c.may=true)(a:Option Addr)(n cap:Nat)(w:World)(hn:4096<n):Calls Tryz.prog 12 #[c.v,.slice a n cap] w λe w'=>e=.returned (.tuple #[.pointer none,ab 23])/\Below w.heap.size w w':=by
 obtain⟨W,hW⟩:∃W,W=w.alloc (Obj.cells c.L.toArray 23):=⟨_,rfl⟩
 have he:=c.enter w
 rw [<-hW] at he;have hb:=Cf.pt.1 hc
 have HB:=ae he.1
 have Pg:=ae (I1 he.2)
 have HX:=ae he.2
 have HM:=ae (qP c W)
 rw [hc] at HM;have hE:D.kS n c.W=23:=by unfold D.kS;rw [if_neg (by omega),if_pos hn]
 have HN:=ae (λU=>D.BN a n cap c.W U (by rw [hE];decide))
 rw [hE] at HN;have HW:=ae hW
 clear he hW hc hb hE hn;go_enter Tryz.func12,Tryz.ntmps12
 go_upto_region 1 with fail
 rw [<-HW.out];go_upto_region 3 with (first|((with_reducible refine R.aJ Pg.out ?_ ?_);(· rfl))|(go_at_call 57;refine HM.out.mono ?_;rintro e w1 ⟨rfl,hb1⟩;have OI:=ae hb1;clear hb1))
 have x0:=(R.Bx.later OI.out HX.out).cell 0 rfl
 go_wp2_with (first|(go_at_call 58;refine (HN.out w1).mono ?_;rintro e w2 ⟨rfl,hw2⟩;obtain rfl:=hw2.symm;clear hw2))
 exact bodyPost_ret (v:=.tuple #[.pointer none,ab 23]) (by simp [results,Tryz.results12,go_sem]) rfl ⟨rfl,aa HB.out OI.out⟩
theorem J7 {p:Pm}(hm:1<=p.mo/\p.mo<=256)(hp:1<=p.pm/\p.pm<=32)(hl:1<=p.lm/\p.lm<=32)(hc:∀i,i<p.n->p.c i<az*az)(hi:Inv p.mo (List.replicate p.mo tz) []):KF p (vS p.mo [0]) :=
 {fit:={ inv:=hi,jU:=λo=>by simp [vS,mY,aF],len:=rfl,obj:=λo=>by simp [vS,eG,aF],ids:=λp hp=>(by cases hp) }
  le:=Nat.zero_le _
  cs:=hc
  iv:=P.Iv.start hp.1 hp.2
  ln:=λi _=>by show ((0:Nat):Int)<=_;omega
  wd:=λi _ c hc=>(by cases hc)
  lm:=hl
  ks:=rfl
  nx:=by show (1:Int)<=1/\(1:Int)<=_;decide }
theorem cu (c:Cf)(hc:c.may=true)(a:Option Addr)(n cap:Nat)(f:Nat->Nat)(w:World)(hw:D.Ws w a n cap f)(hn:n<=4096)(hl:D.Laid w)(h0:0<w.heap.size) :
  Calls Tryz.prog 12 #[c.v,.slice a n cap] w λe w'=>∃H N,e=.returned (.tuple #[aq H.kb,ab 0])/\Kn w' H (vS c.m.toNat [0]) N/\H.p=c.pm n (λj=>D.cE (f j) c.W)/\H.cf=c.L/\(∀k,N k->w.heap.size<=k)/\Below w.heap.size w w':=by
 obtain⟨W,hW⟩:∃W,W=w.alloc (Obj.cells c.L.toArray 23):=⟨_,rfl⟩
 have he:=c.enter w
 rw [<-hW] at he;have hb:=Cf.pt.1 hc
 have HB:=ae he.1
 have Pg:=ae (λU (hU:Below W.heap.size W U)=>I1 (R.Bx.later hU he.2))
 have HX:=ae he.2
 have HM:=ae (qP c W)
 rw [hc] at HM;have HN:=ae (λU (hU:Below W.heap.size W U)=>D.cu a n cap f c.W U ((hw.later he.1).later hU) hb.1.1 hb.1.2 hn)
 have hcf:c=⟨c.W,(c.o.toNat:Int),(c.p.toNat:Int),(c.m.toNat:Int),c.q,c.r,c.l,(c.s.toNat:Int),(c.y.toNat:Int),(c.k.toNat:Int)⟩:=by
  rw [Int.toNat_of_nonneg (by omega),Int.toNat_of_nonneg (by omega),Int.toNat_of_nonneg (by omega),Int.toNat_of_nonneg (by omega),Int.toNat_of_nonneg (by omega),Int.toNat_of_nonneg (by omega)]
 have Xx:Hid (∀(w1 w2:World) (g gb:Nat),Below W.heap.size W w1->Below w1.heap.size w1 w2->D.Dr w2 g gb n (λj=>D.cE (f j) c.W) 0->w1.heap.size<=g->w1.heap.size<=gb->Calls Tryz.prog 59 #[c.v,aq g] w2 λe' w'=>∃H N,e'=.returned (aq H.kb)/\bB w' H (vS c.m.toNat [0]) K.T0 N/\H.p=c.pm n (λj=>D.cE (f j) c.W)/\H.cf=c.L/\(∀k,N k->w.heap.size<=k)/\aj (λk=>w.heap.size<=k) w2 w'):=λw1 w2 g gb h1 h2 hd hg hgb=>by
  have s1:=he.1.size
  have s2:=h1.size
  have s3:=h2.size
  have:=uV g gb n (λj=>D.cE (f j) c.W) c.W c.o.toNat c.p.toNat c.m.toNat c.q c.r c.l c.s.toNat c.y.toNat c.k.toNat w2 w.heap.size w.heap.size hd ⟨by omega,λ_=>by omega⟩ ⟨h0,Nat.le_refl _,by omega⟩ (cell_later h2 (cell_later h1 (cell_later he.1 hl))) (by omega) (by omega) (by omega) (by omega) (by omega) (by omega) (by omega) (by omega) (by omega)
  rw [<-hcf] at this;exact this
 have Ub:Hid (∀i,i<n->D.cE (f i) c.W<az*az):=λi _=>Nat.lt_of_le_of_lt (Nat.mod_le _ _) (hw.small i)
 have QG:=ae hb
 have HW:=ae hW
 clear he hW hc hb hn hl h0 hcf hw;go_enter Tryz.func12,Tryz.ntmps12
 go_upto_region 1 with fail
 rw [<-HW.out];go_upto_region 3 with (first|((with_reducible refine R.aJ (Pg.out W (Below.refl _ _)) ?_ ?_);(· rfl))|(go_at_call 57;refine HM.out.mono ?_;rintro e w1 ⟨rfl,hb1⟩;have OI:=ae hb1;clear hb1))
 have x0:=(R.Bx.later OI.out HX.out).cell 0 rfl
 go_upto_region 6 with (first|(go_at_call 58;refine (HN.out w1 OI.out).mono ?_;rintro e w2 ⟨g,gb,rfl,hdr,hg,hgb,-,hb2⟩;have UG:=ae hdr;have HG:=ae (And.intro hg hgb);have OH:=ae hb2;clear hdr hg hgb hb2))
 clear x0;have X6:=ae (Xx.out w1 w2 g gb OI.out OH.out UG.out HG.out.1 HG.out.2)
 go_wp2_with (first|((with_reducible refine R.aJ (Pg.out w2 (aa OI.out OH.out)) ?_ ?_);(· rfl))|(go_at_call 59;refine X6.out.mono ?_;rintro e w3 ⟨H,N,rfl,hd,hp,hcf,hN,hb⟩;have HD:=ae hd;have Uu:=ae hp;have UB:=ae hcf;have R6:=ae hN;have OJ:=ae hb;clear hd hp hcf hN hb))
 have hbd:=QG.out
 refine bodyPost_ret (v:=.tuple #[aq H.kb,ab 0]) (by simp [results,Tryz.results12,go_sem]) rfl ⟨H,N,rfl,⟨_,HD.out,L.Tr.zero _ _,?_,?_⟩,Uu.out,UB.out,R6.out,aj.below (aa HB.out (aa OI.out OH.out)) OJ.out (λk e=>e)⟩
 ·have hk:=Uu.out
  rw [hk];have hi:Inv (c.pm n (λj=>D.cE (f j) c.W)).mo (List.replicate (c.pm n (λj=>D.cE (f j) c.W)).mo tz) []:=by
   have h1:=HD.out.inv
   have h2:H.mo=c.m.toNat:=by have:H.p.mo=_:=congrArg Pm.mo hk;exact this
   rw [h2] at h1;exact h1
  exact J7 ⟨by show 1<=c.m.toNat;omega,by show c.m.toNat<=256;omega⟩ ⟨by show 1<=c.r;omega,by show c.r<=32;omega⟩ ⟨by show 1<=c.l;omega,by show c.l<=32;omega⟩ Ub.out hi
 ·have:H.p.W=_:=congrArg Pm.W Uu.out
  show 1<=H.p.W
  rw [this];show 1<=c.W
  omega
end
end Go.Proofs.YtmhinfbkmjdgfaaGreatDoor.V
namespace Go.Proofs.YtmhinfbkmjdgfaaGreatDoor.V
open Go.RowKit
open Go.Proofs.YtmhinfbkmjdgfaaGreatDoor.H (az Cp)
open Go.Proofs.YtmhinfbkmjdgfaaGreatDoor.M (bM)
variable {w w':World}
theorem _root_.Go.Proofs.YtmhinfbkmjdgfaaGreatDoor.aj.Ii {S:Nat->Prop}(h:aj S w w'):B.aj S w w':=⟨h.os,h.tape,h.output,h.size,h.block⟩
theorem _root_.Go.Proofs.YtmhinfbkmjdgfaaGreatDoor.B.aj.Js {S:Nat->Prop}(h:B.aj S w w'):aj S w w':=⟨h.os,h.tape,h.output,h.size,h.block⟩
def H8 (x:B.Cq)(bs:List Nat)(gs:List Int):R.Cl:=⟨x.op,x.b,x.sz,x.c.o,x.c.h,x.c.l,x.gv,x.rt,x.off,x.nn,bs,x.ix,gs⟩
def mT (c:Cp):B.Cp:=⟨c.1,c.2.1,c.2.2⟩
section
variable {w w':World}{H:Hd}{s s':bc}{N X:Nat->Prop}{m:B.Bm}{Q Q':B.Bv}{x:B.Cq}{bs:List Nat}{gs:List Int}{rr:dZ}{Z Z':Nat}
variable {b n:Nat}{a:Option Addr}
theorem GY {x:B.Cq}(hr:B.Row w x.d.a x.d.n x.d.c bs)(hg:B.RI w x.gs.a x.gs.n x.gs.c gs)(hc:x.c.eY):R.Is w (H8 x bs gs) ⟨x.d.a,x.d.n,x.d.c⟩ ⟨x.gs.a,x.gs.n,x.gs.c⟩ :=
 ⟨⟨hr.len,hr.cap_,hr.none_,hr.cells,hr.small⟩,⟨hg.len,hg.cap_,hg.none_,hg.cells⟩,hc.2.1,hc.2.2⟩
def JP (w:World)(H:Hd)(s':bc)(N X:Nat->Prop)(m:B.Bm)(Q':B.Bv)(Z':Nat)(rr:dZ)(e:Ending)(w':World):Prop :=
 ∃a n cp N' m',e=.returned (bR rr a n cp)/\Own w' w.heap.size 5 a n cp (S.aN rr.data)/\Kn w' H s' N'/\B.Bk (λj=>¬N' j/\¬X j) w' m' Q'/\B.Sz Q' Z'/\(∀j,N' j->¬B.cA m' j)/\m'.g=m.g/\aj (λj=>N j\/B.cA m j) w w'/\(∀j,N' j->N j\/w.heap.size<=j)/\¬B.cA m' 0/\(∀k,aI a k->¬N' k/\¬B.cA m' k)/\∀j,B.cA m' j->B.cA m j\/w.heap.size<=j
theorem mf {S:Nat->Prop}{o:Nat}{cs:List Value}(h:w.rangeAt b o cs)(hb:aj S w w')(hn:¬S b):w'.rangeAt b o cs:=λj v hv=>an hb (h j v hv) hn
theorem Bh {base:Nat}{e:TypeId}{cap:Nat}{L:List Value}(h:Own w base e a n cap L):∀k,aI a k->k<w.heap.size:=by
 rintro k ⟨x,rfl,rfl⟩
 rcases h.row.2 with ⟨h1,_⟩|⟨g,c,cur,hv,_,hh,_⟩
 ·cases h1
 ·simp only [Value.slice.injEq,Option.some.injEq] at hv
  rw [hv.1];exact (Array.getElem?_eq_some_iff.1 hh).1
theorem Gy {cp:Nat}{bs:List Nat}(h:Row w a n cp (S.aN bs))(hs:∀x∈bs,x<256):B.Row w a n cp bs:=⟨by have:=h.len;simpa [S.aN] using this,h.cap_,h.none_,h.cells,hs⟩
theorem Jx (h:w.rangeAt b 0 x.L):(Instr.loadAt 44 (aq b)).run Tryz.prog w=.ok x.v w:=run_loadAt_mid w b 0 44 x.L _ h Tryz.underlying44 rfl (by kernel_rfl)
theorem ud {r:dZ}{c:Nat}(h:R.Bx w b (aZ r a n c)):(Instr.loadAt 40 (aq b)).run Tryz.prog w=.ok (bR r a n c) w:=by
 have:=run_loadVar_mid (P:=Tryz.prog) w b 0 40 (aZ r a n c) _ h.range Tryz.underlying40 rfl (by rw [DN];rfl)
 simp [Instr.loadAt,Instr.sureAddr,this,aZ]
theorem fW (k:Kn w H s N)(b:B.Bk (λj=>¬N j/\¬X j) w m Q)(hXl:∀j,X j->j<w.heap.size)(ap:∀j,N j->¬B.cA m j)(o0:¬B.cA m 0)(hx:x.ok)(hr:B.Row w x.d.a x.d.n x.d.c bs)(hg:B.RI w x.gs.a x.gs.n x.gs.c gs)(hnd:∀j,B.aI x.d.a j->¬N j)(hng:∀j,B.aI x.gs.a j->¬N j)(hd1:x.d.n<=100000000)(hg1:x.gs.n<=100000000)(hrd:rr.data.length<=100000000)(hsm:∀x∈rr.data,x<256)
  (hdo:∀(U:World) (dd gg:R.Sl),Kn U H s N->R.Is U (H8 x bs gs) dd gg->(0<dd.n->∀j,aI dd.a j->¬N j)->Calls Tryz.prog 14 #[aq H.kb,.agg (R.cC (H8 x bs gs) dd gg).toArray] U (eD U H N (rr,s')))
  (hno:∀(P:Nat->Prop) (U:World) (d g d':B.Sl),B.Bk P U m Q->B.Row U (x.with d g).d.a (x.with d g).d.n (x.with d g).d.c bs->B.RI U (x.with d g).gs.a (x.with d g).gs.n (x.with d g).gs.c gs->(∀j,B.aI d.a j->j<U.heap.size)->(∀j,B.aI g.a j->j<U.heap.size)->(∀j,B.aI d.a j->¬B.cA m j)->(∀j,B.aI g.a j->¬B.cA m j)->d.n=x.d.n->g.n=x.gs.n->d'.n=rr.data.length->d.c<=9223372036854775807 ->
   Calls Tryz.prog 38 #[aq m.g,(x.with d g).v,B.bR rr.code (mT rr.cap) d' rr.num] U λe w'=>e=.returned (.tuple #[])/\B.Nx P U w' m Q' Z') :
  Calls Tryz.prog 29 #[aq H.kb,aq m.g,x.v] w (JP w H s' N X m Q' Z' rr):=by
 obtain⟨W,hW⟩:∃W,W=(w.alloc (Obj.cells x.L.toArray 44)).alloc z6:=⟨_,rfl⟩
 have hB:Below w.heap.size w W:=by rw [hW];exact aB _ _ _
 have hX:W.rangeAt w.heap.size 0 x.L:=by rw [hW];exact ((B.Bx.new w x.L 44).later (ag _ _)).range
 have hZ:Zr W (w.heap.size+1):=by rw [hW];have:=Zr.new (w.alloc (Obj.cells x.L.toArray 44));simpa using this
 have HX:=ae hX
 have HZ:=ae hZ
 have HB:=ae hB
 have HW:=ae hW
 have Pg:=ae (Jx hX)
 have HK:=ae k
 have WH:=ae b
 have Tu:=ae ap
 have UF:=ae hno
 have WY:=ae hdo
 have SH:=ae o0
 have QI:=ae hXl
 have QT:Hid (W.heap.size=w.heap.size+2):=by unfold Hid;rw [hW];simp
 have Xr:=ae hnd
 have W7:=ae hng
 have XH:=ae hsm
 have Q4:=ae (B.lY x bs gs W (hr.later hB) (hg.later hB) hd1 hg1)
 have HR:=ae hr
 have HG:=ae hg
 have XI:=ae hd1
 have XT:=ae hg1
 have W3:=ae hrd
 have UC:=ae hx.c
 have X7:=ae hx
 clear hX hZ hB hW k b ap hx hr hg hd1 hg1 hrd hno hdo hsm hnd hng o0 hXl;go_enter Tryz.func29,Tryz.ntmps29
 go_upto_region 1 with fail
 rw [<-HW.out];go_upto_region 2 with (first|((with_reducible refine R.aJ Pg.out ?_ ?_);(· rfl))|(go_at_call 35;refine Q4.out.mono ?_;rintro e u1 ⟨d1,g1,rfl,hd1,hg1,hcn,hb⟩;have PF:=ae hb;have hdo:=WY.out _ ⟨d1.a,d1.n,d1.c⟩ ⟨g1.a,g1.n,g1.c⟩ (HK.out.later (aa HB.out hb)) (GY (x:=x.with d1 g1) hcn.d hcn.g UC.out) (λ_ j hj e=>by have h1:=(hcn.db j hj).1;have h2:=(HK.out.mQ j e).2;have:=HB.out.size;omega);have W6:=ae hdo;clear hd1 hg1 hcn hb hdo)|(go_at_call 14;refine W6.out.mono ?_;rintro e u2 ⟨a2,n2,c2,N2,rfl,hO,hk,hw,ha⟩;have O0:=ae hO;have PG:=ae hk;have PC:=ae hw;have SC:=ae (Zr.st (Zr.new u2) rr a2 n2 c2);have Qa:=ae ha;clear hO hk hw ha)|((with_reducible refine a_ SC.out ?_ ?_ ?_);(· rfl);(· rfl)))
 obtain⟨V3,hV3⟩:∃V,V=(u2.alloc z6).setCells u2.heap.size 0 (aZ rr a2 n2 c2):=⟨_,rfl⟩
 have Pw:Hid (R.Bx V3 u2.heap.size (aZ rr a2 n2 c2)):=by rw [hV3];exact R.Bx.set (R.Bx.new u2 [ab 0,ab 0,ai 0,ai 0,.slice none 0 0,ab 0] 40) rfl
 have OJ:Hid (Below u2.heap.size u2 V3):=by rw [hV3];exact aj.below (ag _ _) (R.au (S:=(·=u2.heap.size)) rfl _ 0 (aj.refl _ _)) (λk e=>by omega)
 rw [<-hV3];clear hV3 SC Pg;obtain⟨rb,kj⟩:∃rb,rb=u2.heap.size:=⟨_,rfl⟩
 have s0:=HB.out.size
 have s1:=PF.out.size
 have s2:=PC.out.size
 have s3:=OJ.out.size
 have hBu:Below w.heap.size w u1:=aa HB.out PF.out
 have hN2:∀j,N2 j->N j\/u1.heap.size<=j:=PC.out.1
 have hBt:aj N w V3:=((aj.of hBu).trans PC.out.2).trans (aj.of OJ.out)
 have hOwlt:∀j,B.cA m j->j<w.heap.size:=WH.out.bw.cK
 have hN2lt:∀j,N2 j->j<u2.heap.size:=λj e=>(PG.out.mQ j e).2
 have hBkV:Hid (B.Bk (λj=>(¬N2 j/\¬X j)/\j≠w.heap.size+1) V3 m Q):=B.Bk.v_ WH.out hBt.Ii Tu.out (λj hj hn=>⟨hn.1,⟨λe=>(hN2 j e).elim hn.1 (λe=>by have:=hBu.size;omega),hn.2⟩,by omega⟩) (λj hj=>⟨⟨λe=>by have:=hN2lt j e;omega,λe=>by have:=QI.out j e;omega⟩,by have:=QT.out;omega⟩)
 have hNO:∀j,N2 j->¬B.cA m j:=λj e ho=>(hN2 j e).elim (λh=>Tu.out j h ho) (λh=>by have:=hOwlt j ho;have:=hBu.size;omega)
 have ri:Hid (Row V3 a2 n2 c2 (S.aN rr.data)):=O0.out.read.later OJ.out
 have hrl:Hid (B.Row V3 a2 n2 c2 rr.data):=Gy ri.out XH.out
 have hn2:rr.data.length=n2:=hrl.out.len
 have OW:Hid (∀U:World,aj (B.cA m) V3 U->U.rangeAt w.heap.size 0 x.L/\R.Bx U rb (aZ rr a2 n2 c2)):=λU hU=>⟨mf (mf HX.out ((aj.of PF.out).trans (PC.out.2.trans (aj.of OJ.out))) (λe=>by have:=(HK.out.mQ _ e).2;omega)) hU (λe=>by have:=hOwlt _ e;omega),R.Bx.but hU (by rw [kj];exact Pw.out) (λe=>by have:=hOwlt _ e;omega)⟩
 have Xn:Hid (∀U,Below V3.heap.size V3 U->Calls Tryz.prog 35 #[x.v] U λe w'=>∃d' g':B.Sl,e=.returned (x.with d' g').v/\d'.n=x.d.n/\g'.n=x.gs.n/\B.Cn U w' (x.with d' g') bs gs/\Below U.heap.size U w'):=λU hU=>B.lY x bs gs U ((HR.out.but hBt.Ii Xr.out).later hU) ((HG.out.but hBt.Ii W7.out).later hU) XI.out XT.out
 have Xg:Hid (∀U,Below V3.heap.size V3 U->Calls Tryz.prog 39 #[bR rr a2 n2 c2] U λe w'=>∃d':B.Sl,e=.returned (B.bR rr.code (mT rr.cap) d' rr.num)/\d'.n=n2/\Below U.heap.size U w'):=λU hU=>B.oZ rr.code rr.num (mT rr.cap) ⟨a2,n2,c2⟩ rr.data U (hrl.out.later hU) (by have:=W3.out;show n2<=_;omega)
 have P0:Hid (∀(U:World) (d g d':B.Sl),Below V3.heap.size V3 U->B.Row U (x.with d g).d.a (x.with d g).d.n (x.with d g).d.c bs->B.RI U (x.with d g).gs.a (x.with d g).gs.n (x.with d g).gs.c gs->(∀j,B.aI d.a j->V3.heap.size<=j/\j<U.heap.size)->(∀j,B.aI g.a j->V3.heap.size<=j/\j<U.heap.size)->d.n=x.d.n->g.n=x.gs.n->d'.n=n2->d.c<=9223372036854775807->Calls Tryz.prog 38 #[aq m.g,(x.with d g).v,B.bR rr.code (mT rr.cap) d' rr.num] U λe w'=>e=.returned (.tuple #[])/\B.Nx (λj=>(¬N2 j/\¬X j)/\j≠w.heap.size+1) U w' m Q' Z'):=λU d g d' hU h1 h2 h3 h4 h5 h6 h7 h8=>UF.out _ U d g d' (hBkV.out.later hU) h1 h2 (λj hj=>(h3 j hj).2) (λj hj=>(h4 j hj).2) (λj hj e=>by have:=(h3 j hj).1;have:=hOwlt j e;omega) (λj hj e=>by have:=(h4 j hj).1;have:=hOwlt j e;omega) h5 h6 (by omega) h8
 have Sx:Hid (Zr V3 (w.heap.size+1)):=(((HZ.out.later PF.out).but PC.out.2 (λe=>by have:=(HK.out.mQ _ e).2;omega)).later OJ.out)
 rw [<-kj];clear kj;go_cut [12] (λv12 U=>v12=aq m.g/\∃m6,Hid (B.Bk (λj=>(¬N2 j/\¬X j)/\j≠w.heap.size+1) U m6 Q')/\Hid (m6.g=m.g)/\Hid (B.Sz Q' Z')/\Hid (∀j,B.cA m6 j->B.cA m j\/V3.heap.size<=j)/\Hid (aj (B.cA m) V3 U))
 case first =>
  refine wp_region_held_drew (S:=(λU:World=>U.rangeAt w.heap.size 0 x.L/\R.Bx U rb (aZ rr a2 n2 c2))) (by kernel_rfl) (OW.out _ (aj.of (Below.refl _ _).drew)) (λhHeld=>?_)
  refine nm 6 0 6 ?_
  refine tn 0 6 1 5 ?_
  simp only [zz];refine tv 1 (v:=x.v) ?_ ?_
  ·(intro w hSw;(try dsimp only at hSw);exact B.df rfl rfl (Jx hSw.1))
  simp only [zz];refine nm 6 3 4 ?_
  refine tv 3 (v:=bR rr a2 n2 c2) ?_ ?_
  ·(intro w hSw;(try dsimp only at hSw);exact B.df rfl rfl (ud hSw.2))
  simp only [zz];refine nm 6 11 3 ?_
  refine zr 2 λK hK=>?_
  go_simp
  go_wp2_with (first|(go_at_call 35;refine (Xn.out V3.drew (Below.refl _ _).drew).mono ?_;rintro e u4 ⟨d4,g4,rfl,hd4,hg4,hcn,hb⟩;have QM:Hid (Below V3.heap.size V3 u4):=aa (Below.refl _ _).drew hb;have PZ:=ae hcn;have Xq:=ae hd4;have XX:=ae hg4;clear hd4 hg4 hcn hb))
  refine zk hK 6 15 2 (OW.out _ (aj.of QM.out)) λhHeld=>?_
  clear hK K;try simp only [zz]
  refine zr 4 λK hK=>?_
  go_simp
  go_wp2_with (first|(go_at_call 39;refine (Xg.out u4 QM.out).mono ?_;rintro e u5 ⟨d5,rfl,hd5,hb⟩;have RF:Hid (Below V3.heap.size V3 u5):=aa QM.out hb;have Un:=ae hb;have XO:=ae hd5;clear hd5 hb))
  refine zk hK 6 31 1 (OW.out _ (aj.of RF.out)) λhHeld=>?_
  clear hK K;try simp only [zz]
  refine zr 5 λK hK=>?_
  go_simp
  go_wp2_with (first|(go_at_call 38;refine (P0.out u5 d4 g4 d5 RF.out (PZ.out.d.later Un.out) (PZ.out.g.later Un.out) (λj hj=>⟨Nat.le_trans (Nat.le_refl V3.heap.size) (PZ.out.db j hj).1,Nat.lt_of_lt_of_le (PZ.out.db j hj).2 Un.out.size⟩) (λj hj=>⟨Nat.le_trans (Nat.le_refl V3.heap.size) (PZ.out.gb j hj).1,Nat.lt_of_lt_of_le (PZ.out.gb j hj).2 Un.out.size⟩) Xq.out XX.out XO.out PZ.out.dc).mono ?_;rintro e u6 ⟨rfl,m6,hk6,ht6,hz6⟩;have QA:Hid (Below V3.heap.size V3 u5):=RF.out;have Vz:=ae hk6;have Qd:=ae ht6;have UH:=ae hz6;clear hk6 ht6 hz6))
  refine zk hK 6 63 0 (OW.out _ ((aj.of QA.out).trans (B.aj.Js Qd.out.bt))) λhHeld=>?_
  clear hK K;try simp only [zz]
  refine zn ?_ _
  (try go_wp2)
  go_meet;exact⟨rfl,m6,Vz,Qd.out.g,UH,λj hj=>(Qd.out.gr j hj).imp id (λh=>Nat.le_trans QA.out.size h),(aj.of QA.out).trans (B.aj.Js Qd.out.bt)⟩
 case rest =>
 rename World=>p2
 obtain⟨rfl,m6,Vz,VC,UH,Te,O7⟩:=hcut
 have Xh:=ae (ud (OW.out _ O7.out).2)
 have hZ6:Zr p2 (w.heap.size+1):=Sx.out.but O7.out (λe=>by have:=hOwlt _ e;omega)
 have O6:=ae (hZ6.st rr a2 n2 c2)
 have Qp:=ae (hZ6.lv rr a2 n2 c2)
 go_wp2_with (first|((with_reducible refine R.aJ Xh.out ?_ ?_);(· rfl))|((with_reducible refine a_ O6.out ?_ ?_ ?_);(· rfl);(· rfl)))
 have hs6:=O7.out.size
 have hW2:=QT.out
 have hK3:Kn V3 H s' N2:=PG.out.later OJ.out
 have hj:∀j,j=w.heap.size+1->¬N2 j:=λj e h=>(hN2 j h).elim (λh=>by have:=(HK.out.mQ _ h).2;omega) (λh=>by omega)
 have hBx:aj (·=w.heap.size+1) p2 (p2.setCells (w.heap.size+1) 0 (aZ rr a2 n2 c2)):=R.au (S:=(·=w.heap.size+1)) rfl _ 0 (aj.refl _ _)
 have hO2:Own V3 w.heap.size 5 a2 n2 c2 (S.aN rr.data):=(O0.out.later OJ.out).mono (by omega)
 have hBa:∀k,aI a2 k->¬N2 k/\¬B.cA m k/\k≠w.heap.size+1/\k<V3.heap.size:=λk hk=>by
  have h1:=O0.out.dB k hk
  have h2:=Bh O0.out k hk
  exact⟨Qa.out k hk,λe=>by have:=hOwlt k e;omega,by omega,by omega⟩
 have hX:aj (λj=>N j\/B.cA m j) w p2:=(hBt.mono (λj h=>.inl h)).trans (O7.out.mono (λj h=>.inr h))
 refine bodyPost_ret (v:=bR rr a2 n2 c2) (by simp [results,Tryz.results29,asAddr,Qp.out]) rfl ⟨a2,n2,c2,N2,m6,rfl,(hO2.but O7.out (λk hk=>(hBa k hk).2.1)).but hBx (λk hk=>(hBa k hk).2.2.1),(hK3.but O7.out hNO SH.out).but hBx (λk hk e=>hj k e hk) (by omega),B.Bk.v_ Vz.out hBx.Ii (λj e ho=>by subst e;exact (Te.out _ ho).elim (λh=>by have:=hOwlt _ h;omega) (λh=>by omega)) (λk _ h=>⟨h.2,h.1⟩) (λk hk=>⟨λe=>by have:=hN2lt k e;have:=hBx.size;omega,λe=>by have:=QI.out k e;have:=hBx.size;omega⟩),UH.out,λj h ho=>(Te.out j ho).elim (hNO j h) (λh2=>by have:=hN2lt j h;omega),VC.out,⟨hBx.os.trans hX.os,hBx.tape.trans hX.tape,hBx.output.trans hX.output,Nat.le_trans hX.size hBx.size,λj hj hn=>(hBx.block j (Nat.lt_of_lt_of_le hj hX.size) (by omega)).trans (hX.block j hj hn)⟩,λj h=>(hN2 j h).imp id (λh=>by omega),λh=>(Te.out _ h).elim SH.out (λh=>by omega),λk hk=>⟨(hBa k hk).1,λh=>(Te.out _ h).elim (hBa k hk).2.1 (λh=>by have:=(hBa k hk).2.2.2;omega)⟩,λj h=>(Te.out j h).imp id (λh=>by omega)⟩
end
end Go.Proofs.YtmhinfbkmjdgfaaGreatDoor.V
