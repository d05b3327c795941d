import Derived.LaidEql
import Derived.Stop.Asserts
import Derived.RowKitTokens
import Derived.Test.YtmhinfbkmjdgfaaGreatDoorZ05
set_option linter.unusedVariables false
set_option linter.unusedSimpArgs false
set_option maxRecDepth 100000
set_option maxHeartbeats 4000000
namespace Go.Proofs.YtmhinfbkmjdgfaaGreatDoor.D
open Go.RowKit
open Go.Proofs.YtmhinfbkmjdgfaaGreatDoor.H (az)
def Spec (P:Nat->Bool)(c:Nat->Nat)(n k t:Nat)(R:Nat×Int×Nat):Prop :=
 ∃q:Nat,R.2.2=t+q/\q<=k/\t+q<=n /\
  ((R.2.1=0/\0<q/\R.1=c (t+q - 1)/\P R.1=false/\∀j,j<q - 1->P (c (t+j))=true) \/
  (R.2.1=11/\R.1=0/\t+q=n/\q<k/\∀j,j<q->P (c (t+j))=true) \/
  (R.2.1=12/\R.1=0/\q=k/\∀j,j<q->P (c (t+j))=true))
theorem ik {P:Nat->Bool}{c:Nat->Nat}{n:Nat}:∀{k t:Nat},t<=n->Spec P c n k t (bZ P c n k t)
 | 0,t,h=>⟨0,rfl,Nat.le_refl _,h,.inr (.inr ⟨rfl,rfl,rfl,λj hj=>by omega⟩)⟩
 | k+1,t,h=>by
  by_cases ht:t<n
  ·cases hp:P (c t) with
   | false =>
    rw [ny ht hp];exact⟨1,rfl,by omega,by omega,.inl ⟨rfl,by omega,rfl,hp,λj hj=>by omega⟩⟩
   | true =>
    rw [ot ht hp];obtain⟨q,h1,h2,h3,hc⟩:=ik (P:=P) (c:=c) (n:=n) (k:=k) (t:=t+1) (by omega)
    have hall:∀s,(∀j,j<s->P (c (t+1+j))=true)->∀j,j<s+1->P (c (t+j))=true:=λs hs j hj=>by
     cases j with
     | zero=>exact hp
     | succ j =>
      have:=hs j (by omega)
      rwa [show t+1+j=t+(j+1) by omega] at this
    refine⟨q+1,by rw [h1];omega,by omega,by omega,?_⟩
    rcases hc with ⟨e1,e2,e3,e4,e5⟩|⟨e1,e2,e3,e4,e5⟩|⟨e1,e2,e3,e5⟩
    ·refine .inl ⟨e1,by omega,by rw [e3];congr 1;omega,e4,?_⟩
     have:=hall (q - 1) e5
     rwa [show q - 1+1=q+1 - 1 by omega] at this
    ·exact .inr (.inl ⟨e1,e2,by omega,by omega,hall q e5⟩)
    ·exact .inr (.inr ⟨e1,e2,by omega,hall q e5⟩)
  ·rw [nT ht]
   exact⟨0,rfl,by omega,by omega,.inr (.inl ⟨rfl,rfl,by omega,by omega,λj hj=>by omega⟩)⟩
end Go.Proofs.YtmhinfbkmjdgfaaGreatDoor.D
namespace Go.Proofs.YtmhinfbkmjdgfaaGreatDoor
open Go.RowKit Go.Shelf H
variable {L:List Value}{base cap k n:Nat}{a:Option Addr}{e:TypeId}{w:World}
theorem Ow.form (h:Ow w base e k a n cap L):(a=none/\n=0/\cap=0)\/∃g,a=some ⟨g,0,none⟩/\(∀j,w.frozen? ⟨g,j,none⟩=false)/\n<=cap:=by
 rcases h.2 with ⟨h1,h2⟩|⟨g,c,cur,hv,_,hh,hc,_⟩
 ·simp only [Value.slice.injEq] at h1
  exact .inl ⟨h1.1,h2,h1.2.2⟩
 ·simp only [Value.slice.injEq] at hv
  obtain⟨rfl,_,rfl⟩:=hv
  exact .inr ⟨g,rfl,λj=>by simp [World.frozen?,hh],hc⟩
theorem Ow.jO {g:Nat}(h:Ow w base e k (some ⟨g,0,none⟩) n cap L)(j:Nat)(u:Value):Ow (w.setCell ⟨g,j,none⟩ u) base e k (some ⟨g,0,none⟩) n cap (L.set j u):=(World.ownsRow.stored h j u).1
def Rv (w:World)(a:Option Addr)(L:List Value):Prop:=∀g,a=some ⟨g,0,none⟩->∀j u,L[j]?=some u->w.cell? ⟨g,j,none⟩=some u
theorem Ow.rv (h:Ow w base e k a n cap L):Rv w a L:=λg e j u hu=>by
 by_cases hn:0<n
 ·obtain⟨b,hb,hc⟩:=h.at_ hn
  rw [hb] at e;cases e
  exact hc j u hu
 ·have hl:=h.1
  have h0:n=0:=by omega
  rw [h0,Nat.zero_mul] at hl;rw [List.eq_nil_of_length_eq_zero hl] at hu;cases hu
end Go.Proofs.YtmhinfbkmjdgfaaGreatDoor
namespace Go.Proofs.YtmhinfbkmjdgfaaGreatDoor.D
open Go.RowKit
open Go.Proofs.YtmhinfbkmjdgfaaGreatDoor.H (az)
variable {A:Ad}{l:Fo}{X:List Tk}{N kn mo:Nat}{w:World}
def Ax (X:List Tk)(l:Fo)(o:Int)(N:Nat):Bool:=bn X l (o,N / az,N%az)
theorem iH (h:N<az*az):N / az<az/\N%az<az:=⟨Nat.div_lt_of_lt_mul h,Nat.mod_lt _ (by decide)⟩
theorem zE {k1 k2:Nat}{o:Int}(h1:w.cell? ⟨k1,0,none⟩=some (aq A.g))(h2:w.cell? ⟨k2,0,none⟩=some (ab o))(h:jb w A kn mo X l)(hN:N<az*az) :
  Calls Tryz.prog 393 #[.agg #[ai (di N),ai (dj N)],aq k1,aq k2] w λe w'=>e=.returned (.bool (Ax X l o N))/\Below w.heap.size w w':=by
 have hb:=ag w (Obj.cells #[ai (di N),ai (dj N)] 30)
 have hc:Hid (Calls Tryz.prog 342 #[aq A.g,.agg #[ab o,ai (di N),ai (dj N)]] (w.alloc (Obj.cells #[ai (di N),ai (dj N)] 30)) λe w'=>e=.returned (.tuple #[ab (aX X l (o,N / az,N%az)),.bool (Ax X l o N)])/\Below (w.alloc (Obj.cells #[ai (di N),ai (dj N)] 30)).heap.size (w.alloc (Obj.cells #[ai (di N),ai (dj N)] 30)) w'):=jG (h.later hb) (o,N / az,N%az) (iH hN)
 have y1:=cell_later hb h1
 have y2:=cell_later hb h2
 generalize aX X l (o,N / az,N%az)=q at *
 generalize Ax X l o N=P at *
 clear h h1 h2 hb;go_enter Tryz.func393,Tryz.ntmps393
 go_wp2_with (first|(go_at_call 342;refine hc.out.mono ?_;rintro e w1 ⟨rfl,hB⟩;have HB:=ae hB;clear hB))
 go_ret;exact⟨rfl,aa (ag _ _) HB.out⟩
theorem CW {g gb n:Nat}{c:Nat->Nat}{t:Nat}(h:Dr w g gb n c t)(hcs:∀i,i<n->c i<az*az)(hc:jb w A kn mo X l)(hn:∀k,A.jP k->k≠g)(o:Int) :
  Calls Tryz.prog 350 #[aq g,aq A.g,ab o] w (fL w g gb n c t (Ax X l o)):=by
 obtain⟨w1,hw1⟩:∃w1,w1=((w.alloc (Obj.cells #[aq A.g] 119)).alloc (Obj.cells #[ab o] 3)).alloc (Obj.cells #[ai 0,ai 0] 30):=⟨_,rfl⟩
 have hB1:Below w.heap.size w w1:=by rw [hw1];exact (aB _ _ _).alloc (by simp;omega) _
 have x0:w1.cell? ⟨w.heap.size,0,none⟩=some (aq A.g):=by rw [hw1];simp [go_sem]
 have x1:w1.cell? ⟨w.heap.size+1,0,none⟩=some (ab o):=by rw [hw1];simp [go_sem]
 have l0:aM w1 ⟨w.heap.size+1+1,0,none⟩ (ai 0):=by rw [hw1];exact⟨by simp [go_sem],by simp [go_sem]⟩
 have l1:aM w1 ⟨w.heap.size+1+1,1,none⟩ (ai 0):=by rw [hw1];exact⟨by simp [go_sem],by simp [go_sem]⟩
 have hg:=h.lt
 have HG:=ae h.pB
 have hcc:=ae (C6 (h.later hB1) hcs (Ax X l o) w.heap.size (w.heap.size+1) (λW hW N hN=>zE (an hW x0 (by show ¬(w.heap.size=g);omega)) (an hW x1 (by show ¬(w.heap.size+1=g);omega)) ((hc.later hB1).but hW (λk hk=>hn k hk)) hN))
 have OI:Hid (aj (·=g) w w1):=aj.of hB1
 have HL:=ae (And.intro l0 l1)
 clear h hc hB1 x0 x1 l0 l1 hn;go_enter Tryz.func350,Tryz.ntmps350
 go_upto_region 1 with fail
 rw [<-hw1];clear hw1;obtain⟨R,hR⟩:∃R,R=bZ (Ax X l o) c n 9 t:=⟨_,rfl⟩
 unfold fL at hcc;rw [<-hR] at hcc;have HR:=ae hR
 clear hR;go_upto_region 2 with (first|(go_at_call 392;refine hcc.out.mono ?_;rintro e w2 ⟨rfl,hD,hB⟩;have HD:=ae hD;have HB:=ae (OI.out.trans hB);have Qh:Hid (aM w2 ⟨w.heap.size+1+1,0,none⟩ (ai 0)/\aM w2 ⟨w.heap.size+1+1,1,none⟩ (ai 0)):=⟨HL.out.1.but hB (by show ¬(w.heap.size+1+1=g);omega),HL.out.2.but hB (by show ¬(w.heap.size+1+1=g);omega)⟩;clear hD hB;have x0:=Qh.out.1.1;have x1:=Qh.out.2.1;have f0:=Qh.out.1.2;have f1:=Qh.out.2.2))
 have HQ:=ae (iK x0 x1 (ai (di R.1)) (ai (dj R.1)))
 refine bodyPost_ret (v:=.tuple #[.agg #[ai (di R.1),ai (dj R.1)],ab R.2.1]) (by simp [results,Tryz.results350,go_sem,HQ.out.1,HQ.out.2]) rfl ?_
 show fL _ _ _ _ _ _ _ _ _
 unfold fL;rw [<-HR.out];refine⟨rfl,?_,?_⟩
 ·exact (HD.out.gu (b:=w.heap.size+1+1) (by omega) (λh0=>by have:=HG.out h0;omega) 0 _).gu (b:=w.heap.size+1+1) (by omega) (λh0=>by have:=HG.out h0;omega) 1 _
 ·exact (HB.out.put (p:=⟨w.heap.size+1+1,0,none⟩) (by show _<=w.heap.size+1+1;omega) _).put (p:=⟨w.heap.size+1+1,1,none⟩) (by show _<=w.heap.size+1+1;omega) _
end Go.Proofs.YtmhinfbkmjdgfaaGreatDoor.D
namespace Go.Proofs.YtmhinfbkmjdgfaaGreatDoor.D
open Go.RowKit
open Go.Proofs.YtmhinfbkmjdgfaaGreatDoor.H (az Cp)
variable {c:Cp}{l:Fo}{o p r:Int}{X:List Tk}{N m t:Nat}
structure bc where
 X:List Tk
 l:Fo
 L:List Int
 t:Nat
structure Par where
 mo:Nat
 e:Int
 a:Int
 n:Nat
 c:Nat->Nat
structure Fit (P:Par)(s:bc):Prop where
 inv:Inv P.mo s.X s.l
 jU:∀o,s.L.count o=mY s.X s.l o
 len:s.L.length=s.l.length
 top:P.a<=(P.mo:Int)
 le:s.t<=P.n
 cs:∀i,i<P.n->P.c i<az*az
theorem uD (h:Inv m X l){k:Nat}(p:Int)(c:Cp)(r:Int)(hk:k<m)(hn:(k:Int)∉aF l)(o:Int) :
  mY (X.set k (c,r)) (l++[((k:Int),p)]) o=mY X l o+if c.1=o then 1 else 0:=by
 unfold mY;rw [cT,List.filter_append,List.length_append];congr 1
 ·congr 1
  refine List.filter_congr (λx hx=>?_)
  unfold ob;rw [dY _ (gH h.ok hx) (λe=>hn (e ▸ hx))]
 ·have hs:ob (X.set k (c,r)) (k:Int)=c.1:=by unfold ob;rw [fY _ (by rw [h.len];exact hk)]
  by_cases e:c.1=o
  ·rw [if_pos e,List.filter_cons_of_pos (by simp [hs,e])];rfl
  ·rw [if_neg e,List.filter_cons_of_neg (by simp [hs,e])];rfl
theorem e_ :eG X l o=true↔0<mY X l o:=by
 rw [fR];unfold mY;rw [List.length_pos_iff_exists_mem];constructor
 ·rintro ⟨n,hn,e⟩;exact⟨n,List.mem_filter.2 ⟨hn,decide_eq_true e⟩⟩
 ·rintro ⟨n,hn⟩;exact⟨n,(List.mem_filter.1 hn).1,of_decide_eq_true (List.mem_filter.1 hn).2⟩
theorem Fit.room {P:Par}{s:bc}(h:Fit P s)(hm:Q.may P.e P.a s.L o=0):s.l.length<P.mo:=by
 have:=(Q.lP hm).2
 have:=h.len
 have:=h.top
 omega
def cap (o:Int)(N:Nat):Cp:=(o,N / az,N%az)
structure sK where
 c:Cp
 code:Int
 s:bc
def no (s:bc)(c:Int):sK:=⟨(0,0,0),c,s⟩
def mC (s:bc)(o:Int)(N:Nat)(p r:Int)(t:Nat):bc:=⟨s.X.set (low s.l) (cap o N,r),s.l++[((low s.l:Int),p)],s.L++[o],t⟩
def eV (P:Par)(s:bc)(o:Int)(D:Nat×Int×Nat)(p r:Int):sK :=
 if Q.may P.e P.a s.L o≠0 then no s (Q.may P.e P.a s.L o) else if D.2.1≠0 then no { s with t:=D.2.2 } D.2.1 else ⟨cap o D.1,0,mC s o D.1 p r D.2.2⟩
def cR (P:Par)(t:Nat):Nat×Int×Nat:=if t<P.n then (P.c t,0,t+1) else (0,11,t)
def cn (P:Par)(s:bc)(o:Int):Nat×Int×Nat:=bZ (Ax s.X s.l o) P.c P.n 9 s.t
def bH (P:Par)(s:bc)(o:Int):sK:=if 0<mY s.X s.l o then no s 19 else eV P s o (cR P s.t) (-1) 31
def eX (s:bc)(c:Cp):Int:=rg s.X (aX s.X s.l c)
def bV (P:Par)(s:bc)(c:Cp)(r:Int):sK :=
 if bn s.X s.l c=false then no s 3 else if aS 4 (eX s c)=false\/aS r (eX s c)=false then no s 4 else eV P s c.1 (cn P s c.1) (aX s.X s.l c) r
structure Du (P:Par)(s:bc)(c:Cp)(p r:Int):Prop where
 new:bn s.X s.l c=false
 wide:c.2.1<az/\c.2.2<az
 val:bK r=true
 at_:(p=-1/\eG s.X s.l c.1=false)\/(p∈aF s.l/\ob s.X p=c.1/\aS r (rg s.X p)=true)
theorem oL {P:Par}{s:bc}(h:Fit P s)(hm:Q.may P.e P.a s.L o=0)(hc:bn s.X s.l (cap o N)=false) :
  gz P.mo s.X s.l p (cap o N) r=⟨(low s.l:Int),0,s.X.set (low s.l) (cap o N,r),s.l++[((low s.l:Int),p)]⟩:=by
 have:=h.room hm
 unfold gz;rw [if_neg (by rw [hc];decide),if_neg (by omega)]
theorem yX {P:Par}{s:bc}(h:Fit P s)(hm:Q.may P.e P.a s.L o=0)(ho:¬0<mY s.X s.l o) :
  j1 P.mo s.X s.l (cap o N) 31=⟨(low s.l:Int),0,s.X.set (low s.l) (cap o N,31),s.l++[((low s.l:Int),-1)]⟩:=by
 have hO:¬eG s.X s.l o=true:=λe=>ho (e_.1 e)
 have hC:bn s.X s.l (cap o N)=false:=by
  cases hc:bn s.X s.l (cap o N) with
  | false=>rfl
  | true=>exact absurd (fG hc) hO
 unfold j1;rw [if_neg (by decide),if_neg (show ¬eG s.X s.l (cap o N).1=true from hO)];exact oL h hm hC
theorem wT {P:Par}{s:bc}(h:Fit P s)(hm:Q.may P.e P.a s.L o=0)(hc:bn s.X s.l (cap o N)=false)(hp:p∈aF s.l)(ho:ob s.X p=o)(hr:aS r (rg s.X p)=true) :
  gw P.mo s.X s.l p (cap o N) r=⟨(low s.l:Int),0,s.X.set (low s.l) (cap o N,r),s.l++[((low s.l:Int),p)]⟩:=by
 unfold gw;rw [if_neg (by simp [hp]),if_neg (by simp [ho,cap]),if_neg (by rw [hr];decide)]
 exact oL h hm hc
theorem Fit.add {P:Par}{s:bc}(h:Fit P s)(hm:Q.may P.e P.a s.L o=0)(hy:Du P s (cap o N) p r)(ht:t<=P.n):Fit P (mC s o N p r t):=by
 have hr:=h.room hm
 have hlo:=tI h.inv.ok hr
 refine⟨h.inv.add hlo (fx s.l) hy.new hy.wide hy.val hy.at_,λx=>?_,by simp [mC,h.len],h.top,ht,h.cs⟩
 show (s.L++[o]).count x=mY (s.X.set (low s.l) (cap o N,r)) (s.l++[((low s.l:Int),p)]) x
 rw [uD h.inv p (cap o N) r hlo (fx s.l) x,List.count_append,h.jU x];congr 1
 rw [List.count_singleton];by_cases e:o=x
 ·simp [cap,e]
 ·simp [cap,e]
theorem Fit.Jd {P:Par}{s:bc}(h:Fit P s)(ht:t<=P.n):Fit P { s with t:=t }:=⟨h.inv,h.jU,h.len,h.top,ht,h.cs⟩
theorem Fit.tok {P:Par}{s:bc}(h:Fit P s){D:Nat×Int×Nat}(ht:D.2.2<=P.n)(hy:Q.may P.e P.a s.L o=0->D.2.1=0->Du P s (cap o D.1) p r):Fit P (eV P s o D p r).s:=by
 unfold eV;by_cases hm:Q.may P.e P.a s.L o=0
 ·rw [if_neg (by simp [hm])]
  by_cases hd:D.2.1=0
  ·rw [if_neg (by simp [hd])]
   exact h.add hm (hy hm hd) ht
  ·rw [if_pos hd]
   exact h.Jd ht
 ·rw [if_pos hm]
  exact h
theorem yJ {P:Par}(h:t<=P.n):(cR P t).2.2<=P.n:=by unfold cR;split<;>simp<;>omega
theorem fQ {P:Par}{s:bc}(h:Fit P s)(t:Nat):(cR P t).1<az*az:=by
 unfold cR;split
 ·next ht=>exact h.cs t ht
 ·show (0:Nat)<az*az;decide
theorem uo {P:Par}{s:bc}(h:Fit P s)(ho:¬0<mY s.X s.l o)(hN:N<az*az):Du P s (cap o N) (-1) 31:=by
 have hO:eG s.X s.l o=false:=by
  cases hc:eG s.X s.l o with
  | false=>rfl
  | true=>exact absurd (e_.1 hc) ho
 refine⟨?_,iH hN,by decide,.inl ⟨rfl,hO⟩⟩
 cases hc:bn s.X s.l (cap o N) with
 | false=>rfl
 | true=>exact absurd (fG hc) (by show ¬eG s.X s.l o=true;rw [hO];decide)
theorem Fit.root {P:Par}{s:bc}(h:Fit P s)(o:Int):Fit P (bH P s o).s:=by
 unfold bH;by_cases ho:0<mY s.X s.l o
 ·rw [if_pos ho];exact h
 ·rw [if_neg ho]
  exact h.tok (yJ h.le) (λ_ _=>uo h ho (fQ h s.t))
theorem rk {P:Par}{s:bc}(h:Fit P s)(o:Int):Spec (Ax s.X s.l o) P.c P.n 9 s.t (cn P s o):=ik h.le
theorem l_ {P:Par}{s:bc}(h:Fit P s)(hd:(cn P s o).2.1=0):bn s.X s.l (cap o (cn P s o).1)=false:=by
 obtain⟨q,h1,h2,h3,hc⟩:=rk h o
 rcases hc with ⟨e1,e2,e3,e4,e5⟩|⟨e1,_⟩|⟨e1,_⟩
 ·exact e4
 ·rw [hd] at e1;cases e1
 ·rw [hd] at e1;cases e1
theorem found (h:Inv m X l)(hc:bn X l c=true):aX X l c∈aF l/\(tk X (aX X l c)).1=c:=by
 obtain⟨n,hn,rfl⟩:=bW.1 hc
 rw [gC h hn];exact⟨hn,rfl⟩
theorem pG {P:Par}{s:bc}(h:Fit P s)(hc:bn s.X s.l c=true)(hp:aS r (eX s c)=true)(hd:(cn P s c.1).2.1=0):Du P s (cap c.1 (cn P s c.1).1) (aX s.X s.l c) r:=by
 obtain⟨h1,h2⟩:=found h.inv hc
 exact⟨l_ h hd,iH (gx h.cs),jX hp,.inr ⟨h1,by unfold ob;rw [h2];rfl,hp⟩⟩
theorem Fit.child {P:Par}{s:bc}(h:Fit P s)(c:Cp)(r:Int):Fit P (bV P s c r).s:=by
 unfold bV;by_cases hc:bn s.X s.l c=true
 ·rw [if_neg (by rw [hc];decide)]
  by_cases hp:aS 4 (eX s c)=false\/aS r (eX s c)=false
  ·rw [if_pos hp];exact h
  ·rw [if_neg hp]
   have hp2:aS r (eX s c)=true:=by
    cases hq:aS r (eX s c) with
    | true=>rfl
    | false=>exact absurd (.inr hq) hp
   exact h.tok (ru h.le) (λ_ hd=>pG h hc hp2 hd)
 ·rw [if_pos (by simpa using hc)];exact h
end Go.Proofs.YtmhinfbkmjdgfaaGreatDoor.D
namespace Go.Proofs.YtmhinfbkmjdgfaaGreatDoor.V
open Go.RowKit
open Go.Proofs.YtmhinfbkmjdgfaaGreatDoor.H (az Cp)
structure bc where
 X:List Tk
 l:Fo
 L:List Int
 nx:Int
 V:List (Int×List Nat)
 t:Nat
 px:Int
 P:List Int
 ks:List Int
 D:Int->List Cp
structure Fit (mo:Nat)(s:bc):Prop where
 inv:Inv mo s.X s.l
 jU:∀o,s.L.count o=mY s.X s.l o
 len:s.L.length=s.l.length
 obj:∀o,(∃p∈s.V,p.1=o)↔eG s.X s.l o=true
 ids:∀p∈s.V,1<=p.1/\p.1<s.nx
open Go.Proofs.YtmhinfbkmjdgfaaGreatDoor.D (e_)
def J2 (V:List (Int×List Nat))(o:Int):List (Int×List Nat):=V.filter (λp=>decide (p.1≠o))
def Fl (s:bc)(m o:Int):bc:={ s with X:=Ju s.X (G true s.l m),l:=IA s.l (G true s.l m),L:=Q.Iy s.L o ((G true s.l m).length:Int),V:=if par s.l m=-1 then J2 s.V o else s.V }
def GK (X:List Tk)(l:Fo)(o:Int):Int:=(rootOf X l o).getD 0
structure sK where
 K:List Cp
 code:Int
 s:bc
def Hk (all:Bool)(s:bc)(c:Cp):Int:=if all then GK s.X s.l c.1 else aX s.X s.l c
def Hb (all:Bool):Int:=if all then 16 else 8
def Gv (all:Bool)(s:bc)(c:Cp):sK :=
 if bn s.X s.l c=false then ⟨[],3,s⟩ else if aS (Hb all) (rg s.X (aX s.X s.l c))=false then ⟨[],4,s⟩ else
  ⟨(G true s.l (Hk all s c)).map (λk=>(tk s.X k).1),0,Fl s (Hk all s c) c.1⟩
end Go.Proofs.YtmhinfbkmjdgfaaGreatDoor.V
namespace Go.Proofs.YtmhinfbkmjdgfaaGreatDoor.D
open Go.RowKit Go.Extern.Stop Go.Stop Go.Extern
theorem FU (t:Value)(w:World) :
  Calls Tryz.prog 340 #[.nilIface,t] w λe w'=>e=.returned (.bool false)/\w'=w:=by
 go_enter Tryz.func340,Tryz.ntmps340
 go_wp2;go_ret;exact⟨rfl,rfl⟩
theorem ta (t:Addr)(w:World):(ReflectliteValue.unpack (.iface 466 (.pointer (some t)))).run Tryz.prog w
  = .ok (.agg #[.pointer (some ⟨1,466,none⟩),aq w.heap.size,ai 150]) (w.alloc (.cells #[.pointer (some t)] 466)):=by kernel_rfl
theorem type141 (a:Addr)(w:World):(ReflectliteValue.methodAny (ReflectliteValue.valueError "reflectlite.Value.Type" 0) (λt _ _ _=>ReflectliteType.toType t) #[.agg #[.pointer (some ⟨1,466,none⟩),.pointer (some a),ai 150]]).run Tryz.prog w
  = .ok (.iface 531 (.agg #[.pointer (some ⟨1,466,none⟩)])) w:=by kernel_rfl
theorem tK (h:Value)(w:World):(Go.method 693 531 (.agg #[h]) "Kind").run Tryz.prog w=.ok (462,h) w:=by kernel_rfl
theorem tG (h:Value)(w:World):(Go.method 693 531 (.agg #[h]) "Elem").run Tryz.prog w=.ok (481,.agg #[h]) w:=by kernel_rfl
theorem jD (h:Value)(w:World):(Go.method 693 531 (.agg #[h]) "Implements").run Tryz.prog w=.ok (482,.agg #[h]) w:=by kernel_rfl
theorem g_ (h:Value)(w:World):(Go.method 693 531 (.agg #[h]) "AssignableTo").run Tryz.prog w=.ok (479,.agg #[h]) w:=by kernel_rfl
theorem oX (v:Value)(w:World):(Go.method 693 495 v "Unwrap").run Tryz.prog w=.ok (473,v) w:=by kernel_rfl
theorem CR (w:World):((ReflectliteType.abiMethod λt=>(λa:Nat=>Value.int IntKind.u8 (a:Int)) <$> Rtype.kind t) #[.pointer (some ⟨1,466,none⟩)]).run Tryz.prog w=.ok (.int .u8 22) w:=by kernel_rfl
theorem CS (w:World):((ReflectliteType.abiMethod λt=>(λa:Nat=>Value.int IntKind.u8 (a:Int)) <$> Rtype.kind t) #[.pointer (some ⟨1,464,none⟩)]).run Tryz.prog w=.ok (.int .u8 25) w:=by kernel_rfl
theorem Jn (z:Sem Value)(f:TypeId->Addr->Nat->Nat->Sem Value)(v:Value) :
  ReflectliteValue.method z f #[v]=(do match <-ReflectliteValue.parts v with|none=>z|some (t,a,fl)=>f t a fl (fl%32)):=rfl
theorem pR (a:Addr)(w:World):(ReflectliteValue.parts (.agg #[.pointer (some ⟨1,466,none⟩),.pointer (some a),ai 150])).run Tryz.prog w=.ok (some (466,a,150)) w:=by kernel_rfl
theorem xW (a p:Addr)(W:World)(ha:W.cell? a=some (.pointer (some p))) :
  (ReflectliteValue.method (ReflectliteValue.valueError "reflectlite.Value.IsNil" 0) ReflectliteValue.isNil #[.agg #[.pointer (some ⟨1,466,none⟩),.pointer (some a),ai 150]]).run Tryz.prog W=.ok (.bool false) W:=by
 rw [Jn];simp only [Sem.run_bind,pR,Result.andThen];simp [ReflectliteValue.isNil,loadVar,isAgg,underlying,Tryz.underlying466,ha,Result.andThen]
theorem CF (w:World):(ReflectliteType.method ReflectliteType.elem #[.agg #[.pointer (some ⟨1,466,none⟩)]]).run Tryz.prog w=.ok (.iface 531 (.agg #[.pointer (some ⟨1,464,none⟩)])) w:=by kernel_rfl
theorem mR (w:World):(ReflectliteType.relation "Implements" ReflectliteType.implements_ #[.agg #[.pointer (some ⟨1,464,none⟩)],.iface 531 (.agg #[.pointer (some ⟨1,418,none⟩)])]).run Tryz.prog w=.ok (.bool true) w:=by kernel_rfl
theorem vK (v:Value)(w:World):(ReflectliteType.typeOf #[.iface 495 v]).run Tryz.prog w=.ok (.iface 531 (.agg #[.pointer (some ⟨1,495,none⟩)])) w:=by kernel_rfl
theorem wK (v:Value)(w:World):(ReflectliteType.typeOf #[.iface 464 v]).run Tryz.prog w=.ok (.iface 531 (.agg #[.pointer (some ⟨1,464,none⟩)])) w:=by kernel_rfl
theorem mW (w:World):(ReflectliteType.relation "AssignableTo" ReflectliteType.assignableTo #[.agg #[.pointer (some ⟨1,495,none⟩)],.iface 531 (.agg #[.pointer (some ⟨1,464,none⟩)])]).run Tryz.prog w=.ok (.bool false) w:=by kernel_rfl
theorem mG (w:World):(ReflectliteType.relation "AssignableTo" ReflectliteType.assignableTo #[.agg #[.pointer (some ⟨1,464,none⟩)],.iface 531 (.agg #[.pointer (some ⟨1,464,none⟩)])]).run Tryz.prog w=.ok (.bool true) w:=by kernel_rfl
theorem Dd (v:Value)(xT:TypeId)(w:World):(Instr.typeAssert (.iface 495 v) xT 536 true).run Tryz.prog w=.ok (.tuple #[.nilIface,.bool false]) w:=run_typeAssert_lacksB Tryz.underlying536 (by kernel_rfl) (by kernel_rfl) v xT w
theorem oY (v:Value)(xT:TypeId)(w:World):(Instr.typeAssert (.iface 495 v) xT 539 true).run Tryz.prog w=.ok (.tuple #[.iface 495 v,.bool true]) w:=run_typeAssert_hasB Tryz.underlying539 (by kernel_rfl) v xT w
theorem tL (c:Int)(w:World):(ReflectliteValue.unpack (.iface 464 (.agg #[ab c]))).run Tryz.prog w
  = .ok (.agg #[.pointer (some ⟨1,464,none⟩),aq w.heap.size,ai 153]) (w.alloc (.cells #[ab c] 464)):=by kernel_rfl
theorem vT (w:World):(Rtype.elem? 466).run Tryz.prog w=.ok (some 464) w:=by kernel_rfl
theorem Gl (p:Addr)(w:World):(ReflectliteValue.mk 464 p ReflectliteValue.flagAddr).run Tryz.prog w=.ok (.agg #[.pointer (some ⟨1,464,none⟩),.pointer (some p),ai 409]) w:=by kernel_rfl
theorem zc (a p:Addr)(W:World)(ha:W.cell? a=some (.pointer (some p))) :
  (ReflectliteValue.method (ReflectliteValue.valueError "reflectlite.Value.Elem" 0) ReflectliteValue.elem #[.agg #[.pointer (some ⟨1,466,none⟩),.pointer (some a),ai 150]]).run Tryz.prog W
   = .ok (.agg #[.pointer (some ⟨1,464,none⟩),.pointer (some p),ai 409]) W:=by
 rw [Jn];simp only [Sem.run_bind,pR,Result.andThen];simp [ReflectliteValue.elem,loadVar,isAgg,underlying,Tryz.underlying466,ha,Result.andThen,vT,Gl]
theorem JY (v x:Value):ReflectliteValue.set #[v,x]=(do
  let (some (dst,a,fl),some (src,b,_)):=(<-ReflectliteValue.parts v,<-ReflectliteValue.parts x)
   | unsupported (.noEntry "extern/(internal/reflectlite.Value).Set.zeroValue")
  if fl / ReflectliteValue.flagAddr%2==0 then unsupported (.noEntry "extern/(internal/reflectlite.Value).Set.unaddressable")
  let val <-loadVar src b
  if <-Rtype.directlyAssignable dst src then storeVar dst a val
  else if <-Rtype.implements dst src then
   if (<-Rtype.kind src)==20 then
    match val with
    | .nilIface=>unsupported (.noEntry "extern/reflectlite: a nil value of one interface type handed on as a value of another")
    | _=>storeVar dst a val
   else storeVar dst a (.iface src val)
  else panicString ("reflectlite.Set: value of type "++(<-Rtype.spelt src)++ " is not assignable to type "++(<-Rtype.spelt dst))
  pure (.tuple #[])):=rfl
theorem wH (a:Addr)(w:World):(ReflectliteValue.parts (.agg #[.pointer (some ⟨1,464,none⟩),.pointer (some a),ai 409])).run Tryz.prog w=.ok (some (464,a,409)) w:=by kernel_rfl
theorem yt (a:Addr)(w:World):(ReflectliteValue.parts (.agg #[.pointer (some ⟨1,464,none⟩),.pointer (some a),ai 153])).run Tryz.prog w=.ok (some (464,a,153)) w:=by kernel_rfl
theorem wF (w:World):(Rtype.directlyAssignable 464 464).run Tryz.prog w=.ok true w:=by kernel_rfl
theorem FX (tb bb:Nat)(c:Int)(tA:Value)(W:World)(hb:W.cell? ⟨bb,0,none⟩=some (ab c))(ht:W.cell? ⟨tb,0,none⟩=some tA)(hf:W.frozen? ⟨tb,0,none⟩=false) :
  (ReflectliteValue.set #[.agg #[.pointer (some ⟨1,464,none⟩),aq tb,ai 409],.agg #[.pointer (some ⟨1,464,none⟩),aq bb,ai 153]]).run Tryz.prog W
   = .ok (.tuple #[]) (W.setCell ⟨tb,0,none⟩ (ab c)):=by
 rw [JY];simp only [Sem.run_bind,wH,yt,Result.andThen];have hl:(loadVar 464 ⟨bb,0,none⟩).run Tryz.prog W=.ok (.agg #[ab c]) W:=by
  simp [loadVar,isAgg,underlying,Tryz.underlying464,hb,Result.andThen,go_sem]
 simp [ReflectliteValue.flagAddr,hl,Result.andThen,wF,storeVar,Value.cells,storeCells,Addr.add];rw [run_store Tryz.prog W ⟨tb,0,none⟩ _ _ (by rfl)];simp [ht,hf]
def Laid (w:World):Prop:=w.cell? ⟨0,0,none⟩=some (.iface 531 (.agg #[.pointer (some ⟨1,418,none⟩)]))
def dS (s:ByteArray)(c:Int):Value:=.iface 495 (.agg #[.string s,.iface 464 (.agg #[ab c])])
theorem FC (s:ByteArray)(c:Int)(tb:Nat)(tA:Value)(w:World)(hg:Laid w)(ht0:w.cell? ⟨tb,0,none⟩=some tA)(hf0:w.frozen? ⟨tb,0,none⟩=false) :
  Calls Tryz.prog 340 #[dS s c,.iface 466 (aq tb)] w λev w'=>ev=.returned (.bool true)/\w'=(((((w.alloc (.cells #[aq tb] 466)).alloc (.cells #[.pointer (some ⟨1,466,none⟩),aq w.heap.size,ai 150] 499)).alloc (.cells #[.pointer (some ⟨1,466,none⟩),aq w.heap.size,ai 150] 499)).alloc (.cells #[.string s,.iface 464 (.agg #[ab c])] 495)).alloc (.cells #[ab c] 464)).setCell ⟨tb,0,none⟩ (ab c):=by
 have h6:=@run_callFunc_extern Tryz.prog 384 _ (λargs=>ReflectliteValue.unpack (args.getD 0 (.tuple #[]))) Tryz.func384 (by kernel_rfl) (by kernel_rfl) (by kernel_rfl) (by kernel_rfl)
 have h7:=@run_callFunc_extern Tryz.prog 385 _ (ReflectliteValue.methodAny (ReflectliteValue.valueError "reflectlite.Value.Type" 0) (λt _ _ _=>ReflectliteType.toType t)) Tryz.func385 (by kernel_rfl) (by kernel_rfl) (by kernel_rfl) (by kernel_rfl)
 have h8:=@run_callFunc_extern Tryz.prog 386 _ (ReflectliteValue.method (ReflectliteValue.valueError "reflectlite.Value.IsNil" 0) ReflectliteValue.isNil) Tryz.func386 (by kernel_rfl) (by kernel_rfl) (by kernel_rfl) (by kernel_rfl)
 have h27:=@run_callFunc_extern Tryz.prog 462 _ (ReflectliteType.abiMethod λt=>do pure (.int .u8 (<-Rtype.kind t))) Tryz.func462 (by kernel_rfl) (by kernel_rfl) (by kernel_rfl) (by kernel_rfl)
 have h37:=@run_callFunc_extern Tryz.prog 481 _ (ReflectliteType.method ReflectliteType.elem) Tryz.func481 (by kernel_rfl) (by kernel_rfl) (by kernel_rfl) (by kernel_rfl)
 have h38:=@run_callFunc_extern Tryz.prog 482 _ (ReflectliteType.relation "Implements" ReflectliteType.implements_) Tryz.func482 (by kernel_rfl) (by kernel_rfl) (by kernel_rfl) (by kernel_rfl)
 have h10:=@run_callFunc_extern Tryz.prog 417 _ ReflectliteType.typeOf Tryz.func417 (by kernel_rfl) (by kernel_rfl) (by kernel_rfl) (by kernel_rfl)
 have h35:=@run_callFunc_extern Tryz.prog 479 _ (ReflectliteType.relation "AssignableTo" ReflectliteType.assignableTo) Tryz.func479 (by kernel_rfl) (by kernel_rfl) (by kernel_rfl) (by kernel_rfl)
 have h11:=@run_callFunc_extern Tryz.prog 418 _ (ReflectliteValue.method (ReflectliteValue.valueError "reflectlite.Value.Elem" 0) ReflectliteValue.elem) Tryz.func418 (by kernel_rfl) (by kernel_rfl) (by kernel_rfl) (by kernel_rfl)
 have h12:=@run_callFunc_extern Tryz.prog 419 _ ReflectliteValue.set Tryz.func419 (by kernel_rfl) (by kernel_rfl) (by kernel_rfl) (by kernel_rfl)
 have tO:=vK
 have tP:=wK
 have mA:=g_
 have a1:=mW
 have a2:=mG
 have v25:=tL
 have f6:=ta
 have f7:=type141
 have mK:=tK
 have mE:=tG
 have mI:=jD
 have mU:=oX
 have k27:=CR
 have k25:=CS
 have e27:=CF
 have i25:=mR
 have nA:=Dd
 have hU:=oY
 have n8:=xW ⟨w.heap.size,0,none⟩ ⟨tb,0,none⟩ ((w.alloc (.cells #[aq tb] 466)).alloc (.cells #[.pointer (some ⟨1,466,none⟩),aq w.heap.size,ai 150] 499)) (by simp)
 have hlt:0<w.heap.size:=by
  rcases Nat.eq_zero_or_pos w.heap.size with h0|h
  ·unfold Laid at hg;simp [World.cell?,h0] at hg
  ·exact h
 have hg2:((w.alloc (.cells #[aq tb] 466)).alloc (.cells #[.pointer (some ⟨1,466,none⟩),aq w.heap.size,ai 150] 499)).cell? ⟨0,0,none⟩=some (.iface 531 (.agg #[.pointer (some ⟨1,418,none⟩)])):=by
  rw [World.cell?_alloc_lt _ _ ⟨0,0,none⟩ (by simp),World.cell?_alloc_lt _ _ ⟨0,0,none⟩ hlt];exact hg
 have htl:tb<w.heap.size:=World.block_lt_of_cell? _ _ ht0
 have el:=zc ⟨w.heap.size,0,none⟩ ⟨tb,0,none⟩ ((((w.alloc (.cells #[aq tb] 466)).alloc (.cells #[.pointer (some ⟨1,466,none⟩),aq w.heap.size,ai 150] 499)).alloc (.cells #[.pointer (some ⟨1,466,none⟩),aq w.heap.size,ai 150] 499)).alloc (.cells #[.string s,.iface 464 (.agg #[ab c])] 495)) (by rw [World.cell?_alloc_lt _ _ ⟨w.heap.size,0,none⟩ (by simp;omega),World.cell?_alloc_lt _ _ ⟨w.heap.size,0,none⟩ (by simp;omega)];simp)
 have st:=FX tb (w.heap.size+1+1+1+1) c tA (((((w.alloc (.cells #[aq tb] 466)).alloc (.cells #[.pointer (some ⟨1,466,none⟩),aq w.heap.size,ai 150] 499)).alloc (.cells #[.pointer (some ⟨1,466,none⟩),aq w.heap.size,ai 150] 499)).alloc (.cells #[.string s,.iface 464 (.agg #[ab c])] 495)).alloc (.cells #[ab c] 464))
  (by rw [World.cell?_alloc_at _ _ _ _ (by simp)];rfl)
  (by rw [World.cell?_alloc_lt _ _ ⟨tb,0,none⟩ (by simp;omega),World.cell?_alloc_lt _ _ ⟨tb,0,none⟩ (by simp;omega),World.cell?_alloc_lt _ _ ⟨tb,0,none⟩ (by simp;omega),World.cell?_alloc_lt _ _ ⟨tb,0,none⟩ (by simp;omega),World.cell?_alloc_lt _ _ ⟨tb,0,none⟩ htl];exact ht0)
  (by rw [World.frozen?_alloc_old _ _ ⟨tb,0,none⟩ (by simp;omega),World.frozen?_alloc_old _ _ ⟨tb,0,none⟩ (by simp;omega),World.frozen?_alloc_old _ _ ⟨tb,0,none⟩ (by simp;omega),World.frozen?_alloc_old _ _ ⟨tb,0,none⟩ (by simp;omega),World.frozen?_alloc_old _ _ ⟨tb,0,none⟩ (Nat.ne_of_lt htl)];exact hf0)
 unfold dS;go_enter Tryz.func340,Tryz.ntmps340
 go_wp2;refine wp_loop_rounds 2 ?_
 rw [rounds_succ];go_wp2;rw [rounds_succ];go_wp2;go_ret;exact⟨rfl,rfl⟩
end Go.Proofs.YtmhinfbkmjdgfaaGreatDoor.D
namespace Go.Proofs.YtmhinfbkmjdgfaaGreatDoor.D
open Go.RowKit
variable {w w':World}
def mV (s:ByteArray)(c:Int):Value:=if c=0 then .nilIface else dS s c
theorem j3 (s:ByteArray)(c:Int)(w:World):Calls Tryz.prog 336 #[.string s,ab c] w λe w'=>e=.returned (mV s c)/\w'=w:=by
 unfold mV;by_cases hc:c=0
 ·subst hc
  rw [if_pos rfl];go_enter Tryz.func336,Tryz.ntmps336
  go_wp2;go_ret;exact⟨rfl,rfl⟩
 ·rw [if_neg hc]
  unfold dS;have hb:(c==0)=false:=by simpa using hc
  go_enter Tryz.func336,Tryz.ntmps336
  go_wp2;go_ret;exact⟨rfl,rfl⟩
theorem Laid.but {S:Nat->Prop}(h:Laid w)(hb:aj S w w')(h0:¬S 0):Laid w':=an hb h h0
theorem Laid.later (h:Laid w)(hb:Below w.heap.size w w'):Laid w':=h.but (S:=λ_=>False) (aj.of hb) (λh=>h)
theorem cP {s:ByteArray}{c:Int}(hc:c≠0):mV s c=dS s c:=if_neg hc
theorem kV (s:ByteArray)(c:Int)(w:World)(hg:Laid w):Calls Tryz.prog 292 #[mV s c] w λe w'=>e=.returned (ab c)/\Below w.heap.size w w':=by
 by_cases hc:c=0
 ·subst hc
  unfold mV;rw [if_pos rfl];go_enter Tryz.func292,Tryz.ntmps292
  go_wp2_with (first|(go_at_call 340;refine (FU _ _).mono ?_;rintro e w9 ⟨rfl,hw9⟩;subst hw9))
  go_ret;exact⟨rfl,ag _ _⟩
 ·rw [cP hc]
  have ha:=ae (FC s c w.heap.size (ab 0) (w.alloc (.cells #[ab 0] 464)) (hg.later (ag _ _)) (by simp) (by simp [go_sem]))
  generalize hv:dS s c=v at *
  clear hv;have hb:Hid (∀W,W=((((((w.alloc (.cells #[ab 0] 464)).alloc (.cells #[aq w.heap.size] 466)).alloc (.cells #[.pointer (some ⟨1,466,none⟩),.pointer (some ⟨(w.alloc (.cells #[ab 0] 464)).heap.size,0,none⟩),ai 150] 499)).alloc (.cells #[.pointer (some ⟨1,466,none⟩),.pointer (some ⟨(w.alloc (.cells #[ab 0] 464)).heap.size,0,none⟩),ai 150] 499)).alloc (.cells #[.string s,.iface 464 (.agg #[ab c])] 495)).alloc (.cells #[ab c] 464)).setCell ⟨w.heap.size,0,none⟩ (ab c)->W.cell? ⟨w.heap.size,0,none⟩=some (ab c)/\Below w.heap.size w W):=by
   intro W hW;subst hW;refine⟨?_,?_⟩
   ·refine World.cell?_setCell_same _ _ _ (?_:_=some (Value.int .i64 0))
    rw [World.cell?_alloc_lt _ _ _ (by simp;omega),World.cell?_alloc_lt _ _ _ (by simp;omega),World.cell?_alloc_lt _ _ _ (by simp;omega),World.cell?_alloc_lt _ _ _ (by simp;omega),World.cell?_alloc_lt _ _ _ (by simp)];simp
   ·have hp:=((((((aj.refl (λk=>k=w.heap.size) w).alloc (.cells #[ab 0] 464)).alloc (.cells #[aq w.heap.size] 466)).alloc (.cells #[.pointer (some ⟨1,466,none⟩),.pointer (some ⟨(w.alloc (.cells #[ab 0] 464)).heap.size,0,none⟩),ai 150] 499)).alloc (.cells #[.pointer (some ⟨1,466,none⟩),.pointer (some ⟨(w.alloc (.cells #[ab 0] 464)).heap.size,0,none⟩),ai 150] 499)).alloc (.cells #[.string s,.iface 464 (.agg #[ab c])] 495)).alloc (.cells #[ab c] 464)
    exact aj.below (Below.refl _ _) (hp.setCell (p:=⟨w.heap.size,0,none⟩) rfl (ab c)) (λk hk=>by rw [hk];exact Nat.le_refl _)
  go_enter Tryz.func292,Tryz.ntmps292
  go_upto_region 3 with (first|(go_at_call 340;refine ha.out.mono ?_;rintro e w9 ⟨rfl,hw9⟩;obtain⟨x0,hB⟩:=hb.out w9 hw9;clear hw9;have HB:=ae hB;clear hB))
  go_wp2;go_ret;exact⟨rfl,HB.out⟩
end Go.Proofs.YtmhinfbkmjdgfaaGreatDoor.D
namespace Go.Proofs.YtmhinfbkmjdgfaaGreatDoor.D
open Go.RowKit
open Go.Proofs.YtmhinfbkmjdgfaaGreatDoor.H (az Cp)
variable {b k mk:Nat}{S:Nat->Prop}{w w':World}
structure Hd extends Par where
 g:Nat
 gb:Nat
 A:Ad
 kn:Nat
 qg:Nat
 qb:Nat
def Hd.Wr (H:Hd)(k:Nat):Prop:=k=H.g\/k=H.qb\/H.A.Wr k
structure Hd.Ap (H:Hd):Prop where
 cg:∀k,H.A.jP k->k≠H.g
 cq:∀k,H.A.jP k->k≠H.qb
 b:0<H.n->H.gb≠H.qb/\¬H.A.Wr H.gb
 gq:H.g≠H.qb
 q:H.qg≠H.g/\¬H.A.Wr H.qg
 z:∀k,H.Wr k->k≠0
structure eO (w:World)(H:Hd)(s:bc):Prop where
 d:Dr w H.g H.gb H.n H.c s.t
 cat:jb w H.A H.kn H.mo s.X s.l
 qu:Q.Qu w H.qg H.qb H.e H.a s.L
 laid:Laid w
 ap:H.Ap
theorem eO.later {H:Hd}{s:bc}(h:eO w H s)(hb:Below w.heap.size w w'):eO w' H s :=
 ⟨h.d.later hb,h.cat.later hb,h.qu.later hb,h.laid.later hb,h.ap⟩
theorem du {A:Ad}(h:A.Wr k):A.jP k:=.inr (.inr h)
def Hd.jP (H:Hd)(k:Nat):Prop:=k=0\/k=H.g\/(0<H.n/\k=H.gb)\/k=H.qg\/k=H.qb\/H.A.jP k
theorem eO.tA {H:Hd}{s:bc}(h:eO w H s):∀k,H.jP k->k<w.heap.size:=λk hk=>by
 rcases hk with rfl|rfl|⟨h0,rfl⟩|rfl|rfl|hk
 ·exact World.block_lt_of_cell? _ _ h.laid
 ·exact h.d.lt
 ·exact h.d.pB h0
 ·exact h.qu.DU
 ·exact h.qu.blt
 ·exact h.cat.lt k hk
theorem eO.but {H:Hd}{s:bc}(h:eO w H s)(hb:aj S w w')(hS:∀k,H.jP k->¬S k):eO w' H s :=
 ⟨h.d.vH hb (hS _ (.inr (.inl rfl))) (λh0=>hS _ (.inr (.inr (.inl ⟨h0,rfl⟩)))),h.cat.but hb (λk hk=>hS k (.inr (.inr (.inr (.inr (.inr hk)))))),h.qu.but hb (hS _ (.inr (.inr (.inr (.inl rfl))))) (hS _ (.inr (.inr (.inr (.inr (.inl rfl)))))),h.laid.but hb (hS 0 (.inl rfl)),h.ap⟩
theorem eO.own {H:Hd}{s:bc}(h:eO w H s)(hb:∀k,H.jP k->k<b)(o:Nat)(u:Value):eO (w.setCell ⟨b,o,none⟩ u) H s :=
 h.but (S:=(·=b)) ((aj.refl (·=b) _).own o u) (λk hk e=>by have:=hb k hk;omega)
theorem Hd.du {H:Hd}(h:H.Wr k):H.jP k:=by
 rcases h with rfl|rfl|hk
 ·exact .inr (.inl rfl)
 ·exact .inr (.inr (.inr (.inr (.inl rfl))))
 ·exact .inr (.inr (.inr (.inr (.inr (.inr (.inr hk))))))
theorem eO.draw {H:Hd}{s:bc}{t:Nat}(h:eO w H s)(hb:aj (·=H.g) w w')(hd:Dr w' H.g H.gb H.n H.c t):eO w' H { s with t:=t } :=
 ⟨hd,h.cat.but hb h.ap.cg,h.qu.but hb h.ap.q.1 h.ap.gq.symm,h.laid.but hb (λe=>h.ap.z _ (.inl rfl) e.symm),h.ap⟩
theorem eO.enter {H:Hd}{s:bc}{X:List Tk}{l:Fo}(h:eO w H s)(hb:aj H.A.Wr w w')(hc:jb w' H.A H.kn H.mo X l):eO w' H { s with X:=X,l:=l } :=
 ⟨h.d.vH hb (λe=>h.ap.cg _ (du e) rfl) (λh0=>(h.ap.b h0).2),hc,h.qu.but hb h.ap.q.2 (λe=>h.ap.cq _ (du e) rfl),h.laid.but hb (λe=>h.ap.z 0 (.inr (.inr e)) rfl),h.ap⟩
theorem eO.count {H:Hd}{s:bc}{L:List Int}(h:eO w H s)(hb:aj (λk=>k=H.qb) w w')(hq:Q.Qu w' H.qg H.qb H.e H.a L):eO w' H { s with L:=L } :=
 ⟨h.d.vH hb h.ap.gq (λh0=>(h.ap.b h0).1),h.cat.but hb h.ap.cq,hq,h.laid.but hb (λe=>h.ap.z _ (.inr (.inl rfl)) e.symm),h.ap⟩
theorem aj.Ig {H:Hd}(h:aj (·=H.g) w w'):aj H.Wr w w':=h.mono (λk hk=>.inl hk)
theorem aj.Ie {H:Hd}(h:aj H.A.Wr w w'):aj H.Wr w w':=h.mono (λk hk=>.inr (.inr hk))
theorem aj.Ij {H:Hd}(h:aj (λk=>k=H.qb) w w'):aj H.Wr w w':=h.mono (λk hk=>.inr (.inl hk))
def pe (U:World)(H:Hd)(s:bc)(D:Nat×Int×Nat)(e:Ending)(w':World):Prop :=
 e=.returned (.tuple #[.agg #[ai (di D.1),ai (dj D.1)],ab D.2.1])/\eO w' H { s with t:=D.2.2 }/\aj (·=H.g) U w'
def gP (U:World)(H:Hd)(s:bc)(R:DI)(e:Ending)(w':World):Prop :=
 e=.returned (.tuple #[ab R.num,ab R.code])/\eO w' H { s with X:=R.X,l:=R.l }/\aj H.A.Wr U w'
def gR (H:Hd):Value:=.agg #[aq H.g,aq H.A.g,aq H.qg]
structure Mk (w:World)(b:Nat)(H:Hd):Prop where
 c0:w.cell? ⟨b,0,none⟩=some (aq H.g)
 c1:w.cell? ⟨b,1,none⟩=some (aq H.A.g)
 c2:w.cell? ⟨b,2,none⟩=some (aq H.qg)
theorem Mk.but {H:Hd}(h:Mk w b H)(hb:aj S w w')(hn:¬S b):Mk w' b H:=⟨an hb h.c0 hn,an hb h.c1 hn,an hb h.c2 hn⟩
theorem Mk.later {H:Hd}(h:Mk w b H)(hb:Below w.heap.size w w'):Mk w' b H:=h.but (S:=λ_=>False) (aj.of hb) (λh=>h)
theorem zD {H:Hd}{s:bc}(h:eO w H s):Calls Tryz.prog 338 #[aq H.g] w (pe w H s (cR H.toPar s.t)):=by
 unfold cR;by_cases ht:s.t<H.n
 ·rw [if_pos ht]
  refine (nY H.g H.gb H.n H.c s.t w h.d ht).mono ?_
  rintro e w' ⟨rfl,hd,hb⟩
  exact⟨rfl,h.draw hb hd,hb⟩
 ·rw [if_neg ht]
  have hle:=h.d.le
  have he:s.t=H.n:=by omega
  have hd:=h.d
  rw [he] at hd;refine (pS H.g H.gb H.n H.c w hd).mono ?_
  rintro e w' ⟨rfl,hb⟩
  have z1:di 0=0:=by simp [di]
  have z2:dj 0=0:=by simp [dj]
  exact⟨by simp only [z1,z2],h.draw (aj.of hb) (h.d.later hb),aj.of hb⟩
theorem BU {H:Hd}{s:bc}(h:eO w H s)(hm:Mk w mk H)(c:Cp)(hw:c.2.1<az/\c.2.2<az) :
  Calls Tryz.prog 339 #[j5 c,aq mk] w (gP w H s (j1 H.mo s.X s.l c 31)):=by
 obtain⟨o,hi,lo⟩:=c
 have hB:=ag w (Obj.cells #[ab o,ai (hi:Int),ai (lo:Int)] 37)
 have y1:=(hm.later hB).c1
 have HC:=ae (xR (h.later hB).cat (o,hi,lo) 31 hw)
 have HT:=ae (h.later hB)
 have HB:=ae hB
 clear h hm hB;go_enter Tryz.func339,Tryz.ntmps339
 go_upto_region 2 with (first|(go_at_call 246;refine HC.out.mono ?_;rintro e w2 ⟨rfl,hc2,hb2⟩;have Pj:=ae hc2;have OH:=ae hb2;clear hc2 hb2))
 exact bodyPost_ret (v:=.tuple #[ab (j1 H.mo s.X s.l (o,hi,lo) 31).num,ab (j1 H.mo s.X s.l (o,hi,lo) 31).code]) (by simp [results,Tryz.results339,go_sem]) rfl ⟨rfl,HT.out.enter OH.out Pj.out,(aj.of HB.out).trans OH.out⟩
theorem ES {H:Hd}{s:bc}(h:eO w H s)(hcs:∀i,i<H.n->H.c i<az*az){pc:Nat}(hm:Mk w mk H)(o:Int)(hp:w.cell? ⟨pc,0,none⟩=some (ab o)) :
  Calls Tryz.prog 349 #[aq mk,aq pc] w (pe w H s (cn H.toPar s o)):=by
 have hB:=ag w (Obj.cells #[ai 0,ai 0] 30)
 have y0:=(hm.later hB).c0
 have y1:=(hm.later hB).c1
 have y2:=cell_later hB hp
 have hg:=h.d.lt
 have HO:=ae h.tA
 have HC:=ae (CW (h.later hB).d hcs (h.later hB).cat h.ap.cg o)
 have HT:=ae (h.later hB)
 have HB:=ae hB
 have HL:Hid (aM (w.alloc (Obj.cells #[ai 0,ai 0] 30)) ⟨w.heap.size,0,none⟩ (ai 0)/\aM (w.alloc (Obj.cells #[ai 0,ai 0] 30)) ⟨w.heap.size,1,none⟩ (ai 0)):=⟨⟨by simp [go_sem],by simp [go_sem]⟩,⟨by simp [go_sem],by simp [go_sem]⟩⟩
 clear h hm hB hp;unfold pe cn;go_enter Tryz.func349,Tryz.ntmps349
 obtain⟨R,hR⟩:∃R,R=bZ (Ax s.X s.l o) H.c H.n 9 s.t:=⟨_,rfl⟩
 unfold fL at HC;rw [<-hR] at HC;rw [<-hR];clear hR;go_upto_region 2 with (first|(go_at_call 350;refine HC.out.mono ?_;rintro e w2 ⟨rfl,hD,hB⟩;have HD:=ae hD;have OH:=ae hB;have Qh:Hid (aM w2 ⟨w.heap.size,0,none⟩ (ai 0)/\aM w2 ⟨w.heap.size,1,none⟩ (ai 0)):=⟨HL.out.1.but hB (by show ¬(w.heap.size=H.g);omega),HL.out.2.but hB (by show ¬(w.heap.size=H.g);omega)⟩;clear hD hB;have x0:=Qh.out.1.1;have x1:=Qh.out.2.1;have f0:=Qh.out.1.2;have f1:=Qh.out.2.2))
 have HQ:=ae (iK x0 x1 (ai (di R.1)) (ai (dj R.1)))
 have hbb:=((((aj.of HB.out).trans OH.out).put (p:=⟨w.heap.size,0,none⟩) (Nat.le_refl _) (ai (di R.1))).put (p:=⟨w.heap.size,1,none⟩) (Nat.le_refl _) (ai (dj R.1)))
 have hfin:eO ((w2.setCell ⟨w.heap.size,0,none⟩ (ai (di R.1))).setCell ⟨w.heap.size,1,none⟩ (ai (dj R.1))) H { s with t:=R.2.2 }:=((HT.out.draw OH.out HD.out).own HO.out 0 _).own HO.out 1 _
 exact bodyPost_ret (v:=.tuple #[.agg #[ai (di R.1),ai (dj R.1)],ab R.2.1]) (by simp [results,Tryz.results349,go_sem,HQ.out.1,HQ.out.2]) rfl ⟨rfl,hfin,hbb⟩
theorem C_ {H:Hd}{s:bc}(h:eO w H s){nb rb:Nat}(hm:Mk w mk H)(n r:Int)(hn:w.cell? ⟨nb,0,none⟩=some (ab n))(hr:w.cell? ⟨rb,0,none⟩=some (ab r))(c:Cp)(hw:c.2.1<az/\c.2.2<az) :
  Calls Tryz.prog 351 #[j5 c,aq mk,aq nb,aq rb] w (gP w H s (gw H.mo s.X s.l n c r)):=by
 obtain⟨o,hi,lo⟩:=c
 have hB:=ag w (Obj.cells #[ab o,ai (hi:Int),ai (lo:Int)] 37)
 have y1:=(hm.later hB).c1
 have y2:=cell_later hB hn
 have y3:=cell_later hB hr
 have HC:=ae (zX (h.later hB).cat n (o,hi,lo) r hw)
 have HT:=ae (h.later hB)
 have HB:=ae hB
 clear h hm hB hn hr;go_enter Tryz.func351,Tryz.ntmps351
 go_upto_region 2 with (first|(go_at_call 245;refine HC.out.mono ?_;rintro e w2 ⟨rfl,hc2,hb2⟩;have Pj:=ae hc2;have OH:=ae hb2;clear hc2 hb2))
 exact bodyPost_ret (v:=.tuple #[ab (gw H.mo s.X s.l n (o,hi,lo) r).num,ab (gw H.mo s.X s.l n (o,hi,lo) r).code]) (by simp [results,Tryz.results351,go_sem]) rfl ⟨rfl,HT.out.enter OH.out Pj.out,(aj.of HB.out).trans OH.out⟩
theorem cv (s:ByteArray)(c:Int)(hc:c≠0)(w:World):Calls Tryz.prog 336 #[.string s,.int .i64 c] w λe w'=>e=.returned (dS s c)/\w'=w:=by
 have:=j3 s c w
 rwa [cP hc] at this
theorem cD (s:ByteArray)(w:World):Calls Tryz.prog 336 #[.string s,.int .i64 0] w λe w'=>e=.returned .nilIface/\w'=w:=j3 s 0 w
theorem bL {v0 v1 v2:Value}(h0:w.cell? ⟨b,0,none⟩=some v0)(h1:w.cell? ⟨b,1,none⟩=some v1)(h2:w.cell? ⟨b,2,none⟩=some v2)(x y z:Value) :
  (w.setCell ⟨b,0,none⟩ x).cell? ⟨b,0,none⟩=some x/\((w.setCell ⟨b,0,none⟩ x).setCell ⟨b,1,none⟩ y).cell? ⟨b,1,none⟩=some y/\(((w.setCell ⟨b,0,none⟩ x).setCell ⟨b,1,none⟩ y).setCell ⟨b,2,none⟩ z).cell? ⟨b,2,none⟩=some z :=
 ⟨World.cell?_setCell_same _ _ _ h0,World.cell?_setCell_same _ _ _ (bC h1 (by omega)),World.cell?_setCell_same _ _ _ (bC (bC h2 (by omega)) (by omega))⟩
def Made (w:World)(H:Hd)(R:sK)(e:Ending)(w':World):Prop :=
 (∃st,e=.returned (.tuple #[j5 R.c,mV st R.code]))/\eO w' H R.s/\aj H.Wr w w'
structure Zc (w:World)(b:Nat):Prop where
 c0:aM w ⟨b,0,none⟩ (.int .i64 0)
 c1:aM w ⟨b,1,none⟩ (.int .u64 0)
 c2:aM w ⟨b,2,none⟩ (.int .u64 0)
theorem Zc.but (h:Zc w b)(hb:aj S w w')(hn:¬S b):Zc w' b:=⟨h.c0.but hb hn,h.c1.but hb hn,h.c2.but hb hn⟩
theorem Zc.Gf (w:World):Zc (w.alloc (Obj.cells #[.int .i64 0,.int .u64 0,.int .u64 0] 37)) w.heap.size:=⟨⟨by simp [go_sem],by simp [go_sem]⟩,⟨by simp [go_sem],by simp [go_sem]⟩,⟨by simp [go_sem],by simp [go_sem]⟩⟩
structure Cw (w:World)(b:Nat)(c:Cp):Prop where
 c0:w.cell? ⟨b,0,none⟩=some (.int .i64 c.1)
 c1:w.cell? ⟨b,1,none⟩=some (.int .u64 (c.2.1:Int))
 c2:w.cell? ⟨b,2,none⟩=some (.int .u64 (c.2.2:Int))
theorem Cw.but {c:Cp}(h:Cw w b c)(hb:aj S w w')(hn:¬S b):Cw w' b c:=⟨an hb h.c0 hn,an hb h.c1 hn,an hb h.c2 hn⟩
theorem Made.put {w1 w2:World}{H:Hd}{s:bc}(ht:eO w2 H s)(hb:aj H.Wr w w2)(ho:∀k,H.jP k->k<w.heap.size)(hl:w.heap.size<=b)(c:Cp) :
  eO (((w2.setCell ⟨b,0,none⟩ (.int .i64 c.1)).setCell ⟨b,1,none⟩ (.int .u64 (c.2.1:Int))).setCell ⟨b,2,none⟩ (.int .u64 (c.2.2:Int))) H s/\aj H.Wr w (((w2.setCell ⟨b,0,none⟩ (.int .i64 c.1)).setCell ⟨b,1,none⟩ (.int .u64 (c.2.1:Int))).setCell ⟨b,2,none⟩ (.int .u64 (c.2.2:Int))) :=
 have ho':∀k,H.jP k->k<b:=λk hk=>Nat.lt_of_lt_of_le (ho k hk) hl
 ⟨((ht.own ho' 0 _).own ho' 1 _).own ho' 2 _,((hb.put (p:=⟨b,0,none⟩) hl _).put (p:=⟨b,1,none⟩) hl _).put (p:=⟨b,2,none⟩) hl _⟩
theorem E7 {H:Hd}{s:bc}(h:eO w H s)(o:Int)(ho:(Lit.int .i64 o).wf=true)(D:Nat×Int×Nat)(R:DI)(mk:Nat)
  (hd:∀U,Below w.heap.size w U->Calls Tryz.prog 338 #[.pointer (some ⟨H.g,0,none⟩)] U (pe U H s D))
  (he:Q.may H.e H.a s.L o=0->D.2.1=0->R.code=0/\∀U,aj (·=H.g) w U->eO U H { s with t:=D.2.2 }->Calls Tryz.prog 339 #[j5 (cap o D.1),.pointer (some ⟨mk,0,none⟩)] U (gP U H { s with t:=D.2.2 } R)) :
  Calls Tryz.prog 337 #[gR H,.int .i64 o,.func (.func 338) #[.pointer (some ⟨H.g,0,none⟩)] #[],.func (.func 339) #[] #[.pointer (some ⟨mk,0,none⟩)]] w
   (Made w H (if Q.may H.e H.a s.L o≠0 then no s (Q.may H.e H.a s.L o) else if D.2.1≠0 then no { s with t:=D.2.2 } D.2.1 else ⟨cap o D.1,0,⟨R.X,R.l,s.L++[o],D.2.2⟩⟩)):=by
 obtain⟨w0,hw0⟩:∃w0,w0=(w.alloc (Obj.cells #[.pointer (some ⟨H.g,0,none⟩),.pointer (some ⟨H.A.g,0,none⟩),.pointer (some ⟨H.qg,0,none⟩)] 421)).alloc (Obj.cells #[.int .i64 0,.int .u64 0,.int .u64 0] 37):=⟨_,rfl⟩
 have hB0:Below w.heap.size w w0:=by rw [hw0];exact aB _ _ _
 have hmk:Mk w0 w.heap.size H:=by rw [hw0];exact⟨by simp [go_sem],by simp [go_sem],by simp [go_sem]⟩
 have hz:Zc w0 (w.heap.size+1):=by rw [hw0];exact⟨⟨by simp [go_sem],by simp [go_sem]⟩,⟨by simp [go_sem],by simp [go_sem]⟩,⟨by simp [go_sem],by simp [go_sem]⟩⟩
 have hlt:=h.tA
 have hwr:∀k,H.Wr k->k<w.heap.size:=λk hk=>hlt k (Hd.du hk)
 have HM:Hid (∀U,aj H.Wr w0 U->U.cell? ⟨w.heap.size,2,none⟩=some (.pointer (some ⟨H.qg,0,none⟩))/\Zc U (w.heap.size+1)):=λU hU=>⟨(hmk.but hU (λe=>by have:=hwr _ e;omega)).c2,hz.but hU (λe=>by have:=hwr _ e;omega)⟩
 have y2:=hmk.c2
 have HZ:=ae hz
 have HO:=ae hlt
 have HW:=ae hwr
 have HT:=ae (h.later hB0)
 have OX:=ae hB0
 have Rq:=ae (Q.gL (h.later hB0).qu o ho)
 have HD:=ae hd
 clear h hB0 hmk hz hlt hwr hd;unfold gR;by_cases hm:Q.may H.e H.a s.L o=0
 ·rw [if_neg (by simp [hm])]
  rw [hm] at Rq;by_cases hD:D.2.1=0
  ·rw [if_neg (by simp [hD])]
   obtain⟨hR,hE⟩:=he hm hD
   have HE:=ae hE
   have Vg:=ae hR
   have Ro:Hid (∀(U:World) (X:List Tk) (l:Fo) (t:Nat),eO U H ⟨X,l,s.L,t⟩->Calls Tryz.prog 244 #[.pointer (some ⟨H.qg,0,none⟩),.int .i64 o] U λr w'=>r=.returned (.int .i64 0)/\Q.Qu w' H.qg H.qb H.e H.a (s.L++[o])/\aj (λk=>k=H.qb) U w'):=λU X l t hT=>by
    have:=Q.iI hT.qu o ho
    unfold Q.oz at this;simp only [hm,if_true] at this;exact this
   clear he hE hm hR;unfold pe at HD;rw [hD] at HD;clear hD;unfold gP at HE;rw [Vg.out] at HE;go_enter Tryz.func337,Tryz.ntmps337
   go_upto_region 1 with fail
   rw [<-hw0];clear hw0;go_upto_region 4 with (first
    | (go_at_call 336;refine (cD _ _).mono ?_;rintro e w9 ⟨rfl,hw9⟩;obtain rfl:=hw9.symm;clear hw9)
    | (go_at_call 315;refine Rq.out.mono ?_;rintro e w2 ⟨rfl,hb2⟩;have OH:=ae (aa OX.out hb2);have Pj:=ae hb2;have OO:=ae (HT.out.later hb2);clear hb2))
   go_upto_region 9 with (first
    | (go_at_call 336;refine (cD _ _).mono ?_;rintro e w9 ⟨rfl,hw9⟩;obtain rfl:=hw9.symm;clear hw9)
    | (go_at_call 338;refine (HD.out w2 OH.out).mono ?_;rintro e w3 ⟨rfl,ht3,hb3⟩;have O_:=ae ht3;have OJ:=ae ((aj.of (S:=H.Wr) Pj.out).trans (aj.Ig hb3));have Tf:=ae ((aj.of OH.out).trans hb3);clear ht3 hb3))
   obtain⟨w4,hw4⟩:∃w4,w4=(w3.alloc (Obj.cells #[.int .u64 (di D.1),.int .u64 (dj D.1)] 30)).alloc (Obj.cells #[.int .i64 o,.int .u64 (di D.1),.int .u64 (dj D.1)] 37):=⟨_,rfl⟩
   have hB4:Below w3.heap.size w3 w4:=by rw [hw4];exact aB _ _ _
   have hc4:Cw w4 (w3.heap.size+1) (cap o D.1):=by rw [hw4];exact⟨by simp [go_sem,cap],by simp [go_sem,cap,di],by simp [go_sem,cap,dj]⟩
   have hs3:w.heap.size<=w3.heap.size:=Nat.le_trans OX.out.size OJ.out.size
   have HY:Hid (∀U,aj H.Wr w4 U->Cw U (w3.heap.size+1) (cap o D.1)):=λU hU=>hc4.but hU (λe=>by have:=HW.out _ e;omega)
   have z0:w4.cell? ⟨w3.heap.size+1,0,none⟩=some (.int .i64 o):=hc4.c0
   have z1:w4.cell? ⟨w3.heap.size+1,1,none⟩=some (.int .u64 (di D.1)):=hc4.c1
   have z2:w4.cell? ⟨w3.heap.size+1,2,none⟩=some (.int .u64 (dj D.1)):=hc4.c2
   have Qn:=ae (O_.out.later hB4)
   have OM:=ae (OJ.out.call hB4)
   have VG:=ae (Tf.out.call hB4)
   have Vx:Hid (Calls Tryz.prog 339 #[.agg #[.int .i64 o,.int .u64 (di D.1),.int .u64 (dj D.1)],.pointer (some ⟨mk,0,none⟩)] w4 _):=HE.out w4 VG.out Qn.out
   clear hB4 hc4 hs3;rw [<-hw4];clear hw4;go_upto_region 14 with (first
    | (go_at_call 244;refine (Ro.out w5 R.X R.l D.2.2 RG.out).mono ?_;rintro e w6 ⟨rfl,hq6,hb6⟩;have Qd:=ae (RG.out.count hb6 hq6);have O7:=ae (OS.out.trans (aj.Ij hb6));have VQ:=ae (VN.out.trans (aj.Ij hb6));clear hq6 hb6;obtain⟨u0,u1,u2⟩:=HY.out w6 VQ.out;obtain⟨⟨v0,f0⟩,⟨v1,f1⟩,⟨v2,f2⟩⟩:=(HM.out w6 O7.out).2)
    | (go_at_call 336;refine (cD _ _).mono ?_;rintro e w9 ⟨rfl,hw9⟩;obtain rfl:=hw9.symm;clear hw9)
    | (go_at_call 339;refine Vx.out.mono ?_;rintro e w5 ⟨rfl,ht5,hb5⟩;have RG:=ae ht5;have OS:=ae (OM.out.trans (aj.Ie hb5));have VN:=ae (aj.Ie (H:=H) hb5);clear ht5 hb5;have y5:=(HM.out w5 OS.out).1))
   have u0':w6.cell? ⟨w3.heap.size+1,0,none⟩=some (.int .i64 o):=u0
   have u1':w6.cell? ⟨w3.heap.size+1,1,none⟩=some (.int .u64 (di D.1)):=u1
   have u2':w6.cell? ⟨w3.heap.size+1,2,none⟩=some (.int .u64 (dj D.1)):=u2
   clear u0 u1 u2;go_wp2;have HQ:=ae (bL v0 v1 v2 (.int .i64 o) (.int .u64 (di D.1)) (.int .u64 (dj D.1)))
   obtain⟨hf1,hf2⟩:=Made.put (w1:=w) (b:=w.heap.size+1) Qd.out ((aj.of OX.out).trans O7.out) HO.out (by omega) (cap o D.1)
   exact bodyPost_ret (v:=.tuple #[.agg #[.int .i64 o,.int .u64 (di D.1),.int .u64 (dj D.1)],.nilIface]) (by simp [results,Tryz.results337,go_sem,HQ.out.1,HQ.out.2.1,HQ.out.2.2]) rfl ⟨⟨default,rfl⟩,hf1,hf2⟩
  ·rw [if_pos hD]
   have S7:=ae hD
   unfold pe at HD;clear he hm hD;go_enter Tryz.func337,Tryz.ntmps337
   go_upto_region 1 with fail
   rw [<-hw0];clear hw0;go_upto_region 4 with (first
    | (go_at_call 336;refine (cD _ _).mono ?_;rintro e w9 ⟨rfl,hw9⟩;obtain rfl:=hw9.symm;clear hw9)
    | (go_at_call 315;refine Rq.out.mono ?_;rintro e w2 ⟨rfl,hb2⟩;have OH:=ae (aa OX.out hb2);have Pj:=ae hb2;have OO:=ae (HT.out.later hb2);clear hb2))
   go_upto_region 7 with (first
    | (go_at_call 336;refine (cv _ _ S7.out _).mono ?_;unfold dS;rintro e w9 ⟨rfl,hw9⟩;obtain rfl:=hw9.symm;clear hw9)
    | (go_at_call 338;refine (HD.out w2 OH.out).mono ?_;rintro e w3 ⟨rfl,ht3,hb3⟩;have O_:=ae ht3;have OJ:=ae ((aj.of (S:=H.Wr) Pj.out).trans (aj.Ig hb3));have hbw:=OJ.out.alloc (.cells #[.int .u64 (di D.1),.int .u64 (dj D.1)] 30);have Qn:=ae (ht3.later (ag _ (.cells #[.int .u64 (di D.1),.int .u64 (dj D.1)] 30)));have OM:=ae hbw;obtain⟨⟨v0,f0⟩,⟨v1,f1⟩,⟨v2,f2⟩⟩:=(HM.out _ hbw).2;clear ht3 hb3 hbw))
   go_wp2;have HQ:=ae (bL v0 v1 v2 (.int .i64 0) (.int .u64 0) (.int .u64 0))
   obtain⟨hf1,hf2⟩:=Made.put (w1:=w) (b:=w.heap.size+1) Qn.out ((aj.of OX.out).trans OM.out) HO.out (by omega) (0,0,0)
   exact bodyPost_ret (v:=.tuple #[.agg #[.int .i64 0,.int .u64 0,.int .u64 0],dS _ _]) (by simp [results,Tryz.results337,go_sem,HQ.out.1,HQ.out.2.1,HQ.out.2.2];rfl) rfl ⟨⟨_,by rw [show (no { s with t:=D.2.2 } D.2.1).code=D.2.1 from rfl,cP S7.out];rfl⟩,hf1,hf2⟩
 ·rw [if_pos hm]
  have RV:=ae hm
  clear he hm;go_enter Tryz.func337,Tryz.ntmps337
  go_upto_region 1 with fail
  rw [<-hw0];clear hw0;go_upto_region 3 with (first
    | (go_at_call 336;refine (cv _ _ RV.out _).mono ?_;unfold dS;rintro e w9 ⟨rfl,hw9⟩;obtain rfl:=hw9.symm;clear hw9)
    | (go_at_call 315;refine Rq.out.mono ?_;rintro e w2 ⟨rfl,hb2⟩;have OH:=ae (aa OX.out hb2);have Pj:=ae hb2;have OO:=ae (HT.out.later hb2);obtain⟨⟨v0,f0⟩,⟨v1,f1⟩,⟨v2,f2⟩⟩:=(HM.out w2 (aj.of hb2)).2;clear hb2))
  go_wp2;have HQ:=ae (bL v0 v1 v2 (.int .i64 0) (.int .u64 0) (.int .u64 0))
  obtain⟨hf1,hf2⟩:=Made.put (w1:=w) (b:=w.heap.size+1) OO.out (aj.of OH.out) HO.out (by omega) (0,0,0)
  exact bodyPost_ret (v:=.tuple #[.agg #[.int .i64 0,.int .u64 0,.int .u64 0],dS _ _]) (by simp [results,Tryz.results337,go_sem,HQ.out.1,HQ.out.2.1,HQ.out.2.2];rfl) rfl ⟨⟨_,by rw [show (no s (Q.may H.e H.a s.L o)).code=Q.may H.e H.a s.L o from rfl,cP RV.out];rfl⟩,hf1,hf2⟩
end Go.Proofs.YtmhinfbkmjdgfaaGreatDoor.D
