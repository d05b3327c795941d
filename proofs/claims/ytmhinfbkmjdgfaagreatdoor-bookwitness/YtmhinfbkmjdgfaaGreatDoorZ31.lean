import Derived.Test.YtmhinfbkmjdgfaaGreatDoorZ27
import Derived.Test.YtmhinfbkmjdgfaaGreatDoorZ30
import Derived.Test.YtmhinfbkmjdgfaaGreatDoorZ12
set_option linter.unusedVariables false
set_option linter.unusedSimpArgs false
set_option maxRecDepth 100000
set_option maxHeartbeats 2000000
namespace Go.Proofs.YtmhinfbkmjdgfaaGreatDoor.V
open Go.RowKit
open Go.Proofs.YtmhinfbkmjdgfaaGreatDoor.H (az Cp)
variable {B N N':Nat->Prop}{w w':World}
structure Hd where
 A:Ad
 kn:Nat
 mo:Nat
 qg:Nat
 qb:Nat
 e:Int
 z:S.uy
 g:Nat
 gb:Nat
 n:Nat
 c:Nat->Nat
 pg:Nat
 pm:Int
 lg:Nat
 lm:Int
 cg:Nat
 cs:Nat
 cw:Nat
 v:Nat
 kb:Nat
 W:Int
 base:Nat
def Hd.cf (H:Hd):List Value:=[.int .i64 H.W,.int .i64 (H.z.room:Int),.int .i64 (H.z.n:Int),.int .i64 (H.mo:Int),.int .i64 H.e,.int .i64 H.pm,.int .i64 H.lm,.int .i64 (H.cs:Int),.int .i64 (H.cw:Int),.int .i64 (H.kn:Int)]
def Hd.kc (H:Hd):List Value:=H.cf++[.pointer (some ⟨H.g,0,none⟩),.pointer (some ⟨H.z.s,0,none⟩),.pointer (some ⟨H.A.g,0,none⟩),.pointer (some ⟨H.qg,0,none⟩),.pointer (some ⟨H.pg,0,none⟩),.map (some H.lg),.pointer (some ⟨H.v,0,none⟩)]
def Kb (w:World)(H:Hd):Prop:=∀j v,H.kc[j]?=some v->w.cell? ⟨H.kb,j,none⟩=some v
theorem Kb.but {S:Nat->Prop}{H:Hd}(h:Kb w H)(hb:aj S w w')(hn:¬S H.kb):Kb w' H:=λj v hv=>an hb (h j v hv) hn
def jH (L:List Int)(G:Int->Nat):DataW Value:=.map (L.map (λi=>(.int .i64 i,.held (.pointer (some ⟨G i,0,none⟩)))))
structure Li (w:World)(H:Hd)(Pr:List Int)(D:Int->List Cp)(G:Int->Nat)(pa:Int->Option Addr)(cap:Int->Nat)(eH:Nat->Int):Prop where
 map:w.ownsMap Tryz.prog 3 S.hr H.lg Pr.length (jH Pr G)
 each:∀i∈Pr,M.Dm w H.base (G i) H.lm (pa i) (cap i) (D i)
 eH:∀i∈Pr,∀k,k=G i\/aI (pa i) k->eH k=i/\k≠H.lg
def Dk (Pr:List Int)(G:Int->Nat)(pa:Int->Option Addr)(lg:Nat)(k:Nat):Prop:=k=lg\/∃i∈Pr,k=G i\/aI (pa i) k
def Part (w:World)(H:Hd)(s:bc)(d:Nat->List K.Pu)(m:Nat->Prop):Nat->Prop
 | 0=>jb w H.A H.kn H.mo s.X s.l/\∀k,H.A.jP k->m k
 | 1=>Q.Qu w H.qg H.qb H.e (H.mo:Int) s.L/\∀k,k=H.qg\/k=H.qb->m k
 | 2=>∃Os,S.St w H.z s.nx Os/\S.vw Os=s.V/\∀k,S.Zb H.z k\/S.Rb Os k->m k
 | 3=>D.Dr w H.g H.gb H.n H.c s.t/\∀k,k=H.g\/(0<H.n/\k=H.gb)->m k
 | 4=>∃pa cap,P.Ob w H.base H.pg H.pm s.px pa cap s.P/\∀k,k=H.pg\/aI pa k->m k
 | 5=>∃G pa cap eH,Li w H s.ks s.D G pa cap eH/\∀k,Dk s.ks G pa H.lg k->m k
 | 6=>(∃E hi mi,K.Kc w H.cg H.cs H.cw H.kn d E hi mi)/\L.Va w H.v H.cg H.A.g/\m H.cg/\m H.v/\H.v≠H.cg
 | 7=>Kb w H/\m H.kb
 | _=>True
theorem Li.but {H:Hd}{Pr:List Int}{D:Int->List Cp}{G:Int->Nat}{pa:Int->Option Addr}{cap:Int->Nat}{eH:Nat->Int}(h:Li w H Pr D G pa cap eH)(hb:aj B w w')(hS:∀k,Dk Pr G pa H.lg k->¬B k):Li w' H Pr D G pa cap eH :=
 ⟨S.bS hb h.map (hS _ (.inl rfl)),λi hi=>(h.each i hi).but hb (hS _ (.inr ⟨i,hi,.inl rfl⟩)) (λk hk=>hS k (.inr ⟨i,hi,.inr hk⟩)),h.eH⟩
theorem Part.but {H:Hd}{s:bc}{d:Nat->List K.Pu}{m:Nat->Prop}(hb:aj B w w')(hS:∀k,m k->¬B k):∀i,Part w H s d m i->Part w' H s d m i
 | 0,⟨h,h2⟩=>⟨h.but hb (λk hk=>hS k (h2 k hk)),h2⟩
 | 1,⟨h,h2⟩=>⟨h.but hb (hS _ (h2 _ (.inl rfl))) (hS _ (h2 _ (.inr rfl))),h2⟩
 | 2,⟨Os,h,e,h2⟩=>⟨Os,h.but hb (λk hk=>hS k (h2 k (.inl hk))) (λk hk=>hS k (h2 k (.inr hk))),e,h2⟩
 | 3,⟨h,h2⟩=>⟨h.vH hb (hS _ (h2 _ (.inl rfl))) (λh0=>hS _ (h2 _ (.inr ⟨h0,rfl⟩))),h2⟩
 | 4,⟨pa,cap,h,h2⟩=>⟨pa,cap,h.but hb (hS _ (h2 _ (.inl rfl))) (λk hk=>hS k (h2 k (.inr hk))),h2⟩
 | 5,⟨G,pa,cap,eH,h,h2⟩=>⟨G,pa,cap,eH,h.but hb (λk hk=>hS k (h2 k hk)),h2⟩
 | 6,⟨⟨E,hi,mi,h⟩,hv,h1,h2,h3⟩=>⟨⟨E,hi,mi,h.but hb (hS _ h1)⟩,hv.but hb (hS _ h2),h1,h2,h3⟩
 | 7,⟨h,h2⟩=>⟨h.but hb (hS _ h2),h2⟩
 | _+8,_=>trivial
structure Lay (w:World)(H:Hd)(s:bc)(d:Nat->List K.Pu)(M:Nat->Nat->Prop)(N:Nat->Prop):Prop where
 part:∀i,Part w H s d (M i) i
 ap:∀i j k,M i k->M j k->i=j
 sub:∀i k,M i k->N k
 mQ:∀k,N k->H.base<=k/\k<w.heap.size
 uA:1<=H.mo/\H.mo<=256
 laid:D.Laid w
 b0:0<H.base/\H.base<=w.heap.size
def bB (w:World)(H:Hd)(s:bc)(d:Nat->List K.Pu)(N:Nat->Prop):Prop:=∃M,Lay w H s d M N
def bd (w:World)(N:Nat->Prop)(w':World)(N':Nat->Prop):Prop:=(∀k,N' k->N k\/w.heap.size<=k)/\aj N w w'
theorem bd.later (hb:Below w.heap.size w w'):bd w N w' N:=⟨λk h=>.inl h,aj.of hb⟩
theorem bd.stay (hb:aj N w w'):bd w N w' N:=⟨λk h=>.inl h,hb⟩
theorem bd.trans {w1 w2:World}{N1 N2:Nat->Prop}(h:bd w N w1 N1)(k:bd w1 N1 w2 N2):bd w N w2 N2:=by
 refine⟨λj hj=>?_,⟨k.2.os.trans h.2.os,k.2.tape.trans h.2.tape,k.2.output.trans h.2.output,Nat.le_trans h.2.size k.2.size,λj hj hn=>?_⟩⟩
 ·rcases k.1 j hj with h1|h1
  ·exact h.1 j h1
  ·exact .inr (Nat.le_trans h.2.size h1)
 ·refine (k.2.block j (Nat.lt_of_lt_of_le hj h.2.size) (λh1=>?_)).trans (h.2.block j hj hn)
  rcases h.1 j h1 with h2|h2
  ·exact hn h2
  ·omega
theorem bd.out (h:bd w N w' N'){b:Nat}(hb:b<w.heap.size)(hn:¬N b):¬N' b:=λe=>by
 rcases h.1 b e with h1|h1
 ·exact hn h1
 ·omega
theorem bd.size (h:bd w N w' N'):w.heap.size<=w'.heap.size:=h.2.size
section
variable {w w':World}{H:Hd}{s s':bc}{d d':Nat->List K.Pu}{M:Nat->Nat->Prop}{N:Nat->Prop}
variable {i:Nat}{C:Nat->Prop}
theorem Lay.n0 (h:Lay w H s d M N):¬N 0:=λe=>by have:=(h.mQ 0 e).1;have:=h.b0;omega
theorem Lay.steps {m':Nat->Nat->Prop}(h:Lay w H s d M N)(hb:aj (λk=>∃i,C i/\M i k) w w')(hp:∀i,C i->Part w' H s' d' (m' i) i)
  (hm:∀i,C i->∀k,m' i k->M i k\/(w.heap.size<=k/\k<w'.heap.size)) (hx:∀i j,C i->C j->∀k,w.heap.size<=k->m' i k->m' j k->i=j)
  (same:∀j,¬C j->∀u m,Part u H s d m j->Part u H s' d' m j):∃N',bB w' H s' d' N'/\bd w N w' N'/\∀k,N' k->N k\/∃i,C i/\m' i k:=by
 classical
 have hN:aj N w w':=hb.mono (λk hk=>by obtain⟨i,_,hk⟩:=hk;exact h.sub i k hk)
 have hsz:=hb.size
 have key:∀x i,¬C x->C i->∀k,M x k->m' i k->False:=λx i hx hi k h1 h2=>by
  rcases hm i hi k h2 with h3|h3
  ·exact hx (by rw [h.ap x i k h1 h3];exact hi)
  ·have:=(h.mQ k (h.sub x k h1)).2;omega
 refine⟨λk=>N k\/∃i,C i/\m' i k,⟨λj=>if C j then m' j else M j,λj=>?_,λa b k ha hb'=>?_,λj k hk=>?_,λk hk=>?_,h.uA,h.laid.but hN h.n0,h.b0.1,by have:=h.b0.2;omega⟩,⟨λk hk=>?_,hN⟩,λk hk=>hk⟩
 ·by_cases e:C j
  ·rw [if_pos e];exact hp j e
  ·rw [if_neg e]
   exact same j e w' (M j) (Part.but hb (λk hk e2=>by obtain⟨i,hi,e2⟩:=e2;exact e (by rw [h.ap j i k hk e2];exact hi)) j (h.part j))
 ·by_cases ea:C a
  ·rw [if_pos ea] at ha
   by_cases eb:C b
   ·rw [if_pos eb] at hb'
    rcases hm a ea k ha with h1|h1
    ·rcases hm b eb k hb' with h2|h2
     ·exact h.ap a b k h1 h2
     ·have:=(h.mQ k (h.sub a k h1)).2;omega
    ·exact hx a b ea eb k h1.1 ha hb'
   ·rw [if_neg eb] at hb'
    exact (key b a eb ea k hb' ha).elim
  ·rw [if_neg ea] at ha
   by_cases eb:C b
   ·rw [if_pos eb] at hb'
    exact (key a b ea eb k ha hb').elim
   ·rw [if_neg eb] at hb'
    exact h.ap a b k ha hb'
 ·by_cases e:C j
  ·rw [if_pos e] at hk;exact .inr ⟨j,e,hk⟩
  ·rw [if_neg e] at hk;exact .inl (h.sub j k hk)
 ·have tA:N k->H.base<=k/\k<w'.heap.size:=λh1=>by
   have:=h.mQ k h1
   exact⟨this.1,by omega⟩
  rcases hk with h1|⟨i,hi,h1⟩
  ·exact tA h1
  ·rcases hm i hi k h1 with h2|h2
   ·exact tA (h.sub i k h2)
   ·have:=h.b0.2;exact⟨by omega,h2.2⟩
 ·rcases hk with h1|⟨i,hi,h1⟩
  ·exact .inl h1
  ·rcases hm i hi k h1 with h2|h2
   ·exact .inl (h.sub i k h2)
   ·exact .inr h2.1
theorem Lay.step {m':Nat->Prop}(h:Lay w H s d M N)(hb:aj (M i) w w')(hp:Part w' H s' d' m' i)
  (hm:∀k,m' k->M i k\/(w.heap.size<=k/\k<w'.heap.size)) (same:∀j,j≠i->∀u m,Part u H s d m j->Part u H s' d' m j) :
  ∃N',bB w' H s' d' N'/\bd w N w' N':=by
 obtain⟨N',h1,h2,_⟩:=h.steps (C:=(·=i)) (m':=λ_=>m') (hb.mono (λk hk=>⟨i,rfl,hk⟩)) (λj e=>by rw [e];exact hp) (λj e k hk=>by rw [e];exact hm k hk) (λa b ea eb k _ _ _=>by rw [ea,eb]) (λj hj=>same j hj)
 exact⟨N',h1,h2⟩
theorem Lay.stays (h:Lay w H s d M N)(hb:aj (λk=>∃i,C i/\M i k) w w')(hp:∀i,C i->Part w' H s' d' (M i) i)
  (same:∀j,¬C j->∀u m,Part u H s d m j->Part u H s' d' m j):bB w' H s' d' N/\aj N w w':=by
 have hN:aj N w w':=hb.mono (λk hk=>by obtain⟨i,_,hk⟩:=hk;exact h.sub i k hk)
 refine⟨⟨M,λj=>?_,h.ap,h.sub,λk hk=>?_,h.uA,h.laid.but hN h.n0,h.b0.1,by have:=h.b0.2;have:=hb.size;omega⟩,hN⟩
 ·by_cases e:C j
  ·exact hp j e
  ·exact same j e w' (M j) (Part.but hb (λk hk e2=>by obtain⟨i,hi,e2⟩:=e2;exact e (by rw [h.ap j i k hk e2];exact hi)) j (h.part j))
 ·have:=h.mQ k hk
  have hs:=hb.size
  exact⟨this.1,by omega⟩
theorem Lay.stay (h:Lay w H s d M N)(hb:aj (M i) w w')(hp:Part w' H s' d' (M i) i)
  (same:∀j,j≠i->∀u m,Part u H s d m j->Part u H s' d' m j):bB w' H s' d' N/\aj N w w' :=
 h.stays (C:=(·=i)) (hb.mono (λk hk=>⟨i,rfl,hk⟩)) (λj e=>by rw [e];exact hp) (λj hj=>same j hj)
theorem bB.but {B:Nat->Prop}(h:bB w H s d N)(hb:aj B w w')(hS:∀k,N k->¬B k)(h0:¬B 0):bB w' H s d N:=by
 obtain⟨M,h⟩:=h
 have hs:=hb.size
 exact⟨M,λi=>Part.but hb (λk hk=>hS k (h.sub i k hk)) i (h.part i),h.ap,h.sub,λk hk=>by have:=h.mQ k hk;exact⟨this.1,by omega⟩,h.uA,h.laid.but hb h0,h.b0.1,by have:=h.b0.2;omega⟩
theorem bB.later (h:bB w H s d N)(hb:Below w.heap.size w w'):bB w' H s d N:=h.but (B:=λ_=>False) (aj.of hb) (λ_ _ h=>h) (λh=>h)
theorem bB.cat (h:bB w H s d N):jb w H.A H.kn H.mo s.X s.l:=by obtain⟨M,h⟩:=h;exact (h.part 0).1
theorem bB.st (h:bB w H s d N):∃Os,S.St w H.z s.nx Os/\S.vw Os=s.V:=by obtain⟨M,h⟩:=h;obtain⟨Os,h1,h2,_⟩:=h.part 2;exact⟨Os,h1,h2⟩
theorem bB.pr (h:bB w H s d N):∃pa cap,P.Ob w H.base H.pg H.pm s.px pa cap s.P:=by obtain⟨M,h⟩:=h;obtain⟨pa,cap,h1,_⟩:=h.part 4;exact⟨pa,cap,h1⟩
theorem bB.kb (h:bB w H s d N):Kb w H:=by obtain⟨M,h⟩:=h;exact (h.part 7).1
theorem bB.inv (h:bB w H s d N):Inv H.mo s.X s.l:=h.cat.inv
theorem bB.mQ (h:bB w H s d N):∀k,N k->H.base<=k/\k<w.heap.size:=by obtain⟨M,h⟩:=h;exact h.mQ
theorem bB.b0 (h:bB w H s d N):0<H.base/\H.base<=w.heap.size:=by obtain⟨M,h⟩:=h;exact h.b0
theorem Dw {nx:Int}{V:List (Int×List Nat)}:∀j,j≠2->∀u m,Part u H s d m j->Part u H { s with nx:=nx,V:=V } d m j:=λj hj u m hp=>by
 rcases j with _|_|_|_|_|_|_|_|j
 ·exact hp
 ·exact hp
 ·exact absurd rfl hj
 all_goals exact hp
end
structure Pm where
 mo:Nat
 e:Int
 n:Nat
 c:Nat->Nat
 room:Nat
 qN:Nat
 pm:Int
 lm:Int
 W:Int
def Hd.p (H:Hd):Pm:=⟨H.mo,H.e,H.n,H.c,H.z.room,H.z.n,H.pm,H.lm,H.W⟩
structure KF (p:Pm)(s:bc):Prop where
 fit:Fit p.mo s
 le:s.t<=p.n
 cs:∀i,i<p.n->p.c i<az*az
 iv:P.Iv p.pm s.px s.P
 ln:∀i∈s.P,((s.D i).length:Int)<=p.lm
 wd:∀i∈s.P,∀c∈s.D i,c.2.1<az/\c.2.2<az
 lm:1<=p.lm/\p.lm<=32
 ks:s.ks=s.P
 nx:1<=s.nx/\s.nx<=4611686018427387905
structure dZ where
 code:Int
 cap:Cp
 data:List Nat
 num:Int
def rep (c:Int):dZ:=⟨c,(0,0,0),[],0⟩
def Pm.d (p:Pm):D.Par:=⟨p.mo,p.e,(p.mo:Int),p.n,p.c⟩
def bc.d (s:bc):D.bc:=⟨s.X,s.l,s.L,s.t⟩
def jA (s:bc)(a:D.bc):bc:={ s with X:=a.X,l:=a.l,L:=a.L,t:=a.t }
def rh (p:Pm)(s:bc)(size:Int):dZ×bc :=
 if S.eW p.room p.qN s.nx s.V size≠0 then (rep (S.eW p.room p.qN s.nx s.V size),s) else
 if (D.bH p.d s.d s.nx).code≠0 then (rep (D.bH p.d s.d s.nx).code,jA s (D.bH p.d s.d s.nx).s) else
 (⟨0,(D.bH p.d s.d s.nx).c,[],0⟩,{ jA s (D.bH p.d s.d s.nx).s with nx:=s.nx+1,V:=s.V++[(s.nx,List.replicate size.toNat 0)] })
def mS (p:Pm)(s:bc)(c:Cp)(r:Int):dZ×bc:=(⟨(D.bV p.d s.d c r).code,(D.bV p.d s.d c r).c,[],0⟩,jA s (D.bV p.d s.d c r).s)
def Dt (all:Bool)(s:bc)(c:Cp):dZ×bc:=(rep (Gv all s c).code,(Gv all s c).s)
def eS (s:bc)(given:Bool)(aE:Int)(c:Cp)(need:Int):Int:=if given then L.cO s.X s.l need c else (L.dL (L.cO s.X s.l need) c.1 (s.D aE) 3).2
def uJ (s:bc)(given:Bool)(aE:Int)(c:Cp)(off n:Int):dZ×bc :=
 if eS s given aE c 1≠0 then (rep (eS s given aE c 1),s) else (⟨S.rP s.V c.1 off n,(0,0,0),S.zj s.V c.1 off n,0⟩,s)
def jN (s:bc)(given:Bool)(aE:Int)(c:Cp)(off:Int)(D:List Nat):dZ×bc :=
 if eS s given aE c 2≠0 then (rep (eS s given aE c 2),s) else (rep (S.rP s.V c.1 off (D.length:Int)),{ s with V:=S.fT s.V c.1 off D })
def lO (W:Int)(c:Cp):Bool:=decide (1<=W)&&decide (D.cE (c.2.1*az+c.2.2) W=c.2.1*az+c.2.2)
def fE (D:Int->List Cp)(i:Int)(K:List Cp):Int->List Cp:=λj=>if j=i then K else D j
def wC (p:Pm)(s:bc)(aE:Int)(c:Cp):dZ×bc :=
 if lO p.W c=false then (rep 18,s) else if p.lm<=((s.D aE).length:Int) then (rep 14,s) else (rep 0,{ s with D:=fE s.D aE (s.D aE++[c]) })
def Iu (s:bc)(aE:Int)(i:Int):dZ×bc :=
 if M.kT (s.D aE) i=false then (rep 15,s) else (rep 0,{ s with D:=fE s.D aE ((s.D aE).take i.toNat++(s.D aE).drop (i.toNat+1)) })
def BF (p:Pm)(s:bc)(aE:Int)(G:List Int):dZ×bc :=
 if M.bX p.lm (s.D aE) G≠0 then (rep (M.bX p.lm (s.D aE) G),s) else
 if P.dI p.pm s.px s.P=true then (rep 13,s) else (⟨0,(0,0,0),[],s.px⟩,{ s with px:=s.px+1,P:=s.P++[s.px],ks:=s.ks++[s.px],D:=fE s.D s.px (M.cL p.lm (s.D aE) G) })
def IX (s:bc)(aE:Int):dZ×bc:=(rep 0,{ s with P:=P.out s.P aE,ks:=P.out s.ks aE })
def fq (c:R.Cl):Cp:=(c.obj,c.hi,c.lo)
def lD (p:Pm)(s:bc)(c:R.Cl):dZ×bc :=
 if c.op=1 then rh p s c.size else if c.op=2 then Dt true s (fq c) else if c.op=3 then mS p s (fq c) c.aD else if c.op=4 then Dt false s (fq c)
 else if c.op=5 then uJ s c.given c.aE (fq c) c.off c.n else if c.op=6 then jN s c.given c.aE (fq c) c.off c.data else if c.op=7 then wC p s c.aE (fq c)
 else if c.op=8 then Iu s c.aE c.index else if c.op=9 then BF p s c.aE c.aH else IX s c.aE
def tU (p:Pm)(s:bc)(c:R.Cl):dZ×bc :=
 if R.fm c=false then (rep 1,s) else if s.P.contains c.aE=false then (rep 2,s) else lD p s c
def w_ (G:Int->Nat)(i:Int):Lit×DataW Value:=(.int .i64 i,.held (.pointer (some ⟨G i,0,none⟩)))
theorem oU (L:List Int)(G:Int->Nat):jH L G=.map (L.map (w_ G)):=rfl
theorem nE (G:Int->Nat)(i id:Int):(w_ G i).1.sameKey (.int .i64 id)=decide (i=id):=by simp [w_,Lit.sameKey]
theorem l9 (L:List Int)(G:Int->Nat)(id:Int)(hm:id∈L)(z:DataW Value):(jH L G).atKey (.int .i64 id) z=.held (.pointer (some ⟨G id,0,none⟩)):=by
 rw [oU];unfold DataW.atKey;simp only [List.find?_map];have e:((λp:Lit×DataW Value=>p.1.sameKey (.int .i64 id)) ∘ w_ G)=λo=>decide (o=id):=by funext o;exact nE G o id
 rw [e];cases hf:L.find? (λo=>decide (o=id)) with
 | none=>have:=List.find?_eq_none.1 hf id hm;simp at this
 | some o =>
  have:o=id:=by simpa using List.find?_some hf
  subst this;rfl
theorem yl (L:List Int)(G:Int->Nat)(i:Int)(g:Nat)(h:∀p∈L,p<i):(jH L G).put (.int .i64 i) (.held (.pointer (some ⟨g,0,none⟩)))=jH (L++[i]) (λj=>if j=i then g else G j):=by
 have e:jH L G=jH L (λj=>if j=i then g else G j):=by
  unfold jH;congr 1
  refine List.map_congr_left (λp hp=>?_)
  have:=h p hp
  simp only [if_neg (show ¬p=i by omega)]
 rw [e,oU];unfold DataW.put;simp only
 rw [List.filter_eq_self.2 (λp hp=>?_),S.fU,oU,List.map_append]
 ·simp [w_]
 ·intro p hp
  obtain⟨q,hq,rfl⟩:=List.mem_map.1 hp
  have:=h q hq
  simp [w_,Lit.before];omega
 ·obtain⟨q,hq,rfl⟩:=List.mem_map.1 hp
  have:=h q hq
  rw [nE];simp
  omega
theorem wZ (L:List Int)(G:Int->Nat):Maps.size (jH L G)=L.length:=by simp [jH,Maps.size]
theorem EL {w:World}{k:TypeId}{b n:Nat}{L:List Int}{G:Int->Nat}(h:w.ownsMap Tryz.prog k S.hr b n (jH L G)):w.ownsMap Tryz.prog k S.hr b L.length (jH L G):=by
 obtain⟨es,clock,hb,F,hs,hD⟩:=h
 refine⟨es,clock,hb,F,?_,hD⟩
 have:=congrArg Maps.size hD
 rw [wZ] at this;rw [this];simp [Maps.size,length_sorted]
theorem D2:(Tryz.prog.info? 230).map (λi=>(i.zero,i.size,i.bytes))=some (some (.pointer none),1,8):=by kernel_rfl
section
variable {w w':World}{H:Hd}{s s':bc}{d d':Nat->List K.Pu}{O:Nat->Nat->Prop}{N:Nat->Prop}{Pr:List Int}{D:Int->List Cp}{G:Int->Nat}{pa:Int->Option Addr}{cap:Int->Nat}{eH:Nat->Int}
variable {i:Int}{cb:Nat}{pb:Option Addr}
theorem bB.li (h:bB w H s d N):∃G pa cap eH,Li w H s.ks s.D G pa cap eH/\∀k,Dk s.ks G pa H.lg k->N k:=by
 obtain⟨M,h⟩:=h
 obtain⟨G,pa,cap,eH,h1,h2⟩:=h.part 5
 exact⟨G,pa,cap,eH,h1,λk hk=>h.sub 5 k (h2 k hk)⟩
theorem DR {ks:List Int}{D:Int->List Cp}:∀j,j≠5->∀u m,Part u H s d m j->Part u H { s with ks:=ks,D:=D } d m j:=λj hj u m hp=>by
 rcases j with _|_|_|_|_|_|_|_|j
 ·exact hp
 ·exact hp
 ·exact hp
 ·exact hp
 ·exact hp
 ·exact absurd rfl hj
 all_goals exact hp
theorem Hs {px:Int}{Pr:List Int}:∀j,j≠4->∀u m,Part u H s d m j->Part u H { s with px:=px,P:=Pr } d m j:=λj hj u m hp=>by
 rcases j with _|_|_|_|_|_|_|_|j
 ·exact hp
 ·exact hp
 ·exact hp
 ·exact hp
 ·exact absurd rfl hj
 all_goals exact hp
theorem GO:∀j,j≠6->∀u m,Part u H s d m j->Part u H s d' m j:=λj hj u m hp=>by
 rcases j with _|_|_|_|_|_|_|_|j
 ·exact hp
 ·exact hp
 ·exact hp
 ·exact hp
 ·exact hp
 ·exact hp
 ·exact absurd rfl hj
 all_goals exact hp
theorem Lay.list (h:Lay w H s d O N)(hl:Li w H s.ks s.D G pa cap eH)(hm:∀k,Dk s.ks G pa H.lg k->O 5 k)(hi:i∈s.ks){K:List Cp}
  (hd:M.Dm w' H.base (G i) H.lm pb cb K) (hw:M.Wr w w' (G i) (pa i) pb):∃N',bB w' H { s with D:=fE s.D i K } d N'/\bd w N w' N':=by
 have hlt:∀j∈s.ks,∀k,k=G j\/aI (pa j) k->k<w.heap.size:=λj hj k hk=>by
  rcases hk with rfl|hk
  ·exact (hl.each j hj).lt
  ·exact ((hl.each j hj).own.dB k hk).2
 have hlg:=hl.map.lt
 refine h.step (i:=5) (m':=Dk s.ks G (λj=>if j=i then pb else pa j) H.lg) (hw.but.mono (λk hk=>hm k (.inr ⟨i,hi,hk⟩))) ⟨G,λj=>if j=i then pb else pa j,λj=>if j=i then cb else cap j,λk=>if w.heap.size<=k then i else eH k,⟨?_,λj hj=>?_,λj hj k hk=>?_⟩,λk hk=>hk⟩ (λk hk=>?_) DR
 ·exact S.bS hw.but hl.map (λe=>(hl.eH i hi H.lg e).2 rfl)
 ·by_cases e:j=i
  ·subst e
   simp only [fE,if_pos rfl];exact hd
  ·simp only [fE,if_neg e]
   exact (hl.each j hj).but hw.but (λhk=>e (by rw [<-(hl.eH j hj _ (.inl rfl)).1,<-(hl.eH i hi _ hk).1])) (λk hk hk2=>e (by rw [<-(hl.eH j hj _ (.inr hk)).1,<-(hl.eH i hi _ hk2).1]))
 ·by_cases e:j=i
  ·subst e
   simp only [if_pos rfl] at hk;by_cases hk2:w.heap.size<=k
   ·rw [if_pos hk2];exact⟨rfl,by omega⟩
   ·rw [if_neg hk2]
    rcases hk with rfl|hk
    ·exact hl.eH j hj _ (.inl rfl)
    ·rcases hw.on k hk with h1|h1
     ·exact hl.eH j hj _ (.inr h1)
     ·exact absurd h1 hk2
  ·simp only [if_neg e] at hk
   have:=hlt j hj k hk
   rw [if_neg (by omega)];exact hl.eH j hj k hk
 ·rcases hk with rfl|⟨j,hj,hk⟩
  ·exact .inl (hm _ (.inl rfl))
  ·by_cases e:j=i
   ·subst e
    simp only [if_pos rfl] at hk;rcases hk with rfl|hk
    ·exact .inl (hm _ (.inr ⟨j,hj,.inl rfl⟩))
    ·rcases hw.on k hk with h1|h1
     ·exact .inl (hm _ (.inr ⟨j,hj,.inr h1⟩))
     ·exact .inr ⟨h1,(hd.own.dB k hk).2⟩
   ·simp only [if_neg e] at hk
    exact .inl (hm _ (.inr ⟨j,hj,hk⟩))
theorem Lay.arm (h:Lay w H s d O N)(hl:Li w H s.ks s.D G pa cap eH)(hm:∀k,Dk s.ks G pa H.lg k->O 5 k)(hi:∀j∈s.ks,j<i){g:Nat}{K:List Cp}
  (hd:M.Dm w' H.base g H.lm pb cb K) (hg:w.heap.size<=g/\∀k,aI pb k->w.heap.size<=k) (hb:aj (·=H.lg) w w') (hmap:w'.ownsMap Tryz.prog 3 S.hr H.lg (s.ks.length+1) (jH (s.ks++[i]) (λj=>if j=i then g else G j))) :
  ∃N',bB w' H { s with ks:=s.ks++[i],D:=fE s.D i K } d N'/\bd w N w' N':=by
 have hlt:∀j∈s.ks,∀k,k=G j\/aI (pa j) k->k<w.heap.size:=λj hj k hk=>by
  rcases hk with rfl|hk
  ·exact (hl.each j hj).lt
  ·exact ((hl.each j hj).own.dB k hk).2
 have hlg:=hl.map.lt
 have hne:∀j∈s.ks,j≠i:=λj hj e=>by have:=hi j hj;omega
 have hold:∀k,H.lg=k->O 5 k:=λk e=>e ▸ hm _ (.inl rfl)
 refine h.step (i:=5) (m':=Dk (s.ks++[i]) (λj=>if j=i then g else G j) (λj=>if j=i then pb else pa j) H.lg) (hb.mono (λk e=>hold k e.symm)) ⟨λj=>if j=i then g else G j,λj=>if j=i then pb else pa j,λj=>if j=i then cb else cap j,λk=>if w.heap.size<=k then i else eH k,⟨EL hmap,λj hj=>?_,λj hj k hk=>?_⟩,λk hk=>hk⟩ (λk hk=>?_) DR
 ·rcases List.mem_append.1 hj with hj|hj
  ·have e:=hne j hj
   simp only [fE,if_neg e];exact (hl.each j hj).but hb (λhk=>(hl.eH j hj _ (.inl rfl)).2 hk) (λk hk hk2=>(hl.eH j hj k (.inr hk)).2 hk2)
  ·obtain rfl:j=i:=by simpa using hj
   simp only [fE,if_pos rfl];exact hd
 ·rcases List.mem_append.1 hj with hj|hj
  ·have e:=hne j hj
   simp only [if_neg e] at hk;have:=hlt j hj k hk
   rw [if_neg (by omega)];exact hl.eH j hj k hk
  ·obtain rfl:j=i:=by simpa using hj
   simp only [if_pos rfl] at hk;have hk2:w.heap.size<=k:=by
    rcases hk with rfl|hk
    ·exact hg.1
    ·exact hg.2 k hk
   rw [if_pos hk2];exact⟨rfl,by omega⟩
 ·rcases hk with rfl|⟨j,hj,hk⟩
  ·exact .inl (hm _ (.inl rfl))
  ·rcases List.mem_append.1 hj with hj|hj
   ·have e:=hne j hj
    simp only [if_neg e] at hk;exact .inl (hm _ (.inr ⟨j,hj,hk⟩))
   ·obtain rfl:j=i:=by simpa using hj
    simp only [if_pos rfl] at hk;rcases hk with rfl|hk
    ·exact .inr ⟨hg.1,hd.lt⟩
    ·exact .inr ⟨hg.2 k hk,(hd.own.dB k hk).2⟩
theorem Fj (h:bB w H s d N)(size:Int):Calls Tryz.prog 222 #[.pointer (some ⟨H.z.s,0,none⟩),.int .i64 size] w λe w'=>e=.returned (.int .i64 (S.eW H.z.room H.z.n s.nx s.V size))/\Below w.heap.size w w':=by
 obtain⟨Os,hs,hv⟩:=h.st
 rw [<-hv,S.xB hs];exact S.E8 H.z s.nx Os size w hs
theorem Dl (h:bB w H s d N):Calls Tryz.prog 67 #[.pointer (some ⟨H.z.s,0,none⟩)] w λe w'=>e=.returned (.int .i64 s.nx)/\w'=w:=by
 obtain⟨Os,hs,hv⟩:=h.st
 exact S.De H.z s.nx Os w hs
theorem Bn (h:bB w H s d N)(size:Int)(hE:S.eW H.z.room H.z.n s.nx s.V size=0):Calls Tryz.prog 224 #[.pointer (some ⟨H.z.s,0,none⟩),.int .i64 size] w λe w'=>e=.returned (.tuple #[.int .i64 s.nx,.int .i64 0])/\∃N',bB w' H { s with nx:=s.nx+1,V:=s.V++[(s.nx,List.replicate size.toNat 0)] } d N'/\bd w N w' N':=by
 obtain⟨O,h⟩:=h
 obtain⟨Os,hs,hv,hm⟩:=h.part 2
 have h0:0<=size:=by
  unfold S.eW at hE;by_cases h1:size<0\/4096<size
  ·rw [if_pos h1] at hE;exact absurd hE (by decide)
  ·omega
 obtain⟨k,rfl⟩:=Int.eq_ofNat_of_zero_le h0
 rw [<-hv,S.xB hs] at hE;refine (S.oE H.z s.nx Os k w hs hE).mono ?_
 rintro e w' ⟨P,a,rfl,ha,hs',hb⟩
 refine⟨rfl,h.step (i:=2) (m':=λj=>O 2 j\/aI a j) (hb.mono (λj hj=>hm j (.inl hj))) ⟨_,hs',by rw [S.wQ,hv];simp,λj hj=>?_⟩ (λj hj=>?_) Dw⟩
 ·rcases hj with h1|h1
  ·exact .inl (hm j (.inl h1))
  ·rcases S.wm h1 with h2|h2
   ·exact .inl (hm j (.inr h2))
   ·exact .inr h2
 ·rcases hj with h1|h1
  ·exact .inl h1
  ·exact .inr (ha j h1)
theorem G9 (h:bB w H s d N)(id off k:Int)(hi:S.er id):Calls Tryz.prog 230 #[.pointer (some ⟨H.z.s,0,none⟩),.int .i64 id,.int .i64 off,.int .i64 k] w λe w'=>∃a cap,e=.returned (.tuple #[.slice a (S.zj s.V id off k).length cap,.int .i64 (S.rP s.V id off k)])/\Own w' w.heap.size 5 a (S.zj s.V id off k).length cap (S.aN (S.zj s.V id off k))/\Below w.heap.size w w':=by
 obtain⟨Os,hs,hv⟩:=h.st
 rw [<-hv,S.tF,S.FJ];exact S.B7 H.z s.nx Os id off k w hs hi
theorem Ef (h:bB w H s d N)(id off:Int)(da:Option Addr)(k cd:Nat)(L:List Nat)(hi:S.er id)(hR:Row w da k cd (S.aN L))(hD:∀x∈L,x<256)(hap:0<k->∀j,aI da j->¬N j) :
  Calls Tryz.prog 231 #[.pointer (some ⟨H.z.s,0,none⟩),.int .i64 id,.int .i64 off,.slice da k cd] w λe w'=>e=.returned (.int .i64 (S.rP s.V id off (k:Int)))/\bB w' H { s with V:=S.fT s.V id off L } d N/\aj N w w':=by
 obtain⟨O,h⟩:=h
 obtain⟨Os,hs,hv,hm⟩:=h.part 2
 refine (S.yu H.z s.nx Os id off da k cd L w hs hi hR hD (λh0 j hj e=>hap h0 j hj (h.sub 2 j (hm j (.inl e))))).mono ?_
 rintro e w' ⟨rfl,hs',hb⟩
 rw [<-S.tF,hv];refine⟨rfl,h.stay (i:=2) (hb.mono (λj hj=>hm j (.inl hj))) ⟨_,hs',by rw [S.Fw,hv],λj hj=>?_⟩ Dw⟩
 rcases hj with h1|h1
 ·exact hm j (.inl h1)
 ·exact hm j (.inr (S.FG h1))
theorem DW (h:bB w H s d N)(hi:P.Iv H.pm s.px s.P)(n:Int):Calls Tryz.prog 62 #[.pointer (some ⟨H.pg,0,none⟩),.int .i64 n] w λe w'=>e=.returned (.bool (s.P.contains n))/\∃q,w'=w.drewN q:=by
 obtain⟨pa,cap,h1⟩:=h.pr
 exact P.yH h1 hi n
theorem yz (h:bB w H s d N)(hi:P.Iv H.pm s.px s.P):Calls Tryz.prog 235 #[.pointer (some ⟨H.pg,0,none⟩)] w λe w'=>e=.returned (.tuple #[.int .i64 (P.Fm H.pm s.px s.P),.int .i64 (P.Ej H.pm s.px s.P)])/\∃N',bB w' H { s with px:=P.AD H.pm s.px s.P,P:=P.xt H.pm s.px s.P } d N'/\bd w N w' N':=by
 obtain⟨O,h⟩:=h
 obtain⟨pa,cap,h1,hm⟩:=h.part 4
 refine (P.wX h1 hi).mono ?_
 rintro e w' ⟨pb,cb,rfl,h2,hr⟩
 refine⟨rfl,h.step (i:=4) (m':=λk=>k=H.pg\/aI pb k) (hr.but.mono (λk hk=>hm k hk)) ⟨pb,cb,h2,λk hk=>hk⟩ (λk hk=>?_) Hs⟩
 rcases hk with rfl|hk
 ·exact .inl (hm _ (.inl rfl))
 ·rcases hr.on k hk with h3|h3
  ·exact .inl (hm k (.inr h3))
  ·exact .inr ⟨h3,h2.own.lt k hk⟩
end
def Hd.dh (H:Hd):D.Hd:={ mo:=H.mo,e:=H.e,a:=(H.mo:Int),n:=H.n,c:=H.c,g:=H.g,gb:=H.gb,A:=H.A,kn:=H.kn,qg:=H.qg,qb:=H.qb }
section
variable {w w':World}{H:Hd}{s s':bc}{d d':Nat->List K.Pu}{O:Nat->Nat->Prop}{N:Nat->Prop}
theorem Lay.Jz (h:Lay w H s d O N):D.eO w H.dh s.d:=by
 obtain⟨hc,m0⟩:=h.part 0
 obtain⟨hq,m1⟩:=h.part 1
 obtain⟨hd,m3⟩:=h.part 3
 have e01:∀k,O 0 k->O 1 k->False:=λk a b=>absurd (h.ap 0 1 k a b) (by decide)
 have e03:∀k,O 0 k->O 3 k->False:=λk a b=>absurd (h.ap 0 3 k a b) (by decide)
 have e13:∀k,O 1 k->O 3 k->False:=λk a b=>absurd (h.ap 1 3 k a b) (by decide)
 refine⟨hd,hc,hq,h.laid,⟨λk hk e=>e03 k (m0 k hk) (m3 k (.inl e)),λk hk e=>e01 k (m0 k hk) (m1 k (.inr e)),λh0=>⟨λe=>e13 _ (m1 _ (.inr e)) (m3 _ (.inr ⟨h0,rfl⟩)),λe=>e03 _ (m0 _ (D.du e)) (m3 _ (.inr ⟨h0,rfl⟩))⟩,λe=>e13 _ (m1 _ (.inr e)) (m3 _ (.inl rfl)),⟨λe=>e13 _ (m1 _ (.inl rfl)) (m3 _ (.inl e)),λe=>e01 _ (m0 _ (D.du e)) (m1 _ (.inl rfl))⟩,λk hk e=>?_⟩⟩
 subst e;refine h.n0 ?_
 rcases hk with e|e|e
 ·exact h.sub 3 _ (m3 _ (.inl e))
 ·exact h.sub 1 _ (m1 _ (.inr e))
 ·exact h.sub 0 _ (m0 _ (D.du e))
theorem Lay.DB (h:Lay w H s d O N){a:D.bc}(ht:D.eO w' H.dh a)(hb:aj H.dh.Wr w w'):bB w' H (jA s a) d N/\aj N w w':=by
 obtain⟨hc,m0⟩:=h.part 0
 obtain⟨hq,m1⟩:=h.part 1
 obtain⟨hd,m3⟩:=h.part 3
 refine h.stays (C:=λi=>i=0\/i=1\/i=3) (hb.mono (λk hk=>?_)) (λi hi=>?_) (λj hj u m hp=>?_)
 ·rcases hk with e|e|e
  ·exact⟨3,.inr (.inr rfl),m3 k (.inl e)⟩
  ·exact⟨1,.inr (.inl rfl),m1 k (.inr e)⟩
  ·exact⟨0,.inl rfl,m0 k (D.du e)⟩
 ·rcases hi with rfl|rfl|rfl
  ·exact⟨ht.cat,m0⟩
  ·exact⟨ht.qu,m1⟩
  ·exact⟨ht.d,m3⟩
 ·rcases j with _|_|_|_|_|_|_|_|j
  ·exact absurd (.inl rfl) hj
  ·exact absurd (.inr (.inl rfl)) hj
  ·exact hp
  ·exact absurd (.inr (.inr rfl)) hj
  all_goals exact hp
theorem KF.Ha {p:Pm}(h:KF p s):D.Fit p.d s.d:=⟨h.fit.inv,h.fit.jU,h.fit.len,Int.le_refl _,h.le,h.cs⟩
theorem DT (h:bB w H s d N)(hf:KF H.p s)(o:Int)(ho:(Lit.int .i64 o).wf=true) :
  Calls Tryz.prog 223 #[.pointer (some ⟨H.g,0,none⟩),.pointer (some ⟨H.A.g,0,none⟩),.pointer (some ⟨H.qg,0,none⟩),.int .i64 o] w λe w'=>e=.returned (.tuple #[j5 (D.bH H.p.d s.d o).c,.int .i64 (D.bH H.p.d s.d o).code])/\bB w' H (jA s (D.bH H.p.d s.d o).s) d N/\aj N w w':=by
 obtain⟨O,h⟩:=h
 refine (D.ma (H:=H.dh) h.Jz hf.Ha o ho).mono ?_
 rintro e w' ⟨rfl,ht,hb⟩
 exact⟨rfl,h.DB ht hb⟩
theorem Er (h:bB w H s d N)(hf:KF H.p s)(c:Cp)(r:Int)(ho:(Lit.int .i64 c.1).wf=true)(hw:c.2.1<az/\c.2.2<az) :
  Calls Tryz.prog 227 #[.pointer (some ⟨H.g,0,none⟩),.pointer (some ⟨H.A.g,0,none⟩),.pointer (some ⟨H.qg,0,none⟩),j5 c,.int .i64 r] w λe w'=>e=.returned (.tuple #[j5 (D.bV H.p.d s.d c r).c,.int .i64 (D.bV H.p.d s.d c r).code])/\bB w' H (jA s (D.bV H.p.d s.d c r).s) d N/\aj N w w':=by
 obtain⟨O,h⟩:=h
 refine (D.rX (H:=H.dh) h.Jz hf.Ha c r ho hw).mono ?_
 rintro e w' ⟨rfl,ht,hb⟩
 exact⟨rfl,h.DB ht hb⟩
def Hd.lh (H:Hd)(z:Nat):L.Hv:=⟨H.A,H.kn,H.mo,H.cg,H.cs,H.cw,H.kn,H.v,z,z+1,z+1⟩
theorem Lay.vd (h:Lay w H s d O N):L.Vd w (H.lh w.heap.size) s.X s.l d:=by
 obtain⟨hc,m0⟩:=h.part 0
 obtain⟨hk,hv,m6,m6v,hne⟩:=h.part 6
 have e06:∀k,O 0 k->O 6 k->False:=λk a b=>absurd (h.ap 0 6 k a b) (by decide)
 have lt:∀i k,O i k->k<w.heap.size:=λi k hk=>(h.mQ k (h.sub i k hk)).2
 have l1:=lt 6 _ m6
 have l2:=lt 6 _ m6v
 refine⟨hc,hk,hv,⟨λe=>e06 _ (m0 _ e) m6,λe=>e06 _ (m0 _ e) m6v,hne,λe=>?_,?_,λe=>?_,?_,?_,?_,λe=>?_,?_,?_,?_⟩⟩
 ·have:=lt 0 _ (m0 _ e);exact absurd this (Nat.lt_irrefl _)
 ·show w.heap.size≠H.cg;omega
 ·have:=lt 0 _ (m0 _ e);exact absurd this (show ¬w.heap.size+1<w.heap.size by omega)
 ·show w.heap.size+1≠H.cg;omega
 ·show w.heap.size+1≠H.v;omega
 ·show w.heap.size+1≠w.heap.size;omega
 ·have:=lt 0 _ (m0 _ e);exact absurd this (show ¬w.heap.size+1<w.heap.size by omega)
 ·show w.heap.size+1≠H.cg;omega
 ·show w.heap.size+1≠H.v;omega
 ·show w.heap.size+1≠w.heap.size;omega
theorem Lay.GJ (h:Lay w H s d O N){z:Nat}{T:Nat->List K.Pu}(hv:L.Vd w' (H.lh z) s.X s.l T)(hb:aj (λk=>k=H.cg) w w'):bB w' H s T N/\aj N w w':=by
 obtain⟨_,_,m6,m6v,hne⟩:=h.part 6
 exact h.stay (i:=6) (hb.mono (λk e=>e ▸ m6)) ⟨hv.ch,hv.va,m6,m6v,hne⟩ GO
theorem bB.JJ (h:bB w H s d N):H.kb≠H.cg/\H.lg≠H.cg/\N H.cg:=by
 obtain⟨O,h⟩:=h
 obtain⟨_,_,m6,_,_⟩:=h.part 6
 obtain⟨_,_,_,_,_,m5⟩:=h.part 5
 exact⟨λe=>absurd (h.ap 7 6 _ (h.part 7).2 (e ▸ m6)) (by decide),λe=>absurd (h.ap 5 6 _ (m5 _ (.inl rfl)) (e ▸ m6)) (by decide),h.sub 6 _ m6⟩
theorem Ez (h:bB w H s d N)(ht:L.Tr s.X s.l d)(c:Cp)(need:Int)(hw:c.2.1<az/\c.2.2<az) :
  Calls Tryz.prog 299 #[.pointer (some ⟨H.v,0,none⟩),j5 c,.int .i64 need] w λe w'=>e=.returned (.int .i64 (L.cO s.X s.l need c))/\∃T,bB w' H s T N/\L.Tr s.X s.l T/\aj N w w'/\aj (λk=>k=H.cg) w w':=by
 obtain⟨O,h⟩:=h
 refine (L.nW (H:=H.lh w.heap.size) ⟨d,h.vd,ht⟩ c need hw).mono ?_
 rintro e w' ⟨rfl,⟨T,hv,hT⟩,hb⟩
 obtain⟨h1,h2⟩:=h.GJ hv hb
 exact⟨rfl,T,h1,hT,h2,hb⟩
theorem FR (h:bB w H s d N)(ht:L.Tr s.X s.l d)(o need:Int){a:Option Addr}{n:Nat}{Q:List Cp}(cap:Nat)(hr:Rd w a n Q)(hn:n<=9223372036854775807)(hk:∀c∈Q,c.2.1<az/\c.2.2<az)(ha:0<n->∀k,aI a k->¬N k) :
  Calls Tryz.prog 300 #[.pointer (some ⟨H.v,0,none⟩),.int .i64 o,.int .i64 need,.slice a n cap] w λe w'=>e=.returned (.tuple #[j5 (L.dL (L.cO s.X s.l need) o Q 3).1,.int .i64 (L.dL (L.cO s.X s.l need) o Q 3).2])/\∃T,bB w' H s T N/\L.Tr s.X s.l T/\aj N w w'/\aj (λk=>k=H.cg) w w':=by
 obtain⟨O,h⟩:=h
 obtain⟨_,_,m6,_,_⟩:=h.part 6
 refine (L.wJ (H:=H.lh w.heap.size) ⟨d,h.vd,ht⟩ o need cap hr hn hk (λh0 k hk e=>ha h0 k hk (h.sub 6 k (by rw [e];exact m6)))).mono ?_
 rintro e w' ⟨rfl,⟨T,hv,hT⟩,hb⟩
 obtain⟨h1,h2⟩:=h.GJ hv hb
 exact⟨rfl,T,h1,hT,h2,hb⟩
end
abbrev bR (r:dZ)(a:Option Addr)(n c:Nat):Value:=.agg #[ab r.code,ab r.cap.1,ai (r.cap.2.1:Int),ai (r.cap.2.2:Int),.slice a n c,ab r.num]
def aZ (r:dZ)(a:Option Addr)(n c:Nat):List Value:=[ab r.code,ab r.cap.1,ai (r.cap.2.1:Int),ai (r.cap.2.2:Int),.slice a n c,ab r.num]
abbrev z6:Obj:=.cells #[ab 0,ab 0,ai 0,ai 0,.slice none 0 0,ab 0] 40
theorem a_ {P:Program}{w w':World}{ops:Array Oper}{rest:List Oper}{a:Act}{Q:Exit->Act->World->Prop}{tt:TypeId}{ps:String}{af}{ty:TypeId}{x y:Operand}{p v:Value}
  (hr:(Instr.storeAt ty p v).run P w=.ok () w') (hx:a.eval x=p) (hy:a.eval y=v) (h:wpList P ops Q rest a w') :
  wpList P ops Q ({ dst:=none,op:=.store ty x y,type:=tt,pos:=ps,after:=af,guard:=none }::rest) a w:=by
 refine wpList_plain rfl λK hK=>?_
 unfold Oper.wp execOp;simp only [hx,hy,hr,Sem.run_bind,Sem.run_pure,Result.andThen_ok];exact hK _ _ h
theorem DN:(Tryz.prog.info? 40).map (·.size)=some 6:=by kernel_rfl
section
variable {w w':World}{H:Hd}{s s':bc}{d d':Nat->List K.Pu}{O:Nat->Nat->Prop}{N:Nat->Prop}
variable {b:Nat}
def Zr (w:World)(b:Nat):Prop:=w.there b 0 6
theorem Zr.new (w:World):Zr (w.alloc z6) w.heap.size:=(R.Bx.new w [ab 0,ab 0,ai 0,ai 0,.slice none 0 0,ab 0] 40).there
theorem Zr.but {B:Nat->Prop}(h:Zr w b)(hb:aj B w w')(hn:¬B b):Zr w' b:=λj hj=>by
 obtain⟨h1,h2⟩:=h j hj
 obtain⟨v,hv⟩:=Option.isSome_iff_exists.1 h1
 have hk:=hb.block b (World.block_lt_of_cell? _ _ hv) hn
 exact⟨by rw [World.cell?_of_block hk];exact h1,by rw [World.frozen?_of_block hk];exact h2⟩
theorem Zr.later (h:Zr w b)(hb:Below w.heap.size w w'):Zr w' b:=h.but (B:=λ_=>False) (aj.of hb) (λh=>h)
theorem Zr.lt (h:Zr w b):b<w.heap.size:=by
 obtain⟨h1,_⟩:=h 0 (by decide)
 obtain⟨v,hv⟩:=Option.isSome_iff_exists.1 h1
 exact World.block_lt_of_cell? _ _ hv
theorem ko (r:dZ)(a:Option Addr)(n c:Nat):∀v∈aZ r a n c,v.oneCell'=true:=by simp [aZ,Value.oneCell']
theorem Zr.Io {M:List Value}(h:Zr w b)(hl:M.length=6)(h1:∀v∈M,v.oneCell'=true):(Instr.storeAt 40 (aq b) (.agg M.toArray)).run Tryz.prog w=.ok () (w.setCells b 0 M):=by
 have:=R.DG h hl h1
 simp [Instr.storeAt,storeVar,Instr.sureAddr,Value.cells,hl,this,Result.andThen]
theorem Zr.st (h:Zr w b)(r:dZ)(a:Option Addr)(n c:Nat):(Instr.storeAt 40 (aq b) (bR r a n c)).run Tryz.prog w=.ok () (w.setCells b 0 (aZ r a n c)):=h.Io (M:=aZ r a n c) rfl (ko r a n c)
theorem Zr.lv (h:Zr w b)(r:dZ)(a:Option Addr)(n c:Nat):(loadVar 40 ⟨b,0,none⟩).run Tryz.prog (w.setCells b 0 (aZ r a n c))=.ok (bR r a n c) (w.setCells b 0 (aZ r a n c)) :=
 run_loadVar_mid (P:=Tryz.prog) _ b 0 40 (aZ r a n c) _ (World.rangeAt_setCells_same _ _ _ _ h) Tryz.underlying40 rfl (by rw [DN];rfl)
theorem bN (c:Int)(w:World):Calls Tryz.prog 61 #[ab c] w λe w'=>e=.returned (bR (rep c) none 0 0)/\Below w.heap.size w w':=by
 have hst:=(Zr.new w).st (rep c) none 0 0
 have hlv:=(Zr.new w).lv (rep c) none 0 0
 have HB:Hid (Below w.heap.size w ((w.alloc z6).setCells w.heap.size 0 (aZ (rep c) none 0 0))):=aj.below (ag _ _) (R.au (S:=(·=w.heap.size)) rfl _ 0 (aj.refl _ _)) (λk e=>by omega)
 have HS:=ae hst
 have HL:=ae hlv
 clear hst hlv;go_enter Tryz.func61,Tryz.ntmps61
 go_wp2_with (first|((with_reducible refine a_ HS.out ?_ ?_ ?_);(· rfl);(· rfl)))
 exact bodyPost_ret (v:=bR (rep c) none 0 0) (by simp [results,Tryz.results61,asAddr,HL.out]) rfl ⟨rfl,HB.out⟩
theorem bB.new (h:bB w H s d N){k:Nat}(hk:w.heap.size<=k):¬N k:=λe=>by have:=(h.mQ k e).2;omega
end
structure Cb (w:World)(b:Nat)(c:R.Cl)(dd gg:R.Sl):Prop where
 c0:w.cell? ⟨b,0,none⟩=some (ab c.op)
 c1:w.cell? ⟨b,1,none⟩=some (ab c.aE)
 c2:w.cell? ⟨b,2,none⟩=some (ab c.size)
 c3:w.cell? ⟨b,3,none⟩=some (ab c.obj)
 c4:w.cell? ⟨b,4,none⟩=some (ai (c.hi:Int))
 c5:w.cell? ⟨b,5,none⟩=some (ai (c.lo:Int))
 c6:w.cell? ⟨b,6,none⟩=some (.bool c.given)
 c7:w.cell? ⟨b,7,none⟩=some (ab c.aD)
 c8:w.cell? ⟨b,8,none⟩=some (ab c.off)
 c9:w.cell? ⟨b,9,none⟩=some (ab c.n)
 Jr:w.cell? ⟨b,10,none⟩=some dd.v
 JH:w.cell? ⟨b,11,none⟩=some (ab c.index)
 Il:w.cell? ⟨b,12,none⟩=some gg.v
section
variable {w w':World}{H:Hd}{s s':bc}{d d':Nat->List K.Pu}{O:Nat->Nat->Prop}{N:Nat->Prop}{c:R.Cl}{dd gg:R.Sl}{b:Nat}
theorem Cb.of (h:R.Bx w b (R.cC c dd gg)):Cb w b c dd gg:=⟨h.cell 0 rfl,h.cell 1 rfl,h.cell 2 rfl,h.cell 3 rfl,h.cell 4 rfl,h.cell 5 rfl,h.cell 6 rfl,h.cell 7 rfl,h.cell 8 rfl,h.cell 9 rfl,h.cell 10 rfl,h.cell 11 rfl,h.cell 12 rfl⟩
theorem Cb.but {B:Nat->Prop}(h:Cb w b c dd gg)(hb:aj B w w')(hn:¬B b):Cb w' b c dd gg :=
 ⟨an hb h.c0 hn,an hb h.c1 hn,an hb h.c2 hn,an hb h.c3 hn,an hb h.c4 hn,an hb h.c5 hn,an hb h.c6 hn,an hb h.c7 hn,an hb h.c8 hn,an hb h.c9 hn,an hb h.Jr hn,an hb h.JH hn,an hb h.Il hn⟩
theorem pL (h:bB w H s d N)(ht:L.Tr s.X s.l d)(need:Int)(hg:c.given=true)(hw:c.hi<az/\c.lo<az) :
  Calls Tryz.prog 229 #[aq H.kb,.agg (R.cC c dd gg).toArray,ab need] w λe w'=>e=.returned (ab (L.cO s.X s.l need (fq c)))/\∃T,bB w' H s T N/\L.Tr s.X s.l T/\aj N w w':=by
 have hB:=ag w (Obj.cells (R.cC c dd gg).toArray 44)
 obtain⟨W,hW⟩:∃W,W=w.alloc (Obj.cells (R.cC c dd gg).toArray 44):=⟨_,rfl⟩
 have hX:=Cb.of (R.Bx.new w (R.cC c dd gg) 44)
 rw [<-hW] at hB hX;have h2:=h.later hB
 have hk:=h2.kb 16 _ rfl
 have x3:=hX.c3
 have x4:=hX.c4
 have x5:=hX.c5
 have x6:=hX.c6
 rw [hg] at x6;have HC:=ae (λ(U:World) (hU:Below W.heap.size W U)=>Ez (h2.later hU) ht (fq c) need hw)
 unfold fq at HC ⊢
 have HB:=ae hB
 have HX:=ae hX
 have HS:Hid (∀U,Below W.heap.size W U->U.cell? ⟨H.kb,16,none⟩=some (aq H.v)/\U.cell? ⟨w.heap.size,3,none⟩=some (ab c.obj)/\U.cell? ⟨w.heap.size,4,none⟩=some (ai (c.hi:Int))/\U.cell? ⟨w.heap.size,5,none⟩=some (ai (c.lo:Int))):=λU hU=>⟨cell_later hU hk,cell_later hU x3,cell_later hU x4,cell_later hU x5⟩
 have HW:=ae hW
 have HN:=ae (h.new (Nat.le_refl _))
 clear h h2 hB hX hW ht;go_enter Tryz.func229,Tryz.ntmps229
 go_upto_region 1 with fail
 rw [<-HW.out];go_upto_region 2 with fail
 go_region_held3 (λU=>U.cell? ⟨H.kb,16,none⟩=some (aq H.v)/\U.cell? ⟨w.heap.size,3,none⟩=some (ab c.obj)/\U.cell? ⟨w.heap.size,4,none⟩=some (ai (c.hi:Int))/\U.cell? ⟨w.heap.size,5,none⟩=some (ai (c.lo:Int))) (first|exact HS.out _ (Below.refl _ _).drew|exact HE.out) (first|(go_at_call 299;refine (HC.out _ (Below.refl _ _).drew).mono ?_;rintro e w2 ⟨rfl,T,hd2,ht2,hb2,-⟩;have PO:=ae hd2;have OO:=ae ht2;have OH:Hid (aj N W w2):=(aj.of (Below.refl _ _).drew).trans hb2;have HE:=ae (And.intro (hd2.kb 16 _ rfl) (And.intro (HX.out.but OH.out HN.out).c3 (And.intro (HX.out.but OH.out HN.out).c4 (HX.out.but OH.out HN.out).c5)));clear hd2 ht2 hb2))
 go_wp2;go_ret;exact⟨rfl,T,PO.out,OO.out,(aj.of HB.out).trans OH.out⟩
end
section
variable {w w':World}{H:Hd}{s s':bc}{d d':Nat->List K.Pu}{O:Nat->Nat->Prop}{N:Nat->Prop}{c:R.Cl}{dd gg:R.Sl}{b:Nat}
theorem FQ {x:Int}(h:S.er x):(Lit.int .i64 x).wf=true:=WalkArith.wf_i64 (by unfold S.er at h;omega)
structure Zb (w:World)(b:Nat):Prop where
 c0:aM w ⟨b,0,none⟩ (.int .i64 0)
 c1:aM w ⟨b,1,none⟩ (.int .u64 0)
 c2:aM w ⟨b,2,none⟩ (.int .u64 0)
theorem Zb.Gf (w:World):Zb (w.alloc (Obj.cells #[.int .i64 0,.int .u64 0,.int .u64 0] 37)).drew w.heap.size:=⟨⟨by simp [go_sem],by simp [go_sem]⟩,⟨by simp [go_sem],by simp [go_sem]⟩,⟨by simp [go_sem],by simp [go_sem]⟩⟩
theorem Zb.but {B:Nat->Prop}(h:Zb w b)(hb:aj B w w')(hn:¬B b):Zb w' b:=⟨h.c0.but hb hn,h.c1.but hb hn,h.c2.but hb hn⟩
structure Bc (u U:World)(b:Nat)(c:Cp):Prop where
 but:aj (λk=>k=b) u U
 c0:U.cell? ⟨b,0,none⟩=some (.int .i64 c.1)
 c1:U.cell? ⟨b,1,none⟩=some (.int .u64 (c.2.1:Int))
 c2:U.cell? ⟨b,2,none⟩=some (.int .u64 (c.2.2:Int))
theorem Bc.first {u:World}(h:Zb u b)(c:Cp):Bc u (((u.setCell ⟨b,0,none⟩ (.int .i64 c.1)).setCell ⟨b,1,none⟩ (.int .u64 (c.2.1:Int))).setCell ⟨b,2,none⟩ (.int .u64 (c.2.2:Int))) b c:=by
 have hc:=AA.set (w:=u) (b:=b) ⟨h.c0,h.c1,h.c2⟩ c
 exact⟨L.c_ (S:=λk=>k=b) (b:=b) (aj.refl _ u) rfl c,hc.c0,hc.c1,hc.c2⟩
theorem Bc.nM (u:World)(c:Cp):Bc u (u.alloc (Obj.cells #[.int .i64 c.1,.int .u64 (c.2.1:Int),.int .u64 (c.2.2:Int)] 37)) u.heap.size c:=⟨aj.of (ag _ _),by simp [go_sem],by simp [go_sem],by simp [go_sem]⟩
theorem tf (h:bB w H s d N)(hf:KF H.p s)(ho:S.er c.obj)(hw:c.hi<az/\c.lo<az) :
  Calls Tryz.prog 137 #[.pointer (some ⟨H.kb,0,none⟩),.agg (R.cC c dd gg).toArray] w λe w'=>e=.returned (bR (mS H.p s (fq c) c.aD).1 none 0 0)/\bB w' H (mS H.p s (fq c) c.aD).2 d N/\aj N w w':=by
 obtain⟨W,hW⟩:∃W,W=(w.alloc (Obj.cells (R.cC c dd gg).toArray 44)).alloc z6:=⟨_,rfl⟩
 have hB:Below w.heap.size w W:=by rw [hW];exact aB _ _ _
 have hX:R.Bx W w.heap.size (R.cC c dd gg):=by rw [hW];exact R.Bx.later (ag _ _) (R.Bx.new w (R.cC c dd gg) 44)
 have hZ:Zr W (w.heap.size+1):=by rw [hW];have:=Zr.new (w.alloc (Obj.cells (R.cC c dd gg).toArray 44));simpa using this
 have h2:=h.later hB
 have HC:=ae (λ(U:World) (hU:Below W.heap.size W U)=>Er (h2.later hU) hf (fq c) c.aD (FQ ho) hw)
 unfold mS;generalize D.bV H.p.d s.d (fq c) c.aD=A at *
 unfold fq at HC;have HS:Hid (∀U {s d},bB U H s d N->aj N W U->U.cell? ⟨H.kb,10,none⟩=some (.pointer (some ⟨H.g,0,none⟩))/\U.cell? ⟨H.kb,12,none⟩=some (.pointer (some ⟨H.A.g,0,none⟩))/\U.cell? ⟨H.kb,13,none⟩=some (.pointer (some ⟨H.qg,0,none⟩))/\U.cell? ⟨w.heap.size,3,none⟩=some (.int .i64 c.obj)/\U.cell? ⟨w.heap.size,4,none⟩=some (.int .u64 (c.hi:Int))/\U.cell? ⟨w.heap.size,5,none⟩=some (.int .u64 (c.lo:Int))/\U.cell? ⟨w.heap.size,7,none⟩=some (.int .i64 c.aD)):=λU s d hd hb=>by
  have:=Cb.of (R.Bx.but hb hX (h.new (Nat.le_refl _)))
  exact⟨hd.kb 10 _ rfl,hd.kb 12 _ rfl,hd.kb 13 _ rfl,this.c3,this.c4,this.c5,this.c7⟩
 have H0:=ae (λU (hU:aj (λ_=>False) W U)=>HS.out U (h2.but hU (λ_ _ h=>h) (λh=>h)) (hU.mono (λ_ h=>h.elim)))
 have HW:=ae hW
 have HB:=ae hB
 have HX:=ae hX
 have HZ:=ae hZ
 have HD:=ae h2
 have HP:Hid (0<w.heap.size):=by have:=h.b0;unfold Hid;omega
 have HN:=ae (λk hk=>h.new (k:=k) hk)
 clear h h2 hB hX hZ hW;go_enter Tryz.func137,Tryz.ntmps137
 go_upto_region 1 with fail
 rw [<-HW.out];go_cut [5,6] (λs5 s6 U=>∃b,s5=.pointer (some ⟨b,0,none⟩)/\s6=.int .i64 A.code/\Hid (W.heap.size<=b/\∃u,(bB u H (jA s A.s) d N/\aj N W u)/\Bc u U b A.c))
 case first =>
  go_region_held3 (λU=>U.cell? ⟨H.kb,10,none⟩=some (.pointer (some ⟨H.g,0,none⟩))/\U.cell? ⟨H.kb,12,none⟩=some (.pointer (some ⟨H.A.g,0,none⟩))/\U.cell? ⟨H.kb,13,none⟩=some (.pointer (some ⟨H.qg,0,none⟩))/\U.cell? ⟨w.heap.size,3,none⟩=some (.int .i64 c.obj)/\U.cell? ⟨w.heap.size,4,none⟩=some (.int .u64 (c.hi:Int))/\U.cell? ⟨w.heap.size,5,none⟩=some (.int .u64 (c.lo:Int))/\U.cell? ⟨w.heap.size,7,none⟩=some (.int .i64 c.aD)) (first|exact H0.out _ (aj.of (Below.refl _ _).drew)|exact H0.out _ (aj.of (ag _ _).drew)|exact H0.out _ (aj.of (ag _ _))|exact HE.out _ (aj.refl _ _)|exact HE.out _ (aj.of (ag _ _))|exact HE.out _ (L.c_ (S:=λk=>k=W.heap.size) (b:=W.heap.size) (aj.refl _ u_) rfl _)) (first
   | (go_at_call 227;refine (HC.out _ (ag _ _).drew).mono ?_;rintro e u_ ⟨rfl,hd_,hb_⟩;have OQ:Hid (aj N W u_):=(aj.of (S:=N) (ag W (Obj.cells #[.int .i64 0,.int .u64 0,.int .u64 0] 37)).drew).trans hb_;have PV:=ae (And.intro hd_ OQ.out);have hzc:=(Zb.Gf W).but (show aj N (W.alloc (Obj.cells #[.int .i64 0,.int .u64 0,.int .u64 0] 37)).drew u_ from hb_) (HN.out _ HB.out.size);have To:=ae hzc;have HE:=ae (λU (hU:aj (λk=>k=W.heap.size) u_ U)=>HS.out U (hd_.but hU (λk hk e=>HN.out k (by have h9:W.heap.size<=_:=(Nat.le_refl _);have:=HB.out.size;omega) hk) (λe=>by have h9:W.heap.size<=_:=(Nat.le_refl _);have:=HB.out.size;have:=HP.out;omega)) (OQ.out.comp hU (λi e=>.inr (by have h9:W.heap.size<=_:=(Nat.le_refl _);omega))));obtain⟨⟨z0,f0⟩,⟨z1,f1⟩,⟨z2,f2⟩⟩:=hzc;clear hb_)
   | (go_at_call 227;refine (HC.out _ (Below.refl _ _).drew).mono ?_;rintro e u_ ⟨rfl,hd_,hb_⟩;have OQ:Hid (aj N W u_):=(aj.of (S:=N) (Below.refl W.heap.size W).drew).trans hb_;have PV:=ae (And.intro hd_ OQ.out);have HE:=ae (λU (hU:aj (λk=>k=u_.heap.size) u_ U)=>HS.out U (hd_.but hU (λk hk e=>HN.out k (by have h9:W.heap.size<=_:=OQ.out.size;have:=HB.out.size;omega) hk) (λe=>by have h9:W.heap.size<=_:=OQ.out.size;have:=HB.out.size;have:=HP.out;omega)) (OQ.out.comp hU (λi e=>.inr (by have h9:W.heap.size<=_:=OQ.out.size;omega))));clear hb_))
  all_goals (try go_wp2)
  all_goals go_meet
  all_goals (first|exact⟨_,rfl,rfl,Nat.le_refl _,u_,PV.out,Bc.first To.out _⟩|exact⟨_,rfl,rfl,OQ.out.size,u_,PV.out,Bc.nM u_ _⟩)
 case rest =>
 rename World=>v
 obtain⟨b,rfl,rfl,HR⟩:=hcut
 obtain⟨hlo,u,⟨hd3,hb3⟩,hbc⟩:=HR.out
 obtain⟨hv,v0,v1,v2⟩:=hbc
 have hsz:=HB.out.size
 have RD:=ae (hd3.but hv (λk hk e=>HN.out k (by omega) hk) (λe=>by have:=HP.out;omega))
 have OT:Hid (aj N W v):=hb3.comp hv (λi e=>.inr (by omega))
 have RE:=ae (HZ.out.but OT.out (HN.out _ (by omega)))
 clear hlo hd3 hb3 hv hsz HR;have OY:=ae (RE.out)
 have O3:=ae (OY.out.st ⟨A.code,A.c,[],0⟩ none 0 0)
 have Pc:=ae (OY.out.lv ⟨A.code,A.c,[],0⟩ none 0 0)
 have OU:Hid (aj (·=w.heap.size+1) (v) ((v).setCells (w.heap.size+1) 0 (aZ ⟨A.code,A.c,[],0⟩ none 0 0))):=R.au (S:=(·=w.heap.size+1)) rfl _ 0 (aj.refl _ _)
 go_wp2_with (first|((with_reducible refine a_ O3.out ?_ ?_ ?_);(· rfl);(· rfl)))
 exact bodyPost_ret (v:=bR ⟨A.code,A.c,[],0⟩ none 0 0) (by simp [results,Tryz.results137,asAddr,Pc.out]) rfl ⟨rfl,RD.out.but OU.out (λk hk e=>HN.out k (by omega) hk) (λe=>by have:0=w.heap.size+1:=e;omega),((aj.of HB.out).trans OT.out).comp OU.out (λi e=>.inr (by omega))⟩
end
section
variable {w w':World}{H:Hd}{s s':bc}{d d':Nat->List K.Pu}{O:Nat->Nat->Prop}{N:Nat->Prop}{c:R.Cl}{dd gg:R.Sl}{b:Nat}
theorem Zb.JI (w:World):Zb (w.alloc (Obj.cells #[.int .i64 0,.int .u64 0,.int .u64 0] 37)) w.heap.size:=⟨⟨by simp [go_sem],by simp [go_sem]⟩,⟨by simp [go_sem],by simp [go_sem]⟩,⟨by simp [go_sem],by simp [go_sem]⟩⟩
theorem Zb.later (h:Zb w b)(hb:Below w.heap.size w w'):Zb w' b:=h.but (B:=λ_=>False) (aj.of hb) (λh=>h)
theorem KF.wk (hf:KF H.p s){i:Int}(hi:i∈s.P):-9223372036854775808<=i/\i<9223372036854775808:=by
 have h1:=hf.iv.lo i hi
 have h2:=hf.iv.hi i hi
 have h3:=hf.iv.x2
 omega
theorem KF.iM (hf:KF H.p s){i:Int}(hi:i∈s.P):(s.D i).length<=32:=by
 have h1:=hf.ln i hi
 have h2:=hf.lm.2
 omega
theorem qt (h:bB w H s d N)(ht:L.Tr s.X s.l d)(hf:KF H.p s)(need:Int)(hg:c.given=false)(hby:c.aE∈s.P) :
  Calls Tryz.prog 229 #[.pointer (some ⟨H.kb,0,none⟩),.agg (R.cC c dd gg).toArray,.int .i64 need] w λe w'=>e=.returned (.int .i64 (L.dL (L.cO s.X s.l need) c.obj (s.D c.aE) 3).2)/\∃T,bB w' H s T N/\L.Tr s.X s.l T/\aj N w w':=by
 obtain⟨W,hW⟩:∃W,W=w.alloc (Obj.cells (R.cC c dd gg).toArray 44):=⟨_,rfl⟩
 have hB:Below w.heap.size w W:=by rw [hW];exact ag _ _
 have hX:R.Bx W w.heap.size (R.cC c dd gg):=by rw [hW];exact R.Bx.new w (R.cC c dd gg) 44
 have h2:=h.later hB
 obtain⟨G,pa,cap,eH,hli,-⟩:=h2.li
 have hks:c.aE∈s.ks:=by rw [hf.ks];exact hby
 have hncg:=h2.JJ
 have x6:=(Cb.of hX).c6
 rw [hg] at x6;have HS:Hid (∀U,aj (λk=>k=H.cg) W U->U.cell? ⟨H.kb,15,none⟩=some (.map (some H.lg))/\U.cell? ⟨H.kb,16,none⟩=some (.pointer (some ⟨H.v,0,none⟩))/\U.cell? ⟨w.heap.size,1,none⟩=some (.int .i64 c.aE)/\U.cell? ⟨w.heap.size,3,none⟩=some (.int .i64 c.obj)/\(Instr.lookup 122 (.map (some H.lg)) (.int .i64 c.aE) false).run Tryz.prog U=.ok (.pointer (some ⟨G c.aE,0,none⟩)) U):=λU hb=>by
  have hx:=Cb.of (R.Bx.but hb hX (λe=>h.new (Nat.le_refl _) (by rw [e];exact hncg.2.2)))
  refine⟨an hb (h2.kb 15 _ rfl) hncg.1,an hb (h2.kb 16 _ rfl) hncg.1,hx.c1,hx.c3,?_⟩
  have hm:=S.bS hb hli.map hncg.2.1
  obtain⟨v,ps,hrun,hv⟩:=hm.lookup S.sl Tryz.underlying122 (S.bg D2 U) (zd:=.held (.pointer none)) (zp:=[]) rfl (S.yE (hf.wk hby))
  rw [l9 _ _ _ hks] at hv;simp only [S.hr,Option.some.injEq,Prod.mk.injEq,DataW.held.injEq] at hv;rw [hrun,hv.1]
 have H0:=ae (λU (hU:aj (λ_=>False) W U)=>HS.out U (hU.mono (λ_ h=>h.elim)))
 have PE:=ae (λ(U:World) (hU:Below W.heap.size W U)=>M.oy ((hli.each _ hks).later hU) (hf.iM hby))
 have Ue:=ae (λ(u1 U:World) (p:Option Addr) (cq:Nat) (hu:Below W.heap.size W u1) (hO:Ow u1 W.heap.size 37 3 p (s.D c.aE).length cq (br (s.D c.aE))) (hU:Below u1.heap.size u1 U)=>FR ((h2.later hu).later hU) ht c.obj need cq ((Ow.rd hO rfl).later hU) (by have:=hf.iM hby;omega) (hf.wd _ hby) (λ_ k hk e=>by have h1:=(h2.mQ k e).2;have h2:=(hO.dB k hk).1;omega))
 have HB:=ae hB
 have HW:=ae hW
 have HN:=ae (λk hk=>h.new (k:=k) hk)
 have R_:Hid (H.cg<w.heap.size):=(h.mQ _ hncg.2.2).2
 obtain⟨Kq,hKq⟩:∃Kq,Kq=L.dL (L.cO s.X s.l need) c.obj (s.D c.aE) 3:=⟨_,rfl⟩
 rw [<-hKq] at Ue ⊢
 obtain⟨kn,hkn⟩:∃kn,kn=(s.D c.aE).length:=⟨_,rfl⟩
 obtain⟨Kl,hKl⟩:∃Kl,Kl=br (s.D c.aE):=⟨_,rfl⟩
 rw [<-hkn,<-hKl] at PE Ue;clear h h2 hB hW ht hX hli hncg hf hby hks hKq hkn hKl;go_enter Tryz.func229,Tryz.ntmps229
 go_upto_region 1 with fail
 rw [<-HW.out];go_upto_region 3 with fail
 go_cut [7,8] (λ_ s8 U=>s8=.int .i64 Kq.2/\Hid (∃u b,(∃T,bB u H s T N/\L.Tr s.X s.l T/\aj N W u)/\W.heap.size<=b/\aj (λk=>k=b) u U))
 case first =>
  go_region_held3 (λU=>U.cell? ⟨H.kb,15,none⟩=some (.map (some H.lg))/\U.cell? ⟨H.kb,16,none⟩=some (.pointer (some ⟨H.v,0,none⟩))/\U.cell? ⟨w.heap.size,1,none⟩=some (.int .i64 c.aE)/\U.cell? ⟨w.heap.size,3,none⟩=some (.int .i64 c.obj)/\(Instr.lookup 122 (.map (some H.lg)) (.int .i64 c.aE) false).run Tryz.prog U=.ok (.pointer (some ⟨G c.aE,0,none⟩)) U) (first|exact H0.out _ (aj.of (Below.refl _ _).drew)|exact H0.out _ (aj.of (ag _ _).drew)|exact H0.out _ (aj.of (ag _ _))|exact R7.out _ (Below.refl _ _)|exact R7.out _ (ag _ _)|exact HE.out _ (aj.refl _ _)|exact HE.out _ (aj.of (ag _ _))|exact HE.out _ (L.c_ (S:=λk=>k=W.heap.size) (b:=W.heap.size) (aj.refl _ u_) rfl _)|exact HE.out _ (L.c_ (S:=λk=>k=u1.heap.size) (b:=u1.heap.size) (aj.refl _ u_) rfl _)) (first
   | (go_at_call 149;(with_reducible refine (PE.out (W.alloc (Obj.cells #[.int .i64 0,.int .u64 0,.int .u64 0] 37)).drew (ag _ _).drew).mono ?_);rintro e u1 ⟨p1,cq,rfl,hO1,hb1⟩;have OI:Hid (Below W.heap.size W u1):=aa (ag _ _).drew hb1;have PI:=ae ((Zb.Gf W).later hb1);have R7:=ae (λU (hU:Below u1.heap.size u1 U)=>H0.out U (aj.of (aa OI.out hU)));have Uk:=ae (λU (hU:Below u1.heap.size u1 U)=>Ue.out u1 U p1 cq OI.out (hO1.mono (ag W (Obj.cells #[.int .i64 0,.int .u64 0,.int .u64 0] 37)).size) hU);clear hO1 hb1)
   | (go_at_call 149;(with_reducible refine (PE.out W.drew (Below.refl _ _).drew).mono ?_);rintro e u1 ⟨p1,cq,rfl,hO1,hb1⟩;have OI:Hid (Below W.heap.size W u1):=aa (Below.refl _ _).drew hb1;have R7:=ae (λU (hU:Below u1.heap.size u1 U)=>H0.out U (aj.of (aa OI.out hU)));have Uk:=ae (λU (hU:Below u1.heap.size u1 U)=>Ue.out u1 U p1 cq OI.out hO1 hU);clear hO1 hb1)
   | (go_at_call 300;(with_reducible refine (Uk.out (u1.alloc (Obj.cells #[.int .i64 0,.int .u64 0,.int .u64 0] 37)) (ag _ _)).mono ?_);rintro e u_ ⟨rfl,T,hd_,ht_,hb_,hb9⟩;have PV:Hid (∃T,bB u_ H s T N/\L.Tr s.X s.l T/\aj N W u_):=⟨T,hd_,ht_,(aj.of (aa OI.out (ag _ _))).trans hb_⟩;have hzc:=(Zb.JI u1).but hb9 (λe=>by have:=OI.out.size;have:=HB.out.size;have:=R_.out;omega);have HE:=ae (λU (hU:aj (λk=>k=u1.heap.size) u_ U)=>HS.out U (((aj.of (aa OI.out (ag _ _))).trans hb9).comp hU (λi e=>.inr (by have:=OI.out.size;omega))));obtain⟨⟨z0,f0⟩,⟨z1,f1⟩,⟨z2,f2⟩⟩:=hzc;clear hd_ ht_ hb_ hb9)
   | (go_at_call 300;have PU:=PI;(with_reducible refine (Uk.out u1 (Below.refl _ _)).mono ?_);rintro e u_ ⟨rfl,T,hd_,ht_,hb_,hb9⟩;have PV:Hid (∃T,bB u_ H s T N/\L.Tr s.X s.l T/\aj N W u_):=⟨T,hd_,ht_,(aj.of OI.out).trans hb_⟩;have hzc:=PU.out.but hb9 (λe=>by have:=HB.out.size;have:=R_.out;omega);have HE:=ae (λU (hU:aj (λk=>k=W.heap.size) u_ U)=>HS.out U (((aj.of OI.out).trans hb9).comp hU (λi e=>.inr (by omega))));obtain⟨⟨z0,f0⟩,⟨z1,f1⟩,⟨z2,f2⟩⟩:=hzc;clear hd_ ht_ hb_ hb9)
   | (go_at_call 300;(with_reducible refine (Uk.out u1 (Below.refl _ _)).mono ?_);rintro e u_ ⟨rfl,T,hd_,ht_,hb_,hb9⟩;have PV:Hid (∃T,bB u_ H s T N/\L.Tr s.X s.l T/\aj N W u_):=⟨T,hd_,ht_,(aj.of OI.out).trans hb_⟩;have OQ:Hid (aj (λk=>k=H.cg) W u_):=(aj.of OI.out).trans hb9;have HE:=ae (λU (hU:aj (λk=>k=u_.heap.size) u_ U)=>HS.out U (OQ.out.comp hU (λi e=>.inr (by have:=OQ.out.size;omega))));clear hd_ ht_ hb_ hb9))
  all_goals (try go_wp2)
  all_goals go_meet
  all_goals (first|exact⟨rfl,u_,W.heap.size,PV.out,Nat.le_refl _,L.c_ (S:=λk=>k=W.heap.size) (b:=W.heap.size) (aj.refl _ u_) rfl Kq.1⟩|exact⟨rfl,u_,u1.heap.size,PV.out,OI.out.size,L.c_ (S:=λk=>k=u1.heap.size) (b:=u1.heap.size) (aj.refl _ u_) rfl Kq.1⟩|exact⟨rfl,u_,u_.heap.size,PV.out,OQ.out.size,aj.of (ag _ _)⟩)
 case rest =>
 rename World=>v
 obtain⟨rfl,HR⟩:=hcut
 obtain⟨u,b,⟨T,hd3,ht3,hb3⟩,hlo,hv⟩:=HR.out
 have hsz:=HB.out.size
 have RD:=ae (hd3.but hv (λk hk e=>HN.out k (by omega) hk) (λe=>by have:=R_.out;omega))
 have OT:Hid (aj N W v):=hb3.comp hv (λi e=>.inr (by omega))
 have Se:=ae ht3
 clear hlo hd3 hb3 hv hsz HR ht3;go_wp2;go_ret;exact⟨rfl,T,RD.out,Se.out,(aj.of HB.out).trans OT.out⟩
end
end Go.Proofs.YtmhinfbkmjdgfaaGreatDoor.V
