import Derived.Test.YtfmhdimaijimlaaGreatDoorZ12
import Derived.Test.YtfmhdimaijimlaaGreatDoorZ15
import Derived.Test.YtfmhdimaijimlaaGreatDoorZ17
import Derived.Test.YtfmhdimaijimlaaGreatDoorZ21
import Derived.Test.YtfmhdimaijimlaaGreatDoorZ09
set_option linter.all false
set_option maxRecDepth 1000000
set_option maxHeartbeats 8000000
open Go.Proofs.Tryz
variable {w w' w1 w2:Go.World}{n m k i j b g base kn:Nat}{a:Option Go.Addr}
namespace Go.Proofs.YtfmhdimaijimlaaGreatDoor.V
open Go.RowKit
open Go.Proofs.YtfmhdimaijimlaaGreatDoor.H (ak Cp)
structure Hd where
 A:Ad
 kn:Nat
 mo:Nat
 qg:Nat
 qb:Nat
 e:Int
 z:S.p7
 g:Nat
 gb:Nat
 n:Nat
 c:Nat->Nat
 pg:Nat
 pm:Int
 lg:Nat
 lm:Int
 cg:Nat
 cs:Nat
 cw:Nat
 v:Nat
 kb:Nat
 W:Int
 base:Nat
def Hd.cf (H:Hd):List Value:=[.int .i64 H.W,.int .i64 (H.z.room:Int),.int .i64 (H.z.n:Int),.int .i64 (H.mo:Int),.int .i64 H.e,.int .i64 H.pm,.int .i64 H.lm,.int .i64 (H.cs:Int),.int .i64 (H.cw:Int),.int .i64 (H.kn:Int)]
def Hd.kc (H:Hd):List Value:=H.cf++[.pointer (some ⟨H.g,0,none⟩),.pointer (some ⟨H.z.s,0,none⟩),.pointer (some ⟨H.A.g,0,none⟩),.pointer (some ⟨H.qg,0,none⟩),.pointer (some ⟨H.pg,0,none⟩),.map (some H.lg),.pointer (some ⟨H.v,0,none⟩)]
def Kb (w:World)(H:Hd):Prop:=∀j v,H.kc[j]?=some v->w.cell? ⟨H.kb,j,none⟩=some v
theorem Kb.but {S:Nat->Prop}{H:Hd}(h:Kb w H)(hb:ae S w w')(hn:¬S H.kb):Kb w' H:=λj v hv=>aC hb (h j v hv) hn
def ij (L:List Int)(G:Int->Nat):DataW Value:=.map (L.map (λi=>(.int .i64 i,.held (.pointer (some ⟨G i,0,none⟩)))))
structure Li (w:World)(H:Hd)(Pr:List Int)(D:Int->List Cp)(G:Int->Nat)(pa:Int->Option Addr)(cap:Int->Nat)(cY:Nat->Int):Prop where
 map:w.ownsMap prog 3 S.hr H.lg Pr.length (ij Pr G)
 each:∀i∈Pr,M.Dm w H.base (G i) H.lm (pa i) (cap i) (D i)
 cY:∀i∈Pr,∀k,k=G i\/aD (pa i) k->cY k=i/\k≠H.lg
def CI (Pr:List Int)(G:Int->Nat)(pa:Int->Option Addr)(lg:Nat)(k:Nat):Prop:=k=lg\/∃i∈Pr,k=G i\/aD (pa i) k
def Part (w:World)(H:Hd)(s:aI)(d:Nat->List K.Pu)(m:Nat->Prop):Nat->Prop
 | 0=>ie w H.A H.kn H.mo s.X s.l/\∀k,H.A.jC k->m k
 | 1=>Q.Qu w H.qg H.qb H.e (H.mo:Int) s.L/\∀k,k=H.qg\/k=H.qb->m k
 | 2=>∃Os,S.St w H.z s.nx Os/\S.vw Os=s.V/\∀k,S.Zb H.z k\/S.Rb Os k->m k
 | 3=>D.Dr w H.g H.gb H.n H.c s.t/\∀k,k=H.g\/(0<H.n/\k=H.gb)->m k
 | 4=>∃pa cap,P.Ob w H.base H.pg H.pm s.px pa cap s.P/\∀k,k=H.pg\/aD pa k->m k
 | 5=>∃G pa cap cY,Li w H s.ks s.D G pa cap cY/\∀k,CI s.ks G pa H.lg k->m k
 | 6=>(∃E hi mi,K.Kc w H.cg H.cs H.cw H.kn d E hi mi)/\L.Va w H.v H.cg H.A.g/\m H.cg/\m H.v/\H.v≠H.cg
 | 7=>Kb w H/\m H.kb
 | _=>True
theorem Li.but {B:Nat->Prop}{H:Hd}{Pr:List Int}{D:Int->List Cp}{G:Int->Nat}{pa:Int->Option Addr}{cap:Int->Nat}{cY:Nat->Int}(h:Li w H Pr D G pa cap cY)(hb:ae B w w')(hS:∀k,CI Pr G pa H.lg k->¬B k):Li w' H Pr D G pa cap cY :=
 ⟨S.bd hb h.map (hS _ (.inl rfl)),λi hi=>(h.each i hi).but hb (hS _ (.inr ⟨i,hi,.inl rfl⟩)) (λk hk=>hS k (.inr ⟨i,hi,.inr hk⟩)),h.cY⟩
theorem Part.but {B:Nat->Prop}{H:Hd}{s:aI}{d:Nat->List K.Pu}{m:Nat->Prop}(hb:ae B w w')(hS:∀k,m k->¬B k):∀i,Part w H s d m i->Part w' H s d m i
 | 0,⟨h,h2⟩=>⟨h.but hb (λk hk=>hS k (h2 k hk)),h2⟩
 | 1,⟨h,h2⟩=>⟨h.but hb (hS _ (h2 _ (.inl rfl))) (hS _ (h2 _ (.inr rfl))),h2⟩
 | 2,⟨Os,h,e,h2⟩=>⟨Os,h.but hb (λk hk=>hS k (h2 k (.inl hk))) (λk hk=>hS k (h2 k (.inr hk))),e,h2⟩
 | 3,⟨h,h2⟩=>⟨h.xg hb (hS _ (h2 _ (.inl rfl))) (λh0=>hS _ (h2 _ (.inr ⟨h0,rfl⟩))),h2⟩
 | 4,⟨pa,cap,h,h2⟩=>⟨pa,cap,h.but hb (hS _ (h2 _ (.inl rfl))) (λk hk=>hS k (h2 k (.inr hk))),h2⟩
 | 5,⟨G,pa,cap,cY,h,h2⟩=>⟨G,pa,cap,cY,h.but hb (λk hk=>hS k (h2 k hk)),h2⟩
 | 6,⟨⟨E,hi,mi,h⟩,hv,h1,h2,h3⟩=>⟨⟨E,hi,mi,h.but hb (hS _ h1)⟩,hv.but hb (hS _ h2),h1,h2,h3⟩
 | 7,⟨h,h2⟩=>⟨h.but hb (hS _ h2),h2⟩
 | _+8,_=>trivial
structure Lay (w:World)(H:Hd)(s:aI)(d:Nat->List K.Pu)(M:Nat->Nat->Prop)(N:Nat->Prop):Prop where
 part:∀i,Part w H s d (M i) i
 ap:∀i j k,M i k->M j k->i=j
 sub:∀i k,M i k->N k
 p6:∀k,N k->H.base<=k/\k<w.heap.size
 mX:1<=H.mo/\H.mo<=256
 laid:D.Laid w
 b0:0<H.base/\H.base<=w.heap.size
def aF (w:World)(H:Hd)(s:aI)(d:Nat->List K.Pu)(N:Nat->Prop):Prop:=∃M,Lay w H s d M N
def aH (w:World)(N:Nat->Prop)(w':World)(N':Nat->Prop):Prop:=(∀k,N' k->N k\/w.heap.size<=k)/\ae N w w'
theorem aH.later {N:Nat->Prop}(hb:Below w.heap.size w w'):aH w N w' N:=⟨λk h=>.inl h,ae.of hb⟩
theorem aH.stay {w w':World}{N:Nat->Prop}(hb:ae N w w'):aH w N w' N:=⟨λk h=>.inl h,hb⟩
theorem aH.trans {N N1 N2:Nat->Prop}(h:aH w N w1 N1)(k:aH w1 N1 w2 N2):aH w N w2 N2:=by
 refine⟨λj hj=>?_,⟨k.2.os.trans h.2.os,k.2.tape.trans h.2.tape,k.2.output.trans h.2.output,Nat.le_trans h.2.size k.2.size,λj hj hn=>?_⟩⟩
 ·rcases k.1 j hj with h1|h1
  ·exact h.1 j h1
  ·exact .inr (Nat.le_trans h.2.size h1)
 ·refine (k.2.block j (Nat.lt_of_lt_of_le hj h.2.size) (λh1=>?_)).trans (h.2.block j hj hn)
  rcases h.1 j h1 with h2|h2
  ·exact hn h2
  ·omega
theorem aH.out {w w':World}{N N':Nat->Prop}(h:aH w N w' N'){b:Nat}(hb:b<w.heap.size)(hn:¬N b):¬N' b:=λe=>by
 rcases h.1 b e with h1|h1
 ·exact hn h1
 ·omega
theorem aH.size {N N':Nat->Prop}(h:aH w N w' N'):w.heap.size<=w'.heap.size:=h.2.size
section
variable {w w':World}{H:Hd}{s s':aI}{d d':Nat->List K.Pu}{M:Nat->Nat->Prop}{N:Nat->Prop}
theorem Lay.n0 (h:Lay w H s d M N):¬N 0:=λe=>by have:=(h.p6 0 e).1;have:=h.b0;omega
theorem Lay.steps {C:Nat->Prop}{m':Nat->Nat->Prop}(h:Lay w H s d M N)(hb:ae (λk=>∃i,C i/\M i k) w w')(hp:∀i,C i->Part w' H s' d' (m' i) i)
  (hm:∀i,C i->∀k,m' i k->M i k\/(w.heap.size<=k/\k<w'.heap.size)) (hx:∀i j,C i->C j->∀k,w.heap.size<=k->m' i k->m' j k->i=j)
  (same:∀j,¬C j->∀u m,Part u H s d m j->Part u H s' d' m j):∃N',aF w' H s' d' N'/\aH w N w' N'/\∀k,N' k->N k\/∃i,C i/\m' i k:=by
 classical
 have hN:ae N w w':=hb.mono (λk hk=>by obtain⟨i,_,hk⟩:=hk;exact h.sub i k hk)
 have hsz:=hb.size
 have key:∀x i,¬C x->C i->∀k,M x k->m' i k->False:=λx i hx hi k h1 h2=>by
  rcases hm i hi k h2 with h3|h3
  ·exact hx (by rw [h.ap x i k h1 h3];exact hi)
  ·have:=(h.p6 k (h.sub x k h1)).2;omega
 refine⟨λk=>N k\/∃i,C i/\m' i k,⟨λj=>if C j then m' j else M j,λj=>?_,λa b k ha hb'=>?_,λj k hk=>?_,λk hk=>?_,h.mX,h.laid.but hN h.n0,h.b0.1,by have:=h.b0.2;omega⟩,⟨λk hk=>?_,hN⟩,λk hk=>hk⟩
 ·by_cases e:C j
  ·rw [if_pos e];exact hp j e
  ·rw [if_neg e]
   exact same j e w' (M j) (Part.but hb (λk hk e2=>by obtain⟨i,hi,e2⟩:=e2;exact e (by rw [h.ap j i k hk e2];exact hi)) j (h.part j))
 ·by_cases ea:C a
  ·rw [if_pos ea] at ha
   by_cases eb:C b
   ·rw [if_pos eb] at hb'
    rcases hm a ea k ha with h1|h1
    ·rcases hm b eb k hb' with h2|h2
     ·exact h.ap a b k h1 h2
     ·have:=(h.p6 k (h.sub a k h1)).2;omega
    ·exact hx a b ea eb k h1.1 ha hb'
   ·rw [if_neg eb] at hb'
    exact (key b a eb ea k hb' ha).elim
  ·rw [if_neg ea] at ha
   by_cases eb:C b
   ·rw [if_pos eb] at hb'
    exact (key a b ea eb k ha hb').elim
   ·rw [if_neg eb] at hb'
    exact h.ap a b k ha hb'
 ·by_cases e:C j
  ·rw [if_pos e] at hk;exact .inr ⟨j,e,hk⟩
  ·rw [if_neg e] at hk;exact .inl (h.sub j k hk)
 ·have uh:N k->H.base<=k/\k<w'.heap.size:=λh1=>by
   have:=h.p6 k h1
   exact⟨this.1,by omega⟩
  rcases hk with h1|⟨i,hi,h1⟩
  ·exact uh h1
  ·rcases hm i hi k h1 with h2|h2
   ·exact uh (h.sub i k h2)
   ·have:=h.b0.2;exact⟨by omega,h2.2⟩
 ·rcases hk with h1|⟨i,hi,h1⟩
  ·exact .inl h1
  ·rcases hm i hi k h1 with h2|h2
   ·exact .inl (h.sub i k h2)
   ·exact .inr h2.1
theorem Lay.step {i:Nat}{m':Nat->Prop}(h:Lay w H s d M N)(hb:ae (M i) w w')(hp:Part w' H s' d' m' i)
  (hm:∀k,m' k->M i k\/(w.heap.size<=k/\k<w'.heap.size)) (same:∀j,j≠i->∀u m,Part u H s d m j->Part u H s' d' m j) :
  ∃N',aF w' H s' d' N'/\aH w N w' N':=by
 obtain⟨N',h1,h2,_⟩:=h.steps (C:=(·=i)) (m':=λ_=>m') (hb.mono (λk hk=>⟨i,rfl,hk⟩)) (λj e=>by rw [e];exact hp) (λj e k hk=>by rw [e];exact hm k hk) (λa b ea eb k _ _ _=>by rw [ea,eb]) (λj hj=>same j hj)
 exact⟨N',h1,h2⟩
theorem Lay.stays {C:Nat->Prop}(h:Lay w H s d M N)(hb:ae (λk=>∃i,C i/\M i k) w w')(hp:∀i,C i->Part w' H s' d' (M i) i)
  (same:∀j,¬C j->∀u m,Part u H s d m j->Part u H s' d' m j):aF w' H s' d' N/\ae N w w':=by
 have hN:ae N w w':=hb.mono (λk hk=>by obtain⟨i,_,hk⟩:=hk;exact h.sub i k hk)
 refine⟨⟨M,λj=>?_,h.ap,h.sub,λk hk=>?_,h.mX,h.laid.but hN h.n0,h.b0.1,by have:=h.b0.2;have:=hb.size;omega⟩,hN⟩
 ·by_cases e:C j
  ·exact hp j e
  ·exact same j e w' (M j) (Part.but hb (λk hk e2=>by obtain⟨i,hi,e2⟩:=e2;exact e (by rw [h.ap j i k hk e2];exact hi)) j (h.part j))
 ·have:=h.p6 k hk
  have hs:=hb.size
  exact⟨this.1,by omega⟩
theorem Lay.stay {i:Nat}(h:Lay w H s d M N)(hb:ae (M i) w w')(hp:Part w' H s' d' (M i) i)
  (same:∀j,j≠i->∀u m,Part u H s d m j->Part u H s' d' m j):aF w' H s' d' N/\ae N w w' :=
 h.stays (C:=(·=i)) (hb.mono (λk hk=>⟨i,rfl,hk⟩)) (λj e=>by rw [e];exact hp) (λj hj=>same j hj)
theorem aF.but {B:Nat->Prop}(h:aF w H s d N)(hb:ae B w w')(hS:∀k,N k->¬B k)(h0:¬B 0):aF w' H s d N:=by
 obtain⟨M,h⟩:=h
 have hs:=hb.size
 exact⟨M,λi=>Part.but hb (λk hk=>hS k (h.sub i k hk)) i (h.part i),h.ap,h.sub,λk hk=>by have:=h.p6 k hk;exact⟨this.1,by omega⟩,h.mX,h.laid.but hb h0,h.b0.1,by have:=h.b0.2;omega⟩
theorem aF.later (h:aF w H s d N)(hb:Below w.heap.size w w'):aF w' H s d N:=h.but (B:=λ_=>False) (ae.of hb) (λ_ _ h=>h) (λh=>h)
theorem aF.cat (h:aF w H s d N):ie w H.A H.kn H.mo s.X s.l:=by obtain⟨M,h⟩:=h;exact (h.part 0).1
theorem aF.st (h:aF w H s d N):∃Os,S.St w H.z s.nx Os/\S.vw Os=s.V:=by obtain⟨M,h⟩:=h;obtain⟨Os,h1,h2,_⟩:=h.part 2;exact⟨Os,h1,h2⟩
theorem aF.dr (h:aF w H s d N):D.Dr w H.g H.gb H.n H.c s.t:=by obtain⟨M,h⟩:=h;exact (h.part 3).1
theorem aF.pr (h:aF w H s d N):∃pa cap,P.Ob w H.base H.pg H.pm s.px pa cap s.P:=by obtain⟨M,h⟩:=h;obtain⟨pa,cap,h1,_⟩:=h.part 4;exact⟨pa,cap,h1⟩
theorem aF.kb (h:aF w H s d N):Kb w H:=by obtain⟨M,h⟩:=h;exact (h.part 7).1
theorem aF.inv (h:aF w H s d N):Inv H.mo s.X s.l:=h.cat.inv
theorem aF.p6 (h:aF w H s d N):∀k,N k->H.base<=k/\k<w.heap.size:=by obtain⟨M,h⟩:=h;exact h.p6
theorem aF.mX (h:aF w H s d N):1<=H.mo/\H.mo<=256:=by obtain⟨M,h⟩:=h;exact h.mX
theorem aF.b0 (h:aF w H s d N):0<H.base/\H.base<=w.heap.size:=by obtain⟨M,h⟩:=h;exact h.b0
theorem IT {X:List Tk}{l:Fo}:∀j,j≠0->∀u m,Part u H s d m j->Part u H { s with X:=X,l:=l } d m j:=λj hj u m hp=>by
 rcases j with _|_|_|_|_|_|_|_|j
 ·exact absurd rfl hj
 all_goals exact hp
theorem Ip {L:List Int}:∀j,j≠1->∀u m,Part u H s d m j->Part u H { s with L:=L } d m j:=λj hj u m hp=>by
 rcases j with _|_|_|_|_|_|_|_|j
 ·exact hp
 ·exact absurd rfl hj
 all_goals exact hp
theorem yU {nx:Int}{V:List (Int×List Nat)}:∀j,j≠2->∀u m,Part u H s d m j->Part u H { s with nx:=nx,V:=V } d m j:=λj hj u m hp=>by
 rcases j with _|_|_|_|_|_|_|_|j
 ·exact hp
 ·exact hp
 ·exact absurd rfl hj
 all_goals exact hp
theorem Fa (h:aF w H s d N)(n:Int)(hn:n∈ah s.l) :
  Calls prog 201 #[.pointer (some ⟨H.A.g,0,none⟩),.int .i64 n] w λe w'=>∃a c,e=.returned (.tuple #[.slice a (G true s.l n).length c,.int .i64 0])/\Ow w' w.heap.size 38 3 a (G true s.l n).length c (az ((G true s.l n).map (λk=>(tk s.X k).1)))/\aF w' H { s with X:=fJ s.X (G true s.l n),l:=aT s.l (G true s.l n) } d N/\ae N w w':=by
 obtain⟨M,h⟩:=h
 obtain⟨hc,hm⟩:=h.part 0
 refine (Go.Proofs.YtfmhdimaijimlaaGreatDoor.o_ hc n hn).mono ?_
 rintro e w' ⟨a,c,rfl,hO,hc',hb⟩
 exact⟨a,c,rfl,hO,h.stay (i:=0) (hb.mono (λk hk=>hm k (.inr (.inr hk)))) ⟨hc',hm⟩ IT⟩
theorem JA (h:aF w H s d N)(x n:Int)(hx:(Lit.int .i64 x).wf=true) :
  Calls prog 199 #[.pointer (some ⟨H.qg,0,none⟩),.int .i64 x,.int .i64 n] w λe w'=>e=.returned (.int .i64 (Q.qi s.L x n))/\aF w' H { s with L:=Q.i_ s.L x n } d N/\ae N w w':=by
 obtain⟨M,h⟩:=h
 obtain⟨hc,hm⟩:=h.part 1
 refine (Q.Db hc x n hx).mono ?_
 rintro e w' ⟨rfl,hc',hb⟩
 exact⟨rfl,h.stay (i:=1) (hb.mono (λk hk=>hm k (.inr hk))) ⟨hc',hm⟩ Ip⟩
theorem Gq {Os:List S.Ob}{id:Int}:S.vw (S.bH id Os)=tC (S.vw Os) id:=by
 unfold S.vw S.bH tC
 rw [List.filter_map]
 rfl
theorem Be {V:List (Int×List Nat)}{id:Int}(h:∀p∈V,p.1≠id):tC V id=V:=by
 unfold tC
 rw [List.filter_eq_self]
 intro a ha
 simpa using h a ha
theorem yG (h:aF w H s d N)(id:Int)(hi:S.aW id) :
  Calls prog 200 #[.pointer (some ⟨H.z.s,0,none⟩),.int .i64 id] w λe w'=>∃x,e=.returned (.int .i64 x)/\aF w' H { s with V:=tC s.V id } d N/\ae N w w':=by
 obtain⟨M,h⟩:=h
 obtain⟨Os,hc,hv,hm⟩:=h.part 2
 cases ho:S.fj Os id with
 | none =>
  refine (S.kE H.z s.nx Os id w hc hi ho).mono ?_
  rintro e w' ⟨rfl,hb⟩
  have hn:tC s.V id=s.V:=Be (by rw [<-hv];exact S.Dh.2 ho)
  refine⟨20,rfl,?_⟩
  rw [hn]
  exact⟨(show aF w H s d N from ⟨M,h⟩).later hb,ae.of hb⟩
 | some o =>
  refine (S.na H.z s.nx Os id o w hc hi ho).mono ?_
  rintro e w' ⟨rfl,hc',hb⟩
  refine⟨0,rfl,h.stay (i:=2) (hb.mono (λk hk=>hm k (.inl hk))) ⟨_,hc',by rw [Gq,hv],λj hj=>?_⟩ yU⟩
  rcases hj with h1|h1
  ·exact hm j (.inl h1)
  ·exact hm j (.inr (S.sH h1))
end
structure Pm where
 mo:Nat
 e:Int
 n:Nat
 c:Nat->Nat
 room:Nat
 sv:Nat
 pm:Int
 lm:Int
 W:Int
def Hd.p (H:Hd):Pm:=⟨H.mo,H.e,H.n,H.c,H.z.room,H.z.n,H.pm,H.lm,H.W⟩
structure KF (p:Pm)(s:aI):Prop where
 fit:Fit p.mo s
 le:s.t<=p.n
 cs:∀i,i<p.n->p.c i<ak*ak
 iv:P.Iv p.pm s.px s.P
 ln:∀i∈s.P,((s.D i).length:Int)<=p.lm
 wd:∀i∈s.P,∀c∈s.D i,c.2.1<ak/\c.2.2<ak
 lm:1<=p.lm/\p.lm<=32
 ks:s.ks=s.P
 nx:1<=s.nx/\s.nx<=4611686018427387905
structure cU where
 code:Int
 cap:Cp
 data:List Nat
 num:Int
def rep (c:Int):cU:=⟨c,(0,0,0),[],0⟩
def Pm.d (p:Pm):D.Par:=⟨p.mo,p.e,(p.mo:Int),p.n,p.c⟩
def aI.d (s:aI):D.aI:=⟨s.X,s.l,s.L,s.t⟩
def jM (s:aI)(a:D.aI):aI:={ s with X:=a.X,l:=a.l,L:=a.L,t:=a.t }
def xy (p:Pm)(s:aI)(size:Int):cU×aI :=
 if S.fF p.room p.sv s.nx s.V size≠0 then (rep (S.fF p.room p.sv s.nx s.V size),s) else
 if (D.bg p.d s.d s.nx).code≠0 then (rep (D.bg p.d s.d s.nx).code,jM s (D.bg p.d s.d s.nx).s) else
 (⟨0,(D.bg p.d s.d s.nx).c,[],0⟩,{ jM s (D.bg p.d s.d s.nx).s with nx:=s.nx+1,V:=s.V++[(s.nx,List.replicate size.toNat 0)] })
def rY (p:Pm)(s:aI)(c:Cp)(r:Int):cU×aI:=(⟨(D.bF p.d s.d c r).code,(D.bF p.d s.d c r).c,[],0⟩,jM s (D.bF p.d s.d c r).s)
def dR (all:Bool)(s:aI)(c:Cp):cU×aI:=(rep (fa all s c).code,(fa all s c).s)
def cF (s:aI)(given:Bool)(au:Int)(c:Cp)(need:Int):Int:=if given then L.bV s.X s.l need c else (L.ct (L.bV s.X s.l need) c.1 (s.D au) 3).2
def k8 (s:aI)(given:Bool)(au:Int)(c:Cp)(off n:Int):cU×aI :=
 if cF s given au c 1≠0 then (rep (cF s given au c 1),s) else (⟨S.sl s.V c.1 off n,(0,0,0),S.xj s.V c.1 off n,0⟩,s)
def jR (s:aI)(given:Bool)(au:Int)(c:Cp)(off:Int)(D:List Nat):cU×aI :=
 if cF s given au c 2≠0 then (rep (cF s given au c 2),s) else (rep (S.sl s.V c.1 off (D.length:Int)),{ s with V:=S.yu s.V c.1 off D })
def re (W:Int)(c:Cp):Bool:=decide (1<=W)&&decide (D.cn (c.2.1*ak+c.2.2) W=c.2.1*ak+c.2.2)
def fT (D:Int->List Cp)(i:Int)(K:List Cp):Int->List Cp:=λj=>if j=i then K else D j
def CZ (p:Pm)(s:aI)(au:Int)(c:Cp):cU×aI :=
 if re p.W c=false then (rep 18,s) else if p.lm<=((s.D au).length:Int) then (rep 14,s) else (rep 0,{ s with D:=fT s.D au (s.D au++[c]) })
def fV (s:aI)(au:Int)(i:Int):cU×aI :=
 if M.jB (s.D au) i=false then (rep 15,s) else (rep 0,{ s with D:=fT s.D au ((s.D au).take i.toNat++(s.D au).drop (i.toNat+1)) })
def DO (p:Pm)(s:aI)(au:Int)(G:List Int):cU×aI :=
 if M.bt p.lm (s.D au) G≠0 then (rep (M.bt p.lm (s.D au) G),s) else
 if P.dy p.pm s.px s.P=true then (rep 13,s) else (⟨0,(0,0,0),[],s.px⟩,{ s with px:=s.px+1,P:=s.P++[s.px],ks:=s.ks++[s.px],D:=fT s.D s.px (M.cu p.lm (s.D au) G) })
def EN (s:aI)(au:Int):cU×aI:=(rep 0,{ s with P:=P.out s.P au,ks:=P.out s.ks au })
def bG (c:R.Cl):Cp:=(c.obj,c.hi,c.lo)
def fX (p:Pm)(s:aI)(c:R.Cl):cU×aI :=
 if c.op=1 then xy p s c.size else if c.op=2 then dR true s (bG c) else if c.op=3 then rY p s (bG c) c.av else if c.op=4 then dR false s (bG c)
 else if c.op=5 then k8 s c.given c.au (bG c) c.off c.n else if c.op=6 then jR s c.given c.au (bG c) c.off c.data else if c.op=7 then CZ p s c.au (bG c)
 else if c.op=8 then fV s c.au c.index else if c.op=9 then DO p s c.au c.an else EN s c.au
def fU (p:Pm)(s:aI)(c:R.Cl):cU×aI :=
 if R.fm c=false then (rep 1,s) else if s.P.contains c.au=false then (rep 2,s) else fX p s c
def wh (G:Int->Nat)(i:Int):Lit×DataW Value:=(.int .i64 i,.held (.pointer (some ⟨G i,0,none⟩)))
theorem iS (L:List Int)(G:Int->Nat):ij L G=.map (L.map (wh G)):=rfl
theorem jZ (G:Int->Nat)(i id:Int):(wh G i).1.sameKey (.int .i64 id)=decide (i=id):=by simp [wh,Lit.sameKey]
theorem lS (L:List Int)(G:Int->Nat)(id:Int)(hm:id∈L)(z:DataW Value):(ij L G).atKey (.int .i64 id) z=.held (.pointer (some ⟨G id,0,none⟩)):=by
 rw [iS]
 unfold DataW.atKey
 simp only [List.find?_map]
 have e:((λp:Lit×DataW Value=>p.1.sameKey (.int .i64 id)) ∘ wh G)=λo=>decide (o=id):=by funext o;exact jZ G o id
 rw [e]
 cases hf:L.find? (λo=>decide (o=id)) with
 | none=>have:=List.find?_eq_none.1 hf id hm;simp at this
 | some o =>
  have:o=id:=by simpa using List.find?_some hf
  subst this
  rfl
theorem zX (L:List Int)(G:Int->Nat)(i:Int)(g:Nat)(h:∀p∈L,p<i):(ij L G).put (.int .i64 i) (.held (.pointer (some ⟨g,0,none⟩)))=ij (L++[i]) (λj=>if j=i then g else G j):=by
 have e:ij L G=ij L (λj=>if j=i then g else G j):=by
  unfold ij
  congr 1
  refine List.map_congr_left (λp hp=>?_)
  have:=h p hp
  simp only [if_neg (show ¬p=i by omega)]
 rw [e,iS]
 unfold DataW.put
 simp only
 rw [List.filter_eq_self.2 (λp hp=>?_),S.gN,iS,List.map_append]
 ·simp [wh]
 ·intro p hp
  obtain⟨q,hq,rfl⟩:=List.mem_map.1 hp
  have:=h q hq
  simp [wh,Lit.before]
  omega
 ·obtain⟨q,hq,rfl⟩:=List.mem_map.1 hp
  have:=h q hq
  rw [jZ]
  simp
  omega
theorem yC (L:List Int)(G:Int->Nat)(id:Int):(ij L G).del (.int .i64 id)=ij (P.out L id) G:=by
 rw [iS,iS]
 unfold DataW.del P.out
 simp only [List.filter_map]
 congr 2
 refine List.filter_congr λo _=>?_
 simp only [Function.comp,jZ]
 by_cases e:o=id<;>simp [e]
theorem wG (L:List Int)(G:Int->Nat):Maps.size (ij L G)=L.length:=by simp [ij,Maps.size]
theorem AJ {k:TypeId}{L:List Int}{G:Int->Nat}(h:w.ownsMap prog k S.hr b n (ij L G)):w.ownsMap prog k S.hr b L.length (ij L G):=by
 obtain⟨es,clock,hb,F,hs,hD⟩:=h
 refine⟨es,clock,hb,F,?_,hD⟩
 have:=congrArg Maps.size hD
 rw [wG] at this
 rw [this]
 simp [Maps.size,length_sorted]
theorem E7:(prog.info? 134).map (λi=>(i.zero,i.size,i.bytes))=some (some (.pointer none),1,8):=by kernel_rfl
section
variable {w w':World}{H:Hd}{s s':aI}{d d':Nat->List K.Pu}{O:Nat->Nat->Prop}{N:Nat->Prop}{Pr:List Int}{D:Int->List Cp}{G:Int->Nat}{pa:Int->Option Addr}{cap:Int->Nat}{cY:Nat->Int}
theorem aF.li (h:aF w H s d N):∃G pa cap cY,Li w H s.ks s.D G pa cap cY/\∀k,CI s.ks G pa H.lg k->N k:=by
 obtain⟨M,h⟩:=h
 obtain⟨G,pa,cap,cY,h1,h2⟩:=h.part 5
 exact⟨G,pa,cap,cY,h1,λk hk=>h.sub 5 k (h2 k hk)⟩
theorem z7 {ks:List Int}{D:Int->List Cp}:∀j,j≠5->∀u m,Part u H s d m j->Part u H { s with ks:=ks,D:=D } d m j:=λj hj u m hp=>by
 rcases j with _|_|_|_|_|_|_|_|j
 ·exact hp
 ·exact hp
 ·exact hp
 ·exact hp
 ·exact hp
 ·exact absurd rfl hj
 all_goals exact hp
theorem Fh {px:Int}{Pr:List Int}:∀j,j≠4->∀u m,Part u H s d m j->Part u H { s with px:=px,P:=Pr } d m j:=λj hj u m hp=>by
 rcases j with _|_|_|_|_|_|_|_|j
 ·exact hp
 ·exact hp
 ·exact hp
 ·exact hp
 ·exact absurd rfl hj
 all_goals exact hp
theorem IZ:∀j,j≠6->∀u m,Part u H s d m j->Part u H s d' m j:=λj hj u m hp=>by
 rcases j with _|_|_|_|_|_|_|_|j
 ·exact hp
 ·exact hp
 ·exact hp
 ·exact hp
 ·exact hp
 ·exact hp
 ·exact absurd rfl hj
 all_goals exact hp
theorem Lay.list (h:Lay w H s d O N)(hl:Li w H s.ks s.D G pa cap cY)(hm:∀k,CI s.ks G pa H.lg k->O 5 k){i:Int}(hi:i∈s.ks){pb:Option Addr}{cb:Nat}{K:List Cp}
  (hd:M.Dm w' H.base (G i) H.lm pb cb K) (hw:M.Wr w w' (G i) (pa i) pb):∃N',aF w' H { s with D:=fT s.D i K } d N'/\aH w N w' N':=by
 have hlt:∀j∈s.ks,∀k,k=G j\/aD (pa j) k->k<w.heap.size:=λj hj k hk=>by
  rcases hk with rfl|hk
  ·exact (hl.each j hj).lt
  ·exact ((hl.each j hj).own.bD k hk).2
 have hlg:=hl.map.lt
 refine h.step (i:=5) (m':=CI s.ks G (λj=>if j=i then pb else pa j) H.lg) (hw.but.mono (λk hk=>hm k (.inr ⟨i,hi,hk⟩))) ⟨G,λj=>if j=i then pb else pa j,λj=>if j=i then cb else cap j,λk=>if w.heap.size<=k then i else cY k,⟨?_,λj hj=>?_,λj hj k hk=>?_⟩,λk hk=>hk⟩ (λk hk=>?_) z7
 ·exact S.bd hw.but hl.map (λe=>(hl.cY i hi H.lg e).2 rfl)
 ·by_cases e:j=i
  ·subst e
   simp only [fT,if_pos rfl]
   exact hd
  ·simp only [fT,if_neg e]
   exact (hl.each j hj).but hw.but (λhk=>e (by rw [<-(hl.cY j hj _ (.inl rfl)).1,<-(hl.cY i hi _ hk).1])) (λk hk hk2=>e (by rw [<-(hl.cY j hj _ (.inr hk)).1,<-(hl.cY i hi _ hk2).1]))
 ·by_cases e:j=i
  ·subst e
   simp only [if_pos rfl] at hk
   by_cases hk2:w.heap.size<=k
   ·rw [if_pos hk2];exact⟨rfl,by omega⟩
   ·rw [if_neg hk2]
    rcases hk with rfl|hk
    ·exact hl.cY j hj _ (.inl rfl)
    ·rcases hw.on k hk with h1|h1
     ·exact hl.cY j hj _ (.inr h1)
     ·exact absurd h1 hk2
  ·simp only [if_neg e] at hk
   have:=hlt j hj k hk
   rw [if_neg (by omega)]
   exact hl.cY j hj k hk
 ·rcases hk with rfl|⟨j,hj,hk⟩
  ·exact .inl (hm _ (.inl rfl))
  ·by_cases e:j=i
   ·subst e
    simp only [if_pos rfl] at hk
    rcases hk with rfl|hk
    ·exact .inl (hm _ (.inr ⟨j,hj,.inl rfl⟩))
    ·rcases hw.on k hk with h1|h1
     ·exact .inl (hm _ (.inr ⟨j,hj,.inr h1⟩))
     ·exact .inr ⟨h1,(hd.own.bD k hk).2⟩
   ·simp only [if_neg e] at hk
    exact .inl (hm _ (.inr ⟨j,hj,hk⟩))
theorem Lay.arm (h:Lay w H s d O N)(hl:Li w H s.ks s.D G pa cap cY)(hm:∀k,CI s.ks G pa H.lg k->O 5 k){i:Int}(hi:∀j∈s.ks,j<i){pb:Option Addr}{cb:Nat}{K:List Cp}
  (hd:M.Dm w' H.base g H.lm pb cb K) (hg:w.heap.size<=g/\∀k,aD pb k->w.heap.size<=k) (hb:ae (·=H.lg) w w') (hmap:w'.ownsMap prog 3 S.hr H.lg (s.ks.length+1) (ij (s.ks++[i]) (λj=>if j=i then g else G j))) :
  ∃N',aF w' H { s with ks:=s.ks++[i],D:=fT s.D i K } d N'/\aH w N w' N':=by
 have hlt:∀j∈s.ks,∀k,k=G j\/aD (pa j) k->k<w.heap.size:=λj hj k hk=>by
  rcases hk with rfl|hk
  ·exact (hl.each j hj).lt
  ·exact ((hl.each j hj).own.bD k hk).2
 have hlg:=hl.map.lt
 have hne:∀j∈s.ks,j≠i:=λj hj e=>by have:=hi j hj;omega
 have hold:∀k,H.lg=k->O 5 k:=λk e=>e ▸ hm _ (.inl rfl)
 refine h.step (i:=5) (m':=CI (s.ks++[i]) (λj=>if j=i then g else G j) (λj=>if j=i then pb else pa j) H.lg) (hb.mono (λk e=>hold k e.symm)) ⟨λj=>if j=i then g else G j,λj=>if j=i then pb else pa j,λj=>if j=i then cb else cap j,λk=>if w.heap.size<=k then i else cY k,⟨AJ hmap,λj hj=>?_,λj hj k hk=>?_⟩,λk hk=>hk⟩ (λk hk=>?_) z7
 ·rcases List.mem_append.1 hj with hj|hj
  ·have e:=hne j hj
   simp only [fT,if_neg e]
   exact (hl.each j hj).but hb (λhk=>(hl.cY j hj _ (.inl rfl)).2 hk) (λk hk hk2=>(hl.cY j hj k (.inr hk)).2 hk2)
  ·obtain rfl:j=i:=by simpa using hj
   simp only [fT,if_pos rfl]
   exact hd
 ·rcases List.mem_append.1 hj with hj|hj
  ·have e:=hne j hj
   simp only [if_neg e] at hk
   have:=hlt j hj k hk
   rw [if_neg (by omega)]
   exact hl.cY j hj k hk
  ·obtain rfl:j=i:=by simpa using hj
   simp only [if_pos rfl] at hk
   have hk2:w.heap.size<=k:=by
    rcases hk with rfl|hk
    ·exact hg.1
    ·exact hg.2 k hk
   rw [if_pos hk2];exact⟨rfl,by omega⟩
 ·rcases hk with rfl|⟨j,hj,hk⟩
  ·exact .inl (hm _ (.inl rfl))
  ·rcases List.mem_append.1 hj with hj|hj
   ·have e:=hne j hj
    simp only [if_neg e] at hk
    exact .inl (hm _ (.inr ⟨j,hj,hk⟩))
   ·obtain rfl:j=i:=by simpa using hj
    simp only [if_pos rfl] at hk
    rcases hk with rfl|hk
    ·exact .inr ⟨hg.1,hd.lt⟩
    ·exact .inr ⟨hg.2 k hk,(hd.own.bD k hk).2⟩
theorem Lay.gone (h:Lay w H s d O N)(hl:Li w H s.ks s.D G pa cap cY)(hm:∀k,CI s.ks G pa H.lg k->O 5 k)(i:Int)
  (hb:ae (·=H.lg) w w') (hmap:w'.ownsMap prog 3 S.hr H.lg n (ij (P.out s.ks i) G)):aF w' H { s with ks:=P.out s.ks i } d N/\ae N w w':=by
 have hold:∀k,H.lg=k->O 5 k:=λk e=>e ▸ hm _ (.inl rfl)
 have hsub:∀j,j∈P.out s.ks i->j∈s.ks:=λj hj=>(P.iZ.1 hj).1
 refine h.stay (i:=5) (hb.mono (λk e=>hold k e.symm)) ⟨G,pa,cap,cY,⟨AJ hmap,λj hj=>?_,λj hj=>hl.cY j (hsub j hj)⟩,λk hk=>?_⟩ z7
 ·exact (hl.each j (hsub j hj)).but hb (λhk=>(hl.cY j (hsub j hj) _ (.inl rfl)).2 hk) (λk hk hk2=>(hl.cY j (hsub j hj) k (.inr hk)).2 hk2)
 ·rcases hk with rfl|⟨j,hj,hk⟩
  ·exact hm _ (.inl rfl)
  ·exact hm _ (.inr ⟨j,hsub j hj,hk⟩)
theorem Ha (h:aF w H s d N)(size:Int):Calls prog 103 #[.pointer (some ⟨H.z.s,0,none⟩),.int .i64 size] w λe w'=>e=.returned (.int .i64 (S.fF H.z.room H.z.n s.nx s.V size))/\Below w.heap.size w w':=by
 obtain⟨Os,hs,hv⟩:=h.st
 rw [<-hv,S.An hs]
 exact S.G5 H.z s.nx Os size w hs
theorem AK (h:aF w H s d N):Calls prog 38 #[.pointer (some ⟨H.z.s,0,none⟩)] w λe w'=>e=.returned (.int .i64 s.nx)/\w'=w:=by
 obtain⟨Os,hs,hv⟩:=h.st
 exact S.EP H.z s.nx Os w hs
theorem CP (h:aF w H s d N)(size:Int)(hE:S.fF H.z.room H.z.n s.nx s.V size=0):Calls prog 105 #[.pointer (some ⟨H.z.s,0,none⟩),.int .i64 size] w λe w'=>e=.returned (.tuple #[.int .i64 s.nx,.int .i64 0])/\∃N',aF w' H { s with nx:=s.nx+1,V:=s.V++[(s.nx,List.replicate size.toNat 0)] } d N'/\aH w N w' N':=by
 obtain⟨O,h⟩:=h
 obtain⟨Os,hs,hv,hm⟩:=h.part 2
 have h0:0<=size:=by
  unfold S.fF at hE
  by_cases h1:size<0\/4096<size
  ·rw [if_pos h1] at hE;exact absurd hE (by decide)
  ·omega
 obtain⟨k,rfl⟩:=Int.eq_ofNat_of_zero_le h0
 rw [<-hv,S.An hs] at hE
 refine (S.pM H.z s.nx Os k w hs hE).mono ?_
 rintro e w' ⟨P,a,rfl,ha,hs',hb⟩
 refine⟨rfl,h.step (i:=2) (m':=λj=>O 2 j\/aD a j) (hb.mono (λj hj=>hm j (.inl hj))) ⟨_,hs',by rw [S.wX,hv];simp,λj hj=>?_⟩ (λj hj=>?_) yU⟩
 ·rcases hj with h1|h1
  ·exact .inl (hm j (.inl h1))
  ·rcases S.wW h1 with h2|h2
   ·exact .inl (hm j (.inr h2))
   ·exact .inr h2
 ·rcases hj with h1|h1
  ·exact .inl h1
  ·exact .inr (ha j h1)
theorem Fv (h:aF w H s d N)(id off k:Int)(hi:S.aW id):Calls prog 111 #[.pointer (some ⟨H.z.s,0,none⟩),.int .i64 id,.int .i64 off,.int .i64 k] w λe w'=>∃a cap,e=.returned (.tuple #[.slice a (S.xj s.V id off k).length cap,.int .i64 (S.sl s.V id off k)])/\Own w' w.heap.size 5 a (S.xj s.V id off k).length cap (S.aM (S.xj s.V id off k))/\Below w.heap.size w w':=by
 obtain⟨Os,hs,hv⟩:=h.st
 rw [<-hv,S.tf,S.Gi]
 exact S.Es H.z s.nx Os id off k w hs hi
theorem FF (h:aF w H s d N)(id off:Int)(da:Option Addr)(k cd:Nat)(L:List Nat)(hi:S.aW id)(hR:Row w da k cd (S.aM L))(hD:∀x∈L,x<256)(hap:0<k->∀j,aD da j->¬N j) :
  Calls prog 112 #[.pointer (some ⟨H.z.s,0,none⟩),.int .i64 id,.int .i64 off,.slice da k cd] w λe w'=>e=.returned (.int .i64 (S.sl s.V id off (k:Int)))/\aF w' H { s with V:=S.yu s.V id off L } d N/\ae N w w':=by
 obtain⟨O,h⟩:=h
 obtain⟨Os,hs,hv,hm⟩:=h.part 2
 refine (S.AB H.z s.nx Os id off da k cd L w hs hi hR hD (λh0 j hj e=>hap h0 j hj (h.sub 2 j (hm j (.inl e))))).mono ?_
 rintro e w' ⟨rfl,hs',hb⟩
 rw [<-S.tf,hv]
 refine⟨rfl,h.stay (i:=2) (hb.mono (λj hj=>hm j (.inl hj))) ⟨_,hs',by rw [S.G4,hv],λj hj=>?_⟩ yU⟩
 rcases hj with h1|h1
 ·exact hm j (.inl h1)
 ·exact hm j (.inr (S.FL h1))
theorem Fw (h:aF w H s d N)(hi:P.Iv H.pm s.px s.P)(n:Int):Calls prog 32 #[.pointer (some ⟨H.pg,0,none⟩),.int .i64 n] w λe w'=>e=.returned (.bool (s.P.contains n))/\∃q,w'=w.drewN q:=by
 obtain⟨pa,cap,h1⟩:=h.pr
 exact P.A1 h1 hi n
theorem CD (h:aF w H s d N)(hi:P.Iv H.pm s.px s.P):Calls prog 116 #[.pointer (some ⟨H.pg,0,none⟩)] w λe w'=>e=.returned (.tuple #[.int .i64 (P.GS H.pm s.px s.P),.int .i64 (P.GV H.pm s.px s.P)])/\∃N',aF w' H { s with px:=P.As H.pm s.px s.P,P:=P.yN H.pm s.px s.P } d N'/\aH w N w' N':=by
 obtain⟨O,h⟩:=h
 obtain⟨pa,cap,h1,hm⟩:=h.part 4
 refine (P.v8 h1 hi).mono ?_
 rintro e w' ⟨pb,cb,rfl,h2,hr⟩
 refine⟨rfl,h.step (i:=4) (m':=λk=>k=H.pg\/aD pb k) (hr.but.mono (λk hk=>hm k hk)) ⟨pb,cb,h2,λk hk=>hk⟩ (λk hk=>?_) Fh⟩
 rcases hk with rfl|hk
 ·exact .inl (hm _ (.inl rfl))
 ·rcases hr.on k hk with h3|h3
  ·exact .inl (hm k (.inr h3))
  ·exact .inr ⟨h3,h2.own.lt k hk⟩
theorem Iz (h:aF w H s d N)(hi:P.Iv H.pm s.px s.P)(n:Int):Calls prog 129 #[.pointer (some ⟨H.pg,0,none⟩),.int .i64 n] w λe w'=>e=.returned (.int .i64 (P.CK s.P n))/\aF w' H { s with P:=P.out s.P n } d N/\ae N w w':=by
 obtain⟨O,h⟩:=h
 obtain⟨pa,cap,h1,hm⟩:=h.part 4
 refine (P.mD h1 hi n).mono ?_
 rintro e w' ⟨cb,rfl,h2,hr⟩
 exact⟨rfl,h.stay (i:=4) (hr.but.mono (λk hk=>hm k hk)) ⟨pa,cb,h2,hm⟩ Fh⟩
end
def Hd.dh (H:Hd):D.Hd:={ mo:=H.mo,e:=H.e,a:=(H.mo:Int),n:=H.n,c:=H.c,g:=H.g,gb:=H.gb,A:=H.A,kn:=H.kn,qg:=H.qg,qb:=H.qb }
section
variable {w w':World}{H:Hd}{s s':aI}{d d':Nat->List K.Pu}{O:Nat->Nat->Prop}{N:Nat->Prop}
theorem Lay.J5 (h:Lay w H s d O N):D.eQ w H.dh s.d:=by
 obtain⟨hc,m0⟩:=h.part 0
 obtain⟨hq,m1⟩:=h.part 1
 obtain⟨hd,m3⟩:=h.part 3
 have e01:∀k,O 0 k->O 1 k->False:=λk a b=>absurd (h.ap 0 1 k a b) (by decide)
 have e03:∀k,O 0 k->O 3 k->False:=λk a b=>absurd (h.ap 0 3 k a b) (by decide)
 have e13:∀k,O 1 k->O 3 k->False:=λk a b=>absurd (h.ap 1 3 k a b) (by decide)
 refine⟨hd,hc,hq,h.laid,⟨λk hk e=>e03 k (m0 k hk) (m3 k (.inl e)),λk hk e=>e01 k (m0 k hk) (m1 k (.inr e)),λh0=>⟨λe=>e13 _ (m1 _ (.inr e)) (m3 _ (.inr ⟨h0,rfl⟩)),λe=>e03 _ (m0 _ (D.dk e)) (m3 _ (.inr ⟨h0,rfl⟩))⟩,λe=>e13 _ (m1 _ (.inr e)) (m3 _ (.inl rfl)),⟨λe=>e13 _ (m1 _ (.inl rfl)) (m3 _ (.inl e)),λe=>e01 _ (m0 _ (D.dk e)) (m1 _ (.inl rfl))⟩,λk hk e=>?_⟩⟩
 subst e
 refine h.n0 ?_
 rcases hk with e|e|e
 ·exact h.sub 3 _ (m3 _ (.inl e))
 ·exact h.sub 1 _ (m1 _ (.inr e))
 ·exact h.sub 0 _ (m0 _ (D.dk e))
theorem Lay.Fe (h:Lay w H s d O N){a:D.aI}(ht:D.eQ w' H.dh a)(hb:ae H.dh.Wr w w'):aF w' H (jM s a) d N/\ae N w w':=by
 obtain⟨hc,m0⟩:=h.part 0
 obtain⟨hq,m1⟩:=h.part 1
 obtain⟨hd,m3⟩:=h.part 3
 refine h.stays (C:=λi=>i=0\/i=1\/i=3) (hb.mono (λk hk=>?_)) (λi hi=>?_) (λj hj u m hp=>?_)
 ·rcases hk with e|e|e
  ·exact⟨3,.inr (.inr rfl),m3 k (.inl e)⟩
  ·exact⟨1,.inr (.inl rfl),m1 k (.inr e)⟩
  ·exact⟨0,.inl rfl,m0 k (D.dk e)⟩
 ·rcases hi with rfl|rfl|rfl
  ·exact⟨ht.cat,m0⟩
  ·exact⟨ht.qu,m1⟩
  ·exact⟨ht.d,m3⟩
 ·rcases j with _|_|_|_|_|_|_|_|j
  ·exact absurd (.inl rfl) hj
  ·exact absurd (.inr (.inl rfl)) hj
  ·exact hp
  ·exact absurd (.inr (.inr rfl)) hj
  all_goals exact hp
theorem KF.Ie {p:Pm}(h:KF p s):D.Fit p.d s.d:=⟨h.fit.inv,h.fit.mW,h.fit.len,Int.le_refl _,h.le,h.cs⟩
theorem Fc (h:aF w H s d N)(hf:KF H.p s)(o:Int)(ho:(Lit.int .i64 o).wf=true) :
  Calls prog 104 #[.pointer (some ⟨H.g,0,none⟩),.pointer (some ⟨H.A.g,0,none⟩),.pointer (some ⟨H.qg,0,none⟩),.int .i64 o] w λe w'=>e=.returned (.tuple #[ir (D.bg H.p.d s.d o).c,.int .i64 (D.bg H.p.d s.d o).code])/\aF w' H (jM s (D.bg H.p.d s.d o).s) d N/\ae N w w':=by
 obtain⟨O,h⟩:=h
 refine (D.gy (H:=H.dh) h.J5 hf.Ie o ho).mono ?_
 rintro e w' ⟨rfl,ht,hb⟩
 exact⟨rfl,h.Fe ht hb⟩
theorem G3 (h:aF w H s d N)(hf:KF H.p s)(c:Cp)(r:Int)(ho:(Lit.int .i64 c.1).wf=true)(hw:c.2.1<ak/\c.2.2<ak) :
  Calls prog 108 #[.pointer (some ⟨H.g,0,none⟩),.pointer (some ⟨H.A.g,0,none⟩),.pointer (some ⟨H.qg,0,none⟩),ir c,.int .i64 r] w λe w'=>e=.returned (.tuple #[ir (D.bF H.p.d s.d c r).c,.int .i64 (D.bF H.p.d s.d c r).code])/\aF w' H (jM s (D.bF H.p.d s.d c r).s) d N/\ae N w w':=by
 obtain⟨O,h⟩:=h
 refine (D.sM (H:=H.dh) h.J5 hf.Ie c r ho hw).mono ?_
 rintro e w' ⟨rfl,ht,hb⟩
 exact⟨rfl,h.Fe ht hb⟩
def Hd.lh (H:Hd)(z:Nat):L.Hv:=⟨H.A,H.kn,H.mo,H.cg,H.cs,H.cw,H.kn,H.v,z,z+1,z+1⟩
theorem Lay.vd (h:Lay w H s d O N):L.Vd w (H.lh w.heap.size) s.X s.l d:=by
 obtain⟨hc,m0⟩:=h.part 0
 obtain⟨hk,hv,m6,m6v,hne⟩:=h.part 6
 have e06:∀k,O 0 k->O 6 k->False:=λk a b=>absurd (h.ap 0 6 k a b) (by decide)
 have lt:∀i k,O i k->k<w.heap.size:=λi k hk=>(h.p6 k (h.sub i k hk)).2
 have l1:=lt 6 _ m6
 have l2:=lt 6 _ m6v
 refine⟨hc,hk,hv,⟨λe=>e06 _ (m0 _ e) m6,λe=>e06 _ (m0 _ e) m6v,hne,λe=>?_,?_,λe=>?_,?_,?_,?_,λe=>?_,?_,?_,?_⟩⟩
 ·have:=lt 0 _ (m0 _ e);exact absurd this (Nat.lt_irrefl _)
 ·show w.heap.size≠H.cg;omega
 ·have:=lt 0 _ (m0 _ e);exact absurd this (show ¬w.heap.size+1<w.heap.size by omega)
 ·show w.heap.size+1≠H.cg;omega
 ·show w.heap.size+1≠H.v;omega
 ·show w.heap.size+1≠w.heap.size;omega
 ·have:=lt 0 _ (m0 _ e);exact absurd this (show ¬w.heap.size+1<w.heap.size by omega)
 ·show w.heap.size+1≠H.cg;omega
 ·show w.heap.size+1≠H.v;omega
 ·show w.heap.size+1≠w.heap.size;omega
theorem Lay.He (h:Lay w H s d O N){z:Nat}{T:Nat->List K.Pu}(hv:L.Vd w' (H.lh z) s.X s.l T)(hb:ae (λk=>k=H.cg) w w'):aF w' H s T N/\ae N w w':=by
 obtain⟨_,_,m6,m6v,hne⟩:=h.part 6
 exact h.stay (i:=6) (hb.mono (λk e=>e ▸ m6)) ⟨hv.ch,hv.va,m6,m6v,hne⟩ IZ
theorem aF.Kr (h:aF w H s d N):H.kb≠H.cg/\H.lg≠H.cg/\N H.cg:=by
 obtain⟨O,h⟩:=h
 obtain⟨_,_,m6,_,_⟩:=h.part 6
 obtain⟨_,_,_,_,_,m5⟩:=h.part 5
 exact⟨λe=>absurd (h.ap 7 6 _ (h.part 7).2 (e ▸ m6)) (by decide),λe=>absurd (h.ap 5 6 _ (m5 _ (.inl rfl)) (e ▸ m6)) (by decide),h.sub 6 _ m6⟩
theorem FP (h:aF w H s d N)(ht:L.Tr s.X s.l d)(c:Cp)(need:Int)(hw:c.2.1<ak/\c.2.2<ak) :
  Calls prog 160 #[.pointer (some ⟨H.v,0,none⟩),ir c,.int .i64 need] w λe w'=>e=.returned (.int .i64 (L.bV s.X s.l need c))/\∃T,aF w' H s T N/\L.Tr s.X s.l T/\ae N w w'/\ae (λk=>k=H.cg) w w':=by
 obtain⟨O,h⟩:=h
 refine (L.om (H:=H.lh w.heap.size) ⟨d,h.vd,ht⟩ c need hw).mono ?_
 rintro e w' ⟨rfl,⟨T,hv,hT⟩,hb⟩
 obtain⟨h1,h2⟩:=h.He hv hb
 exact⟨rfl,T,h1,hT,h2,hb⟩
theorem Ga (h:aF w H s d N)(ht:L.Tr s.X s.l d)(o need:Int){Q:List Cp}(cap:Nat)(hr:Rd w a n Q)(hn:n<=9223372036854775807)(hk:∀c∈Q,c.2.1<ak/\c.2.2<ak)(ha:0<n->∀k,aD a k->¬N k) :
  Calls prog 161 #[.pointer (some ⟨H.v,0,none⟩),.int .i64 o,.int .i64 need,.slice a n cap] w λe w'=>e=.returned (.tuple #[ir (L.ct (L.bV s.X s.l need) o Q 3).1,.int .i64 (L.ct (L.bV s.X s.l need) o Q 3).2])/\∃T,aF w' H s T N/\L.Tr s.X s.l T/\ae N w w'/\ae (λk=>k=H.cg) w w':=by
 obtain⟨O,h⟩:=h
 obtain⟨_,_,m6,_,_⟩:=h.part 6
 refine (L.xL (H:=H.lh w.heap.size) ⟨d,h.vd,ht⟩ o need cap hr hn hk (λh0 k hk e=>ha h0 k hk (h.sub 6 k (by rw [e];exact m6)))).mono ?_
 rintro e w' ⟨rfl,⟨T,hv,hT⟩,hb⟩
 obtain⟨h1,h2⟩:=h.He hv hb
 exact⟨rfl,T,h1,hT,h2,hb⟩
theorem IP (h:aF w H s d N):Calls prog 158 #[.pointer (some ⟨H.v,0,none⟩)] w λe w'=>e=.returned (.tuple #[])/\∃T,aF w' H s T N/\L.Tr s.X s.l T/\ae N w w'/\ae (λk=>k=H.cg) w w':=by
 obtain⟨O,h⟩:=h
 refine (L.Ax (H:=H.lh w.heap.size) ⟨d,h.vd⟩).mono ?_
 rintro e w' ⟨rfl,⟨T,hv,hT⟩,hb⟩
 obtain⟨h1,h2⟩:=h.He hv hb
 exact⟨rfl,T,h1,hT,h2,hb⟩
end
abbrev dO (r:cU)(a:Option Addr)(n c:Nat):Value:=.agg #[.int .i64 r.code,.int .i64 r.cap.1,.int .u64 (r.cap.2.1:Int),.int .u64 (r.cap.2.2:Int),.slice a n c,.int .i64 r.num]
def fK (r:cU)(a:Option Addr)(n c:Nat):List Value:=[.int .i64 r.code,.int .i64 r.cap.1,.int .u64 (r.cap.2.1:Int),.int .u64 (r.cap.2.2:Int),.slice a n c,.int .i64 r.num]
abbrev z6:Obj:=.cells #[.int .i64 0,.int .i64 0,.int .u64 0,.int .u64 0,.slice none 0 0,.int .i64 0] 41
theorem aY {P:Program}{ops:Array Oper}{rest:List Oper}{a:Act}{Q:Exit->Act->World->Prop}{tt:TypeId}{ps:String}{af}{ty:TypeId}{x y:Operand}{p v:Value}
  (hr:(Instr.storeAt ty p v).run P w=.ok () w') (hx:a.eval x=p) (hy:a.eval y=v) (h:wpList P ops Q rest a w') :
  wpList P ops Q ({ dst:=none,op:=.store ty x y,type:=tt,pos:=ps,after:=af,guard:=none }::rest) a w:=by
 refine wpList_plain rfl λK hK=>?_
 unfold Oper.wp execOp
 simp only [hx,hy,hr,Sem.run_bind,Sem.run_pure,Result.andThen_ok]
 exact hK _ _ h
theorem I9:(prog.info? 41).map (·.size)=some 6:=by kernel_rfl
section
variable {w w':World}{H:Hd}{s s':aI}{d d':Nat->List K.Pu}{O:Nat->Nat->Prop}{N:Nat->Prop}
def Zr (w:World)(b:Nat):Prop:=w.there b 0 6
theorem Zr.new (w:World):Zr (w.alloc z6) w.heap.size:=(R.Bx.new w [.int .i64 0,.int .i64 0,.int .u64 0,.int .u64 0,.slice none 0 0,.int .i64 0] 41).there
theorem Zr.but {B:Nat->Prop}(h:Zr w b)(hb:ae B w w')(hn:¬B b):Zr w' b:=λj hj=>by
 obtain⟨h1,h2⟩:=h j hj
 obtain⟨v,hv⟩:=Option.isSome_iff_exists.1 h1
 have hk:=hb.block b (World.block_lt_of_cell? _ _ hv) hn
 exact⟨by rw [World.cell?_of_block hk];exact h1,by rw [World.frozen?_of_block hk];exact h2⟩
theorem Zr.later (h:Zr w b)(hb:Below w.heap.size w w'):Zr w' b:=h.but (B:=λ_=>False) (ae.of hb) (λh=>h)
theorem Zr.lt (h:Zr w b):b<w.heap.size:=by
 obtain⟨h1,_⟩:=h 0 (by decide)
 obtain⟨v,hv⟩:=Option.isSome_iff_exists.1 h1
 exact World.block_lt_of_cell? _ _ hv
theorem De (r:cU)(a:Option Addr)(n c:Nat):∀v∈fK r a n c,v.oneCell'=true:=by simp [fK,Value.oneCell']
theorem Zr.Kj {M:List Value}(h:Zr w b)(hl:M.length=6)(h1:∀v∈M,v.oneCell'=true):(Instr.storeAt 41 (.pointer (some ⟨b,0,none⟩)) (.agg M.toArray)).run prog w=.ok () (w.setCells b 0 M):=by
 have:=R.AH h hl h1
 simp [Instr.storeAt,storeVar,Instr.sureAddr,Value.cells,hl,this,Result.andThen]
theorem Zr.st (h:Zr w b)(r:cU)(a:Option Addr)(n c:Nat):(Instr.storeAt 41 (.pointer (some ⟨b,0,none⟩)) (dO r a n c)).run prog w=.ok () (w.setCells b 0 (fK r a n c)):=h.Kj (M:=fK r a n c) rfl (De r a n c)
theorem Zr.lv (h:Zr w b)(r:cU)(a:Option Addr)(n c:Nat):(loadVar 41 ⟨b,0,none⟩).run prog (w.setCells b 0 (fK r a n c))=.ok (dO r a n c) (w.setCells b 0 (fK r a n c)) :=
 run_loadVar_mid (P:=prog) _ b 0 41 (fK r a n c) _ (World.rangeAt_setCells_same _ _ _ _ h) underlying41 rfl (by rw [I9];rfl)
theorem ba (c:Int)(w:World):Calls prog 31 #[.int .i64 c] w λe w'=>e=.returned (dO (rep c) none 0 0)/\Below w.heap.size w w':=by
 have hst:=(Zr.new w).st (rep c) none 0 0
 have hlv:=(Zr.new w).lv (rep c) none 0 0
 have HB:Hid (Below w.heap.size w ((w.alloc z6).setCells w.heap.size 0 (fK (rep c) none 0 0))):=ae.below (ab _ _) (R.iK (S:=(·=w.heap.size)) rfl _ 0 (ae.refl _ _)) (λk e=>by omega)
 have HS:=aa hst
 have HL:=aa hlv
 clear hst hlv
 go_enter func31,ntmps31
 go_wp2_with (first|((with_reducible refine aY HS.o ?_ ?_ ?_);(· rfl);(· rfl)))
 exact bodyPost_ret (v:=dO (rep c) none 0 0) (by simp [results,results31,asAddr,HL.o]) rfl ⟨rfl,HB.o⟩
theorem rV (h:aF w H s d N)(c:Int)(hc:¬c=0):Calls prog 107 #[.pointer (some ⟨H.kb,0,none⟩),.int .i64 c] w λe w'=>e=.returned (dO (rep c) none 0 0)/\Below w.heap.size w w':=by
 have HS:=aa ((Zr.new w).st (rep c) none 0 0)
 have HL:=aa ((Zr.new w).lv (rep c) none 0 0)
 have HB:Hid (Below w.heap.size w ((w.alloc z6).setCells w.heap.size 0 (fK (rep c) none 0 0))):=ae.below (ab _ _) (R.iK (S:=(·=w.heap.size)) rfl _ 0 (ae.refl _ _)) (λk e=>by omega)
 have hq:(c==0)=false:=by simpa using hc
 clear h hc
 go_enter func107,ntmps107
 go_wp2_with (first|((with_reducible refine aY HS.o ?_ ?_ ?_);(· rfl);(· rfl)))
 exact bodyPost_ret (v:=dO (rep c) none 0 0) (by simp [results,results107,asAddr,HL.o]) rfl ⟨rfl,HB.o⟩
theorem aF.new (h:aF w H s d N){k:Nat}(hk:w.heap.size<=k):¬N k:=λe=>by have:=(h.p6 k e).2;omega
theorem sS (h:aF w H s d N):Calls prog 107 #[.pointer (some ⟨H.kb,0,none⟩),.int .i64 0] w λe w'=>e=.returned (dO (rep 0) none 0 0)/\∃T,aF w' H s T N/\L.Tr s.X s.l T/\ae N w w':=by
 have hB:=ab w z6
 have k16:=cell_later hB (h.kb 16 _ rfl)
 have HG:=aa (IP (h.later hB))
 have HZ:=aa (Zr.new w)
 have HB:=aa hB
 have HN:=aa (h.new (Nat.le_refl _))
 have HP:Hid (0<w.heap.size):=by have:=h.b0;unfold Hid;omega
 clear h hB
 go_enter func107,ntmps107
 go_upto_region 3 with (first|(go_at_call 158;refine HG.o.mono ?_;rintro e w2 ⟨rfl,T,hd2,ht2,hb2,-⟩;have HD2:=aa hd2;have HT2:=aa ht2;have HB2:=aa hb2;clear hd2 ht2 hb2))
 have HZ2:=aa (HZ.o.but HB2.o HN.o)
 have HS:=aa (HZ2.o.st (rep 0) none 0 0)
 have HL:=aa (HZ2.o.lv (rep 0) none 0 0)
 have HB3:Hid (ae (·=w.heap.size) w2 (w2.setCells w.heap.size 0 (fK (rep 0) none 0 0))):=R.iK (S:=(·=w.heap.size)) rfl _ 0 (ae.refl _ _)
 go_wp2_with (first|((with_reducible refine aY HS.o ?_ ?_ ?_);(· rfl);(· rfl)))
 refine bodyPost_ret (v:=dO (rep 0) none 0 0) (by simp [results,results107,asAddr,HL.o]) rfl ⟨rfl,T,HD2.o.but HB3.o (λk hk e=>HN.o (e ▸ hk)) (λe=>?_),HT2.o,?_⟩
 ·have:0=w.heap.size:=e;have:=HP.o;omega
 ·exact ((ae.of HB.o).trans HB2.o).comp HB3.o (λi e=>.inr (by omega))
end
structure Cb (w:World)(b:Nat)(c:R.Cl)(dd gg:R.Sl):Prop where
 c0:w.cell? ⟨b,0,none⟩=some (.int .i64 c.op)
 c1:w.cell? ⟨b,1,none⟩=some (.int .i64 c.au)
 c2:w.cell? ⟨b,2,none⟩=some (.int .i64 c.size)
 c3:w.cell? ⟨b,3,none⟩=some (.int .i64 c.obj)
 c4:w.cell? ⟨b,4,none⟩=some (.int .u64 (c.hi:Int))
 c5:w.cell? ⟨b,5,none⟩=some (.int .u64 (c.lo:Int))
 c6:w.cell? ⟨b,6,none⟩=some (.bool c.given)
 c7:w.cell? ⟨b,7,none⟩=some (.int .i64 c.av)
 c8:w.cell? ⟨b,8,none⟩=some (.int .i64 c.off)
 c9:w.cell? ⟨b,9,none⟩=some (.int .i64 c.n)
 JF:w.cell? ⟨b,10,none⟩=some dd.v
 JB:w.cell? ⟨b,11,none⟩=some (.int .i64 c.index)
 ID:w.cell? ⟨b,12,none⟩=some gg.v
section
variable {w w':World}{H:Hd}{s s':aI}{d d':Nat->List K.Pu}{O:Nat->Nat->Prop}{N:Nat->Prop}{c:R.Cl}{dd gg:R.Sl}{b:Nat}
theorem Cb.of (h:R.Bx w b (R.cC c dd gg)):Cb w b c dd gg:=⟨h.cell 0 rfl,h.cell 1 rfl,h.cell 2 rfl,h.cell 3 rfl,h.cell 4 rfl,h.cell 5 rfl,h.cell 6 rfl,h.cell 7 rfl,h.cell 8 rfl,h.cell 9 rfl,h.cell 10 rfl,h.cell 11 rfl,h.cell 12 rfl⟩
theorem Cb.but {B:Nat->Prop}(h:Cb w b c dd gg)(hb:ae B w w')(hn:¬B b):Cb w' b c dd gg :=
 ⟨aC hb h.c0 hn,aC hb h.c1 hn,aC hb h.c2 hn,aC hb h.c3 hn,aC hb h.c4 hn,aC hb h.c5 hn,aC hb h.c6 hn,aC hb h.c7 hn,aC hb h.c8 hn,aC hb h.c9 hn,aC hb h.JF hn,aC hb h.JB hn,aC hb h.ID hn⟩
theorem rS (h:aF w H s d N)(ht:L.Tr s.X s.l d)(need:Int)(hg:c.given=true)(hw:c.hi<ak/\c.lo<ak) :
  Calls prog 110 #[.pointer (some ⟨H.kb,0,none⟩),.agg (R.cC c dd gg).toArray,.int .i64 need] w λe w'=>e=.returned (.int .i64 (L.bV s.X s.l need (bG c)))/\∃T,aF w' H s T N/\L.Tr s.X s.l T/\ae N w w':=by
 have hB:=ab w (Obj.cells (R.cC c dd gg).toArray 45)
 obtain⟨W,hW⟩:∃W,W=w.alloc (Obj.cells (R.cC c dd gg).toArray 45):=⟨_,rfl⟩
 have hX:=Cb.of (R.Bx.new w (R.cC c dd gg) 45)
 rw [<-hW] at hB hX
 have h2:=h.later hB
 have hk:=h2.kb 16 _ rfl
 have x3:=hX.c3
 have x4:=hX.c4
 have x5:=hX.c5
 have x6:=hX.c6
 rw [hg] at x6
 have HC:=aa (λ(U:World) (hU:Below W.heap.size W U)=>FP (h2.later hU) ht (bG c) need hw)
 unfold bG at HC ⊢
 have HB:=aa hB
 have HX:=aa hX
 have HS:Hid (∀U,Below W.heap.size W U->U.cell? ⟨H.kb,16,none⟩=some (.pointer (some ⟨H.v,0,none⟩))/\U.cell? ⟨w.heap.size,3,none⟩=some (.int .i64 c.obj)/\U.cell? ⟨w.heap.size,4,none⟩=some (.int .u64 (c.hi:Int))/\U.cell? ⟨w.heap.size,5,none⟩=some (.int .u64 (c.lo:Int))):=λU hU=>⟨cell_later hU hk,cell_later hU x3,cell_later hU x4,cell_later hU x5⟩
 have HW:=aa hW
 have HN:=aa (h.new (Nat.le_refl _))
 clear h h2 hB hX hW ht
 go_enter func110,ntmps110
 go_upto_region 1 with fail
 rw [<-HW.o]
 go_upto_region 2 with fail
 go_region_held3 (λU=>U.cell? ⟨H.kb,16,none⟩=some (.pointer (some ⟨H.v,0,none⟩))/\U.cell? ⟨w.heap.size,3,none⟩=some (.int .i64 c.obj)/\U.cell? ⟨w.heap.size,4,none⟩=some (.int .u64 (c.hi:Int))/\U.cell? ⟨w.heap.size,5,none⟩=some (.int .u64 (c.lo:Int))) (first|exact HS.o _ (Below.refl _ _).drew|exact HE.o) (first|(go_at_call 160;refine (HC.o _ (Below.refl _ _).drew).mono ?_;rintro e w2 ⟨rfl,T,hd2,ht2,hb2,-⟩;have HD2:=aa hd2;have HT2:=aa ht2;have HB2:Hid (ae N W w2):=(ae.of (Below.refl _ _).drew).trans hb2;have HE:=aa (And.intro (hd2.kb 16 _ rfl) (And.intro (HX.o.but HB2.o HN.o).c3 (And.intro (HX.o.but HB2.o HN.o).c4 (HX.o.but HB2.o HN.o).c5)));clear hd2 ht2 hb2))
 go_wp2
 go_ret
 exact⟨rfl,T,HD2.o,HT2.o,(ae.of HB.o).trans HB2.o⟩
end
section
variable {w w':World}{H:Hd}{s s':aI}{d d':Nat->List K.Pu}{O:Nat->Nat->Prop}{N:Nat->Prop}{c:R.Cl}{dd gg:R.Sl}{b:Nat}
theorem FZ {x:Int}(h:S.aW x):(Lit.int .i64 x).wf=true:=WalkArith.wf_i64 (by unfold S.aW at h;omega)
structure Zb (w:World)(b:Nat):Prop where
 c0:aq w ⟨b,0,none⟩ (.int .i64 0)
 c1:aq w ⟨b,1,none⟩ (.int .u64 0)
 c2:aq w ⟨b,2,none⟩ (.int .u64 0)
theorem Zb.G6 (w:World):Zb (w.alloc (Obj.cells #[.int .i64 0,.int .u64 0,.int .u64 0] 38)).drew w.heap.size:=⟨⟨by simp [go_sem],by simp [go_sem]⟩,⟨by simp [go_sem],by simp [go_sem]⟩,⟨by simp [go_sem],by simp [go_sem]⟩⟩
theorem Zb.but {B:Nat->Prop}(h:Zb w b)(hb:ae B w w')(hn:¬B b):Zb w' b:=⟨h.c0.but hb hn,h.c1.but hb hn,h.c2.but hb hn⟩
structure Bc (u U:World)(b:Nat)(c:Cp):Prop where
 but:ae (λk=>k=b) u U
 c0:U.cell? ⟨b,0,none⟩=some (.int .i64 c.1)
 c1:U.cell? ⟨b,1,none⟩=some (.int .u64 (c.2.1:Int))
 c2:U.cell? ⟨b,2,none⟩=some (.int .u64 (c.2.2:Int))
theorem Bc.first {u:World}(h:Zb u b)(c:Cp):Bc u (((u.setCell ⟨b,0,none⟩ (.int .i64 c.1)).setCell ⟨b,1,none⟩ (.int .u64 (c.2.1:Int))).setCell ⟨b,2,none⟩ (.int .u64 (c.2.2:Int))) b c:=by
 have hc:=wm.set (w:=u) (b:=b) ⟨h.c0,h.c1,h.c2⟩ c
 exact⟨L.bP (S:=λk=>k=b) (b:=b) (ae.refl _ u) rfl c,hc.c0,hc.c1,hc.c2⟩
theorem Bc.nV (u:World)(c:Cp):Bc u (u.alloc (Obj.cells #[.int .i64 c.1,.int .u64 (c.2.1:Int),.int .u64 (c.2.2:Int)] 38)) u.heap.size c:=⟨ae.of (ab _ _),by simp [go_sem],by simp [go_sem],by simp [go_sem]⟩
theorem uo (h:aF w H s d N)(hf:KF H.p s)(ho:S.aW c.obj)(hw:c.hi<ak/\c.lo<ak) :
  Calls prog 61 #[.pointer (some ⟨H.kb,0,none⟩),.agg (R.cC c dd gg).toArray] w λe w'=>e=.returned (dO (rY H.p s (bG c) c.av).1 none 0 0)/\aF w' H (rY H.p s (bG c) c.av).2 d N/\ae N w w':=by
 obtain⟨W,hW⟩:∃W,W=(w.alloc (Obj.cells (R.cC c dd gg).toArray 45)).alloc z6:=⟨_,rfl⟩
 have hB:Below w.heap.size w W:=by rw [hW];exact aw _ _ _
 have hX:R.Bx W w.heap.size (R.cC c dd gg):=by rw [hW];exact R.Bx.later (ab _ _) (R.Bx.new w (R.cC c dd gg) 45)
 have hZ:Zr W (w.heap.size+1):=by rw [hW];have:=Zr.new (w.alloc (Obj.cells (R.cC c dd gg).toArray 45));simpa using this
 have h2:=h.later hB
 have HC:=aa (λ(U:World) (hU:Below W.heap.size W U)=>G3 (h2.later hU) hf (bG c) c.av (FZ ho) hw)
 unfold rY
 generalize D.bF H.p.d s.d (bG c) c.av=A at *
 unfold bG at HC
 have HS:Hid (∀U {s d},aF U H s d N->ae N W U->U.cell? ⟨H.kb,10,none⟩=some (.pointer (some ⟨H.g,0,none⟩))/\U.cell? ⟨H.kb,12,none⟩=some (.pointer (some ⟨H.A.g,0,none⟩))/\U.cell? ⟨H.kb,13,none⟩=some (.pointer (some ⟨H.qg,0,none⟩))/\U.cell? ⟨w.heap.size,3,none⟩=some (.int .i64 c.obj)/\U.cell? ⟨w.heap.size,4,none⟩=some (.int .u64 (c.hi:Int))/\U.cell? ⟨w.heap.size,5,none⟩=some (.int .u64 (c.lo:Int))/\U.cell? ⟨w.heap.size,7,none⟩=some (.int .i64 c.av)):=λU s d hd hb=>by
  have:=Cb.of (R.Bx.but hb hX (h.new (Nat.le_refl _)))
  exact⟨hd.kb 10 _ rfl,hd.kb 12 _ rfl,hd.kb 13 _ rfl,this.c3,this.c4,this.c5,this.c7⟩
 have H0:=aa (λU (hU:ae (λ_=>False) W U)=>HS.o U (h2.but hU (λ_ _ h=>h) (λh=>h)) (hU.mono (λ_ h=>h.elim)))
 have HW:=aa hW
 have HB:=aa hB
 have HX:=aa hX
 have HZ:=aa hZ
 have HD:=aa h2
 have HP:Hid (0<w.heap.size):=by have:=h.b0;unfold Hid;omega
 have HN:=aa (λk hk=>h.new (k:=k) hk)
 clear h h2 hB hX hZ hW
 go_enter func61,ntmps61
 go_upto_region 1 with fail
 rw [<-HW.o]
 go_cut [5,6] (λs5 s6 U=>∃b,s5=.pointer (some ⟨b,0,none⟩)/\s6=.int .i64 A.code/\Hid (W.heap.size<=b/\∃u,(aF u H (jM s A.s) d N/\ae N W u)/\Bc u U b A.c))
 case first =>
  go_region_held3 (λU=>U.cell? ⟨H.kb,10,none⟩=some (.pointer (some ⟨H.g,0,none⟩))/\U.cell? ⟨H.kb,12,none⟩=some (.pointer (some ⟨H.A.g,0,none⟩))/\U.cell? ⟨H.kb,13,none⟩=some (.pointer (some ⟨H.qg,0,none⟩))/\U.cell? ⟨w.heap.size,3,none⟩=some (.int .i64 c.obj)/\U.cell? ⟨w.heap.size,4,none⟩=some (.int .u64 (c.hi:Int))/\U.cell? ⟨w.heap.size,5,none⟩=some (.int .u64 (c.lo:Int))/\U.cell? ⟨w.heap.size,7,none⟩=some (.int .i64 c.av)) (first|exact H0.o _ (ae.of (Below.refl _ _).drew)|exact H0.o _ (ae.of (ab _ _).drew)|exact H0.o _ (ae.of (ab _ _))|exact HE.o _ (ae.refl _ _)|exact HE.o _ (ae.of (ab _ _))|exact HE.o _ (L.bP (S:=λk=>k=W.heap.size) (b:=W.heap.size) (ae.refl _ u_) rfl _)) (first
   | (go_at_call 108;refine (HC.o _ (ab _ _).drew).mono ?_;rintro e u_ ⟨rfl,hd_,hb_⟩;have HBt:Hid (ae N W u_):=(ae.of (S:=N) (ab W (Obj.cells #[.int .i64 0,.int .u64 0,.int .u64 0] 38)).drew).trans hb_;have HPs:=aa (And.intro hd_ HBt.o);have hzc:=(Zb.G6 W).but (show ae N (W.alloc (Obj.cells #[.int .i64 0,.int .u64 0,.int .u64 0] 38)).drew u_ from hb_) (HN.o _ HB.o.size);have HZc:=aa hzc;have HE:=aa (λU (hU:ae (λk=>k=W.heap.size) u_ U)=>HS.o U (hd_.but hU (λk hk e=>HN.o k (by have h9:W.heap.size<=_:=(Nat.le_refl _);have:=HB.o.size;omega) hk) (λe=>by have h9:W.heap.size<=_:=(Nat.le_refl _);have:=HB.o.size;have:=HP.o;omega)) (HBt.o.comp hU (λi e=>.inr (by have h9:W.heap.size<=_:=(Nat.le_refl _);omega))));obtain⟨⟨z0,f0⟩,⟨z1,f1⟩,⟨z2,f2⟩⟩:=hzc;clear hb_)
   | (go_at_call 108;refine (HC.o _ (Below.refl _ _).drew).mono ?_;rintro e u_ ⟨rfl,hd_,hb_⟩;have HBt:Hid (ae N W u_):=(ae.of (S:=N) (Below.refl W.heap.size W).drew).trans hb_;have HPs:=aa (And.intro hd_ HBt.o);have HE:=aa (λU (hU:ae (λk=>k=u_.heap.size) u_ U)=>HS.o U (hd_.but hU (λk hk e=>HN.o k (by have h9:W.heap.size<=_:=HBt.o.size;have:=HB.o.size;omega) hk) (λe=>by have h9:W.heap.size<=_:=HBt.o.size;have:=HB.o.size;have:=HP.o;omega)) (HBt.o.comp hU (λi e=>.inr (by have h9:W.heap.size<=_:=HBt.o.size;omega))));clear hb_))
  all_goals (try go_wp2)
  all_goals go_meet
  all_goals (first|exact⟨_,rfl,rfl,Nat.le_refl _,u_,HPs.o,Bc.first HZc.o _⟩|exact⟨_,rfl,rfl,HBt.o.size,u_,HPs.o,Bc.nV u_ _⟩)
 case rest =>
 rename World=>v
 obtain⟨b,rfl,rfl,HR⟩:=hcut
 obtain⟨hlo,u,⟨hd3,hb3⟩,hbc⟩:=HR.o
 obtain⟨hv,v0,v1,v2⟩:=hbc
 have hsz:=HB.o.size
 have HDv:=aa (hd3.but hv (λk hk e=>HN.o k (by omega) hk) (λe=>by have:=HP.o;omega))
 have HBv:Hid (ae N W v):=hb3.comp hv (λi e=>.inr (by omega))
 have HZv:=aa (HZ.o.but HBv.o (HN.o _ (by omega)))
 clear hlo hd3 hb3 hv hsz HR
 have HZ9:=aa (HZv.o)
 have HS9:=aa (HZ9.o.st ⟨A.code,A.c,[],0⟩ none 0 0)
 have HL9:=aa (HZ9.o.lv ⟨A.code,A.c,[],0⟩ none 0 0)
 have HB9:Hid (ae (·=w.heap.size+1) (v) ((v).setCells (w.heap.size+1) 0 (fK ⟨A.code,A.c,[],0⟩ none 0 0))):=R.iK (S:=(·=w.heap.size+1)) rfl _ 0 (ae.refl _ _)
 go_wp2_with (first|((with_reducible refine aY HS9.o ?_ ?_ ?_);(· rfl);(· rfl)))
 exact bodyPost_ret (v:=dO ⟨A.code,A.c,[],0⟩ none 0 0) (by simp [results,results61,asAddr,HL9.o]) rfl ⟨rfl,HDv.o.but HB9.o (λk hk e=>HN.o k (by omega) hk) (λe=>by have:0=w.heap.size+1:=e;omega),((ae.of HB.o).trans HBv.o).comp HB9.o (λi e=>.inr (by omega))⟩
end
section
variable {w w':World}{H:Hd}{s s':aI}{d d':Nat->List K.Pu}{O:Nat->Nat->Prop}{N:Nat->Prop}{c:R.Cl}{dd gg:R.Sl}{b:Nat}
theorem Zb.KA (w:World):Zb (w.alloc (Obj.cells #[.int .i64 0,.int .u64 0,.int .u64 0] 38)) w.heap.size:=⟨⟨by simp [go_sem],by simp [go_sem]⟩,⟨by simp [go_sem],by simp [go_sem]⟩,⟨by simp [go_sem],by simp [go_sem]⟩⟩
theorem Zb.later (h:Zb w b)(hb:Below w.heap.size w w'):Zb w' b:=h.but (B:=λ_=>False) (ae.of hb) (λh=>h)
theorem KF.pF (hf:KF H.p s){i:Int}(hi:i∈s.P):-9223372036854775808<=i/\i<9223372036854775808:=by
 have h1:=hf.iv.lo i hi
 have h2:=hf.iv.hi i hi
 have h3:=hf.iv.x2
 omega
theorem KF.dQ (hf:KF H.p s){i:Int}(hi:i∈s.P):(s.D i).length<=32:=by
 have h1:=hf.ln i hi
 have h2:=hf.lm.2
 omega
theorem rK (h:aF w H s d N)(ht:L.Tr s.X s.l d)(hf:KF H.p s)(need:Int)(hg:c.given=false)(hby:c.au∈s.P) :
  Calls prog 110 #[.pointer (some ⟨H.kb,0,none⟩),.agg (R.cC c dd gg).toArray,.int .i64 need] w λe w'=>e=.returned (.int .i64 (L.ct (L.bV s.X s.l need) c.obj (s.D c.au) 3).2)/\∃T,aF w' H s T N/\L.Tr s.X s.l T/\ae N w w':=by
 obtain⟨W,hW⟩:∃W,W=w.alloc (Obj.cells (R.cC c dd gg).toArray 45):=⟨_,rfl⟩
 have hB:Below w.heap.size w W:=by rw [hW];exact ab _ _
 have hX:R.Bx W w.heap.size (R.cC c dd gg):=by rw [hW];exact R.Bx.new w (R.cC c dd gg) 45
 have h2:=h.later hB
 obtain⟨G,pa,cap,cY,hli,-⟩:=h2.li
 have hks:c.au∈s.ks:=by rw [hf.ks];exact hby
 have hncg:=h2.Kr
 have x6:=(Cb.of hX).c6
 rw [hg] at x6
 have HS:Hid (∀U,ae (λk=>k=H.cg) W U->U.cell? ⟨H.kb,15,none⟩=some (.map (some H.lg))/\U.cell? ⟨H.kb,16,none⟩=some (.pointer (some ⟨H.v,0,none⟩))/\U.cell? ⟨w.heap.size,1,none⟩=some (.int .i64 c.au)/\U.cell? ⟨w.heap.size,3,none⟩=some (.int .i64 c.obj)/\(Instr.lookup 85 (.map (some H.lg)) (.int .i64 c.au) false).run prog U=.ok (.pointer (some ⟨G c.au,0,none⟩)) U):=λU hb=>by
  have hx:=Cb.of (R.Bx.but hb hX (λe=>h.new (Nat.le_refl _) (by rw [e];exact hncg.2.2)))
  refine⟨aC hb (h2.kb 15 _ rfl) hncg.1,aC hb (h2.kb 16 _ rfl) hncg.1,hx.c1,hx.c3,?_⟩
  have hm:=S.bd hb hli.map hncg.2.1
  obtain⟨v,ps,hrun,hv⟩:=hm.lookup S.tY underlying85 (S.aG E7 U) (zd:=.held (.pointer none)) (zp:=[]) rfl (S.sR (hf.pF hby))
  rw [lS _ _ _ hks] at hv
  simp only [S.hr,Option.some.injEq,Prod.mk.injEq,DataW.held.injEq] at hv
  rw [hrun,hv.1]
 have H0:=aa (λU (hU:ae (λ_=>False) W U)=>HS.o U (hU.mono (λ_ h=>h.elim)))
 have HAl:=aa (λ(U:World) (hU:Below W.heap.size W U)=>M.ic ((hli.each _ hks).later hU) (hf.dQ hby))
 have HNm:=aa (λ(u1 U:World) (p:Option Addr) (cq:Nat) (hu:Below W.heap.size W u1) (hO:Ow u1 W.heap.size 38 3 p (s.D c.au).length cq (az (s.D c.au))) (hU:Below u1.heap.size u1 U)=>Ga ((h2.later hu).later hU) ht c.obj need cq ((Ow.rd hO rfl).later hU) (by have:=hf.dQ hby;omega) (hf.wd _ hby) (λ_ k hk e=>by have h1:=(h2.p6 k e).2;have h2:=(hO.bD k hk).1;omega))
 have HB:=aa hB
 have HW:=aa hW
 have HN:=aa (λk hk=>h.new (k:=k) hk)
 have HCg:Hid (H.cg<w.heap.size):=(h.p6 _ hncg.2.2).2
 obtain⟨Kq,hKq⟩:∃Kq,Kq=L.ct (L.bV s.X s.l need) c.obj (s.D c.au) 3:=⟨_,rfl⟩
 rw [<-hKq] at HNm ⊢
 obtain⟨kn,hkn⟩:∃kn,kn=(s.D c.au).length:=⟨_,rfl⟩
 obtain⟨Kl,hKl⟩:∃Kl,Kl=az (s.D c.au):=⟨_,rfl⟩
 rw [<-hkn,<-hKl] at HAl HNm
 clear h h2 hB hW ht hX hli hncg hf hby hks hKq hkn hKl
 go_enter func110,ntmps110
 go_upto_region 1 with fail
 rw [<-HW.o]
 go_upto_region 3 with fail
 go_cut [7,8] (λ_ s8 U=>s8=.int .i64 Kq.2/\Hid (∃u b,(∃T,aF u H s T N/\L.Tr s.X s.l T/\ae N W u)/\W.heap.size<=b/\ae (λk=>k=b) u U))
 case first =>
  go_region_held3 (λU=>U.cell? ⟨H.kb,15,none⟩=some (.map (some H.lg))/\U.cell? ⟨H.kb,16,none⟩=some (.pointer (some ⟨H.v,0,none⟩))/\U.cell? ⟨w.heap.size,1,none⟩=some (.int .i64 c.au)/\U.cell? ⟨w.heap.size,3,none⟩=some (.int .i64 c.obj)/\(Instr.lookup 85 (.map (some H.lg)) (.int .i64 c.au) false).run prog U=.ok (.pointer (some ⟨G c.au,0,none⟩)) U) (first|exact H0.o _ (ae.of (Below.refl _ _).drew)|exact H0.o _ (ae.of (ab _ _).drew)|exact H0.o _ (ae.of (ab _ _))|exact HE1.o _ (Below.refl _ _)|exact HE1.o _ (ab _ _)|exact HE.o _ (ae.refl _ _)|exact HE.o _ (ae.of (ab _ _))|exact HE.o _ (L.bP (S:=λk=>k=W.heap.size) (b:=W.heap.size) (ae.refl _ u_) rfl _)|exact HE.o _ (L.bP (S:=λk=>k=u1.heap.size) (b:=u1.heap.size) (ae.refl _ u_) rfl _)) (first
   | (go_at_call 73;(with_reducible refine (HAl.o (W.alloc (Obj.cells #[.int .i64 0,.int .u64 0,.int .u64 0] 38)).drew (ab _ _).drew).mono ?_);rintro e u1 ⟨p1,cq,rfl,hO1,hb1⟩;have HB1:Hid (Below W.heap.size W u1):=al (ab _ _).drew hb1;have HZ1:=aa ((Zb.G6 W).later hb1);have HE1:=aa (λU (hU:Below u1.heap.size u1 U)=>H0.o U (ae.of (al HB1.o hU)));have HNa:=aa (λU (hU:Below u1.heap.size u1 U)=>HNm.o u1 U p1 cq HB1.o (hO1.mono (ab W (Obj.cells #[.int .i64 0,.int .u64 0,.int .u64 0] 38)).size) hU);clear hO1 hb1)
   | (go_at_call 73;(with_reducible refine (HAl.o W.drew (Below.refl _ _).drew).mono ?_);rintro e u1 ⟨p1,cq,rfl,hO1,hb1⟩;have HB1:Hid (Below W.heap.size W u1):=al (Below.refl _ _).drew hb1;have HE1:=aa (λU (hU:Below u1.heap.size u1 U)=>H0.o U (ae.of (al HB1.o hU)));have HNa:=aa (λU (hU:Below u1.heap.size u1 U)=>HNm.o u1 U p1 cq HB1.o hO1 hU);clear hO1 hb1)
   | (go_at_call 161;(with_reducible refine (HNa.o (u1.alloc (Obj.cells #[.int .i64 0,.int .u64 0,.int .u64 0] 38)) (ab _ _)).mono ?_);rintro e u_ ⟨rfl,T,hd_,ht_,hb_,hb9⟩;have HPs:Hid (∃T,aF u_ H s T N/\L.Tr s.X s.l T/\ae N W u_):=⟨T,hd_,ht_,(ae.of (al HB1.o (ab _ _))).trans hb_⟩;have hzc:=(Zb.KA u1).but hb9 (λe=>by have:=HB1.o.size;have:=HB.o.size;have:=HCg.o;omega);have HE:=aa (λU (hU:ae (λk=>k=u1.heap.size) u_ U)=>HS.o U (((ae.of (al HB1.o (ab _ _))).trans hb9).comp hU (λi e=>.inr (by have:=HB1.o.size;omega))));obtain⟨⟨z0,f0⟩,⟨z1,f1⟩,⟨z2,f2⟩⟩:=hzc;clear hd_ ht_ hb_ hb9)
   | (go_at_call 161;have HZ2:=HZ1;(with_reducible refine (HNa.o u1 (Below.refl _ _)).mono ?_);rintro e u_ ⟨rfl,T,hd_,ht_,hb_,hb9⟩;have HPs:Hid (∃T,aF u_ H s T N/\L.Tr s.X s.l T/\ae N W u_):=⟨T,hd_,ht_,(ae.of HB1.o).trans hb_⟩;have hzc:=HZ2.o.but hb9 (λe=>by have:=HB.o.size;have:=HCg.o;omega);have HE:=aa (λU (hU:ae (λk=>k=W.heap.size) u_ U)=>HS.o U (((ae.of HB1.o).trans hb9).comp hU (λi e=>.inr (by omega))));obtain⟨⟨z0,f0⟩,⟨z1,f1⟩,⟨z2,f2⟩⟩:=hzc;clear hd_ ht_ hb_ hb9)
   | (go_at_call 161;(with_reducible refine (HNa.o u1 (Below.refl _ _)).mono ?_);rintro e u_ ⟨rfl,T,hd_,ht_,hb_,hb9⟩;have HPs:Hid (∃T,aF u_ H s T N/\L.Tr s.X s.l T/\ae N W u_):=⟨T,hd_,ht_,(ae.of HB1.o).trans hb_⟩;have HBt:Hid (ae (λk=>k=H.cg) W u_):=(ae.of HB1.o).trans hb9;have HE:=aa (λU (hU:ae (λk=>k=u_.heap.size) u_ U)=>HS.o U (HBt.o.comp hU (λi e=>.inr (by have:=HBt.o.size;omega))));clear hd_ ht_ hb_ hb9))
  all_goals (try go_wp2)
  all_goals go_meet
  all_goals (first|exact⟨rfl,u_,W.heap.size,HPs.o,Nat.le_refl _,L.bP (S:=λk=>k=W.heap.size) (b:=W.heap.size) (ae.refl _ u_) rfl Kq.1⟩|exact⟨rfl,u_,u1.heap.size,HPs.o,HB1.o.size,L.bP (S:=λk=>k=u1.heap.size) (b:=u1.heap.size) (ae.refl _ u_) rfl Kq.1⟩|exact⟨rfl,u_,u_.heap.size,HPs.o,HBt.o.size,ae.of (ab _ _)⟩)
 case rest =>
 rename World=>v
 obtain⟨rfl,HR⟩:=hcut
 obtain⟨u,b,⟨T,hd3,ht3,hb3⟩,hlo,hv⟩:=HR.o
 have hsz:=HB.o.size
 have HDv:=aa (hd3.but hv (λk hk e=>HN.o k (by omega) hk) (λe=>by have:=HCg.o;omega))
 have HBv:Hid (ae N W v):=hb3.comp hv (λi e=>.inr (by omega))
 have HTv:=aa ht3
 clear hlo hd3 hb3 hv hsz HR ht3
 go_wp2
 go_ret
 exact⟨rfl,T,HDv.o,HTv.o,(ae.of HB.o).trans HBv.o⟩
end
end Go.Proofs.YtfmhdimaijimlaaGreatDoor.V
