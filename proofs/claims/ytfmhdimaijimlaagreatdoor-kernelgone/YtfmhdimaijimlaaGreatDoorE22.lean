import Derived.Test.YtfmhdimaijimlaaGreatDoorE12
import Derived.Test.YtfmhdimaijimlaaGreatDoorE15
import Derived.Test.YtfmhdimaijimlaaGreatDoorE17
import Derived.Test.YtfmhdimaijimlaaGreatDoorE21
import Derived.Test.YtfmhdimaijimlaaGreatDoorE09
set_option linter.all false
set_option maxRecDepth 1000000
set_option maxHeartbeats 8000000
open Go.Proofs.Tryz
variable {w w' w1 w2:Go.World}{n m k i j b g base kn:Nat}{a:Option Go.Addr}
namespace Go.Proofs.YtfmhdimaijimlaaGreatDoor.V
open Go.RowKit
open Go.Proofs.YtfmhdimaijimlaaGreatDoor.H (B64 Cp)
structure Hd where
 A:Ad
 kn:Nat
 mo:Nat
 qg:Nat
 qb:Nat
 e:Int
 z:S.Sid
 g:Nat
 gb:Nat
 n:Nat
 c:Nat→Nat
 pg:Nat
 pm:Int
 lg:Nat
 lm:Int
 cg:Nat
 cs:Nat
 cw:Nat
 v:Nat
 kb:Nat
 W:Int
 base:Nat
def Hd.cf (H:Hd):List Value:=[.int .i64 H.W,.int .i64 (H.z.room:Int),.int .i64 (H.z.n:Int),.int .i64 (H.mo:Int),.int .i64 H.e,.int .i64 H.pm,.int .i64 H.lm,.int .i64 (H.cs:Int),.int .i64 (H.cw:Int),.int .i64 (H.kn:Int)]
def Hd.kc (H:Hd):List Value:=H.cf++[.pointer (some ⟨H.g,0,none⟩),.pointer (some ⟨H.z.s,0,none⟩),.pointer (some ⟨H.A.g,0,none⟩),.pointer (some ⟨H.qg,0,none⟩),.pointer (some ⟨H.pg,0,none⟩),.map (some H.lg),.pointer (some ⟨H.v,0,none⟩)]
def Kb (w:World)(H:Hd):Prop:=∀j v,H.kc[j]?=some v→w.cell? ⟨H.kb,j,none⟩=some v
theorem Kb.but {S:Nat→Prop}{H:Hd}(h:Kb w H)(hb:But S w w')(hn:¬S H.kb):Kb w' H:=λj v hv=>cb_ hb (h j v hv) hn
def mapP (L:List Int)(G:Int→Nat):DataW Value:=.map (L.map (λi=>(.int .i64 i,.held (.pointer (some ⟨G i,0,none⟩)))))
structure Li (w:World)(H:Hd)(Pr:List Int)(D:Int→List Cp)(G:Int→Nat)(pa:Int→Option Addr)(cap:Int→Nat)(col:Nat→Int):Prop where
 map:w.ownsMap prog 3 S.hr H.lg Pr.length (mapP Pr G)
 each:∀i∈Pr,M.Dm w H.base (G i) H.lm (pa i) (cap i) (D i)
 col:∀i∈Pr,∀k,k=G i∨Blk (pa i) k→col k=i∧k≠H.lg
def LiB (Pr:List Int)(G:Int→Nat)(pa:Int→Option Addr)(lg:Nat)(k:Nat):Prop:=k=lg∨∃i∈Pr,k=G i∨Blk (pa i) k
def Part (w:World)(H:Hd)(s:Sta)(d:Nat→List K.Pu)(m:Nat→Prop):Nat→Prop
 | 0=>Cat w H.A H.kn H.mo s.X s.l∧∀k,H.A.All k→m k
 | 1=>Q.Qu w H.qg H.qb H.e (H.mo:Int) s.L∧∀k,k=H.qg∨k=H.qb→m k
 | 2=>∃Os,S.St w H.z s.nx Os∧S.vw Os=s.V∧∀k,S.Zb H.z k∨S.Rb Os k→m k
 | 3=>D.Dr w H.g H.gb H.n H.c s.t∧∀k,k=H.g∨(0<H.n∧k=H.gb)→m k
 | 4=>∃pa cap,P.Ob w H.base H.pg H.pm s.px pa cap s.P∧∀k,k=H.pg∨Blk pa k→m k
 | 5=>∃G pa cap col,Li w H s.ks s.D G pa cap col∧∀k,LiB s.ks G pa H.lg k→m k
 | 6=>(∃E hi mi,K.Kc w H.cg H.cs H.cw H.kn d E hi mi)∧L.Va w H.v H.cg H.A.g∧m H.cg∧m H.v∧H.v≠H.cg
 | 7=>Kb w H∧m H.kb
 | _=>True
theorem Li.but {B:Nat→Prop}{H:Hd}{Pr:List Int}{D:Int→List Cp}{G:Int→Nat}{pa:Int→Option Addr}{cap:Int→Nat}{col:Nat→Int}(h:Li w H Pr D G pa cap col)(hb:But B w w')(hS:∀k,LiB Pr G pa H.lg k→¬B k):Li w' H Pr D G pa cap col :=
 ⟨S.owns_but hb h.map (hS _ (.inl rfl)),λi hi=>(h.each i hi).but hb (hS _ (.inr ⟨i,hi,.inl rfl⟩)) (λk hk=>hS k (.inr ⟨i,hi,.inr hk⟩)),h.col⟩
theorem Part.but {B:Nat→Prop}{H:Hd}{s:Sta}{d:Nat→List K.Pu}{m:Nat→Prop}(hb:But B w w')(hS:∀k,m k→¬B k):∀i,Part w H s d m i→Part w' H s d m i
 | 0,⟨h,h2⟩=>⟨h.but hb (λk hk=>hS k (h2 k hk)),h2⟩
 | 1,⟨h,h2⟩=>⟨h.but hb (hS _ (h2 _ (.inl rfl))) (hS _ (h2 _ (.inr rfl))),h2⟩
 | 2,⟨Os,h,e,h2⟩=>⟨Os,h.but hb (λk hk=>hS k (h2 k (.inl hk))) (λk hk=>hS k (h2 k (.inr hk))),e,h2⟩
 | 3,⟨h,h2⟩=>⟨h.butN hb (hS _ (h2 _ (.inl rfl))) (λh0=>hS _ (h2 _ (.inr ⟨h0,rfl⟩))),h2⟩
 | 4,⟨pa,cap,h,h2⟩=>⟨pa,cap,h.but hb (hS _ (h2 _ (.inl rfl))) (λk hk=>hS k (h2 k (.inr hk))),h2⟩
 | 5,⟨G,pa,cap,col,h,h2⟩=>⟨G,pa,cap,col,h.but hb (λk hk=>hS k (h2 k hk)),h2⟩
 | 6,⟨⟨E,hi,mi,h⟩,hv,h1,h2,h3⟩=>⟨⟨E,hi,mi,h.but hb (hS _ h1)⟩,hv.but hb (hS _ h2),h1,h2,h3⟩
 | 7,⟨h,h2⟩=>⟨h.but hb (hS _ h2),h2⟩
 | _+8,_=>trivial
structure Lay (w:World)(H:Hd)(s:Sta)(d:Nat→List K.Pu)(M:Nat→Nat→Prop)(N:Nat→Prop):Prop where
 part:∀i,Part w H s d (M i) i
 ap:∀i j k,M i k→M j k→i=j
 sub:∀i k,M i k→N k
 rng:∀k,N k→H.base≤k∧k<w.heap.size
 hmo:1≤H.mo∧H.mo≤256
 laid:D.Laid w
 b0:0<H.base∧H.base≤w.heap.size
def Duo (w:World)(H:Hd)(s:Sta)(d:Nat→List K.Pu)(N:Nat→Prop):Prop:=∃M,Lay w H s d M N
def Went (w:World)(N:Nat→Prop)(w':World)(N':Nat→Prop):Prop:=(∀k,N' k→N k∨w.heap.size≤k)∧But N w w'
theorem Went.later {N:Nat→Prop}(hb:Below w.heap.size w w'):Went w N w' N:=⟨λk h=>.inl h,But.of hb⟩
theorem Went.stay {w w':World}{N:Nat→Prop}(hb:But N w w'):Went w N w' N:=⟨λk h=>.inl h,hb⟩
theorem Went.trans {N N1 N2:Nat→Prop}(h:Went w N w1 N1)(k:Went w1 N1 w2 N2):Went w N w2 N2:=by
 refine⟨λj hj=>?_,⟨k.2.os.trans h.2.os,k.2.tape.trans h.2.tape,k.2.output.trans h.2.output,Nat.le_trans h.2.size k.2.size,λj hj hn=>?_⟩⟩
 ·rcases k.1 j hj with h1|h1
  ·exact h.1 j h1
  ·exact .inr (Nat.le_trans h.2.size h1)
 ·refine (k.2.block j (Nat.lt_of_lt_of_le hj h.2.size) (λh1=>?_)).trans (h.2.block j hj hn)
  rcases h.1 j h1 with h2|h2
  ·exact hn h2
  ·omega
theorem Went.out {w w':World}{N N':Nat→Prop}(h:Went w N w' N'){b:Nat}(hb:b<w.heap.size)(hn:¬N b):¬N' b:=λe=>by
 rcases h.1 b e with h1|h1
 ·exact hn h1
 ·omega
theorem Went.size {N N':Nat→Prop}(h:Went w N w' N'):w.heap.size≤w'.heap.size:=h.2.size
section
variable {w w':World}{H:Hd}{s s':Sta}{d d':Nat→List K.Pu}{M:Nat→Nat→Prop}{N:Nat→Prop}
theorem Lay.n0 (h:Lay w H s d M N):¬N 0:=λe=>by have:=(h.rng 0 e).1;have:=h.b0;omega
theorem Lay.steps {C:Nat→Prop}{m':Nat→Nat→Prop}(h:Lay w H s d M N)(hb:But (λk=>∃i,C i∧M i k) w w')(hp:∀i,C i→Part w' H s' d' (m' i) i)
  (hm:∀i,C i→∀k,m' i k→M i k∨(w.heap.size≤k∧k<w'.heap.size)) (hx:∀i j,C i→C j→∀k,w.heap.size≤k→m' i k→m' j k→i=j)
  (same:∀j,¬C j→∀u m,Part u H s d m j→Part u H s' d' m j):∃N',Duo w' H s' d' N'∧Went w N w' N'∧∀k,N' k→N k∨∃i,C i∧m' i k:=by
 classical
 have hN:But N w w':=hb.mono (λk hk=>by obtain⟨i,_,hk⟩:=hk;exact h.sub i k hk)
 have hsz:=hb.size
 have key:∀x i,¬C x→C i→∀k,M x k→m' i k→False:=λx i hx hi k h1 h2=>by
  rcases hm i hi k h2 with h3|h3
  ·exact hx (by rw [h.ap x i k h1 h3];exact hi)
  ·have:=(h.rng k (h.sub x k h1)).2;omega
 refine⟨λk=>N k∨∃i,C i∧m' i k,⟨λj=>if C j then m' j else M j,λj=>?_,λa b k ha hb'=>?_,λj k hk=>?_,λk hk=>?_,h.hmo,h.laid.but hN h.n0,h.b0.1,by have:=h.b0.2;omega⟩,⟨λk hk=>?_,hN⟩,λk hk=>hk⟩
 ·by_cases e:C j
  ·rw [if_pos e];exact hp j e
  ·rw [if_neg e]
   exact same j e w' (M j) (Part.but hb (λk hk e2=>by obtain⟨i,hi,e2⟩:=e2;exact e (by rw [h.ap j i k hk e2];exact hi)) j (h.part j))
 ·by_cases ea:C a
  ·rw [if_pos ea] at ha
   by_cases eb:C b
   ·rw [if_pos eb] at hb'
    rcases hm a ea k ha with h1|h1
    ·rcases hm b eb k hb' with h2|h2
     ·exact h.ap a b k h1 h2
     ·have:=(h.rng k (h.sub a k h1)).2;omega
    ·exact hx a b ea eb k h1.1 ha hb'
   ·rw [if_neg eb] at hb'
    exact (key b a eb ea k hb' ha).elim
  ·rw [if_neg ea] at ha
   by_cases eb:C b
   ·rw [if_pos eb] at hb'
    exact (key a b ea eb k ha hb').elim
   ·rw [if_neg eb] at hb'
    exact h.ap a b k ha hb'
 ·by_cases e:C j
  ·rw [if_pos e] at hk;exact .inr ⟨j,e,hk⟩
  ·rw [if_neg e] at hk;exact .inl (h.sub j k hk)
 ·have old:N k→H.base≤k∧k<w'.heap.size:=λh1=>by
   have:=h.rng k h1
   exact⟨this.1,by omega⟩
  rcases hk with h1|⟨i,hi,h1⟩
  ·exact old h1
  ·rcases hm i hi k h1 with h2|h2
   ·exact old (h.sub i k h2)
   ·have:=h.b0.2;exact⟨by omega,h2.2⟩
 ·rcases hk with h1|⟨i,hi,h1⟩
  ·exact .inl h1
  ·rcases hm i hi k h1 with h2|h2
   ·exact .inl (h.sub i k h2)
   ·exact .inr h2.1
theorem Lay.step {i:Nat}{m':Nat→Prop}(h:Lay w H s d M N)(hb:But (M i) w w')(hp:Part w' H s' d' m' i)
  (hm:∀k,m' k→M i k∨(w.heap.size≤k∧k<w'.heap.size)) (same:∀j,j≠i→∀u m,Part u H s d m j→Part u H s' d' m j) :
  ∃N',Duo w' H s' d' N'∧Went w N w' N':=by
 obtain⟨N',h1,h2,_⟩:=h.steps (C:=(·=i)) (m':=λ_=>m') (hb.mono (λk hk=>⟨i,rfl,hk⟩)) (λj e=>by rw [e];exact hp) (λj e k hk=>by rw [e];exact hm k hk) (λa b ea eb k _ _ _=>by rw [ea,eb]) (λj hj=>same j hj)
 exact⟨N',h1,h2⟩
theorem Lay.stays {C:Nat→Prop}(h:Lay w H s d M N)(hb:But (λk=>∃i,C i∧M i k) w w')(hp:∀i,C i→Part w' H s' d' (M i) i)
  (same:∀j,¬C j→∀u m,Part u H s d m j→Part u H s' d' m j):Duo w' H s' d' N∧But N w w':=by
 have hN:But N w w':=hb.mono (λk hk=>by obtain⟨i,_,hk⟩:=hk;exact h.sub i k hk)
 refine⟨⟨M,λj=>?_,h.ap,h.sub,λk hk=>?_,h.hmo,h.laid.but hN h.n0,h.b0.1,by have:=h.b0.2;have:=hb.size;omega⟩,hN⟩
 ·by_cases e:C j
  ·exact hp j e
  ·exact same j e w' (M j) (Part.but hb (λk hk e2=>by obtain⟨i,hi,e2⟩:=e2;exact e (by rw [h.ap j i k hk e2];exact hi)) j (h.part j))
 ·have:=h.rng k hk
  have hs:=hb.size
  exact⟨this.1,by omega⟩
theorem Lay.stay {i:Nat}(h:Lay w H s d M N)(hb:But (M i) w w')(hp:Part w' H s' d' (M i) i)
  (same:∀j,j≠i→∀u m,Part u H s d m j→Part u H s' d' m j):Duo w' H s' d' N∧But N w w' :=
 h.stays (C:=(·=i)) (hb.mono (λk hk=>⟨i,rfl,hk⟩)) (λj e=>by rw [e];exact hp) (λj hj=>same j hj)
theorem Duo.but {B:Nat→Prop}(h:Duo w H s d N)(hb:But B w w')(hS:∀k,N k→¬B k)(h0:¬B 0):Duo w' H s d N:=by
 obtain⟨M,h⟩:=h
 have hs:=hb.size
 exact⟨M,λi=>Part.but hb (λk hk=>hS k (h.sub i k hk)) i (h.part i),h.ap,h.sub,λk hk=>by have:=h.rng k hk;exact⟨this.1,by omega⟩,h.hmo,h.laid.but hb h0,h.b0.1,by have:=h.b0.2;omega⟩
theorem Duo.later (h:Duo w H s d N)(hb:Below w.heap.size w w'):Duo w' H s d N:=h.but (B:=λ_=>False) (But.of hb) (λ_ _ h=>h) (λh=>h)
theorem Duo.cat (h:Duo w H s d N):Cat w H.A H.kn H.mo s.X s.l:=by obtain⟨M,h⟩:=h;exact (h.part 0).1
theorem Duo.st (h:Duo w H s d N):∃Os,S.St w H.z s.nx Os∧S.vw Os=s.V:=by obtain⟨M,h⟩:=h;obtain⟨Os,h1,h2,_⟩:=h.part 2;exact⟨Os,h1,h2⟩
theorem Duo.dr (h:Duo w H s d N):D.Dr w H.g H.gb H.n H.c s.t:=by obtain⟨M,h⟩:=h;exact (h.part 3).1
theorem Duo.pr (h:Duo w H s d N):∃pa cap,P.Ob w H.base H.pg H.pm s.px pa cap s.P:=by obtain⟨M,h⟩:=h;obtain⟨pa,cap,h1,_⟩:=h.part 4;exact⟨pa,cap,h1⟩
theorem Duo.kb (h:Duo w H s d N):Kb w H:=by obtain⟨M,h⟩:=h;exact (h.part 7).1
theorem Duo.inv (h:Duo w H s d N):Inv H.mo s.X s.l:=h.cat.inv
theorem Duo.rng (h:Duo w H s d N):∀k,N k→H.base≤k∧k<w.heap.size:=by obtain⟨M,h⟩:=h;exact h.rng
theorem Duo.hmo (h:Duo w H s d N):1≤H.mo∧H.mo≤256:=by obtain⟨M,h⟩:=h;exact h.hmo
theorem Duo.b0 (h:Duo w H s d N):0<H.base∧H.base≤w.heap.size:=by obtain⟨M,h⟩:=h;exact h.b0
theorem same0 {X:List Tk}{l:Fo}:∀j,j≠0→∀u m,Part u H s d m j→Part u H { s with X:=X,l:=l } d m j:=λj hj u m hp=>by
 rcases j with _|_|_|_|_|_|_|_|j
 ·exact absurd rfl hj
 all_goals exact hp
theorem same1 {L:List Int}:∀j,j≠1→∀u m,Part u H s d m j→Part u H { s with L:=L } d m j:=λj hj u m hp=>by
 rcases j with _|_|_|_|_|_|_|_|j
 ·exact hp
 ·exact absurd rfl hj
 all_goals exact hp
theorem same2 {nx:Int}{V:List (Int×List Nat)}:∀j,j≠2→∀u m,Part u H s d m j→Part u H { s with nx:=nx,V:=V } d m j:=λj hj u m hp=>by
 rcases j with _|_|_|_|_|_|_|_|j
 ·exact hp
 ·exact hp
 ·exact absurd rfl hj
 all_goals exact hp
theorem pDrop (h:Duo w H s d N)(n:Int)(hn:n∈nums s.l) :
  Calls prog 201 #[.pointer (some ⟨H.A.g,0,none⟩),.int .i64 n] w λe w'=>∃a c,e=.returned (.tuple #[.slice a (G true s.l n).length c,.int .i64 0])∧Ow w' w.heap.size 38 3 a (G true s.l n).length c (caps ((G true s.l n).map (λk=>(tk s.X k).1)))∧Duo w' H { s with X:=zer s.X (G true s.l n),l:=cuts s.l (G true s.l n) } d N∧But N w w':=by
 obtain⟨M,h⟩:=h
 obtain⟨hc,hm⟩:=h.part 0
 refine (Go.Proofs.YtfmhdimaijimlaaGreatDoor.drop_ok hc n hn).mono ?_
 rintro e w' ⟨a,c,rfl,hO,hc',hb⟩
 exact⟨a,c,rfl,hO,h.stay (i:=0) (hb.mono (λk hk=>hm k (.inr (.inr hk)))) ⟨hc',hm⟩ same0⟩
theorem pSub (h:Duo w H s d N)(x n:Int)(hx:(Lit.int .i64 x).wf=true) :
  Calls prog 199 #[.pointer (some ⟨H.qg,0,none⟩),.int .i64 x,.int .i64 n] w λe w'=>e=.returned (.int .i64 (Q.subO s.L x n))∧Duo w' H { s with L:=Q.subS s.L x n } d N∧But N w w':=by
 obtain⟨M,h⟩:=h
 obtain⟨hc,hm⟩:=h.part 1
 refine (Q.sub_any hc x n hx).mono ?_
 rintro e w' ⟨rfl,hc',hb⟩
 exact⟨rfl,h.stay (i:=1) (hb.mono (λk hk=>hm k (.inr hk))) ⟨hc',hm⟩ same1⟩
theorem vw_noV {Os:List S.Ob}{id:Int}:S.vw (S.without id Os)=noV (S.vw Os) id:=by
 unfold S.vw S.without noV
 rw [List.filter_map]
 rfl
theorem noV_none {V:List (Int×List Nat)}{id:Int}(h:∀p∈V,p.1≠id):noV V id=V:=by
 unfold noV
 rw [List.filter_eq_self]
 intro a ha
 simpa using h a ha
theorem pDestroy (h:Duo w H s d N)(id:Int)(hi:S.i64ok id) :
  Calls prog 200 #[.pointer (some ⟨H.z.s,0,none⟩),.int .i64 id] w λe w'=>∃x,e=.returned (.int .i64 x)∧Duo w' H { s with V:=noV s.V id } d N∧But N w w':=by
 obtain⟨M,h⟩:=h
 obtain⟨Os,hc,hv,hm⟩:=h.part 2
 cases ho:S.at? Os id with
 | none =>
  refine (S.st_destroy_none H.z s.nx Os id w hc hi ho).mono ?_
  rintro e w' ⟨rfl,hb⟩
  have hn:noV s.V id=s.V:=noV_none (by rw [←hv];exact S.vw_none.2 ho)
  refine⟨20,rfl,?_⟩
  rw [hn]
  exact⟨(show Duo w H s d N from ⟨M,h⟩).later hb,But.of hb⟩
 | some o =>
  refine (S.st_destroy_ok H.z s.nx Os id o w hc hi ho).mono ?_
  rintro e w' ⟨rfl,hc',hb⟩
  refine⟨0,rfl,h.stay (i:=2) (hb.mono (λk hk=>hm k (.inl hk))) ⟨_,hc',by rw [vw_noV,hv],λj hj=>?_⟩ same2⟩
  rcases hj with h1|h1
  ·exact hm j (.inl h1)
  ·exact hm j (.inr (S.rb_without h1))
end
structure Pm where
 mo:Nat
 e:Int
 n:Nat
 c:Nat→Nat
 room:Nat
 pgs:Nat
 pm:Int
 lm:Int
 W:Int
def Hd.p (H:Hd):Pm:=⟨H.mo,H.e,H.n,H.c,H.z.room,H.z.n,H.pm,H.lm,H.W⟩
structure KF (p:Pm)(s:Sta):Prop where
 fit:Fit p.mo s
 le:s.t≤p.n
 cs:∀i,i<p.n→p.c i<B64*B64
 iv:P.Iv p.pm s.px s.P
 ln:∀i∈s.P,((s.D i).length:Int)≤p.lm
 wd:∀i∈s.P,∀c∈s.D i,c.2.1<B64∧c.2.2<B64
 lm:1≤p.lm∧p.lm≤32
 ks:s.ks=s.P
 nx:1≤s.nx∧s.nx≤4611686018427387905
structure Rep where
 code:Int
 cap:Cp
 data:List Nat
 num:Int
def rep (c:Int):Rep:=⟨c,(0,0,0),[],0⟩
def Pm.d (p:Pm):D.Par:=⟨p.mo,p.e,(p.mo:Int),p.n,p.c⟩
def Sta.d (s:Sta):D.Sta:=⟨s.X,s.l,s.L,s.t⟩
def putD (s:Sta)(a:D.Sta):Sta:={ s with X:=a.X,l:=a.l,L:=a.L,t:=a.t }
def creA (p:Pm)(s:Sta)(size:Int):Rep×Sta :=
 if S.mayV p.room p.pgs s.nx s.V size≠0 then (rep (S.mayV p.room p.pgs s.nx s.V size),s) else
 if (D.rootA p.d s.d s.nx).code≠0 then (rep (D.rootA p.d s.d s.nx).code,putD s (D.rootA p.d s.d s.nx).s) else
 (⟨0,(D.rootA p.d s.d s.nx).c,[],0⟩,{ putD s (D.rootA p.d s.d s.nx).s with nx:=s.nx+1,V:=s.V++[(s.nx,List.replicate size.toNat 0)] })
def derA (p:Pm)(s:Sta)(c:Cp)(r:Int):Rep×Sta:=(⟨(D.childA p.d s.d c r).code,(D.childA p.d s.d c r).c,[],0⟩,putD s (D.childA p.d s.d c r).s)
def awayA (all:Bool)(s:Sta)(c:Cp):Rep×Sta:=(rep (revA all s c).code,(revA all s c).s)
def valE (s:Sta)(given:Bool)(by_:Int)(c:Cp)(need:Int):Int:=if given then L.givE s.X s.l need c else (L.namG (L.givE s.X s.l need) c.1 (s.D by_) 3).2
def readA (s:Sta)(given:Bool)(by_:Int)(c:Cp)(off n:Int):Rep×Sta :=
 if valE s given by_ c 1≠0 then (rep (valE s given by_ c 1),s) else (⟨S.rvE s.V c.1 off n,(0,0,0),S.rvL s.V c.1 off n,0⟩,s)
def writeA (s:Sta)(given:Bool)(by_:Int)(c:Cp)(off:Int)(D:List Nat):Rep×Sta :=
 if valE s given by_ c 2≠0 then (rep (valE s given by_ c 2),s) else (rep (S.rvE s.V c.1 off (D.length:Int)),{ s with V:=S.wrV s.V c.1 off D })
def fitB (W:Int)(c:Cp):Bool:=decide (1≤W)&&decide (D.cutN (c.2.1*B64+c.2.2) W=c.2.1*B64+c.2.2)
def upd (D:Int→List Cp)(i:Int)(K:List Cp):Int→List Cp:=λj=>if j=i then K else D j
def addA (p:Pm)(s:Sta)(by_:Int)(c:Cp):Rep×Sta :=
 if fitB p.W c=false then (rep 18,s) else if p.lm≤((s.D by_).length:Int) then (rep 14,s) else (rep 0,{ s with D:=upd s.D by_ (s.D by_++[c]) })
def remA (s:Sta)(by_:Int)(i:Int):Rep×Sta :=
 if M.okI (s.D by_) i=false then (rep 15,s) else (rep 0,{ s with D:=upd s.D by_ ((s.D by_).take i.toNat++(s.D by_).drop (i.toNat+1)) })
def spaA (p:Pm)(s:Sta)(by_:Int)(G:List Int):Rep×Sta :=
 if M.pickE p.lm (s.D by_) G≠0 then (rep (M.pickE p.lm (s.D by_) G),s) else
 if P.fullP p.pm s.px s.P=true then (rep 13,s) else (⟨0,(0,0,0),[],s.px⟩,{ s with px:=s.px+1,P:=s.P++[s.px],ks:=s.ks++[s.px],D:=upd s.D s.px (M.pickL p.lm (s.D by_) G) })
def exiA (s:Sta)(by_:Int):Rep×Sta:=(rep 0,{ s with P:=P.out s.P by_,ks:=P.out s.ks by_ })
def cpO (c:R.Cl):Cp:=(c.obj,c.hi,c.lo)
def deedA (p:Pm)(s:Sta)(c:R.Cl):Rep×Sta :=
 if c.op=1 then creA p s c.size else if c.op=2 then awayA true s (cpO c) else if c.op=3 then derA p s (cpO c) c.rights else if c.op=4 then awayA false s (cpO c)
 else if c.op=5 then readA s c.given c.by_ (cpO c) c.off c.n else if c.op=6 then writeA s c.given c.by_ (cpO c) c.off c.data else if c.op=7 then addA p s c.by_ (cpO c)
 else if c.op=8 then remA s c.by_ c.index else if c.op=9 then spaA p s c.by_ c.gifts else exiA s c.by_
def doA (p:Pm)(s:Sta)(c:R.Cl):Rep×Sta :=
 if R.fm c=false then (rep 1,s) else if s.P.contains c.by_=false then (rep 2,s) else deedA p s c
def entP (G:Int→Nat)(i:Int):Lit×DataW Value:=(.int .i64 i,.held (.pointer (some ⟨G i,0,none⟩)))
theorem mapP_eq (L:List Int)(G:Int→Nat):mapP L G=.map (L.map (entP G)):=rfl
theorem entP_same (G:Int→Nat)(i id:Int):(entP G i).1.sameKey (.int .i64 id)=decide (i=id):=by simp [entP,Lit.sameKey]
theorem atKey_mapP (L:List Int)(G:Int→Nat)(id:Int)(hm:id∈L)(z:DataW Value):(mapP L G).atKey (.int .i64 id) z=.held (.pointer (some ⟨G id,0,none⟩)):=by
 rw [mapP_eq]
 unfold DataW.atKey
 simp only [List.find?_map]
 have e:((λp:Lit×DataW Value=>p.1.sameKey (.int .i64 id)) ∘ entP G)=λo=>decide (o=id):=by funext o;exact entP_same G o id
 rw [e]
 cases hf:L.find? (λo=>decide (o=id)) with
 | none=>have:=List.find?_eq_none.1 hf id hm;simp at this
 | some o =>
  have:o=id:=by simpa using List.find?_some hf
  subst this
  rfl
theorem put_mapP (L:List Int)(G:Int→Nat)(i:Int)(g:Nat)(h:∀p∈L,p<i):(mapP L G).put (.int .i64 i) (.held (.pointer (some ⟨g,0,none⟩)))=mapP (L++[i]) (λj=>if j=i then g else G j):=by
 have e:mapP L G=mapP L (λj=>if j=i then g else G j):=by
  unfold mapP
  congr 1
  refine List.map_congr_left (λp hp=>?_)
  have:=h p hp
  simp only [if_neg (show ¬p=i by omega)]
 rw [e,mapP_eq]
 unfold DataW.put
 simp only
 rw [List.filter_eq_self.2 (λp hp=>?_),S.insert_last,mapP_eq,List.map_append]
 ·simp [entP]
 ·intro p hp
  obtain⟨q,hq,rfl⟩:=List.mem_map.1 hp
  have:=h q hq
  simp [entP,Lit.before]
  omega
 ·obtain⟨q,hq,rfl⟩:=List.mem_map.1 hp
  have:=h q hq
  rw [entP_same]
  simp
  omega
theorem del_mapP (L:List Int)(G:Int→Nat)(id:Int):(mapP L G).del (.int .i64 id)=mapP (P.out L id) G:=by
 rw [mapP_eq,mapP_eq]
 unfold DataW.del P.out
 simp only [List.filter_map]
 congr 2
 refine List.filter_congr λo _=>?_
 simp only [Function.comp,entP_same]
 by_cases e:o=id<;>simp [e]
theorem size_mapP (L:List Int)(G:Int→Nat):Maps.size (mapP L G)=L.length:=by simp [mapP,Maps.size]
theorem tightP {k:TypeId}{L:List Int}{G:Int→Nat}(h:w.ownsMap prog k S.hr b n (mapP L G)):w.ownsMap prog k S.hr b L.length (mapP L G):=by
 obtain⟨es,clock,hb,F,hs,hD⟩:=h
 refine⟨es,clock,hb,F,?_,hD⟩
 have:=congrArg Maps.size hD
 rw [size_mapP] at this
 rw [this]
 simp [Maps.size,length_sorted]
theorem infoL:(prog.info? 134).map (λi=>(i.zero,i.size,i.bytes))=some (some (.pointer none),1,8):=by kernel_rfl
section
variable {w w':World}{H:Hd}{s s':Sta}{d d':Nat→List K.Pu}{O:Nat→Nat→Prop}{N:Nat→Prop}{Pr:List Int}{D:Int→List Cp}{G:Int→Nat}{pa:Int→Option Addr}{cap:Int→Nat}{col:Nat→Int}
theorem Duo.li (h:Duo w H s d N):∃G pa cap col,Li w H s.ks s.D G pa cap col∧∀k,LiB s.ks G pa H.lg k→N k:=by
 obtain⟨M,h⟩:=h
 obtain⟨G,pa,cap,col,h1,h2⟩:=h.part 5
 exact⟨G,pa,cap,col,h1,λk hk=>h.sub 5 k (h2 k hk)⟩
theorem same5 {ks:List Int}{D:Int→List Cp}:∀j,j≠5→∀u m,Part u H s d m j→Part u H { s with ks:=ks,D:=D } d m j:=λj hj u m hp=>by
 rcases j with _|_|_|_|_|_|_|_|j
 ·exact hp
 ·exact hp
 ·exact hp
 ·exact hp
 ·exact hp
 ·exact absurd rfl hj
 all_goals exact hp
theorem same4 {px:Int}{Pr:List Int}:∀j,j≠4→∀u m,Part u H s d m j→Part u H { s with px:=px,P:=Pr } d m j:=λj hj u m hp=>by
 rcases j with _|_|_|_|_|_|_|_|j
 ·exact hp
 ·exact hp
 ·exact hp
 ·exact hp
 ·exact absurd rfl hj
 all_goals exact hp
theorem same6:∀j,j≠6→∀u m,Part u H s d m j→Part u H s d' m j:=λj hj u m hp=>by
 rcases j with _|_|_|_|_|_|_|_|j
 ·exact hp
 ·exact hp
 ·exact hp
 ·exact hp
 ·exact hp
 ·exact hp
 ·exact absurd rfl hj
 all_goals exact hp
theorem Lay.list (h:Lay w H s d O N)(hl:Li w H s.ks s.D G pa cap col)(hm:∀k,LiB s.ks G pa H.lg k→O 5 k){i:Int}(hi:i∈s.ks){pb:Option Addr}{cb:Nat}{K:List Cp}
  (hd:M.Dm w' H.base (G i) H.lm pb cb K) (hw:M.Wr w w' (G i) (pa i) pb):∃N',Duo w' H { s with D:=upd s.D i K } d N'∧Went w N w' N':=by
 have hlt:∀j∈s.ks,∀k,k=G j∨Blk (pa j) k→k<w.heap.size:=λj hj k hk=>by
  rcases hk with rfl|hk
  ·exact (hl.each j hj).lt
  ·exact ((hl.each j hj).own.blk k hk).2
 have hlg:=hl.map.lt
 refine h.step (i:=5) (m':=LiB s.ks G (λj=>if j=i then pb else pa j) H.lg) (hw.but.mono (λk hk=>hm k (.inr ⟨i,hi,hk⟩))) ⟨G,λj=>if j=i then pb else pa j,λj=>if j=i then cb else cap j,λk=>if w.heap.size≤k then i else col k,⟨?_,λj hj=>?_,λj hj k hk=>?_⟩,λk hk=>hk⟩ (λk hk=>?_) same5
 ·exact S.owns_but hw.but hl.map (λe=>(hl.col i hi H.lg e).2 rfl)
 ·by_cases e:j=i
  ·subst e
   simp only [upd,if_pos rfl]
   exact hd
  ·simp only [upd,if_neg e]
   exact (hl.each j hj).but hw.but (λhk=>e (by rw [←(hl.col j hj _ (.inl rfl)).1,←(hl.col i hi _ hk).1])) (λk hk hk2=>e (by rw [←(hl.col j hj _ (.inr hk)).1,←(hl.col i hi _ hk2).1]))
 ·by_cases e:j=i
  ·subst e
   simp only [if_pos rfl] at hk
   by_cases hk2:w.heap.size≤k
   ·rw [if_pos hk2];exact⟨rfl,by omega⟩
   ·rw [if_neg hk2]
    rcases hk with rfl|hk
    ·exact hl.col j hj _ (.inl rfl)
    ·rcases hw.on k hk with h1|h1
     ·exact hl.col j hj _ (.inr h1)
     ·exact absurd h1 hk2
  ·simp only [if_neg e] at hk
   have:=hlt j hj k hk
   rw [if_neg (by omega)]
   exact hl.col j hj k hk
 ·rcases hk with rfl|⟨j,hj,hk⟩
  ·exact .inl (hm _ (.inl rfl))
  ·by_cases e:j=i
   ·subst e
    simp only [if_pos rfl] at hk
    rcases hk with rfl|hk
    ·exact .inl (hm _ (.inr ⟨j,hj,.inl rfl⟩))
    ·rcases hw.on k hk with h1|h1
     ·exact .inl (hm _ (.inr ⟨j,hj,.inr h1⟩))
     ·exact .inr ⟨h1,(hd.own.blk k hk).2⟩
   ·simp only [if_neg e] at hk
    exact .inl (hm _ (.inr ⟨j,hj,hk⟩))
theorem Lay.arm (h:Lay w H s d O N)(hl:Li w H s.ks s.D G pa cap col)(hm:∀k,LiB s.ks G pa H.lg k→O 5 k){i:Int}(hi:∀j∈s.ks,j<i){pb:Option Addr}{cb:Nat}{K:List Cp}
  (hd:M.Dm w' H.base g H.lm pb cb K) (hg:w.heap.size≤g∧∀k,Blk pb k→w.heap.size≤k) (hb:But (·=H.lg) w w') (hmap:w'.ownsMap prog 3 S.hr H.lg (s.ks.length+1) (mapP (s.ks++[i]) (λj=>if j=i then g else G j))) :
  ∃N',Duo w' H { s with ks:=s.ks++[i],D:=upd s.D i K } d N'∧Went w N w' N':=by
 have hlt:∀j∈s.ks,∀k,k=G j∨Blk (pa j) k→k<w.heap.size:=λj hj k hk=>by
  rcases hk with rfl|hk
  ·exact (hl.each j hj).lt
  ·exact ((hl.each j hj).own.blk k hk).2
 have hlg:=hl.map.lt
 have hne:∀j∈s.ks,j≠i:=λj hj e=>by have:=hi j hj;omega
 have hold:∀k,H.lg=k→O 5 k:=λk e=>e ▸ hm _ (.inl rfl)
 refine h.step (i:=5) (m':=LiB (s.ks++[i]) (λj=>if j=i then g else G j) (λj=>if j=i then pb else pa j) H.lg) (hb.mono (λk e=>hold k e.symm)) ⟨λj=>if j=i then g else G j,λj=>if j=i then pb else pa j,λj=>if j=i then cb else cap j,λk=>if w.heap.size≤k then i else col k,⟨tightP hmap,λj hj=>?_,λj hj k hk=>?_⟩,λk hk=>hk⟩ (λk hk=>?_) same5
 ·rcases List.mem_append.1 hj with hj|hj
  ·have e:=hne j hj
   simp only [upd,if_neg e]
   exact (hl.each j hj).but hb (λhk=>(hl.col j hj _ (.inl rfl)).2 hk) (λk hk hk2=>(hl.col j hj k (.inr hk)).2 hk2)
  ·obtain rfl:j=i:=by simpa using hj
   simp only [upd,if_pos rfl]
   exact hd
 ·rcases List.mem_append.1 hj with hj|hj
  ·have e:=hne j hj
   simp only [if_neg e] at hk
   have:=hlt j hj k hk
   rw [if_neg (by omega)]
   exact hl.col j hj k hk
  ·obtain rfl:j=i:=by simpa using hj
   simp only [if_pos rfl] at hk
   have hk2:w.heap.size≤k:=by
    rcases hk with rfl|hk
    ·exact hg.1
    ·exact hg.2 k hk
   rw [if_pos hk2];exact⟨rfl,by omega⟩
 ·rcases hk with rfl|⟨j,hj,hk⟩
  ·exact .inl (hm _ (.inl rfl))
  ·rcases List.mem_append.1 hj with hj|hj
   ·have e:=hne j hj
    simp only [if_neg e] at hk
    exact .inl (hm _ (.inr ⟨j,hj,hk⟩))
   ·obtain rfl:j=i:=by simpa using hj
    simp only [if_pos rfl] at hk
    rcases hk with rfl|hk
    ·exact .inr ⟨hg.1,hd.lt⟩
    ·exact .inr ⟨hg.2 k hk,(hd.own.blk k hk).2⟩
theorem Lay.gone (h:Lay w H s d O N)(hl:Li w H s.ks s.D G pa cap col)(hm:∀k,LiB s.ks G pa H.lg k→O 5 k)(i:Int)
  (hb:But (·=H.lg) w w') (hmap:w'.ownsMap prog 3 S.hr H.lg n (mapP (P.out s.ks i) G)):Duo w' H { s with ks:=P.out s.ks i } d N∧But N w w':=by
 have hold:∀k,H.lg=k→O 5 k:=λk e=>e ▸ hm _ (.inl rfl)
 have hsub:∀j,j∈P.out s.ks i→j∈s.ks:=λj hj=>(P.out_mem.1 hj).1
 refine h.stay (i:=5) (hb.mono (λk e=>hold k e.symm)) ⟨G,pa,cap,col,⟨tightP hmap,λj hj=>?_,λj hj=>hl.col j (hsub j hj)⟩,λk hk=>?_⟩ same5
 ·exact (hl.each j (hsub j hj)).but hb (λhk=>(hl.col j (hsub j hj) _ (.inl rfl)).2 hk) (λk hk hk2=>(hl.col j (hsub j hj) k (.inr hk)).2 hk2)
 ·rcases hk with rfl|⟨j,hj,hk⟩
  ·exact hm _ (.inl rfl)
  ·exact hm _ (.inr ⟨j,hsub j hj,hk⟩)
theorem pMay (h:Duo w H s d N)(size:Int):Calls prog 103 #[.pointer (some ⟨H.z.s,0,none⟩),.int .i64 size] w λe w'=>e=.returned (.int .i64 (S.mayV H.z.room H.z.n s.nx s.V size))∧Below w.heap.size w w':=by
 obtain⟨Os,hs,hv⟩:=h.st
 rw [←hv,S.vw_may hs]
 exact S.st_may H.z s.nx Os size w hs
theorem pNext (h:Duo w H s d N):Calls prog 38 #[.pointer (some ⟨H.z.s,0,none⟩)] w λe w'=>e=.returned (.int .i64 s.nx)∧w'=w:=by
 obtain⟨Os,hs,hv⟩:=h.st
 exact S.st_next H.z s.nx Os w hs
theorem pCreate (h:Duo w H s d N)(size:Int)(hE:S.mayV H.z.room H.z.n s.nx s.V size=0):Calls prog 105 #[.pointer (some ⟨H.z.s,0,none⟩),.int .i64 size] w λe w'=>e=.returned (.tuple #[.int .i64 s.nx,.int .i64 0])∧∃N',Duo w' H { s with nx:=s.nx+1,V:=s.V++[(s.nx,List.replicate size.toNat 0)] } d N'∧Went w N w' N':=by
 obtain⟨O,h⟩:=h
 obtain⟨Os,hs,hv,hm⟩:=h.part 2
 have h0:0≤size:=by
  unfold S.mayV at hE
  by_cases h1:size<0∨4096<size
  ·rw [if_pos h1] at hE;exact absurd hE (by decide)
  ·omega
 obtain⟨k,rfl⟩:=Int.eq_ofNat_of_zero_le h0
 rw [←hv,S.vw_may hs] at hE
 refine (S.st_create_ok H.z s.nx Os k w hs hE).mono ?_
 rintro e w' ⟨P,a,rfl,ha,hs',hb⟩
 refine⟨rfl,h.step (i:=2) (m':=λj=>O 2 j∨Blk a j) (hb.mono (λj hj=>hm j (.inl hj))) ⟨_,hs',by rw [S.vw_append,hv];simp,λj hj=>?_⟩ (λj hj=>?_) same2⟩
 ·rcases hj with h1|h1
  ·exact .inl (hm j (.inl h1))
  ·rcases S.rb_append h1 with h2|h2
   ·exact .inl (hm j (.inr h2))
   ·exact .inr h2
 ·rcases hj with h1|h1
  ·exact .inl h1
  ·exact .inr (ha j h1)
theorem pRead (h:Duo w H s d N)(id off k:Int)(hi:S.i64ok id):Calls prog 111 #[.pointer (some ⟨H.z.s,0,none⟩),.int .i64 id,.int .i64 off,.int .i64 k] w λe w'=>∃a cap,e=.returned (.tuple #[.slice a (S.rvL s.V id off k).length cap,.int .i64 (S.rvE s.V id off k)])∧Own w' w.heap.size 5 a (S.rvL s.V id off k).length cap (S.u8s (S.rvL s.V id off k))∧Below w.heap.size w w':=by
 obtain⟨Os,hs,hv⟩:=h.st
 rw [←hv,S.vw_rdE,S.vw_rdL]
 exact S.st_read H.z s.nx Os id off k w hs hi
theorem pWrite (h:Duo w H s d N)(id off:Int)(da:Option Addr)(k cd:Nat)(L:List Nat)(hi:S.i64ok id)(hR:Row w da k cd (S.u8s L))(hD:∀x∈L,x<256)(hap:0<k→∀j,Blk da j→¬N j) :
  Calls prog 112 #[.pointer (some ⟨H.z.s,0,none⟩),.int .i64 id,.int .i64 off,.slice da k cd] w λe w'=>e=.returned (.int .i64 (S.rvE s.V id off (k:Int)))∧Duo w' H { s with V:=S.wrV s.V id off L } d N∧But N w w':=by
 obtain⟨O,h⟩:=h
 obtain⟨Os,hs,hv,hm⟩:=h.part 2
 refine (S.st_write H.z s.nx Os id off da k cd L w hs hi hR hD (λh0 j hj e=>hap h0 j hj (h.sub 2 j (hm j (.inl e))))).mono ?_
 rintro e w' ⟨rfl,hs',hb⟩
 rw [←S.vw_rdE,hv]
 refine⟨rfl,h.stay (i:=2) (hb.mono (λj hj=>hm j (.inl hj))) ⟨_,hs',by rw [S.vw_wrO,hv],λj hj=>?_⟩ same2⟩
 rcases hj with h1|h1
 ·exact hm j (.inl h1)
 ·exact hm j (.inr (S.rb_wrO h1))
theorem pLive (h:Duo w H s d N)(hi:P.Iv H.pm s.px s.P)(n:Int):Calls prog 32 #[.pointer (some ⟨H.pg,0,none⟩),.int .i64 n] w λe w'=>e=.returned (.bool (s.P.contains n))∧∃q,w'=w.drewN q:=by
 obtain⟨pa,cap,h1⟩:=h.pr
 exact P.live_any h1 hi n
theorem pSpawn (h:Duo w H s d N)(hi:P.Iv H.pm s.px s.P):Calls prog 116 #[.pointer (some ⟨H.pg,0,none⟩)] w λe w'=>e=.returned (.tuple #[.int .i64 (P.spN H.pm s.px s.P),.int .i64 (P.spC H.pm s.px s.P)])∧∃N',Duo w' H { s with px:=P.spX H.pm s.px s.P,P:=P.spL H.pm s.px s.P } d N'∧Went w N w' N':=by
 obtain⟨O,h⟩:=h
 obtain⟨pa,cap,h1,hm⟩:=h.part 4
 refine (P.spawn_any h1 hi).mono ?_
 rintro e w' ⟨pb,cb,rfl,h2,hr⟩
 refine⟨rfl,h.step (i:=4) (m':=λk=>k=H.pg∨Blk pb k) (hr.but.mono (λk hk=>hm k hk)) ⟨pb,cb,h2,λk hk=>hk⟩ (λk hk=>?_) same4⟩
 rcases hk with rfl|hk
 ·exact .inl (hm _ (.inl rfl))
 ·rcases hr.on k hk with h3|h3
  ·exact .inl (hm k (.inr h3))
  ·exact .inr ⟨h3,h2.own.lt k hk⟩
theorem pExit (h:Duo w H s d N)(hi:P.Iv H.pm s.px s.P)(n:Int):Calls prog 129 #[.pointer (some ⟨H.pg,0,none⟩),.int .i64 n] w λe w'=>e=.returned (.int .i64 (P.exC s.P n))∧Duo w' H { s with P:=P.out s.P n } d N∧But N w w':=by
 obtain⟨O,h⟩:=h
 obtain⟨pa,cap,h1,hm⟩:=h.part 4
 refine (P.exit_any h1 hi n).mono ?_
 rintro e w' ⟨cb,rfl,h2,hr⟩
 exact⟨rfl,h.stay (i:=4) (hr.but.mono (λk hk=>hm k hk)) ⟨pa,cb,h2,hm⟩ same4⟩
end
def Hd.dh (H:Hd):D.Hd:={ mo:=H.mo,e:=H.e,a:=(H.mo:Int),n:=H.n,c:=H.c,g:=H.g,gb:=H.gb,A:=H.A,kn:=H.kn,qg:=H.qg,qb:=H.qb }
section
variable {w w':World}{H:Hd}{s s':Sta}{d d':Nat→List K.Pu}{O:Nat→Nat→Prop}{N:Nat→Prop}
theorem Lay.tri (h:Lay w H s d O N):D.Tri w H.dh s.d:=by
 obtain⟨hc,m0⟩:=h.part 0
 obtain⟨hq,m1⟩:=h.part 1
 obtain⟨hd,m3⟩:=h.part 3
 have e01:∀k,O 0 k→O 1 k→False:=λk a b=>absurd (h.ap 0 1 k a b) (by decide)
 have e03:∀k,O 0 k→O 3 k→False:=λk a b=>absurd (h.ap 0 3 k a b) (by decide)
 have e13:∀k,O 1 k→O 3 k→False:=λk a b=>absurd (h.ap 1 3 k a b) (by decide)
 refine⟨hd,hc,hq,h.laid,⟨λk hk e=>e03 k (m0 k hk) (m3 k (.inl e)),λk hk e=>e01 k (m0 k hk) (m1 k (.inr e)),λh0=>⟨λe=>e13 _ (m1 _ (.inr e)) (m3 _ (.inr ⟨h0,rfl⟩)),λe=>e03 _ (m0 _ (D.wr_all e)) (m3 _ (.inr ⟨h0,rfl⟩))⟩,λe=>e13 _ (m1 _ (.inr e)) (m3 _ (.inl rfl)),⟨λe=>e13 _ (m1 _ (.inl rfl)) (m3 _ (.inl e)),λe=>e01 _ (m0 _ (D.wr_all e)) (m1 _ (.inl rfl))⟩,λk hk e=>?_⟩⟩
 subst e
 refine h.n0 ?_
 rcases hk with e|e|e
 ·exact h.sub 3 _ (m3 _ (.inl e))
 ·exact h.sub 1 _ (m1 _ (.inr e))
 ·exact h.sub 0 _ (m0 _ (D.wr_all e))
theorem Lay.untri (h:Lay w H s d O N){a:D.Sta}(ht:D.Tri w' H.dh a)(hb:But H.dh.Wr w w'):Duo w' H (putD s a) d N∧But N w w':=by
 obtain⟨hc,m0⟩:=h.part 0
 obtain⟨hq,m1⟩:=h.part 1
 obtain⟨hd,m3⟩:=h.part 3
 refine h.stays (C:=λi=>i=0∨i=1∨i=3) (hb.mono (λk hk=>?_)) (λi hi=>?_) (λj hj u m hp=>?_)
 ·rcases hk with e|e|e
  ·exact⟨3,.inr (.inr rfl),m3 k (.inl e)⟩
  ·exact⟨1,.inr (.inl rfl),m1 k (.inr e)⟩
  ·exact⟨0,.inl rfl,m0 k (D.wr_all e)⟩
 ·rcases hi with rfl|rfl|rfl
  ·exact⟨ht.cat,m0⟩
  ·exact⟨ht.qu,m1⟩
  ·exact⟨ht.d,m3⟩
 ·rcases j with _|_|_|_|_|_|_|_|j
  ·exact absurd (.inl rfl) hj
  ·exact absurd (.inr (.inl rfl)) hj
  ·exact hp
  ·exact absurd (.inr (.inr rfl)) hj
  all_goals exact hp
theorem KF.dfit {p:Pm}(h:KF p s):D.Fit p.d s.d:=⟨h.fit.inv,h.fit.cnt,h.fit.len,Int.le_refl _,h.le,h.cs⟩
theorem dRoot (h:Duo w H s d N)(hf:KF H.p s)(o:Int)(ho:(Lit.int .i64 o).wf=true) :
  Calls prog 104 #[.pointer (some ⟨H.g,0,none⟩),.pointer (some ⟨H.A.g,0,none⟩),.pointer (some ⟨H.qg,0,none⟩),.int .i64 o] w λe w'=>e=.returned (.tuple #[cpV (D.rootA H.p.d s.d o).c,.int .i64 (D.rootA H.p.d s.d o).code])∧Duo w' H (putD s (D.rootA H.p.d s.d o).s) d N∧But N w w':=by
 obtain⟨O,h⟩:=h
 refine (D.root_any (H:=H.dh) h.tri hf.dfit o ho).mono ?_
 rintro e w' ⟨rfl,ht,hb⟩
 exact⟨rfl,h.untri ht hb⟩
theorem dChild (h:Duo w H s d N)(hf:KF H.p s)(c:Cp)(r:Int)(ho:(Lit.int .i64 c.1).wf=true)(hw:c.2.1<B64∧c.2.2<B64) :
  Calls prog 108 #[.pointer (some ⟨H.g,0,none⟩),.pointer (some ⟨H.A.g,0,none⟩),.pointer (some ⟨H.qg,0,none⟩),cpV c,.int .i64 r] w λe w'=>e=.returned (.tuple #[cpV (D.childA H.p.d s.d c r).c,.int .i64 (D.childA H.p.d s.d c r).code])∧Duo w' H (putD s (D.childA H.p.d s.d c r).s) d N∧But N w w':=by
 obtain⟨O,h⟩:=h
 refine (D.dchild_any (H:=H.dh) h.tri hf.dfit c r ho hw).mono ?_
 rintro e w' ⟨rfl,ht,hb⟩
 exact⟨rfl,h.untri ht hb⟩
def Hd.lh (H:Hd)(z:Nat):L.Hv:=⟨H.A,H.kn,H.mo,H.cg,H.cs,H.cw,H.kn,H.v,z,z+1,z+1⟩
theorem Lay.vd (h:Lay w H s d O N):L.Vd w (H.lh w.heap.size) s.X s.l d:=by
 obtain⟨hc,m0⟩:=h.part 0
 obtain⟨hk,hv,m6,m6v,hne⟩:=h.part 6
 have e06:∀k,O 0 k→O 6 k→False:=λk a b=>absurd (h.ap 0 6 k a b) (by decide)
 have lt:∀i k,O i k→k<w.heap.size:=λi k hk=>(h.rng k (h.sub i k hk)).2
 have l1:=lt 6 _ m6
 have l2:=lt 6 _ m6v
 refine⟨hc,hk,hv,⟨λe=>e06 _ (m0 _ e) m6,λe=>e06 _ (m0 _ e) m6v,hne,λe=>?_,?_,λe=>?_,?_,?_,?_,λe=>?_,?_,?_,?_⟩⟩
 ·have:=lt 0 _ (m0 _ e);exact absurd this (Nat.lt_irrefl _)
 ·show w.heap.size≠H.cg;omega
 ·have:=lt 0 _ (m0 _ e);exact absurd this (show ¬w.heap.size+1<w.heap.size by omega)
 ·show w.heap.size+1≠H.cg;omega
 ·show w.heap.size+1≠H.v;omega
 ·show w.heap.size+1≠w.heap.size;omega
 ·have:=lt 0 _ (m0 _ e);exact absurd this (show ¬w.heap.size+1<w.heap.size by omega)
 ·show w.heap.size+1≠H.cg;omega
 ·show w.heap.size+1≠H.v;omega
 ·show w.heap.size+1≠w.heap.size;omega
theorem Lay.unvd (h:Lay w H s d O N){z:Nat}{T:Nat→List K.Pu}(hv:L.Vd w' (H.lh z) s.X s.l T)(hb:But (λk=>k=H.cg) w w'):Duo w' H s T N∧But N w w':=by
 obtain⟨_,_,m6,m6v,hne⟩:=h.part 6
 exact h.stay (i:=6) (hb.mono (λk e=>e ▸ m6)) ⟨hv.ch,hv.va,m6,m6v,hne⟩ same6
theorem Duo.ncg (h:Duo w H s d N):H.kb≠H.cg∧H.lg≠H.cg∧N H.cg:=by
 obtain⟨O,h⟩:=h
 obtain⟨_,_,m6,_,_⟩:=h.part 6
 obtain⟨_,_,_,_,_,m5⟩:=h.part 5
 exact⟨λe=>absurd (h.ap 7 6 _ (h.part 7).2 (e ▸ m6)) (by decide),λe=>absurd (h.ap 5 6 _ (m5 _ (.inl rfl)) (e ▸ m6)) (by decide),h.sub 6 _ m6⟩
theorem vGiven (h:Duo w H s d N)(ht:L.Tr s.X s.l d)(c:Cp)(need:Int)(hw:c.2.1<B64∧c.2.2<B64) :
  Calls prog 160 #[.pointer (some ⟨H.v,0,none⟩),cpV c,.int .i64 need] w λe w'=>e=.returned (.int .i64 (L.givE s.X s.l need c))∧∃T,Duo w' H s T N∧L.Tr s.X s.l T∧But N w w'∧But (λk=>k=H.cg) w w':=by
 obtain⟨O,h⟩:=h
 refine (L.given_any (H:=H.lh w.heap.size) ⟨d,h.vd,ht⟩ c need hw).mono ?_
 rintro e w' ⟨rfl,⟨T,hv,hT⟩,hb⟩
 obtain⟨h1,h2⟩:=h.unvd hv hb
 exact⟨rfl,T,h1,hT,h2,hb⟩
theorem vNamed (h:Duo w H s d N)(ht:L.Tr s.X s.l d)(o need:Int){Q:List Cp}(cap:Nat)(hr:Rd w a n Q)(hn:n≤9223372036854775807)(hk:∀c∈Q,c.2.1<B64∧c.2.2<B64)(ha:0<n→∀k,Blk a k→¬N k) :
  Calls prog 161 #[.pointer (some ⟨H.v,0,none⟩),.int .i64 o,.int .i64 need,.slice a n cap] w λe w'=>e=.returned (.tuple #[cpV (L.namG (L.givE s.X s.l need) o Q 3).1,.int .i64 (L.namG (L.givE s.X s.l need) o Q 3).2])∧∃T,Duo w' H s T N∧L.Tr s.X s.l T∧But N w w'∧But (λk=>k=H.cg) w w':=by
 obtain⟨O,h⟩:=h
 obtain⟨_,_,m6,_,_⟩:=h.part 6
 refine (L.named_any (H:=H.lh w.heap.size) ⟨d,h.vd,ht⟩ o need cap hr hn hk (λh0 k hk e=>ha h0 k hk (h.sub 6 k (by rw [e];exact m6)))).mono ?_
 rintro e w' ⟨rfl,⟨T,hv,hT⟩,hb⟩
 obtain⟨h1,h2⟩:=h.unvd hv hb
 exact⟨rfl,T,h1,hT,h2,hb⟩
theorem vGone (h:Duo w H s d N):Calls prog 158 #[.pointer (some ⟨H.v,0,none⟩)] w λe w'=>e=.returned (.tuple #[])∧∃T,Duo w' H s T N∧L.Tr s.X s.l T∧But N w w'∧But (λk=>k=H.cg) w w':=by
 obtain⟨O,h⟩:=h
 refine (L.gone_any (H:=H.lh w.heap.size) ⟨d,h.vd⟩).mono ?_
 rintro e w' ⟨rfl,⟨T,hv,hT⟩,hb⟩
 obtain⟨h1,h2⟩:=h.unvd hv hb
 exact⟨rfl,T,h1,hT,h2,hb⟩
end
abbrev rpV (r:Rep)(a:Option Addr)(n c:Nat):Value:=.agg #[.int .i64 r.code,.int .i64 r.cap.1,.int .u64 (r.cap.2.1:Int),.int .u64 (r.cap.2.2:Int),.slice a n c,.int .i64 r.num]
def rpL (r:Rep)(a:Option Addr)(n c:Nat):List Value:=[.int .i64 r.code,.int .i64 r.cap.1,.int .u64 (r.cap.2.1:Int),.int .u64 (r.cap.2.2:Int),.slice a n c,.int .i64 r.num]
abbrev z6:Obj:=.cells #[.int .i64 0,.int .i64 0,.int .u64 0,.int .u64 0,.slice none 0 0,.int .i64 0] 41
theorem st_arm {P:Program}{ops:Array Oper}{rest:List Oper}{a:Act}{Q:Exit→Act→World→Prop}{tt:TypeId}{ps:String}{af}{ty:TypeId}{x y:Operand}{p v:Value}
  (hr:(Instr.storeAt ty p v).run P w=.ok () w') (hx:a.eval x=p) (hy:a.eval y=v) (h:wpList P ops Q rest a w') :
  wpList P ops Q ({ dst:=none,op:=.store ty x y,type:=tt,pos:=ps,after:=af,guard:=none }::rest) a w:=by
 refine wpList_plain rfl λK hK=>?_
 unfold Oper.wp execOp
 simp only [hx,hy,hr,Sem.run_bind,Sem.run_pure,Result.andThen_ok]
 exact hK _ _ h
theorem info6:(prog.info? 41).map (·.size)=some 6:=by kernel_rfl
section
variable {w w':World}{H:Hd}{s s':Sta}{d d':Nat→List K.Pu}{O:Nat→Nat→Prop}{N:Nat→Prop}
def Zr (w:World)(b:Nat):Prop:=w.there b 0 6
theorem Zr.new (w:World):Zr (w.alloc z6) w.heap.size:=(R.Bx.new w [.int .i64 0,.int .i64 0,.int .u64 0,.int .u64 0,.slice none 0 0,.int .i64 0] 41).there
theorem Zr.but {B:Nat→Prop}(h:Zr w b)(hb:But B w w')(hn:¬B b):Zr w' b:=λj hj=>by
 obtain⟨h1,h2⟩:=h j hj
 obtain⟨v,hv⟩:=Option.isSome_iff_exists.1 h1
 have hk:=hb.block b (World.block_lt_of_cell? _ _ hv) hn
 exact⟨by rw [World.cell?_of_block hk];exact h1,by rw [World.frozen?_of_block hk];exact h2⟩
theorem Zr.later (h:Zr w b)(hb:Below w.heap.size w w'):Zr w' b:=h.but (B:=λ_=>False) (But.of hb) (λh=>h)
theorem Zr.lt (h:Zr w b):b<w.heap.size:=by
 obtain⟨h1,_⟩:=h 0 (by decide)
 obtain⟨v,hv⟩:=Option.isSome_iff_exists.1 h1
 exact World.block_lt_of_cell? _ _ hv
theorem rpL_one (r:Rep)(a:Option Addr)(n c:Nat):∀v∈rpL r a n c,v.oneCell'=true:=by simp [rpL,Value.oneCell']
theorem Zr.stL {M:List Value}(h:Zr w b)(hl:M.length=6)(h1:∀v∈M,v.oneCell'=true):(Instr.storeAt 41 (.pointer (some ⟨b,0,none⟩)) (.agg M.toArray)).run prog w=.ok () (w.setCells b 0 M):=by
 have:=R.stc h hl h1
 simp [Instr.storeAt,storeVar,Instr.sureAddr,Value.cells,hl,this,Result.andThen]
theorem Zr.st (h:Zr w b)(r:Rep)(a:Option Addr)(n c:Nat):(Instr.storeAt 41 (.pointer (some ⟨b,0,none⟩)) (rpV r a n c)).run prog w=.ok () (w.setCells b 0 (rpL r a n c)):=h.stL (M:=rpL r a n c) rfl (rpL_one r a n c)
theorem Zr.lv (h:Zr w b)(r:Rep)(a:Option Addr)(n c:Nat):(loadVar 41 ⟨b,0,none⟩).run prog (w.setCells b 0 (rpL r a n c))=.ok (rpV r a n c) (w.setCells b 0 (rpL r a n c)) :=
 run_loadVar_mid (P:=prog) _ b 0 41 (rpL r a n c) _ (World.rangeAt_setCells_same _ _ _ _ h) underlying41 rfl (by rw [info6];rfl)
theorem refused_any (c:Int)(w:World):Calls prog 31 #[.int .i64 c] w λe w'=>e=.returned (rpV (rep c) none 0 0)∧Below w.heap.size w w':=by
 have hst:=(Zr.new w).st (rep c) none 0 0
 have hlv:=(Zr.new w).lv (rep c) none 0 0
 have HB:Hid (Below w.heap.size w ((w.alloc z6).setCells w.heap.size 0 (rpL (rep c) none 0 0))):=But.below (below1 _ _) (R.sb_ (S:=(·=w.heap.size)) rfl _ 0 (But.refl _ _)) (λk e=>by omega)
 have HS:=hid hst
 have HL:=hid hlv
 clear hst hlv
 go_enter func31,ntmps31
 go_wp2_with (first|((with_reducible refine st_arm HS.o ?_ ?_ ?_);(· rfl);(· rfl)))
 exact bodyPost_ret (v:=rpV (rep c) none 0 0) (by simp [results,results31,asAddr,HL.o]) rfl ⟨rfl,HB.o⟩
theorem dropped_bad (h:Duo w H s d N)(c:Int)(hc:¬c=0):Calls prog 107 #[.pointer (some ⟨H.kb,0,none⟩),.int .i64 c] w λe w'=>e=.returned (rpV (rep c) none 0 0)∧Below w.heap.size w w':=by
 have HS:=hid ((Zr.new w).st (rep c) none 0 0)
 have HL:=hid ((Zr.new w).lv (rep c) none 0 0)
 have HB:Hid (Below w.heap.size w ((w.alloc z6).setCells w.heap.size 0 (rpL (rep c) none 0 0))):=But.below (below1 _ _) (R.sb_ (S:=(·=w.heap.size)) rfl _ 0 (But.refl _ _)) (λk e=>by omega)
 have hq:(c==0)=false:=by simpa using hc
 clear h hc
 go_enter func107,ntmps107
 go_wp2_with (first|((with_reducible refine st_arm HS.o ?_ ?_ ?_);(· rfl);(· rfl)))
 exact bodyPost_ret (v:=rpV (rep c) none 0 0) (by simp [results,results107,asAddr,HL.o]) rfl ⟨rfl,HB.o⟩
theorem Duo.new (h:Duo w H s d N){k:Nat}(hk:w.heap.size≤k):¬N k:=λe=>by have:=(h.rng k e).2;omega
theorem dropped_ok (h:Duo w H s d N):Calls prog 107 #[.pointer (some ⟨H.kb,0,none⟩),.int .i64 0] w λe w'=>e=.returned (rpV (rep 0) none 0 0)∧∃T,Duo w' H s T N∧L.Tr s.X s.l T∧But N w w':=by
 have hB:=below1 w z6
 have k16:=cell_later hB (h.kb 16 _ rfl)
 have HG:=hid (vGone (h.later hB))
 have HZ:=hid (Zr.new w)
 have HB:=hid hB
 have HN:=hid (h.new (Nat.le_refl _))
 have HP:Hid (0<w.heap.size):=by have:=h.b0;unfold Hid;omega
 clear h hB
 go_enter func107,ntmps107
 go_upto_region 3 with (first|(go_at_call 158;refine HG.o.mono ?_;rintro e w2 ⟨rfl,T,hd2,ht2,hb2,-⟩;have HD2:=hid hd2;have HT2:=hid ht2;have HB2:=hid hb2;clear hd2 ht2 hb2))
 have HZ2:=hid (HZ.o.but HB2.o HN.o)
 have HS:=hid (HZ2.o.st (rep 0) none 0 0)
 have HL:=hid (HZ2.o.lv (rep 0) none 0 0)
 have HB3:Hid (But (·=w.heap.size) w2 (w2.setCells w.heap.size 0 (rpL (rep 0) none 0 0))):=R.sb_ (S:=(·=w.heap.size)) rfl _ 0 (But.refl _ _)
 go_wp2_with (first|((with_reducible refine st_arm HS.o ?_ ?_ ?_);(· rfl);(· rfl)))
 refine bodyPost_ret (v:=rpV (rep 0) none 0 0) (by simp [results,results107,asAddr,HL.o]) rfl ⟨rfl,T,HD2.o.but HB3.o (λk hk e=>HN.o (e ▸ hk)) (λe=>?_),HT2.o,?_⟩
 ·have:0=w.heap.size:=e;have:=HP.o;omega
 ·exact ((But.of HB.o).trans HB2.o).comp HB3.o (λi e=>.inr (by omega))
end
structure Cb (w:World)(b:Nat)(c:R.Cl)(dd gg:R.Sl):Prop where
 c0:w.cell? ⟨b,0,none⟩=some (.int .i64 c.op)
 c1:w.cell? ⟨b,1,none⟩=some (.int .i64 c.by_)
 c2:w.cell? ⟨b,2,none⟩=some (.int .i64 c.size)
 c3:w.cell? ⟨b,3,none⟩=some (.int .i64 c.obj)
 c4:w.cell? ⟨b,4,none⟩=some (.int .u64 (c.hi:Int))
 c5:w.cell? ⟨b,5,none⟩=some (.int .u64 (c.lo:Int))
 c6:w.cell? ⟨b,6,none⟩=some (.bool c.given)
 c7:w.cell? ⟨b,7,none⟩=some (.int .i64 c.rights)
 c8:w.cell? ⟨b,8,none⟩=some (.int .i64 c.off)
 c9:w.cell? ⟨b,9,none⟩=some (.int .i64 c.n)
 c10:w.cell? ⟨b,10,none⟩=some dd.v
 c11:w.cell? ⟨b,11,none⟩=some (.int .i64 c.index)
 c12:w.cell? ⟨b,12,none⟩=some gg.v
section
variable {w w':World}{H:Hd}{s s':Sta}{d d':Nat→List K.Pu}{O:Nat→Nat→Prop}{N:Nat→Prop}{c:R.Cl}{dd gg:R.Sl}{b:Nat}
theorem Cb.of (h:R.Bx w b (R.cC c dd gg)):Cb w b c dd gg:=⟨h.cell 0 rfl,h.cell 1 rfl,h.cell 2 rfl,h.cell 3 rfl,h.cell 4 rfl,h.cell 5 rfl,h.cell 6 rfl,h.cell 7 rfl,h.cell 8 rfl,h.cell 9 rfl,h.cell 10 rfl,h.cell 11 rfl,h.cell 12 rfl⟩
theorem Cb.but {B:Nat→Prop}(h:Cb w b c dd gg)(hb:But B w w')(hn:¬B b):Cb w' b c dd gg :=
 ⟨cb_ hb h.c0 hn,cb_ hb h.c1 hn,cb_ hb h.c2 hn,cb_ hb h.c3 hn,cb_ hb h.c4 hn,cb_ hb h.c5 hn,cb_ hb h.c6 hn,cb_ hb h.c7 hn,cb_ hb h.c8 hn,cb_ hb h.c9 hn,cb_ hb h.c10 hn,cb_ hb h.c11 hn,cb_ hb h.c12 hn⟩
theorem valid_given (h:Duo w H s d N)(ht:L.Tr s.X s.l d)(need:Int)(hg:c.given=true)(hw:c.hi<B64∧c.lo<B64) :
  Calls prog 110 #[.pointer (some ⟨H.kb,0,none⟩),.agg (R.cC c dd gg).toArray,.int .i64 need] w λe w'=>e=.returned (.int .i64 (L.givE s.X s.l need (cpO c)))∧∃T,Duo w' H s T N∧L.Tr s.X s.l T∧But N w w':=by
 have hB:=below1 w (Obj.cells (R.cC c dd gg).toArray 45)
 obtain⟨W,hW⟩:∃W,W=w.alloc (Obj.cells (R.cC c dd gg).toArray 45):=⟨_,rfl⟩
 have hX:=Cb.of (R.Bx.new w (R.cC c dd gg) 45)
 rw [←hW] at hB hX
 have h2:=h.later hB
 have hk:=h2.kb 16 _ rfl
 have x3:=hX.c3
 have x4:=hX.c4
 have x5:=hX.c5
 have x6:=hX.c6
 rw [hg] at x6
 have HC:=hid (λ(U:World) (hU:Below W.heap.size W U)=>vGiven (h2.later hU) ht (cpO c) need hw)
 unfold cpO at HC ⊢
 have HB:=hid hB
 have HX:=hid hX
 have HS:Hid (∀U,Below W.heap.size W U→U.cell? ⟨H.kb,16,none⟩=some (.pointer (some ⟨H.v,0,none⟩))∧U.cell? ⟨w.heap.size,3,none⟩=some (.int .i64 c.obj)∧U.cell? ⟨w.heap.size,4,none⟩=some (.int .u64 (c.hi:Int))∧U.cell? ⟨w.heap.size,5,none⟩=some (.int .u64 (c.lo:Int))):=λU hU=>⟨cell_later hU hk,cell_later hU x3,cell_later hU x4,cell_later hU x5⟩
 have HW:=hid hW
 have HN:=hid (h.new (Nat.le_refl _))
 clear h h2 hB hX hW ht
 go_enter func110,ntmps110
 go_upto_region 1 with fail
 rw [←HW.o]
 go_upto_region 2 with fail
 go_region_held3 (λU=>U.cell? ⟨H.kb,16,none⟩=some (.pointer (some ⟨H.v,0,none⟩))∧U.cell? ⟨w.heap.size,3,none⟩=some (.int .i64 c.obj)∧U.cell? ⟨w.heap.size,4,none⟩=some (.int .u64 (c.hi:Int))∧U.cell? ⟨w.heap.size,5,none⟩=some (.int .u64 (c.lo:Int))) (first|exact HS.o _ (Below.refl _ _).drew|exact HE.o) (first|(go_at_call 160;refine (HC.o _ (Below.refl _ _).drew).mono ?_;rintro e w2 ⟨rfl,T,hd2,ht2,hb2,-⟩;have HD2:=hid hd2;have HT2:=hid ht2;have HB2:Hid (But N W w2):=(But.of (Below.refl _ _).drew).trans hb2;have HE:=hid (And.intro (hd2.kb 16 _ rfl) (And.intro (HX.o.but HB2.o HN.o).c3 (And.intro (HX.o.but HB2.o HN.o).c4 (HX.o.but HB2.o HN.o).c5)));clear hd2 ht2 hb2))
 go_wp2
 go_ret
 exact⟨rfl,T,HD2.o,HT2.o,(But.of HB.o).trans HB2.o⟩
end
section
variable {w w':World}{H:Hd}{s s':Sta}{d d':Nat→List K.Pu}{O:Nat→Nat→Prop}{N:Nat→Prop}{c:R.Cl}{dd gg:R.Sl}{b:Nat}
theorem wf_i {x:Int}(h:S.i64ok x):(Lit.int .i64 x).wf=true:=WalkArith.wf_i64 (by unfold S.i64ok at h;omega)
structure Zb (w:World)(b:Nat):Prop where
 c0:Lies w ⟨b,0,none⟩ (.int .i64 0)
 c1:Lies w ⟨b,1,none⟩ (.int .u64 0)
 c2:Lies w ⟨b,2,none⟩ (.int .u64 0)
theorem Zb.mk_ (w:World):Zb (w.alloc (Obj.cells #[.int .i64 0,.int .u64 0,.int .u64 0] 38)).drew w.heap.size:=⟨⟨by simp [go_sem],by simp [go_sem]⟩,⟨by simp [go_sem],by simp [go_sem]⟩,⟨by simp [go_sem],by simp [go_sem]⟩⟩
theorem Zb.but {B:Nat→Prop}(h:Zb w b)(hb:But B w w')(hn:¬B b):Zb w' b:=⟨h.c0.but hb hn,h.c1.but hb hn,h.c2.but hb hn⟩
structure Bc (u U:World)(b:Nat)(c:Cp):Prop where
 but:But (λk=>k=b) u U
 c0:U.cell? ⟨b,0,none⟩=some (.int .i64 c.1)
 c1:U.cell? ⟨b,1,none⟩=some (.int .u64 (c.2.1:Int))
 c2:U.cell? ⟨b,2,none⟩=some (.int .u64 (c.2.2:Int))
theorem Bc.first {u:World}(h:Zb u b)(c:Cp):Bc u (((u.setCell ⟨b,0,none⟩ (.int .i64 c.1)).setCell ⟨b,1,none⟩ (.int .u64 (c.2.1:Int))).setCell ⟨b,2,none⟩ (.int .u64 (c.2.2:Int))) b c:=by
 have hc:=Cel.set (w:=u) (b:=b) ⟨h.c0,h.c1,h.c2⟩ c
 exact⟨L.set3_but (S:=λk=>k=b) (b:=b) (But.refl _ u) rfl c,hc.c0,hc.c1,hc.c2⟩
theorem Bc.then_ (u:World)(c:Cp):Bc u (u.alloc (Obj.cells #[.int .i64 c.1,.int .u64 (c.2.1:Int),.int .u64 (c.2.2:Int)] 38)) u.heap.size c:=⟨But.of (below1 _ _),by simp [go_sem],by simp [go_sem],by simp [go_sem]⟩
theorem derive_any (h:Duo w H s d N)(hf:KF H.p s)(ho:S.i64ok c.obj)(hw:c.hi<B64∧c.lo<B64) :
  Calls prog 61 #[.pointer (some ⟨H.kb,0,none⟩),.agg (R.cC c dd gg).toArray] w λe w'=>e=.returned (rpV (derA H.p s (cpO c) c.rights).1 none 0 0)∧Duo w' H (derA H.p s (cpO c) c.rights).2 d N∧But N w w':=by
 obtain⟨W,hW⟩:∃W,W=(w.alloc (Obj.cells (R.cC c dd gg).toArray 45)).alloc z6:=⟨_,rfl⟩
 have hB:Below w.heap.size w W:=by rw [hW];exact below2 _ _ _
 have hX:R.Bx W w.heap.size (R.cC c dd gg):=by rw [hW];exact R.Bx.later (below1 _ _) (R.Bx.new w (R.cC c dd gg) 45)
 have hZ:Zr W (w.heap.size+1):=by rw [hW];have:=Zr.new (w.alloc (Obj.cells (R.cC c dd gg).toArray 45));simpa using this
 have h2:=h.later hB
 have HC:=hid (λ(U:World) (hU:Below W.heap.size W U)=>dChild (h2.later hU) hf (cpO c) c.rights (wf_i ho) hw)
 unfold derA
 generalize D.childA H.p.d s.d (cpO c) c.rights=A at *
 unfold cpO at HC
 have HS:Hid (∀U {s d},Duo U H s d N→But N W U→U.cell? ⟨H.kb,10,none⟩=some (.pointer (some ⟨H.g,0,none⟩))∧U.cell? ⟨H.kb,12,none⟩=some (.pointer (some ⟨H.A.g,0,none⟩))∧U.cell? ⟨H.kb,13,none⟩=some (.pointer (some ⟨H.qg,0,none⟩))∧U.cell? ⟨w.heap.size,3,none⟩=some (.int .i64 c.obj)∧U.cell? ⟨w.heap.size,4,none⟩=some (.int .u64 (c.hi:Int))∧U.cell? ⟨w.heap.size,5,none⟩=some (.int .u64 (c.lo:Int))∧U.cell? ⟨w.heap.size,7,none⟩=some (.int .i64 c.rights)):=λU s d hd hb=>by
  have:=Cb.of (R.Bx.but hb hX (h.new (Nat.le_refl _)))
  exact⟨hd.kb 10 _ rfl,hd.kb 12 _ rfl,hd.kb 13 _ rfl,this.c3,this.c4,this.c5,this.c7⟩
 have H0:=hid (λU (hU:But (λ_=>False) W U)=>HS.o U (h2.but hU (λ_ _ h=>h) (λh=>h)) (hU.mono (λ_ h=>h.elim)))
 have HW:=hid hW
 have HB:=hid hB
 have HX:=hid hX
 have HZ:=hid hZ
 have HD:=hid h2
 have HP:Hid (0<w.heap.size):=by have:=h.b0;unfold Hid;omega
 have HN:=hid (λk hk=>h.new (k:=k) hk)
 clear h h2 hB hX hZ hW
 go_enter func61,ntmps61
 go_upto_region 1 with fail
 rw [←HW.o]
 go_cut [5,6] (λs5 s6 U=>∃b,s5=.pointer (some ⟨b,0,none⟩)∧s6=.int .i64 A.code∧Hid (W.heap.size≤b∧∃u,(Duo u H (putD s A.s) d N∧But N W u)∧Bc u U b A.c))
 case first =>
  go_region_held3 (λU=>U.cell? ⟨H.kb,10,none⟩=some (.pointer (some ⟨H.g,0,none⟩))∧U.cell? ⟨H.kb,12,none⟩=some (.pointer (some ⟨H.A.g,0,none⟩))∧U.cell? ⟨H.kb,13,none⟩=some (.pointer (some ⟨H.qg,0,none⟩))∧U.cell? ⟨w.heap.size,3,none⟩=some (.int .i64 c.obj)∧U.cell? ⟨w.heap.size,4,none⟩=some (.int .u64 (c.hi:Int))∧U.cell? ⟨w.heap.size,5,none⟩=some (.int .u64 (c.lo:Int))∧U.cell? ⟨w.heap.size,7,none⟩=some (.int .i64 c.rights)) (first|exact H0.o _ (But.of (Below.refl _ _).drew)|exact H0.o _ (But.of (below1 _ _).drew)|exact H0.o _ (But.of (below1 _ _))|exact HE.o _ (But.refl _ _)|exact HE.o _ (But.of (below1 _ _))|exact HE.o _ (L.set3_but (S:=λk=>k=W.heap.size) (b:=W.heap.size) (But.refl _ u_) rfl _)) (first
   | (go_at_call 108;refine (HC.o _ (below1 _ _).drew).mono ?_;rintro e u_ ⟨rfl,hd_,hb_⟩;have HBt:Hid (But N W u_):=(But.of (S:=N) (below1 W (Obj.cells #[.int .i64 0,.int .u64 0,.int .u64 0] 38)).drew).trans hb_;have HPs:=hid (And.intro hd_ HBt.o);have hzc:=(Zb.mk_ W).but (show But N (W.alloc (Obj.cells #[.int .i64 0,.int .u64 0,.int .u64 0] 38)).drew u_ from hb_) (HN.o _ HB.o.size);have HZc:=hid hzc;have HE:=hid (λU (hU:But (λk=>k=W.heap.size) u_ U)=>HS.o U (hd_.but hU (λk hk e=>HN.o k (by have h9:W.heap.size≤_:=(Nat.le_refl _);have:=HB.o.size;omega) hk) (λe=>by have h9:W.heap.size≤_:=(Nat.le_refl _);have:=HB.o.size;have:=HP.o;omega)) (HBt.o.comp hU (λi e=>.inr (by have h9:W.heap.size≤_:=(Nat.le_refl _);omega))));obtain⟨⟨z0,f0⟩,⟨z1,f1⟩,⟨z2,f2⟩⟩:=hzc;clear hb_)
   | (go_at_call 108;refine (HC.o _ (Below.refl _ _).drew).mono ?_;rintro e u_ ⟨rfl,hd_,hb_⟩;have HBt:Hid (But N W u_):=(But.of (S:=N) (Below.refl W.heap.size W).drew).trans hb_;have HPs:=hid (And.intro hd_ HBt.o);have HE:=hid (λU (hU:But (λk=>k=u_.heap.size) u_ U)=>HS.o U (hd_.but hU (λk hk e=>HN.o k (by have h9:W.heap.size≤_:=HBt.o.size;have:=HB.o.size;omega) hk) (λe=>by have h9:W.heap.size≤_:=HBt.o.size;have:=HB.o.size;have:=HP.o;omega)) (HBt.o.comp hU (λi e=>.inr (by have h9:W.heap.size≤_:=HBt.o.size;omega))));clear hb_))
  all_goals (try go_wp2)
  all_goals go_meet
  all_goals (first|exact⟨_,rfl,rfl,Nat.le_refl _,u_,HPs.o,Bc.first HZc.o _⟩|exact⟨_,rfl,rfl,HBt.o.size,u_,HPs.o,Bc.then_ u_ _⟩)
 case rest =>
 rename World=>v
 obtain⟨b,rfl,rfl,HR⟩:=hcut
 obtain⟨hlo,u,⟨hd3,hb3⟩,hbc⟩:=HR.o
 obtain⟨hv,v0,v1,v2⟩:=hbc
 have hsz:=HB.o.size
 have HDv:=hid (hd3.but hv (λk hk e=>HN.o k (by omega) hk) (λe=>by have:=HP.o;omega))
 have HBv:Hid (But N W v):=hb3.comp hv (λi e=>.inr (by omega))
 have HZv:=hid (HZ.o.but HBv.o (HN.o _ (by omega)))
 clear hlo hd3 hb3 hv hsz HR
 have HZ9:=hid (HZv.o)
 have HS9:=hid (HZ9.o.st ⟨A.code,A.c,[],0⟩ none 0 0)
 have HL9:=hid (HZ9.o.lv ⟨A.code,A.c,[],0⟩ none 0 0)
 have HB9:Hid (But (·=w.heap.size+1) (v) ((v).setCells (w.heap.size+1) 0 (rpL ⟨A.code,A.c,[],0⟩ none 0 0))):=R.sb_ (S:=(·=w.heap.size+1)) rfl _ 0 (But.refl _ _)
 go_wp2_with (first|((with_reducible refine st_arm HS9.o ?_ ?_ ?_);(· rfl);(· rfl)))
 exact bodyPost_ret (v:=rpV ⟨A.code,A.c,[],0⟩ none 0 0) (by simp [results,results61,asAddr,HL9.o]) rfl ⟨rfl,HDv.o.but HB9.o (λk hk e=>HN.o k (by omega) hk) (λe=>by have:0=w.heap.size+1:=e;omega),((But.of HB.o).trans HBv.o).comp HB9.o (λi e=>.inr (by omega))⟩
end
section
variable {w w':World}{H:Hd}{s s':Sta}{d d':Nat→List K.Pu}{O:Nat→Nat→Prop}{N:Nat→Prop}{c:R.Cl}{dd gg:R.Sl}{b:Nat}
theorem Zb.mk1 (w:World):Zb (w.alloc (Obj.cells #[.int .i64 0,.int .u64 0,.int .u64 0] 38)) w.heap.size:=⟨⟨by simp [go_sem],by simp [go_sem]⟩,⟨by simp [go_sem],by simp [go_sem]⟩,⟨by simp [go_sem],by simp [go_sem]⟩⟩
theorem Zb.later (h:Zb w b)(hb:Below w.heap.size w w'):Zb w' b:=h.but (B:=λ_=>False) (But.of hb) (λh=>h)
theorem KF.by64 (hf:KF H.p s){i:Int}(hi:i∈s.P):-9223372036854775808≤i∧i<9223372036854775808:=by
 have h1:=hf.iv.lo i hi
 have h2:=hf.iv.hi i hi
 have h3:=hf.iv.x2
 omega
theorem KF.len32 (hf:KF H.p s){i:Int}(hi:i∈s.P):(s.D i).length≤32:=by
 have h1:=hf.ln i hi
 have h2:=hf.lm.2
 omega
theorem valid_named (h:Duo w H s d N)(ht:L.Tr s.X s.l d)(hf:KF H.p s)(need:Int)(hg:c.given=false)(hby:c.by_∈s.P) :
  Calls prog 110 #[.pointer (some ⟨H.kb,0,none⟩),.agg (R.cC c dd gg).toArray,.int .i64 need] w λe w'=>e=.returned (.int .i64 (L.namG (L.givE s.X s.l need) c.obj (s.D c.by_) 3).2)∧∃T,Duo w' H s T N∧L.Tr s.X s.l T∧But N w w':=by
 obtain⟨W,hW⟩:∃W,W=w.alloc (Obj.cells (R.cC c dd gg).toArray 45):=⟨_,rfl⟩
 have hB:Below w.heap.size w W:=by rw [hW];exact below1 _ _
 have hX:R.Bx W w.heap.size (R.cC c dd gg):=by rw [hW];exact R.Bx.new w (R.cC c dd gg) 45
 have h2:=h.later hB
 obtain⟨G,pa,cap,col,hli,-⟩:=h2.li
 have hks:c.by_∈s.ks:=by rw [hf.ks];exact hby
 have hncg:=h2.ncg
 have x6:=(Cb.of hX).c6
 rw [hg] at x6
 have HS:Hid (∀U,But (λk=>k=H.cg) W U→U.cell? ⟨H.kb,15,none⟩=some (.map (some H.lg))∧U.cell? ⟨H.kb,16,none⟩=some (.pointer (some ⟨H.v,0,none⟩))∧U.cell? ⟨w.heap.size,1,none⟩=some (.int .i64 c.by_)∧U.cell? ⟨w.heap.size,3,none⟩=some (.int .i64 c.obj)∧(Instr.lookup 85 (.map (some H.lg)) (.int .i64 c.by_) false).run prog U=.ok (.pointer (some ⟨G c.by_,0,none⟩)) U):=λU hb=>by
  have hx:=Cb.of (R.Bx.but hb hX (λe=>h.new (Nat.le_refl _) (by rw [e];exact hncg.2.2)))
  refine⟨cb_ hb (h2.kb 15 _ rfl) hncg.1,cb_ hb (h2.kb 16 _ rfl) hncg.1,hx.c1,hx.c3,?_⟩
  have hm:=S.owns_but hb hli.map hncg.2.1
  obtain⟨v,ps,hrun,hv⟩:=hm.lookup S.law3 underlying85 (S.zero_of infoL U) (zd:=.held (.pointer none)) (zp:=[]) rfl (S.key3 (hf.by64 hby))
  rw [atKey_mapP _ _ _ hks] at hv
  simp only [S.hr,Option.some.injEq,Prod.mk.injEq,DataW.held.injEq] at hv
  rw [hrun,hv.1]
 have H0:=hid (λU (hU:But (λ_=>False) W U)=>HS.o U (hU.mono (λ_ h=>h.elim)))
 have HAl:=hid (λ(U:World) (hU:Below W.heap.size W U)=>M.all_any ((hli.each _ hks).later hU) (hf.len32 hby))
 have HNm:=hid (λ(u1 U:World) (p:Option Addr) (cq:Nat) (hu:Below W.heap.size W u1) (hO:Ow u1 W.heap.size 38 3 p (s.D c.by_).length cq (caps (s.D c.by_))) (hU:Below u1.heap.size u1 U)=>vNamed ((h2.later hu).later hU) ht c.obj need cq ((Ow.rd hO rfl).later hU) (by have:=hf.len32 hby;omega) (hf.wd _ hby) (λ_ k hk e=>by have h1:=(h2.rng k e).2;have h2:=(hO.blk k hk).1;omega))
 have HB:=hid hB
 have HW:=hid hW
 have HN:=hid (λk hk=>h.new (k:=k) hk)
 have HCg:Hid (H.cg<w.heap.size):=(h.rng _ hncg.2.2).2
 obtain⟨Kq,hKq⟩:∃Kq,Kq=L.namG (L.givE s.X s.l need) c.obj (s.D c.by_) 3:=⟨_,rfl⟩
 rw [←hKq] at HNm ⊢
 obtain⟨kn,hkn⟩:∃kn,kn=(s.D c.by_).length:=⟨_,rfl⟩
 obtain⟨Kl,hKl⟩:∃Kl,Kl=caps (s.D c.by_):=⟨_,rfl⟩
 rw [←hkn,←hKl] at HAl HNm
 clear h h2 hB hW ht hX hli hncg hf hby hks hKq hkn hKl
 go_enter func110,ntmps110
 go_upto_region 1 with fail
 rw [←HW.o]
 go_upto_region 3 with fail
 go_cut [7,8] (λ_ s8 U=>s8=.int .i64 Kq.2∧Hid (∃u b,(∃T,Duo u H s T N∧L.Tr s.X s.l T∧But N W u)∧W.heap.size≤b∧But (λk=>k=b) u U))
 case first =>
  go_region_held3 (λU=>U.cell? ⟨H.kb,15,none⟩=some (.map (some H.lg))∧U.cell? ⟨H.kb,16,none⟩=some (.pointer (some ⟨H.v,0,none⟩))∧U.cell? ⟨w.heap.size,1,none⟩=some (.int .i64 c.by_)∧U.cell? ⟨w.heap.size,3,none⟩=some (.int .i64 c.obj)∧(Instr.lookup 85 (.map (some H.lg)) (.int .i64 c.by_) false).run prog U=.ok (.pointer (some ⟨G c.by_,0,none⟩)) U) (first|exact H0.o _ (But.of (Below.refl _ _).drew)|exact H0.o _ (But.of (below1 _ _).drew)|exact H0.o _ (But.of (below1 _ _))|exact HE1.o _ (Below.refl _ _)|exact HE1.o _ (below1 _ _)|exact HE.o _ (But.refl _ _)|exact HE.o _ (But.of (below1 _ _))|exact HE.o _ (L.set3_but (S:=λk=>k=W.heap.size) (b:=W.heap.size) (But.refl _ u_) rfl _)|exact HE.o _ (L.set3_but (S:=λk=>k=u1.heap.size) (b:=u1.heap.size) (But.refl _ u_) rfl _)) (first
   | (go_at_call 73;(with_reducible refine (HAl.o (W.alloc (Obj.cells #[.int .i64 0,.int .u64 0,.int .u64 0] 38)).drew (below1 _ _).drew).mono ?_);rintro e u1 ⟨p1,cq,rfl,hO1,hb1⟩;have HB1:Hid (Below W.heap.size W u1):=b_c (below1 _ _).drew hb1;have HZ1:=hid ((Zb.mk_ W).later hb1);have HE1:=hid (λU (hU:Below u1.heap.size u1 U)=>H0.o U (But.of (b_c HB1.o hU)));have HNa:=hid (λU (hU:Below u1.heap.size u1 U)=>HNm.o u1 U p1 cq HB1.o (hO1.mono (below1 W (Obj.cells #[.int .i64 0,.int .u64 0,.int .u64 0] 38)).size) hU);clear hO1 hb1)
   | (go_at_call 73;(with_reducible refine (HAl.o W.drew (Below.refl _ _).drew).mono ?_);rintro e u1 ⟨p1,cq,rfl,hO1,hb1⟩;have HB1:Hid (Below W.heap.size W u1):=b_c (Below.refl _ _).drew hb1;have HE1:=hid (λU (hU:Below u1.heap.size u1 U)=>H0.o U (But.of (b_c HB1.o hU)));have HNa:=hid (λU (hU:Below u1.heap.size u1 U)=>HNm.o u1 U p1 cq HB1.o hO1 hU);clear hO1 hb1)
   | (go_at_call 161;(with_reducible refine (HNa.o (u1.alloc (Obj.cells #[.int .i64 0,.int .u64 0,.int .u64 0] 38)) (below1 _ _)).mono ?_);rintro e u_ ⟨rfl,T,hd_,ht_,hb_,hb9⟩;have HPs:Hid (∃T,Duo u_ H s T N∧L.Tr s.X s.l T∧But N W u_):=⟨T,hd_,ht_,(But.of (b_c HB1.o (below1 _ _))).trans hb_⟩;have hzc:=(Zb.mk1 u1).but hb9 (λe=>by have:=HB1.o.size;have:=HB.o.size;have:=HCg.o;omega);have HE:=hid (λU (hU:But (λk=>k=u1.heap.size) u_ U)=>HS.o U (((But.of (b_c HB1.o (below1 _ _))).trans hb9).comp hU (λi e=>.inr (by have:=HB1.o.size;omega))));obtain⟨⟨z0,f0⟩,⟨z1,f1⟩,⟨z2,f2⟩⟩:=hzc;clear hd_ ht_ hb_ hb9)
   | (go_at_call 161;have HZ2:=HZ1;(with_reducible refine (HNa.o u1 (Below.refl _ _)).mono ?_);rintro e u_ ⟨rfl,T,hd_,ht_,hb_,hb9⟩;have HPs:Hid (∃T,Duo u_ H s T N∧L.Tr s.X s.l T∧But N W u_):=⟨T,hd_,ht_,(But.of HB1.o).trans hb_⟩;have hzc:=HZ2.o.but hb9 (λe=>by have:=HB.o.size;have:=HCg.o;omega);have HE:=hid (λU (hU:But (λk=>k=W.heap.size) u_ U)=>HS.o U (((But.of HB1.o).trans hb9).comp hU (λi e=>.inr (by omega))));obtain⟨⟨z0,f0⟩,⟨z1,f1⟩,⟨z2,f2⟩⟩:=hzc;clear hd_ ht_ hb_ hb9)
   | (go_at_call 161;(with_reducible refine (HNa.o u1 (Below.refl _ _)).mono ?_);rintro e u_ ⟨rfl,T,hd_,ht_,hb_,hb9⟩;have HPs:Hid (∃T,Duo u_ H s T N∧L.Tr s.X s.l T∧But N W u_):=⟨T,hd_,ht_,(But.of HB1.o).trans hb_⟩;have HBt:Hid (But (λk=>k=H.cg) W u_):=(But.of HB1.o).trans hb9;have HE:=hid (λU (hU:But (λk=>k=u_.heap.size) u_ U)=>HS.o U (HBt.o.comp hU (λi e=>.inr (by have:=HBt.o.size;omega))));clear hd_ ht_ hb_ hb9))
  all_goals (try go_wp2)
  all_goals go_meet
  all_goals (first|exact⟨rfl,u_,W.heap.size,HPs.o,Nat.le_refl _,L.set3_but (S:=λk=>k=W.heap.size) (b:=W.heap.size) (But.refl _ u_) rfl Kq.1⟩|exact⟨rfl,u_,u1.heap.size,HPs.o,HB1.o.size,L.set3_but (S:=λk=>k=u1.heap.size) (b:=u1.heap.size) (But.refl _ u_) rfl Kq.1⟩|exact⟨rfl,u_,u_.heap.size,HPs.o,HBt.o.size,But.of (below1 _ _)⟩)
 case rest =>
 rename World=>v
 obtain⟨rfl,HR⟩:=hcut
 obtain⟨u,b,⟨T,hd3,ht3,hb3⟩,hlo,hv⟩:=HR.o
 have hsz:=HB.o.size
 have HDv:=hid (hd3.but hv (λk hk e=>HN.o k (by omega) hk) (λe=>by have:=HCg.o;omega))
 have HBv:Hid (But N W v):=hb3.comp hv (λi e=>.inr (by omega))
 have HTv:=hid ht3
 clear hlo hd3 hb3 hv hsz HR ht3
 go_wp2
 go_ret
 exact⟨rfl,T,HDv.o,HTv.o,(But.of HB.o).trans HBv.o⟩
end
end Go.Proofs.YtfmhdimaijimlaaGreatDoor.V
