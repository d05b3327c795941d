import Derived.Test.YtfmhdimaijimlaaGreatDoorZ28
set_option linter.all false
set_option maxRecDepth 1000000
set_option maxHeartbeats 8000000
open Go.Proofs.Tryz
variable {bM kC KC KD KE KG KH KI KJ KK KM KN KO KP KQ KR KS KT KU KV KW KX KY KZ K0 K1 K2 K3 K4 K5 K6 K7 K8 K9 K_ La Lc Ld Le Lf Lg Lh Lj Lk Ll Lm Ln Lo Lp Lq Ls Lt Lu Lv Lw Lx Ly Lz LA LB LC LD LF LG LH LI LJ LK LL LM LN LO LP LQ LR LS LU LV LW LX LY LZ L3 L5 L6 L7 L8 L9 L_ Ma Mb Mc Md Me Mf Mg Mh Mi Mj Ml Mm Mn Mo Mq Mr Ms Mt Mu Mv Mw Mx My Mz MA MB MC MD ME MF MG MH MI MJ MK ML MM MN MO MP MQ MR MS MT MU MV MW MX MY MZ M0 M1 M4 M5 M6 M7 M8 M9 M_ Na Nb Nc Nf Ng Nh Ni Nj Nk Nl Nm Nn No Np Nq Nr Ns Nt Nu Nv Nw Nx Ny Nz NA NB NC ND NF NG NH NI NJ NK NL NM NN NO NP NQ NR NS NT NU NV NW NX NY NZ N5 N7 N8 N_ Oa Oc Od Oe Of Og Oh Oi Oj Ol Om On Oo Oq Ot Ou Ov Ox Oy Oz OA OB OC OD OE OF OG OH OI OJ OK OL OM ON OO OQ OS OT OU OV OW OX OY OZ O0 O1 O2 O3 O4 O5 O6 O7 O8 O9 O_ Pb Pc Pd Pf Pg Ph:Go.Value}
variable {w w' w1 w2:Go.World}{n m k i j b g base kn:Nat}{a:Option Go.Addr}
namespace Go.Proofs.YtfmhdimaijimlaaGreatDoor.V
open Go.RowKit
open Go.Proofs.YtfmhdimaijimlaaGreatDoor.H (ak Cp)
section
variable {p:Pm}{s:aI}
theorem g_ (X:List Tk)(l:Fo)(need o:Int):∀(K:List Cp) (e:Int),(e=3\/e=4)->(L.ct (L.bV X l need) o K e).2=3\/(L.ct (L.bV X l need) o K e).2=4\/(L.ct (L.bV X l need) o K e).2=0
 | [],e,h=>h.elim .inl (λh=>.inr (.inl h))
 | c::r,e,h=>by
  unfold L.ct
  split
  ·exact g_ X l need o r e h
  ·split
   ·exact .inr (.inr rfl)
   ·split
    ·exact g_ X l need o r 4 (.inr rfl)
    ·exact g_ X l need o r e h
theorem nT (s:aI)(g:Bool)(b:Int)(c:Cp)(need:Int):cF s g b c need=3\/cF s g b c need=4\/cF s g b c need=0:=by
 unfold cF
 split
 ·rcases L.eA s.X s.l need c with ⟨_,h⟩|⟨_,_,h⟩|⟨_,_,h⟩
  ·exact .inl h
  ·exact .inr (.inl h)
  ·exact .inr (.inr h)
 ·exact g_ _ _ _ _ _ _ (.inl rfl)
end
section
variable {p:Pm}{s:aI}{m:Nat}{X:List Tk}{l:Fo}
def Hi (X:List Tk)(l:Fo)(o:Int):List Int:=match rootOf X l o with
 | some r=>G true l r
 | none=>[]
def nl (X:List Tk)(l:Fo)(ids:List Int):List Int:=ids.flatMap (Hi X l)
theorem vI {o r:Int}(h:rootOf X l o=some r):(r,-1)∈l/\ob X r=o:=by
 unfold rootOf at h
 have:=List.find?_some h
 simpa using this
theorem vg (h:Inv m X l){o y:Int}:y∈Hi X l o↔y∈ah l/\ob X y=o:=by
 unfold Hi
 cases hr:rootOf X l o with
 | some r =>
  obtain⟨h1,h2⟩:=vI hr
  show y∈G true l r↔_
  rw [h.qd h1,h2]
 | none =>
  refine⟨λh=>by simp at h,λ⟨h1,h2⟩=>?_⟩
  obtain⟨r,h3,h4,_⟩:=h.mH y h1
  have h5:=gu h h3
  rw [h4,h2,hr] at h5
  cases h5
structure Tl (X:List Tk)(l:Fo)(T:List Tok)(A:List Int):Prop where
 len:T.length=A.length
 at_:∀(j:Nat) (y:Int),A[j]?=some y->y∈ah l/\∃q:Int,T[j]?=some ((tk X y).1,rg X y,q)/\((q=-1/\par l y=-1)\/∃k:Nat,k<j/\q=(k:Int)/\A[k]?=some (par l y))
theorem Tl.nil (X:List Tk)(l:Fo):Tl X l [] []:=⟨rfl,λj y h=>by simp at h⟩
theorem Tl.obj (h:Inv m X l)(o:Int):Tl X l (pN m X l o) (Hi X l o):=by
 unfold pN Hi
 cases hr:rootOf X l o with
 | none=>exact Tl.nil _ _
 | some r =>
  obtain⟨h1,h2⟩:=vI hr
  have sp:=(qM (X:=X) h.ok h1 _ (Nat.le_refl _)).2
  rw [List.take_length] at sp
  refine⟨e_ X l m _,λj y hy=>⟨dK h.ok (List.mem_of_getElem? hy),?_⟩⟩
  obtain⟨q,h3,h4⟩:=sp j y (gS.1 hy).1 hy
  refine⟨q,h3,?_⟩
  rcases h4 with ⟨_,h5,h6⟩|⟨_,k,h5,h6,h7⟩
  ·exact .inl ⟨h5,h6⟩
  ·exact .inr ⟨k,h5,h6,h7⟩
theorem Tl.app {T O:List Tok}{A B:List Int}(h:Tl X l T A)(k:Tl X l O B):Tl X l (T++O.map (vv T.length)) (A++B):=by
 refine⟨by simp [h.len,k.len],λj y hy=>?_⟩
 by_cases hj:j<A.length
 ·rw [List.getElem?_append_left hj] at hy
  obtain⟨h1,q,h2,h3⟩:=h.at_ j y hy
  refine⟨h1,q,by rw [List.getElem?_append_left (by rw [h.len];exact hj)];exact h2,?_⟩
  rcases h3 with h3|⟨i,h4,h5,h6⟩
  ·exact .inl h3
  ·exact .inr ⟨i,h4,h5,by rw [List.getElem?_append_left (by omega)];exact h6⟩
 ·rw [List.getElem?_append_right (by omega)] at hy
  obtain⟨h1,q,h2,h3⟩:=k.at_ _ y hy
  refine⟨h1,(vv T.length ((tk X y).1,rg X y,q)).2.2,?_,?_⟩
  ·rw [List.getElem?_append_right (by rw [h.len];omega),h.len,List.getElem?_map,h2]
   rfl
  ·rcases h3 with ⟨h4,h5⟩|⟨i,h4,h5,h6⟩
   ·exact .inl ⟨by simp [vv,h4],h5⟩
   ·refine .inr ⟨A.length+i,by omega,?_,?_⟩
    ·simp only [vv,h5,h.len]
     rw [if_neg (by omega)]
     omega
    ·rw [List.getElem?_append_right (by omega),Nat.add_sub_cancel_left]
     exact h6
theorem Tl.all (h:Inv m X l):∀ids:List Int,Tl X l (lP m X l ids) (nl X l ids):=by
 intro ids
 unfold lP nl
 suffices ∀(ids:List Int) (T:List Tok) (A:List Int),Tl X l T A->Tl X l (ids.foldl (jW m X l) T) (A++ids.flatMap (Hi X l)) by
  have:=this ids [] [] (Tl.nil _ _)
  rwa [List.nil_append] at this
 intro ids
 induction ids with
 | nil=>intro T A hT;simpa using hT
 | cons o ids ih =>
  intro T A hT
  rw [List.foldl_cons,List.flatMap_cons,<-List.append_assoc]
  exact ih _ _ (hT.app (Tl.obj h o))
theorem FR (h:Inv m X l){ids:List Int}{y:Int}:y∈nl X l ids↔y∈ah l/\ob X y∈ids:=by
 unfold nl
 rw [List.mem_flatMap]
 constructor
 ·rintro ⟨o,ho,hy⟩
  obtain⟨h1,h2⟩:=(vg h).1 hy
  exact⟨h1,by rw [h2];exact ho⟩
 ·rintro ⟨h1,h2⟩
  exact⟨_,h2,(vg h).2 ⟨h1,rfl⟩⟩
theorem Hf (h:Fit m s){y:Int}:y∈nl s.X s.l (s.V.map Prod.fst)↔y∈ah s.l:=by
 rw [FR h.inv]
 refine⟨λh=>h.1,λhy=>⟨hy,?_⟩⟩
 obtain⟨q,hq,e⟩:=(h.obj (ob s.X y)).2 (eh.2 ⟨y,hy,rfl⟩)
 exact List.mem_map.2 ⟨q,hq,e⟩
theorem Ct (h:Fit m s)(c:Cp)(need:Int):(∃t∈lP m s.X s.l (s.V.map Prod.fst),t.1=c/\aA need t.2.1=true)↔(aK s.X s.l c=true/\aA need (L.eV s.X s.l c)=true):=by
 have hT:=Tl.all h.inv (s.V.map Prod.fst)
 constructor
 ·rintro ⟨t,ht,e1,e2⟩
  obtain⟨j,hj⟩:=List.mem_iff_getElem?.1 ht
  have hl:=(gS.1 hj).1
  obtain⟨y,hy⟩:∃y,(nl s.X s.l (s.V.map Prod.fst))[j]?=some y:=⟨_,gE (by rw [<-hT.len];exact hl)⟩
  obtain⟨h1,q,h2,_⟩:=hT.at_ j y hy
  rw [hj] at h2
  cases h2
  simp only at e1 e2
  have hc:aK s.X s.l c=true:=bB.2 ⟨y,h1,e1⟩
  refine⟨hc,?_⟩
  have:aB s.X s.l c=y:=by rw [<-e1];exact dC h.inv h1
  unfold L.eV
  rw [this]
  exact e2
 ·rintro ⟨hc,hp⟩
  obtain⟨y,hy,e⟩:=bB.1 hc
  have hm:=(Hf h).2 hy
  obtain⟨j,hj⟩:=List.mem_iff_getElem?.1 hm
  obtain⟨_,q,h2,_⟩:=hT.at_ j y hj
  refine⟨_,List.mem_of_getElem? h2,e,?_⟩
  have:aB s.X s.l c=y:=by rw [<-e];exact dC h.inv hy
  unfold L.eV at hp
  rw [this] at hp
  exact hp
end
section
variable {p:Pm}{s:aI}{m:Nat}
theorem jd (g:Cp->Int)(o:Int):∀(K:List Cp) (e:Int),e≠0->((L.ct g o K e).2=0↔∃c∈K,c.1=o/\g c=0)
 | [],e,h=>by simp [L.ct,h]
 | c::r,e,h=>by
  unfold L.ct
  by_cases h1:c.1≠o
  ·rw [if_pos h1,jd g o r e h]
   constructor
   ·rintro ⟨x,hx,h2⟩;exact⟨x,List.mem_cons_of_mem _ hx,h2⟩
   ·rintro ⟨x,hx,h2⟩
    rcases List.mem_cons.1 hx with rfl|hx
    ·exact absurd h2.1 h1
    ·exact⟨x,hx,h2⟩
  ·rw [if_neg h1]
   by_cases h2:g c=0
   ·rw [if_pos h2]
    exact⟨λ_=>⟨c,List.mem_cons_self ..,Decidable.not_not.1 h1,h2⟩,λ_=>rfl⟩
   ·have key:∀e':Int,e'≠0->((L.ct g o r e').2=0↔∃x∈c::r,x.1=o/\g x=0):=λe' h'=>by
     rw [jd g o r e' h']
     constructor
     ·rintro ⟨x,hx,h3⟩;exact⟨x,List.mem_cons_of_mem _ hx,h3⟩
     ·rintro ⟨x,hx,h3⟩
      rcases List.mem_cons.1 hx with rfl|hx
      ·exact absurd h3.2 h2
      ·exact⟨x,hx,h3⟩
    rw [if_neg h2]
    split
    ·exact key 4 (by decide)
    ·exact key e h
def kv (o need:Int)(c:Cp)(t:Tok):Bool:=decide (c.1=o)&&(decide (t.1=c)&&(bits .and .i64 t.2.1 need != 0))
def dL (o need:Int)(T:List Tok)(K:List Cp):Bool:=K.any (λc=>T.any (kv o need c))
theorem qq {r need:Int}(hr:1<=r/\r<=31)(hn:need=1\/need=2):(bits .and .i64 r need != 0)=aA need r:=by
 have key:∀k:Fin 31,(bits .and .i64 ((k.1:Int)+1) 1 != 0)=aA 1 ((k.1:Int)+1)/\(bits .and .i64 ((k.1:Int)+1) 2 != 0)=aA 2 ((k.1:Int)+1):=by decide +kernel
 have e:r=(((r - 1).toNat:Nat):Int)+1:=by omega
 have:=key ⟨(r - 1).toNat,by omega⟩
 rw [e]
 rcases hn with rfl|rfl
 ·exact this.1
 ·exact this.2
theorem mg (h:Fit m s){t:Tok}(ht:t∈lP m s.X s.l (s.V.map Prod.fst)):1<=t.2.1/\t.2.1<=31:=by
 have hT:=Tl.all h.inv (s.V.map Prod.fst)
 obtain⟨j,hj⟩:=List.mem_iff_getElem?.1 ht
 have hl:=(gS.1 hj).1
 obtain⟨y,hy⟩:∃y,(nl s.X s.l (s.V.map Prod.fst))[j]?=some y:=⟨_,gE (by rw [<-hT.len];exact hl)⟩
 obtain⟨h1,q,h2,_⟩:=hT.at_ j y hy
 rw [hj] at h2
 cases h2
 exact mC.1 (h.inv.val y h1)
theorem C_ (h:Fit m s){o need:Int}(hn:need=1\/need=2)(K:List Cp):dL o need (lP m s.X s.l (s.V.map Prod.fst)) K=true↔∃c∈K,c.1=o/\L.bV s.X s.l need c=0:=by
 unfold dL
 simp only [List.any_eq_true]
 have key:∀c,(∃t∈lP m s.X s.l (s.V.map Prod.fst),kv o need c t=true)↔c.1=o/\L.bV s.X s.l need c=0:=λc=>by
  have h1:=Ct h c need
  have h2:L.bV s.X s.l need c=0↔(aK s.X s.l c=true/\aA need (L.eV s.X s.l c)=true):=by
   rcases L.eA s.X s.l need c with ⟨a,b⟩|⟨a,a',b⟩|⟨a,a',b⟩
   ·rw [a,b];simp
   ·rw [a,a',b];simp
   ·rw [a,a',b];simp
  rw [h2,<-h1]
  constructor
  ·rintro ⟨t,ht,h3⟩
   unfold kv at h3
   simp only [Bool.and_eq_true,decide_eq_true_eq] at h3
   exact⟨h3.1,t,ht,h3.2.1,by rw [<-qq (mg h ht) hn];exact h3.2.2⟩
  ·rintro ⟨h3,t,ht,h4,h5⟩
   refine⟨t,ht,?_⟩
   unfold kv
   simp only [Bool.and_eq_true,decide_eq_true_eq]
   exact⟨h3,h4,by rw [qq (mg h ht) hn];exact h5⟩
 constructor
 ·rintro ⟨c,hc,h1⟩;exact⟨c,hc,(key c).1 h1⟩
 ·rintro ⟨c,hc,h1⟩;exact⟨c,hc,(key c).2 h1⟩
def qH (s:aI)(c:R.Cl):List Cp:=if c.given then [bG c] else s.D c.au
theorem kJ (h:Fit m s)(c:R.Cl){need:Int}(hn:need=1\/need=2):dL c.obj need (lP m s.X s.l (s.V.map Prod.fst)) (qH s c)=true↔cF s c.given c.au (bG c) need=0:=by
 rw [C_ h hn]
 unfold cF qH
 cases c.given with
 | true =>
  simp only [if_true,List.mem_singleton]
  constructor
  ·rintro ⟨x,rfl,_,h1⟩;exact h1
  ·intro h1;exact⟨_,rfl,rfl,h1⟩
 | false =>
  simp only [Bool.false_eq_true,if_false]
  rw [jd _ _ _ _ (by decide)]
  rfl
structure FC (p:Pm)(m:Nat)(s:aI)(c:R.Cl)(need k:Int):Prop where
 no:dL c.obj need (eE m s).T (qH s c)=false->(fU p s c).1.code=3\/(fU p s c).1.code=4
 yes:dL c.obj need (eE m s).T (qH s c)=true->∃l,S.kO s.V c.obj=some l/\(fU p s c).1.code=(if 0<=c.off/\0<=k/\k<=1024/\c.off+k<=(l.length:Int) then 0 else 5)
theorem pG {c:R.Cl}(h1:(fU p s c).1.code≠1)(h2:(fU p s c).1.code≠2):fU p s c=fX p s c/\c.au∈s.P:=by
 unfold fU at h1 h2 ⊢
 by_cases g1:R.fm c=false
 ·rw [if_pos g1] at h1;exact absurd rfl h1
 ·rw [if_neg g1] at h1 h2 ⊢
  by_cases g2:s.P.contains c.au=false
  ·rw [if_pos g2] at h2;exact absurd rfl h2
  ·rw [if_neg g2]
   exact⟨rfl,by simpa using g2⟩
theorem zN (hv:∀v∈s.V,S.kO s.V v.1=some v.2)(h:Fit m s){o:Int}(ho:dB s.X s.l o=true):∃l,S.kO s.V o=some l/\(o,l)∈s.V:=by
 obtain⟨q,hq,e⟩:=(h.obj o).2 ho
 obtain⟨a,b⟩:=q
 simp only at e
 subst e
 exact⟨b,hv _ hq,hq⟩
theorem vK {g:Bool}{au:Int}{c:Cp}{need:Int}(h:cF s g au c need=0):dB s.X s.l c.1=true:=by
 unfold cF at h
 have key:∀c',L.bV s.X s.l need c'=0->aK s.X s.l c'=true:=λc' h=>by
  rcases L.eA s.X s.l need c' with ⟨a,b⟩|⟨a,a',b⟩|⟨a,a',b⟩
  ·rw [b] at h;cases h
  ·rw [b] at h;cases h
  ·exact a
 cases g with
 | true=>exact cM (key c h)
 | false =>
  simp only [Bool.false_eq_true,if_false] at h
  rw [jd _ _ _ _ (by decide)] at h
  obtain⟨x,_,h1,h2⟩:=h
  rw [<-h1]
  exact cM (key x h2)
theorem BZ {V:List (Int×List Nat)}{o off k:Int}{l:List Nat}(h:S.kO V o=some l):S.sl V o off k=if 0<=off/\0<=k/\k<=1024/\off+k<=(l.length:Int) then 0 else 5:=by unfold S.sl;rw [h]
theorem GC {V:List (Int×List Nat)}{o off k:Int}{l:List Nat}(h:S.kO V o=some l)(hc:0<=off/\0<=k/\k<=1024/\off+k<=(l.length:Int)):S.xj V o off k=(l.drop off.toNat).take k.toNat:=by unfold S.xj;rw [h];simp only [if_pos hc]
theorem Bp (hv:∀v∈s.V,S.kO s.V v.1=some v.2)(h:Fit m s)(c:R.Cl)(ho:c.op=5)(h1:(fU p s c).1.code≠1)(h2:(fU p s c).1.code≠2) :
  FC p m s c 1 c.n/\(fU p s c).2=s/\∀l,S.kO s.V c.obj=some l->(fU p s c).1.code=0->(0<=c.off/\0<=c.n/\c.n<=1024/\c.off+c.n<=(l.length:Int))->(fU p s c).1.data=(l.drop c.off.toNat).take c.n.toNat:=by
 have hd:=(pG h1 h2).1
 have e:fX p s c=k8 s c.given c.au (bG c) c.off c.n:=by unfold fX;rw [if_neg (by omega),if_neg (by omega),if_neg (by omega),if_neg (by omega),if_pos ho]
 rw [e] at hd
 have hs:(eE m s).T=lP m s.X s.l (s.V.map Prod.fst):=rfl
 refine⟨⟨λhz=>?_,λhz=>?_⟩,?_,λl hl hc hr=>?_⟩
 ·rw [hs] at hz
  have hne:cF s c.given c.au (bG c) 1≠0:=λe=>by rw [(kJ h c (.inl rfl)).2 e] at hz;cases hz
  rw [hd];unfold k8;rw [if_pos hne]
  rcases nT s c.given c.au (bG c) 1 with h|h|h
  ·exact .inl h
  ·exact .inr h
  ·exact absurd h hne
 ·rw [hs] at hz
  have hz0:=(kJ h c (.inl rfl)).1 hz
  obtain⟨l,hl,_⟩:=zN hv h (vK hz0)
  refine⟨l,hl,?_⟩
  rw [hd];unfold k8;rw [if_neg (by simpa using hz0)]
  exact BZ hl
 ·rw [hd];unfold k8;split<;>rfl
 ·rw [hd] at hc ⊢
  unfold k8 at hc ⊢
  by_cases hne:cF s c.given c.au (bG c) 1≠0
  ·rw [if_pos hne] at hc;exact absurd hc hne
  ·rw [if_neg hne]
   exact GC hl hr
theorem vR (hv:∀v∈s.V,S.kO s.V v.1=some v.2)(h:Fit m s)(c:R.Cl)(ho:c.op=6)(h1:(fU p s c).1.code≠1)(h2:(fU p s c).1.code≠2) :
  FC p m s c 2 (c.data.length:Int)/\((fU p s c).1.code=0->(fU p s c).2={ s with V:=s.V.map (S.iH c.obj c.off.toNat c.data) }):=by
 have hd:=(pG h1 h2).1
 have e:fX p s c=jR s c.given c.au (bG c) c.off c.data:=by unfold fX;rw [if_neg (by omega),if_neg (by omega),if_neg (by omega),if_neg (by omega),if_neg (by omega),if_pos ho]
 rw [e] at hd
 have hs:(eE m s).T=lP m s.X s.l (s.V.map Prod.fst):=rfl
 refine⟨⟨λhz=>?_,λhz=>?_⟩,λhc=>?_⟩
 ·rw [hs] at hz
  have hne:cF s c.given c.au (bG c) 2≠0:=λe=>by rw [(kJ h c (.inr rfl)).2 e] at hz;cases hz
  rw [hd];unfold jR;rw [if_pos hne]
  rcases nT s c.given c.au (bG c) 2 with h|h|h
  ·exact .inl h
  ·exact .inr h
  ·exact absurd h hne
 ·rw [hs] at hz
  have hz0:=(kJ h c (.inr rfl)).1 hz
  obtain⟨l,hl,_⟩:=zN hv h (vK hz0)
  refine⟨l,hl,?_⟩
  rw [hd];unfold jR;rw [if_neg (by simpa using hz0)]
  exact BZ hl
 ·rw [hd] at hc ⊢
  unfold jR at hc ⊢
  by_cases hne:cF s c.given c.au (bG c) 2≠0
  ·rw [if_pos hne] at hc;exact absurd hc hne
  ·rw [if_neg hne] at hc ⊢
   have hc':S.sl s.V (bG c).1 c.off (c.data.length:Int)=0:=hc
   show ({ s with V:=S.yu s.V (bG c).1 c.off c.data }:aI)=_
   unfold S.yu
   rw [if_pos hc']
   rfl
end
section
variable {w w':World}{m:Nat}{X:List Tk}{l:Fo}
theorem Hl {T:List Tok}(h:Fl w a (eF T)){t:Tok}(ht:T[j]?=some t):∃g,a=some ⟨g,0,none⟩/\w.cell? ⟨g,j*5,none⟩=some (.int .i64 t.1.1)/\w.cell? ⟨g,j*5+1,none⟩=some (.int .u64 (t.1.2.1:Int))/\w.cell? ⟨g,j*5+2,none⟩=some (.int .u64 (t.1.2.2:Int))/\w.cell? ⟨g,j*5+3,none⟩=some (.int .i64 t.2.1)/\w.cell? ⟨g,j*5+4,none⟩=some (.int .i64 t.2.2):=by
 have hj:=(gS.1 ht).1
 obtain⟨g,rfl,hc⟩:=h (by rw [gZ];omega)
 exact⟨g,rfl,hc _ _ (pA T j t ht 0 (by omega)),hc _ _ (pA T j t ht 1 (by omega)),hc _ _ (pA T j t ht 2 (by omega)),hc _ _ (pA T j t ht 3 (by omega)),hc _ _ (pA T j t ht 4 (by omega))⟩
end
open Go.Proofs.YtfmhdimaijimlaaGreatDoor.M (bh)
section
variable {w w':World}
def Ic (w:World)(H:Hd)(n:Nat)(v:Value)(U:World):Prop:=∃(i:Nat) (s:aI) (N:Nat->Prop),v=.int .i64 (i:Int)/\i<=n/\Kn U H s N/\(∀k,N k->w.heap.size<=k)/\Below w.heap.size w U
theorem Kf {a1:Option Addr}{n1 c1:Nat}{a2:Option Addr}{n2 c2:Nat}{a3:Option Addr}{n3 c3:Nat}{x y z:Int}(h:R.Bx w b (stM a1 n1 c1 a2 n2 c2 a3 n3 c3 x y z)):(Instr.loadAt 53 (.pointer (some ⟨b,0,none⟩))).run prog w=.ok (Eb a1 n1 c1 a2 n2 c2 a3 n3 c3 x y z) w:=by
 have:=run_loadVar_mid (P:=prog) w b 0 53 (stM a1 n1 c1 a2 n2 c2 a3 n3 c3 x y z) _ h.range underlying53 rfl (by rw [Bg];rfl)
 simp [Instr.loadAt,Instr.sureAddr,this,stM]
theorem aH.low {N N':Nat->Prop}(h:aH w N w' N')(hN:∀k,N k->b<=k)(hb:b<=w.heap.size):∀k,N' k->b<=k:=λk hk=>by
 rcases h.1 k hk with h1|h1
 ·exact hN k h1
 ·omega
end
def pR:Code->Code
 | .seq _ b=>b
 | c=>c
def pL:Code->Code
 | .seq a _=>a
 | c=>c
def pI:Code->Code
 | .block _ c=>c
 | .loop c=>c
 | .scope c=>c
 | .cond _ a _=>a
 | c=>c
def rs:Nat->Code->Code
 | 0,c=>c
 | n+1,.seq _ b=>rs n b
 | _+1,c=>c
def kF (b:Option Code):Code:=pI (pL (pR (pI (pI (pR (pL (rs 3 (b.getD .skip))))))))
theorem any_succ {α:Type}{T:List α}{f:α->Bool}{t:α}(h:T[j]?=some t):(T.take (j+1)).any f=((T.take j).any f||f t):=by
 obtain⟨hj,e⟩:=gS.1 h
 rw [List.take_succ_eq_append_getElem hj,List.any_append,e]
 simp
def aN {α:Type}(b:Int)(L:List (Int×List α)):List α:=L.foldl (λK q=>if q.1=b then q.2 else K) []
theorem ns {α:Type}{b:Int}{L:List (Int×List α)}{q:Int×List α}(h:L[j]?=some q):aN b (L.take (j+1))=if q.1=b then q.2 else aN b (L.take j):=by
 obtain⟨hj,e⟩:=gS.1 h
 unfold aN
 rw [List.take_succ_eq_append_getElem hj,List.foldl_append,e]
 rfl
theorem BA (b:Int)(D:Int->List Cp)(P:List Int)(h:b∈P):aN b (P.map (λi=>(i,D i)))=D b:=by
 have key:∀(P:List Int) (K:List Cp),(b∈P\/K=D b)->(P.map (λi=>(i,D i))).foldl (λK q=>if q.1=b then q.2 else K) K=D b:=by
  intro P
  induction P with
  | nil =>
   intro K h
   rcases h with h|h
   ·cases h
   ·exact h
  | cons i r ih =>
   intro K h
   simp only [List.map_cons,List.foldl_cons]
   refine ih _ ?_
   by_cases e:i=b
   ·right;rw [if_pos e,e]
   ·rw [if_neg e]
    rcases h with h|h
    ·rcases List.mem_cons.1 h with h|h
     ·exact absurd h.symm e
     ·exact .inl h
    ·exact .inr h
 exact key P [] (.inl h)
structure Sb (U:World)(p:Ps)(bw bc br:Nat)(cl:R.Cl)(dd gg:R.Sl)(r:cU)(ra:Option Addr)(rn rc:Nat)(a1:Option Addr)(e1:Nat)(Q1:List Ev)(a2:Option Addr)(e2:Nat)(a3:Option Addr)(e3:Nat)(Q3:List Ev):Prop where
 Jn:R.Bx U bw (stM a1 p.O.length e1 a2 p.T.length e2 a3 p.P.length e3 p.nx p.px p.t)
 call:R.Bx U bc (R.cC cl dd gg)
 rep:R.Bx U br (fK r ra rn rc)
 lw:ng U p a1 Q1 a2 a3 Q3
def Ke (y4:World)(P:List (Int×List Cp))(b:Int)(KO KP:Value)(U:World):Prop:=∃(j k:Nat) (a:Option Addr) (cap:Nat),KO=.slice a k cap/\KP=.int .i64 (j:Int)/\j<=P.length/\Hid (k=(aN b (P.take j)).length)/\Hid (Fl U a (az (aN b (P.take j))))/\Hid (Below y4.heap.size y4 U)
def J9 (y4:World)(O:List (Int×List Nat))(b:Int)(Q1:List Ev)(KV KW:Value)(U:World):Prop:=∃(j k:Nat) (a:Option Addr) (cap:Nat),KV=.slice a k cap/\KW=.int .i64 (j:Int)/\j<=O.length/\Hid (k=(aN b (O.take j)).length)/\Hid ((a=none/\k=0/\∀v∈O.take j,v.1≠b)\/∃e∈Q1,e.id=b/\e.a=a/\e.len=k/\e.cap=cap/\e.vs=S.aM (aN b (O.take j)))/\Hid (Below y4.heap.size y4 U)
theorem wK {Qx:Exit->Act->World->Prop}{p:Ps}{cl:R.Cl}{dd gg:R.Sl}{r:cU}{ra:Option Addr}{rn rc:Nat}{y4:World}{bw bc br:Nat}{a1:Option Addr}{e1:Nat}{Q1:List Ev}{a2:Option Addr}{e2:Nat}{a3:Option Addr}{e3:Nat}{Q3:List Ev}
  (hSB:∀U,Below y4.heap.size y4 U->Sb U p bw bc br cl dd gg r ra rn rc a1 e1 Q1 a2 e2 a3 e3 Q3) (hsm:p.Small)
  (hK:∀(a:Option Addr) (cap:Nat) (w':World),Fl w' a (az (aN cl.au p.P))/\Below y4.heap.size y4 w'->∀(KP LW LX LY LZ L3 L5 L6 L7 L8 L9 L_ Ma Mb Mc Md Me Mf Mg Mh Mi Mj Ml:Value),Qx .normal ⟨List.toArray (bM::kC::KC::KD::KE::KG::KH::KI::KJ::KK::.pointer (some ⟨bc,0,none⟩)::.pointer (some ⟨bw,0,none⟩)::KN::.slice a (aN cl.au p.P).length cap::KP::KQ::KR::KS::KT::KU::KV::KW::KX::KY::KZ::K0::K1::K2::K3::K4::K5::K6::K7::K8::K9::K_::La::Lc::Ld::Le::Lf::Lg::Lh::Lj::Lk::Ll::Lm::Ln::Lo::Lp::Lq::Ls::Lt::Lu::Lv::Lw::Lx::Ly::Lz::LA::LB::LC::LD::LF::LG::LH::LI::LJ::LK::LL::LM::LN::LO::LP::LQ::LR::LS::LU::LV::LW::LX::LY::LZ::L3::L5::L6::L7::L8::L9::L_::Ma::Mb::Mc::Md::Me::Mf::Mg::Mh::Mi::Mj::Ml::Mm::Mn::Mo::Mq::Mr::Ms::Mt::Mu::Mv::Mw::Mx::My::Mz::MA::MB::MC::MD::ME::MF::MG::MH::MI::MJ::MK::ML::MM::MN::MO::MP::MQ::MR::MS::MT::MU::MV::MW::MX::MY::MZ::M0::M1::M4::M5::M6::M7::M8::M9::M_::Na::Nb::Nc::Nf::Ng::Nh::Ni::Nj::Nk::Nl::Nm::Nn::No::Np::Nq::Nr::Ns::Nt::Nu::Nv::Nw::Nx::Ny::Nz::NA::NB::NC::ND::NF::NG::NH::NI::NJ::NK::NL::NM::NN::NO::NP::NQ::NR::NS::NT::NU::NV::NW::NX::NY::NZ::N5::N7::N8::N_::Oa::Oc::Od::Oe::Of::Og::Oh::Oi::Oj::Ol::Om::On::Oo::Oq::Ot::Ou::Ov::Ox::Oy::Oz::OA::OB::OC::OD::OE::OF::OG::OH::OI::OJ::OK::OL::OM::ON::OO::OQ::OS::OT::OU::OV::OW::OX::OY::OZ::O0::O1::O2::O3::O4::O5::O6::O7::O8::O9::O_::Pb::Pc::Pd::Pf::Pg::Ph::[]),[]⟩ w') :
  Code.wp prog (pR (pL (rs 5 (kF Tryz.f4.body)))) Qx ⟨List.toArray (bM::kC::KC::KD::KE::KG::KH::KI::KJ::KK::.pointer (some ⟨bc,0,none⟩)::.pointer (some ⟨bw,0,none⟩)::KN::.slice none 0 0::.int .i64 0::KQ::KR::KS::KT::KU::KV::KW::KX::KY::KZ::K0::K1::K2::K3::K4::K5::K6::K7::K8::K9::K_::La::Lc::Ld::Le::Lf::Lg::Lh::Lj::Lk::Ll::Lm::Ln::Lo::Lp::Lq::Ls::Lt::Lu::Lv::Lw::Lx::Ly::Lz::LA::LB::LC::LD::LF::LG::LH::LI::LJ::LK::LL::LM::LN::LO::LP::LQ::LR::LS::LU::LV::LW::LX::LY::LZ::L3::L5::L6::L7::L8::L9::L_::Ma::Mb::Mc::Md::Me::Mf::Mg::Mh::Mi::Mj::Ml::Mm::Mn::Mo::Mq::Mr::Ms::Mt::Mu::Mv::Mw::Mx::My::Mz::MA::MB::MC::MD::ME::MF::MG::MH::MI::MJ::MK::ML::MM::MN::MO::MP::MQ::MR::MS::MT::MU::MV::MW::MX::MY::MZ::M0::M1::M4::M5::M6::M7::M8::M9::M_::Na::Nb::Nc::Nf::Ng::Nh::Ni::Nj::Nk::Nl::Nm::Nn::No::Np::Nq::Nr::Ns::Nt::Nu::Nv::Nw::Nx::Ny::Nz::NA::NB::NC::ND::NF::NG::NH::NI::NJ::NK::NL::NM::NN::NO::NP::NQ::NR::NS::NT::NU::NV::NW::NX::NY::NZ::N5::N7::N8::N_::Oa::Oc::Od::Oe::Of::Og::Oh::Oi::Oj::Ol::Om::On::Oo::Oq::Ot::Ou::Ov::Ox::Oy::Oz::OA::OB::OC::OD::OE::OF::OG::OH::OI::OJ::OK::OL::OM::ON::OO::OQ::OS::OT::OU::OV::OW::OX::OY::OZ::O0::O1::O2::O3::O4::O5::O6::O7::O8::O9::O_::Pb::Pc::Pd::Pf::Pg::Ph::[]),[]⟩ y4:=by
 conv=>arg 2;whnf
 have HSB:=aa hSB
 have HSm:=aa hsm
 have HK:=aa hK
 clear hSB hsm hK
 go_upto_region 13 with fail
 go_loopw [13,14] (Ke y4 p.P cl.au) (λ_ v _=>p.P.length - S.ef v)
 case atStart=>exact⟨0,0,none,0,rfl,rfl,Nat.zero_le _,aa rfl,aa (λh=>absurd h (by simp [az,aN])),aa (Below.refl _ _)⟩
 case round =>
  obtain⟨j,k,a,cap,rfl,rfl,hj,HKl,HF,HB⟩:=hrel
  have hpl:=HSm.o.q
  have g:=HSB.o wr HB.o
  have w2:=g.Jn.cell 2 rfl
  by_cases hlt:j<p.P.length
  ·have hd:decide ((j:Int)<(p.P.length:Int))=true:=dT (by omega)
   obtain⟨q,hq⟩:∃q,p.P[j]?=some q:=⟨_,gE hlt⟩
   have x1:=g.call.cell 1 rfl
   obtain⟨ev,hev,hem,hid0,hvs,hln⟩:=jP g.lw.pk hq
   have HFe:Hid (Fl wr ev.a ev.vs):=aa (g.lw.pe ev hem)
   have hlen0:0<(sn Q3).length:=by rw [dv];have:=(gS.1 hev).1;omega
   obtain⟨gq,rfl,hqc⟩:=g.lw.q hlen0
   have q0:wr.cell? ⟨gq,j*2,none⟩=some (.int .i64 ev.id):=hqc _ _ (dp Q3 j ev hev 0 (by omega))
   have q1:wr.cell? ⟨gq,j*2+1,none⟩=some (.slice ev.a ev.len ev.cap):=hqc _ _ (dp Q3 j ev hev 1 (by omega))
   have HNx:Hid (aN cl.au (p.P.take (j+1))=if q.1=cl.au then q.2 else aN cl.au (p.P.take j)):=aa (ns hq)
   obtain⟨ei,evv,el,ea,ec⟩:=ev
   simp only [Df] at hid0 hvs hln HFe
   subst hid0 hvs hln
   obtain⟨qn,qk⟩:=q
   simp only at q0 q1 HNx HFe
   clear hev hem hqc hlen0 hq g hj
   by_cases he:qn=cl.au
   ·have heb:(qn==cl.au)=true:=by simpa using he
    have HN2:Hid (aN cl.au (p.P.take (j+1))=qk):=by unfold Hid;rw [HNx.o,if_pos he]
    clear he HNx
    go_upto_region 15 with fail
    go_quiet (fail)
    go_wp2
    exact⟨⟨j+1,qk.length,ea,ec,rfl,rfl,by omega,by unfold Hid;rw [HN2.o],by unfold Hid;rw [HN2.o];exact HFe.o.later (below_drewN (Below.refl _ _) _),aa (below_drewN HB.o _)⟩,by simp [S.ef];omega⟩
   ·have heb:(qn==cl.au)=false:=by simpa using he
    have HN2:Hid (aN cl.au (p.P.take (j+1))=aN cl.au (p.P.take j)):=by unfold Hid;rw [HNx.o,if_neg he]
    clear he HNx
    go_upto_region 15 with fail
    go_quiet (fail)
    go_wp2
    exact⟨⟨j+1,k,a,cap,rfl,rfl,by omega,by unfold Hid;rw [HN2.o];exact HKl.o,by unfold Hid;rw [HN2.o];exact HF.o.later (below_drewN (Below.refl _ _) _),aa (below_drewN HB.o _)⟩,by simp [S.ef];omega⟩
  ·have hjj:j=p.P.length:=by omega
   have hd:decide ((j:Int)<(p.P.length:Int))=false:=dF (by omega)
   have HF2:Hid (Fl wr a (az (aN cl.au p.P))):=by have h:=HF.o;unfold Hid;rw [hjj,List.take_length] at h;exact h
   have hkk:k=(aN cl.au p.P).length:=by rw [HKl.o,hjj,List.take_length]
   subst hkk
   clear hjj hj HF HKl g
   go_wp2
   exact HK.o a cap _ ⟨HF2.o,HB.o⟩ ..
end Go.Proofs.YtfmhdimaijimlaaGreatDoor.V
