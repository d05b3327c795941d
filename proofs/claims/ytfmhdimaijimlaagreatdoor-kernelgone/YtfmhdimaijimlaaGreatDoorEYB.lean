import Derived.Test.YtfmhdimaijimlaaGreatDoorE28
set_option linter.all false
set_option maxRecDepth 1000000
set_option maxHeartbeats 8000000
open Go.Proofs.Tryz
variable {w w' w1 w2:Go.World}{n m k i j b g base kn:Nat}{a:Option Go.Addr}
namespace Go.Proofs.YtfmhdimaijimlaaGreatDoor.V
open Go.RowKit
open Go.Proofs.YtfmhdimaijimlaaGreatDoor.H (B64 Cp)
section
variable {p:Pm}{s:Sta}
def Rfd (p:Pm)(s:Sta)(c:R.Cl):Prop :=
 (doA p s c).1=rep (doA p s c).1.code∧∃t',(doA p s c).2={ s with t:=t' }∧(c.op=3→(doA p s c).1.code=12→t'=s.t+9)∧(¬(c.op=3∧((doA p s c).1.code=12∨(doA p s c).1.code=11))→t'=s.t)
theorem Rfd.same {c:R.Cl}(e:doA p s c=(rep (doA p s c).1.code,s))(h12:(doA p s c).1.code≠12):Rfd p s c:=by
 refine⟨?_,s.t,?_,λ_ h=>absurd h h12,λ_=>rfl⟩
 ·conv=>lhs;rw [e]
 ·rw [e]
theorem may_codes (e a:Int)(L:List Int)(x:Int):Q.may e a L x=9∨Q.may e a L x=10∨Q.may e a L x=0:=by
 unfold Q.may
 split
 ·exact .inl rfl
 ·split
  ·exact .inr (.inl rfl)
  ·exact .inr (.inr rfl)
theorem der_refuse (h:KF p s)(c:Cp)(r:Int)(hne:(D.childA p.d s.d c r).code≠0) :
  (D.childA p.d s.d c r).c=(0,0,0)∧∃t',(D.childA p.d s.d c r).s={ s.d with t:=t' }∧((D.childA p.d s.d c r).code=12→t'=s.t+9)∧(¬((D.childA p.d s.d c r).code=12∨(D.childA p.d s.d c r).code=11)→t'=s.t):=by
 unfold D.childA at hne ⊢
 by_cases h1:hasC s.d.X s.d.l c=false
 ·rw [if_pos h1]
  exact⟨rfl,s.t,rfl,λe=>absurd (show (3:Int)=12 from e) (by decide),λ_=>rfl⟩
 ·rw [if_neg h1] at hne ⊢
  by_cases h2:partB 4 (D.rgt s.d c)=false∨partB r (D.rgt s.d c)=false
  ·rw [if_pos h2]
   exact⟨rfl,s.t,rfl,λe=>absurd (show (4:Int)=12 from e) (by decide),λ_=>rfl⟩
  ·rw [if_neg h2] at hne ⊢
   unfold D.tokR at hne ⊢
   by_cases hm:Q.may p.d.e p.d.a s.d.L c.1≠0
   ·rw [if_pos hm] at hne ⊢
    refine⟨rfl,s.t,rfl,λe=>?_,λ_=>rfl⟩
    have e':Q.may p.d.e p.d.a s.d.L c.1=12:=e
    rcases may_codes p.d.e p.d.a s.d.L c.1 with h|h|h<;>rw [h] at e'<;>exact absurd e' (by decide)
   ·rw [if_neg hm] at hne ⊢
    by_cases hd:(D.childD p.d s.d c.1).2.1≠0
    ·rw [if_pos hd] at hne ⊢
     obtain⟨q,h3,h4,h5,h6⟩:=D.drawR_spec (P:=D.ofP s.d.X s.d.l c.1) (c:=p.d.c) (n:=p.d.n) (k:=9) (t:=s.t) h.le
     refine⟨rfl,_,rfl,λe=>?_,λe=>?_⟩
     ·have e':(D.drawR (D.ofP s.d.X s.d.l c.1) p.d.c p.d.n 9 s.t).2.1=12:=e
      rw [e'] at h6
      rcases h6 with ⟨h7,_⟩|⟨h7,_⟩|⟨_,_,h8,_⟩
      ·exact absurd h7 (by decide)
      ·exact absurd h7 (by decide)
      ·rw [h8] at h3;exact h3
     ·exfalso
      rcases h6 with ⟨h7,_⟩|⟨h7,_⟩|⟨h7,_⟩
      ·exact hd h7
      ·exact e (.inr h7)
      ·exact e (.inl h7)
    ·rw [if_neg hd] at hne
     exact absurd rfl hne
theorem rvE_cases (V:List (Int×List Nat))(id off k:Int):S.rvE V id off k=20∨S.rvE V id off k=5∨S.rvE V id off k=0:=by
 unfold S.rvE
 split
 ·exact .inl rfl
 ·split
  ·exact .inr (.inr rfl)
  ·exact .inr (.inl rfl)
theorem rvL_no {V:List (Int×List Nat)}{id off k:Int}(h:S.rvE V id off k≠0):S.rvL V id off k=[]:=by
 unfold S.rvE at h
 unfold S.rvL
 split
 ·rfl
 ·rename_i l hl
  rw [hl] at h
  simp only at h
  split
  ·rename_i hc;rw [if_pos hc] at h;exact absurd rfl h
  ·rfl
theorem nam_codes (X:List Tk)(l:Fo)(need o:Int):∀(K:List Cp) (e:Int),(e=3∨e=4)→(L.namG (L.givE X l need) o K e).2=3∨(L.namG (L.givE X l need) o K e).2=4∨(L.namG (L.givE X l need) o K e).2=0
 | [],e,h=>h.elim .inl (λh=>.inr (.inl h))
 | c::r,e,h=>by
  unfold L.namG
  split
  ·exact nam_codes X l need o r e h
  ·split
   ·exact .inr (.inr rfl)
   ·split
    ·exact nam_codes X l need o r 4 (.inr rfl)
    ·exact nam_codes X l need o r e h
theorem val_codes (s:Sta)(g:Bool)(b:Int)(c:Cp)(need:Int):valE s g b c need=3∨valE s g b c need=4∨valE s g b c need=0:=by
 unfold valE
 split
 ·rcases L.givE_cases s.X s.l need c with ⟨_,h⟩|⟨_,_,h⟩|⟨_,_,h⟩
  ·exact .inl h
  ·exact .inr (.inl h)
  ·exact .inr (.inr h)
 ·exact nam_codes _ _ _ _ _ _ (.inl rfl)
theorem pick_codes (lm:Int)(K:List Cp)(G:List Int):M.pickE lm K G≠12:=by
 unfold M.pickE
 split
 ·split<;>decide
 ·decide
theorem refuse (h:KF p s)(c:R.Cl)(hne:(doA p s c).1.code≠0):Rfd p s c:=by
 have key:∀(y:Rep×Sta),doA p s c=y→(∃k:Int,y=(rep k,s)∧k≠12)→Rfd p s c:=by
  rintro y e ⟨k,rfl,hk⟩
  exact Rfd.same (by rw [e];rfl) (by rw [e];exact hk)
 by_cases h1:R.fm c=false
 ·exact key _ (by unfold doA;rw [if_pos h1]) ⟨1,rfl,by decide⟩
 by_cases h2:s.P.contains c.by_=false
 ·exact key _ (by unfold doA;rw [if_neg h1,if_pos h2]) ⟨2,rfl,by decide⟩
 have e0:doA p s c=deedA p s c:=by unfold doA;rw [if_neg h1,if_neg h2]
 rw [e0] at key hne
 by_cases o1:c.op=1
 ·have e1:deedA p s c=creA p s c.size:=by unfold deedA;rw [if_pos o1]
  rw [e1] at key hne
  unfold creA at key hne
  by_cases hm:S.mayV p.room p.pgs s.nx s.V c.size≠0
  ·rw [if_pos hm] at key
   refine key _ rfl ⟨_,rfl,?_⟩
   unfold S.mayV
   split
   ·decide
   ·split
    ·decide
    ·split<;>decide
  ·rw [if_neg hm] at key hne
   rcases root_cases h with ⟨h3,h4⟩|⟨h3,_⟩
   ·rw [if_pos h3] at key
    refine key _ rfl ⟨_,by rw [h4],?_⟩
    unfold D.rootA
    split
    ·exact (show (19:Int)≠12 by decide)
    ·unfold D.tokR
     split
     ·rcases may_codes p.d.e p.d.a s.d.L s.nx with h|h|h<;>(simp only [D.no];rw [h];decide)
     ·split
      ·unfold D.drawD
       split
       ·exact (show (0:Int)≠12 by decide)
       ·exact (show (11:Int)≠12 by decide)
      ·exact (show (0:Int)≠12 by decide)
   ·rw [if_neg (by simpa using h3)] at hne
    exact absurd rfl hne
 by_cases o2:c.op=2
 ·have e1:deedA p s c=awayA true s (cpO c):=by unfold deedA;rw [if_neg o1,if_pos o2]
  rw [e1] at key hne
  unfold awayA revA at key hne
  by_cases g1:hasC s.X s.l (cpO c)=false
  ·rw [if_pos g1] at key;exact key _ rfl ⟨3,rfl,by decide⟩
  ·rw [if_neg g1] at key hne
   by_cases g2:partB (needB true) (rg s.X (findN s.X s.l (cpO c)))=false
   ·rw [if_pos g2] at key;exact key _ rfl ⟨4,rfl,by decide⟩
   ·rw [if_neg g2] at hne;exact absurd rfl hne
 by_cases o3:c.op=3
 ·have e1:deedA p s c=derA p s (cpO c) c.rights:=by unfold deedA;rw [if_neg o1,if_neg o2,if_pos o3]
  rw [e1] at hne
  obtain⟨h3,t',h4,h5,h6⟩:=der_refuse h (cpO c) c.rights hne
  have e2:=e0.trans e1
  refine⟨?_,t',?_,λ_ e=>?_,λe=>?_⟩
  ·rw [e2];unfold derA rep;rw [h3]
  ·rw [e2];unfold derA;rw [h4];rfl
  ·rw [e2] at e;exact h5 e
  ·rw [e2] at e;exact h6 (λh=>e ⟨o3,h⟩)
 by_cases o4:c.op=4
 ·have e1:deedA p s c=awayA false s (cpO c):=by unfold deedA;rw [if_neg o1,if_neg o2,if_neg o3,if_pos o4]
  rw [e1] at key hne
  unfold awayA revA at key hne
  by_cases g1:hasC s.X s.l (cpO c)=false
  ·rw [if_pos g1] at key;exact key _ rfl ⟨3,rfl,by decide⟩
  ·rw [if_neg g1] at key hne
   by_cases g2:partB (needB false) (rg s.X (findN s.X s.l (cpO c)))=false
   ·rw [if_pos g2] at key;exact key _ rfl ⟨4,rfl,by decide⟩
   ·rw [if_neg g2] at hne;exact absurd rfl hne
 by_cases o5:c.op=5
 ·have e1:deedA p s c=readA s c.given c.by_ (cpO c) c.off c.n:=by unfold deedA;rw [if_neg o1,if_neg o2,if_neg o3,if_neg o4,if_pos o5]
  rw [e1] at key hne
  unfold readA at key hne
  by_cases g1:valE s c.given c.by_ (cpO c) 1≠0
  ·rw [if_pos g1] at key
   refine key _ rfl ⟨_,rfl,?_⟩
   rcases val_codes s c.given c.by_ (cpO c) 1 with h|h|h<;>rw [h]<;>decide
  ·rw [if_neg g1] at key hne
   refine key _ rfl ⟨S.rvE s.V (cpO c).1 c.off c.n,by rw [rvL_no hne];rfl,?_⟩
   rcases rvE_cases s.V (cpO c).1 c.off c.n with h|h|h<;>rw [h]<;>decide
 by_cases o6:c.op=6
 ·have e1:deedA p s c=writeA s c.given c.by_ (cpO c) c.off c.data:=by unfold deedA;rw [if_neg o1,if_neg o2,if_neg o3,if_neg o4,if_neg o5,if_pos o6]
  rw [e1] at key hne
  unfold writeA at key hne
  by_cases g1:valE s c.given c.by_ (cpO c) 2≠0
  ·rw [if_pos g1] at key
   refine key _ rfl ⟨_,rfl,?_⟩
   rcases val_codes s c.given c.by_ (cpO c) 2 with h|h|h<;>rw [h]<;>decide
  ·rw [if_neg g1] at key hne
   have hne':S.rvE s.V (cpO c).1 c.off (c.data.length:Int)≠0:=hne
   refine key _ rfl ⟨S.rvE s.V (cpO c).1 c.off (c.data.length:Int),by unfold S.wrV;rw [if_neg hne'],?_⟩
   rcases rvE_cases s.V (cpO c).1 c.off (c.data.length:Int) with h|h|h<;>rw [h]<;>decide
 by_cases o7:c.op=7
 ·have e1:deedA p s c=addA p s c.by_ (cpO c):=by unfold deedA;rw [if_neg o1,if_neg o2,if_neg o3,if_neg o4,if_neg o5,if_neg o6,if_pos o7]
  rw [e1] at key hne
  unfold addA at key hne
  by_cases g1:fitB p.W (cpO c)=false
  ·rw [if_pos g1] at key;exact key _ rfl ⟨18,rfl,by decide⟩
  ·rw [if_neg g1] at key hne
   by_cases g2:p.lm≤((s.D c.by_).length:Int)
   ·rw [if_pos g2] at key;exact key _ rfl ⟨14,rfl,by decide⟩
   ·rw [if_neg g2] at hne;exact absurd rfl hne
 by_cases o8:c.op=8
 ·have e1:deedA p s c=remA s c.by_ c.index:=by unfold deedA;rw [if_neg o1,if_neg o2,if_neg o3,if_neg o4,if_neg o5,if_neg o6,if_neg o7,if_pos o8]
  rw [e1] at key hne
  unfold remA at key hne
  by_cases g1:M.okI (s.D c.by_) c.index=false
  ·rw [if_pos g1] at key;exact key _ rfl ⟨15,rfl,by decide⟩
  ·rw [if_neg g1] at hne;exact absurd rfl hne
 by_cases o9:c.op=9
 ·have e1:deedA p s c=spaA p s c.by_ c.gifts:=by unfold deedA;rw [if_neg o1,if_neg o2,if_neg o3,if_neg o4,if_neg o5,if_neg o6,if_neg o7,if_neg o8,if_pos o9]
  rw [e1] at key hne
  unfold spaA at key hne
  by_cases g1:M.pickE p.lm (s.D c.by_) c.gifts≠0
  ·rw [if_pos g1] at key;exact key _ rfl ⟨_,rfl,pick_codes _ _ _⟩
  ·rw [if_neg g1] at key hne
   by_cases g2:P.fullP p.pm s.px s.P=true
   ·rw [if_pos g2] at key;exact key _ rfl ⟨13,rfl,by decide⟩
   ·rw [if_neg g2] at hne;exact absurd rfl hne
 ·have e1:deedA p s c=exiA s c.by_:=by unfold deedA;rw [if_neg o1,if_neg o2,if_neg o3,if_neg o4,if_neg o5,if_neg o6,if_neg o7,if_neg o8,if_neg o9]
  rw [e1] at hne
  exact absurd rfl hne
end
section
variable {p:Pm}{s:Sta}{m:Nat}{X:List Tk}{l:Fo}
def ndO (X:List Tk)(l:Fo)(o:Int):List Int:=match rootOf X l o with
 | some r=>G true l r
 | none=>[]
def nl (X:List Tk)(l:Fo)(ids:List Int):List Int:=ids.flatMap (ndO X l)
theorem root_in {o r:Int}(h:rootOf X l o=some r):(r,-1)∈l∧ob X r=o:=by
 unfold rootOf at h
 have:=List.find?_some h
 simpa using this
theorem mem_ndO (h:Inv m X l){o y:Int}:y∈ndO X l o↔y∈nums l∧ob X y=o:=by
 unfold ndO
 cases hr:rootOf X l o with
 | some r =>
  obtain⟨h1,h2⟩:=root_in hr
  show y∈G true l r↔_
  rw [h.mem_root h1,h2]
 | none =>
  refine⟨λh=>by simp at h,λ⟨h1,h2⟩=>?_⟩
  obtain⟨r,h3,h4,_⟩:=h.toRoot y h1
  have h5:=rootOf_some h h3
  rw [h4,h2,hr] at h5
  cases h5
structure Tl (X:List Tk)(l:Fo)(T:List Tok)(A:List Int):Prop where
 len:T.length=A.length
 at_:∀(j:Nat) (y:Int),A[j]?=some y→y∈nums l∧∃q:Int,T[j]?=some ((tk X y).1,rg X y,q)∧((q=-1∧par l y=-1)∨∃k:Nat,k<j∧q=(k:Int)∧A[k]?=some (par l y))
theorem Tl.nil (X:List Tk)(l:Fo):Tl X l [] []:=⟨rfl,λj y h=>by simp at h⟩
theorem Tl.obj (h:Inv m X l)(o:Int):Tl X l (ofL m X l o) (ndO X l o):=by
 unfold ofL ndO
 cases hr:rootOf X l o with
 | none=>exact Tl.nil _ _
 | some r =>
  obtain⟨h1,h2⟩:=root_in hr
  have sp:=(ofF_spec (X:=X) h.ok h1 _ (Nat.le_refl _)).2
  rw [List.take_length] at sp
  refine⟨ofF_len2 X l m _,λj y hy=>⟨G_nums h.ok (List.mem_of_getElem? hy),?_⟩⟩
  obtain⟨q,h3,h4⟩:=sp j y (gS.1 hy).1 hy
  refine⟨q,h3,?_⟩
  rcases h4 with ⟨_,h5,h6⟩|⟨_,k,h5,h6,h7⟩
  ·exact .inl ⟨h5,h6⟩
  ·exact .inr ⟨k,h5,h6,h7⟩
theorem Tl.app {T O:List Tok}{A B:List Int}(h:Tl X l T A)(k:Tl X l O B):Tl X l (T++O.map (shf T.length)) (A++B):=by
 refine⟨by simp [h.len,k.len],λj y hy=>?_⟩
 by_cases hj:j<A.length
 ·rw [List.getElem?_append_left hj] at hy
  obtain⟨h1,q,h2,h3⟩:=h.at_ j y hy
  refine⟨h1,q,by rw [List.getElem?_append_left (by rw [h.len];exact hj)];exact h2,?_⟩
  rcases h3 with h3|⟨i,h4,h5,h6⟩
  ·exact .inl h3
  ·exact .inr ⟨i,h4,h5,by rw [List.getElem?_append_left (by omega)];exact h6⟩
 ·rw [List.getElem?_append_right (by omega)] at hy
  obtain⟨h1,q,h2,h3⟩:=k.at_ _ y hy
  refine⟨h1,(shf T.length ((tk X y).1,rg X y,q)).2.2,?_,?_⟩
  ·rw [List.getElem?_append_right (by rw [h.len];omega),h.len,List.getElem?_map,h2]
   rfl
  ·rcases h3 with ⟨h4,h5⟩|⟨i,h4,h5,h6⟩
   ·exact .inl ⟨by simp [shf,h4],h5⟩
   ·refine .inr ⟨A.length+i,by omega,?_,?_⟩
    ·simp only [shf,h5,h.len]
     rw [if_neg (by omega)]
     omega
    ·rw [List.getElem?_append_right (by omega),Nat.add_sub_cancel_left]
     exact h6
theorem Tl.all (h:Inv m X l):∀ids:List Int,Tl X l (tkF m X l ids) (nl X l ids):=by
 intro ids
 unfold tkF nl
 suffices ∀(ids:List Int) (T:List Tok) (A:List Int),Tl X l T A→Tl X l (ids.foldl (tkStep m X l) T) (A++ids.flatMap (ndO X l)) by
  have:=this ids [] [] (Tl.nil _ _)
  rwa [List.nil_append] at this
 intro ids
 induction ids with
 | nil=>intro T A hT;simpa using hT
 | cons o ids ih =>
  intro T A hT
  rw [List.foldl_cons,List.flatMap_cons,←List.append_assoc]
  exact ih _ _ (hT.app (Tl.obj h o))
theorem mem_nl (h:Inv m X l){ids:List Int}{y:Int}:y∈nl X l ids↔y∈nums l∧ob X y∈ids:=by
 unfold nl
 rw [List.mem_flatMap]
 constructor
 ·rintro ⟨o,ho,hy⟩
  obtain⟨h1,h2⟩:=(mem_ndO h).1 hy
  exact⟨h1,by rw [h2];exact ho⟩
 ·rintro ⟨h1,h2⟩
  exact⟨_,h2,(mem_ndO h).2 ⟨h1,rfl⟩⟩
theorem nl_all (h:Fit m s){y:Int}:y∈nl s.X s.l (s.V.map Prod.fst)↔y∈nums s.l:=by
 rw [mem_nl h.inv]
 refine⟨λh=>h.1,λhy=>⟨hy,?_⟩⟩
 obtain⟨q,hq,e⟩:=(h.obj (ob s.X y)).2 (hasO_iff.2 ⟨y,hy,rfl⟩)
 exact List.mem_map.2 ⟨q,hq,e⟩
end
section
variable {p:Pm}{s:Sta}{m:Nat}
theorem deed_of {c:R.Cl}(h1:(doA p s c).1.code≠1)(h2:(doA p s c).1.code≠2):doA p s c=deedA p s c∧c.by_∈s.P:=by
 unfold doA at h1 h2 ⊢
 by_cases g1:R.fm c=false
 ·rw [if_pos g1] at h1;exact absurd rfl h1
 ·rw [if_neg g1] at h1 h2 ⊢
  by_cases g2:s.P.contains c.by_=false
  ·rw [if_pos g2] at h2;exact absurd rfl h2
  ·rw [if_neg g2]
   exact⟨rfl,by simpa using g2⟩
end
theorem fm_filter {p:Int→Bool}{f:Int→List Int}:∀(L:List Int),(L.flatMap f).filter p=L.flatMap (λc=>(f c).filter p)
 | []=>rfl
 | c::L=>by rw [List.flatMap_cons,List.filter_append,fm_filter L,List.flatMap_cons]
theorem G_true_eq {l:Fo}(h:Ok m l){n:Int}(hn:n∈nums l):G true l n=n::(ch l n).flatMap (G true l):=by
 rw [G_eq h hn];rfl
theorem G_trans {l:Fo}(h:Ok m l){a b:Int}(hb:b∈G true l a):∀y,y∈G true l b→y∈G true l a:=by
 have key:∀n∈nums l,∀x∈G true l n,∀y∈G true l x,y∈G true l n:=by
  refine tree_ind h (P:=λn=>∀x∈G true l n,∀y∈G true l x,y∈G true l n) (λn hn ih x hx y hy=>?_)
  rw [G_true_eq h hn] at hx
  rcases List.mem_cons.1 hx with e|hx
  ·rw [e] at hy;exact hy
  ·obtain⟨c,hc,hx⟩:=List.mem_flatMap.1 hx
   rw [G_true_eq h hn]
   exact List.mem_cons_of_mem _ (List.mem_flatMap.2 ⟨c,hc,ih c hc x hx y hy⟩)
 by_cases ha:a∈nums l
 ·exact key a ha b hb
 ·rw [G_out ha] at hb;cases hb
theorem cut_filter {l:Fo}(h:Ok m l){x:Int}(h':Ok m (cuts l (G true l x))):∀n∈nums l,n∉G true l x→G true (cuts l (G true l x)) n=(G true l n).filter (λy=>decide (y∉G true l x)):=by
 refine tree_ind h (P:=λn=>n∉G true l x→G true (cuts l (G true l x)) n=(G true l n).filter (λy=>decide (y∉G true l x))) (λn hn ih hx=>?_)
 have hn':n∈nums (cuts l (G true l x)):=nums_cuts.2 ⟨hn,hx⟩
 rw [G_true_eq h' hn',G_true_eq h hn,List.filter_cons_of_pos (by simpa using hx),fm_filter]
 congr 1
 have hch:ch (cuts l (G true l x)) n=(ch l n).filter (λc=>decide (c∉G true l x)):=by
  unfold ch cuts
  rw [List.filter_filter,List.filter_map,List.filter_filter]
  congr 1
  apply List.filter_congr
  intro a _
  simp [Bool.and_comm]
 rw [hch]
 have key:∀L:List Int,(∀c∈L,c∈ch l n)→(L.filter (λc=>decide (c∉G true l x))).flatMap (G true (cuts l (G true l x)))=L.flatMap (λc=>(G true l c).filter (λy=>decide (y∉G true l x))):=by
  intro L
  induction L with
  | nil=>intro _;rfl
  | cons c L ihL =>
   intro hL
   have hc:=hL c (by simp)
   by_cases hcx:c∈G true l x
   ·rw [List.filter_cons_of_neg (by simpa using hcx),List.flatMap_cons,ihL (λy hy=>hL y (by simp [hy]))]
    have:(G true l c).filter (λy=>decide (y∉G true l x))=[]:=by
     rw [List.filter_eq_nil_iff]
     intro y hy
     simpa using G_trans h hcx y hy
    rw [this,List.nil_append]
   ·rw [List.filter_cons_of_pos (by simpa using hcx),List.flatMap_cons,List.flatMap_cons,ihL (λy hy=>hL y (by simp [hy])),ih c hc hcx]
 exact key _ (λc hc=>hc)
theorem take_filter {p:Int→Bool}{A:List Int}{y:Int}(hy:A[i]?=some y):(A.take (i+1)).filter p=(A.take i).filter p++(if p y then [y] else []):=by
 obtain⟨hi,e⟩:=gS.1 hy
 rw [List.take_succ_eq_append_getElem hi,List.filter_append,e]
 congr 1
 cases hp:p y with
 | true=>rw [List.filter_cons_of_pos hp];rfl
 | false=>rw [List.filter_cons_of_neg (by simp [hp])];rfl
section
variable {p:Pm}{s:Sta}{m:Nat}{X:List Tk}{l:Fo}
theorem ndO_cut (h:Inv m X l){x:Int}(hx:x∈nums l)(h':Inv m (zer X (G true l x)) (cuts l (G true l x)))(o:Int) :
  ndO (zer X (G true l x)) (cuts l (G true l x)) o=(ndO X l o).filter (λy=>decide (y∉G true l x)):=by
 have htk:∀y,y∈nums l→y∉G true l x→tk (zer X (G true l x)) y=tk X y:=λy hy hg=>zer_tk _ _ _ (nums_nn h.ok hy) (λa ha=>nums_nn h.ok (G_nums h.ok ha)) hg
 have empty:(∀y∈nums l,ob X y=o→y∈G true l x)→ndO (zer X (G true l x)) (cuts l (G true l x)) o=(ndO X l o).filter (λy=>decide (y∉G true l x)):=λhall=>by
  have e1:(ndO X l o).filter (λy=>decide (y∉G true l x))=[]:=by
   rw [List.filter_eq_nil_iff]
   intro y hy
   have:=(mem_ndO h).1 hy
   simpa using hall y this.1 this.2
  have e2:ndO (zer X (G true l x)) (cuts l (G true l x)) o=[]:=by
   rw [List.eq_nil_iff_forall_not_mem]
   intro y hy
   obtain⟨h1,h2⟩:=(mem_ndO h').1 hy
   obtain⟨h3,h4⟩:=nums_cuts.1 h1
   unfold ob at h2
   rw [htk y h3 h4] at h2
   exact h4 (hall y h3 h2)
  rw [e1,e2]
 cases hr:rootOf X l o with
 | none =>
  refine empty (λy hy e=>?_)
  obtain⟨r,h3,h4,_⟩:=h.toRoot y hy
  have h5:=rootOf_some h h3
  rw [h4,e,hr] at h5
  cases h5
 | some r =>
  obtain⟨h1,h2⟩:=root_in hr
  have hrn:r∈nums l:=mn_.2 ⟨_,h1⟩
  by_cases hg:r∈G true l x
  ·refine empty (λy hy e=>?_)
   exact G_trans h.ok hg y ((h.mem_root h1).2 ⟨hy,by rw [e,h2]⟩)
  ·have hr':(r,-1)∈cuts l (G true l x):=mem_cuts.2 ⟨h1,hg⟩
   have ho':ob (zer X (G true l x)) r=o:=by unfold ob;rw [htk r hrn hg];exact h2
   have e3:=rootOf_some h' hr'
   rw [ho'] at e3
   unfold ndO
   rw [hr,e3]
   exact cut_filter h.ok h'.ok r hrn hg
theorem nl_cut (h:Fit m s){x o:Int}(hx:x∈nums s.l)(ho:ob s.X x=o)(h':Inv m (felled s x o).X (felled s x o).l) :
  nl (felled s x o).X (felled s x o).l ((felled s x o).V.map Prod.fst)=(nl s.X s.l (s.V.map Prod.fst)).filter (λy=>decide (y∉G true s.l x)):=by
 have h'':Inv m (zer s.X (G true s.l x)) (cuts s.l (G true s.l x)):=h'
 have e1:nl (felled s x o).X (felled s x o).l (s.V.map Prod.fst)=(nl s.X s.l (s.V.map Prod.fst)).filter (λy=>decide (y∉G true s.l x)):=by
  unfold nl
  rw [fm_filter]
  congr 1
  funext y
  exact ndO_cut h.inv hx h'' y
 rw [←e1]
 show nl _ _ ((if par s.l x=-1 then noV s.V o else s.V).map Prod.fst)=_
 by_cases hp:par s.l x=-1
 ·rw [if_pos hp]
  have hxr:(x,-1)∈s.l:=by
   obtain⟨q,hq⟩:=mn_.1 hx
   have:=par_eq h.inv.ok hq
   rw [hp] at this
   rw [this];exact hq
  have hnil:ndO (felled s x o).X (felled s x o).l o=[]:=by
   rw [List.eq_nil_iff_forall_not_mem]
   intro y hy
   have hy':y∈ndO (zer s.X (G true s.l x)) (cuts s.l (G true s.l x)) o:=hy
   rw [ndO_cut h.inv hx h'' o,List.mem_filter] at hy'
   have h1:=(mem_ndO h.inv).1 hy'.1
   have h2:=(h.inv.mem_root hxr).2 ⟨h1.1,by rw [h1.2,ho]⟩
   simp [h2] at hy'
  unfold nl noV
  suffices ∀V:List (Int×List Nat),((V.filter (λp=>decide (p.1≠o))).map Prod.fst).flatMap (ndO (felled s x o).X (felled s x o).l)=(V.map Prod.fst).flatMap (ndO (felled s x o).X (felled s x o).l) from this s.V
  intro V
  induction V with
  | nil=>rfl
  | cons v V ih =>
   by_cases e:v.1=o
   ·rw [List.filter_cons_of_neg (by simpa using e),List.map_cons,List.flatMap_cons,e,hnil,List.nil_append]
    exact ih
   ·rw [List.filter_cons_of_pos (by simpa using e),List.map_cons,List.map_cons,List.flatMap_cons,List.flatMap_cons,ih]
 ·rw [if_neg hp]
structure Gon (p:Pm)(m:Nat)(s:Sta)(c:R.Cl)(x:Int):Prop where
 st:(doA p s c).2=felled s x c.obj
 inn:x∈nums s.l
 o:ob s.X x=c.obj
 has:hasC s.X s.l (cpO c)=true
 who:x=whom (decide (c.op=2)) s (cpO c)
 by_:c.by_∈s.P
theorem gon_of (h:Fit m s)(c:R.Cl)(hop:c.op=2∨c.op=4)(hc:(doA p s c).1.code=0):∃x,Gon p m s c x:=by
 obtain⟨hd,hby⟩:=deed_of (p:=p) (s:=s) (c:=c) (by rw [hc];decide) (by rw [hc];decide)
 have e:deedA p s c=awayA (decide (c.op=2)) s (cpO c):=by
  unfold deedA
  rcases hop with h|h
  ·rw [if_neg (by omega),if_pos h,dT h]
  ·rw [if_neg (by omega),if_neg (by omega),if_neg (by omega),if_pos h,dF (by omega)]
 rw [e] at hd
 rw [hd] at hc
 unfold awayA revA at hc hd
 by_cases h1:hasC s.X s.l (cpO c)=false
 ·rw [if_pos h1] at hc;exact absurd (show (3:Int)=0 from hc) (by decide)
 ·rw [if_neg h1] at hc hd
  by_cases h2:partB (needB (decide (c.op=2))) (rg s.X (findN s.X s.l (cpO c)))=false
  ·rw [if_pos h2] at hc;exact absurd (show (4:Int)=0 from hc) (by decide)
  ·rw [if_neg h2] at hd
   have hw:=whom_in h.inv (by simpa using h1) (decide (c.op=2))
   exact⟨whom (decide (c.op=2)) s (cpO c),by rw [hd];rfl,hw.1,hw.2.1,by simpa using h1,rfl,hby⟩
def cam (X:List Tk)(l:Fo)(c:Cp)(y:Int):Bool:=(U l y).any (λz=>decide ((tk X z).1=c))
theorem cam_iff (h:Inv m X l){c:Cp}(hc:hasC X l c=true){y:Int}(hy:y∈nums l):cam X l c y=true↔y∈G true l (findN X l c):=by
 unfold cam
 rw [List.any_eq_true,mem_G_iff h.ok]
 obtain⟨h1,h2⟩:=findN_of h hc
 constructor
 ·rintro ⟨z,hz,e⟩
  simp only [decide_eq_true_eq] at e
  have hzn:z∈nums l:=by
   have:y∈G true l z:=(mem_G_iff h.ok).2 hz
   by_cases hz2:z∈nums l
   ·exact hz2
   ·rw [G_out hz2] at this;cases this
  have:=findN_in h hzn
  rw [e] at this
  rw [this];exact hz
 ·intro hz
  exact⟨_,hz,by simp [h2]⟩
def rootB (op:Int)(c:Cp)(t:Tok):Bool:=decide (t.1=c)&&(decide (t.2.2<0)||decide (op=2))
theorem root_iff (h:Fit m s){op:Int}{c:Cp}(hc:hasC s.X s.l c=true):(tkF m s.X s.l (s.V.map Prod.fst)).any (rootB op c)=true↔(op=2∨par s.l (findN s.X s.l c)=-1):=by
 have hT:=Tl.all h.inv (s.V.map Prod.fst)
 obtain⟨h1,h2⟩:=findN_of h.inv hc
 rw [List.any_eq_true]
 constructor
 ·rintro ⟨t,ht,hb⟩
  unfold rootB at hb
  simp only [Bool.and_eq_true,Bool.or_eq_true,decide_eq_true_eq] at hb
  obtain⟨j,hj⟩:=List.mem_iff_getElem?.1 ht
  obtain⟨y,hy⟩:∃y,(nl s.X s.l (s.V.map Prod.fst))[j]?=some y:=⟨_,gE (by rw [←hT.len];exact (gS.1 hj).1)⟩
  obtain⟨g1,q,g2,g3⟩:=hT.at_ j y hy
  rw [hj] at g2
  cases g2
  simp only at hb
  have e:findN s.X s.l c=y:=by rw [←hb.1];exact findN_in h.inv g1
  rcases hb.2 with h3|h3
  ·rcases g3 with ⟨_,g4⟩|⟨k,_,g4,_⟩
   ·exact .inr (by rw [e];exact g4)
   ·omega
  ·exact .inl h3
 ·intro hor
  obtain⟨j,hj⟩:=List.mem_iff_getElem?.1 ((nl_all h).2 h1)
  obtain⟨g1,q,g2,g3⟩:=hT.at_ j _ hj
  refine⟨_,List.mem_of_getElem? g2,?_⟩
  unfold rootB
  simp only [Bool.and_eq_true,Bool.or_eq_true,decide_eq_true_eq]
  refine⟨h2,?_⟩
  rcases hor with h3|h3
  ·exact .inr h3
  ·rcases g3 with ⟨g4,_⟩|⟨k,_,g4,g5⟩
   ·exact .inl (by omega)
   ·exfalso
    rw [h3] at g5
    have:=(hT.at_ k _ g5).1
    have:=nums_nn h.inv.ok this
    omega
theorem goes_iff (h:Fit m s){c:R.Cl}{x:Int}(hop:c.op=2∨c.op=4)(hg:Gon p m s c x){y:Int}(hy:y∈nums s.l) :
  (((tkF m s.X s.l (s.V.map Prod.fst)).any (rootB c.op (cpO c))&&decide (ob s.X y=c.obj))||cam s.X s.l (cpO c) y)=decide (y∈G true s.l x):=by
 obtain⟨f1,f2⟩:=findN_of h.inv hg.has
 have hfo:ob s.X (findN s.X s.l (cpO c))=c.obj:=by unfold ob;rw [f2];rfl
 have hroot:=root_iff h (op:=c.op) hg.has
 have hcam:=cam_iff h.inv hg.has hy
 rw [Bool.eq_iff_iff]
 simp only [Bool.or_eq_true,Bool.and_eq_true,decide_eq_true_eq]
 rw [hroot,hcam]
 have hw:=hg.who
 rcases hop with h2|h4
 ·rw [dT h2] at hw
  have hwi:=whom_in h.inv hg.has true
  rw [←hw] at hwi
  rw [h.inv.mem_root (hwi.2.2 rfl),hg.o]
  constructor
  ·rintro (⟨_,h3⟩|h3)
   ·exact⟨hy,h3⟩
   ·exact⟨hy,by rw [G_obj h.inv h3];exact hfo⟩
  ·rintro ⟨_,h3⟩
   exact .inl ⟨.inl h2,h3⟩
 ·rw [dF (by omega)] at hw
  have hw':x=findN s.X s.l (cpO c):=hw
  rw [←hw']
  constructor
  ·rintro (⟨h3|h3,h5⟩|h3)
   ·omega
   ·have hxr:(x,-1)∈s.l:=by
     obtain⟨q,hq⟩:=mn_.1 hg.inn
     have:=par_eq h.inv.ok hq
     rw [h3] at this
     rw [this];exact hq
    exact (h.inv.mem_root hxr).2 ⟨hy,by rw [h5,hg.o]⟩
   ·exact h3
  ·exact λh3=>.inr h3
def kpN (l:Fo)(x:Int)(A:List Int)(t:Nat):Nat:=((A.take t).filter (λy=>decide (y∉G true l x))).length
theorem kpN_gone {x:Int}{A:List Int}{t:Nat}{y:Int}(hy:A[t]?=some y)(hg:y∈G true l x):kpN l x A (t+1)=kpN l x A t:=by
 unfold kpN
 rw [take_filter hy,if_neg (by simpa using hg),List.append_nil]
theorem kpN_kept {x:Int}{A:List Int}{t:Nat}{y:Int}(hy:A[t]?=some y)(hg:y∉G true l x):kpN l x A (t+1)=kpN l x A t+1:=by
 unfold kpN
 rw [take_filter hy,if_pos (by simpa using hg),List.length_append]
 rfl
theorem kp_at {x:Int}{A:List Int}{t:Nat}{y:Int}(hy:A[t]?=some y)(hg:y∉G true l x):(A.filter (λy=>decide (y∉G true l x)))[kpN l x A t]?=some y:=by
 obtain⟨hi,e⟩:=gS.1 hy
 have e1:A.filter (λz=>decide (z∉G true l x))=(A.take t).filter (λz=>decide (z∉G true l x))++y::(A.drop (t+1)).filter (λz=>decide (z∉G true l x)):=by
  conv=>lhs;rw [←List.take_append_drop t A,List.drop_eq_getElem_cons hi,e]
  rw [List.filter_append,List.filter_cons_of_pos (by simpa using hg)]
 rw [e1]
 unfold kpN
 rw [List.getElem?_append_right (Nat.le_refl _),Nat.sub_self]
 rfl
structure Kept (m:Nat)(s s':Sta)(c:R.Cl)(x:Int)(A:List Int):Prop where
 T:Tl s.X s.l (psOf m s).T A
 len:kpN s.l x A A.length=(psOf m s').T.length
 at_:∀(t:Nat) (y:Int),A[t]?=some y→y∉G true s.l x→∃q,(psOf m s').T[kpN s.l x A t]?=some ((tk s.X y).1,rg s.X y,q)
 goes:∀(t:Nat) (y:Int),A[t]?=some y→(((psOf m s).T.any (rootB c.op (cpO c))&&decide (ob s.X y=c.obj))||cam s.X s.l (cpO c) y)=decide (y∈G true s.l x)
 gone:∀(t:Nat) (y:Int),A[t]?=some y→y∈G true s.l x→hasC s'.X s'.l (tk s.X y).1=false
 obj:∀(t:Nat) (y:Int),A[t]?=some y→1≤ob s.X y∧ob s.X y≤4611686018427387904
 wide:∀(t:Nat) (y:Int),A[t]?=some y→(tk s.X y).1.2.1<B64∧(tk s.X y).1.2.2<B64
theorem kept_of (h:KF p s){c:R.Cl}{x:Int}(hop:c.op=2∨c.op=4)(hg:Gon p p.mo s c x)(h':KF p (doA p s c).2):Kept p.mo s (doA p s c).2 c x (nl s.X s.l (s.V.map Prod.fst)):=by
 have hT:=Tl.all h.fit.inv (s.V.map Prod.fst)
 have hi':=h'.fit.inv
 rw [hg.st] at hi' ⊢
 have hcut:=nl_cut h.fit hg.inn hg.o hi'
 have hT':=Tl.all hi' ((felled s x c.obj).V.map Prod.fst)
 have htk:∀y,y∈nums s.l→y∉G true s.l x→tk (zer s.X (G true s.l x)) y=tk s.X y:=λy hy hg=>zer_tk _ _ _ (nums_nn h.fit.inv.ok hy) (λa ha=>nums_nn h.fit.inv.ok (G_nums h.fit.inv.ok ha)) hg
 rw [hcut] at hT'
 refine⟨hT,?_,λt y hy hn=>?_,λt y hy=>goes_iff h.fit hop hg (hT.at_ t y hy).1,λt y hy hin=>?_,λt y hy=>?_,λt y hy=>h.fit.inv.wide y (hT.at_ t y hy).1⟩
 ·show _=(tkF _ _ _ _).length
  rw [hT'.len]
  unfold kpN
  rw [List.take_length]
 ·obtain⟨_,q,h2,_⟩:=hT'.at_ _ y (kp_at hy hn)
  refine⟨q,?_⟩
  have e:tk (felled s x c.obj).X y=tk s.X y:=htk y (hT.at_ t y hy).1 hn
  have e2:rg (felled s x c.obj).X y=rg s.X y:=by unfold rg;rw [e]
  rw [e,e2] at h2
  exact h2
 ·cases hc:hasC (felled s x c.obj).X (felled s x c.obj).l (tk s.X y).1 with
  | false=>rfl
  | true =>
   exfalso
   obtain⟨z,hz,e⟩:=hasC_iff.1 hc
   obtain⟨z1,z2⟩:=nums_cuts.1 (show z∈nums (cuts s.l (G true s.l x)) from hz)
   have e':(tk (zer s.X (G true s.l x)) z).1=(tk s.X y).1:=e
   rw [htk z z1 z2] at e'
   have:=h.fit.inv.one z z1 y (hT.at_ t y hy).1 e'
   rw [this] at z2
   exact z2 hin
 ·obtain⟨q,hq,e⟩:=(h.fit.obj (ob s.X y)).2 (hasO_iff.2 ⟨y,(hT.at_ t y hy).1,rfl⟩)
  have h1:=h.fit.ids q hq
  have h2:=h.nx
  rw [e] at h1
  omega
def ask (op by_:Int)(c:Cp):R.Cl:=⟨op,by_,0,c.1,c.2.1,c.2.2,decide (op=5∨op=6),if op=3 then 1 else 0,0,0,[],0,[]⟩
theorem ask_do (h:KF p s){op b:Int}{c:Cp}(hop:2≤op∧op≤6)(hb:b∈s.P)(ho:1≤c.1∧c.1≤4611686018427387904)(hc:hasC s.X s.l c=false):(doA p s (ask op b c)).1.code=3∧(doA p s (ask op b c)).2=s:=by
 have hb1:=h.iv.lo b hb
 have hb2:=h.iv.hi b hb
 have hb3:=h.iv.x2
 have hfm:R.fm (ask op b c)=true:=by
  have h1:R.wi b 0 65535=true:=R.wi_iff.2 (by omega)
  have h2:R.wi c.1 0 4611686018427387904=true:=R.wi_iff.2 (by omega)
  have h3:op=2∨op=3∨op=4∨op=5∨op=6:=by omega
  rcases h3 with rfl|rfl|rfl|rfl|rfl <;>
   (simp [R.fm,R.inB,R.wmB,R.blB,R.unu,R.partsL,R.wo,R.mv,ask,R.clz,R.wi,R.sgB,R.gfB];omega)
 have hby:s.P.contains b=true:=by simpa using hb
 have e0:doA p s (ask op b c)=deedA p s (ask op b c):=by
  unfold doA
  rw [if_neg (by rw [hfm];decide),if_neg (by show ¬s.P.contains b=false;rw [hby];decide)]
 have key:(doA p s (ask op b c)).1.code=3:=by
  rw [e0]
  have h3:op=2∨op=3∨op=4∨op=5∨op=6:=by omega
  rcases h3 with rfl|rfl|rfl|rfl|rfl
  ·show (awayA true s c).1.code=3
   unfold awayA revA;rw [if_pos hc];rfl
  ·show (D.childA p.d s.d c 1).code=3
   unfold D.childA;rw [if_pos (show hasC s.d.X s.d.l c=false from hc)];rfl
  ·show (awayA false s c).1.code=3
   unfold awayA revA;rw [if_pos hc];rfl
  ·show (readA s true b c 0 0).1.code=3
   have e:valE s true b c 1=3:=by show L.givE s.X s.l 1 c=3;unfold L.givE;rw [if_pos hc]
   unfold readA;rw [e];rfl
  ·show (writeA s true b c 0 []).1.code=3
   have e:valE s true b c 2=3:=by show L.givE s.X s.l 2 c=3;unfold L.givE;rw [if_pos hc]
   unfold writeA;rw [e];rfl
 refine⟨key,?_⟩
 obtain⟨_,t',h1,_,h2⟩:=refuse h (ask op b c) (by rw [key];decide)
 rw [h1,h2 (by rw [key];rintro ⟨_,h|h⟩<;>exact absurd h (by decide))]
end
section
variable {w w':World}{m:Nat}{X:List Tk}{l:Fo}
def cmM:Value→Nat
 | .int _ n=>(n+1).toNat
 | _=>0
def CmR (W:World)(X:List Tk)(l:Fo)(A:List Int)(c:Cp)(d:Bool)(v:Value)(U:World):Prop :=
 ((v=.int .i64 (-1)∧d=false)∨∃(k:Nat) (z:Int),v=.int .i64 (k:Int)∧A[k]?=some z∧Hid (d=cam X l c z))∧Below W.heap.size W U
theorem cam_step (h:Ok m l){c:Cp}{z:Int}(hz:z∈nums l):cam X l c z=(decide ((tk X z).1=c)||cam X l c (par l z)):=by
 obtain⟨q,hq⟩:=mn_.1 hz
 unfold cam
 rw [U_eq h hq,par_eq h hq,List.any_cons]
theorem cam_out {c:Cp}{z:Int}(hz:z∉nums l):cam X l c z=false:=by unfold cam;rw [U_out hz];rfl
theorem tok_cells {T:List Tok}(h:Fl w a (toks T)){t:Tok}(ht:T[j]?=some t):∃g,a=some ⟨g,0,none⟩∧w.cell? ⟨g,j*5,none⟩=some (.int .i64 t.1.1)∧w.cell? ⟨g,j*5+1,none⟩=some (.int .u64 (t.1.2.1:Int))∧w.cell? ⟨g,j*5+2,none⟩=some (.int .u64 (t.1.2.2:Int))∧w.cell? ⟨g,j*5+3,none⟩=some (.int .i64 t.2.1)∧w.cell? ⟨g,j*5+4,none⟩=some (.int .i64 t.2.2):=by
 have hj:=(gS.1 ht).1
 obtain⟨g,rfl,hc⟩:=h (by rw [toks_len5];omega)
 exact⟨g,rfl,hc _ _ (toks_at T j t ht 0 (by omega)),hc _ _ (toks_at T j t ht 1 (by omega)),hc _ _ (toks_at T j t ht 2 (by omega)),hc _ _ (toks_at T j t ht 3 (by omega)),hc _ _ (toks_at T j t ht 4 (by omega))⟩
theorem came_any (h:Ok m l){T:List Tok}{A:List Int}(hT:Tl X l T A){cap:Nat}(hF:Fl w a (toks T))(hn:T.length≤1048576)(c:Cp){y:Int}(hy:A[i]?=some y) :
  Calls prog 20 #[.slice a T.length cap,.int .i64 (i:Int),.agg #[.int .i64 c.1,.int .u64 (c.2.1:Int),.int .u64 (c.2.2:Int)]] w λe w'=>e=.returned (.bool (cam X l c y))∧Below w.heap.size w w':=by
 obtain⟨W,hW⟩:∃W,W=w.alloc (Obj.cells #[.int .i64 c.1,.int .u64 (c.2.1:Int),.int .u64 (c.2.2:Int)] 38):=⟨_,rfl⟩
 have HB:Hid (Below w.heap.size w W):=by rw [hW];exact below1 _ _
 have HX:Hid (R.Bx W w.heap.size [.int .i64 c.1,.int .u64 (c.2.1:Int),.int .u64 (c.2.2:Int)]):=by rw [hW];exact R.Bx.new w [.int .i64 c.1,.int .u64 (c.2.1:Int),.int .u64 (c.2.2:Int)] 38
 have HF:=hid (hF.later HB.o)
 have HT:=hid hT
 have HO:=hid h
 have HY:=hid hy
 have HW:=hid hW
 obtain⟨d,hd⟩:∃d,d=cam X l c y:=⟨_,rfl⟩
 rw [←hd]
 have HD:=hid hd
 obtain⟨n,hnn⟩:∃n,n=T.length:=⟨_,rfl⟩
 have HL:=hid hnn
 rw [←hnn] at hn ⊢
 clear hF hT h hy hW hd hnn
 go_enter func20,ntmps20
 go_upto_region 1 with fail
 have hW:=HW.o
 rw [←hW]
 clear hW HW
 go_loopw [1] (CmR W X l A c d) (λv _=>cmM v)
 case atStart=>exact⟨.inr ⟨i,y,rfl,HY.o,HD⟩,Below.refl _ _⟩
 case round =>
  obtain⟨hc,hB⟩:=hrel
  have HBr:=hid hB
  clear hB
  rcases hc with ⟨rfl,rfl⟩|⟨k,z,rfl,hz,HE⟩
  ·go_wp2
   go_ret
   exact⟨rb_ rfl,b_c HB.o HBr.o⟩
  ·obtain⟨hzn,q,hTk,hq⟩:=HT.o.at_ k z hz
   have hk0:decide ((k:Int)≥0)=true:=dT (by omega)
   have hkn:k<n:=by have:=(gS.1 hTk).1;have:=HL.o;omega
   obtain⟨g,rfl,c0,c1,c2,c3,c4⟩:=tok_cells (HF.o.later HBr.o) hTk
   simp only at c0 c1 c2 c3 c4
   have x0:=(R.Bx.later HBr.o HX.o).cell 0 rfl
   have x1:=(R.Bx.later HBr.o HX.o).cell 1 rfl
   have x2:=(R.Bx.later HBr.o HX.o).cell 2 rfl
   have HQ:=hid hq
   have HC4:=hid c4
   obtain⟨⟨tb,th,tl⟩,htk⟩:∃t,t=(tk X z).1:=⟨_,rfl⟩
   rw [←htk] at c0 c1 c2
   simp only at c0 c1 c2
   obtain⟨e,he⟩:∃e,e=decide (((tb,th,tl):Cp)=c):=⟨_,rfl⟩
   have HStep:Hid (d=(e||cam X l c (par l z))):=by
    unfold Hid
    rw [HE.o,cam_step HO.o hzn,he,htk]
   have HEq:Hid (∀U:World,(binOp .eql 38 (.agg #[.int .i64 tb,.int .u64 (th:Int),.int .u64 (tl:Int)]) (.agg #[.int .i64 c.1,.int .u64 (c.2.1:Int),.int .u64 (c.2.2:Int)])).run prog U=.ok (.bool e) U):=λU=>by rw [he];exact K.eqlCp (tb,th,tl) c U
   have HZN:=hid hzn
   clear hz hzn hTk hq htk he HE
   cases e with
   | true =>
    have heq:=HEq.o
    go_upto_region 2 with fail
    go_quiet (fail)
    go_wp2
    go_ret
    exact⟨rb_ (by rw [HStep.o];rfl),below_drewN (b_c HB.o HBr.o) _⟩
   | false =>
    have heq:=HEq.o
    go_upto_region 2 with fail
    go_quiet (fail)
    go_wp2
    refine⟨⟨?_,below_drewN HBr.o _⟩,?_⟩
    ·rcases HQ.o with ⟨h1,h2⟩|⟨k',h1,h2,h3⟩
     ·refine .inl ⟨by rw [h1],?_⟩
      rw [HStep.o,h2,cam_out (λh=>by have:=nums_nn HO.o h;omega)]
      rfl
     ·exact .inr ⟨k',par l z,by rw [h2],h3,by rw [HStep.o];exact hid rfl⟩
    ·rcases HQ.o with ⟨h1,h2⟩|⟨k',h1,h2,h3⟩
     ·simp only [cmM,h1];omega
     ·simp only [cmM,h2];omega
end
open Go.Proofs.YtfmhdimaijimlaaGreatDoor.M (wpAnyH_norm)
section
variable {w w':World}
def RfRel (w:World)(H:Hd)(n:Nat)(v:Value)(U:World):Prop:=∃(i:Nat) (s:Sta) (N:Nat→Prop),v=.int .i64 (i:Int)∧i≤n∧Kn U H s N∧(∀k,N k→w.heap.size≤k)∧Below w.heap.size w U
theorem ldS {a1:Option Addr}{n1 c1:Nat}{a2:Option Addr}{n2 c2:Nat}{a3:Option Addr}{n3 c3:Nat}{x y z:Int}(h:R.Bx w b (stM a1 n1 c1 a2 n2 c2 a3 n3 c3 x y z)):(Instr.loadAt 53 (.pointer (some ⟨b,0,none⟩))).run prog w=.ok (stV a1 n1 c1 a2 n2 c2 a3 n3 c3 x y z) w:=by
 have:=run_loadVar_mid (P:=prog) w b 0 53 (stM a1 n1 c1 a2 n2 c2 a3 n3 c3 x y z) _ h.range underlying53 rfl (by rw [info53];rfl)
 simp [Instr.loadAt,Instr.sureAddr,this,stM]
theorem Went.low {N N':Nat→Prop}(h:Went w N w' N')(hN:∀k,N k→b≤k)(hb:b≤w.heap.size):∀k,N' k→b≤k:=λk hk=>by
 rcases h.1 k hk with h1|h1
 ·exact hN k h1
 ·omega
end
end Go.Proofs.YtfmhdimaijimlaaGreatDoor.V
