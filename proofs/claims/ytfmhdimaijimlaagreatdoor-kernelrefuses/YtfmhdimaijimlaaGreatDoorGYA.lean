import Derived.Test.YtfmhdimaijimlaaGreatDoorG32
set_option linter.unusedVariables false
set_option linter.unusedSimpArgs false
set_option maxRecDepth 1000000
set_option maxHeartbeats 8000000
namespace Go.Proofs.YtfmhdimaijimlaaGreatDoor.V
open Go.RowKit
open Go.Proofs.YtfmhdimaijimlaaGreatDoor.H (B64 Cp)
section
variable {p:Pm}{s:Sta}
def Rfd (p:Pm)(s:Sta)(c:R.Cl):Prop :=
 (doA p s c).1=rep (doA p s c).1.code∧∃t',(doA p s c).2={ s with t:=t' }∧(c.op=3→(doA p s c).1.code=12→t'=s.t+9)∧(¬(c.op=3∧((doA p s c).1.code=12∨(doA p s c).1.code=11))→t'=s.t)
theorem Rfd.same {c:R.Cl}(e:doA p s c=(rep (doA p s c).1.code,s))(h12:(doA p s c).1.code≠12):Rfd p s c:=by
 refine⟨?_,s.t,?_,fun _ h=>absurd h h12,fun _=>rfl⟩
 ·conv=>lhs;rw [e]
 ·rw [e]
theorem may_codes (e a:Int)(L:List Int)(x:Int):Q.may e a L x=9∨Q.may e a L x=10∨Q.may e a L x=0:=by
 unfold Q.may
 split
 ·exact .inl rfl
 ·split
  ·exact .inr (.inl rfl)
  ·exact .inr (.inr rfl)
theorem der_refuse (h:KF p s)(c:Cp)(r:Int)(hne:(D.childA p.d s.d c r).code≠0) :
  (D.childA p.d s.d c r).c=(0,0,0)∧∃t',(D.childA p.d s.d c r).s={ s.d with t:=t' }∧((D.childA p.d s.d c r).code=12→t'=s.t+9)∧(¬((D.childA p.d s.d c r).code=12∨(D.childA p.d s.d c r).code=11)→t'=s.t):=by
 unfold D.childA at hne ⊢
 by_cases h1:hasC s.d.X s.d.l c=false
 ·rw [if_pos h1]
  exact⟨rfl,s.t,rfl,fun e=>absurd (show (3:Int)=12 from e) (by decide),fun _=>rfl⟩
 ·rw [if_neg h1] at hne ⊢
  by_cases h2:partB 4 (D.rgt s.d c)=false∨partB r (D.rgt s.d c)=false
  ·rw [if_pos h2]
   exact⟨rfl,s.t,rfl,fun e=>absurd (show (4:Int)=12 from e) (by decide),fun _=>rfl⟩
  ·rw [if_neg h2] at hne ⊢
   unfold D.tokR at hne ⊢
   by_cases hm:Q.may p.d.e p.d.a s.d.L c.1≠0
   ·rw [if_pos hm] at hne ⊢
    refine⟨rfl,s.t,rfl,fun e=>?_,fun _=>rfl⟩
    have e':Q.may p.d.e p.d.a s.d.L c.1=12:=e
    rcases may_codes p.d.e p.d.a s.d.L c.1 with h|h|h<;>rw [h] at e'<;>exact absurd e' (by decide)
   ·rw [if_neg hm] at hne ⊢
    by_cases hd:(D.childD p.d s.d c.1).2.1≠0
    ·rw [if_pos hd] at hne ⊢
     obtain⟨q,h3,h4,h5,h6⟩:=D.drawR_spec (P:=D.ofP s.d.X s.d.l c.1) (c:=p.d.c) (n:=p.d.n) (k:=9) (t:=s.t) h.le
     refine⟨rfl,_,rfl,fun e=>?_,fun e=>?_⟩
     ·have e':(D.drawR (D.ofP s.d.X s.d.l c.1) p.d.c p.d.n 9 s.t).2.1=12:=e
      rw [e'] at h6
      rcases h6 with ⟨h7,_⟩|⟨h7,_⟩|⟨_,_,h8,_⟩
      ·exact absurd h7 (by decide)
      ·exact absurd h7 (by decide)
      ·rw [h8] at h3;exact h3
     ·exfalso
      rcases h6 with ⟨h7,_⟩|⟨h7,_⟩|⟨h7,_⟩
      ·exact hd h7
      ·exact e (.inr h7)
      ·exact e (.inl h7)
    ·rw [if_neg hd] at hne
     exact absurd rfl hne
theorem rvE_cases (V:List (Int×List Nat))(id off k:Int):S.rvE V id off k=20∨S.rvE V id off k=5∨S.rvE V id off k=0:=by
 unfold S.rvE
 split
 ·exact .inl rfl
 ·split
  ·exact .inr (.inr rfl)
  ·exact .inr (.inl rfl)
theorem rvL_no {V:List (Int×List Nat)}{id off k:Int}(h:S.rvE V id off k≠0):S.rvL V id off k=[]:=by
 unfold S.rvE at h
 unfold S.rvL
 split
 ·rfl
 ·rename_i l hl
  rw [hl] at h
  simp only at h
  split
  ·rename_i hc;rw [if_pos hc] at h;exact absurd rfl h
  ·rfl
theorem nam_codes (X:List Tk)(l:Fo)(need o:Int):∀(K:List Cp) (e:Int),(e=3∨e=4)→(L.namG (L.givE X l need) o K e).2=3∨(L.namG (L.givE X l need) o K e).2=4∨(L.namG (L.givE X l need) o K e).2=0
 | [],e,h=>h.elim .inl (fun h=>.inr (.inl h))
 | c::r,e,h=>by
  unfold L.namG
  split
  ·exact nam_codes X l need o r e h
  ·split
   ·exact .inr (.inr rfl)
   ·split
    ·exact nam_codes X l need o r 4 (.inr rfl)
    ·exact nam_codes X l need o r e h
theorem val_codes (s:Sta)(g:Bool)(b:Int)(c:Cp)(need:Int):valE s g b c need=3∨valE s g b c need=4∨valE s g b c need=0:=by
 unfold valE
 split
 ·rcases L.givE_cases s.X s.l need c with ⟨_,h⟩|⟨_,_,h⟩|⟨_,_,h⟩
  ·exact .inl h
  ·exact .inr (.inl h)
  ·exact .inr (.inr h)
 ·exact nam_codes _ _ _ _ _ _ (.inl rfl)
theorem pick_codes (lm:Int)(K:List Cp)(G:List Int):M.pickE lm K G≠12:=by
 unfold M.pickE
 split
 ·split<;>decide
 ·decide
theorem refuse (h:KF p s)(c:R.Cl)(hne:(doA p s c).1.code≠0):Rfd p s c:=by
 have key:∀(y:Rep×Sta),doA p s c=y→(∃k:Int,y=(rep k,s)∧k≠12)→Rfd p s c:=by
  rintro y e ⟨k,rfl,hk⟩
  exact Rfd.same (by rw [e];rfl) (by rw [e];exact hk)
 by_cases h1:R.fm c=false
 ·exact key _ (by unfold doA;rw [if_pos h1]) ⟨1,rfl,by decide⟩
 by_cases h2:s.P.contains c.by_=false
 ·exact key _ (by unfold doA;rw [if_neg h1,if_pos h2]) ⟨2,rfl,by decide⟩
 have e0:doA p s c=deedA p s c:=by unfold doA;rw [if_neg h1,if_neg h2]
 rw [e0] at key hne
 by_cases o1:c.op=1
 ·have e1:deedA p s c=creA p s c.size:=by unfold deedA;rw [if_pos o1]
  rw [e1] at key hne
  unfold creA at key hne
  by_cases hm:S.mayV p.room p.pgs s.nx s.V c.size≠0
  ·rw [if_pos hm] at key
   refine key _ rfl ⟨_,rfl,?_⟩
   unfold S.mayV
   split
   ·decide
   ·split
    ·decide
    ·split<;>decide
  ·rw [if_neg hm] at key hne
   rcases root_cases h with ⟨h3,h4⟩|⟨h3,_⟩
   ·rw [if_pos h3] at key
    refine key _ rfl ⟨_,by rw [h4],?_⟩
    unfold D.rootA
    split
    ·exact (show (19:Int)≠12 by decide)
    ·unfold D.tokR
     split
     ·rcases may_codes p.d.e p.d.a s.d.L s.nx with h|h|h<;>(simp only [D.no];rw [h];decide)
     ·split
      ·unfold D.drawD
       split
       ·exact (show (0:Int)≠12 by decide)
       ·exact (show (11:Int)≠12 by decide)
      ·exact (show (0:Int)≠12 by decide)
   ·rw [if_neg (by simpa using h3)] at hne
    exact absurd rfl hne
 by_cases o2:c.op=2
 ·have e1:deedA p s c=awayA true s (cpO c):=by unfold deedA;rw [if_neg o1,if_pos o2]
  rw [e1] at key hne
  unfold awayA revA at key hne
  by_cases g1:hasC s.X s.l (cpO c)=false
  ·rw [if_pos g1] at key;exact key _ rfl ⟨3,rfl,by decide⟩
  ·rw [if_neg g1] at key hne
   by_cases g2:partB (needB true) (rg s.X (findN s.X s.l (cpO c)))=false
   ·rw [if_pos g2] at key;exact key _ rfl ⟨4,rfl,by decide⟩
   ·rw [if_neg g2] at hne;exact absurd rfl hne
 by_cases o3:c.op=3
 ·have e1:deedA p s c=derA p s (cpO c) c.rights:=by unfold deedA;rw [if_neg o1,if_neg o2,if_pos o3]
  rw [e1] at hne
  obtain⟨h3,t',h4,h5,h6⟩:=der_refuse h (cpO c) c.rights hne
  have e2:=e0.trans e1
  refine⟨?_,t',?_,fun _ e=>?_,fun e=>?_⟩
  ·rw [e2];unfold derA rep;rw [h3]
  ·rw [e2];unfold derA;rw [h4];rfl
  ·rw [e2] at e;exact h5 e
  ·rw [e2] at e;exact h6 (fun h=>e ⟨o3,h⟩)
 by_cases o4:c.op=4
 ·have e1:deedA p s c=awayA false s (cpO c):=by unfold deedA;rw [if_neg o1,if_neg o2,if_neg o3,if_pos o4]
  rw [e1] at key hne
  unfold awayA revA at key hne
  by_cases g1:hasC s.X s.l (cpO c)=false
  ·rw [if_pos g1] at key;exact key _ rfl ⟨3,rfl,by decide⟩
  ·rw [if_neg g1] at key hne
   by_cases g2:partB (needB false) (rg s.X (findN s.X s.l (cpO c)))=false
   ·rw [if_pos g2] at key;exact key _ rfl ⟨4,rfl,by decide⟩
   ·rw [if_neg g2] at hne;exact absurd rfl hne
 by_cases o5:c.op=5
 ·have e1:deedA p s c=readA s c.given c.by_ (cpO c) c.off c.n:=by unfold deedA;rw [if_neg o1,if_neg o2,if_neg o3,if_neg o4,if_pos o5]
  rw [e1] at key hne
  unfold readA at key hne
  by_cases g1:valE s c.given c.by_ (cpO c) 1≠0
  ·rw [if_pos g1] at key
   refine key _ rfl ⟨_,rfl,?_⟩
   rcases val_codes s c.given c.by_ (cpO c) 1 with h|h|h<;>rw [h]<;>decide
  ·rw [if_neg g1] at key hne
   refine key _ rfl ⟨S.rvE s.V (cpO c).1 c.off c.n,by rw [rvL_no hne];rfl,?_⟩
   rcases rvE_cases s.V (cpO c).1 c.off c.n with h|h|h<;>rw [h]<;>decide
 by_cases o6:c.op=6
 ·have e1:deedA p s c=writeA s c.given c.by_ (cpO c) c.off c.data:=by unfold deedA;rw [if_neg o1,if_neg o2,if_neg o3,if_neg o4,if_neg o5,if_pos o6]
  rw [e1] at key hne
  unfold writeA at key hne
  by_cases g1:valE s c.given c.by_ (cpO c) 2≠0
  ·rw [if_pos g1] at key
   refine key _ rfl ⟨_,rfl,?_⟩
   rcases val_codes s c.given c.by_ (cpO c) 2 with h|h|h<;>rw [h]<;>decide
  ·rw [if_neg g1] at key hne
   have hne':S.rvE s.V (cpO c).1 c.off (c.data.length:Int)≠0:=hne
   refine key _ rfl ⟨S.rvE s.V (cpO c).1 c.off (c.data.length:Int),by unfold S.wrV;rw [if_neg hne'],?_⟩
   rcases rvE_cases s.V (cpO c).1 c.off (c.data.length:Int) with h|h|h<;>rw [h]<;>decide
 by_cases o7:c.op=7
 ·have e1:deedA p s c=addA p s c.by_ (cpO c):=by unfold deedA;rw [if_neg o1,if_neg o2,if_neg o3,if_neg o4,if_neg o5,if_neg o6,if_pos o7]
  rw [e1] at key hne
  unfold addA at key hne
  by_cases g1:fitB p.W (cpO c)=false
  ·rw [if_pos g1] at key;exact key _ rfl ⟨18,rfl,by decide⟩
  ·rw [if_neg g1] at key hne
   by_cases g2:p.lm≤((s.D c.by_).length:Int)
   ·rw [if_pos g2] at key;exact key _ rfl ⟨14,rfl,by decide⟩
   ·rw [if_neg g2] at hne;exact absurd rfl hne
 by_cases o8:c.op=8
 ·have e1:deedA p s c=remA s c.by_ c.index:=by unfold deedA;rw [if_neg o1,if_neg o2,if_neg o3,if_neg o4,if_neg o5,if_neg o6,if_neg o7,if_pos o8]
  rw [e1] at key hne
  unfold remA at key hne
  by_cases g1:M.okI (s.D c.by_) c.index=false
  ·rw [if_pos g1] at key;exact key _ rfl ⟨15,rfl,by decide⟩
  ·rw [if_neg g1] at hne;exact absurd rfl hne
 by_cases o9:c.op=9
 ·have e1:deedA p s c=spaA p s c.by_ c.gifts:=by unfold deedA;rw [if_neg o1,if_neg o2,if_neg o3,if_neg o4,if_neg o5,if_neg o6,if_neg o7,if_neg o8,if_pos o9]
  rw [e1] at key hne
  unfold spaA at key hne
  by_cases g1:M.pickE p.lm (s.D c.by_) c.gifts≠0
  ·rw [if_pos g1] at key;exact key _ rfl ⟨_,rfl,pick_codes _ _ _⟩
  ·rw [if_neg g1] at key hne
   by_cases g2:P.fullP p.pm s.px s.P=true
   ·rw [if_pos g2] at key;exact key _ rfl ⟨13,rfl,by decide⟩
   ·rw [if_neg g2] at hne;exact absurd rfl hne
 ·have e1:deedA p s c=exiA s c.by_:=by unfold deedA;rw [if_neg o1,if_neg o2,if_neg o3,if_neg o4,if_neg o5,if_neg o6,if_neg o7,if_neg o8,if_neg o9]
  rw [e1] at hne
  exact absurd rfl hne
end
end Go.Proofs.YtfmhdimaijimlaaGreatDoor.V
