import Derived.Test.YtffmodpgddecnaaGreatDoorZ28
import Derived.Test.YtffmodpgddecnaaGreatDoorZ29
import Derived.Test.YtffmodpgddecnaaGreatDoorZ20
set_option linter.unusedVariables false
set_option linter.unusedSimpArgs false
set_option maxRecDepth 100000
set_option maxHeartbeats 2000000
namespace Go.Proofs.YtffmodpgddecnaaGreatDoor.V
open Go.RowKit
open Go.Proofs.YtffmodpgddecnaaGreatDoor.H (aq Cp)
section
variable {p:Pm}{s:aP}{d:Nat->List K.Pu}
theorem jO (h:D.Fit p.d s.d)(o:Int)(Dr:Nat×Int×Nat)(q r:Int)(hy:Q.may p.e (p.mo:Int) s.L o=0->Dr.2.1=0->D.EG p.d s.d (D.cap o Dr.1) q r) :
  ((D.fk p.d s.d o Dr q r).code≠0/\(D.fk p.d s.d o Dr q r).c=(0,0,0)/\((D.fk p.d s.d o Dr q r).s=s.d\/(D.fk p.d s.d o Dr q r).s={ s.d with t:=Dr.2.2 })) \/
  ((D.fk p.d s.d o Dr q r).code=0/\(D.fk p.d s.d o Dr q r).c=D.cap o Dr.1/\(D.fk p.d s.d o Dr q r).s=D.ru s.d o Dr.1 q r Dr.2.2/\D.EG p.d s.d (D.cap o Dr.1) q r/\gw p.mo s.X s.l q (D.cap o Dr.1) r=⟨(low s.l:Int),0,s.X.set (low s.l) (D.cap o Dr.1,r),s.l++[((low s.l:Int),q)]⟩/\s.l.length<p.mo):=by
 unfold D.fk;by_cases hm:Q.may p.d.e p.d.a s.d.L o≠0
 ·rw [if_pos hm];exact .inl ⟨hm,rfl,.inl rfl⟩
 ·rw [if_neg hm]
  have hm0:Q.may p.d.e p.d.a s.d.L o=0:=by simpa using hm
  by_cases hd:Dr.2.1≠0
  ·rw [if_pos hd];exact .inl ⟨hd,rfl,.inr rfl⟩
  ·rw [if_neg hd]
   have hy:=hy hm0 (by simpa using hd)
   exact .inr ⟨rfl,rfl,rfl,hy,D.ph h hm0 hy.new,h.room hm0⟩
theorem KF.put (h:KF p s){a:D.aP}(hf:D.Fit p.d a)(ho:∀o,dR a.X a.l o=true↔dR s.X s.l o=true):KF p (iP s a) :=
 ⟨⟨hf.inv,hf.mO,hf.len,λo=>(h.fit.obj o).trans (ho o).symm,h.fit.ids⟩,hf.le,h.cs,h.iv,h.ln,h.wd,h.lm,h.ks,h.nx⟩
theorem KF.d_ (h:KF p s):D.Fit p.d s.d:=⟨h.fit.inv,h.fit.mO,h.fit.len,Int.le_refl _,h.le,h.cs⟩
theorem q7 (h:KF p s){o:Int}{N:Nat}{q r:Int}{t:Nat}(hl:s.l.length<p.mo)(x:Int):dR (D.ru s.d o N q r t).X (D.ru s.d o N q r t).l x=true↔(x=o\/dR s.X s.l x=true):=by
 rw [D.dD,D.dD];have:=D.vp h.fit.inv q (D.cap o N) r (oA h.fit.inv.ok hl) (eK s.l) x
 show 0<jF (s.X.set (low s.l) (D.cap o N,r)) (s.l++[((low s.l:Int),q)]) x↔_
 rw [this];by_cases e:(D.cap o N).1=x
 ·rw [if_pos e];exact⟨λ_=>.inl e.symm,λ_=>by omega⟩
 ·rw [if_neg e]
  exact⟨λh=>.inr h,λh=>h.elim (λe2=>absurd e2.symm e) (λh=>h)⟩
theorem FP (h:KF p s):¬0<jF s.X s.l s.nx:=λe=>by
 have h1:=(h.fit.obj s.nx).2 (D.dD.2 e)
 obtain⟨x,hx,e2⟩:=h1
 have:=(h.fit.ids x hx).2
 omega
theorem la (h:KF p s):((D.bD p.d s.d s.nx).code≠0/\iP s (D.bD p.d s.d s.nx).s=s) \/
  ((D.bD p.d s.d s.nx).code=0/\s.t<p.n/\(D.bD p.d s.d s.nx).c=D.cap s.nx (p.c s.t)/\(D.bD p.d s.d s.nx).s=D.ru s.d s.nx (p.c s.t) (-1) 31 (s.t+1)/\D.EG p.d s.d (D.cap s.nx (p.c s.t)) (-1) 31/\gw p.mo s.X s.l (-1) (D.cap s.nx (p.c s.t)) 31=⟨(low s.l:Int),0,s.X.set (low s.l) (D.cap s.nx (p.c s.t),31),s.l++[((low s.l:Int),-1)]⟩/\s.l.length<p.mo):=by
 have hn:=FP h
 unfold D.bD;rw [if_neg (show ¬0<jF s.d.X s.d.l s.nx from hn)];have ht:=jO h.d_ s.nx (D.cX p.d s.t) (-1) 31 (λ_ _=>D.uC h.d_ hn (D.gA h.d_ s.t))
 by_cases hlt:s.t<p.n
 ·have e:D.cX p.d s.t=(p.c s.t,0,s.t+1):=by unfold D.cX;rw [if_pos (show s.t<p.d.n from hlt)];rfl
  have e2:D.cX p.d s.d.t=(p.c s.t,0,s.t+1):=e
  rw [e] at ht;rw [e2];rcases ht with ⟨h1,_,h2|h2⟩|⟨h1,h2,h3,h4,h5,h6⟩
  ·exact .inl ⟨h1,by rw [h2];rfl⟩
  ·by_cases hm:Q.may p.d.e p.d.a s.d.L s.nx≠0
   ·refine .inl ⟨h1,?_⟩
    unfold D.fk;rw [if_pos hm];rfl
   ·exact absurd (by unfold D.fk;rw [if_neg hm,if_neg (λ(e:(0:Int)≠0)=>e rfl)]) h1
  ·exact .inr ⟨h1,hlt,h2,h3,h4,h5,h6⟩
 ·have e:D.cX p.d s.t=(0,11,s.t):=by unfold D.cX;rw [if_neg (show ¬s.t<p.d.n from hlt)]
  have e2:D.cX p.d s.d.t=(0,11,s.t):=e
  rw [e] at ht;rw [e2];refine .inl ?_
  rcases ht with ⟨h1,_,h2|h2⟩|⟨h1,_⟩
  ·exact⟨h1,by rw [h2];rfl⟩
  ·exact⟨h1,by rw [h2];rfl⟩
  ·exfalso
   unfold D.fk at h1;by_cases hm:Q.may p.d.e p.d.a s.d.L s.nx≠0
   ·rw [if_pos hm] at h1;exact hm h1
   ·rw [if_neg hm,if_pos (show (11:Int)≠0 by decide)] at h1;exact absurd (show (11:Int)=0 from h1) (by decide)
theorem AU {V:List (Int×List Nat)}{x:Int×List Nat}{o:Int}:(∃q∈V++[x],q.1=o)↔(o=x.1\/∃q∈V,q.1=o):=by
 constructor
 ·rintro ⟨q,hq,e⟩
  rcases List.mem_append.1 hq with h|h
  ·exact .inr ⟨q,h,e⟩
  ·rw [List.mem_singleton.1 h] at e;exact .inl e.symm
 ·rintro (e|⟨q,hq,e⟩)
  ·exact⟨x,by simp,e.symm⟩
  ·exact⟨q,by simp [hq],e⟩
theorem Fy {p:Pm}{size:Int}(hm:S.fv p.room p.rZ s.nx s.V size=0):s.nx<=4611686018427387904:=by
 unfold S.fv at hm;by_cases h1:size<0\/4096<size
 ·rw [if_pos h1] at hm;exact absurd hm (by decide)
 ·rw [if_neg h1] at hm
  by_cases h2:p.room<=s.V.length\/4611686018427387904<s.nx
  ·rw [if_pos h2] at hm;exact absurd hm (by decide)
  ·omega
theorem FQ (h:KF p s)(ht:L.Tr s.X s.l d)(size:Int):KF p (rR p s size).2/\L.Tr (rR p s size).2.X (rR p s size).2.l d:=by
 unfold rR;by_cases hm:S.fv p.room p.rZ s.nx s.V size≠0
 ·rw [if_pos hm];exact⟨h,ht⟩
 ·rw [if_neg hm]
  have hm0:S.fv p.room p.rZ s.nx s.V size=0:=by simpa using hm
  rcases la h with ⟨h1,h2⟩|⟨h1,h2,h3,h4,h5,h6,hl⟩
  ·rw [if_pos h1,h2];exact⟨h,ht⟩
  ·rw [if_neg (by simpa using h1)]
   have hF:=D.Fit.root h.d_ s.nx
   have hnx:=h.nx
   have hnx2:=Fy hm0
   rw [h4] at hF ⊢
   refine⟨⟨⟨hF.inv,hF.mO,hF.len,λo=>?_,λq hq=>?_⟩,hF.le,h.cs,h.iv,h.ln,h.wd,h.lm,h.ks,⟨by show 1<=s.nx+1;omega,by show s.nx+1<=_;omega⟩⟩,?_⟩
   ·show (∃q∈s.V++[(s.nx,List.replicate size.toNat 0)],q.1=o)↔_
    rw [AU];exact (or_congr Iff.rfl (h.fit.obj o)).trans (q7 (t:=s.t+1) h hl o).symm
   ·show 1<=q.1/\q.1<s.nx+1
    rcases List.mem_append.1 (show q∈s.V++[(s.nx,List.replicate size.toNat 0)] from hq) with h7|h7
    ·have:=h.fit.ids q h7;omega
    ·rw [List.mem_singleton.1 h7];simp;omega
   ·have:=L.Tr.add (m:=p.mo) ht h.fit.inv (-1) (D.cap s.nx (p.c s.t)) 31 (by rw [h6];exact hF.inv)
    rw [h6] at this;exact this
theorem FY (h:KF p s)(ht:L.Tr s.X s.l d)(c:Cp)(r:Int):KF p (rN p s c r).2/\L.Tr (rN p s c r).2.X (rN p s c r).2.l d:=by
 unfold rN;have hF:=D.Fit.child h.d_ c r
 have hcase:((D.bs p.d s.d c r).s=s.d\/∃t,(D.bs p.d s.d c r).s={ s.d with t:=t })\/∃N t,aR s.X s.l c=true/\(D.bs p.d s.d c r).s=D.ru s.d c.1 N (aG s.X s.l c) r t/\D.EG p.d s.d (D.cap c.1 N) (aG s.X s.l c) r/\gw p.mo s.X s.l (aG s.X s.l c) (D.cap c.1 N) r=⟨(low s.l:Int),0,s.X.set (low s.l) (D.cap c.1 N,r),s.l++[((low s.l:Int),aG s.X s.l c)]⟩/\s.l.length<p.mo:=by
  unfold D.bs;by_cases h1:aR s.d.X s.d.l c=false
  ·rw [if_pos h1];exact .inl (.inl rfl)
  ·rw [if_neg h1]
   by_cases h2:aE 4 (D.eE s.d c)=false\/aE r (D.eE s.d c)=false
   ·rw [if_pos h2];exact .inl (.inl rfl)
   ·rw [if_neg h2]
    have hc:aR s.d.X s.d.l c=true:=by simpa using h1
    have hp:aE r (D.eE s.d c)=true:=by
     cases hq:aE r (D.eE s.d c) with
     | true=>rfl
     | false=>exact absurd (.inr hq) h2
    rcases jO h.d_ c.1 (D.bg p.d s.d c.1) (aG s.X s.l c) r (λ_ hd=>D.lH h.d_ hc hp hd) with ⟨_,_,h3|h3⟩|⟨_,_,h3,h4,h5,h6⟩
    ·exact .inl (.inl h3)
    ·exact .inl (.inr ⟨_,h3⟩)
    ·exact .inr ⟨_,_,hc,h3,h4,h5,h6⟩
 rcases hcase with (h1|⟨t,h1⟩)|⟨N,t,hc,h1,h2,h3,hl⟩
 ·rw [h1] at hF ⊢;exact⟨h.put hF (λ_=>Iff.rfl),ht⟩
 ·rw [h1] at hF ⊢;exact⟨h.put hF (λ_=>Iff.rfl),ht⟩
 ·rw [h1] at hF ⊢
  refine⟨h.put hF (λo=>(q7 h hl o).trans ⟨λe=>e.elim (λe=>by rw [e];exact fI hc) (λe=>e),λe=>.inr e⟩),?_⟩
  have:=L.Tr.add (m:=p.mo) ht h.fit.inv (aG s.X s.l c) (D.cap c.1 N) r (by rw [h3];exact hF.inv)
  rw [h3] at this;exact this
theorem ve (h:KF p s)(all:Bool)(c:Cp)(hi:Inv p.mo (cN all s c).2.X (cN all s c).2.l):KF p (cN all s c).2:=by
 unfold cN eC at hi ⊢
 by_cases h1:aR s.X s.l c=false
 ·rw [if_pos h1];exact h
 ·rw [if_neg h1] at hi ⊢
  by_cases h2:aE (vi all) (rg s.X (aG s.X s.l c))=false
  ·rw [if_pos h2];exact h
  ·rw [if_neg h2] at hi ⊢
   have hw:=uy h.fit.inv (by simpa using h1) all
   exact⟨(uh h.fit hw.1 hw.2.1 hi).1,h.le,h.cs,h.iv,h.ln,h.wd,h.lm,h.ks,h.nx⟩
theorem vG (V:List (Int×List Nat))(id off:Int)(Q:List Nat):(S.B6 V id off Q).map Prod.fst=V.map Prod.fst:=by
 unfold S.B6;split
 ·rw [List.map_map]
  refine List.map_congr_left (λx _=>?_)
  simp only [Function.comp,S.DZ];split<;>rfl
 ·rfl
theorem zv {V:List (Int×List Nat)}{P:Int->Prop}:(∃q∈V,P q.1)↔∃i∈V.map Prod.fst,P i:=by simp
theorem yG (h:KF p s)(id off:Int)(Q:List Nat):KF p { s with V:=S.B6 s.V id off Q } :=
 ⟨⟨h.fit.inv,h.fit.mO,h.fit.len,λo=>by
   show (∃q∈S.B6 s.V id off Q,q.1=o)↔_
   rw [zv (P:=(·=o)),vG,<-zv (P:=(·=o))];exact h.fit.obj o,λq hq=>by
   have h1:q.1∈(S.B6 s.V id off Q).map Prod.fst:=List.mem_map.2 ⟨q,hq,rfl⟩
   rw [vG] at h1;obtain⟨x,hx,e⟩:=List.mem_map.1 h1
   rw [<-e];exact h.fit.ids x hx⟩,h.le,h.cs,h.iv,h.ln,h.wd,h.lm,h.ks,h.nx⟩
theorem uZ (h:KF p s)(i:Int)(Q:List Cp)(h1:(Q.length:Int)<=p.lm)(h2:∀c∈Q,c.2.1<aq/\c.2.2<aq):KF p { s with D:=fW s.D i Q } :=
 ⟨⟨h.fit.inv,h.fit.mO,h.fit.len,h.fit.obj,h.fit.ids⟩,h.le,h.cs,h.iv,λj hj=>by
   show ((fW s.D i Q j).length:Int)<=p.lm
   unfold fW;split
   ·exact h1
   ·exact h.ln j hj,λj hj c hc=>by
   have hc':c∈fW s.D i Q j:=hc
   unfold fW at hc';split at hc'
   ·exact h2 c hc'
   ·exact h.wd j hj c hc',h.lm,h.ks,h.nx⟩
theorem Fj (h:KF p s)(i:Int)(hi:i∈s.P)(c:Cp)(hw:c.2.1<aq/\c.2.2<aq):KF p (zY p s i c).2:=by
 unfold zY;by_cases h1:rQ p.W c=false
 ·rw [if_pos h1];exact h
 ·rw [if_neg h1]
  by_cases h2:p.lm<=((s.D i).length:Int)
  ·rw [if_pos h2];exact h
  ·rw [if_neg h2]
   refine uZ h i _ (by simp;omega) (λx hx=>?_)
   rcases List.mem_append.1 hx with h3|h3
   ·exact h.wd i hi x h3
   ·rw [List.mem_singleton.1 h3];exact hw
theorem Gk (h:KF p s)(i:Int)(hi:i∈s.P)(x:Int):KF p (fU s i x).2:=by
 unfold fU;by_cases h1:M.jg (s.D i) x=false
 ·rw [if_pos h1];exact h
 ·rw [if_neg h1]
  refine uZ h i _ ?_ (λy hy=>?_)
  ·have:=h.ln i hi
   simp only [List.length_append,List.length_take,List.length_drop];omega
  ·rcases List.mem_append.1 hy with h3|h3
   ·exact h.wd i hi y (List.mem_of_mem_take h3)
   ·exact h.wd i hi y (List.mem_of_mem_drop h3)
theorem xW {m:Int}{Q:List Cp}{G:List Int}(hv:M.bL m Q G=0):((M.cM m Q G).length:Int)<=m:=by
 unfold M.cM;rw [if_pos hv,List.length_map];unfold M.bL at hv;by_cases ha:G.all (M.jg Q)=true
 ·rw [if_pos ha] at hv
  by_cases hb:m<(G.length:Int)
  ·rw [if_pos hb] at hv;exact absurd hv (by decide)
  ·omega
 ·rw [if_neg ha] at hv;exact absurd hv (by decide)
theorem zE {m:Int}{Q:List Cp}{G:List Int}(hv:M.bL m Q G=0):∀c∈M.cM m Q G,c∈Q:=by
 unfold M.cM;rw [if_pos hv];have ha:G.all (M.jg Q)=true:=by
  cases hq:G.all (M.jg Q) with
  | true=>rfl
  | false=>rw [(M.qE hq).1] at hv;exact absurd hv (by decide)
 intro c hc;obtain⟨x,hx,rfl⟩:=List.mem_map.1 hc
 obtain⟨k,_,hk,hk2⟩:=M.zh (List.all_eq_true.1 ha x hx)
 exact List.mem_of_getElem? hk2
theorem Hn (h:KF p s)(i:Int)(hi:i∈s.P)(G:List Int):KF p (AO p s i G).2:=by
 unfold AO;by_cases h1:M.bL p.lm (s.D i) G≠0
 ·rw [if_pos h1];exact h
 ·rw [if_neg h1]
  have h10:M.bL p.lm (s.D i) G=0:=by simpa using h1
  by_cases h2:P.dF p.pm s.px s.P=true
  ·rw [if_pos h2];exact h
  ·rw [if_neg h2]
   have hiv:=h.iv.spawn
   have e3:P.zl p.pm s.px s.P=s.px+1:=by unfold P.zl;rw [if_neg h2]
   have e4:P.yY p.pm s.px s.P=s.P++[s.px]:=by unfold P.yY;rw [if_neg h2]
   rw [e3,e4] at hiv;refine⟨⟨h.fit.inv,h.fit.mO,h.fit.len,h.fit.obj,h.fit.ids⟩,h.le,h.cs,hiv,λj hj=>?_,λj hj c hc=>?_,h.lm,by show s.ks++[s.px]=s.P++[s.px];rw [h.ks],h.nx⟩
   ·show ((fW s.D s.px _ j).length:Int)<=p.lm
    unfold fW;split
    ·exact xW h10
    ·rename_i hne
     rcases List.mem_append.1 hj with h5|h5
     ·exact h.ln j h5
     ·exact absurd (List.mem_singleton.1 h5) hne
   ·have hc':c∈fW s.D s.px (M.cM p.lm (s.D i) G) j:=hc
    unfold fW at hc';split at hc'
    ·exact h.wd i hi c (zE h10 c hc')
    ·rename_i hne
     rcases List.mem_append.1 hj with h5|h5
     ·exact h.wd j h5 c hc'
     ·exact absurd (List.mem_singleton.1 h5) hne
theorem G4 (h:KF p s)(i:Int):KF p (Er s i).2 :=
 ⟨⟨h.fit.inv,h.fit.mO,h.fit.len,h.fit.obj,h.fit.ids⟩,h.le,h.cs,h.iv.exit i,λj hj=>h.ln j (P.js.1 hj).1,λj hj=>h.wd j (P.js.1 hj).1,h.lm,by show P.out s.ks i=P.out s.P i;rw [h.ks],h.nx⟩
end
end Go.Proofs.YtffmodpgddecnaaGreatDoor.V
namespace Go.Proofs.YtffmodpgddecnaaGreatDoor.V
open Go.RowKit
open Go.Proofs.YtffmodpgddecnaaGreatDoor.H (aq Cp)
open Go.Proofs.YtffmodpgddecnaaGreatDoor.M (ba)
section
variable {w w':World}{H:Hd}{s s':aP}{d d':Nat->List K.Pu}{O:Nat->Nat->Prop}{N:Nat->Prop}{c:R.Cl}{dd gg:R.Sl}{b:Nat}
theorem mf (h:aI w H s d N)(ht:L.Tr s.X s.l d)(hf:KF H.p s)(hw:c.hi<aq/\c.lo<aq)(hby:c.aB∈s.P)(ho:S.bp c.obj)(hv:dQ s c.given c.aB (bZ c) 2=0)(hR:Row w dd.a dd.n dd.c (S.bG c.data))(hD:∀x∈c.data,x<256)(hap:0<dd.n->∀j,aJ dd.a j->¬N j/\j<w.heap.size) :
  Calls Tryz.prog 106 #[.pointer (some ⟨H.kb,0,none⟩),.agg (R.cC c dd gg).toArray] w λe w'=>∃T,e=.returned (dw (rep (S.wP s.V c.obj c.off (dd.n:Int))) none 0 0)/\aI w' H { s with V:=S.B6 s.V c.obj c.off c.data } T N/\L.Tr s.X s.l T/\ah N w w':=by
 obtain⟨W,hW⟩:∃W,W=(w.alloc (Obj.cells (R.cC c dd gg).toArray 44)).alloc z6:=⟨_,rfl⟩
 have hB:Below w.heap.size w W:=by rw [hW];exact aC _ _ _
 have hX:R.Bx W w.heap.size (R.cC c dd gg):=by rw [hW];exact R.Bx.later (ae _ _) (R.Bx.new w (R.cC c dd gg) 44)
 have hZ:Zr W (w.heap.size+1):=by rw [hW];have:=Zr.new (w.alloc (Obj.cells (R.cC c dd gg).toArray 44));simpa using this
 have h2:=h.later hB
 have HC:=ab (bK (dd:=dd) (gg:=gg) h2 ht hf 2 hw hby)
 have P5:=ab (DG hX)
 have hq:(dQ s c.given c.aB (bZ c) 2 != 0)=false:=by simpa using hv
 rw [hv] at HC;have HO:=ab ho
 obtain⟨E,hE⟩:∃E,E=S.wP s.V c.obj c.off (dd.n:Int):=⟨_,rfl⟩
 rw [<-hE];have HEq:=ab hE
 have VZ:=ab hap
 have WJ:=ab (Row.later hB hR)
 have Wh:=ab hD
 have HW:=ab hW
 have HB:=ab hB
 have HX:=ab hX
 have HZ:=ab hZ
 have HD:=ab h2
 have HP:Hid (0<w.heap.size):=by have:=h.b0;unfold Hid;omega
 have HN:=ab (λk hk=>h.new (k:=k) hk)
 clear h h2 hB hX hZ hW ht hf hv hq ho hE hap hR hD;go_enter Tryz.func106,Tryz.ntmps106
 go_upto_region 1 with fail
 rw [<-HW.out];go_upto_region 2 with (first|((with_reducible refine R.aV P5.out ?_ ?_);(· rfl))|(go_at_call 186;refine HC.out.mono ?_;rintro e w1 ⟨rfl,T,hd1,ht1,hb1⟩;have P6:=ab hd1;have Rq:=ab ht1;have PC:Hid (ah N W w1):=hb1;clear hd1 ht1 hb1))
 have Qe:=ab (R.Bx.but PC.out HX.out (HN.out _ (Nat.le_refl _)))
 have Qo:=ab (HZ.out.but PC.out (HN.out _ (by omega)))
 have QD:Hid (Row w1 dd.a dd.n dd.c (S.bG c.data)):=Bm WJ.out PC.out (λh0 k hk=>(VZ.out h0 k hk).1)
 have R8:=ab (λ(U:World) (hU:Below w1.heap.size w1 U)=>Hf (P6.out.later hU) c.obj c.off dd.a dd.n dd.c c.data HO.out (Row.later hU QD.out) Wh.out (λh0 k hk=>(VZ.out h0 k hk).1))
 rw [<-HEq.out] at R8;have QT:Hid (∀U {s d},aI U H s d N->ah (λk=>N k\/k=w.heap.size+1) w1 U->U.cell? ⟨H.kb,11,none⟩=some (.pointer (some ⟨H.z.s,0,none⟩))/\U.cell? ⟨w.heap.size,3,none⟩=some (.int .i64 c.obj)/\U.cell? ⟨w.heap.size,8,none⟩=some (.int .i64 c.off)/\U.cell? ⟨w.heap.size,10,none⟩=some (dd.v)):=λU s d hd hb=>by
  have:=Cb.of (R.Bx.but hb Qe.out (λe=>e.elim (HN.out _ (Nat.le_refl _)) (λe=>by omega)))
  exact⟨hd.kb 11 _ rfl,this.c3,this.c8,this.GR⟩
 have Qv:=ab (λU (hU:ah (λ_=>False) w1 U)=>QT.out U (P6.out.but hU (λ_ _ h=>h) (λh=>h)) (hU.mono (λ_ h=>h.elim)))
 clear HC P5;go_upto_region 4 with fail
 refine wp_region_held_drew (S:=(λU:World=>U.cell? ⟨H.kb,11,none⟩=some (.pointer (some ⟨H.z.s,0,none⟩))/\U.cell? ⟨w.heap.size,3,none⟩=some (.int .i64 c.obj)/\U.cell? ⟨w.heap.size,8,none⟩=some (.int .i64 c.off)/\U.cell? ⟨w.heap.size,10,none⟩=some (dd.v))) (by kernel_rfl) (Qv.out _ (ah.of (Below.refl _ _).drew)) (λhHeld=>?_)
 refine nm 14 0 14 ?_
 refine tn 0 14 1 13 ?_
 simp only [zz];refine tn 1 14 3 12 ?_
 simp only [zz];refine tn 2 14 7 11 ?_
 simp only [zz];refine tn 3 14 15 10 ?_
 simp only [zz];refine tn 4 14 31 9 ?_
 simp only [zz];refine tn 5 14 63 8 ?_
 simp only [zz];refine tn 6 14 127 7 ?_
 simp only [zz];refine tn 7 14 255 6 ?_
 simp only [zz];refine tn 8 14 511 5 ?_
 simp only [zz];refine tn 9 14 1023 4 ?_
 simp only [zz];refine tn 10 14 2047 3 ?_
 simp only [zz];refine zr 11 λK hK=>?_
 go_simp
 go_wp2_with (first|(go_at_call 188;refine (R8.out w1.drew (Below.refl _ _).drew).mono ?_;rintro e w2 ⟨rfl,hd2,hb2⟩;have Qn:=ab hd2;have PB:Hid (ah N w1 w2):=(ah.of (Below.refl _ _).drew).trans hb2;have HE:=ab (λU (hU:ah (λk=>k=w.heap.size+1) w2 U)=>QT.out U (hd2.but hU (λk hk e=>HN.out k (by omega) hk) (λe=>by have:=HP.out;omega)) (((PB.out).mono (λk hk=>Or.inl hk)).comp hU (λi e=>.inl (.inr e))));have PO:=ab (Qo.out.but PB.out (HN.out _ (by omega)));have PU:=ab (PO.out.lv (rep E) none 0 0);have PT:=ab (PO.out.st (rep E) none 0 0);have PK:Hid (ah (λk=>k=w.heap.size+1) w2 (w2.setCells (w.heap.size+1) 0 (fM (rep E) none 0 0))):=R.ay (S:=(λk=>k=w.heap.size+1)) rfl _ 0 (ah.refl _ _);clear hd2 hb2))
 refine zk hK 14 4095 2 (HE.out w2 (ah.refl _ _)) λhHeld=>?_
 clear hK K;try simp only [zz]
 refine tn 12 14 8191 1 ?_
 simp only [zz];refine zr 13 λK hK=>?_
 refine cn 40 (.tmp 4) (.tmp 25) rfl _ _ rfl rfl _ PT.out ?_
 refine zk hK 14 16383 0 (HE.out _ PK.out) λhHeld=>?_
 clear hK K;try simp only [zz]
 refine zn ?_ _
 go_wp2;exact bodyPost_ret (v:=dw (rep E) none 0 0) (by simp [results,Tryz.results106,asAddr,PU.out]) rfl ⟨T,rfl,Qn.out.but PK.out (λk hk e=>HN.out k (by omega) hk) (λe=>by omega),Rq.out,((ah.of HB.out).trans (PC.out.trans PB.out)).comp PK.out (λi e=>.inr (by omega))⟩
end
section
variable {w w':World}{H:Hd}{s s':aP}{d d':Nat->List K.Pu}{O:Nat->Nat->Prop}{N:Nat->Prop}{c:R.Cl}{dd gg:R.Sl}{b:Nat}
def Kn (w:World)(H:Hd)(s:aP)(N:Nat->Prop):Prop:=∃d,aI w H s d N/\L.Tr s.X s.l d/\KF H.p s/\1<=H.W
theorem Kn.later (h:Kn w H s N)(hb:Below w.heap.size w w'):Kn w' H s N:=by obtain⟨d,h1,h2⟩:=h;exact⟨d,h1.later hb,h2⟩
theorem Kn.but {B:Nat->Prop}(h:Kn w H s N)(hb:ah B w w')(hS:∀k,N k->¬B k)(h0:¬B 0):Kn w' H s N:=by obtain⟨d,h1,h2⟩:=h;exact⟨d,h1.but hb hS h0,h2⟩
theorem Kn.pd (h:Kn w H s N):∀k,N k->H.base<=k/\k<w.heap.size:=by obtain⟨d,h1,h2⟩:=h;exact h1.pd
theorem Kn.new (h:Kn w H s N){k:Nat}(hk:w.heap.size<=k):¬N k:=by obtain⟨d,h1,h2⟩:=h;exact h1.new hk
def bV (w:World)(H:Hd)(N:Nat->Prop)(R:dk×aP)(e:Ending)(w':World):Prop :=
 ∃a n cp N',e=.returned (dw R.1 a n cp)/\Own w' w.heap.size 5 a n cp (S.bG R.1.data)/\Kn w' H R.2 N'/\aK w N w' N'/\∀k,aJ a k->¬N' k
theorem bV.plain {r:dk}{x:aP}{e:Ending}{N':Nat->Prop}(he:e=.returned (dw r none 0 0))(hr:r.data=[])(hk:Kn w' H x N')(hw:aK w N w' N'):bV w H N (r,x) e w' :=
 ⟨none,0,0,N',he,by rw [hr];exact Own.nil _ _ _,hk,hw,λk hk=>by obtain⟨_,h,_⟩:=hk;cases h⟩
structure Fd (w:World)(s:aP)(N:Nat->Prop)(c:R.Cl)(dd gg:R.Sl):Prop where
 is:R.Is w c dd gg
 fm:R.fm c=true
 aB:c.aB∈s.P
 ap:0<dd.n->∀j,aJ dd.a j->¬N j
theorem Fd.dM (h:Fd w s N c dd gg):R.dM c=true:=by have:=h.fm;unfold R.fm at this;simp only [Bool.and_eq_true] at this;exact this.1.1.2
theorem Fd.obj (h:Fd w s N c dd gg):S.bp c.obj:=by
 have:=h.dM
 unfold R.dM at this;simp only [Bool.and_eq_true] at this;have h1:=R.gE.1 this.1.1.1.1.2
 unfold S.bp;omega
theorem Fd.gn (h:Fd w s N c dd gg):c.ax.length<=255:=by
 have:=h.dM
 unfold R.dM R.uQ at this;simp only [Bool.and_eq_true,decide_eq_true_eq] at this;exact this.2.1
theorem Fd.hw (h:Fd w s N c dd gg):c.hi<aq/\c.lo<aq:=⟨h.is.hi,h.is.lo⟩
theorem Fd.row (h:Fd w s N c dd gg):Row w dd.a dd.n dd.c (S.bG c.data):=by
 have hd:=h.is.data
 exact⟨by unfold S.bG;rw [List.length_map];exact hd.len,hd.cap_,hd.none_,hd.cells,by unfold S.bG;intro u hu;obtain⟨x,_,rfl⟩:=List.mem_map.1 hu;rfl⟩
theorem Fd.ax (h:Fd w s N c dd gg):Row w gg.a gg.n gg.c (ints c.ax):=by
 have hd:=h.is.ax
 exact⟨by unfold ints;rw [List.length_map];exact hd.len,hd.cap_,hd.none_,hd.cells,by unfold ints;intro u hu;obtain⟨x,_,rfl⟩:=List.mem_map.1 hu;rfl⟩
theorem Fd.op (h:Fd w s N c dd gg):1<=c.op/\c.op<=10:=by have:=h.fm;unfold R.fm at this;simp only [Bool.and_eq_true] at this;exact R.gE.1 this.1.1.1
def jE:Nat->Nat
 | 1=>101
 | 2=>102
 | 3=>103
 | 4=>104
 | 5=>105
 | 6=>106
 | 7=>107
 | 8=>108
 | 9=>109
 | _=>110
theorem xk (w:World):Calls Tryz.prog 49 #[] w λe w'=>e=.returned (.slice (some ⟨w.heap.size,0,none⟩) 11 11)/\(∀i,1<=i->i<=10->w'.cell? ⟨w.heap.size,i,none⟩=some (.func (.func (jE i)) #[] #[]))/\Below w.heap.size w w':=by
 go_enter Tryz.func49,Tryz.ntmps49
 go_wp2;go_ret;refine⟨rfl,λi h1 h2=>?_,ae _ _⟩
 match i,h1,h2 with
 | 1,_,_=>simp [go_sem,jE]
 | 2,_,_=>simp [go_sem,jE]
 | 3,_,_=>simp [go_sem,jE]
 | 4,_,_=>simp [go_sem,jE]
 | 5,_,_=>simp [go_sem,jE]
 | 6,_,_=>simp [go_sem,jE]
 | 7,_,_=>simp [go_sem,jE]
 | 8,_,_=>simp [go_sem,jE]
 | 9,_,_=>simp [go_sem,jE]
 | 10,_,_=>simp [go_sem,jE]
theorem Kn.of {d:Nat->List K.Pu}(h:aI w H s d N)(ht:L.Tr s.X s.l d)(hf:KF H.p s)(hW:1<=H.W):Kn w H s N:=⟨d,h,ht,hf,hW⟩
theorem xY (hk:Kn w H s N)(hd:Fd w s N c dd gg)(i:Nat)(hi:c.op=(i:Int)):Calls Tryz.prog (jE i) #[.pointer (some ⟨H.kb,0,none⟩),.agg (R.cC c dd gg).toArray] w (bV w H N (ir H.p s c)):=by
 obtain⟨d,h,ht,hf,hW⟩:=id hk
 have hop:=hd.op
 have key:∀k:Nat,i=k->c.op=(k:Int):=λk e=>by rw [<-e];exact hi
 unfold ir;match i,hi,key with
 | 0,hi,_=>omega
 | 1,hi,_ =>
  rw [if_pos (by omega)];have hkf:=FQ hf ht c.size
  unfold rR at hkf ⊢
  by_cases hm:S.fv H.p.room H.p.rZ s.nx s.V c.size≠0
  ·rw [if_pos hm] at hkf ⊢
   refine (wS h hf hm).mono ?_
   rintro e w' ⟨rfl,hb⟩
   exact bV.plain rfl rfl (hk.later hb) (aK.later hb)
  ·rw [if_neg hm] at hkf ⊢
   by_cases hr:(D.bD H.p.d s.d s.nx).code≠0
   ·rw [if_pos hr] at hkf ⊢
    refine (ue h hf (Decidable.not_not.1 hm) hr).mono ?_
    rintro e w' ⟨rfl,hd2,hb⟩
    exact bV.plain rfl rfl (Kn.of hd2 hkf.2 hkf.1 hW) (aK.stay hb)
   ·rw [if_neg hr] at hkf ⊢
    refine (jR h hf (Decidable.not_not.1 hm) (Decidable.not_not.1 hr)).mono ?_
    rintro e w' ⟨rfl,N2,hd2,hw2⟩
    exact bV.plain rfl rfl (Kn.of hd2 hkf.2 hkf.1 hW) hw2
 | 2,hi,_ =>
  rw [if_neg (by omega),if_pos (by omega)];refine (rj h ht hd.obj hd.hw).mono ?_
  rintro e w' ⟨rfl,T,hd2,ht2,hb⟩
  exact bV.plain rfl rfl (Kn.of hd2 ht2 (ve hf true _ hd2.inv) hW) (aK.stay hb)
 | 3,hi,_ =>
  rw [if_neg (by omega),if_neg (by omega),if_pos (by omega)];refine (sD h hf hd.obj hd.hw).mono ?_
  rintro e w' ⟨rfl,hd2,hb⟩
  have:=FY hf ht (bZ c) c.aA
  exact bV.plain rfl rfl (Kn.of hd2 this.2 this.1 hW) (aK.stay hb)
 | 4,hi,_ =>
  rw [if_neg (by omega),if_neg (by omega),if_neg (by omega),if_pos (by omega)];refine (ug h ht hd.obj hd.hw).mono ?_
  rintro e w' ⟨rfl,T,hd2,ht2,hb⟩
  exact bV.plain rfl rfl (Kn.of hd2 ht2 (ve hf false _ hd2.inv) hW) (aK.stay hb)
 | 5,hi,_ =>
  rw [if_neg (by omega),if_neg (by omega),if_neg (by omega),if_neg (by omega),if_pos (by omega)];unfold qq;by_cases hv:dQ s c.given c.aB (bZ c) 1≠0
  ·rw [if_pos hv]
   refine (Ct h ht hf hd.hw hd.aB hv).mono ?_
   rintro e w' ⟨rfl,T,hd2,ht2,hb⟩
   exact bV.plain rfl rfl (Kn.of hd2 ht2 hf hW) (aK.stay hb)
  ·rw [if_neg hv]
   refine (py h ht hf hd.hw hd.aB hd.obj (by simpa using hv)).mono ?_
   rintro e w' ⟨a,n,cp,T,rfl,hO,hd2,ht2,hb⟩
   exact⟨a,n,cp,N,rfl,hO,Kn.of hd2 ht2 hf hW,aK.stay hb,λk hk e=>by have:=h.new (hO.bT k hk);exact this e⟩
 | 6,hi,_ =>
  rw [if_neg (by omega),if_neg (by omega),if_neg (by omega),if_neg (by omega),if_neg (by omega),if_pos (by omega)];unfold lq;by_cases hv:dQ s c.given c.aB (bZ c) 2≠0
  ·rw [if_pos hv]
   refine (zy h ht hf hd.hw hd.aB hv).mono ?_
   rintro e w' ⟨rfl,T,hd2,ht2,hb⟩
   exact bV.plain rfl rfl (Kn.of hd2 ht2 hf hW) (aK.stay hb)
  ·rw [if_neg hv]
   have hrow:=hd.row
   refine (mf h ht hf hd.hw hd.aB hd.obj (by simpa using hv) hrow hd.is.data.small (λh0 j hj=>⟨hd.ap h0 j hj,?_⟩)).mono ?_
   ·obtain⟨b,o,e,hc⟩:=hrow.plain h0
    obtain⟨x,hx,rfl⟩:=hj
    rw [e] at hx;obtain rfl:(⟨b,o,none⟩:Addr)=x:=by simpa using hx
    have hl:=hrow.len
    exact World.block_lt_of_cell? _ _ (hc 0 _ (List.getElem?_eq_getElem (by omega)))
   ·rintro e w' ⟨T,rfl,hd2,ht2,hb⟩
    have hn:(dd.n:Int)=(c.data.length:Int):=by have:=hd.is.data.len;omega
    rw [hn];exact bV.plain rfl rfl (Kn.of hd2 ht2 (yG hf _ _ _) hW) (aK.stay hb)
 | 7,hi,_ =>
  rw [if_neg (by omega),if_neg (by omega),if_neg (by omega),if_neg (by omega),if_neg (by omega),if_neg (by omega),if_pos (by omega)];have hkf:=Fj hf c.aB hd.aB (bZ c) hd.hw
  unfold zY at hkf ⊢
  by_cases hq:rQ H.p.W (bZ c)=false
  ·rw [if_pos hq]
   refine (oB h hW hd.hw hq).mono ?_
   rintro e w' ⟨rfl,hb⟩
   exact bV.plain rfl rfl (hk.later hb) (aK.later hb)
  ·rw [if_neg hq] at hkf ⊢
   refine (sQ h hf hW hd.hw hd.aB (Bool.not_eq_false _ ▸ hq:rQ H.W (bZ c)=true)).mono ?_
   rintro e w' ⟨rfl,N2,hd2,hw2⟩
   by_cases hl:H.p.lm<=((s.D c.aB).length:Int)
   ·rw [if_pos hl] at hkf ⊢
    have hl':H.lm<=((s.D c.aB).length:Int):=hl
    simp only [if_pos hl'] at hd2 ⊢
    exact bV.plain rfl rfl (Kn.of hd2 ht hf hW) hw2
   ·rw [if_neg hl] at hkf ⊢
    have hl':¬H.lm<=((s.D c.aB).length:Int):=hl
    simp only [if_neg hl'] at hd2 ⊢
    exact bV.plain rfl rfl (Kn.of hd2 ht hkf hW) hw2
 | 8,hi,_ =>
  rw [if_neg (by omega),if_neg (by omega),if_neg (by omega),if_neg (by omega),if_neg (by omega),if_neg (by omega),if_neg (by omega),if_pos (by omega)];refine (se h hf hd.aB).mono ?_
  rintro e w' ⟨rfl,N2,hd2,hw2⟩
  have hkf:=Gk hf c.aB hd.aB c.index
  have e1:(fU s c.aB c.index).1=rep (fU s c.aB c.index).1.code:=by unfold fU;split<;>rfl
  have e2:(fU s c.aB c.index).2.X=s.X/\(fU s c.aB c.index).2.l=s.l:=by unfold fU;split<;>exact⟨rfl,rfl⟩
  exact bV.plain (r:=(fU s c.aB c.index).1) (by rw [<-e1]) (by rw [e1];rfl) (Kn.of (s:=(fU s c.aB c.index).2) hd2 (e2.1.symm ▸ e2.2.symm ▸ ht) hkf hW) hw2
 | 9,hi,_ =>
  rw [if_neg (by omega),if_neg (by omega),if_neg (by omega),if_neg (by omega),if_neg (by omega),if_neg (by omega),if_neg (by omega),if_neg (by omega),if_pos (by omega)];have hkf:=Hn hf c.aB hd.aB c.ax
  have hgn:gg.n<=255:=by have:=hd.is.ax.len;have:=hd.gn;omega
  unfold AO at hkf ⊢
  by_cases hv:M.bL H.p.lm (s.D c.aB) c.ax≠0
  ·rw [if_pos hv]
   refine (yK h hf hd.aB hd.ax hgn hv).mono ?_
   rintro e w' ⟨rfl,hb⟩
   exact bV.plain rfl rfl (hk.later hb) (aK.later hb)
  ·rw [if_neg hv] at hkf ⊢
   by_cases hp:P.dF H.p.pm s.px s.P=true
   ·rw [if_pos hp]
    refine (iI h hf hd.aB hd.ax hgn (Decidable.not_not.1 hv) hp).mono ?_
    rintro e w' ⟨rfl,N2,hd2,hw2⟩
    exact bV.plain rfl rfl (Kn.of hd2 ht hf hW) hw2
   ·rw [if_neg hp] at hkf ⊢
    refine (x_ h hf hd.aB hd.ax hgn (Decidable.not_not.1 hv) (Bool.not_eq_true _ ▸ hp)).mono ?_
    rintro e w' ⟨rfl,N2,hd2,hw2⟩
    exact bV.plain rfl rfl (Kn.of hd2 ht hkf hW) hw2
 | 10,hi,_ =>
  rw [if_neg (by omega),if_neg (by omega),if_neg (by omega),if_neg (by omega),if_neg (by omega),if_neg (by omega),if_neg (by omega),if_neg (by omega),if_neg (by omega)];refine (lz h hf hd.aB).mono ?_
  rintro e w' ⟨rfl,hd2,hb⟩
  exact bV.plain rfl rfl (Kn.of hd2 ht (G4 hf c.aB) hW) (aK.stay hb)
 | n+11,hi,_=>omega
end
section
variable {w w':World}{H:Hd}{s s':aP}{d d':Nat->List K.Pu}{O:Nat->Nat->Prop}{N:Nat->Prop}{c:R.Cl}{dd gg:R.Sl}{b:Nat}
theorem Fq (hk:Kn w H s N)(hi:R.Is w c dd gg)(hb:R.fm c=false) :
  Calls Tryz.prog 13 #[.pointer (some ⟨H.kb,0,none⟩),.agg (R.cC c dd gg).toArray] w λe w'=>e=.returned (dw (rep 1) none 0 0)/\Below w.heap.size w w':=by
 obtain⟨d,h,ht,hf,hWd⟩:=id hk
 obtain⟨W,hW⟩:∃W,W=(w.alloc (Obj.cells (R.cC c dd gg).toArray 44)).alloc z6:=⟨_,rfl⟩
 have hB:Below w.heap.size w W:=by rw [hW];exact aC _ _ _
 have hX:R.Bx W w.heap.size (R.cC c dd gg):=by rw [hW];exact R.Bx.later (ae _ _) (R.Bx.new w (R.cC c dd gg) 44)
 have hZ:Zr W (w.heap.size+1):=by rw [hW];have:=Zr.new (w.alloc (Obj.cells (R.cC c dd gg).toArray 44));simpa using this
 have h2:=h.later hB
 have P5:=ab (DG hX)
 have HC:=ab (R.xm (R.cC c dd gg) c W ⟨_,_,rfl,hi.later hB⟩ hb)
 have HW:=ab hW
 have HB:=ab hB
 have HX:=ab hX
 have HZ:=ab hZ
 have HD:=ab h2
 have HP:Hid (0<w.heap.size):=by have:=h.b0;unfold Hid;omega
 have HN:=ab (λk hk=>h.new (k:=k) hk)
 clear h h2 hB hX hZ hW hk hf ht hi hb;go_enter Tryz.func13,Tryz.ntmps13
 go_upto_region 1 with fail
 rw [<-HW.out];go_upto_region 2 with (first|((with_reducible refine R.aV P5.out ?_ ?_);(· rfl))|(go_at_call 46;refine HC.out.mono ?_;rintro e w1 ⟨rfl,hb1⟩;have PC:=ab hb1;clear hb1))
 have Qo:=ab (HZ.out.later PC.out)
 have HR:=ab (bE 1 w1)
 go_upto_region 3 with fail
 go_upto_region 4 with (first|(go_at_call 47;refine HR.out.mono ?_;rintro e w2 ⟨rfl,hb2⟩;have PB:=ab hb2;have PO:=ab (Qo.out.later PB.out);have PT:=ab (PO.out.st (rep 1) none 0 0);have PU:=ab (PO.out.lv (rep 1) none 0 0);clear hb2)|((with_reducible refine bm PT.out ?_ ?_ ?_);(· rfl);(· rfl)))
 have PK:Hid (ah (·=w.heap.size+1) w2 (w2.setCells (w.heap.size+1) 0 (fM (rep 1) none 0 0))):=R.ay (S:=(·=w.heap.size+1)) rfl _ 0 (ah.refl _ _)
 exact bodyPost_ret (v:=dw (rep 1) none 0 0) (by simp [results,Tryz.results13,asAddr,PU.out]) rfl ⟨rfl,ah.below (aa HB.out (aa PC.out PB.out)) PK.out (λk e=>by omega)⟩
theorem D3 (hk:Kn w H s N)(hi:R.Is w c dd gg)(hb:R.fm c=true)(hl:s.P.contains c.aB=false) :
  Calls Tryz.prog 13 #[.pointer (some ⟨H.kb,0,none⟩),.agg (R.cC c dd gg).toArray] w λe w'=>e=.returned (dw (rep 2) none 0 0)/\Below w.heap.size w w':=by
 obtain⟨d,h,ht,hf,hWd⟩:=id hk
 obtain⟨W,hW⟩:∃W,W=(w.alloc (Obj.cells (R.cC c dd gg).toArray 44)).alloc z6:=⟨_,rfl⟩
 have hB:Below w.heap.size w W:=by rw [hW];exact aC _ _ _
 have hX:R.Bx W w.heap.size (R.cC c dd gg):=by rw [hW];exact R.Bx.later (ae _ _) (R.Bx.new w (R.cC c dd gg) 44)
 have hZ:Zr W (w.heap.size+1):=by rw [hW];have:=Zr.new (w.alloc (Obj.cells (R.cC c dd gg).toArray 44));simpa using this
 have h2:=h.later hB
 have P5:=ab (DG hX)
 have HC:=ab (R.qH (R.cC c dd gg) c W ⟨_,_,rfl,hi.later hB⟩ hb)
 have R6:=ab hf.iv
 have SO:=ab hl
 have HW:=ab hW
 have HB:=ab hB
 have HX:=ab hX
 have HZ:=ab hZ
 have HD:=ab h2
 have HP:Hid (0<w.heap.size):=by have:=h.b0;unfold Hid;omega
 have HN:=ab (λk hk=>h.new (k:=k) hk)
 clear h h2 hB hX hZ hW hk hf ht hi hb hl;go_enter Tryz.func13,Tryz.ntmps13
 go_upto_region 1 with fail
 rw [<-HW.out];go_upto_region 2 with (first|((with_reducible refine R.aV P5.out ?_ ?_);(· rfl))|(go_at_call 46;refine HC.out.mono ?_;rintro e w1 ⟨a1,n1,c1,rfl,-,hb1⟩;have PC:=ab hb1;clear hb1))
 have Ua:Hid (∀U:World,Below w1.heap.size w1 U->Calls Tryz.prog 48 #[.pointer (some ⟨H.pg,0,none⟩),.int .i64 c.aB] U λe w'=>e=.returned (.bool false)/\Below w1.heap.size w1 w'):=λU hU=>by
  have:=EM ((HD.out.later PC.out).later hU) R6.out c.aB
  rw [SO.out] at this;refine this.mono ?_
  rintro e w' ⟨he,q,hq⟩
  exact⟨he,by rw [hq];exact below_drewN hU _⟩
 have Qe:=ab (R.Bx.later PC.out HX.out)
 have Qv:Hid (∀U,ah (λ_=>False) w1 U->U.cell? ⟨H.kb,14,none⟩=some (.pointer (some ⟨H.pg,0,none⟩))/\U.cell? ⟨w.heap.size,1,none⟩=some (.int .i64 c.aB)):=λU hU=>by
  have:=Cb.of (R.Bx.but hU Qe.out (λh=>h))
  exact⟨ag hU ((HD.out.later PC.out).kb 14 _ rfl) (λh=>h),this.c1⟩
 go_upto_region 4 with fail
 go_region_held3 (λU=>U.cell? ⟨H.kb,14,none⟩=some (.pointer (some ⟨H.pg,0,none⟩))/\U.cell? ⟨w.heap.size,1,none⟩=some (.int .i64 c.aB)) (first|exact Qv.out _ (ah.of (Below.refl _ _).drew)|exact HE.out) (first
   | (go_at_call 48;refine (Ua.out _ (Below.refl _ _).drew).mono ?_;rintro e w3 ⟨rfl,hb3⟩;have PE:=ab hb3;have HE:=ab (Qv.out w3 (ah.of PE.out));clear hb3))
 have Qo:=ab (HZ.out.later (aa PC.out PE.out))
 have HR:=ab (bE 2 w3)
 go_upto_region 5 with fail
 go_upto_region 6 with (first|(go_at_call 47;refine HR.out.mono ?_;rintro e w2 ⟨rfl,hb2⟩;have PB:=ab hb2;have PO:=ab (Qo.out.later PB.out);have PT:=ab (PO.out.st (rep 2) none 0 0);have PU:=ab (PO.out.lv (rep 2) none 0 0);clear hb2)|((with_reducible refine bm PT.out ?_ ?_ ?_);(· rfl);(· rfl)))
 have PK:Hid (ah (·=w.heap.size+1) w2 (w2.setCells (w.heap.size+1) 0 (fM (rep 2) none 0 0))):=R.ay (S:=(·=w.heap.size+1)) rfl _ 0 (ah.refl _ _)
 exact bodyPost_ret (v:=dw (rep 2) none 0 0) (by simp [results,Tryz.results13,asAddr,PU.out]) rfl ⟨rfl,ah.below (aa HB.out (aa (aa PC.out PE.out) PB.out)) PK.out (λk e=>by omega)⟩
theorem xX:∀i,1<=i->i<=10->∀a b u,Sem.run Tryz.prog (callFunc (jE i) #[a,b]) u=.ok (.enter (jE i) #[a,b]) u
 | 1,_,_,a,b,u=>by simp [go_sem,jE]
 | 2,_,_,a,b,u=>by simp [go_sem,jE]
 | 3,_,_,a,b,u=>by simp [go_sem,jE]
 | 4,_,_,a,b,u=>by simp [go_sem,jE]
 | 5,_,_,a,b,u=>by simp [go_sem,jE]
 | 6,_,_,a,b,u=>by simp [go_sem,jE]
 | 7,_,_,a,b,u=>by simp [go_sem,jE]
 | 8,_,_,a,b,u=>by simp [go_sem,jE]
 | 9,_,_,a,b,u=>by simp [go_sem,jE]
 | 10,_,_,a,b,u=>by simp [go_sem,jE]
theorem I7 (hk:Kn w H s N)(hi:R.Is w c dd gg)(hb:R.fm c=true)(hl:s.P.contains c.aB=true)(hap:0<dd.n->∀j,aJ dd.a j->¬N j) :
  Calls Tryz.prog 13 #[.pointer (some ⟨H.kb,0,none⟩),.agg (R.cC c dd gg).toArray] w (bV w H N (ir H.p s c)):=by
 obtain⟨d,h,ht,hf,hWd⟩:=id hk
 obtain⟨W,hW⟩:∃W,W=(w.alloc (Obj.cells (R.cC c dd gg).toArray 44)).alloc z6:=⟨_,rfl⟩
 have hB:Below w.heap.size w W:=by rw [hW];exact aC _ _ _
 have hX:R.Bx W w.heap.size (R.cC c dd gg):=by rw [hW];exact R.Bx.later (ae _ _) (R.Bx.new w (R.cC c dd gg) 44)
 have hZ:Zr W (w.heap.size+1):=by rw [hW];have:=Zr.new (w.alloc (Obj.cells (R.cC c dd gg).toArray 44));simpa using this
 have h2:=h.later hB
 have P5:=ab (DG hX)
 have HC:=ab (R.qH (R.cC c dd gg) c W ⟨_,_,rfl,hi.later hB⟩ hb)
 have R6:=ab hf.iv
 have SO:=ab hl
 have hfd:Fd w s N c dd gg:=⟨hi,hb,by simpa using hl,hap⟩
 obtain⟨i,hiq⟩:=Int.eq_ofNat_of_zero_le (show 0<=c.op by have:=hfd.op;omega)
 have h10:1<=i/\i<=10:=by have:=hfd.op;omega
 have Ri:Hid (c.op=(i:Int)):=hiq
 have Vj:=ab h10
 have VX:Hid (∀U,Below w.heap.size w U->Calls Tryz.prog (jE i) #[.pointer (some ⟨H.kb,0,none⟩),.agg (R.cC c dd gg).toArray] U (bV U H N (ir H.p s c))):=λU hU=>xY (hk.later hU) ⟨hfd.is.later hU,hfd.fm,hfd.aB,hfd.ap⟩ i hiq
 obtain⟨F,hF⟩:∃F,F=jE i:=⟨_,rfl⟩
 have HF:=ab hF
 have Uk:Hid (∀a b u,Sem.run Tryz.prog (callFunc F #[a,b]) u=.ok (.enter F #[a,b]) u):=λa b u=>by rw [hF];exact xX i h10.1 h10.2 a b u
 rw [<-hF] at VX;generalize ir H.p s c=A at *
 have HW:=ab hW
 have HB:=ab hB
 have HX:=ab hX
 have HZ:=ab hZ
 have HD:=ab h2
 have HP:Hid (0<w.heap.size):=by have:=h.b0;unfold Hid;omega
 have HN:=ab (λk hk=>h.new (k:=k) hk)
 clear h h2 hB hX hZ hW hk hf ht hi hb hl hap hfd hiq h10 hF;go_enter Tryz.func13,Tryz.ntmps13
 go_upto_region 1 with fail
 rw [<-HW.out];go_upto_region 2 with (first|((with_reducible refine R.aV P5.out ?_ ?_);(· rfl))|(go_at_call 46;refine HC.out.mono ?_;rintro e w1 ⟨a1,n1,c1,rfl,-,hb1⟩;have PC:=ab hb1;clear hb1))
 have Ua:Hid (∀U:World,Below w1.heap.size w1 U->Calls Tryz.prog 48 #[.pointer (some ⟨H.pg,0,none⟩),.int .i64 c.aB] U λe w'=>e=.returned (.bool true)/\Below w1.heap.size w1 w'):=λU hU=>by
  have:=EM ((HD.out.later PC.out).later hU) R6.out c.aB
  rw [SO.out] at this;refine this.mono ?_
  rintro e w' ⟨he,q,hq⟩
  exact⟨he,by rw [hq];exact below_drewN hU _⟩
 have Qe:=ab (R.Bx.later PC.out HX.out)
 have Qv:Hid (∀U,ah (λ_=>False) w1 U->U.cell? ⟨H.kb,14,none⟩=some (.pointer (some ⟨H.pg,0,none⟩))/\U.cell? ⟨w.heap.size,1,none⟩=some (.int .i64 c.aB)):=λU hU=>by
  have:=Cb.of (R.Bx.but hU Qe.out (λh=>h))
  exact⟨ag hU ((HD.out.later PC.out).kb 14 _ rfl) (λh=>h),this.c1⟩
 go_upto_region 4 with fail
 go_region_held3 (λU=>U.cell? ⟨H.kb,14,none⟩=some (.pointer (some ⟨H.pg,0,none⟩))/\U.cell? ⟨w.heap.size,1,none⟩=some (.int .i64 c.aB)) (first|exact Qv.out _ (ah.of (Below.refl _ _).drew)|exact HE.out) (first
   | (go_at_call 48;refine (Ua.out _ (Below.refl _ _).drew).mono ?_;rintro e w3 ⟨rfl,hb3⟩;have PE:=ab hb3;have HE:=ab (Qv.out w3 (ah.of PE.out));clear hb3))
 have Qp:=ab (R.Bx.later PE.out Qe.out)
 have Ty:Hid (Below w.heap.size w w3):=aa HB.out (aa PC.out PE.out)
 have T2:=ab (HZ.out.later (aa PC.out PE.out))
 have TR:Hid (∀U,ah (λk=>k≠w.heap.size) w3 U->(U.cell? ⟨w.heap.size,0,none⟩=some (.int .i64 (i:Int))/\R.Bx U w.heap.size (R.cC c dd gg))):=λU hU=>by
  have hx:=R.Bx.but hU Qp.out (λe=>e rfl)
  have:=(Cb.of hx).c0
  rw [Ri.out] at this;exact⟨this,hx⟩
 have hi10:=Vj.out
 clear HC P5 Ua;go_upto_region 6 with fail
 refine wp_region_held_drew (S:=(λU:World=>(U.cell? ⟨w.heap.size,0,none⟩=some (.int .i64 (i:Int))/\R.Bx U w.heap.size (R.cC c dd gg)))) (by kernel_rfl) (TR.out _ (ah.of (Below.refl _ _).drew)) (λhHeld=>?_)
 refine nm 9 0 9 ?_
 refine tn 1 9 2 8 ?_
 simp only [zz];refine tn 2 9 6 7 ?_
 simp only [zz];refine tn 5 9 38 6 ?_
 simp only [zz];refine tv 6 (v:=.agg (R.cC c dd gg).toArray) ?_ ?_
 ·(intro w hSw;(try dsimp only at hSw);exact K.fK rfl rfl (DG hSw.2))
 simp only [zz];refine nm 9 102 5 ?_
 refine zr 0 λK hK=>?_
 go_simp
 go_wp2_with (first|(go_at_call 49;refine (xk w3.drew).mono ?_;rintro e u1 ⟨rfl,hc1,hb1⟩;have Qh:Hid (Below w3.heap.size w3 u1):=aa (Below.refl _ _).drew hb1;have yF:u1.cell? ⟨w3.heap.size,i,none⟩=some (.func (.func (jE i)) #[] #[]):=hc1 i Vj.out.1 Vj.out.2;rw [<-HF.out] at yF;clear hc1 hb1))
 refine zk hK 9 103 4 (TR.out u1 (ah.of Qh.out)) λhHeld=>?_
 clear hK K;try simp only [zz]
 refine tv 3 (v:=.pointer (some ⟨w3.heap.size,i,none⟩)) ?_ ?_
 ·(intro w hSw;(try dsimp only at hSw);go_simp;intro hh;exfalso;omega)
 simp only [zz];refine nm 9 111 3 ?_
 refine zr 4 λK hK=>?_
 go_simp
 refine zk hK 9 127 2 (TR.out u1 (ah.of Qh.out)) λhHeld=>?_
 clear hK K;try simp only [zz]
 refine zr 7 λK hK=>?_
 go_simp
 rw [Uk.out,Oper.upon_enter];go_wp2_with (first|((with_reducible refine (VX.out u1 (aa Ty.out Qh.out)).mono ?_);rintro e u2 ⟨a,n,cp,N2,rfl,ho2,hk2,hw2,hd2⟩;have PS:=ab ho2;have Qf:=ab hk2;have Qd:=ab hw2;have Qn:=ab hd2;have QO:Hid (ah (λk=>k≠w.heap.size) w3 u2):=(ah.of Qh.out).trans (ah.mono (T:=λk=>k≠w.heap.size) hw2.2 (λk hk e=>HN.out k (by omega) hk));have PO:=ab ((T2.out.later Qh.out).but hw2.2 (HN.out _ (by omega)));have PU:=ab (PO.out.lv A.1 a n cp);have PT:=ab (PO.out.st A.1 a n cp);have PK:Hid (ah (λk=>k=w.heap.size+1) u2 (u2.setCells (w.heap.size+1) 0 (fM A.1 a n cp))):=R.ay (S:=(λk=>k=w.heap.size+1)) rfl _ 0 (ah.refl _ _);have Tz:Hid (ah (λk=>k≠w.heap.size) w3 (u2.setCells (w.heap.size+1) 0 (fM A.1 a n cp))):=QO.out.trans (ah.mono (T:=λk=>k≠w.heap.size) PK.out (λk hk e=>by omega));clear ho2 hk2 hw2 hd2))
 refine zk hK 9 255 1 (TR.out u2 QO.out) λhHeld=>?_
 clear hK K;try simp only [zz]
 refine zr 8 λK hK=>?_
 rw [if_pos (by kernel_rfl)];refine cn 40 (.tmp 4) (.tmp 32) rfl _ _ rfl rfl _ PT.out ?_
 refine zk hK 9 511 0 (TR.out _ Tz.out) λhHeld=>?_
 clear hK K;try simp only [zz]
 refine zn ?_ _
 go_wp2;have hlt:w.heap.size+1<u1.heap.size:=Nat.lt_of_lt_of_le T2.out.lt Qh.out.size
 have h1:=(aK.later (N:=N) (aa Ty.out Qh.out)).trans Qd.out
 refine bodyPost_ret (v:=dw A.1 a n cp) (by simp [results,Tryz.results13,asAddr,PU.out]) rfl ⟨a,n,cp,N2,rfl,?_,?_,⟨h1.1,h1.2.comp PK.out (λi e=>.inr (by omega))⟩,Qn.out⟩
 ·exact Own.but PK.out (PS.out.mono (by omega)) (λk hk e=>by have:=PS.out.bT k hk;omega)
 ·exact Qf.out.but PK.out (λk hk e=>Qd.out.out (b:=k) (by omega) (HN.out _ (by omega)) hk) (λe=>by omega)
theorem zB (hk:Kn w H s N)(hi:R.Is w c dd gg)(hap:0<dd.n->∀j,aJ dd.a j->¬N j) :
  Calls Tryz.prog 13 #[.pointer (some ⟨H.kb,0,none⟩),.agg (R.cC c dd gg).toArray] w (bV w H N (eZ H.p s c)):=by
 unfold eZ;by_cases hb:R.fm c=true
 ·rw [if_neg (by simp [hb])]
  by_cases hl:s.P.contains c.aB=true
  ·rw [if_neg (by simp only [hl];decide)]
   exact I7 hk hi hb hl hap
  ·rw [if_pos (by simpa using hl)]
   refine (D3 hk hi hb (by simpa using hl)).mono ?_
   rintro e w' ⟨rfl,hw⟩
   exact bV.plain rfl rfl (hk.later hw) (aK.later hw)
 ·rw [if_pos (by simpa using hb)]
  refine (Fq hk hi (by simpa using hb)).mono ?_
  rintro e w' ⟨rfl,hw⟩
  exact bV.plain rfl rfl (hk.later hw) (aK.later hw)
end
end Go.Proofs.YtffmodpgddecnaaGreatDoor.V
namespace Go.Proofs.YtffmodpgddecnaaGreatDoor.V
open Go.RowKit
open Go.Proofs.YtffmodpgddecnaaGreatDoor.H (aq Cp)
section
variable {w w':World}{H:Hd}{s s':aP}{d d':Nat->List K.Pu}{N:Nat->Prop}
theorem ID (h:aI w H s d N):Calls Tryz.prog 111 #[.pointer (some ⟨H.z.s,0,none⟩)] w λe w'=>∃a cap,e=.returned (.slice a s.V.length cap)/\Own w' w.heap.size 3 a s.V.length cap (ints (s.V.map Prod.fst))/\Below w.heap.size w w':=by
 obtain⟨Os,hs,hv⟩:=h.st
 rw [<-hv,S.j4,show (S.vw Os).map Prod.fst=Os.map S.Ob.id by simp [S.vw,Function.comp_def]]
 exact S.GB H.z s.nx Os w hs
theorem Ig (h:aI w H s d N){id:Int}{l:List Nat}(hl:S.xS s.V id=some l)(hi:S.bp id):Calls Tryz.prog 194 #[.pointer (some ⟨H.z.s,0,none⟩),.int .i64 id] w λe w'=>e=.returned (.tuple #[.int .i64 (l.length:Int),.bool true])/\Below w.heap.size w w':=by
 obtain⟨Os,hs,hv⟩:=h.st
 rw [<-hv,S.uW] at hl;have:=S.Ep H.z s.nx Os id w hs hi
 cases ho:S.fq Os id with
 | none=>rw [ho] at hl;cases hl
 | some o =>
  rw [ho] at hl this;cases hl
  exact this
theorem Jv (h:aI w H s d N){id:Int}{l:List Nat}(hl:S.xS s.V id=some l):l.length<=4096:=by
 obtain⟨Os,hs,hv⟩:=h.st
 rw [<-hv,S.uW] at hl;obtain⟨t,B,hs⟩:=hs
 cases ho:S.fq Os id with
 | none=>rw [ho] at hl;cases hl
 | some o =>
  rw [ho] at hl;cases hl
  exact hs.eI o (S.at_mem ho).1
theorem AX (h:aI w H s d N)(hi:P.Iv H.pm s.px s.P):Calls Tryz.prog 114 #[.pointer (some ⟨H.pg,0,none⟩)] w λe w'=>∃a cap,e=.returned (.slice a s.P.length cap)/\Own w' w.heap.size 3 a s.P.length cap (ints s.P)/\Below w.heap.size w w':=by
 obtain⟨pa,cap,h1⟩:=h.pr
 exact P.yo h1 hi
theorem FK (h:aI w H s d N):Calls Tryz.prog 54 #[.pointer (some ⟨H.pg,0,none⟩)] w λe w'=>e=.returned (.int .i64 s.px)/\w'=w:=by
 obtain⟨pa,cap,h1⟩:=h.pr
 exact P.fa h1
theorem Hm (h:aI w H s d N):Calls Tryz.prog 55 #[.pointer (some ⟨H.g,0,none⟩)] w λe w'=>e=.returned (.int .i64 (s.t:Int))/\w'=w:=D.wm _ _ _ _ _ _ h.dr
def KC:Value->Nat
 | .slice _ n _=>n
 | _=>0
def IP (w2:World)(b0:Nat)(l:List Nat)(v:Value)(w':World):Prop :=
 ∃(m cap:Nat) (a:Option Addr),v=.slice a m cap/\m<=l.length/\Own w' b0 5 a m cap (S.bG (l.take m))/\(∀j,aJ a j->j=b0\/w2.heap.size<=j)/\ah (·=b0) w2 w'
theorem jS (h:aI w H s d N){id:Int}{l:List Nat}(hl:S.xS s.V id=some l)(hi:S.bp id) :
  Calls Tryz.prog 112 #[.pointer (some ⟨H.kb,0,none⟩),.int .i64 id] w λe w'=>∃a cap,e=.returned (.slice a l.length cap)/\Own w' w.heap.size 5 a l.length cap (S.bG l)/\Below w.heap.size w w':=by
 have hbig:=Jv h hl
 have Si:=ab (Ig h hl hi)
 have HD:=ab h
 have HP:Hid (0<w.heap.size):=by have:=h.b0;unfold Hid;omega
 have HN:=ab (λk hk=>h.new (k:=k) hk)
 have x11:=h.kb 11 _ rfl
 have Sk:Hid (∀U,aI U H s d N->∀m k:Nat,k<=1024->m+k<=l.length->Calls Tryz.prog 187 #[.pointer (some ⟨H.z.s,0,none⟩),.int .i64 id,.int .i64 (m:Int),.int .i64 (k:Int)] U λe w'=>∃a cap,e=.returned (.tuple #[.slice a k cap,.int .i64 0])/\Row w' a k cap (S.bG ((l.drop m).take k))/\Below U.heap.size U w'):=λU hU m k h1 h2=>by
  have:=Ez hU id m k hi
  have e1:S.wP s.V id m k=0:=by unfold S.wP;rw [hl];simp only [];rw [if_pos (by omega)]
  have e2:S.A4 s.V id m k=(l.drop m).take k:=by unfold S.A4;rw [hl];simp only [];rw [if_pos (by omega)];simp
  have e3:((l.drop m).take k).length=k:=by simp;omega
  rw [e1,e2,e3] at this;refine this.mono ?_
  rintro e w' ⟨a,cap,he,ho,hb⟩
  exact⟨a,cap,he,ho.read,hb⟩
 obtain⟨Z,hZs,hmk⟩:=S.ns l.length (by omega)
 have QW:=ab hZs
 obtain⟨n,hn⟩:∃n,n=l.length:=⟨_,rfl⟩
 have HL:=ab hn
 rw [<-hn] at Si QW Sk hmk hbig;rw [<-hn];clear h hl hi hZs hn;go_enter Tryz.func112,Tryz.ntmps112
 go_upto_region 2 with (first|(go_at_call 194;refine Si.out.mono ?_;rintro e w1 ⟨rfl,hb1⟩;have PC:=ab hb1;clear hb1))
 clear x11;go_upto_region 3 with fail
 obtain⟨w2,hw2⟩:∃w2,w2=w1.alloc (Obj.cells Z 5):=⟨_,rfl⟩
 have PB:Hid (Below w.heap.size w w2):=by rw [hw2];exact aa PC.out (ae _ _)
 have Tw:Hid (Own w2 w1.heap.size 5 (some ⟨w1.heap.size,0,none⟩) 0 n []):=by
  have:=World.ownsRow_made (base:=w1.heap.size) (size:=1) (e:=5) w1 Z n (by simp) (by unfold maxLen;omega) (by rw [QW.out];omega)
  rw [hw2];exact⟨this,λ_ h=>(by cases h)⟩
 obtain⟨b0,hb0⟩:∃b0,b0=w1.heap.size:=⟨_,rfl⟩
 have PV:Hid (w.heap.size<=b0/\b0<w2.heap.size):=by rw [hw2,hb0];exact⟨PC.out.size,by simp⟩
 rw [<-hb0] at Tw;rw [<-hw2,<-hb0];have PL:=ab hb0
 clear hw2 hmk hb0;go_loopw [7] (IP w2 b0 l) (λv _=>n - KC v)
 case atStart=>exact⟨0,n,_,rfl,Nat.zero_le _,Tw.out,λj hj=>.inl (S.tC hj),ah.refl _ _⟩
 case round =>
  obtain⟨m,cap,a,rfl,hm,hO,hBl,hBt⟩:=hrel
  have HO:=ab hO
  have P3:=ab hBl
  have PH:=ab hBt
  rw [<-HL.out] at hm;have HM:=ab hm
  have QQ:=ab ((HD.out.later PB.out).but hBt (λk hk e=>HN.out k (by have:=PV.out;omega) hk) (λe=>by have:=PV.out;have:=HP.out;omega))
  have xs:=QQ.out.kb 11 _ rfl
  clear hO hBl hBt hm;by_cases hlt:m<n
  ·have hd:decide ((m:Int)<(n:Int))=true:=decide_eq_true (by omega)
   obtain⟨k,hk⟩:∃k,k=min 1024 (n - m):=⟨_,rfl⟩
   have Rm:Hid (min (1024:Int) ((n:Int) - m)=(k:Int)):=by unfold Hid;omega
   have hk2:k<=1024/\m+k<=n/\0<k:=by omega
   have HK:=ab hk2
   clear hk hk2;go_upto_region 5 with (first|(go_at_call 187;rw [Rm.out];refine (Sk.out wr QQ.out m k HK.out.1 HK.out.2.1).mono ?_;rintro e w6 ⟨a6,c6,rfl,hr6,hb6⟩;have Xr:=ab hr6;have P7:=ab hb6;clear hr6 hb6))
   obtain⟨a',cap',w7,hrun,hO7,hG⟩:=S.fL (HO.out.later P7.out) Xr.out (by have:=P7.out.size;have:=PH.out.size;have:=PV.out;omega) (by have:=HK.out;omega)
   have PD:=ab hrun
   have Rf:=ab hO7
   have HG:=ab hG
   clear hrun hO7 hG xs;go_wp2_with (first|(at_builtin;refine al rfl _ _ 38 rfl _ _ rfl rfl _ w7 PD.out ?_))
   have hBt6:=PH.out.call P7.out
   have hk2:=HK.out
   refine⟨⟨m+k,cap',a',rfl,by have:=HL.out;omega,?_,λj hj=>?_,hBt6.comp HG.out.but (λj hj=>?_)⟩,by simp [KC];omega⟩
   ·rw [List.take_add,S.fE]
    exact Rf.out
   ·rcases HG.out.on j hj with h1|h1
    ·exact P3.out j h1
    ·exact .inr (Nat.le_trans hBt6.size h1)
   ·exact P3.out j hj
  ·obtain rfl:m=n:=by have:=HM.out;omega
   have hd:decide ((m:Int)<(m:Int))=false:=by simp
   clear xs;go_wp2;have hw:Below w.heap.size w wr:=ah.below (S:=(·=b0)) PB.out PH.out (λj hj=>by have:=PV.out;omega)
   have ho:=HO.out
   rw [HL.out,List.take_length] at ho;have hl:=HL.out
   subst hl;exact bodyPost_ret (v:=.slice a l.length cap) (by simp [results,Tryz.results112,go_sem]) rfl ⟨a,cap,rfl,ho.mono (by have:=PV.out;omega),hw⟩
end
end Go.Proofs.YtffmodpgddecnaaGreatDoor.V
