import Derived.Test.YtfmhdimaijimlaaGreatDoorG28
import Derived.Test.YtfmhdimaijimlaaGreatDoorG29
import Derived.Test.YtfmhdimaijimlaaGreatDoorG12
set_option linter.unusedVariables false
set_option linter.unusedSimpArgs false
set_option maxRecDepth 1000000
set_option maxHeartbeats 8000000
namespace Go.Proofs.YtfmhdimaijimlaaGreatDoor.V
open Go.RowKit
open Go.Proofs.YtfmhdimaijimlaaGreatDoor.H (B64 Cp)
section
variable {p:Pm}{s:Sta}{d:Nat→List K.Pu}
theorem tok_cases (h:D.Fit p.d s.d)(o:Int)(Dr:Nat×Int×Nat)(q r:Int)(hy:Q.may p.e (p.mo:Int) s.L o=0→Dr.2.1=0→D.May p.d s.d (D.cap o Dr.1) q r) :
  ((D.tokR p.d s.d o Dr q r).code≠0∧(D.tokR p.d s.d o Dr q r).c=(0,0,0)∧((D.tokR p.d s.d o Dr q r).s=s.d∨(D.tokR p.d s.d o Dr q r).s={ s.d with t:=Dr.2.2 })) ∨
  ((D.tokR p.d s.d o Dr q r).code=0∧(D.tokR p.d s.d o Dr q r).c=D.cap o Dr.1∧(D.tokR p.d s.d o Dr q r).s=D.addS s.d o Dr.1 q r Dr.2.2∧D.May p.d s.d (D.cap o Dr.1) q r∧addR p.mo s.X s.l q (D.cap o Dr.1) r=⟨(low s.l:Int),0,s.X.set (low s.l) (D.cap o Dr.1,r),s.l++[((low s.l:Int),q)]⟩∧s.l.length<p.mo):=by
 unfold D.tokR
 by_cases hm:Q.may p.d.e p.d.a s.d.L o≠0
 ·rw [if_pos hm];exact .inl ⟨hm,rfl,.inl rfl⟩
 ·rw [if_neg hm]
  have hm0:Q.may p.d.e p.d.a s.d.L o=0:=by simpa using hm
  by_cases hd:Dr.2.1≠0
  ·rw [if_pos hd];exact .inl ⟨hd,rfl,.inr rfl⟩
  ·rw [if_neg hd]
   have hy:=hy hm0 (by simpa using hd)
   exact .inr ⟨rfl,rfl,rfl,hy,D.addR_ok h hm0 hy.new,h.room hm0⟩
theorem KF.put (h:KF p s){a:D.Sta}(hf:D.Fit p.d a)(ho:∀o,hasO a.X a.l o=true↔hasO s.X s.l o=true):KF p (putD s a) :=
 ⟨⟨hf.inv,hf.cnt,hf.len,fun o=>(h.fit.obj o).trans (ho o).symm,h.fit.ids⟩,hf.le,h.cs,h.iv,h.ln,h.wd,h.lm,h.ks,h.nx⟩
theorem KF.d_ (h:KF p s):D.Fit p.d s.d:=⟨h.fit.inv,h.fit.cnt,h.fit.len,Int.le_refl _,h.le,h.cs⟩
theorem hasO_add (h:KF p s){o:Int}{N:Nat}{q r:Int}{t:Nat}(hl:s.l.length<p.mo)(x:Int):hasO (D.addS s.d o N q r t).X (D.addS s.d o N q r t).l x=true↔(x=o∨hasO s.X s.l x=true):=by
 rw [D.hasO_inN,D.hasO_inN]
 have:=D.inN_add h.fit.inv q (D.cap o N) r (low_lt h.fit.inv.ok hl) (low_not s.l) x
 show 0<inN (s.X.set (low s.l) (D.cap o N,r)) (s.l++[((low s.l:Int),q)]) x↔_
 rw [this]
 by_cases e:(D.cap o N).1=x
 ·rw [if_pos e];exact⟨fun _=>.inl e.symm,fun _=>by omega⟩
 ·rw [if_neg e]
  exact⟨fun h=>.inr h,fun h=>h.elim (fun e2=>absurd e2.symm e) (fun h=>h)⟩
theorem nx_new (h:KF p s):¬0<inN s.X s.l s.nx:=fun e=>by
 have h1:=(h.fit.obj s.nx).2 (D.hasO_inN.2 e)
 obtain⟨x,hx,e2⟩:=h1
 have:=(h.fit.ids x hx).2
 omega
theorem root_cases (h:KF p s):((D.rootA p.d s.d s.nx).code≠0∧putD s (D.rootA p.d s.d s.nx).s=s) ∨
  ((D.rootA p.d s.d s.nx).code=0∧s.t<p.n∧(D.rootA p.d s.d s.nx).c=D.cap s.nx (p.c s.t)∧(D.rootA p.d s.d s.nx).s=D.addS s.d s.nx (p.c s.t) (-1) 31 (s.t+1)∧D.May p.d s.d (D.cap s.nx (p.c s.t)) (-1) 31∧addR p.mo s.X s.l (-1) (D.cap s.nx (p.c s.t)) 31=⟨(low s.l:Int),0,s.X.set (low s.l) (D.cap s.nx (p.c s.t),31),s.l++[((low s.l:Int),-1)]⟩∧s.l.length<p.mo):=by
 have hn:=nx_new h
 unfold D.rootA
 rw [if_neg (show ¬0<inN s.d.X s.d.l s.nx from hn)]
 have ht:=tok_cases h.d_ s.nx (D.drawD p.d s.t) (-1) 31 (fun _ _=>D.rootMay h.d_ hn (D.drawD_small h.d_ s.t))
 by_cases hlt:s.t<p.n
 ·have e:D.drawD p.d s.t=(p.c s.t,0,s.t+1):=by unfold D.drawD;rw [if_pos (show s.t<p.d.n from hlt)];rfl
  have e2:D.drawD p.d s.d.t=(p.c s.t,0,s.t+1):=e
  rw [e] at ht
  rw [e2]
  rcases ht with ⟨h1,_,h2|h2⟩|⟨h1,h2,h3,h4,h5,h6⟩
  ·exact .inl ⟨h1,by rw [h2];rfl⟩
  ·by_cases hm:Q.may p.d.e p.d.a s.d.L s.nx≠0
   ·refine .inl ⟨h1,?_⟩
    unfold D.tokR
    rw [if_pos hm];rfl
   ·exact absurd (by unfold D.tokR;rw [if_neg hm,if_neg (fun (e:(0:Int)≠0)=>e rfl)]) h1
  ·exact .inr ⟨h1,hlt,h2,h3,h4,h5,h6⟩
 ·have e:D.drawD p.d s.t=(0,11,s.t):=by unfold D.drawD;rw [if_neg (show ¬s.t<p.d.n from hlt)]
  have e2:D.drawD p.d s.d.t=(0,11,s.t):=e
  rw [e] at ht
  rw [e2]
  refine .inl ?_
  rcases ht with ⟨h1,_,h2|h2⟩|⟨h1,_⟩
  ·exact⟨h1,by rw [h2];rfl⟩
  ·exact⟨h1,by rw [h2];rfl⟩
  ·exfalso
   unfold D.tokR at h1
   by_cases hm:Q.may p.d.e p.d.a s.d.L s.nx≠0
   ·rw [if_pos hm] at h1;exact hm h1
   ·rw [if_neg hm,if_pos (show (11:Int)≠0 by decide)] at h1;exact absurd (show (11:Int)=0 from h1) (by decide)
theorem mem_snoc {V:List (Int×List Nat)}{x:Int×List Nat}{o:Int}:(∃q∈V++[x],q.1=o)↔(o=x.1∨∃q∈V,q.1=o):=by
 constructor
 ·rintro ⟨q,hq,e⟩
  rcases List.mem_append.1 hq with h|h
  ·exact .inr ⟨q,h,e⟩
  ·rw [List.mem_singleton.1 h] at e;exact .inl e.symm
 ·rintro (e|⟨q,hq,e⟩)
  ·exact⟨x,by simp,e.symm⟩
  ·exact⟨q,by simp [hq],e⟩
theorem may_nx {p:Pm}{size:Int}(hm:S.mayV p.room p.pgs s.nx s.V size=0):s.nx≤4611686018427387904:=by
 unfold S.mayV at hm
 by_cases h1:size<0∨4096<size
 ·rw [if_pos h1] at hm;exact absurd hm (by decide)
 ·rw [if_neg h1] at hm
  by_cases h2:p.room≤s.V.length∨4611686018427387904<s.nx
  ·rw [if_pos h2] at hm;exact absurd hm (by decide)
  ·omega
theorem kf_cre (h:KF p s)(ht:L.Tr s.X s.l d)(size:Int):KF p (creA p s size).2∧L.Tr (creA p s size).2.X (creA p s size).2.l d:=by
 unfold creA
 by_cases hm:S.mayV p.room p.pgs s.nx s.V size≠0
 ·rw [if_pos hm];exact⟨h,ht⟩
 ·rw [if_neg hm]
  have hm0:S.mayV p.room p.pgs s.nx s.V size=0:=by simpa using hm
  rcases root_cases h with ⟨h1,h2⟩|⟨h1,h2,h3,h4,h5,h6,hl⟩
  ·rw [if_pos h1,h2];exact⟨h,ht⟩
  ·rw [if_neg (by simpa using h1)]
   have hF:=D.Fit.root h.d_ s.nx
   have hnx:=h.nx
   have hnx2:=may_nx hm0
   rw [h4] at hF ⊢
   refine⟨⟨⟨hF.inv,hF.cnt,hF.len,fun o=>?_,fun q hq=>?_⟩,hF.le,h.cs,h.iv,h.ln,h.wd,h.lm,h.ks,⟨by show 1≤s.nx+1;omega,by show s.nx+1≤_;omega⟩⟩,?_⟩
   ·show (∃q∈s.V++[(s.nx,List.replicate size.toNat 0)],q.1=o)↔_
    rw [mem_snoc]
    exact (or_congr Iff.rfl (h.fit.obj o)).trans (hasO_add (t:=s.t+1) h hl o).symm
   ·show 1≤q.1∧q.1<s.nx+1
    rcases List.mem_append.1 (show q∈s.V++[(s.nx,List.replicate size.toNat 0)] from hq) with h7|h7
    ·have:=h.fit.ids q h7;omega
    ·rw [List.mem_singleton.1 h7];simp;omega
   ·have:=L.Tr.add (m:=p.mo) ht h.fit.inv (-1) (D.cap s.nx (p.c s.t)) 31 (by rw [h6];exact hF.inv)
    rw [h6] at this
    exact this
theorem kf_der (h:KF p s)(ht:L.Tr s.X s.l d)(c:Cp)(r:Int):KF p (derA p s c r).2∧L.Tr (derA p s c r).2.X (derA p s c r).2.l d:=by
 unfold derA
 have hF:=D.Fit.child h.d_ c r
 have hcase:((D.childA p.d s.d c r).s=s.d∨∃t,(D.childA p.d s.d c r).s={ s.d with t:=t })∨∃N t,hasC s.X s.l c=true∧(D.childA p.d s.d c r).s=D.addS s.d c.1 N (findN s.X s.l c) r t∧D.May p.d s.d (D.cap c.1 N) (findN s.X s.l c) r∧addR p.mo s.X s.l (findN s.X s.l c) (D.cap c.1 N) r=⟨(low s.l:Int),0,s.X.set (low s.l) (D.cap c.1 N,r),s.l++[((low s.l:Int),findN s.X s.l c)]⟩∧s.l.length<p.mo:=by
  unfold D.childA
  by_cases h1:hasC s.d.X s.d.l c=false
  ·rw [if_pos h1];exact .inl (.inl rfl)
  ·rw [if_neg h1]
   by_cases h2:partB 4 (D.rgt s.d c)=false∨partB r (D.rgt s.d c)=false
   ·rw [if_pos h2];exact .inl (.inl rfl)
   ·rw [if_neg h2]
    have hc:hasC s.d.X s.d.l c=true:=by simpa using h1
    have hp:partB r (D.rgt s.d c)=true:=by
     cases hq:partB r (D.rgt s.d c) with
     | true=>rfl
     | false=>exact absurd (.inr hq) h2
    rcases tok_cases h.d_ c.1 (D.childD p.d s.d c.1) (findN s.X s.l c) r (fun _ hd=>D.childMay h.d_ hc hp hd) with ⟨_,_,h3|h3⟩|⟨_,_,h3,h4,h5,h6⟩
    ·exact .inl (.inl h3)
    ·exact .inl (.inr ⟨_,h3⟩)
    ·exact .inr ⟨_,_,hc,h3,h4,h5,h6⟩
 rcases hcase with (h1|⟨t,h1⟩)|⟨N,t,hc,h1,h2,h3,hl⟩
 ·rw [h1] at hF ⊢;exact⟨h.put hF (fun _=>Iff.rfl),ht⟩
 ·rw [h1] at hF ⊢;exact⟨h.put hF (fun _=>Iff.rfl),ht⟩
 ·rw [h1] at hF ⊢
  refine⟨h.put hF (fun o=>(hasO_add h hl o).trans ⟨fun e=>e.elim (fun e=>by rw [e];exact hasO_of_hasC hc) (fun e=>e),fun e=>.inr e⟩),?_⟩
  have:=L.Tr.add (m:=p.mo) ht h.fit.inv (findN s.X s.l c) (D.cap c.1 N) r (by rw [h3];exact hF.inv)
  rw [h3] at this
  exact this
theorem kf_away (h:KF p s)(all:Bool)(c:Cp)(hi:Inv p.mo (awayA all s c).2.X (awayA all s c).2.l):KF p (awayA all s c).2:=by
 unfold awayA revA at hi ⊢
 by_cases h1:hasC s.X s.l c=false
 ·rw [if_pos h1];exact h
 ·rw [if_neg h1] at hi ⊢
  by_cases h2:partB (needB all) (rg s.X (findN s.X s.l c))=false
  ·rw [if_pos h2];exact h
  ·rw [if_neg h2] at hi ⊢
   have hw:=whom_in h.fit.inv (by simpa using h1) all
   exact⟨(felled_fit h.fit hw.1 hw.2.1 hi).1,h.le,h.cs,h.iv,h.ln,h.wd,h.lm,h.ks,h.nx⟩
theorem wrV_fst (V:List (Int×List Nat))(id off:Int)(Q:List Nat):(S.wrV V id off Q).map Prod.fst=V.map Prod.fst:=by
 unfold S.wrV
 split
 ·rw [List.map_map]
  refine List.map_congr_left (fun x _=>?_)
  simp only [Function.comp,S.setV]
  split<;>rfl
 ·rfl
theorem ex_fst {V:List (Int×List Nat)}{P:Int→Prop}:(∃q∈V,P q.1)↔∃i∈V.map Prod.fst,P i:=by simp
theorem kf_write (h:KF p s)(id off:Int)(Q:List Nat):KF p { s with V:=S.wrV s.V id off Q } :=
 ⟨⟨h.fit.inv,h.fit.cnt,h.fit.len,fun o=>by
   show (∃q∈S.wrV s.V id off Q,q.1=o)↔_
   rw [ex_fst (P:=(·=o)),wrV_fst,←ex_fst (P:=(·=o))];exact h.fit.obj o,fun q hq=>by
   have h1:q.1∈(S.wrV s.V id off Q).map Prod.fst:=List.mem_map.2 ⟨q,hq,rfl⟩
   rw [wrV_fst] at h1
   obtain⟨x,hx,e⟩:=List.mem_map.1 h1
   rw [←e];exact h.fit.ids x hx⟩,h.le,h.cs,h.iv,h.ln,h.wd,h.lm,h.ks,h.nx⟩
theorem kf_list (h:KF p s)(i:Int)(Q:List Cp)(h1:(Q.length:Int)≤p.lm)(h2:∀c∈Q,c.2.1<B64∧c.2.2<B64):KF p { s with D:=upd s.D i Q } :=
 ⟨⟨h.fit.inv,h.fit.cnt,h.fit.len,h.fit.obj,h.fit.ids⟩,h.le,h.cs,h.iv,fun j hj=>by
   show ((upd s.D i Q j).length:Int)≤p.lm
   unfold upd;split
   ·exact h1
   ·exact h.ln j hj,fun j hj c hc=>by
   have hc':c∈upd s.D i Q j:=hc
   unfold upd at hc';split at hc'
   ·exact h2 c hc'
   ·exact h.wd j hj c hc',h.lm,h.ks,h.nx⟩
theorem kf_add (h:KF p s)(i:Int)(hi:i∈s.P)(c:Cp)(hw:c.2.1<B64∧c.2.2<B64):KF p (addA p s i c).2:=by
 unfold addA
 by_cases h1:fitB p.W c=false
 ·rw [if_pos h1];exact h
 ·rw [if_neg h1]
  by_cases h2:p.lm≤((s.D i).length:Int)
  ·rw [if_pos h2];exact h
  ·rw [if_neg h2]
   refine kf_list h i _ (by simp;omega) (fun x hx=>?_)
   rcases List.mem_append.1 hx with h3|h3
   ·exact h.wd i hi x h3
   ·rw [List.mem_singleton.1 h3];exact hw
theorem kf_rem (h:KF p s)(i:Int)(hi:i∈s.P)(x:Int):KF p (remA s i x).2:=by
 unfold remA
 by_cases h1:M.okI (s.D i) x=false
 ·rw [if_pos h1];exact h
 ·rw [if_neg h1]
  refine kf_list h i _ ?_ (fun y hy=>?_)
  ·have:=h.ln i hi
   simp only [List.length_append,List.length_take,List.length_drop]
   omega
  ·rcases List.mem_append.1 hy with h3|h3
   ·exact h.wd i hi y (List.mem_of_mem_take h3)
   ·exact h.wd i hi y (List.mem_of_mem_drop h3)
theorem pick_len {m:Int}{Q:List Cp}{G:List Int}(hv:M.pickE m Q G=0):((M.pickL m Q G).length:Int)≤m:=by
 unfold M.pickL
 rw [if_pos hv,List.length_map]
 unfold M.pickE at hv
 by_cases ha:G.all (M.okI Q)=true
 ·rw [if_pos ha] at hv
  by_cases hb:m<(G.length:Int)
  ·rw [if_pos hb] at hv;exact absurd hv (by decide)
  ·omega
 ·rw [if_neg ha] at hv;exact absurd hv (by decide)
theorem pick_mem {m:Int}{Q:List Cp}{G:List Int}(hv:M.pickE m Q G=0):∀c∈M.pickL m Q G,c∈Q:=by
 unfold M.pickL
 rw [if_pos hv]
 have ha:G.all (M.okI Q)=true:=by
  cases hq:G.all (M.okI Q) with
  | true=>rfl
  | false=>rw [(M.pick_bad hq).1] at hv;exact absurd hv (by decide)
 intro c hc
 obtain⟨x,hx,rfl⟩:=List.mem_map.1 hc
 obtain⟨k,_,hk,hk2⟩:=M.atC_ok (List.all_eq_true.1 ha x hx)
 exact List.mem_of_getElem? hk2
theorem kf_spa (h:KF p s)(i:Int)(hi:i∈s.P)(G:List Int):KF p (spaA p s i G).2:=by
 unfold spaA
 by_cases h1:M.pickE p.lm (s.D i) G≠0
 ·rw [if_pos h1];exact h
 ·rw [if_neg h1]
  have h10:M.pickE p.lm (s.D i) G=0:=by simpa using h1
  by_cases h2:P.fullP p.pm s.px s.P=true
  ·rw [if_pos h2];exact h
  ·rw [if_neg h2]
   have hiv:=h.iv.spawn
   have e3:P.spX p.pm s.px s.P=s.px+1:=by unfold P.spX;rw [if_neg h2]
   have e4:P.spL p.pm s.px s.P=s.P++[s.px]:=by unfold P.spL;rw [if_neg h2]
   rw [e3,e4] at hiv
   refine⟨⟨h.fit.inv,h.fit.cnt,h.fit.len,h.fit.obj,h.fit.ids⟩,h.le,h.cs,hiv,fun j hj=>?_,fun j hj c hc=>?_,h.lm,by show s.ks++[s.px]=s.P++[s.px];rw [h.ks],h.nx⟩
   ·show ((upd s.D s.px _ j).length:Int)≤p.lm
    unfold upd;split
    ·exact pick_len h10
    ·rename_i hne
     rcases List.mem_append.1 hj with h5|h5
     ·exact h.ln j h5
     ·exact absurd (List.mem_singleton.1 h5) hne
   ·have hc':c∈upd s.D s.px (M.pickL p.lm (s.D i) G) j:=hc
    unfold upd at hc';split at hc'
    ·exact h.wd i hi c (pick_mem h10 c hc')
    ·rename_i hne
     rcases List.mem_append.1 hj with h5|h5
     ·exact h.wd j h5 c hc'
     ·exact absurd (List.mem_singleton.1 h5) hne
theorem kf_exi (h:KF p s)(i:Int):KF p (exiA s i).2 :=
 ⟨⟨h.fit.inv,h.fit.cnt,h.fit.len,h.fit.obj,h.fit.ids⟩,h.le,h.cs,h.iv.exit i,fun j hj=>h.ln j (P.out_mem.1 hj).1,fun j hj=>h.wd j (P.out_mem.1 hj).1,h.lm,by show P.out s.ks i=P.out s.P i;rw [h.ks],h.nx⟩
end
open Go.Proofs.YtfmhdimaijimlaaGreatDoor.M (wpAnyH_norm)
section
variable {w w':World}{H:Hd}{s s':Sta}{d d':Nat→List K.Pu}{O:Nat→Nat→Prop}{N:Nat→Prop}{c:R.Cl}{dd gg:R.Sl}{b:Nat}
theorem write_ok (h:Duo w H s d N)(ht:L.Tr s.X s.l d)(hf:KF H.p s)(hw:c.hi<B64∧c.lo<B64)(hby:c.by_∈s.P)(ho:S.i64ok c.obj)(hv:valE s c.given c.by_ (cpO c) 2=0)(hR:Row w dd.a dd.n dd.c (S.u8s c.data))(hD:∀x∈c.data,x<256)(hap:0<dd.n→∀j,Blk dd.a j→¬N j∧j<w.heap.size) :
  Calls Tryz.prog 64 #[.pointer (some ⟨H.kb,0,none⟩),.agg (R.cC c dd gg).toArray] w fun e w'=>∃T,e=.returned (rpV (rep (S.rvE s.V c.obj c.off (dd.n:Int))) none 0 0)∧Duo w' H { s with V:=S.wrV s.V c.obj c.off c.data } T N∧L.Tr s.X s.l T∧But N w w':=by
 obtain⟨W,hW⟩:∃W,W=(w.alloc (Obj.cells (R.cC c dd gg).toArray 45)).alloc z6:=⟨_,rfl⟩
 have hB:Below w.heap.size w W:=by rw [hW];exact below2 _ _ _
 have hX:R.Bx W w.heap.size (R.cC c dd gg):=by rw [hW];exact R.Bx.later (below1 _ _) (R.Bx.new w (R.cC c dd gg) 45)
 have hZ:Zr W (w.heap.size+1):=by rw [hW];have:=Zr.new (w.alloc (Obj.cells (R.cC c dd gg).toArray 45));simpa using this
 have h2:=h.later hB
 have HC:=hid (valid_any (dd:=dd) (gg:=gg) h2 ht hf 2 hw hby)
 have HLd:=hid (ldC hX)
 have hq:(valE s c.given c.by_ (cpO c) 2 != 0)=false:=by simpa using hv
 rw [hv] at HC
 have HO:=hid ho
 obtain⟨E,hE⟩:∃E,E=S.rvE s.V c.obj c.off (dd.n:Int):=⟨_,rfl⟩
 rw [←hE]
 have HEq:=hid hE
 have HAp:=hid hap
 have HRw:=hid (Row.later hB hR)
 have HDd:=hid hD
 have HW:=hid hW
 have HB:=hid hB
 have HX:=hid hX
 have HZ:=hid hZ
 have HD:=hid h2
 have HP:Hid (0<w.heap.size):=by have:=h.b0;unfold Hid;omega
 have HN:=hid (fun k hk=>h.new (k:=k) hk)
 clear h h2 hB hX hZ hW ht hf hv hq ho hE hap hR hD
 go_enter Tryz.func64,Tryz.ntmps64
 go_upto_region 1 with fail
 rw [←HW.out]
 go_upto_region 2 with (first|((with_reducible refine R.ld_arm HLd.out ?_ ?_);(· rfl))|(go_at_call 110;refine HC.out.mono ?_;rintro e w1 ⟨rfl,T,hd1,ht1,hb1⟩;have HD1:=hid hd1;have HT1:=hid ht1;have HB1:Hid (But N W w1):=hb1;clear hd1 ht1 hb1))
 have HX1:=hid (R.Bx.but HB1.out HX.out (HN.out _ (Nat.le_refl _)))
 have HZ1:=hid (HZ.out.but HB1.out (HN.out _ (by omega)))
 have HR1:Hid (Row w1 dd.a dd.n dd.c (S.u8s c.data)):=row_but0 HRw.out HB1.out (fun h0 k hk=>(HAp.out h0 k hk).1)
 have HWr:=hid (fun (U:World) (hU:Below w1.heap.size w1 U)=>pWrite (HD1.out.later hU) c.obj c.off dd.a dd.n dd.c c.data HO.out (Row.later hU HR1.out) HDd.out (fun h0 k hk=>(HAp.out h0 k hk).1))
 rw [←HEq.out] at HWr
 have HSS:Hid (∀U {s d},Duo U H s d N→But (fun k=>N k∨k=w.heap.size+1) w1 U→U.cell? ⟨H.kb,11,none⟩=some (.pointer (some ⟨H.z.s,0,none⟩))∧U.cell? ⟨w.heap.size,3,none⟩=some (.int .i64 c.obj)∧U.cell? ⟨w.heap.size,8,none⟩=some (.int .i64 c.off)∧U.cell? ⟨w.heap.size,10,none⟩=some (dd.v)):=fun U s d hd hb=>by
  have:=Cb.of (R.Bx.but hb HX1.out (fun e=>e.elim (HN.out _ (Nat.le_refl _)) (fun e=>by omega)))
  exact⟨hd.kb 11 _ rfl,this.c3,this.c8,this.c10⟩
 have H01:=hid (fun U (hU:But (fun _=>False) w1 U)=>HSS.out U (HD1.out.but hU (fun _ _ h=>h) (fun h=>h)) (hU.mono (fun _ h=>h.elim)))
 clear HC HLd
 go_upto_region 4 with fail
 refine wp_region_held_drew (S:=(fun U:World=>U.cell? ⟨H.kb,11,none⟩=some (.pointer (some ⟨H.z.s,0,none⟩))∧U.cell? ⟨w.heap.size,3,none⟩=some (.int .i64 c.obj)∧U.cell? ⟨w.heap.size,8,none⟩=some (.int .i64 c.off)∧U.cell? ⟨w.heap.size,10,none⟩=some (dd.v))) (by kernel_rfl) (H01.out _ (But.of (Below.refl _ _).drew)) (fun hHeld=>?_)
 refine nH (bm 14 0) 14 ?_
 refine tH 0 (v:=?_) rfl (fun _ _ _ h=>h) ?_ ?_;rotate_left
 ·(intro w hSw;(try dsimp only at hSw);go_simp;try with_reducible rfl)
 try simp only [gz,Act.put]
 refine nH (bm 14 1) 13 ?_
 refine tH 1 (v:=?_) rfl (fun _ _ _ h=>h) ?_ ?_;rotate_left
 ·(intro w hSw;(try dsimp only at hSw);go_simp;try with_reducible rfl)
 try simp only [gz,Act.put]
 refine nH (bm 14 3) 12 ?_
 refine tH 2 (v:=?_) rfl (fun _ _ _ h=>h) ?_ ?_;rotate_left
 ·(intro w hSw;(try dsimp only at hSw);go_simp;try with_reducible rfl)
 try simp only [gz,Act.put]
 refine nH (bm 14 7) 11 ?_
 refine tH 3 (v:=?_) rfl (fun _ _ _ h=>h) ?_ ?_;rotate_left
 ·(intro w hSw;(try dsimp only at hSw);go_simp;try with_reducible rfl)
 try simp only [gz,Act.put]
 refine nH (bm 14 15) 10 ?_
 refine tH 4 (v:=?_) rfl (fun _ _ _ h=>h) ?_ ?_;rotate_left
 ·(intro w hSw;(try dsimp only at hSw);go_simp;try with_reducible rfl)
 try simp only [gz,Act.put]
 refine nH (bm 14 31) 9 ?_
 refine tH 5 (v:=?_) rfl (fun _ _ _ h=>h) ?_ ?_;rotate_left
 ·(intro w hSw;(try dsimp only at hSw);go_simp;try with_reducible rfl)
 try simp only [gz,Act.put]
 refine nH (bm 14 63) 8 ?_
 refine tH 6 (v:=?_) rfl (fun _ _ _ h=>h) ?_ ?_;rotate_left
 ·(intro w hSw;(try dsimp only at hSw);go_simp;try with_reducible rfl)
 try simp only [gz,Act.put]
 refine nH (bm 14 127) 7 ?_
 refine tH 7 (v:=?_) rfl (fun _ _ _ h=>h) ?_ ?_;rotate_left
 ·(intro w hSw;(try dsimp only at hSw);go_simp;try with_reducible rfl)
 try simp only [gz,Act.put]
 refine nH (bm 14 255) 6 ?_
 refine tH 8 (v:=?_) rfl (fun _ _ _ h=>h) ?_ ?_;rotate_left
 ·(intro w hSw;(try dsimp only at hSw);go_simp;try with_reducible rfl)
 try simp only [gz,Act.put]
 refine nH (bm 14 511) 5 ?_
 refine tH 9 (v:=?_) rfl (fun _ _ _ h=>h) ?_ ?_;rotate_left
 ·(intro w hSw;(try dsimp only at hSw);go_simp;try with_reducible rfl)
 try simp only [gz,Act.put]
 refine nH (bm 14 1023) 4 ?_
 refine tH 10 (v:=?_) rfl (fun _ _ _ h=>h) ?_ ?_;rotate_left
 ·(intro w hSw;(try dsimp only at hSw);go_simp;try with_reducible rfl)
 try simp only [gz,Act.put]
 refine nH (bm 14 2047) 3 ?_
 refine yH [11] ?_
 refine cH rfl fun K hK=>?_
 go_simp
 go_wp2_with (first|(go_at_call 112;refine (HWr.out w1.drew (Below.refl _ _).drew).mono ?_;rintro e w2 ⟨rfl,hd2,hb2⟩;have HD2:=hid hd2;have HB2:Hid (But N w1 w2):=(But.of (Below.refl _ _).drew).trans hb2;have HE:=hid (fun U (hU:But (fun k=>k=w.heap.size+1) w2 U)=>HSS.out U (hd2.but hU (fun k hk e=>HN.out k (by omega) hk) (fun e=>by have:=HP.out;omega)) (((HB2.out).mono (fun k hk=>Or.inl hk)).comp hU (fun i e=>.inl (.inr e))));have HZ9:=hid (HZ1.out.but HB2.out (HN.out _ (by omega)));have HL9:=hid (HZ9.out.lv (rep E) none 0 0);have HS9:=hid (HZ9.out.st (rep E) none 0 0);have HB9:Hid (But (fun k=>k=w.heap.size+1) w2 (w2.setCells (w.heap.size+1) 0 (rpL (rep E) none 0 0))):=R.sb_ (S:=(fun k=>k=w.heap.size+1)) rfl _ 0 (But.refl _ _);clear hd2 hb2))
 refine hK.out _ _ (HE.out w2 (But.refl _ _)) (fun hHeld=>?_)
 clear hK K
 try simp only [gz,Act.put]
 refine nH (bm 14 4095) 2 ?_
 refine tH 12 (v:=?_) rfl (fun _ _ _ h=>h) ?_ ?_;rotate_left
 ·(intro w hSw;(try dsimp only at hSw);go_simp;try with_reducible rfl)
 try simp only [gz,Act.put]
 refine nH (bm 14 8191) 1 ?_
 refine yH [13] ?_
 refine cH rfl fun K hK=>?_
 refine wp_store_known 41 (.tmp 4) (.tmp 25) rfl _ _ rfl rfl _ HS9.out ?_
 refine hK.out _ _ (HE.out _ HB9.out) (fun hHeld=>?_)
 clear hK K
 try simp only [gz,Act.put]
 refine nH (bm 14 16383) 0 ?_
 refine wpAnyH_done (by kernel_rfl) ?_ _
 go_wp2
 exact bodyPost_ret (v:=rpV (rep E) none 0 0) (by simp [results,Tryz.results64,asAddr,HL9.out]) rfl ⟨T,rfl,HD2.out.but HB9.out (fun k hk e=>HN.out k (by omega) hk) (fun e=>by omega),HT1.out,((But.of HB.out).trans (HB1.out.trans HB2.out)).comp HB9.out (fun i e=>.inr (by omega))⟩
end
section
variable {w w':World}{H:Hd}{s s':Sta}{d d':Nat→List K.Pu}{O:Nat→Nat→Prop}{N:Nat→Prop}{c:R.Cl}{dd gg:R.Sl}{b:Nat}
def Kn (w:World)(H:Hd)(s:Sta)(N:Nat→Prop):Prop:=∃d,Duo w H s d N∧L.Tr s.X s.l d∧KF H.p s∧1≤H.W
theorem Kn.later (h:Kn w H s N)(hb:Below w.heap.size w w'):Kn w' H s N:=by obtain⟨d,h1,h2⟩:=h;exact⟨d,h1.later hb,h2⟩
theorem Kn.but {B:Nat→Prop}(h:Kn w H s N)(hb:But B w w')(hS:∀k,N k→¬B k)(h0:¬B 0):Kn w' H s N:=by obtain⟨d,h1,h2⟩:=h;exact⟨d,h1.but hb hS h0,h2⟩
theorem Kn.rng (h:Kn w H s N):∀k,N k→H.base≤k∧k<w.heap.size:=by obtain⟨d,h1,h2⟩:=h;exact h1.rng
theorem Kn.b0 (h:Kn w H s N):0<H.base∧H.base≤w.heap.size:=by obtain⟨d,h1,h2⟩:=h;exact h1.b0
theorem Kn.new (h:Kn w H s N){k:Nat}(hk:w.heap.size≤k):¬N k:=by obtain⟨d,h1,h2⟩:=h;exact h1.new hk
theorem Kn.kf (h:Kn w H s N):KF H.p s:=by obtain⟨d,h1,h2,h3,_⟩:=h;exact h3
def Rets (w:World)(H:Hd)(N:Nat→Prop)(R:Rep×Sta)(e:Ending)(w':World):Prop :=
 ∃a n cp N',e=.returned (rpV R.1 a n cp)∧Own w' w.heap.size 5 a n cp (S.u8s R.1.data)∧Kn w' H R.2 N'∧Went w N w' N'∧∀k,Blk a k→¬N' k
theorem Rets.plain {r:Rep}{x:Sta}{e:Ending}{N':Nat→Prop}(he:e=.returned (rpV r none 0 0))(hr:r.data=[])(hk:Kn w' H x N')(hw:Went w N w' N'):Rets w H N (r,x) e w' :=
 ⟨none,0,0,N',he,by rw [hr];exact Own.nil _ _ _,hk,hw,fun k hk=>by obtain⟨_,h,_⟩:=hk;cases h⟩
structure Fd (w:World)(s:Sta)(N:Nat→Prop)(c:R.Cl)(dd gg:R.Sl):Prop where
 is:R.Is w c dd gg
 fm:R.fm c=true
 by_:c.by_∈s.P
 ap:0<dd.n→∀j,Blk dd.a j→¬N j
theorem Fd.inB (h:Fd w s N c dd gg):R.inB c=true:=by have:=h.fm;unfold R.fm at this;simp only [Bool.and_eq_true] at this;exact this.1.1.2
theorem Fd.obj (h:Fd w s N c dd gg):S.i64ok c.obj:=by
 have:=h.inB
 unfold R.inB at this
 simp only [Bool.and_eq_true] at this
 have h1:=R.wi_iff.1 this.1.1.1.1.2
 unfold S.i64ok
 omega
theorem Fd.gn (h:Fd w s N c dd gg):c.gifts.length≤255:=by
 have:=h.inB
 unfold R.inB R.gfB at this
 simp only [Bool.and_eq_true,decide_eq_true_eq] at this
 exact this.2.1
theorem Fd.hw (h:Fd w s N c dd gg):c.hi<B64∧c.lo<B64:=⟨h.is.hi,h.is.lo⟩
theorem Fd.row (h:Fd w s N c dd gg):Row w dd.a dd.n dd.c (S.u8s c.data):=by
 have hd:=h.is.data
 exact⟨by unfold S.u8s;rw [List.length_map];exact hd.len,hd.cap_,hd.none_,hd.cells,by unfold S.u8s;intro u hu;obtain⟨x,_,rfl⟩:=List.mem_map.1 hu;rfl⟩
theorem Fd.gifts (h:Fd w s N c dd gg):Row w gg.a gg.n gg.c (ints c.gifts):=by
 have hd:=h.is.gifts
 exact⟨by unfold ints;rw [List.length_map];exact hd.len,hd.cap_,hd.none_,hd.cells,by unfold ints;intro u hu;obtain⟨x,_,rfl⟩:=List.mem_map.1 hu;rfl⟩
theorem Fd.op (h:Fd w s N c dd gg):1≤c.op∧c.op≤10:=by have:=h.fm;unfold R.fm at this;simp only [Bool.and_eq_true] at this;exact R.wi_iff.1 this.1.1.1
def dfn:Nat→Nat
 | 1=>59
 | 2=>60
 | 3=>61
 | 4=>62
 | 5=>63
 | 6=>64
 | 7=>65
 | 8=>66
 | 9=>67
 | _=>68
theorem deeds_any (w:World):Calls Tryz.prog 33 #[] w fun e w'=>e=.returned (.slice (some ⟨w.heap.size,0,none⟩) 11 11)∧(∀i,1≤i→i≤10→w'.cell? ⟨w.heap.size,i,none⟩=some (.func (.func (dfn i)) #[] #[]))∧Below w.heap.size w w':=by
 go_enter Tryz.func33,Tryz.ntmps33
 go_wp2
 go_ret
 refine⟨rfl,fun i h1 h2=>?_,below1 _ _⟩
 match i,h1,h2 with
 | 1,_,_=>simp [go_sem,dfn]
 | 2,_,_=>simp [go_sem,dfn]
 | 3,_,_=>simp [go_sem,dfn]
 | 4,_,_=>simp [go_sem,dfn]
 | 5,_,_=>simp [go_sem,dfn]
 | 6,_,_=>simp [go_sem,dfn]
 | 7,_,_=>simp [go_sem,dfn]
 | 8,_,_=>simp [go_sem,dfn]
 | 9,_,_=>simp [go_sem,dfn]
 | 10,_,_=>simp [go_sem,dfn]
theorem Kn.of {d:Nat→List K.Pu}(h:Duo w H s d N)(ht:L.Tr s.X s.l d)(hf:KF H.p s)(hW:1≤H.W):Kn w H s N:=⟨d,h,ht,hf,hW⟩
theorem deed_any (hk:Kn w H s N)(hd:Fd w s N c dd gg)(i:Nat)(hi:c.op=(i:Int)):Calls Tryz.prog (dfn i) #[.pointer (some ⟨H.kb,0,none⟩),.agg (R.cC c dd gg).toArray] w (Rets w H N (deedA H.p s c)):=by
 obtain⟨d,h,ht,hf,hW⟩:=id hk
 have hop:=hd.op
 have key:∀k:Nat,i=k→c.op=(k:Int):=fun k e=>by rw [←e];exact hi
 unfold deedA
 match i,hi,key with
 | 0,hi,_=>omega
 | 1,hi,_ =>
  rw [if_pos (by omega)]
  have hkf:=kf_cre hf ht c.size
  unfold creA at hkf ⊢
  by_cases hm:S.mayV H.p.room H.p.pgs s.nx s.V c.size≠0
  ·rw [if_pos hm] at hkf ⊢
   refine (create_no h hf hm).mono ?_
   rintro e w' ⟨rfl,hb⟩
   exact Rets.plain rfl rfl (hk.later hb) (Went.later hb)
  ·rw [if_neg hm] at hkf ⊢
   by_cases hr:(D.rootA H.p.d s.d s.nx).code≠0
   ·rw [if_pos hr] at hkf ⊢
    refine (create_not h hf (Decidable.not_not.1 hm) hr).mono ?_
    rintro e w' ⟨rfl,hd2,hb⟩
    exact Rets.plain rfl rfl (Kn.of hd2 hkf.2 hkf.1 hW) (Went.stay hb)
   ·rw [if_neg hr] at hkf ⊢
    refine (create_ok h hf (Decidable.not_not.1 hm) (Decidable.not_not.1 hr)).mono ?_
    rintro e w' ⟨rfl,N2,hd2,hw2⟩
    exact Rets.plain rfl rfl (Kn.of hd2 hkf.2 hkf.1 hW) hw2
 | 2,hi,_ =>
  rw [if_neg (by omega),if_pos (by omega)]
  refine (destroy_any h ht hd.obj hd.hw).mono ?_
  rintro e w' ⟨rfl,T,hd2,ht2,hb⟩
  exact Rets.plain rfl rfl (Kn.of hd2 ht2 (kf_away hf true _ hd2.inv) hW) (Went.stay hb)
 | 3,hi,_ =>
  rw [if_neg (by omega),if_neg (by omega),if_pos (by omega)]
  refine (derive_any h hf hd.obj hd.hw).mono ?_
  rintro e w' ⟨rfl,hd2,hb⟩
  have:=kf_der hf ht (cpO c) c.rights
  exact Rets.plain rfl rfl (Kn.of hd2 this.2 this.1 hW) (Went.stay hb)
 | 4,hi,_ =>
  rw [if_neg (by omega),if_neg (by omega),if_neg (by omega),if_pos (by omega)]
  refine (revoke_any h ht hd.obj hd.hw).mono ?_
  rintro e w' ⟨rfl,T,hd2,ht2,hb⟩
  exact Rets.plain rfl rfl (Kn.of hd2 ht2 (kf_away hf false _ hd2.inv) hW) (Went.stay hb)
 | 5,hi,_ =>
  rw [if_neg (by omega),if_neg (by omega),if_neg (by omega),if_neg (by omega),if_pos (by omega)]
  unfold readA
  by_cases hv:valE s c.given c.by_ (cpO c) 1≠0
  ·rw [if_pos hv]
   refine (read_no h ht hf hd.hw hd.by_ hv).mono ?_
   rintro e w' ⟨rfl,T,hd2,ht2,hb⟩
   exact Rets.plain rfl rfl (Kn.of hd2 ht2 hf hW) (Went.stay hb)
  ·rw [if_neg hv]
   refine (read_ok h ht hf hd.hw hd.by_ hd.obj (by simpa using hv)).mono ?_
   rintro e w' ⟨a,n,cp,T,rfl,hO,hd2,ht2,hb⟩
   exact⟨a,n,cp,N,rfl,hO,Kn.of hd2 ht2 hf hW,Went.stay hb,fun k hk e=>by have:=h.new (hO.blk k hk);exact this e⟩
 | 6,hi,_ =>
  rw [if_neg (by omega),if_neg (by omega),if_neg (by omega),if_neg (by omega),if_neg (by omega),if_pos (by omega)]
  unfold writeA
  by_cases hv:valE s c.given c.by_ (cpO c) 2≠0
  ·rw [if_pos hv]
   refine (write_no h ht hf hd.hw hd.by_ hv).mono ?_
   rintro e w' ⟨rfl,T,hd2,ht2,hb⟩
   exact Rets.plain rfl rfl (Kn.of hd2 ht2 hf hW) (Went.stay hb)
  ·rw [if_neg hv]
   have hrow:=hd.row
   refine (write_ok h ht hf hd.hw hd.by_ hd.obj (by simpa using hv) hrow hd.is.data.small (fun h0 j hj=>⟨hd.ap h0 j hj,?_⟩)).mono ?_
   ·obtain⟨b,o,e,hc⟩:=hrow.plain h0
    obtain⟨x,hx,rfl⟩:=hj
    rw [e] at hx
    obtain rfl:(⟨b,o,none⟩:Addr)=x:=by simpa using hx
    have hl:=hrow.len
    exact World.block_lt_of_cell? _ _ (hc 0 _ (List.getElem?_eq_getElem (by omega)))
   ·rintro e w' ⟨T,rfl,hd2,ht2,hb⟩
    have hn:(dd.n:Int)=(c.data.length:Int):=by have:=hd.is.data.len;omega
    rw [hn]
    exact Rets.plain rfl rfl (Kn.of hd2 ht2 (kf_write hf _ _ _) hW) (Went.stay hb)
 | 7,hi,_ =>
  rw [if_neg (by omega),if_neg (by omega),if_neg (by omega),if_neg (by omega),if_neg (by omega),if_neg (by omega),if_pos (by omega)]
  have hkf:=kf_add hf c.by_ hd.by_ (cpO c) hd.hw
  unfold addA at hkf ⊢
  by_cases hq:fitB H.p.W (cpO c)=false
  ·rw [if_pos hq]
   refine (add_no h hW hd.hw hq).mono ?_
   rintro e w' ⟨rfl,hb⟩
   exact Rets.plain rfl rfl (hk.later hb) (Went.later hb)
  ·rw [if_neg hq] at hkf ⊢
   refine (add_ok h hf hW hd.hw hd.by_ (Bool.not_eq_false _ ▸ hq:fitB H.W (cpO c)=true)).mono ?_
   rintro e w' ⟨rfl,N2,hd2,hw2⟩
   by_cases hl:H.p.lm≤((s.D c.by_).length:Int)
   ·rw [if_pos hl] at hkf ⊢
    have hl':H.lm≤((s.D c.by_).length:Int):=hl
    simp only [if_pos hl'] at hd2 ⊢
    exact Rets.plain rfl rfl (Kn.of hd2 ht hf hW) hw2
   ·rw [if_neg hl] at hkf ⊢
    have hl':¬H.lm≤((s.D c.by_).length:Int):=hl
    simp only [if_neg hl'] at hd2 ⊢
    exact Rets.plain rfl rfl (Kn.of hd2 ht hkf hW) hw2
 | 8,hi,_ =>
  rw [if_neg (by omega),if_neg (by omega),if_neg (by omega),if_neg (by omega),if_neg (by omega),if_neg (by omega),if_neg (by omega),if_pos (by omega)]
  refine (remove_any h hf hd.by_).mono ?_
  rintro e w' ⟨rfl,N2,hd2,hw2⟩
  have hkf:=kf_rem hf c.by_ hd.by_ c.index
  have e1:(remA s c.by_ c.index).1=rep (remA s c.by_ c.index).1.code:=by unfold remA;split<;>rfl
  have e2:(remA s c.by_ c.index).2.X=s.X∧(remA s c.by_ c.index).2.l=s.l:=by unfold remA;split<;>exact⟨rfl,rfl⟩
  exact Rets.plain (r:=(remA s c.by_ c.index).1) (by rw [←e1]) (by rw [e1];rfl) (Kn.of (s:=(remA s c.by_ c.index).2) hd2 (e2.1.symm ▸ e2.2.symm ▸ ht) hkf hW) hw2
 | 9,hi,_ =>
  rw [if_neg (by omega),if_neg (by omega),if_neg (by omega),if_neg (by omega),if_neg (by omega),if_neg (by omega),if_neg (by omega),if_neg (by omega),if_pos (by omega)]
  have hkf:=kf_spa hf c.by_ hd.by_ c.gifts
  have hgn:gg.n≤255:=by have:=hd.is.gifts.len;have:=hd.gn;omega
  unfold spaA at hkf ⊢
  by_cases hv:M.pickE H.p.lm (s.D c.by_) c.gifts≠0
  ·rw [if_pos hv]
   refine (spawn_no h hf hd.by_ hd.gifts hgn hv).mono ?_
   rintro e w' ⟨rfl,hb⟩
   exact Rets.plain rfl rfl (hk.later hb) (Went.later hb)
  ·rw [if_neg hv] at hkf ⊢
   by_cases hp:P.fullP H.p.pm s.px s.P=true
   ·rw [if_pos hp]
    refine (spawn_full h hf hd.by_ hd.gifts hgn (Decidable.not_not.1 hv) hp).mono ?_
    rintro e w' ⟨rfl,N2,hd2,hw2⟩
    exact Rets.plain rfl rfl (Kn.of hd2 ht hf hW) hw2
   ·rw [if_neg hp] at hkf ⊢
    refine (spawn_ok h hf hd.by_ hd.gifts hgn (Decidable.not_not.1 hv) (Bool.not_eq_true _ ▸ hp)).mono ?_
    rintro e w' ⟨rfl,N2,hd2,hw2⟩
    exact Rets.plain rfl rfl (Kn.of hd2 ht hkf hW) hw2
 | 10,hi,_ =>
  rw [if_neg (by omega),if_neg (by omega),if_neg (by omega),if_neg (by omega),if_neg (by omega),if_neg (by omega),if_neg (by omega),if_neg (by omega),if_neg (by omega)]
  refine (exit_any h hf hd.by_).mono ?_
  rintro e w' ⟨rfl,hd2,hb⟩
  exact Rets.plain rfl rfl (Kn.of hd2 ht (kf_exi hf c.by_) hW) (Went.stay hb)
 | n+11,hi,_=>omega
end
section
variable {w w':World}{c:R.Cl}{dd gg:R.Sl}
theorem Bx.put {b:Nat}{L:List Value}(h:R.Bx w b L)(j:Nat)(hj:j<L.length)(v:Value):R.Bx (w.setCell ⟨b,j,none⟩ v) b (L.set j v):=by
 have hl:Lies w ⟨b,j,none⟩ L[j]:=⟨h.cell j (List.getElem?_eq_getElem hj),by have:=(h.there j hj).2;rwa [Nat.zero_add] at this⟩
 have hc:∀i u,(L.set j v)[i]?=some u→(w.setCell ⟨b,j,none⟩ v).cell? ⟨b,i,none⟩=some u:=fun i u hu=>by
  by_cases e:i=j
  ·subst e
   rw [List.getElem?_set_self hj] at hu
   cases hu
   exact hl.put.1
  ·rw [List.getElem?_set_ne (by omega)] at hu
   exact D.cell_set_ne (h.cell i hu) (by omega)
 refine⟨fun i u hu=>by rw [Nat.zero_add];exact hc i u hu,fun i hi=>?_⟩
 rw [List.length_set] at hi
 refine⟨by rw [Nat.zero_add,hc i _ (List.getElem?_eq_getElem (by rw [List.length_set];exact hi))];rfl,?_⟩
 have:=R.frozen_setCells b ⟨b,0+i,none⟩ [v] j w
 exact this.trans (h.there i hi).2
theorem own_empty (w:World)(e:TypeId):Own (w.alloc (Obj.cells #[] e)) w.heap.size e (some ⟨w.heap.size,0,none⟩) 0 0 [] :=
 ⟨World.ownsRow_made (base:=w.heap.size) (size:=1) (e:=e) w #[] 0 (by simp) (by unfold maxLen;omega) (by simp),fun _ h=>(by cases h)⟩
abbrev z13:List Value:=[.int .i64 0,.int .i64 0,.int .i64 0,.int .i64 0,.int .u64 0,.int .u64 0,.bool false,.int .i64 0,.int .i64 0,.int .i64 0,.slice none 0 0,.int .i64 0,.slice none 0 0]
theorem Bx.st45 {b:Nat}{L:List Value}(h:R.Bx w b L)(hl:L.length=13)(c:R.Cl)(dd gg:R.Sl):(Instr.storeAt 45 (.pointer (some ⟨b,0,none⟩)) (.agg (R.cC c dd gg).toArray)).run Tryz.prog w=.ok () (w.setCells b 0 (R.cC c dd gg)):=by
 have h10:(R.cC c dd gg).length=13:=rfl
 have:=R.stc (L:=R.cC c dd gg) (show w.there b 0 13 by rw [←hl];exact h.there) h10 (by simp [R.cC,Value.oneCell'])
 simp [Instr.storeAt,storeVar,Instr.sureAddr,Value.cells,h10,this,Result.andThen]
theorem R_row (h:Row w dd.a dd.n dd.c (S.u8s c.data))(hs:∀x∈c.data,x<256):R.Row w dd.a dd.n dd.c c.data:=⟨by have:=h.len;rwa [S.u8s_length] at this,h.cap_,h.none_,h.cells,hs⟩
structure Mine (w:World)(base:Nat)(c:R.Cl)(dd gg:R.Sl):Prop where
 is:R.Is w c dd gg
 d:∀j,Blk dd.a j→base≤j∧j<w.heap.size
 g:∀j,Blk gg.a j→base≤j∧j<w.heap.size
theorem copied_any (h:R.Is w c dd gg)(hb1:dd.n≤140737488355328)(hb2:gg.n*8≤140737488355328) :
  Calls Tryz.prog 14 #[.agg (R.cC c dd gg).toArray] w fun e w'=>∃d' g',e=.returned (.agg (R.cC c d' g').toArray)∧Mine w' w.heap.size c d' g'∧Below w.heap.size w w':=by
 obtain⟨W,hW⟩:∃W,W=(w.alloc (Obj.cells (R.cC c dd gg).toArray 45)).alloc (Obj.cells z13.toArray 45):=⟨_,rfl⟩
 have HB:Hid (Below w.heap.size w W):=by rw [hW];exact below2 _ _ _
 have HWs:Hid (W.heap.size=w.heap.size+2):=by unfold Hid;rw [hW];simp
 have hX:R.Bx W w.heap.size (R.cC c dd gg):=by rw [hW];exact R.Bx.later (below1 _ _) (R.Bx.new w _ _)
 have hZ:R.Bx W (w.heap.size+1) z13:=by
  rw [hW]
  have:=R.Bx.new (w.alloc (Obj.cells (R.cC c dd gg).toArray 45)) z13 45
  rwa [World.size_alloc] at this
 have h2:=h.later HB.out
 have hr1:Row W dd.a dd.n dd.c (S.u8s c.data):=⟨by rw [S.u8s_length];exact h2.data.len,h2.data.cap_,h2.data.none_,h2.data.cells,S.u8s_one _⟩
 have hr2:Row W gg.a gg.n gg.c (ints c.gifts):=⟨by unfold ints;rw [List.length_map];exact h2.gifts.len,h2.gifts.cap_,h2.gifts.none_,h2.gifts.cells,by unfold ints;intro u hu;obtain⟨x,_,rfl⟩:=List.mem_map.1 hu;rfl⟩
 have hB1:=below1 W (Obj.cells #[] 5)
 have hO1:=own_empty W 5
 obtain⟨a1,c1,W2,hrun1,hO2,hG1⟩:=S.append_bytes hO1 (hr1.later hB1) hB1.size (by omega)
 rw [Nat.zero_add] at hrun1 hO2
 rw [List.nil_append] at hO2
 have hB2:Below W.heap.size W W2:=But.below hB1 hG1.but (fun k hk=>hO1.blk k hk)
 have hX2:=R.Bx.later hB2 hX
 have xD:W2.cell? ⟨w.heap.size,10,none⟩=some dd.v:=hX2.cell 10 rfl
 have xF:W2.frozen? ⟨w.heap.size,10,none⟩=false:=(hX2.there 10 (by simp [R.cC])).2
 have x10:(W.alloc (Obj.cells #[] 5)).cell? ⟨w.heap.size,10,none⟩=some dd.v:=(R.Bx.later hB1 hX).cell 10 rfl
 obtain⟨W3,hW3⟩:∃W3,W3=W2.setCell ⟨w.heap.size,10,none⟩ (.slice a1 dd.n c1):=⟨_,rfl⟩
 have hX3:R.Bx W3 w.heap.size (R.cC c ⟨a1,dd.n,c1⟩ gg):=by rw [hW3];exact Bx.put hX2 10 (by simp [R.cC]) (.slice a1 dd.n c1)
 have hB3:Below w.heap.size w W3:=by rw [hW3];exact But.below (bc HB.out hB2) (But.own (g:=w.heap.size) (But.refl _ _) 10 _) (fun k e=>by omega)
 have hS3:W3.heap.size=W2.heap.size:=by rw [hW3];simp
 have hW2s:=hB2.size
 have hO3:Own W3 W.heap.size 5 a1 dd.n c1 (S.u8s c.data):=by rw [hW3];exact Own.but (S:=(·=w.heap.size)) (But.own (But.refl _ _) 10 _) hO2 (fun k hk e=>by have:=hO2.blk k hk;have:=HWs.out;omega)
 have hB4:=below1 W3 (Obj.cells #[] 3)
 have hO4:=own_empty W3 3
 have hr3:Row w gg.a gg.n gg.c (ints c.gifts):=⟨by unfold ints;rw [List.length_map];exact h.gifts.len,h.gifts.cap_,h.gifts.none_,h.gifts.cells,by unfold ints;intro u hu;obtain⟨x,_,rfl⟩:=List.mem_map.1 hu;rfl⟩
 obtain⟨a2,c2,W5,hrun2,hO5,hG2⟩:=append_ints hO4 ((hr3.later hB3).later hB4) hB4.size (by omega)
 rw [Nat.zero_add] at hrun2 hO5
 rw [List.nil_append] at hO5
 have hB5:Below W3.heap.size W3 W5:=But.below hB4 hG2.but (fun k hk=>hO4.blk k hk)
 have hX5:=R.Bx.later hB5 hX3
 have yD:W5.cell? ⟨w.heap.size,12,none⟩=some gg.v:=hX5.cell 12 rfl
 have yF:W5.frozen? ⟨w.heap.size,12,none⟩=false:=(hX5.there 12 (by simp [R.cC])).2
 have y12:(W3.alloc (Obj.cells #[] 3)).cell? ⟨w.heap.size,12,none⟩=some gg.v:=(R.Bx.later hB4 hX3).cell 12 rfl
 obtain⟨W6,hW6⟩:∃W6,W6=W5.setCell ⟨w.heap.size,12,none⟩ (.slice a2 gg.n c2):=⟨_,rfl⟩
 have hX6:R.Bx W6 w.heap.size (R.cC c ⟨a1,dd.n,c1⟩ ⟨a2,gg.n,c2⟩):=by rw [hW6];exact Bx.put hX5 12 (by simp [R.cC]) (.slice a2 gg.n c2)
 have b6:But (·=w.heap.size) W5 W6:=by rw [hW6];exact But.own (But.refl _ _) 12 _
 have b3:But (·=w.heap.size) W2 W3:=by rw [hW3];exact But.own (But.refl _ _) 10 _
 have hZ6:R.Bx W6 (w.heap.size+1) z13:=R.Bx.but b6 (R.Bx.later hB5 (R.Bx.but b3 (R.Bx.later hB2 hZ) (by omega))) (by omega)
 have HLd:=hid (ldC hX6)
 have HS9:=hid (Bx.st45 hZ6 rfl c ⟨a1,dd.n,c1⟩ ⟨a2,gg.n,c2⟩)
 obtain⟨W7,hW7⟩:∃W7,W7=W6.setCells (w.heap.size+1) 0 (R.cC c ⟨a1,dd.n,c1⟩ ⟨a2,gg.n,c2⟩):=⟨_,rfl⟩
 have b7:But (·=w.heap.size+1) W6 W7:=by rw [hW7];exact R.sb_ (S:=(·=w.heap.size+1)) rfl _ 0 (But.refl _ _)
 have hX7:R.Bx W7 (w.heap.size+1) (R.cC c ⟨a1,dd.n,c1⟩ ⟨a2,gg.n,c2⟩):=by rw [hW7];exact R.Bx.set hZ6 rfl
 have HL9:Hid ((loadVar 45 ⟨w.heap.size+1,0,none⟩).run Tryz.prog W7=.ok (.agg (R.cC c ⟨a1,dd.n,c1⟩ ⟨a2,gg.n,c2⟩).toArray) W7):=R.lv41 hX7.range (by rfl)
 rw [←hW7] at HS9
 have s5:=hB5.size
 have hO7:Own W7 W.heap.size 5 a1 dd.n c1 (S.u8s c.data):=Own.but b7 (Own.but b6 (hO3.later hB5) (fun k hk e=>by have:=hO2.blk k hk;have:=HWs.out;omega)) (fun k hk e=>by have:=hO2.blk k hk;have:=HWs.out;omega)
 have hP7:Own W7 W3.heap.size 3 a2 gg.n c2 (ints c.gifts):=Own.but b7 (Own.but b6 hO5 (fun k hk e=>by have:=hO5.blk k hk;have:=HWs.out;omega)) (fun k hk e=>by have:=hO5.blk k hk;have:=HWs.out;omega)
 have HMn:Hid (Mine W7 w.heap.size c ⟨a1,dd.n,c1⟩ ⟨a2,gg.n,c2⟩):=by
  refine⟨⟨R_row (dd:=⟨a1,dd.n,c1⟩) hO7.read h.data.small,?_,h.hi,h.lo⟩,fun j hj=>⟨by have:=hO7.blk j hj;have:=HWs.out;omega,hO7.lt j hj⟩,fun j hj=>⟨by have:=hP7.blk j hj;have:=HWs.out;omega,hP7.lt j hj⟩⟩
  have hr:=hP7.read
  exact⟨by have:=hr.len;unfold ints at this;rwa [List.length_map] at this,hr.cap_,hr.none_,hr.cells⟩
 have HB7:Hid (Below w.heap.size w W7):=But.below (But.below (bc hB3 hB5) b6 (fun k e=>by omega)) b7 (fun k e=>by omega)
 have HW:=hid hW
 have HW3:=hid hW3
 have HW6:=hid hW6
 have HR1:=hid hrun1
 have HR2:=hid hrun2
 clear h h2 hr1 hr2 hr3 hX hZ hB1 hO1 hO2 hG1 hB2 hX2 hX3 hB3 hS3 hW2s hO3 hB4 hO4 hO5 hG2 hB5 hX5 hX6 b6 b3 hZ6 hW7 b7 hX7 s5 hO7 hP7 hW hW3 hW6 hrun1 hrun2 hb1 hb2
 go_enter Tryz.func14,Tryz.ntmps14
 go_upto_region 1 with fail
 have hW:=HW.out
 rw [←hW]
 clear hW
 go_upto_region 2 with (first|(at_builtin;refine wk_ rfl _ _ 39 rfl _ _ rfl rfl _ W2 HR1.out ?_))
 rw [←HW3.out]
 clear x10 xD xF
 go_upto_region 3 with (first|(at_builtin;refine wk_ rfl _ _ 43 rfl _ _ rfl rfl _ W5 HR2.out ?_))
 rw [←HW6.out]
 clear y12 yD yF
 go_wp2_with (first|((with_reducible refine R.ld_arm HLd.out ?_ ?_);(· rfl))|((with_reducible refine st_arm HS9.out ?_ ?_ ?_);(· rfl);(· rfl)))
 exact bodyPost_ret (v:=.agg (R.cC c ⟨a1,dd.n,c1⟩ ⟨a2,gg.n,c2⟩).toArray) (by simp [results,Tryz.results14,asAddr,Act.put,HL9.out]) rfl ⟨⟨a1,dd.n,c1⟩,⟨a2,gg.n,c2⟩,rfl,HMn.out,HB7.out⟩
end
section
variable {w w':World}{H:Hd}{s s':Sta}{d d':Nat→List K.Pu}{O:Nat→Nat→Prop}{N:Nat→Prop}{c:R.Cl}{dd gg:R.Sl}{b:Nat}
theorem do_bad (hk:Kn w H s N)(hi:R.Is w c dd gg)(hb:R.fm c=false) :
  Calls Tryz.prog 13 #[.pointer (some ⟨H.kb,0,none⟩),.agg (R.cC c dd gg).toArray] w fun e w'=>e=.returned (rpV (rep 1) none 0 0)∧Below w.heap.size w w':=by
 obtain⟨d,h,ht,hf,hWd⟩:=id hk
 obtain⟨W,hW⟩:∃W,W=(w.alloc (Obj.cells (R.cC c dd gg).toArray 45)).alloc z6:=⟨_,rfl⟩
 have hB:Below w.heap.size w W:=by rw [hW];exact below2 _ _ _
 have hX:R.Bx W w.heap.size (R.cC c dd gg):=by rw [hW];exact R.Bx.later (below1 _ _) (R.Bx.new w (R.cC c dd gg) 45)
 have hZ:Zr W (w.heap.size+1):=by rw [hW];have:=Zr.new (w.alloc (Obj.cells (R.cC c dd gg).toArray 45));simpa using this
 have h2:=h.later hB
 have HLd:=hid (ldC hX)
 have HC:=hid (R.bytes_bad (R.cC c dd gg) c W ⟨_,_,rfl,hi.later hB⟩ hb)
 have HW:=hid hW
 have HB:=hid hB
 have HX:=hid hX
 have HZ:=hid hZ
 have HD:=hid h2
 have HP:Hid (0<w.heap.size):=by have:=h.b0;unfold Hid;omega
 have HN:=hid (fun k hk=>h.new (k:=k) hk)
 clear h h2 hB hX hZ hW hk hf ht hi hb
 go_enter Tryz.func13,Tryz.ntmps13
 go_upto_region 1 with fail
 rw [←HW.out]
 go_upto_region 2 with (first|((with_reducible refine R.ld_arm HLd.out ?_ ?_);(· rfl))|(go_at_call 30;refine HC.out.mono ?_;rintro e w1 ⟨rfl,hb1⟩;have HB1:=hid hb1;clear hb1))
 have HZ1:=hid (HZ.out.later HB1.out)
 have HR:=hid (refused_any 1 w1)
 go_upto_region 3 with fail
 go_upto_region 4 with (first|(go_at_call 31;refine HR.out.mono ?_;rintro e w2 ⟨rfl,hb2⟩;have HB2:=hid hb2;have HZ9:=hid (HZ1.out.later HB2.out);have HS9:=hid (HZ9.out.st (rep 1) none 0 0);have HL9:=hid (HZ9.out.lv (rep 1) none 0 0);clear hb2)|((with_reducible refine st_arm HS9.out ?_ ?_ ?_);(· rfl);(· rfl)))
 have HB9:Hid (But (·=w.heap.size+1) w2 (w2.setCells (w.heap.size+1) 0 (rpL (rep 1) none 0 0))):=R.sb_ (S:=(·=w.heap.size+1)) rfl _ 0 (But.refl _ _)
 exact bodyPost_ret (v:=rpV (rep 1) none 0 0) (by simp [results,Tryz.results13,asAddr,HL9.out]) rfl ⟨rfl,But.below (bc HB.out (bc HB1.out HB2.out)) HB9.out (fun k e=>by omega)⟩
theorem do_dead (hk:Kn w H s N)(hi:R.Is w c dd gg)(hb:R.fm c=true)(hl:s.P.contains c.by_=false) :
  Calls Tryz.prog 13 #[.pointer (some ⟨H.kb,0,none⟩),.agg (R.cC c dd gg).toArray] w fun e w'=>e=.returned (rpV (rep 2) none 0 0)∧Below w.heap.size w w':=by
 obtain⟨d,h,ht,hf,hWd⟩:=id hk
 obtain⟨W,hW⟩:∃W,W=(w.alloc (Obj.cells (R.cC c dd gg).toArray 45)).alloc z6:=⟨_,rfl⟩
 have hB:Below w.heap.size w W:=by rw [hW];exact below2 _ _ _
 have hX:R.Bx W w.heap.size (R.cC c dd gg):=by rw [hW];exact R.Bx.later (below1 _ _) (R.Bx.new w (R.cC c dd gg) 45)
 have hZ:Zr W (w.heap.size+1):=by rw [hW];have:=Zr.new (w.alloc (Obj.cells (R.cC c dd gg).toArray 45));simpa using this
 have h2:=h.later hB
 have HLd:=hid (ldC hX)
 have HC:=hid (R.bytes_ok (R.cC c dd gg) c W ⟨_,_,rfl,hi.later hB⟩ hb)
 have HIv:=hid hf.iv
 have HCt:=hid hl
 have HW:=hid hW
 have HB:=hid hB
 have HX:=hid hX
 have HZ:=hid hZ
 have HD:=hid h2
 have HP:Hid (0<w.heap.size):=by have:=h.b0;unfold Hid;omega
 have HN:=hid (fun k hk=>h.new (k:=k) hk)
 clear h h2 hB hX hZ hW hk hf ht hi hb hl
 go_enter Tryz.func13,Tryz.ntmps13
 go_upto_region 1 with fail
 rw [←HW.out]
 go_upto_region 2 with (first|((with_reducible refine R.ld_arm HLd.out ?_ ?_);(· rfl))|(go_at_call 30;refine HC.out.mono ?_;rintro e w1 ⟨a1,n1,c1,rfl,-,hb1⟩;have HB1:=hid hb1;clear hb1))
 have HLv:Hid (∀U:World,Below w1.heap.size w1 U→Calls Tryz.prog 32 #[.pointer (some ⟨H.pg,0,none⟩),.int .i64 c.by_] U fun e w'=>e=.returned (.bool false)∧Below w1.heap.size w1 w'):=fun U hU=>by
  have:=pLive ((HD.out.later HB1.out).later hU) HIv.out c.by_
  rw [HCt.out] at this
  refine this.mono ?_
  rintro e w' ⟨he,q,hq⟩
  exact⟨he,by rw [hq];exact below_drewN hU _⟩
 have HX1:=hid (R.Bx.later HB1.out HX.out)
 have H01:Hid (∀U,But (fun _=>False) w1 U→U.cell? ⟨H.kb,14,none⟩=some (.pointer (some ⟨H.pg,0,none⟩))∧U.cell? ⟨w.heap.size,1,none⟩=some (.int .i64 c.by_)):=fun U hU=>by
  have:=Cb.of (R.Bx.but hU HX1.out (fun h=>h))
  exact⟨cb_ hU ((HD.out.later HB1.out).kb 14 _ rfl) (fun h=>h),this.c1⟩
 go_upto_region 4 with fail
 go_region_held3 (fun U=>U.cell? ⟨H.kb,14,none⟩=some (.pointer (some ⟨H.pg,0,none⟩))∧U.cell? ⟨w.heap.size,1,none⟩=some (.int .i64 c.by_)) (first|exact H01.out _ (But.of (Below.refl _ _).drew)|exact HE.out) (first
   | (go_at_call 32;refine (HLv.out _ (Below.refl _ _).drew).mono ?_;rintro e w3 ⟨rfl,hb3⟩;have HB3:=hid hb3;have HE:=hid (H01.out w3 (But.of HB3.out));clear hb3))
 have HZ1:=hid (HZ.out.later (bc HB1.out HB3.out))
 have HR:=hid (refused_any 2 w3)
 go_upto_region 5 with fail
 go_upto_region 6 with (first|(go_at_call 31;refine HR.out.mono ?_;rintro e w2 ⟨rfl,hb2⟩;have HB2:=hid hb2;have HZ9:=hid (HZ1.out.later HB2.out);have HS9:=hid (HZ9.out.st (rep 2) none 0 0);have HL9:=hid (HZ9.out.lv (rep 2) none 0 0);clear hb2)|((with_reducible refine st_arm HS9.out ?_ ?_ ?_);(· rfl);(· rfl)))
 have HB9:Hid (But (·=w.heap.size+1) w2 (w2.setCells (w.heap.size+1) 0 (rpL (rep 2) none 0 0))):=R.sb_ (S:=(·=w.heap.size+1)) rfl _ 0 (But.refl _ _)
 exact bodyPost_ret (v:=rpV (rep 2) none 0 0) (by simp [results,Tryz.results13,asAddr,HL9.out]) rfl ⟨rfl,But.below (bc HB.out (bc (bc HB1.out HB3.out) HB2.out)) HB9.out (fun k e=>by omega)⟩
theorem dfn_call:∀i,1≤i→i≤10→∀a b u,Sem.run Tryz.prog (callFunc (dfn i) #[a,b]) u=.ok (.enter (dfn i) #[a,b]) u
 | 1,_,_,a,b,u=>by simp [go_sem,dfn]
 | 2,_,_,a,b,u=>by simp [go_sem,dfn]
 | 3,_,_,a,b,u=>by simp [go_sem,dfn]
 | 4,_,_,a,b,u=>by simp [go_sem,dfn]
 | 5,_,_,a,b,u=>by simp [go_sem,dfn]
 | 6,_,_,a,b,u=>by simp [go_sem,dfn]
 | 7,_,_,a,b,u=>by simp [go_sem,dfn]
 | 8,_,_,a,b,u=>by simp [go_sem,dfn]
 | 9,_,_,a,b,u=>by simp [go_sem,dfn]
 | 10,_,_,a,b,u=>by simp [go_sem,dfn]
theorem do_ok (hk:Kn w H s N)(hi:R.Is w c dd gg)(hb:R.fm c=true)(hl:s.P.contains c.by_=true)(hap:0<dd.n→∀j,Blk dd.a j→¬N j) :
  Calls Tryz.prog 13 #[.pointer (some ⟨H.kb,0,none⟩),.agg (R.cC c dd gg).toArray] w (Rets w H N (deedA H.p s c)):=by
 obtain⟨d,h,ht,hf,hWd⟩:=id hk
 obtain⟨W,hW⟩:∃W,W=(w.alloc (Obj.cells (R.cC c dd gg).toArray 45)).alloc z6:=⟨_,rfl⟩
 have hB:Below w.heap.size w W:=by rw [hW];exact below2 _ _ _
 have hX:R.Bx W w.heap.size (R.cC c dd gg):=by rw [hW];exact R.Bx.later (below1 _ _) (R.Bx.new w (R.cC c dd gg) 45)
 have hZ:Zr W (w.heap.size+1):=by rw [hW];have:=Zr.new (w.alloc (Obj.cells (R.cC c dd gg).toArray 45));simpa using this
 have h2:=h.later hB
 have HLd:=hid (ldC hX)
 have HC:=hid (R.bytes_ok (R.cC c dd gg) c W ⟨_,_,rfl,hi.later hB⟩ hb)
 have HIv:=hid hf.iv
 have HCt:=hid hl
 have hfd:Fd w s N c dd gg:=⟨hi,hb,by simpa using hl,hap⟩
 obtain⟨i,hiq⟩:=Int.eq_ofNat_of_zero_le (show 0≤c.op by have:=hfd.op;omega)
 have h10:1≤i∧i≤10:=by have:=hfd.op;omega
 have HOp:Hid (c.op=(i:Int)):=hiq
 have H10:=hid h10
 have HDe:Hid (∀U,Below w.heap.size w U→Calls Tryz.prog (dfn i) #[.pointer (some ⟨H.kb,0,none⟩),.agg (R.cC c dd gg).toArray] U (Rets U H N (deedA H.p s c))):=fun U hU=>deed_any (hk.later hU) ⟨hfd.is.later hU,hfd.fm,hfd.by_,hfd.ap⟩ i hiq
 obtain⟨F,hF⟩:∃F,F=dfn i:=⟨_,rfl⟩
 have HF:=hid hF
 have HCf:Hid (∀a b u,Sem.run Tryz.prog (callFunc F #[a,b]) u=.ok (.enter F #[a,b]) u):=fun a b u=>by rw [hF];exact dfn_call i h10.1 h10.2 a b u
 rw [←hF] at HDe
 generalize deedA H.p s c=A at *
 have HW:=hid hW
 have HB:=hid hB
 have HX:=hid hX
 have HZ:=hid hZ
 have HD:=hid h2
 have HP:Hid (0<w.heap.size):=by have:=h.b0;unfold Hid;omega
 have HN:=hid (fun k hk=>h.new (k:=k) hk)
 clear h h2 hB hX hZ hW hk hf ht hi hb hl hap hfd hiq h10 hF
 go_enter Tryz.func13,Tryz.ntmps13
 go_upto_region 1 with fail
 rw [←HW.out]
 go_upto_region 2 with (first|((with_reducible refine R.ld_arm HLd.out ?_ ?_);(· rfl))|(go_at_call 30;refine HC.out.mono ?_;rintro e w1 ⟨a1,n1,c1,rfl,-,hb1⟩;have HB1:=hid hb1;clear hb1))
 have HLv:Hid (∀U:World,Below w1.heap.size w1 U→Calls Tryz.prog 32 #[.pointer (some ⟨H.pg,0,none⟩),.int .i64 c.by_] U fun e w'=>e=.returned (.bool true)∧Below w1.heap.size w1 w'):=fun U hU=>by
  have:=pLive ((HD.out.later HB1.out).later hU) HIv.out c.by_
  rw [HCt.out] at this
  refine this.mono ?_
  rintro e w' ⟨he,q,hq⟩
  exact⟨he,by rw [hq];exact below_drewN hU _⟩
 have HX1:=hid (R.Bx.later HB1.out HX.out)
 have H01:Hid (∀U,But (fun _=>False) w1 U→U.cell? ⟨H.kb,14,none⟩=some (.pointer (some ⟨H.pg,0,none⟩))∧U.cell? ⟨w.heap.size,1,none⟩=some (.int .i64 c.by_)):=fun U hU=>by
  have:=Cb.of (R.Bx.but hU HX1.out (fun h=>h))
  exact⟨cb_ hU ((HD.out.later HB1.out).kb 14 _ rfl) (fun h=>h),this.c1⟩
 go_upto_region 4 with fail
 go_region_held3 (fun U=>U.cell? ⟨H.kb,14,none⟩=some (.pointer (some ⟨H.pg,0,none⟩))∧U.cell? ⟨w.heap.size,1,none⟩=some (.int .i64 c.by_)) (first|exact H01.out _ (But.of (Below.refl _ _).drew)|exact HE.out) (first
   | (go_at_call 32;refine (HLv.out _ (Below.refl _ _).drew).mono ?_;rintro e w3 ⟨rfl,hb3⟩;have HB3:=hid hb3;have HE:=hid (H01.out w3 (But.of HB3.out));clear hb3))
 have HX3:=hid (R.Bx.later HB3.out HX1.out)
 have HB3w:Hid (Below w.heap.size w w3):=bc HB.out (bc HB1.out HB3.out)
 have HZ3:=hid (HZ.out.later (bc HB1.out HB3.out))
 have H03:Hid (∀U,But (fun k=>k≠w.heap.size) w3 U→(U.cell? ⟨w.heap.size,0,none⟩=some (.int .i64 (i:Int))∧R.Bx U w.heap.size (R.cC c dd gg))):=fun U hU=>by
  have hx:=R.Bx.but hU HX3.out (fun e=>e rfl)
  have:=(Cb.of hx).c0
  rw [HOp.out] at this
  exact⟨this,hx⟩
 have hi10:=H10.out
 clear HC HLd HLv
 go_upto_region 6 with fail
 refine wp_region_held_drew (S:=(fun U:World=>(U.cell? ⟨w.heap.size,0,none⟩=some (.int .i64 (i:Int))∧R.Bx U w.heap.size (R.cC c dd gg)))) (by kernel_rfl) (H03.out _ (But.of (Below.refl _ _).drew)) (fun hHeld=>?_)
 refine nH (bm 9 0) 9 ?_
 refine tH 1 (v:=?_) rfl (fun _ _ _ h=>h) ?_ ?_;rotate_left
 ·(intro w hSw;(try dsimp only at hSw);go_simp;try with_reducible rfl)
 try simp only [gz,Act.put]
 refine nH (bm 9 2) 8 ?_
 refine tH 2 (v:=?_) rfl (fun _ _ _ h=>h) ?_ ?_;rotate_left
 ·(intro w hSw;(try dsimp only at hSw);go_simp;try with_reducible rfl)
 try simp only [gz,Act.put]
 refine nH (bm 9 6) 7 ?_
 refine tH 5 (v:=?_) rfl (fun _ _ _ h=>h) ?_ ?_;rotate_left
 ·(intro w hSw;(try dsimp only at hSw);go_simp;try with_reducible rfl)
 try simp only [gz,Act.put]
 refine nH (bm 9 38) 6 ?_
 refine tH 6 (v:=.agg (R.cC c dd gg).toArray) rfl (fun _ _ _ h=>h) ?_ ?_
 ·(intro w hSw;(try dsimp only at hSw);exact K.ex_load rfl rfl (ldC hSw.2))
 try simp only [gz,Act.put]
 refine nH (bm 9 102) 5 ?_
 refine yH [0] ?_
 refine cH rfl fun K hK=>?_
 go_simp
 go_wp2_with (first|(go_at_call 33;refine (deeds_any w3.drew).mono ?_;rintro e u1 ⟨rfl,hc1,hb1⟩;have HU1:Hid (Below w3.heap.size w3 u1):=bc (Below.refl _ _).drew hb1;have yF:u1.cell? ⟨w3.heap.size,i,none⟩=some (.func (.func (dfn i)) #[] #[]):=hc1 i H10.out.1 H10.out.2;rw [←HF.out] at yF;clear hc1 hb1))
 refine hK.out _ _ (H03.out u1 (But.of HU1.out)) (fun hHeld=>?_)
 clear hK K
 try simp only [gz,Act.put]
 refine nH (bm 9 103) 4 ?_
 refine tH 3 (v:=.pointer (some ⟨w3.heap.size,i,none⟩)) rfl (fun _ _ _ h=>h) ?_ ?_
 ·(intro w hSw;(try dsimp only at hSw);go_simp;intro hh;exfalso;omega)
 try simp only [gz,Act.put]
 refine nH (bm 9 111) 3 ?_
 refine yH [4] ?_
 refine cH rfl fun K hK=>?_
 go_simp
 refine hK.out _ _ (H03.out u1 (But.of HU1.out)) (fun hHeld=>?_)
 clear hK K
 try simp only [gz,Act.put]
 refine nH (bm 9 127) 2 ?_
 refine yH [7] ?_
 refine cH rfl fun K hK=>?_
 go_simp
 rw [HCf.out,Oper.upon_enter]
 go_wp2_with (first|((with_reducible refine (HDe.out u1 (bc HB3w.out HU1.out)).mono ?_);rintro e u2 ⟨a,n,cp,N2,rfl,ho2,hk2,hw2,hd2⟩;have HO2:=hid ho2;have HK2:=hid hk2;have HW2:=hid hw2;have HD2:=hid hd2;have HU2:Hid (But (fun k=>k≠w.heap.size) w3 u2):=(But.of HU1.out).trans (But.mono (T:=fun k=>k≠w.heap.size) hw2.2 (fun k hk e=>HN.out k (by omega) hk));have HZ9:=hid ((HZ3.out.later HU1.out).but hw2.2 (HN.out _ (by omega)));have HL9:=hid (HZ9.out.lv A.1 a n cp);have HS9:=hid (HZ9.out.st A.1 a n cp);have HB9:Hid (But (fun k=>k=w.heap.size+1) u2 (u2.setCells (w.heap.size+1) 0 (rpL A.1 a n cp))):=R.sb_ (S:=(fun k=>k=w.heap.size+1)) rfl _ 0 (But.refl _ _);have HU9:Hid (But (fun k=>k≠w.heap.size) w3 (u2.setCells (w.heap.size+1) 0 (rpL A.1 a n cp))):=HU2.out.trans (But.mono (T:=fun k=>k≠w.heap.size) HB9.out (fun k hk e=>by omega));clear ho2 hk2 hw2 hd2))
 refine hK.out _ _ (H03.out u2 HU2.out) (fun hHeld=>?_)
 clear hK K
 try simp only [gz,Act.put]
 refine nH (bm 9 255) 1 ?_
 refine yH [8] ?_
 refine cH rfl fun K hK=>?_
 rw [if_pos (by kernel_rfl)]
 refine wp_store_known 41 (.tmp 4) (.tmp 32) rfl _ _ rfl rfl _ HS9.out ?_
 refine hK.out _ _ (H03.out _ HU9.out) (fun hHeld=>?_)
 clear hK K
 try simp only [gz,Act.put]
 refine nH (bm 9 511) 0 ?_
 refine wpAnyH_done (by kernel_rfl) ?_ _
 go_wp2
 have hlt:w.heap.size+1<u1.heap.size:=Nat.lt_of_lt_of_le HZ3.out.lt HU1.out.size
 have h1:=(Went.later (N:=N) (bc HB3w.out HU1.out)).trans HW2.out
 refine bodyPost_ret (v:=rpV A.1 a n cp) (by simp [results,Tryz.results13,asAddr,HL9.out]) rfl ⟨a,n,cp,N2,rfl,?_,?_,⟨h1.1,h1.2.comp HB9.out (fun i e=>.inr (by omega))⟩,HD2.out⟩
 ·exact Own.but HB9.out (HO2.out.mono (by omega)) (fun k hk e=>by have:=HO2.out.blk k hk;omega)
 ·exact HK2.out.but HB9.out (fun k hk e=>HW2.out.out (b:=k) (by omega) (HN.out _ (by omega)) hk) (fun e=>by omega)
theorem do_any (hk:Kn w H s N)(hi:R.Is w c dd gg)(hap:0<dd.n→∀j,Blk dd.a j→¬N j) :
  Calls Tryz.prog 13 #[.pointer (some ⟨H.kb,0,none⟩),.agg (R.cC c dd gg).toArray] w (Rets w H N (doA H.p s c)):=by
 unfold doA
 by_cases hb:R.fm c=true
 ·rw [if_neg (by simp [hb])]
  by_cases hl:s.P.contains c.by_=true
  ·rw [if_neg (by simp only [hl];decide)]
   exact do_ok hk hi hb hl hap
  ·rw [if_pos (by simpa using hl)]
   refine (do_dead hk hi hb (by simpa using hl)).mono ?_
   rintro e w' ⟨rfl,hw⟩
   exact Rets.plain rfl rfl (hk.later hw) (Went.later hw)
 ·rw [if_pos (by simpa using hb)]
  refine (do_bad hk hi (by simpa using hb)).mono ?_
  rintro e w' ⟨rfl,hw⟩
  exact Rets.plain rfl rfl (hk.later hw) (Went.later hw)
end
end Go.Proofs.YtfmhdimaijimlaaGreatDoor.V
