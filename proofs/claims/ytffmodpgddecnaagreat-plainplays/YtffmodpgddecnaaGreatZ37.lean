import Derived.Test.YtffmodpgddecnaaGreatZ36
set_option linter.unusedVariables false
set_option linter.unusedSimpArgs false
namespace Go.Proofs.YtffmodpgddecnaaGreat.V.E
open Go.RowKit Go.Maps
open Go.Proofs.YtffmodpgddecnaaGreat.H (B64 Cp)
open Go.Proofs.YtffmodpgddecnaaGreat.M (okI atC pickE pickL)
section
variable {w w':World}{base:Nat}{M:Mh}{r:Rm}{a1:Option Addr}{c1:Nat}{Q1:List Ev}{a2:Option Addr}{c2:Nat}{a3:Option Addr}{c3:Nat}{Q3:List Ev}
theorem may_there {T:List Hl}{V:List (Int×List Nat)}(hon:∀x∈T,∃v∈V,v.1=x.c.1){g:Bool}{K:List Cp}{c:Cp}{need:Int}(hm:rMay T g K c need=0):∃v∈V,v.1=c.1:=by
 have hl:∃d x,liv T d=some x∧d.1=c.1:=by
  unfold rMay at hm
  cases g with
  | true=>obtain⟨x,hx⟩:=giv_live hm;exact⟨c,x,hx,rfl⟩
  | false =>
   rcases namG_zero _ _ K 3 hm with h1|⟨d,h1,h2,h3⟩
   ·cases h1
   ·obtain⟨x,hx⟩:=giv_live h3;exact⟨d,x,hx,h2⟩
 obtain⟨d,x,h1,h2⟩:=hl
 obtain⟨h3,h4⟩:=liv_is2 h1
 obtain⟨v,h5,h6⟩:=hon x h3
 exact⟨v,h5,by rw [h6,h4,h2]⟩
theorem fil_era {P:List (Int×List Cp)}(hr:P.Pairwise (fun a b=>a.1<b.1)){i:Nat}{v:Int×List Cp}(hv:P[i]?=some v):P.filter (fun q=>decide (q.1≠v.1))=P.eraseIdx i:=by
 obtain⟨h1,h2⟩:=List.getElem?_eq_some_iff.1 hv
 have e1:P=P.take i++(v::P.drop (i+1)):=by
  rw [←h2,←List.drop_eq_getElem_cons h1,List.take_append_drop]
 rw [List.eraseIdx_eq_take_drop_succ]
 conv=>lhs;rw [e1]
 rw [e1] at hr
 obtain⟨h3,h4,h5⟩:=List.pairwise_append.1 hr
 obtain⟨h6,h7⟩:=List.pairwise_cons.1 h4
 rw [List.filter_append,List.filter_cons,if_neg (by simp)]
 rw [List.filter_eq_self.2 (fun q hq=>decide_eq_true (by have:=h5 q hq v (List.mem_cons_self ..);omega)),List.filter_eq_self.2 (fun q hq=>decide_eq_true (by have:=h6 q hq;omega))]
set_option maxRecDepth 100000 in
set_option maxHeartbeats 4000000 in
theorem rdo_no (h:Mx w base M r a1 c1 Q1 a2 c2 a3 c3 Q3){cl:R.Cl}{dd gg:R.Sl}(hi:R.Is w cl dd gg)(hgf:Fl w gg.a (ints cl.gifts))(hfm:R.fm cl=false∨(R.fm cl=true∧ixF (isP cl.by_) r.P=-1)):Calls Tryz.prog 8 #[.pointer (some ⟨M.b,0,none⟩),.agg (R.cC cl dd gg).toArray] w (RmP w base M (MxN M a1 Q1 a2 a3 Q3) (if R.fm cl=false then (rep 1,r) else (rep 2,r))):=by
 obtain⟨W,hW⟩:∃W,W=(w.alloc (Obj.cells (R.cC cl dd gg).toArray 45)).alloc z6:=⟨_,rfl⟩
 have hB:Below w.heap.size w W:=by rw [hW];exact below2 _ _ _
 have hXc:R.Bx W w.heap.size (R.cC cl dd gg):=by rw [hW];exact R.Bx.later (below1 _ _) (R.Bx.new w (R.cC cl dd gg) 45)
 have hZ:Zr W (w.heap.size+1):=by rw [hW];have:=Zr.new (w.alloc (Obj.cells (R.cC cl dd gg).toArray 45));simpa using this
 have HP0:=hid (Pg.start h hB hZ (Nat.le_succ _))
 have HN:Hid (∀j,MxN M a1 Q1 a2 a3 Q3 j→j<w.heap.size):=fun j hj=>(h.rng j hj).2
 have HD:=hid h.dl
 have HW:=hid hW
 have HB:=hid hB
 have HXc:=hid hXc
 have HLd:=hid (ldC hXc)
 have HIc:=hid (ris_any (w:=W) (cl:=cl) (dd:=dd) (gg:=gg) (by have:=hi.data.len;omega) (by have:=hi.gifts.len;omega) (hgf.later hB))
 have HPr:=hid (fun U=>fun (hU:Below W.heap.size W U)=>rproc_any (h.mr.later (below_call hB hU)) cl.by_)
 clear h hi hgf hW hB hZ hXc
 rcases hfm with h1|⟨h1,h2⟩
 ·rw [h1] at HIc
  rw [if_pos h1]
  clear h1
  go_enter Tryz.func8,Tryz.ntmps8
  go_upto_region 1 with fail
  rw [←HW.out]
  go_upto_region 2 with (first|((with_reducible refine R.ld_arm HLd.out ?_ ?_);(· rfl))|(go_at_call 17;refine HIc.out.mono ?_;rintro e w1 ⟨rfl,hb1⟩;have HB1:=hid hb1;clear hb1))
  have HEv:=hid (HP0.out.later HB1.out).e
  have HR_:=hid (rrefused_any 1 w1)
  go_wp2_with (first|(go_at_call 18;refine HR_.out.mono ?_;rintro e w9 ⟨rfl,hb9⟩;have HE9:=hid (HEv.out.later hb9);have HZ9:=hid HE9.out.z;have HS9:=hid (HZ9.out.st (rep 1) none 0 0);have HL9:=hid (HZ9.out.lv (rep 1) none 0 0);clear hb9)|((with_reducible refine st_arm HS9.out ?_ ?_ ?_);(· rfl);(· rfl)))
  exact bodyPost_ret (v:=rpV (rep 1) none 0 0) (by simp [results,Tryz.results8,asAddr,HL9.out]) rfl (HE9.out.fin (Nat.le_succ _) HN.out HD.out (rep 1) rfl)
 ·rw [h1] at HIc
  rw [if_neg (by rw [h1];decide)]
  rw [h2] at HPr
  clear h1 h2
  go_enter Tryz.func8,Tryz.ntmps8
  go_upto_region 1 with fail
  rw [←HW.out]
  go_upto_region 3 with (first|((with_reducible refine R.ld_arm HLd.out ?_ ?_);(· rfl))|(go_at_call 17;refine HIc.out.mono ?_;rintro e w1 ⟨rfl,hb1⟩;have HB1:=hid hb1;clear hb1))
  have z1:=(R.Bx.later HB1.out HXc.out).cell 1 rfl
  go_upto_region 5 with (first|(go_at_call 19;refine (HPr.out w1 HB1.out).mono ?_;rintro e w2 ⟨rfl,hb2⟩;have HB2:=hid (below_call HB1.out hb2);clear hb2))
  have HEv:=hid (HP0.out.later HB2.out).e
  have HR_:=hid (rrefused_any 2 w2)
  go_wp2_with (first|(go_at_call 18;refine HR_.out.mono ?_;rintro e w9 ⟨rfl,hb9⟩;have HE9:=hid (HEv.out.later hb9);have HZ9:=hid HE9.out.z;have HS9:=hid (HZ9.out.st (rep 2) none 0 0);have HL9:=hid (HZ9.out.lv (rep 2) none 0 0);clear hb9)|((with_reducible refine st_arm HS9.out ?_ ?_ ?_);(· rfl);(· rfl)))
  exact bodyPost_ret (v:=rpV (rep 2) none 0 0) (by simp [results,Tryz.results8,asAddr,HL9.out]) rfl (HE9.out.fin (Nat.le_succ _) HN.out HD.out (rep 2) rfl)
theorem rdo_any (h:Mx w base M r a1 c1 Q1 a2 c2 a3 c3 Q3)(hbs:base≤w.heap.size)(hf:RF M.p r)(hcf:M.C.may=true)(hvr:r.V.Pairwise (fun a b=>a.1<b.1))(hpr:r.P.Pairwise (fun a b=>a.1<b.1))(hon:∀x∈r.T,∃v∈r.V,v.1=x.c.1){cl:R.Cl}{dd gg:R.Sl}(hi:R.Is w cl dd gg)(hgf:Fl w gg.a (ints cl.gifts))(hdd:∀j,Blk dd.a j→¬MxN M a1 Q1 a2 a3 Q3 j):Calls Tryz.prog 8 #[.pointer (some ⟨M.b,0,none⟩),.agg (R.cC cl dd gg).toArray] w (RmP w base M (MxN M a1 Q1 a2 a3 Q3) (rDo M.p r cl)):=by
 unfold rDo
 cases hfm:R.fm cl with
 | false =>
  have:=rdo_no h hi hgf (.inl hfm)
  rw [if_pos hfm] at this
  rw [if_pos rfl]
  exact this
 | true =>
  rw [if_neg (by decide)]
  by_cases hp:hasP r.P cl.by_=false
  ·have h1:ixF (isP cl.by_) r.P=-1:=ixF_none (fun j hj y hy=>by
    unfold hasP at hp
    have h2:=List.any_eq_false.1 hp y (List.mem_of_getElem? hy)
    unfold isP
    simpa using h2)
   have:=rdo_no h hi hgf (.inr ⟨hfm,h1⟩)
   rw [if_neg (by rw [hfm];decide)] at this
   rw [if_pos hp]
   exact this
  rw [if_neg hp]
  have hp:hasP r.P cl.by_=true:=by simpa using hp
  obtain⟨q,hq,hqb⟩:=List.any_eq_true.1 hp
  obtain⟨pi,pv,hix,hpi,hpb⟩:=ix_ex (P:=isP cl.by_) (L:=r.P) ⟨q,hq,hqb⟩
  have hpb:pv.1=cl.by_:=of_decide_eq_true hpb
  have hls:lstN r.P cl.by_=pv.2:=by rw [←hpb];exact lstN_is hpr (List.mem_of_getElem? hpi)
  have hst:∀K,setN r.P cl.by_ K=r.P.set pi (pv.1,K):=fun K=>by rw [←hpb];exact setN_set hpr hpi K
  have hin:=hfm
  unfold R.fm R.inB R.wi at hin
  simp only [Bool.and_eq_true,decide_eq_true_eq] at hin
  have hop:1≤cl.op∧cl.op≤10:=by omega
  have hxi:0≤cl.index:=by omega
  have hco:(cpO cl).1=cl.obj:=rfl
  unfold rDeed
  by_cases o1:cl.op=1
  ·rw [if_pos o1];exact rdo_create h hbs hf hcf hi hgf hfm o1 hix hpi
  rw [if_neg o1]
  by_cases o2:cl.op=2
  ·rw [if_pos o2];exact rdo_destroy h hbs hf hcf hi hgf hfm o2 hix hpi
  rw [if_neg o2]
  by_cases o3:cl.op=3
  ·rw [if_pos o3];exact rdo_derive h hbs hf hcf hi hgf hfm o3 hix hpi
  rw [if_neg o3]
  by_cases o4:cl.op=4
  ·rw [if_pos o4];exact rdo_revoke h hbs hf hcf hi hgf hfm o4 hix hpi
  rw [if_neg o4]
  by_cases o5:cl.op=5
  ·rw [if_pos o5]
   have e:rRead r cl.given cl.by_ (cpO cl) cl.off cl.n=rdK r pv.2 cl:=by unfold rRead rdK;rw [hls];rfl
   rw [e]
   exact rdo_read h hbs hf hcf hi hgf hfm o5 hix hpi hvr (fun e=>may_there hon e)
  rw [if_neg o5]
  by_cases o6:cl.op=6
  ·rw [if_pos o6]
   have e:rWrite r cl.given cl.by_ (cpO cl) cl.off cl.data=wrK r pv.2 cl:=by unfold rWrite wrK;rw [hls];rfl
   rw [e]
   exact rdo_write h hbs hf hcf hi hgf hfm o6 hix hpi hvr hdd (fun e=>may_there hon e)
  rw [if_neg o6]
  by_cases o7:cl.op=7
  ·rw [if_pos o7]
   have e:rAdd M.p r cl.by_ (cpO cl)=adK M.p r pi pv (cpO cl):=by unfold rAdd adK;rw [hls,hst]
   rw [e]
   exact rdo_add h hbs hf hcf hi hgf hfm o7 hix hpi
  rw [if_neg o7]
  by_cases o8:cl.op=8
  ·rw [if_pos o8]
   have e:rRem r cl.by_ cl.index=rmK r pi pv cl.index:=by
    unfold rRem rmK okI
    rw [hls,hst,List.eraseIdx_eq_take_drop_succ]
    by_cases h1:(pv.2.length:Int)≤cl.index
    ·rw [if_pos (decide_eq_false (by omega)),if_pos h1]
    ·rw [if_neg (by simp;omega),if_neg h1]
   rw [e]
   exact rdo_remove h hbs hf hcf hi hgf hfm o8 hix hpi
  rw [if_neg o8]
  by_cases o9:cl.op=9
  ·rw [if_pos o9]
   have e:rSpa M.p r cl.by_ cl.gifts=spK M.p r pv.2 cl.gifts:=by unfold rSpa spK;rw [hls]
   rw [e]
   exact rdo_spawn h hbs hf hcf hi hgf hfm o9 hix hpi
  rw [if_neg o9]
  have o10:cl.op=10:=by omega
  have e:rExi r cl.by_=exK r pi:=by unfold rExi exK;rw [←hpb,fil_era hpr hpi]
  rw [e]
  exact rdo_exit h hbs hf hcf hi hgf hfm o10 hix hpi
end
end Go.Proofs.YtffmodpgddecnaaGreat.V.E
namespace Go.Proofs.YtffmodpgddecnaaGreat.V.E
open Go.RowKit Go.Maps
open Go.Proofs.YtffmodpgddecnaaGreat.H (B64 Cp)
def und (T:List Hl):Nat→List Tok→Hl→Int→List Tok
 | 0,s,_,_=>s
 | k+1,s,t,par=>T.foldl (fun a c=>if c.up=t.no then und T k a c (s.length:Int) else a) (s++[(t.c,t.r,par)])
def rtO (T:List Hl)(o:Int)(a:List Tok)(t:Hl):List Tok:=if t.c.1=o∧t.up=0 then und T T.length a t (-1) else a
def rTk (r:Rm):List Tok:=r.V.foldl (fun a v=>r.T.foldl (rtO r.T v.1) a) []
def psR (r:Rm):Ps:=⟨r.V,rTk r,r.P,r.nx,r.px,(r.t:Int)⟩
section
variable {p:Pm}{q:Pl}{r:Rm}{f:Int→Nat×Nat}
theorem fold_cg {α β:Type}{F G:β→α→β}:∀(L:List α) (a:β),(∀a,∀c∈L,F a c=G a c)→L.foldl F a=L.foldl G a
 | [],a,_=>rfl
 | c::L,a,h=>by
  rw [List.foldl_cons,List.foldl_cons,h a c (List.mem_cons_self ..)]
  exact fold_cg L _ (fun a c hc=>h a c (List.mem_cons_of_mem _ hc))
theorem fold_id {α β:Type}{F:β→α→β}:∀(L:List α) (a:β),(∀a,∀c∈L,F a c=a)→L.foldl F a=a
 | [],a,_=>rfl
 | c::L,a,h=>by
  rw [List.foldl_cons,h a c (List.mem_cons_self ..)]
  exact fold_id L _ (fun a c hc=>h a c (List.mem_cons_of_mem _ hc))
theorem fold_of {β:Type}{F:β→Hl→β}(o:Int):∀(T:List Hl) (a:β),(∀a,∀c∈T,c.c.1≠o→F a c=a)→T.foldl F a=(ofT T o).foldl F a
 | [],a,_=>rfl
 | c::T,a,h=>by
  have h2:=fun a d hd=>h a d (List.mem_cons_of_mem c hd)
  by_cases e:c.c.1=o
  ·have e2:ofT (c::T) o=c::ofT T o:=by unfold ofT;rw [List.filter_cons,if_pos (decide_eq_true e)]
   rw [e2,List.foldl_cons,List.foldl_cons]
   exact fold_of o T _ h2
  ·have e2:ofT (c::T) o=ofT T o:=by unfold ofT;rw [List.filter_cons,if_neg (by simpa using e)]
   rw [e2,List.foldl_cons,h a c (List.mem_cons_self ..) e]
   exact fold_of o T _ h2
theorem tel_more {T:List Tn}(h:Tre T)(id:Int):∀(k i:Nat) (t:Tn) (s:List Tok) (par:Int),T[i]?=some t→T.length - i≤k→tel T id (k+1) s t par=tel T id k s t par
 | 0,i,t,s,par,ht,hk=>by
  obtain⟨h1,_⟩:=List.getElem?_eq_some_iff.1 ht
  omega
 | k+1,i,t,s,par,ht,hk=>by
  rw [tel,tel]
  refine fold_cg _ _ (fun a c hc=>?_)
  by_cases e:c.u=t.w
  ·rw [if_pos e,if_pos e]
   obtain⟨j,hj⟩:=List.getElem?_of_mem hc
   rw [List.getElem?_drop,Nat.add_comm] at hj
   have:=h.behind ht hj e
   exact tel_more h id k (j+1) c a _ hj (by omega)
  ·rw [if_neg e,if_neg e]
theorem tel_top {T:List Tn}(h:Tre T)(id:Int){t:Tn}(ht:T[0]?=some t)(s:List Tok)(par:Int):∀n,tel T id (T.length+n) s t par=tel T id T.length s t par
 | 0=>rfl
 | n+1=>by
  rw [←Nat.add_assoc,tel_more h id (T.length+n) 0 t s par ht (by omega)]
  exact tel_top h id ht s par n
theorem und_tel (h:Like q f r){o:Int}{x0:Hl}{L:List Hl}(hL:ofT r.T o=x0::L)(h0:x0.up=0)(hu:∀y∈L,y.up≠0):∀(k:Nat) (s:List Tok) (x:Hl) (par:Int),x∈r.T→x.c.1=o→und r.T k s x par=tel ((x0::L).map (tnF f)) o k s (tnF f x) par
 | 0,s,x,par,_,_=>rfl
 | k+1,s,x,par,hx,hxo=>by
  have hr:=h.rng x hx
  have hLm:∀y∈L,y∈r.T∧y.c.1=o:=fun y hy=>mem_ofT.1 (by rw [hL];exact List.mem_cons_of_mem _ hy)
  rw [und,tel,fold_of o r.T _ (fun a c hc hn=>?_),hL,List.foldl_cons,if_neg (show ¬x0.up=x.no by omega)]
  ·rw [List.map_cons,List.drop_succ_cons,List.drop_zero,List.foldl_map]
   have e1:tokT o (tnF f x) par=(x.c,x.r,par):=by unfold tokT;rw [←hxo];rfl
   rw [e1]
   refine fold_cg _ _ (fun a c hc=>?_)
   obtain⟨hc1,hc2⟩:=hLm c hc
   have hcu:=hu c hc
   obtain⟨z,hz,hzu,hzo,_⟩:∃z∈r.T,z.no=c.up∧z.c.1=c.c.1∧z.no<c.no:=by
    rcases h.up c hc1 with e|e
    ·exact absurd e hcu
    ·exact e
   have e2:(tnF f c).u=z.c.2:=by
    unfold Tn.u tnF
    simp only [if_neg hcu]
    rw [←hzu,h.wd z hz]
   have e3:((tnF f c).u=(tnF f x).w)↔c.up=x.no:=by
    rw [e2]
    show z.c.2=x.c.2↔_
    rw [←hzu]
    exact⟨fun e=>by rw [h.one_eq hz hx (Prod.ext (by rw [hzo,hc2,hxo]) e)],fun e=>by rw [h.no_eq hz hx e]⟩
   by_cases e4:c.up=x.no
   ·rw [if_pos e4,if_pos (e3.2 e4)]
    exact und_tel h hL h0 hu k a c _ hc1 hc2
   ·rw [if_neg e4,if_neg (fun e=>e4 (e3.1 e))]
  ·refine if_neg (fun e=>hn ?_)
   rcases h.up c hc with e2|⟨z,hz,e2,e3,_⟩
   ·omega
   ·have:=h.no_eq hz hx (e2.trans e)
    subst this
    rw [←e3,hxo]
theorem Like.tks (h:Like q f r)(ht:TreA q):rTk r=q.O.foldl tlO []:=by
 unfold rTk
 rw [h.V]
 unfold vO
 rw [List.foldl_map]
 refine fold_cg _ _ (fun a e he=>?_)
 obtain⟨x0,L,hL,h0,hu⟩:=h.hd e he
 have hT:e.2.T=(x0::L).map (tnF f):=by rw [←hL];exact h.O e he
 have hx0:x0∈r.T∧x0.c.1=e.1:=mem_ofT.1 (by rw [hL];exact List.mem_cons_self ..)
 have hd:e.2.T.head?=some (tnF f x0):=by rw [hT];rfl
 rw [tlO_hd hd]
 show r.T.foldl (rtO r.T e.1) a=_
 rw [fold_of (F:=rtO r.T e.1) e.1 r.T a (fun a c _ hn=>if_neg (fun e=>hn e.1)),hL,List.foldl_cons,fold_id (F:=rtO r.T e.1) L _ (fun a c hc=>if_neg (fun e=>hu c hc e.2))]
 unfold rtO
 rw [if_pos ⟨hx0.2,h0⟩,und_tel h hL h0 hu _ a x0 (-1) hx0.1 hx0.2,←hT]
 have hl:e.2.T.length≤r.T.length:=by rw [h.O e he,List.length_map];exact List.length_filter_le _ _
 obtain⟨n,hn⟩:∃n,r.T.length=e.2.T.length+n:=⟨r.T.length - e.2.T.length,by omega⟩
 rw [hn]
 exact tel_top (ht e he) e.1 (by rw [hT];rfl) a (-1) n
theorem Like.ps (h:Like q f r)(ht:TreA q):psR r=psP q:=by
 unfold psR psP
 rw [h.tks ht,h.V,h.P,h.nx,h.px,h.t]
def rm0:Rm:=⟨0,[],[],[(0,[])],1,1,1⟩
theorem like_new:Like pl0 (fun _=>(0,0)) rm0 :=
 ⟨rfl,rfl,rfl,rfl,rfl,fun e he=>(by cases he),fun e he=>(by cases he),fun e he=>(by cases he),List.Pairwise.nil,fun e he=>(by cases he),by decide,fun e he=>(by cases he),fun e he=>(by cases he),fun e he=>(by cases he),List.Pairwise.nil⟩
end
end Go.Proofs.YtffmodpgddecnaaGreat.V.E
namespace Go.Proofs.YtffmodpgddecnaaGreat.V.E
open Go.RowKit Go.Maps
open Go.Proofs.YtffmodpgddecnaaGreat.H (B64 Cp)
open Go.Proofs.YtffmodpgddecnaaGreat.M (okI atC pickE pickL)
def undS (T:List Hl)(k:Nat)(t:Hl)(at_:Int)(a:List Tok)(c:Hl):List Tok:=if c.up=t.no then und T k a c at_ else a
theorem und_fold (T:List Hl)(k:Nat)(s:List Tok)(t:Hl)(par:Int):und T (k+1) s t par=T.foldl (undS T k t (s.length:Int)) (s++[(t.c,t.r,par)]):=rfl
theorem foldH_grow (F:List Tok→Hl→List Tok)(hF:∀a c,a.length≤(F a c).length):∀(L:List Hl) (a:List Tok),a.length≤(L.foldl F a).length
 | [],a=>Nat.le_refl _
 | x::r,a=>Nat.le_trans (hF a x) (foldH_grow F hF r _)
theorem foldH_le (F:List Tok→Hl→List Tok)(hF:∀a c,a.length≤(F a c).length)(L:List Hl)(a:List Tok)(i:Nat):((L.take i).foldl F a).length≤(L.foldl F a).length:=by
 conv=>rhs;rw [←List.take_append_drop i L,List.foldl_append]
 exact foldH_grow F hF _ _
theorem foldH_take {T:List Hl}(F:List Tok→Hl→List Tok)(s0:List Tok){i:Nat}{c:Hl}(h:T[i]?=some c):(T.take (i+1)).foldl F s0=F ((T.take i).foldl F s0) c:=by
 rw [List.take_add_one,h,List.foldl_append]
 rfl
theorem und_len (T:List Hl):∀(k:Nat) (s:List Tok) (t:Hl) (par:Int),s.length≤(und T k s t par).length
 | 0,s,t,par=>Nat.le_refl _
 | k+1,s,t,par=>by
  rw [und_fold]
  refine Nat.le_trans ?_ (foldH_grow _ (fun a c=>?_) T _)
  ·simp
  ·unfold undS
   split
   ·exact und_len T k a c _
   ·exact Nat.le_refl _
theorem undS_len (T:List Hl)(k:Nat)(t:Hl)(at_:Int)(a:List Tok)(c:Hl):a.length≤(undS T k t at_ a c).length:=by
 unfold undS
 split
 ·exact und_len T k a c at_
 ·exact Nat.le_refl _
def UnRel (W:World)(base:Nat)(a:Option Addr)(T:List Hl)(k:Nat)(t:Hl)(at_:Int)(s0:List Tok)(v3 v10:Value)(U:World):Prop :=
 ∃(i:Nat) (a2:Option Addr) (c2:Nat) (s2:List Tok),v3=.slice a2 s2.length c2∧v10=.int .i64 (i:Int)∧i≤T.length∧Hid (s2=(T.take i).foldl (undS T k t at_) s0)∧Hid (Ow U base 57 5 a2 s2.length c2 (toks s2))∧Hid (Gr a a2 W U)
def Beh (T:List Hl):Prop:=∀(i j:Nat) (x y:Hl),T[i]?=some x→T[j]?=some y→y.up=x.no→i<j
section
set_option maxRecDepth 100000 in
set_option maxHeartbeats 4000000 in
theorem under_any {T:List Hl}(hT:Beh T)(hn2:T.length≤4096)(b tc:Nat)(ta:Option Addr):∀(k i:Nat) (t:Hl) (s:List Tok) (par:Int) (w:World) (base:Nat) (a:Option Addr) (c:Nat),
  T[i]?=some t→T.length≤i+k→(und T k s t par).length≤1048576→w.cell? ⟨b,13,none⟩=some (.slice ta T.length tc)→b<w.heap.size→¬Blk a b→Ow w 0 91 6 ta T.length tc (hls T)→Ow w base 57 5 a s.length c (toks s)→base≤w.heap.size→(∀j,Blk a j→¬Blk ta j) →
  Calls Tryz.prog 35 #[.pointer (some ⟨b,0,none⟩),.agg #[.int .i64 t.no,.int .i64 t.up,.int .i64 t.c.1,.int .u64 (t.c.2.1:Int),.int .u64 (t.c.2.2:Int),.int .i64 t.r],.int .i64 par,.slice a s.length c] w (TlOut w base a (und T k s t par))
 | 0,i,t,s,par,w,base,a,c,ht,hk,_,_,_,_,_,_,_,_=>by
  have:=(List.getElem?_eq_some_iff.1 ht).1
  omega
 | k+1,i,t,s,par,w,base,a,c,ht,hk,hM,hC,hbl,hnb,hTo,hO,hb,hap=>by
  have ih:=under_any hT hn2 b tc ta k
  obtain⟨W,hW⟩:∃W,W=w.alloc (.cells #[.int .i64 t.no,.int .i64 t.up,.int .i64 t.c.1,.int .u64 (t.c.2.1:Int),.int .u64 (t.c.2.2:Int),.int .i64 t.r] 91):=⟨_,rfl⟩
  have hB:Below w.heap.size w W:=by rw [hW];exact below1 _ _
  have hWs:W.heap.size=w.heap.size+1:=by rw [hW];simp
  have hX:R.Bx W w.heap.size (hlC t):=by rw [hW];exact R.Bx.new w _ _
  have hab:=fun j hj=>hO.blk j hj
  have HTb:=hid (fun j hj=>hTo.blk j hj)
  have HSt:Hid (∀U,But (Blk a) W U→U.cell? ⟨b,13,none⟩=some (.slice ta T.length tc)∧Ow U 0 91 6 ta T.length tc (hls T)∧U.cell? ⟨w.heap.size,0,none⟩=some (.int .i64 t.no)):=fun U hU=>by
   have n0:¬Blk a w.heap.size:=fun e=>by have:=(hab _ e).2;omega
   exact⟨cell_but hU (cell_later hB hC) hnb,(hTo.later hB).but hU (fun j hj e=>hap j e hj),cell_but hU (hX.cell 0 rfl) n0⟩
  have k2:=hX.cell 2 rfl
  have k3:=hX.cell 3 rfl
  have k4:=hX.cell 4 rfl
  have k5:=hX.cell 5 rfl
  obtain⟨tk,htk⟩:∃tk:Tok,tk=(t.c,t.r,par):=⟨_,rfl⟩
  have hfin:=und_fold T k s t par
  rw [←htk] at hfin
  have hs1:(s++[tk]).length=s.length+1:=by simp
  have hgr:=foldH_grow _ (undS_len T k t (s.length:Int)) T (s++[tk])
  rw [hfin] at hM
  have hcr:=Cr.lit W 57 (encT tk) (fun u hu=>by simp only [encT,List.mem_cons,List.not_mem_nil,or_false] at hu;rcases hu with h|h|h|h|h<;>(rw [h];rfl))
  obtain⟨a1,c1_,V,hrun,hO1,hG0⟩:=append_k 50 57 _ 5 40 Tryz.underlying50 infoTk rfl (by omega) (by omega) ((hO.later hB).later (below1 W (Obj.cells (encT tk).toArray 57))) hcr (by have:=hB.size;simp;omega) (by omega)
  have HG1:=hid (hG0.pre (below1 W (Obj.cells (encT tk).toArray 57)))
  have HO1:Hid (Ow V base 57 5 a1 (s++[tk]).length c1_ (toks (s++[tk]))):=by
   unfold Hid
   rw [hs1]
   have:toks (s++[tk])=toks s++encT tk:=by simp [toks]
   rw [this]
   exact hO1
  rw [htk] at hrun
  simp only [encT] at hrun
  have HRUN:=hid hrun
  obtain⟨s0,hs0⟩:∃s0,s0=s++[tk]:=⟨_,rfl⟩
  rw [←hs0] at hfin HO1 hs1 hM
  obtain⟨at_,hat⟩:∃at_:Int,at_=(s.length:Int):=⟨_,rfl⟩
  rw [←hat] at hfin hM
  have HM:=hid hM
  have HAt:=hid hat
  have HW:=hid hW
  have HB:=hid hB
  have HWs:=hid hWs
  have HIh:=hid ih
  have HT:=hid hT
  have HTi:=hid ht
  have HK:=hid hk
  have HAb:=hid hab
  have HS1:=hid hs1
  have HAp:=hid hap
  have HBb:=hid hbl
  have HNb:=hid hnb
  obtain⟨nT,hnT⟩:∃n,n=T.length:=⟨_,rfl⟩
  have HnT:=hid hnT
  rw [hfin]
  clear hs0 hfin hM hrun hO1 hG0 hcr hB hW ih ht hk hTo hO hap hT hab hgr htk hX hC hbl hnb
  have hbW:base≤W.heap.size:=by omega
  clear hb hWs hat hs1 hnT
  go_enter Tryz.func35,Tryz.ntmps35
  go_upto_region 1 with fail
  rw [←HW.out]
  go_upto_region 2 with fail
  go_upto_region 3 with (first|(at_builtin;refine wpList_append_known rfl _ _ 50 rfl _ _ rfl rfl _ V HRUN.out ?_))
  rw [←HAt.out]
  clear k2 k3 k4 k5
  have hs1:=HS1.out
  rw [←hs1]
  clear hs1
  go_upto_region 4 with fail
  go_loopw [3,10] (UnRel W base a T k t at_ s0) (fun _ v _=>T.length - S.ivN v)
  case atStart=>exact⟨0,a1,c1_,s0,rfl,rfl,Nat.zero_le _,hid (by simp),HO1,HG1⟩
  case round =>
   clear HO1 HG1
   obtain⟨j,a2,c2,s2,rfl,rfl,hj,HS2,HO2,HG2⟩:=hrel
   obtain⟨m13,hTo,z0⟩:=HSt.out wr HG2.out.but
   have HTo:=hid hTo
   rw [←HnT.out] at m13
   clear hTo
   have hT2:=HnT.out
   by_cases hlt:j<T.length
   ·have hd:decide ((j:Int)<(nT:Int))=true:=decide_eq_true (by omega)
    have hlt2:(j:Int)<(nT:Int):=by omega
    have h0j:(0:Int)≤(j:Int):=by omega
    have hwi:wrap64 ((j:Int)+1)=(j:Int)+1:=by unfold wrap64;omega
    obtain⟨ch,hch⟩:∃ch,T[j]?=some ch:=⟨_,List.getElem?_eq_getElem hlt⟩
    obtain⟨gt,hga,hqc⟩:=hl_cells (Fl.of HTo.out (by rw [hls_len])) hch
    rw [hga] at m13
    have q1:=hqc 1 _ rfl
    have HStep:Hid ((T.take (j+1)).foldl (undS T k t at_) s0=undS T k t at_ s2 ch):=by unfold Hid;rw [foldH_take _ _ hch,HS2.out]
    have HCh:=hid hch
    have HGa:=hid hga
    clear hqc hch hga
    have HRd:Hid (∀U:World,Below wr.heap.size wr U→U.cell? ⟨b,13,none⟩=some (.slice (some ⟨gt,0,none⟩) nT tc)∧U.cell? ⟨gt,j*6,none⟩=some (.int .i64 ch.no)∧U.cell? ⟨gt,j*6+1,none⟩=some (.int .i64 ch.up)∧U.cell? ⟨gt,j*6+2,none⟩=some (.int .i64 ch.c.1)∧U.cell? ⟨gt,j*6+3,none⟩=some (.int .u64 (ch.c.2.1:Int))∧U.cell? ⟨gt,j*6+4,none⟩=some (.int .u64 (ch.c.2.2:Int))∧U.cell? ⟨gt,j*6+5,none⟩=some (.int .i64 ch.r)):=fun U hU=>by
     obtain⟨m,hTo,-⟩:=HSt.out U (HG2.out.but.call hU)
     obtain⟨g,hg,hqc⟩:=hl_cells (Fl.of hTo (by rw [hls_len])) HCh.out
     rw [HGa.out] at hg
     obtain rfl:gt=g:=by simpa using hg
     rw [HGa.out,←HnT.out] at m
     exact⟨m,hqc 0 _ rfl,hqc 1 _ rfl,hqc 2 _ rfl,hqc 3 _ rfl,hqc 4 _ rfl,hqc 5 _ rfl⟩
    go_upto_region 6 with fail
    by_cases he:ch.up=t.no
    ·have heq:(ch.up==t.no)=true:=by simp [he]
     go_quiet (fail)
     obtain⟨v3,hv3⟩:∃v3,v3=wr.drewN nq:=⟨_,rfl⟩
     have HB3:Hid (Below wr.heap.size wr v3):=by unfold Hid;rw [hv3];exact below_drewN (Below.refl _ _) _
     rw [←hv3]
     clear hv3 m13 q1 z0
     obtain⟨m13,r0,r1,r2,r3,r4,r5⟩:=HRd.out v3 HB3.out
     have hts:undS T k t at_ s2 ch=und T k s2 ch at_:=by unfold undS;rw [if_pos he]
     have hlen:(und T k s2 ch at_).length≤1048576:=by
      have h5:=foldH_le (undS T k t at_) (undS_len T k t at_) T s0 (j+1)
      rw [HStep.out,hts] at h5
      exact Nat.le_trans h5 HM.out
     have HCall:=hid (HIh.out j ch s2 at_ v3 base a2 c2 HCh.out (by have:=HT.out i j t ch HTi.out HCh.out he;have:=HK.out;omega) hlen (by have:=(HSt.out v3 (HG2.out.but.call HB3.out)).1;exact this) (by have:=HG2.out.but.size;have:=HB3.out.size;have:=HBb.out;have:=HWs.out;omega) (fun e=>by
      rcases HG2.out.on b e with h5|h5
      ·exact HNb.out h5
      ·have:=HBb.out;have:=HWs.out;omega) ((HSt.out v3 (HG2.out.but.call HB3.out)).2.1) (HO2.out.later HB3.out) (by have:=HG2.out.but.size;have:=HB3.out.size;omega) (fun l h3 h4=>by
      rcases HG2.out.on l h3 with h5|h5
      ·exact HAp.out l h5 h4
      ·have h6:=HTb.out l h4
       have:=HWs.out
       omega))
     have HTs:Hid ((T.take (j+1)).foldl (undS T k t at_) s0=und T k s2 ch at_):=HStep.out.trans hts
     have HG3:Hid (Gr a a2 W v3):=⟨HG2.out.but.call HB3.out,HG2.out.on⟩
     clear he heq hts hlen hd hT2
     go_wp2_with (first|(go_at_call 35;refine HCall.out.mono ?_;rintro e u2 ⟨a3,c3,rfl,hO3,hG4⟩;have HO3:=hid hO3;have HG4:=hid hG4;clear hO3 hG4))
     exact⟨⟨j+1,a3,c3,_,rfl,by simp,by omega,hid HTs.out.symm,HO3,hid (HG3.out.trans HG4.out)⟩,by simp [S.ivN];omega⟩
    ·have heq:(ch.up==t.no)=false:=by simp [he]
     go_quiet (fail)
     obtain⟨v3,hv3⟩:∃v3,v3=wr.drewN nq:=⟨_,rfl⟩
     have HB3:Hid (Below wr.heap.size wr v3):=by unfold Hid;rw [hv3];exact below_drewN (Below.refl _ _) _
     rw [←hv3]
     clear hv3 m13 q1 z0
     have hts:undS T k t at_ s2 ch=s2:=by unfold undS;rw [if_neg he]
     have HTs:=hid (HStep.out.trans hts)
     have HG3:Hid (Gr a a2 W v3):=⟨HG2.out.but.call HB3.out,HG2.out.on⟩
     clear he heq hts hd hT2
     go_wp2
     exact⟨⟨j+1,a2,c2,s2,rfl,by simp,by omega,hid HTs.out.symm,hid (HO2.out.later HB3.out),HG3⟩,by simp [S.ivN];omega⟩
   ·obtain rfl:j=nT:=by omega
    have hd:decide ((j:Int)<(j:Int))=false:=by simp
    have hs2:=HS2.out
    rw [List.take_of_length_le (by omega)] at hs2
    have hfin:TlOut w base a (T.foldl (undS T k t at_) s0) (.returned (.slice a2 s2.length c2)) wr:=⟨a2,c2,by rw [←hs2],by rw [←hs2];exact HO2.out,⟨(But.of HB.out).trans HG2.out.but,fun l hl=>by
     rcases HG2.out.on l hl with h5|h5
     ·exact .inl h5
     ·exact .inr (Nat.le_trans HB.out.size h5)⟩⟩
    have HF:=hid hfin
    clear hfin hs2 hT2 hlt hj
    go_wp2
    go_ret
    exact HF.out
end
end Go.Proofs.YtffmodpgddecnaaGreat.V.E
namespace Go.Proofs.YtffmodpgddecnaaGreat.V.E
open Go.RowKit Go.Maps
open Go.Proofs.YtffmodpgddecnaaGreat.H (B64 Cp)
section
variable {p:Pm}{q:Pl}{r:Rm}{f:Int→Nat×Nat}
theorem Like.beh (h:Like q f r):Beh r.T:=by
 intro i j x y hx hy e
 have hxm:=List.mem_of_getElem? hx
 have hym:=List.mem_of_getElem? hy
 have h1:=h.rng x hxm
 rcases h.up y hym with h2|⟨z,hz,h3,_,h4⟩
 ·omega
 obtain⟨hi1,hi2⟩:=List.getElem?_eq_some_iff.1 hx
 obtain⟨hj1,hj2⟩:=List.getElem?_eq_some_iff.1 hy
 have hp:=List.pairwise_iff_getElem.1 h.no
 rcases Nat.lt_trichotomy i j with h5|h5|h5
 ·exact h5
 ·subst h5;rw [hx] at hy;obtain rfl:=Option.some.inj hy;omega
 ·have:=hp j i hj1 hi1 h5;rw [hi2,hj2] at this;omega
theorem Like.hvr (h:Like q f r)(hf:Fit p q):r.V.Pairwise (fun a b=>a.1<b.1):=by
 rw [h.V]
 unfold vO
 rw [List.pairwise_map]
 exact hf.ro
theorem Like.hpr (h:Like q f r)(hf:Fit p q):r.P.Pairwise (fun a b=>a.1<b.1):=by
 rw [h.P]
 exact hf.rx
theorem Like.hon (h:Like q f r):∀x∈r.T,∃v∈r.V,v.1=x.c.1:=fun x hx=>by
 obtain⟨e,he,h1⟩:=h.on x hx
 rw [h.V]
 exact⟨(e.1,e.2.b),List.mem_map.2 ⟨e,he,rfl⟩,h1⟩
theorem Like.tkl (h:Like q f r)(hf:Fit p q)(ht:TreA q):(rTk r).length≤1048576:=by
 have h1:=congrArg Ps.T (h.ps ht)
 have h2:rTk r=(psP q).T:=h1
 rw [h2]
 have h3:=tlO_len (O:=q.O) ht []
 have h4:=hf.mo
 unfold psP
 simp only [List.length_nil] at h3 ⊢
 omega
theorem Like.rf (h:Like q f r)(hf:Fit p q):RF p r:=by
 have hle:=hf.le
 have hn:=hf.n
 have hlv:=h.lv hf.ro
 have hmo:=hf.mo
 have hrm:=hf.rm
 have hpm:=hf.pm
 have hpg:=hf.pg
 have hlm:=hf.lm
 have hnn:=h.nn
 have ht:=h.t
 refine⟨by omega,hn,by rw [h.nx];exact hf.nx,by rw [h.px];exact hf.px,⟨hnn.1,by omega⟩,?_,by omega,?_,?_,?_,h.rt,?_,fun x hx=>?_⟩
 ·rw [h.V];unfold vO;rw [List.length_map];omega
 ·rw [h.P];omega
 ·rw [h.V];omega
 ·intro v hv
  rw [h.V] at hv
  obtain⟨e,he,rfl⟩:=List.mem_map.1 hv
  exact (hf.ob e he).2
 ·intro e he
  rw [h.P] at he
  have:=(hf.ln e he).1
  omega
 ·have:=h.rng x hx
  omega
end
end Go.Proofs.YtffmodpgddecnaaGreat.V.E
namespace Go.Proofs.YtffmodpgddecnaaGreat.V.E
open Go.RowKit Go.Maps
open Go.Proofs.YtffmodpgddecnaaGreat.H (B64 Cp)
open Go.Proofs.YtffmodpgddecnaaGreat.M (okI atC pickE pickL)
theorem ow_emp (w:World)(e:TypeId)(k:Nat):Ow (w.alloc (Obj.cells #[] e)) w.heap.size e k (some ⟨w.heap.size,0,none⟩) 0 0 [] :=
 World.ownsRow_made (base:=w.heap.size) (size:=k) (e:=e) w #[] 0 (by simp) (by unfold maxLen;omega) (by simp)
theorem words_apg {u X:World}{g:Nat}{a:Option Addr}{n cap:Nat}{f:Nat→Nat}(hX:Below u.heap.size u X)(he:Ow X u.heap.size 36 2 (some ⟨g,0,none⟩) 0 0 [])(h:D.Ws X a n cap f)(hn:n≤1048576) :
  ∃a' c' w3,(Builtin.append_ #[24,24] 24 #[.slice (some ⟨g,0,none⟩) 0 0,.slice a n cap]).run Tryz.prog X=.ok (.slice a' n c') w3∧D.Ws w3 a' n c' f∧(∀j,Blk a' j→u.heap.size≤j∧j<w3.heap.size∧(j=g∨X.heap.size≤j))∧Below u.heap.size u w3∧But (·=g) X w3:=by
 obtain⟨a',c',w3,hrun,hO3,hG⟩:=append_k 24 36 _ 2 16 Tryz.underlying24 info31 rfl (by omega) (by omega) he (Ws.cr h) hX.size (by omega)
 rw [Nat.zero_add] at hrun hO3
 rw [List.nil_append] at hO3
 have hO3:Ow w3 u.heap.size 36 2 a' n c' (D.wvs f n):=hO3
 refine⟨a',c',w3,hrun,⟨?_,?_,?_,h.small⟩,fun j hj=>⟨(hO3.blk j hj).1,(hO3.blk j hj).2,?_⟩,But.below hX hG.but (fun k hk=>(he.blk k hk).1),hG.but.mono (fun j hj=>by obtain⟨x,hx,rfl⟩:=hj;cases hx;rfl)⟩
 ·rcases hO3.form with ⟨_,h1,h2⟩|⟨g,_,_,h3⟩
  ·omega
  ·exact h3
 ·intro e
  rcases hO3.form with ⟨_,h1,h2⟩|⟨g,h1,_⟩
  ·exact⟨h1,h2⟩
  ·rw [h1] at e;cases e
 ·intro x hx j u hu
  by_cases h0:0<n
  ·obtain⟨b,h1,h2⟩:=Ow.at_ hO3 h0
   rw [h1] at hx
   obtain rfl:x=⟨b,0,none⟩:=(by simpa using hx:_=_).symm
   rw [addr_add0]
   exact h2 j u hu
  ·obtain rfl:n=0:=by omega
   simp [D.wvs] at hu
 ·rcases hG.on j hj with h1|h1
  ·obtain⟨x,hx,rfl⟩:=h1;cases hx;exact .inl rfl
  ·exact .inr h1
def RNw (w:World)(c:Cf)(n:Nat)(f:Nat→Nat)(e:Ending)(w':World):Prop :=
 ∃M a3 c3 Q3,e=.returned (.pointer (some ⟨M.b,0,none⟩))∧Mx w' w.heap.size M rm0 none 0 [] none 0 a3 c3 Q3∧M.C=c∧M.dn=n∧M.f=f∧(∀j,Blk M.da j→w.heap.size≤j)∧Below w.heap.size w w'
theorem rnw_at {w X:World}{c:Cf}{n:Nat}{f:Nat→Nat}{g:Nat}{da:Option Addr}{dc:Nat}(hB:Below w.heap.size w X)(hD:D.Ws X da n dc f)(hr:∀j,Blk da j→w.heap.size≤j∧j<X.heap.size)(hP:Ow X w.heap.size 65 2 (some ⟨g,0,none⟩) 1 1 [.int .i64 0,.slice none 0 0])(hg:¬Blk da g)(B:Nat)(A:Array Value)(hA:A=(moL ⟨B,c,da,n,dc,f⟩ rm0 none 0 none 0 (some ⟨g,0,none⟩) 1).toArray)(hBX:B=X.heap.size):RNw w c n f (.returned (.pointer (some ⟨B,0,none⟩))) (X.alloc (Obj.cells A 68)):=by
 subst hBX hA
 have hb:=below1 X (Obj.cells (moL ⟨X.heap.size,c,da,n,dc,f⟩ rm0 none 0 none 0 (some ⟨g,0,none⟩) 1).toArray 68)
 have hgb:∀j,Blk (some ⟨g,0,none⟩) j→j=g:=fun j hj=>by obtain⟨x,hx,rfl⟩:=hj;cases hx;rfl
 have hgl:=hP.blk g ⟨_,rfl,rfl⟩
 have hQ:∀j,Two.B (some ⟨g,0,none⟩) [⟨0,[],0,none,0⟩] j→j=g:=fun j hj=>by
  rcases hj with hj|⟨o,ho,hj⟩
  ·exact hgb j hj
  ·rw [List.mem_singleton.1 ho] at hj
   obtain⟨x,hx,_⟩:=hj;cases hx
 have hQn:∀j,¬Two.B none [] j:=fun j hj=>by rcases hj with ⟨_,h,_⟩|⟨_,h,_⟩<;>cases h
 have hNn:∀j,¬Blk none j:=fun j hj=>by obtain⟨_,h,_⟩:=hj;cases h
 have hT:Two X w.heap.size 65 38 3 (some ⟨g,0,none⟩) 1 1 [⟨0,[],0,none,0⟩]:=⟨hP,rfl,fun o ho=>by rw [List.mem_singleton.1 ho];exact Ow.nil _ _ _ _,List.pairwise_singleton ..,fun o ho j hj=>by rw [List.mem_singleton.1 ho] at hj;exact absurd hj (hNn j)⟩
 refine⟨⟨X.heap.size,c,da,n,dc,f⟩,some ⟨g,0,none⟩,1,[⟨0,[],0,none,0⟩],rfl,⟨R.Bx.new X _ _,hD.later hb,Two.nil _ _ _ _ _,rfl,Ow.nil _ _ _ _,hT.later hb,rfl,fun j hj=>absurd hj (hQn j),fun j hj=>absurd hj (hQn j),fun j hj=>absurd hj (hNn j),?_,?_,?_,hB.size,by decide⟩,rfl,rfl,rfl,fun j hj=>(hr j hj).1,below_call hB hb⟩
 ·rintro j (hj|hj|hj)
  ·exact absurd hj (hQn j)
  ·exact absurd hj (hNn j)
  ·have:=hQ j hj
   show j≠X.heap.size
   omega
 ·intro j hj hj2
  have h1:=(hr j hj).2
  rcases hj2 with e|e|e|e
  ·have e:j=X.heap.size:=e
   omega
  ·exact hQn j e
  ·exact hNn j e
  ·have:=hQ j e
   subst this
   exact hg hj
 ·intro j hj
  have h1:=(hr j hj).2
  have:=hb.size
  omega
abbrev EW:Obj:=.cells #[] 36
abbrev P0:Obj:=.cells #[.int .i64 0,.slice none 0 0] 65
set_option maxRecDepth 100000 in
set_option maxHeartbeats 4000000 in
theorem rnew2_any (c:Cf){w:World}{a:Option Addr}{n cap:Nat}{f:Nat→Nat}(hw:D.Ws w a n cap f)(hn:n≤4096):Calls Tryz.prog 7 #[c.v,.slice a n cap] w (RNw w c n f):=by
 obtain⟨W,hW⟩:∃W,W=w.alloc (Obj.cells c.L.toArray 23):=⟨_,rfl⟩
 have hB:Below w.heap.size w W:=by rw [hW];exact below1 _ _
 have hX:R.Bx W w.heap.size c.L:=by rw [hW];exact R.Bx.new w c.L 23
 have HLd:=hid (fun U (hU:Below W.heap.size W U)=>ldF (R.Bx.later hU hX))
 have hEA:Ow (W.alloc EW).drew W.heap.size 36 2 (some ⟨W.heap.size,0,none⟩) 0 0 []:=Ow.later (ow_emp W 36 2) (Below.refl _ _).drew
 have hEB:Ow ((W.alloc EW).alloc P0).drew W.heap.size 36 2 (some ⟨W.heap.size,0,none⟩) 0 0 []:=Ow.later (ow_emp W 36 2) (below1 _ _).drew
 have hEC:Ow ((W.alloc P0).alloc EW).drew W.heap.size 36 2 (some ⟨W.heap.size+1,0,none⟩) 0 0 []:=by
  have h1:=Ow.later (w':=((W.alloc P0).alloc EW).drew) (ow_emp (W.alloc P0) 36 2) (Below.refl _ _).drew
  have h2:=h1.mono (below1 W P0).size
  simpa using h2
 have hPB:Ow ((W.alloc EW).alloc P0).drew W.heap.size 65 2 (some ⟨W.heap.size+1,0,none⟩) 1 1 [.int .i64 0,.slice none 0 0]:=by
  have h1:=Ow.later (w':=((W.alloc EW).alloc P0).drew) (Ow.lit (W.alloc EW) 65 [.int .i64 0,.slice none 0 0] 2 1 rfl (by omega)) (Below.refl _ _).drew
  have h2:=h1.mono (below1 W EW).size
  simpa using h2
 have hPC:Ow ((W.alloc P0).alloc EW).drew W.heap.size 65 2 (some ⟨W.heap.size,0,none⟩) 1 1 [.int .i64 0,.slice none 0 0]:=Ow.later (Ow.lit W 65 [.int .i64 0,.slice none 0 0] 2 1 rfl (by omega)) (below1 _ _).drew
 have hWs:=hw.later hB
 obtain⟨aA,cA,UA,hrA,hDA,hnA,hBA,hgA⟩:=words_apg (below1 W EW).drew hEA (hWs.later (below1 W EW).drew) (by omega)
 obtain⟨aB,cB,UB,hrB,hDB,hnB,hBB,hgB⟩:=words_apg (below2 W EW P0).drew hEB (hWs.later (below2 W EW P0).drew) (by omega)
 obtain⟨aC,cC,UC,hrC,hDC,hnC,hBC,hgC⟩:=words_apg (below2 W P0 EW).drew hEC (hWs.later (below2 W P0 EW).drew) (by omega)
 have hsz:=hB.size
 have HKA:Hid (∀(B:Nat) (A:Array Value),A=_→B=(UA.alloc P0).heap.size→RNw w c n f (.returned (.pointer (some ⟨B,0,none⟩))) ((UA.alloc P0).alloc (Obj.cells A 68))):=rnw_at (g:=UA.heap.size) (below_call (below_call hB hBA) (below1 _ _)) (hDA.later (below1 _ _)) (fun j hj=>⟨by have:=(hnA j hj).1;omega,by have:=(hnA j hj).2.1;have:=(below1 UA P0).size;omega⟩) ((Ow.lit UA 65 [.int .i64 0,.slice none 0 0] 2 1 rfl (by omega)).mono (Nat.le_trans hsz hBA.size)) (fun e=>by have:=(hnA _ e).2.1;omega)
 have HKB:Hid (∀(B:Nat) (A:Array Value),A=_→B=UB.heap.size→RNw w c n f (.returned (.pointer (some ⟨B,0,none⟩))) (UB.alloc (Obj.cells A 68))):=rnw_at (g:=W.heap.size+1) (below_call hB hBB) hDB (fun j hj=>⟨by have:=(hnB j hj).1;omega,(hnB j hj).2.1⟩) ((hPB.but hgB (fun j hj e=>by obtain⟨x,hx,rfl⟩:=hj;cases hx;have e:W.heap.size+1=W.heap.size:=e;omega)).mono hsz) (fun e=>by
  have h3:((W.alloc EW).alloc P0).drew.heap.size=W.heap.size+2:=by simp
  have:=(hnB _ e).2.2
  omega)
 have HKC:Hid (∀(B:Nat) (A:Array Value),A=_→B=UC.heap.size→RNw w c n f (.returned (.pointer (some ⟨B,0,none⟩))) (UC.alloc (Obj.cells A 68))):=rnw_at (g:=W.heap.size) (below_call hB hBC) hDC (fun j hj=>⟨by have:=(hnC j hj).1;omega,(hnC j hj).2.1⟩) ((hPC.but hgC (fun j hj e=>by obtain⟨x,hx,rfl⟩:=hj;cases hx;have e:W.heap.size=W.heap.size+1:=e;omega)).mono hsz) (fun e=>by
  have h3:((W.alloc P0).alloc EW).drew.heap.size=W.heap.size+2:=by simp
  have:=(hnC _ e).2.2
  omega)
 obtain⟨W_,o_,p_,m_,q_,r_,l_,s_,y_,k_⟩:=c
 have HW:=hid hW
 clear hW hX hEA hEB hEC hPB hPC hDA hDB hDC hnA hnB hnC hgA hgB hgC hWs hw hsz
 simp only [Cf.v,Cf.L] at HLd HW
 unfold Cf.v Cf.L
 go_enter Tryz.func7,Tryz.ntmps7
 go_upto_region 1 with fail
 rw [←HW.out]
 refine wp_region_held_drew (S:=(fun U:World=>(Instr.loadAt 23 (.pointer (some ⟨w.heap.size,0,none⟩))).run Tryz.prog U=.ok (.agg #[.int .i64 W_,.int .i64 o_,.int .i64 p_,.int .i64 m_,.int .i64 q_,.int .i64 r_,.int .i64 l_,.int .i64 s_,.int .i64 y_,.int .i64 k_]) U)) (by kernel_rfl) (HLd.out _ (Below.refl _ _).drew) (fun hHeld=>?_)
 refine nm 9 0 9 ?_
 refine tv 0 (v:=.agg #[.int .i64 W_,.int .i64 o_,.int .i64 p_,.int .i64 m_,.int .i64 q_,.int .i64 r_,.int .i64 l_,.int .i64 s_,.int .i64 y_,.int .i64 k_]) ?_ ?_
 ·(intro w hSw;(try dsimp only at hSw);exact ex_ld rfl rfl hSw)
 simp only [zz]
 refine nm 9 1 8 ?_
 refine tn 2 9 5 7 ?_
 simp only [zz]
 refine tn 4 9 21 6 ?_
 simp only [zz]
 refine wpAnyH_ready (rs:=[1,5]) (by kernel_rfl) (by simp) ?_
 refine AllReadyH.cons rfl (fun K hK=>?_) ?_
 ·go_simp
  refine zk hK 9 23 5 (HLd.out _ (below1 _ _).drew) fun hHeld=>?_
  clear hK K
  try simp only [zz]
  refine wpAnyH_ready (rs:=[3,5]) (by kernel_rfl) (by simp) ?_
  refine AllReadyH.cons rfl (fun K hK=>?_) ?_
  ·refine wp_app (.tmp 6) (.tmp 7) 24 rfl _ _ rfl rfl _ UA hrA ?_
   refine zk hK 9 31 4 (HLd.out _ hBA) fun hHeld=>?_
   clear hK K
   try simp only [zz]
   refine zr 5 fun K hK=>?_
   go_simp
   refine zk hK 9 63 3 (HLd.out _ (below_call hBA (below1 _ _))) fun hHeld=>?_
   clear hK K
   try simp only [zz]
   refine tn 6 9 127 2 ?_
   simp only [zz]
   refine zr 7 fun K hK=>?_
   go_simp
   refine zk hK 9 255 1 (HLd.out _ (below_call (below_call hBA (below1 _ _)) (below1 _ _))) fun hHeld=>?_
   clear hK K
   try simp only [zz]
   refine tn 8 9 511 0 ?_
   simp only [zz]
   refine zn ?_ _
   go_wp2
   go_ret
   exact HKA.out _ _ rfl (by simp)
  refine AllReadyH.cons rfl (fun K hK=>?_) AllReadyH.nil
  go_simp
  refine zk hK 9 55 4 (HLd.out _ (below2 _ _ _).drew) fun hHeld=>?_
  clear hK K
  try simp only [zz]
  refine zr 3 fun K hK=>?_
  refine wp_app (.tmp 6) (.tmp 7) 24 rfl _ _ rfl rfl _ UB hrB ?_
  refine zk hK 9 63 3 (HLd.out _ hBB) fun hHeld=>?_
  clear hK K
  try simp only [zz]
  refine tn 6 9 127 2 ?_
  simp only [zz]
  refine zr 7 fun K hK=>?_
  go_simp
  refine zk hK 9 255 1 (HLd.out _ (below_call hBB (below1 _ _))) fun hHeld=>?_
  clear hK K
  try simp only [zz]
  refine tn 8 9 511 0 ?_
  simp only [zz]
  refine zn ?_ _
  go_wp2
  go_ret
  exact HKB.out _ _ rfl (by simp)
 refine AllReadyH.cons rfl (fun K hK=>?_) AllReadyH.nil
 go_simp
 refine zk hK 9 53 5 (HLd.out _ (below1 _ _).drew) fun hHeld=>?_
 clear hK K
 try simp only [zz]
 refine zr 1 fun K hK=>?_
 go_simp
 refine zk hK 9 55 4 (HLd.out _ (below2 _ _ _).drew) fun hHeld=>?_
 clear hK K
 try simp only [zz]
 refine zr 3 fun K hK=>?_
 refine wp_app (.tmp 6) (.tmp 7) 24 rfl _ _ rfl rfl _ UC hrC ?_
 refine zk hK 9 63 3 (HLd.out _ hBC) fun hHeld=>?_
 clear hK K
 try simp only [zz]
 refine tn 6 9 127 2 ?_
 simp only [zz]
 refine zr 7 fun K hK=>?_
 go_simp
 refine zk hK 9 255 1 (HLd.out _ (below_call hBC (below1 _ _))) fun hHeld=>?_
 clear hK K
 try simp only [zz]
 refine tn 8 9 511 0 ?_
 simp only [zz]
 refine zn ?_ _
 go_wp2
 go_ret
 exact HKC.out _ _ rfl (by simp)
end Go.Proofs.YtffmodpgddecnaaGreat.V.E
