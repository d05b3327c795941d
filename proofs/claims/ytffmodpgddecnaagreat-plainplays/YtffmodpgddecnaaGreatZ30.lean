import Derived.Test.YtffmodpgddecnaaGreatZ24
set_option linter.unusedVariables false
set_option linter.unusedSimpArgs false
namespace Go.Proofs.YtffmodpgddecnaaGreat.V.E
open Go.RowKit Go.Maps
open Go.Proofs.YtffmodpgddecnaaGreat.H (B64 Cp)
def tnF (f:Int→Nat×Nat)(x:Hl):Tn:=⟨x.c.2.1,x.c.2.2,x.r,if x.up=0 then 0 else (f x.up).1,if x.up=0 then 0 else (f x.up).2⟩
def ofT (T:List Hl)(o:Int):List Hl:=T.filter (fun x=>decide (x.c.1=o))
structure Like (q:Pl)(f:Int→Nat×Nat)(r:Rm):Prop where
 t:r.t=q.t
 V:r.V=vO q.O
 P:r.P=q.X
 nx:r.nx=q.nx
 px:r.px=q.px
 O:∀e∈q.O,e.2.T=(ofT r.T e.1).map (tnF f)
 on:∀x∈r.T,∃e∈q.O,e.1=x.c.1
 wd:∀x∈r.T,f x.no=x.c.2
 no:r.T.Pairwise (fun a b=>a.no<b.no)
 rng:∀x∈r.T,1≤x.no∧x.no<r.nn
 nn:1≤r.nn∧r.nn≤(r.t:Int)+1
 up:∀x∈r.T,x.up=0∨∃y∈r.T,y.no=x.up∧y.c.1=x.c.1∧y.no<x.no
 rt:∀x∈r.T,1≤x.r∧x.r≤31
 hd:∀e∈q.O,∃x L,ofT r.T e.1=x::L∧x.up=0∧∀y∈L,y.up≠0
 one:r.T.Pairwise (fun a b=>a.c≠b.c)
section
variable {p:Pm}{q:Pl}{r:Rm}{f:Int→Nat×Nat}
theorem mem_ofT {T:List Hl}{o:Int}{x:Hl}:x∈ofT T o↔x∈T∧x.c.1=o:=by unfold ofT;simp
theorem Like.one_eq (h:Like q f r){x y:Hl}(hx:x∈r.T)(hy:y∈r.T)(e:x.c=y.c):x=y:=by
 obtain⟨i,hi⟩:=List.getElem?_of_mem hx
 obtain⟨j,hj⟩:=List.getElem?_of_mem hy
 obtain⟨hi1,hi2⟩:=List.getElem?_eq_some_iff.1 hi
 obtain⟨hj1,hj2⟩:=List.getElem?_eq_some_iff.1 hj
 have hp:=List.pairwise_iff_getElem.1 h.one
 rcases Nat.lt_trichotomy i j with h1|h1|h1
 ·exact absurd (by rw [hi2,hj2];exact e) (hp i j hi1 hj1 h1)
 ·subst h1;rw [hi] at hj;exact Option.some.inj hj
 ·exact absurd (by rw [hi2,hj2];exact e.symm) (hp j i hj1 hi1 h1)
theorem Like.no_eq (h:Like q f r){x y:Hl}(hx:x∈r.T)(hy:y∈r.T)(e:x.no=y.no):x=y:=by
 obtain⟨i,hi⟩:=List.getElem?_of_mem hx
 obtain⟨j,hj⟩:=List.getElem?_of_mem hy
 obtain⟨hi1,hi2⟩:=List.getElem?_eq_some_iff.1 hi
 obtain⟨hj1,hj2⟩:=List.getElem?_eq_some_iff.1 hj
 have hp:=List.pairwise_iff_getElem.1 h.no
 rcases Nat.lt_trichotomy i j with h1|h1|h1
 ·have:=hp i j hi1 hj1 h1;rw [hi2,hj2] at this;omega
 ·subst h1;rw [hi] at hj;exact Option.some.inj hj
 ·have:=hp j i hj1 hi1 h1;rw [hi2,hj2] at this;omega
theorem tk_none {O:List (Int×Ob)}{o:Int}(h:¬∃e∈O,e.1=o):tkO O o=[]:=by
 unfold tkO obO
 have:O.find? (fun q=>decide (q.1=o))=none:=List.find?_eq_none.2 (fun x hx hd=>h ⟨x,hx,of_decide_eq_true hd⟩)
 rw [this]
 rfl
theorem Like.tk (h:Like q f r)(hr:q.O.Pairwise (fun a b=>a.1<b.1))(o:Int):tkO q.O o=(ofT r.T o).map (tnF f):=by
 by_cases he:∃e∈q.O,e.1=o
 ·obtain⟨e,he,e1⟩:=he
  rw [←e1,tk_mem hr he]
  exact h.O e he
 ·rw [tk_none he]
  have:ofT r.T o=[]:=List.filter_eq_nil_iff.2 (fun x hx hd=>he (by obtain⟨e,h1,h2⟩:=h.on x hx;exact⟨e,h1,h2.trans (of_decide_eq_true hd)⟩))
  rw [this]
  rfl
theorem Like.fnd (h:Like q f r)(hr:q.O.Pairwise (fun a b=>a.1<b.1))(c:Cp):fnd (tkO q.O c.1) c.2.1 c.2.2=(liv r.T c).map (tnF f):=by
 rw [h.tk hr]
 unfold E.fnd liv ofT
 rw [List.find?_map,List.find?_filter]
 congr 1
 congr 1
 funext a
 obtain⟨c1,c2,c3⟩:=c
 simp only [Function.comp,tnF,decide_eq_true_eq,Prod.ext_iff]
 exact decide_eq_decide.2 ⟨fun e=>⟨e.1,of_decide_eq_true e.2⟩,fun e=>⟨e.1,decide_eq_true e.2⟩⟩
theorem Like.giv (h:Like q f r)(hr:q.O.Pairwise (fun a b=>a.1<b.1))(need:Int)(c:Cp):giv q.O need c=rGiv r.T need c:=by
 unfold E.giv rGiv
 rw [h.fnd hr c]
 cases liv r.T c with
 | none=>rfl
 | some x=>rfl
theorem Like.may (h:Like q f r)(hr:q.O.Pairwise (fun a b=>a.1<b.1))(g:Bool)(K:List Cp)(need:Int)(c:Cp):valP q g K need c=rMay r.T g K c need:=by
 have:E.giv q.O need=rGiv r.T need:=funext (fun c=>h.giv hr need c)
 unfold valP rMay
 rw [this]
theorem Like.drw (h:Like q f r)(hr:q.O.Pairwise (fun a b=>a.1<b.1))(o:Int):pDrw p q o=rDrw p r o:=by
 unfold pDrw rDrw
 rw [h.t]
 congr 1
 funext N
 have:=h.fnd hr (D.cap o N)
 simp only [D.cap] at this
 rw [this,Option.isSome_map]
 rfl
theorem Like.cnt (h:Like q f r)(hr:q.O.Pairwise (fun a b=>a.1<b.1))(o:Int):(tkO q.O o).length=cntN r.T o:=by
 rw [h.tk hr,List.length_map]
 rfl
theorem sum_ind (K:List Int)(hK:K.Pairwise (·<·))(o:Int)(ho:o∈K):(K.map (fun k=>if k=o then 1 else 0)).sum=1:=by
 induction K with
 | nil=>cases ho
 | cons k K ih =>
  rw [List.map_cons,List.sum_cons]
  obtain⟨h1,h2⟩:=List.pairwise_cons.1 hK
  by_cases e:k=o
  ·rw [if_pos e]
   have:(K.map (fun k=>if k=o then 1 else 0))=K.map (fun _=>0):=List.map_congr_left (fun a ha=>if_neg (by have:=h1 a ha;omega))
   rw [this]
   have:∀L:List Int,(L.map (fun _=>0)).sum=0:=fun L=>by induction L with
    | nil=>rfl
    | cons a L ih=>rw [List.map_cons,List.sum_cons,ih]
   rw [this]
  ·rw [if_neg e,ih h2 (by rcases List.mem_cons.1 ho with h3|h3;exact absurd h3.symm e;exact h3)]
theorem sum_two {α:Type}(g k:α→Nat):∀L:List α,(L.map (fun a=>g a+k a)).sum=(L.map g).sum+(L.map k).sum
 | []=>rfl
 | a::L=>by simp only [List.map_cons,List.sum_cons];rw [sum_two g k L];omega
theorem sum_ofT (K:List Int)(hK:K.Pairwise (·<·)):∀T:List Hl,(∀x∈T,x.c.1∈K)→(K.map (fun o=>(ofT T o).length)).sum=T.length
 | [],_=>by
  have:∀L:List Int,(L.map (fun o=>(ofT [] o).length)).sum=0:=fun L=>by induction L with
   | nil=>rfl
   | cons a L ih=>rw [List.map_cons,List.sum_cons,ih];rfl
  rw [this];rfl
 | x::T,h=>by
  have e:(fun o=>(ofT (x::T) o).length)=fun o=>(if o=x.c.1 then 1 else 0)+(ofT T o).length:=by
   funext o
   unfold ofT
   rw [List.filter_cons]
   by_cases e:x.c.1=o
   ·rw [if_pos (decide_eq_true e),if_pos e.symm,List.length_cons];omega
   ·rw [if_neg (by simpa using e),if_neg (fun h=>e h.symm)];omega
  rw [e,sum_two,sum_ind K hK _ (h x (List.mem_cons_self ..)),sum_ofT K hK T (fun y hy=>h y (List.mem_cons_of_mem _ hy)),List.length_cons]
  omega
theorem Like.lv (h:Like q f r)(hr:q.O.Pairwise (fun a b=>a.1<b.1)):lvN q.O=r.T.length:=by
 unfold lvN
 have e:q.O.map (fun e=>e.2.T.length)=(q.O.map Prod.fst).map (fun o=>(ofT r.T o).length):=by
  rw [List.map_map]
  refine List.map_congr_left (fun e he=>?_)
  rw [h.O e he,List.length_map]
  rfl
 rw [e]
 refine sum_ofT _ ?_ r.T (fun x hx=>?_)
 ·rw [List.pairwise_map];exact hr
 ·obtain⟨e,h1,h2⟩:=h.on x hx
  exact List.mem_map.2 ⟨e,h1,h2⟩
def fU (f:Int→Nat×Nat)(n:Int)(v:Nat×Nat):Int→Nat×Nat:=fun k=>if k=n then v else f k
theorem Like.tnU (h:Like q f r)(v:Nat×Nat){x:Hl}(hx:x∈r.T):tnF (fU f r.nn v) x=tnF f x:=by
 have hn:=h.nn
 have:x.up≠r.nn:=by
  rcases h.up x hx with e|⟨y,hy,e,_⟩
  ·omega
  ·have:=h.rng y hy;omega
 unfold tnF fU
 rw [if_neg this]
theorem ofT_app (T:List Hl)(x:Hl)(o:Int):ofT (T++[x]) o=if x.c.1=o then ofT T o++[x] else ofT T o:=by
 unfold ofT
 rw [List.filter_append]
 by_cases e:x.c.1=o
 ·rw [if_pos e,List.filter_cons,if_pos (decide_eq_true e)];rfl
 ·rw [if_neg e,List.filter_cons,if_neg (by simpa using e)];simp
theorem map_tnU (h:Like q f r)(v:Nat×Nat)(o:Int):(ofT r.T o).map (tnF (fU f r.nn v))=(ofT r.T o).map (tnF f):=List.map_congr_left (fun x hx=>h.tnU v (mem_ofT.1 hx).1)
theorem vO_app (O:List (Int×Ob))(e:Int×Ob):vO (O++[e])=vO O++[(e.1,e.2.b)]:=by simp [vO]
theorem Like.more (h:Like q f r){q':Pl}{r':Rm}{x:Hl}(e1:r'.T=r.T++[x])(e2:r'.nn=r.nn+1)(e3:x.no=r.nn)(g1:r'.t=q'.t)(g2:r'.V=vO q'.O)(g3:r'.P=q'.X)(g4:r'.nx=q'.nx)(g5:r'.px=q'.px)(ht:r.t+1≤r'.t)
  (hO:∀e∈q'.O,e.2.T=(ofT (r.T++[x]) e.1).map (tnF (fU f r.nn x.c.2))) (hon:∀e∈q.O,∃d∈q'.O,d.1=e.1) (hx:∃d∈q'.O,d.1=x.c.1) (hup:x.up=0∨∃y∈r.T,y.no=x.up∧y.c.1=x.c.1) (hrt:1≤x.r∧x.r≤31)
  (hhd:∀e∈q'.O,∃y L,ofT (r.T++[x]) e.1=y::L∧y.up=0∧∀z∈L,z.up≠0) (hone:∀y∈r.T,y.c≠x.c):Like q' (fU f r.nn x.c.2) r':=by
 have hn:=h.nn
 have hm:∀{y:Hl},y∈r'.T→y∈r.T∨y=x:=fun {y} hy=>by rw [e1] at hy;simpa using hy
 refine⟨g1,g2,g3,g4,g5,by rw [e1];exact hO,fun y hy=>?_,fun y hy=>?_,?_,fun y hy=>?_,by omega,fun y hy=>?_,fun y hy=>?_,by rw [e1];exact hhd,?_⟩
 ·rcases hm hy with hy|rfl
  ·obtain⟨e,h1,h2⟩:=h.on y hy
   obtain⟨d,h3,h4⟩:=hon e h1
   exact⟨d,h3,h4.trans h2⟩
  ·exact hx
 ·rcases hm hy with hy|rfl
  ·have:=h.rng y hy
   unfold fU
   rw [if_neg (by omega)]
   exact h.wd y hy
  ·unfold fU;rw [if_pos e3]
 ·rw [e1,List.pairwise_append]
  exact⟨h.no,List.pairwise_singleton _ _,fun a ha b hb=>by rw [List.mem_singleton.1 hb,e3];exact (h.rng a ha).2⟩
 ·rcases hm hy with hy|rfl
  ·have:=h.rng y hy;omega
  ·omega
 ·rcases hm hy with hy|rfl
  ·rcases h.up y hy with e|⟨z,hz,e⟩
   ·exact .inl e
   ·exact .inr ⟨z,by rw [e1];exact List.mem_append_left _ hz,e⟩
  ·rcases hup with e|⟨z,hz,e4,e5⟩
   ·exact .inl e
   ·exact .inr ⟨z,by rw [e1];exact List.mem_append_left _ hz,e4,e5,by have:=h.rng z hz;omega⟩
 ·rcases hm hy with hy|rfl
  ·exact h.rt y hy
  ·exact hrt
 ·rw [e1,List.pairwise_append]
  exact⟨h.one,List.pairwise_singleton _ _,fun a ha b hb=>by rw [List.mem_singleton.1 hb];exact hone a ha⟩
theorem Like.cut (h:Like q f r){g:Hl→Bool}{q':Pl}{r':Rm}(e1:r'.T=r.T.filter g)(e2:r'.nn=r.nn)(e3:r'.t=r.t)(g1:r'.t=q'.t)(g2:r'.V=vO q'.O)(g3:r'.P=q'.X)(g4:r'.nx=q'.nx)(g5:r'.px=q'.px)
  (hO:∀e∈q'.O,e.2.T=((ofT r.T e.1).filter g).map (tnF f)∧∃d∈q.O,d.1=e.1) (hon:∀x∈r.T,g x=true→∃e∈q'.O,e.1=x.c.1)
  (hup:∀x∈r.T,g x=true→∀y∈r.T,y.no=x.up→y.c.1=x.c.1→g y=true) (hrt:∀e∈q'.O,∀x∈ofT r.T e.1,x.up=0→g x=true):Like q' f r':=by
 have hs:r'.T.Sublist r.T:=by rw [e1];exact List.filter_sublist
 have hm:∀{y:Hl},y∈r'.T→y∈r.T∧g y=true:=fun {y} hy=>by rw [e1] at hy;exact List.mem_filter.1 hy
 have hf:∀o,ofT r'.T o=(ofT r.T o).filter g:=fun o=>by rw [e1];unfold ofT;rw [List.filter_filter,List.filter_filter];congr 1;funext a;rw [Bool.and_comm]
 refine⟨g1,g2,g3,g4,g5,fun e he=>by rw [hf];exact (hO e he).1,fun y hy=>hon y (hm hy).1 (hm hy).2,fun y hy=>h.wd y (hm hy).1,h.no.sublist hs,fun y hy=>by rw [e2];exact h.rng y (hm hy).1,by rw [e2,e3];exact h.nn,fun y hy=>?_,fun y hy=>h.rt y (hm hy).1,fun e he=>?_,h.one.sublist hs⟩
 ·rcases h.up y (hm hy).1 with e|⟨z,hz,e4,e5,e6⟩
  ·exact .inl e
  ·exact .inr ⟨z,by rw [e1];exact List.mem_filter.2 ⟨hz,hup y (hm hy).1 (hm hy).2 z hz e4 e5⟩,e4,e5,e6⟩
 ·obtain⟨_,d,hd,e4⟩:=hO e he
  obtain⟨x,L,h1,h2,h3⟩:=h.hd d hd
  rw [e4] at h1
  refine⟨x,L.filter g,?_,h2,fun y hy=>h3 y (List.mem_filter.1 hy).1⟩
  rw [hf,h1,List.filter_cons,if_pos (hrt e he x (by rw [h1];exact List.mem_cons_self ..) h2)]
theorem Like.same (h:Like q f r){q':Pl}{r':Rm}(e1:r'.T=r.T)(e2:r'.nn=r.nn)(e3:r.t≤r'.t)(g1:r'.t=q'.t)(g2:r'.V=vO q'.O)(g3:r'.P=q'.X)(g4:r'.nx=q'.nx)(g5:r'.px=q'.px)
  (hO:q'.O.map (fun e=>(e.1,e.2.T))=q.O.map (fun e=>(e.1,e.2.T))):Like q' f r':=by
 have hm:∀e∈q'.O,∃d∈q.O,d.1=e.1∧d.2.T=e.2.T:=fun e he=>by
  have:(e.1,e.2.T)∈q.O.map (fun e=>(e.1,e.2.T)):=by rw [←hO];exact List.mem_map.2 ⟨e,he,rfl⟩
  obtain⟨d,h1,h2⟩:=List.mem_map.1 this
  simp only [Prod.mk.injEq] at h2
  exact⟨d,h1,h2.1,h2.2⟩
 have hm2:∀e∈q.O,∃d∈q'.O,d.1=e.1:=fun e he=>by
  have:(e.1,e.2.T)∈q'.O.map (fun e=>(e.1,e.2.T)):=by rw [hO];exact List.mem_map.2 ⟨e,he,rfl⟩
  obtain⟨d,h1,h2⟩:=List.mem_map.1 this
  simp only [Prod.mk.injEq] at h2
  exact⟨d,h1,h2.1⟩
 refine⟨g1,g2,g3,g4,g5,fun e he=>?_,fun x hx=>?_,by rw [e1];exact h.wd,by rw [e1];exact h.no,by rw [e1,e2];exact h.rng,by have:=h.nn;omega,by rw [e1];exact h.up,by rw [e1];exact h.rt,fun e he=>?_,by rw [e1];exact h.one⟩
 ·obtain⟨d,h1,h2,h3⟩:=hm e he
  rw [←h3,←h2,e1]
  exact h.O d h1
 ·rw [e1] at hx
  obtain⟨e,h1,h2⟩:=h.on x hx
  obtain⟨d,h3,h4⟩:=hm2 e h1
  exact⟨d,h3,h4.trans h2⟩
 ·obtain⟨d,h1,h2,h3⟩:=hm e he
  rw [e1,←h2]
  exact h.hd d h1
end
end Go.Proofs.YtffmodpgddecnaaGreat.V.E
namespace Go.Proofs.YtffmodpgddecnaaGreat.V.E
open Go.RowKit Go.Maps
open Go.Proofs.YtffmodpgddecnaaGreat.H (B64 Cp)
section
variable {p:Pm}{q:Pl}{r:Rm}{f:Int→Nat×Nat}
theorem like_cre (h:Like q f r)(hf:Fit p q)(s:Int):(pCre p q s).1=(rCre p r s).1∧∃f',Like (pCre p q s).2 f' (rCre p r s).2:=by
 have hr:=hf.ro
 unfold pCre rCre rmE
 rw [←h.lv hr,h.V,h.nx,h.t]
 by_cases h1:S.mayV p.room p.pgs q.nx (vO q.O) s≠0
 ·simp only [if_pos h1]
  exact⟨by first|rfl|trivial,f,h⟩
 ·simp only [if_neg h1]
  by_cases h2:p.mo≤lvN q.O
  ·simp only [if_pos h2,if_pos (show (10:Int)≠0 by decide)]
   exact⟨by first|rfl|trivial,f,h⟩
  ·simp only [if_neg h2,if_neg (show ¬(0:Int)≠0 by decide)]
   by_cases h3:p.n≤q.t
   ·simp only [if_pos h3]
    exact⟨by first|rfl|trivial,f,h⟩
   ·simp only [if_neg h3]
    have hn:∀y∈r.T,y.c.1<q.nx:=fun y hy=>by
     obtain⟨e,h4,h5⟩:=h.on y hy
     have:=(hf.no e h4).2
     omega
    have h0:ofT r.T q.nx=[]:=List.filter_eq_nil_iff.2 (fun y hy hd=>by have:=hn y hy;have:=of_decide_eq_true hd;omega)
    refine⟨by first|rfl|trivial,_,h.more (x:=⟨r.nn,0,D.cap q.nx (p.c q.t),31⟩) rfl rfl rfl rfl (by show vO q.O++_=vO (q.O++_);rw [vO_app]) h.P rfl h.px (by rw [h.t];exact Nat.le_refl _) (fun e he=>?_) (fun e he=>⟨e,List.mem_append_left _ he,rfl⟩) ⟨_,List.mem_append_right _ (List.mem_singleton.2 rfl),rfl⟩ (.inl rfl) ⟨by show (1:Int)≤31;decide,by show (31:Int)≤31;decide⟩ (fun e he=>?_) (fun y hy e=>?_)⟩
    ·rcases List.mem_append.1 he with he|he
     ·have:=(hf.no e he).2
      rw [ofT_app,if_neg (show ¬(D.cap q.nx (p.c q.t)).1=e.1 by show ¬q.nx=e.1;omega),map_tnU h]
      exact h.O e he
     ·rw [List.mem_singleton.1 he]
      show _=(ofT (r.T++[_]) q.nx).map _
      rw [ofT_app,if_pos (show (D.cap q.nx (p.c q.t)).1=q.nx from rfl),h0]
      rfl
    ·rcases List.mem_append.1 he with he|he
     ·have:=(hf.no e he).2
      rw [ofT_app,if_neg (show ¬(D.cap q.nx (p.c q.t)).1=e.1 by show ¬q.nx=e.1;omega)]
      exact h.hd e he
     ·rw [List.mem_singleton.1 he]
      refine⟨⟨r.nn,0,D.cap q.nx (p.c q.t),31⟩,[],?_,rfl,fun y hy=>by cases hy⟩
      show ofT (r.T++[_]) q.nx=_
      rw [ofT_app,if_pos (show (D.cap q.nx (p.c q.t)).1=q.nx from rfl),h0]
      rfl
    ·have:=hn y hy
     have e2:y.c.1=q.nx:=congrArg Prod.fst e
     omega
theorem liv_is2 {T:List Hl}{c:Cp}{x:Hl}(h:liv T c=some x):x∈T∧x.c=c:=by
 unfold liv at h
 have h1:=List.find?_some h
 exact⟨List.mem_of_find?_eq_some h,of_decide_eq_true h1⟩
theorem stO_mem {O:List (Int×Ob)}{o:Int}{F:Ob→Ob}{e:Int×Ob}(h:e∈stO O o F):∃d∈O,e.1=d.1∧((d.1=o∧e.2=F d.2)∨(d.1≠o∧e.2=d.2)):=by
 unfold stO at h
 obtain⟨d,h1,rfl⟩:=List.mem_map.1 h
 by_cases e:d.1=o
 ·rw [if_pos e];exact⟨d,h1,rfl,.inl ⟨e,rfl⟩⟩
 ·rw [if_neg e];exact⟨d,h1,rfl,.inr ⟨e,rfl⟩⟩
theorem stO_in {O:List (Int×Ob)}{o:Int}{F:Ob→Ob}{d:Int×Ob}(h:d∈O):∃e∈stO O o F,e.1=d.1:=by
 unfold stO
 refine⟨_,List.mem_map.2 ⟨d,h,rfl⟩,?_⟩
 by_cases e:d.1=o
 ·rw [if_pos e]
 ·rw [if_neg e]
theorem vO_stO (O:List (Int×Ob))(o:Int)(F:Ob→Ob)(hF:∀b,(F b).b=b.b):vO (stO O o F)=vO O:=by
 unfold vO stO
 rw [List.map_map]
 refine List.map_congr_left (fun e he=>?_)
 simp only [Function.comp]
 by_cases e1:e.1=o
 ·rw [if_pos e1,hF]
 ·rw [if_neg e1]
theorem dr_more {P:Nat→Bool}{c:Nat→Nat}{n:Nat}:∀{k t:Nat},t≤(D.drawR P c n k t).2.2∧((D.drawR P c n k t).2.1=0→t+1≤(D.drawR P c n k t).2.2)
 | 0,t=>⟨Nat.le_refl _,fun h=>by simp [D.drawR] at h⟩
 | k+1,t=>by
  rw [D.drawR]
  split
  ·split
   ·have:=@dr_more P c n k (t+1)
    exact⟨by omega,fun h=>by have:=this.2 h;omega⟩
   ·exact⟨Nat.le_succ _,fun _=>Nat.le_refl _⟩
  ·exact⟨Nat.le_refl _,fun h=>by simp at h⟩
theorem like_der (h:Like q f r)(hf:Fit p q)(c:Cp)(rt:Int):(pDer p q c rt).1=(rDer p r c rt).1∧∃f',Like (pDer p q c rt).2 f' (rDer p r c rt).2:=by
 have hr:=hf.ro
 unfold pDer srE rDer
 rw [h.fnd hr c,h.cnt hr,h.drw hr,h.lv hr]
 cases hl:liv r.T c with
 | none =>
  simp only [Option.map_none,if_pos (show (3:Int)≠0 by decide)]
  exact⟨by first|rfl|trivial,f,h⟩
 | some x =>
  obtain⟨hx,hxc⟩:=liv_is2 hl
  simp only [Option.map_some]
  show _∧∃f',_
  have e0:(tnF f x).r=x.r:=rfl
  simp only [e0]
  by_cases h1:partB 4 x.r=false
  ·simp only [h1,if_true,true_or,if_pos (show (4:Int)≠0 by decide)]
   exact⟨by first|rfl|trivial,f,h⟩
  have h1:partB 4 x.r=true:=by simpa using h1
  by_cases h2:partB rt x.r=false
  ·simp only [h1,h2,Bool.true_eq_false,if_true,if_false,or_true,if_pos (show (4:Int)≠0 by decide)]
   exact⟨by first|rfl|trivial,f,h⟩
  have h2:partB rt x.r=true:=by simpa using h2
  by_cases h3:p.e≤(cntN r.T c.1:Int)
  ·simp only [h1,h2,Bool.true_eq_false,if_false,or_self,if_pos h3,if_pos (show (9:Int)≠0 by decide)]
   exact⟨by first|rfl|trivial,f,h⟩
  by_cases h4:p.mo≤r.T.length
  ·simp only [h1,h2,Bool.true_eq_false,if_false,or_self,if_neg h3,if_pos h4,if_pos (show (10:Int)≠0 by decide)]
   exact⟨by first|rfl|trivial,f,h⟩
  simp only [h1,h2,Bool.true_eq_false,if_false,or_self,if_neg h3,if_neg h4,if_neg (show ¬(0:Int)≠0 by decide)]
  have hd:=@dr_more (fun N=>(liv r.T (D.cap c.1 N)).isSome) p.c p.n 9 r.t
  by_cases h5:(rDrw p r c.1).2.1≠0
  ·simp only [if_pos h5]
   exact⟨by first|rfl|trivial,f,h.same rfl rfl hd.1 rfl h.V h.P h.nx h.px rfl⟩
  ·simp only [if_neg h5]
   have h5:(rDrw p r c.1).2.1=0:=by simpa using h5
   have hnew:(liv r.T (D.cap c.1 (rDrw p r c.1).1)).isSome=false:=dr_new h5
   have hrt:1≤rt∧rt≤31:=by
    have h6:=h2
    unfold partB at h6
    simp only [Bool.and_eq_true] at h6
    exact validB_iff.1 h6.1.1
   have hnx:=h.rng x hx
   obtain⟨N,hN⟩:∃N,N=(rDrw p r c.1).1:=⟨_,rfl⟩
   rw [←hN] at hnew ⊢
   have hnm:∀y∈r.T,y.c≠D.cap c.1 N:=fun y hy e=>by
    have h2:liv r.T (D.cap c.1 N)=none:=by simpa using hnew
    exact List.find?_eq_none.1 h2 y hy (decide_eq_true e)
   refine⟨by first|rfl|trivial,_,h.more (x:=⟨r.nn,x.no,D.cap c.1 N,rt⟩) rfl rfl rfl rfl ?_ h.P h.nx h.px (hd.2 h5) (fun e he=>?_) (fun e he=>stO_in (o:=c.1) (F:=fun o=>{ o with T:=o.T++[⟨N / B64,N%B64,rt,c.2.1,c.2.2⟩] }) he) ?_ (.inr ⟨x,hx,rfl,by rw [hxc];rfl⟩) hrt (fun e he=>?_) hnm⟩
   ·dsimp only
    rw [vO_stO _ _ _ (by intro b;rfl)]
    exact h.V
   ·dsimp only at he
    obtain⟨d,hd1,e1,e2⟩:=stO_mem he
    rw [e1]
    rcases e2 with ⟨e2,e3⟩|⟨e2,e3⟩
    ·rw [ofT_app,if_pos (show (D.cap c.1 N).1=d.1 from e2.symm),List.map_append,map_tnU h,←h.O d hd1,e3]
     show d.2.T++[_]=d.2.T++[_]
     congr 2
     unfold tnF
     have h7:fU f r.nn (D.cap c.1 N).2 x.no=c.2:=by
      unfold fU
      rw [if_neg (by omega),h.wd x hx,hxc]
     simp only [if_neg (show ¬x.no=0 by omega),h7]
     rfl
    ·rw [ofT_app,if_neg (show ¬(D.cap c.1 N).1=d.1 from fun e=>e2 e.symm),map_tnU h,e3]
     exact h.O d hd1
   ·obtain⟨e,h6,h7⟩:=h.on x hx
    obtain⟨d,h8,h9⟩:=stO_in (o:=c.1) (F:=fun o=>{ o with T:=o.T++[⟨N / B64,N%B64,rt,c.2.1,c.2.2⟩] }) h6
    exact⟨d,h8,by rw [h9,h7,hxc];rfl⟩
   ·dsimp only at he
    obtain⟨d,hd1,e1,_⟩:=stO_mem he
    obtain⟨y,L,h6,h7,h8⟩:=h.hd d hd1
    rw [e1,ofT_app]
    by_cases e2:(D.cap c.1 N).1=d.1
    ·rw [if_pos e2,h6]
     exact⟨y,L++[_],rfl,h7,fun z hz=>by
      rcases List.mem_append.1 hz with hz|hz
      ·exact h8 z hz
      ·rw [List.mem_singleton.1 hz];show x.no≠0;omega⟩
    ·rw [if_neg e2]
     exact⟨y,L,h6,h7,h8⟩
theorem gon_sub:∀(S:List Hl) (g:List Int),∀n∈g,n∈gon S g
 | [],g,n,h=>h
 | x::S,g,n,h=>by
  rw [gon]
  refine gon_sub S _ n ?_
  split
  ·exact List.mem_append_left _ h
  ·exact h
theorem gon_mem:∀(S:List Hl) (g:List Int) (n:Int),n∈gon S g→n∈g∨∃y∈S,y.no=n
 | [],g,n,h=>.inl h
 | x::S,g,n,h=>by
  rw [gon] at h
  rcases gon_mem S _ n h with h1|⟨y,h1,h2⟩
  ·split at h1
   ·rcases List.mem_append.1 h1 with h1|h1
    ·exact .inl h1
    ·exact .inr ⟨x,List.mem_cons_self ..,(List.mem_singleton.1 h1).symm⟩
   ·exact .inl h1
  ·exact .inr ⟨y,List.mem_cons_of_mem _ h1,h2⟩
theorem gon_cl:∀(S:List Hl) (g:List Int),S.Pairwise (fun a b=>a.no<b.no)→∀x∈S,x.up<x.no→x.up∈gon S g→x.no∈gon S g
 | [],g,_,x,hx,_,_=>by cases hx
 | y::S,g,hp,x,hx,hl,hu=>by
  obtain⟨h1,h2⟩:=List.pairwise_cons.1 hp
  rw [gon] at hu ⊢
  rcases List.mem_cons.1 hx with rfl|hx
  ·have h3:x.up∈g:=by
    rcases gon_mem S _ _ hu with h3|⟨z,h3,h4⟩
    ·split at h3
     ·rcases List.mem_append.1 h3 with h3|h3
      ·exact h3
      ·have:=List.mem_singleton.1 h3;omega
     ·exact h3
    ·have:=h1 z h3;omega
   rw [if_pos h3]
   exact gon_sub S _ _ (List.mem_append_right _ (List.mem_singleton.2 rfl))
  ·exact gon_cl S _ h2 x hx hl hu
theorem gon_of (h:Like q f r)(o:Int):∀(T:List Hl) (g:List Int),(∀y∈T,y∈r.T)→(∀n∈g,∃z∈r.T,z.no=n∧z.c.1=o)→gon T g=gon (ofT T o) g
 | [],g,_,_=>rfl
 | x::T,g,hT,hg=>by
  have hx:=hT x (List.mem_cons_self ..)
  have hT2:=fun y hy=>hT y (List.mem_cons_of_mem x hy)
  by_cases e:x.c.1=o
  ·have e2:ofT (x::T) o=x::ofT T o:=by unfold ofT;rw [List.filter_cons,if_pos (decide_eq_true e)]
   rw [e2,gon,gon]
   refine gon_of h o T _ hT2 (fun n hn=>?_)
   split at hn
   ·rcases List.mem_append.1 hn with hn|hn
    ·exact hg n hn
    ·exact⟨x,hx,(List.mem_singleton.1 hn).symm,e⟩
   ·exact hg n hn
  ·have e2:ofT (x::T) o=ofT T o:=by unfold ofT;rw [List.filter_cons,if_neg (by simpa using e)]
   have h3:x.up∉g:=fun hu=>by
    obtain⟨z,h4,h5,h6⟩:=hg _ hu
    have:=h.rng z h4
    rcases h.up x hx with h7|⟨y,h7,h8,h9,_⟩
    ·omega
    ·have:=h.no_eq h7 h4 (h8.trans h5.symm)
     subst this
     exact e (h9.symm.trans h6)
   rw [e2,gon,if_neg h3]
   exact gon_of h o T g hT2 hg
theorem ws_gon (h:Like q f r){o:Int}{x:Hl}(hx:x∈r.T)(hxo:x.c.1=o):∀(S:List Hl) (left:List Tn) (gone:List (Nat×Nat)) (g:List Int),(∀y∈S,y∈r.T∧y.c.1=o∧y.up≠0)→S.Pairwise (fun a b=>a.no<b.no)→(∀y∈r.T,y.c.1=o→(y.no∈g↔y.c.2∈gone))→x.no∈g→(∀y∈S,y.no∈g→y=x) →
  ((S.map (tnF f)).foldl (wsS x.c.2) (left,gone)).1=left++(S.filter (fun y=>decide (y.no∉gon S g))).map (tnF f)
 | [],left,gone,g,_,_,_,_,_=>by simp
 | y::S,left,gone,g,hS,hp,hi,hg,hng=>by
  obtain⟨hp1,hp2⟩:=List.pairwise_cons.1 hp
  obtain⟨hy,hyo,hyu⟩:=hS y (List.mem_cons_self ..)
  have hS2:=fun z hz=>hS z (List.mem_cons_of_mem y hz)
  have hyS:∀z∈S,z.no≠y.no:=fun z hz=>by have:=hp1 z hz;omega
  obtain⟨z,hz,hzu,hzo,hzl⟩:∃z∈r.T,z.no=y.up∧z.c.1=y.c.1∧z.no<y.no:=by
   rcases h.up y hy with e|e
   ·exact absurd e hyu
   ·exact e
  have hpar:((tnF f y).uh,(tnF f y).ul)=z.c.2:=by
   unfold tnF
   simp only [if_neg hyu]
   rw [←hzu,h.wd z hz]
  have hcond:((tnF f y).uh,(tnF f y).ul)∈gone↔y.up∈g:=by rw [hpar,←hzu];exact (hi z hz (hzo.trans hyo)).symm
  have hw:((tnF f y).hi,(tnF f y).lo)=y.c.2:=rfl
  have hxg:x.c.2∈gone:=(hi x hx hxo).1 hg
  rw [List.map_cons,List.foldl_cons]
  by_cases e1:y.c.2=x.c.2
  ·have e2:y=x:=h.one_eq hy hx (Prod.ext (hyo.trans hxo.symm) e1)
   subst e2
   have hs:wsS y.c.2 (left,gone) (tnF f y)=(left,gone++[y.c.2]):=by unfold wsS;rw [if_pos (.inl hw)];rfl
   rw [hs]
   have hG:∀v∈r.T,v.c.1=o→(v.no∈(if y.up∈g then g++[y.no] else g)↔v.c.2∈gone++[y.c.2]):=fun v hv hvo=>by
    have h1:v.c.2∈gone++[y.c.2]↔v.c.2∈gone:=⟨fun h2=>by
     rcases List.mem_append.1 h2 with h2|h2
     ·exact h2
     ·rw [List.mem_singleton.1 h2];exact hxg,fun h2=>List.mem_append_left _ h2⟩
    rw [h1,←hi v hv hvo]
    split
    ·exact⟨fun h2=>by
      rcases List.mem_append.1 h2 with h2|h2
      ·exact h2
      ·rw [List.mem_singleton.1 h2];exact hg,fun h2=>List.mem_append_left _ h2⟩
    ·exact Iff.rfl
   have hg2:y.no∈(if y.up∈g then g++[y.no] else g):=by
    split
    ·exact List.mem_append_left _ hg
    ·exact hg
   have hng2:∀v∈S,v.no∈(if y.up∈g then g++[y.no] else g)→v=y:=fun v hv hvg=>by
    split at hvg
    ·exact (List.mem_append.1 hvg).elim (hng v (List.mem_cons_of_mem _ hv)) (fun e=>absurd (List.mem_singleton.1 e) (hyS v hv))
    ·exact hng v (List.mem_cons_of_mem _ hv) hvg
   rw [ws_gon h hx hxo S left _ _ hS2 hp2 hG hg2 hng2,List.filter_cons,if_neg (show ¬decide (y.no∉gon (y::S) g)=true by rw [gon];simp only [decide_eq_true_eq,Decidable.not_not];exact gon_sub S _ _ hg2)]
   rw [gon]
  ·by_cases e2:y.up∈g
   ·have hs:wsS x.c.2 (left,gone) (tnF f y)=(left,gone++[y.c.2]):=by unfold wsS;rw [if_pos (.inr (hcond.2 e2))];rfl
    rw [hs]
    have hG:∀v∈r.T,v.c.1=o→(v.no∈g++[y.no]↔v.c.2∈gone++[y.c.2]):=fun v hv hvo=>by
     rw [List.mem_append,List.mem_append,hi v hv hvo,List.mem_singleton,List.mem_singleton]
     refine or_congr Iff.rfl ⟨fun e=>by rw [h.no_eq hv hy e],fun e=>by rw [h.one_eq hv hy (Prod.ext (hvo.trans hyo.symm) e)]⟩
    have hg2:y.no∈g++[y.no]:=List.mem_append_right _ (List.mem_singleton.2 rfl)
    rw [ws_gon h hx hxo S left _ _ hS2 hp2 hG (List.mem_append_left _ hg) (fun v hv hvg=>(List.mem_append.1 hvg).elim (hng v (List.mem_cons_of_mem _ hv)) (fun e=>absurd (List.mem_singleton.1 e) (hyS v hv))),List.filter_cons,if_neg (show ¬decide (y.no∉gon (y::S) g)=true by rw [gon,if_pos e2];simp only [decide_eq_true_eq,Decidable.not_not];exact gon_sub S _ _ hg2)]
    rw [gon,if_pos e2]
   ·have hs:wsS x.c.2 (left,gone) (tnF f y)=(left++[tnF f y],gone):=by
     unfold wsS
     rw [if_neg (fun e=>e.elim (fun e=>e1 (hw.symm.trans e)) (fun e=>e2 (hcond.1 e)))]
    rw [hs]
    have hk:y.no∉gon S g:=fun e=>by
     rcases gon_mem S g _ e with e3|⟨v,e3,e4⟩
     ·exact e1 (by rw [hng y (List.mem_cons_self ..) e3])
     ·exact hyS v e3 e4
    rw [ws_gon h hx hxo S _ gone g hS2 hp2 hi hg (fun v hv=>hng v (List.mem_cons_of_mem _ hv)),List.filter_cons,if_pos (show decide (y.no∉gon (y::S) g)=true by rw [gon,if_neg e2];exact decide_eq_true hk),List.map_cons]
    rw [gon,if_neg e2]
    simp
end
end Go.Proofs.YtffmodpgddecnaaGreat.V.E
namespace Go.Proofs.YtffmodpgddecnaaGreat.V.E
open Go.RowKit Go.Maps
open Go.Proofs.YtffmodpgddecnaaGreat.H (B64 Cp)
section
variable {p:Pm}{q:Pl}{r:Rm}{f:Int→Nat×Nat}
theorem like_off (h:Like q f r)(o:Int):Like { q with O:=noO q.O o } f { r with V:=noV r.V o,T:=r.T.filter (fun x=>decide (x.c.1≠o)) }:=by
 refine h.cut (g:=fun x=>decide (x.c.1≠o)) rfl rfl rfl h.t ?_ h.P h.nx h.px (fun e he=>?_) (fun x hx hg=>?_) (fun x hx hg y hy e1 e2=>?_) (fun e he x hx _=>?_)
 ·show noV r.V o=vO (noO q.O o)
  rw [h.V]
  unfold noV vO noO
  rw [List.filter_map]
  rfl
 ·obtain⟨h1,h2⟩:=List.mem_filter.1 he
  have h2:e.1≠o:=of_decide_eq_true h2
  refine⟨?_,e,h1,rfl⟩
  rw [List.filter_eq_self.2 (fun x hx=>decide_eq_true (by rw [(mem_ofT.1 hx).2];exact h2))]
  exact h.O e h1
 ·obtain⟨e,h1,h2⟩:=h.on x hx
  exact⟨e,List.mem_filter.2 ⟨h1,decide_eq_true (by rw [h2];exact of_decide_eq_true hg)⟩,h2⟩
 ·exact decide_eq_true (by rw [e2];exact of_decide_eq_true hg)
 ·exact decide_eq_true (by rw [(mem_ofT.1 hx).2];exact of_decide_eq_true (List.mem_filter.1 he).2)
theorem like_des (h:Like q f r)(hf:Fit p q)(c:Cp):(pDes q c).1=(rAway true r c).1∧Like (pDes q c).2 f (rAway true r c).2:=by
 unfold pDes rAway
 rw [h.giv hf.ro]
 unfold rGiv
 cases hl:liv r.T c with
 | none=>simp only [if_pos (show (3:Int)≠0 by decide)];exact⟨by first|rfl|trivial,h⟩
 | some x =>
  have e:needB true=16:=rfl
  simp only [e]
  by_cases h1:partB 16 x.r=false
  ·simp only [h1,if_true,if_pos (show (4:Int)≠0 by decide)];exact⟨by first|rfl|trivial,h⟩
  ·have h1:partB 16 x.r=true:=by simpa using h1
   simp only [h1,Bool.true_eq_false,if_false,true_or,if_true,if_neg (show ¬(0:Int)≠0 by decide)]
   exact⟨by first|rfl|trivial,like_off h c.1⟩
theorem like_rev (h:Like q f r)(hf:Fit p q)(c:Cp):(pRev q c).1=(rAway false r c).1∧Like (pRev q c).2 f (rAway false r c).2:=by
 have hr:=hf.ro
 unfold pRev rAway
 rw [h.giv hr,h.tk hr]
 unfold rGiv
 cases hl:liv r.T c with
 | none=>simp only [if_pos (show (3:Int)≠0 by decide)];exact⟨by first|rfl|trivial,h⟩
 | some x =>
  have e:needB false=8:=rfl
  simp only [e]
  by_cases h1:partB 8 x.r=false
  ·simp only [h1,if_true,if_pos (show (4:Int)≠0 by decide)];exact⟨by first|rfl|trivial,h⟩
  ·have h1:partB 8 x.r=true:=by simpa using h1
   simp only [h1,if_false,if_neg (show ¬(0:Int)≠0 by decide),Bool.false_eq_true,Bool.true_eq_false,false_or]
   obtain⟨hx,hxc⟩:=liv_is2 hl
   obtain⟨d,hd,hdo⟩:=h.on x hx
   have hdc:d.1=c.1:=by rw [hdo,hxc]
   obtain⟨x0,L,hL,h0,hLu⟩:=h.hd d hd
   rw [hdc] at hL
   rw [hL]
   simp only [List.map_cons,List.head?_cons]
   have hx0:x0∈r.T∧x0.c.1=c.1:=mem_ofT.1 (by rw [hL];exact List.mem_cons_self ..)
   have hxL:x=x0∨x∈L:=by
    have:x∈ofT r.T c.1:=mem_ofT.2 ⟨hx,by rw [hxc]⟩
    rw [hL] at this
    exact List.mem_cons.1 this
   by_cases h2:x.up=0
   ·have e2:x=x0:=hxL.elim id (fun h3=>absurd h2 (hLu x h3))
    subst e2
    rw [if_pos (show ((tnF f x).hi,(tnF f x).lo)=c.2 by rw [←hxc];rfl)]
    simp only [h2,if_true]
    exact⟨by first|rfl|trivial,like_off h c.1⟩
   ·have e2:x≠x0:=fun e=>h2 (by rw [e];exact h0)
    have e3:x∈L:=hxL.elim (fun e=>absurd e e2) id
    rw [if_neg (show ¬((tnF f x0).hi,(tnF f x0).lo)=c.2 from fun e4=>e2 (h.one_eq hx hx0.1 (by rw [hxc];exact Prod.ext hx0.2.symm e4.symm)))]
    simp only [h2,if_false]
    have hrg:=h.rng x hx
    have hG:gon r.T [x.no]=gon L [x.no]:=by
     rw [gon_of h c.1 r.T [x.no] (fun y hy=>hy) (fun n hn=>⟨x,hx,(List.mem_singleton.1 hn).symm,by rw [hxc]⟩),hL,gon,if_neg (by rw [h0,List.mem_singleton];omega)]
    have hLm:∀y∈L,y∈r.T∧y.c.1=c.1:=fun y hy=>mem_ofT.1 (by rw [hL];exact List.mem_cons_of_mem _ hy)
    have hLp:(x0::L).Pairwise (fun a b=>a.no<b.no):=by rw [←hL];exact h.no.sublist List.filter_sublist
    obtain⟨hLp1,hLp2⟩:=List.pairwise_cons.1 hLp
    have hGm:∀n,n∈gon L [x.no]→∃y∈L,y.no=n:=fun n hn=>by
     rcases gon_mem L _ n hn with h3|h3
     ·exact⟨x,e3,(List.mem_singleton.1 h3).symm⟩
     ·exact h3
    have hx0n:x0.no∉gon L [x.no]:=fun e4=>by
     obtain⟨y,h3,h4⟩:=hGm _ e4
     have:=hLp1 y h3
     omega
    have hws:=ws_gon h hx (by rw [hxc]) L [tnF f x0] [x.c.2] [x.no] (fun y hy=>⟨(hLm y hy).1,(hLm y hy).2,hLu y hy⟩) hLp2 (fun y hy hyo=>by
     rw [List.mem_singleton,List.mem_singleton]
     exact⟨fun e4=>by rw [h.no_eq hy hx e4],fun e4=>by rw [h.one_eq hy hx (Prod.ext (hyo.trans (by rw [hxc])) e4)]⟩) (List.mem_singleton.2 rfl) (fun y hy e4=>h.no_eq (hLm y hy).1 hx (List.mem_singleton.1 e4))
    rw [hxc] at hws
    refine⟨by first|rfl|trivial,?_⟩
    rw [hG]
    refine h.cut (g:=fun y=>decide (y.no∉gon L [x.no])) rfl rfl rfl h.t ?_ h.P h.nx h.px (fun e he=>?_) (fun y hy hg=>?_) (fun y hy hg z hz e4 e5=>?_) (fun e he y hy e4=>?_)
    ·dsimp only
     rw [vO_stO _ _ _ (by intro b;rfl)]
     exact h.V
    ·dsimp only at he
     obtain⟨b,hb,e4,e5⟩:=stO_mem he
     refine⟨?_,b,hb,e4.symm⟩
     rcases e5 with ⟨e5,e6⟩|⟨e5,e6⟩
     ·rw [e4,e5,hL,e6]
      show wsT b.2.T c.2=_
      rw [h.O b hb,e5,hL,List.filter_cons,if_pos (decide_eq_true hx0n)]
      exact hws
     ·have e7:(ofT r.T b.1).filter (fun y=>decide (y.no∉gon L [x.no]))=ofT r.T b.1:=List.filter_eq_self.2 (fun y hy=>decide_eq_true (fun e7=>by
       obtain⟨z,h3,h4⟩:=hGm _ e7
       have:=h.no_eq (hLm z h3).1 (mem_ofT.1 hy).1 h4
       subst this
       exact e5 ((mem_ofT.1 hy).2.symm.trans (hLm z h3).2)))
      rw [e4,e6,h.O b hb,e7]
    ·obtain⟨b,hb,e4⟩:=h.on y hy
     obtain⟨b2,h3,h4⟩:=stO_in (o:=c.1) (F:=fun o=>{ o with T:=wsT o.T c.2 }) hb
     exact⟨b2,h3,h4.trans e4⟩
    ·refine decide_eq_true (fun e6=>of_decide_eq_true hg ?_)
     have h3:y.up∈gon r.T [x.no]:=by rw [hG,←e4];exact e6
     rw [←hG]
     refine gon_cl r.T _ h.no y hy ?_ h3
     rcases h.up y hy with h4|⟨v,h4,h5,h6,h7⟩
     ·have:=h.rng y hy;omega
     ·omega
    ·refine decide_eq_true (fun e6=>?_)
     obtain⟨z,h3,h4⟩:=hGm _ e6
     have:=h.no_eq (hLm z h3).1 (mem_ofT.1 hy).1 h4
     subst this
     exact hLu z h3 e4
theorem namG_zero (g:Cp→Int)(o:Int):∀(K:List Cp) (e:Int),(L.namG g o K e).2=0→e=0∨∃c∈K,c.1=o∧g c=0
 | [],e,h=>.inl h
 | c::K,e,h=>by
  unfold L.namG at h
  have hk:∀e,(L.namG g o K e).2=0→e=0∨∃c'∈c::K,c'.1=o∧g c'=0:=fun e h=>by
   rcases namG_zero g o K e h with h1|⟨d,h1,h2⟩
   ·exact .inl h1
   ·exact .inr ⟨d,List.mem_cons_of_mem _ h1,h2⟩
  by_cases h1:c.1≠o
  ·rw [if_pos h1] at h;exact hk e h
  ·rw [if_neg h1] at h
   by_cases h2:g c=0
   ·exact .inr ⟨c,List.mem_cons_self ..,by simpa using h1,h2⟩
   ·rw [if_neg h2] at h
    by_cases h3:g c=4
    ·rw [if_pos h3] at h
     rcases hk 4 h with h4|h4
     ·cases h4
     ·exact .inr h4
    ·rw [if_neg h3] at h;exact hk e h
theorem giv_live {T:List Hl}{need:Int}{c:Cp}(h:rGiv T need c=0):∃x,liv T c=some x:=by
 unfold rGiv at h
 cases hl:liv T c with
 | none=>rw [hl] at h;cases h
 | some x=>exact⟨x,rfl⟩
theorem Like.there (h:Like q f r){g:Bool}{K:List Cp}{c:Cp}{need:Int}(hm:rMay r.T g K c need=0):∃e∈q.O,e.1=c.1:=by
 have hl:∃d x,liv r.T d=some x∧d.1=c.1:=by
  unfold rMay at hm
  cases g with
  | true=>obtain⟨x,hx⟩:=giv_live hm;exact⟨c,x,hx,rfl⟩
  | false =>
   rcases namG_zero _ _ K 3 hm with h1|⟨d,h1,h2,h3⟩
   ·cases h1
   ·obtain⟨x,hx⟩:=giv_live h3;exact⟨d,x,hx,h2⟩
 obtain⟨d,x,h1,h2⟩:=hl
 obtain⟨h3,h4⟩:=liv_is2 h1
 obtain⟨e,h5,h6⟩:=h.on x h3
 exact⟨e,h5,by rw [h6,h4,h2]⟩
theorem atV_vO {O:List (Int×Ob)}(hr:O.Pairwise (fun a b=>a.1<b.1)){e:Int×Ob}(he:e∈O):S.atV (vO O) e.1=some (byO O e.1):=by
 have h1:=ob_mem hr e he
 unfold byO S.atV vO
 rw [List.find?_map]
 unfold obO at h1 ⊢
 have h2:((fun p:Int×List Nat=>decide (p.1=e.1)) ∘ fun e:Int×Ob=>(e.1,e.2.b))=fun q=>decide (q.1=e.1):=rfl
 rw [h2]
 cases hf:O.find? (fun q=>decide (q.1=e.1)) with
 | none=>rw [hf] at h1;cases h1
 | some y=>rfl
theorem like_read (h:Like q f r)(hf:Fit p q)(g:Bool)(b:Int)(c:Cp)(off n:Int):(pRead q g b c off n).1=(rRead r g b c off n).1∧Like (pRead q g b c off n).2 f (rRead r g b c off n).2:=by
 unfold pRead rRead
 have e1:lsX q.X b=lstN r.P b:=by rw [h.P];rfl
 rw [h.may hf.ro,e1]
 by_cases h1:rMay r.T g (lstN r.P b) c 1≠0
 ·simp only [if_pos h1];exact⟨by first|rfl|trivial,h⟩
 ·simp only [if_neg h1]
  obtain⟨e,he,e2⟩:=h.there (Decidable.not_not.1 h1)
  have e3:=atV_vO hf.ro he
  rw [e2] at e3
  unfold S.rvE S.rvL
  rw [h.V,e3]
  simp only
  by_cases h2:0≤off∧0≤n∧n≤1024∧off+n≤((byO q.O c.1).length:Int)
  ·simp only [if_pos h2];exact⟨by first|rfl|trivial,h⟩
  ·simp only [if_neg h2];exact⟨by first|rfl|trivial,h⟩
theorem like_write (h:Like q f r)(hf:Fit p q)(g:Bool)(b:Int)(c:Cp)(off:Int)(D:List Nat):(pWrite q g b c off D).1=(rWrite r g b c off D).1∧Like (pWrite q g b c off D).2 f (rWrite r g b c off D).2:=by
 unfold pWrite rWrite
 have e1:lsX q.X b=lstN r.P b:=by rw [h.P];rfl
 rw [h.may hf.ro,e1]
 by_cases h1:rMay r.T g (lstN r.P b) c 2≠0
 ·simp only [if_pos h1];exact⟨by first|rfl|trivial,h⟩
 ·simp only [if_neg h1]
  obtain⟨e,he,e2⟩:=h.there (Decidable.not_not.1 h1)
  have e3:=atV_vO hf.ro he
  rw [e2] at e3
  have e4:S.rvE r.V c.1 off (D.length:Int)=if 0≤off∧D.length≤1024∧off+(D.length:Int)≤((byO q.O c.1).length:Int) then 0 else 5:=by
   unfold S.rvE
   rw [h.V,e3]
   simp only
   by_cases h2:0≤off∧D.length≤1024∧off+(D.length:Int)≤((byO q.O c.1).length:Int)
   ·rw [if_pos h2,if_pos (by omega)]
   ·rw [if_neg h2,if_neg (by omega)]
  unfold S.wrV
  rw [e4]
  by_cases h2:0≤off∧D.length≤1024∧off+(D.length:Int)≤((byO q.O c.1).length:Int)
  ·simp only [if_pos h2,if_true]
   refine⟨by first|rfl|trivial,h.same rfl rfl (Nat.le_refl _) h.t ?_ h.P h.nx h.px ?_⟩
   ·dsimp only
    rw [h.V]
    unfold vO stO
    rw [List.map_map,List.map_map]
    refine List.map_congr_left (fun x hx=>?_)
    simp only [Function.comp,S.setV]
    by_cases e5:x.1=c.1
    ·rw [if_pos e5,if_pos e5];rfl
    ·rw [if_neg e5,if_neg e5]
   ·dsimp only
    unfold stO
    rw [List.map_map]
    refine List.map_congr_left (fun x hx=>?_)
    simp only [Function.comp]
    by_cases e5:x.1=c.1
    ·rw [if_pos e5]
    ·rw [if_neg e5]
  ·simp only [if_neg h2,if_neg (show ¬(5:Int)=0 by decide)]
   exact⟨by first|rfl|trivial,h⟩
theorem like_list (h:Like q f r){X:List (Int×List Cp)}{y:Int}:Like { q with X:=X,px:=y } f { r with P:=X,px:=y }:=h.same rfl rfl (Nat.le_refl _) h.t h.V rfl h.nx rfl rfl
theorem like_list1 (h:Like q f r){X:List (Int×List Cp)}:Like { q with X:=X } f { r with P:=X }:=h.same rfl rfl (Nat.le_refl _) h.t h.V rfl h.nx h.px rfl
theorem like_do (h:Like q f r)(hf:Fit p q)(c:R.Cl):(pDo p q c).1=(rDo p r c).1∧∃f',Like (pDo p q c).2 f' (rDo p r c).2:=by
 unfold pDo rDo
 by_cases h1:R.fm c=false
 ·simp only [if_pos h1];exact⟨by first|rfl|trivial,f,h⟩
 simp only [if_neg h1]
 have e0:hasP r.P c.by_=haX q.X c.by_:=by rw [h.P];rfl
 rw [e0]
 by_cases h2:haX q.X c.by_=false
 ·simp only [if_pos h2];exact⟨by first|rfl|trivial,f,h⟩
 simp only [if_neg h2]
 have e1:lstN r.P c.by_=lsX q.X c.by_:=by rw [h.P];rfl
 unfold pDeed rDeed
 by_cases o1:c.op=1
 ·simp only [if_pos o1];exact like_cre h hf _
 simp only [if_neg o1]
 by_cases o2:c.op=2
 ·simp only [if_pos o2];exact⟨(like_des h hf _).1,f,(like_des h hf _).2⟩
 simp only [if_neg o2]
 by_cases o3:c.op=3
 ·simp only [if_pos o3];exact like_der h hf _ _
 simp only [if_neg o3]
 by_cases o4:c.op=4
 ·simp only [if_pos o4];exact⟨(like_rev h hf _).1,f,(like_rev h hf _).2⟩
 simp only [if_neg o4]
 by_cases o5:c.op=5
 ·simp only [if_pos o5];exact⟨(like_read h hf _ _ _ _ _).1,f,(like_read h hf _ _ _ _ _).2⟩
 simp only [if_neg o5]
 by_cases o6:c.op=6
 ·simp only [if_pos o6];exact⟨(like_write h hf _ _ _ _ _).1,f,(like_write h hf _ _ _ _ _).2⟩
 simp only [if_neg o6]
 by_cases o7:c.op=7
 ·simp only [if_pos o7]
  unfold pAdd rAdd
  rw [e1]
  by_cases h3:fitB p.W (cpO c)=false
  ·simp only [if_pos h3];exact⟨by first|rfl|trivial,f,h⟩
  ·simp only [if_neg h3]
   by_cases h4:p.lm≤((lsX q.X c.by_).length:Int)
   ·simp only [if_pos h4];exact⟨by first|rfl|trivial,f,h⟩
   ·simp only [if_neg h4]
    refine⟨by first|rfl|trivial,f,?_⟩
    rw [h.P]
    exact like_list1 h
 simp only [if_neg o7]
 by_cases o8:c.op=8
 ·simp only [if_pos o8]
  unfold pRem rRem
  rw [e1]
  have hi:0≤c.index:=by
   have h3:R.fm c=true:=by simpa using h1
   unfold R.fm R.inB at h3
   simp only [Bool.and_eq_true] at h3
   have h4:=h3.1.1.2.1.1.2
   unfold R.wi at h4
   simp only [Bool.and_eq_true,decide_eq_true_eq] at h4
   exact h4.1
  by_cases h4:((lsX q.X c.by_).length:Int)≤c.index
  ·have h5:M.okI (lsX q.X c.by_) c.index=false:=decide_eq_false (by omega)
   simp only [if_pos h4,h5,if_true];exact⟨by first|rfl|trivial,f,h⟩
  ·have h5:M.okI (lsX q.X c.by_) c.index=true:=decide_eq_true (by omega)
   simp only [if_neg h4,h5,Bool.true_eq_false,if_false]
   refine⟨by first|rfl|trivial,f,?_⟩
   rw [h.P]
   exact like_list1 h
 simp only [if_neg o8]
 by_cases o9:c.op=9
 ·simp only [if_pos o9]
  unfold pSpa rSpa
  rw [e1]
  by_cases h3:M.pickE p.lm (lsX q.X c.by_) c.gifts≠0
  ·simp only [if_pos h3];exact⟨by first|rfl|trivial,f,h⟩
  ·simp only [if_neg h3]
   rw [h.P,h.px]
   by_cases h4:p.pm≤(q.X.length:Int)∨65535<q.px
   ·simp only [if_pos h4];exact⟨by first|rfl|trivial,f,h⟩
   ·simp only [if_neg h4]
    exact⟨by first|rfl|trivial,f,like_list h⟩
 simp only [if_neg o9]
 unfold pExi rExi
 refine⟨by first|rfl|trivial,f,?_⟩
 rw [h.P]
 exact like_list1 h
end
end Go.Proofs.YtffmodpgddecnaaGreat.V.E
