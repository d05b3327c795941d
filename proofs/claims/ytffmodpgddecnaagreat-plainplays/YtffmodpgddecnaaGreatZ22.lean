import Derived.Test.YtffmodpgddecnaaGreatZ21
set_option linter.unusedVariables false
set_option linter.unusedSimpArgs false
namespace Go.Proofs.YtffmodpgddecnaaGreat.V.E
open Go.RowKit Go.Maps
open Go.Proofs.YtffmodpgddecnaaGreat.H (B64 Cp)
section
variable {p:Pm}{q:Pl}{o:Int}{f:Ob→Ob}
def okT (t:Tn):Prop:=t.hi<B64∧t.lo<B64∧t.uh<B64∧t.ul<B64∧S.i64ok t.r
theorem stO_key (o:Int)(f:Ob→Ob)(e:Int×Ob):(if e.1=o then (e.1,f e.2) else e).1=e.1:=by split<;>rfl
theorem stO_none:∀O:List (Int×Ob),(∀e∈O,e.1≠o)→stO O o f=O
 | [],_=>rfl
 | e::O,h=>by
  have:=stO_none O (fun x hx=>h x (List.mem_cons_of_mem _ hx))
  unfold stO at this ⊢
  rw [List.map_cons,if_neg (h e List.mem_cons_self),this]
theorem lv_stO {d:Nat}:∀O:List (Int×Ob),O.Pairwise (fun a b=>a.1<b.1)→(∀e∈O,e.1=o→(f e.2).T.length≤e.2.T.length+d)→lvN (stO O o f)≤lvN O+d
 | [],_,_=>by simp [stO,lvN]
 | e::O,hr,h=>by
  obtain⟨h1,h2⟩:=List.pairwise_cons.1 hr
  by_cases he:e.1=o
  ·have hn:stO O o f=O:=stO_none O (fun x hx=>by have:=h1 x hx;omega)
   have hl:=h e List.mem_cons_self he
   have:stO (e::O) o f=(e.1,f e.2)::stO O o f:=by unfold stO;rw [List.map_cons,if_pos he]
   rw [this,hn]
   unfold lvN
   simp only [List.map_cons,List.sum_cons]
   omega
  ·have ih:=lv_stO O h2 (fun x hx=>h x (List.mem_cons_of_mem _ hx))
   have:stO (e::O) o f=e::stO O o f:=by unfold stO;rw [List.map_cons,if_neg he]
   rw [this]
   unfold lvN at ih ⊢
   simp only [List.map_cons,List.sum_cons]
   omega
theorem us_stO (O:List (Int×Ob))(h:∀e∈O,e.1=o→(f e.2).b.length=e.2.b.length):S.usedV (vO (stO O o f))=S.usedV (vO O):=by
 unfold S.usedV vO stO
 simp only [List.map_map]
 refine congrArg List.sum (List.map_congr_left (fun e he=>?_))
 by_cases hk:e.1=o
 ·simp only [Function.comp_apply,if_pos hk]
  rw [h e he hk]
 ·simp only [Function.comp_apply,if_neg hk]
structure Swp (a b:Ob)(d:Nat):Prop where
 ne:b.T≠[]
 len:b.b.length=a.b.length
 by_:∀x∈b.b,x<256
 tk:∀t∈b.T,okT t
 tl:b.T.length≤a.T.length+d
theorem Fit.swapO (hf:Fit p q){d:Nat}(hd:∀e∈q.O,e.1=o→Swp e.2 (f e.2) d)(hm:lvN q.O+d≤p.mo):Fit p { q with O:=stO q.O o f }:=by
 have hmem:∀e∈stO q.O o f,∃y∈q.O,e=(if y.1=o then (y.1,f y.2) else y):=fun e he=>by
  obtain⟨y,hy,rfl⟩:=List.mem_map.1 he
  exact⟨y,hy,rfl⟩
 refine⟨hf.le,hf.n,hf.cs,?_,?_,hf.nx,hf.rx,hf.mx,hf.px,?_,?_,hf.lm,hf.ln,⟨hf.mo.1,Nat.le_trans (lv_stO q.O hf.ro (fun e he hk=>(hd e he hk).tl)) hm⟩,⟨hf.rm.1,?_⟩,⟨hf.pg.1,?_⟩,hf.pm⟩
 ·unfold stO
  rw [List.pairwise_map]
  refine hf.ro.imp (fun {x y} h=>?_)
  rw [stO_key,stO_key]
  exact h
 ·intro e he
  obtain⟨y,hy,rfl⟩:=hmem e he
  rw [stO_key]
  exact hf.no y hy
 ·intro e he
  obtain⟨y,hy,rfl⟩:=hmem e he
  by_cases h:y.1=o
  ·rw [if_pos h]
   have:=hd y hy h
   have h2:=hf.ob y hy
   exact⟨this.ne,by simp only;rw [this.len];exact h2.2.1,this.by_⟩
  ·rw [if_neg h];exact hf.ob y hy
 ·intro e he
  obtain⟨y,hy,rfl⟩:=hmem e he
  by_cases h:y.1=o
  ·rw [if_pos h];exact (hd y hy h).tk
  ·rw [if_neg h];exact hf.wd y hy
 ·simp only [stO,List.length_map];exact hf.rm.2
 ·simp only;rw [us_stO q.O (fun e he hk=>(hd e he hk).len)];exact hf.pg.2
theorem Fit.addO (hf:Fit p q)(ht:q.t<p.n){s:Nat}(hs:s≤4096)(hr:q.O.length<p.room)(hx:q.nx≤4611686018427387904)(hu:S.usedV (vO q.O)+S.needN s≤p.pgs)(hm:lvN q.O<p.mo){t:Tn}(hk:okT t):Fit p { q with t:=q.t+1,O:=q.O++[(q.nx,⟨List.replicate s 0,[t]⟩)],nx:=q.nx+1 }:=by
 have hn:=hf.nx
 refine⟨ht,hf.n,hf.cs,?_,?_,⟨by simp only;omega,by simp only;omega⟩,hf.rx,hf.mx,hf.px,?_,?_,hf.lm,hf.ln,⟨hf.mo.1,?_⟩,⟨hf.rm.1,?_⟩,⟨hf.pg.1,?_⟩,hf.pm⟩
 ·refine List.pairwise_append.2 ⟨hf.ro,List.pairwise_singleton _ _,fun x hx y hy=>?_⟩
  rw [List.mem_singleton.1 hy]
  exact (hf.no x hx).2
 ·intro e he
  rcases List.mem_append.1 he with h|h
  ·have:=hf.no e h;exact⟨this.1,by simp only;omega⟩
  ·rw [List.mem_singleton.1 h];exact⟨hn.1,by simp only;omega⟩
 ·intro e he
  rcases List.mem_append.1 he with h|h
  ·exact hf.ob e h
  ·rw [List.mem_singleton.1 h];exact⟨by simp,by simpa using hs,fun x hx=>by have:=(List.mem_replicate.1 hx).2;omega⟩
 ·intro e he
  rcases List.mem_append.1 he with h|h
  ·exact hf.wd e h
  ·rw [List.mem_singleton.1 h]
   intro u hu
   rw [List.mem_singleton.1 hu]
   exact hk
 ·simp only [lvN,List.map_append,List.sum_append,List.map_cons,List.map_nil,List.sum_cons,List.sum_nil,List.length_singleton]
  unfold lvN at hm
  omega
 ·simp only [List.length_append,List.length_singleton];omega
 ·simp only [S.usedV,vO,List.map_append,List.sum_append,List.map_cons,List.map_nil,List.sum_cons,List.sum_nil,List.length_replicate]
  simp only [S.usedV,vO] at hu
  omega
theorem ws_sub (top:Nat×Nat):∀(L:List Tn) (s:List Tn×List (Nat×Nat)),(∀t∈(L.foldl (wsS top) s).1,t∈s.1∨t∈L)∧(L.foldl (wsS top) s).1.length≤s.1.length+L.length∧(s.1≠[]→(L.foldl (wsS top) s).1≠[])
 | [],s=>⟨fun t h=>.inl h,by simp,fun h=>h⟩
 | u::L,s=>by
  obtain⟨h1,h2,h3⟩:=ws_sub top L (wsS top s u)
  have hs:(∀t∈(wsS top s u).1,t∈s.1∨t=u)∧(wsS top s u).1.length≤s.1.length+1∧(s.1≠[]→(wsS top s u).1≠[]):=by
   unfold wsS
   split
   ·exact⟨fun t h=>.inl h,Nat.le_succ _,fun h=>h⟩
   ·exact⟨fun t h=>by simpa using h,by simp,fun h=>by simp⟩
  refine⟨fun t ht=>?_,?_,fun h=>h3 (hs.2.2 h)⟩
  ·rcases h1 t ht with h|h
   ·rcases hs.1 t h with h|h
    ·exact .inl h
    ·exact .inr (by rw [h];exact List.mem_cons_self)
   ·exact .inr (List.mem_cons_of_mem _ h)
  ·simp only [List.foldl_cons,List.length_cons]
   have:=hs.2.1
   omega
theorem ws_ok {T:List Tn}(hT:T≠[])(top:Nat×Nat):(∀t∈wsT T top,t∈T)∧(wsT T top).length≤T.length∧wsT T top≠[]:=by
 obtain⟨h1,h2,h3⟩:=ws_sub top (T.drop 1) (T.take 1,[top])
 unfold wsT
 cases T with
 | nil=>exact absurd rfl hT
 | cons a r =>
  simp only [List.take_succ_cons,List.take_zero,List.drop_succ_cons,List.drop_zero] at h1 h2 h3 ⊢
  refine⟨fun t ht=>?_,by simp only [List.length_cons,List.length_nil] at h2 ⊢;omega,h3 (by simp)⟩
  rcases h1 t ht with h|h
  ·rw [List.mem_singleton.1 h];exact List.mem_cons_self
  ·exact List.mem_cons_of_mem _ h
end
end Go.Proofs.YtffmodpgddecnaaGreat.V.E
namespace Go.Proofs.YtffmodpgddecnaaGreat.V.E
open Go.RowKit Go.Maps
open Go.Proofs.YtffmodpgddecnaaGreat.H (B64 Cp)
section
variable {p:Pm}{q:Pl}{o:Int}{f:Ob→Ob}
theorem ob_mem:∀{O:List (Int×Ob)},O.Pairwise (fun a b=>a.1<b.1)→∀e∈O,obO O e.1=some e.2
 | [],_,e,he=>by cases he
 | a::O,hr,e,he=>by
  obtain⟨h1,h2⟩:=List.pairwise_cons.1 hr
  unfold obO
  rcases List.mem_cons.1 he with rfl|he
  ·simp
  ·have hne:¬a.1=e.1:=by have:=h1 e he;omega
   have:=ob_mem h2 e he
   unfold obO at this
   rw [List.find?_cons_of_neg (by simpa using hne)]
   exact this
theorem cut_ok {M:Nat}(h:M<B64*B64):M / B64<B64∧M%B64<B64:=⟨Nat.div_lt_of_lt_mul h,Nat.mod_lt _ (by decide)⟩
theorem dr_le {P:Nat→Bool}{c:Nat→Nat}{n:Nat}:∀{k t:Nat},t≤n→(D.drawR P c n k t).2.2≤n
 | 0,t,h=>h
 | k+1,t,h=>by
  rw [D.drawR]
  split
  ·split
   ·exact dr_le (by omega)
   ·simp only;omega
  ·exact h
theorem dr_small {P:Nat→Bool}{c:Nat→Nat}{n:Nat}(hc:∀i,i<n→c i<B64*B64):∀{k t:Nat},(D.drawR P c n k t).1<B64*B64
 | 0,t=>by simp only [D.drawR];decide
 | k+1,t=>by
  rw [D.drawR]
  split
  ·split
   ·exact dr_small hc
   ·rename_i h _;exact hc _ h
  ·simp only;decide
theorem fit_cre (hf:Fit p q)(s:Int):Fit p (pCre p q s).2:=by
 unfold pCre
 split
 ·exact hf
 ·rename_i h1
  split
  ·exact hf
  ·rename_i h2
   have h1:rmE p q s=0:=by simpa using h1
   unfold rmE at h1
   split at h1
   ·rename_i h3;exact absurd h1 h3
   ·rename_i h3
    split at h1
    ·cases h1
    ·rename_i h4
     have h3:S.mayV p.room p.pgs q.nx (vO q.O) s=0:=by simpa using h3
     unfold S.mayV at h3
     split at h3
     ·cases h3
     ·rename_i h5
      split at h3
      ·cases h3
      ·rename_i h6
       split at h3
       ·cases h3
       ·rename_i h7
        have hv:(vO q.O).length=q.O.length:=by simp [vO]
        have hk:=cut_ok (hf.cs q.t (by omega))
        rw [hv] at h6
        exact hf.addO (by omega) (by omega) (by omega) (by omega) (by omega) (by omega) ⟨hk.1,hk.2,show (0:Nat)<B64 by decide,show (0:Nat)<B64 by decide,show S.i64ok 31 by unfold S.i64ok;decide⟩
theorem fit_des (hf:Fit p q)(c:Cp):Fit p (pDes q c).2:=by
 unfold pDes
 split
 ·exact hf
 ·exact hf.cutO _
theorem fit_der (hf:Fit p q)(c:Cp)(hc:c.2.1<B64∧c.2.2<B64)(r:Int)(hr:S.i64ok r):Fit p (pDer p q c r).2:=by
 unfold pDer
 have hle:(pDrw p q c.1).2.2≤p.n:=dr_le hf.le
 have hsm:(pDrw p q c.1).1<B64*B64:=dr_small hf.cs
 split
 ·exact hf
 ·rename_i h1
  split
  ·exact hf.setT hle
  ·have h1:srE p q c r=0:=by simpa using h1
   have hm:lvN q.O+1≤p.mo:=by
    unfold srE at h1
    split at h1
    ·cases h1
    ·split at h1
     ·cases h1
     ·split at h1
      ·cases h1
      ·split at h1
       ·cases h1
       ·split at h1
        ·cases h1
        ·omega
   have hs:Fit p { q with O:=stO q.O c.1 (fun o=>{ o with T:=o.T++[⟨(pDrw p q c.1).1 / B64,(pDrw p q c.1).1%B64,r,c.2.1,c.2.2⟩] }) }:=by
    refine hf.swapO (d:=1) (fun e he hk=>?_) hm
    have hk:=cut_ok hsm
    have h2:=hf.ob e he
    refine⟨by simp,rfl,h2.2.2,fun t ht=>?_,by simp⟩
    rcases List.mem_append.1 ht with ht|ht
    ·exact hf.wd e he t ht
    ·rw [List.mem_singleton.1 ht];exact⟨hk.1,hk.2,hc.1,hc.2,hr⟩
   exact hs.setT hle
theorem fit_rev (hf:Fit p q)(c:Cp):Fit p (pRev q c).2:=by
 unfold pRev
 split
 ·exact hf
 ·split
  ·exact hf
  ·split
   ·exact hf.cutO _
   ·refine hf.swapO (d:=0) (fun e he hk=>?_) hf.mo.2
    have h2:=hf.ob e he
    obtain⟨h3,h4,h5⟩:=ws_ok h2.1 c.2
    exact⟨h5,rfl,h2.2.2,fun t ht=>hf.wd e he t (h3 t ht),h4⟩
theorem fit_write (hf:Fit p q)(g:Bool)(b:Int)(c:Cp)(off:Int){D:List Nat}(hD:∀x∈D,x<256):Fit p (pWrite q g b c off D).2:=by
 unfold pWrite
 split
 ·exact hf
 ·split
  ·rename_i h1
   refine hf.swapO (d:=0) (fun e he hk=>?_) hf.mo.2
   have h2:=hf.ob e he
   have hb:byO q.O c.1=e.2.b:=by unfold byO;rw [←hk,ob_mem hf.ro e he];rfl
   rw [hb] at h1
   refine⟨h2.1,?_,fun x hx=>?_,hf.wd e he,Nat.le_refl _⟩
   ·simp only [List.length_append,List.length_take,List.length_drop];omega
   ·rcases List.mem_append.1 hx with hx|hx
    ·rcases List.mem_append.1 hx with hx|hx
     ·exact h2.2.2 x (List.mem_of_mem_take hx)
     ·exact hD x hx
    ·exact h2.2.2 x (List.mem_of_mem_drop hx)
  ·exact hf
theorem fit_add (hf:Fit p q)(b:Int)(c:Cp)(hc:S.i64ok c.1∧c.2.1<B64∧c.2.2<B64):Fit p (pAdd p q b c).2:=by
 unfold pAdd
 split
 ·exact hf
 ·split
  ·exact hf
  ·rename_i h1
   obtain⟨h2,h3⟩:=lsX_ok hf b
   refine hf.setX b ⟨by simp only [List.length_append,List.length_singleton];omega,fun x hx=>?_⟩
   rcases List.mem_append.1 hx with hx|hx
   ·exact h3 x hx
   ·rw [List.mem_singleton.1 hx];exact hc
theorem fit_rem (hf:Fit p q)(b i:Int):Fit p (pRem q b i).2:=by
 unfold pRem
 split
 ·exact hf
 ·obtain⟨h2,h3⟩:=lsX_ok hf b
  refine hf.setX b ⟨by simp only [List.length_append,List.length_take,List.length_drop];omega,fun x hx=>?_⟩
  rcases List.mem_append.1 hx with hx|hx
  ·exact h3 x (List.mem_of_mem_take hx)
  ·exact h3 x (List.mem_of_mem_drop hx)
theorem fit_spa (hf:Fit p q)(b:Int)(G:List Int):Fit p (pSpa p q b G).2:=by
 unfold pSpa
 split
 ·exact hf
 ·rename_i h1
  split
  ·exact hf
  ·rename_i h2
   have h1:M.pickE p.lm (lsX q.X b) G=0:=by simpa using h1
   have hL:M.pickL p.lm (lsX q.X b) G=G.map (M.atC (lsX q.X b)):=by unfold M.pickL;rw [h1,if_pos rfl]
   unfold M.pickE at h1
   split at h1
   ·rename_i hall
    split at h1
    ·cases h1
    ·rename_i h3
     obtain⟨h4,h5⟩:=lsX_ok hf b
     refine hf.addX ?_ (by omega) (by omega)
     rw [hL]
     refine⟨by rw [List.length_map];omega,fun x hx=>?_⟩
     obtain⟨g,hg,rfl⟩:=List.mem_map.1 hx
     obtain⟨k,-,-,hk⟩:=atC_is (List.all_eq_true.1 hall g hg)
     exact h5 _ (List.mem_of_getElem? hk)
   ·cases h1
theorem fit_do (hf:Fit p q)(c:R.Cl)(hm:R.fm c=true→S.i64ok c.obj∧S.i64ok c.rights)(hw:c.hi<B64∧c.lo<B64)(hD:∀x∈c.data,x<256):Fit p (pDo p q c).2:=by
 unfold pDo
 split
 ·exact hf
 ·rename_i h0
  have hm:=hm (by simpa using h0)
  split
  ·exact hf
  ·unfold pDeed
   split
   ·exact fit_cre hf _
   split
   ·exact fit_des hf _
   split
   ·exact fit_der hf _ hw _ hm.2
   split
   ·exact fit_rev hf _
   split
   ·unfold pRead
    split
    ·exact hf
    ·split
     ·exact hf
     ·exact hf
   split
   ·exact fit_write hf _ _ _ _ hD
   split
   ·exact fit_add hf _ _ ⟨hm.1,hw⟩
   split
   ·exact fit_rem hf _ _
   split
   ·exact fit_spa hf _ _
   ·exact hf.cutX _
end
end Go.Proofs.YtffmodpgddecnaaGreat.V.E
namespace Go.Proofs.YtffmodpgddecnaaGreat.V.E
open Go.RowKit Go.Maps
open Go.Proofs.YtffmodpgddecnaaGreat.H (B64 Cp)
def Tn.w (t:Tn):Nat×Nat:=(t.hi,t.lo)
def Tn.u (t:Tn):Nat×Nat:=(t.uh,t.ul)
structure Tre (T:List Tn):Prop where
 nd:T.Pairwise (fun a b=>a.w≠b.w)
 up:∀pre t post,T=pre++t::post→pre≠[]→∃s∈pre,s.w=t.u
theorem Tre.one (t:Tn):Tre [t]:=by
 refine⟨List.pairwise_singleton _ _,fun pre s post e h=>?_⟩
 cases pre with
 | nil=>exact absurd rfl h
 | cons x r =>
  have:=congrArg List.length e
  simp at this
theorem Tre.snoc {L:List Tn}(h:Tre L){t:Tn}(h1:∀a∈L,a.w≠t.w)(h2:L≠[]→∃s∈L,s.w=t.u):Tre (L++[t]):=by
 refine⟨?_,fun pre s post e hp=>?_⟩
 ·rw [List.pairwise_append]
  refine⟨h.nd,List.pairwise_singleton _ _,fun a ha b hb=>?_⟩
  rw [List.mem_singleton.1 hb]
  exact h1 a ha
 ·rcases List.eq_nil_or_concat post with rfl|⟨q,z,rfl⟩
  ·have e2:=List.append_inj' e rfl
   have e3:t=s:=by simpa using e2.2
   rw [←e2.1] at hp ⊢
   rw [←e3]
   exact h2 hp
  ·rw [List.concat_eq_append,←List.cons_append,←List.append_assoc] at e
   have e2:=List.append_inj' e rfl
   exact h.up pre s q e2.1 hp
def tokT (id:Int)(t:Tn)(par:Int):Tok:=((id,t.hi,t.lo),t.r,par)
def tel (T:List Tn)(id:Int):Nat→List Tok→Tn→Int→List Tok
 | 0,s,_,_=>s
 | k+1,s,t,par=>(T.drop 1).foldl (fun a c=>if c.u=t.w then tel T id k a c (s.length:Int) else a) (s++[tokT id t par])
def telS (T:List Tn)(id:Int)(k:Nat)(t:Tn)(at_:Int)(a:List Tok)(c:Tn):List Tok:=if c.u=t.w then tel T id k a c at_ else a
def sz (T:List Tn):Nat→Tn→Nat
 | 0,_=>0
 | k+1,t=>1+((T.drop 1).map (fun c=>if c.u=t.w then sz T k c else 0)).sum
theorem fold_len (F:List Tok→Tn→List Tok)(g:Tn→Nat)(hF:∀a c,(F a c).length=a.length+g c):∀(L:List Tn) (a:List Tok),(L.foldl F a).length=a.length+(L.map g).sum
 | [],a=>by simp
 | x::r,a=>by rw [List.foldl_cons,fold_len F g hF r,hF,List.map_cons,List.sum_cons];omega
theorem tel_len (T:List Tn)(id:Int):∀(k:Nat) (s:List Tok) (t:Tn) (par:Int),(tel T id k s t par).length=s.length+sz T k t
 | 0,s,t,par=>rfl
 | k+1,s,t,par=>by
  rw [tel,sz,fold_len _ (fun c=>if c.u=t.w then sz T k c else 0)]
  ·rw [List.length_append,List.length_singleton];omega
  ·intro a c
   by_cases h:c.u=t.w
   ·simp only [h,if_true];exact tel_len T id k a c _
   ·simp only [h,if_false];rfl
theorem sum_le {f g:Tn→Nat}:∀{L:List Tn},(∀t∈L,f t≤g t)→(L.map f).sum≤(L.map g).sum
 | [],_=>Nat.le_refl _
 | x::r,h=>by
  rw [List.map_cons,List.map_cons,List.sum_cons,List.sum_cons]
  exact Nat.add_le_add (h x (by simp)) (sum_le fun t ht=>h t (by simp [ht]))
theorem sum_add (f g:Tn→Nat):∀(L:List Tn),(L.map (fun t=>f t+g t)).sum=(L.map f).sum+(L.map g).sum
 | []=>rfl
 | x::r=>by
  simp only [List.map_cons,List.sum_cons]
  rw [sum_add f g r]
  omega
theorem sum_zero {f:Tn→Nat}:∀{L:List Tn},(∀t∈L,f t=0)→(L.map f).sum=0
 | [],_=>rfl
 | x::r,h=>by rw [List.map_cons,List.sum_cons,h x (by simp),sum_zero fun t ht=>h t (by simp [ht])]
theorem sz_mono (T:List Tn):∀(k:Nat) (t:Tn),sz T k t≤sz T (k+1) t
 | 0,t=>Nat.zero_le _
 | k+1,t=>by
  rw [sz,sz]
  refine Nat.add_le_add_left (sum_le fun c _=>?_) 1
  split
  ·exact sz_mono T k c
  ·exact Nat.le_refl _
theorem sz_step (T:List Tn)(k:Nat)(t:Tn):sz T k t≤1+((T.drop 1).map (fun c=>if c.u=t.w then sz T k c else 0)).sum:=by
 cases k with
 | zero=>exact Nat.zero_le _
 | succ k =>
  conv=>lhs;rw [sz]
  refine Nat.add_le_add_left (sum_le fun c _=>?_) 1
  split
  ·exact sz_mono T k c
  ·exact Nat.le_refl _
theorem Tre.kids {T:List Tn}(h:Tre T){pre suf:List Tn}{x:Tn}(e:T=pre++x::suf)(f:Tn→Nat)(hp:pre≠[]):((T.drop 1).map (fun c=>if c.u=x.w then f c else 0)).sum≤(suf.map (fun c=>if c.u=x.w then f c else 0)).sum:=by
 cases pre with
 | nil=>exact absurd rfl hp
 | cons r pre =>
  rw [e,List.cons_append,List.drop_one,List.tail_cons,List.map_append,List.sum_append,List.map_cons,List.sum_cons]
  have hnd:=h.nd
  have h1:(pre.map (fun c=>if c.u=x.w then f c else 0)).sum=0:=sum_zero fun c hc=>by
   obtain⟨a,b,rfl⟩:=List.append_of_mem hc
   obtain⟨s,hs,hw⟩:=h.up (r::a) c (b++x::suf) (by rw [e];simp) (by simp)
   rw [if_neg]
   intro e2
   rw [e,List.pairwise_append] at hnd
   refine hnd.2.2 s ?_ x (by simp) (hw.trans e2)
   rcases List.mem_cons.1 hs with rfl|hs
   ·simp
   ·simp [hs]
  have h2:(if x.u=x.w then f x else 0)=0:=by
   obtain⟨s,hs,hw⟩:=h.up (r::pre) x suf e (by simp)
   rw [if_neg]
   intro e2
   rw [e,List.pairwise_append] at hnd
   exact hnd.2.2 s hs x (by simp) (hw.trans e2)
  omega
theorem Tre.sum {T:List Tn}(h:Tre T)(f:Tn→Nat)(hf:∀t,f t≤1+((T.drop 1).map (fun c=>if c.u=t.w then f c else 0)).sum):∀(suf pre:List Tn),T=pre++suf→pre≠[]→(suf.map (fun t=>if t.u∈pre.map Tn.w then f t else 0)).sum≤suf.length
 | [],pre,_,_=>Nat.le_refl _
 | x::suf,pre,e,hp=>by
  have ih:=Tre.sum h f hf suf (pre++[x]) (by rw [e];simp) (by simp)
  rw [List.map_cons,List.sum_cons,List.length_cons]
  have hx:(if x.u∈pre.map Tn.w then f x else 0)≤f x:=by split<;>omega
  have h1:=hf x
  have h2:=h.kids e f hp
  have h3:(suf.map (fun t=>if t.u∈pre.map Tn.w then f t else 0)).sum+(suf.map (fun c=>if c.u=x.w then f c else 0)).sum≤(suf.map (fun t=>if t.u∈(pre++[x]).map Tn.w then f t else 0)).sum:=by
   rw [←sum_add]
   refine sum_le fun c _=>?_
   by_cases q:c.u=x.w
   ·have q1:¬c.u∈pre.map Tn.w:=by
     intro hm
     obtain⟨s,hs,hw⟩:=List.mem_map.1 hm
     have hnd:=h.nd
     rw [e,List.pairwise_append] at hnd
     exact hnd.2.2 s hs x (by simp) (hw.trans q)
    rw [if_neg q1,if_pos q,if_pos (by rw [q];simp)]
    omega
   ·rw [if_neg q]
    by_cases q1:c.u∈pre.map Tn.w
    ·rw [if_pos q1,if_pos (by rw [List.map_append];exact List.mem_append_left _ q1)];omega
    ·rw [if_neg q1];omega
  omega
theorem Tre.sz {T:List Tn}(h:Tre T){r:Tn}(hr:T.head?=some r)(k:Nat):sz T k r≤T.length:=by
 cases T with
 | nil=>cases hr
 | cons x suf =>
  obtain rfl:x=r:=by simpa using hr
  have h1:=sz_step (x::suf) k x
  have h2:=h.sum (E.sz (x::suf) k) (fun t=>sz_step _ k t) suf [x] rfl (by simp)
  have h3:(suf.map (fun c=>if c.u=x.w then E.sz (x::suf) k c else 0)).sum≤(suf.map (fun t=>if t.u∈[x].map Tn.w then E.sz (x::suf) k t else 0)).sum:=sum_le fun c _=>by
   by_cases q:c.u=x.w
   ·rw [if_pos q,if_pos (by simp [q])];exact Nat.le_refl _
   ·rw [if_neg q];exact Nat.zero_le _
  simp only [List.drop_one,List.tail_cons] at h1
  rw [List.length_cons]
  omega
theorem Tre.behind {T:List Tn}(h:Tre T){i j:Nat}{t c:Tn}(ht:T[i]?=some t)(hc:T[j+1]?=some c)(e:c.u=t.w):i<j+1:=by
 have hj:j+1<T.length:=(List.getElem?_eq_some_iff.1 hc).1
 have hs:T=T.take (j+1)++c::T.drop (j+2):=by
  have h1:T.drop (j+1)=c::T.drop (j+2):=by
   rw [List.drop_eq_getElem_cons hj]
   congr 1
   exact (List.getElem?_eq_some_iff.1 hc).2
  rw [←h1,List.take_append_drop]
 obtain⟨s,hm,hw⟩:=h.up _ _ _ hs (by
  intro e0
  have:=congrArg List.length e0
  simp only [List.length_take,List.length_nil] at this
  omega)
 obtain⟨n,hn⟩:=List.mem_iff_getElem?.1 hm
 have hn1:n<j+1:=by
  have:=(List.getElem?_eq_some_iff.1 hn).1
  rw [List.length_take] at this
  omega
 rw [List.getElem?_take_of_lt hn1] at hn
 rcases Nat.lt_or_ge i (j+1) with q|q
 ·exact q
 ·exfalso
  have hp:=List.pairwise_iff_getElem.1 h.nd n i (List.getElem?_eq_some_iff.1 hn).1 (List.getElem?_eq_some_iff.1 ht).1 (by omega)
  rw [(List.getElem?_eq_some_iff.1 hn).2,(List.getElem?_eq_some_iff.1 ht).2] at hp
  exact hp (hw.trans e)
theorem ws_tre {T:List Tn}(h:Tre T)(top:Nat×Nat):∀(suf pre left:List Tn) (gone:List (Nat×Nat)),T=pre++suf→pre≠[]→left≠[]→Tre left→left.Sublist pre→(∀s∈pre,s∈left∨s.w∈gone)→Tre (suf.foldl (wsS top) (left,gone)).1
 | [],pre,left,gone,_,_,_,hl,_,_=>hl
 | t::suf,pre,left,gone,e,hp,hne,hl,hs,hg=>by
  rw [List.foldl_cons]
  unfold wsS
  by_cases q:(t.hi,t.lo)=top∨(t.uh,t.ul)∈gone
  ·rw [if_pos q]
   refine ws_tre h top suf (pre++[t]) left _ (by rw [e];simp) (by simp) hne hl (hs.trans (List.sublist_append_left _ _)) (fun s hm=>?_)
   rcases List.mem_append.1 hm with hm|hm
   ·rcases hg s hm with q1|q1
    ·exact .inl q1
    ·exact .inr (List.mem_append_left _ q1)
   ·rw [List.mem_singleton.1 hm]
    exact .inr (by simp [Tn.w])
  ·rw [if_neg q]
   refine ws_tre h top suf (pre++[t]) (left++[t]) gone (by rw [e];simp) (by simp) (by simp) ?_ (hs.append_right [t]) (fun s hm=>?_)
   ·refine hl.snoc (fun a ha=>?_) (fun _=>?_)
    ·have hnd:=h.nd
     rw [e,List.pairwise_append] at hnd
     exact hnd.2.2 a (hs.subset ha) t (by simp)
    ·obtain⟨s,hm,hw⟩:=h.up pre t suf e hp
     rcases hg s hm with q1|q1
     ·exact⟨s,q1,hw⟩
     ·exfalso
      rw [hw] at q1
      exact q (.inr q1)
   ·rcases List.mem_append.1 hm with hm|hm
    ·rcases hg s hm with q1|q1
     ·exact .inl (List.mem_append_left _ q1)
     ·exact .inr q1
    ·exact .inl (List.mem_append_right _ hm)
theorem Tre.wsT {T:List Tn}(h:Tre T)(top:Nat×Nat):Tre (wsT T top):=by
 cases T with
 | nil=>exact h
 | cons r suf =>
  unfold E.wsT
  simp only [List.drop_one,List.tail_cons,List.take_succ_cons,List.take_zero]
  exact ws_tre h top suf [r] [r] [top] rfl (by simp) (by simp) (Tre.one r) (List.Sublist.refl _) (fun s hs=>.inl hs)
end Go.Proofs.YtffmodpgddecnaaGreat.V.E
namespace Go.Proofs.YtffmodpgddecnaaGreat.V.E
open Go.RowKit Go.Maps
open Go.Proofs.YtffmodpgddecnaaGreat.H (B64 Cp)
def pl0:Pl:=⟨0,[],[(0,[])],1,1⟩
theorem cut_le (M:Nat)(W:Int)(h:M<B64*B64):D.cutN M W<B64*B64:=Nat.lt_of_le_of_lt (Nat.mod_le _ _) h
theorem fit_new {cf:Cf}(hcf:cf.may=true){n:Nat}(hn:n≤4096){f:Nat→Nat}(hs:∀i,f i<B64*B64):Fit (cf.pm n (fun j=>D.cutN (f j) cf.W)) pl0:=by
 obtain⟨hW,ho,hp,hm,hq,hr,hl,-⟩:=Cf.may_iff.1 hcf
 refine⟨Nat.zero_le _,hn,fun i _=>cut_le _ _ (hs i),List.Pairwise.nil,fun e he=>(by cases he),(by unfold pl0;decide),List.pairwise_singleton _ _,fun e he=>?_,(by unfold pl0;decide),fun e he=>(by cases he),fun e he=>(by cases he),hl,fun e he=>?_,⟨?_,Nat.zero_le _⟩,⟨?_,Nat.zero_le _⟩,⟨?_,Nat.zero_le _⟩,hr.1,hr.2,hr.1⟩
 ·rw [List.mem_singleton.1 he];unfold pl0;decide
 ·rw [List.mem_singleton.1 he]
  exact⟨Int.le_trans (by decide) hl.1,fun c hc=>by cases hc⟩
 ·show cf.m.toNat≤256;omega
 ·show cf.o.toNat≤1024;omega
 ·show cf.p.toNat≤65536;omega
end Go.Proofs.YtffmodpgddecnaaGreat.V.E
