import Derived.Test.YtffmodpgddecnaaGreatZ28
set_option linter.unusedVariables false
set_option linter.unusedSimpArgs false
namespace Go.Proofs.YtffmodpgddecnaaGreat.V.E
open Go.RowKit Go.Maps
open Go.Proofs.YtffmodpgddecnaaGreat.H (B64 Cp)
def _root_.Go.Proofs.YtffmodpgddecnaaGreat.V.Ev.re (o:Ev)(L:List Value):Ev:={ o with vs:=L }
section
variable {w w':World}{base E ty k:Nat}{a:Option Addr}{n cap:Nat}{Q:List Ev}{i:Nat}{o:Ev}
theorem map_set_same {α β:Type}{f:α→β}{Q:List α}{i:Nat}{o p:α}(h:Q[i]?=some o)(e:f p=f o):(Q.set i p).map f=Q.map f:=by
 apply List.ext_getElem?
 intro j
 rw [List.getElem?_map,List.getElem?_map,List.getElem?_set]
 by_cases hj:i=j
 ·subst hj
  rw [if_pos rfl,h]
  by_cases hl:i<Q.length
  ·rw [if_pos hl];exact congrArg some e
  ·rw [List.getElem?_eq_none (by omega)] at h;cases h
 ·rw [if_neg hj]
theorem evs_re (h:Q[i]?=some o)(L:List Value):evs (Q.set i (o.re L))=evs Q:=by
 have:=map_set_same (f:=Ev.c) (p:=o.re L) h rfl
 unfold evs
 rw [List.flatMap_def,List.flatMap_def,this]
theorem a_re (h:Q[i]?=some o)(L:List Value):(Q.set i (o.re L)).map Ev.a=Q.map Ev.a:=map_set_same h rfl
theorem B_re (h:Q[i]?=some o)(L:List Value)(j:Nat):Two.B a (Q.set i (o.re L)) j↔Two.B a Q j:=by
 have e:=a_re h L
 have key:∀{A B:List Ev},A.map Ev.a=B.map Ev.a→(∃x∈A,Blk x.a j)→∃x∈B,Blk x.a j:=fun {A B} e ⟨x,hx,hj⟩=>by
  have:x.a∈B.map Ev.a:=by rw [←e];exact List.mem_map.2 ⟨x,hx,rfl⟩
  obtain⟨y,hy,e2⟩:=List.mem_map.1 this
  exact⟨y,hy,by rw [e2];exact hj⟩
 unfold Two.B
 exact or_congr Iff.rfl ⟨key e,key e.symm⟩
theorem Two.setv (h:Two w base E ty k a n cap Q)(hi:Q[i]?=some o){g:Nat}(hg:o.a=some ⟨g,0,none⟩)(j:Nat)(u:Value):Two (w.setCell ⟨g,j,none⟩ u) base E ty k a n cap (Q.set i (o.re (o.vs.set j u))):=by
 have hb:But (fun k=>k=g) w (w.setCell ⟨g,j,none⟩ u):=But.setCell (S:=fun k=>k=g) (But.refl _ _) (p:=⟨g,j,none⟩) rfl _
 have hgB:Blk o.a g:=⟨_,hg,rfl⟩
 have hom:=List.mem_of_getElem? hi
 have hil:=(List.getElem?_eq_some_iff.1 hi).1
 have ha:=a_re hi (o.vs.set j u)
 refine⟨?_,by rw [List.length_set];exact h.len,fun p hp=>?_,?_,fun p hp l h1 h2=>?_⟩
 ·rw [evs_re hi]
  exact h.row.but hb (fun l hl e=>h.top o hom g hgB (e ▸ hl))
 ·obtain⟨l,hl⟩:=List.getElem?_of_mem hp
  rw [List.getElem?_set] at hl
  by_cases e:i=l
  ·subst e
   rw [if_pos rfl,if_pos hil] at hl
   rw [←Option.some.inj hl]
   have h9:=h.each o hom
   show Ow (w.setCell ⟨g,j,none⟩ u) base ty k o.a o.len o.cap (o.vs.set j u)
   rw [hg] at h9 ⊢
   exact h9.set1 j u
  ·rw [if_neg e] at hl
   refine (h.each p (List.mem_of_getElem? hl)).but hb (fun m hm e2=>?_)
   subst e2
   obtain⟨h3,h4⟩:=List.getElem?_eq_some_iff.1 hi
   obtain⟨h5,h6⟩:=List.getElem?_eq_some_iff.1 hl
   have hp2:=List.pairwise_iff_getElem.1 h.ap
   rcases Nat.lt_or_gt_of_ne e with h7|h7
   ·have:=hp2 i l h3 h5 h7 m
    rw [h4,h6] at this
    exact this hgB hm
   ·have:=hp2 l i h5 h3 h7 m
    rw [h4,h6] at this
    exact this hm hgB
 ·have h9:(Q.map Ev.a).Pairwise (fun x y=>∀j,Blk x j→¬Blk y j):=List.pairwise_map.2 h.ap
  rw [←ha] at h9
  exact List.pairwise_map.1 h9
 ·have:p.a∈Q.map Ev.a:=by rw [←ha];exact List.mem_map.2 ⟨p,hp,rfl⟩
  obtain⟨y,hy,e2⟩:=List.mem_map.1 this
  rw [←e2] at h1
  exact h.top y hy l h1 h2
end
section
variable {w w' V X:World}{base:Nat}{M:Mh}{r:Rm}{a1:Option Addr}{c1:Nat}{Q1:List Ev}{a2:Option Addr}{c2:Nat}{a3:Option Addr}{c3:Nat}{Q3:List Ev}
theorem Mx.byte (h:Mx w base M r a1 c1 Q1 a2 c2 a3 c3 Q3){i:Nat}{o:Ev}{v:Int×List Nat}(hi:Q1[i]?=some o)(hv:r.V[i]?=some v){g:Nat}(hg:o.a=some ⟨g,0,none⟩)(j x:Nat) :
  Mx (w.setCell ⟨g,j,none⟩ (.int .u8 (x:Int))) base M { r with V:=r.V.set i (v.1,v.2.set j x) } a1 c1 (Q1.set i (o.re (o.vs.set j (.int .u8 (x:Int))))) a2 c2 a3 c3 Q3∧But (fun k=>k=g) w (w.setCell ⟨g,j,none⟩ (.int .u8 (x:Int))):=by
 have hb:But (fun k=>k=g) w (w.setCell ⟨g,j,none⟩ (.int .u8 (x:Int))):=But.setCell (S:=fun k=>k=g) (But.refl _ _) (p:=⟨g,j,none⟩) rfl _
 have hgB:Two.B a1 Q1 g:=.inr ⟨o,List.mem_of_getElem? hi,⟨_,hg,rfl⟩⟩
 have hgM:g≠M.b:=h.nb g (.inl hgB)
 have hB:=fun j=>B_re (a:=a1) hi (o.vs.set j (.int .u8 (x:Int)))
 have hBr:∀k,Two.B a1 (Q1.set i (o.re (o.vs.set j (.int .u8 (x:Int))))) k↔Two.B a1 Q1 k:=fun k=>B_re hi _ k
 obtain⟨e,he,_,hei,hev,hel⟩:=key_at h.ok hv
 have heo:e=o:=by rw [hi] at he;exact (Option.some.inj he).symm
 subst heo
 refine⟨⟨?_,ws_but h.dr hb (fun k hk e=>h.nd k hk (.inr (.inl (e ▸ hgB)))),?_,?_,?_,?_,h.pk,?_,?_,h.s23,?_,?_,?_,h.lo,?_⟩,hb⟩
 ·have h9:=R.Bx.but hb h.box (fun e=>hgM e.symm)
  have e9:moL M { r with V:=r.V.set i (v.1,v.2.set j x) } a1 c1 a2 c2 a3 c3=moL M r a1 c1 a2 c2 a3 c3:=by unfold moL;simp only [List.length_set]
  rw [e9]
  exact h9
 ·simp only [List.length_set]
  exact Two.setv h.os hi hg j _
 ·rw [List.map_set,List.map_set,h.ok]
  congr 1
  show (e.id,e.vs.set j (.int .u8 (x:Int)),e.len)=(v.1,S.u8s (v.2.set j x),(v.2.set j x).length)
  rw [hei,hev,hel,List.length_set]
  show (v.1,(S.u8s v.2).set j (.int .u8 (x:Int)),v.2.length)=_
  unfold S.u8s
  rw [List.map_set]
 ·exact h.ts.but hb (fun k hk e=>h.s12 k (e ▸ hgB) hk)
 ·exact h.ps.but hb (fun k hk e=>h.s13 k (e ▸ hgB) hk)
 ·exact fun k hk=>h.s12 k ((hBr k).1 hk)
 ·exact fun k hk=>h.s13 k ((hBr k).1 hk)
 ·intro k hk
  rcases hk with hk|hk|hk
  ·exact h.nb k (.inl ((hBr k).1 hk))
  ·exact h.nb k (.inr (.inl hk))
  ·exact h.nb k (.inr (.inr hk))
 ·intro k hk hm
  rcases hm with e|hm|hm|hm
  ·exact h.nd k hk (.inl e)
  ·exact h.nd k hk (.inr (.inl ((hBr k).1 hm)))
  ·exact h.nd k hk (.inr (.inr (.inl hm)))
  ·exact h.nd k hk (.inr (.inr (.inr hm)))
 ·exact fun k hk=>Nat.lt_of_lt_of_le (h.dl k hk) hb.size
 ·simp only [List.length_set];exact h.sm
theorem MxN_re {i:Nat}{o:Ev}(hi:Q1[i]?=some o)(L:List Value)(k:Nat):MxN M a1 (Q1.set i (o.re L)) a2 a3 Q3 k↔MxN M a1 Q1 a2 a3 Q3 k:=by
 unfold MxN
 rw [B_re hi]
end
end Go.Proofs.YtffmodpgddecnaaGreat.V.E
