import Derived.Test.YtffmodpgddecnaaZ36
import Derived.Deep.CutBlock
import Derived.Deep.DeepCutAuto
namespace Go.Proofs.Ytffmodpgddecnaa.V.E
open Go.RowKit Go.Maps
open Go.Proofs.Ytffmodpgddecnaa.H (B64 Cp)
set_option linter.unusedVariables false
set_option linter.unusedSimpArgs false
theorem is_but {w w':World}{S:Nat→Prop}{c:R.Cl}{d g:R.Sl}(h:R.Is w c d g)(hb:But S w w')(hn:∀j,(0<d.n∧Blk d.a j)∨(0<g.n∧Blk g.a j)→¬S j):R.Is w' c d g:=by
 refine⟨⟨h.data.len,h.data.cap_,h.data.none_,fun x hx j u hu=>cell_but hb (h.data.cells x hx j u hu) (by rw [add_block];exact hn _ (.inl ⟨dpos hu h.data.len,x,hx,rfl⟩)),h.data.small⟩,⟨h.gifts.len,h.gifts.cap_,h.gifts.none_,fun x hx j u hu=>cell_but hb (h.gifts.cells x hx j u hu) (by rw [add_block];exact hn _ (.inr ⟨gpos hu h.gifts.len,x,hx,rfl⟩))⟩,h.hi,h.lo⟩
structure K0 (y:World)(hx hy:Hm)(Nx Ny:Nat→Prop)(C:List R.Cl)(D' G':Nat→R.Sl)(ac am al ak:Option Addr)(nl cm cl ck:Nat)(XM:List Cq)(XL XK:List Rq)(s0 s2 s3 s4:Nat):Prop where
 c:Cz y ac nl C D' G'
 cb:∀i c,C[i]?=some c→∀j,(0<(D' i).n∧Blk (D' i).a j)∨(0<(G' i).n∧Blk (G' i).a j)→j<s0
 ca:0<nl→∀j,Blk ac j→j<s0
 m:Cbag y s2 am nl cm XM
 mc:XM.map Prod.fst=C
 ml:∀j,Bag.B kC am XM j→j<s3
 l:Rbag y s3 al nl cl XL
 lr:XL.map Prod.fst=rpl hx.p pl0 C
 ll:∀j,Bag.B kR al XL j→j<s4
 k:Rbag y s4 ak nl ck XK
 kr:XK.map Prod.fst=rpl hx.p pl0 C
 xx:Mw y hx pl0 Nx
 yy:Mw y hy pl0 Ny
 f:Fit hx.p pl0
 p:hx.p=hy.p
 mx:hx.cf.may=true
 my:hy.cf.may=true
 xb:∀j,MdB hx.g hx.bo hx.bl Nx j→s0≤j∧j<s2
 yb:∀j,MdB hy.g hy.bo hy.bl Ny j→s0≤j∧j<s2
 xy:∀j,MdB hx.g hx.bo hx.bl Nx j→¬MdB hy.g hy.bo hy.bl Ny j
 ss:s0≤s2∧s2≤s3∧s3≤s4∧s4≤y.heap.size
def Sxw (XM:List Cq)(XL:List Rq)(s0 s2 i j:Nat):Prop:=(s0≤j∧j<s2)∨∃m,m<i∧((∃x,XM[m]?=some x∧kC.blk x j)∨(∃x,XL[m]?=some x∧kR.blk x j))
structure Kz (y U:World)(hx hy:Hm)(C:List R.Cl)(XM:List Cq)(XL:List Rq)(s0 s2 i bx lx by_ ly:Nat)(Mx My:Nat→Prop):Prop where
 xx:Mw U { hx with bo:=bx,bl:=lx } (stL hx.p pl0 (C.take i)) Mx
 yy:Mw U { hy with bo:=by_,bl:=ly } (stL hx.p pl0 (C.take i)) My
 f:Fit hx.p (stL hx.p pl0 (C.take i))
 t:TreA (stL hx.p pl0 (C.take i))
 xb:∀j,MdB hx.g bx lx Mx j→(s0≤j∧j<s2)∨y.heap.size≤j
 yb:∀j,MdB hy.g by_ ly My j→(s0≤j∧j<s2)∨y.heap.size≤j
 xy:∀j,MdB hx.g bx lx Mx j→¬MdB hy.g by_ ly My j
 b:But (Sxw XM XL s0 s2 i) y U
section
variable {y U w':World}{hx hy:Hm}{Nx Ny:Nat→Prop}{C:List R.Cl}{D' G':Nat→R.Sl}{ac am al ak:Option Addr}{nl cm cl ck:Nat}{XM:List Cq}{XL XK:List Rq}{s0 s2 s3 s4 i bx lx by_ ly:Nat}{Mx My:Nat→Prop}
theorem K0.start (h:K0 y hx hy Nx Ny C D' G' ac am al ak nl cm cl ck XM XL XK s0 s2 s3 s4):Kz y y hx hy C XM XL s0 s2 0 hx.bo hx.bl hy.bo hy.bl Nx Ny :=
 ⟨h.xx,h.yy,h.f,tre_new,fun j hj=>.inl (h.xb j hj),fun j hj=>.inl (h.yb j hj),h.xy,But.refl _ _⟩
theorem Kz.rk (h:K0 y hx hy Nx Ny C D' G' ac am al ak nl cm cl ck XM XL XK s0 s2 s3 s4)(k:Kz y U hx hy C XM XL s0 s2 i bx lx by_ ly Mx My)(hi:i<nl) :
  ∃c b o gm gl gk dz gz la ka nr lc kc,C[i]?=some c∧ac=some ⟨b,o,none⟩∧am=some ⟨gm,0,none⟩∧al=some ⟨gl,0,none⟩∧ak=some ⟨gk,0,none⟩∧XM[i]?=some (c,dz,gz)∧XL[i]?=some ((pDo hx.p (stL hx.p pl0 (C.take i)) c).1,⟨la,nr,lc⟩) ∧
   Rk U { hx with bo:=bx,bl:=lx } { hy with bo:=by_,bl:=ly } Mx My (stL hx.p pl0 (C.take i)) c (pDo hx.p (stL hx.p pl0 (C.take i)) c) b o i gm gl gk (D' i) (G' i) dz gz la ka nr lc kc s2 s3 s4:=by
 have hss:=h.ss
 obtain⟨c,hc⟩:∃c,C[i]?=some c:=⟨_,List.getElem?_eq_getElem (by have:=h.c.len;omega)⟩
 obtain⟨⟨c',dz,gz⟩,hm⟩:∃x,XM[i]?=some x:=⟨_,List.getElem?_eq_getElem (by have:=h.m.len;omega)⟩
 obtain⟨⟨r1,la,nr,lc⟩,hl⟩:∃x,XL[i]?=some x:=⟨_,List.getElem?_eq_getElem (by have:=h.l.len;omega)⟩
 obtain⟨⟨r2,ka,kn,kc⟩,hk⟩:∃x,XK[i]?=some x:=⟨_,List.getElem?_eq_getElem (by have:=h.k.len;omega)⟩
 have ec:c'=c:=by
  have h1:(XM.map Prod.fst)[i]?=some c':=by rw [List.getElem?_map,hm];rfl
  rw [h.mc,hc] at h1
  exact (Option.some.inj h1).symm
 have hat:=rpl_at hx.p pl0 hc
 have e1:r1=(pDo hx.p (stL hx.p pl0 (C.take i)) c).1:=by
  have h1:(XL.map Prod.fst)[i]?=some r1:=by rw [List.getElem?_map,hl];rfl
  rw [h.lr,hat] at h1
  exact (Option.some.inj h1).symm
 have e2:r2=(pDo hx.p (stL hx.p pl0 (C.take i)) c).1:=by
  have h1:(XK.map Prod.fst)[i]?=some r2:=by rw [List.getElem?_map,hk];rfl
  rw [h.kr,hat] at h1
  exact (Option.some.inj h1).symm
 subst ec
 rw [e1] at hl
 rw [e2] at hk
 obtain⟨b,o,eb,hcr⟩:=h.c.at_ (by omega)
 obtain⟨gm,em,hmr⟩:∃g,am=some ⟨g,0,none⟩∧y.rangeAt g (i*13) (R.cC c' dz gz):=by
  obtain⟨g,e,hcc⟩:=Ow.at_ h.m.row (by omega)
  refine⟨g,e,fun j v hv=>hcc _ _ ?_⟩
  have hj:j<13:=by have:=(List.getElem?_eq_some_iff.1 hv).1;simpa [R.cC] using this
  rw [flat_at kC.cel 13 kC_ok.len XM i _ hm j hj]
  exact hv
 obtain⟨gl,el,hlr⟩:=Bag.rep h.l (by omega)
 obtain⟨gk,ek,hkr⟩:=Bag.rep h.k (by omega)
 have hlr:=hlr i _ hl
 have hkr:=hkr i _ hk
 have hmm:=List.mem_of_getElem? hm
 have hlm:=List.mem_of_getElem? hl
 have hkm:=List.mem_of_getElem? hk
 have hco:CO y s2 c' dz gz:=h.m.each _ hmm
 have hlo:Own y s3 5 la nr lc (S.u8s (pDo hx.p (stL hx.p pl0 (C.take i)) c').1.data):=h.l.each _ hlm
 have hko:Own y s4 5 ka kn kc (S.u8s (pDo hx.p (stL hx.p pl0 (C.take i)) c').1.data):=h.k.each _ hkm
 have enr:kn=nr:=by have h1:=hlo.len;have h2:=hko.len;omega
 subst enr
 -- what the rounds before have not touched
 have nS:∀j,(j<s0∨s4≤j)→j<y.heap.size→¬Sxw XM XL s0 s2 i j:=fun j hj hl2 e=>by
  rcases e with e|⟨m,hm2,⟨x,hx2,e⟩|⟨x,hx2,e⟩⟩
  ·omega
  ·have h1:=h.m.rng kC_ok j (.inr ⟨x,List.mem_of_getElem? hx2,e⟩)
   have h2:=h.ml j (.inr ⟨x,List.mem_of_getElem? hx2,e⟩)
   omega
  ·have h1:=h.l.rng kR_ok j (.inr ⟨x,List.mem_of_getElem? hx2,e⟩)
   have h2:=h.ll j (.inr ⟨x,List.mem_of_getElem? hx2,e⟩)
   omega
 have nM:∀j,(Blk am j∨kC.blk (c',dz,gz) j)→¬Sxw XM XL s0 s2 i j:=fun j hj e=>by
  have hj2:s2≤j∧j<s3:=by
   rcases hj with hj|hj
   ·exact⟨(h.m.rng kC_ok j (.inl hj)).1,h.ml j (.inl hj)⟩
   ·exact⟨(h.m.rng kC_ok j (.inr ⟨_,hmm,hj⟩)).1,h.ml j (.inr ⟨_,hmm,hj⟩)⟩
  rcases e with e|⟨m,hm2,⟨x,hx2,e⟩|⟨x,hx2,e⟩⟩
  ·omega
  ·rcases hj with hj|hj
   ·exact h.m.top x (List.mem_of_getElem? hx2) j e hj
   ·have hpw:=List.pairwise_iff_getElem.1 h.m.ap m i (List.getElem?_eq_some_iff.1 hx2).1 (List.getElem?_eq_some_iff.1 hm).1 hm2
    rw [(List.getElem?_eq_some_iff.1 hx2).2,(List.getElem?_eq_some_iff.1 hm).2] at hpw
    exact hpw j e hj
  ·have h1:=h.l.rng kR_ok j (.inr ⟨x,List.mem_of_getElem? hx2,e⟩)
   omega
 have nL:∀j,(Blk al j∨Blk la j)→¬Sxw XM XL s0 s2 i j:=fun j hj e=>by
  have hj2:s3≤j∧j<s4:=by
   rcases hj with hj|hj
   ·exact⟨(h.l.rng kR_ok j (.inl hj)).1,h.ll j (.inl hj)⟩
   ·exact⟨(h.l.rng kR_ok j (.inr ⟨_,hlm,hj⟩)).1,h.ll j (.inr ⟨_,hlm,hj⟩)⟩
  rcases e with e|⟨m,hm2,⟨x,hx2,e⟩|⟨x,hx2,e⟩⟩
  ·omega
  ·have h2:=h.ml j (.inr ⟨x,List.mem_of_getElem? hx2,e⟩)
   omega
  ·rcases hj with hj|hj
   ·exact h.l.top x (List.mem_of_getElem? hx2) j e hj
   ·have hpw:=List.pairwise_iff_getElem.1 h.l.ap m i (List.getElem?_eq_some_iff.1 hx2).1 (List.getElem?_eq_some_iff.1 hl).1 hm2
    rw [(List.getElem?_eq_some_iff.1 hx2).2,(List.getElem?_eq_some_iff.1 hl).2] at hpw
    exact hpw j e hj
 have hbs:b<s0:=h.ca (by omega) b (by rw [eb];exact⟨_,rfl,rfl⟩)
 have hZ:∀j,(Blk dz.a j∨Blk gz.a j∨Blk la j)→s2≤j∧j<s4:=fun j hj=>by
  have hz:∀j,(Blk dz.a j∨Blk gz.a j)→s2≤j∧j<s3:=fun j hj=>⟨(h.m.rng kC_ok j (.inr ⟨_,hmm,hj⟩)).1,h.ml j (.inr ⟨_,hmm,hj⟩)⟩
  rcases hj with e|e|e
  ·have:=hz j (.inl e);omega
  ·have:=hz j (.inr e);omega
  ·have:=(h.l.rng kR_ok j (.inr ⟨_,hlm,e⟩)).1
   have:=h.ll j (.inr ⟨_,hlm,e⟩)
   omega
 have hzz:∀j,(Blk dz.a j∨Blk gz.a j)→j<s3:=fun j hj=>h.ml j (.inr ⟨_,hmm,hj⟩)
 have hlz:∀j,(Blk al j∨Blk la j)→s3≤j:=fun j hj=>by
  rcases hj with e|e
  ·exact (h.l.rng kR_ok j (.inl e)).1
  ·exact (h.l.rng kR_ok j (.inr ⟨_,hlm,e⟩)).1
 have hkz:∀j,(Blk ak j∨Blk ka j)→s4≤j∧j<y.heap.size:=fun j hj=>by
  rcases hj with e|e
  ·exact h.k.rng kR_ok j (.inl e)
  ·exact h.k.rng kR_ok j (.inr ⟨_,hkm,e⟩)
 have hgx:=h.xb hx.g (.inr (.inr (.inr rfl)))
 have hgy:=h.yb hy.g (.inr (.inr (.inr rfl)))
 have bgm:Blk am gm:=by rw [em];exact⟨_,rfl,rfl⟩
 have bgl:Blk al gl:=by rw [el];exact⟨_,rfl,rfl⟩
 have bgk:Blk ak gk:=by rw [ek];exact⟨_,rfl,rfl⟩
 have hgm:=h.m.rng kC_ok gm (.inl bgm)
 have hgm3:=h.ml gm (.inl bgm)
 refine⟨c',b,o,gm,gl,gk,dz,gz,la,ka,kn,lc,kc,hc,eb,em,el,ek,hm,hl,?_⟩
 have hcb:=h.cb i c' hc
 exact {
  c:=fun j v hv=>cell_but k.b (hcr i c' hc j v hv) (nS b (.inl hbs) (by omega))
  is:=is_but (h.c.is i c' hc).1 k.b (fun j hj=>nS j (.inl (hcb j hj)) (by have:=hcb j hj;omega))
  sd:=(h.c.is i c' hc).2.1
  sg:=(h.c.is i c' hc).2.2
  m:=fun j v hv=>cell_but k.b (hmr j v hv) (nM gm (.inl bgm))
  co:=hco.but k.b (fun j hj=>nM j (.inr hj))
  l:=fun j v hv=>cell_but k.b (hlr j v hv) (nL gl (.inl bgl))
  lo:=Own.but k.b hlo (fun j hj=>nL j (.inr hj))
  k:=fun j v hv=>cell_but k.b (hkr j v hv) (nS gk (.inr (hkz gk (.inl bgk)).1) (hkz gk (.inl bgk)).2)
  ko:=Own.but k.b hko (fun j hj=>nS j (.inr (hkz j (.inr hj)).1) (hkz j (.inr hj)).2)
  x:=k.xx
  y:=k.yy
  fx:=k.f
  fy:=by show Fit hy.p _;rw [←h.p];exact k.f
  mx:=h.mx
  my:=h.my
  rx:=rfl
  ry:=by show _=pDo hy.p _ _;rw [←h.p]
  xz:=fun j hj e=>by have h1:=hZ j e;rcases k.xb j hj with h2|h2<;>omega
  yz:=fun j hj e=>by have h1:=hZ j e;rcases k.yb j hj with h2|h2<;>omega
  xy:=k.xy
  ot:=fun j hj=>by
   have key:(j<s0∨s4≤j)→j<y.heap.size→¬(Blk dz.a j∨Blk gz.a j∨Blk la j)∧j≠hx.g∧j≠hy.g:=fun h1 h2=>⟨fun e=>by have:=hZ j e;omega,by omega,by omega⟩
   rcases hj with e|e|e|e|e|e|e
   ·exact key (.inl (by omega)) (by omega)
   ·rw [e]
    refine⟨fun h1=>?_,by show gm≠hx.g;omega,by show gm≠hy.g;omega⟩
    rcases h1 with h1|h1|h1
    ·exact h.m.top _ hmm gm (.inl h1) bgm
    ·exact h.m.top _ hmm gm (.inr h1) bgm
    ·have:=hlz gm (.inr h1);omega
   ·rw [e]
    have h5:=hlz gl (.inl bgl)
    refine⟨fun h1=>?_,by show gl≠hx.g;omega,by show gl≠hy.g;omega⟩
    rcases h1 with h1|h1|h1
    ·have:=hzz gl (.inl h1);omega
    ·have:=hzz gl (.inr h1);omega
    ·exact h.l.top _ hlm gl h1 bgl
   ·rw [e]
    have h5:=hkz gk (.inl bgk)
    exact⟨fun h1=>by have:=hZ gk h1;omega,by show gk≠hx.g;omega,by show gk≠hy.g;omega⟩
   ·have:=hcb j (.inl e);exact key (.inl this) (by omega)
   ·have:=hcb j (.inr e);exact key (.inl this) (by omega)
   ·have:=hkz j (.inr e);exact key (.inr this.1) this.2
  lz:=fun j hj e=>by have h1:=hlz j (.inr hj);have h2:=hzz j e;omega
  bz:=⟨Nat.le_trans (by omega) k.b.size,Nat.le_trans (by omega) k.b.size⟩ }
theorem Kz.next (h:K0 y hx hy Nx Ny C D' G' ac am al ak nl cm cl ck XM XL XK s0 s2 s3 s4)(k:Kz y U hx hy C XM XL s0 s2 i bx lx by_ ly Mx My){c:R.Cl}(hc:C[i]?=some c){dz gz:R.Sl}(hm:XM[i]?=some (c,dz,gz)){rr:Rep}{la:Option Addr}{nr lc:Nat}(hl:XL[i]?=some (rr,⟨la,nr,lc⟩)){dd gg:R.Sl}(his:R.Is U c dd gg)
  {bx2 lx2 by2 ly2:Nat} {Mx2 My2:Nat→Prop} (hr:Rt U { hx with bo:=bx,bl:=lx } { hy with bo:=by_,bl:=ly } Mx My (pDo hx.p (stL hx.p pl0 (C.take i)) c) (fun j=>Blk dz.a j∨Blk gz.a j∨Blk la j) w' bx2 lx2 by2 ly2 Mx2 My2) :
  Kz y w' hx hy C XM XL s0 s2 (i+1) bx2 lx2 by2 ly2 Mx2 My2:=by
 have hX:C.take (i+1)=C.take i++[c]:=take_snoc hc
 have hst:stL hx.p pl0 (C.take (i+1))=(pDo hx.p (stL hx.p pl0 (C.take i)) c).2:=by rw [hX,(rpl_snoc _ _ _ _).2]
 have hgx:=h.xb hx.g (.inr (.inr (.inr rfl)))
 have hgy:=h.yb hy.g (.inr (.inr (.inr rfl)))
 have hs:=k.b.size
 refine⟨by rw [hst];exact hr.x,by rw [hst];exact hr.y,by rw [hst];exact fit_is k.f his,by rw [hst];exact tre_do k.t k.f.ro c,fun j hj=>?_,fun j hj=>?_,hr.xy,?_⟩
 ·rcases hr.xn j hj with e|e
  ·exact k.xb j e
  ·exact .inr (by omega)
 ·rcases hr.yn j hj with e|e
  ·exact k.yb j e
  ·exact .inr (by omega)
 ·refine (k.b.mono (fun j e=>?_)).comp hr.b (fun j e=>?_)
  ·rcases e with e|⟨m,hm2,e⟩
   ·exact .inl e
   ·exact .inr ⟨m,by omega,e⟩
  ·rcases e with e|e|e|e|e
   ·exact .inl (.inl (by rw [e];exact hgx))
   ·exact .inl (.inl (by rw [e];exact hgy))
   ·exact .inl (.inr ⟨i,by omega,.inl ⟨_,hm,.inl e⟩⟩)
   ·exact .inl (.inr ⟨i,by omega,.inl ⟨_,hm,.inr e⟩⟩)
   ·exact .inl (.inr ⟨i,by omega,.inr ⟨_,hl,e⟩⟩)
def KzR (y:World)(hx hy:Hm)(C:List R.Cl)(XM:List Cq)(XL:List Rq)(s0 s2 nl:Nat)(v:Value)(U:World):Prop:=∃i bx lx by_ ly Mx My,v=.int .i64 ((i:Nat):Int)∧i≤nl∧Kz y U hx hy C XM XL s0 s2 i bx lx by_ ly Mx My
set_option maxRecDepth 1000000 in
set_option maxHeartbeats 8000000 in
theorem kp_loop {u0 u1 u3 u4 u5 u6 u7 u9 u11 u12 u17 u18 u19 u20 u21 u22 u23 u24 u25 u26 u27 u28 u29 u30 u31 u32 u33 u34 u35 u36 u37 u38 u39 u40 u41 u42 u43 u44 u45 u46 u47 u48 u49 u50 u51 u52 u53 u54 u55 u56 u57 u58 u59 u60 u61 u62 u63 u64 u65 u66 u67 u68 u69 u70 u71 u72 u73 u74 u75 u76 u77 u78 u79 u80 u81 u82 u83 u84 u85 u86 u87 u88 u89 u90 u91 u92 u93 u94 u95 u96 u97 u98 u99 u100 u101 u102 u103 u104 u105 u106 u107 u108 u109 u110 u111 u112 u113 u114 u115 u116 u117 u118 u119 u120 u121 u122 u123 u124 u125 u126 u127 u128 u129 u130 u131 u132 u133 u134 u135 u136 u137 u138 u139 u140 u141 u142 u143 u144 u145 u146 u147 u148 u149 u150 u151 u152 u153 u154 u155 u156 u157 u158 u159 u160 u161 u162 u163 u164 u165 u166 u167 u168 u169 u170 u171 u172 u173 u174 u175 u176 u177 u178 u179 u180 u181 u182 u183 u184 u185 u186 u187 u188 u189 u190 u191 u192 u193 u194 u195 u196 u197 u198 u199 u200 u201 u202 u203 u204 u205 u206 u207 u208 u209 u210 u211 u212 u213 u214 u215 u216 u217 u218 u219 u220 u221 u222 u223 u224 u225 u226 u227 u228 u229 u230 u231 u232 u233 u234 u235 u236 u237 u238 u239 u240 u241 u242 u243 u244 u245 u246 u247 u248 u249 u250 u251 u252 u253 u254 u255 u256 u257 u258 u259 u260 u261 u262 u263 u264 u265 u266 u267 u268 u269 u270 u271 u272 u273 u274 u275 u276 u277 u278 u279 u280 u281 u282 u283 u284 u285 u286 u287 u288 u289 u290 u291 u292 u293 u294 u295 u296 u297 u298 u299 u300 u301 u302 u303 u304 u305 u306 u307 u308 u309 u310 u311 u312 u313 u314 u315 u316 u317 u318 u319 u320 u321 u322 u323 u324 u325 u326 u327 u328 u329 u330 u331 u332 u333 u334 u335 u336 u337 u338 u339 u340 u341 u342 u343 u344 u345 u346 u347 u348 u349 u350 u351 u352 u353 u354 u355 u356 u357 u358 u359 u360 u361 u362 u363 u364 u365 u366 u367 u368 u369 u370 u371 u372 u373 u374 u375 u376 u377 u378 u379 u380 u381 u382 u383 u384 u385 u386 u387 u388 u389 u390 u391 u392 u393 u394 u395 u396 u397 u398 u399 u400 u401 u402 u403 u404 u405 u406 u407 u408 u409 u410 u411 u412 u413 u414 u415 u416 u417 u418 u419 u420 u421 u422 u423 u424 u425 u426 u427:Value}{Qx:Exit→Act→World→Prop}{hx hy:Hm}{Nx Ny:Nat→Prop}{C:List R.Cl}{D' G':Nat→R.Sl}{ac am al ak:Option Addr}{nl cap cm cl ck:Nat}{XM:List Cq}{XL XK:List Rq}{s0 s2 s3 s4:Nat}(h0:K0 y hx hy Nx Ny C D' G' ac am al ak nl cm cl ck XM XL XK s0 s2 s3 s4)(hn:nl≤140737488355328)(hP:∀c a d v w,Qx (.panic c) (Act.put a d v) w→Qx (.panic c) a w)
  (hK:∀(bx lx by_ ly:Nat) (Mx My:Nat→Prop) (w':World),Kz y w' hx hy C XM XL s0 s2 nl bx lx by_ ly Mx My→∀(v6 v16 v17 v18 v19 v20 v21 v22 v23 v24 v25 v141 v142 v143 v144 v145 v146 v147 v148 v149 v150 v151 v152 v153 v154 v155 v156 v157 v158 v159 v160 v161 v162 v163 v164 v165 v166 v167 v168 v169 v170 v171 v172 v173 v174 v175 v176 v177 v178 v179 v180 v181 v182 v183 v184 v185 v186 v187 v188 v189 v190 v191 v192 v193 v194 v195 v196 v197 v198 v199 v200 v201 v202 v203 v204 v205 v206 v207 v208 v209 v210 v211 v212 v213 v214 v215 v216 v217 v218 v219 v220 v221 v222 v223 v224 v225 v226 v227 v228 v229 v230 v231 v232 v233 v234 v235 v236 v237 v238 v239 v240 v241 v242 v243 v244 v245 v246 v247 v248 v249 v250 v251 v252 v253 v254 v255 v256 v257 v258 v259 v260 v261 v262 v263 v264 v265 v266 v267 v268 v269 v270 v271 v272 v273 v274 v275 v276 v277 v278 v279 v280 v281 v282 v283 v284 v285 v286 v287 v288 v289 v290 v291 v292 v293 v294 v295 v296 v297 v298 v299 v300 v301 v302 v303 v304 v305 v306:Value),Qx .normal ⟨List.toArray (u0::u1::.slice ac nl cap::u3::u4::u5::v6::u7::.pointer (some ⟨hx.g,0,none⟩)::u9::.pointer (some ⟨hy.g,0,none⟩)::u11::u12::.slice am nl cm::.slice al nl cl::.slice ak nl ck::v16::v17::v18::v19::v20::v21::v22::v23::v24::v25::u26::u27::u28::u29::u30::u31::u32::u33::u34::u35::u36::u37::u38::u39::u40::u41::u42::u43::u44::u45::u46::u47::u48::u49::u50::u51::u52::u53::u54::u55::u56::u57::u58::u59::u60::u61::u62::u63::u64::u65::u66::u67::u68::u69::u70::u71::u72::u73::u74::u75::u76::u77::u78::u79::u80::u81::u82::u83::u84::u85::u86::u87::u88::u89::u90::u91::u92::u93::u94::u95::u96::u97::u98::u99::u100::u101::u102::u103::u104::u105::u106::u107::u108::u109::u110::u111::u112::u113::u114::u115::u116::u117::u118::u119::u120::u121::u122::u123::u124::u125::u126::u127::u128::u129::u130::u131::u132::u133::u134::u135::u136::u137::u138::u139::u140::v141::v142::v143::v144::v145::v146::v147::v148::v149::v150::v151::v152::v153::v154::v155::v156::v157::v158::v159::v160::v161::v162::v163::v164::v165::v166::v167::v168::v169::v170::v171::v172::v173::v174::v175::v176::v177::v178::v179::v180::v181::v182::v183::v184::v185::v186::v187::v188::v189::v190::v191::v192::v193::v194::v195::v196::v197::v198::v199::v200::v201::v202::v203::v204::v205::v206::v207::v208::v209::v210::v211::v212::v213::v214::v215::v216::v217::v218::v219::v220::v221::v222::v223::v224::v225::v226::v227::v228::v229::v230::v231::v232::v233::v234::v235::v236::v237::v238::v239::v240::v241::v242::v243::v244::v245::v246::v247::v248::v249::v250::v251::v252::v253::v254::v255::v256::v257::v258::v259::v260::v261::v262::v263::v264::v265::v266::v267::v268::v269::v270::v271::v272::v273::v274::v275::v276::v277::v278::v279::v280::v281::v282::v283::v284::v285::v286::v287::v288::v289::v290::v291::v292::v293::v294::v295::v296::v297::v298::v299::v300::v301::v302::v303::v304::v305::v306::u307::u308::u309::u310::u311::u312::u313::u314::u315::u316::u317::u318::u319::u320::u321::u322::u323::u324::u325::u326::u327::u328::u329::u330::u331::u332::u333::u334::u335::u336::u337::u338::u339::u340::u341::u342::u343::u344::u345::u346::u347::u348::u349::u350::u351::u352::u353::u354::u355::u356::u357::u358::u359::u360::u361::u362::u363::u364::u365::u366::u367::u368::u369::u370::u371::u372::u373::u374::u375::u376::u377::u378::u379::u380::u381::u382::u383::u384::u385::u386::u387::u388::u389::u390::u391::u392::u393::u394::u395::u396::u397::u398::u399::u400::u401::u402::u403::u404::u405::u406::u407::u408::u409::u410::u411::u412::u413::u414::u415::u416::u417::u418::u419::u420::u421::u422::u423::u424::u425::u426::u427::[]),[]⟩ w') :
  Code.wp Try.prog (pR (pL (rs 12 (Try.f4.body.getD .skip)))) Qx ⟨List.toArray (u0::u1::.slice ac nl cap::u3::u4::u5::u6::u7::.pointer (some ⟨hx.g,0,none⟩)::u9::.pointer (some ⟨hy.g,0,none⟩)::u11::u12::.slice am nl cm::.slice al nl cl::.slice ak nl ck::.int .i64 0::u17::u18::u19::u20::u21::u22::u23::u24::u25::u26::u27::u28::u29::u30::u31::u32::u33::u34::u35::u36::u37::u38::u39::u40::u41::u42::u43::u44::u45::u46::u47::u48::u49::u50::u51::u52::u53::u54::u55::u56::u57::u58::u59::u60::u61::u62::u63::u64::u65::u66::u67::u68::u69::u70::u71::u72::u73::u74::u75::u76::u77::u78::u79::u80::u81::u82::u83::u84::u85::u86::u87::u88::u89::u90::u91::u92::u93::u94::u95::u96::u97::u98::u99::u100::u101::u102::u103::u104::u105::u106::u107::u108::u109::u110::u111::u112::u113::u114::u115::u116::u117::u118::u119::u120::u121::u122::u123::u124::u125::u126::u127::u128::u129::u130::u131::u132::u133::u134::u135::u136::u137::u138::u139::u140::u141::u142::u143::u144::u145::u146::u147::u148::u149::u150::u151::u152::u153::u154::u155::u156::u157::u158::u159::u160::u161::u162::u163::u164::u165::u166::u167::u168::u169::u170::u171::u172::u173::u174::u175::u176::u177::u178::u179::u180::u181::u182::u183::u184::u185::u186::u187::u188::u189::u190::u191::u192::u193::u194::u195::u196::u197::u198::u199::u200::u201::u202::u203::u204::u205::u206::u207::u208::u209::u210::u211::u212::u213::u214::u215::u216::u217::u218::u219::u220::u221::u222::u223::u224::u225::u226::u227::u228::u229::u230::u231::u232::u233::u234::u235::u236::u237::u238::u239::u240::u241::u242::u243::u244::u245::u246::u247::u248::u249::u250::u251::u252::u253::u254::u255::u256::u257::u258::u259::u260::u261::u262::u263::u264::u265::u266::u267::u268::u269::u270::u271::u272::u273::u274::u275::u276::u277::u278::u279::u280::u281::u282::u283::u284::u285::u286::u287::u288::u289::u290::u291::u292::u293::u294::u295::u296::u297::u298::u299::u300::u301::u302::u303::u304::u305::u306::u307::u308::u309::u310::u311::u312::u313::u314::u315::u316::u317::u318::u319::u320::u321::u322::u323::u324::u325::u326::u327::u328::u329::u330::u331::u332::u333::u334::u335::u336::u337::u338::u339::u340::u341::u342::u343::u344::u345::u346::u347::u348::u349::u350::u351::u352::u353::u354::u355::u356::u357::u358::u359::u360::u361::u362::u363::u364::u365::u366::u367::u368::u369::u370::u371::u372::u373::u374::u375::u376::u377::u378::u379::u380::u381::u382::u383::u384::u385::u386::u387::u388::u389::u390::u391::u392::u393::u394::u395::u396::u397::u398::u399::u400::u401::u402::u403::u404::u405::u406::u407::u408::u409::u410::u411::u412::u413::u414::u415::u416::u417::u418::u419::u420::u421::u422::u423::u424::u425::u426::u427::[]),[]⟩ y:=by
 conv=>arg 2;whnf
 have H0:=hid h0
 have HPx:=hid hP
 have HK:=hid hK
 clear h0 hP hK
 go_upto_region 18 with fail
 go_loopw [16] (KzR y hx hy C XM XL s0 s2 nl) (fun v _=>nl - S.ivN v)
 case atStart=>exact⟨0,_,_,_,_,_,_,rfl,Nat.zero_le _,H0.out.start⟩
 case round =>
  obtain⟨i,bx,lx,by_,ly,Mx,My,rfl,hi,hk⟩:=hrel
  have HKz:=hid hk
  have HIn:=hid hi
  clear hk hi
  by_cases hlt:i<nl
  ·have hd:decide ((i:Int)<(nl:Int))=true:=decide_eq_true (by omega)
   obtain⟨c,b,o,gm,gl,gk,dz,gz,la,ka,nr,lc,kc,hc,rfl,rfl,rfl,rfl,hm,hl,hrk⟩:=HKz.out.rk H0.out hlt
   have HRk:=hid hrk
   have HC:=hid (And.intro hc (And.intro hm hl))
   clear hrk hc hm hl
   go_upto_block 3 with fail
   go_cut [6,17,18,19,20,21,22,23,24,25] from 147 to 306 (fun _ _ _ _ _ _ _ _ _ _ U=>KzR y hx hy C XM XL s0 s2 nl (.int .i64 ((i+1:Nat):Int)) U)
   case first =>
    refine wp_block ?_
    refine kp_round (hx:={ hx with bo:=bx,bl:=lx }) (hy:={ hy with bo:=by_,bl:=ly }) HRk.out hlt (fun c a d v w h=>by first|exact HPx.out _ _ _ _ _ h|(cases d<;>exact h)) ?_
    intro bx2 lx2 by2 ly2 Mx2 My2 w9 hrt
    intros
    go_wp2
    go_meet
    exact⟨i+1,_,_,_,_,_,_,rfl,hlt,HKz.out.next H0.out HC.out.1 HC.out.2.1 HC.out.2.2 HRk.out.is hrt⟩
   case rest =>
   rename World=>U9
   have HF:=hid hcut
   clear hcut
   go_wp2
   exact⟨HF.out,by simp [S.ivN];omega⟩
  ·obtain rfl:i=nl:=by have:=HIn.out;omega
   have hd:decide ((i:Int)<(i:Int))=false:=by simp
   go_wp2
   exact HK.out _ _ _ _ _ _ _ HKz.out ..
end
end Go.Proofs.Ytffmodpgddecnaa.V.E
