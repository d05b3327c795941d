import Derived.Test.YtmhinfbkmjdgfaaGreatDoorZ16
set_option linter.unusedVariables false
set_option linter.unusedSimpArgs false
set_option maxRecDepth 100000
set_option maxHeartbeats 4000000
namespace Go.Proofs.YtmhinfbkmjdgfaaGreatDoor.B
open Go.RowKit
variable {P:Nat->Prop}
def gK (P:Nat->Prop)(w:World):Option Addr->List Lk->Prop
 | p,[]=>p=none
 | p,x::ls=>∃k ah,p=some ⟨k,0,none⟩/\P k/\kq w k x.s x.kd x.b x.t x.c ah/\gK P w ah ls
theorem gK.later {w w':World}(hb:Below w.heap.size w w'):∀{ls:List Lk} {p:Option Addr},gK P w p ls->gK P w' p ls
 | [],p,h=>h
 | x::ls,p,⟨k,ah,e,hp,ht,hr⟩=>⟨k,ah,e,hp,ht.but (S:=λ_=>False) (aj.of hb) (λh=>h),hr.later hb⟩
def DV (P:Nat->Prop)(w:World)(ls:List Lk)(p o:Value)(U:World):Prop :=
 ∃(i:Nat) (p':Option Addr) (a:Option Addr) (c:Nat),p=.pointer p'/\o=.slice a i c/\i<=ls.length/\gK P U p' (ls.drop i)/\Ow U w.heap.size 72 7 a i c (bO (ls.take i))/\Below w.heap.size w U
def Ih:Value->Nat
 | .slice _ n _=>n
 | _=>0
theorem wG (p:Option Addr)(ls:List Lk)(w:World)(h:gK P w p ls)(hn:ls.length<100000) :
  Calls Tryz.prog 91 #[.pointer p] w λe w'=>∃a' c',e=.returned (.slice a' ls.length c')/\Ow w' w.heap.size 72 7 a' ls.length c' (bO ls.reverse)/\Below w.heap.size w w':=by
 have HT:=ae h
 clear h;go_enter Tryz.func91,Tryz.ntmps91
 go_wp2;go_loopw [0,3] (DV P w ls) (λ_ o _=>ls.length - Ih o)
 case atStart=>exact⟨0,p,none,0,rfl,rfl,Nat.zero_le _,HT.out,Ow.nil _ _ _ _,Below.refl _ _⟩
 case round =>
  obtain⟨i,p',a,c,rfl,rfl,hi,hT,hO,hB⟩:=hrel
  by_cases hlt:i<ls.length
  ·obtain⟨x,hx⟩:∃x,ls[i]?=some x:=⟨_,List.getElem?_eq_getElem hlt⟩
   have hd:ls.drop i=x::ls.drop (i+1):=by rw [List.drop_eq_getElem_cons hlt];congr 1;rw [List.getElem?_eq_getElem hlt] at hx;exact Option.some.inj hx
   rw [hd] at hT;obtain⟨k,ah,rfl,_,ht,hr⟩:=hT
   obtain⟨s,kd,b,t,cp⟩:=x
   have hbx:=ht.bx
   obtain⟨a',c',w1,hap,ho,hb,hnw⟩:=kJ 68 72 _ 7 56 Tryz.underlying68 yI rfl (by omega) (cs:=Gh s kd b t cp) hO rfl (EA _ _ _ _ _) hB.size (by omega) (by omega)
   have hB1:Below w.heap.size w w1:=aj.below hB hb (λj hj=>(hO.dB j hj).1)
   have hk1:¬aI a k:=λhj=>by
    obtain⟨y,hy,e1⟩:=hj
    rcases hO.2 with ⟨h1,h2⟩|⟨g,cp,cur,hv,hg,hh,r⟩
    ·simp only [Value.slice.injEq] at h1
     rw [hy] at h1;exact absurd h1.1 (by simp)
    ·simp only [Value.slice.injEq] at hv
     rw [hy] at hv;have e2:=Option.some.inj hv.1
     rw [e2] at e1;simp only at e1;subst e1;have h':wr.heap[g]?=_:=ht
     rw [hh] at h';simp at h'
   have hall:∀{q:List Lk} {z:Option Addr},gK P wr z q->gK P w1 z q:=by
    intro q;induction q with
    | nil=>intro z h;exact h
    | cons y q ih =>
     intro z ⟨k2,ah2,e,hp2,ht2,hr2⟩
     refine⟨k2,ah2,e,hp2,ht2.but hb (λhj=>?_),ih hr2⟩
     obtain⟨y,hy,e1⟩:=hj
     rcases hO.2 with ⟨h1,h2⟩|⟨g,cp,cur,hv,hg,hh,r⟩
     ·simp only [Value.slice.injEq] at h1
      rw [hy] at h1;exact absurd h1.1 (by simp)
     ·simp only [Value.slice.injEq] at hv
      rw [hy] at hv;have e2:=Option.some.inj hv.1
      rw [e2] at e1;simp only at e1;subst e1;have h':wr.heap[g]?=_:=ht2
      rw [hh] at h';simp at h'
   have HR:Hid ((Builtin.append_ #[68,68] 68 #[.slice a i c,.slice (some ⟨wr.heap.size,0,none⟩) 1 1]).run Tryz.prog (wr.alloc (Obj.cells #[ab s,ab kd,ab b,ab t,ab cp.o,ai (cp.h:Int),ai (cp.l:Int)] 72))=.ok (.slice a' (i+1) c') w1):=hap
   have HO:Hid (Ow w1 w.heap.size 72 7 a' (i+1) c' (bO (ls.take (i+1)))):=by
    have e:ls.take (i+1)=ls.take i++[⟨s,kd,b,t,cp⟩]:=by rw [List.take_add_one,hx];rfl
    unfold Hid;rw [e,qW];have e2:bO [⟨s,kd,b,t,cp⟩]=Gh s kd b t cp:=by simp [bO]
    rw [e2];exact ho
   have HB:=ae hB1
   have VO:=ae (hall hr)
   have HX:=ae (hbx.but hb hk1)
   have x0:=hbx.cell 0 rfl
   have x1:=hbx.cell 1 rfl
   have x2:=hbx.cell 2 rfl
   have x3:=hbx.cell 3 rfl
   have x4:=hbx.cell 4 rfl
   have x5:=hbx.cell 5 rfl
   have x6:=hbx.cell 6 rfl
   clear hr ho hb hnw hB1 hB hO hk1 hall ht hbx hap hd hx HT;go_wp2_with (first|(at_builtin;refine aw rfl _ _ 68 rfl _ _ rfl rfl _ w1 HR.out ?_;(have x7:=HX.out.cell 7 rfl)))
   exact⟨⟨i+1,ah,a',c',rfl,rfl,hlt,VO.out,HO.out,HB.out⟩,by simp [Ih];omega⟩
  ·obtain rfl:i=ls.length:=by omega
   rw [List.drop_length] at hT;have hT':p'=none:=hT
   subst hT';rw [List.take_length] at hO;have VB:=ae (uq hO (by omega))
   have HO:=ae hO
   have HB:=ae hB
   clear hO hB hT HT;go_wp2_with (first|(go_at_call 172;refine VB.out.mono ?_;rintro e w2 ⟨rfl,ho2,hb2⟩;have O0:=ae ho2;have OH:=ae hb2;clear ho2 hb2))
   go_ret;exact⟨a,c,rfl,O0.out,aj.below HB.out OH.out (λj hj=>(HO.out.dB j hj).1)⟩
theorem Dc (m:Bm)(p:Int)(c:Cp)(r:Option Value)(a:Option Addr)(ls:List Lk)(w:World)(h:Bw w m)(hc:c.eY)(hF:dm c=true)(hp:bQ p)(hg:Gt m.T p (dk (bP c)) r)(hr:r.getD (.pointer none)=.pointer a)(ht:gK P w a ls)(hn:ls.length<100000) :
  Calls Tryz.prog 32 #[aq m.g,ab p,dw c] w λe w'=>∃a' c',e=.returned (.tuple #[.slice a' ls.length c',.bool r.isSome])/\Ow w' w.heap.size 72 7 a' ls.length c' (bO ls.reverse)/\Below w.heap.size w w':=by
 obtain⟨W,hW⟩:∃W,W=w.alloc (Obj.cells #[ab c.o,ai (c.h:Int),ai (c.l:Int)] 37):=⟨_,rfl⟩
 have hB:Below w.heap.size w W:=by rw [hW];exact ag _ _
 have OK:Hid (Bx W w.heap.size [ab c.o,ai (c.h:Int),ai (c.l:Int)]):=by rw [hW];exact Bx.new w [ab c.o,ai (c.h:Int),ai (c.l:Int)] _
 have c4:=OK.out.cell 0 rfl
 have c5:=OK.out.cell 1 rfl
 have c6:=OK.out.cell 2 rfl
 have HT:=ae (dK m p c _ W (h.later hB) hc hF hp hg)
 rw [hr] at HT;generalize r.isSome=rb at HT ⊢
 have HC:=ae (λ(U:World) (hU:Below w.heap.size w U)=>wG a ls U (ht.later hU) hn)
 have HB:=ae hB
 have HW:=ae hW
 clear h hB hW hg hF hc ht hr;go_enter Tryz.func32,Tryz.ntmps32
 go_upto_region 1 with fail
 rw [<-HW.out];go_wp2_with (first|(go_at_call 90;refine HT.out.mono ?_;rintro e w2 ⟨rfl,hb2⟩;have OH:=ae (aa HB.out hb2);clear hb2)|(go_at_call 91;refine (HC.out _ OH.out).mono ?_;rintro e w3 ⟨a',c',rfl,ho,hb3⟩;have HO:=ae ho;have OJ:=ae (aa OH.out hb3);clear ho hb3))
 exact bodyPost_ret (v:=.tuple #[.slice a' ls.length c',.bool rb]) (by simp [results,Tryz.results32,go_sem]) rfl ⟨a',c',rfl,HO.out.mono OH.out.size,OJ.out⟩
end Go.Proofs.YtmhinfbkmjdgfaaGreatDoor.B
namespace Go.Proofs.YtmhinfbkmjdgfaaGreatDoor.B
open Go.RowKit
variable {g:Im}{p:Int}{E:List (Value×Value)}{G:List Im}{b:Nat}{e t ti tk tm:TypeId}{k v:Value}{w w':World}
theorem g6 (m:Bm)(c:Cp)(t:Tn)(ok:Bool)(w:World)(h:Bw w m)(hc:c.eY)(hr:H6 m.L c.o c.h c.l t ok) :
  Calls Tryz.prog 86 #[aq m.g,dw c] w λe w'=>e=.returned (.tuple #[ab t.r,.bool ok])/\Below w.heap.size w w':=by
 obtain⟨o,ch,cl⟩:=c
 obtain⟨W,hW⟩:∃W,W=w.alloc (Obj.cells #[ab o,ai (ch:Int),ai (cl:Int)] 37):=⟨_,rfl⟩
 have hB:Below w.heap.size w W:=by rw [hW];exact ag _ _
 have hBW:=h.later hB
 have OK:Hid (Bx W w.heap.size [ab o,ai (ch:Int),ai (cl:Int)]):=by rw [hW];exact Bx.new w [ab o,ai (ch:Int),ai (cl:Int)] _
 have Pd:Hid (∀U,Below W.heap.size W U->Calls Tryz.prog 168 #[.map (some m.bl),ab o,jj ch cl] U λe w'=>e=.returned (.tuple #[t.v,.bool ok])/\Below U.heap.size U w'):=λU hU=>xc m.bl m.L o ch cl t ok U (hBW.live.later hU) hc.1 hc.2.1 hc.2.2 hr
 have HS:Hid (∀U,Below W.heap.size W U->(U.rangeAt m.g 0 m.cells/\U.rangeAt w.heap.size 0 [ab o,ai (ch:Int),ai (cl:Int)])):=λU hU=>⟨(hBW.bx.later hU).range,(OK.out.later hU).range⟩
 have HB:=ae hB
 have HW:=ae hW
 have Ps:=ae t.one
 have ht6:t.L.length=6:=rfl
 obtain⟨th,tl,tph,tpl,tr,ts⟩:=t
 clear h hB hW hBW hc hr ht6;simp only at Pd Ps ⊢
 go_enter Tryz.func86,Tryz.ntmps86
 go_upto_region 1 with fail
 rw [<-HW.out];refine wp_region_held_drew (S:=(λU:World=>U.rangeAt m.g 0 m.cells/\U.rangeAt w.heap.size 0 [ab o,ai (ch:Int),ai (cl:Int)])) (by kernel_rfl) (HS.out _ (Below.refl _ _).drew) (λhHeld=>?_)
 refine nm 15 0 15 ?_
 refine tn 0 15 1 14 ?_
 simp only [zz];refine tn 1 15 3 13 ?_
 simp only [zz];refine tn 2 15 7 12 ?_
 simp only [zz];refine wpAnyH_take (i:=3) (oi:=_) (v:=?_) rfl (by kernel_rfl) (by kernel_rfl) (by kernel_rfl) (λ_ _ _ h=>h) (Or.inl ⟨by rfl,?_⟩) (by assumption) ?_
 rotate_left
 ·(intro w hSw;have z1:=aG (j:=1) hSw.1 rfl;go_simp;try with_reducible rfl)
 simp only [zz];refine nm 15 15 11 ?_
 refine tn 4 15 31 10 ?_
 simp only [zz];refine wpAnyH_take (i:=5) (oi:=_) (v:=?_) rfl (by kernel_rfl) (by kernel_rfl) (by kernel_rfl) (λ_ _ _ h=>h) (Or.inl ⟨by rfl,?_⟩) (by assumption) ?_
 rotate_left
 ·(intro w hSw;have z0:=aG (j:=0) hSw.2 rfl;go_simp;try with_reducible rfl)
 simp only [zz];refine nm 15 63 9 ?_
 refine tn 6 15 127 8 ?_
 simp only [zz];refine wpAnyH_take (i:=7) (oi:=_) (v:=?_) rfl (by kernel_rfl) (by kernel_rfl) (by kernel_rfl) (λ_ _ _ h=>h) (Or.inl ⟨by rfl,?_⟩) (by assumption) ?_
 rotate_left
 ·(intro w hSw;have z1:=aG (j:=1) hSw.2 rfl;have z2:=aG (j:=2) hSw.2 rfl;go_simp;try with_reducible rfl)
 simp only [zz];refine nm 15 255 7 ?_
 refine wpAnyH_ready (rs:=[8,12]) (by kernel_rfl) (by simp) ?_
 refine AllReadyH.cons rfl (λK hK=>?_) ?_
 ·go_simp
  go_wp2_with (first|(go_at_call 168;refine (Pd.out _ ((Below.refl _ _).drew)).mono ?_;rintro e w3 ⟨rfl,hb3⟩))
  have OJ:Hid (Below W.heap.size W w3):=aa (Below.refl _ _).drew hb3
  clear hb3;refine zk hK 15 511 6 (HS.out _ OJ.out) λhHeld=>?_
  clear hK K;try simp only [zz]
  refine tn 9 15 1023 5 ?_
  simp only [zz];refine tn 10 15 2047 4 ?_
  simp only [zz];refine tn 11 15 4095 3 ?_
  simp only [zz];refine zr 12 λK hK=>?_
  go_simp
  obtain⟨V,hV⟩:∃V,V=w3.alloc (Obj.cells #[ai 0,ai 0,ai 0,ai 0,ab 0,ab 0] 244):=⟨_,rfl⟩
  rw [<-hV];obtain⟨kz,hkz⟩:∃k,k=w3.heap.size:=⟨_,rfl⟩
  rw [<-hkz];have SP:Hid (Bx V kz D1.L):=by rw [hkz,hV];exact Bx.new w3 D1.L _
  have OT:Hid (Below W.heap.size W V):=by rw [hV];exact aa OJ.out (ag _ _)
  have Tw:Hid (W.heap.size<=kz):=by rw [hkz];exact OJ.out.size
  clear hV hkz;have Pf:=FY (L:=[ai (th:Int),ai (tl:Int),ai (tph:Int),ai (tpl:Int),ab tr,ab ts]) (by have:=SP.out.there;exact this) rfl Ps.out
  have P8:=SP.out.set (M:=[ai (th:Int),ai (tl:Int),ai (tph:Int),ai (tpl:Int),ab tr,ab ts]) rfl
  have P_:Below w.heap.size w (V.setCells kz 0 [ai (th:Int),ai (tl:Int),ai (tph:Int),ai (tpl:Int),ab tr,ab ts]):=aj.below (aa HB.out OT.out) (au (S:=(·=kz)) rfl [ai (th:Int),ai (tl:Int),ai (tph:Int),ai (tpl:Int),ab tr,ab ts] 0 (aj.refl _ _)) (λk hk=>by have h1:=HB.out.size;have h2:=Tw.out;omega)
  have P6:Below W.heap.size W (V.setCells kz 0 [ai (th:Int),ai (tl:Int),ai (tph:Int),ai (tpl:Int),ab tr,ab ts]):=aj.below OT.out (au (S:=(·=kz)) rfl [ai (th:Int),ai (tl:Int),ai (tph:Int),ai (tpl:Int),ab tr,ab ts] 0 (aj.refl _ _)) (λk hk=>by have h2:=Tw.out;omega)
  generalize V.setCells kz 0 [ai (th:Int),ai (tl:Int),ai (tph:Int),ai (tpl:Int),ab tr,ab ts]=V9 at Pf P8 P_ P6
  have O6:=ae Pf
  have Si:=ae P8
  have Sc:=ae P_
  have Us:=ae P6
  clear Pf P8 P_ P6;refine zk hK 15 8191 2 (HS.out _ OT.out) λhHeld=>?_
  clear hK K;try simp only [zz]
  refine zr 13 λK hK=>?_
  refine jJ rfl rfl rfl O6.out ?_
  refine zk hK 15 16383 1 (HS.out _ Us.out) λhHeld=>?_
  clear hK K;try simp only [zz]
  refine tn 14 15 32767 0 ?_
  simp only [zz];refine zn ?_ _
  have z4:=Si.out.cell 4 rfl
  go_wp2;exact bodyPost_ret (v:=.tuple #[ab tr,.bool ok]) (by simp [results,Tryz.results86,go_sem]) rfl ⟨rfl,Sc.out⟩
 refine AllReadyH.cons rfl (λK hK=>?_) AllReadyH.nil
 go_simp
 obtain⟨V0,hV⟩:∃V,V=(W.alloc (Obj.cells #[ai 0,ai 0,ai 0,ai 0,ab 0,ab 0] 244)).drew:=⟨_,rfl⟩
 rw [<-hV];obtain⟨kz,hkz⟩:∃k,k=W.heap.size:=⟨_,rfl⟩
 have Uy:Hid (Bx V0 kz D1.L):=by rw [hkz,hV];exact (Bx.new W D1.L _).later (Below.refl _ _).drew
 have R8:Hid (Below W.heap.size W V0):=by rw [hV];exact (ag _ _).drew
 have Tw:Hid (W.heap.size<=kz):=by rw [hkz];exact Nat.le_refl _
 have XR:=ae hkz
 clear hV hkz;refine zk hK 15 4351 6 (HS.out _ R8.out) λhHeld=>?_
 clear hK K;try simp only [zz]
 refine zr 8 λK hK=>?_
 go_simp
 go_wp2_with (first|(go_at_call 168;refine (Pd.out _ (R8.out)).mono ?_;rintro e w3 ⟨rfl,hb3⟩))
 obtain⟨V,hVe⟩:∃V,V=w3:=⟨_,rfl⟩
 rw [<-hVe];rw [<-XR.out];have SP:Hid (Bx V kz D1.L):=by rw [hVe];exact Uy.out.later hb3
 have OT:Hid (Below W.heap.size W V):=by rw [hVe];exact aa R8.out hb3
 clear hb3 hVe w3;have Pf:=FY (L:=[ai (th:Int),ai (tl:Int),ai (tph:Int),ai (tpl:Int),ab tr,ab ts]) (by have:=SP.out.there;exact this) rfl Ps.out
 have P8:=SP.out.set (M:=[ai (th:Int),ai (tl:Int),ai (tph:Int),ai (tpl:Int),ab tr,ab ts]) rfl
 have P_:Below w.heap.size w (V.setCells kz 0 [ai (th:Int),ai (tl:Int),ai (tph:Int),ai (tpl:Int),ab tr,ab ts]):=aj.below (aa HB.out OT.out) (au (S:=(·=kz)) rfl [ai (th:Int),ai (tl:Int),ai (tph:Int),ai (tpl:Int),ab tr,ab ts] 0 (aj.refl _ _)) (λk hk=>by have h1:=HB.out.size;have h2:=Tw.out;omega)
 have P6:Below W.heap.size W (V.setCells kz 0 [ai (th:Int),ai (tl:Int),ai (tph:Int),ai (tpl:Int),ab tr,ab ts]):=aj.below OT.out (au (S:=(·=kz)) rfl [ai (th:Int),ai (tl:Int),ai (tph:Int),ai (tpl:Int),ab tr,ab ts] 0 (aj.refl _ _)) (λk hk=>by have h2:=Tw.out;omega)
 generalize V.setCells kz 0 [ai (th:Int),ai (tl:Int),ai (tph:Int),ai (tpl:Int),ab tr,ab ts]=V9 at Pf P8 P_ P6
 have O6:=ae Pf
 have Si:=ae P8
 have Sc:=ae P_
 have Us:=ae P6
 clear Pf P8 P_ P6;refine zk hK 15 4607 5 (HS.out _ OT.out) λhHeld=>?_
 clear hK K;try simp only [zz]
 refine tn 9 15 5119 4 ?_
 simp only [zz];refine tn 10 15 6143 3 ?_
 simp only [zz];refine tn 11 15 8191 2 ?_
 simp only [zz];refine zr 13 λK hK=>?_
 refine jJ rfl rfl rfl O6.out ?_
 refine zk hK 15 16383 1 (HS.out _ Us.out) λhHeld=>?_
 clear hK K;try simp only [zz]
 refine tn 14 15 32767 0 ?_
 simp only [zz];refine zn ?_ _
 have z4:=Si.out.cell 4 rfl
 go_wp2;exact bodyPost_ret (v:=.tuple #[ab tr,.bool ok]) (by simp [results,Tryz.results86,go_sem]) rfl ⟨rfl,Sc.out⟩
theorem vC (m:Bm)(w:World)(h:Bw w m):Calls Tryz.prog 87 #[aq m.g] w λe w'=>e=.returned (ab m.n)/\w'=w:=by
 have q0:=h.bx.cell 0 rfl
 clear h;go_enter Tryz.func87,Tryz.ntmps87
 go_wp2;go_ret;exact⟨rfl,rfl⟩
theorem gf (p:Int)(a:Option Addr)(n c:Nat)(w:World):Calls Tryz.prog 181 #[ab p,.slice a n c] w λe w'=>e=.returned (.bool (decide (0<=p/\p<(n:Int))))/\w'=w:=by
 by_cases h1:0<=p
 ·by_cases h2:p<(n:Int)
  ·rw [decide_eq_true ⟨h1,h2⟩]
   go_enter Tryz.func181,Tryz.ntmps181
   go_wp2;go_ret;exact⟨rfl,rfl⟩
  ·rw [decide_eq_false (λh=>h2 h.2)]
   go_enter Tryz.func181,Tryz.ntmps181
   go_wp2;go_ret;exact⟨rfl,rfl⟩
 ·rw [decide_eq_false (λh=>h1 h.1)]
  go_enter Tryz.func181,Tryz.ntmps181
  go_wp2;go_ret;exact⟨rfl,rfl⟩
def Gu (op:Int)(gv:Bool):Bool:=if op=2\/op=3\/op=4\/op=7 then true else if op=5\/op=6 then gv else false
theorem lW (C:List Value)(op:Int)(gv:Bool)(w:World)(h0:C[0]?=some (ab op))(h6:C[6]?=some (.bool gv)) :
  Calls Tryz.prog 92 #[.agg C.toArray] w λe w'=>e=.returned (.bool (Gu op gv))/\Below w.heap.size w w':=by
 obtain⟨W,hW⟩:∃W,W=w.alloc (Obj.cells C.toArray 44):=⟨_,rfl⟩
 have hB:Below w.heap.size w W:=by rw [hW];exact ag _ _
 have hX:Bx W w.heap.size C:=by rw [hW];exact Bx.new w C _
 have x0:=hX.cell 0 h0
 have x6:=hX.cell 6 h6
 have HB:=ae hB
 have HW:=ae hW
 clear hB hW hX h0 h6;by_cases e2:op=2
 ·subst e2
  go_enter Tryz.func92,Tryz.ntmps92
  go_upto_region 1 with fail
  rw [<-HW.out];go_wp2;go_ret;exact⟨rfl,HB.out⟩
 by_cases e3:op=3
 ·subst e3
  go_enter Tryz.func92,Tryz.ntmps92
  go_upto_region 1 with fail
  rw [<-HW.out];go_wp2;go_ret;exact⟨rfl,HB.out⟩
 by_cases e4:op=4
 ·subst e4
  go_enter Tryz.func92,Tryz.ntmps92
  go_upto_region 1 with fail
  rw [<-HW.out];go_wp2;go_ret;exact⟨rfl,HB.out⟩
 by_cases e7:op=7
 ·subst e7
  go_enter Tryz.func92,Tryz.ntmps92
  go_upto_region 1 with fail
  rw [<-HW.out];go_wp2;go_ret;exact⟨rfl,HB.out⟩
 by_cases e5:op=5
 ·subst e5
  go_enter Tryz.func92,Tryz.ntmps92
  go_upto_region 1 with fail
  rw [<-HW.out];go_wp2;go_ret;exact⟨rfl,HB.out⟩
 by_cases e6:op=6
 ·subst e6
  go_enter Tryz.func92,Tryz.ntmps92
  go_upto_region 1 with fail
  rw [<-HW.out];go_wp2;go_ret;exact⟨rfl,HB.out⟩
 have hb:Gu op gv=false:=by
  unfold Gu;rw [if_neg (by omega),if_neg (by omega)]
 rw [hb];have d2:(op==2)=false:=by simp [e2]
 have d3:(op==3)=false:=by simp [e3]
 have d4:(op==4)=false:=by simp [e4]
 have d7:(op==7)=false:=by simp [e7]
 have d5:(op==5)=false:=by simp [e5]
 have d6:(op==6)=false:=by simp [e6]
 clear hb e2 e3 e4 e5 e6 e7;go_enter Tryz.func92,Tryz.ntmps92
 go_upto_region 1 with fail
 rw [<-HW.out];go_wp2;go_ret;exact⟨rfl,HB.out⟩
theorem Bw.xa {m:Bm}(h:Bw w m)(hp:bQ p)(hn:∀k∈m.I,k.p≠p){a:Option Addr}{n c:Nat}{l:List Cp}(ho:Ow w (m.g+1) 37 3 a n c (aU l))(hl:l.length=n)(hI:∀x∈m.I,∀j,aI x.s.a j->¬aI a j)(hK:∀x∈m.K,∀j,aI x.s.a j->¬aI a j) :
  ∃w8,(Instr.mapUpdate 157 (.map (some m.bi)) (ab p) (.slice a n c)).run Tryz.prog w=.ok () w8/\Bw w8 { m with I:=m.I++[⟨p,⟨a,n,c⟩,l⟩] }/\aj (·=m.bi) w w8:=by
 have hmk:∀x∈m.I.map (λk=>(Value.int .i64 k.p,Value.slice k.s.a k.s.n k.s.c)),x.1≠Value.int .i64 p:=λx hx=>by
  obtain⟨k,hk,rfl⟩:=List.mem_map.1 hx
  intro e;simp at e
  exact hn k hk e
 obtain⟨w8,r8,m8,b8,s8⟩:=h.lists.out.add dy Tryz.underlying157 (gS hp) hmk (.slice a n c)
 obtain⟨n1,n2,n3,n4,n5⟩:=nD h.cr
 have to8:∀{a:Option Addr} {n cap:Nat} {L:List Value},Ow w (m.g+1) 37 3 a n cap L->Ow w8 (m.g+1) 37 3 a n cap L:=λho=>ho.but b8 (λj hj e=>h.cells ho (by omega) j hj (by subst e;simp [Bm.aR]))
 refine⟨w8,r8,⟨h.bx.but b8 n3,h.live.but b8 n1,h.laid.but b8 n5,h.told.but b8 n2,⟨by rw [List.map_append];exact m8,λk hk=>?_,?_⟩,h.known.map h.lists.out b8 n4,h.cr,λj hj=>Nat.lt_of_lt_of_le (h.lo j hj) b8.size,λx hx y hy j hj hj2=>?_⟩,b8⟩
 ·rcases List.mem_append.1 hk with hk|hk
  ·exact⟨to8 (h.lists.each k hk).1,(h.lists.each k hk).2⟩
  ·rw [List.mem_singleton.1 hk]
   exact⟨to8 ho,hl⟩
 ·show (m.I++[_]).Pairwise _
  rw [List.pairwise_append];refine⟨h.lists.cr,List.pairwise_singleton _ _,λx hx y hy j hj hj2=>?_⟩
  rw [List.mem_singleton.1 hy] at hj2;exact hI x hx j hj hj2
 ·rcases List.mem_append.1 hx with hx|hx
  ·exact h.ap x hx y hy j hj hj2
  ·rw [List.mem_singleton.1 hx] at hj
   exact hK y hy j hj2 hj
def JO (w:World)(m:Bm)(aE nu:Int)(c:Cp)(kt:Nat)(a:Option Addr)(cc:Nat)(U:World):Prop :=
 ∃kt' ki s,Ow U w.heap.size 37 3 a 1 cc (aU [c])/\Bw U { m with T:=m.T++[⟨nu,ki,[(dk (bP c),aq kt')]⟩],K:=m.K++[⟨nu,s,[c]⟩] }/\(∀j,aI s.a j->¬aI a j/\w.heap.size<=j)/\kq U kt' m.n 4 aE nu c (some ⟨kt,0,none⟩)/\aj (λj=>j=m.bt\/j=m.bk) w U
def J1 (w:World)(m:Bm)(aE nu:Int)(c:Cp)(kt:Nat)(w':World):Prop:=∃kt' ki s s',Bw w' { m with T:=m.T++[⟨nu,ki,[(dk (bP c),aq kt')]⟩],K:=m.K++[⟨nu,s,[c]⟩],I:=m.I++[⟨nu,s',[c]⟩] }/\kq w' kt' m.n 4 aE nu c (some ⟨kt,0,none⟩)/\aj (λj=>j=m.bt\/j=m.bk\/j=m.bi) w w'
theorem E9 (m:Bm)(C:List Value)(aE nu:Int)(c c2:Cp)(d:Sl)(gg cg kt:Nat)(k0:Kn)(w:World)(h:Bw w m)(hc:c.eY)(hF:dm c=true)(hC:C.length=13)(h1:C[1]?=some (ab aE))(h12:C[12]?=some (.slice (some ⟨gg,0,none⟩) 1 cg))(hgc:w.cell? ⟨gg,0,none⟩=some (ab 0))(hby:bQ aE)(jn:bQ nu)
  (hk0:k0∈m.I) (hkp:k0.p=aE) (hkl:k0.l=[c]) (hT:Gt m.T aE (dk (bP c)) (some (aq kt))) (hnT:∀g∈m.T,g.p≠nu) (hnK:∀k∈m.K,k.p≠nu) (hnI:∀k∈m.I,k.p≠nu) :
  Calls Tryz.prog 103 #[aq m.g,.agg C.toArray,bR 0 c2 d nu] w λe w'=>e=.returned (.tuple #[])/\J1 w m aE nu c kt w':=by
 obtain⟨o2,ch2,cl2⟩:=c2
 obtain⟨kp,⟨ka,kn,kc⟩,kl⟩:=k0
 simp only at hkp hkl;subst hkp hkl
 obtain⟨hok,hkn⟩:=h.lists.each _ hk0
 simp only [List.length_singleton] at hok hkn;subst hkn;obtain⟨gk,rfl⟩:=hok.cJ (by omega)
 obtain⟨o,ch,cl⟩:=c
 obtain⟨W,hW⟩:∃W,W=(w.alloc (Obj.cells C.toArray 44)).alloc (Obj.cells #[ab 0,ab o2,ai (ch2:Int),ai (cl2:Int),.slice d.a d.n d.c,ab nu] 40):=⟨_,rfl⟩
 have hB:Below w.heap.size w W:=by rw [hW];exact aB _ _ _
 have OK:Hid (Bx W w.heap.size C):=by rw [hW];exact (Bx.new w C _).later (ag _ _)
 have OL:Hid (Bx W (w.heap.size+1) (aZ 0 ⟨o2,ch2,cl2⟩ d nu)):=by rw [hW];have:=Bx.new (w.alloc (Obj.cells C.toArray 44)) (aZ 0 ⟨o2,ch2,cl2⟩ d nu) 40;simp at this;exact this
 have hBW:=h.later hB
 have Sw:Hid (∀U,Below W.heap.size W U->(Instr.lookup 157 (.map (some m.bi)) (ab kp) false).run Tryz.prog U=.ok (.slice (some ⟨gk,0,none⟩) 1 kc) U):=λU hU=>(hBW.later hU).lists.out.vL dy Tryz.underlying157 (List.mem_map.2 ⟨_,hk0,rfl⟩) false
 have HS:Hid (∀U,Below W.heap.size W U->(U.rangeAt m.g 0 m.cells/\U.rangeAt w.heap.size 0 C)):=λU hU=>⟨(hBW.bx.later hU).range,(OK.out.later hU).range⟩
 have O5:=ae (hok.later hB)
 have HG:Hid (W.cell? ⟨gg,0,none⟩=some (ab 0)):=by unfold Hid;rw [hB.cell (World.block_lt_of_cell? _ _ hgc)];exact hgc
 have P5:Hid (∀U,Below w.heap.size w U->Calls Tryz.prog 90 #[aq m.g,ab kp,dw ⟨o,ch,cl⟩] U λe w'=>e=.returned (.tuple #[aq kt,.bool true])/\Below U.heap.size U w'):=λU hU=>dK m kp ⟨o,ch,cl⟩ (some (aq kt)) U (h.later hU) hc hF hby hT
 have P1:Hid (∀U,Below w.heap.size w U->Calls Tryz.prog 174 #[aq m.g,s9 0 4 kp nu ⟨o,ch,cl⟩,aq kt] U λe w'=>e=.returned (.tuple #[])/\∃kt' ki s,U.heap.size<=kt'/\(s.n=1/\∀j,aI s.a j->U.heap.size<=j)/\Bw w' { m with T:=m.T++[⟨nu,ki,[(dk (bP ⟨o,ch,cl⟩),aq kt')]⟩],K:=m.K++[⟨nu,s,[⟨o,ch,cl⟩]⟩] }/\Bx w' kt' (xm m.n 4 kp nu ⟨o,ch,cl⟩ (some ⟨kt,0,none⟩))/\w'.heap[kt']?=some (Obj.cells (xm m.n 4 kp nu ⟨o,ch,cl⟩ (some ⟨kt,0,none⟩)).toArray 254)/\aj (λj=>j=m.bt\/j=m.bk) U w'):=λU hU=>pK m 0 4 kp nu ⟨o,ch,cl⟩ (some ⟨kt,0,none⟩) U (h.later hU) hc hF jn hnT hnK
 have HH:=ae h
 have HB:=ae hB
 have HW:=ae hW
 have H1:=ae h1
 have Xv:=ae h12
 have Xo:=ae hnI
 have hgl:=h.lo m.g (by simp [Bm.aR])
 have hbt:=h.lo m.bt (by simp [Bm.aR])
 have hbk:=h.lo m.bk (by simp [Bm.aR])
 have hbi:=h.lo m.bi (by simp [Bm.aR])
 clear hBW h hB hW h1 h12 hgc hok hC hT hnT hnK hnI hk0 hc hF;go_enter Tryz.func103,Tryz.ntmps103
 go_upto_region 1 with fail
 rw [<-HW.out];refine wp_region_held_drew (S:=(λU:World=>U.rangeAt m.g 0 m.cells/\U.rangeAt w.heap.size 0 C)) (by kernel_rfl) (HS.out _ (Below.refl _ _).drew) (λhHeld=>?_)
 refine nm 8 0 8 ?_
 refine tn 0 8 1 7 ?_
 simp only [zz];refine tn 1 8 3 6 ?_
 simp only [zz];refine tn 2 8 7 5 ?_
 simp only [zz];refine wpAnyH_take (i:=3) (oi:=_) (v:=?_) rfl (by kernel_rfl) (by kernel_rfl) (by kernel_rfl) (λ_ _ _ h=>h) (Or.inl ⟨by rfl,?_⟩) (by assumption) ?_
 rotate_left
 ·(intro w hSw;have z1:=aG (j:=2) hSw.1 rfl;go_simp;try with_reducible rfl)
 simp only [zz];refine nm 8 15 4 ?_
 refine tn 4 8 31 3 ?_
 simp only [zz];refine wpAnyH_take (i:=5) (oi:=_) (v:=?_) rfl (by kernel_rfl) (by kernel_rfl) (by kernel_rfl) (λ_ _ _ h=>h) (Or.inl ⟨by rfl,?_⟩) (by assumption) ?_
 rotate_left
 ·(intro w hSw;have z0:=aG (j:=1) hSw.2 H1.out;go_simp;try with_reducible rfl)
 simp only [zz];refine nm 8 63 2 ?_
 refine zr 6 λK hK=>?_
 refine qA rfl rfl rfl (Sw.out _ (Below.refl _ _).drew) ?_
 refine zk hK 8 127 1 (HS.out _ (Below.refl _ _).drew) λhHeld=>?_
 clear hK K;try simp only [zz]
 refine tn 7 8 255 0 ?_
 simp only [zz];refine zn ?_ _
 obtain⟨V,hV⟩:∃V,V=W.drew:=⟨_,rfl⟩
 have Uo:Hid (Below w.heap.size w V):=by rw [hV];exact HB.out.drew
 have S9:Hid (Bx V w.heap.size C):=by rw [hV];exact OK.out.later (Below.refl _ _).drew
 have Ux:Hid (Bx V (w.heap.size+1) (aZ 0 ⟨o2,ch2,cl2⟩ d nu)):=by rw [hV];exact OL.out.later (Below.refl _ _).drew
 have Rs:Hid (Ow V (m.g+1) 37 3 (some ⟨gk,0,none⟩) 1 kc (aU [⟨o,ch,cl⟩])):=by rw [hV];exact O5.out.later (Below.refl _ _).drew
 have UR:Hid (V.cell? ⟨gg,0,none⟩=some (ab 0)):=by rw [hV];exact HG.out
 rw [<-hV];clear hV OK OL O5 HG HS Sw;have x12:=S9.out.cell 12 Xv.out
 go_upto_region 4 with fail
 clear x12;go_loopw [23,7] (λi l U=>(i=ab 0/\l=.slice none 0 0/\U=V)\/(i=ab 1/\∃a cc,l=.slice a 1 cc/\JO w m kp nu ⟨o,ch,cl⟩ kt a cc U/\Bx U (w.heap.size+1) (aZ 0 ⟨o2,ch2,cl2⟩ d nu))) (λi _ _=>2 - jv i)
 case atStart=>exact .inl ⟨rfl,rfl,rfl⟩
 case round =>
  rcases hrel with ⟨rfl,rfl,rfl⟩|⟨rfl,a,cc,rfl,hq,hxb⟩
  ·have g0:=UR.out
   have r0:=Rs.out.cells rfl
   have c0:=aG r0 (j:=0) rfl
   have c1:=aG r0 (j:=1) rfl
   have c2:=aG r0 (j:=2) rfl
   go_upto_region 8 with (first|(go_at_call 181;refine (gf _ _ _ _ _).mono ?_;rintro e w' ⟨rfl,hw'⟩;obtain rfl:=hw'.symm;clear hw'))
   obtain⟨V1,hV1⟩:∃V1,V1=wr.alloc (Obj.cells #[ab o,ai (ch:Int),ai (cl:Int)] 37):=⟨_,rfl⟩
   rw [<-hV1];obtain⟨kx,hkx⟩:∃k,k=wr.heap.size:=⟨_,rfl⟩
   rw [<-hkx];have hb1:Below wr.heap.size wr V1:=by rw [hV1];exact ag _ _
   have QN:Hid (Bx V1 kx [ab o,ai (ch:Int),ai (cl:Int)]):=by rw [hkx,hV1];exact Bx.new wr [ab o,ai (ch:Int),ai (cl:Int)] _
   have OI:Hid (Below w.heap.size w V1):=aa Uo.out hb1
   have Qg:=ae (S9.out.later hb1)
   have QF:=ae (Ux.out.later hb1)
   obtain⟨a',c',w7,r7,o7,b7,n7⟩:=kJ 74 37 _ 3 24 Tryz.underlying74 ir rfl (by omega) (w:=V1) (base:=w.heap.size) (cs:=[ab o,ai (ch:Int),ai (cl:Int)]) (Ow.nil V1 w.heap.size _ _) rfl (sO _ _ _) OI.out.size (by omega) (by omega)
   have hB7:Below V1.heap.size V1 w7:=aj.below (Below.refl _ _) b7 (λk hk=>by obtain⟨x,hx,_⟩:=hk;cases hx)
   have Q9:Hid ((Builtin.append_ #[74,74] 74 #[.slice none 0 0,.slice (some ⟨V1.heap.size,0,none⟩) 1 1]).run Tryz.prog (V1.alloc (Obj.cells #[ab o,ai (ch:Int),ai (cl:Int)] 37))=.ok (.slice a' 1 c') w7):=r7
   have RN:Hid (Ow w7 w.heap.size 37 3 a' 1 c' (aU [⟨o,ch,cl⟩])):=by unfold Hid;simpa [aU,dP] using o7
   have PR:Hid (Below w.heap.size w w7):=aa OI.out hB7
   have Qw:=ae (Qg.out.later hB7)
   have RQ:=ae (QF.out.later hB7)
   have PJ:=ae (QN.out.later hB7)
   clear g0 r0 c0 c1 c2 hV1 hkx hb1 r7 o7 b7 n7 hB7;have c0:=QN.out.cell 0 rfl
   have c1:=QN.out.cell 1 rfl
   have c2:=QN.out.cell 2 rfl
   go_upto_region 9 with (first|(at_builtin;refine aw rfl _ _ 74 rfl _ _ rfl rfl _ w7 Q9.out ?_))
   clear c0 c1 c2;have c0:=PJ.out.cell 0 rfl
   have c1:=PJ.out.cell 1 rfl
   have c2:=PJ.out.cell 2 rfl
   have x1:=Qw.out.cell 1 H1.out
   go_upto_region 10 with (first|(go_at_call 90;refine (P5.out _ PR.out).mono ?_;rintro e w8 ⟨rfl,hb8⟩;have Pb:=ae hb8;clear hb8))
   clear c0 c1 c2 x1;have R9:Hid (Below w.heap.size w w8):=aa PR.out Pb.out
   have P4:=ae (PJ.out.later Pb.out)
   have QZ:=ae (RQ.out.later Pb.out)
   have UZ:=ae (RN.out.later Pb.out)
   have c0:=P4.out.cell 0 rfl
   have c1:=P4.out.cell 1 rfl
   have c2:=P4.out.cell 2 rfl
   have x1:=(Qw.out.later Pb.out).cell 1 H1.out
   have y5:=QZ.out.cell 5 rfl
   go_wp2_with (first|(go_at_call 174;refine (P1.out _ R9.out).mono ?_;rintro e w9 ⟨rfl,kt',ki,s,hkt,hs,hbw,hbx,hty,hb9⟩;have RY:=ae hkt;have WU:=ae hs;have Pq:=ae hbw;have PY:=ae hty;have OU:=ae hb9;clear hkt hs hbw hbx hty hb9))
   refine⟨.inr ⟨rfl,a',c',rfl,⟨kt',ki,s,UZ.out.but OU.out (λj hj=>?_),Pq.out,λj hj=>⟨λhj2=>?_,?_⟩,PY.out,(aj.of R9.out).trans OU.out⟩,QZ.out.but OU.out (λhj=>by omega)⟩,by simp [jv]⟩
   ·have:=(UZ.out.dB j hj).1;omega
   ·have h1:=WU.out.2 j hj;have h2:=(UZ.out.dB j hj2).2;omega
   ·exact Nat.le_trans R9.out.size (WU.out.2 j hj)
  ·obtain⟨kt',ki,s,ho,hbw,hs,hty,hbt2⟩:=hq
   have hwr:aj (λj=>j=m.bt\/j=m.bk) w wr.drew:=hbt2.trans (aj.of (Below.refl _ _).drew)
   obtain⟨w8,r8,hw8,b8⟩:=(hbw.later (Below.refl wr.heap.size wr).drew).xa jn Xo.out ((ho.later (Below.refl _ _).drew).mono (by show m.g+1<=w.heap.size;omega)) rfl (λx hx j hj hj2=>by have h1:=((HH.out.lists.each x hx).1.dB j hj).2;have h2:=(ho.dB j hj2).1;omega) (λx hx j hj hj2=>by
    rcases List.mem_append.1 hx with hx|hx
    ·have h1:=((HH.out.known.each x hx).1.dB j hj).2;have h2:=(ho.dB j hj2).1;omega
    ·rw [List.mem_singleton.1 hx] at hj
     exact (hs j hj).1 hj2)
   have Re:=ae r8
   have Xw:=ae hw8
   have Pb:=ae b8
   have PY:Hid (kq w8 kt' m.n 4 kp nu ⟨o,ch,cl⟩ (some ⟨kt,0,none⟩)):=(hty.but (S:=λ_=>False) (aj.of (Below.refl wr.heap.size wr).drew) (λh=>h)).but b8 ((hty.but (S:=λ_=>False) (aj.of (Below.refl wr.heap.size wr).drew) (λh=>h)).map (hbw.later (Below.refl wr.heap.size wr).drew).lists.out)
   have Qj:Hid (aj (λj=>j=m.bt\/j=m.bk\/j=m.bi) w w8):=(hwr.mono (λj hj=>hj.elim .inl (λh=>.inr (.inl h)))).trans (b8.mono (λj hj=>.inr (.inr hj)))
   have O3:Hid (∀U,aj (·=m.bi) wr.drew U->(U.rangeAt m.g 0 m.cells/\U.rangeAt (w.heap.size+1) 0 (aZ 0 ⟨o2,ch2,cl2⟩ d nu))):=λU hU=>⟨((hbw.later (Below.refl wr.heap.size wr).drew).bx.but hU (nD HH.out.cr).2.2.1).range,((hxb.later (Below.refl _ _).drew).but hU (by omega)).range⟩
   clear ho hbw hs hty hbt2 hwr r8 hw8 b8 hxb;go_upto_region 13 with fail
   refine wp_region_held_drew (S:=(λU:World=>U.rangeAt m.g 0 m.cells/\U.rangeAt (w.heap.size+1) 0 (aZ 0 ⟨o2,ch2,cl2⟩ d nu))) (by kernel_rfl) (O3.out _ (aj.refl _ _)) (λhHeld=>?_)
   refine nm 8 0 8 ?_
   refine tn 0 8 1 7 ?_
   simp only [zz];refine tn 1 8 3 6 ?_
   simp only [zz];refine tn 2 8 7 5 ?_
   simp only [zz];refine wpAnyH_take (i:=3) (oi:=_) (v:=?_) rfl (by kernel_rfl) (by kernel_rfl) (by kernel_rfl) (λ_ _ _ h=>h) (Or.inl ⟨by rfl,?_⟩) (by assumption) ?_
   rotate_left
   ·(intro w hSw;have z1:=aG (j:=2) hSw.1 rfl;go_simp;try with_reducible rfl)
   simp only [zz];refine nm 8 15 4 ?_
   refine tn 4 8 31 3 ?_
   simp only [zz];refine wpAnyH_take (i:=5) (oi:=_) (v:=?_) rfl (by kernel_rfl) (by kernel_rfl) (by kernel_rfl) (λ_ _ _ h=>h) (Or.inl ⟨by rfl,?_⟩) (by assumption) ?_
   rotate_left
   ·(intro w hSw;have z0:=aG (j:=5) hSw.2 rfl;go_simp;try with_reducible rfl)
   simp only [zz];refine nm 8 63 2 ?_
   refine tn 6 8 127 1 ?_
   simp only [zz];refine zr 7 λK hK=>?_
   refine jK rfl rfl rfl rfl Re.out ?_
   refine zk hK 8 255 0 (O3.out _ Pb.out) λhHeld=>?_
   clear hK K;try simp only [zz]
   refine zn ?_ _
   go_wp2;exact bodyPost_end (v:=.tuple #[]) (by simp [results,Tryz.results103,go_sem]) rfl ⟨rfl,kt',ki,s,⟨a,1,cc⟩,Xw.out,PY.out,Qj.out⟩
theorem tE (m:Bm)(C:List Value)(nu:Int)(c:Cp)(d:Sl)(w:World)(h:Bw w m)(hC:C.length=13)(h0:C[0]?=some (ab 9))(hnn:0<=m.n/\m.n<4611686018427387904)(Q:World->Prop)
  (ht:∀(U:World),w.heap.size<=U.heap.size->aj (·=m.g) w U->Bw U { m with n:=m.n+1 }->Calls Tryz.prog 103 #[aq m.g,.agg C.toArray,bR 0 c d nu] U λe w'=>e=.returned (.tuple #[])/\Q w') :
  Calls Tryz.prog 38 #[aq m.g,.agg C.toArray,bR 0 c d nu] w λe w'=>e=.returned (.tuple #[])/\Q w':=by
 obtain⟨o,ch,cl⟩:=c
 obtain⟨W,hW⟩:∃W,W=(w.alloc (Obj.cells C.toArray 44)).alloc (Obj.cells #[ab 0,ab o,ai (ch:Int),ai (cl:Int),.slice d.a d.n d.c,ab nu] 40):=⟨_,rfl⟩
 have hB:Below w.heap.size w W:=by rw [hW];exact aB _ _ _
 have OK:Hid (Bx W w.heap.size C):=by rw [hW];exact (Bx.new w C _).later (ag _ _)
 have OL:Hid (Bx W (w.heap.size+1) (aZ 0 ⟨o,ch,cl⟩ d nu)):=by rw [hW];have:=Bx.new (w.alloc (Obj.cells C.toArray 44)) (aZ 0 ⟨o,ch,cl⟩ d nu) 40;simp at this;exact this
 have hBW:=h.later hB
 have q0:=hBW.bx.cell 0 rfl
 have q0f:W.frozen? ⟨m.g,0,none⟩=false:=by have:=(hBW.bx.there 0 (by simp)).2;rwa [Nat.zero_add] at this
 have ew:IntKind.i64.wrap (m.n+1)=m.n+1:=by rw [IntKind.wrap_i64];omega
 have hgl:=h.lo m.g (by simp [Bm.aR])
 have O8:=ae hBW
 have HB:=ae hB
 have HW:=ae hW
 have HT:=ae ht
 have H0:=ae h0
 have PZ:=ae hC
 clear hBW h hB hW ht h0 hC;go_enter Tryz.func38,Tryz.ntmps38
 go_upto_region 1 with fail
 rw [<-HW.out];go_upto_region 2 with fail
 obtain⟨U,hU⟩:∃U,U=W.setCell ⟨m.g,0,none⟩ (ab (m.n+1)):=⟨_,rfl⟩
 rw [<-hU];have Qe:Hid (aj (·=m.g) W U):=by rw [hU];exact (aj.refl (·=m.g) W).setCell (p:=⟨m.g,0,none⟩) rfl _
 have Sj:Hid (Bw U { m with n:=m.n+1 }):=by rw [hU];exact O8.out.step _
 have HY:=ae (OL.out.but Qe.out (by omega))
 have HX:=ae (OK.out.but Qe.out (by omega))
 clear q0 q0f hU;have y0:=HY.out.cell 0 rfl
 have x0:=HX.out.cell 0 H0.out
 have Px:Hid ((Instr.loadAt 44 (aq w.heap.size)).run Tryz.prog U=.ok (.agg C.toArray) U):=run_loadAt_mid U w.heap.size 0 44 C _ HX.out.range Tryz.underlying44 rfl (by rw [PZ.out];kernel_rfl)
 have PX:Hid ((Instr.loadAt 40 (.pointer (some ⟨w.heap.size+1,0,none⟩))).run Tryz.prog U=.ok (bR 0 ⟨o,ch,cl⟩ d nu) U):=run_loadAt_mid U (w.heap.size+1) 0 40 (aZ 0 ⟨o,ch,cl⟩ d nu) _ HY.out.range Tryz.underlying40 rfl (by kernel_rfl)
 have SV:=ae (HT.out U (Nat.le_trans HB.out.size Qe.out.size) ((aj.of HB.out).trans Qe.out) Sj.out)
 go_wp2_with (first|((with_reducible refine aJ Px.out ?_ ?_);(· rfl))|((with_reducible refine aJ PX.out ?_ ?_);(· rfl))|(go_at_call 103;refine SV.out.mono ?_;rintro x w2 ⟨rfl,hq⟩;have HQ:=ae hq;clear hq))
 exact bodyPost_end (v:=.tuple #[]) (by simp [results,Tryz.results38,go_sem]) rfl ⟨rfl,HQ.out⟩
theorem wj (m:Bm)(C:List Value)(op:Int)(gv:Bool)(w:World)(hC:C.length=13)(h0:C[0]?=some (ab op))(h6:C[6]?=some (.bool gv))(hb:Gu op gv=false) :
  Calls Tryz.prog 33 #[aq m.g,.agg C.toArray] w λe w'=>e=.returned (.bool true)/\Below w.heap.size w w':=by
 obtain⟨W,hW⟩:∃W,W=w.alloc (Obj.cells C.toArray 44):=⟨_,rfl⟩
 have hB:Below w.heap.size w W:=by rw [hW];exact ag _ _
 have hX:Bx W w.heap.size C:=by rw [hW];exact Bx.new w C _
 have Px:Hid ((Instr.loadAt 44 (aq w.heap.size)).run Tryz.prog W=.ok (.agg C.toArray) W):=run_loadAt_mid W w.heap.size 0 44 C _ hX.range Tryz.underlying44 rfl (by rw [hC];kernel_rfl)
 have TM:=ae (lW C op gv W h0 h6)
 rw [hb] at TM;have HB:=ae hB
 have HW:=ae hW
 clear hB hW hX h0 h6 hC hb;go_enter Tryz.func33,Tryz.ntmps33
 go_upto_region 1 with fail
 rw [<-HW.out];go_wp2_with (first|((with_reducible refine aJ Px.out ?_ ?_);(· rfl))|(go_at_call 92;refine TM.out.mono ?_;rintro x w2 ⟨rfl,hb2⟩;have OH:=ae hb2;clear hb2))
 go_ret;exact⟨rfl,aa HB.out OH.out⟩
theorem rS (m:Bm)(C:List Value)(op aE:Int)(gv r:Bool)(c:Cp)(w:World)(hC:C.length=13)(h0:C[0]?=some (ab op))(h1:C[1]?=some (ab aE))(h3:C[3]?=some (ab c.o))(h4:C[4]?=some (ai (c.h:Int)))(h5:C[5]?=some (ai (c.l:Int)))(h6:C[6]?=some (.bool gv))(hb:Gu op gv=true)
  (ht:∀U,Below w.heap.size w U->Calls Tryz.prog 30 #[aq m.g,ab aE,dw c] U λe w'=>e=.returned (.bool r)/\Below U.heap.size U w') :
  Calls Tryz.prog 33 #[aq m.g,.agg C.toArray] w λe w'=>e=.returned (.bool r)/\Below w.heap.size w w':=by
 obtain⟨W,hW⟩:∃W,W=w.alloc (Obj.cells C.toArray 44):=⟨_,rfl⟩
 have hB:Below w.heap.size w W:=by rw [hW];exact ag _ _
 have hX:Bx W w.heap.size C:=by rw [hW];exact Bx.new w C _
 have Px:Hid ((Instr.loadAt 44 (aq w.heap.size)).run Tryz.prog W=.ok (.agg C.toArray) W):=run_loadAt_mid W w.heap.size 0 44 C _ hX.range Tryz.underlying44 rfl (by rw [hC];kernel_rfl)
 have TM:=ae (lW C op gv W h0 h6)
 rw [hb] at TM;have HX:=ae hX
 have HB:=ae hB
 have HW:=ae hW
 have H1:=ae h1
 have H3:=ae h3
 have H4:=ae h4
 have H5:=ae h5
 have HT:=ae ht
 clear hB hW hX h0 h6 hC hb h1 h3 h4 h5 ht;go_enter Tryz.func33,Tryz.ntmps33
 go_upto_region 1 with fail
 rw [<-HW.out];go_wp2_with (first|((with_reducible refine aJ Px.out ?_ ?_);(· rfl))|(go_at_call 92;refine TM.out.mono ?_;rintro x w2 ⟨rfl,hb2⟩;have OH:=ae (aa HB.out hb2);(have x1:=(HX.out.later hb2).cell 1 H1.out);(have x3:=(HX.out.later hb2).cell 3 H3.out);(have x4:=(HX.out.later hb2).cell 4 H4.out);(have x5:=(HX.out.later hb2).cell 5 H5.out);clear hb2)|(go_at_call 30;refine (HT.out _ OH.out).mono ?_;rintro x w3 ⟨rfl,hb3⟩;have OJ:=ae (aa OH.out hb3);clear hb3))
 go_ret;exact⟨rfl,OJ.out⟩
theorem Mg.put (h:Mg w tk b E)(K:Kd tk)(ht:Tryz.prog.underlying t=some (.map tk e))(hk:Kv tk k)(v:Value) :
  ∃w' E',(Instr.mapUpdate t (.map (some b)) k v).run Tryz.prog w=.ok () w'/\Mg w' tk b E'/\(∀x,x∈E'↔x=(k,v)\/(x∈E/\x.1≠k))/\aj (·=b) w w'/\w'.heap.size=w.heap.size/\E'.length<=E.length+1:=by
 by_cases hx:∃v0,(k,v0)∈E
 ·obtain⟨v0,hm⟩:=hx
  obtain⟨w',r,m,bt,s⟩:=h.set K ht hm v
  refine⟨w',_,r,m,λx=>?_,bt,s,by unfold AY;rw [List.length_map];omega⟩
  unfold AY;rw [List.mem_map];constructor
  ·rintro ⟨y,hy,e⟩
   split at e
   ·exact .inl e.symm
   ·subst e
    exact .inr ⟨hy,by assumption⟩
  ·rintro (rfl|⟨hx,hn⟩)
   ·exact⟨(k,v0),hm,by simp⟩
   ·exact⟨x,hx,by rw [if_neg hn]⟩
 ·have hn:∀x∈E,x.1≠k:=λx hx' e=>hx ⟨x.2,by rw [<-e];exact hx'⟩
  obtain⟨w',r,m,bt,s⟩:=h.add K ht hk hn v
  refine⟨w',_,r,m,λx=>?_,bt,s,by simp⟩
  rw [List.mem_append,List.mem_singleton];constructor
  ·rintro (hx'|rfl)
   ·exact .inr ⟨hx',hn x hx'⟩
   ·exact .inl rfl
  ·rintro (rfl|⟨hx',-⟩)
   ·exact .inr rfl
   ·exact .inl hx'
theorem nU {α β:Type}(f:α->β):∀(l:List α) (j:Nat),(l.eraseIdx j).map f=(l.map f).eraseIdx j
 | [],_=>by simp
 | _::_,0=>by simp
 | a::r,j+1=>by simp [nU f r j]
open Classical in
noncomputable def mX (E:List (Value×Value))(k:Value):List (Value×Value):=E.filter (λx=>decide (x.1≠k))
theorem lB {x:Value×Value}:x∈mX E k↔x∈E/\x.1≠k:=by
 unfold mX;rw [List.mem_filter];simp
theorem nG (h:∀x∈E,x.1≠k):mX E k=E:=by
 unfold mX;rw [List.filter_eq_self];intro x hx;simp [h x hx]
theorem tw {j:Nat}{y:Value×Value}(hj:E[j]?=some y)(hn:(E.map Prod.fst).Nodup):E.eraseIdx j=mX E y.1:=by
 induction E generalizing j with
 | nil=>simp at hj
 | cons z E ih =>
  rw [List.map_cons,List.nodup_cons] at hn;cases j with
  | zero =>
   simp at hj
   subst hj;have:∀x∈E,x.1≠z.1:=λx hx e=>hn.1 (by rw [<-e];exact List.mem_map.2 ⟨x,hx,rfl⟩)
   have e:=nG this
   unfold mX at e ⊢
   rw [List.filter_cons_of_neg (by simp),e];rfl
  | succ j =>
   simp only [List.getElem?_cons_succ] at hj;have hy:y.1∈E.map Prod.fst:=List.mem_map.2 ⟨y,List.mem_of_getElem? hj,rfl⟩
   have e:=ih hj hn.2
   have hz:z.1≠y.1:=λe=>hn.1 (by rw [e];exact hy)
   simp only [List.eraseIdx_cons_succ];rw [e];unfold mX;rw [List.filter_cons_of_pos (by simp [hz])]
theorem Mg.del (h:Mg w tk b E)(K:Kd tk)(ht:Tryz.prog.underlying t=some (.map tk e))(hk:Kv tk k)(ty kt:TypeId) :
  ∃w',(Builtin.delete_ #[t,kt] ty #[.map (some b),k]).run Tryz.prog w=.ok (.tuple #[]) w'/\Mg w' tk b (mX E k)/\aj (·=b) w w'/\w'.heap.size=w.heap.size:=by
 obtain⟨es,clk,hb,hE⟩:=h.ex
 obtain⟨l,hl⟩:=hk
 have hck:=K.check w es.isEmpty hl
 rcases h.find K ⟨l,hl⟩ hb hE with ⟨hf,hn⟩|⟨j,x,hf,hj,hx,hmem⟩
 ·refine⟨{ w with heap:=w.heap.setIfInBounds b (.map es clk) },by simp only [Builtin.delete_,List.getElem?_toArray,List.getElem?_cons_zero,List.getElem?_cons_succ,Sem.run_bind,run_underlying ht,Result.andThen_ok,MapKept.run_getObj_map hb,hck,hf,MapKept.run_setObj_map _ hb,Sem.run_pure],?_,⟨rfl,rfl,rfl,by simp,λk hk hn=>(MapKept.heap_set hb).2 k hn⟩,by simp⟩
  rw [nG hn];refine⟨⟨es,clk,(MapKept.heap_set hb).1,hE⟩,h.ok,h.nd,λes' clk' h'=>?_⟩
  have e:=(MapKept.heap_set (o':=Obj.map es clk) hb).1
  have e2:=e.symm.trans h'
  simp at e2
  obtain⟨rfl,rfl⟩:=e2
  exact h.st _ _ hb
 ·have hjl:j<es.size:=(Array.getElem?_eq_some_iff.1 hj).1
  have hjE:E[j]?=some (k,x.val):=by rw [<-hE,List.getElem?_map,Array.getElem?_toList,hj];simp [hx]
  have hE':(es.eraseIdxIfInBounds j).toList.map (λe=>(e.key,e.val))=mX E k:=by
   rw [<-tw hjE h.nd,<-hE];unfold Array.eraseIdxIfInBounds;rw [dif_pos hjl,Array.toList_eraseIdx,nU]
  refine⟨{ w with heap:=w.heap.setIfInBounds b (.map (es.eraseIdxIfInBounds j) clk) },by simp only [Builtin.delete_,List.getElem?_toArray,List.getElem?_cons_zero,List.getElem?_cons_succ,Sem.run_bind,run_underlying ht,Result.andThen_ok,MapKept.run_getObj_map hb,hck,hf,MapKept.run_setObj_map _ hb,Sem.run_pure],⟨⟨_,_,(MapKept.heap_set hb).1,hE'⟩,λy hy=>h.ok y (lB.1 hy).1,?_,λes' clk' h'=>?_⟩,⟨rfl,rfl,rfl,by simp,λk hk hn=>(MapKept.heap_set hb).2 k hn⟩,by simp⟩
  ·exact List.Nodup.sublist (List.Sublist.map _ List.filter_sublist) h.nd
  ·have e:=(MapKept.heap_set (o':=Obj.map (es.eraseIdxIfInBounds j) clk) hb).1
   have e2:=e.symm.trans h'
   simp at e2
   obtain⟨rfl,rfl⟩:=e2
   exact MapKept.stamped_erase (h.st _ _ hb) _
theorem CG (w:World)(K:Kd tk)(ht:Tryz.prog.underlying t=some (.map tk e))(hk:Kv tk k)(ty kt:TypeId) :
  (Builtin.delete_ #[t,kt] ty #[.map none,k]).run Tryz.prog w=.ok (.tuple #[]) w:=by
 obtain⟨l,hl⟩:=hk
 have hck:=K.check w true hl
 simp only [Builtin.delete_,List.getElem?_toArray,List.getElem?_cons_zero,List.getElem?_cons_succ,Sem.run_bind,run_underlying ht,Result.andThen_ok,hck,Sem.run_pure]
theorem Ei {P:Program}{o:Oper}{a:Act}{K:Act->World->Prop}{Q:Exit->Act->World->Prop}{k:TypeId}{x y:Operand}{p:Value}(ho:o.op=.call { callee:=.builtin .delete,args:=#[x,y],argTypes:=#[t,k] })(hx:a.eval x=p)(hy:a.eval y=v)(hr:(Builtin.delete_ #[t,k] o.type #[p,v]).run P w=.ok (.tuple #[]) w')(h:K (a.put o.dst (.tuple #[])) w'):o.wp P a w K Q:=by
 unfold Oper.wp execOp;simp only [ho,resolve,invoke,builtin,Sem.run_bind,Sem.run_pure,Result.andThen_ok,List.map_toArray,List.map_cons,List.map_nil,hx,hy,hr];exact h
def In (G:List Im)(p:Int)(x:Value×Value):Prop:=∃g∈G,g.p=p/\x∈g.E
theorem BV :Gt G p k (some v)↔In G p (k,v):=Iff.rfl
theorem CM :Gt G p k none↔∀x,In G p x->x.1≠k:=⟨λh x ⟨g,hg,e,hx⟩=>h g hg e x hx,λh g hg e x hx=>h x ⟨g,hg,e,hx⟩⟩
abbrev kk (b:Nat)(G:List Im):List Nat:=b::G.map Im.b
theorem Mm.turn (h:Mm w ti b G)(hg:g∈G){E':List (Value×Value)}(hm:Mg w' ti g.b E')(hb:aj (·=g.b) w w') :
  ∃G',Mm w' ti b G'/\G'.map Im.b=G.map Im.b/\(∀p x,In G' p x↔(p=g.p/\x∈E')\/(p≠g.p/\In G p x))/\∀x∈G',x∈G\/x.E=E':=by
 obtain⟨G1,G2,rfl⟩:=List.append_of_mem hg
 have hd:=h.cr
 have hgb:b≠g.b:=λe=>(List.nodup_cons.1 hd).1 (by rw [e];exact List.mem_map.2 ⟨g,hg,rfl⟩)
 have hmap:(G1++(⟨g.p,g.b,E'⟩:Im)::G2).map (λg=>(Value.int .i64 g.p,Value.map (some g.b)))=(G1++g::G2).map (λg=>(Value.int .i64 g.p,Value.map (some g.b))):=by simp
 have hmb:(G1++(⟨g.p,g.b,E'⟩:Im)::G2).map Im.b=(G1++g::G2).map Im.b:=by simp
 have hnd:=(List.nodup_cons.1 hd).2
 rw [List.map_append,List.map_cons,List.nodup_append] at hnd;have hne:∀x∈G1++g::G2,x∈G1\/x∈G2->x.b≠g.b:=λx _ hx e=>by
  rcases hx with hx|hx
  ·exact hnd.2.2 x.b (List.mem_map.2 ⟨x,hx,rfl⟩) g.b List.mem_cons_self e
  ·exact (List.nodup_cons.1 hnd.2.1).1 (by rw [<-e];exact List.mem_map.2 ⟨x,hx,rfl⟩)
 have hin1:∀x∈G1,x∈G1++g::G2:=λx hx=>List.mem_append.2 (.inl hx)
 have hin2:∀x∈G2,x∈G1++g::G2:=λx hx=>List.mem_append.2 (.inr (List.mem_cons_of_mem _ hx))
 have hnp:∀x,x∈G1\/x∈G2->x.p≠g.p:=λx hx e=>by
  have hxm:x∈G1++g::G2:=by rcases hx with hx|hx;exact hin1 x hx;exact hin2 x hx
  exact hne x hxm hx (h.key hxm hg e)
 refine⟨G1++⟨g.p,g.b,E'⟩::G2,⟨by rw [hmap];exact h.out.but hb hgb,λx hx=>?_,by rw [hmb];exact hd⟩,hmb,λp x=>⟨?_,?_⟩,λx hx=>?_⟩
 ·rcases List.mem_append.1 hx with hx|hx
  ·exact (h.pU x (hin1 x hx)).but hb (hne x (hin1 x hx) (.inl hx))
  ·rcases List.mem_cons.1 hx with rfl|hx
   ·exact hm
   ·exact (h.pU x (hin2 x hx)).but hb (hne x (hin2 x hx) (.inr hx))
 ·rintro ⟨y,hy,e,hx⟩
  rcases List.mem_append.1 hy with hy|hy
  ·exact .inr ⟨by rw [<-e];exact hnp y (.inl hy),y,hin1 y hy,e,hx⟩
  ·rcases List.mem_cons.1 hy with rfl|hy
   ·exact .inl ⟨e.symm,hx⟩
   ·exact .inr ⟨by rw [<-e];exact hnp y (.inr hy),y,hin2 y hy,e,hx⟩
 ·rintro (⟨rfl,hx⟩|⟨hp,y,hy,e,hx⟩)
  ·exact⟨⟨g.p,g.b,E'⟩,List.mem_append.2 (.inr List.mem_cons_self),rfl,hx⟩
  ·rcases List.mem_append.1 hy with hy|hy
   ·exact⟨y,List.mem_append.2 (.inl hy),e,hx⟩
   ·rcases List.mem_cons.1 hy with rfl|hy
    ·exact absurd e.symm hp
    ·exact⟨y,List.mem_append.2 (.inr (List.mem_cons_of_mem _ hy)),e,hx⟩
 ·rcases List.mem_append.1 hx with hx|hx
  ·exact .inl (hin1 x hx)
  ·rcases List.mem_cons.1 hx with rfl|hx
   ·exact .inr rfl
   ·exact .inl (hin2 x hx)
theorem Mm.put (h:Mm w ti b G)(K:Kd ti)(hi:Tryz.prog.underlying tm=some (.map ti e))(hg:g∈G)(hk:Kv ti k)(v:Value) :
  ∃w' G',(Instr.mapUpdate tm (.map (some g.b)) k v).run Tryz.prog w=.ok () w'/\Mm w' ti b G'/\G'.map Im.b=G.map Im.b/\(∀p x,In G' p x↔(p=g.p/\x=(k,v))\/(In G p x/\¬(p=g.p/\x.1=k)))/\aj (·=g.b) w w'/\∀x∈G',∃y∈G,x.E.length<=y.E.length+1:=by
 obtain⟨w',E',hr,hm,hE,hb,hs,hle⟩:=(h.pU g hg).put K hi hk v
 obtain⟨G',m',e',hin,hsz⟩:=h.turn hg hm hb
 refine⟨w',G',hr,m',e',λp x=>(hin p x).trans ⟨?_,?_⟩,hb,λx hx=>(hsz x hx).elim (λh1=>⟨x,h1,by omega⟩) (λh1=>⟨g,hg,by rw [h1];exact hle⟩)⟩
 ·rintro (⟨rfl,hx⟩|⟨hp,hx⟩)
  ·rcases (hE x).1 hx with h1|⟨h1,h2⟩
   ·exact .inl ⟨rfl,h1⟩
   ·exact .inr ⟨⟨g,hg,rfl,h1⟩,λh3=>h2 h3.2⟩
  ·exact .inr ⟨hx,λh3=>hp h3.1⟩
 ·rintro (⟨rfl,rfl⟩|⟨hx,hn⟩)
  ·exact .inl ⟨rfl,(hE _).2 (.inl rfl)⟩
  ·by_cases hp:p=g.p
   ·subst hp
    obtain⟨g',hg',e,hx'⟩:=hx
    have:=h.same hg' hg e
    subst this;exact .inl ⟨rfl,(hE x).2 (.inr ⟨hx',λe=>hn ⟨rfl,e⟩⟩)⟩
   ·exact .inr ⟨hp,hx⟩
theorem Mm.del (h:Mm w ti b G)(K:Kd ti)(hi:Tryz.prog.underlying tm=some (.map ti e))(hg:g∈G)(hk:Kv ti k)(ty kt:TypeId) :
  ∃w' G',(Builtin.delete_ #[tm,kt] ty #[.map (some g.b),k]).run Tryz.prog w=.ok (.tuple #[]) w'/\Mm w' ti b G'/\G'.map Im.b=G.map Im.b/\(∀p x,In G' p x↔In G p x/\¬(p=g.p/\x.1=k))/\aj (·=g.b) w w'/\∀x∈G',∃y∈G,x.E.length<=y.E.length:=by
 obtain⟨w',hr,hm,hb,hs⟩:=(h.pU g hg).del K hi hk ty kt
 obtain⟨G',m',e',hin,hsz⟩:=h.turn hg hm hb
 refine⟨w',G',hr,m',e',λp x=>(hin p x).trans ⟨?_,?_⟩,hb,λx hx=>(hsz x hx).elim (λh1=>⟨x,h1,Nat.le_refl _⟩) (λh1=>⟨g,hg,by rw [h1];unfold mX;exact List.length_filter_le _ _⟩)⟩
 ·rintro (⟨rfl,hx⟩|⟨hp,hx⟩)
  ·have hx':=lB.1 hx
   exact⟨⟨g,hg,rfl,hx'.1⟩,λh3=>hx'.2 h3.2⟩
  ·exact⟨hx,λh3=>hp h3.1⟩
 ·rintro ⟨hx,hn⟩
  by_cases hp:p=g.p
  ·subst hp
   obtain⟨g',hg',e,hx'⟩:=hx
   have:=h.same hg' hg e
   subst this;exact .inl ⟨rfl,lB.2 ⟨hx',λe=>hn ⟨rfl,e⟩⟩⟩
  ·exact .inr ⟨hp,hx⟩
end Go.Proofs.YtmhinfbkmjdgfaaGreatDoor.B
