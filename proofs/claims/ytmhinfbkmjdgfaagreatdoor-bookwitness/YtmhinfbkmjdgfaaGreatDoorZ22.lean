import Derived.Test.YtmhinfbkmjdgfaaGreatDoorZ17
set_option linter.unusedVariables false
set_option linter.unusedSimpArgs false
set_option maxRecDepth 100000
set_option maxHeartbeats 8000000
namespace Go.Proofs.YtmhinfbkmjdgfaaGreatDoor.B
open Go.RowKit
abbrev ca:Cp:=⟨1,0,5⟩
theorem ic:ca.eY:=⟨⟨by decide,by decide⟩,by decide,by decide⟩
theorem kZ:dm ca=true:=by decide
abbrev C1:List Value:=[ab 1,ab 0,ab 9,ab 0,ai 0,ai 0,.bool false,ab 0,ab 0,ab 0,.slice none 0 0,ab 0,.slice none 0 0]
abbrev C2:List Value:=[ab 7,ab 0,ab 0,ab 1,ai 0,ai 5,.bool false,ab 0,ab 0,ab 0,.slice none 0 0,ab 0,.slice none 0 0]
abbrev C3 (k:Nat):List Value:=[ab 9,ab 0,ab 0,ab 0,ai 0,ai 0,.bool false,ab 0,ab 0,ab 0,.slice none 0 0,ab 0,.slice (some ⟨k,0,none⟩) 1 1]
def Rg (b kx:Nat)(m:Bm):Prop:=(b<=m.g/\m.g<kx)/\(b<=m.bl/\m.bl<kx)/\(b<=m.bi/\m.bi<kx)/\(b<=m.bt/\m.bt<kx)/\(b<=m.bk/\m.bk<kx)
abbrev Fr (b kx:Nat)(w w':World):Prop:=aj (λj=>b<=j/\j<kx) w w'
def I5 (U:World)(b kx g:Nat)(m:Bm):Prop:=Bw U m/\Rg b kx m/\m.g=g/\m.n=1/\H6 m.L 1 0 5 ⟨0,5,0,5,31,1⟩ true/\m.I=[]/\∃kt ki s,m.T=[⟨0,ki,[(dk (bP ca),aq kt)]⟩]/\m.K=[⟨0,s,[ca]⟩]/\kq U kt 1 1 0 0 ca none
theorem J6 (b kx:Nat)(w:World)(h:Bw w (m0 b))(hk:b+6<=kx) :
  Calls Tryz.prog 38 #[.pointer (some ⟨b+5,0,none⟩),.agg C1.toArray,bR 0 ca ⟨none,0,0⟩ 0] w λe w'=>e=.returned (.tuple #[])/\(∃m,I5 w' b kx (b+5) m)/\Fr b kx w w':=by
 refine qe (m0 b) C1 0 0 ca ⟨none,0,0⟩ w h ic rfl rfl rfl (λg hg=>by cases hg) ⟨by show (0:Int)<=0;decide,by show (0:Int)<1000000;decide⟩ (λw'=>(∃m,I5 w' b kx (b+5) m)/\Fr b kx w w') (λV U k hk2 hbV hbU hbw=>?_)
 refine (pK (Bm.Jg { m0 b with n:=(m0 b).n+1 } k ca ca.h ca.l 31) 0 1 0 0 ca none U hbw ic kZ (by constructor<;>decide) (λg hg=>by cases hg) (λx hx=>by cases hx)).mono ?_
 rintro e w' ⟨rfl,kt,ki,s,hkt,hs,hw,hx,hty,hb⟩
 have fa:Rg b kx (m0 b):=⟨⟨by show b<=b+5;omega,by show b+5<kx;omega⟩,⟨by show b<=b;omega,by show b<kx;omega⟩,⟨by show b<=b+1;omega,by show b+1<kx;omega⟩,⟨by show b<=b+3;omega,by show b+3<kx;omega⟩,⟨by show b<=b+4;omega,by show b+4<kx;omega⟩⟩
 refine⟨rfl,⟨_,hw,fa,rfl,rfl,⟨⟨⟨1,k,[(jj 0 5,Tn.v ⟨0,5,0,5,31,1⟩)]⟩,by simp,rfl,by simp⟩,λh=>by cases h⟩,rfl,kt,ki,s,rfl,rfl,hty⟩,?_⟩
 exact ((hbV.mono (λj (hj:j=b+5)=>⟨by omega,by omega⟩)).trans (hbU.mono (λj (hj:j=b)=>⟨by omega,by omega⟩))).trans (hb.mono (λj (hj:j=b+3\/j=b+4)=>⟨by omega,by omega⟩))
def IQ (U:World)(b kx g:Nat)(m:Bm):Prop:=Bw U m/\Rg b kx m/\m.g=g/\m.n=2/\H6 m.L 1 0 5 ⟨0,5,0,5,31,1⟩ true/\(∃s,m.I=[⟨0,s,[ca]⟩])/\∃kt ki s,m.T=[⟨0,ki,[(dk (bP ca),aq kt)]⟩]/\m.K=[⟨0,s,[ca]⟩]/\kq U kt 1 1 0 0 ca none
theorem JL (b kx g:Nat)(m:Bm)(w:World)(h:I5 w b kx g m) :
  Calls Tryz.prog 38 #[aq g,.agg C2.toArray,bR 0 ⟨0,0,0⟩ ⟨none,0,0⟩ 0] w λe w'=>e=.returned (.tuple #[])/\(∃m,IQ w' b kx g m)/\Fr b kx w w':=by
 obtain⟨hbw,fa,rfl,hn,hL,hI,kt,ki,s,hT,hK,hty⟩:=h
 have hne:=nD hbw.cr
 have hS:∀j,j=m.bi->j<w.heap.size/\j≠m.g:=λj e=>⟨by rw [e];exact hbw.lo m.bi (by simp [Bm.aR]),λe2=>hne.2.2.1 (by omega)⟩
 refine qi m C2 0 0 ca ⟨0,0,0⟩ ⟨none,0,0⟩ w hbw rfl rfl rfl rfl rfl rfl (by omega) (λj=>j=m.bi) (λw'=>(∃m',IQ w' b kx m.g m')/\Fr b kx w w') hS (λU hUs hbU hw=>?_)
 have hnI:∀k∈({ m with n:=m.n+1 }:Bm).I,k.p≠0:=λk hk=>by have hk':k∈m.I:=hk;rw [hI] at hk';cases hk'
 obtain⟨l0,a',c',w7,w8,r7,r8,hw8,hb8,hb7,hnw⟩:=hw.nz (p:=0) (by constructor<;>decide) hnI ca
 refine⟨.slice none 0 0,.slice a' 1 c',w7,w8,λU' hU'=>((hw.later hU').nz (p:=0) (by constructor<;>decide) hnI ca).1,r7,r8,⟨⟨_,hw8,?_,rfl,?_,hL,⟨⟨a',1,c'⟩,?_⟩,kt,ki,s,hT,hK,?_⟩,?_⟩,hb8,aj.of hb7⟩
 ·exact fa
 ·show m.n+1=2;omega
 ·show m.I++_=_;rw [hI];rfl
 ·have h1:=hty.but hbU (hty.g hbw.bx)
  exact h1.but hb8 (h1.map hw.lists.out)
 ·obtain⟨h1,h2,h3,h4,h5⟩:=fa
  exact (hbU.mono (λj hj=>by subst hj;exact h1)).trans (hb8.mono (λj (hj:j=m.bi)=>by subst hj;exact h3))
def Jo (U:World)(b kx g:Nat)(m:Bm):Prop:=Bw U m/\Rg b kx m/\m.g=g/\m.n=3/\H6 m.L 1 0 5 ⟨0,5,0,5,31,1⟩ true/\∃kt ki s kt' ki' s',m.T=[⟨0,ki,[(dk (bP ca),aq kt)]⟩,⟨1,ki',[(dk (bP ca),aq kt')]⟩]/\m.K=[⟨0,s,[ca]⟩,⟨1,s',[ca]⟩]/\gK (λ_=>True) U (some ⟨kt',0,none⟩) [⟨3,4,0,1,ca⟩,⟨1,1,0,0,ca⟩]
theorem JF (b kx g gg:Nat)(m:Bm)(w:World)(h:IQ w b kx g m)(hgc:w.cell? ⟨gg,0,none⟩=some (ab 0))(hgg:kx<=gg) :
  Calls Tryz.prog 38 #[aq g,.agg (C3 gg).toArray,bR 0 ⟨0,0,0⟩ ⟨none,0,0⟩ 1] w λe w'=>e=.returned (.tuple #[])/\(∃m,Jo w' b kx g m)/\Fr b kx w w':=by
 obtain⟨hbw,fa,rfl,hn,hL,⟨s0,hI⟩,kt,ki,s,hT,hK,hty⟩:=h
 refine tE m (C3 gg) 1 ⟨0,0,0⟩ ⟨none,0,0⟩ w hbw rfl rfl (by omega) (λw'=>(∃m',Jo w' b kx m.g m')/\Fr b kx w w') (λU hUs hbU hw=>?_)
 have hgc':U.cell? ⟨gg,0,none⟩=some (ab 0):=by
  rw [World.cell?_of_block (w:=w) (hbU.block gg (World.block_lt_of_cell? _ _ hgc) (by have:=fa.1.2;omega))];exact hgc
 refine (E9 { m with n:=m.n+1 } (C3 gg) 0 1 ca ⟨0,0,0⟩ ⟨none,0,0⟩ gg 1 kt ⟨0,s0,[ca]⟩ U hw ic kZ rfl rfl rfl hgc' (by constructor<;>decide) (by constructor<;>decide) (by show _∈m.I;rw [hI];simp) rfl rfl (by show Gt m.T _ _ _;rw [hT];exact⟨_,List.mem_singleton.2 rfl,rfl,List.mem_singleton.2 rfl⟩) (λg hg=>by have hg':g∈m.T:=hg;rw [hT] at hg';rw [List.mem_singleton.1 hg'];show (0:Int)≠1;decide) (λg hg=>by have hg':g∈m.K:=hg;rw [hK] at hg';rw [List.mem_singleton.1 hg'];show (0:Int)≠1;decide) (λg hg=>by have hg':g∈m.I:=hg;rw [hI] at hg';rw [List.mem_singleton.1 hg'];show (0:Int)≠1;decide)).mono ?_
 rintro e w' ⟨rfl,kt',ki',s',s'',hw',hty',hb⟩
 have h1:=hty.but hbU (hty.g hbw.bx)
 have h2:kq w' kt 1 1 0 0 ca none:=h1.but hb (λhj=>by
  rcases hj with hj|hj|hj
  ·exact h1.map hw.told.out hj
  ·exact h1.map hw.known.out hj
  ·exact h1.map hw.lists.out hj)
 refine⟨rfl,⟨_,hw',fa,rfl,?_,hL,kt,ki,s,kt',ki',s',?_,?_,⟨kt',some ⟨kt,0,none⟩,rfl,trivial,?_,kt,none,rfl,trivial,h2,rfl⟩⟩,?_⟩
 ·show m.n+1=3;omega
 ·show m.T++_=_;rw [hT];rfl
 ·show m.K++_=_;rw [hK];rfl
 ·have:kq w' kt' (m.n+1) 4 0 1 ca (some ⟨kt,0,none⟩):=hty'
  rw [hn] at this;exact this
 ·obtain⟨h1,h2,h3,h4,h5⟩:=fa
  exact (hbU.mono (λj hj=>by subst hj;exact h1)).trans (hb.mono (λj (hj:j=m.bt\/j=m.bk\/j=m.bi)=>by rcases hj with rfl|rfl|rfl;exact h4;exact h5;exact h3))
theorem zw {w:World}{cs:List Value}(hl:cs.length=3):Ow (w.alloc (Obj.cells cs.toArray 37)) 0 37 3 (some ⟨w.heap.size,0,none⟩) 1 1 cs:=⟨by rw [hl],.inr ⟨w.heap.size,1,cs.toArray,rfl,Nat.zero_le _,Array.getElem?_push_size,Nat.le_refl _,by unfold maxLen;omega,by simp [hl],by simp [List.take_of_length_le (Nat.le_of_eq hl)]⟩⟩
abbrev C4:List Value:=[ab 10,ab 0,ab 0,ab 0,ai 0,ai 0,.bool false,ab 0,ab 0,ab 0,.slice none 0 0,ab 0,.slice none 0 0]
abbrev C5:List Value:=[ab 5,ab 2,ab 0,ab 1,ai 0,ai 5,.bool true,ab 0,ab 0,ab 0,.slice none 0 0,ab 0,.slice none 0 0]
theorem nL (w:World):Calls Tryz.prog 28 #[] w λe w'=>e=.returned (.bool true)/\Below w.heap.size w w':=by
 have PA:=ae (py w)
 obtain⟨b,hb⟩:∃b,b=w.heap.size:=⟨_,rfl⟩
 rw [<-hb] at PA ⊢
 have Qj:=ae hb
 clear hb;go_enter Tryz.func28,Tryz.ntmps28
 go_upto_region 2 with (first|(go_at_call 26;refine PA.out.mono ?_;rintro x w1 ⟨rfl,hw1,hb1⟩;have SS:=ae hw1;have OI:=ae hb1;clear hw1 hb1))
 go_upto_region 5 with fail
 obtain⟨V1,hV1⟩:∃V,V=w1.alloc (Obj.cells #[ab 1,ai 0,ai 5] 37):=⟨_,rfl⟩
 rw [<-hV1];obtain⟨kx,hkx⟩:∃k,k=w1.heap.size:=⟨_,rfl⟩
 rw [<-hkx];have hb2:Below w1.heap.size w1 V1:=by rw [hV1];exact ag _ _
 have OL:Hid (Bx V1 kx [ab 1,ai 0,ai 5]):=by rw [hkx,hV1];exact Bx.new w1 [ab 1,ai 0,ai 5] _
 have HK:Hid (b+6<=kx):=by have:=SS.out.lo (b+5) (by simp [Bm.aR]);unfold Hid;omega
 have TV:Hid (Below b w V1):=by have h1:=OI.out;rw [Qj.out] at h1 ⊢;exact aa h1 hb2
 have Sd:=ae (J6 b kx V1 (SS.out.later hb2) HK.out)
 clear hV1 hkx hb2;have c0:=OL.out.cell 0 rfl
 have c1:=OL.out.cell 1 rfl
 have c2:=OL.out.cell 2 rfl
 go_upto_region 6 with (first|(go_at_call 38;refine Sd.out.mono ?_;rintro x V2 ⟨rfl,⟨m1,hm1⟩,hf1⟩;have Sv:=ae hm1;have UX:=ae hf1;clear hm1 hf1))
 clear c0 c1 c2;have OZ:=ae (OL.out.but UX.out (by omega))
 have Qa:=ae (JL b kx (b+5) m1 V2 Sv.out)
 have c0:=OZ.out.cell 0 rfl
 have c1:=OZ.out.cell 1 rfl
 have c2:=OZ.out.cell 2 rfl
 have TN:Hid (Below b w V2):=by have h1:=TV.out;rw [Qj.out] at h1 ⊢;exact aj.below h1 UX.out (λk hk=>by have:=hk.1;have:=Qj.out;omega)
 go_upto_region 7 with (first|(go_at_call 38;refine Qa.out.mono ?_;rintro x V3 ⟨rfl,⟨m2,hm2⟩,hf2⟩;have WM:=ae hm2;have VE:=ae hf2;clear hm2 hf2))
 clear c0 c1 c2;have Pw:=ae (OZ.out.but VE.out (by omega))
 have Tq:Hid (Below b w V3):=by have h1:=TN.out;rw [Qj.out] at h1 ⊢;exact aj.below h1 VE.out (λk hk=>by have:=hk.1;have:=Qj.out;omega)
 have XC:Hid (kx<V3.heap.size):=Pw.out.lt (by simp)
 have SO:=ae (Pw.out.later (ag V3 (Obj.cells #[ab 0] 3)))
 have RA:Hid (Below b w (V3.alloc (Obj.cells #[ab 0] 3))):=by have h1:=Tq.out;rw [Qj.out] at h1 ⊢;exact aa h1 (ag _ _)
 have WT:=ae (JF b kx (b+5) V3.heap.size m2 (V3.alloc (Obj.cells #[ab 0] 3)) (by
  obtain⟨hbw,r1,r2,r3,r4,r5,kt,ki,s,h1,h2,h3⟩:=WM.out
  exact⟨hbw.later (ag _ _),r1,r2,r3,r4,r5,kt,ki,s,h1,h2,h3.but (S:=λ_=>False) (aj.of (ag _ _)) (λh=>h)⟩) (by simp [go_sem]) (Nat.le_of_lt XC.out))
 go_upto_region 8 with (first|(go_at_call 38;refine WT.out.mono ?_;rintro x V4 ⟨rfl,⟨m3,hm3⟩,hf3⟩;have SJ:=ae hm3;have U3:=ae hf3;clear hm3 hf3))
 have Qb:=ae (SO.out.but U3.out (by omega))
 have VP:Hid (Below b w V4):=by have h1:=RA.out;rw [Qj.out] at h1 ⊢;exact aj.below h1 U3.out (λk hk=>by have:=hk.1;have:=Qj.out;omega)
 clear Sv WM Sd Qa WT OL OZ Pw SO TV TN Tq RA UX VE U3 PA SS OI;obtain⟨hbw,-,hg5,hn3,hL,kt,ki,s,kt',ki',s',hT,hKn,hTl⟩:=SJ.out
 have Tc:=ae (Dc m3 1 ca (some (aq kt')) (some ⟨kt',0,none⟩) [⟨3,4,0,1,ca⟩,⟨1,1,0,0,ca⟩] V4 hbw ic kZ (by constructor<;>decide) (by rw [hT];exact⟨_,List.mem_cons_of_mem _ (List.mem_singleton.2 rfl),rfl,List.mem_singleton.2 rfl⟩) rfl hTl (by simp))
 have WS:=ae (λ(U:World) (hU:Below V4.heap.size V4 U)=>g6 m3 ca ⟨0,5,0,5,31,1⟩ true U (hbw.later hU) ic hL)
 have O6:=ae (λ(U:World) (hU:Below V4.heap.size V4 U)=>(vC m3 U (hbw.later hU)).mono (R':=λe w'=>e=.returned (ab m3.n)/\Below U.heap.size U w') (λe w' h=>⟨h.1,by rw [h.2];exact Below.refl _ _⟩))
 have Wa:=ae (λ(U:World) (hU:Below V4.heap.size V4 U)=>pM m3 0 ca (some (aq kt)) U (hbw.later hU) ic kZ (by constructor<;>decide) (by rw [hT];exact⟨_,List.mem_cons_self,rfl,List.mem_singleton.2 rfl⟩))
 have OO:=ae (λ(U:World) (hU:Below V4.heap.size V4 U)=>pM m3 2 ca none U (hbw.later hU) ic kZ (by constructor<;>decide) (λg hg e=>by rw [hT] at hg;simp at hg;rcases hg with rfl|rfl<;>simp at e))
 have hkm:(⟨1,s',[ca]⟩:Kn)∈m3.K:=by rw [hKn];simp
 have hkl:s'.n=1:=(hbw.known.each _ hkm).2.symm
 have Su:=ae (λ(U:World) (hU:Below V4.heap.size V4 U)=>ve m3 ⟨1,s',[ca]⟩ U (hbw.later hU) hkm (by simp only;omega) (by simp only;omega))
 have UW:=ae (λ(U:World)=>wj m3 C4 10 false U rfl rfl rfl (by decide))
 have Qy:=ae (λ(U:World) (hU:Below V4.heap.size V4 U)=>rS m3 C5 5 2 true false ca U rfl rfl rfl rfl rfl rfl rfl (by decide) (λU' hU'=>OO.out U' (aa hU hU')))
 simp only [hkl] at Su;rw [hg5] at Tc WS O6 Wa OO Su UW Qy;rw [hn3] at O6;clear hbw hg5 hn3 hL hT hKn hTl hkm hkl SJ;have c0:=Qb.out.cell 0 rfl
 have c1:=Qb.out.cell 1 rfl
 have c2:=Qb.out.cell 2 rfl
 go_upto_region 9 with (first|(go_at_call 32;refine Tc.out.mono ?_;rintro x w5 ⟨al,clc,rfl,hol,hb5⟩;have WG:=ae hol;have OS:=ae hb5;clear hol hb5))
 clear c0 c1 c2;have TY:=ae (Qb.out.later OS.out)
 have c0:=TY.out.cell 0 rfl
 have c1:=TY.out.cell 1 rfl
 have c2:=TY.out.cell 2 rfl
 go_upto_region 10 with (first|(go_at_call 86;refine (WS.out _ OS.out).mono ?_;rintro x w6 ⟨rfl,hb6⟩;have O7:=ae hb6;clear hb6))
 clear c0 c1 c2;have TF:=ae (TY.out.later O7.out)
 obtain⟨gl,rfl⟩:=WG.out.cJ (by simp)
 have Ul:Hid (w6.rangeAt gl 0 [ab 1,ab 1,ab 0,ab 0,ab 1,ai 0,ai 5,ab 3,ab 4,ab 0,ab 1,ab 1,ai 0,ai 5]):=(WG.out.later O7.out).cells rfl
 have QY:Hid (Below V4.heap.size V4 w6):=aa OS.out O7.out
 have WE:Hid (Below b w w6):=by have h1:=VP.out;rw [Qj.out] at h1 ⊢;exact aa h1 QY.out
 have HS:Hid (∀U,Below w6.heap.size w6 U->(U.rangeAt kx 0 [ab 1,ai 0,ai 5]/\U.rangeAt gl 0 [ab 1,ab 1,ab 0,ab 0,ab 1,ai 0,ai 5,ab 3,ab 4,ab 0,ab 1,ab 1,ai 0,ai 5])):=λU hU=>⟨(TF.out.later hU).range,dA hU Ul.out⟩
 simp only [List.append];refine wp_region_held_drew (S:=(λU:World=>U.rangeAt kx 0 [ab 1,ai 0,ai 5]/\U.rangeAt gl 0 [ab 1,ab 1,ab 0,ab 0,ab 1,ai 0,ai 5,ab 3,ab 4,ab 0,ab 1,ab 1,ai 0,ai 5])) (by kernel_rfl) (HS.out _ (Below.refl _ _).drew) (λhHeld=>?_)
 refine nm 70 0 70 ?_
 refine tn 0 70 1 69 ?_
 simp only [zz];refine zr 1 λK hK=>?_
 go_simp
 go_wp2_with (first|(go_at_call 87;refine (O6.out _ (aa QY.out ((Below.refl _ _).drew))).mono ?_;rintro e y1 ⟨rfl,hb1⟩))
 have OI:Hid (Below w6.heap.size w6 y1):=aa ((Below.refl _ _).drew) hb1
 clear hb1;refine zk hK 70 3 68 (HS.out _ OI.out) λhHeld=>?_
 clear hK K;try simp only [zz]
 refine tn 2 70 7 67 ?_
 simp only [zz];refine tn 3 70 15 66 ?_
 simp only [zz];refine tn 4 70 31 65 ?_
 simp only [zz];refine tn 5 70 63 64 ?_
 simp only [zz];refine tn 6 70 127 63 ?_
 simp only [zz];refine tn 7 70 255 62 ?_
 simp only [zz];refine tn 8 70 511 61 ?_
 simp only [zz];refine tn 9 70 1023 60 ?_
 simp only [zz];refine tn 10 70 2047 59 ?_
 simp only [zz];refine tn 11 70 4095 58 ?_
 simp only [zz];refine tn 12 70 8191 57 ?_
 simp only [zz];refine tn 13 70 16383 56 ?_
 simp only [zz];refine tn 14 70 32767 55 ?_
 simp only [zz];refine tn 15 70 65535 54 ?_
 simp only [zz];refine tn 16 70 131071 53 ?_
 simp only [zz];refine tn 17 70 262143 52 ?_
 simp only [zz];refine tn 18 70 524287 51 ?_
 simp only [zz];refine tn 19 70 1048575 50 ?_
 simp only [zz];refine tn 20 70 2097151 49 ?_
 simp only [zz];refine tn 21 70 4194303 48 ?_
 simp only [zz];refine wpAnyH_take (i:=22) (oi:=_) (v:=?_) rfl (by kernel_rfl) (by kernel_rfl) (by kernel_rfl) (λ_ _ _ h=>h) (Or.inl ⟨by rfl,?_⟩) (by assumption) ?_
 rotate_left
 ·(intro w hSw;have z0:=aG (j:=8) hSw.2 rfl;go_simp;try with_reducible rfl)
 simp only [zz];refine nm 70 8388607 47 ?_
 refine tn 23 70 16777215 46 ?_
 simp only [zz];refine tn 24 70 33554431 45 ?_
 simp only [zz];refine tn 25 70 67108863 44 ?_
 simp only [zz];refine tn 26 70 134217727 43 ?_
 simp only [zz];refine tn 27 70 268435455 42 ?_
 simp only [zz];refine tn 28 70 536870911 41 ?_
 simp only [zz];refine wpAnyH_take (i:=29) (oi:=_) (v:=?_) rfl (by kernel_rfl) (by kernel_rfl) (by kernel_rfl) (λ_ _ _ h=>h) (Or.inl ⟨by rfl,?_⟩) (by assumption) ?_
 rotate_left
 ·(intro w hSw;have z0:=aG (j:=10) hSw.2 rfl;go_simp;try with_reducible rfl)
 simp only [zz];refine nm 70 1073741823 40 ?_
 refine tn 30 70 2147483647 39 ?_
 simp only [zz];refine tn 31 70 4294967295 38 ?_
 simp only [zz];refine tn 32 70 8589934591 37 ?_
 simp only [zz];refine tn 33 70 17179869183 36 ?_
 simp only [zz];refine tn 34 70 34359738367 35 ?_
 simp only [zz];refine tn 35 70 68719476735 34 ?_
 simp only [zz];refine wpAnyH_take (i:=36) (oi:=_) (v:=?_) rfl (by kernel_rfl) (by kernel_rfl) (by kernel_rfl) (λ_ _ _ h=>h) (Or.inl ⟨by rfl,?_⟩) (by assumption) ?_
 rotate_left
 ·(intro w hSw;have z0:=aG (j:=7) hSw.2 rfl;go_simp;try with_reducible rfl)
 simp only [zz];refine nm 70 137438953471 33 ?_
 refine tn 37 70 274877906943 32 ?_
 simp only [zz];refine tn 38 70 549755813887 31 ?_
 simp only [zz];refine tn 39 70 1099511627775 30 ?_
 simp only [zz];refine tn 40 70 2199023255551 29 ?_
 simp only [zz];refine wpAnyH_take (i:=41) (oi:=_) (v:=?_) rfl (by kernel_rfl) (by kernel_rfl) (by kernel_rfl) (λ_ _ _ h=>h) (Or.inl ⟨by rfl,?_⟩) (by assumption) ?_
 rotate_left
 ·(intro w hSw;have z0:=aG (j:=0) hSw.1 rfl;have z1:=aG (j:=1) hSw.1 rfl;have z2:=aG (j:=2) hSw.1 rfl;go_simp;try with_reducible rfl)
 simp only [zz];refine nm 70 4398046511103 28 ?_
 refine zr 42 λK hK=>?_
 go_simp
 go_wp2_with (first|(go_at_call 30;refine (Wa.out _ (aa QY.out (OI.out))).mono ?_;rintro e y2 ⟨rfl,hb2⟩))
 have OH:Hid (Below w6.heap.size w6 y2):=aa (OI.out) hb2
 clear hb2;refine zk hK 70 8796093022207 27 (HS.out _ OH.out) λhHeld=>?_
 clear hK K;try simp only [zz]
 refine tn 43 70 17592186044415 26 ?_
 simp only [zz];refine tn 44 70 35184372088831 25 ?_
 simp only [zz];refine tn 45 70 70368744177663 24 ?_
 simp only [zz];refine wpAnyH_take (i:=47) (oi:=_) (v:=?_) rfl (by kernel_rfl) (by kernel_rfl) (by kernel_rfl) (λ_ _ _ h=>h) (Or.inl ⟨by rfl,?_⟩) (by assumption) ?_
 rotate_left
 ·(intro w hSw;have z0:=aG (j:=0) hSw.1 rfl;have z1:=aG (j:=1) hSw.1 rfl;have z2:=aG (j:=2) hSw.1 rfl;go_simp;try with_reducible rfl)
 simp only [zz];refine nm 70 211106232532991 23 ?_
 refine wpAnyH_ready (rs:=[46,48]) (by kernel_rfl) (by simp) ?_
 refine AllReadyH.cons rfl (λK hK=>?_) ?_
 ·go_simp
  go_wp2_with (first|(go_at_call 89;refine (Su.out _ (aa QY.out (OH.out))).mono ?_;rintro e y3 ⟨ak,ck,rfl,hok,hb3⟩))
  have XV:=ae hok
  have OJ:Hid (Below w6.heap.size w6 y3):=aa OH.out hb3
  clear hok hb3;refine zk hK 70 281474976710655 22 (HS.out _ OJ.out) λhHeld=>?_
  clear hK K;try simp only [zz]
  refine zr 48 λK hK=>?_
  go_simp
  obtain⟨Vb,hVb⟩:∃V,V=y3.alloc (Obj.cells #[ab 1,ai 0,ai 5] 37):=⟨_,rfl⟩
  rw [<-hVb];obtain⟨kb,hkb⟩:∃k,k=y3.heap.size:=⟨_,rfl⟩
  rw [<-hkb];have hbb:Below y3.heap.size y3 Vb:=by rw [hVb];exact ag _ _
  have Tl:Hid (Ow Vb 0 37 3 (some ⟨kb,0,none⟩) 1 1 (aU [ca])):=by rw [hkb,hVb];exact zw (cs:=[ab 1,ai 0,ai 5]) rfl
  have RO:=ae (XV.out.later hbb)
  have QP:Hid (Below w6.heap.size w6 Vb):=aa OJ.out hbb
  clear hVb hkb hbb;refine zk hK 70 562949953421311 21 (HS.out _ QP.out) λhHeld=>?_
  clear hK K;try simp only [zz]
  refine zr 49 λK hK=>?_
  go_simp
  go_wp2_with (first|(go_at_call 88;refine (oq RO.out Tl.out rfl (by omega)).mono ?_;rintro e y4 ⟨rfl,hb4⟩))
  have OM:Hid (Below w6.heap.size w6 y4):=aa QP.out hb4
  clear hb4;refine zk hK 70 1125899906842623 20 (HS.out _ OM.out) λhHeld=>?_
  clear hK K;try simp only [zz]
  refine tn 50 70 2251799813685247 19 ?_
  simp only [zz];refine tn 51 70 4503599627370495 18 ?_
  simp only [zz];refine tn 52 70 9007199254740991 17 ?_
  simp only [zz];refine wpAnyH_take (i:=53) (oi:=_) (v:=?_) rfl (by kernel_rfl) (by kernel_rfl) (by kernel_rfl) (λ_ _ _ h=>h) (Or.inl ⟨by rfl,?_⟩) (by assumption) ?_
  rotate_left
  ·(intro w hSw;have z0:=aG (j:=0) hSw.1 rfl;have z1:=aG (j:=1) hSw.1 rfl;have z2:=aG (j:=2) hSw.1 rfl;go_simp;try with_reducible rfl)
  simp only [zz];refine nm 70 18014398509481983 16 ?_
  refine zr 54 λK hK=>?_
  go_simp
  go_wp2_with (first|(go_at_call 30;refine (OO.out _ (aa QY.out (OM.out))).mono ?_;rintro e y5 ⟨rfl,hb5⟩))
  have Qx:Hid (Below w6.heap.size w6 y5):=aa (OM.out) hb5
  clear hb5;refine zk hK 70 36028797018963967 15 (HS.out _ Qx.out) λhHeld=>?_
  clear hK K;try simp only [zz]
  refine tn 55 70 72057594037927935 14 ?_
  simp only [zz];refine tn 56 70 144115188075855871 13 ?_
  simp only [zz];refine tn 57 70 288230376151711743 12 ?_
  simp only [zz];refine tn 58 70 576460752303423487 11 ?_
  simp only [zz];refine tn 59 70 1152921504606846975 10 ?_
  simp only [zz];refine zr 60 λK hK=>?_
  go_simp
  go_wp2_with (first|(go_at_call 33;refine (UW.out _).mono ?_;rintro e y6 ⟨rfl,hb6⟩))
  have P2:Hid (Below w6.heap.size w6 y6):=aa Qx.out hb6
  clear hb6;refine zk hK 70 2305843009213693951 9 (HS.out _ P2.out) λhHeld=>?_
  clear hK K;try simp only [zz]
  refine tn 61 70 4611686018427387903 8 ?_
  simp only [zz];refine tn 62 70 9223372036854775807 7 ?_
  simp only [zz];refine tn 63 70 18446744073709551615 6 ?_
  simp only [zz];refine wpAnyH_take (i:=64) (oi:=_) (v:=?_) rfl (by kernel_rfl) (by kernel_rfl) (by kernel_rfl) (λ_ _ _ h=>h) (Or.inl ⟨by rfl,?_⟩) (by assumption) ?_
  rotate_left
  ·(intro w hSw;have z0:=aG (j:=0) hSw.1 rfl;have z1:=aG (j:=1) hSw.1 rfl;have z2:=aG (j:=2) hSw.1 rfl;go_simp;try with_reducible rfl)
  simp only [zz];refine nm 70 36893488147419103231 5 ?_
  refine tn 65 70 73786976294838206463 4 ?_
  simp only [zz];refine zr 66 λK hK=>?_
  go_simp
  go_wp2_with (first|(go_at_call 33;refine (Qy.out _ (aa QY.out P2.out)).mono ?_;rintro e y7 ⟨rfl,hb7⟩))
  have PR:Hid (Below w6.heap.size w6 y7):=aa P2.out hb7
  clear hb7;refine zk hK 70 147573952589676412927 3 (HS.out _ PR.out) λhHeld=>?_
  clear hK K;try simp only [zz]
  refine tn 67 70 295147905179352825855 2 ?_
  simp only [zz];refine tn 68 70 590295810358705651711 1 ?_
  simp only [zz];refine tn 69 70 1180591620717411303423 0 ?_
  simp only [zz];refine zn ?_ _
  go_wp2;go_ret;exact⟨rfl,by have h1:=WE.out;rw [Qj.out] at h1 ⊢;exact aa h1 PR.out⟩
 refine AllReadyH.cons rfl (λK hK=>?_) AllReadyH.nil
 go_simp
 obtain⟨Vb0,hVb⟩:∃V,V=y2.alloc (Obj.cells #[ab 1,ai 0,ai 5] 37):=⟨_,rfl⟩
 rw [<-hVb];obtain⟨kb,hkb⟩:∃k,k=y2.heap.size:=⟨_,rfl⟩
 rw [<-hkb];have Ut:Hid (Ow Vb0 0 37 3 (some ⟨kb,0,none⟩) 1 1 (aU [ca])):=by rw [hkb,hVb];exact zw (cs:=[ab 1,ai 0,ai 5]) rfl
 have R5:Hid (Below w6.heap.size w6 Vb0):=by rw [hVb];exact aa OH.out (ag _ _)
 clear hVb hkb;refine zk hK 70 492581209243647 22 (HS.out _ R5.out) λhHeld=>?_
 clear hK K;try simp only [zz]
 refine zr 46 λK hK=>?_
 go_simp
 go_wp2_with (first|(go_at_call 89;refine (Su.out _ (aa QY.out (R5.out))).mono ?_;rintro e y3 ⟨ak,ck,rfl,hok,hb3⟩))
 obtain⟨Vb,hVe⟩:∃V,V=y3:=⟨_,rfl⟩
 rw [<-hVe];have RO:Hid (Ow Vb Vb0.heap.size 37 3 ak 1 ck (aU [ca])):=by rw [hVe];exact hok
 have Tl:Hid (Ow Vb 0 37 3 (some ⟨kb,0,none⟩) 1 1 (aU [ca])):=by rw [hVe];exact Ut.out.later hb3
 have QP:Hid (Below w6.heap.size w6 Vb):=by rw [hVe];exact aa R5.out hb3
 clear hok hb3 hVe y3;refine zk hK 70 562949953421311 21 (HS.out _ QP.out) λhHeld=>?_
 clear hK K;try simp only [zz]
 refine zr 49 λK hK=>?_
 go_simp
 go_wp2_with (first|(go_at_call 88;refine (oq RO.out Tl.out rfl (by omega)).mono ?_;rintro e y4 ⟨rfl,hb4⟩))
 have OM:Hid (Below w6.heap.size w6 y4):=aa QP.out hb4
 clear hb4;refine zk hK 70 1125899906842623 20 (HS.out _ OM.out) λhHeld=>?_
 clear hK K;try simp only [zz]
 refine tn 50 70 2251799813685247 19 ?_
 simp only [zz];refine tn 51 70 4503599627370495 18 ?_
 simp only [zz];refine tn 52 70 9007199254740991 17 ?_
 simp only [zz];refine wpAnyH_take (i:=53) (oi:=_) (v:=?_) rfl (by kernel_rfl) (by kernel_rfl) (by kernel_rfl) (λ_ _ _ h=>h) (Or.inl ⟨by rfl,?_⟩) (by assumption) ?_
 rotate_left
 ·(intro w hSw;have z0:=aG (j:=0) hSw.1 rfl;have z1:=aG (j:=1) hSw.1 rfl;have z2:=aG (j:=2) hSw.1 rfl;go_simp;try with_reducible rfl)
 simp only [zz];refine nm 70 18014398509481983 16 ?_
 refine zr 54 λK hK=>?_
 go_simp
 go_wp2_with (first|(go_at_call 30;refine (OO.out _ (aa QY.out (OM.out))).mono ?_;rintro e y5 ⟨rfl,hb5⟩))
 have Qx:Hid (Below w6.heap.size w6 y5):=aa (OM.out) hb5
 clear hb5;refine zk hK 70 36028797018963967 15 (HS.out _ Qx.out) λhHeld=>?_
 clear hK K;try simp only [zz]
 refine tn 55 70 72057594037927935 14 ?_
 simp only [zz];refine tn 56 70 144115188075855871 13 ?_
 simp only [zz];refine tn 57 70 288230376151711743 12 ?_
 simp only [zz];refine tn 58 70 576460752303423487 11 ?_
 simp only [zz];refine tn 59 70 1152921504606846975 10 ?_
 simp only [zz];refine zr 60 λK hK=>?_
 go_simp
 go_wp2_with (first|(go_at_call 33;refine (UW.out _).mono ?_;rintro e y6 ⟨rfl,hb6⟩))
 have P2:Hid (Below w6.heap.size w6 y6):=aa Qx.out hb6
 clear hb6;refine zk hK 70 2305843009213693951 9 (HS.out _ P2.out) λhHeld=>?_
 clear hK K;try simp only [zz]
 refine tn 61 70 4611686018427387903 8 ?_
 simp only [zz];refine tn 62 70 9223372036854775807 7 ?_
 simp only [zz];refine tn 63 70 18446744073709551615 6 ?_
 simp only [zz];refine wpAnyH_take (i:=64) (oi:=_) (v:=?_) rfl (by kernel_rfl) (by kernel_rfl) (by kernel_rfl) (λ_ _ _ h=>h) (Or.inl ⟨by rfl,?_⟩) (by assumption) ?_
 rotate_left
 ·(intro w hSw;have z0:=aG (j:=0) hSw.1 rfl;have z1:=aG (j:=1) hSw.1 rfl;have z2:=aG (j:=2) hSw.1 rfl;go_simp;try with_reducible rfl)
 simp only [zz];refine nm 70 36893488147419103231 5 ?_
 refine tn 65 70 73786976294838206463 4 ?_
 simp only [zz];refine zr 66 λK hK=>?_
 go_simp
 go_wp2_with (first|(go_at_call 33;refine (Qy.out _ (aa QY.out P2.out)).mono ?_;rintro e y7 ⟨rfl,hb7⟩))
 have PR:Hid (Below w6.heap.size w6 y7):=aa P2.out hb7
 clear hb7;refine zk hK 70 147573952589676412927 3 (HS.out _ PR.out) λhHeld=>?_
 clear hK K;try simp only [zz]
 refine tn 67 70 295147905179352825855 2 ?_
 simp only [zz];refine tn 68 70 590295810358705651711 1 ?_
 simp only [zz];refine tn 69 70 1180591620717411303423 0 ?_
 simp only [zz];refine zn ?_ _
 go_wp2;go_ret;exact⟨rfl,by have h1:=WE.out;rw [Qj.out] at h1 ⊢;exact aa h1 PR.out⟩
end Go.Proofs.YtmhinfbkmjdgfaaGreatDoor.B
