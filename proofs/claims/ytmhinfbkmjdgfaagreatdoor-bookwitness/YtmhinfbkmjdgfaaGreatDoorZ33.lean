import Derived.Defers
import Derived.Test.YtmhinfbkmjdgfaaGreatDoorZ32
import Derived.Test.YtmhinfbkmjdgfaaGreatDoorZ13
set_option linter.unusedVariables false
set_option linter.unusedSimpArgs false
set_option maxRecDepth 100000
set_option maxHeartbeats 4000000
namespace Go.Proofs.YtmhinfbkmjdgfaaGreatDoor.V
open Go.RowKit
open Go.Proofs.YtmhinfbkmjdgfaaGreatDoor.H (az Cp)
section
variable {w w':World}{H:Hd}{s s':bc}{d d':Nat->List K.Pu}{O:Nat->Nat->Prop}{N:Nat->Prop}{c:R.Cl}{dd gg:R.Sl}{b:Nat}
theorem vO (h:bB w H s d N)(hf:KF H.p s)(hm:S.eW H.z.room H.z.n s.nx s.V c.size≠0) :
  Calls Tryz.prog 135 #[aq H.kb,.agg (R.cC c dd gg).toArray] w λe w'=>e=.returned (bR (rep (S.eW H.z.room H.z.n s.nx s.V c.size)) none 0 0)/\Below w.heap.size w w':=by
 obtain⟨W,hW⟩:∃W,W=(w.alloc (Obj.cells (R.cC c dd gg).toArray 44)).alloc z6:=⟨_,rfl⟩
 have hB:Below w.heap.size w W:=by rw [hW];exact aB _ _ _
 have hX:R.Bx W w.heap.size (R.cC c dd gg):=by rw [hW];exact R.Bx.later (ag _ _) (R.Bx.new w (R.cC c dd gg) 44)
 have hZ:Zr W (w.heap.size+1):=by rw [hW];have:=Zr.new (w.alloc (Obj.cells (R.cC c dd gg).toArray 44));simpa using this
 have h2:=h.later hB
 have HC:=ae (λ(U:World) (hU:Below W.heap.size W U)=>Fj (h2.later hU) c.size)
 have HS:Hid (∀U {s d},bB U H s d N->aj N W U->U.cell? ⟨H.kb,11,none⟩=some (aq H.z.s)/\U.cell? ⟨w.heap.size,2,none⟩=some (ab c.size)):=λU s d hd hb=>by
  have:=Cb.of (R.Bx.but hb hX (h.new (Nat.le_refl _)))
  exact⟨hd.kb 11 _ rfl,this.c2⟩
 have H0:=ae (λU (hU:aj (λ_=>False) W U)=>HS.out U (h2.but hU (λ_ _ h=>h) (λh=>h)) (hU.mono (λ_ h=>h.elim)))
 generalize S.eW H.z.room H.z.n s.nx s.V c.size=m at *
 have hq:(m != 0)=true:=by simpa using hm
 have HW:=ae hW
 have HB:=ae hB
 have HX:=ae hX
 have HZ:=ae hZ
 have HD:=ae h2
 have HP:Hid (0<w.heap.size):=by have:=h.b0;unfold Hid;omega
 have HN:=ae (λk hk=>h.new (k:=k) hk)
 clear h h2 hB hX hZ hW hm hf;go_enter Tryz.func135,Tryz.ntmps135
 go_upto_region 1 with fail
 rw [<-HW.out];go_region_held3 (λU=>U.cell? ⟨H.kb,11,none⟩=some (aq H.z.s)/\U.cell? ⟨w.heap.size,2,none⟩=some (ab c.size)) (first|exact H0.out _ (aj.of (Below.refl _ _).drew)|exact HE.out) (first
   | (go_at_call 222;refine (HC.out _ (Below.refl _ _).drew).mono ?_;rintro e w1 ⟨rfl,hb_⟩;have OI:Hid (Below W.heap.size W w1):=aa (Below.refl _ _).drew hb_;have HE:=ae (H0.out w1 (aj.of OI.out));clear hb_))
 have HR:=ae (bN m w1)
 go_upto_region 3 with fail
 go_upto_region 4 with (first|(go_at_call 61;refine HR.out.mono ?_;rintro e w2 ⟨rfl,hb2⟩;have OH:Hid (Below W.heap.size W w2):=aa OI.out hb2;have OY:=ae (HZ.out.later OH.out);have O3:=ae (OY.out.st (rep m) none 0 0);have Pc:=ae (OY.out.lv (rep m) none 0 0);clear hb2)|((with_reducible refine a_ O3.out ?_ ?_ ?_);(· rfl);(· rfl)))
 have OU:Hid (aj (·=w.heap.size+1) w2 (w2.setCells (w.heap.size+1) 0 (aZ (rep m) none 0 0))):=R.au (S:=(·=w.heap.size+1)) rfl _ 0 (aj.refl _ _)
 exact bodyPost_ret (v:=bR (rep m) none 0 0) (by simp [results,Tryz.results135,asAddr,Pc.out]) rfl ⟨rfl,aj.below (aa HB.out OH.out) OU.out (λk e=>by omega)⟩
theorem tC (h:bB w H s d N)(hf:KF H.p s)(hm:S.eW H.z.room H.z.n s.nx s.V c.size=0)(hr:(D.bH H.p.d s.d s.nx).code≠0) :
  Calls Tryz.prog 135 #[aq H.kb,.agg (R.cC c dd gg).toArray] w λe w'=>e=.returned (bR (rep (D.bH H.p.d s.d s.nx).code) none 0 0)/\bB w' H (jA s (D.bH H.p.d s.d s.nx).s) d N/\aj N w w':=by
 obtain⟨W,hW⟩:∃W,W=(w.alloc (Obj.cells (R.cC c dd gg).toArray 44)).alloc z6:=⟨_,rfl⟩
 have hB:Below w.heap.size w W:=by rw [hW];exact aB _ _ _
 have hX:R.Bx W w.heap.size (R.cC c dd gg):=by rw [hW];exact R.Bx.later (ag _ _) (R.Bx.new w (R.cC c dd gg) 44)
 have hZ:Zr W (w.heap.size+1):=by rw [hW];have:=Zr.new (w.alloc (Obj.cells (R.cC c dd gg).toArray 44));simpa using this
 have h2:=h.later hB
 have HC:=ae (λ(U:World) (hU:Below W.heap.size W U)=>Fj (h2.later hU) c.size)
 have HS:Hid (∀U {s d},bB U H s d N->aj N W U->U.cell? ⟨H.kb,11,none⟩=some (aq H.z.s)/\U.cell? ⟨w.heap.size,2,none⟩=some (ab c.size)):=λU s d hd hb=>by
  have:=Cb.of (R.Bx.but hb hX (h.new (Nat.le_refl _)))
  exact⟨hd.kb 11 _ rfl,this.c2⟩
 have H0:=ae (λU (hU:aj (λ_=>False) W U)=>HS.out U (h2.but hU (λ_ _ h=>h) (λh=>h)) (hU.mono (λ_ h=>h.elim)))
 have hq:(S.eW H.z.room H.z.n s.nx s.V c.size != 0)=false:=by simpa using hm
 rw [hm] at HC;have HF:=ae hf
 have QU:Hid (S.er s.nx):=by have:=hf.nx;unfold Hid S.er;omega
 have HM:=ae hm
 obtain⟨A,hA⟩:∃A,A=D.bH H.p.d s.d s.nx:=⟨_,rfl⟩
 rw [<-hA] at hr ⊢
 have HA:=ae hA
 have Ry:=ae hr
 have HW:=ae hW
 have HB:=ae hB
 have HX:=ae hX
 have HZ:=ae hZ
 have HD:=ae h2
 have HP:Hid (0<w.heap.size):=by have:=h.b0;unfold Hid;omega
 have HN:=ae (λk hk=>h.new (k:=k) hk)
 clear h h2 hB hX hZ hW hm hf hq hA hr;go_enter Tryz.func135,Tryz.ntmps135
 go_upto_region 1 with fail
 rw [<-HW.out];go_region_held3 (λU=>U.cell? ⟨H.kb,11,none⟩=some (aq H.z.s)/\U.cell? ⟨w.heap.size,2,none⟩=some (ab c.size)) (first|exact H0.out _ (aj.of (Below.refl _ _).drew)|exact HE.out) (first
   | (go_at_call 222;refine (HC.out _ (Below.refl _ _).drew).mono ?_;rintro e w1 ⟨rfl,hb_⟩;have OI:Hid (Below W.heap.size W w1):=aa (Below.refl _ _).drew hb_;have HE:=ae (H0.out w1 (aj.of OI.out));clear hb_))
 have OL:=ae (R.Bx.later OI.out HX.out)
 have Ph:=ae (HD.out.later OI.out)
 have PI:=ae (HZ.out.later OI.out)
 have O2:Hid (w.heap.size<=w1.heap.size):=Nat.le_trans HB.out.size OI.out.size
 have Ql:Hid (∀U {s d},bB U H s d N->aj N w1 U->U.cell? ⟨H.kb,10,none⟩=some (aq H.g)/\U.cell? ⟨H.kb,11,none⟩=some (aq H.z.s)/\U.cell? ⟨H.kb,12,none⟩=some (aq H.A.g)/\U.cell? ⟨H.kb,13,none⟩=some (aq H.qg)/\U.cell? ⟨w.heap.size,2,none⟩=some (ab c.size)):=λU s d hd hb=>by
  have:=Cb.of (R.Bx.but hb OL.out (HN.out _ (Nat.le_refl _)))
  exact⟨hd.kb 10 _ rfl,hd.kb 11 _ rfl,hd.kb 12 _ rfl,hd.kb 13 _ rfl,this.c2⟩
 have PM:=ae (λU (hU:aj (λ_=>False) w1 U)=>Ql.out U (Ph.out.but hU (λ_ _ h=>h) (λh=>h)) (hU.mono (λ_ h=>h.elim)))
 have TR:=ae (λ(U:World) (hU:Below w1.heap.size w1 U)=>Dl (Ph.out.later hU))
 have Q3:=ae (λ(U:World) (hU:Below w1.heap.size w1 U)=>DT (Ph.out.later hU) HF.out s.nx (FQ QU.out))
 rw [<-HA.out] at Q3;clear HE HC H0;go_upto_region 4 with fail
 go_cut [6,7] (λs5 s6 U=>∃b,s5=aq b/\s6=ab A.code/\Hid (w1.heap.size<=b/\∃u,(bB u H (jA s A.s) d N/\aj N w1 u)/\Bc u U b A.c))
 case first =>
  go_region_held3 (λU=>U.cell? ⟨H.kb,10,none⟩=some (aq H.g)/\U.cell? ⟨H.kb,11,none⟩=some (aq H.z.s)/\U.cell? ⟨H.kb,12,none⟩=some (aq H.A.g)/\U.cell? ⟨H.kb,13,none⟩=some (aq H.qg)/\U.cell? ⟨w.heap.size,2,none⟩=some (ab c.size)) (first|exact PM.out _ (aj.of (Below.refl _ _).drew)|exact PM.out _ (aj.of (ag _ _).drew)|exact PM.out _ (aj.of (ag _ _))|exact HE.out _ (aj.refl _ _)|exact HE.out _ (aj.of (ag _ _))|exact HE.out _ (L.c_ (S:=λk=>k=w1.heap.size) (b:=w1.heap.size) (aj.refl _ u_) rfl _)) (first
   | (go_at_call 67;refine (TR.out _ (Below.refl _ _).drew).mono ?_;rintro e u9 ⟨rfl,hw9⟩;obtain rfl:=hw9.symm)|(go_at_call 67;refine (TR.out _ (ag _ _).drew).mono ?_;rintro e u9 ⟨rfl,hw9⟩;obtain rfl:=hw9.symm)|(go_at_call 223;refine (Q3.out _ (ag _ _).drew).mono ?_;rintro e u_ ⟨rfl,hd_,hb_⟩;have OQ:Hid (aj N w1 u_):=(aj.of (S:=N) (ag w1 (Obj.cells #[ab 0,ai 0,ai 0] 37)).drew).trans hb_;have PV:=ae (And.intro hd_ OQ.out);have hzc:=(Zb.Gf w1).but (show aj N (w1.alloc (Obj.cells #[ab 0,ai 0,ai 0] 37)).drew u_ from hb_) (HN.out _ O2.out);have To:=ae hzc;have HE:=ae (λU (hU:aj (λk=>k=w1.heap.size) u_ U)=>Ql.out U (hd_.but hU (λk hk e=>HN.out k (by have h9:w1.heap.size<=_:=(Nat.le_refl _);have:=O2.out;omega) hk) (λe=>by have h9:w1.heap.size<=_:=(Nat.le_refl _);have:=O2.out;have:=HP.out;omega)) (OQ.out.comp hU (λi e=>.inr (by have h9:w1.heap.size<=_:=(Nat.le_refl _);omega))));obtain⟨⟨z0,f0⟩,⟨z1,f1⟩,⟨z2,f2⟩⟩:=hzc;clear hb_)
   | (go_at_call 223;refine (Q3.out _ (Below.refl _ _).drew).mono ?_;rintro e u_ ⟨rfl,hd_,hb_⟩;have OQ:Hid (aj N w1 u_):=(aj.of (S:=N) (Below.refl w1.heap.size w1).drew).trans hb_;have PV:=ae (And.intro hd_ OQ.out);have HE:=ae (λU (hU:aj (λk=>k=u_.heap.size) u_ U)=>Ql.out U (hd_.but hU (λk hk e=>HN.out k (by have h9:w1.heap.size<=_:=OQ.out.size;have:=O2.out;omega) hk) (λe=>by have h9:w1.heap.size<=_:=OQ.out.size;have:=O2.out;have:=HP.out;omega)) (OQ.out.comp hU (λi e=>.inr (by have h9:w1.heap.size<=_:=OQ.out.size;omega))));clear hb_))
  all_goals (try go_wp2)
  all_goals go_meet
  all_goals (first|exact⟨_,rfl,rfl,Nat.le_refl _,u_,PV.out,Bc.first To.out _⟩|exact⟨_,rfl,rfl,OQ.out.size,u_,PV.out,Bc.nM u_ _⟩)
 case rest =>
 rename World=>v
 obtain⟨b,rfl,rfl,HR⟩:=hcut
 obtain⟨hlo,u,⟨hd3,hb3⟩,hbc⟩:=HR.out
 obtain⟨hv,v0,v1,v2⟩:=hbc
 have hsz:=O2.out
 have RD:=ae (hd3.but hv (λk hk e=>HN.out k (by omega) hk) (λe=>by have:=HP.out;omega))
 have OT:Hid (aj N w1 v):=hb3.comp hv (λi e=>.inr (by omega))
 have RE:=ae (PI.out.but OT.out (HN.out _ (by omega)))
 have Si:=ae (R.Bx.but OT.out OL.out (HN.out _ (Nat.le_refl _)))
 have Pd:Hid (w1.heap.size<=b):=hlo
 have hvs:=hv.size
 have QA:Hid (b<v.heap.size):=World.block_lt_of_cell? _ _ v0
 clear hlo hd3 hb3 hv hsz HR hvs;have hqr:(A.code != 0)=true:=by simpa using Ry.out
 clear v0 v1 v2;have HR:=ae (bN A.code v)
 go_upto_region 6 with fail
 go_upto_region 7 with (first|(go_at_call 61;refine HR.out.mono ?_;rintro e w2 ⟨rfl,hb2⟩;have OH:Hid (Below v.heap.size v w2):=hb2;have OY:=ae (RE.out.later OH.out);have O3:=ae (OY.out.st (rep A.code) none 0 0);have Pc:=ae (OY.out.lv (rep A.code) none 0 0);clear hb2)|((with_reducible refine a_ O3.out ?_ ?_ ?_);(· rfl);(· rfl)))
 have OU:Hid (aj (·=w.heap.size+1) w2 (w2.setCells (w.heap.size+1) 0 (aZ (rep A.code) none 0 0))):=R.au (S:=(·=w.heap.size+1)) rfl _ 0 (aj.refl _ _)
 exact bodyPost_ret (v:=bR (rep A.code) none 0 0) (by simp [results,Tryz.results135,asAddr,Pc.out]) rfl ⟨rfl,(RD.out.later OH.out).but OU.out (λk hk e=>HN.out k (by omega) hk) (λe=>by have:0=w.heap.size+1:=e;omega),((aj.of (aa HB.out OI.out)).trans (OT.out.call OH.out)).comp OU.out (λi e=>.inr (by omega))⟩
theorem ju (h:bB w H s d N)(hf:KF H.p s)(hm:S.eW H.z.room H.z.n s.nx s.V c.size=0)(hr:(D.bH H.p.d s.d s.nx).code=0) :
  Calls Tryz.prog 135 #[aq H.kb,.agg (R.cC c dd gg).toArray] w λe w'=>e=.returned (bR ⟨0,(D.bH H.p.d s.d s.nx).c,[],0⟩ none 0 0)/\∃N',bB w' H { jA s (D.bH H.p.d s.d s.nx).s with nx:=s.nx+1,V:=s.V++[(s.nx,List.replicate c.size.toNat 0)] } d N'/\bd w N w' N':=by
 obtain⟨W,hW⟩:∃W,W=(w.alloc (Obj.cells (R.cC c dd gg).toArray 44)).alloc z6:=⟨_,rfl⟩
 have hB:Below w.heap.size w W:=by rw [hW];exact aB _ _ _
 have hX:R.Bx W w.heap.size (R.cC c dd gg):=by rw [hW];exact R.Bx.later (ag _ _) (R.Bx.new w (R.cC c dd gg) 44)
 have hZ:Zr W (w.heap.size+1):=by rw [hW];have:=Zr.new (w.alloc (Obj.cells (R.cC c dd gg).toArray 44));simpa using this
 have h2:=h.later hB
 have HC:=ae (λ(U:World) (hU:Below W.heap.size W U)=>Fj (h2.later hU) c.size)
 have HS:Hid (∀U {s d},bB U H s d N->aj N W U->U.cell? ⟨H.kb,11,none⟩=some (aq H.z.s)/\U.cell? ⟨w.heap.size,2,none⟩=some (ab c.size)):=λU s d hd hb=>by
  have:=Cb.of (R.Bx.but hb hX (h.new (Nat.le_refl _)))
  exact⟨hd.kb 11 _ rfl,this.c2⟩
 have H0:=ae (λU (hU:aj (λ_=>False) W U)=>HS.out U (h2.but hU (λ_ _ h=>h) (λh=>h)) (hU.mono (λ_ h=>h.elim)))
 have hq:(S.eW H.z.room H.z.n s.nx s.V c.size != 0)=false:=by simpa using hm
 rw [hm] at HC;have HF:=ae hf
 have QU:Hid (S.er s.nx):=by have:=hf.nx;unfold Hid S.er;omega
 have HM:=ae hm
 obtain⟨A,hA⟩:∃A,A=D.bH H.p.d s.d s.nx:=⟨_,rfl⟩
 rw [<-hA] at hr ⊢
 have HA:=ae hA
 have Ry:=ae hr
 have HW:=ae hW
 have HB:=ae hB
 have HX:=ae hX
 have HZ:=ae hZ
 have HD:=ae h2
 have HP:Hid (0<w.heap.size):=by have:=h.b0;unfold Hid;omega
 have HN:=ae (λk hk=>h.new (k:=k) hk)
 clear h h2 hB hX hZ hW hm hf hq hA hr;go_enter Tryz.func135,Tryz.ntmps135
 go_upto_region 1 with fail
 rw [<-HW.out];go_region_held3 (λU=>U.cell? ⟨H.kb,11,none⟩=some (aq H.z.s)/\U.cell? ⟨w.heap.size,2,none⟩=some (ab c.size)) (first|exact H0.out _ (aj.of (Below.refl _ _).drew)|exact HE.out) (first
   | (go_at_call 222;refine (HC.out _ (Below.refl _ _).drew).mono ?_;rintro e w1 ⟨rfl,hb_⟩;have OI:Hid (Below W.heap.size W w1):=aa (Below.refl _ _).drew hb_;have HE:=ae (H0.out w1 (aj.of OI.out));clear hb_))
 have OL:=ae (R.Bx.later OI.out HX.out)
 have Ph:=ae (HD.out.later OI.out)
 have PI:=ae (HZ.out.later OI.out)
 have O2:Hid (w.heap.size<=w1.heap.size):=Nat.le_trans HB.out.size OI.out.size
 have Ql:Hid (∀U {s d},bB U H s d N->aj N w1 U->U.cell? ⟨H.kb,10,none⟩=some (aq H.g)/\U.cell? ⟨H.kb,11,none⟩=some (aq H.z.s)/\U.cell? ⟨H.kb,12,none⟩=some (aq H.A.g)/\U.cell? ⟨H.kb,13,none⟩=some (aq H.qg)/\U.cell? ⟨w.heap.size,2,none⟩=some (ab c.size)):=λU s d hd hb=>by
  have:=Cb.of (R.Bx.but hb OL.out (HN.out _ (Nat.le_refl _)))
  exact⟨hd.kb 10 _ rfl,hd.kb 11 _ rfl,hd.kb 12 _ rfl,hd.kb 13 _ rfl,this.c2⟩
 have PM:=ae (λU (hU:aj (λ_=>False) w1 U)=>Ql.out U (Ph.out.but hU (λ_ _ h=>h) (λh=>h)) (hU.mono (λ_ h=>h.elim)))
 have TR:=ae (λ(U:World) (hU:Below w1.heap.size w1 U)=>Dl (Ph.out.later hU))
 have Q3:=ae (λ(U:World) (hU:Below w1.heap.size w1 U)=>DT (Ph.out.later hU) HF.out s.nx (FQ QU.out))
 rw [<-HA.out] at Q3;clear HE HC H0;go_upto_region 4 with fail
 go_cut [6,7] (λs5 s6 U=>∃b,s5=aq b/\s6=ab A.code/\Hid (w1.heap.size<=b/\∃u,(bB u H (jA s A.s) d N/\aj N w1 u)/\Bc u U b A.c))
 case first =>
  go_region_held3 (λU=>U.cell? ⟨H.kb,10,none⟩=some (aq H.g)/\U.cell? ⟨H.kb,11,none⟩=some (aq H.z.s)/\U.cell? ⟨H.kb,12,none⟩=some (aq H.A.g)/\U.cell? ⟨H.kb,13,none⟩=some (aq H.qg)/\U.cell? ⟨w.heap.size,2,none⟩=some (ab c.size)) (first|exact PM.out _ (aj.of (Below.refl _ _).drew)|exact PM.out _ (aj.of (ag _ _).drew)|exact PM.out _ (aj.of (ag _ _))|exact HE.out _ (aj.refl _ _)|exact HE.out _ (aj.of (ag _ _))|exact HE.out _ (L.c_ (S:=λk=>k=w1.heap.size) (b:=w1.heap.size) (aj.refl _ u_) rfl _)) (first
   | (go_at_call 67;refine (TR.out _ (Below.refl _ _).drew).mono ?_;rintro e u9 ⟨rfl,hw9⟩;obtain rfl:=hw9.symm)|(go_at_call 67;refine (TR.out _ (ag _ _).drew).mono ?_;rintro e u9 ⟨rfl,hw9⟩;obtain rfl:=hw9.symm)|(go_at_call 223;refine (Q3.out _ (ag _ _).drew).mono ?_;rintro e u_ ⟨rfl,hd_,hb_⟩;have OQ:Hid (aj N w1 u_):=(aj.of (S:=N) (ag w1 (Obj.cells #[ab 0,ai 0,ai 0] 37)).drew).trans hb_;have PV:=ae (And.intro hd_ OQ.out);have hzc:=(Zb.Gf w1).but (show aj N (w1.alloc (Obj.cells #[ab 0,ai 0,ai 0] 37)).drew u_ from hb_) (HN.out _ O2.out);have To:=ae hzc;have HE:=ae (λU (hU:aj (λk=>k=w1.heap.size) u_ U)=>Ql.out U (hd_.but hU (λk hk e=>HN.out k (by have h9:w1.heap.size<=_:=(Nat.le_refl _);have:=O2.out;omega) hk) (λe=>by have h9:w1.heap.size<=_:=(Nat.le_refl _);have:=O2.out;have:=HP.out;omega)) (OQ.out.comp hU (λi e=>.inr (by have h9:w1.heap.size<=_:=(Nat.le_refl _);omega))));obtain⟨⟨z0,f0⟩,⟨z1,f1⟩,⟨z2,f2⟩⟩:=hzc;clear hb_)
   | (go_at_call 223;refine (Q3.out _ (Below.refl _ _).drew).mono ?_;rintro e u_ ⟨rfl,hd_,hb_⟩;have OQ:Hid (aj N w1 u_):=(aj.of (S:=N) (Below.refl w1.heap.size w1).drew).trans hb_;have PV:=ae (And.intro hd_ OQ.out);have HE:=ae (λU (hU:aj (λk=>k=u_.heap.size) u_ U)=>Ql.out U (hd_.but hU (λk hk e=>HN.out k (by have h9:w1.heap.size<=_:=OQ.out.size;have:=O2.out;omega) hk) (λe=>by have h9:w1.heap.size<=_:=OQ.out.size;have:=O2.out;have:=HP.out;omega)) (OQ.out.comp hU (λi e=>.inr (by have h9:w1.heap.size<=_:=OQ.out.size;omega))));clear hb_))
  all_goals (try go_wp2)
  all_goals go_meet
  all_goals (first|exact⟨_,rfl,rfl,Nat.le_refl _,u_,PV.out,Bc.first To.out _⟩|exact⟨_,rfl,rfl,OQ.out.size,u_,PV.out,Bc.nM u_ _⟩)
 case rest =>
 rename World=>v
 obtain⟨b,rfl,rfl,HR⟩:=hcut
 obtain⟨hlo,u,⟨hd3,hb3⟩,hbc⟩:=HR.out
 obtain⟨hv,v0,v1,v2⟩:=hbc
 have hsz:=O2.out
 have RD:=ae (hd3.but hv (λk hk e=>HN.out k (by omega) hk) (λe=>by have:=HP.out;omega))
 have OT:Hid (aj N w1 v):=hb3.comp hv (λi e=>.inr (by omega))
 have RE:=ae (PI.out.but OT.out (HN.out _ (by omega)))
 have Si:=ae (R.Bx.but OT.out OL.out (HN.out _ (Nat.le_refl _)))
 have Pd:Hid (w1.heap.size<=b):=hlo
 have hvs:=hv.size
 have QA:Hid (b<v.heap.size):=World.block_lt_of_cell? _ _ v0
 clear hlo hd3 hb3 hv hsz HR hvs;have hqr:(A.code != 0)=false:=by simpa using Ry.out
 have HV:Hid (v.cell? ⟨b,0,none⟩=some (ab A.c.1)/\v.cell? ⟨b,1,none⟩=some (ai (A.c.2.1:Int))/\v.cell? ⟨b,2,none⟩=some (ai (A.c.2.2:Int))):=⟨v0,v1,v2⟩
 clear v0 v1 v2;have SV:=ae (λ(U:World) (hU:Below v.heap.size v U)=>Bn (RD.out.later hU) c.size HM.out)
 have X3:Hid (∀U,aj (λ_=>False) v U->U.cell? ⟨H.kb,11,none⟩=some (aq H.z.s)/\U.cell? ⟨w.heap.size,2,none⟩=some (ab c.size)):=λU hU=>by
  have:=Cb.of (R.Bx.but hU Si.out (λh=>h))
  exact⟨an hU (RD.out.kb 11 _ rfl) (λh=>h),this.c2⟩
 go_upto_region 7 with fail
 go_region_held3 (λU=>U.cell? ⟨H.kb,11,none⟩=some (aq H.z.s)/\U.cell? ⟨w.heap.size,2,none⟩=some (ab c.size)) (first|exact X3.out _ (aj.of (Below.refl _ _).drew)|exact HE.out) (first
   | (go_at_call 224;refine (SV.out _ (Below.refl _ _).drew).mono ?_;rintro e u2 ⟨rfl,N2,hd2,hw2⟩;have PO:=ae hd2;have PC:Hid (bd v N u2 N2):=(bd.later (Below.refl _ _).drew).trans hw2;have HE:Hid (u2.cell? ⟨H.kb,11,none⟩=some (aq H.z.s)/\u2.cell? ⟨w.heap.size,2,none⟩=some (ab c.size)):=⟨hd2.kb 11 _ rfl,(Cb.of (R.Bx.but PC.out.2 Si.out (HN.out _ (Nat.le_refl _)))).c2⟩;clear hd2 hw2))
 obtain⟨v0,v1,v2⟩:=HV.out
 have hlo:=Pd.out
 have hsz:=O2.out
 have hbb:¬N b:=HN.out _ (by omega)
 have v0:=an PC.out.2 v0 hbb
 have v1:=an PC.out.2 v1 hbb
 have v2:=an PC.out.2 v2 hbb
 have OY:=ae (RE.out.but PC.out.2 (HN.out _ (by omega)))
 have O3:=ae (OY.out.st ⟨0,A.c,[],0⟩ none 0 0)
 have Pc:=ae (OY.out.lv ⟨0,A.c,[],0⟩ none 0 0)
 have OU:Hid (aj (·=w.heap.size+1) u2 (u2.setCells (w.heap.size+1) 0 (aZ ⟨0,A.c,[],0⟩ none 0 0))):=R.au (S:=(·=w.heap.size+1)) rfl _ 0 (aj.refl _ _)
 clear hlo hsz hbb;go_wp2_with (first|((with_reducible refine a_ O3.out ?_ ?_ ?_);(· rfl);(· rfl)))
 refine bodyPost_ret (v:=bR ⟨0,A.c,[],0⟩ none 0 0) (by simp [results,Tryz.results135,asAddr,Pc.out]) rfl ⟨rfl,N2,PO.out.but OU.out (λk hk e=>?_) (λe=>by have:0=w.heap.size+1:=e;omega),?_⟩
 ·have h1:=RE.out.lt
  exact PC.out.out (by omega) (HN.out _ (by omega)) hk
 ·have h0:bd w N v N:=⟨λk h=>.inl h,(aj.of (aa HB.out OI.out)).trans OT.out⟩
  have h1:=h0.trans PC.out
  exact⟨h1.1,h1.2.comp OU.out (λi e=>.inr (by omega))⟩
end
section
variable {p:Pm}{s:bc}{d:Nat->List K.Pu}
variable {m o:Int}{V:List (Int×List Nat)}{G:List Int}
theorem oa (h:D.Fit p.d s.d)(o:Int)(Dr:Nat×Int×Nat)(q r:Int)(hy:Q.may p.e (p.mo:Int) s.L o=0->Dr.2.1=0->D.Du p.d s.d (D.cap o Dr.1) q r) :
  ((D.eV p.d s.d o Dr q r).code≠0/\(D.eV p.d s.d o Dr q r).c=(0,0,0)/\((D.eV p.d s.d o Dr q r).s=s.d\/(D.eV p.d s.d o Dr q r).s={ s.d with t:=Dr.2.2 })) \/
  ((D.eV p.d s.d o Dr q r).code=0/\(D.eV p.d s.d o Dr q r).c=D.cap o Dr.1/\(D.eV p.d s.d o Dr q r).s=D.mC s.d o Dr.1 q r Dr.2.2/\D.Du p.d s.d (D.cap o Dr.1) q r/\gz p.mo s.X s.l q (D.cap o Dr.1) r=⟨(low s.l:Int),0,s.X.set (low s.l) (D.cap o Dr.1,r),s.l++[((low s.l:Int),q)]⟩/\s.l.length<p.mo):=by
 unfold D.eV;by_cases hm:Q.may p.d.e p.d.a s.d.L o≠0
 ·rw [if_pos hm];exact .inl ⟨hm,rfl,.inl rfl⟩
 ·rw [if_neg hm]
  have hm0:Q.may p.d.e p.d.a s.d.L o=0:=by simpa using hm
  by_cases hd:Dr.2.1≠0
  ·rw [if_pos hd];exact .inl ⟨hd,rfl,.inr rfl⟩
  ·rw [if_neg hd]
   have hy:=hy hm0 (by simpa using hd)
   exact .inr ⟨rfl,rfl,rfl,hy,D.oL h hm0 hy.new,h.room hm0⟩
theorem KF.put (h:KF p s){a:D.bc}(hf:D.Fit p.d a)(ho:∀o,eG a.X a.l o=true↔eG s.X s.l o=true):KF p (jA s a) :=
 ⟨⟨hf.inv,hf.jU,hf.len,λo=>(h.fit.obj o).trans (ho o).symm,h.fit.ids⟩,hf.le,h.cs,h.iv,h.ln,h.wd,h.lm,h.ks,h.nx⟩
theorem KF.d_ (h:KF p s):D.Fit p.d s.d:=⟨h.fit.inv,h.fit.jU,h.fit.len,Int.le_refl _,h.le,h.cs⟩
theorem qT (h:KF p s){N:Nat}{q r:Int}{t:Nat}(hl:s.l.length<p.mo)(x:Int):eG (D.mC s.d o N q r t).X (D.mC s.d o N q r t).l x=true↔(x=o\/eG s.X s.l x=true):=by
 rw [D.e_,D.e_];have:=D.uD h.fit.inv q (D.cap o N) r (tI h.fit.inv.ok hl) (fx s.l) x
 show 0<mY (s.X.set (low s.l) (D.cap o N,r)) (s.l++[((low s.l:Int),q)]) x↔_
 rw [this];by_cases e:(D.cap o N).1=x
 ·rw [if_pos e];exact⟨λ_=>.inl e.symm,λ_=>by omega⟩
 ·rw [if_neg e]
  exact⟨λh=>.inr h,λh=>h.elim (λe2=>absurd e2.symm e) (λh=>h)⟩
theorem Fb (h:KF p s):¬0<mY s.X s.l s.nx:=λe=>by
 have h1:=(h.fit.obj s.nx).2 (D.e_.2 e)
 obtain⟨x,hx,e2⟩:=h1
 have:=(h.fit.ids x hx).2
 omega
theorem sD (h:KF p s):((D.bH p.d s.d s.nx).code≠0/\jA s (D.bH p.d s.d s.nx).s=s) \/
  ((D.bH p.d s.d s.nx).code=0/\s.t<p.n/\(D.bH p.d s.d s.nx).c=D.cap s.nx (p.c s.t)/\(D.bH p.d s.d s.nx).s=D.mC s.d s.nx (p.c s.t) (-1) 31 (s.t+1)/\D.Du p.d s.d (D.cap s.nx (p.c s.t)) (-1) 31/\gz p.mo s.X s.l (-1) (D.cap s.nx (p.c s.t)) 31=⟨(low s.l:Int),0,s.X.set (low s.l) (D.cap s.nx (p.c s.t),31),s.l++[((low s.l:Int),-1)]⟩/\s.l.length<p.mo):=by
 have hn:=Fb h
 unfold D.bH;rw [if_neg (show ¬0<mY s.d.X s.d.l s.nx from hn)];have ht:=oa h.d_ s.nx (D.cR p.d s.t) (-1) 31 (λ_ _=>D.uo h.d_ hn (D.fQ h.d_ s.t))
 by_cases hlt:s.t<p.n
 ·have e:D.cR p.d s.t=(p.c s.t,0,s.t+1):=by unfold D.cR;rw [if_pos (show s.t<p.d.n from hlt)];rfl
  have e2:D.cR p.d s.d.t=(p.c s.t,0,s.t+1):=e
  rw [e] at ht;rw [e2];rcases ht with ⟨h1,_,h2|h2⟩|⟨h1,h2,h3,h4,h5,h6⟩
  ·exact .inl ⟨h1,by rw [h2];rfl⟩
  ·by_cases hm:Q.may p.d.e p.d.a s.d.L s.nx≠0
   ·refine .inl ⟨h1,?_⟩
    unfold D.eV;rw [if_pos hm];rfl
   ·exact absurd (by unfold D.eV;rw [if_neg hm,if_neg (λ(e:(0:Int)≠0)=>e rfl)]) h1
  ·exact .inr ⟨h1,hlt,h2,h3,h4,h5,h6⟩
 ·have e:D.cR p.d s.t=(0,11,s.t):=by unfold D.cR;rw [if_neg (show ¬s.t<p.d.n from hlt)]
  have e2:D.cR p.d s.d.t=(0,11,s.t):=e
  rw [e] at ht;rw [e2];refine .inl ?_
  rcases ht with ⟨h1,_,h2|h2⟩|⟨h1,_⟩
  ·exact⟨h1,by rw [h2];rfl⟩
  ·exact⟨h1,by rw [h2];rfl⟩
  ·exfalso
   unfold D.eV at h1;by_cases hm:Q.may p.d.e p.d.a s.d.L s.nx≠0
   ·rw [if_pos hm] at h1;exact hm h1
   ·rw [if_neg hm,if_pos (show (11:Int)≠0 by decide)] at h1;exact absurd (show (11:Int)=0 from h1) (by decide)
theorem zB {x:Int×List Nat}:(∃q∈V++[x],q.1=o)↔(o=x.1\/∃q∈V,q.1=o):=by
 constructor
 ·rintro ⟨q,hq,e⟩
  rcases List.mem_append.1 hq with h|h
  ·exact .inr ⟨q,h,e⟩
  ·rw [List.mem_singleton.1 h] at e;exact .inl e.symm
 ·rintro (e|⟨q,hq,e⟩)
  ·exact⟨x,by simp,e.symm⟩
  ·exact⟨q,by simp [hq],e⟩
theorem EI {p:Pm}{size:Int}(hm:S.eW p.room p.qN s.nx s.V size=0):s.nx<=4611686018427387904:=by
 unfold S.eW at hm;by_cases h1:size<0\/4096<size
 ·rw [if_pos h1] at hm;exact absurd hm (by decide)
 ·rw [if_neg h1] at hm
  by_cases h2:p.room<=s.V.length\/4611686018427387904<s.nx
  ·rw [if_pos h2] at hm;exact absurd hm (by decide)
  ·omega
theorem EJ (h:KF p s)(ht:L.Tr s.X s.l d)(size:Int):KF p (rh p s size).2/\L.Tr (rh p s size).2.X (rh p s size).2.l d:=by
 unfold rh;by_cases hm:S.eW p.room p.qN s.nx s.V size≠0
 ·rw [if_pos hm];exact⟨h,ht⟩
 ·rw [if_neg hm]
  have hm0:S.eW p.room p.qN s.nx s.V size=0:=by simpa using hm
  rcases sD h with ⟨h1,h2⟩|⟨h1,h2,h3,h4,h5,h6,hl⟩
  ·rw [if_pos h1,h2];exact⟨h,ht⟩
  ·rw [if_neg (by simpa using h1)]
   have hF:=D.Fit.root h.d_ s.nx
   have hnx:=h.nx
   have hnx2:=EI hm0
   rw [h4] at hF ⊢
   refine⟨⟨⟨hF.inv,hF.jU,hF.len,λo=>?_,λq hq=>?_⟩,hF.le,h.cs,h.iv,h.ln,h.wd,h.lm,h.ks,⟨by show 1<=s.nx+1;omega,by show s.nx+1<=_;omega⟩⟩,?_⟩
   ·show (∃q∈s.V++[(s.nx,List.replicate size.toNat 0)],q.1=o)↔_
    rw [zB];exact (or_congr Iff.rfl (h.fit.obj o)).trans (qT (t:=s.t+1) h hl o).symm
   ·show 1<=q.1/\q.1<s.nx+1
    rcases List.mem_append.1 (show q∈s.V++[(s.nx,List.replicate size.toNat 0)] from hq) with h7|h7
    ·have:=h.fit.ids q h7;omega
    ·rw [List.mem_singleton.1 h7];simp;omega
   ·have:=L.Tr.add (m:=p.mo) ht h.fit.inv (-1) (D.cap s.nx (p.c s.t)) 31 (by rw [h6];exact hF.inv)
    rw [h6] at this;exact this
theorem F_ (h:KF p s)(ht:L.Tr s.X s.l d)(c:Cp)(r:Int):KF p (mS p s c r).2/\L.Tr (mS p s c r).2.X (mS p s c r).2.l d:=by
 unfold mS;have hF:=D.Fit.child h.d_ c r
 have hcase:((D.bV p.d s.d c r).s=s.d\/∃t,(D.bV p.d s.d c r).s={ s.d with t:=t })\/∃N t,bn s.X s.l c=true/\(D.bV p.d s.d c r).s=D.mC s.d c.1 N (aX s.X s.l c) r t/\D.Du p.d s.d (D.cap c.1 N) (aX s.X s.l c) r/\gz p.mo s.X s.l (aX s.X s.l c) (D.cap c.1 N) r=⟨(low s.l:Int),0,s.X.set (low s.l) (D.cap c.1 N,r),s.l++[((low s.l:Int),aX s.X s.l c)]⟩/\s.l.length<p.mo:=by
  unfold D.bV;by_cases h1:bn s.d.X s.d.l c=false
  ·rw [if_pos h1];exact .inl (.inl rfl)
  ·rw [if_neg h1]
   by_cases h2:aS 4 (D.eX s.d c)=false\/aS r (D.eX s.d c)=false
   ·rw [if_pos h2];exact .inl (.inl rfl)
   ·rw [if_neg h2]
    have hc:bn s.d.X s.d.l c=true:=by simpa using h1
    have hp:aS r (D.eX s.d c)=true:=by
     cases hq:aS r (D.eX s.d c) with
     | true=>rfl
     | false=>exact absurd (.inr hq) h2
    rcases oa h.d_ c.1 (D.cn p.d s.d c.1) (aX s.X s.l c) r (λ_ hd=>D.pG h.d_ hc hp hd) with ⟨_,_,h3|h3⟩|⟨_,_,h3,h4,h5,h6⟩
    ·exact .inl (.inl h3)
    ·exact .inl (.inr ⟨_,h3⟩)
    ·exact .inr ⟨_,_,hc,h3,h4,h5,h6⟩
 rcases hcase with (h1|⟨t,h1⟩)|⟨N,t,hc,h1,h2,h3,hl⟩
 ·rw [h1] at hF ⊢;exact⟨h.put hF (λ_=>Iff.rfl),ht⟩
 ·rw [h1] at hF ⊢;exact⟨h.put hF (λ_=>Iff.rfl),ht⟩
 ·rw [h1] at hF ⊢
  refine⟨h.put hF (λo=>(qT h hl o).trans ⟨λe=>e.elim (λe=>by rw [e];exact fG hc) (λe=>e),λe=>.inr e⟩),?_⟩
  have:=L.Tr.add (m:=p.mo) ht h.fit.inv (aX s.X s.l c) (D.cap c.1 N) r (by rw [h3];exact hF.inv)
  rw [h3] at this;exact this
theorem uw (V:List (Int×List Nat))(id off:Int)(Q:List Nat):(S.fT V id off Q).map Prod.fst=V.map Prod.fst:=by
 unfold S.fT;split
 ·rw [List.map_map]
  refine List.map_congr_left (λx _=>?_)
  simp only [Function.comp,S.Da];split<;>rfl
 ·rfl
theorem Al {P:Int->Prop}:(∃q∈V,P q.1)↔∃i∈V.map Prod.fst,P i:=by simp
theorem xQ (h:KF p s)(id off:Int)(Q:List Nat):KF p { s with V:=S.fT s.V id off Q } :=
 ⟨⟨h.fit.inv,h.fit.jU,h.fit.len,λo=>by
   show (∃q∈S.fT s.V id off Q,q.1=o)↔_
   rw [Al (P:=(·=o)),uw,<-Al (P:=(·=o))];exact h.fit.obj o,λq hq=>by
   have h1:q.1∈(S.fT s.V id off Q).map Prod.fst:=List.mem_map.2 ⟨q,hq,rfl⟩
   rw [uw] at h1;obtain⟨x,hx,e⟩:=List.mem_map.1 h1
   rw [<-e];exact h.fit.ids x hx⟩,h.le,h.cs,h.iv,h.ln,h.wd,h.lm,h.ks,h.nx⟩
theorem BS (h:KF p s)(i:Int)(Q:List Cp)(h1:(Q.length:Int)<=p.lm)(h2:∀c∈Q,c.2.1<az/\c.2.2<az):KF p { s with D:=fE s.D i Q } :=
 ⟨⟨h.fit.inv,h.fit.jU,h.fit.len,h.fit.obj,h.fit.ids⟩,h.le,h.cs,h.iv,λj hj=>by
   show ((fE s.D i Q j).length:Int)<=p.lm
   unfold fE;split
   ·exact h1
   ·exact h.ln j hj,λj hj c hc=>by
   have hc':c∈fE s.D i Q j:=hc
   unfold fE at hc';split at hc'
   ·exact h2 c hc'
   ·exact h.wd j hj c hc',h.lm,h.ks,h.nx⟩
theorem Fz (h:KF p s)(i:Int)(hi:i∈s.P)(c:Cp)(hw:c.2.1<az/\c.2.2<az):KF p (wC p s i c).2:=by
 unfold wC;by_cases h1:lO p.W c=false
 ·rw [if_pos h1];exact h
 ·rw [if_neg h1]
  by_cases h2:p.lm<=((s.D i).length:Int)
  ·rw [if_pos h2];exact h
  ·rw [if_neg h2]
   refine BS h i _ (by simp;omega) (λx hx=>?_)
   rcases List.mem_append.1 hx with h3|h3
   ·exact h.wd i hi x h3
   ·rw [List.mem_singleton.1 h3];exact hw
theorem zV {Q:List Cp}(hv:M.bX m Q G=0):((M.cL m Q G).length:Int)<=m:=by
 unfold M.cL;rw [if_pos hv,List.length_map];unfold M.bX at hv;by_cases ha:G.all (M.kT Q)=true
 ·rw [if_pos ha] at hv
  by_cases hb:m<(G.length:Int)
  ·rw [if_pos hb] at hv;exact absurd hv (by decide)
  ·omega
 ·rw [if_neg ha] at hv;exact absurd hv (by decide)
theorem x_ {Q:List Cp}(hv:M.bX m Q G=0):∀c∈M.cL m Q G,c∈Q:=by
 unfold M.cL;rw [if_pos hv];have ha:G.all (M.kT Q)=true:=by
  cases hq:G.all (M.kT Q) with
  | true=>rfl
  | false=>rw [(M.rN hq).1] at hv;exact absurd hv (by decide)
 intro c hc;obtain⟨x,hx,rfl⟩:=List.mem_map.1 hc
 obtain⟨k,_,hk,hk2⟩:=M.zy (List.all_eq_true.1 ha x hx)
 exact List.mem_of_getElem? hk2
theorem EG (h:KF p s)(i:Int)(hi:i∈s.P)(G:List Int):KF p (BF p s i G).2:=by
 unfold BF;by_cases h1:M.bX p.lm (s.D i) G≠0
 ·rw [if_pos h1];exact h
 ·rw [if_neg h1]
  have h10:M.bX p.lm (s.D i) G=0:=by simpa using h1
  by_cases h2:P.dI p.pm s.px s.P=true
  ·rw [if_pos h2];exact h
  ·rw [if_neg h2]
   have hiv:=h.iv.spawn
   have e3:P.AD p.pm s.px s.P=s.px+1:=by unfold P.AD;rw [if_neg h2]
   have e4:P.xt p.pm s.px s.P=s.P++[s.px]:=by unfold P.xt;rw [if_neg h2]
   rw [e3,e4] at hiv;refine⟨⟨h.fit.inv,h.fit.jU,h.fit.len,h.fit.obj,h.fit.ids⟩,h.le,h.cs,hiv,λj hj=>?_,λj hj c hc=>?_,h.lm,by show s.ks++[s.px]=s.P++[s.px];rw [h.ks],h.nx⟩
   ·show ((fE s.D s.px _ j).length:Int)<=p.lm
    unfold fE;split
    ·exact zV h10
    ·rename_i hne
     rcases List.mem_append.1 hj with h5|h5
     ·exact h.ln j h5
     ·exact absurd (List.mem_singleton.1 h5) hne
   ·have hc':c∈fE s.D s.px (M.cL p.lm (s.D i) G) j:=hc
    unfold fE at hc';split at hc'
    ·exact h.wd i hi c (x_ h10 c hc')
    ·rename_i hne
     rcases List.mem_append.1 hj with h5|h5
     ·exact h.wd j h5 c hc'
     ·exact absurd (List.mem_singleton.1 h5) hne
end
end Go.Proofs.YtmhinfbkmjdgfaaGreatDoor.V
namespace Go.Proofs.YtmhinfbkmjdgfaaGreatDoor.V
open Go.RowKit
open Go.Proofs.YtmhinfbkmjdgfaaGreatDoor.H (az Cp)
open Go.Proofs.YtmhinfbkmjdgfaaGreatDoor.M (bM)
section
variable {w w':World}{H:Hd}{s s':bc}{d d':Nat->List K.Pu}{O:Nat->Nat->Prop}{N:Nat->Prop}{c:R.Cl}{dd gg:R.Sl}{b:Nat}
theorem mb (h:bB w H s d N)(ht:L.Tr s.X s.l d)(hf:KF H.p s)(hw:c.hi<az/\c.lo<az)(hby:c.aE∈s.P)(ho:S.er c.obj)(hv:eS s c.given c.aE (fq c) 2=0)(hR:Row w dd.a dd.n dd.c (S.aN c.data))(hD:∀x∈c.data,x<256)(hap:0<dd.n->∀j,aI dd.a j->¬N j/\j<w.heap.size) :
  Calls Tryz.prog 140 #[aq H.kb,.agg (R.cC c dd gg).toArray] w λe w'=>∃T,e=.returned (bR (rep (S.rP s.V c.obj c.off (dd.n:Int))) none 0 0)/\bB w' H { s with V:=S.fT s.V c.obj c.off c.data } T N/\L.Tr s.X s.l T/\aj N w w':=by
 obtain⟨W,hW⟩:∃W,W=(w.alloc (Obj.cells (R.cC c dd gg).toArray 44)).alloc z6:=⟨_,rfl⟩
 have hB:Below w.heap.size w W:=by rw [hW];exact aB _ _ _
 have hX:R.Bx W w.heap.size (R.cC c dd gg):=by rw [hW];exact R.Bx.later (ag _ _) (R.Bx.new w (R.cC c dd gg) 44)
 have hZ:Zr W (w.heap.size+1):=by rw [hW];have:=Zr.new (w.alloc (Obj.cells (R.cC c dd gg).toArray 44));simpa using this
 have h2:=h.later hB
 have HC:=ae (bU (dd:=dd) (gg:=gg) h2 ht hf 2 hw hby)
 have Pg:=ae (Dx hX)
 have hq:(eS s c.given c.aE (fq c) 2 != 0)=false:=by simpa using hv
 rw [hv] at HC;have HO:=ae ho
 obtain⟨E,hE⟩:∃E,E=S.rP s.V c.obj c.off (dd.n:Int):=⟨_,rfl⟩
 rw [<-hE];have HEq:=ae hE
 have Tu:=ae hap
 have Rs:=ae (Row.later hB hR)
 have Xc:=ae hD
 have HW:=ae hW
 have HB:=ae hB
 have HX:=ae hX
 have HZ:=ae hZ
 have HD:=ae h2
 have HP:Hid (0<w.heap.size):=by have:=h.b0;unfold Hid;omega
 have HN:=ae (λk hk=>h.new (k:=k) hk)
 clear h h2 hB hX hZ hW ht hf hv hq ho hE hap hR hD;go_enter Tryz.func140,Tryz.ntmps140
 go_upto_region 1 with fail
 rw [<-HW.out];go_upto_region 2 with (first|((with_reducible refine R.aJ Pg.out ?_ ?_);(· rfl))|(go_at_call 229;refine HC.out.mono ?_;rintro e w1 ⟨rfl,T,hd1,ht1,hb1⟩;have Ph:=ae hd1;have OV:=ae ht1;have OI:Hid (aj N W w1):=hb1;clear hd1 ht1 hb1))
 have OL:=ae (R.Bx.but OI.out HX.out (HN.out _ (Nat.le_refl _)))
 have PI:=ae (HZ.out.but OI.out (HN.out _ (by omega)))
 have PB:Hid (Row w1 dd.a dd.n dd.c (S.aN c.data)):=xu Rs.out OI.out (λh0 k hk=>(Tu.out h0 k hk).1)
 have Wb:=ae (λ(U:World) (hU:Below w1.heap.size w1 U)=>Ef (Ph.out.later hU) c.obj c.off dd.a dd.n dd.c c.data HO.out (Row.later hU PB.out) Xc.out (λh0 k hk=>(Tu.out h0 k hk).1))
 rw [<-HEq.out] at Wb;have Ql:Hid (∀U {s d},bB U H s d N->aj (λk=>N k\/k=w.heap.size+1) w1 U->U.cell? ⟨H.kb,11,none⟩=some (aq H.z.s)/\U.cell? ⟨w.heap.size,3,none⟩=some (ab c.obj)/\U.cell? ⟨w.heap.size,8,none⟩=some (ab c.off)/\U.cell? ⟨w.heap.size,10,none⟩=some (dd.v)):=λU s d hd hb=>by
  have:=Cb.of (R.Bx.but hb OL.out (λe=>e.elim (HN.out _ (Nat.le_refl _)) (λe=>by omega)))
  exact⟨hd.kb 11 _ rfl,this.c3,this.c8,this.Jr⟩
 have PM:=ae (λU (hU:aj (λ_=>False) w1 U)=>Ql.out U (Ph.out.but hU (λ_ _ h=>h) (λh=>h)) (hU.mono (λ_ h=>h.elim)))
 clear HC Pg;go_upto_region 4 with fail
 refine wp_region_held_drew (S:=(λU:World=>U.cell? ⟨H.kb,11,none⟩=some (aq H.z.s)/\U.cell? ⟨w.heap.size,3,none⟩=some (ab c.obj)/\U.cell? ⟨w.heap.size,8,none⟩=some (ab c.off)/\U.cell? ⟨w.heap.size,10,none⟩=some (dd.v))) (by kernel_rfl) (PM.out _ (aj.of (Below.refl _ _).drew)) (λhHeld=>?_)
 refine nm 14 0 14 ?_
 refine tn 0 14 1 13 ?_
 simp only [zz];refine tn 1 14 3 12 ?_
 simp only [zz];refine tn 2 14 7 11 ?_
 simp only [zz];refine tn 3 14 15 10 ?_
 simp only [zz];refine tn 4 14 31 9 ?_
 simp only [zz];refine tn 5 14 63 8 ?_
 simp only [zz];refine tn 6 14 127 7 ?_
 simp only [zz];refine tn 7 14 255 6 ?_
 simp only [zz];refine tn 8 14 511 5 ?_
 simp only [zz];refine tn 9 14 1023 4 ?_
 simp only [zz];refine tn 10 14 2047 3 ?_
 simp only [zz];refine zr 11 λK hK=>?_
 go_simp
 go_wp2_with (first|(go_at_call 231;refine (Wb.out w1.drew (Below.refl _ _).drew).mono ?_;rintro e w2 ⟨rfl,hd2,hb2⟩;have PO:=ae hd2;have OH:Hid (aj N w1 w2):=(aj.of (Below.refl _ _).drew).trans hb2;have HE:=ae (λU (hU:aj (λk=>k=w.heap.size+1) w2 U)=>Ql.out U (hd2.but hU (λk hk e=>HN.out k (by omega) hk) (λe=>by have:=HP.out;omega)) (((OH.out).mono (λk hk=>Or.inl hk)).comp hU (λi e=>.inl (.inr e))));have OY:=ae (PI.out.but OH.out (HN.out _ (by omega)));have Pc:=ae (OY.out.lv (rep E) none 0 0);have O3:=ae (OY.out.st (rep E) none 0 0);have OU:Hid (aj (λk=>k=w.heap.size+1) w2 (w2.setCells (w.heap.size+1) 0 (aZ (rep E) none 0 0))):=R.au (S:=(λk=>k=w.heap.size+1)) rfl _ 0 (aj.refl _ _);clear hd2 hb2))
 refine zk hK 14 4095 2 (HE.out w2 (aj.refl _ _)) λhHeld=>?_
 clear hK K;try simp only [zz]
 refine tn 12 14 8191 1 ?_
 simp only [zz];refine zr 13 λK hK=>?_
 refine eh 40 (.tmp 4) (.tmp 25) rfl _ _ rfl rfl _ O3.out ?_
 refine zk hK 14 16383 0 (HE.out _ OU.out) λhHeld=>?_
 clear hK K;try simp only [zz]
 refine zn ?_ _
 go_wp2;exact bodyPost_ret (v:=bR (rep E) none 0 0) (by simp [results,Tryz.results140,asAddr,Pc.out]) rfl ⟨T,rfl,PO.out.but OU.out (λk hk e=>HN.out k (by omega) hk) (λe=>by omega),OV.out,((aj.of HB.out).trans (OI.out.trans OH.out)).comp OU.out (λi e=>.inr (by omega))⟩
end
section
variable {w w':World}{H:Hd}{s s':bc}{d d':Nat->List K.Pu}{O:Nat->Nat->Prop}{N:Nat->Prop}{c:R.Cl}{dd gg:R.Sl}{b:Nat}
def Kn (w:World)(H:Hd)(s:bc)(N:Nat->Prop):Prop:=∃d,bB w H s d N/\L.Tr s.X s.l d/\KF H.p s/\1<=H.W
theorem Kn.later (h:Kn w H s N)(hb:Below w.heap.size w w'):Kn w' H s N:=by obtain⟨d,h1,h2⟩:=h;exact⟨d,h1.later hb,h2⟩
theorem Kn.but {B:Nat->Prop}(h:Kn w H s N)(hb:aj B w w')(hS:∀k,N k->¬B k)(h0:¬B 0):Kn w' H s N:=by obtain⟨d,h1,h2⟩:=h;exact⟨d,h1.but hb hS h0,h2⟩
theorem Kn.mQ (h:Kn w H s N):∀k,N k->H.base<=k/\k<w.heap.size:=by obtain⟨d,h1,h2⟩:=h;exact h1.mQ
theorem Kn.b0 (h:Kn w H s N):0<H.base/\H.base<=w.heap.size:=by obtain⟨d,h1,h2⟩:=h;exact h1.b0
theorem Kn.new (h:Kn w H s N){k:Nat}(hk:w.heap.size<=k):¬N k:=by obtain⟨d,h1,h2⟩:=h;exact h1.new hk
def eD (w:World)(H:Hd)(N:Nat->Prop)(R:dZ×bc)(e:Ending)(w':World):Prop :=
 ∃a n cp N',e=.returned (bR R.1 a n cp)/\Own w' w.heap.size 5 a n cp (S.aN R.1.data)/\Kn w' H R.2 N'/\bd w N w' N'/\∀k,aI a k->¬N' k
theorem eD.plain {r:dZ}{x:bc}{e:Ending}{N':Nat->Prop}(he:e=.returned (bR r none 0 0))(hr:r.data=[])(hk:Kn w' H x N')(hw:bd w N w' N'):eD w H N (r,x) e w' :=
 ⟨none,0,0,N',he,by rw [hr];exact Own.nil _ _ _,hk,hw,λk hk=>by obtain⟨_,h,_⟩:=hk;cases h⟩
structure Fd (w:World)(s:bc)(N:Nat->Prop)(c:R.Cl)(dd gg:R.Sl):Prop where
 is:R.Is w c dd gg
 fm:R.fm c=true
 aE:c.aE∈s.P
 ap:0<dd.n->∀j,aI dd.a j->¬N j
theorem Fd.dQ (h:Fd w s N c dd gg):R.dQ c=true:=by have:=h.fm;unfold R.fm at this;simp only [Bool.and_eq_true] at this;exact this.1.1.2
theorem Fd.obj (h:Fd w s N c dd gg):S.er c.obj:=by
 have:=h.dQ
 unfold R.dQ at this;simp only [Bool.and_eq_true] at this;have h1:=R.cU.1 this.1.1.1.1.2
 unfold S.er;omega
theorem Fd.gn (h:Fd w s N c dd gg):c.aH.length<=255:=by
 have:=h.dQ
 unfold R.dQ R.ux at this;simp only [Bool.and_eq_true,decide_eq_true_eq] at this;exact this.2.1
theorem Fd.hw (h:Fd w s N c dd gg):c.hi<az/\c.lo<az:=⟨h.is.hi,h.is.lo⟩
theorem Fd.row (h:Fd w s N c dd gg):Row w dd.a dd.n dd.c (S.aN c.data):=by
 have hd:=h.is.data
 exact⟨by unfold S.aN;rw [List.length_map];exact hd.len,hd.cap_,hd.none_,hd.cells,by unfold S.aN;intro u hu;obtain⟨x,_,rfl⟩:=List.mem_map.1 hu;rfl⟩
theorem Fd.aH (h:Fd w s N c dd gg):Row w gg.a gg.n gg.c (ints c.aH):=by
 have hd:=h.is.aH
 exact⟨by unfold ints;rw [List.length_map];exact hd.len,hd.cap_,hd.none_,hd.cells,by unfold ints;intro u hu;obtain⟨x,_,rfl⟩:=List.mem_map.1 hu;rfl⟩
theorem Fd.op (h:Fd w s N c dd gg):1<=c.op/\c.op<=10:=by have:=h.fm;unfold R.fm at this;simp only [Bool.and_eq_true] at this;exact R.cU.1 this.1.1.1
def jw:Nat->Nat
 | 1=>135
 | 2=>136
 | 3=>137
 | 4=>138
 | 5=>139
 | 6=>140
 | 7=>141
 | 8=>142
 | 9=>143
 | _=>144
theorem wq (w:World):Calls Tryz.prog 63 #[] w λe w'=>e=.returned (.slice (some ⟨w.heap.size,0,none⟩) 11 11)/\(∀i,1<=i->i<=10->w'.cell? ⟨w.heap.size,i,none⟩=some (.func (.func (jw i)) #[] #[]))/\Below w.heap.size w w':=by
 go_enter Tryz.func63,Tryz.ntmps63
 go_wp2;go_ret;refine⟨rfl,λi h1 h2=>?_,ag _ _⟩
 match i,h1,h2 with
 | 1,_,_=>simp [go_sem,jw]
 | 2,_,_=>simp [go_sem,jw]
 | 3,_,_=>simp [go_sem,jw]
 | 4,_,_=>simp [go_sem,jw]
 | 5,_,_=>simp [go_sem,jw]
 | 6,_,_=>simp [go_sem,jw]
 | 7,_,_=>simp [go_sem,jw]
 | 8,_,_=>simp [go_sem,jw]
 | 9,_,_=>simp [go_sem,jw]
 | 10,_,_=>simp [go_sem,jw]
theorem Kn.of {d:Nat->List K.Pu}(h:bB w H s d N)(ht:L.Tr s.X s.l d)(hf:KF H.p s)(hW:1<=H.W):Kn w H s N:=⟨d,h,ht,hf,hW⟩
end
section
variable {w w':World}{H:Hd}{s s':bc}{d d':Nat->List K.Pu}{O:Nat->Nat->Prop}{N:Nat->Prop}{c:R.Cl}{dd gg:R.Sl}{b:Nat}
theorem Fv (hk:Kn w H s N)(hi:R.Is w c dd gg)(hb:R.fm c=false) :
  Calls Tryz.prog 14 #[aq H.kb,.agg (R.cC c dd gg).toArray] w λe w'=>e=.returned (bR (rep 1) none 0 0)/\Below w.heap.size w w':=by
 obtain⟨d,h,ht,hf,hWd⟩:=id hk
 obtain⟨W,hW⟩:∃W,W=(w.alloc (Obj.cells (R.cC c dd gg).toArray 44)).alloc z6:=⟨_,rfl⟩
 have hB:Below w.heap.size w W:=by rw [hW];exact aB _ _ _
 have hX:R.Bx W w.heap.size (R.cC c dd gg):=by rw [hW];exact R.Bx.later (ag _ _) (R.Bx.new w (R.cC c dd gg) 44)
 have hZ:Zr W (w.heap.size+1):=by rw [hW];have:=Zr.new (w.alloc (Obj.cells (R.cC c dd gg).toArray 44));simpa using this
 have h2:=h.later hB
 have Pg:=ae (Dx hX)
 have HC:=ae (R.uX (R.cC c dd gg) c W ⟨_,_,rfl,hi.later hB⟩ hb)
 have HW:=ae hW
 have HB:=ae hB
 have HX:=ae hX
 have HZ:=ae hZ
 have HD:=ae h2
 have HP:Hid (0<w.heap.size):=by have:=h.b0;unfold Hid;omega
 have HN:=ae (λk hk=>h.new (k:=k) hk)
 clear h h2 hB hX hZ hW hk hf ht hi hb;go_enter Tryz.func14,Tryz.ntmps14
 go_upto_region 1 with fail
 rw [<-HW.out];go_upto_region 2 with (first|((with_reducible refine R.aJ Pg.out ?_ ?_);(· rfl))|(go_at_call 60;refine HC.out.mono ?_;rintro e w1 ⟨rfl,hb1⟩;have OI:=ae hb1;clear hb1))
 have PI:=ae (HZ.out.later OI.out)
 have HR:=ae (bN 1 w1)
 go_upto_region 3 with fail
 go_upto_region 4 with (first|(go_at_call 61;refine HR.out.mono ?_;rintro e w2 ⟨rfl,hb2⟩;have OH:=ae hb2;have OY:=ae (PI.out.later OH.out);have O3:=ae (OY.out.st (rep 1) none 0 0);have Pc:=ae (OY.out.lv (rep 1) none 0 0);clear hb2)|((with_reducible refine a_ O3.out ?_ ?_ ?_);(· rfl);(· rfl)))
 have OU:Hid (aj (·=w.heap.size+1) w2 (w2.setCells (w.heap.size+1) 0 (aZ (rep 1) none 0 0))):=R.au (S:=(·=w.heap.size+1)) rfl _ 0 (aj.refl _ _)
 exact bodyPost_ret (v:=bR (rep 1) none 0 0) (by simp [results,Tryz.results14,asAddr,Pc.out]) rfl ⟨rfl,aj.below (aa HB.out (aa OI.out OH.out)) OU.out (λk e=>by omega)⟩
theorem Cd (hk:Kn w H s N)(hi:R.Is w c dd gg)(hb:R.fm c=true)(hl:s.P.contains c.aE=false) :
  Calls Tryz.prog 14 #[aq H.kb,.agg (R.cC c dd gg).toArray] w λe w'=>e=.returned (bR (rep 2) none 0 0)/\Below w.heap.size w w':=by
 obtain⟨d,h,ht,hf,hWd⟩:=id hk
 obtain⟨W,hW⟩:∃W,W=(w.alloc (Obj.cells (R.cC c dd gg).toArray 44)).alloc z6:=⟨_,rfl⟩
 have hB:Below w.heap.size w W:=by rw [hW];exact aB _ _ _
 have hX:R.Bx W w.heap.size (R.cC c dd gg):=by rw [hW];exact R.Bx.later (ag _ _) (R.Bx.new w (R.cC c dd gg) 44)
 have hZ:Zr W (w.heap.size+1):=by rw [hW];have:=Zr.new (w.alloc (Obj.cells (R.cC c dd gg).toArray 44));simpa using this
 have h2:=h.later hB
 have Pg:=ae (Dx hX)
 have HC:=ae (R.qf (R.cC c dd gg) c W ⟨_,_,rfl,hi.later hB⟩ hb)
 have Rt:=ae hf.iv
 have Pz:=ae hl
 have HW:=ae hW
 have HB:=ae hB
 have HX:=ae hX
 have HZ:=ae hZ
 have HD:=ae h2
 have HP:Hid (0<w.heap.size):=by have:=h.b0;unfold Hid;omega
 have HN:=ae (λk hk=>h.new (k:=k) hk)
 clear h h2 hB hX hZ hW hk hf ht hi hb hl;go_enter Tryz.func14,Tryz.ntmps14
 go_upto_region 1 with fail
 rw [<-HW.out];go_upto_region 2 with (first|((with_reducible refine R.aJ Pg.out ?_ ?_);(· rfl))|(go_at_call 60;refine HC.out.mono ?_;rintro e w1 ⟨a1,n1,c1,rfl,-,hb1⟩;have OI:=ae hb1;clear hb1))
 have Qp:Hid (∀U:World,Below w1.heap.size w1 U->Calls Tryz.prog 62 #[aq H.pg,ab c.aE] U λe w'=>e=.returned (.bool false)/\Below w1.heap.size w1 w'):=λU hU=>by
  have:=DW ((HD.out.later OI.out).later hU) Rt.out c.aE
  rw [Pz.out] at this;refine this.mono ?_
  rintro e w' ⟨he,q,hq⟩
  exact⟨he,by rw [hq];exact below_drewN hU _⟩
 have OL:=ae (R.Bx.later OI.out HX.out)
 have PM:Hid (∀U,aj (λ_=>False) w1 U->U.cell? ⟨H.kb,14,none⟩=some (aq H.pg)/\U.cell? ⟨w.heap.size,1,none⟩=some (ab c.aE)):=λU hU=>by
  have:=Cb.of (R.Bx.but hU OL.out (λh=>h))
  exact⟨an hU ((HD.out.later OI.out).kb 14 _ rfl) (λh=>h),this.c1⟩
 go_upto_region 4 with fail
 go_region_held3 (λU=>U.cell? ⟨H.kb,14,none⟩=some (aq H.pg)/\U.cell? ⟨w.heap.size,1,none⟩=some (ab c.aE)) (first|exact PM.out _ (aj.of (Below.refl _ _).drew)|exact HE.out) (first
   | (go_at_call 62;refine (Qp.out _ (Below.refl _ _).drew).mono ?_;rintro e w3 ⟨rfl,hb3⟩;have OJ:=ae hb3;have HE:=ae (PM.out w3 (aj.of OJ.out));clear hb3))
 have PI:=ae (HZ.out.later (aa OI.out OJ.out))
 have HR:=ae (bN 2 w3)
 go_upto_region 5 with fail
 go_upto_region 6 with (first|(go_at_call 61;refine HR.out.mono ?_;rintro e w2 ⟨rfl,hb2⟩;have OH:=ae hb2;have OY:=ae (PI.out.later OH.out);have O3:=ae (OY.out.st (rep 2) none 0 0);have Pc:=ae (OY.out.lv (rep 2) none 0 0);clear hb2)|((with_reducible refine a_ O3.out ?_ ?_ ?_);(· rfl);(· rfl)))
 have OU:Hid (aj (·=w.heap.size+1) w2 (w2.setCells (w.heap.size+1) 0 (aZ (rep 2) none 0 0))):=R.au (S:=(·=w.heap.size+1)) rfl _ 0 (aj.refl _ _)
 exact bodyPost_ret (v:=bR (rep 2) none 0 0) (by simp [results,Tryz.results14,asAddr,Pc.out]) rfl ⟨rfl,aj.below (aa HB.out (aa (aa OI.out OJ.out) OH.out)) OU.out (λk e=>by omega)⟩
theorem AG:∀i,1<=i->i<=10->∀a b u,Sem.run Tryz.prog (callFunc (jw i) #[a,b]) u=.ok (.enter (jw i) #[a,b]) u
 | 1,_,_,a,b,u=>by simp [go_sem,jw]
 | 2,_,_,a,b,u=>by simp [go_sem,jw]
 | 3,_,_,a,b,u=>by simp [go_sem,jw]
 | 4,_,_,a,b,u=>by simp [go_sem,jw]
 | 5,_,_,a,b,u=>by simp [go_sem,jw]
 | 6,_,_,a,b,u=>by simp [go_sem,jw]
 | 7,_,_,a,b,u=>by simp [go_sem,jw]
 | 8,_,_,a,b,u=>by simp [go_sem,jw]
 | 9,_,_,a,b,u=>by simp [go_sem,jw]
 | 10,_,_,a,b,u=>by simp [go_sem,jw]
end
end Go.Proofs.YtmhinfbkmjdgfaaGreatDoor.V
namespace Go.Proofs.YtmhinfbkmjdgfaaGreatDoor.V
open Go.RowKit
open Go.Proofs.YtmhinfbkmjdgfaaGreatDoor.H (az Cp)
section
variable {w w':World}{H:Hd}{s s':bc}{d d':Nat->List K.Pu}{N:Nat->Prop}
structure Ev where
 id:Int
 vs:List Value
 len:Nat
 a:Option Addr
 cap:Nat
variable {base E ty k:Nat}{a:Option Addr}{n cap:Nat}{Q:List Ev}
end
section
variable {w w':World}
structure Cf where
 W:Int
 o:Int
 p:Int
 m:Int
 q:Int
 r:Int
 l:Int
 s:Int
 y:Int
 k:Int
def Cf.L (c:Cf):List Value:=[ab c.W,ab c.o,ab c.p,ab c.m,ab c.q,ab c.r,ab c.l,ab c.s,ab c.y,ab c.k]
abbrev Cf.v (c:Cf):Value:=.agg c.L.toArray
def jI (n a b:Int):Bool:=decide (a<=n)&&decide (n<=b)
theorem BA {n a b:Int}:jI n a b=true↔a<=n/\n<=b:=by unfold jI;simp
theorem cZ (n a b:Int)(w:World):Calls Tryz.prog 123 #[ab n,ab a,ab b] w λe w'=>e=.returned (.bool (jI n a b))/\w'=w:=by
 by_cases h:a<=n
 ·have hd:decide (a<=n)=true:=decide_eq_true h
  obtain⟨q,hq⟩:∃q,q=decide (n<=b):=⟨_,rfl⟩
  have e:jI n a b=q:=by unfold jI;rw [hd,hq];simp
  have HQ:=ae hq
  rw [e];clear e hq h;go_enter Tryz.func123,Tryz.ntmps123
  go_wp2;rw [<-HQ.out];go_ret;exact⟨aA (by simp),rfl⟩
 ·have hd:decide (a<=n)=false:=decide_eq_false h
  have e:jI n a b=false:=by unfold jI;rw [hd];rfl
  rw [e];clear e h;go_enter Tryz.func123,Tryz.ntmps123
  go_wp2;go_ret;exact⟨aA (by simp),rfl⟩
def Cf.may (c:Cf):Bool:=jI c.W 1 128&&jI c.o 1 64&&jI c.p 1 256&&jI c.m 1 256&&jI c.q 1 256&&jI c.r 1 32&&jI c.l 1 32&&jI c.s 0 16&&jI c.y 1 4&&jI c.k 0 64
theorem Cf.pt {c:Cf}:c.may=true↔(1<=c.W/\c.W<=128)/\(1<=c.o/\c.o<=64)/\(1<=c.p/\c.p<=256)/\(1<=c.m/\c.m<=256)/\(1<=c.q/\c.q<=256)/\(1<=c.r/\c.r<=32)/\(1<=c.l/\c.l<=32)/\(0<=c.s/\c.s<=16)/\(1<=c.y/\c.y<=4)/\(0<=c.k/\c.k<=64):=by
 unfold Cf.may;simp only [Bool.and_eq_true,BA];omega
theorem qP (c:Cf)(w:World):Calls Tryz.prog 57 #[c.v] w λe w'=>e=.returned (.bool c.may)/\Below w.heap.size w w':=by
 obtain⟨W,o,p,m,q,r,l,s,y,k⟩:=c
 unfold Cf.v Cf.L;cases F0:jI W 1 128 with
 | false =>
  have E:Hid (Cf.may ⟨W,o,p,m,q,r,l,s,y,k⟩=false):=by unfold Hid Cf.may;simp only [F0,Bool.true_and,Bool.false_and,Bool.and_false,Bool.and_true]
  go_enter Tryz.func57,Tryz.ntmps57
  go_wp2_with (first|(go_at_call 123;refine (cZ _ _ _ _).mono ?_;rintro e w1 ⟨rfl,rfl⟩;simp only [F0]))
  go_ret;exact⟨aA E.out.symm,ag _ _⟩
 | true =>
  cases F1:jI o 1 64 with
  | false =>
   have E:Hid (Cf.may ⟨W,o,p,m,q,r,l,s,y,k⟩=false):=by unfold Hid Cf.may;simp only [F0,F1,Bool.true_and,Bool.false_and,Bool.and_false,Bool.and_true]
   go_enter Tryz.func57,Tryz.ntmps57
   go_wp2_with (first|(go_at_call 123;refine (cZ _ _ _ _).mono ?_;rintro e w1 ⟨rfl,rfl⟩;simp only [F0,F1]))
   go_ret;exact⟨aA E.out.symm,ag _ _⟩
  | true =>
   cases F2:jI p 1 256 with
   | false =>
    have E:Hid (Cf.may ⟨W,o,p,m,q,r,l,s,y,k⟩=false):=by unfold Hid Cf.may;simp only [F0,F1,F2,Bool.true_and,Bool.false_and,Bool.and_false,Bool.and_true]
    go_enter Tryz.func57,Tryz.ntmps57
    go_wp2_with (first|(go_at_call 123;refine (cZ _ _ _ _).mono ?_;rintro e w1 ⟨rfl,rfl⟩;simp only [F0,F1,F2]))
    go_ret;exact⟨aA E.out.symm,ag _ _⟩
   | true =>
    cases F3:jI m 1 256 with
    | false =>
     have E:Hid (Cf.may ⟨W,o,p,m,q,r,l,s,y,k⟩=false):=by unfold Hid Cf.may;simp only [F0,F1,F2,F3,Bool.true_and,Bool.false_and,Bool.and_false,Bool.and_true]
     go_enter Tryz.func57,Tryz.ntmps57
     go_wp2_with (first|(go_at_call 123;refine (cZ _ _ _ _).mono ?_;rintro e w1 ⟨rfl,rfl⟩;simp only [F0,F1,F2,F3]))
     go_ret;exact⟨aA E.out.symm,ag _ _⟩
    | true =>
     cases F4:jI q 1 256 with
     | false =>
      have E:Hid (Cf.may ⟨W,o,p,m,q,r,l,s,y,k⟩=false):=by unfold Hid Cf.may;simp only [F0,F1,F2,F3,F4,Bool.true_and,Bool.false_and,Bool.and_false,Bool.and_true]
      go_enter Tryz.func57,Tryz.ntmps57
      go_wp2_with (first|(go_at_call 123;refine (cZ _ _ _ _).mono ?_;rintro e w1 ⟨rfl,rfl⟩;simp only [F0,F1,F2,F3,F4]))
      go_ret;exact⟨aA E.out.symm,ag _ _⟩
     | true =>
      cases F5:jI r 1 32 with
      | false =>
       have E:Hid (Cf.may ⟨W,o,p,m,q,r,l,s,y,k⟩=false):=by unfold Hid Cf.may;simp only [F0,F1,F2,F3,F4,F5,Bool.true_and,Bool.false_and,Bool.and_false,Bool.and_true]
       go_enter Tryz.func57,Tryz.ntmps57
       go_wp2_with (first|(go_at_call 123;refine (cZ _ _ _ _).mono ?_;rintro e w1 ⟨rfl,rfl⟩;simp only [F0,F1,F2,F3,F4,F5]))
       go_ret;exact⟨aA E.out.symm,ag _ _⟩
      | true =>
       cases F6:jI l 1 32 with
       | false =>
        have E:Hid (Cf.may ⟨W,o,p,m,q,r,l,s,y,k⟩=false):=by unfold Hid Cf.may;simp only [F0,F1,F2,F3,F4,F5,F6,Bool.true_and,Bool.false_and,Bool.and_false,Bool.and_true]
        go_enter Tryz.func57,Tryz.ntmps57
        go_wp2_with (first|(go_at_call 123;refine (cZ _ _ _ _).mono ?_;rintro e w1 ⟨rfl,rfl⟩;simp only [F0,F1,F2,F3,F4,F5,F6]))
        go_ret;exact⟨aA E.out.symm,ag _ _⟩
       | true =>
        cases F7:jI s 0 16 with
        | false =>
         have E:Hid (Cf.may ⟨W,o,p,m,q,r,l,s,y,k⟩=false):=by unfold Hid Cf.may;simp only [F0,F1,F2,F3,F4,F5,F6,F7,Bool.true_and,Bool.false_and,Bool.and_false,Bool.and_true]
         go_enter Tryz.func57,Tryz.ntmps57
         go_wp2_with (first|(go_at_call 123;refine (cZ _ _ _ _).mono ?_;rintro e w1 ⟨rfl,rfl⟩;simp only [F0,F1,F2,F3,F4,F5,F6,F7]))
         go_ret;exact⟨aA E.out.symm,ag _ _⟩
        | true =>
         cases F8:jI y 1 4 with
         | false =>
          have E:Hid (Cf.may ⟨W,o,p,m,q,r,l,s,y,k⟩=false):=by unfold Hid Cf.may;simp only [F0,F1,F2,F3,F4,F5,F6,F7,F8,Bool.true_and,Bool.false_and,Bool.and_false,Bool.and_true]
          go_enter Tryz.func57,Tryz.ntmps57
          go_wp2_with (first|(go_at_call 123;refine (cZ _ _ _ _).mono ?_;rintro e w1 ⟨rfl,rfl⟩;simp only [F0,F1,F2,F3,F4,F5,F6,F7,F8]))
          go_ret;exact⟨aA E.out.symm,ag _ _⟩
         | true =>
          cases F9:jI k 0 64 with
          | false =>
           have E:Hid (Cf.may ⟨W,o,p,m,q,r,l,s,y,k⟩=false):=by unfold Hid Cf.may;simp only [F0,F1,F2,F3,F4,F5,F6,F7,F8,F9,Bool.true_and,Bool.false_and,Bool.and_false,Bool.and_true]
           go_enter Tryz.func57,Tryz.ntmps57
           go_wp2_with (first|(go_at_call 123;refine (cZ _ _ _ _).mono ?_;rintro e w1 ⟨rfl,rfl⟩;simp only [F0,F1,F2,F3,F4,F5,F6,F7,F8,F9]))
           go_ret;exact⟨aA E.out.symm,ag _ _⟩
          | true =>
           have E:Hid (Cf.may ⟨W,o,p,m,q,r,l,s,y,k⟩=true):=by unfold Hid Cf.may;simp only [F0,F1,F2,F3,F4,F5,F6,F7,F8,F9,Bool.true_and,Bool.false_and,Bool.and_false,Bool.and_true]
           go_enter Tryz.func57,Tryz.ntmps57
           go_wp2_with (first|(go_at_call 123;refine (cZ _ _ _ _).mono ?_;rintro e w1 ⟨rfl,rfl⟩;simp only [F0,F1,F2,F3,F4,F5,F6,F7,F8,F9]))
           go_ret;exact⟨aA E.out.symm,ag _ _⟩
end
end Go.Proofs.YtmhinfbkmjdgfaaGreatDoor.V
