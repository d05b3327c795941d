import Derived.Test.YtmhinfbkmjdgfaaGreatDoorZ31
set_option linter.unusedVariables false
set_option linter.unusedSimpArgs false
set_option maxRecDepth 100000
set_option maxHeartbeats 2000000
namespace Go.Proofs.YtmhinfbkmjdgfaaGreatDoor.V
open Go.RowKit
open Go.Proofs.YtmhinfbkmjdgfaaGreatDoor.H (az Cp)
open Go.Proofs.YtmhinfbkmjdgfaaGreatDoor.M (bM)
section
variable {w w':World}{H:Hd}{s s':bc}{d d':Nat->List K.Pu}{O:Nat->Nat->Prop}{N:Nat->Prop}{c:R.Cl}{dd gg:R.Sl}{b:Nat}
theorem bU (h:bB w H s d N)(ht:L.Tr s.X s.l d)(hf:KF H.p s)(need:Int)(hw:c.hi<az/\c.lo<az)(hby:c.aE∈s.P) :
  Calls Tryz.prog 229 #[aq H.kb,.agg (R.cC c dd gg).toArray,ab need] w λe w'=>e=.returned (ab (eS s c.given c.aE (fq c) need))/\∃T,bB w' H s T N/\L.Tr s.X s.l T/\aj N w w':=by
 unfold eS;cases hg:c.given with
 | true=>exact pL h ht need hg hw
 | false=>exact qt h ht hf need hg hby
theorem Dx (h:R.Bx w b (R.cC c dd gg)):(Instr.loadAt 44 (aq b)).run Tryz.prog w=.ok (.agg (R.cC c dd gg).toArray) w:=by
 have:=R.Ho h.range (by rfl)
 simp [Instr.loadAt,Instr.sureAddr,this]
theorem xu {B:Nat->Prop}{a:Option Addr}{n cap:Nat}{Q:List Value}(h:Row w a n cap Q)(hb:aj B w w')(hn:0<n->∀k,aI a k->¬B k):Row w' a n cap Q:=by
 by_cases h0:0<n
 ·exact Row.but hb h (hn h0)
 ·have hl:=h.len
  refine⟨h.len,h.cap_,h.none_,λx hx j u hu=>?_,h.one⟩
  have:=(List.getElem?_eq_some_iff.1 hu).1
  omega
theorem eh {P:Program}{w:World}{o:Oper}{a:Act}{K:Act->World->Prop}{Q:Exit->Act->World->Prop}(ty:TypeId)(x y:Operand)(ho:o.op=.store ty x y)(vx vy:Value)(hx:a.eval x=vx)(hy:a.eval y=vy)(w':World)
  (hr:(Instr.storeAt ty vx vy).run P w=.ok () w') (h:K (a.put o.dst undef) w'):o.wp P a w K Q:=by
 unfold Oper.wp execOp;simp only [ho,hx,hy,hr,Sem.run_bind,Sem.run_pure,Result.andThen_ok];exact h
theorem Cs (h:bB w H s d N)(ht:L.Tr s.X s.l d)(hf:KF H.p s)(hw:c.hi<az/\c.lo<az)(hby:c.aE∈s.P)(hv:eS s c.given c.aE (fq c) 1≠0) :
  Calls Tryz.prog 139 #[aq H.kb,.agg (R.cC c dd gg).toArray] w λe w'=>e=.returned (bR (rep (eS s c.given c.aE (fq c) 1)) none 0 0)/\∃T,bB w' H s T N/\L.Tr s.X s.l T/\aj N w w':=by
 obtain⟨W,hW⟩:∃W,W=(w.alloc (Obj.cells (R.cC c dd gg).toArray 44)).alloc z6:=⟨_,rfl⟩
 have hB:Below w.heap.size w W:=by rw [hW];exact aB _ _ _
 have hX:R.Bx W w.heap.size (R.cC c dd gg):=by rw [hW];exact R.Bx.later (ag _ _) (R.Bx.new w (R.cC c dd gg) 44)
 have hZ:Zr W (w.heap.size+1):=by rw [hW];have:=Zr.new (w.alloc (Obj.cells (R.cC c dd gg).toArray 44));simpa using this
 have h2:=h.later hB
 have HC:=ae (bU (dd:=dd) (gg:=gg) h2 ht hf 1 hw hby)
 have Pg:=ae (Dx hX)
 obtain⟨m,hm⟩:∃m,m=eS s c.given c.aE (fq c) 1:=⟨_,rfl⟩
 rw [<-hm] at HC hv;have hq:(m != 0)=true:=by simpa using hv
 rw [<-hm];have HW:=ae hW
 have HB:=ae hB
 have HX:=ae hX
 have HZ:=ae hZ
 have HD:=ae h2
 have HP:Hid (0<w.heap.size):=by have:=h.b0;unfold Hid;omega
 have HN:=ae (λk hk=>h.new (k:=k) hk)
 clear h h2 hB hX hZ hW ht hf hv hm;go_enter Tryz.func139,Tryz.ntmps139
 go_upto_region 1 with fail
 rw [<-HW.out];go_upto_region 2 with (first|((with_reducible refine R.aJ Pg.out ?_ ?_);(· rfl))|(go_at_call 229;refine HC.out.mono ?_;rintro e w1 ⟨rfl,T,hd1,ht1,hb1⟩;have Ph:=ae hd1;have OV:=ae ht1;have OI:Hid (aj N W w1):=hb1;clear hd1 ht1 hb1))
 have HR:=ae (bN m w1)
 go_upto_region 3 with fail
 go_upto_region 4 with (first|(go_at_call 61;refine HR.out.mono ?_;rintro e w2 ⟨rfl,hb2⟩;have OH:Hid (aj N W w2):=OI.out.call hb2;have PO:=ae (Ph.out.later hb2);have OY:=ae (HZ.out.but OH.out (HN.out _ (by omega)));have O3:=ae (OY.out.st (rep m) none 0 0);have Pc:=ae (OY.out.lv (rep m) none 0 0);clear hb2)|((with_reducible refine a_ O3.out ?_ ?_ ?_);(· rfl);(· rfl)))
 have OU:Hid (aj (·=w.heap.size+1) w2 (w2.setCells (w.heap.size+1) 0 (aZ (rep m) none 0 0))):=R.au (S:=(·=w.heap.size+1)) rfl _ 0 (aj.refl _ _)
 exact bodyPost_ret (v:=bR (rep m) none 0 0) (by simp [results,Tryz.results139,asAddr,Pc.out]) rfl ⟨rfl,T,PO.out.but OU.out (λk hk e=>HN.out k (by omega) hk) (λe=>by have:0=w.heap.size+1:=e;omega),OV.out,((aj.of HB.out).trans OH.out).comp OU.out (λi e=>.inr (by omega))⟩
theorem za (h:bB w H s d N)(ht:L.Tr s.X s.l d)(hf:KF H.p s)(hw:c.hi<az/\c.lo<az)(hby:c.aE∈s.P)(hv:eS s c.given c.aE (fq c) 2≠0) :
  Calls Tryz.prog 140 #[aq H.kb,.agg (R.cC c dd gg).toArray] w λe w'=>e=.returned (bR (rep (eS s c.given c.aE (fq c) 2)) none 0 0)/\∃T,bB w' H s T N/\L.Tr s.X s.l T/\aj N w w':=by
 obtain⟨W,hW⟩:∃W,W=(w.alloc (Obj.cells (R.cC c dd gg).toArray 44)).alloc z6:=⟨_,rfl⟩
 have hB:Below w.heap.size w W:=by rw [hW];exact aB _ _ _
 have hX:R.Bx W w.heap.size (R.cC c dd gg):=by rw [hW];exact R.Bx.later (ag _ _) (R.Bx.new w (R.cC c dd gg) 44)
 have hZ:Zr W (w.heap.size+1):=by rw [hW];have:=Zr.new (w.alloc (Obj.cells (R.cC c dd gg).toArray 44));simpa using this
 have h2:=h.later hB
 have HC:=ae (bU (dd:=dd) (gg:=gg) h2 ht hf 2 hw hby)
 have Pg:=ae (Dx hX)
 obtain⟨m,hm⟩:∃m,m=eS s c.given c.aE (fq c) 2:=⟨_,rfl⟩
 rw [<-hm] at HC hv;have hq:(m != 0)=true:=by simpa using hv
 rw [<-hm];have HW:=ae hW
 have HB:=ae hB
 have HX:=ae hX
 have HZ:=ae hZ
 have HD:=ae h2
 have HP:Hid (0<w.heap.size):=by have:=h.b0;unfold Hid;omega
 have HN:=ae (λk hk=>h.new (k:=k) hk)
 clear h h2 hB hX hZ hW ht hf hv hm;go_enter Tryz.func140,Tryz.ntmps140
 go_upto_region 1 with fail
 rw [<-HW.out];go_upto_region 2 with (first|((with_reducible refine R.aJ Pg.out ?_ ?_);(· rfl))|(go_at_call 229;refine HC.out.mono ?_;rintro e w1 ⟨rfl,T,hd1,ht1,hb1⟩;have Ph:=ae hd1;have OV:=ae ht1;have OI:Hid (aj N W w1):=hb1;clear hd1 ht1 hb1))
 have HR:=ae (bN m w1)
 go_upto_region 3 with fail
 go_upto_region 4 with (first|(go_at_call 61;refine HR.out.mono ?_;rintro e w2 ⟨rfl,hb2⟩;have OH:Hid (aj N W w2):=OI.out.call hb2;have PO:=ae (Ph.out.later hb2);have OY:=ae (HZ.out.but OH.out (HN.out _ (by omega)));have O3:=ae (OY.out.st (rep m) none 0 0);have Pc:=ae (OY.out.lv (rep m) none 0 0);clear hb2)|((with_reducible refine a_ O3.out ?_ ?_ ?_);(· rfl);(· rfl)))
 have OU:Hid (aj (·=w.heap.size+1) w2 (w2.setCells (w.heap.size+1) 0 (aZ (rep m) none 0 0))):=R.au (S:=(·=w.heap.size+1)) rfl _ 0 (aj.refl _ _)
 exact bodyPost_ret (v:=bR (rep m) none 0 0) (by simp [results,Tryz.results140,asAddr,Pc.out]) rfl ⟨rfl,T,PO.out.but OU.out (λk hk e=>HN.out k (by omega) hk) (λe=>by have:0=w.heap.size+1:=e;omega),OV.out,((aj.of HB.out).trans OH.out).comp OU.out (λi e=>.inr (by omega))⟩
theorem oO (h:bB w H s d N)(ht:L.Tr s.X s.l d)(hf:KF H.p s)(hw:c.hi<az/\c.lo<az)(hby:c.aE∈s.P)(ho:S.er c.obj)(hv:eS s c.given c.aE (fq c) 1=0) :
  Calls Tryz.prog 139 #[aq H.kb,.agg (R.cC c dd gg).toArray] w λe w'=>∃a n cp T,e=.returned (bR ⟨S.rP s.V c.obj c.off c.n,(0,0,0),S.zj s.V c.obj c.off c.n,0⟩ a n cp)/\Own w' w.heap.size 5 a n cp (S.aN (S.zj s.V c.obj c.off c.n))/\bB w' H s T N/\L.Tr s.X s.l T/\aj N w w':=by
 obtain⟨W,hW⟩:∃W,W=(w.alloc (Obj.cells (R.cC c dd gg).toArray 44)).alloc z6:=⟨_,rfl⟩
 have hB:Below w.heap.size w W:=by rw [hW];exact aB _ _ _
 have hX:R.Bx W w.heap.size (R.cC c dd gg):=by rw [hW];exact R.Bx.later (ag _ _) (R.Bx.new w (R.cC c dd gg) 44)
 have hZ:Zr W (w.heap.size+1):=by rw [hW];have:=Zr.new (w.alloc (Obj.cells (R.cC c dd gg).toArray 44));simpa using this
 have h2:=h.later hB
 have HC:=ae (bU (dd:=dd) (gg:=gg) h2 ht hf 1 hw hby)
 have Pg:=ae (Dx hX)
 have hq:(eS s c.given c.aE (fq c) 1 != 0)=false:=by simpa using hv
 rw [hv] at HC;have HO:=ae ho
 obtain⟨D,hD⟩:∃D,D=S.zj s.V c.obj c.off c.n:=⟨_,rfl⟩
 obtain⟨E,hE⟩:∃E,E=S.rP s.V c.obj c.off c.n:=⟨_,rfl⟩
 rw [<-hD,<-hE];have VF:=ae hD
 have HEq:=ae hE
 have HW:=ae hW
 have HB:=ae hB
 have HX:=ae hX
 have HZ:=ae hZ
 have HD:=ae h2
 have HP:Hid (0<w.heap.size):=by have:=h.b0;unfold Hid;omega
 have HN:=ae (λk hk=>h.new (k:=k) hk)
 clear h h2 hB hX hZ hW ht hf hv hq ho hD hE;go_enter Tryz.func139,Tryz.ntmps139
 go_upto_region 1 with fail
 rw [<-HW.out];go_upto_region 2 with (first|((with_reducible refine R.aJ Pg.out ?_ ?_);(· rfl))|(go_at_call 229;refine HC.out.mono ?_;rintro e w1 ⟨rfl,T,hd1,ht1,hb1⟩;have Ph:=ae hd1;have OV:=ae ht1;have OI:Hid (aj N W w1):=hb1;clear hd1 ht1 hb1))
 have OL:=ae (R.Bx.but OI.out HX.out (HN.out _ (Nat.le_refl _)))
 have Ud:=ae (λ(U:World) (hU:Below w1.heap.size w1 U)=>G9 (Ph.out.later hU) c.obj c.off c.n HO.out)
 have PM:Hid (∀U,aj (λ_=>False) w1 U->U.cell? ⟨H.kb,11,none⟩=some (aq H.z.s)/\U.cell? ⟨w.heap.size,3,none⟩=some (ab c.obj)/\U.cell? ⟨w.heap.size,8,none⟩=some (ab c.off)/\U.cell? ⟨w.heap.size,9,none⟩=some (ab c.n)):=λU hU=>by
  have:=Cb.of (R.Bx.but hU OL.out (λh=>h))
  exact⟨an hU (Ph.out.kb 11 _ rfl) (λh=>h),this.c3,this.c8,this.c9⟩
 rw [<-VF.out,<-HEq.out] at Ud;clear HC Pg;go_upto_region 4 with fail
 go_region_held3 (λU=>U.cell? ⟨H.kb,11,none⟩=some (aq H.z.s)/\U.cell? ⟨w.heap.size,3,none⟩=some (ab c.obj)/\U.cell? ⟨w.heap.size,8,none⟩=some (ab c.off)/\U.cell? ⟨w.heap.size,9,none⟩=some (ab c.n)) (first|exact PM.out _ (aj.of (Below.refl _ _).drew)|exact HE.out) (first
   | (go_at_call 230;refine (Ud.out _ (Below.refl _ _).drew).mono ?_;rintro e w2 ⟨a2,c2,rfl,hO2,hb2⟩;have OH:Hid (Below w1.heap.size w1 w2):=aa (Below.refl _ _).drew hb2;have HE:=ae (PM.out w2 (aj.of OH.out));have O0:=ae hO2;clear hO2 hb2))
 have OY:=ae ((HZ.out.but OI.out (HN.out _ (by omega))).later OH.out)
 have O3:=ae (OY.out.st ⟨E,(0,0,0),D,0⟩ a2 D.length c2)
 have Pc:=ae (OY.out.lv ⟨E,(0,0,0),D,0⟩ a2 D.length c2)
 have OU:Hid (aj (·=w.heap.size+1) w2 (w2.setCells (w.heap.size+1) 0 (aZ ⟨E,(0,0,0),D,0⟩ a2 D.length c2))):=R.au (S:=(·=w.heap.size+1)) rfl _ 0 (aj.refl _ _)
 have Qv:Hid (w.heap.size+2<=w1.heap.size):=by have h1:=OI.out.size;have h2:(w.heap.size+1)<W.heap.size:=HZ.out.lt;unfold Hid;omega
 go_wp2_with (first|((with_reducible refine a_ O3.out ?_ ?_ ?_);(· rfl);(· rfl)))
 exact bodyPost_ret (v:=bR ⟨E,(0,0,0),D,0⟩ a2 D.length c2) (by simp [results,Tryz.results139,asAddr,Pc.out]) rfl ⟨a2,D.length,c2,T,rfl,(O0.out.but OU.out (λk hk e=>by have:=O0.out.dB k hk;have:=Qv.out;have e2:k=w.heap.size+1:=e;have h3:w1.drew.heap.size=w1.heap.size:=rfl;omega)).mono (by have:=Qv.out;have h3:w1.drew.heap.size=w1.heap.size:=rfl;omega),(Ph.out.later OH.out).but OU.out (λk hk e=>HN.out k (by omega) hk) (λe=>by have:0=w.heap.size+1:=e;omega),OV.out,((aj.of HB.out).trans (OI.out.call OH.out)).comp OU.out (λi e=>.inr (by omega))⟩
end
section
variable {w w':World}{H:Hd}{s s':bc}{d d':Nat->List K.Pu}{O:Nat->Nat->Prop}{N:Nat->Prop}{c:R.Cl}{dd gg:R.Sl}{b:Nat}
theorem Ge {hi lo:Nat}(h:hi<az/\lo<az):D.js (hi:Int) (lo:Int) (hi*az+lo):=D.js.of ⟨h.1,h.2,rfl⟩
theorem vj (hi lo:Nat)(hw:hi<az/\lo<az)(W:Int)(hW:1<=W)(w:World):Calls Tryz.prog 191 #[.agg #[ai (hi:Int),ai (lo:Int)],ab W] w λe w'=>e=.returned (.bool (decide (D.cE (hi*az+lo) W=hi*az+lo)))/\Below w.heap.size w w':=by
 have hB:=ag w (Obj.cells #[ai (hi:Int),ai (lo:Int)] 30)
 have HC:=ae (λU=>D.uh (hi:Int) (lo:Int) (hi*az+lo) W U (Ge hw))
 have HV:=ae (Ge hw)
 have HE:=ae R.GN
 have hd:decide (1<=W)=true:=by simpa using hW
 have H0:Hid (∀U,Below (w.alloc (Obj.cells #[ai (hi:Int),ai (lo:Int)] 30)).heap.size (w.alloc (Obj.cells #[ai (hi:Int),ai (lo:Int)] 30)) U->U.cell? ⟨w.heap.size,0,none⟩=some (ai (hi:Int))/\U.cell? ⟨w.heap.size,1,none⟩=some (ai (lo:Int))):=λU hU=>⟨cell_later hU (by simp [go_sem]),cell_later hU (by simp [go_sem])⟩
 have HB:=ae hB
 clear hB;go_enter Tryz.func191,Tryz.ntmps191
 go_upto_region 1 with fail
 have heq:=HE.out
 go_region_held3 (λU=>U.cell? ⟨w.heap.size,0,none⟩=some (ai (hi:Int))/\U.cell? ⟨w.heap.size,1,none⟩=some (ai (lo:Int))) (first|exact H0.out _ (Below.refl _ _).drew|exact R7.out) (first
  | (go_at_call 202;refine (HC.out _).mono ?_;rintro e w2 ⟨c1,d1,rfl,hv2,hb2⟩;have QV:=ae hv2;have OH:=ae (aa ((aa HB.out (Below.refl _ _).drew)) hb2);have R7:=ae (H0.out w2 (aa (Below.refl _ _).drew hb2));clear hv2 hb2))
 go_wp2;go_ret;refine⟨?_,OH.out⟩
 have h1:=D.Am QV.out HV.out
 have h2:R.xp c1 d1 (hi:Int) (lo:Int)=D.xp c1 d1 (hi:Int) (lo:Int):=by unfold R.xp D.xp;simp
 rw [<-h1,<-h2];rfl
theorem m_ (h:bB w H s d N)(hW:1<=H.W)(hi lo:Nat)(hw:hi<az/\lo<az):Calls Tryz.prog 232 #[aq H.kb,.agg #[ai (hi:Int),ai (lo:Int)]] w λe w'=>e=.returned (.bool (decide (D.cE (hi*az+lo) H.W=hi*az+lo)))/\Below w.heap.size w w':=by
 obtain⟨W,hWq⟩:∃W,W=w.alloc (Obj.cells #[ai (hi:Int),ai (lo:Int)] 30):=⟨_,rfl⟩
 have hB:Below w.heap.size w W:=by rw [hWq];exact ag _ _
 have y0:W.cell? ⟨w.heap.size,0,none⟩=some (ai (hi:Int)):=by rw [hWq];simp [go_sem]
 have y1:W.cell? ⟨w.heap.size,1,none⟩=some (ai (lo:Int)):=by rw [hWq];simp [go_sem]
 have k0:W.cell? ⟨H.kb,0,none⟩=some (ab H.W):=(h.later hB).kb 0 _ rfl
 have HC:=ae (λU=>vj hi lo hw H.W hW U)
 have H0:Hid (∀U,Below W.heap.size W U->U.cell? ⟨w.heap.size,0,none⟩=some (ai (hi:Int))/\U.cell? ⟨w.heap.size,1,none⟩=some (ai (lo:Int))/\U.cell? ⟨H.kb,0,none⟩=some (ab H.W)):=λU hU=>⟨cell_later hU y0,cell_later hU y1,cell_later hU k0⟩
 have HB:=ae hB
 have HW:=ae hWq
 obtain⟨q,hq⟩:∃q,q=decide (D.cE (hi*az+lo) H.W=hi*az+lo):=⟨_,rfl⟩
 rw [<-hq] at HC ⊢
 clear hB y0 y1 k0 h hWq hq;go_enter Tryz.func232,Tryz.ntmps232
 go_upto_region 1 with fail
 rw [<-HW.out];go_region_held3 (λU=>U.cell? ⟨w.heap.size,0,none⟩=some (ai (hi:Int))/\U.cell? ⟨w.heap.size,1,none⟩=some (ai (lo:Int))/\U.cell? ⟨H.kb,0,none⟩=some (ab H.W)) (first|exact H0.out _ (Below.refl _ _).drew|exact R7.out) (first
  | (go_at_call 191;refine (HC.out _).mono ?_;rintro e w2 ⟨rfl,hb2⟩;have OH:=ae (aa ((aa HB.out (Below.refl _ _).drew)) hb2);have R7:=ae (H0.out w2 (aa (Below.refl _ _).drew hb2));clear hb2))
 go_wp2;go_ret;exact⟨rfl,OH.out⟩
end
section
variable {w w':World}{H:Hd}{s s':bc}{d d':Nat->List K.Pu}{O:Nat->Nat->Prop}{N:Nat->Prop}{c:R.Cl}{dd gg:R.Sl}{b:Nat}
variable {i:Int}{G cap:Int->Nat}{pa:Int->Option Addr}{eH:Nat->Int}
theorem Li.qp {U:World}{Pr:List Int}{D:Int->List Cp}{B:Nat->Prop}(h:Li w H Pr D G pa cap eH)(hb:aj B w U)(hn:¬B H.lg)(hi:i∈Pr)(hr:-9223372036854775808<=i/\i<9223372036854775808) :
  (Instr.lookup 122 (.map (some H.lg)) (.int .i64 i) false).run Tryz.prog U=.ok (.pointer (some ⟨G i,0,none⟩)) U:=by
 have hm:=S.bS hb h.map hn
 obtain⟨v,ps,hrun,hv⟩:=hm.lookup S.sl Tryz.underlying122 (S.bg D2 U) (zd:=.held (.pointer none)) (zp:=[]) rfl (S.yE hr)
 rw [l9 _ _ _ hi] at hv;simp only [S.hr,Option.some.injEq,Prod.mk.injEq,DataW.held.injEq] at hv;rw [hrun,hv.1]
theorem Lay.Eg (h:Lay w H s d O N)(hb:Below w.heap.size w w'):Lay w' H s d O N:=by
 have hs:=hb.size
 exact⟨λi=>Part.but (B:=λ_=>False) (aj.of hb) (λ_ _ h=>h) i (h.part i),h.ap,h.sub,λk hk=>by have h1:=h.mQ k hk;exact⟨h1.1,by omega⟩,h.uA,h.laid.later hb,h.b0.1,by have:=h.b0.2;omega⟩
def Lb (G:Int->Nat)(pa:Int->Option Addr)(i:Int)(k:Nat):Prop:=k=G i\/aI (pa i) k
theorem Iw (h:bB w H s d N)(hf:KF H.p s)(hi:i∈s.P){O:Nat->Nat->Prop}(hL:Lay w H s d O N)(hl:Li w H s.ks s.D G pa cap eH)(hm:∀k,Dk s.ks G pa H.lg k->O 5 k)(c:Cp) :
  Calls Tryz.prog 210 #[.pointer (some ⟨G i,0,none⟩),.agg #[.int .i64 c.1,.int .u64 (c.2.1:Int),.int .u64 (c.2.2:Int)]] w λe w'=>e=.returned (.int .i64 (if H.lm<=((s.D i).length:Int) then 14 else 0))/\(∃N',bB w' H { s with D:=if H.lm<=((s.D i).length:Int) then s.D else fE s.D i (s.D i++[c]) } d N'/\bd w N w' N')/\aj (Lb G pa i) w w':=by
 have hk:i∈s.ks:=by rw [hf.ks];exact hi
 by_cases hq:H.lm<=((s.D i).length:Int)
 ·simp only [if_pos hq]
  refine (M.AB (hl.each i hk) c hq).mono ?_
  rintro e w' ⟨rfl,hb⟩
  exact⟨rfl,⟨N,h.later hb,bd.later hb⟩,aj.of hb⟩
 ·simp only [if_neg hq]
  refine (M.rl (hl.each i hk) c (by omega) hf.lm.2).mono ?_
  rintro e w' ⟨pb,cb,rfl,hd,hw⟩
  exact⟨rfl,hL.list hl hm hk hd hw,hw.but⟩
theorem oM (h:bB w H s d N)(hWd:1<=H.W)(hw:c.hi<az/\c.lo<az)(hq:lO H.W (fq c)=false) :
  Calls Tryz.prog 141 #[.pointer (some ⟨H.kb,0,none⟩),.agg (R.cC c dd gg).toArray] w λe w'=>e=.returned (bR (rep 18) none 0 0)/\Below w.heap.size w w':=by
 obtain⟨W,hW⟩:∃W,W=(w.alloc (Obj.cells (R.cC c dd gg).toArray 44)).alloc z6:=⟨_,rfl⟩
 have hB:Below w.heap.size w W:=by rw [hW];exact aB _ _ _
 have hX:R.Bx W w.heap.size (R.cC c dd gg):=by rw [hW];exact R.Bx.later (ag _ _) (R.Bx.new w (R.cC c dd gg) 44)
 have hZ:Zr W (w.heap.size+1):=by rw [hW];have:=Zr.new (w.alloc (Obj.cells (R.cC c dd gg).toArray 44));simpa using this
 have h2:=h.later hB
 have hq2:decide (D.cE (c.hi*az+c.lo) H.W=c.hi*az+c.lo)=false:=by unfold lO fq at hq;simpa [hWd] using hq
 have HC:=ae (m_ h2 hWd c.hi c.lo hw)
 rw [hq2] at HC;have x4:=(Cb.of hX).c4
 have x5:=(Cb.of hX).c5
 have HW:=ae hW
 have HB:=ae hB
 have HX:=ae hX
 have HZ:=ae hZ
 have HD:=ae h2
 have HP:Hid (0<w.heap.size):=by have:=h.b0;unfold Hid;omega
 have HN:=ae (λk hk=>h.new (k:=k) hk)
 clear h h2 hB hX hZ hW hq hq2;go_enter Tryz.func141,Tryz.ntmps141
 go_upto_region 1 with fail
 rw [<-HW.out];go_upto_region 2 with (first|(go_at_call 232;refine HC.out.mono ?_;rintro e w1 ⟨rfl,hb1⟩;have OI:=ae hb1;clear hb1))
 have HR:=ae (bN 18 w1)
 go_upto_region 3 with (first|(go_at_call 61;refine HR.out.mono ?_;rintro e w2 ⟨rfl,hb2⟩;have OH:Hid (Below W.heap.size W w2):=aa OI.out hb2;have OY:=ae (HZ.out.later OH.out);have O3:=ae (OY.out.st (rep 18) none 0 0);have Pc:=ae (OY.out.lv (rep 18) none 0 0);clear hb2)|((with_reducible refine a_ O3.out ?_ ?_ ?_);(· rfl);(· rfl)))
 have OU:Hid (aj (·=w.heap.size+1) w2 (w2.setCells (w.heap.size+1) 0 (aZ (rep 18) none 0 0))):=R.au (S:=(·=w.heap.size+1)) rfl _ 0 (aj.refl _ _)
 exact bodyPost_ret (v:=bR (rep 18) none 0 0) (by simp [results,Tryz.results141,asAddr,Pc.out]) rfl ⟨rfl,aj.below (aa HB.out OH.out) OU.out (λk e=>by omega)⟩
theorem sB (h:bB w H s d N)(hf:KF H.p s)(hWd:1<=H.W)(hw:c.hi<az/\c.lo<az)(hby:c.aE∈s.P)(hq:lO H.W (fq c)=true) :
  Calls Tryz.prog 141 #[.pointer (some ⟨H.kb,0,none⟩),.agg (R.cC c dd gg).toArray] w λe w'=>e=.returned (bR (rep (if H.lm<=((s.D c.aE).length:Int) then 14 else 0)) none 0 0)/\∃N',bB w' H { s with D:=if H.lm<=((s.D c.aE).length:Int) then s.D else fE s.D c.aE (s.D c.aE++[fq c]) } d N'/\bd w N w' N':=by
 obtain⟨W,hW⟩:∃W,W=(w.alloc (Obj.cells (R.cC c dd gg).toArray 44)).alloc z6:=⟨_,rfl⟩
 have hB:Below w.heap.size w W:=by rw [hW];exact aB _ _ _
 have hX:R.Bx W w.heap.size (R.cC c dd gg):=by rw [hW];exact R.Bx.later (ag _ _) (R.Bx.new w (R.cC c dd gg) 44)
 have hZ:Zr W (w.heap.size+1):=by rw [hW];have:=Zr.new (w.alloc (Obj.cells (R.cC c dd gg).toArray 44));simpa using this
 have h2:=h.later hB
 have hq2:decide (D.cE (c.hi*az+c.lo) H.W=c.hi*az+c.lo)=true:=by unfold lO fq at hq;simpa [hWd] using hq
 have HC:=ae (m_ h2 hWd c.hi c.lo hw)
 rw [hq2] at HC;have x4:=(Cb.of hX).c4
 have x5:=(Cb.of hX).c5
 have HF:=ae hf
 have RX:=ae hby
 obtain⟨E,hE⟩:∃E,E=(if H.lm<=((s.D c.aE).length:Int) then (14:Int) else 0):=⟨_,rfl⟩
 obtain⟨D9,hD9⟩:∃D9,D9=(if H.lm<=((s.D c.aE).length:Int) then s.D else fE s.D c.aE (s.D c.aE++[fq c])):=⟨_,rfl⟩
 rw [<-hE,<-hD9];have HEq:=ae hE
 have VF:=ae hD9
 have HW:=ae hW
 have HB:=ae hB
 have HX:=ae hX
 have HZ:=ae hZ
 have HD:=ae h2
 have HP:Hid (0<w.heap.size):=by have:=h.b0;unfold Hid;omega
 have HN:=ae (λk hk=>h.new (k:=k) hk)
 clear h h2 hB hX hZ hW hq hq2 hf hby hE hD9;go_enter Tryz.func141,Tryz.ntmps141
 go_upto_region 1 with fail
 rw [<-HW.out];go_upto_region 2 with (first|(go_at_call 232;refine HC.out.mono ?_;rintro e w1 ⟨rfl,hb1⟩;have OI:=ae hb1;clear hb1 x4 x5))
 have OL:=ae (R.Bx.later OI.out HX.out)
 have Ph:=ae (HD.out.later OI.out)
 have PI:=ae (HZ.out.later OI.out)
 obtain⟨O,hL⟩:=Ph.out
 obtain⟨G,pa,cap,eH,hl,hm⟩:=hL.part 5
 have hks:c.aE∈s.ks:=by rw [HF.out.ks];exact RX.out
 have Wp:Hid (∀k,Lb G pa c.aE k->N k):=λk hk=>hL.sub 5 k (hm k (.inr ⟨_,hks,hk⟩))
 have Ql:Hid (∀U,aj (Lb G pa c.aE) w1 U->U.cell? ⟨H.kb,15,none⟩=some (.map (some H.lg))/\U.cell? ⟨w.heap.size,1,none⟩=some (.int .i64 c.aE)/\U.cell? ⟨w.heap.size,3,none⟩=some (.int .i64 c.obj)/\U.cell? ⟨w.heap.size,4,none⟩=some (.int .u64 (c.hi:Int))/\U.cell? ⟨w.heap.size,5,none⟩=some (.int .u64 (c.lo:Int))/\(Instr.lookup 122 (.map (some H.lg)) (.int .i64 c.aE) false).run Tryz.prog U=.ok (.pointer (some ⟨G c.aE,0,none⟩)) U):=λU hb=>by
  have hx:=Cb.of (R.Bx.but hb OL.out (λe=>HN.out _ (Nat.le_refl _) (Wp.out _ e)))
  exact⟨an hb (Ph.out.kb 15 _ rfl) (λe=>absurd (hL.ap 7 5 _ (hL.part 7).2 (hm _ (.inr ⟨_,hks,e⟩))) (by decide)),hx.c1,hx.c3,hx.c4,hx.c5,hl.qp hb (λe=>(hl.eH _ hks _ e).2 rfl) hks (HF.out.wk RX.out)⟩
 have O6:Hid (∀U,aj (λk=>Lb G pa c.aE k\/k=w.heap.size+1) w1 U->U.cell? ⟨H.kb,15,none⟩=some (.map (some H.lg))/\U.cell? ⟨w.heap.size,1,none⟩=some (.int .i64 c.aE)/\U.cell? ⟨w.heap.size,3,none⟩=some (.int .i64 c.obj)/\U.cell? ⟨w.heap.size,4,none⟩=some (.int .u64 (c.hi:Int))/\U.cell? ⟨w.heap.size,5,none⟩=some (.int .u64 (c.lo:Int))/\(Instr.lookup 122 (.map (some H.lg)) (.int .i64 c.aE) false).run Tryz.prog U=.ok (.pointer (some ⟨G c.aE,0,none⟩)) U):=λU hb=>by
  have hx:=Cb.of (R.Bx.but hb OL.out (λe=>e.elim (λe=>HN.out _ (Nat.le_refl _) (Wp.out _ e)) (λe=>by omega)))
  have hnw:∀k,N k->k≠w.heap.size+1:=λk hk e=>HN.out _ (by omega) (e ▸ hk)
  exact⟨an hb (Ph.out.kb 15 _ rfl) (λe=>e.elim (λe=>absurd (hL.ap 7 5 _ (hL.part 7).2 (hm _ (.inr ⟨_,hks,e⟩))) (by decide)) (hnw _ (hL.sub 7 _ (hL.part 7).2))),hx.c1,hx.c3,hx.c4,hx.c5,hl.qp hb (λe=>e.elim (λe=>(hl.eH _ hks _ e).2 rfl) (hnw _ (hL.sub 5 _ (hm _ (.inl rfl))))) hks (HF.out.wk RX.out)⟩
 have Ro:=ae (λ(U:World) (hU:Below w1.heap.size w1 U)=>Iw (Ph.out.later hU) HF.out RX.out (hL.Eg hU) (hl.but (aj.of (S:=λ_=>False) hU) (λ_ _ h=>h)) hm (fq c))
 rw [<-HEq.out,<-VF.out] at Ro;unfold fq at Ro;clear hL hl hm hks HC;go_upto_region 3 with fail
 refine wp_region_held_drew (S:=(λU:World=>U.cell? ⟨H.kb,15,none⟩=some (.map (some H.lg))/\U.cell? ⟨w.heap.size,1,none⟩=some (.int .i64 c.aE)/\U.cell? ⟨w.heap.size,3,none⟩=some (.int .i64 c.obj)/\U.cell? ⟨w.heap.size,4,none⟩=some (.int .u64 (c.hi:Int))/\U.cell? ⟨w.heap.size,5,none⟩=some (.int .u64 (c.lo:Int))/\(Instr.lookup 122 (.map (some H.lg)) (.int .i64 c.aE) false).run Tryz.prog U=.ok (.pointer (some ⟨G c.aE,0,none⟩)) U)) (by kernel_rfl) (Ql.out _ (aj.of (Below.refl _ _).drew)) (λhHeld=>?_)
 refine nm 12 0 12 ?_
 refine tn 0 12 1 11 ?_
 simp only [zz];refine tn 1 12 3 10 ?_
 simp only [zz];refine tn 2 12 7 9 ?_
 simp only [zz];refine tn 3 12 15 8 ?_
 simp only [zz];refine tn 4 12 31 7 ?_
 simp only [zz];refine tn 5 12 63 6 ?_
 simp only [zz];refine tn 6 12 127 5 ?_
 simp only [zz];refine tn 7 12 255 4 ?_
 simp only [zz];refine tn 8 12 511 3 ?_
 simp only [zz];refine zr 9 λK hK=>?_
 go_simp
 go_wp2_with (first|(go_at_call 210;refine (Ro.out w1.drew (Below.refl _ _).drew).mono ?_;rintro e w2 ⟨rfl,⟨N2,hd2,hw2⟩,hb2⟩;have PO:=ae hd2;have PC:Hid (bd w1 N w2 N2):=(bd.later (Below.refl _ _).drew).trans hw2;have OH:Hid (aj (Lb G pa c.aE) w1 w2):=(aj.of (Below.refl _ _).drew).trans hb2;have OY:=ae (PI.out.but PC.out.2 (HN.out _ (by omega)));have Pc:=ae (OY.out.lv (rep E) none 0 0);have O3:=ae (OY.out.st (rep E) none 0 0);have OU:Hid (aj (λk=>k=w.heap.size+1) w2 (w2.setCells (w.heap.size+1) 0 (aZ (rep E) none 0 0))):=R.au (S:=(λk=>k=w.heap.size+1)) rfl _ 0 (aj.refl _ _);have RM:Hid (aj (λk=>Lb G pa c.aE k\/k=w.heap.size+1) w1 (w2.setCells (w.heap.size+1) 0 (aZ (rep E) none 0 0))):=(aj.mono (T:=λk=>Lb G pa c.aE k\/k=w.heap.size+1) OH.out (λk hk=>Or.inl hk)).comp OU.out (λi e=>.inl (.inr e));clear hd2 hb2 hw2))
 refine zk hK 12 1023 2 (Ql.out w2 OH.out) λhHeld=>?_
 clear hK K;try simp only [zz]
 refine tn 10 12 2047 1 ?_
 simp only [zz];refine zr 11 λK hK=>?_
 rw [if_pos (by kernel_rfl)];refine eh 40 (.tmp 4) (.tmp 22) rfl _ _ rfl rfl _ O3.out ?_
 refine zk hK 12 4095 0 (O6.out _ RM.out) λhHeld=>?_
 clear hK K;try simp only [zz]
 refine zn ?_ _
 go_wp2;have hlt:=PI.out.lt
 refine bodyPost_ret (v:=bR (rep E) none 0 0) (by simp [results,Tryz.results141,asAddr,Pc.out]) rfl ⟨rfl,N2,PO.out.but OU.out (λk hk e=>PC.out.out (b:=k) (by omega) (HN.out _ (by omega)) hk) (λe=>by omega),?_⟩
 have h1:=(bd.later (N:=N) (aa HB.out OI.out)).trans PC.out
 exact⟨h1.1,h1.2.comp OU.out (λi e=>.inr (by omega))⟩
end
section
variable {w w':World}{H:Hd}{s s':bc}{d d':Nat->List K.Pu}{O:Nat->Nat->Prop}{N:Nat->Prop}{c:R.Cl}{dd gg:R.Sl}{b:Nat}
def GI (w:World)(lm:Int)(g n:Nat)(K:List Cp)(t a10 a11:Value)(w':World):Prop :=
 ∃(i:Nat) (pa:Option Addr) (cap:Nat),i<=n/\t=.int .i64 (i:Int)/\M.Dm w' w.heap.size g lm pa cap (K.take i)/\Below w.heap.size w w'
theorem tZ (h:bB w H s d N)(hm:H.lm<=32/\1<=H.lm)(number:Int)(hlt:∀j∈s.ks,j<number)(h64:-9223372036854775808<=number/\number<9223372036854775808)(hkl:s.ks.length<=32){p:Option Addr}{n cp:Nat}{K:List Cp}(hr:Rd w p n K)(hn:(n:Int)<=H.lm) :
  Calls Tryz.prog 131 #[.pointer (some ⟨H.kb,0,none⟩),.int .i64 number,.slice p n cp] w λe w'=>e=.returned (.int .i64 0)/\∃N',bB w' H { s with ks:=s.ks++[number],D:=fE s.D number K } d N'/\bd w N w' N':=by
 have k6:=h.kb 6 _ rfl
 have PA:=ae (M.cu H.lm w hm.2 hm.1)
 have HD:=ae h
 have HM:=ae hm
 have HR:=ae hr
 have Vj:Hid (K.length=n):=hr.len
 have PH:=ae hlt
 have XZ:=ae h64
 have TX:=ae hkl
 have R6:=ae hn
 have hn9:n<9223372036854775807:=by omega
 clear h hm hr hlt h64 hkl hn;go_enter Tryz.func131,Tryz.ntmps131
 go_upto_region 3 with (first|(go_at_call 209;refine PA.out.mono ?_;rintro e w1 ⟨g,rfl,hd1,hb1⟩;have Ph:=ae hd1;have OI:=ae hb1;clear hd1 hb1 k6))
 go_loopw [23,10,11] (GI w H.lm g n K) (λt _ _ _=>n - (intOf t).toNat)
 case atStart=>exact⟨0,none,0,by omega,rfl,by simpa using Ph.out,OI.out⟩
 case round =>
  obtain⟨i,pa,cap,hi,rfl,hdm,hB⟩:=hrel
  have ei:IntKind.i64.wrap ((i:Int)+1)=(i:Int)+1:=by rw [IntKind.wrap_i64];omega
  have HB:=ae hB
  have Rh:=ae hdm
  clear hdm hB;by_cases hlt:i<n
  ·have hd:decide ((i:Int)<(n:Int))=true:=decide_eq_true (by omega)
   have hl:=Vj.out
   obtain⟨x,hx⟩:∃x,K[i]?=some x:=⟨_,List.getElem?_eq_getElem (by omega)⟩
   obtain⟨b,q,rfl,hat⟩:=(HR.out.later HB.out).at_ (by omega)
   obtain⟨x0,x1,x2⟩:=hat i x hx
   have HT:Hid (K.take (i+1)=K.take i++[x]):=by unfold Hid;rw [List.take_add_one,hx];rfl
   have T_:Hid ((K.take i).length=i):=by unfold Hid;rw [List.length_take];omega
   clear hat hx hl;obtain⟨xo,xh,xl⟩:=x
   simp only at x0 x1 x2;obtain⟨w2,hw2⟩:∃w2,w2=wr.alloc (Obj.cells #[.int .i64 xo,.int .u64 (xh:Int),.int .u64 (xl:Int)] 37):=⟨_,rfl⟩
   have hB2:Below wr.heap.size wr w2:=by rw [hw2];exact ag _ _
   have y0:w2.cell? ⟨wr.heap.size,0,none⟩=some (.int .i64 xo):=by rw [hw2];simp [go_sem]
   have y1:w2.cell? ⟨wr.heap.size,1,none⟩=some (.int .u64 (xh:Int)):=by rw [hw2];simp [go_sem]
   have y2:w2.cell? ⟨wr.heap.size,2,none⟩=some (.int .u64 (xl:Int)):=by rw [hw2];simp [go_sem]
   have Ro:=ae (M.rl (Rh.out.later hB2) (xo,xh,xl) (by rw [T_.out];have:=R6.out;omega) HM.out.1)
   have OH:=ae (aa HB.out hB2)
   have W9:=ae (Rh.out.later hB2)
   clear hB2;go_upto_region 5 with fail
   rw [<-hw2];clear hw2 x0 x1 x2;go_wp2_with (first|(go_at_call 210;refine Ro.out.mono ?_;rintro e w3 ⟨pb,cb,rfl,hd3,hw3⟩;have RK:=ae hd3;have QX:=ae hw3;clear hd3 hw3 y0 y1 y2))
   refine⟨⟨i+1,pb,cb,by omega,by go_num,by rw [HT.out];exact RK.out,QX.out.below W9.out OH.out⟩,by simp [intOf];omega⟩
  ·obtain rfl:i=n:=by omega
   have hd:decide ((i:Int)<(i:Int))=false:=by simp
   have HK:Hid (K.take i=K):=by unfold Hid;rw [List.take_of_length_le (by have:=Vj.out;omega)]
   rw [HK.out] at Rh;obtain⟨O,hL⟩:=HD.out
   obtain⟨G,pq,cq,eH,hli,hm5⟩:=hL.part 5
   have hmr:=S.bS (S:=λ_=>False) (aj.of HB.out) hli.map (λh=>h)
   obtain⟨w3,hrun,hm3,htn⟩:=hmr.store S.sl Tryz.underlying122 (by have:=TX.out;unfold maxLen;omega) (key:=.int .i64 number) (kl:=.int .i64 number) (S.yE XZ.out) (val:=.pointer (some ⟨g,0,none⟩)) (d:=.held (.pointer (some ⟨g,0,none⟩))) (ps:=[]) rfl
   have hb3:=S.lz htn
   rw [yl _ _ _ _ PH.out] at hm3;have k15:=(HD.out.later HB.out).kb 15 _ rfl
   have hglt:=hli.map.lt
   have Qm:Hid (∃N',bB w3 H { s with ks:=s.ks++[number],D:=fE s.D number K } d N'/\bd w N w3 N'):=by
    have hlo:=Rh.out.lo
    have hbl:=λk hk=>(Rh.out.own.dB k hk).1
    exact hL.arm hli hm5 PH.out ((Rh.out.but hb3 (λe=>by have e2:g=H.lg:=e;omega) (λk hk e=>by have e2:k=H.lg:=e;have:=hbl k hk;omega)).mono hL.b0.2) ⟨hlo,hbl⟩ ((aj.of HB.out).trans hb3) hm3
   clear hL hli hm5 hm3 htn hb3 hglt hmr;go_wp2;go_ret;exact⟨rfl,Qm.out⟩
end
section
variable {w w':World}{H:Hd}{s s':bc}{d d':Nat->List K.Pu}{O:Nat->Nat->Prop}{N:Nat->Prop}{c:R.Cl}{dd gg:R.Sl}{b:Nat}
theorem Ae (h:bB w H s d N)(hf:KF H.p s)(hby:c.aE∈s.P)(hG:Row w gg.a gg.n gg.c (ints c.aH))(hgn:gg.n<=255)(hv:M.bX H.lm (s.D c.aE) c.aH≠0) :
  Calls Tryz.prog 143 #[aq H.kb,.agg (R.cC c dd gg).toArray] w λe w'=>e=.returned (bR (rep (M.bX H.lm (s.D c.aE) c.aH)) none 0 0)/\Below w.heap.size w w':=by
 obtain⟨W,hW⟩:∃W,W=(w.alloc (Obj.cells (R.cC c dd gg).toArray 44)).alloc z6:=⟨_,rfl⟩
 have hB:Below w.heap.size w W:=by rw [hW];exact aB _ _ _
 have hX:R.Bx W w.heap.size (R.cC c dd gg):=by rw [hW];exact R.Bx.later (ag _ _) (R.Bx.new w (R.cC c dd gg) 44)
 have hZ:Zr W (w.heap.size+1):=by rw [hW];have:=Zr.new (w.alloc (Obj.cells (R.cC c dd gg).toArray 44));simpa using this
 have h2:=h.later hB
 obtain⟨O,hL⟩:=id h2
 obtain⟨G,pa,cap,eH,hl,hm⟩:=hL.part 5
 have hks:c.aE∈s.ks:=by rw [hf.ks];exact hby
 have HS:Hid (∀U,aj (λ_=>False) W U->U.cell? ⟨H.kb,15,none⟩=some (.map (some H.lg))/\U.cell? ⟨w.heap.size,1,none⟩=some (ab c.aE)/\U.cell? ⟨w.heap.size,12,none⟩=some (gg.v)/\(Instr.lookup 122 (.map (some H.lg)) (ab c.aE) false).run Tryz.prog U=.ok (.pointer (some ⟨G c.aE,0,none⟩)) U):=λU hb=>by
  have hx:=Cb.of (R.Bx.but hb hX (λe=>e))
  exact⟨an hb (h2.kb 15 _ rfl) (λe=>e),hx.c1,hx.Il,hl.qp hb (λe=>e) hks (hf.wk hby)⟩
 have Rx:=ae (λ(U:World) (hU:Below W.heap.size W U)=>M.lj ((hl.each _ hks).later hU) (Row.later hU (Row.later hB hG)) (by omega) (hf.iM hby) hf.lm.2)
 have HF:=ae hf
 obtain⟨m,hmq⟩:∃m,m=M.bX H.lm (s.D c.aE) c.aH:=⟨_,rfl⟩
 obtain⟨Kl,hKl⟩:∃Kl,Kl=M.cL H.lm (s.D c.aE) c.aH:=⟨_,rfl⟩
 rw [<-hmq,<-hKl] at Rx;rw [<-hmq] at hv ⊢
 have hq:(m != 0)=true:=by simpa using hv
 have HW:=ae hW
 have HB:=ae hB
 have HX:=ae hX
 have HZ:=ae hZ
 have HD:=ae h2
 have HP:Hid (0<w.heap.size):=by have:=h.b0;unfold Hid;omega
 have HN:=ae (λk hk=>h.new (k:=k) hk)
 clear h h2 hB hX hZ hW hf hby hL hl hm hks hG hv hmq hKl;go_enter Tryz.func143,Tryz.ntmps143
 go_upto_region 1 with fail
 rw [<-HW.out];go_region_held3 (λU=>U.cell? ⟨H.kb,15,none⟩=some (.map (some H.lg))/\U.cell? ⟨w.heap.size,1,none⟩=some (ab c.aE)/\U.cell? ⟨w.heap.size,12,none⟩=some (gg.v)/\(Instr.lookup 122 (.map (some H.lg)) (ab c.aE) false).run Tryz.prog U=.ok (.pointer (some ⟨G c.aE,0,none⟩)) U) (first|exact HS.out _ (aj.of (Below.refl _ _).drew)|exact HE.out) (first
   | (go_at_call 234;(with_reducible refine (Rx.out W.drew (Below.refl _ _).drew).mono ?_);rintro e w1 ⟨p1,c1,rfl,hO1,hb1⟩;have OI:Hid (Below W.heap.size W w1):=aa (Below.refl _ _).drew hb1;have HE:=ae (HS.out w1 (aj.of OI.out));have Ps:=ae hO1;clear hO1 hb1))
 have PI:=ae (HZ.out.later OI.out)
 have HR:=ae (bN m w1)
 go_upto_region 3 with fail
 go_upto_region 4 with (first|(go_at_call 61;refine HR.out.mono ?_;rintro e w2 ⟨rfl,hb2⟩;have OH:=ae hb2;have OY:=ae (PI.out.later OH.out);have O3:=ae (OY.out.st (rep m) none 0 0);have Pc:=ae (OY.out.lv (rep m) none 0 0);clear hb2)|((with_reducible refine a_ O3.out ?_ ?_ ?_);(· rfl);(· rfl)))
 have OU:Hid (aj (·=w.heap.size+1) w2 (w2.setCells (w.heap.size+1) 0 (aZ (rep m) none 0 0))):=R.au (S:=(·=w.heap.size+1)) rfl _ 0 (aj.refl _ _)
 exact bodyPost_ret (v:=bR (rep m) none 0 0) (by simp [results,Tryz.results143,asAddr,Pc.out]) rfl ⟨rfl,aj.below (aa HB.out (aa OI.out OH.out)) OU.out (λk e=>by omega)⟩
theorem hJ (h:bB w H s d N)(hf:KF H.p s)(hby:c.aE∈s.P)(hG:Row w gg.a gg.n gg.c (ints c.aH))(hgn:gg.n<=255)(hv:M.bX H.lm (s.D c.aE) c.aH=0)(hp:P.dI H.pm s.px s.P=true) :
  Calls Tryz.prog 143 #[aq H.kb,.agg (R.cC c dd gg).toArray] w λe w'=>e=.returned (bR (rep 13) none 0 0)/\∃N',bB w' H s d N'/\bd w N w' N':=by
 obtain⟨W,hW⟩:∃W,W=(w.alloc (Obj.cells (R.cC c dd gg).toArray 44)).alloc z6:=⟨_,rfl⟩
 have hB:Below w.heap.size w W:=by rw [hW];exact aB _ _ _
 have hX:R.Bx W w.heap.size (R.cC c dd gg):=by rw [hW];exact R.Bx.later (ag _ _) (R.Bx.new w (R.cC c dd gg) 44)
 have hZ:Zr W (w.heap.size+1):=by rw [hW];have:=Zr.new (w.alloc (Obj.cells (R.cC c dd gg).toArray 44));simpa using this
 have h2:=h.later hB
 obtain⟨O,hL⟩:=id h2
 obtain⟨G,pa,cap,eH,hl,hm⟩:=hL.part 5
 have hks:c.aE∈s.ks:=by rw [hf.ks];exact hby
 have HS:Hid (∀U,aj (λ_=>False) W U->U.cell? ⟨H.kb,15,none⟩=some (.map (some H.lg))/\U.cell? ⟨w.heap.size,1,none⟩=some (ab c.aE)/\U.cell? ⟨w.heap.size,12,none⟩=some (gg.v)/\(Instr.lookup 122 (.map (some H.lg)) (ab c.aE) false).run Tryz.prog U=.ok (.pointer (some ⟨G c.aE,0,none⟩)) U):=λU hb=>by
  have hx:=Cb.of (R.Bx.but hb hX (λe=>e))
  exact⟨an hb (h2.kb 15 _ rfl) (λe=>e),hx.c1,hx.Il,hl.qp hb (λe=>e) hks (hf.wk hby)⟩
 have Rx:=ae (λ(U:World) (hU:Below W.heap.size W U)=>M.lj ((hl.each _ hks).later hU) (Row.later hU (Row.later hB hG)) (by omega) (hf.iM hby) hf.lm.2)
 have HF:=ae hf
 obtain⟨Kl,hKl⟩:∃Kl,Kl=M.cL H.lm (s.D c.aE) c.aH:=⟨_,rfl⟩
 rw [hv,<-hKl] at Rx;have O1:=ae hp
 have HW:=ae hW
 have HB:=ae hB
 have HX:=ae hX
 have HZ:=ae hZ
 have HD:=ae h2
 have HP:Hid (0<w.heap.size):=by have:=h.b0;unfold Hid;omega
 have HN:=ae (λk hk=>h.new (k:=k) hk)
 clear h h2 hB hX hZ hW hf hby hL hl hm hks hG hv hp hKl;go_enter Tryz.func143,Tryz.ntmps143
 go_upto_region 1 with fail
 rw [<-HW.out];go_region_held3 (λU=>U.cell? ⟨H.kb,15,none⟩=some (.map (some H.lg))/\U.cell? ⟨w.heap.size,1,none⟩=some (ab c.aE)/\U.cell? ⟨w.heap.size,12,none⟩=some (gg.v)/\(Instr.lookup 122 (.map (some H.lg)) (ab c.aE) false).run Tryz.prog U=.ok (.pointer (some ⟨G c.aE,0,none⟩)) U) (first|exact HS.out _ (aj.of (Below.refl _ _).drew)|exact HE.out) (first
   | (go_at_call 234;(with_reducible refine (Rx.out W.drew (Below.refl _ _).drew).mono ?_);rintro e w1 ⟨p1,c1,rfl,hO1,hb1⟩;have OI:Hid (Below W.heap.size W w1):=aa (Below.refl _ _).drew hb1;have HE:=ae (HS.out w1 (aj.of OI.out));have Ps:=ae hO1;clear hO1 hb1))
 have QO:=ae (yz (HD.out.later OI.out) HF.out.iv)
 have k14:=(HD.out.later OI.out).kb 14 _ rfl
 have e1:P.Fm H.pm s.px s.P=0:=by unfold P.Fm;rw [if_pos O1.out]
 have e2:P.Ej H.pm s.px s.P=13:=by unfold P.Ej;rw [if_pos O1.out]
 have e3:P.AD H.pm s.px s.P=s.px:=by unfold P.AD;rw [if_pos O1.out]
 have e4:P.xt H.pm s.px s.P=s.P:=by unfold P.xt;rw [if_pos O1.out]
 rw [e1,e2,e3,e4] at QO;clear e1 e2 e3 e4;go_upto_region 5 with (first|(go_at_call 235;refine QO.out.mono ?_;rintro e w3 ⟨rfl,N2,hd3,hw3⟩;have RK:=ae hd3;have QX:Hid (bd W N w3 N2):=(bd.later OI.out).trans hw3;clear hd3 hw3 k14))
 have PI:=ae (HZ.out.but QX.out.2 (HN.out _ (by omega)))
 have U0:Hid (¬N2 (w.heap.size+1)):=QX.out.out HZ.out.lt (HN.out _ (by omega))
 have HR:=ae (bN 13 w3)
 go_upto_region 6 with fail
 go_upto_region 7 with (first|(go_at_call 61;refine HR.out.mono ?_;rintro e w2 ⟨rfl,hb2⟩;have OH:=ae hb2;have OY:=ae (PI.out.later OH.out);have O3:=ae (OY.out.st (rep 13) none 0 0);have Pc:=ae (OY.out.lv (rep 13) none 0 0);clear hb2)|((with_reducible refine a_ O3.out ?_ ?_ ?_);(· rfl);(· rfl)))
 have OU:Hid (aj (·=w.heap.size+1) w2 (w2.setCells (w.heap.size+1) 0 (aZ (rep 13) none 0 0))):=R.au (S:=(·=w.heap.size+1)) rfl _ 0 (aj.refl _ _)
 exact bodyPost_ret (v:=bR (rep 13) none 0 0) (by simp [results,Tryz.results143,asAddr,Pc.out]) rfl ⟨rfl,N2,(RK.out.later OH.out).but OU.out (λk hk e=>U0.out (e ▸ hk)) (λe=>by have:0=w.heap.size+1:=e;omega),(bd.trans (bd.later (N:=N) HB.out) ((QX.out).trans (bd.later OH.out))).1,((bd.trans (bd.later (N:=N) HB.out) ((QX.out).trans (bd.later OH.out))).2).comp OU.out (λi e=>.inr (by omega))⟩
theorem zO (h:bB w H s d N)(hf:KF H.p s)(hby:c.aE∈s.P)(hG:Row w gg.a gg.n gg.c (ints c.aH))(hgn:gg.n<=255)(hv:M.bX H.lm (s.D c.aE) c.aH=0)(hp:P.dI H.pm s.px s.P=false) :
  Calls Tryz.prog 143 #[aq H.kb,.agg (R.cC c dd gg).toArray] w λe w'=>e=.returned (bR ⟨0,(0,0,0),[],s.px⟩ none 0 0)/\∃N',bB w' H { s with px:=s.px+1,P:=s.P++[s.px],ks:=s.ks++[s.px],D:=fE s.D s.px (M.cL H.lm (s.D c.aE) c.aH) } d N'/\bd w N w' N':=by
 obtain⟨W,hW⟩:∃W,W=(w.alloc (Obj.cells (R.cC c dd gg).toArray 44)).alloc z6:=⟨_,rfl⟩
 have hB:Below w.heap.size w W:=by rw [hW];exact aB _ _ _
 have hX:R.Bx W w.heap.size (R.cC c dd gg):=by rw [hW];exact R.Bx.later (ag _ _) (R.Bx.new w (R.cC c dd gg) 44)
 have hZ:Zr W (w.heap.size+1):=by rw [hW];have:=Zr.new (w.alloc (Obj.cells (R.cC c dd gg).toArray 44));simpa using this
 have h2:=h.later hB
 obtain⟨O,hL⟩:=id h2
 obtain⟨G,pa,cap,eH,hl,hm⟩:=hL.part 5
 have hks:c.aE∈s.ks:=by rw [hf.ks];exact hby
 have HS:Hid (∀U,aj (λ_=>False) W U->U.cell? ⟨H.kb,15,none⟩=some (.map (some H.lg))/\U.cell? ⟨w.heap.size,1,none⟩=some (ab c.aE)/\U.cell? ⟨w.heap.size,12,none⟩=some (gg.v)/\(Instr.lookup 122 (.map (some H.lg)) (ab c.aE) false).run Tryz.prog U=.ok (.pointer (some ⟨G c.aE,0,none⟩)) U):=λU hb=>by
  have hx:=Cb.of (R.Bx.but hb hX (λe=>e))
  exact⟨an hb (h2.kb 15 _ rfl) (λe=>e),hx.c1,hx.Il,hl.qp hb (λe=>e) hks (hf.wk hby)⟩
 have Rx:=ae (λ(U:World) (hU:Below W.heap.size W U)=>M.lj ((hl.each _ hks).later hU) (Row.later hU (Row.later hB hG)) (by omega) (hf.iM hby) hf.lm.2)
 have HF:=ae hf
 obtain⟨Kl,hKl⟩:∃Kl,Kl=M.cL H.lm (s.D c.aE) c.aH:=⟨_,rfl⟩
 have Su:Hid ((Kl.length:Int)<=H.lm):=by
  unfold Hid;rw [hKl];unfold M.cL;rw [if_pos hv,List.length_map];unfold M.bX at hv;by_cases ha:c.aH.all (M.kT (s.D c.aE))=true
  ·rw [if_pos ha] at hv
   by_cases hb:H.lm<(c.aH.length:Int)
   ·rw [if_pos hb] at hv;exact absurd hv (by decide)
   ·omega
  ·rw [if_neg ha] at hv;exact absurd hv (by decide)
 rw [hv,<-hKl] at Rx;rw [<-hKl];have O1:=ae hp
 have HW:=ae hW
 have HB:=ae hB
 have HX:=ae hX
 have HZ:=ae hZ
 have HD:=ae h2
 have HP:Hid (0<w.heap.size):=by have:=h.b0;unfold Hid;omega
 have HN:=ae (λk hk=>h.new (k:=k) hk)
 clear h h2 hB hX hZ hW hf hby hL hl hm hks hG hv hp hKl;go_enter Tryz.func143,Tryz.ntmps143
 go_upto_region 1 with fail
 rw [<-HW.out];go_region_held3 (λU=>U.cell? ⟨H.kb,15,none⟩=some (.map (some H.lg))/\U.cell? ⟨w.heap.size,1,none⟩=some (ab c.aE)/\U.cell? ⟨w.heap.size,12,none⟩=some (gg.v)/\(Instr.lookup 122 (.map (some H.lg)) (ab c.aE) false).run Tryz.prog U=.ok (.pointer (some ⟨G c.aE,0,none⟩)) U) (first|exact HS.out _ (aj.of (Below.refl _ _).drew)|exact HE.out) (first
   | (go_at_call 234;(with_reducible refine (Rx.out W.drew (Below.refl _ _).drew).mono ?_);rintro e w1 ⟨p1,c1,rfl,hO1,hb1⟩;have OI:Hid (Below W.heap.size W w1):=aa (Below.refl _ _).drew hb1;have HE:=ae (HS.out w1 (aj.of OI.out));have Ps:=ae hO1;clear hO1 hb1))
 have QO:=ae (yz (HD.out.later OI.out) HF.out.iv)
 have k14:=(HD.out.later OI.out).kb 14 _ rfl
 have e0:¬P.dI H.pm s.px s.P=true:=by rw [O1.out];decide
 have e1:P.Fm H.pm s.px s.P=s.px:=by unfold P.Fm;rw [if_neg e0]
 have e2:P.Ej H.pm s.px s.P=0:=by unfold P.Ej;rw [if_neg e0]
 have e3:P.AD H.pm s.px s.P=s.px+1:=by unfold P.AD;rw [if_neg e0]
 have e4:P.xt H.pm s.px s.P=s.P++[s.px]:=by unfold P.xt;rw [if_neg e0]
 rw [e1,e2,e3,e4] at QO;clear e0 e1 e2 e3 e4;go_upto_region 5 with (first|(go_at_call 235;refine QO.out.mono ?_;rintro e w3 ⟨rfl,N2,hd3,hw3⟩;have RK:=ae hd3;have QX:Hid (bd w1 N w3 N2):=hw3;clear hd3 hw3 k14))
 have Ud:Hid (Rd w3 p1 Kl.length Kl):=(Ow.rd Ps.out rfl).but QX.out.2 (λk hk e=>HN.out k (by have:=(Ps.out.dB k hk).1;have h3:W.drew.heap.size=W.heap.size:=rfl;have:=HB.out.size;omega) e)
 have Rt:=ae HF.out.iv
 have Td:=ae (tZ RK.out ⟨HF.out.lm.2,HF.out.lm.1⟩ s.px (λj hj=>by have hj2:j∈s.ks:=hj;rw [HF.out.ks] at hj2;exact Rt.out.hi j hj2) (by have h1:=Rt.out.x1;have h2:=Rt.out.x2;omega) (by show s.ks.length<=32;rw [HF.out.ks];exact Rt.out.iM) (cp:=c1) Ud.out Su.out)
 go_upto_region 8 with (first|(go_at_call 131;refine Td.out.mono ?_;rintro e w4 ⟨rfl,N3,hd4,hw4⟩;have XG:=ae hd4;have Ui:Hid (bd W N w4 N3):=(bd.later OI.out).trans (QX.out.trans hw4);clear hd4 hw4))
 have RE:=ae (HZ.out.but Ui.out.2 (HN.out _ (by omega)))
 have U0:Hid (¬N3 (w.heap.size+1)):=Ui.out.out HZ.out.lt (HN.out _ (by omega))
 have OY:=ae (RE.out)
 have O3:=ae (OY.out.st ⟨0,(0,0,0),[],s.px⟩ none 0 0)
 have Pc:=ae (OY.out.lv ⟨0,(0,0,0),[],s.px⟩ none 0 0)
 have OU:Hid (aj (·=w.heap.size+1) (w4) ((w4).setCells (w.heap.size+1) 0 (aZ ⟨0,(0,0,0),[],s.px⟩ none 0 0))):=R.au (S:=(·=w.heap.size+1)) rfl _ 0 (aj.refl _ _)
 go_wp2_with (first|((with_reducible refine a_ O3.out ?_ ?_ ?_);(· rfl);(· rfl)))
 exact bodyPost_ret (v:=bR ⟨0,(0,0,0),[],s.px⟩ none 0 0) (by simp [results,Tryz.results143,asAddr,Pc.out]) rfl ⟨rfl,N3,XG.out.but OU.out (λk hk e=>U0.out (e ▸ hk)) (λe=>by have:0=w.heap.size+1:=e;omega),(bd.trans (bd.later (N:=N) HB.out) Ui.out).1,((bd.trans (bd.later (N:=N) HB.out) Ui.out).2).comp OU.out (λi e=>.inr (by omega))⟩
end
end Go.Proofs.YtmhinfbkmjdgfaaGreatDoor.V
