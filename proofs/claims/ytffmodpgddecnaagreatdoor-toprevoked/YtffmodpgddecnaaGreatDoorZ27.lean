import Derived.Test.YtffmodpgddecnaaGreatDoorZ26
set_option linter.unusedVariables false
set_option linter.unusedSimpArgs false
set_option maxRecDepth 100000
set_option maxHeartbeats 2000000
namespace Go.Proofs.YtffmodpgddecnaaGreatDoor.V
open Go.RowKit
open Go.Proofs.YtffmodpgddecnaaGreatDoor.H (aq Cp)
open Go.Proofs.YtffmodpgddecnaaGreatDoor.M (ba)
section
variable {w w':World}{H:Hd}{s s':aP}{d d':Nat->List K.Pu}{O:Nat->Nat->Prop}{N:Nat->Prop}{c:R.Cl}{dd gg:R.Sl}{b:Nat}
theorem bK (h:aI w H s d N)(ht:L.Tr s.X s.l d)(hf:KF H.p s)(need:Int)(hw:c.hi<aq/\c.lo<aq)(hby:c.aB∈s.P) :
  Calls Tryz.prog 186 #[.pointer (some ⟨H.kb,0,none⟩),.agg (R.cC c dd gg).toArray,.int .i64 need] w λe w'=>e=.returned (.int .i64 (dQ s c.given c.aB (bZ c) need))/\∃T,aI w' H s T N/\L.Tr s.X s.l T/\ah N w w':=by
 unfold dQ;cases hg:c.given with
 | true=>exact pS h ht need hg hw
 | false=>exact rA h ht hf need hg hby
theorem DG (h:R.Bx w b (R.cC c dd gg)):(Instr.loadAt 44 (.pointer (some ⟨b,0,none⟩))).run Tryz.prog w=.ok (.agg (R.cC c dd gg).toArray) w:=by
 have:=R.CU h.range (by rfl)
 simp [Instr.loadAt,Instr.sureAddr,this]
theorem Bm {B:Nat->Prop}{a:Option Addr}{n cap:Nat}{Q:List Value}(h:Row w a n cap Q)(hb:ah B w w')(hn:0<n->∀k,aJ a k->¬B k):Row w' a n cap Q:=by
 by_cases h0:0<n
 ·exact Row.but hb h (hn h0)
 ·have hl:=h.len
  refine⟨h.len,h.cap_,h.none_,λx hx j u hu=>?_,h.one⟩
  have:=(List.getElem?_eq_some_iff.1 hu).1
  omega
theorem cn {P:Program}{w:World}{o:Oper}{a:Act}{K:Act->World->Prop}{Q:Exit->Act->World->Prop}(ty:TypeId)(x y:Operand)(ho:o.op=.store ty x y)(vx vy:Value)(hx:a.eval x=vx)(hy:a.eval y=vy)(w':World)
  (hr:(Instr.storeAt ty vx vy).run P w=.ok () w') (h:K (a.put o.dst undef) w'):o.wp P a w K Q:=by
 unfold Oper.wp execOp;simp only [ho,hx,hy,hr,Sem.run_bind,Sem.run_pure,Result.andThen_ok];exact h
theorem aI.base (h:aI w H s d N){k:Nat}(hk:w.heap.size<=k):¬N k:=h.new hk
theorem Ct (h:aI w H s d N)(ht:L.Tr s.X s.l d)(hf:KF H.p s)(hw:c.hi<aq/\c.lo<aq)(hby:c.aB∈s.P)(hv:dQ s c.given c.aB (bZ c) 1≠0) :
  Calls Tryz.prog 105 #[.pointer (some ⟨H.kb,0,none⟩),.agg (R.cC c dd gg).toArray] w λe w'=>e=.returned (dw (rep (dQ s c.given c.aB (bZ c) 1)) none 0 0)/\∃T,aI w' H s T N/\L.Tr s.X s.l T/\ah N w w':=by
 obtain⟨W,hW⟩:∃W,W=(w.alloc (Obj.cells (R.cC c dd gg).toArray 44)).alloc z6:=⟨_,rfl⟩
 have hB:Below w.heap.size w W:=by rw [hW];exact aC _ _ _
 have hX:R.Bx W w.heap.size (R.cC c dd gg):=by rw [hW];exact R.Bx.later (ae _ _) (R.Bx.new w (R.cC c dd gg) 44)
 have hZ:Zr W (w.heap.size+1):=by rw [hW];have:=Zr.new (w.alloc (Obj.cells (R.cC c dd gg).toArray 44));simpa using this
 have h2:=h.later hB
 have HC:=ab (bK (dd:=dd) (gg:=gg) h2 ht hf 1 hw hby)
 have P5:=ab (DG hX)
 obtain⟨m,hm⟩:∃m,m=dQ s c.given c.aB (bZ c) 1:=⟨_,rfl⟩
 rw [<-hm] at HC hv;have hq:(m != 0)=true:=by simpa using hv
 rw [<-hm];have HW:=ab hW
 have HB:=ab hB
 have HX:=ab hX
 have HZ:=ab hZ
 have HD:=ab h2
 have HP:Hid (0<w.heap.size):=by have:=h.b0;unfold Hid;omega
 have HN:=ab (λk hk=>h.new (k:=k) hk)
 clear h h2 hB hX hZ hW ht hf hv hm;go_enter Tryz.func105,Tryz.ntmps105
 go_upto_region 1 with fail
 rw [<-HW.out];go_upto_region 2 with (first|((with_reducible refine R.aV P5.out ?_ ?_);(· rfl))|(go_at_call 186;refine HC.out.mono ?_;rintro e w1 ⟨rfl,T,hd1,ht1,hb1⟩;have P6:=ab hd1;have Rq:=ab ht1;have PC:Hid (ah N W w1):=hb1;clear hd1 ht1 hb1))
 have HR:=ab (bE m w1)
 go_upto_region 3 with fail
 go_upto_region 4 with (first|(go_at_call 47;refine HR.out.mono ?_;rintro e w2 ⟨rfl,hb2⟩;have PB:Hid (ah N W w2):=PC.out.call hb2;have Qn:=ab (P6.out.later hb2);have PO:=ab (HZ.out.but PB.out (HN.out _ (by omega)));have PT:=ab (PO.out.st (rep m) none 0 0);have PU:=ab (PO.out.lv (rep m) none 0 0);clear hb2)|((with_reducible refine bm PT.out ?_ ?_ ?_);(· rfl);(· rfl)))
 have PK:Hid (ah (·=w.heap.size+1) w2 (w2.setCells (w.heap.size+1) 0 (fM (rep m) none 0 0))):=R.ay (S:=(·=w.heap.size+1)) rfl _ 0 (ah.refl _ _)
 exact bodyPost_ret (v:=dw (rep m) none 0 0) (by simp [results,Tryz.results105,asAddr,PU.out]) rfl ⟨rfl,T,Qn.out.but PK.out (λk hk e=>HN.out k (by omega) hk) (λe=>by have:0=w.heap.size+1:=e;omega),Rq.out,((ah.of HB.out).trans PB.out).comp PK.out (λi e=>.inr (by omega))⟩
theorem zy (h:aI w H s d N)(ht:L.Tr s.X s.l d)(hf:KF H.p s)(hw:c.hi<aq/\c.lo<aq)(hby:c.aB∈s.P)(hv:dQ s c.given c.aB (bZ c) 2≠0) :
  Calls Tryz.prog 106 #[.pointer (some ⟨H.kb,0,none⟩),.agg (R.cC c dd gg).toArray] w λe w'=>e=.returned (dw (rep (dQ s c.given c.aB (bZ c) 2)) none 0 0)/\∃T,aI w' H s T N/\L.Tr s.X s.l T/\ah N w w':=by
 obtain⟨W,hW⟩:∃W,W=(w.alloc (Obj.cells (R.cC c dd gg).toArray 44)).alloc z6:=⟨_,rfl⟩
 have hB:Below w.heap.size w W:=by rw [hW];exact aC _ _ _
 have hX:R.Bx W w.heap.size (R.cC c dd gg):=by rw [hW];exact R.Bx.later (ae _ _) (R.Bx.new w (R.cC c dd gg) 44)
 have hZ:Zr W (w.heap.size+1):=by rw [hW];have:=Zr.new (w.alloc (Obj.cells (R.cC c dd gg).toArray 44));simpa using this
 have h2:=h.later hB
 have HC:=ab (bK (dd:=dd) (gg:=gg) h2 ht hf 2 hw hby)
 have P5:=ab (DG hX)
 obtain⟨m,hm⟩:∃m,m=dQ s c.given c.aB (bZ c) 2:=⟨_,rfl⟩
 rw [<-hm] at HC hv;have hq:(m != 0)=true:=by simpa using hv
 rw [<-hm];have HW:=ab hW
 have HB:=ab hB
 have HX:=ab hX
 have HZ:=ab hZ
 have HD:=ab h2
 have HP:Hid (0<w.heap.size):=by have:=h.b0;unfold Hid;omega
 have HN:=ab (λk hk=>h.new (k:=k) hk)
 clear h h2 hB hX hZ hW ht hf hv hm;go_enter Tryz.func106,Tryz.ntmps106
 go_upto_region 1 with fail
 rw [<-HW.out];go_upto_region 2 with (first|((with_reducible refine R.aV P5.out ?_ ?_);(· rfl))|(go_at_call 186;refine HC.out.mono ?_;rintro e w1 ⟨rfl,T,hd1,ht1,hb1⟩;have P6:=ab hd1;have Rq:=ab ht1;have PC:Hid (ah N W w1):=hb1;clear hd1 ht1 hb1))
 have HR:=ab (bE m w1)
 go_upto_region 3 with fail
 go_upto_region 4 with (first|(go_at_call 47;refine HR.out.mono ?_;rintro e w2 ⟨rfl,hb2⟩;have PB:Hid (ah N W w2):=PC.out.call hb2;have Qn:=ab (P6.out.later hb2);have PO:=ab (HZ.out.but PB.out (HN.out _ (by omega)));have PT:=ab (PO.out.st (rep m) none 0 0);have PU:=ab (PO.out.lv (rep m) none 0 0);clear hb2)|((with_reducible refine bm PT.out ?_ ?_ ?_);(· rfl);(· rfl)))
 have PK:Hid (ah (·=w.heap.size+1) w2 (w2.setCells (w.heap.size+1) 0 (fM (rep m) none 0 0))):=R.ay (S:=(·=w.heap.size+1)) rfl _ 0 (ah.refl _ _)
 exact bodyPost_ret (v:=dw (rep m) none 0 0) (by simp [results,Tryz.results106,asAddr,PU.out]) rfl ⟨rfl,T,Qn.out.but PK.out (λk hk e=>HN.out k (by omega) hk) (λe=>by have:0=w.heap.size+1:=e;omega),Rq.out,((ah.of HB.out).trans PB.out).comp PK.out (λi e=>.inr (by omega))⟩
theorem py (h:aI w H s d N)(ht:L.Tr s.X s.l d)(hf:KF H.p s)(hw:c.hi<aq/\c.lo<aq)(hby:c.aB∈s.P)(ho:S.bp c.obj)(hv:dQ s c.given c.aB (bZ c) 1=0) :
  Calls Tryz.prog 105 #[.pointer (some ⟨H.kb,0,none⟩),.agg (R.cC c dd gg).toArray] w λe w'=>∃a n cp T,e=.returned (dw ⟨S.wP s.V c.obj c.off c.n,(0,0,0),S.A4 s.V c.obj c.off c.n,0⟩ a n cp)/\Own w' w.heap.size 5 a n cp (S.bG (S.A4 s.V c.obj c.off c.n))/\aI w' H s T N/\L.Tr s.X s.l T/\ah N w w':=by
 obtain⟨W,hW⟩:∃W,W=(w.alloc (Obj.cells (R.cC c dd gg).toArray 44)).alloc z6:=⟨_,rfl⟩
 have hB:Below w.heap.size w W:=by rw [hW];exact aC _ _ _
 have hX:R.Bx W w.heap.size (R.cC c dd gg):=by rw [hW];exact R.Bx.later (ae _ _) (R.Bx.new w (R.cC c dd gg) 44)
 have hZ:Zr W (w.heap.size+1):=by rw [hW];have:=Zr.new (w.alloc (Obj.cells (R.cC c dd gg).toArray 44));simpa using this
 have h2:=h.later hB
 have HC:=ab (bK (dd:=dd) (gg:=gg) h2 ht hf 1 hw hby)
 have P5:=ab (DG hX)
 have hq:(dQ s c.given c.aB (bZ c) 1 != 0)=false:=by simpa using hv
 rw [hv] at HC;have HO:=ab ho
 obtain⟨D,hD⟩:∃D,D=S.A4 s.V c.obj c.off c.n:=⟨_,rfl⟩
 obtain⟨E,hE⟩:∃E,E=S.wP s.V c.obj c.off c.n:=⟨_,rfl⟩
 rw [<-hD,<-hE];have UA:=ab hD
 have HEq:=ab hE
 have HW:=ab hW
 have HB:=ab hB
 have HX:=ab hX
 have HZ:=ab hZ
 have HD:=ab h2
 have HP:Hid (0<w.heap.size):=by have:=h.b0;unfold Hid;omega
 have HN:=ab (λk hk=>h.new (k:=k) hk)
 clear h h2 hB hX hZ hW ht hf hv hq ho hD hE;go_enter Tryz.func105,Tryz.ntmps105
 go_upto_region 1 with fail
 rw [<-HW.out];go_upto_region 2 with (first|((with_reducible refine R.aV P5.out ?_ ?_);(· rfl))|(go_at_call 186;refine HC.out.mono ?_;rintro e w1 ⟨rfl,T,hd1,ht1,hb1⟩;have P6:=ab hd1;have Rq:=ab ht1;have PC:Hid (ah N W w1):=hb1;clear hd1 ht1 hb1))
 have Qe:=ab (R.Bx.but PC.out HX.out (HN.out _ (Nat.le_refl _)))
 have Sk:=ab (λ(U:World) (hU:Below w1.heap.size w1 U)=>Ez (P6.out.later hU) c.obj c.off c.n HO.out)
 have Qv:Hid (∀U,ah (λ_=>False) w1 U->U.cell? ⟨H.kb,11,none⟩=some (.pointer (some ⟨H.z.s,0,none⟩))/\U.cell? ⟨w.heap.size,3,none⟩=some (.int .i64 c.obj)/\U.cell? ⟨w.heap.size,8,none⟩=some (.int .i64 c.off)/\U.cell? ⟨w.heap.size,9,none⟩=some (.int .i64 c.n)):=λU hU=>by
  have:=Cb.of (R.Bx.but hU Qe.out (λh=>h))
  exact⟨ag hU (P6.out.kb 11 _ rfl) (λh=>h),this.c3,this.c8,this.c9⟩
 rw [<-UA.out,<-HEq.out] at Sk;clear HC P5;go_upto_region 4 with fail
 go_region_held3 (λU=>U.cell? ⟨H.kb,11,none⟩=some (.pointer (some ⟨H.z.s,0,none⟩))/\U.cell? ⟨w.heap.size,3,none⟩=some (.int .i64 c.obj)/\U.cell? ⟨w.heap.size,8,none⟩=some (.int .i64 c.off)/\U.cell? ⟨w.heap.size,9,none⟩=some (.int .i64 c.n)) (first|exact Qv.out _ (ah.of (Below.refl _ _).drew)|exact HE.out) (first
   | (go_at_call 187;refine (Sk.out _ (Below.refl _ _).drew).mono ?_;rintro e w2 ⟨a2,c2,rfl,hO2,hb2⟩;have PB:Hid (Below w1.heap.size w1 w2):=aa (Below.refl _ _).drew hb2;have HE:=ab (Qv.out w2 (ah.of PB.out));have PS:=ab hO2;clear hO2 hb2))
 have PO:=ab ((HZ.out.but PC.out (HN.out _ (by omega))).later PB.out)
 have PT:=ab (PO.out.st ⟨E,(0,0,0),D,0⟩ a2 D.length c2)
 have PU:=ab (PO.out.lv ⟨E,(0,0,0),D,0⟩ a2 D.length c2)
 have PK:Hid (ah (·=w.heap.size+1) w2 (w2.setCells (w.heap.size+1) 0 (fM ⟨E,(0,0,0),D,0⟩ a2 D.length c2))):=R.ay (S:=(·=w.heap.size+1)) rfl _ 0 (ah.refl _ _)
 have Si:Hid (w.heap.size+2<=w1.heap.size):=by have h1:=PC.out.size;have h2:(w.heap.size+1)<W.heap.size:=HZ.out.lt;unfold Hid;omega
 go_wp2_with (first|((with_reducible refine bm PT.out ?_ ?_ ?_);(· rfl);(· rfl)))
 exact bodyPost_ret (v:=dw ⟨E,(0,0,0),D,0⟩ a2 D.length c2) (by simp [results,Tryz.results105,asAddr,PU.out]) rfl ⟨a2,D.length,c2,T,rfl,(PS.out.but PK.out (λk hk e=>by have:=PS.out.bT k hk;have:=Si.out;have e2:k=w.heap.size+1:=e;have h3:w1.drew.heap.size=w1.heap.size:=rfl;omega)).mono (by have:=Si.out;have h3:w1.drew.heap.size=w1.heap.size:=rfl;omega),(P6.out.later PB.out).but PK.out (λk hk e=>HN.out k (by omega) hk) (λe=>by have:0=w.heap.size+1:=e;omega),Rq.out,((ah.of HB.out).trans (PC.out.call PB.out)).comp PK.out (λi e=>.inr (by omega))⟩
end
section
variable {w w':World}{H:Hd}{s s':aP}{d d':Nat->List K.Pu}{O:Nat->Nat->Prop}{N:Nat->Prop}{c:R.Cl}{dd gg:R.Sl}{b:Nat}
theorem DN {hi lo:Nat}(h:hi<aq/\lo<aq):D.il (hi:Int) (lo:Int) (hi*aq+lo):=D.il.of ⟨h.1,h.2,rfl⟩
theorem vV (hi lo:Nat)(hw:hi<aq/\lo<aq)(W:Int)(hW:1<=W)(w:World):Calls Tryz.prog 221 #[.agg #[.int .u64 (hi:Int),.int .u64 (lo:Int)],.int .i64 W] w λe w'=>e=.returned (.bool (decide (D.aY (hi*aq+lo) W=hi*aq+lo)))/\Below w.heap.size w w':=by
 have hB:=ae w (Obj.cells #[.int .u64 (hi:Int),.int .u64 (lo:Int)] 30)
 have HC:=ab (λU=>D.kH (hi:Int) (lo:Int) (hi*aq+lo) W U (DN hw))
 have HV:=ab (DN hw)
 have HE:=ab R.G6
 have hd:decide (1<=W)=true:=by simpa using hW
 have H0:Hid (∀U,Below (w.alloc (Obj.cells #[.int .u64 (hi:Int),.int .u64 (lo:Int)] 30)).heap.size (w.alloc (Obj.cells #[.int .u64 (hi:Int),.int .u64 (lo:Int)] 30)) U->U.cell? ⟨w.heap.size,0,none⟩=some (.int .u64 (hi:Int))/\U.cell? ⟨w.heap.size,1,none⟩=some (.int .u64 (lo:Int))):=λU hU=>⟨cell_later hU (by simp [go_sem]),cell_later hU (by simp [go_sem])⟩
 have HB:=ab hB
 clear hB;go_enter Tryz.func221,Tryz.ntmps221
 go_upto_region 1 with fail
 have heq:=HE.out
 go_region_held3 (λU=>U.cell? ⟨w.heap.size,0,none⟩=some (.int .u64 (hi:Int))/\U.cell? ⟨w.heap.size,1,none⟩=some (.int .u64 (lo:Int))) (first|exact H0.out _ (Below.refl _ _).drew|exact Sx.out) (first
  | (go_at_call 167;refine (HC.out _).mono ?_;rintro e w2 ⟨c1,d1,rfl,hv2,hb2⟩;have Rk:=ab hv2;have PB:=ab (aa ((aa HB.out (Below.refl _ _).drew)) hb2);have Sx:=ab (H0.out w2 (aa (Below.refl _ _).drew hb2));clear hv2 hb2))
 go_wp2;go_ret;refine⟨?_,PB.out⟩
 have h1:=D.su Rk.out HV.out
 have h2:R.vu c1 d1 (hi:Int) (lo:Int)=D.vu c1 d1 (hi:Int) (lo:Int):=by unfold R.vu D.vu;simp
 rw [<-h1,<-h2];rfl
theorem nJ (h:aI w H s d N)(hW:1<=H.W)(hi lo:Nat)(hw:hi<aq/\lo<aq):Calls Tryz.prog 189 #[.pointer (some ⟨H.kb,0,none⟩),.agg #[.int .u64 (hi:Int),.int .u64 (lo:Int)]] w λe w'=>e=.returned (.bool (decide (D.aY (hi*aq+lo) H.W=hi*aq+lo)))/\Below w.heap.size w w':=by
 obtain⟨W,hWq⟩:∃W,W=w.alloc (Obj.cells #[.int .u64 (hi:Int),.int .u64 (lo:Int)] 30):=⟨_,rfl⟩
 have hB:Below w.heap.size w W:=by rw [hWq];exact ae _ _
 have y0:W.cell? ⟨w.heap.size,0,none⟩=some (.int .u64 (hi:Int)):=by rw [hWq];simp [go_sem]
 have y1:W.cell? ⟨w.heap.size,1,none⟩=some (.int .u64 (lo:Int)):=by rw [hWq];simp [go_sem]
 have k0:W.cell? ⟨H.kb,0,none⟩=some (.int .i64 H.W):=(h.later hB).kb 0 _ rfl
 have HC:=ab (λU=>vV hi lo hw H.W hW U)
 have H0:Hid (∀U,Below W.heap.size W U->U.cell? ⟨w.heap.size,0,none⟩=some (.int .u64 (hi:Int))/\U.cell? ⟨w.heap.size,1,none⟩=some (.int .u64 (lo:Int))/\U.cell? ⟨H.kb,0,none⟩=some (.int .i64 H.W)):=λU hU=>⟨cell_later hU y0,cell_later hU y1,cell_later hU k0⟩
 have HB:=ab hB
 have HW:=ab hWq
 obtain⟨q,hq⟩:∃q,q=decide (D.aY (hi*aq+lo) H.W=hi*aq+lo):=⟨_,rfl⟩
 rw [<-hq] at HC ⊢
 clear hB y0 y1 k0 h hWq hq;go_enter Tryz.func189,Tryz.ntmps189
 go_upto_region 1 with fail
 rw [<-HW.out];go_region_held3 (λU=>U.cell? ⟨w.heap.size,0,none⟩=some (.int .u64 (hi:Int))/\U.cell? ⟨w.heap.size,1,none⟩=some (.int .u64 (lo:Int))/\U.cell? ⟨H.kb,0,none⟩=some (.int .i64 H.W)) (first|exact H0.out _ (Below.refl _ _).drew|exact Sx.out) (first
  | (go_at_call 221;refine (HC.out _).mono ?_;rintro e w2 ⟨rfl,hb2⟩;have PB:=ab (aa ((aa HB.out (Below.refl _ _).drew)) hb2);have Sx:=ab (H0.out w2 (aa (Below.refl _ _).drew hb2));clear hb2))
 go_wp2;go_ret;exact⟨rfl,PB.out⟩
end
section
variable {w w':World}{H:Hd}{s s':aP}{d d':Nat->List K.Pu}{O:Nat->Nat->Prop}{N:Nat->Prop}{c:R.Cl}{dd gg:R.Sl}{b:Nat}
theorem Li.mw {U:World}{Pr:List Int}{D:Int->List Cp}{G:Int->Nat}{pa:Int->Option Addr}{cap:Int->Nat}{df:Nat->Int}{B:Nat->Prop}(h:Li w H Pr D G pa cap df)(hb:ah B w U)(hn:¬B H.lg){i:Int}(hi:i∈Pr)(hr:-9223372036854775808<=i/\i<9223372036854775808) :
  (Instr.lookup 97 (.map (some H.lg)) (.int .i64 i) false).run Tryz.prog U=.ok (.pointer (some ⟨G i,0,none⟩)) U:=by
 have hm:=S.bC hb h.map hn
 obtain⟨v,ps,hrun,hv⟩:=hm.lookup S.sC Tryz.underlying97 (S.aO Ey U) (zd:=.held (.pointer none)) (zp:=[]) rfl (S.tJ hr)
 rw [lG _ _ _ hi] at hv;simp only [S.hr,Option.some.injEq,Prod.mk.injEq,DataW.held.injEq] at hv;rw [hrun,hv.1]
theorem Lay.yi (h:Lay w H s d O N)(hb:Below w.heap.size w w'):Lay w' H s d O N:=by
 have hs:=hb.size
 exact⟨λi=>Part.but (B:=λ_=>False) (ah.of hb) (λ_ _ h=>h) i (h.part i),h.ap,h.sub,λk hk=>by have h1:=h.pd k hk;exact⟨h1.1,by omega⟩,h.mM,h.laid.later hb,h.b0.1,by have:=h.b0.2;omega⟩
def Lb (G:Int->Nat)(pa:Int->Option Addr)(i:Int)(k:Nat):Prop:=k=G i\/aJ (pa i) k
theorem Kd (h:aI w H s d N)(hf:KF H.p s){i:Int}(hi:i∈s.P){G:Int->Nat}{pa:Int->Option Addr}{cap:Int->Nat}{df:Nat->Int}{O:Nat->Nat->Prop}(hL:Lay w H s d O N)(hl:Li w H s.ks s.D G pa cap df)(hm:∀k,Cd s.ks G pa H.lg k->O 5 k)(c:Cp) :
  Calls Tryz.prog 175 #[.pointer (some ⟨G i,0,none⟩),.agg #[.int .i64 c.1,.int .u64 (c.2.1:Int),.int .u64 (c.2.2:Int)]] w λe w'=>e=.returned (.int .i64 (if H.lm<=((s.D i).length:Int) then 14 else 0))/\(∃N',aI w' H { s with D:=if H.lm<=((s.D i).length:Int) then s.D else fW s.D i (s.D i++[c]) } d N'/\aK w N w' N')/\ah (Lb G pa i) w w':=by
 have hk:i∈s.ks:=by rw [hf.ks];exact hi
 by_cases hq:H.lm<=((s.D i).length:Int)
 ·simp only [if_pos hq]
  refine (M.A1 (hl.each i hk) c hq).mono ?_
  rintro e w' ⟨rfl,hb⟩
  exact⟨rfl,⟨N,h.later hb,aK.later hb⟩,ah.of hb⟩
 ·simp only [if_neg hq]
  refine (M.qi (hl.each i hk) c (by omega) hf.lm.2).mono ?_
  rintro e w' ⟨pb,cb,rfl,hd,hw⟩
  exact⟨rfl,hL.list hl hm hk hd hw,hw.but⟩
theorem oB (h:aI w H s d N)(hWd:1<=H.W)(hw:c.hi<aq/\c.lo<aq)(hq:rQ H.W (bZ c)=false) :
  Calls Tryz.prog 107 #[.pointer (some ⟨H.kb,0,none⟩),.agg (R.cC c dd gg).toArray] w λe w'=>e=.returned (dw (rep 18) none 0 0)/\Below w.heap.size w w':=by
 obtain⟨W,hW⟩:∃W,W=(w.alloc (Obj.cells (R.cC c dd gg).toArray 44)).alloc z6:=⟨_,rfl⟩
 have hB:Below w.heap.size w W:=by rw [hW];exact aC _ _ _
 have hX:R.Bx W w.heap.size (R.cC c dd gg):=by rw [hW];exact R.Bx.later (ae _ _) (R.Bx.new w (R.cC c dd gg) 44)
 have hZ:Zr W (w.heap.size+1):=by rw [hW];have:=Zr.new (w.alloc (Obj.cells (R.cC c dd gg).toArray 44));simpa using this
 have h2:=h.later hB
 have hq2:decide (D.aY (c.hi*aq+c.lo) H.W=c.hi*aq+c.lo)=false:=by unfold rQ bZ at hq;simpa [hWd] using hq
 have HC:=ab (nJ h2 hWd c.hi c.lo hw)
 rw [hq2] at HC;have x4:=(Cb.of hX).c4
 have x5:=(Cb.of hX).c5
 have HW:=ab hW
 have HB:=ab hB
 have HX:=ab hX
 have HZ:=ab hZ
 have HD:=ab h2
 have HP:Hid (0<w.heap.size):=by have:=h.b0;unfold Hid;omega
 have HN:=ab (λk hk=>h.new (k:=k) hk)
 clear h h2 hB hX hZ hW hq hq2;go_enter Tryz.func107,Tryz.ntmps107
 go_upto_region 1 with fail
 rw [<-HW.out];go_upto_region 2 with (first|(go_at_call 189;refine HC.out.mono ?_;rintro e w1 ⟨rfl,hb1⟩;have PC:=ab hb1;clear hb1))
 have HR:=ab (bE 18 w1)
 go_upto_region 3 with (first|(go_at_call 47;refine HR.out.mono ?_;rintro e w2 ⟨rfl,hb2⟩;have PB:Hid (Below W.heap.size W w2):=aa PC.out hb2;have PO:=ab (HZ.out.later PB.out);have PT:=ab (PO.out.st (rep 18) none 0 0);have PU:=ab (PO.out.lv (rep 18) none 0 0);clear hb2)|((with_reducible refine bm PT.out ?_ ?_ ?_);(· rfl);(· rfl)))
 have PK:Hid (ah (·=w.heap.size+1) w2 (w2.setCells (w.heap.size+1) 0 (fM (rep 18) none 0 0))):=R.ay (S:=(·=w.heap.size+1)) rfl _ 0 (ah.refl _ _)
 exact bodyPost_ret (v:=dw (rep 18) none 0 0) (by simp [results,Tryz.results107,asAddr,PU.out]) rfl ⟨rfl,ah.below (aa HB.out PB.out) PK.out (λk e=>by omega)⟩
theorem sQ (h:aI w H s d N)(hf:KF H.p s)(hWd:1<=H.W)(hw:c.hi<aq/\c.lo<aq)(hby:c.aB∈s.P)(hq:rQ H.W (bZ c)=true) :
  Calls Tryz.prog 107 #[.pointer (some ⟨H.kb,0,none⟩),.agg (R.cC c dd gg).toArray] w λe w'=>e=.returned (dw (rep (if H.lm<=((s.D c.aB).length:Int) then 14 else 0)) none 0 0)/\∃N',aI w' H { s with D:=if H.lm<=((s.D c.aB).length:Int) then s.D else fW s.D c.aB (s.D c.aB++[bZ c]) } d N'/\aK w N w' N':=by
 obtain⟨W,hW⟩:∃W,W=(w.alloc (Obj.cells (R.cC c dd gg).toArray 44)).alloc z6:=⟨_,rfl⟩
 have hB:Below w.heap.size w W:=by rw [hW];exact aC _ _ _
 have hX:R.Bx W w.heap.size (R.cC c dd gg):=by rw [hW];exact R.Bx.later (ae _ _) (R.Bx.new w (R.cC c dd gg) 44)
 have hZ:Zr W (w.heap.size+1):=by rw [hW];have:=Zr.new (w.alloc (Obj.cells (R.cC c dd gg).toArray 44));simpa using this
 have h2:=h.later hB
 have hq2:decide (D.aY (c.hi*aq+c.lo) H.W=c.hi*aq+c.lo)=true:=by unfold rQ bZ at hq;simpa [hWd] using hq
 have HC:=ab (nJ h2 hWd c.hi c.lo hw)
 rw [hq2] at HC;have x4:=(Cb.of hX).c4
 have x5:=(Cb.of hX).c5
 have HF:=ab hf
 have QY:=ab hby
 obtain⟨E,hE⟩:∃E,E=(if H.lm<=((s.D c.aB).length:Int) then (14:Int) else 0):=⟨_,rfl⟩
 obtain⟨D9,hD9⟩:∃D9,D9=(if H.lm<=((s.D c.aB).length:Int) then s.D else fW s.D c.aB (s.D c.aB++[bZ c])):=⟨_,rfl⟩
 rw [<-hE,<-hD9];have HEq:=ab hE
 have UA:=ab hD9
 have HW:=ab hW
 have HB:=ab hB
 have HX:=ab hX
 have HZ:=ab hZ
 have HD:=ab h2
 have HP:Hid (0<w.heap.size):=by have:=h.b0;unfold Hid;omega
 have HN:=ab (λk hk=>h.new (k:=k) hk)
 clear h h2 hB hX hZ hW hq hq2 hf hby hE hD9;go_enter Tryz.func107,Tryz.ntmps107
 go_upto_region 1 with fail
 rw [<-HW.out];go_upto_region 2 with (first|(go_at_call 189;refine HC.out.mono ?_;rintro e w1 ⟨rfl,hb1⟩;have PC:=ab hb1;clear hb1 x4 x5))
 have Qe:=ab (R.Bx.later PC.out HX.out)
 have P6:=ab (HD.out.later PC.out)
 have Qo:=ab (HZ.out.later PC.out)
 obtain⟨O,hL⟩:=P6.out
 obtain⟨G,pa,cap,df,hl,hm⟩:=hL.part 5
 have hks:c.aB∈s.ks:=by rw [HF.out.ks];exact QY.out
 have Tn:Hid (∀k,Lb G pa c.aB k->N k):=λk hk=>hL.sub 5 k (hm k (.inr ⟨_,hks,hk⟩))
 have QT:Hid (∀U,ah (Lb G pa c.aB) w1 U->U.cell? ⟨H.kb,15,none⟩=some (.map (some H.lg))/\U.cell? ⟨w.heap.size,1,none⟩=some (.int .i64 c.aB)/\U.cell? ⟨w.heap.size,3,none⟩=some (.int .i64 c.obj)/\U.cell? ⟨w.heap.size,4,none⟩=some (.int .u64 (c.hi:Int))/\U.cell? ⟨w.heap.size,5,none⟩=some (.int .u64 (c.lo:Int))/\(Instr.lookup 97 (.map (some H.lg)) (.int .i64 c.aB) false).run Tryz.prog U=.ok (.pointer (some ⟨G c.aB,0,none⟩)) U):=λU hb=>by
  have hx:=Cb.of (R.Bx.but hb Qe.out (λe=>HN.out _ (Nat.le_refl _) (Tn.out _ e)))
  exact⟨ag hb (P6.out.kb 15 _ rfl) (λe=>absurd (hL.ap 7 5 _ (hL.part 7).2 (hm _ (.inr ⟨_,hks,e⟩))) (by decide)),hx.c1,hx.c3,hx.c4,hx.c5,hl.mw hb (λe=>(hl.df _ hks _ e).2 rfl) hks (HF.out.pA QY.out)⟩
 have Q5:Hid (∀U,ah (λk=>Lb G pa c.aB k\/k=w.heap.size+1) w1 U->U.cell? ⟨H.kb,15,none⟩=some (.map (some H.lg))/\U.cell? ⟨w.heap.size,1,none⟩=some (.int .i64 c.aB)/\U.cell? ⟨w.heap.size,3,none⟩=some (.int .i64 c.obj)/\U.cell? ⟨w.heap.size,4,none⟩=some (.int .u64 (c.hi:Int))/\U.cell? ⟨w.heap.size,5,none⟩=some (.int .u64 (c.lo:Int))/\(Instr.lookup 97 (.map (some H.lg)) (.int .i64 c.aB) false).run Tryz.prog U=.ok (.pointer (some ⟨G c.aB,0,none⟩)) U):=λU hb=>by
  have hx:=Cb.of (R.Bx.but hb Qe.out (λe=>e.elim (λe=>HN.out _ (Nat.le_refl _) (Tn.out _ e)) (λe=>by omega)))
  have hnw:∀k,N k->k≠w.heap.size+1:=λk hk e=>HN.out _ (by omega) (e ▸ hk)
  exact⟨ag hb (P6.out.kb 15 _ rfl) (λe=>e.elim (λe=>absurd (hL.ap 7 5 _ (hL.part 7).2 (hm _ (.inr ⟨_,hks,e⟩))) (by decide)) (hnw _ (hL.sub 7 _ (hL.part 7).2))),hx.c1,hx.c3,hx.c4,hx.c5,hl.mw hb (λe=>e.elim (λe=>(hl.df _ hks _ e).2 rfl) (hnw _ (hL.sub 5 _ (hm _ (.inl rfl))))) hks (HF.out.pA QY.out)⟩
 have RS:=ab (λ(U:World) (hU:Below w1.heap.size w1 U)=>Kd (P6.out.later hU) HF.out QY.out (hL.yi hU) (hl.but (ah.of (S:=λ_=>False) hU) (λ_ _ h=>h)) hm (bZ c))
 rw [<-HEq.out,<-UA.out] at RS;unfold bZ at RS;clear hL hl hm hks HC;go_upto_region 3 with fail
 refine wp_region_held_drew (S:=(λU:World=>U.cell? ⟨H.kb,15,none⟩=some (.map (some H.lg))/\U.cell? ⟨w.heap.size,1,none⟩=some (.int .i64 c.aB)/\U.cell? ⟨w.heap.size,3,none⟩=some (.int .i64 c.obj)/\U.cell? ⟨w.heap.size,4,none⟩=some (.int .u64 (c.hi:Int))/\U.cell? ⟨w.heap.size,5,none⟩=some (.int .u64 (c.lo:Int))/\(Instr.lookup 97 (.map (some H.lg)) (.int .i64 c.aB) false).run Tryz.prog U=.ok (.pointer (some ⟨G c.aB,0,none⟩)) U)) (by kernel_rfl) (QT.out _ (ah.of (Below.refl _ _).drew)) (λhHeld=>?_)
 refine nm 12 0 12 ?_
 refine tn 0 12 1 11 ?_
 simp only [zz];refine tn 1 12 3 10 ?_
 simp only [zz];refine tn 2 12 7 9 ?_
 simp only [zz];refine tn 3 12 15 8 ?_
 simp only [zz];refine tn 4 12 31 7 ?_
 simp only [zz];refine tn 5 12 63 6 ?_
 simp only [zz];refine tn 6 12 127 5 ?_
 simp only [zz];refine tn 7 12 255 4 ?_
 simp only [zz];refine tn 8 12 511 3 ?_
 simp only [zz];refine zr 9 λK hK=>?_
 go_simp
 go_wp2_with (first|(go_at_call 175;refine (RS.out w1.drew (Below.refl _ _).drew).mono ?_;rintro e w2 ⟨rfl,⟨N2,hd2,hw2⟩,hb2⟩;have Qn:=ab hd2;have Qd:Hid (aK w1 N w2 N2):=(aK.later (Below.refl _ _).drew).trans hw2;have PB:Hid (ah (Lb G pa c.aB) w1 w2):=(ah.of (Below.refl _ _).drew).trans hb2;have PO:=ab (Qo.out.but Qd.out.2 (HN.out _ (by omega)));have PU:=ab (PO.out.lv (rep E) none 0 0);have PT:=ab (PO.out.st (rep E) none 0 0);have PK:Hid (ah (λk=>k=w.heap.size+1) w2 (w2.setCells (w.heap.size+1) 0 (fM (rep E) none 0 0))):=R.ay (S:=(λk=>k=w.heap.size+1)) rfl _ 0 (ah.refl _ _);have RZ:Hid (ah (λk=>Lb G pa c.aB k\/k=w.heap.size+1) w1 (w2.setCells (w.heap.size+1) 0 (fM (rep E) none 0 0))):=(ah.mono (T:=λk=>Lb G pa c.aB k\/k=w.heap.size+1) PB.out (λk hk=>Or.inl hk)).comp PK.out (λi e=>.inl (.inr e));clear hd2 hb2 hw2))
 refine zk hK 12 1023 2 (QT.out w2 PB.out) λhHeld=>?_
 clear hK K;try simp only [zz]
 refine tn 10 12 2047 1 ?_
 simp only [zz];refine zr 11 λK hK=>?_
 rw [if_pos (by kernel_rfl)];refine cn 40 (.tmp 4) (.tmp 22) rfl _ _ rfl rfl _ PT.out ?_
 refine zk hK 12 4095 0 (Q5.out _ RZ.out) λhHeld=>?_
 clear hK K;try simp only [zz]
 refine zn ?_ _
 go_wp2;have hlt:=Qo.out.lt
 refine bodyPost_ret (v:=dw (rep E) none 0 0) (by simp [results,Tryz.results107,asAddr,PU.out]) rfl ⟨rfl,N2,Qn.out.but PK.out (λk hk e=>Qd.out.out (b:=k) (by omega) (HN.out _ (by omega)) hk) (λe=>by omega),?_⟩
 have h1:=(aK.later (N:=N) (aa HB.out PC.out)).trans Qd.out
 exact⟨h1.1,h1.2.comp PK.out (λi e=>.inr (by omega))⟩
end
section
variable {w w':World}{H:Hd}{s s':aP}{d d':Nat->List K.Pu}{O:Nat->Nat->Prop}{N:Nat->Prop}{c:R.Cl}{dd gg:R.Sl}{b:Nat}
def H3 (w:World)(lm:Int)(g n:Nat)(K:List Cp)(t a10 a11:Value)(w':World):Prop :=
 ∃(i:Nat) (pa:Option Addr) (cap:Nat),i<=n/\t=.int .i64 (i:Int)/\M.Dm w' w.heap.size g lm pa cap (K.take i)/\Below w.heap.size w w'
theorem vg (h:aI w H s d N)(hm:H.lm<=32/\1<=H.lm)(number:Int)(hlt:∀j∈s.ks,j<number)(h64:-9223372036854775808<=number/\number<9223372036854775808)(hkl:s.ks.length<=32){p:Option Addr}{n cp:Nat}{K:List Cp}(hr:Rd w p n K)(hn:(n:Int)<=H.lm) :
  Calls Tryz.prog 98 #[.pointer (some ⟨H.kb,0,none⟩),.int .i64 number,.slice p n cp] w λe w'=>e=.returned (.int .i64 0)/\∃N',aI w' H { s with ks:=s.ks++[number],D:=fW s.D number K } d N'/\aK w N w' N':=by
 have k6:=h.kb 6 _ rfl
 have QE:=ab (M.bU H.lm w hm.2 hm.1)
 have HD:=ab h
 have HM:=ab hm
 have HR:=ab hr
 have VN:Hid (K.length=n):=hr.len
 have VE:=ab hlt
 have Uy:=ab h64
 have Xp:=ab hkl
 have UL:=ab hn
 have hn9:n<9223372036854775807:=by omega
 clear h hm hr hlt h64 hkl hn;go_enter Tryz.func98,Tryz.ntmps98
 go_upto_region 3 with (first|(go_at_call 174;refine QE.out.mono ?_;rintro e w1 ⟨g,rfl,hd1,hb1⟩;have P6:=ab hd1;have PC:=ab hb1;clear hd1 hb1 k6))
 go_loopw [23,10,11] (H3 w H.lm g n K) (λt _ _ _=>n - (intOf t).toNat)
 case atStart=>exact⟨0,none,0,by omega,rfl,by simpa using P6.out,PC.out⟩
 case round =>
  obtain⟨i,pa,cap,hi,rfl,hdm,hB⟩:=hrel
  have ei:IntKind.i64.wrap ((i:Int)+1)=(i:Int)+1:=by rw [IntKind.wrap_i64];omega
  have HB:=ab hB
  have RT:=ab hdm
  clear hdm hB;by_cases hlt:i<n
  ·have hd:decide ((i:Int)<(n:Int))=true:=decide_eq_true (by omega)
   have hl:=VN.out
   obtain⟨x,hx⟩:∃x,K[i]?=some x:=⟨_,List.getElem?_eq_getElem (by omega)⟩
   obtain⟨b,q,rfl,hat⟩:=(HR.out.later HB.out).at_ (by omega)
   obtain⟨x0,x1,x2⟩:=hat i x hx
   have HT:Hid (K.take (i+1)=K.take i++[x]):=by unfold Hid;rw [List.take_add_one,hx];rfl
   have WI:Hid ((K.take i).length=i):=by unfold Hid;rw [List.length_take];omega
   clear hat hx hl;obtain⟨xo,xh,xl⟩:=x
   simp only at x0 x1 x2;obtain⟨w2,hw2⟩:∃w2,w2=wr.alloc (Obj.cells #[.int .i64 xo,.int .u64 (xh:Int),.int .u64 (xl:Int)] 37):=⟨_,rfl⟩
   have hB2:Below wr.heap.size wr w2:=by rw [hw2];exact ae _ _
   have y0:w2.cell? ⟨wr.heap.size,0,none⟩=some (.int .i64 xo):=by rw [hw2];simp [go_sem]
   have y1:w2.cell? ⟨wr.heap.size,1,none⟩=some (.int .u64 (xh:Int)):=by rw [hw2];simp [go_sem]
   have y2:w2.cell? ⟨wr.heap.size,2,none⟩=some (.int .u64 (xl:Int)):=by rw [hw2];simp [go_sem]
   have RS:=ab (M.qi (RT.out.later hB2) (xo,xh,xl) (by rw [WI.out];have:=UL.out;omega) HM.out.1)
   have PB:=ab (aa HB.out hB2)
   have Xd:=ab (RT.out.later hB2)
   clear hB2;go_upto_region 5 with fail
   rw [<-hw2];clear hw2 x0 x1 x2;go_wp2_with (first|(go_at_call 175;refine RS.out.mono ?_;rintro e w3 ⟨pb,cb,rfl,hd3,hw3⟩;have Qs:=ab hd3;have QR:=ab hw3;clear hd3 hw3 y0 y1 y2))
   refine⟨⟨i+1,pb,cb,by omega,by go_num,by rw [HT.out];exact Qs.out,QR.out.below Xd.out PB.out⟩,by simp [intOf];omega⟩
  ·obtain rfl:i=n:=by omega
   have hd:decide ((i:Int)<(i:Int))=false:=by simp
   have HK:Hid (K.take i=K):=by unfold Hid;rw [List.take_of_length_le (by have:=VN.out;omega)]
   rw [HK.out] at RT;obtain⟨O,hL⟩:=HD.out
   obtain⟨G,pq,cq,df,hli,hm5⟩:=hL.part 5
   have hmr:=S.bC (S:=λ_=>False) (ah.of HB.out) hli.map (λh=>h)
   obtain⟨w3,hrun,hm3,htn⟩:=hmr.store S.sC Tryz.underlying97 (by have:=Xp.out;unfold maxLen;omega) (key:=.int .i64 number) (kl:=.int .i64 number) (S.tJ Uy.out) (val:=.pointer (some ⟨g,0,none⟩)) (d:=.held (.pointer (some ⟨g,0,none⟩))) (ps:=[]) rfl
   have hb3:=S.fw htn
   rw [BQ _ _ _ _ VE.out] at hm3;have k15:=(HD.out.later HB.out).kb 15 _ rfl
   have hglt:=hli.map.lt
   have Qk:Hid (∃N',aI w3 H { s with ks:=s.ks++[number],D:=fW s.D number K } d N'/\aK w N w3 N'):=by
    have hlo:=RT.out.lo
    have hbl:=λk hk=>(RT.out.own.bT k hk).1
    exact hL.arm hli hm5 VE.out ((RT.out.but hb3 (λe=>by have e2:g=H.lg:=e;omega) (λk hk e=>by have e2:k=H.lg:=e;have:=hbl k hk;omega)).mono hL.b0.2) ⟨hlo,hbl⟩ ((ah.of HB.out).trans hb3) hm3
   clear hL hli hm5 hm3 htn hb3 hglt hmr;go_wp2;go_ret;exact⟨rfl,Qk.out⟩
end
end Go.Proofs.YtffmodpgddecnaaGreatDoor.V
