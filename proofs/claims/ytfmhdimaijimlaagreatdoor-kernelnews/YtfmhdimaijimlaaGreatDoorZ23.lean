import Derived.Test.YtfmhdimaijimlaaGreatDoorZ22
set_option linter.all false
set_option maxRecDepth 1000000
set_option maxHeartbeats 8000000
open Go.Proofs.Tryz
variable {w w' w1 w2:Go.World}{n m k i j b g base kn:Nat}{a:Option Go.Addr}
namespace Go.Proofs.YtfmhdimaijimlaaGreatDoor.V
open Go.RowKit
open Go.Proofs.YtfmhdimaijimlaaGreatDoor.H (ak Cp)
section
variable {w w':World}{H:Hd}{s s':aI}{d d':Nat->List K.Pu}{O:Nat->Nat->Prop}{N:Nat->Prop}{c:R.Cl}{dd gg:R.Sl}{b:Nat}
theorem bp (h:aF w H s d N)(ht:L.Tr s.X s.l d)(hf:KF H.p s)(need:Int)(hw:c.hi<ak/\c.lo<ak)(hby:c.au∈s.P) :
  Calls prog 110 #[.pointer (some ⟨H.kb,0,none⟩),.agg (R.cC c dd gg).toArray,.int .i64 need] w λe w'=>e=.returned (.int .i64 (cF s c.given c.au (bG c) need))/\∃T,aF w' H s T N/\L.Tr s.X s.l T/\ae N w w':=by
 unfold cF
 cases hg:c.given with
 | true=>exact rS h ht need hg hw
 | false=>exact rK h ht hf need hg hby
theorem EH (h:R.Bx w b (R.cC c dd gg)):(Instr.loadAt 45 (.pointer (some ⟨b,0,none⟩))).run prog w=.ok (.agg (R.cC c dd gg).toArray) w:=by
 have:=R.Ey h.range (by rfl)
 simp [Instr.loadAt,Instr.sureAddr,this]
theorem AO {B:Nat->Prop}{cap:Nat}{Q:List Value}(h:Row w a n cap Q)(hb:ae B w w')(hn:0<n->∀k,aD a k->¬B k):Row w' a n cap Q:=by
 by_cases h0:0<n
 ·exact Row.but hb h (hn h0)
 ·have hl:=h.len
  refine⟨h.len,h.cap_,h.none_,λx hx j u hu=>?_,h.one⟩
  have:=(gS.1 hu).1
  omega
theorem bS {P:Program}{o:Oper}{a:Act}{K:Act->World->Prop}{Q:Exit->Act->World->Prop}(ty:TypeId)(x y:Operand)(ho:o.op=.store ty x y)(vx vy:Value)(hx:a.eval x=vx)(hy:a.eval y=vy)(w':World)
  (hr:(Instr.storeAt ty vx vy).run P w=.ok () w') (h:K (a.put o.dst undef) w'):o.wp P a w K Q:=by
 unfold Oper.wp execOp
 simp only [ho,hx,hy,hr,Sem.run_bind,Sem.run_pure,Result.andThen_ok]
 exact h
theorem CN (h:aF w H s d N)(ht:L.Tr s.X s.l d)(hf:KF H.p s)(hw:c.hi<ak/\c.lo<ak)(hby:c.au∈s.P)(hv:cF s c.given c.au (bG c) 1≠0) :
  Calls prog 63 #[.pointer (some ⟨H.kb,0,none⟩),.agg (R.cC c dd gg).toArray] w λe w'=>e=.returned (dO (rep (cF s c.given c.au (bG c) 1)) none 0 0)/\∃T,aF w' H s T N/\L.Tr s.X s.l T/\ae N w w':=by
 obtain⟨W,hW⟩:∃W,W=(w.alloc (Obj.cells (R.cC c dd gg).toArray 45)).alloc z6:=⟨_,rfl⟩
 have hB:Below w.heap.size w W:=by rw [hW];exact aw _ _ _
 have hX:R.Bx W w.heap.size (R.cC c dd gg):=by rw [hW];exact R.Bx.later (ab _ _) (R.Bx.new w (R.cC c dd gg) 45)
 have hZ:Zr W (w.heap.size+1):=by rw [hW];have:=Zr.new (w.alloc (Obj.cells (R.cC c dd gg).toArray 45));simpa using this
 have h2:=h.later hB
 have HC:=aa (bp (dd:=dd) (gg:=gg) h2 ht hf 1 hw hby)
 have HLd:=aa (EH hX)
 obtain⟨m,hm⟩:∃m,m=cF s c.given c.au (bG c) 1:=⟨_,rfl⟩
 rw [<-hm] at HC hv
 have hq:(m != 0)=true:=by simpa using hv
 rw [<-hm]
 have HW:=aa hW
 have HB:=aa hB
 have HX:=aa hX
 have HZ:=aa hZ
 have HD:=aa h2
 have HP:Hid (0<w.heap.size):=by have:=h.b0;unfold Hid;omega
 have HN:=aa (λk hk=>h.new (k:=k) hk)
 clear h h2 hB hX hZ hW ht hf hv hm
 go_enter func63,ntmps63
 go_upto_region 1 with fail
 rw [<-HW.o]
 go_upto_region 2 with (first|((with_reducible refine R.aP HLd.o ?_ ?_);(· rfl))|(go_at_call 110;refine HC.o.mono ?_;rintro e w1 ⟨rfl,T,hd1,ht1,hb1⟩;have HD1:=aa hd1;have HT1:=aa ht1;have HB1:Hid (ae N W w1):=hb1;clear hd1 ht1 hb1))
 have HR:=aa (ba m w1)
 go_upto_region 3 with fail
 go_upto_region 4 with (first|(go_at_call 31;refine HR.o.mono ?_;rintro e w2 ⟨rfl,hb2⟩;have HB2:Hid (ae N W w2):=HB1.o.call hb2;have HD2:=aa (HD1.o.later hb2);have HZ9:=aa (HZ.o.but HB2.o (HN.o _ (by omega)));have HS9:=aa (HZ9.o.st (rep m) none 0 0);have HL9:=aa (HZ9.o.lv (rep m) none 0 0);clear hb2)|((with_reducible refine aY HS9.o ?_ ?_ ?_);(· rfl);(· rfl)))
 have HB9:Hid (ae (·=w.heap.size+1) w2 (w2.setCells (w.heap.size+1) 0 (fK (rep m) none 0 0))):=R.iK (S:=(·=w.heap.size+1)) rfl _ 0 (ae.refl _ _)
 exact bodyPost_ret (v:=dO (rep m) none 0 0) (by simp [results,results63,asAddr,HL9.o]) rfl ⟨rfl,T,HD2.o.but HB9.o (λk hk e=>HN.o k (by omega) hk) (λe=>by have:0=w.heap.size+1:=e;omega),HT1.o,((ae.of HB.o).trans HB2.o).comp HB9.o (λi e=>.inr (by omega))⟩
theorem yK (h:aF w H s d N)(ht:L.Tr s.X s.l d)(hf:KF H.p s)(hw:c.hi<ak/\c.lo<ak)(hby:c.au∈s.P)(hv:cF s c.given c.au (bG c) 2≠0) :
  Calls prog 64 #[.pointer (some ⟨H.kb,0,none⟩),.agg (R.cC c dd gg).toArray] w λe w'=>e=.returned (dO (rep (cF s c.given c.au (bG c) 2)) none 0 0)/\∃T,aF w' H s T N/\L.Tr s.X s.l T/\ae N w w':=by
 obtain⟨W,hW⟩:∃W,W=(w.alloc (Obj.cells (R.cC c dd gg).toArray 45)).alloc z6:=⟨_,rfl⟩
 have hB:Below w.heap.size w W:=by rw [hW];exact aw _ _ _
 have hX:R.Bx W w.heap.size (R.cC c dd gg):=by rw [hW];exact R.Bx.later (ab _ _) (R.Bx.new w (R.cC c dd gg) 45)
 have hZ:Zr W (w.heap.size+1):=by rw [hW];have:=Zr.new (w.alloc (Obj.cells (R.cC c dd gg).toArray 45));simpa using this
 have h2:=h.later hB
 have HC:=aa (bp (dd:=dd) (gg:=gg) h2 ht hf 2 hw hby)
 have HLd:=aa (EH hX)
 obtain⟨m,hm⟩:∃m,m=cF s c.given c.au (bG c) 2:=⟨_,rfl⟩
 rw [<-hm] at HC hv
 have hq:(m != 0)=true:=by simpa using hv
 rw [<-hm]
 have HW:=aa hW
 have HB:=aa hB
 have HX:=aa hX
 have HZ:=aa hZ
 have HD:=aa h2
 have HP:Hid (0<w.heap.size):=by have:=h.b0;unfold Hid;omega
 have HN:=aa (λk hk=>h.new (k:=k) hk)
 clear h h2 hB hX hZ hW ht hf hv hm
 go_enter func64,ntmps64
 go_upto_region 1 with fail
 rw [<-HW.o]
 go_upto_region 2 with (first|((with_reducible refine R.aP HLd.o ?_ ?_);(· rfl))|(go_at_call 110;refine HC.o.mono ?_;rintro e w1 ⟨rfl,T,hd1,ht1,hb1⟩;have HD1:=aa hd1;have HT1:=aa ht1;have HB1:Hid (ae N W w1):=hb1;clear hd1 ht1 hb1))
 have HR:=aa (ba m w1)
 go_upto_region 3 with fail
 go_upto_region 4 with (first|(go_at_call 31;refine HR.o.mono ?_;rintro e w2 ⟨rfl,hb2⟩;have HB2:Hid (ae N W w2):=HB1.o.call hb2;have HD2:=aa (HD1.o.later hb2);have HZ9:=aa (HZ.o.but HB2.o (HN.o _ (by omega)));have HS9:=aa (HZ9.o.st (rep m) none 0 0);have HL9:=aa (HZ9.o.lv (rep m) none 0 0);clear hb2)|((with_reducible refine aY HS9.o ?_ ?_ ?_);(· rfl);(· rfl)))
 have HB9:Hid (ae (·=w.heap.size+1) w2 (w2.setCells (w.heap.size+1) 0 (fK (rep m) none 0 0))):=R.iK (S:=(·=w.heap.size+1)) rfl _ 0 (ae.refl _ _)
 exact bodyPost_ret (v:=dO (rep m) none 0 0) (by simp [results,results64,asAddr,HL9.o]) rfl ⟨rfl,T,HD2.o.but HB9.o (λk hk e=>HN.o k (by omega) hk) (λe=>by have:0=w.heap.size+1:=e;omega),HT1.o,((ae.of HB.o).trans HB2.o).comp HB9.o (λi e=>.inr (by omega))⟩
theorem pS (h:aF w H s d N)(ht:L.Tr s.X s.l d)(hf:KF H.p s)(hw:c.hi<ak/\c.lo<ak)(hby:c.au∈s.P)(ho:S.aW c.obj)(hv:cF s c.given c.au (bG c) 1=0) :
  Calls prog 63 #[.pointer (some ⟨H.kb,0,none⟩),.agg (R.cC c dd gg).toArray] w λe w'=>∃a n cp T,e=.returned (dO ⟨S.sl s.V c.obj c.off c.n,(0,0,0),S.xj s.V c.obj c.off c.n,0⟩ a n cp)/\Own w' w.heap.size 5 a n cp (S.aM (S.xj s.V c.obj c.off c.n))/\aF w' H s T N/\L.Tr s.X s.l T/\ae N w w':=by
 obtain⟨W,hW⟩:∃W,W=(w.alloc (Obj.cells (R.cC c dd gg).toArray 45)).alloc z6:=⟨_,rfl⟩
 have hB:Below w.heap.size w W:=by rw [hW];exact aw _ _ _
 have hX:R.Bx W w.heap.size (R.cC c dd gg):=by rw [hW];exact R.Bx.later (ab _ _) (R.Bx.new w (R.cC c dd gg) 45)
 have hZ:Zr W (w.heap.size+1):=by rw [hW];have:=Zr.new (w.alloc (Obj.cells (R.cC c dd gg).toArray 45));simpa using this
 have h2:=h.later hB
 have HC:=aa (bp (dd:=dd) (gg:=gg) h2 ht hf 1 hw hby)
 have HLd:=aa (EH hX)
 have hq:(cF s c.given c.au (bG c) 1 != 0)=false:=by simpa using hv
 rw [hv] at HC
 have HO:=aa ho
 obtain⟨D,hD⟩:∃D,D=S.xj s.V c.obj c.off c.n:=⟨_,rfl⟩
 obtain⟨E,hE⟩:∃E,E=S.sl s.V c.obj c.off c.n:=⟨_,rfl⟩
 rw [<-hD,<-hE]
 have HDq:=aa hD
 have HEq:=aa hE
 have HW:=aa hW
 have HB:=aa hB
 have HX:=aa hX
 have HZ:=aa hZ
 have HD:=aa h2
 have HP:Hid (0<w.heap.size):=by have:=h.b0;unfold Hid;omega
 have HN:=aa (λk hk=>h.new (k:=k) hk)
 clear h h2 hB hX hZ hW ht hf hv hq ho hD hE
 go_enter func63,ntmps63
 go_upto_region 1 with fail
 rw [<-HW.o]
 go_upto_region 2 with (first|((with_reducible refine R.aP HLd.o ?_ ?_);(· rfl))|(go_at_call 110;refine HC.o.mono ?_;rintro e w1 ⟨rfl,T,hd1,ht1,hb1⟩;have HD1:=aa hd1;have HT1:=aa ht1;have HB1:Hid (ae N W w1):=hb1;clear hd1 ht1 hb1))
 have HX1:=aa (R.Bx.but HB1.o HX.o (HN.o _ (Nat.le_refl _)))
 have HRd:=aa (λ(U:World) (hU:Below w1.heap.size w1 U)=>Fv (HD1.o.later hU) c.obj c.off c.n HO.o)
 have H01:Hid (∀U,ae (λ_=>False) w1 U->U.cell? ⟨H.kb,11,none⟩=some (.pointer (some ⟨H.z.s,0,none⟩))/\U.cell? ⟨w.heap.size,3,none⟩=some (.int .i64 c.obj)/\U.cell? ⟨w.heap.size,8,none⟩=some (.int .i64 c.off)/\U.cell? ⟨w.heap.size,9,none⟩=some (.int .i64 c.n)):=λU hU=>by
  have:=Cb.of (R.Bx.but hU HX1.o (λh=>h))
  exact⟨aC hU (HD1.o.kb 11 _ rfl) (λh=>h),this.c3,this.c8,this.c9⟩
 rw [<-HDq.o,<-HEq.o] at HRd
 clear HC HLd
 go_upto_region 4 with fail
 go_region_held3 (λU=>U.cell? ⟨H.kb,11,none⟩=some (.pointer (some ⟨H.z.s,0,none⟩))/\U.cell? ⟨w.heap.size,3,none⟩=some (.int .i64 c.obj)/\U.cell? ⟨w.heap.size,8,none⟩=some (.int .i64 c.off)/\U.cell? ⟨w.heap.size,9,none⟩=some (.int .i64 c.n)) (first|exact H01.o _ (ae.of (Below.refl _ _).drew)|exact HE.o) (first
   | (go_at_call 111;refine (HRd.o _ (Below.refl _ _).drew).mono ?_;rintro e w2 ⟨a2,c2,rfl,hO2,hb2⟩;have HB2:Hid (Below w1.heap.size w1 w2):=al (Below.refl _ _).drew hb2;have HE:=aa (H01.o w2 (ae.of HB2.o));have HO2:=aa hO2;clear hO2 hb2))
 have HZ9:=aa ((HZ.o.but HB1.o (HN.o _ (by omega))).later HB2.o)
 have HS9:=aa (HZ9.o.st ⟨E,(0,0,0),D,0⟩ a2 D.length c2)
 have HL9:=aa (HZ9.o.lv ⟨E,(0,0,0),D,0⟩ a2 D.length c2)
 have HB9:Hid (ae (·=w.heap.size+1) w2 (w2.setCells (w.heap.size+1) 0 (fK ⟨E,(0,0,0),D,0⟩ a2 D.length c2))):=R.iK (S:=(·=w.heap.size+1)) rfl _ 0 (ae.refl _ _)
 have HSz:Hid (w.heap.size+2<=w1.heap.size):=by have h1:=HB1.o.size;have h2:(w.heap.size+1)<W.heap.size:=HZ.o.lt;unfold Hid;omega
 go_wp2_with (first|((with_reducible refine aY HS9.o ?_ ?_ ?_);(· rfl);(· rfl)))
 exact bodyPost_ret (v:=dO ⟨E,(0,0,0),D,0⟩ a2 D.length c2) (by simp [results,results63,asAddr,HL9.o]) rfl ⟨a2,D.length,c2,T,rfl,(HO2.o.but HB9.o (λk hk e=>by have:=HO2.o.bD k hk;have:=HSz.o;have e2:k=w.heap.size+1:=e;have h3:w1.drew.heap.size=w1.heap.size:=rfl;omega)).mono (by have:=HSz.o;have h3:w1.drew.heap.size=w1.heap.size:=rfl;omega),(HD1.o.later HB2.o).but HB9.o (λk hk e=>HN.o k (by omega) hk) (λe=>by have:0=w.heap.size+1:=e;omega),HT1.o,((ae.of HB.o).trans (HB1.o.call HB2.o)).comp HB9.o (λi e=>.inr (by omega))⟩
end
open Go.Proofs.YtfmhdimaijimlaaGreatDoor.M (bh)
section
variable {w w':World}{H:Hd}{s s':aI}{d d':Nat->List K.Pu}{O:Nat->Nat->Prop}{N:Nat->Prop}{c:R.Cl}{dd gg:R.Sl}{b:Nat}
theorem Ho {hi lo:Nat}(h:hi<ak/\lo<ak):D.jD (hi:Int) (lo:Int) (hi*ak+lo):=D.jD.of ⟨h.1,h.2,rfl⟩
theorem xE (hi lo:Nat)(hw:hi<ak/\lo<ak)(W:Int)(hW:1<=W)(w:World):Calls prog 166 #[.agg #[.int .u64 (hi:Int),.int .u64 (lo:Int)],.int .i64 W] w λe w'=>e=.returned (.bool (decide (D.cn (hi*ak+lo) W=hi*ak+lo)))/\Below w.heap.size w w':=by
 have hB:=ab w (Obj.cells #[.int .u64 (hi:Int),.int .u64 (lo:Int)] 31)
 have HC:=aa (λU=>D.kR (hi:Int) (lo:Int) (hi*ak+lo) W U (Ho hw))
 have HV:=aa (Ho hw)
 have HE:=aa R.Ix
 have hd:decide (1<=W)=true:=by simpa using hW
 have H0:Hid (∀U,Below (w.alloc (Obj.cells #[.int .u64 (hi:Int),.int .u64 (lo:Int)] 31)).heap.size (w.alloc (Obj.cells #[.int .u64 (hi:Int),.int .u64 (lo:Int)] 31)) U->U.cell? ⟨w.heap.size,0,none⟩=some (.int .u64 (hi:Int))/\U.cell? ⟨w.heap.size,1,none⟩=some (.int .u64 (lo:Int))):=λU hU=>⟨cell_later hU (by simp [go_sem]),cell_later hU (by simp [go_sem])⟩
 have HB:=aa hB
 clear hB
 go_enter func166,ntmps166
 go_upto_region 1 with fail
 have heq:=HE.o
 go_region_held3 (λU=>U.cell? ⟨w.heap.size,0,none⟩=some (.int .u64 (hi:Int))/\U.cell? ⟨w.heap.size,1,none⟩=some (.int .u64 (lo:Int))) (first|exact H0.o _ (Below.refl _ _).drew|exact HE1.o) (first
  | (go_at_call 83;refine (HC.o _).mono ?_;rintro e w2 ⟨c1,d1,rfl,hv2,hb2⟩;have HV2:=aa hv2;have HB2:=aa (al ((al HB.o (Below.refl _ _).drew)) hb2);have HE1:=aa (H0.o w2 (al (Below.refl _ _).drew hb2));clear hv2 hb2))
 go_wp2
 go_ret
 refine⟨?_,HB2.o⟩
 have h1:=D.Ah HV2.o HV.o
 have h2:R.yl c1 d1 (hi:Int) (lo:Int)=D.yl c1 d1 (hi:Int) (lo:Int):=by unfold R.yl D.yl;simp
 rw [<-h1,<-h2]
 rfl
theorem nM (h:aF w H s d N)(hW:1<=H.W)(hi lo:Nat)(hw:hi<ak/\lo<ak):Calls prog 113 #[.pointer (some ⟨H.kb,0,none⟩),.agg #[.int .u64 (hi:Int),.int .u64 (lo:Int)]] w λe w'=>e=.returned (.bool (decide (D.cn (hi*ak+lo) H.W=hi*ak+lo)))/\Below w.heap.size w w':=by
 obtain⟨W,hWq⟩:∃W,W=w.alloc (Obj.cells #[.int .u64 (hi:Int),.int .u64 (lo:Int)] 31):=⟨_,rfl⟩
 have hB:Below w.heap.size w W:=by rw [hWq];exact ab _ _
 have y0:W.cell? ⟨w.heap.size,0,none⟩=some (.int .u64 (hi:Int)):=by rw [hWq];simp [go_sem]
 have y1:W.cell? ⟨w.heap.size,1,none⟩=some (.int .u64 (lo:Int)):=by rw [hWq];simp [go_sem]
 have k0:W.cell? ⟨H.kb,0,none⟩=some (.int .i64 H.W):=(h.later hB).kb 0 _ rfl
 have HC:=aa (λU=>xE hi lo hw H.W hW U)
 have H0:Hid (∀U,Below W.heap.size W U->U.cell? ⟨w.heap.size,0,none⟩=some (.int .u64 (hi:Int))/\U.cell? ⟨w.heap.size,1,none⟩=some (.int .u64 (lo:Int))/\U.cell? ⟨H.kb,0,none⟩=some (.int .i64 H.W)):=λU hU=>⟨cell_later hU y0,cell_later hU y1,cell_later hU k0⟩
 have HB:=aa hB
 have HW:=aa hWq
 obtain⟨q,hq⟩:∃q,q=decide (D.cn (hi*ak+lo) H.W=hi*ak+lo):=⟨_,rfl⟩
 rw [<-hq] at HC ⊢
 clear hB y0 y1 k0 h hWq hq
 go_enter func113,ntmps113
 go_upto_region 1 with fail
 rw [<-HW.o]
 go_region_held3 (λU=>U.cell? ⟨w.heap.size,0,none⟩=some (.int .u64 (hi:Int))/\U.cell? ⟨w.heap.size,1,none⟩=some (.int .u64 (lo:Int))/\U.cell? ⟨H.kb,0,none⟩=some (.int .i64 H.W)) (first|exact H0.o _ (Below.refl _ _).drew|exact HE1.o) (first
  | (go_at_call 166;refine (HC.o _).mono ?_;rintro e w2 ⟨rfl,hb2⟩;have HB2:=aa (al ((al HB.o (Below.refl _ _).drew)) hb2);have HE1:=aa (H0.o w2 (al (Below.refl _ _).drew hb2));clear hb2))
 go_wp2
 go_ret
 exact⟨rfl,HB2.o⟩
end
section
variable {w w':World}{H:Hd}{s s':aI}{d d':Nat->List K.Pu}{O:Nat->Nat->Prop}{N:Nat->Prop}{c:R.Cl}{dd gg:R.Sl}{b:Nat}
theorem Li.lu {U:World}{Pr:List Int}{D:Int->List Cp}{G:Int->Nat}{pa:Int->Option Addr}{cap:Int->Nat}{cY:Nat->Int}{B:Nat->Prop}(h:Li w H Pr D G pa cap cY)(hb:ae B w U)(hn:¬B H.lg){i:Int}(hi:i∈Pr)(hr:-9223372036854775808<=i/\i<9223372036854775808) :
  (Instr.lookup 85 (.map (some H.lg)) (.int .i64 i) false).run prog U=.ok (.pointer (some ⟨G i,0,none⟩)) U:=by
 have hm:=S.bd hb h.map hn
 obtain⟨v,ps,hrun,hv⟩:=hm.lookup S.tY underlying85 (S.aG E7 U) (zd:=.held (.pointer none)) (zp:=[]) rfl (S.sR hr)
 rw [lS _ _ _ hi] at hv
 simp only [S.hr,Option.some.injEq,Prod.mk.injEq,DataW.held.injEq] at hv
 rw [hrun,hv.1]
theorem Lay.AP (h:Lay w H s d O N)(hb:Below w.heap.size w w'):Lay w' H s d O N:=by
 have hs:=hb.size
 exact⟨λi=>Part.but (B:=λ_=>False) (ae.of hb) (λ_ _ h=>h) i (h.part i),h.ap,h.sub,λk hk=>by have h1:=h.p6 k hk;exact⟨h1.1,by omega⟩,h.mX,h.laid.later hb,h.b0.1,by have:=h.b0.2;omega⟩
def Lb (G:Int->Nat)(pa:Int->Option Addr)(i:Int)(k:Nat):Prop:=k=G i\/aD (pa i) k
theorem JR (h:aF w H s d N)(hf:KF H.p s){i:Int}(hi:i∈s.P){G:Int->Nat}{pa:Int->Option Addr}{cap:Int->Nat}{cY:Nat->Int}{O:Nat->Nat->Prop}(hL:Lay w H s d O N)(hl:Li w H s.ks s.D G pa cap cY)(hm:∀k,CI s.ks G pa H.lg k->O 5 k)(c:Cp) :
  Calls prog 91 #[.pointer (some ⟨G i,0,none⟩),.agg #[.int .i64 c.1,.int .u64 (c.2.1:Int),.int .u64 (c.2.2:Int)]] w λe w'=>e=.returned (.int .i64 (if H.lm<=((s.D i).length:Int) then 14 else 0))/\(∃N',aF w' H { s with D:=if H.lm<=((s.D i).length:Int) then s.D else fT s.D i (s.D i++[c]) } d N'/\aH w N w' N')/\ae (Lb G pa i) w w':=by
 have hk:i∈s.ks:=by rw [hf.ks];exact hi
 by_cases hq:H.lm<=((s.D i).length:Int)
 ·simp only [if_pos hq]
  refine (M.CG (hl.each i hk) c hq).mono ?_
  rintro e w' ⟨rfl,hb⟩
  exact⟨rfl,⟨N,h.later hb,aH.later hb⟩,ae.of hb⟩
 ·simp only [if_neg hq]
  refine (M.qK (hl.each i hk) c (by omega) hf.lm.2).mono ?_
  rintro e w' ⟨pb,cb,rfl,hd,hw⟩
  exact⟨rfl,hL.list hl hm hk hd hw,hw.but⟩
theorem pj (h:aF w H s d N)(hWd:1<=H.W)(hw:c.hi<ak/\c.lo<ak)(hq:re H.W (bG c)=false) :
  Calls prog 65 #[.pointer (some ⟨H.kb,0,none⟩),.agg (R.cC c dd gg).toArray] w λe w'=>e=.returned (dO (rep 18) none 0 0)/\Below w.heap.size w w':=by
 obtain⟨W,hW⟩:∃W,W=(w.alloc (Obj.cells (R.cC c dd gg).toArray 45)).alloc z6:=⟨_,rfl⟩
 have hB:Below w.heap.size w W:=by rw [hW];exact aw _ _ _
 have hX:R.Bx W w.heap.size (R.cC c dd gg):=by rw [hW];exact R.Bx.later (ab _ _) (R.Bx.new w (R.cC c dd gg) 45)
 have hZ:Zr W (w.heap.size+1):=by rw [hW];have:=Zr.new (w.alloc (Obj.cells (R.cC c dd gg).toArray 45));simpa using this
 have h2:=h.later hB
 have hq2:decide (D.cn (c.hi*ak+c.lo) H.W=c.hi*ak+c.lo)=false:=by unfold re bG at hq;simpa [hWd] using hq
 have HC:=aa (nM h2 hWd c.hi c.lo hw)
 rw [hq2] at HC
 have x4:=(Cb.of hX).c4
 have x5:=(Cb.of hX).c5
 have HW:=aa hW
 have HB:=aa hB
 have HX:=aa hX
 have HZ:=aa hZ
 have HD:=aa h2
 have HP:Hid (0<w.heap.size):=by have:=h.b0;unfold Hid;omega
 have HN:=aa (λk hk=>h.new (k:=k) hk)
 clear h h2 hB hX hZ hW hq hq2
 go_enter func65,ntmps65
 go_upto_region 1 with fail
 rw [<-HW.o]
 go_upto_region 2 with (first|(go_at_call 113;refine HC.o.mono ?_;rintro e w1 ⟨rfl,hb1⟩;have HB1:=aa hb1;clear hb1))
 have HR:=aa (ba 18 w1)
 go_upto_region 3 with (first|(go_at_call 31;refine HR.o.mono ?_;rintro e w2 ⟨rfl,hb2⟩;have HB2:Hid (Below W.heap.size W w2):=al HB1.o hb2;have HZ9:=aa (HZ.o.later HB2.o);have HS9:=aa (HZ9.o.st (rep 18) none 0 0);have HL9:=aa (HZ9.o.lv (rep 18) none 0 0);clear hb2)|((with_reducible refine aY HS9.o ?_ ?_ ?_);(· rfl);(· rfl)))
 have HB9:Hid (ae (·=w.heap.size+1) w2 (w2.setCells (w.heap.size+1) 0 (fK (rep 18) none 0 0))):=R.iK (S:=(·=w.heap.size+1)) rfl _ 0 (ae.refl _ _)
 exact bodyPost_ret (v:=dO (rep 18) none 0 0) (by simp [results,results65,asAddr,HL9.o]) rfl ⟨rfl,ae.below (al HB.o HB2.o) HB9.o (λk e=>by omega)⟩
theorem sB (h:aF w H s d N)(hf:KF H.p s)(hWd:1<=H.W)(hw:c.hi<ak/\c.lo<ak)(hby:c.au∈s.P)(hq:re H.W (bG c)=true) :
  Calls prog 65 #[.pointer (some ⟨H.kb,0,none⟩),.agg (R.cC c dd gg).toArray] w λe w'=>e=.returned (dO (rep (if H.lm<=((s.D c.au).length:Int) then 14 else 0)) none 0 0)/\∃N',aF w' H { s with D:=if H.lm<=((s.D c.au).length:Int) then s.D else fT s.D c.au (s.D c.au++[bG c]) } d N'/\aH w N w' N':=by
 obtain⟨W,hW⟩:∃W,W=(w.alloc (Obj.cells (R.cC c dd gg).toArray 45)).alloc z6:=⟨_,rfl⟩
 have hB:Below w.heap.size w W:=by rw [hW];exact aw _ _ _
 have hX:R.Bx W w.heap.size (R.cC c dd gg):=by rw [hW];exact R.Bx.later (ab _ _) (R.Bx.new w (R.cC c dd gg) 45)
 have hZ:Zr W (w.heap.size+1):=by rw [hW];have:=Zr.new (w.alloc (Obj.cells (R.cC c dd gg).toArray 45));simpa using this
 have h2:=h.later hB
 have hq2:decide (D.cn (c.hi*ak+c.lo) H.W=c.hi*ak+c.lo)=true:=by unfold re bG at hq;simpa [hWd] using hq
 have HC:=aa (nM h2 hWd c.hi c.lo hw)
 rw [hq2] at HC
 have x4:=(Cb.of hX).c4
 have x5:=(Cb.of hX).c5
 have HF:=aa hf
 have HBy:=aa hby
 obtain⟨E,hE⟩:∃E,E=(if H.lm<=((s.D c.au).length:Int) then (14:Int) else 0):=⟨_,rfl⟩
 obtain⟨D9,hD9⟩:∃D9,D9=(if H.lm<=((s.D c.au).length:Int) then s.D else fT s.D c.au (s.D c.au++[bG c])):=⟨_,rfl⟩
 rw [<-hE,<-hD9]
 have HEq:=aa hE
 have HDq:=aa hD9
 have HW:=aa hW
 have HB:=aa hB
 have HX:=aa hX
 have HZ:=aa hZ
 have HD:=aa h2
 have HP:Hid (0<w.heap.size):=by have:=h.b0;unfold Hid;omega
 have HN:=aa (λk hk=>h.new (k:=k) hk)
 clear h h2 hB hX hZ hW hq hq2 hf hby hE hD9
 go_enter func65,ntmps65
 go_upto_region 1 with fail
 rw [<-HW.o]
 go_upto_region 2 with (first|(go_at_call 113;refine HC.o.mono ?_;rintro e w1 ⟨rfl,hb1⟩;have HB1:=aa hb1;clear hb1 x4 x5))
 have HX1:=aa (R.Bx.later HB1.o HX.o)
 have HD1:=aa (HD.o.later HB1.o)
 have HZ1:=aa (HZ.o.later HB1.o)
 obtain⟨O,hL⟩:=HD1.o
 obtain⟨G,pa,cap,cY,hl,hm⟩:=hL.part 5
 have hks:c.au∈s.ks:=by rw [HF.o.ks];exact HBy.o
 have HNb:Hid (∀k,Lb G pa c.au k->N k):=λk hk=>hL.sub 5 k (hm k (.inr ⟨_,hks,hk⟩))
 have HSS:Hid (∀U,ae (Lb G pa c.au) w1 U->U.cell? ⟨H.kb,15,none⟩=some (.map (some H.lg))/\U.cell? ⟨w.heap.size,1,none⟩=some (.int .i64 c.au)/\U.cell? ⟨w.heap.size,3,none⟩=some (.int .i64 c.obj)/\U.cell? ⟨w.heap.size,4,none⟩=some (.int .u64 (c.hi:Int))/\U.cell? ⟨w.heap.size,5,none⟩=some (.int .u64 (c.lo:Int))/\(Instr.lookup 85 (.map (some H.lg)) (.int .i64 c.au) false).run prog U=.ok (.pointer (some ⟨G c.au,0,none⟩)) U):=λU hb=>by
  have hx:=Cb.of (R.Bx.but hb HX1.o (λe=>HN.o _ (Nat.le_refl _) (HNb.o _ e)))
  exact⟨aC hb (HD1.o.kb 15 _ rfl) (λe=>absurd (hL.ap 7 5 _ (hL.part 7).2 (hm _ (.inr ⟨_,hks,e⟩))) (by decide)),hx.c1,hx.c3,hx.c4,hx.c5,hl.lu hb (λe=>(hl.cY _ hks _ e).2 rfl) hks (HF.o.pF HBy.o)⟩
 have HSt:Hid (∀U,ae (λk=>Lb G pa c.au k\/k=w.heap.size+1) w1 U->U.cell? ⟨H.kb,15,none⟩=some (.map (some H.lg))/\U.cell? ⟨w.heap.size,1,none⟩=some (.int .i64 c.au)/\U.cell? ⟨w.heap.size,3,none⟩=some (.int .i64 c.obj)/\U.cell? ⟨w.heap.size,4,none⟩=some (.int .u64 (c.hi:Int))/\U.cell? ⟨w.heap.size,5,none⟩=some (.int .u64 (c.lo:Int))/\(Instr.lookup 85 (.map (some H.lg)) (.int .i64 c.au) false).run prog U=.ok (.pointer (some ⟨G c.au,0,none⟩)) U):=λU hb=>by
  have hx:=Cb.of (R.Bx.but hb HX1.o (λe=>e.elim (λe=>HN.o _ (Nat.le_refl _) (HNb.o _ e)) (λe=>by omega)))
  have hnw:∀k,N k->k≠w.heap.size+1:=λk hk e=>HN.o _ (by omega) (e ▸ hk)
  exact⟨aC hb (HD1.o.kb 15 _ rfl) (λe=>e.elim (λe=>absurd (hL.ap 7 5 _ (hL.part 7).2 (hm _ (.inr ⟨_,hks,e⟩))) (by decide)) (hnw _ (hL.sub 7 _ (hL.part 7).2))),hx.c1,hx.c3,hx.c4,hx.c5,hl.lu hb (λe=>e.elim (λe=>(hl.cY _ hks _ e).2 rfl) (hnw _ (hL.sub 5 _ (hm _ (.inl rfl))))) hks (HF.o.pF HBy.o)⟩
 have HAd:=aa (λ(U:World) (hU:Below w1.heap.size w1 U)=>JR (HD1.o.later hU) HF.o HBy.o (hL.AP hU) (hl.but (ae.of (S:=λ_=>False) hU) (λ_ _ h=>h)) hm (bG c))
 rw [<-HEq.o,<-HDq.o] at HAd
 unfold bG at HAd
 clear hL hl hm hks HC
 go_upto_region 3 with fail
 refine wp_region_held_drew (S:=(λU:World=>U.cell? ⟨H.kb,15,none⟩=some (.map (some H.lg))/\U.cell? ⟨w.heap.size,1,none⟩=some (.int .i64 c.au)/\U.cell? ⟨w.heap.size,3,none⟩=some (.int .i64 c.obj)/\U.cell? ⟨w.heap.size,4,none⟩=some (.int .u64 (c.hi:Int))/\U.cell? ⟨w.heap.size,5,none⟩=some (.int .u64 (c.lo:Int))/\(Instr.lookup 85 (.map (some H.lg)) (.int .i64 c.au) false).run prog U=.ok (.pointer (some ⟨G c.au,0,none⟩)) U)) (by kernel_rfl) (HSS.o _ (ae.of (Below.refl _ _).drew)) (λhHeld=>?_)
 refine nH (bm 12 0) 12 ?_
 refine tH 0 (v:=?_) rfl (λ_ _ _ h=>h) ?_ ?_;rotate_left
 ·(intro w hSw;(try dsimp only at hSw);go_simp;try with_reducible rfl)
 try simp only [gz,Act.put]
 refine nH (bm 12 1) 11 ?_
 refine tH 1 (v:=?_) rfl (λ_ _ _ h=>h) ?_ ?_;rotate_left
 ·(intro w hSw;(try dsimp only at hSw);go_simp;try with_reducible rfl)
 try simp only [gz,Act.put]
 refine nH (bm 12 3) 10 ?_
 refine tH 2 (v:=?_) rfl (λ_ _ _ h=>h) ?_ ?_;rotate_left
 ·(intro w hSw;(try dsimp only at hSw);go_simp;try with_reducible rfl)
 try simp only [gz,Act.put]
 refine nH (bm 12 7) 9 ?_
 refine tH 3 (v:=?_) rfl (λ_ _ _ h=>h) ?_ ?_;rotate_left
 ·(intro w hSw;(try dsimp only at hSw);go_simp;try with_reducible rfl)
 try simp only [gz,Act.put]
 refine nH (bm 12 15) 8 ?_
 refine tH 4 (v:=?_) rfl (λ_ _ _ h=>h) ?_ ?_;rotate_left
 ·(intro w hSw;(try dsimp only at hSw);go_simp;try with_reducible rfl)
 try simp only [gz,Act.put]
 refine nH (bm 12 31) 7 ?_
 refine tH 5 (v:=?_) rfl (λ_ _ _ h=>h) ?_ ?_;rotate_left
 ·(intro w hSw;(try dsimp only at hSw);go_simp;try with_reducible rfl)
 try simp only [gz,Act.put]
 refine nH (bm 12 63) 6 ?_
 refine tH 6 (v:=?_) rfl (λ_ _ _ h=>h) ?_ ?_;rotate_left
 ·(intro w hSw;(try dsimp only at hSw);go_simp;try with_reducible rfl)
 try simp only [gz,Act.put]
 refine nH (bm 12 127) 5 ?_
 refine tH 7 (v:=?_) rfl (λ_ _ _ h=>h) ?_ ?_;rotate_left
 ·(intro w hSw;(try dsimp only at hSw);go_simp;try with_reducible rfl)
 try simp only [gz,Act.put]
 refine nH (bm 12 255) 4 ?_
 refine tH 8 (v:=?_) rfl (λ_ _ _ h=>h) ?_ ?_;rotate_left
 ·(intro w hSw;(try dsimp only at hSw);go_simp;try with_reducible rfl)
 try simp only [gz,Act.put]
 refine nH (bm 12 511) 3 ?_
 refine yH [9] ?_
 refine cH rfl λK hK=>?_
 go_simp
 go_wp2_with (first|(go_at_call 91;refine (HAd.o w1.drew (Below.refl _ _).drew).mono ?_;rintro e w2 ⟨rfl,⟨N2,hd2,hw2⟩,hb2⟩;have HD2:=aa hd2;have HW2:Hid (aH w1 N w2 N2):=(aH.later (Below.refl _ _).drew).trans hw2;have HB2:Hid (ae (Lb G pa c.au) w1 w2):=(ae.of (Below.refl _ _).drew).trans hb2;have HZ9:=aa (HZ1.o.but HW2.o.2 (HN.o _ (by omega)));have HL9:=aa (HZ9.o.lv (rep E) none 0 0);have HS9:=aa (HZ9.o.st (rep E) none 0 0);have HB9:Hid (ae (λk=>k=w.heap.size+1) w2 (w2.setCells (w.heap.size+1) 0 (fK (rep E) none 0 0))):=R.iK (S:=(λk=>k=w.heap.size+1)) rfl _ 0 (ae.refl _ _);have HBc:Hid (ae (λk=>Lb G pa c.au k\/k=w.heap.size+1) w1 (w2.setCells (w.heap.size+1) 0 (fK (rep E) none 0 0))):=(ae.mono (T:=λk=>Lb G pa c.au k\/k=w.heap.size+1) HB2.o (λk hk=>Or.inl hk)).comp HB9.o (λi e=>.inl (.inr e));clear hd2 hb2 hw2))
 refine hK.out _ _ (HSS.o w2 HB2.o) (λhHeld=>?_)
 clear hK K
 try simp only [gz,Act.put]
 refine nH (bm 12 1023) 2 ?_
 refine tH 10 (v:=?_) rfl (λ_ _ _ h=>h) ?_ ?_;rotate_left
 ·(intro w hSw;(try dsimp only at hSw);go_simp;try with_reducible rfl)
 try simp only [gz,Act.put]
 refine nH (bm 12 2047) 1 ?_
 refine yH [11] ?_
 refine cH rfl λK hK=>?_
 rw [if_pos (by kernel_rfl)]
 refine bS 41 (.tmp 4) (.tmp 22) rfl _ _ rfl rfl _ HS9.o ?_
 refine hK.out _ _ (HSt.o _ HBc.o) (λhHeld=>?_)
 clear hK K
 try simp only [gz,Act.put]
 refine nH (bm 12 4095) 0 ?_
 refine wpAnyH_done (by kernel_rfl) ?_ _
 go_wp2
 have hlt:=HZ1.o.lt
 refine bodyPost_ret (v:=dO (rep E) none 0 0) (by simp [results,results65,asAddr,HL9.o]) rfl ⟨rfl,N2,HD2.o.but HB9.o (λk hk e=>HW2.o.out (b:=k) (by omega) (HN.o _ (by omega)) hk) (λe=>by omega),?_⟩
 have h1:=(aH.later (N:=N) (al HB.o HB1.o)).trans HW2.o
 exact⟨h1.1,h1.2.comp HB9.o (λi e=>.inr (by omega))⟩
end
section
variable {w w':World}{H:Hd}{s s':aI}{d d':Nat->List K.Pu}{O:Nat->Nat->Prop}{N:Nat->Prop}{c:R.Cl}{dd gg:R.Sl}{b:Nat}
def Iq (w:World)(lm:Int)(g n:Nat)(K:List Cp)(t a10 a11:Value)(w':World):Prop :=
 ∃(i:Nat) (pa:Option Addr) (cap:Nat),i<=n/\t=.int .i64 (i:Int)/\M.Dm w' w.heap.size g lm pa cap (K.take i)/\Below w.heap.size w w'
theorem uS (h:aF w H s d N)(hm:H.lm<=32/\1<=H.lm)(number:Int)(hlt:∀j∈s.ks,j<number)(h64:-9223372036854775808<=number/\number<9223372036854775808)(hkl:s.ks.length<=32){p:Option Addr}{n cp:Nat}{K:List Cp}(hr:Rd w p n K)(hn:(n:Int)<=H.lm) :
  Calls prog 55 #[.pointer (some ⟨H.kb,0,none⟩),.int .i64 number,.slice p n cp] w λe w'=>e=.returned (.int .i64 0)/\∃N',aF w' H { s with ks:=s.ks++[number],D:=fT s.D number K } d N'/\aH w N w' N':=by
 have k6:=h.kb 6 _ rfl
 have HNew:=aa (M.bE H.lm w hm.2 hm.1)
 have HD:=aa h
 have HM:=aa hm
 have HR:=aa hr
 have HLn:Hid (K.length=n):=hr.len
 have HLt:=aa hlt
 have H64:=aa h64
 have HKl:=aa hkl
 have HNn:=aa hn
 have hn9:n<9223372036854775807:=by omega
 clear h hm hr hlt h64 hkl hn
 go_enter func55,ntmps55
 go_upto_region 3 with (first|(go_at_call 90;refine HNew.o.mono ?_;rintro e w1 ⟨g,rfl,hd1,hb1⟩;have HD1:=aa hd1;have HB1:=aa hb1;clear hd1 hb1 k6))
 go_loopw [23,10,11] (Iq w H.lm g n K) (λt _ _ _=>n - (intOf t).toNat)
 case atStart=>exact⟨0,none,0,by omega,rfl,by simpa using HD1.o,HB1.o⟩
 case round =>
  obtain⟨i,pa,cap,hi,rfl,hdm,hB⟩:=hrel
  have ei:IntKind.i64.wrap ((i:Int)+1)=(i:Int)+1:=by rw [IntKind.wrap_i64];omega
  have HB:=aa hB
  have HDm:=aa hdm
  clear hdm hB
  by_cases hlt:i<n
  ·have hd:decide ((i:Int)<(n:Int))=true:=dT (by omega)
   have hl:=HLn.o
   obtain⟨x,hx⟩:∃x,K[i]?=some x:=⟨_,gE (by omega)⟩
   obtain⟨b,q,rfl,hat⟩:=(HR.o.later HB.o).at_ (by omega)
   obtain⟨x0,x1,x2⟩:=hat i x hx
   have HT:Hid (K.take (i+1)=K.take i++[x]):=by unfold Hid;rw [List.take_add_one,hx];rfl
   have HLi:Hid ((K.take i).length=i):=by unfold Hid;rw [List.length_take];omega
   clear hat hx hl
   obtain⟨xo,xh,xl⟩:=x
   simp only at x0 x1 x2
   obtain⟨w2,hw2⟩:∃w2,w2=wr.alloc (Obj.cells #[.int .i64 xo,.int .u64 (xh:Int),.int .u64 (xl:Int)] 38):=⟨_,rfl⟩
   have hB2:Below wr.heap.size wr w2:=by rw [hw2];exact ab _ _
   have y0:w2.cell? ⟨wr.heap.size,0,none⟩=some (.int .i64 xo):=by rw [hw2];simp [go_sem]
   have y1:w2.cell? ⟨wr.heap.size,1,none⟩=some (.int .u64 (xh:Int)):=by rw [hw2];simp [go_sem]
   have y2:w2.cell? ⟨wr.heap.size,2,none⟩=some (.int .u64 (xl:Int)):=by rw [hw2];simp [go_sem]
   have HAd:=aa (M.qK (HDm.o.later hB2) (xo,xh,xl) (by rw [HLi.o];have:=HNn.o;omega) HM.o.1)
   have HB2:=aa (al HB.o hB2)
   have HDg:=aa (HDm.o.later hB2)
   clear hB2
   go_upto_region 5 with fail
   rw [<-hw2]
   clear hw2 x0 x1 x2
   go_wp2_with (first|(go_at_call 91;refine HAd.o.mono ?_;rintro e w3 ⟨pb,cb,rfl,hd3,hw3⟩;have HD3:=aa hd3;have HW3:=aa hw3;clear hd3 hw3 y0 y1 y2))
   refine⟨⟨i+1,pb,cb,by omega,by go_num,by rw [HT.o];exact HD3.o,HW3.o.below HDg.o HB2.o⟩,by simp [intOf];omega⟩
  ·obtain rfl:i=n:=by omega
   have hd:decide ((i:Int)<(i:Int))=false:=by simp
   have HK:Hid (K.take i=K):=by unfold Hid;rw [List.take_of_length_le (by have:=HLn.o;omega)]
   rw [HK.o] at HDm
   obtain⟨O,hL⟩:=HD.o
   obtain⟨G,pq,cq,cY,hli,hm5⟩:=hL.part 5
   have hmr:=S.bd (S:=λ_=>False) (ae.of HB.o) hli.map (λh=>h)
   obtain⟨w3,hrun,hm3,htn⟩:=hmr.store S.tY underlying85 (by have:=HKl.o;unfold maxLen;omega) (key:=.int .i64 number) (kl:=.int .i64 number) (S.sR H64.o) (val:=.pointer (some ⟨g,0,none⟩)) (d:=.held (.pointer (some ⟨g,0,none⟩))) (ps:=[]) rfl
   have hb3:=S.fC htn
   rw [zX _ _ _ _ HLt.o] at hm3
   have k15:=(HD.o.later HB.o).kb 15 _ rfl
   have hglt:=hli.map.lt
   have HFin:Hid (∃N',aF w3 H { s with ks:=s.ks++[number],D:=fT s.D number K } d N'/\aH w N w3 N'):=by
    have hlo:=HDm.o.lo
    have hbl:=λk hk=>(HDm.o.own.bD k hk).1
    exact hL.arm hli hm5 HLt.o ((HDm.o.but hb3 (λe=>by have e2:g=H.lg:=e;omega) (λk hk e=>by have e2:k=H.lg:=e;have:=hbl k hk;omega)).mono hL.b0.2) ⟨hlo,hbl⟩ ((ae.of HB.o).trans hb3) hm3
   clear hL hli hm5 hm3 htn hb3 hglt hmr
   go_wp2
   go_ret
   exact⟨rfl,HFin.o⟩
end
section
variable {w w':World}{H:Hd}{s s':aI}{d d':Nat->List K.Pu}{O:Nat->Nat->Prop}{N:Nat->Prop}{c:R.Cl}{dd gg:R.Sl}{b:Nat}
theorem xS (h:aF w H s d N)(hi:P.Iv H.pm s.px s.P)(number:Int)(h64:-9223372036854775808<=number/\number<9223372036854775808) :
  Calls prog 79 #[.pointer (some ⟨H.kb,0,none⟩),.int .i64 number] w λe w'=>e=.returned (.tuple #[])/\aF w' H { s with P:=P.out s.P number,ks:=P.out s.ks number } d N/\ae N w w':=by
 have k14:=h.kb 14 _ rfl
 have HX:=aa (Iz h hi number)
 have H64:=aa h64
 clear h h64
 go_enter func79,ntmps79
 go_upto_region 1 with (first|(go_at_call 129;refine HX.o.mono ?_;rintro e w1 ⟨rfl,hd1,hb1⟩;have HD1:=aa hd1;have HB1:=aa hb1;clear hd1 hb1 k14))
 have k15:=HD1.o.kb 15 _ rfl
 obtain⟨O,hL⟩:=HD1.o
 obtain⟨G,pq,cq,cY,hli,hm5⟩:=hL.part 5
 obtain⟨w2,hdel,hm2,htn⟩:=hli.map.drop S.tY underlying85 (key:=.int .i64 number) (kl:=.int .i64 number) (S.sR H64.o) 0
 have hb2:=S.fC htn
 rw [yC] at hm2
 have HFin:=aa (hL.gone hli hm5 number hb2 hm2)
 clear hL hli hm5 hm2 htn hb2
 go_wp2
 go_end0
 exact⟨rfl,HFin.o.1,HB1.o.trans HFin.o.2⟩
theorem mD (h:aF w H s d N)(hf:KF H.p s)(hby:c.au∈s.P) :
  Calls prog 68 #[.pointer (some ⟨H.kb,0,none⟩),.agg (R.cC c dd gg).toArray] w λe w'=>e=.returned (dO (rep 0) none 0 0)/\aF w' H (EN s c.au).2 d N/\ae N w w':=by
 obtain⟨W,hW⟩:∃W,W=(w.alloc (Obj.cells (R.cC c dd gg).toArray 45)).alloc z6:=⟨_,rfl⟩
 have hB:Below w.heap.size w W:=by rw [hW];exact aw _ _ _
 have hX:R.Bx W w.heap.size (R.cC c dd gg):=by rw [hW];exact R.Bx.later (ab _ _) (R.Bx.new w (R.cC c dd gg) 45)
 have hZ:Zr W (w.heap.size+1):=by rw [hW];have:=Zr.new (w.alloc (Obj.cells (R.cC c dd gg).toArray 45));simpa using this
 have h2:=h.later hB
 have HC:=aa (xS h2 hf.iv c.au (hf.pF hby))
 have x1:=(Cb.of hX).c1
 unfold EN
 have HW:=aa hW
 have HB:=aa hB
 have HX:=aa hX
 have HZ:=aa hZ
 have HD:=aa h2
 have HP:Hid (0<w.heap.size):=by have:=h.b0;unfold Hid;omega
 have HN:=aa (λk hk=>h.new (k:=k) hk)
 clear h h2 hB hX hZ hW hf hby
 go_enter func68,ntmps68
 go_upto_region 1 with fail
 rw [<-HW.o]
 go_upto_region 2 with (first|(go_at_call 79;refine HC.o.mono ?_;rintro e w1 ⟨rfl,hd1,hb1⟩;have HD1:=aa hd1;have HB1:=aa hb1;clear hd1 hb1))
 have HZ9:=aa (HZ.o.but HB1.o (HN.o _ (by omega)))
 have HS9:=aa (HZ9.o.st (rep 0) none 0 0)
 have HL9:=aa (HZ9.o.lv (rep 0) none 0 0)
 have HB9:Hid (ae (·=w.heap.size+1) w1 (w1.setCells (w.heap.size+1) 0 (fK (rep 0) none 0 0))):=R.iK (S:=(·=w.heap.size+1)) rfl _ 0 (ae.refl _ _)
 go_wp2_with (first|((with_reducible refine aY HS9.o ?_ ?_ ?_);(· rfl);(· rfl)))
 exact bodyPost_ret (v:=dO (rep 0) none 0 0) (by simp [results,results68,asAddr,HL9.o]) rfl ⟨rfl,HD1.o.but HB9.o (λk hk e=>HN.o k (by omega) hk) (λe=>by have:0=w.heap.size+1:=e;omega),((ae.of HB.o).trans HB1.o).comp HB9.o (λi e=>.inr (by omega))⟩
theorem J1 (h:aF w H s d N)(hf:KF H.p s){i:Int}(hi:i∈s.P){G:Int->Nat}{pa:Int->Option Addr}{cap:Int->Nat}{cY:Nat->Int}{O:Nat->Nat->Prop}(hL:Lay w H s d O N)(hl:Li w H s.ks s.D G pa cap cY)(hm:∀k,CI s.ks G pa H.lg k->O 5 k)(x:Int) :
  Calls prog 114 #[.pointer (some ⟨G i,0,none⟩),.int .i64 x] w λe w'=>∃cp:Cp,e=.returned (.tuple #[.agg #[.int .i64 cp.1,.int .u64 (cp.2.1:Int),.int .u64 (cp.2.2:Int)],.int .i64 (fV s i x).1.code])/\(∃N',aF w' H (fV s i x).2 d N'/\aH w N w' N')/\ae (Lb G pa i) w w':=by
 have hk:i∈s.ks:=by rw [hf.ks];exact hi
 unfold fV
 by_cases hq:M.jB (s.D i) x=false
 ·simp only [if_pos hq]
  refine (M.C7 (hl.each i hk) x hq).mono ?_
  rintro e w' ⟨rfl,hb⟩
  exact⟨(0,0,0),rfl,⟨N,h.later hb,aH.later hb⟩,ae.of hb⟩
 ·simp only [if_neg hq]
  have h1:=M.kY.1 (by simpa using hq:M.jB (s.D i) x=true)
  obtain⟨k,rfl⟩:=Int.eq_ofNat_of_zero_le h1.1
  have hlt:k<(s.D i).length:=by omega
  refine (M.GF (hl.each i hk) k (s.D i)[k] (gE hlt) (hf.dQ hi)).mono ?_
  rintro e w' ⟨rfl,hd,hw⟩
  exact⟨(s.D i)[k],rfl,hL.list hl hm hk hd hw,hw.but⟩
theorem sy (h:aF w H s d N)(hf:KF H.p s)(hby:c.au∈s.P) :
  Calls prog 66 #[.pointer (some ⟨H.kb,0,none⟩),.agg (R.cC c dd gg).toArray] w λe w'=>e=.returned (dO (rep (fV s c.au c.index).1.code) none 0 0)/\∃N',aF w' H (fV s c.au c.index).2 d N'/\aH w N w' N':=by
 obtain⟨W,hW⟩:∃W,W=(w.alloc (Obj.cells (R.cC c dd gg).toArray 45)).alloc z6:=⟨_,rfl⟩
 have hB:Below w.heap.size w W:=by rw [hW];exact aw _ _ _
 have hX:R.Bx W w.heap.size (R.cC c dd gg):=by rw [hW];exact R.Bx.later (ab _ _) (R.Bx.new w (R.cC c dd gg) 45)
 have hZ:Zr W (w.heap.size+1):=by rw [hW];have:=Zr.new (w.alloc (Obj.cells (R.cC c dd gg).toArray 45));simpa using this
 have h2:=h.later hB
 obtain⟨O,hL⟩:=id h2
 obtain⟨G,pa,cap,cY,hl,hm⟩:=hL.part 5
 have hks:c.au∈s.ks:=by rw [hf.ks];exact hby
 have HNb:Hid (∀k,Lb G pa c.au k->N k):=λk hk=>hL.sub 5 k (hm k (.inr ⟨_,hks,hk⟩))
 have HS:Hid (∀U,ae (Lb G pa c.au) W U->U.cell? ⟨H.kb,15,none⟩=some (.map (some H.lg))/\U.cell? ⟨w.heap.size,1,none⟩=some (.int .i64 c.au)/\U.cell? ⟨w.heap.size,11,none⟩=some (.int .i64 c.index)/\(Instr.lookup 85 (.map (some H.lg)) (.int .i64 c.au) false).run prog U=.ok (.pointer (some ⟨G c.au,0,none⟩)) U):=λU hb=>by
  have hx:=Cb.of (R.Bx.but hb hX (λe=>h.new (Nat.le_refl _) (HNb.o _ e)))
  exact⟨aC hb (h2.kb 15 _ rfl) (λe=>absurd (hL.ap 7 5 _ (hL.part 7).2 (hm _ (.inr ⟨_,hks,e⟩))) (by decide)),hx.c1,hx.JB,hl.lu hb (λe=>(hl.cY _ hks _ e).2 rfl) hks (hf.pF hby)⟩
 have H0:=aa (λU (hU:ae (λ_=>False) W U)=>HS.o U (hU.mono (λ_ h=>h.elim)))
 have HRm:=aa (λ(U:World) (hU:Below W.heap.size W U)=>J1 (h2.later hU) hf hby (hL.AP hU) (hl.but (ae.of (S:=λ_=>False) hU) (λ_ _ h=>h)) hm c.index)
 obtain⟨A,hA⟩:∃A,A=fV s c.au c.index:=⟨_,rfl⟩
 rw [<-hA] at HRm ⊢
 have HW:=aa hW
 have HB:=aa hB
 have HX:=aa hX
 have HZ:=aa hZ
 have HD:=aa h2
 have HP:Hid (0<w.heap.size):=by have:=h.b0;unfold Hid;omega
 have HN:=aa (λk hk=>h.new (k:=k) hk)
 clear h h2 hB hX hZ hW hf hby hL hl hm hks hA
 go_enter func66,ntmps66
 go_upto_region 1 with fail
 rw [<-HW.o]
 go_cut [5,6] (λ_ s6 U=>s6=.int .i64 A.1.code/\Hid (∃u b,(∃N2,aF u H A.2 d N2/\aH W N u N2/\¬N2 b)/\W.heap.size<=b/\ae (λk=>k=b) u U))
 case first =>
  go_region_held3 (λU=>U.cell? ⟨H.kb,15,none⟩=some (.map (some H.lg))/\U.cell? ⟨w.heap.size,1,none⟩=some (.int .i64 c.au)/\U.cell? ⟨w.heap.size,11,none⟩=some (.int .i64 c.index)/\(Instr.lookup 85 (.map (some H.lg)) (.int .i64 c.au) false).run prog U=.ok (.pointer (some ⟨G c.au,0,none⟩)) U) (first|exact H0.o _ (ae.of (Below.refl _ _).drew)|exact H0.o _ (ae.of (ab _ _).drew)|exact H0.o _ (ae.of (ab _ _))|exact HE.o _ (ae.refl _ _)|exact HE.o _ (ae.of (ab _ _))|exact HE.o _ (L.bP (S:=λk=>k=W.heap.size) (b:=W.heap.size) (ae.refl _ u_) rfl _)) (first
   | (go_at_call 114;(with_reducible refine (HRm.o (W.alloc (Obj.cells #[.int .i64 0,.int .u64 0,.int .u64 0] 38)).drew (ab _ _).drew).mono ?_);rintro e u_ ⟨cp_,rfl,⟨N2,hd_,hw_⟩,hb_⟩;have HPs:Hid (∃N2,aF u_ H A.2 d N2/\aH W N u_ N2/\¬N2 W.heap.size):=⟨N2,hd_,(aH.later (ab W (Obj.cells #[.int .i64 0,.int .u64 0,.int .u64 0] 38)).drew).trans hw_,λe=>(hw_.1 _ e).elim (HN.o _ HB.o.size) (λh=>absurd h (by show ¬(W.alloc (Obj.cells #[.int .i64 0,.int .u64 0,.int .u64 0] 38)).heap.size<=W.heap.size;simp))⟩;have HBt:Hid (ae (Lb G pa c.au) W u_):=(ae.of (S:=(Lb G pa c.au)) (ab W (Obj.cells #[.int .i64 0,.int .u64 0,.int .u64 0] 38)).drew).trans hb_;have hzc:=(Zb.G6 W).but (show ae (Lb G pa c.au) (W.alloc (Obj.cells #[.int .i64 0,.int .u64 0,.int .u64 0] 38)).drew u_ from hb_) (λe=>HN.o _ HB.o.size (HNb.o _ e));have HE:=aa (λU (hU:ae (λk=>k=W.heap.size) u_ U)=>HS.o U (HBt.o.comp hU (λi e=>.inr (by omega))));obtain⟨⟨z0,f0⟩,⟨z1,f1⟩,⟨z2,f2⟩⟩:=hzc;clear hb_ hd_ hw_)
   | (go_at_call 114;(with_reducible refine (HRm.o W.drew (Below.refl _ _).drew).mono ?_);rintro e u_ ⟨cp_,rfl,⟨N2,hd_,hw_⟩,hb_⟩;have HPs:Hid (∃N2,aF u_ H A.2 d N2/\aH W N u_ N2/\¬N2 u_.heap.size):=⟨N2,hd_,(aH.later (Below.refl W.heap.size W).drew).trans hw_,hd_.new (Nat.le_refl _)⟩;have HBt:Hid (ae (Lb G pa c.au) W u_):=(ae.of (S:=(Lb G pa c.au)) (Below.refl W.heap.size W).drew).trans hb_;have HE:=aa (λU (hU:ae (λk=>k=u_.heap.size) u_ U)=>HS.o U (HBt.o.comp hU (λi e=>.inr (by have:=HBt.o.size;omega))));clear hb_ hd_ hw_))
  all_goals (try go_wp2)
  all_goals go_meet
  all_goals (first|exact⟨rfl,u_,W.heap.size,HPs.o,Nat.le_refl _,L.bP (S:=λk=>k=W.heap.size) (b:=W.heap.size) (ae.refl _ u_) rfl cp_⟩|exact⟨rfl,u_,u_.heap.size,HPs.o,HBt.o.size,ae.of (ab _ _)⟩)
 case rest =>
 rename World=>v
 obtain⟨rfl,HR⟩:=hcut
 obtain⟨u,b,⟨N2,hd3,hw3,hnb⟩,hlo,hv⟩:=HR.o
 have hsz:=HB.o.size
 have hz:=HZ.o.lt
 have HDv:=aa (hd3.but hv (λk hk e=>hnb (e ▸ hk)) (λe=>by have:=HP.o;omega))
 have HWv:Hid (aH W N v N2):=⟨hw3.1,hw3.2.comp hv (λi e=>.inr (by omega))⟩
 have HZv:=aa (HZ.o.but HWv.o.2 (HN.o _ (by omega)))
 have HNz:Hid (¬N2 (w.heap.size+1)):=hw3.out (by omega) (HN.o _ (by omega))
 clear hlo hd3 hw3 hv hsz HR hnb hz
 have HZ9:=aa (HZv.o)
 have HS9:=aa (HZ9.o.st (rep A.1.code) none 0 0)
 have HL9:=aa (HZ9.o.lv (rep A.1.code) none 0 0)
 have HB9:Hid (ae (·=w.heap.size+1) (v) ((v).setCells (w.heap.size+1) 0 (fK (rep A.1.code) none 0 0))):=R.iK (S:=(·=w.heap.size+1)) rfl _ 0 (ae.refl _ _)
 go_wp2_with (first|((with_reducible refine aY HS9.o ?_ ?_ ?_);(· rfl);(· rfl)))
 refine bodyPost_ret (v:=dO (rep A.1.code) none 0 0) (by simp [results,results66,asAddr,HL9.o]) rfl ⟨rfl,N2,HDv.o.but HB9.o (λk hk e=>HNz.o (e ▸ hk)) (λe=>by have:0=w.heap.size+1:=e;omega),?_⟩
 have h1:=(aH.later (N:=N) HB.o).trans HWv.o
 exact⟨h1.1,h1.2.comp HB9.o (λi e=>.inr (by omega))⟩
theorem AY (h:aF w H s d N)(hf:KF H.p s)(hby:c.au∈s.P)(hG:Row w gg.a gg.n gg.c (ints c.an))(hgn:gg.n<=255)(hv:M.bt H.lm (s.D c.au) c.an≠0) :
  Calls prog 67 #[.pointer (some ⟨H.kb,0,none⟩),.agg (R.cC c dd gg).toArray] w λe w'=>e=.returned (dO (rep (M.bt H.lm (s.D c.au) c.an)) none 0 0)/\Below w.heap.size w w':=by
 obtain⟨W,hW⟩:∃W,W=(w.alloc (Obj.cells (R.cC c dd gg).toArray 45)).alloc z6:=⟨_,rfl⟩
 have hB:Below w.heap.size w W:=by rw [hW];exact aw _ _ _
 have hX:R.Bx W w.heap.size (R.cC c dd gg):=by rw [hW];exact R.Bx.later (ab _ _) (R.Bx.new w (R.cC c dd gg) 45)
 have hZ:Zr W (w.heap.size+1):=by rw [hW];have:=Zr.new (w.alloc (Obj.cells (R.cC c dd gg).toArray 45));simpa using this
 have h2:=h.later hB
 obtain⟨O,hL⟩:=id h2
 obtain⟨G,pa,cap,cY,hl,hm⟩:=hL.part 5
 have hks:c.au∈s.ks:=by rw [hf.ks];exact hby
 have HS:Hid (∀U,ae (λ_=>False) W U->U.cell? ⟨H.kb,15,none⟩=some (.map (some H.lg))/\U.cell? ⟨w.heap.size,1,none⟩=some (.int .i64 c.au)/\U.cell? ⟨w.heap.size,12,none⟩=some (gg.v)/\(Instr.lookup 85 (.map (some H.lg)) (.int .i64 c.au) false).run prog U=.ok (.pointer (some ⟨G c.au,0,none⟩)) U):=λU hb=>by
  have hx:=Cb.of (R.Bx.but hb hX (λe=>e))
  exact⟨aC hb (h2.kb 15 _ rfl) (λe=>e),hx.c1,hx.ID,hl.lu hb (λe=>e) hks (hf.pF hby)⟩
 have HPk:=aa (λ(U:World) (hU:Below W.heap.size W U)=>M.mS ((hl.each _ hks).later hU) (Row.later hU (Row.later hB hG)) (by omega) (hf.dQ hby) hf.lm.2)
 have HF:=aa hf
 obtain⟨m,hmq⟩:∃m,m=M.bt H.lm (s.D c.au) c.an:=⟨_,rfl⟩
 obtain⟨Kl,hKl⟩:∃Kl,Kl=M.cu H.lm (s.D c.au) c.an:=⟨_,rfl⟩
 rw [<-hmq,<-hKl] at HPk
 rw [<-hmq] at hv ⊢
 have hq:(m != 0)=true:=by simpa using hv
 have HW:=aa hW
 have HB:=aa hB
 have HX:=aa hX
 have HZ:=aa hZ
 have HD:=aa h2
 have HP:Hid (0<w.heap.size):=by have:=h.b0;unfold Hid;omega
 have HN:=aa (λk hk=>h.new (k:=k) hk)
 clear h h2 hB hX hZ hW hf hby hL hl hm hks hG hv hmq hKl
 go_enter func67,ntmps67
 go_upto_region 1 with fail
 rw [<-HW.o]
 go_region_held3 (λU=>U.cell? ⟨H.kb,15,none⟩=some (.map (some H.lg))/\U.cell? ⟨w.heap.size,1,none⟩=some (.int .i64 c.au)/\U.cell? ⟨w.heap.size,12,none⟩=some (gg.v)/\(Instr.lookup 85 (.map (some H.lg)) (.int .i64 c.au) false).run prog U=.ok (.pointer (some ⟨G c.au,0,none⟩)) U) (first|exact HS.o _ (ae.of (Below.refl _ _).drew)|exact HE.o) (first
   | (go_at_call 115;(with_reducible refine (HPk.o W.drew (Below.refl _ _).drew).mono ?_);rintro e w1 ⟨p1,c1,rfl,hO1,hb1⟩;have HB1:Hid (Below W.heap.size W w1):=al (Below.refl _ _).drew hb1;have HE:=aa (HS.o w1 (ae.of HB1.o));have HO1:=aa hO1;clear hO1 hb1))
 have HZ1:=aa (HZ.o.later HB1.o)
 have HR:=aa (ba m w1)
 go_upto_region 3 with fail
 go_upto_region 4 with (first|(go_at_call 31;refine HR.o.mono ?_;rintro e w2 ⟨rfl,hb2⟩;have HB2:=aa hb2;have HZ9:=aa (HZ1.o.later HB2.o);have HS9:=aa (HZ9.o.st (rep m) none 0 0);have HL9:=aa (HZ9.o.lv (rep m) none 0 0);clear hb2)|((with_reducible refine aY HS9.o ?_ ?_ ?_);(· rfl);(· rfl)))
 have HB9:Hid (ae (·=w.heap.size+1) w2 (w2.setCells (w.heap.size+1) 0 (fK (rep m) none 0 0))):=R.iK (S:=(·=w.heap.size+1)) rfl _ 0 (ae.refl _ _)
 exact bodyPost_ret (v:=dO (rep m) none 0 0) (by simp [results,results67,asAddr,HL9.o]) rfl ⟨rfl,ae.below (al HB.o (al HB1.o HB2.o)) HB9.o (λk e=>by omega)⟩
theorem iA (h:aF w H s d N)(hf:KF H.p s)(hby:c.au∈s.P)(hG:Row w gg.a gg.n gg.c (ints c.an))(hgn:gg.n<=255)(hv:M.bt H.lm (s.D c.au) c.an=0)(hp:P.dy H.pm s.px s.P=true) :
  Calls prog 67 #[.pointer (some ⟨H.kb,0,none⟩),.agg (R.cC c dd gg).toArray] w λe w'=>e=.returned (dO (rep 13) none 0 0)/\∃N',aF w' H s d N'/\aH w N w' N':=by
 obtain⟨W,hW⟩:∃W,W=(w.alloc (Obj.cells (R.cC c dd gg).toArray 45)).alloc z6:=⟨_,rfl⟩
 have hB:Below w.heap.size w W:=by rw [hW];exact aw _ _ _
 have hX:R.Bx W w.heap.size (R.cC c dd gg):=by rw [hW];exact R.Bx.later (ab _ _) (R.Bx.new w (R.cC c dd gg) 45)
 have hZ:Zr W (w.heap.size+1):=by rw [hW];have:=Zr.new (w.alloc (Obj.cells (R.cC c dd gg).toArray 45));simpa using this
 have h2:=h.later hB
 obtain⟨O,hL⟩:=id h2
 obtain⟨G,pa,cap,cY,hl,hm⟩:=hL.part 5
 have hks:c.au∈s.ks:=by rw [hf.ks];exact hby
 have HS:Hid (∀U,ae (λ_=>False) W U->U.cell? ⟨H.kb,15,none⟩=some (.map (some H.lg))/\U.cell? ⟨w.heap.size,1,none⟩=some (.int .i64 c.au)/\U.cell? ⟨w.heap.size,12,none⟩=some (gg.v)/\(Instr.lookup 85 (.map (some H.lg)) (.int .i64 c.au) false).run prog U=.ok (.pointer (some ⟨G c.au,0,none⟩)) U):=λU hb=>by
  have hx:=Cb.of (R.Bx.but hb hX (λe=>e))
  exact⟨aC hb (h2.kb 15 _ rfl) (λe=>e),hx.c1,hx.ID,hl.lu hb (λe=>e) hks (hf.pF hby)⟩
 have HPk:=aa (λ(U:World) (hU:Below W.heap.size W U)=>M.mS ((hl.each _ hks).later hU) (Row.later hU (Row.later hB hG)) (by omega) (hf.dQ hby) hf.lm.2)
 have HF:=aa hf
 obtain⟨Kl,hKl⟩:∃Kl,Kl=M.cu H.lm (s.D c.au) c.an:=⟨_,rfl⟩
 rw [hv,<-hKl] at HPk
 have HFl:=aa hp
 have HW:=aa hW
 have HB:=aa hB
 have HX:=aa hX
 have HZ:=aa hZ
 have HD:=aa h2
 have HP:Hid (0<w.heap.size):=by have:=h.b0;unfold Hid;omega
 have HN:=aa (λk hk=>h.new (k:=k) hk)
 clear h h2 hB hX hZ hW hf hby hL hl hm hks hG hv hp hKl
 go_enter func67,ntmps67
 go_upto_region 1 with fail
 rw [<-HW.o]
 go_region_held3 (λU=>U.cell? ⟨H.kb,15,none⟩=some (.map (some H.lg))/\U.cell? ⟨w.heap.size,1,none⟩=some (.int .i64 c.au)/\U.cell? ⟨w.heap.size,12,none⟩=some (gg.v)/\(Instr.lookup 85 (.map (some H.lg)) (.int .i64 c.au) false).run prog U=.ok (.pointer (some ⟨G c.au,0,none⟩)) U) (first|exact HS.o _ (ae.of (Below.refl _ _).drew)|exact HE.o) (first
   | (go_at_call 115;(with_reducible refine (HPk.o W.drew (Below.refl _ _).drew).mono ?_);rintro e w1 ⟨p1,c1,rfl,hO1,hb1⟩;have HB1:Hid (Below W.heap.size W w1):=al (Below.refl _ _).drew hb1;have HE:=aa (HS.o w1 (ae.of HB1.o));have HO1:=aa hO1;clear hO1 hb1))
 have HSp:=aa (CD (HD.o.later HB1.o) HF.o.iv)
 have k14:=(HD.o.later HB1.o).kb 14 _ rfl
 have e1:P.GS H.pm s.px s.P=0:=by unfold P.GS;rw [if_pos HFl.o]
 have e2:P.GV H.pm s.px s.P=13:=by unfold P.GV;rw [if_pos HFl.o]
 have e3:P.As H.pm s.px s.P=s.px:=by unfold P.As;rw [if_pos HFl.o]
 have e4:P.yN H.pm s.px s.P=s.P:=by unfold P.yN;rw [if_pos HFl.o]
 rw [e1,e2,e3,e4] at HSp
 clear e1 e2 e3 e4
 go_upto_region 5 with (first|(go_at_call 116;refine HSp.o.mono ?_;rintro e w3 ⟨rfl,N2,hd3,hw3⟩;have HD3:=aa hd3;have HW3:Hid (aH W N w3 N2):=(aH.later HB1.o).trans hw3;clear hd3 hw3 k14))
 have HZ1:=aa (HZ.o.but HW3.o.2 (HN.o _ (by omega)))
 have HNz:Hid (¬N2 (w.heap.size+1)):=HW3.o.out HZ.o.lt (HN.o _ (by omega))
 have HR:=aa (ba 13 w3)
 go_upto_region 6 with fail
 go_upto_region 7 with (first|(go_at_call 31;refine HR.o.mono ?_;rintro e w2 ⟨rfl,hb2⟩;have HB2:=aa hb2;have HZ9:=aa (HZ1.o.later HB2.o);have HS9:=aa (HZ9.o.st (rep 13) none 0 0);have HL9:=aa (HZ9.o.lv (rep 13) none 0 0);clear hb2)|((with_reducible refine aY HS9.o ?_ ?_ ?_);(· rfl);(· rfl)))
 have HB9:Hid (ae (·=w.heap.size+1) w2 (w2.setCells (w.heap.size+1) 0 (fK (rep 13) none 0 0))):=R.iK (S:=(·=w.heap.size+1)) rfl _ 0 (ae.refl _ _)
 exact bodyPost_ret (v:=dO (rep 13) none 0 0) (by simp [results,results67,asAddr,HL9.o]) rfl ⟨rfl,N2,(HD3.o.later HB2.o).but HB9.o (λk hk e=>HNz.o (e ▸ hk)) (λe=>by have:0=w.heap.size+1:=e;omega),(aH.trans (aH.later (N:=N) HB.o) ((HW3.o).trans (aH.later HB2.o))).1,((aH.trans (aH.later (N:=N) HB.o) ((HW3.o).trans (aH.later HB2.o))).2).comp HB9.o (λi e=>.inr (by omega))⟩
theorem Ay (h:aF w H s d N)(hf:KF H.p s)(hby:c.au∈s.P)(hG:Row w gg.a gg.n gg.c (ints c.an))(hgn:gg.n<=255)(hv:M.bt H.lm (s.D c.au) c.an=0)(hp:P.dy H.pm s.px s.P=false) :
  Calls prog 67 #[.pointer (some ⟨H.kb,0,none⟩),.agg (R.cC c dd gg).toArray] w λe w'=>e=.returned (dO ⟨0,(0,0,0),[],s.px⟩ none 0 0)/\∃N',aF w' H { s with px:=s.px+1,P:=s.P++[s.px],ks:=s.ks++[s.px],D:=fT s.D s.px (M.cu H.lm (s.D c.au) c.an) } d N'/\aH w N w' N':=by
 obtain⟨W,hW⟩:∃W,W=(w.alloc (Obj.cells (R.cC c dd gg).toArray 45)).alloc z6:=⟨_,rfl⟩
 have hB:Below w.heap.size w W:=by rw [hW];exact aw _ _ _
 have hX:R.Bx W w.heap.size (R.cC c dd gg):=by rw [hW];exact R.Bx.later (ab _ _) (R.Bx.new w (R.cC c dd gg) 45)
 have hZ:Zr W (w.heap.size+1):=by rw [hW];have:=Zr.new (w.alloc (Obj.cells (R.cC c dd gg).toArray 45));simpa using this
 have h2:=h.later hB
 obtain⟨O,hL⟩:=id h2
 obtain⟨G,pa,cap,cY,hl,hm⟩:=hL.part 5
 have hks:c.au∈s.ks:=by rw [hf.ks];exact hby
 have HS:Hid (∀U,ae (λ_=>False) W U->U.cell? ⟨H.kb,15,none⟩=some (.map (some H.lg))/\U.cell? ⟨w.heap.size,1,none⟩=some (.int .i64 c.au)/\U.cell? ⟨w.heap.size,12,none⟩=some (gg.v)/\(Instr.lookup 85 (.map (some H.lg)) (.int .i64 c.au) false).run prog U=.ok (.pointer (some ⟨G c.au,0,none⟩)) U):=λU hb=>by
  have hx:=Cb.of (R.Bx.but hb hX (λe=>e))
  exact⟨aC hb (h2.kb 15 _ rfl) (λe=>e),hx.c1,hx.ID,hl.lu hb (λe=>e) hks (hf.pF hby)⟩
 have HPk:=aa (λ(U:World) (hU:Below W.heap.size W U)=>M.mS ((hl.each _ hks).later hU) (Row.later hU (Row.later hB hG)) (by omega) (hf.dQ hby) hf.lm.2)
 have HF:=aa hf
 obtain⟨Kl,hKl⟩:∃Kl,Kl=M.cu H.lm (s.D c.au) c.an:=⟨_,rfl⟩
 have HKn:Hid ((Kl.length:Int)<=H.lm):=by
  unfold Hid
  rw [hKl]
  unfold M.cu
  rw [if_pos hv,List.length_map]
  unfold M.bt at hv
  by_cases ha:c.an.all (M.jB (s.D c.au))=true
  ·rw [if_pos ha] at hv
   by_cases hb:H.lm<(c.an.length:Int)
   ·rw [if_pos hb] at hv;exact absurd hv (by decide)
   ·omega
  ·rw [if_neg ha] at hv;exact absurd hv (by decide)
 rw [hv,<-hKl] at HPk
 rw [<-hKl]
 have HFl:=aa hp
 have HW:=aa hW
 have HB:=aa hB
 have HX:=aa hX
 have HZ:=aa hZ
 have HD:=aa h2
 have HP:Hid (0<w.heap.size):=by have:=h.b0;unfold Hid;omega
 have HN:=aa (λk hk=>h.new (k:=k) hk)
 clear h h2 hB hX hZ hW hf hby hL hl hm hks hG hv hp hKl
 go_enter func67,ntmps67
 go_upto_region 1 with fail
 rw [<-HW.o]
 go_region_held3 (λU=>U.cell? ⟨H.kb,15,none⟩=some (.map (some H.lg))/\U.cell? ⟨w.heap.size,1,none⟩=some (.int .i64 c.au)/\U.cell? ⟨w.heap.size,12,none⟩=some (gg.v)/\(Instr.lookup 85 (.map (some H.lg)) (.int .i64 c.au) false).run prog U=.ok (.pointer (some ⟨G c.au,0,none⟩)) U) (first|exact HS.o _ (ae.of (Below.refl _ _).drew)|exact HE.o) (first
   | (go_at_call 115;(with_reducible refine (HPk.o W.drew (Below.refl _ _).drew).mono ?_);rintro e w1 ⟨p1,c1,rfl,hO1,hb1⟩;have HB1:Hid (Below W.heap.size W w1):=al (Below.refl _ _).drew hb1;have HE:=aa (HS.o w1 (ae.of HB1.o));have HO1:=aa hO1;clear hO1 hb1))
 have HSp:=aa (CD (HD.o.later HB1.o) HF.o.iv)
 have k14:=(HD.o.later HB1.o).kb 14 _ rfl
 have e0:¬P.dy H.pm s.px s.P=true:=by rw [HFl.o];decide
 have e1:P.GS H.pm s.px s.P=s.px:=by unfold P.GS;rw [if_neg e0]
 have e2:P.GV H.pm s.px s.P=0:=by unfold P.GV;rw [if_neg e0]
 have e3:P.As H.pm s.px s.P=s.px+1:=by unfold P.As;rw [if_neg e0]
 have e4:P.yN H.pm s.px s.P=s.P++[s.px]:=by unfold P.yN;rw [if_neg e0]
 rw [e1,e2,e3,e4] at HSp
 clear e0 e1 e2 e3 e4
 go_upto_region 5 with (first|(go_at_call 116;refine HSp.o.mono ?_;rintro e w3 ⟨rfl,N2,hd3,hw3⟩;have HD3:=aa hd3;have HW3:Hid (aH w1 N w3 N2):=hw3;clear hd3 hw3 k14))
 have HRd:Hid (Rd w3 p1 Kl.length Kl):=(Ow.rd HO1.o rfl).but HW3.o.2 (λk hk e=>HN.o k (by have:=(HO1.o.bD k hk).1;have h3:W.drew.heap.size=W.heap.size:=rfl;have:=HB.o.size;omega) e)
 have HIv:=aa HF.o.iv
 have HAr:=aa (uS HD3.o ⟨HF.o.lm.2,HF.o.lm.1⟩ s.px (λj hj=>by have hj2:j∈s.ks:=hj;rw [HF.o.ks] at hj2;exact HIv.o.hi j hj2) (by have h1:=HIv.o.x1;have h2:=HIv.o.x2;omega) (by show s.ks.length<=32;rw [HF.o.ks];exact HIv.o.dQ) (cp:=c1) HRd.o HKn.o)
 go_upto_region 8 with (first|(go_at_call 55;refine HAr.o.mono ?_;rintro e w4 ⟨rfl,N3,hd4,hw4⟩;have HD4:=aa hd4;have HW4:Hid (aH W N w4 N3):=(aH.later HB1.o).trans (HW3.o.trans hw4);clear hd4 hw4))
 have HZv:=aa (HZ.o.but HW4.o.2 (HN.o _ (by omega)))
 have HNz:Hid (¬N3 (w.heap.size+1)):=HW4.o.out HZ.o.lt (HN.o _ (by omega))
 have HZ9:=aa (HZv.o)
 have HS9:=aa (HZ9.o.st ⟨0,(0,0,0),[],s.px⟩ none 0 0)
 have HL9:=aa (HZ9.o.lv ⟨0,(0,0,0),[],s.px⟩ none 0 0)
 have HB9:Hid (ae (·=w.heap.size+1) (w4) ((w4).setCells (w.heap.size+1) 0 (fK ⟨0,(0,0,0),[],s.px⟩ none 0 0))):=R.iK (S:=(·=w.heap.size+1)) rfl _ 0 (ae.refl _ _)
 go_wp2_with (first|((with_reducible refine aY HS9.o ?_ ?_ ?_);(· rfl);(· rfl)))
 exact bodyPost_ret (v:=dO ⟨0,(0,0,0),[],s.px⟩ none 0 0) (by simp [results,results67,asAddr,HL9.o]) rfl ⟨rfl,N3,HD4.o.but HB9.o (λk hk e=>HNz.o (e ▸ hk)) (λe=>by have:0=w.heap.size+1:=e;omega),(aH.trans (aH.later (N:=N) HB.o) HW4.o).1,((aH.trans (aH.later (N:=N) HB.o) HW4.o).2).comp HB9.o (λi e=>.inr (by omega))⟩
end
section
variable {w w':World}{H:Hd}{s s':aI}{d d':Nat->List K.Pu}{O:Nat->Nat->Prop}{N:Nat->Prop}{c:R.Cl}{dd gg:R.Sl}{b:Nat}
theorem vX (h:aF w H s d N)(hf:KF H.p s)(hm:S.fF H.z.room H.z.n s.nx s.V c.size≠0) :
  Calls prog 59 #[.pointer (some ⟨H.kb,0,none⟩),.agg (R.cC c dd gg).toArray] w λe w'=>e=.returned (dO (rep (S.fF H.z.room H.z.n s.nx s.V c.size)) none 0 0)/\Below w.heap.size w w':=by
 obtain⟨W,hW⟩:∃W,W=(w.alloc (Obj.cells (R.cC c dd gg).toArray 45)).alloc z6:=⟨_,rfl⟩
 have hB:Below w.heap.size w W:=by rw [hW];exact aw _ _ _
 have hX:R.Bx W w.heap.size (R.cC c dd gg):=by rw [hW];exact R.Bx.later (ab _ _) (R.Bx.new w (R.cC c dd gg) 45)
 have hZ:Zr W (w.heap.size+1):=by rw [hW];have:=Zr.new (w.alloc (Obj.cells (R.cC c dd gg).toArray 45));simpa using this
 have h2:=h.later hB
 have HC:=aa (λ(U:World) (hU:Below W.heap.size W U)=>Ha (h2.later hU) c.size)
 have HS:Hid (∀U {s d},aF U H s d N->ae N W U->U.cell? ⟨H.kb,11,none⟩=some (.pointer (some ⟨H.z.s,0,none⟩))/\U.cell? ⟨w.heap.size,2,none⟩=some (.int .i64 c.size)):=λU s d hd hb=>by
  have:=Cb.of (R.Bx.but hb hX (h.new (Nat.le_refl _)))
  exact⟨hd.kb 11 _ rfl,this.c2⟩
 have H0:=aa (λU (hU:ae (λ_=>False) W U)=>HS.o U (h2.but hU (λ_ _ h=>h) (λh=>h)) (hU.mono (λ_ h=>h.elim)))
 generalize S.fF H.z.room H.z.n s.nx s.V c.size=m at *
 have hq:(m != 0)=true:=by simpa using hm
 have HW:=aa hW
 have HB:=aa hB
 have HX:=aa hX
 have HZ:=aa hZ
 have HD:=aa h2
 have HP:Hid (0<w.heap.size):=by have:=h.b0;unfold Hid;omega
 have HN:=aa (λk hk=>h.new (k:=k) hk)
 clear h h2 hB hX hZ hW hm hf
 go_enter func59,ntmps59
 go_upto_region 1 with fail
 rw [<-HW.o]
 go_region_held3 (λU=>U.cell? ⟨H.kb,11,none⟩=some (.pointer (some ⟨H.z.s,0,none⟩))/\U.cell? ⟨w.heap.size,2,none⟩=some (.int .i64 c.size)) (first|exact H0.o _ (ae.of (Below.refl _ _).drew)|exact HE.o) (first
   | (go_at_call 103;refine (HC.o _ (Below.refl _ _).drew).mono ?_;rintro e w1 ⟨rfl,hb_⟩;have HB1:Hid (Below W.heap.size W w1):=al (Below.refl _ _).drew hb_;have HE:=aa (H0.o w1 (ae.of HB1.o));clear hb_))
 have HR:=aa (ba m w1)
 go_upto_region 3 with fail
 go_upto_region 4 with (first|(go_at_call 31;refine HR.o.mono ?_;rintro e w2 ⟨rfl,hb2⟩;have HB2:Hid (Below W.heap.size W w2):=al HB1.o hb2;have HZ9:=aa (HZ.o.later HB2.o);have HS9:=aa (HZ9.o.st (rep m) none 0 0);have HL9:=aa (HZ9.o.lv (rep m) none 0 0);clear hb2)|((with_reducible refine aY HS9.o ?_ ?_ ?_);(· rfl);(· rfl)))
 have HB9:Hid (ae (·=w.heap.size+1) w2 (w2.setCells (w.heap.size+1) 0 (fK (rep m) none 0 0))):=R.iK (S:=(·=w.heap.size+1)) rfl _ 0 (ae.refl _ _)
 exact bodyPost_ret (v:=dO (rep m) none 0 0) (by simp [results,results59,asAddr,HL9.o]) rfl ⟨rfl,ae.below (al HB.o HB2.o) HB9.o (λk e=>by omega)⟩
theorem tS (h:aF w H s d N)(hf:KF H.p s)(hm:S.fF H.z.room H.z.n s.nx s.V c.size=0)(hr:(D.bg H.p.d s.d s.nx).code≠0) :
  Calls prog 59 #[.pointer (some ⟨H.kb,0,none⟩),.agg (R.cC c dd gg).toArray] w λe w'=>e=.returned (dO (rep (D.bg H.p.d s.d s.nx).code) none 0 0)/\aF w' H (jM s (D.bg H.p.d s.d s.nx).s) d N/\ae N w w':=by
 obtain⟨W,hW⟩:∃W,W=(w.alloc (Obj.cells (R.cC c dd gg).toArray 45)).alloc z6:=⟨_,rfl⟩
 have hB:Below w.heap.size w W:=by rw [hW];exact aw _ _ _
 have hX:R.Bx W w.heap.size (R.cC c dd gg):=by rw [hW];exact R.Bx.later (ab _ _) (R.Bx.new w (R.cC c dd gg) 45)
 have hZ:Zr W (w.heap.size+1):=by rw [hW];have:=Zr.new (w.alloc (Obj.cells (R.cC c dd gg).toArray 45));simpa using this
 have h2:=h.later hB
 have HC:=aa (λ(U:World) (hU:Below W.heap.size W U)=>Ha (h2.later hU) c.size)
 have HS:Hid (∀U {s d},aF U H s d N->ae N W U->U.cell? ⟨H.kb,11,none⟩=some (.pointer (some ⟨H.z.s,0,none⟩))/\U.cell? ⟨w.heap.size,2,none⟩=some (.int .i64 c.size)):=λU s d hd hb=>by
  have:=Cb.of (R.Bx.but hb hX (h.new (Nat.le_refl _)))
  exact⟨hd.kb 11 _ rfl,this.c2⟩
 have H0:=aa (λU (hU:ae (λ_=>False) W U)=>HS.o U (h2.but hU (λ_ _ h=>h) (λh=>h)) (hU.mono (λ_ h=>h.elim)))
 have hq:(S.fF H.z.room H.z.n s.nx s.V c.size != 0)=false:=by simpa using hm
 rw [hm] at HC
 have HF:=aa hf
 have HNX:Hid (S.aW s.nx):=by have:=hf.nx;unfold Hid S.aW;omega
 have HM:=aa hm
 obtain⟨A,hA⟩:∃A,A=D.bg H.p.d s.d s.nx:=⟨_,rfl⟩
 rw [<-hA] at hr ⊢
 have HA:=aa hA
 have HRr:=aa hr
 have HW:=aa hW
 have HB:=aa hB
 have HX:=aa hX
 have HZ:=aa hZ
 have HD:=aa h2
 have HP:Hid (0<w.heap.size):=by have:=h.b0;unfold Hid;omega
 have HN:=aa (λk hk=>h.new (k:=k) hk)
 clear h h2 hB hX hZ hW hm hf hq hA hr
 go_enter func59,ntmps59
 go_upto_region 1 with fail
 rw [<-HW.o]
 go_region_held3 (λU=>U.cell? ⟨H.kb,11,none⟩=some (.pointer (some ⟨H.z.s,0,none⟩))/\U.cell? ⟨w.heap.size,2,none⟩=some (.int .i64 c.size)) (first|exact H0.o _ (ae.of (Below.refl _ _).drew)|exact HE.o) (first
   | (go_at_call 103;refine (HC.o _ (Below.refl _ _).drew).mono ?_;rintro e w1 ⟨rfl,hb_⟩;have HB1:Hid (Below W.heap.size W w1):=al (Below.refl _ _).drew hb_;have HE:=aa (H0.o w1 (ae.of HB1.o));clear hb_))
 have HX1:=aa (R.Bx.later HB1.o HX.o)
 have HD1:=aa (HD.o.later HB1.o)
 have HZ1:=aa (HZ.o.later HB1.o)
 have HS1:Hid (w.heap.size<=w1.heap.size):=Nat.le_trans HB.o.size HB1.o.size
 have HSS:Hid (∀U {s d},aF U H s d N->ae N w1 U->U.cell? ⟨H.kb,10,none⟩=some (.pointer (some ⟨H.g,0,none⟩))/\U.cell? ⟨H.kb,11,none⟩=some (.pointer (some ⟨H.z.s,0,none⟩))/\U.cell? ⟨H.kb,12,none⟩=some (.pointer (some ⟨H.A.g,0,none⟩))/\U.cell? ⟨H.kb,13,none⟩=some (.pointer (some ⟨H.qg,0,none⟩))/\U.cell? ⟨w.heap.size,2,none⟩=some (.int .i64 c.size)):=λU s d hd hb=>by
  have:=Cb.of (R.Bx.but hb HX1.o (HN.o _ (Nat.le_refl _)))
  exact⟨hd.kb 10 _ rfl,hd.kb 11 _ rfl,hd.kb 12 _ rfl,hd.kb 13 _ rfl,this.c2⟩
 have H01:=aa (λU (hU:ae (λ_=>False) w1 U)=>HSS.o U (HD1.o.but hU (λ_ _ h=>h) (λh=>h)) (hU.mono (λ_ h=>h.elim)))
 have HNx:=aa (λ(U:World) (hU:Below w1.heap.size w1 U)=>AK (HD1.o.later hU))
 have HRt:=aa (λ(U:World) (hU:Below w1.heap.size w1 U)=>Fc (HD1.o.later hU) HF.o s.nx (FZ HNX.o))
 rw [<-HA.o] at HRt
 clear HE HC H0
 go_upto_region 4 with fail
 go_cut [6,7] (λs5 s6 U=>∃b,s5=.pointer (some ⟨b,0,none⟩)/\s6=.int .i64 A.code/\Hid (w1.heap.size<=b/\∃u,(aF u H (jM s A.s) d N/\ae N w1 u)/\Bc u U b A.c))
 case first =>
  go_region_held3 (λU=>U.cell? ⟨H.kb,10,none⟩=some (.pointer (some ⟨H.g,0,none⟩))/\U.cell? ⟨H.kb,11,none⟩=some (.pointer (some ⟨H.z.s,0,none⟩))/\U.cell? ⟨H.kb,12,none⟩=some (.pointer (some ⟨H.A.g,0,none⟩))/\U.cell? ⟨H.kb,13,none⟩=some (.pointer (some ⟨H.qg,0,none⟩))/\U.cell? ⟨w.heap.size,2,none⟩=some (.int .i64 c.size)) (first|exact H01.o _ (ae.of (Below.refl _ _).drew)|exact H01.o _ (ae.of (ab _ _).drew)|exact H01.o _ (ae.of (ab _ _))|exact HE.o _ (ae.refl _ _)|exact HE.o _ (ae.of (ab _ _))|exact HE.o _ (L.bP (S:=λk=>k=w1.heap.size) (b:=w1.heap.size) (ae.refl _ u_) rfl _)) (first
   | (go_at_call 38;refine (HNx.o _ (Below.refl _ _).drew).mono ?_;rintro e u9 ⟨rfl,hw9⟩;obtain rfl:=hw9.symm)|(go_at_call 38;refine (HNx.o _ (ab _ _).drew).mono ?_;rintro e u9 ⟨rfl,hw9⟩;obtain rfl:=hw9.symm)|(go_at_call 104;refine (HRt.o _ (ab _ _).drew).mono ?_;rintro e u_ ⟨rfl,hd_,hb_⟩;have HBt:Hid (ae N w1 u_):=(ae.of (S:=N) (ab w1 (Obj.cells #[.int .i64 0,.int .u64 0,.int .u64 0] 38)).drew).trans hb_;have HPs:=aa (And.intro hd_ HBt.o);have hzc:=(Zb.G6 w1).but (show ae N (w1.alloc (Obj.cells #[.int .i64 0,.int .u64 0,.int .u64 0] 38)).drew u_ from hb_) (HN.o _ HS1.o);have HZc:=aa hzc;have HE:=aa (λU (hU:ae (λk=>k=w1.heap.size) u_ U)=>HSS.o U (hd_.but hU (λk hk e=>HN.o k (by have h9:w1.heap.size<=_:=(Nat.le_refl _);have:=HS1.o;omega) hk) (λe=>by have h9:w1.heap.size<=_:=(Nat.le_refl _);have:=HS1.o;have:=HP.o;omega)) (HBt.o.comp hU (λi e=>.inr (by have h9:w1.heap.size<=_:=(Nat.le_refl _);omega))));obtain⟨⟨z0,f0⟩,⟨z1,f1⟩,⟨z2,f2⟩⟩:=hzc;clear hb_)
   | (go_at_call 104;refine (HRt.o _ (Below.refl _ _).drew).mono ?_;rintro e u_ ⟨rfl,hd_,hb_⟩;have HBt:Hid (ae N w1 u_):=(ae.of (S:=N) (Below.refl w1.heap.size w1).drew).trans hb_;have HPs:=aa (And.intro hd_ HBt.o);have HE:=aa (λU (hU:ae (λk=>k=u_.heap.size) u_ U)=>HSS.o U (hd_.but hU (λk hk e=>HN.o k (by have h9:w1.heap.size<=_:=HBt.o.size;have:=HS1.o;omega) hk) (λe=>by have h9:w1.heap.size<=_:=HBt.o.size;have:=HS1.o;have:=HP.o;omega)) (HBt.o.comp hU (λi e=>.inr (by have h9:w1.heap.size<=_:=HBt.o.size;omega))));clear hb_))
  all_goals (try go_wp2)
  all_goals go_meet
  all_goals (first|exact⟨_,rfl,rfl,Nat.le_refl _,u_,HPs.o,Bc.first HZc.o _⟩|exact⟨_,rfl,rfl,HBt.o.size,u_,HPs.o,Bc.nV u_ _⟩)
 case rest =>
 rename World=>v
 obtain⟨b,rfl,rfl,HR⟩:=hcut
 obtain⟨hlo,u,⟨hd3,hb3⟩,hbc⟩:=HR.o
 obtain⟨hv,v0,v1,v2⟩:=hbc
 have hsz:=HS1.o
 have HDv:=aa (hd3.but hv (λk hk e=>HN.o k (by omega) hk) (λe=>by have:=HP.o;omega))
 have HBv:Hid (ae N w1 v):=hb3.comp hv (λi e=>.inr (by omega))
 have HZv:=aa (HZ1.o.but HBv.o (HN.o _ (by omega)))
 have HXv:=aa (R.Bx.but HBv.o HX1.o (HN.o _ (Nat.le_refl _)))
 have HLo:Hid (w1.heap.size<=b):=hlo
 have hvs:=hv.size
 have HBl:Hid (b<v.heap.size):=World.block_lt_of_cell? _ _ v0
 clear hlo hd3 hb3 hv hsz HR hvs
 have hqr:(A.code != 0)=true:=by simpa using HRr.o
 clear v0 v1 v2
 have HR:=aa (ba A.code v)
 go_upto_region 6 with fail
 go_upto_region 7 with (first|(go_at_call 31;refine HR.o.mono ?_;rintro e w2 ⟨rfl,hb2⟩;have HB2:Hid (Below v.heap.size v w2):=hb2;have HZ9:=aa (HZv.o.later HB2.o);have HS9:=aa (HZ9.o.st (rep A.code) none 0 0);have HL9:=aa (HZ9.o.lv (rep A.code) none 0 0);clear hb2)|((with_reducible refine aY HS9.o ?_ ?_ ?_);(· rfl);(· rfl)))
 have HB9:Hid (ae (·=w.heap.size+1) w2 (w2.setCells (w.heap.size+1) 0 (fK (rep A.code) none 0 0))):=R.iK (S:=(·=w.heap.size+1)) rfl _ 0 (ae.refl _ _)
 exact bodyPost_ret (v:=dO (rep A.code) none 0 0) (by simp [results,results59,asAddr,HL9.o]) rfl ⟨rfl,(HDv.o.later HB2.o).but HB9.o (λk hk e=>HN.o k (by omega) hk) (λe=>by have:0=w.heap.size+1:=e;omega),((ae.of (al HB.o HB1.o)).trans (HBv.o.call HB2.o)).comp HB9.o (λi e=>.inr (by omega))⟩
theorem jY (h:aF w H s d N)(hf:KF H.p s)(hm:S.fF H.z.room H.z.n s.nx s.V c.size=0)(hr:(D.bg H.p.d s.d s.nx).code=0) :
  Calls prog 59 #[.pointer (some ⟨H.kb,0,none⟩),.agg (R.cC c dd gg).toArray] w λe w'=>e=.returned (dO ⟨0,(D.bg H.p.d s.d s.nx).c,[],0⟩ none 0 0)/\∃N',aF w' H { jM s (D.bg H.p.d s.d s.nx).s with nx:=s.nx+1,V:=s.V++[(s.nx,List.replicate c.size.toNat 0)] } d N'/\aH w N w' N':=by
 obtain⟨W,hW⟩:∃W,W=(w.alloc (Obj.cells (R.cC c dd gg).toArray 45)).alloc z6:=⟨_,rfl⟩
 have hB:Below w.heap.size w W:=by rw [hW];exact aw _ _ _
 have hX:R.Bx W w.heap.size (R.cC c dd gg):=by rw [hW];exact R.Bx.later (ab _ _) (R.Bx.new w (R.cC c dd gg) 45)
 have hZ:Zr W (w.heap.size+1):=by rw [hW];have:=Zr.new (w.alloc (Obj.cells (R.cC c dd gg).toArray 45));simpa using this
 have h2:=h.later hB
 have HC:=aa (λ(U:World) (hU:Below W.heap.size W U)=>Ha (h2.later hU) c.size)
 have HS:Hid (∀U {s d},aF U H s d N->ae N W U->U.cell? ⟨H.kb,11,none⟩=some (.pointer (some ⟨H.z.s,0,none⟩))/\U.cell? ⟨w.heap.size,2,none⟩=some (.int .i64 c.size)):=λU s d hd hb=>by
  have:=Cb.of (R.Bx.but hb hX (h.new (Nat.le_refl _)))
  exact⟨hd.kb 11 _ rfl,this.c2⟩
 have H0:=aa (λU (hU:ae (λ_=>False) W U)=>HS.o U (h2.but hU (λ_ _ h=>h) (λh=>h)) (hU.mono (λ_ h=>h.elim)))
 have hq:(S.fF H.z.room H.z.n s.nx s.V c.size != 0)=false:=by simpa using hm
 rw [hm] at HC
 have HF:=aa hf
 have HNX:Hid (S.aW s.nx):=by have:=hf.nx;unfold Hid S.aW;omega
 have HM:=aa hm
 obtain⟨A,hA⟩:∃A,A=D.bg H.p.d s.d s.nx:=⟨_,rfl⟩
 rw [<-hA] at hr ⊢
 have HA:=aa hA
 have HRr:=aa hr
 have HW:=aa hW
 have HB:=aa hB
 have HX:=aa hX
 have HZ:=aa hZ
 have HD:=aa h2
 have HP:Hid (0<w.heap.size):=by have:=h.b0;unfold Hid;omega
 have HN:=aa (λk hk=>h.new (k:=k) hk)
 clear h h2 hB hX hZ hW hm hf hq hA hr
 go_enter func59,ntmps59
 go_upto_region 1 with fail
 rw [<-HW.o]
 go_region_held3 (λU=>U.cell? ⟨H.kb,11,none⟩=some (.pointer (some ⟨H.z.s,0,none⟩))/\U.cell? ⟨w.heap.size,2,none⟩=some (.int .i64 c.size)) (first|exact H0.o _ (ae.of (Below.refl _ _).drew)|exact HE.o) (first
   | (go_at_call 103;refine (HC.o _ (Below.refl _ _).drew).mono ?_;rintro e w1 ⟨rfl,hb_⟩;have HB1:Hid (Below W.heap.size W w1):=al (Below.refl _ _).drew hb_;have HE:=aa (H0.o w1 (ae.of HB1.o));clear hb_))
 have HX1:=aa (R.Bx.later HB1.o HX.o)
 have HD1:=aa (HD.o.later HB1.o)
 have HZ1:=aa (HZ.o.later HB1.o)
 have HS1:Hid (w.heap.size<=w1.heap.size):=Nat.le_trans HB.o.size HB1.o.size
 have HSS:Hid (∀U {s d},aF U H s d N->ae N w1 U->U.cell? ⟨H.kb,10,none⟩=some (.pointer (some ⟨H.g,0,none⟩))/\U.cell? ⟨H.kb,11,none⟩=some (.pointer (some ⟨H.z.s,0,none⟩))/\U.cell? ⟨H.kb,12,none⟩=some (.pointer (some ⟨H.A.g,0,none⟩))/\U.cell? ⟨H.kb,13,none⟩=some (.pointer (some ⟨H.qg,0,none⟩))/\U.cell? ⟨w.heap.size,2,none⟩=some (.int .i64 c.size)):=λU s d hd hb=>by
  have:=Cb.of (R.Bx.but hb HX1.o (HN.o _ (Nat.le_refl _)))
  exact⟨hd.kb 10 _ rfl,hd.kb 11 _ rfl,hd.kb 12 _ rfl,hd.kb 13 _ rfl,this.c2⟩
 have H01:=aa (λU (hU:ae (λ_=>False) w1 U)=>HSS.o U (HD1.o.but hU (λ_ _ h=>h) (λh=>h)) (hU.mono (λ_ h=>h.elim)))
 have HNx:=aa (λ(U:World) (hU:Below w1.heap.size w1 U)=>AK (HD1.o.later hU))
 have HRt:=aa (λ(U:World) (hU:Below w1.heap.size w1 U)=>Fc (HD1.o.later hU) HF.o s.nx (FZ HNX.o))
 rw [<-HA.o] at HRt
 clear HE HC H0
 go_upto_region 4 with fail
 go_cut [6,7] (λs5 s6 U=>∃b,s5=.pointer (some ⟨b,0,none⟩)/\s6=.int .i64 A.code/\Hid (w1.heap.size<=b/\∃u,(aF u H (jM s A.s) d N/\ae N w1 u)/\Bc u U b A.c))
 case first =>
  go_region_held3 (λU=>U.cell? ⟨H.kb,10,none⟩=some (.pointer (some ⟨H.g,0,none⟩))/\U.cell? ⟨H.kb,11,none⟩=some (.pointer (some ⟨H.z.s,0,none⟩))/\U.cell? ⟨H.kb,12,none⟩=some (.pointer (some ⟨H.A.g,0,none⟩))/\U.cell? ⟨H.kb,13,none⟩=some (.pointer (some ⟨H.qg,0,none⟩))/\U.cell? ⟨w.heap.size,2,none⟩=some (.int .i64 c.size)) (first|exact H01.o _ (ae.of (Below.refl _ _).drew)|exact H01.o _ (ae.of (ab _ _).drew)|exact H01.o _ (ae.of (ab _ _))|exact HE.o _ (ae.refl _ _)|exact HE.o _ (ae.of (ab _ _))|exact HE.o _ (L.bP (S:=λk=>k=w1.heap.size) (b:=w1.heap.size) (ae.refl _ u_) rfl _)) (first
   | (go_at_call 38;refine (HNx.o _ (Below.refl _ _).drew).mono ?_;rintro e u9 ⟨rfl,hw9⟩;obtain rfl:=hw9.symm)|(go_at_call 38;refine (HNx.o _ (ab _ _).drew).mono ?_;rintro e u9 ⟨rfl,hw9⟩;obtain rfl:=hw9.symm)|(go_at_call 104;refine (HRt.o _ (ab _ _).drew).mono ?_;rintro e u_ ⟨rfl,hd_,hb_⟩;have HBt:Hid (ae N w1 u_):=(ae.of (S:=N) (ab w1 (Obj.cells #[.int .i64 0,.int .u64 0,.int .u64 0] 38)).drew).trans hb_;have HPs:=aa (And.intro hd_ HBt.o);have hzc:=(Zb.G6 w1).but (show ae N (w1.alloc (Obj.cells #[.int .i64 0,.int .u64 0,.int .u64 0] 38)).drew u_ from hb_) (HN.o _ HS1.o);have HZc:=aa hzc;have HE:=aa (λU (hU:ae (λk=>k=w1.heap.size) u_ U)=>HSS.o U (hd_.but hU (λk hk e=>HN.o k (by have h9:w1.heap.size<=_:=(Nat.le_refl _);have:=HS1.o;omega) hk) (λe=>by have h9:w1.heap.size<=_:=(Nat.le_refl _);have:=HS1.o;have:=HP.o;omega)) (HBt.o.comp hU (λi e=>.inr (by have h9:w1.heap.size<=_:=(Nat.le_refl _);omega))));obtain⟨⟨z0,f0⟩,⟨z1,f1⟩,⟨z2,f2⟩⟩:=hzc;clear hb_)
   | (go_at_call 104;refine (HRt.o _ (Below.refl _ _).drew).mono ?_;rintro e u_ ⟨rfl,hd_,hb_⟩;have HBt:Hid (ae N w1 u_):=(ae.of (S:=N) (Below.refl w1.heap.size w1).drew).trans hb_;have HPs:=aa (And.intro hd_ HBt.o);have HE:=aa (λU (hU:ae (λk=>k=u_.heap.size) u_ U)=>HSS.o U (hd_.but hU (λk hk e=>HN.o k (by have h9:w1.heap.size<=_:=HBt.o.size;have:=HS1.o;omega) hk) (λe=>by have h9:w1.heap.size<=_:=HBt.o.size;have:=HS1.o;have:=HP.o;omega)) (HBt.o.comp hU (λi e=>.inr (by have h9:w1.heap.size<=_:=HBt.o.size;omega))));clear hb_))
  all_goals (try go_wp2)
  all_goals go_meet
  all_goals (first|exact⟨_,rfl,rfl,Nat.le_refl _,u_,HPs.o,Bc.first HZc.o _⟩|exact⟨_,rfl,rfl,HBt.o.size,u_,HPs.o,Bc.nV u_ _⟩)
 case rest =>
 rename World=>v
 obtain⟨b,rfl,rfl,HR⟩:=hcut
 obtain⟨hlo,u,⟨hd3,hb3⟩,hbc⟩:=HR.o
 obtain⟨hv,v0,v1,v2⟩:=hbc
 have hsz:=HS1.o
 have HDv:=aa (hd3.but hv (λk hk e=>HN.o k (by omega) hk) (λe=>by have:=HP.o;omega))
 have HBv:Hid (ae N w1 v):=hb3.comp hv (λi e=>.inr (by omega))
 have HZv:=aa (HZ1.o.but HBv.o (HN.o _ (by omega)))
 have HXv:=aa (R.Bx.but HBv.o HX1.o (HN.o _ (Nat.le_refl _)))
 have HLo:Hid (w1.heap.size<=b):=hlo
 have hvs:=hv.size
 have HBl:Hid (b<v.heap.size):=World.block_lt_of_cell? _ _ v0
 clear hlo hd3 hb3 hv hsz HR hvs
 have hqr:(A.code != 0)=false:=by simpa using HRr.o
 have HV:Hid (v.cell? ⟨b,0,none⟩=some (.int .i64 A.c.1)/\v.cell? ⟨b,1,none⟩=some (.int .u64 (A.c.2.1:Int))/\v.cell? ⟨b,2,none⟩=some (.int .u64 (A.c.2.2:Int))):=⟨v0,v1,v2⟩
 clear v0 v1 v2
 have HCr:=aa (λ(U:World) (hU:Below v.heap.size v U)=>CP (HDv.o.later hU) c.size HM.o)
 have H0v:Hid (∀U,ae (λ_=>False) v U->U.cell? ⟨H.kb,11,none⟩=some (.pointer (some ⟨H.z.s,0,none⟩))/\U.cell? ⟨w.heap.size,2,none⟩=some (.int .i64 c.size)):=λU hU=>by
  have:=Cb.of (R.Bx.but hU HXv.o (λh=>h))
  exact⟨aC hU (HDv.o.kb 11 _ rfl) (λh=>h),this.c2⟩
 go_upto_region 7 with fail
 go_region_held3 (λU=>U.cell? ⟨H.kb,11,none⟩=some (.pointer (some ⟨H.z.s,0,none⟩))/\U.cell? ⟨w.heap.size,2,none⟩=some (.int .i64 c.size)) (first|exact H0v.o _ (ae.of (Below.refl _ _).drew)|exact HE.o) (first
   | (go_at_call 105;refine (HCr.o _ (Below.refl _ _).drew).mono ?_;rintro e u2 ⟨rfl,N2,hd2,hw2⟩;have HD2:=aa hd2;have HW2:Hid (aH v N u2 N2):=(aH.later (Below.refl _ _).drew).trans hw2;have HE:Hid (u2.cell? ⟨H.kb,11,none⟩=some (.pointer (some ⟨H.z.s,0,none⟩))/\u2.cell? ⟨w.heap.size,2,none⟩=some (.int .i64 c.size)):=⟨hd2.kb 11 _ rfl,(Cb.of (R.Bx.but HW2.o.2 HXv.o (HN.o _ (Nat.le_refl _)))).c2⟩;clear hd2 hw2))
 obtain⟨v0,v1,v2⟩:=HV.o
 have hlo:=HLo.o
 have hsz:=HS1.o
 have hbb:¬N b:=HN.o _ (by omega)
 have v0:=aC HW2.o.2 v0 hbb
 have v1:=aC HW2.o.2 v1 hbb
 have v2:=aC HW2.o.2 v2 hbb
 have HZ9:=aa (HZv.o.but HW2.o.2 (HN.o _ (by omega)))
 have HS9:=aa (HZ9.o.st ⟨0,A.c,[],0⟩ none 0 0)
 have HL9:=aa (HZ9.o.lv ⟨0,A.c,[],0⟩ none 0 0)
 have HB9:Hid (ae (·=w.heap.size+1) u2 (u2.setCells (w.heap.size+1) 0 (fK ⟨0,A.c,[],0⟩ none 0 0))):=R.iK (S:=(·=w.heap.size+1)) rfl _ 0 (ae.refl _ _)
 clear hlo hsz hbb
 go_wp2_with (first|((with_reducible refine aY HS9.o ?_ ?_ ?_);(· rfl);(· rfl)))
 refine bodyPost_ret (v:=dO ⟨0,A.c,[],0⟩ none 0 0) (by simp [results,results59,asAddr,HL9.o]) rfl ⟨rfl,N2,HD2.o.but HB9.o (λk hk e=>?_) (λe=>by have:0=w.heap.size+1:=e;omega),?_⟩
 ·have h1:=HZv.o.lt
  exact HW2.o.out (by omega) (HN.o _ (by omega)) hk
 ·have h0:aH w N v N:=⟨λk h=>.inl h,(ae.of (al HB.o HB1.o)).trans HBv.o⟩
  have h1:=h0.trans HW2.o
  exact⟨h1.1,h1.2.comp HB9.o (λi e=>.inr (by omega))⟩
end
end Go.Proofs.YtfmhdimaijimlaaGreatDoor.V
