import Derived.Test.YtffmodpgddecnaaGreatDoorZ27
set_option linter.unusedVariables false
set_option linter.unusedSimpArgs false
set_option maxRecDepth 100000
set_option maxHeartbeats 2000000
namespace Go.Proofs.YtffmodpgddecnaaGreatDoor.V
open Go.RowKit
open Go.Proofs.YtffmodpgddecnaaGreatDoor.H (aq Cp)
open Go.Proofs.YtffmodpgddecnaaGreatDoor.M (ba)
section
variable {w w':World}{H:Hd}{s s':aP}{d d':Nat->List K.Pu}{O:Nat->Nat->Prop}{N:Nat->Prop}{c:R.Cl}{dd gg:R.Sl}{b:Nat}
theorem we (h:aI w H s d N)(hi:P.Iv H.pm s.px s.P)(number:Int)(h64:-9223372036854775808<=number/\number<9223372036854775808) :
  Calls Tryz.prog 121 #[.pointer (some ⟨H.kb,0,none⟩),.int .i64 number] w λe w'=>e=.returned (.tuple #[])/\aI w' H { s with P:=P.out s.P number,ks:=P.out s.ks number } d N/\ah N w w':=by
 have k14:=h.kb 14 _ rfl
 have HX:=ab (Jj h hi number)
 have Uy:=ab h64
 clear h h64;go_enter Tryz.func121,Tryz.ntmps121
 go_upto_region 1 with (first|(go_at_call 204;refine HX.out.mono ?_;rintro e w1 ⟨rfl,hd1,hb1⟩;have P6:=ab hd1;have PC:=ab hb1;clear hd1 hb1 k14))
 have k15:=P6.out.kb 15 _ rfl
 obtain⟨O,hL⟩:=P6.out
 obtain⟨G,pq,cq,df,hli,hm5⟩:=hL.part 5
 obtain⟨w2,hdel,hm2,htn⟩:=hli.map.drop S.sC Tryz.underlying97 (key:=.int .i64 number) (kl:=.int .i64 number) (S.tJ Uy.out) 0
 have hb2:=S.fw htn
 rw [Ao] at hm2;have Qk:=ab (hL.gone hli hm5 number hb2 hm2)
 clear hL hli hm5 hm2 htn hb2;go_wp2;go_end0
 exact⟨rfl,Qk.out.1,PC.out.trans Qk.out.2⟩
theorem lz (h:aI w H s d N)(hf:KF H.p s)(hby:c.aB∈s.P) :
  Calls Tryz.prog 110 #[.pointer (some ⟨H.kb,0,none⟩),.agg (R.cC c dd gg).toArray] w λe w'=>e=.returned (dw (rep 0) none 0 0)/\aI w' H (Er s c.aB).2 d N/\ah N w w':=by
 obtain⟨W,hW⟩:∃W,W=(w.alloc (Obj.cells (R.cC c dd gg).toArray 44)).alloc z6:=⟨_,rfl⟩
 have hB:Below w.heap.size w W:=by rw [hW];exact aC _ _ _
 have hX:R.Bx W w.heap.size (R.cC c dd gg):=by rw [hW];exact R.Bx.later (ae _ _) (R.Bx.new w (R.cC c dd gg) 44)
 have hZ:Zr W (w.heap.size+1):=by rw [hW];have:=Zr.new (w.alloc (Obj.cells (R.cC c dd gg).toArray 44));simpa using this
 have h2:=h.later hB
 have HC:=ab (we h2 hf.iv c.aB (hf.pA hby))
 have x1:=(Cb.of hX).c1
 unfold Er;have HW:=ab hW
 have HB:=ab hB
 have HX:=ab hX
 have HZ:=ab hZ
 have HD:=ab h2
 have HP:Hid (0<w.heap.size):=by have:=h.b0;unfold Hid;omega
 have HN:=ab (λk hk=>h.new (k:=k) hk)
 clear h h2 hB hX hZ hW hf hby;go_enter Tryz.func110,Tryz.ntmps110
 go_upto_region 1 with fail
 rw [<-HW.out];go_upto_region 2 with (first|(go_at_call 121;refine HC.out.mono ?_;rintro e w1 ⟨rfl,hd1,hb1⟩;have P6:=ab hd1;have PC:=ab hb1;clear hd1 hb1))
 have PO:=ab (HZ.out.but PC.out (HN.out _ (by omega)))
 have PT:=ab (PO.out.st (rep 0) none 0 0)
 have PU:=ab (PO.out.lv (rep 0) none 0 0)
 have PK:Hid (ah (·=w.heap.size+1) w1 (w1.setCells (w.heap.size+1) 0 (fM (rep 0) none 0 0))):=R.ay (S:=(·=w.heap.size+1)) rfl _ 0 (ah.refl _ _)
 go_wp2_with (first|((with_reducible refine bm PT.out ?_ ?_ ?_);(· rfl);(· rfl)))
 exact bodyPost_ret (v:=dw (rep 0) none 0 0) (by simp [results,Tryz.results110,asAddr,PU.out]) rfl ⟨rfl,P6.out.but PK.out (λk hk e=>HN.out k (by omega) hk) (λe=>by have:0=w.heap.size+1:=e;omega),((ah.of HB.out).trans PC.out).comp PK.out (λi e=>.inr (by omega))⟩
theorem J_ (h:aI w H s d N)(hf:KF H.p s){i:Int}(hi:i∈s.P){G:Int->Nat}{pa:Int->Option Addr}{cap:Int->Nat}{df:Nat->Int}{O:Nat->Nat->Prop}(hL:Lay w H s d O N)(hl:Li w H s.ks s.D G pa cap df)(hm:∀k,Cd s.ks G pa H.lg k->O 5 k)(x:Int) :
  Calls Tryz.prog 190 #[.pointer (some ⟨G i,0,none⟩),.int .i64 x] w λe w'=>∃cp:Cp,e=.returned (.tuple #[.agg #[.int .i64 cp.1,.int .u64 (cp.2.1:Int),.int .u64 (cp.2.2:Int)],.int .i64 (fU s i x).1.code])/\(∃N',aI w' H (fU s i x).2 d N'/\aK w N w' N')/\ah (Lb G pa i) w w':=by
 have hk:i∈s.ks:=by rw [hf.ks];exact hi
 unfold fU;by_cases hq:M.jg (s.D i) x=false
 ·simp only [if_pos hq]
  refine (M.CH (hl.each i hk) x hq).mono ?_
  rintro e w' ⟨rfl,hb⟩
  exact⟨(0,0,0),rfl,⟨N,h.later hb,aK.later hb⟩,ah.of hb⟩
 ·simp only [if_neg hq]
  have h1:=M.kK.1 (by simpa using hq:M.jg (s.D i) x=true)
  obtain⟨k,rfl⟩:=Int.eq_ofNat_of_zero_le h1.1
  have hlt:k<(s.D i).length:=by omega
  refine (M.GV (hl.each i hk) k (s.D i)[k] (List.getElem?_eq_getElem hlt) (hf.dK hi)).mono ?_
  rintro e w' ⟨rfl,hd,hw⟩
  exact⟨(s.D i)[k],rfl,hL.list hl hm hk hd hw,hw.but⟩
theorem se (h:aI w H s d N)(hf:KF H.p s)(hby:c.aB∈s.P) :
  Calls Tryz.prog 108 #[.pointer (some ⟨H.kb,0,none⟩),.agg (R.cC c dd gg).toArray] w λe w'=>e=.returned (dw (rep (fU s c.aB c.index).1.code) none 0 0)/\∃N',aI w' H (fU s c.aB c.index).2 d N'/\aK w N w' N':=by
 obtain⟨W,hW⟩:∃W,W=(w.alloc (Obj.cells (R.cC c dd gg).toArray 44)).alloc z6:=⟨_,rfl⟩
 have hB:Below w.heap.size w W:=by rw [hW];exact aC _ _ _
 have hX:R.Bx W w.heap.size (R.cC c dd gg):=by rw [hW];exact R.Bx.later (ae _ _) (R.Bx.new w (R.cC c dd gg) 44)
 have hZ:Zr W (w.heap.size+1):=by rw [hW];have:=Zr.new (w.alloc (Obj.cells (R.cC c dd gg).toArray 44));simpa using this
 have h2:=h.later hB
 obtain⟨O,hL⟩:=id h2
 obtain⟨G,pa,cap,df,hl,hm⟩:=hL.part 5
 have hks:c.aB∈s.ks:=by rw [hf.ks];exact hby
 have Tn:Hid (∀k,Lb G pa c.aB k->N k):=λk hk=>hL.sub 5 k (hm k (.inr ⟨_,hks,hk⟩))
 have HS:Hid (∀U,ah (Lb G pa c.aB) W U->U.cell? ⟨H.kb,15,none⟩=some (.map (some H.lg))/\U.cell? ⟨w.heap.size,1,none⟩=some (.int .i64 c.aB)/\U.cell? ⟨w.heap.size,11,none⟩=some (.int .i64 c.index)/\(Instr.lookup 97 (.map (some H.lg)) (.int .i64 c.aB) false).run Tryz.prog U=.ok (.pointer (some ⟨G c.aB,0,none⟩)) U):=λU hb=>by
  have hx:=Cb.of (R.Bx.but hb hX (λe=>h.new (Nat.le_refl _) (Tn.out _ e)))
  exact⟨ag hb (h2.kb 15 _ rfl) (λe=>absurd (hL.ap 7 5 _ (hL.part 7).2 (hm _ (.inr ⟨_,hks,e⟩))) (by decide)),hx.c1,hx.GO,hl.mw hb (λe=>(hl.df _ hks _ e).2 rfl) hks (hf.pA hby)⟩
 have H0:=ab (λU (hU:ah (λ_=>False) W U)=>HS.out U (hU.mono (λ_ h=>h.elim)))
 have Re:=ab (λ(U:World) (hU:Below W.heap.size W U)=>J_ (h2.later hU) hf hby (hL.yi hU) (hl.but (ah.of (S:=λ_=>False) hU) (λ_ _ h=>h)) hm c.index)
 obtain⟨A,hA⟩:∃A,A=fU s c.aB c.index:=⟨_,rfl⟩
 rw [<-hA] at Re ⊢
 have HW:=ab hW
 have HB:=ab hB
 have HX:=ab hX
 have HZ:=ab hZ
 have HD:=ab h2
 have HP:Hid (0<w.heap.size):=by have:=h.b0;unfold Hid;omega
 have HN:=ab (λk hk=>h.new (k:=k) hk)
 clear h h2 hB hX hZ hW hf hby hL hl hm hks hA;go_enter Tryz.func108,Tryz.ntmps108
 go_upto_region 1 with fail
 rw [<-HW.out];go_cut [5,6] (λ_ s6 U=>s6=.int .i64 A.1.code/\Hid (∃u b,(∃N2,aI u H A.2 d N2/\aK W N u N2/\¬N2 b)/\W.heap.size<=b/\ah (λk=>k=b) u U))
 case first =>
  go_region_held3 (λU=>U.cell? ⟨H.kb,15,none⟩=some (.map (some H.lg))/\U.cell? ⟨w.heap.size,1,none⟩=some (.int .i64 c.aB)/\U.cell? ⟨w.heap.size,11,none⟩=some (.int .i64 c.index)/\(Instr.lookup 97 (.map (some H.lg)) (.int .i64 c.aB) false).run Tryz.prog U=.ok (.pointer (some ⟨G c.aB,0,none⟩)) U) (first|exact H0.out _ (ah.of (Below.refl _ _).drew)|exact H0.out _ (ah.of (ae _ _).drew)|exact H0.out _ (ah.of (ae _ _))|exact HE.out _ (ah.refl _ _)|exact HE.out _ (ah.of (ae _ _))|exact HE.out _ (L.cA (S:=λk=>k=W.heap.size) (b:=W.heap.size) (ah.refl _ u_) rfl _)) (first
   | (go_at_call 190;(with_reducible refine (Re.out (W.alloc (Obj.cells #[.int .i64 0,.int .u64 0,.int .u64 0] 37)).drew (ae _ _).drew).mono ?_);rintro e u_ ⟨cp_,rfl,⟨N2,hd_,hw_⟩,hb_⟩;have Qa:Hid (∃N2,aI u_ H A.2 d N2/\aK W N u_ N2/\¬N2 W.heap.size):=⟨N2,hd_,(aK.later (ae W (Obj.cells #[.int .i64 0,.int .u64 0,.int .u64 0] 37)).drew).trans hw_,λe=>(hw_.1 _ e).elim (HN.out _ HB.out.size) (λh=>absurd h (by show ¬(W.alloc (Obj.cells #[.int .i64 0,.int .u64 0,.int .u64 0] 37)).heap.size<=W.heap.size;simp))⟩;have PH:Hid (ah (Lb G pa c.aB) W u_):=(ah.of (S:=(Lb G pa c.aB)) (ae W (Obj.cells #[.int .i64 0,.int .u64 0,.int .u64 0] 37)).drew).trans hb_;have hzc:=(Zb.FJ W).but (show ah (Lb G pa c.aB) (W.alloc (Obj.cells #[.int .i64 0,.int .u64 0,.int .u64 0] 37)).drew u_ from hb_) (λe=>HN.out _ HB.out.size (Tn.out _ e));have HE:=ab (λU (hU:ah (λk=>k=W.heap.size) u_ U)=>HS.out U (PH.out.comp hU (λi e=>.inr (by omega))));obtain⟨⟨z0,f0⟩,⟨z1,f1⟩,⟨z2,f2⟩⟩:=hzc;clear hb_ hd_ hw_)
   | (go_at_call 190;(with_reducible refine (Re.out W.drew (Below.refl _ _).drew).mono ?_);rintro e u_ ⟨cp_,rfl,⟨N2,hd_,hw_⟩,hb_⟩;have Qa:Hid (∃N2,aI u_ H A.2 d N2/\aK W N u_ N2/\¬N2 u_.heap.size):=⟨N2,hd_,(aK.later (Below.refl W.heap.size W).drew).trans hw_,hd_.new (Nat.le_refl _)⟩;have PH:Hid (ah (Lb G pa c.aB) W u_):=(ah.of (S:=(Lb G pa c.aB)) (Below.refl W.heap.size W).drew).trans hb_;have HE:=ab (λU (hU:ah (λk=>k=u_.heap.size) u_ U)=>HS.out U (PH.out.comp hU (λi e=>.inr (by have:=PH.out.size;omega))));clear hb_ hd_ hw_))
  all_goals (try go_wp2)
  all_goals go_meet
  all_goals (first|exact⟨rfl,u_,W.heap.size,Qa.out,Nat.le_refl _,L.cA (S:=λk=>k=W.heap.size) (b:=W.heap.size) (ah.refl _ u_) rfl cp_⟩|exact⟨rfl,u_,u_.heap.size,Qa.out,PH.out.size,ah.of (ae _ _)⟩)
 case rest =>
 rename World=>v
 obtain⟨rfl,HR⟩:=hcut
 obtain⟨u,b,⟨N2,hd3,hw3,hnb⟩,hlo,hv⟩:=HR.out
 have hsz:=HB.out.size
 have hz:=HZ.out.lt
 have Rx:=ab (hd3.but hv (λk hk e=>hnb (e ▸ hk)) (λe=>by have:=HP.out;omega))
 have VK:Hid (aK W N v N2):=⟨hw3.1,hw3.2.comp hv (λi e=>.inr (by omega))⟩
 have Rz:=ab (HZ.out.but VK.out.2 (HN.out _ (by omega)))
 have Tf:Hid (¬N2 (w.heap.size+1)):=hw3.out (by omega) (HN.out _ (by omega))
 clear hlo hd3 hw3 hv hsz HR hnb hz;have PO:=ab (Rz.out)
 have PT:=ab (PO.out.st (rep A.1.code) none 0 0)
 have PU:=ab (PO.out.lv (rep A.1.code) none 0 0)
 have PK:Hid (ah (·=w.heap.size+1) (v) ((v).setCells (w.heap.size+1) 0 (fM (rep A.1.code) none 0 0))):=R.ay (S:=(·=w.heap.size+1)) rfl _ 0 (ah.refl _ _)
 go_wp2_with (first|((with_reducible refine bm PT.out ?_ ?_ ?_);(· rfl);(· rfl)))
 refine bodyPost_ret (v:=dw (rep A.1.code) none 0 0) (by simp [results,Tryz.results108,asAddr,PU.out]) rfl ⟨rfl,N2,Rx.out.but PK.out (λk hk e=>Tf.out (e ▸ hk)) (λe=>by have:0=w.heap.size+1:=e;omega),?_⟩
 have h1:=(aK.later (N:=N) HB.out).trans VK.out
 exact⟨h1.1,h1.2.comp PK.out (λi e=>.inr (by omega))⟩
theorem yK (h:aI w H s d N)(hf:KF H.p s)(hby:c.aB∈s.P)(hG:Row w gg.a gg.n gg.c (ints c.ax))(hgn:gg.n<=255)(hv:M.bL H.lm (s.D c.aB) c.ax≠0) :
  Calls Tryz.prog 109 #[.pointer (some ⟨H.kb,0,none⟩),.agg (R.cC c dd gg).toArray] w λe w'=>e=.returned (dw (rep (M.bL H.lm (s.D c.aB) c.ax)) none 0 0)/\Below w.heap.size w w':=by
 obtain⟨W,hW⟩:∃W,W=(w.alloc (Obj.cells (R.cC c dd gg).toArray 44)).alloc z6:=⟨_,rfl⟩
 have hB:Below w.heap.size w W:=by rw [hW];exact aC _ _ _
 have hX:R.Bx W w.heap.size (R.cC c dd gg):=by rw [hW];exact R.Bx.later (ae _ _) (R.Bx.new w (R.cC c dd gg) 44)
 have hZ:Zr W (w.heap.size+1):=by rw [hW];have:=Zr.new (w.alloc (Obj.cells (R.cC c dd gg).toArray 44));simpa using this
 have h2:=h.later hB
 obtain⟨O,hL⟩:=id h2
 obtain⟨G,pa,cap,df,hl,hm⟩:=hL.part 5
 have hks:c.aB∈s.ks:=by rw [hf.ks];exact hby
 have HS:Hid (∀U,ah (λ_=>False) W U->U.cell? ⟨H.kb,15,none⟩=some (.map (some H.lg))/\U.cell? ⟨w.heap.size,1,none⟩=some (.int .i64 c.aB)/\U.cell? ⟨w.heap.size,12,none⟩=some (gg.v)/\(Instr.lookup 97 (.map (some H.lg)) (.int .i64 c.aB) false).run Tryz.prog U=.ok (.pointer (some ⟨G c.aB,0,none⟩)) U):=λU hb=>by
  have hx:=Cb.of (R.Bx.but hb hX (λe=>e))
  exact⟨ag hb (h2.kb 15 _ rfl) (λe=>e),hx.c1,hx.Jy,hl.mw hb (λe=>e) hks (hf.pA hby)⟩
 have Sd:=ab (λ(U:World) (hU:Below W.heap.size W U)=>M.lI ((hl.each _ hks).later hU) (Row.later hU (Row.later hB hG)) (by omega) (hf.dK hby) hf.lm.2)
 have HF:=ab hf
 obtain⟨m,hmq⟩:∃m,m=M.bL H.lm (s.D c.aB) c.ax:=⟨_,rfl⟩
 obtain⟨Kl,hKl⟩:∃Kl,Kl=M.cM H.lm (s.D c.aB) c.ax:=⟨_,rfl⟩
 rw [<-hmq,<-hKl] at Sd;rw [<-hmq] at hv ⊢
 have hq:(m != 0)=true:=by simpa using hv
 have HW:=ab hW
 have HB:=ab hB
 have HX:=ab hX
 have HZ:=ab hZ
 have HD:=ab h2
 have HP:Hid (0<w.heap.size):=by have:=h.b0;unfold Hid;omega
 have HN:=ab (λk hk=>h.new (k:=k) hk)
 clear h h2 hB hX hZ hW hf hby hL hl hm hks hG hv hmq hKl;go_enter Tryz.func109,Tryz.ntmps109
 go_upto_region 1 with fail
 rw [<-HW.out];go_region_held3 (λU=>U.cell? ⟨H.kb,15,none⟩=some (.map (some H.lg))/\U.cell? ⟨w.heap.size,1,none⟩=some (.int .i64 c.aB)/\U.cell? ⟨w.heap.size,12,none⟩=some (gg.v)/\(Instr.lookup 97 (.map (some H.lg)) (.int .i64 c.aB) false).run Tryz.prog U=.ok (.pointer (some ⟨G c.aB,0,none⟩)) U) (first|exact HS.out _ (ah.of (Below.refl _ _).drew)|exact HE.out) (first
   | (go_at_call 191;(with_reducible refine (Sd.out W.drew (Below.refl _ _).drew).mono ?_);rintro e w1 ⟨p1,c1,rfl,hO1,hb1⟩;have PC:Hid (Below W.heap.size W w1):=aa (Below.refl _ _).drew hb1;have HE:=ab (HS.out w1 (ah.of PC.out));have QP:=ab hO1;clear hO1 hb1))
 have Qo:=ab (HZ.out.later PC.out)
 have HR:=ab (bE m w1)
 go_upto_region 3 with fail
 go_upto_region 4 with (first|(go_at_call 47;refine HR.out.mono ?_;rintro e w2 ⟨rfl,hb2⟩;have PB:=ab hb2;have PO:=ab (Qo.out.later PB.out);have PT:=ab (PO.out.st (rep m) none 0 0);have PU:=ab (PO.out.lv (rep m) none 0 0);clear hb2)|((with_reducible refine bm PT.out ?_ ?_ ?_);(· rfl);(· rfl)))
 have PK:Hid (ah (·=w.heap.size+1) w2 (w2.setCells (w.heap.size+1) 0 (fM (rep m) none 0 0))):=R.ay (S:=(·=w.heap.size+1)) rfl _ 0 (ah.refl _ _)
 exact bodyPost_ret (v:=dw (rep m) none 0 0) (by simp [results,Tryz.results109,asAddr,PU.out]) rfl ⟨rfl,ah.below (aa HB.out (aa PC.out PB.out)) PK.out (λk e=>by omega)⟩
theorem iI (h:aI w H s d N)(hf:KF H.p s)(hby:c.aB∈s.P)(hG:Row w gg.a gg.n gg.c (ints c.ax))(hgn:gg.n<=255)(hv:M.bL H.lm (s.D c.aB) c.ax=0)(hp:P.dF H.pm s.px s.P=true) :
  Calls Tryz.prog 109 #[.pointer (some ⟨H.kb,0,none⟩),.agg (R.cC c dd gg).toArray] w λe w'=>e=.returned (dw (rep 13) none 0 0)/\∃N',aI w' H s d N'/\aK w N w' N':=by
 obtain⟨W,hW⟩:∃W,W=(w.alloc (Obj.cells (R.cC c dd gg).toArray 44)).alloc z6:=⟨_,rfl⟩
 have hB:Below w.heap.size w W:=by rw [hW];exact aC _ _ _
 have hX:R.Bx W w.heap.size (R.cC c dd gg):=by rw [hW];exact R.Bx.later (ae _ _) (R.Bx.new w (R.cC c dd gg) 44)
 have hZ:Zr W (w.heap.size+1):=by rw [hW];have:=Zr.new (w.alloc (Obj.cells (R.cC c dd gg).toArray 44));simpa using this
 have h2:=h.later hB
 obtain⟨O,hL⟩:=id h2
 obtain⟨G,pa,cap,df,hl,hm⟩:=hL.part 5
 have hks:c.aB∈s.ks:=by rw [hf.ks];exact hby
 have HS:Hid (∀U,ah (λ_=>False) W U->U.cell? ⟨H.kb,15,none⟩=some (.map (some H.lg))/\U.cell? ⟨w.heap.size,1,none⟩=some (.int .i64 c.aB)/\U.cell? ⟨w.heap.size,12,none⟩=some (gg.v)/\(Instr.lookup 97 (.map (some H.lg)) (.int .i64 c.aB) false).run Tryz.prog U=.ok (.pointer (some ⟨G c.aB,0,none⟩)) U):=λU hb=>by
  have hx:=Cb.of (R.Bx.but hb hX (λe=>e))
  exact⟨ag hb (h2.kb 15 _ rfl) (λe=>e),hx.c1,hx.Jy,hl.mw hb (λe=>e) hks (hf.pA hby)⟩
 have Sd:=ab (λ(U:World) (hU:Below W.heap.size W U)=>M.lI ((hl.each _ hks).later hU) (Row.later hU (Row.later hB hG)) (by omega) (hf.dK hby) hf.lm.2)
 have HF:=ab hf
 obtain⟨Kl,hKl⟩:∃Kl,Kl=M.cM H.lm (s.D c.aB) c.ax:=⟨_,rfl⟩
 rw [hv,<-hKl] at Sd;have Qj:=ab hp
 have HW:=ab hW
 have HB:=ab hB
 have HX:=ab hX
 have HZ:=ab hZ
 have HD:=ab h2
 have HP:Hid (0<w.heap.size):=by have:=h.b0;unfold Hid;omega
 have HN:=ab (λk hk=>h.new (k:=k) hk)
 clear h h2 hB hX hZ hW hf hby hL hl hm hks hG hv hp hKl;go_enter Tryz.func109,Tryz.ntmps109
 go_upto_region 1 with fail
 rw [<-HW.out];go_region_held3 (λU=>U.cell? ⟨H.kb,15,none⟩=some (.map (some H.lg))/\U.cell? ⟨w.heap.size,1,none⟩=some (.int .i64 c.aB)/\U.cell? ⟨w.heap.size,12,none⟩=some (gg.v)/\(Instr.lookup 97 (.map (some H.lg)) (.int .i64 c.aB) false).run Tryz.prog U=.ok (.pointer (some ⟨G c.aB,0,none⟩)) U) (first|exact HS.out _ (ah.of (Below.refl _ _).drew)|exact HE.out) (first
   | (go_at_call 191;(with_reducible refine (Sd.out W.drew (Below.refl _ _).drew).mono ?_);rintro e w1 ⟨p1,c1,rfl,hO1,hb1⟩;have PC:Hid (Below W.heap.size W w1):=aa (Below.refl _ _).drew hb1;have HE:=ab (HS.out w1 (ah.of PC.out));have QP:=ab hO1;clear hO1 hb1))
 have Ru:=ab (BO (HD.out.later PC.out) HF.out.iv)
 have k14:=(HD.out.later PC.out).kb 14 _ rfl
 have e1:P.Gs H.pm s.px s.P=0:=by unfold P.Gs;rw [if_pos Qj.out]
 have e2:P.E7 H.pm s.px s.P=13:=by unfold P.E7;rw [if_pos Qj.out]
 have e3:P.zl H.pm s.px s.P=s.px:=by unfold P.zl;rw [if_pos Qj.out]
 have e4:P.yY H.pm s.px s.P=s.P:=by unfold P.yY;rw [if_pos Qj.out]
 rw [e1,e2,e3,e4] at Ru;clear e1 e2 e3 e4;go_upto_region 5 with (first|(go_at_call 192;refine Ru.out.mono ?_;rintro e w3 ⟨rfl,N2,hd3,hw3⟩;have Qs:=ab hd3;have QR:Hid (aK W N w3 N2):=(aK.later PC.out).trans hw3;clear hd3 hw3 k14))
 have Qo:=ab (HZ.out.but QR.out.2 (HN.out _ (by omega)))
 have Tf:Hid (¬N2 (w.heap.size+1)):=QR.out.out HZ.out.lt (HN.out _ (by omega))
 have HR:=ab (bE 13 w3)
 go_upto_region 6 with fail
 go_upto_region 7 with (first|(go_at_call 47;refine HR.out.mono ?_;rintro e w2 ⟨rfl,hb2⟩;have PB:=ab hb2;have PO:=ab (Qo.out.later PB.out);have PT:=ab (PO.out.st (rep 13) none 0 0);have PU:=ab (PO.out.lv (rep 13) none 0 0);clear hb2)|((with_reducible refine bm PT.out ?_ ?_ ?_);(· rfl);(· rfl)))
 have PK:Hid (ah (·=w.heap.size+1) w2 (w2.setCells (w.heap.size+1) 0 (fM (rep 13) none 0 0))):=R.ay (S:=(·=w.heap.size+1)) rfl _ 0 (ah.refl _ _)
 exact bodyPost_ret (v:=dw (rep 13) none 0 0) (by simp [results,Tryz.results109,asAddr,PU.out]) rfl ⟨rfl,N2,(Qs.out.later PB.out).but PK.out (λk hk e=>Tf.out (e ▸ hk)) (λe=>by have:0=w.heap.size+1:=e;omega),(aK.trans (aK.later (N:=N) HB.out) ((QR.out).trans (aK.later PB.out))).1,((aK.trans (aK.later (N:=N) HB.out) ((QR.out).trans (aK.later PB.out))).2).comp PK.out (λi e=>.inr (by omega))⟩
theorem x_ (h:aI w H s d N)(hf:KF H.p s)(hby:c.aB∈s.P)(hG:Row w gg.a gg.n gg.c (ints c.ax))(hgn:gg.n<=255)(hv:M.bL H.lm (s.D c.aB) c.ax=0)(hp:P.dF H.pm s.px s.P=false) :
  Calls Tryz.prog 109 #[.pointer (some ⟨H.kb,0,none⟩),.agg (R.cC c dd gg).toArray] w λe w'=>e=.returned (dw ⟨0,(0,0,0),[],s.px⟩ none 0 0)/\∃N',aI w' H { s with px:=s.px+1,P:=s.P++[s.px],ks:=s.ks++[s.px],D:=fW s.D s.px (M.cM H.lm (s.D c.aB) c.ax) } d N'/\aK w N w' N':=by
 obtain⟨W,hW⟩:∃W,W=(w.alloc (Obj.cells (R.cC c dd gg).toArray 44)).alloc z6:=⟨_,rfl⟩
 have hB:Below w.heap.size w W:=by rw [hW];exact aC _ _ _
 have hX:R.Bx W w.heap.size (R.cC c dd gg):=by rw [hW];exact R.Bx.later (ae _ _) (R.Bx.new w (R.cC c dd gg) 44)
 have hZ:Zr W (w.heap.size+1):=by rw [hW];have:=Zr.new (w.alloc (Obj.cells (R.cC c dd gg).toArray 44));simpa using this
 have h2:=h.later hB
 obtain⟨O,hL⟩:=id h2
 obtain⟨G,pa,cap,df,hl,hm⟩:=hL.part 5
 have hks:c.aB∈s.ks:=by rw [hf.ks];exact hby
 have HS:Hid (∀U,ah (λ_=>False) W U->U.cell? ⟨H.kb,15,none⟩=some (.map (some H.lg))/\U.cell? ⟨w.heap.size,1,none⟩=some (.int .i64 c.aB)/\U.cell? ⟨w.heap.size,12,none⟩=some (gg.v)/\(Instr.lookup 97 (.map (some H.lg)) (.int .i64 c.aB) false).run Tryz.prog U=.ok (.pointer (some ⟨G c.aB,0,none⟩)) U):=λU hb=>by
  have hx:=Cb.of (R.Bx.but hb hX (λe=>e))
  exact⟨ag hb (h2.kb 15 _ rfl) (λe=>e),hx.c1,hx.Jy,hl.mw hb (λe=>e) hks (hf.pA hby)⟩
 have Sd:=ab (λ(U:World) (hU:Below W.heap.size W U)=>M.lI ((hl.each _ hks).later hU) (Row.later hU (Row.later hB hG)) (by omega) (hf.dK hby) hf.lm.2)
 have HF:=ab hf
 obtain⟨Kl,hKl⟩:∃Kl,Kl=M.cM H.lm (s.D c.aB) c.ax:=⟨_,rfl⟩
 have WX:Hid ((Kl.length:Int)<=H.lm):=by
  unfold Hid;rw [hKl];unfold M.cM;rw [if_pos hv,List.length_map];unfold M.bL at hv;by_cases ha:c.ax.all (M.jg (s.D c.aB))=true
  ·rw [if_pos ha] at hv
   by_cases hb:H.lm<(c.ax.length:Int)
   ·rw [if_pos hb] at hv;exact absurd hv (by decide)
   ·omega
  ·rw [if_neg ha] at hv;exact absurd hv (by decide)
 rw [hv,<-hKl] at Sd;rw [<-hKl];have Qj:=ab hp
 have HW:=ab hW
 have HB:=ab hB
 have HX:=ab hX
 have HZ:=ab hZ
 have HD:=ab h2
 have HP:Hid (0<w.heap.size):=by have:=h.b0;unfold Hid;omega
 have HN:=ab (λk hk=>h.new (k:=k) hk)
 clear h h2 hB hX hZ hW hf hby hL hl hm hks hG hv hp hKl;go_enter Tryz.func109,Tryz.ntmps109
 go_upto_region 1 with fail
 rw [<-HW.out];go_region_held3 (λU=>U.cell? ⟨H.kb,15,none⟩=some (.map (some H.lg))/\U.cell? ⟨w.heap.size,1,none⟩=some (.int .i64 c.aB)/\U.cell? ⟨w.heap.size,12,none⟩=some (gg.v)/\(Instr.lookup 97 (.map (some H.lg)) (.int .i64 c.aB) false).run Tryz.prog U=.ok (.pointer (some ⟨G c.aB,0,none⟩)) U) (first|exact HS.out _ (ah.of (Below.refl _ _).drew)|exact HE.out) (first
   | (go_at_call 191;(with_reducible refine (Sd.out W.drew (Below.refl _ _).drew).mono ?_);rintro e w1 ⟨p1,c1,rfl,hO1,hb1⟩;have PC:Hid (Below W.heap.size W w1):=aa (Below.refl _ _).drew hb1;have HE:=ab (HS.out w1 (ah.of PC.out));have QP:=ab hO1;clear hO1 hb1))
 have Ru:=ab (BO (HD.out.later PC.out) HF.out.iv)
 have k14:=(HD.out.later PC.out).kb 14 _ rfl
 have e0:¬P.dF H.pm s.px s.P=true:=by rw [Qj.out];decide
 have e1:P.Gs H.pm s.px s.P=s.px:=by unfold P.Gs;rw [if_neg e0]
 have e2:P.E7 H.pm s.px s.P=0:=by unfold P.E7;rw [if_neg e0]
 have e3:P.zl H.pm s.px s.P=s.px+1:=by unfold P.zl;rw [if_neg e0]
 have e4:P.yY H.pm s.px s.P=s.P++[s.px]:=by unfold P.yY;rw [if_neg e0]
 rw [e1,e2,e3,e4] at Ru;clear e0 e1 e2 e3 e4;go_upto_region 5 with (first|(go_at_call 192;refine Ru.out.mono ?_;rintro e w3 ⟨rfl,N2,hd3,hw3⟩;have Qs:=ab hd3;have QR:Hid (aK w1 N w3 N2):=hw3;clear hd3 hw3 k14))
 have Sk:Hid (Rd w3 p1 Kl.length Kl):=(Ow.rd QP.out rfl).but QR.out.2 (λk hk e=>HN.out k (by have:=(QP.out.bT k hk).1;have h3:W.drew.heap.size=W.heap.size:=rfl;have:=HB.out.size;omega) e)
 have R6:=ab HF.out.iv
 have TB:=ab (vg Qs.out ⟨HF.out.lm.2,HF.out.lm.1⟩ s.px (λj hj=>by have hj2:j∈s.ks:=hj;rw [HF.out.ks] at hj2;exact R6.out.hi j hj2) (by have h1:=R6.out.x1;have h2:=R6.out.x2;omega) (by show s.ks.length<=32;rw [HF.out.ks];exact R6.out.dK) (cp:=c1) Sk.out WX.out)
 go_upto_region 8 with (first|(go_at_call 98;refine TB.out.mono ?_;rintro e w4 ⟨rfl,N3,hd4,hw4⟩;have U1:=ab hd4;have Ss:Hid (aK W N w4 N3):=(aK.later PC.out).trans (QR.out.trans hw4);clear hd4 hw4))
 have Rz:=ab (HZ.out.but Ss.out.2 (HN.out _ (by omega)))
 have Tf:Hid (¬N3 (w.heap.size+1)):=Ss.out.out HZ.out.lt (HN.out _ (by omega))
 have PO:=ab (Rz.out)
 have PT:=ab (PO.out.st ⟨0,(0,0,0),[],s.px⟩ none 0 0)
 have PU:=ab (PO.out.lv ⟨0,(0,0,0),[],s.px⟩ none 0 0)
 have PK:Hid (ah (·=w.heap.size+1) (w4) ((w4).setCells (w.heap.size+1) 0 (fM ⟨0,(0,0,0),[],s.px⟩ none 0 0))):=R.ay (S:=(·=w.heap.size+1)) rfl _ 0 (ah.refl _ _)
 go_wp2_with (first|((with_reducible refine bm PT.out ?_ ?_ ?_);(· rfl);(· rfl)))
 exact bodyPost_ret (v:=dw ⟨0,(0,0,0),[],s.px⟩ none 0 0) (by simp [results,Tryz.results109,asAddr,PU.out]) rfl ⟨rfl,N3,U1.out.but PK.out (λk hk e=>Tf.out (e ▸ hk)) (λe=>by have:0=w.heap.size+1:=e;omega),(aK.trans (aK.later (N:=N) HB.out) Ss.out).1,((aK.trans (aK.later (N:=N) HB.out) Ss.out).2).comp PK.out (λi e=>.inr (by omega))⟩
end
end Go.Proofs.YtffmodpgddecnaaGreatDoor.V
namespace Go.Proofs.YtffmodpgddecnaaGreatDoor.V
open Go.RowKit
open Go.Proofs.YtffmodpgddecnaaGreatDoor.H (aq Cp)
section
variable {w w':World}{H:Hd}{s s':aP}{d d':Nat->List K.Pu}{O:Nat->Nat->Prop}{N:Nat->Prop}{c:R.Cl}{dd gg:R.Sl}{b:Nat}
theorem wS (h:aI w H s d N)(hf:KF H.p s)(hm:S.fv H.z.room H.z.n s.nx s.V c.size≠0) :
  Calls Tryz.prog 101 #[.pointer (some ⟨H.kb,0,none⟩),.agg (R.cC c dd gg).toArray] w λe w'=>e=.returned (dw (rep (S.fv H.z.room H.z.n s.nx s.V c.size)) none 0 0)/\Below w.heap.size w w':=by
 obtain⟨W,hW⟩:∃W,W=(w.alloc (Obj.cells (R.cC c dd gg).toArray 44)).alloc z6:=⟨_,rfl⟩
 have hB:Below w.heap.size w W:=by rw [hW];exact aC _ _ _
 have hX:R.Bx W w.heap.size (R.cC c dd gg):=by rw [hW];exact R.Bx.later (ae _ _) (R.Bx.new w (R.cC c dd gg) 44)
 have hZ:Zr W (w.heap.size+1):=by rw [hW];have:=Zr.new (w.alloc (Obj.cells (R.cC c dd gg).toArray 44));simpa using this
 have h2:=h.later hB
 have HC:=ab (λ(U:World) (hU:Below W.heap.size W U)=>FX (h2.later hU) c.size)
 have HS:Hid (∀U {s d},aI U H s d N->ah N W U->U.cell? ⟨H.kb,11,none⟩=some (.pointer (some ⟨H.z.s,0,none⟩))/\U.cell? ⟨w.heap.size,2,none⟩=some (.int .i64 c.size)):=λU s d hd hb=>by
  have:=Cb.of (R.Bx.but hb hX (h.new (Nat.le_refl _)))
  exact⟨hd.kb 11 _ rfl,this.c2⟩
 have H0:=ab (λU (hU:ah (λ_=>False) W U)=>HS.out U (h2.but hU (λ_ _ h=>h) (λh=>h)) (hU.mono (λ_ h=>h.elim)))
 generalize S.fv H.z.room H.z.n s.nx s.V c.size=m at *
 have hq:(m != 0)=true:=by simpa using hm
 have HW:=ab hW
 have HB:=ab hB
 have HX:=ab hX
 have HZ:=ab hZ
 have HD:=ab h2
 have HP:Hid (0<w.heap.size):=by have:=h.b0;unfold Hid;omega
 have HN:=ab (λk hk=>h.new (k:=k) hk)
 clear h h2 hB hX hZ hW hm hf;go_enter Tryz.func101,Tryz.ntmps101
 go_upto_region 1 with fail
 rw [<-HW.out];go_region_held3 (λU=>U.cell? ⟨H.kb,11,none⟩=some (.pointer (some ⟨H.z.s,0,none⟩))/\U.cell? ⟨w.heap.size,2,none⟩=some (.int .i64 c.size)) (first|exact H0.out _ (ah.of (Below.refl _ _).drew)|exact HE.out) (first
   | (go_at_call 179;refine (HC.out _ (Below.refl _ _).drew).mono ?_;rintro e w1 ⟨rfl,hb_⟩;have PC:Hid (Below W.heap.size W w1):=aa (Below.refl _ _).drew hb_;have HE:=ab (H0.out w1 (ah.of PC.out));clear hb_))
 have HR:=ab (bE m w1)
 go_upto_region 3 with fail
 go_upto_region 4 with (first|(go_at_call 47;refine HR.out.mono ?_;rintro e w2 ⟨rfl,hb2⟩;have PB:Hid (Below W.heap.size W w2):=aa PC.out hb2;have PO:=ab (HZ.out.later PB.out);have PT:=ab (PO.out.st (rep m) none 0 0);have PU:=ab (PO.out.lv (rep m) none 0 0);clear hb2)|((with_reducible refine bm PT.out ?_ ?_ ?_);(· rfl);(· rfl)))
 have PK:Hid (ah (·=w.heap.size+1) w2 (w2.setCells (w.heap.size+1) 0 (fM (rep m) none 0 0))):=R.ay (S:=(·=w.heap.size+1)) rfl _ 0 (ah.refl _ _)
 exact bodyPost_ret (v:=dw (rep m) none 0 0) (by simp [results,Tryz.results101,asAddr,PU.out]) rfl ⟨rfl,ah.below (aa HB.out PB.out) PK.out (λk e=>by omega)⟩
theorem ue (h:aI w H s d N)(hf:KF H.p s)(hm:S.fv H.z.room H.z.n s.nx s.V c.size=0)(hr:(D.bD H.p.d s.d s.nx).code≠0) :
  Calls Tryz.prog 101 #[.pointer (some ⟨H.kb,0,none⟩),.agg (R.cC c dd gg).toArray] w λe w'=>e=.returned (dw (rep (D.bD H.p.d s.d s.nx).code) none 0 0)/\aI w' H (iP s (D.bD H.p.d s.d s.nx).s) d N/\ah N w w':=by
 obtain⟨W,hW⟩:∃W,W=(w.alloc (Obj.cells (R.cC c dd gg).toArray 44)).alloc z6:=⟨_,rfl⟩
 have hB:Below w.heap.size w W:=by rw [hW];exact aC _ _ _
 have hX:R.Bx W w.heap.size (R.cC c dd gg):=by rw [hW];exact R.Bx.later (ae _ _) (R.Bx.new w (R.cC c dd gg) 44)
 have hZ:Zr W (w.heap.size+1):=by rw [hW];have:=Zr.new (w.alloc (Obj.cells (R.cC c dd gg).toArray 44));simpa using this
 have h2:=h.later hB
 have HC:=ab (λ(U:World) (hU:Below W.heap.size W U)=>FX (h2.later hU) c.size)
 have HS:Hid (∀U {s d},aI U H s d N->ah N W U->U.cell? ⟨H.kb,11,none⟩=some (.pointer (some ⟨H.z.s,0,none⟩))/\U.cell? ⟨w.heap.size,2,none⟩=some (.int .i64 c.size)):=λU s d hd hb=>by
  have:=Cb.of (R.Bx.but hb hX (h.new (Nat.le_refl _)))
  exact⟨hd.kb 11 _ rfl,this.c2⟩
 have H0:=ab (λU (hU:ah (λ_=>False) W U)=>HS.out U (h2.but hU (λ_ _ h=>h) (λh=>h)) (hU.mono (λ_ h=>h.elim)))
 have hq:(S.fv H.z.room H.z.n s.nx s.V c.size != 0)=false:=by simpa using hm
 rw [hm] at HC;have HF:=ab hf
 have RO:Hid (S.bp s.nx):=by have:=hf.nx;unfold Hid S.bp;omega
 have HM:=ab hm
 obtain⟨A,hA⟩:∃A,A=D.bD H.p.d s.d s.nx:=⟨_,rfl⟩
 rw [<-hA] at hr ⊢
 have HA:=ab hA
 have Se:=ab hr
 have HW:=ab hW
 have HB:=ab hB
 have HX:=ab hX
 have HZ:=ab hZ
 have HD:=ab h2
 have HP:Hid (0<w.heap.size):=by have:=h.b0;unfold Hid;omega
 have HN:=ab (λk hk=>h.new (k:=k) hk)
 clear h h2 hB hX hZ hW hm hf hq hA hr;go_enter Tryz.func101,Tryz.ntmps101
 go_upto_region 1 with fail
 rw [<-HW.out];go_region_held3 (λU=>U.cell? ⟨H.kb,11,none⟩=some (.pointer (some ⟨H.z.s,0,none⟩))/\U.cell? ⟨w.heap.size,2,none⟩=some (.int .i64 c.size)) (first|exact H0.out _ (ah.of (Below.refl _ _).drew)|exact HE.out) (first
   | (go_at_call 179;refine (HC.out _ (Below.refl _ _).drew).mono ?_;rintro e w1 ⟨rfl,hb_⟩;have PC:Hid (Below W.heap.size W w1):=aa (Below.refl _ _).drew hb_;have HE:=ab (H0.out w1 (ah.of PC.out));clear hb_))
 have Qe:=ab (R.Bx.later PC.out HX.out)
 have P6:=ab (HD.out.later PC.out)
 have Qo:=ab (HZ.out.later PC.out)
 have P_:Hid (w.heap.size<=w1.heap.size):=Nat.le_trans HB.out.size PC.out.size
 have QT:Hid (∀U {s d},aI U H s d N->ah N w1 U->U.cell? ⟨H.kb,10,none⟩=some (.pointer (some ⟨H.g,0,none⟩))/\U.cell? ⟨H.kb,11,none⟩=some (.pointer (some ⟨H.z.s,0,none⟩))/\U.cell? ⟨H.kb,12,none⟩=some (.pointer (some ⟨H.A.g,0,none⟩))/\U.cell? ⟨H.kb,13,none⟩=some (.pointer (some ⟨H.qg,0,none⟩))/\U.cell? ⟨w.heap.size,2,none⟩=some (.int .i64 c.size)):=λU s d hd hb=>by
  have:=Cb.of (R.Bx.but hb Qe.out (HN.out _ (Nat.le_refl _)))
  exact⟨hd.kb 10 _ rfl,hd.kb 11 _ rfl,hd.kb 12 _ rfl,hd.kb 13 _ rfl,this.c2⟩
 have Qv:=ab (λU (hU:ah (λ_=>False) w1 U)=>QT.out U (P6.out.but hU (λ_ _ h=>h) (λh=>h)) (hU.mono (λ_ h=>h.elim)))
 have SC:=ab (λ(U:World) (hU:Below w1.heap.size w1 U)=>yE (P6.out.later hU))
 have QA:=ab (λ(U:World) (hU:Below w1.heap.size w1 U)=>Ex (P6.out.later hU) HF.out s.nx (Hg RO.out))
 rw [<-HA.out] at QA;clear HE HC H0;go_upto_region 4 with fail
 go_cut [6,7] (λs5 s6 U=>∃b,s5=.pointer (some ⟨b,0,none⟩)/\s6=.int .i64 A.code/\Hid (w1.heap.size<=b/\∃u,(aI u H (iP s A.s) d N/\ah N w1 u)/\Bc u U b A.c))
 case first =>
  go_region_held3 (λU=>U.cell? ⟨H.kb,10,none⟩=some (.pointer (some ⟨H.g,0,none⟩))/\U.cell? ⟨H.kb,11,none⟩=some (.pointer (some ⟨H.z.s,0,none⟩))/\U.cell? ⟨H.kb,12,none⟩=some (.pointer (some ⟨H.A.g,0,none⟩))/\U.cell? ⟨H.kb,13,none⟩=some (.pointer (some ⟨H.qg,0,none⟩))/\U.cell? ⟨w.heap.size,2,none⟩=some (.int .i64 c.size)) (first|exact Qv.out _ (ah.of (Below.refl _ _).drew)|exact Qv.out _ (ah.of (ae _ _).drew)|exact Qv.out _ (ah.of (ae _ _))|exact HE.out _ (ah.refl _ _)|exact HE.out _ (ah.of (ae _ _))|exact HE.out _ (L.cA (S:=λk=>k=w1.heap.size) (b:=w1.heap.size) (ah.refl _ u_) rfl _)) (first
   | (go_at_call 53;refine (SC.out _ (Below.refl _ _).drew).mono ?_;rintro e u9 ⟨rfl,hw9⟩;obtain rfl:=hw9.symm)|(go_at_call 53;refine (SC.out _ (ae _ _).drew).mono ?_;rintro e u9 ⟨rfl,hw9⟩;obtain rfl:=hw9.symm)|(go_at_call 180;refine (QA.out _ (ae _ _).drew).mono ?_;rintro e u_ ⟨rfl,hd_,hb_⟩;have PH:Hid (ah N w1 u_):=(ah.of (S:=N) (ae w1 (Obj.cells #[.int .i64 0,.int .u64 0,.int .u64 0] 37)).drew).trans hb_;have Qa:=ab (And.intro hd_ PH.out);have hzc:=(Zb.FJ w1).but (show ah N (w1.alloc (Obj.cells #[.int .i64 0,.int .u64 0,.int .u64 0] 37)).drew u_ from hb_) (HN.out _ P_.out);have TC:=ab hzc;have HE:=ab (λU (hU:ah (λk=>k=w1.heap.size) u_ U)=>QT.out U (hd_.but hU (λk hk e=>HN.out k (by have h9:w1.heap.size<=_:=(Nat.le_refl _);have:=P_.out;omega) hk) (λe=>by have h9:w1.heap.size<=_:=(Nat.le_refl _);have:=P_.out;have:=HP.out;omega)) (PH.out.comp hU (λi e=>.inr (by have h9:w1.heap.size<=_:=(Nat.le_refl _);omega))));obtain⟨⟨z0,f0⟩,⟨z1,f1⟩,⟨z2,f2⟩⟩:=hzc;clear hb_)
   | (go_at_call 180;refine (QA.out _ (Below.refl _ _).drew).mono ?_;rintro e u_ ⟨rfl,hd_,hb_⟩;have PH:Hid (ah N w1 u_):=(ah.of (S:=N) (Below.refl w1.heap.size w1).drew).trans hb_;have Qa:=ab (And.intro hd_ PH.out);have HE:=ab (λU (hU:ah (λk=>k=u_.heap.size) u_ U)=>QT.out U (hd_.but hU (λk hk e=>HN.out k (by have h9:w1.heap.size<=_:=PH.out.size;have:=P_.out;omega) hk) (λe=>by have h9:w1.heap.size<=_:=PH.out.size;have:=P_.out;have:=HP.out;omega)) (PH.out.comp hU (λi e=>.inr (by have h9:w1.heap.size<=_:=PH.out.size;omega))));clear hb_))
  all_goals (try go_wp2)
  all_goals go_meet
  all_goals (first|exact⟨_,rfl,rfl,Nat.le_refl _,u_,Qa.out,Bc.first TC.out _⟩|exact⟨_,rfl,rfl,PH.out.size,u_,Qa.out,Bc.oc u_ _⟩)
 case rest =>
 rename World=>v
 obtain⟨b,rfl,rfl,HR⟩:=hcut
 obtain⟨hlo,u,⟨hd3,hb3⟩,hbc⟩:=HR.out
 obtain⟨hv,v0,v1,v2⟩:=hbc
 have hsz:=P_.out
 have Rx:=ab (hd3.but hv (λk hk e=>HN.out k (by omega) hk) (λe=>by have:=HP.out;omega))
 have Qc:Hid (ah N w1 v):=hb3.comp hv (λi e=>.inr (by omega))
 have Rz:=ab (Qo.out.but Qc.out (HN.out _ (by omega)))
 have Vf:=ab (R.Bx.but Qc.out Qe.out (HN.out _ (Nat.le_refl _)))
 have Ub:Hid (w1.heap.size<=b):=hlo
 have hvs:=hv.size
 have P3:Hid (b<v.heap.size):=World.block_lt_of_cell? _ _ v0
 clear hlo hd3 hb3 hv hsz HR hvs;have hqr:(A.code != 0)=true:=by simpa using Se.out
 clear v0 v1 v2;have HR:=ab (bE A.code v)
 go_upto_region 6 with fail
 go_upto_region 7 with (first|(go_at_call 47;refine HR.out.mono ?_;rintro e w2 ⟨rfl,hb2⟩;have PB:Hid (Below v.heap.size v w2):=hb2;have PO:=ab (Rz.out.later PB.out);have PT:=ab (PO.out.st (rep A.code) none 0 0);have PU:=ab (PO.out.lv (rep A.code) none 0 0);clear hb2)|((with_reducible refine bm PT.out ?_ ?_ ?_);(· rfl);(· rfl)))
 have PK:Hid (ah (·=w.heap.size+1) w2 (w2.setCells (w.heap.size+1) 0 (fM (rep A.code) none 0 0))):=R.ay (S:=(·=w.heap.size+1)) rfl _ 0 (ah.refl _ _)
 exact bodyPost_ret (v:=dw (rep A.code) none 0 0) (by simp [results,Tryz.results101,asAddr,PU.out]) rfl ⟨rfl,(Rx.out.later PB.out).but PK.out (λk hk e=>HN.out k (by omega) hk) (λe=>by have:0=w.heap.size+1:=e;omega),((ah.of (aa HB.out PC.out)).trans (Qc.out.call PB.out)).comp PK.out (λi e=>.inr (by omega))⟩
theorem jR (h:aI w H s d N)(hf:KF H.p s)(hm:S.fv H.z.room H.z.n s.nx s.V c.size=0)(hr:(D.bD H.p.d s.d s.nx).code=0) :
  Calls Tryz.prog 101 #[.pointer (some ⟨H.kb,0,none⟩),.agg (R.cC c dd gg).toArray] w λe w'=>e=.returned (dw ⟨0,(D.bD H.p.d s.d s.nx).c,[],0⟩ none 0 0)/\∃N',aI w' H { iP s (D.bD H.p.d s.d s.nx).s with nx:=s.nx+1,V:=s.V++[(s.nx,List.replicate c.size.toNat 0)] } d N'/\aK w N w' N':=by
 obtain⟨W,hW⟩:∃W,W=(w.alloc (Obj.cells (R.cC c dd gg).toArray 44)).alloc z6:=⟨_,rfl⟩
 have hB:Below w.heap.size w W:=by rw [hW];exact aC _ _ _
 have hX:R.Bx W w.heap.size (R.cC c dd gg):=by rw [hW];exact R.Bx.later (ae _ _) (R.Bx.new w (R.cC c dd gg) 44)
 have hZ:Zr W (w.heap.size+1):=by rw [hW];have:=Zr.new (w.alloc (Obj.cells (R.cC c dd gg).toArray 44));simpa using this
 have h2:=h.later hB
 have HC:=ab (λ(U:World) (hU:Below W.heap.size W U)=>FX (h2.later hU) c.size)
 have HS:Hid (∀U {s d},aI U H s d N->ah N W U->U.cell? ⟨H.kb,11,none⟩=some (.pointer (some ⟨H.z.s,0,none⟩))/\U.cell? ⟨w.heap.size,2,none⟩=some (.int .i64 c.size)):=λU s d hd hb=>by
  have:=Cb.of (R.Bx.but hb hX (h.new (Nat.le_refl _)))
  exact⟨hd.kb 11 _ rfl,this.c2⟩
 have H0:=ab (λU (hU:ah (λ_=>False) W U)=>HS.out U (h2.but hU (λ_ _ h=>h) (λh=>h)) (hU.mono (λ_ h=>h.elim)))
 have hq:(S.fv H.z.room H.z.n s.nx s.V c.size != 0)=false:=by simpa using hm
 rw [hm] at HC;have HF:=ab hf
 have RO:Hid (S.bp s.nx):=by have:=hf.nx;unfold Hid S.bp;omega
 have HM:=ab hm
 obtain⟨A,hA⟩:∃A,A=D.bD H.p.d s.d s.nx:=⟨_,rfl⟩
 rw [<-hA] at hr ⊢
 have HA:=ab hA
 have Se:=ab hr
 have HW:=ab hW
 have HB:=ab hB
 have HX:=ab hX
 have HZ:=ab hZ
 have HD:=ab h2
 have HP:Hid (0<w.heap.size):=by have:=h.b0;unfold Hid;omega
 have HN:=ab (λk hk=>h.new (k:=k) hk)
 clear h h2 hB hX hZ hW hm hf hq hA hr;go_enter Tryz.func101,Tryz.ntmps101
 go_upto_region 1 with fail
 rw [<-HW.out];go_region_held3 (λU=>U.cell? ⟨H.kb,11,none⟩=some (.pointer (some ⟨H.z.s,0,none⟩))/\U.cell? ⟨w.heap.size,2,none⟩=some (.int .i64 c.size)) (first|exact H0.out _ (ah.of (Below.refl _ _).drew)|exact HE.out) (first
   | (go_at_call 179;refine (HC.out _ (Below.refl _ _).drew).mono ?_;rintro e w1 ⟨rfl,hb_⟩;have PC:Hid (Below W.heap.size W w1):=aa (Below.refl _ _).drew hb_;have HE:=ab (H0.out w1 (ah.of PC.out));clear hb_))
 have Qe:=ab (R.Bx.later PC.out HX.out)
 have P6:=ab (HD.out.later PC.out)
 have Qo:=ab (HZ.out.later PC.out)
 have P_:Hid (w.heap.size<=w1.heap.size):=Nat.le_trans HB.out.size PC.out.size
 have QT:Hid (∀U {s d},aI U H s d N->ah N w1 U->U.cell? ⟨H.kb,10,none⟩=some (.pointer (some ⟨H.g,0,none⟩))/\U.cell? ⟨H.kb,11,none⟩=some (.pointer (some ⟨H.z.s,0,none⟩))/\U.cell? ⟨H.kb,12,none⟩=some (.pointer (some ⟨H.A.g,0,none⟩))/\U.cell? ⟨H.kb,13,none⟩=some (.pointer (some ⟨H.qg,0,none⟩))/\U.cell? ⟨w.heap.size,2,none⟩=some (.int .i64 c.size)):=λU s d hd hb=>by
  have:=Cb.of (R.Bx.but hb Qe.out (HN.out _ (Nat.le_refl _)))
  exact⟨hd.kb 10 _ rfl,hd.kb 11 _ rfl,hd.kb 12 _ rfl,hd.kb 13 _ rfl,this.c2⟩
 have Qv:=ab (λU (hU:ah (λ_=>False) w1 U)=>QT.out U (P6.out.but hU (λ_ _ h=>h) (λh=>h)) (hU.mono (λ_ h=>h.elim)))
 have SC:=ab (λ(U:World) (hU:Below w1.heap.size w1 U)=>yE (P6.out.later hU))
 have QA:=ab (λ(U:World) (hU:Below w1.heap.size w1 U)=>Ex (P6.out.later hU) HF.out s.nx (Hg RO.out))
 rw [<-HA.out] at QA;clear HE HC H0;go_upto_region 4 with fail
 go_cut [6,7] (λs5 s6 U=>∃b,s5=.pointer (some ⟨b,0,none⟩)/\s6=.int .i64 A.code/\Hid (w1.heap.size<=b/\∃u,(aI u H (iP s A.s) d N/\ah N w1 u)/\Bc u U b A.c))
 case first =>
  go_region_held3 (λU=>U.cell? ⟨H.kb,10,none⟩=some (.pointer (some ⟨H.g,0,none⟩))/\U.cell? ⟨H.kb,11,none⟩=some (.pointer (some ⟨H.z.s,0,none⟩))/\U.cell? ⟨H.kb,12,none⟩=some (.pointer (some ⟨H.A.g,0,none⟩))/\U.cell? ⟨H.kb,13,none⟩=some (.pointer (some ⟨H.qg,0,none⟩))/\U.cell? ⟨w.heap.size,2,none⟩=some (.int .i64 c.size)) (first|exact Qv.out _ (ah.of (Below.refl _ _).drew)|exact Qv.out _ (ah.of (ae _ _).drew)|exact Qv.out _ (ah.of (ae _ _))|exact HE.out _ (ah.refl _ _)|exact HE.out _ (ah.of (ae _ _))|exact HE.out _ (L.cA (S:=λk=>k=w1.heap.size) (b:=w1.heap.size) (ah.refl _ u_) rfl _)) (first
   | (go_at_call 53;refine (SC.out _ (Below.refl _ _).drew).mono ?_;rintro e u9 ⟨rfl,hw9⟩;obtain rfl:=hw9.symm)|(go_at_call 53;refine (SC.out _ (ae _ _).drew).mono ?_;rintro e u9 ⟨rfl,hw9⟩;obtain rfl:=hw9.symm)|(go_at_call 180;refine (QA.out _ (ae _ _).drew).mono ?_;rintro e u_ ⟨rfl,hd_,hb_⟩;have PH:Hid (ah N w1 u_):=(ah.of (S:=N) (ae w1 (Obj.cells #[.int .i64 0,.int .u64 0,.int .u64 0] 37)).drew).trans hb_;have Qa:=ab (And.intro hd_ PH.out);have hzc:=(Zb.FJ w1).but (show ah N (w1.alloc (Obj.cells #[.int .i64 0,.int .u64 0,.int .u64 0] 37)).drew u_ from hb_) (HN.out _ P_.out);have TC:=ab hzc;have HE:=ab (λU (hU:ah (λk=>k=w1.heap.size) u_ U)=>QT.out U (hd_.but hU (λk hk e=>HN.out k (by have h9:w1.heap.size<=_:=(Nat.le_refl _);have:=P_.out;omega) hk) (λe=>by have h9:w1.heap.size<=_:=(Nat.le_refl _);have:=P_.out;have:=HP.out;omega)) (PH.out.comp hU (λi e=>.inr (by have h9:w1.heap.size<=_:=(Nat.le_refl _);omega))));obtain⟨⟨z0,f0⟩,⟨z1,f1⟩,⟨z2,f2⟩⟩:=hzc;clear hb_)
   | (go_at_call 180;refine (QA.out _ (Below.refl _ _).drew).mono ?_;rintro e u_ ⟨rfl,hd_,hb_⟩;have PH:Hid (ah N w1 u_):=(ah.of (S:=N) (Below.refl w1.heap.size w1).drew).trans hb_;have Qa:=ab (And.intro hd_ PH.out);have HE:=ab (λU (hU:ah (λk=>k=u_.heap.size) u_ U)=>QT.out U (hd_.but hU (λk hk e=>HN.out k (by have h9:w1.heap.size<=_:=PH.out.size;have:=P_.out;omega) hk) (λe=>by have h9:w1.heap.size<=_:=PH.out.size;have:=P_.out;have:=HP.out;omega)) (PH.out.comp hU (λi e=>.inr (by have h9:w1.heap.size<=_:=PH.out.size;omega))));clear hb_))
  all_goals (try go_wp2)
  all_goals go_meet
  all_goals (first|exact⟨_,rfl,rfl,Nat.le_refl _,u_,Qa.out,Bc.first TC.out _⟩|exact⟨_,rfl,rfl,PH.out.size,u_,Qa.out,Bc.oc u_ _⟩)
 case rest =>
 rename World=>v
 obtain⟨b,rfl,rfl,HR⟩:=hcut
 obtain⟨hlo,u,⟨hd3,hb3⟩,hbc⟩:=HR.out
 obtain⟨hv,v0,v1,v2⟩:=hbc
 have hsz:=P_.out
 have Rx:=ab (hd3.but hv (λk hk e=>HN.out k (by omega) hk) (λe=>by have:=HP.out;omega))
 have Qc:Hid (ah N w1 v):=hb3.comp hv (λi e=>.inr (by omega))
 have Rz:=ab (Qo.out.but Qc.out (HN.out _ (by omega)))
 have Vf:=ab (R.Bx.but Qc.out Qe.out (HN.out _ (Nat.le_refl _)))
 have Ub:Hid (w1.heap.size<=b):=hlo
 have hvs:=hv.size
 have P3:Hid (b<v.heap.size):=World.block_lt_of_cell? _ _ v0
 clear hlo hd3 hb3 hv hsz HR hvs;have hqr:(A.code != 0)=false:=by simpa using Se.out
 have HV:Hid (v.cell? ⟨b,0,none⟩=some (.int .i64 A.c.1)/\v.cell? ⟨b,1,none⟩=some (.int .u64 (A.c.2.1:Int))/\v.cell? ⟨b,2,none⟩=some (.int .u64 (A.c.2.2:Int))):=⟨v0,v1,v2⟩
 clear v0 v1 v2;have Wq:=ab (λ(U:World) (hU:Below v.heap.size v U)=>Cs (Rx.out.later hU) c.size HM.out)
 have WB:Hid (∀U,ah (λ_=>False) v U->U.cell? ⟨H.kb,11,none⟩=some (.pointer (some ⟨H.z.s,0,none⟩))/\U.cell? ⟨w.heap.size,2,none⟩=some (.int .i64 c.size)):=λU hU=>by
  have:=Cb.of (R.Bx.but hU Vf.out (λh=>h))
  exact⟨ag hU (Rx.out.kb 11 _ rfl) (λh=>h),this.c2⟩
 go_upto_region 7 with fail
 go_region_held3 (λU=>U.cell? ⟨H.kb,11,none⟩=some (.pointer (some ⟨H.z.s,0,none⟩))/\U.cell? ⟨w.heap.size,2,none⟩=some (.int .i64 c.size)) (first|exact WB.out _ (ah.of (Below.refl _ _).drew)|exact HE.out) (first
   | (go_at_call 181;refine (Wq.out _ (Below.refl _ _).drew).mono ?_;rintro e u2 ⟨rfl,N2,hd2,hw2⟩;have Qn:=ab hd2;have Qd:Hid (aK v N u2 N2):=(aK.later (Below.refl _ _).drew).trans hw2;have HE:Hid (u2.cell? ⟨H.kb,11,none⟩=some (.pointer (some ⟨H.z.s,0,none⟩))/\u2.cell? ⟨w.heap.size,2,none⟩=some (.int .i64 c.size)):=⟨hd2.kb 11 _ rfl,(Cb.of (R.Bx.but Qd.out.2 Vf.out (HN.out _ (Nat.le_refl _)))).c2⟩;clear hd2 hw2))
 obtain⟨v0,v1,v2⟩:=HV.out
 have hlo:=Ub.out
 have hsz:=P_.out
 have hbb:¬N b:=HN.out _ (by omega)
 have v0:=ag Qd.out.2 v0 hbb
 have v1:=ag Qd.out.2 v1 hbb
 have v2:=ag Qd.out.2 v2 hbb
 have PO:=ab (Rz.out.but Qd.out.2 (HN.out _ (by omega)))
 have PT:=ab (PO.out.st ⟨0,A.c,[],0⟩ none 0 0)
 have PU:=ab (PO.out.lv ⟨0,A.c,[],0⟩ none 0 0)
 have PK:Hid (ah (·=w.heap.size+1) u2 (u2.setCells (w.heap.size+1) 0 (fM ⟨0,A.c,[],0⟩ none 0 0))):=R.ay (S:=(·=w.heap.size+1)) rfl _ 0 (ah.refl _ _)
 clear hlo hsz hbb;go_wp2_with (first|((with_reducible refine bm PT.out ?_ ?_ ?_);(· rfl);(· rfl)))
 refine bodyPost_ret (v:=dw ⟨0,A.c,[],0⟩ none 0 0) (by simp [results,Tryz.results101,asAddr,PU.out]) rfl ⟨rfl,N2,Qn.out.but PK.out (λk hk e=>?_) (λe=>by have:0=w.heap.size+1:=e;omega),?_⟩
 ·have h1:=Rz.out.lt
  exact Qd.out.out (by omega) (HN.out _ (by omega)) hk
 ·have h0:aK w N v N:=⟨λk h=>.inl h,(ah.of (aa HB.out PC.out)).trans Qc.out⟩
  have h1:=h0.trans Qd.out
  exact⟨h1.1,h1.2.comp PK.out (λi e=>.inr (by omega))⟩
end
end Go.Proofs.YtffmodpgddecnaaGreatDoor.V
