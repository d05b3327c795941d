import Derived.Test.YtfmhdimaijimlaaGreatDoorG26
set_option linter.unusedVariables false
set_option linter.unusedSimpArgs false
set_option maxRecDepth 1000000
set_option maxHeartbeats 8000000
namespace Go.Proofs.YtfmhdimaijimlaaGreatDoor.V
open Go.RowKit
open Go.Proofs.YtfmhdimaijimlaaGreatDoor.H (B64 Cp)
section
variable {w w':World}{H:Hd}{s s':Sta}{d d':Nat→List K.Pu}{O:Nat→Nat→Prop}{N:Nat→Prop}{c:R.Cl}{dd gg:R.Sl}{b:Nat}
theorem Zb.mk1 (w:World):Zb (w.alloc (Obj.cells #[.int .i64 0,.int .u64 0,.int .u64 0] 38)) w.heap.size:=⟨⟨by simp [go_sem],by simp [go_sem]⟩,⟨by simp [go_sem],by simp [go_sem]⟩,⟨by simp [go_sem],by simp [go_sem]⟩⟩
theorem Zb.later (h:Zb w b)(hb:Below w.heap.size w w'):Zb w' b:=h.but (B:=fun _=>False) (But.of hb) (fun h=>h)
theorem KF.by64 (hf:KF H.p s){i:Int}(hi:i∈s.P):-9223372036854775808≤i∧i<9223372036854775808:=by
 have h1:=hf.iv.lo i hi
 have h2:=hf.iv.hi i hi
 have h3:=hf.iv.x2
 omega
theorem KF.len32 (hf:KF H.p s){i:Int}(hi:i∈s.P):(s.D i).length≤32:=by
 have h1:=hf.ln i hi
 have h2:=hf.lm.2
 omega
theorem valid_named (h:Duo w H s d N)(ht:L.Tr s.X s.l d)(hf:KF H.p s)(need:Int)(hg:c.given=false)(hby:c.by_∈s.P) :
  Calls Tryz.prog 110 #[.pointer (some ⟨H.kb,0,none⟩),.agg (R.cC c dd gg).toArray,.int .i64 need] w fun e w'=>e=.returned (.int .i64 (L.namG (L.givE s.X s.l need) c.obj (s.D c.by_) 3).2)∧∃T,Duo w' H s T N∧L.Tr s.X s.l T∧But N w w':=by
 obtain⟨W,hW⟩:∃W,W=w.alloc (Obj.cells (R.cC c dd gg).toArray 45):=⟨_,rfl⟩
 have hB:Below w.heap.size w W:=by rw [hW];exact below1 _ _
 have hX:R.Bx W w.heap.size (R.cC c dd gg):=by rw [hW];exact R.Bx.new w (R.cC c dd gg) 45
 have h2:=h.later hB
 obtain⟨G,pa,cap,col,hli,-⟩:=h2.li
 have hks:c.by_∈s.ks:=by rw [hf.ks];exact hby
 have hncg:=h2.ncg
 have x6:=(Cb.of hX).c6
 rw [hg] at x6
 have HS:Hid (∀U,But (fun k=>k=H.cg) W U→U.cell? ⟨H.kb,15,none⟩=some (.map (some H.lg))∧U.cell? ⟨H.kb,16,none⟩=some (.pointer (some ⟨H.v,0,none⟩))∧U.cell? ⟨w.heap.size,1,none⟩=some (.int .i64 c.by_)∧U.cell? ⟨w.heap.size,3,none⟩=some (.int .i64 c.obj)∧(Instr.lookup 85 (.map (some H.lg)) (.int .i64 c.by_) false).run Tryz.prog U=.ok (.pointer (some ⟨G c.by_,0,none⟩)) U):=fun U hb=>by
  have hx:=Cb.of (R.Bx.but hb hX (fun e=>h.new (Nat.le_refl _) (by rw [e];exact hncg.2.2)))
  refine⟨cb_ hb (h2.kb 15 _ rfl) hncg.1,cb_ hb (h2.kb 16 _ rfl) hncg.1,hx.c1,hx.c3,?_⟩
  have hm:=S.owns_but hb hli.map hncg.2.1
  obtain⟨v,ps,hrun,hv⟩:=hm.lookup S.law3 Tryz.underlying85 (S.zero_of infoL U) (zd:=.held (.pointer none)) (zp:=[]) rfl (S.key3 (hf.by64 hby))
  rw [atKey_mapP _ _ _ hks] at hv
  simp only [S.hr,Option.some.injEq,Prod.mk.injEq,DataW.held.injEq] at hv
  rw [hrun,hv.1]
 have H0:=hid (fun U (hU:But (fun _=>False) W U)=>HS.out U (hU.mono (fun _ h=>h.elim)))
 have HAl:=hid (fun (U:World) (hU:Below W.heap.size W U)=>M.all_any ((hli.each _ hks).later hU) (hf.len32 hby))
 have HNm:=hid (fun (u1 U:World) (p:Option Addr) (cq:Nat) (hu:Below W.heap.size W u1) (hO:Ow u1 W.heap.size 38 3 p (s.D c.by_).length cq (caps (s.D c.by_))) (hU:Below u1.heap.size u1 U)=>vNamed ((h2.later hu).later hU) ht c.obj need cq ((Ow.rd hO rfl).later hU) (by have:=hf.len32 hby;omega) (hf.wd _ hby) (fun _ k hk e=>by have h1:=(h2.rng k e).2;have h2:=(hO.blk k hk).1;omega))
 have HB:=hid hB
 have HW:=hid hW
 have HN:=hid (fun k hk=>h.new (k:=k) hk)
 have HCg:Hid (H.cg<w.heap.size):=(h.rng _ hncg.2.2).2
 obtain⟨Kq,hKq⟩:∃Kq,Kq=L.namG (L.givE s.X s.l need) c.obj (s.D c.by_) 3:=⟨_,rfl⟩
 rw [←hKq] at HNm ⊢
 obtain⟨kn,hkn⟩:∃kn,kn=(s.D c.by_).length:=⟨_,rfl⟩
 obtain⟨Kl,hKl⟩:∃Kl,Kl=caps (s.D c.by_):=⟨_,rfl⟩
 rw [←hkn,←hKl] at HAl HNm
 clear h h2 hB hW ht hX hli hncg hf hby hks hKq hkn hKl
 go_enter Tryz.func110,Tryz.ntmps110
 go_upto_region 1 with fail
 rw [←HW.out]
 go_upto_region 3 with fail
 go_cut [7,8] (fun _ s8 U=>s8=.int .i64 Kq.2∧Hid (∃u b,(∃T,Duo u H s T N∧L.Tr s.X s.l T∧But N W u)∧W.heap.size≤b∧But (fun k=>k=b) u U))
 case first =>
  go_region_held3 (fun U=>U.cell? ⟨H.kb,15,none⟩=some (.map (some H.lg))∧U.cell? ⟨H.kb,16,none⟩=some (.pointer (some ⟨H.v,0,none⟩))∧U.cell? ⟨w.heap.size,1,none⟩=some (.int .i64 c.by_)∧U.cell? ⟨w.heap.size,3,none⟩=some (.int .i64 c.obj)∧(Instr.lookup 85 (.map (some H.lg)) (.int .i64 c.by_) false).run Tryz.prog U=.ok (.pointer (some ⟨G c.by_,0,none⟩)) U) (first|exact H0.out _ (But.of (Below.refl _ _).drew)|exact H0.out _ (But.of (below1 _ _).drew)|exact H0.out _ (But.of (below1 _ _))|exact HE1.out _ (Below.refl _ _)|exact HE1.out _ (below1 _ _)|exact HE.out _ (But.refl _ _)|exact HE.out _ (But.of (below1 _ _))|exact HE.out _ (L.set3_but (S:=fun k=>k=W.heap.size) (b:=W.heap.size) (But.refl _ u_) rfl _)|exact HE.out _ (L.set3_but (S:=fun k=>k=u1.heap.size) (b:=u1.heap.size) (But.refl _ u_) rfl _)) (first
   | (go_at_call 73;(with_reducible refine (HAl.out (W.alloc (Obj.cells #[.int .i64 0,.int .u64 0,.int .u64 0] 38)).drew (below1 _ _).drew).mono ?_);rintro e u1 ⟨p1,cq,rfl,hO1,hb1⟩;have HB1:Hid (Below W.heap.size W u1):=bc (below1 _ _).drew hb1;have HZ1:=hid ((Zb.mk_ W).later hb1);have HE1:=hid (fun U (hU:Below u1.heap.size u1 U)=>H0.out U (But.of (bc HB1.out hU)));have HNa:=hid (fun U (hU:Below u1.heap.size u1 U)=>HNm.out u1 U p1 cq HB1.out (hO1.mono (below1 W (Obj.cells #[.int .i64 0,.int .u64 0,.int .u64 0] 38)).size) hU);clear hO1 hb1)
   | (go_at_call 73;(with_reducible refine (HAl.out W.drew (Below.refl _ _).drew).mono ?_);rintro e u1 ⟨p1,cq,rfl,hO1,hb1⟩;have HB1:Hid (Below W.heap.size W u1):=bc (Below.refl _ _).drew hb1;have HE1:=hid (fun U (hU:Below u1.heap.size u1 U)=>H0.out U (But.of (bc HB1.out hU)));have HNa:=hid (fun U (hU:Below u1.heap.size u1 U)=>HNm.out u1 U p1 cq HB1.out hO1 hU);clear hO1 hb1)
   | (go_at_call 161;(with_reducible refine (HNa.out (u1.alloc (Obj.cells #[.int .i64 0,.int .u64 0,.int .u64 0] 38)) (below1 _ _)).mono ?_);rintro e u_ ⟨rfl,T,hd_,ht_,hb_,hb9⟩;have HPs:Hid (∃T,Duo u_ H s T N∧L.Tr s.X s.l T∧But N W u_):=⟨T,hd_,ht_,(But.of (bc HB1.out (below1 _ _))).trans hb_⟩;have hzc:=(Zb.mk1 u1).but hb9 (fun e=>by have:=HB1.out.size;have:=HB.out.size;have:=HCg.out;omega);have HE:=hid (fun U (hU:But (fun k=>k=u1.heap.size) u_ U)=>HS.out U (((But.of (bc HB1.out (below1 _ _))).trans hb9).comp hU (fun i e=>.inr (by have:=HB1.out.size;omega))));obtain⟨⟨z0,f0⟩,⟨z1,f1⟩,⟨z2,f2⟩⟩:=hzc;clear hd_ ht_ hb_ hb9)
   | (go_at_call 161;have HZ2:=HZ1;(with_reducible refine (HNa.out u1 (Below.refl _ _)).mono ?_);rintro e u_ ⟨rfl,T,hd_,ht_,hb_,hb9⟩;have HPs:Hid (∃T,Duo u_ H s T N∧L.Tr s.X s.l T∧But N W u_):=⟨T,hd_,ht_,(But.of HB1.out).trans hb_⟩;have hzc:=HZ2.out.but hb9 (fun e=>by have:=HB.out.size;have:=HCg.out;omega);have HE:=hid (fun U (hU:But (fun k=>k=W.heap.size) u_ U)=>HS.out U (((But.of HB1.out).trans hb9).comp hU (fun i e=>.inr (by omega))));obtain⟨⟨z0,f0⟩,⟨z1,f1⟩,⟨z2,f2⟩⟩:=hzc;clear hd_ ht_ hb_ hb9)
   | (go_at_call 161;(with_reducible refine (HNa.out u1 (Below.refl _ _)).mono ?_);rintro e u_ ⟨rfl,T,hd_,ht_,hb_,hb9⟩;have HPs:Hid (∃T,Duo u_ H s T N∧L.Tr s.X s.l T∧But N W u_):=⟨T,hd_,ht_,(But.of HB1.out).trans hb_⟩;have HBt:Hid (But (fun k=>k=H.cg) W u_):=(But.of HB1.out).trans hb9;have HE:=hid (fun U (hU:But (fun k=>k=u_.heap.size) u_ U)=>HS.out U (HBt.out.comp hU (fun i e=>.inr (by have:=HBt.out.size;omega))));clear hd_ ht_ hb_ hb9))
  all_goals (try go_wp2)
  all_goals go_meet
  all_goals (first|exact⟨rfl,u_,W.heap.size,HPs.out,Nat.le_refl _,L.set3_but (S:=fun k=>k=W.heap.size) (b:=W.heap.size) (But.refl _ u_) rfl Kq.1⟩|exact⟨rfl,u_,u1.heap.size,HPs.out,HB1.out.size,L.set3_but (S:=fun k=>k=u1.heap.size) (b:=u1.heap.size) (But.refl _ u_) rfl Kq.1⟩|exact⟨rfl,u_,u_.heap.size,HPs.out,HBt.out.size,But.of (below1 _ _)⟩)
 case rest =>
 rename World=>v
 obtain⟨rfl,HR⟩:=hcut
 obtain⟨u,b,⟨T,hd3,ht3,hb3⟩,hlo,hv⟩:=HR.out
 have hsz:=HB.out.size
 have HDv:=hid (hd3.but hv (fun k hk e=>HN.out k (by omega) hk) (fun e=>by have:=HCg.out;omega))
 have HBv:Hid (But N W v):=hb3.comp hv (fun i e=>.inr (by omega))
 have HTv:=hid ht3
 clear hlo hd3 hb3 hv hsz HR ht3
 go_wp2
 go_ret
 exact⟨rfl,T,HDv.out,HTv.out,(But.of HB.out).trans HBv.out⟩
end
section
variable {w w':World}{H:Hd}{s s':Sta}{d d':Nat→List K.Pu}{O:Nat→Nat→Prop}{N:Nat→Prop}{c:R.Cl}{dd gg:R.Sl}{b:Nat}
theorem valid_any (h:Duo w H s d N)(ht:L.Tr s.X s.l d)(hf:KF H.p s)(need:Int)(hw:c.hi<B64∧c.lo<B64)(hby:c.by_∈s.P) :
  Calls Tryz.prog 110 #[.pointer (some ⟨H.kb,0,none⟩),.agg (R.cC c dd gg).toArray,.int .i64 need] w fun e w'=>e=.returned (.int .i64 (valE s c.given c.by_ (cpO c) need))∧∃T,Duo w' H s T N∧L.Tr s.X s.l T∧But N w w':=by
 unfold valE
 cases hg:c.given with
 | true=>exact valid_given h ht need hg hw
 | false=>exact valid_named h ht hf need hg hby
theorem ldC (h:R.Bx w b (R.cC c dd gg)):(Instr.loadAt 45 (.pointer (some ⟨b,0,none⟩))).run Tryz.prog w=.ok (.agg (R.cC c dd gg).toArray) w:=by
 have:=R.lv41 h.range (by rfl)
 simp [Instr.loadAt,Instr.sureAddr,this]
theorem row_but0 {B:Nat→Prop}{a:Option Addr}{n cap:Nat}{Q:List Value}(h:Row w a n cap Q)(hb:But B w w')(hn:0<n→∀k,Blk a k→¬B k):Row w' a n cap Q:=by
 by_cases h0:0<n
 ·exact Row.but hb h (hn h0)
 ·have hl:=h.len
  refine⟨h.len,h.cap_,h.none_,fun x hx j u hu=>?_,h.one⟩
  have:=(List.getElem?_eq_some_iff.1 hu).1
  omega
theorem wp_store_known {P:Program}{w:World}{o:Oper}{a:Act}{K:Act→World→Prop}{Q:Exit→Act→World→Prop}(ty:TypeId)(x y:Operand)(ho:o.op=.store ty x y)(vx vy:Value)(hx:a.eval x=vx)(hy:a.eval y=vy)(w':World)
  (hr:(Instr.storeAt ty vx vy).run P w=.ok () w') (h:K (a.put o.dst undef) w'):o.wp P a w K Q:=by
 unfold Oper.wp execOp
 simp only [ho,hx,hy,hr,Sem.run_bind,Sem.run_pure,Result.andThen_ok]
 exact h
theorem read_no (h:Duo w H s d N)(ht:L.Tr s.X s.l d)(hf:KF H.p s)(hw:c.hi<B64∧c.lo<B64)(hby:c.by_∈s.P)(hv:valE s c.given c.by_ (cpO c) 1≠0) :
  Calls Tryz.prog 63 #[.pointer (some ⟨H.kb,0,none⟩),.agg (R.cC c dd gg).toArray] w fun e w'=>e=.returned (rpV (rep (valE s c.given c.by_ (cpO c) 1)) none 0 0)∧∃T,Duo w' H s T N∧L.Tr s.X s.l T∧But N w w':=by
 obtain⟨W,hW⟩:∃W,W=(w.alloc (Obj.cells (R.cC c dd gg).toArray 45)).alloc z6:=⟨_,rfl⟩
 have hB:Below w.heap.size w W:=by rw [hW];exact below2 _ _ _
 have hX:R.Bx W w.heap.size (R.cC c dd gg):=by rw [hW];exact R.Bx.later (below1 _ _) (R.Bx.new w (R.cC c dd gg) 45)
 have hZ:Zr W (w.heap.size+1):=by rw [hW];have:=Zr.new (w.alloc (Obj.cells (R.cC c dd gg).toArray 45));simpa using this
 have h2:=h.later hB
 have HC:=hid (valid_any (dd:=dd) (gg:=gg) h2 ht hf 1 hw hby)
 have HLd:=hid (ldC hX)
 obtain⟨m,hm⟩:∃m,m=valE s c.given c.by_ (cpO c) 1:=⟨_,rfl⟩
 rw [←hm] at HC hv
 have hq:(m != 0)=true:=by simpa using hv
 rw [←hm]
 have HW:=hid hW
 have HB:=hid hB
 have HX:=hid hX
 have HZ:=hid hZ
 have HD:=hid h2
 have HP:Hid (0<w.heap.size):=by have:=h.b0;unfold Hid;omega
 have HN:=hid (fun k hk=>h.new (k:=k) hk)
 clear h h2 hB hX hZ hW ht hf hv hm
 go_enter Tryz.func63,Tryz.ntmps63
 go_upto_region 1 with fail
 rw [←HW.out]
 go_upto_region 2 with (first|((with_reducible refine R.ld_arm HLd.out ?_ ?_);(· rfl))|(go_at_call 110;refine HC.out.mono ?_;rintro e w1 ⟨rfl,T,hd1,ht1,hb1⟩;have HD1:=hid hd1;have HT1:=hid ht1;have HB1:Hid (But N W w1):=hb1;clear hd1 ht1 hb1))
 have HR:=hid (refused_any m w1)
 go_upto_region 3 with fail
 go_upto_region 4 with (first|(go_at_call 31;refine HR.out.mono ?_;rintro e w2 ⟨rfl,hb2⟩;have HB2:Hid (But N W w2):=HB1.out.call hb2;have HD2:=hid (HD1.out.later hb2);have HZ9:=hid (HZ.out.but HB2.out (HN.out _ (by omega)));have HS9:=hid (HZ9.out.st (rep m) none 0 0);have HL9:=hid (HZ9.out.lv (rep m) none 0 0);clear hb2)|((with_reducible refine st_arm HS9.out ?_ ?_ ?_);(· rfl);(· rfl)))
 have HB9:Hid (But (·=w.heap.size+1) w2 (w2.setCells (w.heap.size+1) 0 (rpL (rep m) none 0 0))):=R.sb_ (S:=(·=w.heap.size+1)) rfl _ 0 (But.refl _ _)
 exact bodyPost_ret (v:=rpV (rep m) none 0 0) (by simp [results,Tryz.results63,asAddr,HL9.out]) rfl ⟨rfl,T,HD2.out.but HB9.out (fun k hk e=>HN.out k (by omega) hk) (fun e=>by have:0=w.heap.size+1:=e;omega),HT1.out,((But.of HB.out).trans HB2.out).comp HB9.out (fun i e=>.inr (by omega))⟩
theorem write_no (h:Duo w H s d N)(ht:L.Tr s.X s.l d)(hf:KF H.p s)(hw:c.hi<B64∧c.lo<B64)(hby:c.by_∈s.P)(hv:valE s c.given c.by_ (cpO c) 2≠0) :
  Calls Tryz.prog 64 #[.pointer (some ⟨H.kb,0,none⟩),.agg (R.cC c dd gg).toArray] w fun e w'=>e=.returned (rpV (rep (valE s c.given c.by_ (cpO c) 2)) none 0 0)∧∃T,Duo w' H s T N∧L.Tr s.X s.l T∧But N w w':=by
 obtain⟨W,hW⟩:∃W,W=(w.alloc (Obj.cells (R.cC c dd gg).toArray 45)).alloc z6:=⟨_,rfl⟩
 have hB:Below w.heap.size w W:=by rw [hW];exact below2 _ _ _
 have hX:R.Bx W w.heap.size (R.cC c dd gg):=by rw [hW];exact R.Bx.later (below1 _ _) (R.Bx.new w (R.cC c dd gg) 45)
 have hZ:Zr W (w.heap.size+1):=by rw [hW];have:=Zr.new (w.alloc (Obj.cells (R.cC c dd gg).toArray 45));simpa using this
 have h2:=h.later hB
 have HC:=hid (valid_any (dd:=dd) (gg:=gg) h2 ht hf 2 hw hby)
 have HLd:=hid (ldC hX)
 obtain⟨m,hm⟩:∃m,m=valE s c.given c.by_ (cpO c) 2:=⟨_,rfl⟩
 rw [←hm] at HC hv
 have hq:(m != 0)=true:=by simpa using hv
 rw [←hm]
 have HW:=hid hW
 have HB:=hid hB
 have HX:=hid hX
 have HZ:=hid hZ
 have HD:=hid h2
 have HP:Hid (0<w.heap.size):=by have:=h.b0;unfold Hid;omega
 have HN:=hid (fun k hk=>h.new (k:=k) hk)
 clear h h2 hB hX hZ hW ht hf hv hm
 go_enter Tryz.func64,Tryz.ntmps64
 go_upto_region 1 with fail
 rw [←HW.out]
 go_upto_region 2 with (first|((with_reducible refine R.ld_arm HLd.out ?_ ?_);(· rfl))|(go_at_call 110;refine HC.out.mono ?_;rintro e w1 ⟨rfl,T,hd1,ht1,hb1⟩;have HD1:=hid hd1;have HT1:=hid ht1;have HB1:Hid (But N W w1):=hb1;clear hd1 ht1 hb1))
 have HR:=hid (refused_any m w1)
 go_upto_region 3 with fail
 go_upto_region 4 with (first|(go_at_call 31;refine HR.out.mono ?_;rintro e w2 ⟨rfl,hb2⟩;have HB2:Hid (But N W w2):=HB1.out.call hb2;have HD2:=hid (HD1.out.later hb2);have HZ9:=hid (HZ.out.but HB2.out (HN.out _ (by omega)));have HS9:=hid (HZ9.out.st (rep m) none 0 0);have HL9:=hid (HZ9.out.lv (rep m) none 0 0);clear hb2)|((with_reducible refine st_arm HS9.out ?_ ?_ ?_);(· rfl);(· rfl)))
 have HB9:Hid (But (·=w.heap.size+1) w2 (w2.setCells (w.heap.size+1) 0 (rpL (rep m) none 0 0))):=R.sb_ (S:=(·=w.heap.size+1)) rfl _ 0 (But.refl _ _)
 exact bodyPost_ret (v:=rpV (rep m) none 0 0) (by simp [results,Tryz.results64,asAddr,HL9.out]) rfl ⟨rfl,T,HD2.out.but HB9.out (fun k hk e=>HN.out k (by omega) hk) (fun e=>by have:0=w.heap.size+1:=e;omega),HT1.out,((But.of HB.out).trans HB2.out).comp HB9.out (fun i e=>.inr (by omega))⟩
theorem read_ok (h:Duo w H s d N)(ht:L.Tr s.X s.l d)(hf:KF H.p s)(hw:c.hi<B64∧c.lo<B64)(hby:c.by_∈s.P)(ho:S.i64ok c.obj)(hv:valE s c.given c.by_ (cpO c) 1=0) :
  Calls Tryz.prog 63 #[.pointer (some ⟨H.kb,0,none⟩),.agg (R.cC c dd gg).toArray] w fun e w'=>∃a n cp T,e=.returned (rpV ⟨S.rvE s.V c.obj c.off c.n,(0,0,0),S.rvL s.V c.obj c.off c.n,0⟩ a n cp)∧Own w' w.heap.size 5 a n cp (S.u8s (S.rvL s.V c.obj c.off c.n))∧Duo w' H s T N∧L.Tr s.X s.l T∧But N w w':=by
 obtain⟨W,hW⟩:∃W,W=(w.alloc (Obj.cells (R.cC c dd gg).toArray 45)).alloc z6:=⟨_,rfl⟩
 have hB:Below w.heap.size w W:=by rw [hW];exact below2 _ _ _
 have hX:R.Bx W w.heap.size (R.cC c dd gg):=by rw [hW];exact R.Bx.later (below1 _ _) (R.Bx.new w (R.cC c dd gg) 45)
 have hZ:Zr W (w.heap.size+1):=by rw [hW];have:=Zr.new (w.alloc (Obj.cells (R.cC c dd gg).toArray 45));simpa using this
 have h2:=h.later hB
 have HC:=hid (valid_any (dd:=dd) (gg:=gg) h2 ht hf 1 hw hby)
 have HLd:=hid (ldC hX)
 have hq:(valE s c.given c.by_ (cpO c) 1 != 0)=false:=by simpa using hv
 rw [hv] at HC
 have HO:=hid ho
 obtain⟨D,hD⟩:∃D,D=S.rvL s.V c.obj c.off c.n:=⟨_,rfl⟩
 obtain⟨E,hE⟩:∃E,E=S.rvE s.V c.obj c.off c.n:=⟨_,rfl⟩
 rw [←hD,←hE]
 have HDq:=hid hD
 have HEq:=hid hE
 have HW:=hid hW
 have HB:=hid hB
 have HX:=hid hX
 have HZ:=hid hZ
 have HD:=hid h2
 have HP:Hid (0<w.heap.size):=by have:=h.b0;unfold Hid;omega
 have HN:=hid (fun k hk=>h.new (k:=k) hk)
 clear h h2 hB hX hZ hW ht hf hv hq ho hD hE
 go_enter Tryz.func63,Tryz.ntmps63
 go_upto_region 1 with fail
 rw [←HW.out]
 go_upto_region 2 with (first|((with_reducible refine R.ld_arm HLd.out ?_ ?_);(· rfl))|(go_at_call 110;refine HC.out.mono ?_;rintro e w1 ⟨rfl,T,hd1,ht1,hb1⟩;have HD1:=hid hd1;have HT1:=hid ht1;have HB1:Hid (But N W w1):=hb1;clear hd1 ht1 hb1))
 have HX1:=hid (R.Bx.but HB1.out HX.out (HN.out _ (Nat.le_refl _)))
 have HRd:=hid (fun (U:World) (hU:Below w1.heap.size w1 U)=>pRead (HD1.out.later hU) c.obj c.off c.n HO.out)
 have H01:Hid (∀U,But (fun _=>False) w1 U→U.cell? ⟨H.kb,11,none⟩=some (.pointer (some ⟨H.z.s,0,none⟩))∧U.cell? ⟨w.heap.size,3,none⟩=some (.int .i64 c.obj)∧U.cell? ⟨w.heap.size,8,none⟩=some (.int .i64 c.off)∧U.cell? ⟨w.heap.size,9,none⟩=some (.int .i64 c.n)):=fun U hU=>by
  have:=Cb.of (R.Bx.but hU HX1.out (fun h=>h))
  exact⟨cb_ hU (HD1.out.kb 11 _ rfl) (fun h=>h),this.c3,this.c8,this.c9⟩
 rw [←HDq.out,←HEq.out] at HRd
 clear HC HLd
 go_upto_region 4 with fail
 go_region_held3 (fun U=>U.cell? ⟨H.kb,11,none⟩=some (.pointer (some ⟨H.z.s,0,none⟩))∧U.cell? ⟨w.heap.size,3,none⟩=some (.int .i64 c.obj)∧U.cell? ⟨w.heap.size,8,none⟩=some (.int .i64 c.off)∧U.cell? ⟨w.heap.size,9,none⟩=some (.int .i64 c.n)) (first|exact H01.out _ (But.of (Below.refl _ _).drew)|exact HE.out) (first
   | (go_at_call 111;refine (HRd.out _ (Below.refl _ _).drew).mono ?_;rintro e w2 ⟨a2,c2,rfl,hO2,hb2⟩;have HB2:Hid (Below w1.heap.size w1 w2):=bc (Below.refl _ _).drew hb2;have HE:=hid (H01.out w2 (But.of HB2.out));have HO2:=hid hO2;clear hO2 hb2))
 have HZ9:=hid ((HZ.out.but HB1.out (HN.out _ (by omega))).later HB2.out)
 have HS9:=hid (HZ9.out.st ⟨E,(0,0,0),D,0⟩ a2 D.length c2)
 have HL9:=hid (HZ9.out.lv ⟨E,(0,0,0),D,0⟩ a2 D.length c2)
 have HB9:Hid (But (·=w.heap.size+1) w2 (w2.setCells (w.heap.size+1) 0 (rpL ⟨E,(0,0,0),D,0⟩ a2 D.length c2))):=R.sb_ (S:=(·=w.heap.size+1)) rfl _ 0 (But.refl _ _)
 have HSz:Hid (w.heap.size+2≤w1.heap.size):=by have h1:=HB1.out.size;have h2:(w.heap.size+1)<W.heap.size:=HZ.out.lt;unfold Hid;omega
 go_wp2_with (first|((with_reducible refine st_arm HS9.out ?_ ?_ ?_);(· rfl);(· rfl)))
 exact bodyPost_ret (v:=rpV ⟨E,(0,0,0),D,0⟩ a2 D.length c2) (by simp [results,Tryz.results63,asAddr,HL9.out]) rfl ⟨a2,D.length,c2,T,rfl,(HO2.out.but HB9.out (fun k hk e=>by have:=HO2.out.blk k hk;have:=HSz.out;have e2:k=w.heap.size+1:=e;have h3:w1.drew.heap.size=w1.heap.size:=rfl;omega)).mono (by have:=HSz.out;have h3:w1.drew.heap.size=w1.heap.size:=rfl;omega),(HD1.out.later HB2.out).but HB9.out (fun k hk e=>HN.out k (by omega) hk) (fun e=>by have:0=w.heap.size+1:=e;omega),HT1.out,((But.of HB.out).trans (HB1.out.call HB2.out)).comp HB9.out (fun i e=>.inr (by omega))⟩
end
open Go.Proofs.YtfmhdimaijimlaaGreatDoor.M (wpAnyH_norm)
section
variable {w w':World}{H:Hd}{s s':Sta}{d d':Nat→List K.Pu}{O:Nat→Nat→Prop}{N:Nat→Prop}{c:R.Cl}{dd gg:R.Sl}{b:Nat}
theorem isV {hi lo:Nat}(h:hi<B64∧lo<B64):D.IsV (hi:Int) (lo:Int) (hi*B64+lo):=D.IsV.of ⟨h.1,h.2,rfl⟩
theorem wfits_any (hi lo:Nat)(hw:hi<B64∧lo<B64)(W:Int)(hW:1≤W)(w:World):Calls Tryz.prog 166 #[.agg #[.int .u64 (hi:Int),.int .u64 (lo:Int)],.int .i64 W] w fun e w'=>e=.returned (.bool (decide (D.cutN (hi*B64+lo) W=hi*B64+lo)))∧Below w.heap.size w w':=by
 have hB:=below1 w (Obj.cells #[.int .u64 (hi:Int),.int .u64 (lo:Int)] 31)
 have HC:=hid (fun U=>D.cut_any (hi:Int) (lo:Int) (hi*B64+lo) W U (isV hw))
 have HV:=hid (isV hw)
 have HE:=hid R.eqlW
 have hd:decide (1≤W)=true:=by simpa using hW
 have H0:Hid (∀U,Below (w.alloc (Obj.cells #[.int .u64 (hi:Int),.int .u64 (lo:Int)] 31)).heap.size (w.alloc (Obj.cells #[.int .u64 (hi:Int),.int .u64 (lo:Int)] 31)) U→U.cell? ⟨w.heap.size,0,none⟩=some (.int .u64 (hi:Int))∧U.cell? ⟨w.heap.size,1,none⟩=some (.int .u64 (lo:Int))):=fun U hU=>⟨cell_later hU (by simp [go_sem]),cell_later hU (by simp [go_sem])⟩
 have HB:=hid hB
 clear hB
 go_enter Tryz.func166,Tryz.ntmps166
 go_upto_region 1 with fail
 have heq:=HE.out
 go_region_held3 (fun U=>U.cell? ⟨w.heap.size,0,none⟩=some (.int .u64 (hi:Int))∧U.cell? ⟨w.heap.size,1,none⟩=some (.int .u64 (lo:Int))) (first|exact H0.out _ (Below.refl _ _).drew|exact HE1.out) (first
  | (go_at_call 83;refine (HC.out _).mono ?_;rintro e w2 ⟨c1,d1,rfl,hv2,hb2⟩;have HV2:=hid hv2;have HB2:=hid (bc ((bc HB.out (Below.refl _ _).drew)) hb2);have HE1:=hid (H0.out w2 (bc (Below.refl _ _).drew hb2));clear hv2 hb2))
 go_wp2
 go_ret
 refine⟨?_,HB2.out⟩
 have h1:=D.wEq_of HV2.out HV.out
 have h2:R.wEq c1 d1 (hi:Int) (lo:Int)=D.wEq c1 d1 (hi:Int) (lo:Int):=by unfold R.wEq D.wEq;simp
 rw [←h1,←h2]
 rfl
theorem kfits_any (h:Duo w H s d N)(hW:1≤H.W)(hi lo:Nat)(hw:hi<B64∧lo<B64):Calls Tryz.prog 113 #[.pointer (some ⟨H.kb,0,none⟩),.agg #[.int .u64 (hi:Int),.int .u64 (lo:Int)]] w fun e w'=>e=.returned (.bool (decide (D.cutN (hi*B64+lo) H.W=hi*B64+lo)))∧Below w.heap.size w w':=by
 obtain⟨W,hWq⟩:∃W,W=w.alloc (Obj.cells #[.int .u64 (hi:Int),.int .u64 (lo:Int)] 31):=⟨_,rfl⟩
 have hB:Below w.heap.size w W:=by rw [hWq];exact below1 _ _
 have y0:W.cell? ⟨w.heap.size,0,none⟩=some (.int .u64 (hi:Int)):=by rw [hWq];simp [go_sem]
 have y1:W.cell? ⟨w.heap.size,1,none⟩=some (.int .u64 (lo:Int)):=by rw [hWq];simp [go_sem]
 have k0:W.cell? ⟨H.kb,0,none⟩=some (.int .i64 H.W):=(h.later hB).kb 0 _ rfl
 have HC:=hid (fun U=>wfits_any hi lo hw H.W hW U)
 have H0:Hid (∀U,Below W.heap.size W U→U.cell? ⟨w.heap.size,0,none⟩=some (.int .u64 (hi:Int))∧U.cell? ⟨w.heap.size,1,none⟩=some (.int .u64 (lo:Int))∧U.cell? ⟨H.kb,0,none⟩=some (.int .i64 H.W)):=fun U hU=>⟨cell_later hU y0,cell_later hU y1,cell_later hU k0⟩
 have HB:=hid hB
 have HW:=hid hWq
 obtain⟨q,hq⟩:∃q,q=decide (D.cutN (hi*B64+lo) H.W=hi*B64+lo):=⟨_,rfl⟩
 rw [←hq] at HC ⊢
 clear hB y0 y1 k0 h hWq hq
 go_enter Tryz.func113,Tryz.ntmps113
 go_upto_region 1 with fail
 rw [←HW.out]
 go_region_held3 (fun U=>U.cell? ⟨w.heap.size,0,none⟩=some (.int .u64 (hi:Int))∧U.cell? ⟨w.heap.size,1,none⟩=some (.int .u64 (lo:Int))∧U.cell? ⟨H.kb,0,none⟩=some (.int .i64 H.W)) (first|exact H0.out _ (Below.refl _ _).drew|exact HE1.out) (first
  | (go_at_call 166;refine (HC.out _).mono ?_;rintro e w2 ⟨rfl,hb2⟩;have HB2:=hid (bc ((bc HB.out (Below.refl _ _).drew)) hb2);have HE1:=hid (H0.out w2 (bc (Below.refl _ _).drew hb2));clear hb2))
 go_wp2
 go_ret
 exact⟨rfl,HB2.out⟩
end
section
variable {w w':World}{H:Hd}{s s':Sta}{d d':Nat→List K.Pu}{O:Nat→Nat→Prop}{N:Nat→Prop}{c:R.Cl}{dd gg:R.Sl}{b:Nat}
theorem Li.lookU {U:World}{Pr:List Int}{D:Int→List Cp}{G:Int→Nat}{pa:Int→Option Addr}{cap:Int→Nat}{col:Nat→Int}{B:Nat→Prop}(h:Li w H Pr D G pa cap col)(hb:But B w U)(hn:¬B H.lg){i:Int}(hi:i∈Pr)(hr:-9223372036854775808≤i∧i<9223372036854775808) :
  (Instr.lookup 85 (.map (some H.lg)) (.int .i64 i) false).run Tryz.prog U=.ok (.pointer (some ⟨G i,0,none⟩)) U:=by
 have hm:=S.owns_but hb h.map hn
 obtain⟨v,ps,hrun,hv⟩:=hm.lookup S.law3 Tryz.underlying85 (S.zero_of infoL U) (zd:=.held (.pointer none)) (zp:=[]) rfl (S.key3 hr)
 rw [atKey_mapP _ _ _ hi] at hv
 simp only [S.hr,Option.some.injEq,Prod.mk.injEq,DataW.held.injEq] at hv
 rw [hrun,hv.1]
theorem Lay.laterL (h:Lay w H s d O N)(hb:Below w.heap.size w w'):Lay w' H s d O N:=by
 have hs:=hb.size
 exact⟨fun i=>Part.but (B:=fun _=>False) (But.of hb) (fun _ _ h=>h) i (h.part i),h.ap,h.sub,fun k hk=>by have h1:=h.rng k hk;exact⟨h1.1,by omega⟩,h.hmo,h.laid.later hb,h.b0.1,by have:=h.b0.2;omega⟩
def Lb (G:Int→Nat)(pa:Int→Option Addr)(i:Int)(k:Nat):Prop:=k=G i∨Blk (pa i) k
theorem lAdd (h:Duo w H s d N)(hf:KF H.p s){i:Int}(hi:i∈s.P){G:Int→Nat}{pa:Int→Option Addr}{cap:Int→Nat}{col:Nat→Int}{O:Nat→Nat→Prop}(hL:Lay w H s d O N)(hl:Li w H s.ks s.D G pa cap col)(hm:∀k,LiB s.ks G pa H.lg k→O 5 k)(c:Cp) :
  Calls Tryz.prog 91 #[.pointer (some ⟨G i,0,none⟩),.agg #[.int .i64 c.1,.int .u64 (c.2.1:Int),.int .u64 (c.2.2:Int)]] w fun e w'=>e=.returned (.int .i64 (if H.lm≤((s.D i).length:Int) then 14 else 0))∧(∃N',Duo w' H { s with D:=if H.lm≤((s.D i).length:Int) then s.D else upd s.D i (s.D i++[c]) } d N'∧Went w N w' N')∧But (Lb G pa i) w w':=by
 have hk:i∈s.ks:=by rw [hf.ks];exact hi
 by_cases hq:H.lm≤((s.D i).length:Int)
 ·simp only [if_pos hq]
  refine (M.add_full (hl.each i hk) c hq).mono ?_
  rintro e w' ⟨rfl,hb⟩
  exact⟨rfl,⟨N,h.later hb,Went.later hb⟩,But.of hb⟩
 ·simp only [if_neg hq]
  refine (M.add_more (hl.each i hk) c (by omega) hf.lm.2).mono ?_
  rintro e w' ⟨pb,cb,rfl,hd,hw⟩
  exact⟨rfl,hL.list hl hm hk hd hw,hw.but⟩
theorem add_no (h:Duo w H s d N)(hWd:1≤H.W)(hw:c.hi<B64∧c.lo<B64)(hq:fitB H.W (cpO c)=false) :
  Calls Tryz.prog 65 #[.pointer (some ⟨H.kb,0,none⟩),.agg (R.cC c dd gg).toArray] w fun e w'=>e=.returned (rpV (rep 18) none 0 0)∧Below w.heap.size w w':=by
 obtain⟨W,hW⟩:∃W,W=(w.alloc (Obj.cells (R.cC c dd gg).toArray 45)).alloc z6:=⟨_,rfl⟩
 have hB:Below w.heap.size w W:=by rw [hW];exact below2 _ _ _
 have hX:R.Bx W w.heap.size (R.cC c dd gg):=by rw [hW];exact R.Bx.later (below1 _ _) (R.Bx.new w (R.cC c dd gg) 45)
 have hZ:Zr W (w.heap.size+1):=by rw [hW];have:=Zr.new (w.alloc (Obj.cells (R.cC c dd gg).toArray 45));simpa using this
 have h2:=h.later hB
 have hq2:decide (D.cutN (c.hi*B64+c.lo) H.W=c.hi*B64+c.lo)=false:=by unfold fitB cpO at hq;simpa [hWd] using hq
 have HC:=hid (kfits_any h2 hWd c.hi c.lo hw)
 rw [hq2] at HC
 have x4:=(Cb.of hX).c4
 have x5:=(Cb.of hX).c5
 have HW:=hid hW
 have HB:=hid hB
 have HX:=hid hX
 have HZ:=hid hZ
 have HD:=hid h2
 have HP:Hid (0<w.heap.size):=by have:=h.b0;unfold Hid;omega
 have HN:=hid (fun k hk=>h.new (k:=k) hk)
 clear h h2 hB hX hZ hW hq hq2
 go_enter Tryz.func65,Tryz.ntmps65
 go_upto_region 1 with fail
 rw [←HW.out]
 go_upto_region 2 with (first|(go_at_call 113;refine HC.out.mono ?_;rintro e w1 ⟨rfl,hb1⟩;have HB1:=hid hb1;clear hb1))
 have HR:=hid (refused_any 18 w1)
 go_upto_region 3 with (first|(go_at_call 31;refine HR.out.mono ?_;rintro e w2 ⟨rfl,hb2⟩;have HB2:Hid (Below W.heap.size W w2):=bc HB1.out hb2;have HZ9:=hid (HZ.out.later HB2.out);have HS9:=hid (HZ9.out.st (rep 18) none 0 0);have HL9:=hid (HZ9.out.lv (rep 18) none 0 0);clear hb2)|((with_reducible refine st_arm HS9.out ?_ ?_ ?_);(· rfl);(· rfl)))
 have HB9:Hid (But (·=w.heap.size+1) w2 (w2.setCells (w.heap.size+1) 0 (rpL (rep 18) none 0 0))):=R.sb_ (S:=(·=w.heap.size+1)) rfl _ 0 (But.refl _ _)
 exact bodyPost_ret (v:=rpV (rep 18) none 0 0) (by simp [results,Tryz.results65,asAddr,HL9.out]) rfl ⟨rfl,But.below (bc HB.out HB2.out) HB9.out (fun k e=>by omega)⟩
theorem add_ok (h:Duo w H s d N)(hf:KF H.p s)(hWd:1≤H.W)(hw:c.hi<B64∧c.lo<B64)(hby:c.by_∈s.P)(hq:fitB H.W (cpO c)=true) :
  Calls Tryz.prog 65 #[.pointer (some ⟨H.kb,0,none⟩),.agg (R.cC c dd gg).toArray] w fun e w'=>e=.returned (rpV (rep (if H.lm≤((s.D c.by_).length:Int) then 14 else 0)) none 0 0)∧∃N',Duo w' H { s with D:=if H.lm≤((s.D c.by_).length:Int) then s.D else upd s.D c.by_ (s.D c.by_++[cpO c]) } d N'∧Went w N w' N':=by
 obtain⟨W,hW⟩:∃W,W=(w.alloc (Obj.cells (R.cC c dd gg).toArray 45)).alloc z6:=⟨_,rfl⟩
 have hB:Below w.heap.size w W:=by rw [hW];exact below2 _ _ _
 have hX:R.Bx W w.heap.size (R.cC c dd gg):=by rw [hW];exact R.Bx.later (below1 _ _) (R.Bx.new w (R.cC c dd gg) 45)
 have hZ:Zr W (w.heap.size+1):=by rw [hW];have:=Zr.new (w.alloc (Obj.cells (R.cC c dd gg).toArray 45));simpa using this
 have h2:=h.later hB
 have hq2:decide (D.cutN (c.hi*B64+c.lo) H.W=c.hi*B64+c.lo)=true:=by unfold fitB cpO at hq;simpa [hWd] using hq
 have HC:=hid (kfits_any h2 hWd c.hi c.lo hw)
 rw [hq2] at HC
 have x4:=(Cb.of hX).c4
 have x5:=(Cb.of hX).c5
 have HF:=hid hf
 have HBy:=hid hby
 obtain⟨E,hE⟩:∃E,E=(if H.lm≤((s.D c.by_).length:Int) then (14:Int) else 0):=⟨_,rfl⟩
 obtain⟨D9,hD9⟩:∃D9,D9=(if H.lm≤((s.D c.by_).length:Int) then s.D else upd s.D c.by_ (s.D c.by_++[cpO c])):=⟨_,rfl⟩
 rw [←hE,←hD9]
 have HEq:=hid hE
 have HDq:=hid hD9
 have HW:=hid hW
 have HB:=hid hB
 have HX:=hid hX
 have HZ:=hid hZ
 have HD:=hid h2
 have HP:Hid (0<w.heap.size):=by have:=h.b0;unfold Hid;omega
 have HN:=hid (fun k hk=>h.new (k:=k) hk)
 clear h h2 hB hX hZ hW hq hq2 hf hby hE hD9
 go_enter Tryz.func65,Tryz.ntmps65
 go_upto_region 1 with fail
 rw [←HW.out]
 go_upto_region 2 with (first|(go_at_call 113;refine HC.out.mono ?_;rintro e w1 ⟨rfl,hb1⟩;have HB1:=hid hb1;clear hb1 x4 x5))
 have HX1:=hid (R.Bx.later HB1.out HX.out)
 have HD1:=hid (HD.out.later HB1.out)
 have HZ1:=hid (HZ.out.later HB1.out)
 obtain⟨O,hL⟩:=HD1.out
 obtain⟨G,pa,cap,col,hl,hm⟩:=hL.part 5
 have hks:c.by_∈s.ks:=by rw [HF.out.ks];exact HBy.out
 have HNb:Hid (∀k,Lb G pa c.by_ k→N k):=fun k hk=>hL.sub 5 k (hm k (.inr ⟨_,hks,hk⟩))
 have HSS:Hid (∀U,But (Lb G pa c.by_) w1 U→U.cell? ⟨H.kb,15,none⟩=some (.map (some H.lg))∧U.cell? ⟨w.heap.size,1,none⟩=some (.int .i64 c.by_)∧U.cell? ⟨w.heap.size,3,none⟩=some (.int .i64 c.obj)∧U.cell? ⟨w.heap.size,4,none⟩=some (.int .u64 (c.hi:Int))∧U.cell? ⟨w.heap.size,5,none⟩=some (.int .u64 (c.lo:Int))∧(Instr.lookup 85 (.map (some H.lg)) (.int .i64 c.by_) false).run Tryz.prog U=.ok (.pointer (some ⟨G c.by_,0,none⟩)) U):=fun U hb=>by
  have hx:=Cb.of (R.Bx.but hb HX1.out (fun e=>HN.out _ (Nat.le_refl _) (HNb.out _ e)))
  exact⟨cb_ hb (HD1.out.kb 15 _ rfl) (fun e=>absurd (hL.ap 7 5 _ (hL.part 7).2 (hm _ (.inr ⟨_,hks,e⟩))) (by decide)),hx.c1,hx.c3,hx.c4,hx.c5,hl.lookU hb (fun e=>(hl.col _ hks _ e).2 rfl) hks (HF.out.by64 HBy.out)⟩
 have HSt:Hid (∀U,But (fun k=>Lb G pa c.by_ k∨k=w.heap.size+1) w1 U→U.cell? ⟨H.kb,15,none⟩=some (.map (some H.lg))∧U.cell? ⟨w.heap.size,1,none⟩=some (.int .i64 c.by_)∧U.cell? ⟨w.heap.size,3,none⟩=some (.int .i64 c.obj)∧U.cell? ⟨w.heap.size,4,none⟩=some (.int .u64 (c.hi:Int))∧U.cell? ⟨w.heap.size,5,none⟩=some (.int .u64 (c.lo:Int))∧(Instr.lookup 85 (.map (some H.lg)) (.int .i64 c.by_) false).run Tryz.prog U=.ok (.pointer (some ⟨G c.by_,0,none⟩)) U):=fun U hb=>by
  have hx:=Cb.of (R.Bx.but hb HX1.out (fun e=>e.elim (fun e=>HN.out _ (Nat.le_refl _) (HNb.out _ e)) (fun e=>by omega)))
  have hnw:∀k,N k→k≠w.heap.size+1:=fun k hk e=>HN.out _ (by omega) (e ▸ hk)
  exact⟨cb_ hb (HD1.out.kb 15 _ rfl) (fun e=>e.elim (fun e=>absurd (hL.ap 7 5 _ (hL.part 7).2 (hm _ (.inr ⟨_,hks,e⟩))) (by decide)) (hnw _ (hL.sub 7 _ (hL.part 7).2))),hx.c1,hx.c3,hx.c4,hx.c5,hl.lookU hb (fun e=>e.elim (fun e=>(hl.col _ hks _ e).2 rfl) (hnw _ (hL.sub 5 _ (hm _ (.inl rfl))))) hks (HF.out.by64 HBy.out)⟩
 have HAd:=hid (fun (U:World) (hU:Below w1.heap.size w1 U)=>lAdd (HD1.out.later hU) HF.out HBy.out (hL.laterL hU) (hl.but (But.of (S:=fun _=>False) hU) (fun _ _ h=>h)) hm (cpO c))
 rw [←HEq.out,←HDq.out] at HAd
 unfold cpO at HAd
 clear hL hl hm hks HC
 go_upto_region 3 with fail
 refine wp_region_held_drew (S:=(fun U:World=>U.cell? ⟨H.kb,15,none⟩=some (.map (some H.lg))∧U.cell? ⟨w.heap.size,1,none⟩=some (.int .i64 c.by_)∧U.cell? ⟨w.heap.size,3,none⟩=some (.int .i64 c.obj)∧U.cell? ⟨w.heap.size,4,none⟩=some (.int .u64 (c.hi:Int))∧U.cell? ⟨w.heap.size,5,none⟩=some (.int .u64 (c.lo:Int))∧(Instr.lookup 85 (.map (some H.lg)) (.int .i64 c.by_) false).run Tryz.prog U=.ok (.pointer (some ⟨G c.by_,0,none⟩)) U)) (by kernel_rfl) (HSS.out _ (But.of (Below.refl _ _).drew)) (fun hHeld=>?_)
 refine nH (bm 12 0) 12 ?_
 refine tH 0 (v:=?_) rfl (fun _ _ _ h=>h) ?_ ?_;rotate_left
 ·(intro w hSw;(try dsimp only at hSw);go_simp;try with_reducible rfl)
 try simp only [gz,Act.put]
 refine nH (bm 12 1) 11 ?_
 refine tH 1 (v:=?_) rfl (fun _ _ _ h=>h) ?_ ?_;rotate_left
 ·(intro w hSw;(try dsimp only at hSw);go_simp;try with_reducible rfl)
 try simp only [gz,Act.put]
 refine nH (bm 12 3) 10 ?_
 refine tH 2 (v:=?_) rfl (fun _ _ _ h=>h) ?_ ?_;rotate_left
 ·(intro w hSw;(try dsimp only at hSw);go_simp;try with_reducible rfl)
 try simp only [gz,Act.put]
 refine nH (bm 12 7) 9 ?_
 refine tH 3 (v:=?_) rfl (fun _ _ _ h=>h) ?_ ?_;rotate_left
 ·(intro w hSw;(try dsimp only at hSw);go_simp;try with_reducible rfl)
 try simp only [gz,Act.put]
 refine nH (bm 12 15) 8 ?_
 refine tH 4 (v:=?_) rfl (fun _ _ _ h=>h) ?_ ?_;rotate_left
 ·(intro w hSw;(try dsimp only at hSw);go_simp;try with_reducible rfl)
 try simp only [gz,Act.put]
 refine nH (bm 12 31) 7 ?_
 refine tH 5 (v:=?_) rfl (fun _ _ _ h=>h) ?_ ?_;rotate_left
 ·(intro w hSw;(try dsimp only at hSw);go_simp;try with_reducible rfl)
 try simp only [gz,Act.put]
 refine nH (bm 12 63) 6 ?_
 refine tH 6 (v:=?_) rfl (fun _ _ _ h=>h) ?_ ?_;rotate_left
 ·(intro w hSw;(try dsimp only at hSw);go_simp;try with_reducible rfl)
 try simp only [gz,Act.put]
 refine nH (bm 12 127) 5 ?_
 refine tH 7 (v:=?_) rfl (fun _ _ _ h=>h) ?_ ?_;rotate_left
 ·(intro w hSw;(try dsimp only at hSw);go_simp;try with_reducible rfl)
 try simp only [gz,Act.put]
 refine nH (bm 12 255) 4 ?_
 refine tH 8 (v:=?_) rfl (fun _ _ _ h=>h) ?_ ?_;rotate_left
 ·(intro w hSw;(try dsimp only at hSw);go_simp;try with_reducible rfl)
 try simp only [gz,Act.put]
 refine nH (bm 12 511) 3 ?_
 refine yH [9] ?_
 refine cH rfl fun K hK=>?_
 go_simp
 go_wp2_with (first|(go_at_call 91;refine (HAd.out w1.drew (Below.refl _ _).drew).mono ?_;rintro e w2 ⟨rfl,⟨N2,hd2,hw2⟩,hb2⟩;have HD2:=hid hd2;have HW2:Hid (Went w1 N w2 N2):=(Went.later (Below.refl _ _).drew).trans hw2;have HB2:Hid (But (Lb G pa c.by_) w1 w2):=(But.of (Below.refl _ _).drew).trans hb2;have HZ9:=hid (HZ1.out.but HW2.out.2 (HN.out _ (by omega)));have HL9:=hid (HZ9.out.lv (rep E) none 0 0);have HS9:=hid (HZ9.out.st (rep E) none 0 0);have HB9:Hid (But (fun k=>k=w.heap.size+1) w2 (w2.setCells (w.heap.size+1) 0 (rpL (rep E) none 0 0))):=R.sb_ (S:=(fun k=>k=w.heap.size+1)) rfl _ 0 (But.refl _ _);have HBc:Hid (But (fun k=>Lb G pa c.by_ k∨k=w.heap.size+1) w1 (w2.setCells (w.heap.size+1) 0 (rpL (rep E) none 0 0))):=(But.mono (T:=fun k=>Lb G pa c.by_ k∨k=w.heap.size+1) HB2.out (fun k hk=>Or.inl hk)).comp HB9.out (fun i e=>.inl (.inr e));clear hd2 hb2 hw2))
 refine hK.out _ _ (HSS.out w2 HB2.out) (fun hHeld=>?_)
 clear hK K
 try simp only [gz,Act.put]
 refine nH (bm 12 1023) 2 ?_
 refine tH 10 (v:=?_) rfl (fun _ _ _ h=>h) ?_ ?_;rotate_left
 ·(intro w hSw;(try dsimp only at hSw);go_simp;try with_reducible rfl)
 try simp only [gz,Act.put]
 refine nH (bm 12 2047) 1 ?_
 refine yH [11] ?_
 refine cH rfl fun K hK=>?_
 rw [if_pos (by kernel_rfl)]
 refine wp_store_known 41 (.tmp 4) (.tmp 22) rfl _ _ rfl rfl _ HS9.out ?_
 refine hK.out _ _ (HSt.out _ HBc.out) (fun hHeld=>?_)
 clear hK K
 try simp only [gz,Act.put]
 refine nH (bm 12 4095) 0 ?_
 refine wpAnyH_done (by kernel_rfl) ?_ _
 go_wp2
 have hlt:=HZ1.out.lt
 refine bodyPost_ret (v:=rpV (rep E) none 0 0) (by simp [results,Tryz.results65,asAddr,HL9.out]) rfl ⟨rfl,N2,HD2.out.but HB9.out (fun k hk e=>HW2.out.out (b:=k) (by omega) (HN.out _ (by omega)) hk) (fun e=>by omega),?_⟩
 have h1:=(Went.later (N:=N) (bc HB.out HB1.out)).trans HW2.out
 exact⟨h1.1,h1.2.comp HB9.out (fun i e=>.inr (by omega))⟩
end
section
variable {w w':World}{H:Hd}{s s':Sta}{d d':Nat→List K.Pu}{O:Nat→Nat→Prop}{N:Nat→Prop}{c:R.Cl}{dd gg:R.Sl}{b:Nat}
def ArRel (w:World)(lm:Int)(g n:Nat)(K:List Cp)(t a10 a11:Value)(w':World):Prop :=
 ∃(i:Nat) (pa:Option Addr) (cap:Nat),i≤n∧t=.int .i64 (i:Int)∧M.Dm w' w.heap.size g lm pa cap (K.take i)∧Below w.heap.size w w'
theorem arm_any (h:Duo w H s d N)(hm:H.lm≤32∧1≤H.lm)(number:Int)(hlt:∀j∈s.ks,j<number)(h64:-9223372036854775808≤number∧number<9223372036854775808)(hkl:s.ks.length≤32){p:Option Addr}{n cp:Nat}{K:List Cp}(hr:Rd w p n K)(hn:(n:Int)≤H.lm) :
  Calls Tryz.prog 55 #[.pointer (some ⟨H.kb,0,none⟩),.int .i64 number,.slice p n cp] w fun e w'=>e=.returned (.int .i64 0)∧∃N',Duo w' H { s with ks:=s.ks++[number],D:=upd s.D number K } d N'∧Went w N w' N':=by
 have k6:=h.kb 6 _ rfl
 have HNew:=hid (M.new_ok H.lm w hm.2 hm.1)
 have HD:=hid h
 have HM:=hid hm
 have HR:=hid hr
 have HLn:Hid (K.length=n):=hr.len
 have HLt:=hid hlt
 have H64:=hid h64
 have HKl:=hid hkl
 have HNn:=hid hn
 have hn9:n<9223372036854775807:=by omega
 clear h hm hr hlt h64 hkl hn
 go_enter Tryz.func55,Tryz.ntmps55
 go_upto_region 3 with (first|(go_at_call 90;refine HNew.out.mono ?_;rintro e w1 ⟨g,rfl,hd1,hb1⟩;have HD1:=hid hd1;have HB1:=hid hb1;clear hd1 hb1 k6))
 go_loopw [23,10,11] (ArRel w H.lm g n K) (fun t _ _ _=>n - (intOf t).toNat)
 case atStart=>exact⟨0,none,0,by omega,rfl,by simpa using HD1.out,HB1.out⟩
 case round =>
  obtain⟨i,pa,cap,hi,rfl,hdm,hB⟩:=hrel
  have ei:IntKind.i64.wrap ((i:Int)+1)=(i:Int)+1:=by rw [IntKind.wrap_i64];omega
  have HB:=hid hB
  have HDm:=hid hdm
  clear hdm hB
  by_cases hlt:i<n
  ·have hd:decide ((i:Int)<(n:Int))=true:=decide_eq_true (by omega)
   have hl:=HLn.out
   obtain⟨x,hx⟩:∃x,K[i]?=some x:=⟨_,List.getElem?_eq_getElem (by omega)⟩
   obtain⟨b,q,rfl,hat⟩:=(HR.out.later HB.out).at_ (by omega)
   obtain⟨x0,x1,x2⟩:=hat i x hx
   have HT:Hid (K.take (i+1)=K.take i++[x]):=by unfold Hid;rw [List.take_add_one,hx];rfl
   have HLi:Hid ((K.take i).length=i):=by unfold Hid;rw [List.length_take];omega
   clear hat hx hl
   obtain⟨xo,xh,xl⟩:=x
   simp only at x0 x1 x2
   obtain⟨w2,hw2⟩:∃w2,w2=wr.alloc (Obj.cells #[.int .i64 xo,.int .u64 (xh:Int),.int .u64 (xl:Int)] 38):=⟨_,rfl⟩
   have hB2:Below wr.heap.size wr w2:=by rw [hw2];exact below1 _ _
   have y0:w2.cell? ⟨wr.heap.size,0,none⟩=some (.int .i64 xo):=by rw [hw2];simp [go_sem]
   have y1:w2.cell? ⟨wr.heap.size,1,none⟩=some (.int .u64 (xh:Int)):=by rw [hw2];simp [go_sem]
   have y2:w2.cell? ⟨wr.heap.size,2,none⟩=some (.int .u64 (xl:Int)):=by rw [hw2];simp [go_sem]
   have HAd:=hid (M.add_more (HDm.out.later hB2) (xo,xh,xl) (by rw [HLi.out];have:=HNn.out;omega) HM.out.1)
   have HB2:=hid (bc HB.out hB2)
   have HDg:=hid (HDm.out.later hB2)
   clear hB2
   go_upto_region 5 with fail
   rw [←hw2]
   clear hw2 x0 x1 x2
   go_wp2_with (first|(go_at_call 91;refine HAd.out.mono ?_;rintro e w3 ⟨pb,cb,rfl,hd3,hw3⟩;have HD3:=hid hd3;have HW3:=hid hw3;clear hd3 hw3 y0 y1 y2))
   refine⟨⟨i+1,pb,cb,by omega,by go_num,by rw [HT.out];exact HD3.out,HW3.out.below HDg.out HB2.out⟩,by simp [intOf];omega⟩
  ·obtain rfl:i=n:=by omega
   have hd:decide ((i:Int)<(i:Int))=false:=by simp
   have HK:Hid (K.take i=K):=by unfold Hid;rw [List.take_of_length_le (by have:=HLn.out;omega)]
   rw [HK.out] at HDm
   obtain⟨O,hL⟩:=HD.out
   obtain⟨G,pq,cq,col,hli,hm5⟩:=hL.part 5
   have hmr:=S.owns_but (S:=fun _=>False) (But.of HB.out) hli.map (fun h=>h)
   obtain⟨w3,hrun,hm3,htn⟩:=hmr.store S.law3 Tryz.underlying85 (by have:=HKl.out;unfold maxLen;omega) (key:=.int .i64 number) (kl:=.int .i64 number) (S.key3 H64.out) (val:=.pointer (some ⟨g,0,none⟩)) (d:=.held (.pointer (some ⟨g,0,none⟩))) (ps:=[]) rfl
   have hb3:=S.turned_but htn
   rw [put_mapP _ _ _ _ HLt.out] at hm3
   have k15:=(HD.out.later HB.out).kb 15 _ rfl
   have hglt:=hli.map.lt
   have HFin:Hid (∃N',Duo w3 H { s with ks:=s.ks++[number],D:=upd s.D number K } d N'∧Went w N w3 N'):=by
    have hlo:=HDm.out.lo
    have hbl:=fun k hk=>(HDm.out.own.blk k hk).1
    exact hL.arm hli hm5 HLt.out ((HDm.out.but hb3 (fun e=>by have e2:g=H.lg:=e;omega) (fun k hk e=>by have e2:k=H.lg:=e;have:=hbl k hk;omega)).mono hL.b0.2) ⟨hlo,hbl⟩ ((But.of HB.out).trans hb3) hm3
   clear hL hli hm5 hm3 htn hb3 hglt hmr
   go_wp2
   go_ret
   exact⟨rfl,HFin.out⟩
end
end Go.Proofs.YtfmhdimaijimlaaGreatDoor.V
