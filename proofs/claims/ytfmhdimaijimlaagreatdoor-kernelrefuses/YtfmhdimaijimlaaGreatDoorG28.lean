import Derived.Test.YtfmhdimaijimlaaGreatDoorG27
set_option linter.unusedVariables false
set_option linter.unusedSimpArgs false
set_option maxRecDepth 1000000
set_option maxHeartbeats 8000000
namespace Go.Proofs.YtfmhdimaijimlaaGreatDoor.V
open Go.RowKit
open Go.Proofs.YtfmhdimaijimlaaGreatDoor.H (B64 Cp)
open Go.Proofs.YtfmhdimaijimlaaGreatDoor.M (wpAnyH_norm)
section
variable {w w':World}{H:Hd}{s s':Sta}{d d':Nat→List K.Pu}{O:Nat→Nat→Prop}{N:Nat→Prop}{c:R.Cl}{dd gg:R.Sl}{b:Nat}
theorem leave_any (h:Duo w H s d N)(hi:P.Iv H.pm s.px s.P)(number:Int)(h64:-9223372036854775808≤number∧number<9223372036854775808) :
  Calls Tryz.prog 79 #[.pointer (some ⟨H.kb,0,none⟩),.int .i64 number] w fun e w'=>e=.returned (.tuple #[])∧Duo w' H { s with P:=P.out s.P number,ks:=P.out s.ks number } d N∧But N w w':=by
 have k14:=h.kb 14 _ rfl
 have HX:=hid (pExit h hi number)
 have H64:=hid h64
 clear h h64
 go_enter Tryz.func79,Tryz.ntmps79
 go_upto_region 1 with (first|(go_at_call 129;refine HX.out.mono ?_;rintro e w1 ⟨rfl,hd1,hb1⟩;have HD1:=hid hd1;have HB1:=hid hb1;clear hd1 hb1 k14))
 have k15:=HD1.out.kb 15 _ rfl
 obtain⟨O,hL⟩:=HD1.out
 obtain⟨G,pq,cq,col,hli,hm5⟩:=hL.part 5
 obtain⟨w2,hdel,hm2,htn⟩:=hli.map.drop S.law3 Tryz.underlying85 (key:=.int .i64 number) (kl:=.int .i64 number) (S.key3 H64.out) 0
 have hb2:=S.turned_but htn
 rw [del_mapP] at hm2
 have HFin:=hid (hL.gone hli hm5 number hb2 hm2)
 clear hL hli hm5 hm2 htn hb2
 go_wp2
 go_end0
 exact⟨rfl,HFin.out.1,HB1.out.trans HFin.out.2⟩
theorem exit_any (h:Duo w H s d N)(hf:KF H.p s)(hby:c.by_∈s.P) :
  Calls Tryz.prog 68 #[.pointer (some ⟨H.kb,0,none⟩),.agg (R.cC c dd gg).toArray] w fun e w'=>e=.returned (rpV (rep 0) none 0 0)∧Duo w' H (exiA s c.by_).2 d N∧But N w w':=by
 obtain⟨W,hW⟩:∃W,W=(w.alloc (Obj.cells (R.cC c dd gg).toArray 45)).alloc z6:=⟨_,rfl⟩
 have hB:Below w.heap.size w W:=by rw [hW];exact below2 _ _ _
 have hX:R.Bx W w.heap.size (R.cC c dd gg):=by rw [hW];exact R.Bx.later (below1 _ _) (R.Bx.new w (R.cC c dd gg) 45)
 have hZ:Zr W (w.heap.size+1):=by rw [hW];have:=Zr.new (w.alloc (Obj.cells (R.cC c dd gg).toArray 45));simpa using this
 have h2:=h.later hB
 have HC:=hid (leave_any h2 hf.iv c.by_ (hf.by64 hby))
 have x1:=(Cb.of hX).c1
 unfold exiA
 have HW:=hid hW
 have HB:=hid hB
 have HX:=hid hX
 have HZ:=hid hZ
 have HD:=hid h2
 have HP:Hid (0<w.heap.size):=by have:=h.b0;unfold Hid;omega
 have HN:=hid (fun k hk=>h.new (k:=k) hk)
 clear h h2 hB hX hZ hW hf hby
 go_enter Tryz.func68,Tryz.ntmps68
 go_upto_region 1 with fail
 rw [←HW.out]
 go_upto_region 2 with (first|(go_at_call 79;refine HC.out.mono ?_;rintro e w1 ⟨rfl,hd1,hb1⟩;have HD1:=hid hd1;have HB1:=hid hb1;clear hd1 hb1))
 have HZ9:=hid (HZ.out.but HB1.out (HN.out _ (by omega)))
 have HS9:=hid (HZ9.out.st (rep 0) none 0 0)
 have HL9:=hid (HZ9.out.lv (rep 0) none 0 0)
 have HB9:Hid (But (·=w.heap.size+1) w1 (w1.setCells (w.heap.size+1) 0 (rpL (rep 0) none 0 0))):=R.sb_ (S:=(·=w.heap.size+1)) rfl _ 0 (But.refl _ _)
 go_wp2_with (first|((with_reducible refine st_arm HS9.out ?_ ?_ ?_);(· rfl);(· rfl)))
 exact bodyPost_ret (v:=rpV (rep 0) none 0 0) (by simp [results,Tryz.results68,asAddr,HL9.out]) rfl ⟨rfl,HD1.out.but HB9.out (fun k hk e=>HN.out k (by omega) hk) (fun e=>by have:0=w.heap.size+1:=e;omega),((But.of HB.out).trans HB1.out).comp HB9.out (fun i e=>.inr (by omega))⟩
theorem lRem (h:Duo w H s d N)(hf:KF H.p s){i:Int}(hi:i∈s.P){G:Int→Nat}{pa:Int→Option Addr}{cap:Int→Nat}{col:Nat→Int}{O:Nat→Nat→Prop}(hL:Lay w H s d O N)(hl:Li w H s.ks s.D G pa cap col)(hm:∀k,LiB s.ks G pa H.lg k→O 5 k)(x:Int) :
  Calls Tryz.prog 114 #[.pointer (some ⟨G i,0,none⟩),.int .i64 x] w fun e w'=>∃cp:Cp,e=.returned (.tuple #[.agg #[.int .i64 cp.1,.int .u64 (cp.2.1:Int),.int .u64 (cp.2.2:Int)],.int .i64 (remA s i x).1.code])∧(∃N',Duo w' H (remA s i x).2 d N'∧Went w N w' N')∧But (Lb G pa i) w w':=by
 have hk:i∈s.ks:=by rw [hf.ks];exact hi
 unfold remA
 by_cases hq:M.okI (s.D i) x=false
 ·simp only [if_pos hq]
  refine (M.rem_bad (hl.each i hk) x hq).mono ?_
  rintro e w' ⟨rfl,hb⟩
  exact⟨(0,0,0),rfl,⟨N,h.later hb,Went.later hb⟩,But.of hb⟩
 ·simp only [if_neg hq]
  have h1:=M.okI_iff.1 (by simpa using hq:M.okI (s.D i) x=true)
  obtain⟨k,rfl⟩:=Int.eq_ofNat_of_zero_le h1.1
  have hlt:k<(s.D i).length:=by omega
  refine (M.rem_ok (hl.each i hk) k (s.D i)[k] (List.getElem?_eq_getElem hlt) (hf.len32 hi)).mono ?_
  rintro e w' ⟨rfl,hd,hw⟩
  exact⟨(s.D i)[k],rfl,hL.list hl hm hk hd hw,hw.but⟩
theorem remove_any (h:Duo w H s d N)(hf:KF H.p s)(hby:c.by_∈s.P) :
  Calls Tryz.prog 66 #[.pointer (some ⟨H.kb,0,none⟩),.agg (R.cC c dd gg).toArray] w fun e w'=>e=.returned (rpV (rep (remA s c.by_ c.index).1.code) none 0 0)∧∃N',Duo w' H (remA s c.by_ c.index).2 d N'∧Went w N w' N':=by
 obtain⟨W,hW⟩:∃W,W=(w.alloc (Obj.cells (R.cC c dd gg).toArray 45)).alloc z6:=⟨_,rfl⟩
 have hB:Below w.heap.size w W:=by rw [hW];exact below2 _ _ _
 have hX:R.Bx W w.heap.size (R.cC c dd gg):=by rw [hW];exact R.Bx.later (below1 _ _) (R.Bx.new w (R.cC c dd gg) 45)
 have hZ:Zr W (w.heap.size+1):=by rw [hW];have:=Zr.new (w.alloc (Obj.cells (R.cC c dd gg).toArray 45));simpa using this
 have h2:=h.later hB
 obtain⟨O,hL⟩:=id h2
 obtain⟨G,pa,cap,col,hl,hm⟩:=hL.part 5
 have hks:c.by_∈s.ks:=by rw [hf.ks];exact hby
 have HNb:Hid (∀k,Lb G pa c.by_ k→N k):=fun k hk=>hL.sub 5 k (hm k (.inr ⟨_,hks,hk⟩))
 have HS:Hid (∀U,But (Lb G pa c.by_) W U→U.cell? ⟨H.kb,15,none⟩=some (.map (some H.lg))∧U.cell? ⟨w.heap.size,1,none⟩=some (.int .i64 c.by_)∧U.cell? ⟨w.heap.size,11,none⟩=some (.int .i64 c.index)∧(Instr.lookup 85 (.map (some H.lg)) (.int .i64 c.by_) false).run Tryz.prog U=.ok (.pointer (some ⟨G c.by_,0,none⟩)) U):=fun U hb=>by
  have hx:=Cb.of (R.Bx.but hb hX (fun e=>h.new (Nat.le_refl _) (HNb.out _ e)))
  exact⟨cb_ hb (h2.kb 15 _ rfl) (fun e=>absurd (hL.ap 7 5 _ (hL.part 7).2 (hm _ (.inr ⟨_,hks,e⟩))) (by decide)),hx.c1,hx.c11,hl.lookU hb (fun e=>(hl.col _ hks _ e).2 rfl) hks (hf.by64 hby)⟩
 have H0:=hid (fun U (hU:But (fun _=>False) W U)=>HS.out U (hU.mono (fun _ h=>h.elim)))
 have HRm:=hid (fun (U:World) (hU:Below W.heap.size W U)=>lRem (h2.later hU) hf hby (hL.laterL hU) (hl.but (But.of (S:=fun _=>False) hU) (fun _ _ h=>h)) hm c.index)
 obtain⟨A,hA⟩:∃A,A=remA s c.by_ c.index:=⟨_,rfl⟩
 rw [←hA] at HRm ⊢
 have HW:=hid hW
 have HB:=hid hB
 have HX:=hid hX
 have HZ:=hid hZ
 have HD:=hid h2
 have HP:Hid (0<w.heap.size):=by have:=h.b0;unfold Hid;omega
 have HN:=hid (fun k hk=>h.new (k:=k) hk)
 clear h h2 hB hX hZ hW hf hby hL hl hm hks hA
 go_enter Tryz.func66,Tryz.ntmps66
 go_upto_region 1 with fail
 rw [←HW.out]
 go_cut [5,6] (fun _ s6 U=>s6=.int .i64 A.1.code∧Hid (∃u b,(∃N2,Duo u H A.2 d N2∧Went W N u N2∧¬N2 b)∧W.heap.size≤b∧But (fun k=>k=b) u U))
 case first =>
  go_region_held3 (fun U=>U.cell? ⟨H.kb,15,none⟩=some (.map (some H.lg))∧U.cell? ⟨w.heap.size,1,none⟩=some (.int .i64 c.by_)∧U.cell? ⟨w.heap.size,11,none⟩=some (.int .i64 c.index)∧(Instr.lookup 85 (.map (some H.lg)) (.int .i64 c.by_) false).run Tryz.prog U=.ok (.pointer (some ⟨G c.by_,0,none⟩)) U) (first|exact H0.out _ (But.of (Below.refl _ _).drew)|exact H0.out _ (But.of (below1 _ _).drew)|exact H0.out _ (But.of (below1 _ _))|exact HE.out _ (But.refl _ _)|exact HE.out _ (But.of (below1 _ _))|exact HE.out _ (L.set3_but (S:=fun k=>k=W.heap.size) (b:=W.heap.size) (But.refl _ u_) rfl _)) (first
   | (go_at_call 114;(with_reducible refine (HRm.out (W.alloc (Obj.cells #[.int .i64 0,.int .u64 0,.int .u64 0] 38)).drew (below1 _ _).drew).mono ?_);rintro e u_ ⟨cp_,rfl,⟨N2,hd_,hw_⟩,hb_⟩;have HPs:Hid (∃N2,Duo u_ H A.2 d N2∧Went W N u_ N2∧¬N2 W.heap.size):=⟨N2,hd_,(Went.later (below1 W (Obj.cells #[.int .i64 0,.int .u64 0,.int .u64 0] 38)).drew).trans hw_,fun e=>(hw_.1 _ e).elim (HN.out _ HB.out.size) (fun h=>absurd h (by show ¬(W.alloc (Obj.cells #[.int .i64 0,.int .u64 0,.int .u64 0] 38)).heap.size≤W.heap.size;simp))⟩;have HBt:Hid (But (Lb G pa c.by_) W u_):=(But.of (S:=(Lb G pa c.by_)) (below1 W (Obj.cells #[.int .i64 0,.int .u64 0,.int .u64 0] 38)).drew).trans hb_;have hzc:=(Zb.mk_ W).but (show But (Lb G pa c.by_) (W.alloc (Obj.cells #[.int .i64 0,.int .u64 0,.int .u64 0] 38)).drew u_ from hb_) (fun e=>HN.out _ HB.out.size (HNb.out _ e));have HE:=hid (fun U (hU:But (fun k=>k=W.heap.size) u_ U)=>HS.out U (HBt.out.comp hU (fun i e=>.inr (by omega))));obtain⟨⟨z0,f0⟩,⟨z1,f1⟩,⟨z2,f2⟩⟩:=hzc;clear hb_ hd_ hw_)
   | (go_at_call 114;(with_reducible refine (HRm.out W.drew (Below.refl _ _).drew).mono ?_);rintro e u_ ⟨cp_,rfl,⟨N2,hd_,hw_⟩,hb_⟩;have HPs:Hid (∃N2,Duo u_ H A.2 d N2∧Went W N u_ N2∧¬N2 u_.heap.size):=⟨N2,hd_,(Went.later (Below.refl W.heap.size W).drew).trans hw_,hd_.new (Nat.le_refl _)⟩;have HBt:Hid (But (Lb G pa c.by_) W u_):=(But.of (S:=(Lb G pa c.by_)) (Below.refl W.heap.size W).drew).trans hb_;have HE:=hid (fun U (hU:But (fun k=>k=u_.heap.size) u_ U)=>HS.out U (HBt.out.comp hU (fun i e=>.inr (by have:=HBt.out.size;omega))));clear hb_ hd_ hw_))
  all_goals (try go_wp2)
  all_goals go_meet
  all_goals (first|exact⟨rfl,u_,W.heap.size,HPs.out,Nat.le_refl _,L.set3_but (S:=fun k=>k=W.heap.size) (b:=W.heap.size) (But.refl _ u_) rfl cp_⟩|exact⟨rfl,u_,u_.heap.size,HPs.out,HBt.out.size,But.of (below1 _ _)⟩)
 case rest =>
 rename World=>v
 obtain⟨rfl,HR⟩:=hcut
 obtain⟨u,b,⟨N2,hd3,hw3,hnb⟩,hlo,hv⟩:=HR.out
 have hsz:=HB.out.size
 have hz:=HZ.out.lt
 have HDv:=hid (hd3.but hv (fun k hk e=>hnb (e ▸ hk)) (fun e=>by have:=HP.out;omega))
 have HWv:Hid (Went W N v N2):=⟨hw3.1,hw3.2.comp hv (fun i e=>.inr (by omega))⟩
 have HZv:=hid (HZ.out.but HWv.out.2 (HN.out _ (by omega)))
 have HNz:Hid (¬N2 (w.heap.size+1)):=hw3.out (by omega) (HN.out _ (by omega))
 clear hlo hd3 hw3 hv hsz HR hnb hz
 have HZ9:=hid (HZv.out)
 have HS9:=hid (HZ9.out.st (rep A.1.code) none 0 0)
 have HL9:=hid (HZ9.out.lv (rep A.1.code) none 0 0)
 have HB9:Hid (But (·=w.heap.size+1) (v) ((v).setCells (w.heap.size+1) 0 (rpL (rep A.1.code) none 0 0))):=R.sb_ (S:=(·=w.heap.size+1)) rfl _ 0 (But.refl _ _)
 go_wp2_with (first|((with_reducible refine st_arm HS9.out ?_ ?_ ?_);(· rfl);(· rfl)))
 refine bodyPost_ret (v:=rpV (rep A.1.code) none 0 0) (by simp [results,Tryz.results66,asAddr,HL9.out]) rfl ⟨rfl,N2,HDv.out.but HB9.out (fun k hk e=>HNz.out (e ▸ hk)) (fun e=>by have:0=w.heap.size+1:=e;omega),?_⟩
 have h1:=(Went.later (N:=N) HB.out).trans HWv.out
 exact⟨h1.1,h1.2.comp HB9.out (fun i e=>.inr (by omega))⟩
theorem spawn_no (h:Duo w H s d N)(hf:KF H.p s)(hby:c.by_∈s.P)(hG:Row w gg.a gg.n gg.c (ints c.gifts))(hgn:gg.n≤255)(hv:M.pickE H.lm (s.D c.by_) c.gifts≠0) :
  Calls Tryz.prog 67 #[.pointer (some ⟨H.kb,0,none⟩),.agg (R.cC c dd gg).toArray] w fun e w'=>e=.returned (rpV (rep (M.pickE H.lm (s.D c.by_) c.gifts)) none 0 0)∧Below w.heap.size w w':=by
 obtain⟨W,hW⟩:∃W,W=(w.alloc (Obj.cells (R.cC c dd gg).toArray 45)).alloc z6:=⟨_,rfl⟩
 have hB:Below w.heap.size w W:=by rw [hW];exact below2 _ _ _
 have hX:R.Bx W w.heap.size (R.cC c dd gg):=by rw [hW];exact R.Bx.later (below1 _ _) (R.Bx.new w (R.cC c dd gg) 45)
 have hZ:Zr W (w.heap.size+1):=by rw [hW];have:=Zr.new (w.alloc (Obj.cells (R.cC c dd gg).toArray 45));simpa using this
 have h2:=h.later hB
 obtain⟨O,hL⟩:=id h2
 obtain⟨G,pa,cap,col,hl,hm⟩:=hL.part 5
 have hks:c.by_∈s.ks:=by rw [hf.ks];exact hby
 have HS:Hid (∀U,But (fun _=>False) W U→U.cell? ⟨H.kb,15,none⟩=some (.map (some H.lg))∧U.cell? ⟨w.heap.size,1,none⟩=some (.int .i64 c.by_)∧U.cell? ⟨w.heap.size,12,none⟩=some (gg.v)∧(Instr.lookup 85 (.map (some H.lg)) (.int .i64 c.by_) false).run Tryz.prog U=.ok (.pointer (some ⟨G c.by_,0,none⟩)) U):=fun U hb=>by
  have hx:=Cb.of (R.Bx.but hb hX (fun e=>e))
  exact⟨cb_ hb (h2.kb 15 _ rfl) (fun e=>e),hx.c1,hx.c12,hl.lookU hb (fun e=>e) hks (hf.by64 hby)⟩
 have HPk:=hid (fun (U:World) (hU:Below W.heap.size W U)=>M.pick_any ((hl.each _ hks).later hU) (Row.later hU (Row.later hB hG)) (by omega) (hf.len32 hby) hf.lm.2)
 have HF:=hid hf
 obtain⟨m,hmq⟩:∃m,m=M.pickE H.lm (s.D c.by_) c.gifts:=⟨_,rfl⟩
 obtain⟨Kl,hKl⟩:∃Kl,Kl=M.pickL H.lm (s.D c.by_) c.gifts:=⟨_,rfl⟩
 rw [←hmq,←hKl] at HPk
 rw [←hmq] at hv ⊢
 have hq:(m != 0)=true:=by simpa using hv
 have HW:=hid hW
 have HB:=hid hB
 have HX:=hid hX
 have HZ:=hid hZ
 have HD:=hid h2
 have HP:Hid (0<w.heap.size):=by have:=h.b0;unfold Hid;omega
 have HN:=hid (fun k hk=>h.new (k:=k) hk)
 clear h h2 hB hX hZ hW hf hby hL hl hm hks hG hv hmq hKl
 go_enter Tryz.func67,Tryz.ntmps67
 go_upto_region 1 with fail
 rw [←HW.out]
 go_region_held3 (fun U=>U.cell? ⟨H.kb,15,none⟩=some (.map (some H.lg))∧U.cell? ⟨w.heap.size,1,none⟩=some (.int .i64 c.by_)∧U.cell? ⟨w.heap.size,12,none⟩=some (gg.v)∧(Instr.lookup 85 (.map (some H.lg)) (.int .i64 c.by_) false).run Tryz.prog U=.ok (.pointer (some ⟨G c.by_,0,none⟩)) U) (first|exact HS.out _ (But.of (Below.refl _ _).drew)|exact HE.out) (first
   | (go_at_call 115;(with_reducible refine (HPk.out W.drew (Below.refl _ _).drew).mono ?_);rintro e w1 ⟨p1,c1,rfl,hO1,hb1⟩;have HB1:Hid (Below W.heap.size W w1):=bc (Below.refl _ _).drew hb1;have HE:=hid (HS.out w1 (But.of HB1.out));have HO1:=hid hO1;clear hO1 hb1))
 have HZ1:=hid (HZ.out.later HB1.out)
 have HR:=hid (refused_any m w1)
 go_upto_region 3 with fail
 go_upto_region 4 with (first|(go_at_call 31;refine HR.out.mono ?_;rintro e w2 ⟨rfl,hb2⟩;have HB2:=hid hb2;have HZ9:=hid (HZ1.out.later HB2.out);have HS9:=hid (HZ9.out.st (rep m) none 0 0);have HL9:=hid (HZ9.out.lv (rep m) none 0 0);clear hb2)|((with_reducible refine st_arm HS9.out ?_ ?_ ?_);(· rfl);(· rfl)))
 have HB9:Hid (But (·=w.heap.size+1) w2 (w2.setCells (w.heap.size+1) 0 (rpL (rep m) none 0 0))):=R.sb_ (S:=(·=w.heap.size+1)) rfl _ 0 (But.refl _ _)
 exact bodyPost_ret (v:=rpV (rep m) none 0 0) (by simp [results,Tryz.results67,asAddr,HL9.out]) rfl ⟨rfl,But.below (bc HB.out (bc HB1.out HB2.out)) HB9.out (fun k e=>by omega)⟩
theorem spawn_full (h:Duo w H s d N)(hf:KF H.p s)(hby:c.by_∈s.P)(hG:Row w gg.a gg.n gg.c (ints c.gifts))(hgn:gg.n≤255)(hv:M.pickE H.lm (s.D c.by_) c.gifts=0)(hp:P.fullP H.pm s.px s.P=true) :
  Calls Tryz.prog 67 #[.pointer (some ⟨H.kb,0,none⟩),.agg (R.cC c dd gg).toArray] w fun e w'=>e=.returned (rpV (rep 13) none 0 0)∧∃N',Duo w' H s d N'∧Went w N w' N':=by
 obtain⟨W,hW⟩:∃W,W=(w.alloc (Obj.cells (R.cC c dd gg).toArray 45)).alloc z6:=⟨_,rfl⟩
 have hB:Below w.heap.size w W:=by rw [hW];exact below2 _ _ _
 have hX:R.Bx W w.heap.size (R.cC c dd gg):=by rw [hW];exact R.Bx.later (below1 _ _) (R.Bx.new w (R.cC c dd gg) 45)
 have hZ:Zr W (w.heap.size+1):=by rw [hW];have:=Zr.new (w.alloc (Obj.cells (R.cC c dd gg).toArray 45));simpa using this
 have h2:=h.later hB
 obtain⟨O,hL⟩:=id h2
 obtain⟨G,pa,cap,col,hl,hm⟩:=hL.part 5
 have hks:c.by_∈s.ks:=by rw [hf.ks];exact hby
 have HS:Hid (∀U,But (fun _=>False) W U→U.cell? ⟨H.kb,15,none⟩=some (.map (some H.lg))∧U.cell? ⟨w.heap.size,1,none⟩=some (.int .i64 c.by_)∧U.cell? ⟨w.heap.size,12,none⟩=some (gg.v)∧(Instr.lookup 85 (.map (some H.lg)) (.int .i64 c.by_) false).run Tryz.prog U=.ok (.pointer (some ⟨G c.by_,0,none⟩)) U):=fun U hb=>by
  have hx:=Cb.of (R.Bx.but hb hX (fun e=>e))
  exact⟨cb_ hb (h2.kb 15 _ rfl) (fun e=>e),hx.c1,hx.c12,hl.lookU hb (fun e=>e) hks (hf.by64 hby)⟩
 have HPk:=hid (fun (U:World) (hU:Below W.heap.size W U)=>M.pick_any ((hl.each _ hks).later hU) (Row.later hU (Row.later hB hG)) (by omega) (hf.len32 hby) hf.lm.2)
 have HF:=hid hf
 obtain⟨Kl,hKl⟩:∃Kl,Kl=M.pickL H.lm (s.D c.by_) c.gifts:=⟨_,rfl⟩
 rw [hv,←hKl] at HPk
 have HFl:=hid hp
 have HW:=hid hW
 have HB:=hid hB
 have HX:=hid hX
 have HZ:=hid hZ
 have HD:=hid h2
 have HP:Hid (0<w.heap.size):=by have:=h.b0;unfold Hid;omega
 have HN:=hid (fun k hk=>h.new (k:=k) hk)
 clear h h2 hB hX hZ hW hf hby hL hl hm hks hG hv hp hKl
 go_enter Tryz.func67,Tryz.ntmps67
 go_upto_region 1 with fail
 rw [←HW.out]
 go_region_held3 (fun U=>U.cell? ⟨H.kb,15,none⟩=some (.map (some H.lg))∧U.cell? ⟨w.heap.size,1,none⟩=some (.int .i64 c.by_)∧U.cell? ⟨w.heap.size,12,none⟩=some (gg.v)∧(Instr.lookup 85 (.map (some H.lg)) (.int .i64 c.by_) false).run Tryz.prog U=.ok (.pointer (some ⟨G c.by_,0,none⟩)) U) (first|exact HS.out _ (But.of (Below.refl _ _).drew)|exact HE.out) (first
   | (go_at_call 115;(with_reducible refine (HPk.out W.drew (Below.refl _ _).drew).mono ?_);rintro e w1 ⟨p1,c1,rfl,hO1,hb1⟩;have HB1:Hid (Below W.heap.size W w1):=bc (Below.refl _ _).drew hb1;have HE:=hid (HS.out w1 (But.of HB1.out));have HO1:=hid hO1;clear hO1 hb1))
 have HSp:=hid (pSpawn (HD.out.later HB1.out) HF.out.iv)
 have k14:=(HD.out.later HB1.out).kb 14 _ rfl
 have e1:P.spN H.pm s.px s.P=0:=by unfold P.spN;rw [if_pos HFl.out]
 have e2:P.spC H.pm s.px s.P=13:=by unfold P.spC;rw [if_pos HFl.out]
 have e3:P.spX H.pm s.px s.P=s.px:=by unfold P.spX;rw [if_pos HFl.out]
 have e4:P.spL H.pm s.px s.P=s.P:=by unfold P.spL;rw [if_pos HFl.out]
 rw [e1,e2,e3,e4] at HSp
 clear e1 e2 e3 e4
 go_upto_region 5 with (first|(go_at_call 116;refine HSp.out.mono ?_;rintro e w3 ⟨rfl,N2,hd3,hw3⟩;have HD3:=hid hd3;have HW3:Hid (Went W N w3 N2):=(Went.later HB1.out).trans hw3;clear hd3 hw3 k14))
 have HZ1:=hid (HZ.out.but HW3.out.2 (HN.out _ (by omega)))
 have HNz:Hid (¬N2 (w.heap.size+1)):=HW3.out.out HZ.out.lt (HN.out _ (by omega))
 have HR:=hid (refused_any 13 w3)
 go_upto_region 6 with fail
 go_upto_region 7 with (first|(go_at_call 31;refine HR.out.mono ?_;rintro e w2 ⟨rfl,hb2⟩;have HB2:=hid hb2;have HZ9:=hid (HZ1.out.later HB2.out);have HS9:=hid (HZ9.out.st (rep 13) none 0 0);have HL9:=hid (HZ9.out.lv (rep 13) none 0 0);clear hb2)|((with_reducible refine st_arm HS9.out ?_ ?_ ?_);(· rfl);(· rfl)))
 have HB9:Hid (But (·=w.heap.size+1) w2 (w2.setCells (w.heap.size+1) 0 (rpL (rep 13) none 0 0))):=R.sb_ (S:=(·=w.heap.size+1)) rfl _ 0 (But.refl _ _)
 exact bodyPost_ret (v:=rpV (rep 13) none 0 0) (by simp [results,Tryz.results67,asAddr,HL9.out]) rfl ⟨rfl,N2,(HD3.out.later HB2.out).but HB9.out (fun k hk e=>HNz.out (e ▸ hk)) (fun e=>by have:0=w.heap.size+1:=e;omega),(Went.trans (Went.later (N:=N) HB.out) ((HW3.out).trans (Went.later HB2.out))).1,((Went.trans (Went.later (N:=N) HB.out) ((HW3.out).trans (Went.later HB2.out))).2).comp HB9.out (fun i e=>.inr (by omega))⟩
theorem spawn_ok (h:Duo w H s d N)(hf:KF H.p s)(hby:c.by_∈s.P)(hG:Row w gg.a gg.n gg.c (ints c.gifts))(hgn:gg.n≤255)(hv:M.pickE H.lm (s.D c.by_) c.gifts=0)(hp:P.fullP H.pm s.px s.P=false) :
  Calls Tryz.prog 67 #[.pointer (some ⟨H.kb,0,none⟩),.agg (R.cC c dd gg).toArray] w fun e w'=>e=.returned (rpV ⟨0,(0,0,0),[],s.px⟩ none 0 0)∧∃N',Duo w' H { s with px:=s.px+1,P:=s.P++[s.px],ks:=s.ks++[s.px],D:=upd s.D s.px (M.pickL H.lm (s.D c.by_) c.gifts) } d N'∧Went w N w' N':=by
 obtain⟨W,hW⟩:∃W,W=(w.alloc (Obj.cells (R.cC c dd gg).toArray 45)).alloc z6:=⟨_,rfl⟩
 have hB:Below w.heap.size w W:=by rw [hW];exact below2 _ _ _
 have hX:R.Bx W w.heap.size (R.cC c dd gg):=by rw [hW];exact R.Bx.later (below1 _ _) (R.Bx.new w (R.cC c dd gg) 45)
 have hZ:Zr W (w.heap.size+1):=by rw [hW];have:=Zr.new (w.alloc (Obj.cells (R.cC c dd gg).toArray 45));simpa using this
 have h2:=h.later hB
 obtain⟨O,hL⟩:=id h2
 obtain⟨G,pa,cap,col,hl,hm⟩:=hL.part 5
 have hks:c.by_∈s.ks:=by rw [hf.ks];exact hby
 have HS:Hid (∀U,But (fun _=>False) W U→U.cell? ⟨H.kb,15,none⟩=some (.map (some H.lg))∧U.cell? ⟨w.heap.size,1,none⟩=some (.int .i64 c.by_)∧U.cell? ⟨w.heap.size,12,none⟩=some (gg.v)∧(Instr.lookup 85 (.map (some H.lg)) (.int .i64 c.by_) false).run Tryz.prog U=.ok (.pointer (some ⟨G c.by_,0,none⟩)) U):=fun U hb=>by
  have hx:=Cb.of (R.Bx.but hb hX (fun e=>e))
  exact⟨cb_ hb (h2.kb 15 _ rfl) (fun e=>e),hx.c1,hx.c12,hl.lookU hb (fun e=>e) hks (hf.by64 hby)⟩
 have HPk:=hid (fun (U:World) (hU:Below W.heap.size W U)=>M.pick_any ((hl.each _ hks).later hU) (Row.later hU (Row.later hB hG)) (by omega) (hf.len32 hby) hf.lm.2)
 have HF:=hid hf
 obtain⟨Kl,hKl⟩:∃Kl,Kl=M.pickL H.lm (s.D c.by_) c.gifts:=⟨_,rfl⟩
 have HKn:Hid ((Kl.length:Int)≤H.lm):=by
  unfold Hid
  rw [hKl]
  unfold M.pickL
  rw [if_pos hv,List.length_map]
  unfold M.pickE at hv
  by_cases ha:c.gifts.all (M.okI (s.D c.by_))=true
  ·rw [if_pos ha] at hv
   by_cases hb:H.lm<(c.gifts.length:Int)
   ·rw [if_pos hb] at hv;exact absurd hv (by decide)
   ·omega
  ·rw [if_neg ha] at hv;exact absurd hv (by decide)
 rw [hv,←hKl] at HPk
 rw [←hKl]
 have HFl:=hid hp
 have HW:=hid hW
 have HB:=hid hB
 have HX:=hid hX
 have HZ:=hid hZ
 have HD:=hid h2
 have HP:Hid (0<w.heap.size):=by have:=h.b0;unfold Hid;omega
 have HN:=hid (fun k hk=>h.new (k:=k) hk)
 clear h h2 hB hX hZ hW hf hby hL hl hm hks hG hv hp hKl
 go_enter Tryz.func67,Tryz.ntmps67
 go_upto_region 1 with fail
 rw [←HW.out]
 go_region_held3 (fun U=>U.cell? ⟨H.kb,15,none⟩=some (.map (some H.lg))∧U.cell? ⟨w.heap.size,1,none⟩=some (.int .i64 c.by_)∧U.cell? ⟨w.heap.size,12,none⟩=some (gg.v)∧(Instr.lookup 85 (.map (some H.lg)) (.int .i64 c.by_) false).run Tryz.prog U=.ok (.pointer (some ⟨G c.by_,0,none⟩)) U) (first|exact HS.out _ (But.of (Below.refl _ _).drew)|exact HE.out) (first
   | (go_at_call 115;(with_reducible refine (HPk.out W.drew (Below.refl _ _).drew).mono ?_);rintro e w1 ⟨p1,c1,rfl,hO1,hb1⟩;have HB1:Hid (Below W.heap.size W w1):=bc (Below.refl _ _).drew hb1;have HE:=hid (HS.out w1 (But.of HB1.out));have HO1:=hid hO1;clear hO1 hb1))
 have HSp:=hid (pSpawn (HD.out.later HB1.out) HF.out.iv)
 have k14:=(HD.out.later HB1.out).kb 14 _ rfl
 have e0:¬P.fullP H.pm s.px s.P=true:=by rw [HFl.out];decide
 have e1:P.spN H.pm s.px s.P=s.px:=by unfold P.spN;rw [if_neg e0]
 have e2:P.spC H.pm s.px s.P=0:=by unfold P.spC;rw [if_neg e0]
 have e3:P.spX H.pm s.px s.P=s.px+1:=by unfold P.spX;rw [if_neg e0]
 have e4:P.spL H.pm s.px s.P=s.P++[s.px]:=by unfold P.spL;rw [if_neg e0]
 rw [e1,e2,e3,e4] at HSp
 clear e0 e1 e2 e3 e4
 go_upto_region 5 with (first|(go_at_call 116;refine HSp.out.mono ?_;rintro e w3 ⟨rfl,N2,hd3,hw3⟩;have HD3:=hid hd3;have HW3:Hid (Went w1 N w3 N2):=hw3;clear hd3 hw3 k14))
 have HRd:Hid (Rd w3 p1 Kl.length Kl):=(Ow.rd HO1.out rfl).but HW3.out.2 (fun k hk e=>HN.out k (by have:=(HO1.out.blk k hk).1;have h3:W.drew.heap.size=W.heap.size:=rfl;have:=HB.out.size;omega) e)
 have HIv:=hid HF.out.iv
 have HAr:=hid (arm_any HD3.out ⟨HF.out.lm.2,HF.out.lm.1⟩ s.px (fun j hj=>by have hj2:j∈s.ks:=hj;rw [HF.out.ks] at hj2;exact HIv.out.hi j hj2) (by have h1:=HIv.out.x1;have h2:=HIv.out.x2;omega) (by show s.ks.length≤32;rw [HF.out.ks];exact HIv.out.len32) (cp:=c1) HRd.out HKn.out)
 go_upto_region 8 with (first|(go_at_call 55;refine HAr.out.mono ?_;rintro e w4 ⟨rfl,N3,hd4,hw4⟩;have HD4:=hid hd4;have HW4:Hid (Went W N w4 N3):=(Went.later HB1.out).trans (HW3.out.trans hw4);clear hd4 hw4))
 have HZv:=hid (HZ.out.but HW4.out.2 (HN.out _ (by omega)))
 have HNz:Hid (¬N3 (w.heap.size+1)):=HW4.out.out HZ.out.lt (HN.out _ (by omega))
 have HZ9:=hid (HZv.out)
 have HS9:=hid (HZ9.out.st ⟨0,(0,0,0),[],s.px⟩ none 0 0)
 have HL9:=hid (HZ9.out.lv ⟨0,(0,0,0),[],s.px⟩ none 0 0)
 have HB9:Hid (But (·=w.heap.size+1) (w4) ((w4).setCells (w.heap.size+1) 0 (rpL ⟨0,(0,0,0),[],s.px⟩ none 0 0))):=R.sb_ (S:=(·=w.heap.size+1)) rfl _ 0 (But.refl _ _)
 go_wp2_with (first|((with_reducible refine st_arm HS9.out ?_ ?_ ?_);(· rfl);(· rfl)))
 exact bodyPost_ret (v:=rpV ⟨0,(0,0,0),[],s.px⟩ none 0 0) (by simp [results,Tryz.results67,asAddr,HL9.out]) rfl ⟨rfl,N3,HD4.out.but HB9.out (fun k hk e=>HNz.out (e ▸ hk)) (fun e=>by have:0=w.heap.size+1:=e;omega),(Went.trans (Went.later (N:=N) HB.out) HW4.out).1,((Went.trans (Went.later (N:=N) HB.out) HW4.out).2).comp HB9.out (fun i e=>.inr (by omega))⟩
end
section
variable {w w':World}{H:Hd}{s s':Sta}{d d':Nat→List K.Pu}{O:Nat→Nat→Prop}{N:Nat→Prop}{c:R.Cl}{dd gg:R.Sl}{b:Nat}
theorem create_no (h:Duo w H s d N)(hf:KF H.p s)(hm:S.mayV H.z.room H.z.n s.nx s.V c.size≠0) :
  Calls Tryz.prog 59 #[.pointer (some ⟨H.kb,0,none⟩),.agg (R.cC c dd gg).toArray] w fun e w'=>e=.returned (rpV (rep (S.mayV H.z.room H.z.n s.nx s.V c.size)) none 0 0)∧Below w.heap.size w w':=by
 obtain⟨W,hW⟩:∃W,W=(w.alloc (Obj.cells (R.cC c dd gg).toArray 45)).alloc z6:=⟨_,rfl⟩
 have hB:Below w.heap.size w W:=by rw [hW];exact below2 _ _ _
 have hX:R.Bx W w.heap.size (R.cC c dd gg):=by rw [hW];exact R.Bx.later (below1 _ _) (R.Bx.new w (R.cC c dd gg) 45)
 have hZ:Zr W (w.heap.size+1):=by rw [hW];have:=Zr.new (w.alloc (Obj.cells (R.cC c dd gg).toArray 45));simpa using this
 have h2:=h.later hB
 have HC:=hid (fun (U:World) (hU:Below W.heap.size W U)=>pMay (h2.later hU) c.size)
 have HS:Hid (∀U {s d},Duo U H s d N→But N W U→U.cell? ⟨H.kb,11,none⟩=some (.pointer (some ⟨H.z.s,0,none⟩))∧U.cell? ⟨w.heap.size,2,none⟩=some (.int .i64 c.size)):=fun U s d hd hb=>by
  have:=Cb.of (R.Bx.but hb hX (h.new (Nat.le_refl _)))
  exact⟨hd.kb 11 _ rfl,this.c2⟩
 have H0:=hid (fun U (hU:But (fun _=>False) W U)=>HS.out U (h2.but hU (fun _ _ h=>h) (fun h=>h)) (hU.mono (fun _ h=>h.elim)))
 generalize S.mayV H.z.room H.z.n s.nx s.V c.size=m at *
 have hq:(m != 0)=true:=by simpa using hm
 have HW:=hid hW
 have HB:=hid hB
 have HX:=hid hX
 have HZ:=hid hZ
 have HD:=hid h2
 have HP:Hid (0<w.heap.size):=by have:=h.b0;unfold Hid;omega
 have HN:=hid (fun k hk=>h.new (k:=k) hk)
 clear h h2 hB hX hZ hW hm hf
 go_enter Tryz.func59,Tryz.ntmps59
 go_upto_region 1 with fail
 rw [←HW.out]
 go_region_held3 (fun U=>U.cell? ⟨H.kb,11,none⟩=some (.pointer (some ⟨H.z.s,0,none⟩))∧U.cell? ⟨w.heap.size,2,none⟩=some (.int .i64 c.size)) (first|exact H0.out _ (But.of (Below.refl _ _).drew)|exact HE.out) (first
   | (go_at_call 103;refine (HC.out _ (Below.refl _ _).drew).mono ?_;rintro e w1 ⟨rfl,hb_⟩;have HB1:Hid (Below W.heap.size W w1):=bc (Below.refl _ _).drew hb_;have HE:=hid (H0.out w1 (But.of HB1.out));clear hb_))
 have HR:=hid (refused_any m w1)
 go_upto_region 3 with fail
 go_upto_region 4 with (first|(go_at_call 31;refine HR.out.mono ?_;rintro e w2 ⟨rfl,hb2⟩;have HB2:Hid (Below W.heap.size W w2):=bc HB1.out hb2;have HZ9:=hid (HZ.out.later HB2.out);have HS9:=hid (HZ9.out.st (rep m) none 0 0);have HL9:=hid (HZ9.out.lv (rep m) none 0 0);clear hb2)|((with_reducible refine st_arm HS9.out ?_ ?_ ?_);(· rfl);(· rfl)))
 have HB9:Hid (But (·=w.heap.size+1) w2 (w2.setCells (w.heap.size+1) 0 (rpL (rep m) none 0 0))):=R.sb_ (S:=(·=w.heap.size+1)) rfl _ 0 (But.refl _ _)
 exact bodyPost_ret (v:=rpV (rep m) none 0 0) (by simp [results,Tryz.results59,asAddr,HL9.out]) rfl ⟨rfl,But.below (bc HB.out HB2.out) HB9.out (fun k e=>by omega)⟩
theorem create_not (h:Duo w H s d N)(hf:KF H.p s)(hm:S.mayV H.z.room H.z.n s.nx s.V c.size=0)(hr:(D.rootA H.p.d s.d s.nx).code≠0) :
  Calls Tryz.prog 59 #[.pointer (some ⟨H.kb,0,none⟩),.agg (R.cC c dd gg).toArray] w fun e w'=>e=.returned (rpV (rep (D.rootA H.p.d s.d s.nx).code) none 0 0)∧Duo w' H (putD s (D.rootA H.p.d s.d s.nx).s) d N∧But N w w':=by
 obtain⟨W,hW⟩:∃W,W=(w.alloc (Obj.cells (R.cC c dd gg).toArray 45)).alloc z6:=⟨_,rfl⟩
 have hB:Below w.heap.size w W:=by rw [hW];exact below2 _ _ _
 have hX:R.Bx W w.heap.size (R.cC c dd gg):=by rw [hW];exact R.Bx.later (below1 _ _) (R.Bx.new w (R.cC c dd gg) 45)
 have hZ:Zr W (w.heap.size+1):=by rw [hW];have:=Zr.new (w.alloc (Obj.cells (R.cC c dd gg).toArray 45));simpa using this
 have h2:=h.later hB
 have HC:=hid (fun (U:World) (hU:Below W.heap.size W U)=>pMay (h2.later hU) c.size)
 have HS:Hid (∀U {s d},Duo U H s d N→But N W U→U.cell? ⟨H.kb,11,none⟩=some (.pointer (some ⟨H.z.s,0,none⟩))∧U.cell? ⟨w.heap.size,2,none⟩=some (.int .i64 c.size)):=fun U s d hd hb=>by
  have:=Cb.of (R.Bx.but hb hX (h.new (Nat.le_refl _)))
  exact⟨hd.kb 11 _ rfl,this.c2⟩
 have H0:=hid (fun U (hU:But (fun _=>False) W U)=>HS.out U (h2.but hU (fun _ _ h=>h) (fun h=>h)) (hU.mono (fun _ h=>h.elim)))
 have hq:(S.mayV H.z.room H.z.n s.nx s.V c.size != 0)=false:=by simpa using hm
 rw [hm] at HC
 have HF:=hid hf
 have HNX:Hid (S.i64ok s.nx):=by have:=hf.nx;unfold Hid S.i64ok;omega
 have HM:=hid hm
 obtain⟨A,hA⟩:∃A,A=D.rootA H.p.d s.d s.nx:=⟨_,rfl⟩
 rw [←hA] at hr ⊢
 have HA:=hid hA
 have HRr:=hid hr
 have HW:=hid hW
 have HB:=hid hB
 have HX:=hid hX
 have HZ:=hid hZ
 have HD:=hid h2
 have HP:Hid (0<w.heap.size):=by have:=h.b0;unfold Hid;omega
 have HN:=hid (fun k hk=>h.new (k:=k) hk)
 clear h h2 hB hX hZ hW hm hf hq hA hr
 go_enter Tryz.func59,Tryz.ntmps59
 go_upto_region 1 with fail
 rw [←HW.out]
 go_region_held3 (fun U=>U.cell? ⟨H.kb,11,none⟩=some (.pointer (some ⟨H.z.s,0,none⟩))∧U.cell? ⟨w.heap.size,2,none⟩=some (.int .i64 c.size)) (first|exact H0.out _ (But.of (Below.refl _ _).drew)|exact HE.out) (first
   | (go_at_call 103;refine (HC.out _ (Below.refl _ _).drew).mono ?_;rintro e w1 ⟨rfl,hb_⟩;have HB1:Hid (Below W.heap.size W w1):=bc (Below.refl _ _).drew hb_;have HE:=hid (H0.out w1 (But.of HB1.out));clear hb_))
 have HX1:=hid (R.Bx.later HB1.out HX.out)
 have HD1:=hid (HD.out.later HB1.out)
 have HZ1:=hid (HZ.out.later HB1.out)
 have HS1:Hid (w.heap.size≤w1.heap.size):=Nat.le_trans HB.out.size HB1.out.size
 have HSS:Hid (∀U {s d},Duo U H s d N→But N w1 U→U.cell? ⟨H.kb,10,none⟩=some (.pointer (some ⟨H.g,0,none⟩))∧U.cell? ⟨H.kb,11,none⟩=some (.pointer (some ⟨H.z.s,0,none⟩))∧U.cell? ⟨H.kb,12,none⟩=some (.pointer (some ⟨H.A.g,0,none⟩))∧U.cell? ⟨H.kb,13,none⟩=some (.pointer (some ⟨H.qg,0,none⟩))∧U.cell? ⟨w.heap.size,2,none⟩=some (.int .i64 c.size)):=fun U s d hd hb=>by
  have:=Cb.of (R.Bx.but hb HX1.out (HN.out _ (Nat.le_refl _)))
  exact⟨hd.kb 10 _ rfl,hd.kb 11 _ rfl,hd.kb 12 _ rfl,hd.kb 13 _ rfl,this.c2⟩
 have H01:=hid (fun U (hU:But (fun _=>False) w1 U)=>HSS.out U (HD1.out.but hU (fun _ _ h=>h) (fun h=>h)) (hU.mono (fun _ h=>h.elim)))
 have HNx:=hid (fun (U:World) (hU:Below w1.heap.size w1 U)=>pNext (HD1.out.later hU))
 have HRt:=hid (fun (U:World) (hU:Below w1.heap.size w1 U)=>dRoot (HD1.out.later hU) HF.out s.nx (wf_i HNX.out))
 rw [←HA.out] at HRt
 clear HE HC H0
 go_upto_region 4 with fail
 go_cut [6,7] (fun s5 s6 U=>∃b,s5=.pointer (some ⟨b,0,none⟩)∧s6=.int .i64 A.code∧Hid (w1.heap.size≤b∧∃u,(Duo u H (putD s A.s) d N∧But N w1 u)∧Bc u U b A.c))
 case first =>
  go_region_held3 (fun U=>U.cell? ⟨H.kb,10,none⟩=some (.pointer (some ⟨H.g,0,none⟩))∧U.cell? ⟨H.kb,11,none⟩=some (.pointer (some ⟨H.z.s,0,none⟩))∧U.cell? ⟨H.kb,12,none⟩=some (.pointer (some ⟨H.A.g,0,none⟩))∧U.cell? ⟨H.kb,13,none⟩=some (.pointer (some ⟨H.qg,0,none⟩))∧U.cell? ⟨w.heap.size,2,none⟩=some (.int .i64 c.size)) (first|exact H01.out _ (But.of (Below.refl _ _).drew)|exact H01.out _ (But.of (below1 _ _).drew)|exact H01.out _ (But.of (below1 _ _))|exact HE.out _ (But.refl _ _)|exact HE.out _ (But.of (below1 _ _))|exact HE.out _ (L.set3_but (S:=fun k=>k=w1.heap.size) (b:=w1.heap.size) (But.refl _ u_) rfl _)) (first
   | (go_at_call 38;refine (HNx.out _ (Below.refl _ _).drew).mono ?_;rintro e u9 ⟨rfl,hw9⟩;obtain rfl:=hw9.symm)|(go_at_call 38;refine (HNx.out _ (below1 _ _).drew).mono ?_;rintro e u9 ⟨rfl,hw9⟩;obtain rfl:=hw9.symm)|(go_at_call 104;refine (HRt.out _ (below1 _ _).drew).mono ?_;rintro e u_ ⟨rfl,hd_,hb_⟩;have HBt:Hid (But N w1 u_):=(But.of (S:=N) (below1 w1 (Obj.cells #[.int .i64 0,.int .u64 0,.int .u64 0] 38)).drew).trans hb_;have HPs:=hid (And.intro hd_ HBt.out);have hzc:=(Zb.mk_ w1).but (show But N (w1.alloc (Obj.cells #[.int .i64 0,.int .u64 0,.int .u64 0] 38)).drew u_ from hb_) (HN.out _ HS1.out);have HZc:=hid hzc;have HE:=hid (fun U (hU:But (fun k=>k=w1.heap.size) u_ U)=>HSS.out U (hd_.but hU (fun k hk e=>HN.out k (by have h9:w1.heap.size≤_:=(Nat.le_refl _);have:=HS1.out;omega) hk) (fun e=>by have h9:w1.heap.size≤_:=(Nat.le_refl _);have:=HS1.out;have:=HP.out;omega)) (HBt.out.comp hU (fun i e=>.inr (by have h9:w1.heap.size≤_:=(Nat.le_refl _);omega))));obtain⟨⟨z0,f0⟩,⟨z1,f1⟩,⟨z2,f2⟩⟩:=hzc;clear hb_)
   | (go_at_call 104;refine (HRt.out _ (Below.refl _ _).drew).mono ?_;rintro e u_ ⟨rfl,hd_,hb_⟩;have HBt:Hid (But N w1 u_):=(But.of (S:=N) (Below.refl w1.heap.size w1).drew).trans hb_;have HPs:=hid (And.intro hd_ HBt.out);have HE:=hid (fun U (hU:But (fun k=>k=u_.heap.size) u_ U)=>HSS.out U (hd_.but hU (fun k hk e=>HN.out k (by have h9:w1.heap.size≤_:=HBt.out.size;have:=HS1.out;omega) hk) (fun e=>by have h9:w1.heap.size≤_:=HBt.out.size;have:=HS1.out;have:=HP.out;omega)) (HBt.out.comp hU (fun i e=>.inr (by have h9:w1.heap.size≤_:=HBt.out.size;omega))));clear hb_))
  all_goals (try go_wp2)
  all_goals go_meet
  all_goals (first|exact⟨_,rfl,rfl,Nat.le_refl _,u_,HPs.out,Bc.first HZc.out _⟩|exact⟨_,rfl,rfl,HBt.out.size,u_,HPs.out,Bc.then_ u_ _⟩)
 case rest =>
 rename World=>v
 obtain⟨b,rfl,rfl,HR⟩:=hcut
 obtain⟨hlo,u,⟨hd3,hb3⟩,hbc⟩:=HR.out
 obtain⟨hv,v0,v1,v2⟩:=hbc
 have hsz:=HS1.out
 have HDv:=hid (hd3.but hv (fun k hk e=>HN.out k (by omega) hk) (fun e=>by have:=HP.out;omega))
 have HBv:Hid (But N w1 v):=hb3.comp hv (fun i e=>.inr (by omega))
 have HZv:=hid (HZ1.out.but HBv.out (HN.out _ (by omega)))
 have HXv:=hid (R.Bx.but HBv.out HX1.out (HN.out _ (Nat.le_refl _)))
 have HLo:Hid (w1.heap.size≤b):=hlo
 have hvs:=hv.size
 have HBl:Hid (b<v.heap.size):=World.block_lt_of_cell? _ _ v0
 clear hlo hd3 hb3 hv hsz HR hvs
 have hqr:(A.code != 0)=true:=by simpa using HRr.out
 clear v0 v1 v2
 have HR:=hid (refused_any A.code v)
 go_upto_region 6 with fail
 go_upto_region 7 with (first|(go_at_call 31;refine HR.out.mono ?_;rintro e w2 ⟨rfl,hb2⟩;have HB2:Hid (Below v.heap.size v w2):=hb2;have HZ9:=hid (HZv.out.later HB2.out);have HS9:=hid (HZ9.out.st (rep A.code) none 0 0);have HL9:=hid (HZ9.out.lv (rep A.code) none 0 0);clear hb2)|((with_reducible refine st_arm HS9.out ?_ ?_ ?_);(· rfl);(· rfl)))
 have HB9:Hid (But (·=w.heap.size+1) w2 (w2.setCells (w.heap.size+1) 0 (rpL (rep A.code) none 0 0))):=R.sb_ (S:=(·=w.heap.size+1)) rfl _ 0 (But.refl _ _)
 exact bodyPost_ret (v:=rpV (rep A.code) none 0 0) (by simp [results,Tryz.results59,asAddr,HL9.out]) rfl ⟨rfl,(HDv.out.later HB2.out).but HB9.out (fun k hk e=>HN.out k (by omega) hk) (fun e=>by have:0=w.heap.size+1:=e;omega),((But.of (bc HB.out HB1.out)).trans (HBv.out.call HB2.out)).comp HB9.out (fun i e=>.inr (by omega))⟩
theorem create_ok (h:Duo w H s d N)(hf:KF H.p s)(hm:S.mayV H.z.room H.z.n s.nx s.V c.size=0)(hr:(D.rootA H.p.d s.d s.nx).code=0) :
  Calls Tryz.prog 59 #[.pointer (some ⟨H.kb,0,none⟩),.agg (R.cC c dd gg).toArray] w fun e w'=>e=.returned (rpV ⟨0,(D.rootA H.p.d s.d s.nx).c,[],0⟩ none 0 0)∧∃N',Duo w' H { putD s (D.rootA H.p.d s.d s.nx).s with nx:=s.nx+1,V:=s.V++[(s.nx,List.replicate c.size.toNat 0)] } d N'∧Went w N w' N':=by
 obtain⟨W,hW⟩:∃W,W=(w.alloc (Obj.cells (R.cC c dd gg).toArray 45)).alloc z6:=⟨_,rfl⟩
 have hB:Below w.heap.size w W:=by rw [hW];exact below2 _ _ _
 have hX:R.Bx W w.heap.size (R.cC c dd gg):=by rw [hW];exact R.Bx.later (below1 _ _) (R.Bx.new w (R.cC c dd gg) 45)
 have hZ:Zr W (w.heap.size+1):=by rw [hW];have:=Zr.new (w.alloc (Obj.cells (R.cC c dd gg).toArray 45));simpa using this
 have h2:=h.later hB
 have HC:=hid (fun (U:World) (hU:Below W.heap.size W U)=>pMay (h2.later hU) c.size)
 have HS:Hid (∀U {s d},Duo U H s d N→But N W U→U.cell? ⟨H.kb,11,none⟩=some (.pointer (some ⟨H.z.s,0,none⟩))∧U.cell? ⟨w.heap.size,2,none⟩=some (.int .i64 c.size)):=fun U s d hd hb=>by
  have:=Cb.of (R.Bx.but hb hX (h.new (Nat.le_refl _)))
  exact⟨hd.kb 11 _ rfl,this.c2⟩
 have H0:=hid (fun U (hU:But (fun _=>False) W U)=>HS.out U (h2.but hU (fun _ _ h=>h) (fun h=>h)) (hU.mono (fun _ h=>h.elim)))
 have hq:(S.mayV H.z.room H.z.n s.nx s.V c.size != 0)=false:=by simpa using hm
 rw [hm] at HC
 have HF:=hid hf
 have HNX:Hid (S.i64ok s.nx):=by have:=hf.nx;unfold Hid S.i64ok;omega
 have HM:=hid hm
 obtain⟨A,hA⟩:∃A,A=D.rootA H.p.d s.d s.nx:=⟨_,rfl⟩
 rw [←hA] at hr ⊢
 have HA:=hid hA
 have HRr:=hid hr
 have HW:=hid hW
 have HB:=hid hB
 have HX:=hid hX
 have HZ:=hid hZ
 have HD:=hid h2
 have HP:Hid (0<w.heap.size):=by have:=h.b0;unfold Hid;omega
 have HN:=hid (fun k hk=>h.new (k:=k) hk)
 clear h h2 hB hX hZ hW hm hf hq hA hr
 go_enter Tryz.func59,Tryz.ntmps59
 go_upto_region 1 with fail
 rw [←HW.out]
 go_region_held3 (fun U=>U.cell? ⟨H.kb,11,none⟩=some (.pointer (some ⟨H.z.s,0,none⟩))∧U.cell? ⟨w.heap.size,2,none⟩=some (.int .i64 c.size)) (first|exact H0.out _ (But.of (Below.refl _ _).drew)|exact HE.out) (first
   | (go_at_call 103;refine (HC.out _ (Below.refl _ _).drew).mono ?_;rintro e w1 ⟨rfl,hb_⟩;have HB1:Hid (Below W.heap.size W w1):=bc (Below.refl _ _).drew hb_;have HE:=hid (H0.out w1 (But.of HB1.out));clear hb_))
 have HX1:=hid (R.Bx.later HB1.out HX.out)
 have HD1:=hid (HD.out.later HB1.out)
 have HZ1:=hid (HZ.out.later HB1.out)
 have HS1:Hid (w.heap.size≤w1.heap.size):=Nat.le_trans HB.out.size HB1.out.size
 have HSS:Hid (∀U {s d},Duo U H s d N→But N w1 U→U.cell? ⟨H.kb,10,none⟩=some (.pointer (some ⟨H.g,0,none⟩))∧U.cell? ⟨H.kb,11,none⟩=some (.pointer (some ⟨H.z.s,0,none⟩))∧U.cell? ⟨H.kb,12,none⟩=some (.pointer (some ⟨H.A.g,0,none⟩))∧U.cell? ⟨H.kb,13,none⟩=some (.pointer (some ⟨H.qg,0,none⟩))∧U.cell? ⟨w.heap.size,2,none⟩=some (.int .i64 c.size)):=fun U s d hd hb=>by
  have:=Cb.of (R.Bx.but hb HX1.out (HN.out _ (Nat.le_refl _)))
  exact⟨hd.kb 10 _ rfl,hd.kb 11 _ rfl,hd.kb 12 _ rfl,hd.kb 13 _ rfl,this.c2⟩
 have H01:=hid (fun U (hU:But (fun _=>False) w1 U)=>HSS.out U (HD1.out.but hU (fun _ _ h=>h) (fun h=>h)) (hU.mono (fun _ h=>h.elim)))
 have HNx:=hid (fun (U:World) (hU:Below w1.heap.size w1 U)=>pNext (HD1.out.later hU))
 have HRt:=hid (fun (U:World) (hU:Below w1.heap.size w1 U)=>dRoot (HD1.out.later hU) HF.out s.nx (wf_i HNX.out))
 rw [←HA.out] at HRt
 clear HE HC H0
 go_upto_region 4 with fail
 go_cut [6,7] (fun s5 s6 U=>∃b,s5=.pointer (some ⟨b,0,none⟩)∧s6=.int .i64 A.code∧Hid (w1.heap.size≤b∧∃u,(Duo u H (putD s A.s) d N∧But N w1 u)∧Bc u U b A.c))
 case first =>
  go_region_held3 (fun U=>U.cell? ⟨H.kb,10,none⟩=some (.pointer (some ⟨H.g,0,none⟩))∧U.cell? ⟨H.kb,11,none⟩=some (.pointer (some ⟨H.z.s,0,none⟩))∧U.cell? ⟨H.kb,12,none⟩=some (.pointer (some ⟨H.A.g,0,none⟩))∧U.cell? ⟨H.kb,13,none⟩=some (.pointer (some ⟨H.qg,0,none⟩))∧U.cell? ⟨w.heap.size,2,none⟩=some (.int .i64 c.size)) (first|exact H01.out _ (But.of (Below.refl _ _).drew)|exact H01.out _ (But.of (below1 _ _).drew)|exact H01.out _ (But.of (below1 _ _))|exact HE.out _ (But.refl _ _)|exact HE.out _ (But.of (below1 _ _))|exact HE.out _ (L.set3_but (S:=fun k=>k=w1.heap.size) (b:=w1.heap.size) (But.refl _ u_) rfl _)) (first
   | (go_at_call 38;refine (HNx.out _ (Below.refl _ _).drew).mono ?_;rintro e u9 ⟨rfl,hw9⟩;obtain rfl:=hw9.symm)|(go_at_call 38;refine (HNx.out _ (below1 _ _).drew).mono ?_;rintro e u9 ⟨rfl,hw9⟩;obtain rfl:=hw9.symm)|(go_at_call 104;refine (HRt.out _ (below1 _ _).drew).mono ?_;rintro e u_ ⟨rfl,hd_,hb_⟩;have HBt:Hid (But N w1 u_):=(But.of (S:=N) (below1 w1 (Obj.cells #[.int .i64 0,.int .u64 0,.int .u64 0] 38)).drew).trans hb_;have HPs:=hid (And.intro hd_ HBt.out);have hzc:=(Zb.mk_ w1).but (show But N (w1.alloc (Obj.cells #[.int .i64 0,.int .u64 0,.int .u64 0] 38)).drew u_ from hb_) (HN.out _ HS1.out);have HZc:=hid hzc;have HE:=hid (fun U (hU:But (fun k=>k=w1.heap.size) u_ U)=>HSS.out U (hd_.but hU (fun k hk e=>HN.out k (by have h9:w1.heap.size≤_:=(Nat.le_refl _);have:=HS1.out;omega) hk) (fun e=>by have h9:w1.heap.size≤_:=(Nat.le_refl _);have:=HS1.out;have:=HP.out;omega)) (HBt.out.comp hU (fun i e=>.inr (by have h9:w1.heap.size≤_:=(Nat.le_refl _);omega))));obtain⟨⟨z0,f0⟩,⟨z1,f1⟩,⟨z2,f2⟩⟩:=hzc;clear hb_)
   | (go_at_call 104;refine (HRt.out _ (Below.refl _ _).drew).mono ?_;rintro e u_ ⟨rfl,hd_,hb_⟩;have HBt:Hid (But N w1 u_):=(But.of (S:=N) (Below.refl w1.heap.size w1).drew).trans hb_;have HPs:=hid (And.intro hd_ HBt.out);have HE:=hid (fun U (hU:But (fun k=>k=u_.heap.size) u_ U)=>HSS.out U (hd_.but hU (fun k hk e=>HN.out k (by have h9:w1.heap.size≤_:=HBt.out.size;have:=HS1.out;omega) hk) (fun e=>by have h9:w1.heap.size≤_:=HBt.out.size;have:=HS1.out;have:=HP.out;omega)) (HBt.out.comp hU (fun i e=>.inr (by have h9:w1.heap.size≤_:=HBt.out.size;omega))));clear hb_))
  all_goals (try go_wp2)
  all_goals go_meet
  all_goals (first|exact⟨_,rfl,rfl,Nat.le_refl _,u_,HPs.out,Bc.first HZc.out _⟩|exact⟨_,rfl,rfl,HBt.out.size,u_,HPs.out,Bc.then_ u_ _⟩)
 case rest =>
 rename World=>v
 obtain⟨b,rfl,rfl,HR⟩:=hcut
 obtain⟨hlo,u,⟨hd3,hb3⟩,hbc⟩:=HR.out
 obtain⟨hv,v0,v1,v2⟩:=hbc
 have hsz:=HS1.out
 have HDv:=hid (hd3.but hv (fun k hk e=>HN.out k (by omega) hk) (fun e=>by have:=HP.out;omega))
 have HBv:Hid (But N w1 v):=hb3.comp hv (fun i e=>.inr (by omega))
 have HZv:=hid (HZ1.out.but HBv.out (HN.out _ (by omega)))
 have HXv:=hid (R.Bx.but HBv.out HX1.out (HN.out _ (Nat.le_refl _)))
 have HLo:Hid (w1.heap.size≤b):=hlo
 have hvs:=hv.size
 have HBl:Hid (b<v.heap.size):=World.block_lt_of_cell? _ _ v0
 clear hlo hd3 hb3 hv hsz HR hvs
 have hqr:(A.code != 0)=false:=by simpa using HRr.out
 have HV:Hid (v.cell? ⟨b,0,none⟩=some (.int .i64 A.c.1)∧v.cell? ⟨b,1,none⟩=some (.int .u64 (A.c.2.1:Int))∧v.cell? ⟨b,2,none⟩=some (.int .u64 (A.c.2.2:Int))):=⟨v0,v1,v2⟩
 clear v0 v1 v2
 have HCr:=hid (fun (U:World) (hU:Below v.heap.size v U)=>pCreate (HDv.out.later hU) c.size HM.out)
 have H0v:Hid (∀U,But (fun _=>False) v U→U.cell? ⟨H.kb,11,none⟩=some (.pointer (some ⟨H.z.s,0,none⟩))∧U.cell? ⟨w.heap.size,2,none⟩=some (.int .i64 c.size)):=fun U hU=>by
  have:=Cb.of (R.Bx.but hU HXv.out (fun h=>h))
  exact⟨cb_ hU (HDv.out.kb 11 _ rfl) (fun h=>h),this.c2⟩
 go_upto_region 7 with fail
 go_region_held3 (fun U=>U.cell? ⟨H.kb,11,none⟩=some (.pointer (some ⟨H.z.s,0,none⟩))∧U.cell? ⟨w.heap.size,2,none⟩=some (.int .i64 c.size)) (first|exact H0v.out _ (But.of (Below.refl _ _).drew)|exact HE.out) (first
   | (go_at_call 105;refine (HCr.out _ (Below.refl _ _).drew).mono ?_;rintro e u2 ⟨rfl,N2,hd2,hw2⟩;have HD2:=hid hd2;have HW2:Hid (Went v N u2 N2):=(Went.later (Below.refl _ _).drew).trans hw2;have HE:Hid (u2.cell? ⟨H.kb,11,none⟩=some (.pointer (some ⟨H.z.s,0,none⟩))∧u2.cell? ⟨w.heap.size,2,none⟩=some (.int .i64 c.size)):=⟨hd2.kb 11 _ rfl,(Cb.of (R.Bx.but HW2.out.2 HXv.out (HN.out _ (Nat.le_refl _)))).c2⟩;clear hd2 hw2))
 obtain⟨v0,v1,v2⟩:=HV.out
 have hlo:=HLo.out
 have hsz:=HS1.out
 have hbb:¬N b:=HN.out _ (by omega)
 have v0:=cb_ HW2.out.2 v0 hbb
 have v1:=cb_ HW2.out.2 v1 hbb
 have v2:=cb_ HW2.out.2 v2 hbb
 have HZ9:=hid (HZv.out.but HW2.out.2 (HN.out _ (by omega)))
 have HS9:=hid (HZ9.out.st ⟨0,A.c,[],0⟩ none 0 0)
 have HL9:=hid (HZ9.out.lv ⟨0,A.c,[],0⟩ none 0 0)
 have HB9:Hid (But (·=w.heap.size+1) u2 (u2.setCells (w.heap.size+1) 0 (rpL ⟨0,A.c,[],0⟩ none 0 0))):=R.sb_ (S:=(·=w.heap.size+1)) rfl _ 0 (But.refl _ _)
 clear hlo hsz hbb
 go_wp2_with (first|((with_reducible refine st_arm HS9.out ?_ ?_ ?_);(· rfl);(· rfl)))
 refine bodyPost_ret (v:=rpV ⟨0,A.c,[],0⟩ none 0 0) (by simp [results,Tryz.results59,asAddr,HL9.out]) rfl ⟨rfl,N2,HD2.out.but HB9.out (fun k hk e=>?_) (fun e=>by have:0=w.heap.size+1:=e;omega),?_⟩
 ·have h1:=HZv.out.lt
  exact HW2.out.out (by omega) (HN.out _ (by omega)) hk
 ·have h0:Went w N v N:=⟨fun k h=>.inl h,(But.of (bc HB.out HB1.out)).trans HBv.out⟩
  have h1:=h0.trans HW2.out
  exact⟨h1.1,h1.2.comp HB9.out (fun i e=>.inr (by omega))⟩
end
end Go.Proofs.YtfmhdimaijimlaaGreatDoor.V
