import Derived.Test.YtfmhdimaijimlaaGreatDoorE22
set_option linter.all false
set_option maxRecDepth 1000000
set_option maxHeartbeats 8000000
open Go.Proofs.Tryz
variable {w w' w1 w2:Go.World}{n m k i j b g base kn:Nat}{a:Option Go.Addr}
namespace Go.Proofs.YtfmhdimaijimlaaGreatDoor.V
open Go.RowKit
open Go.Proofs.YtfmhdimaijimlaaGreatDoor.H (B64 Cp)
section
variable {w w':World}{H:Hd}{s s':Sta}{d d':Nat→List K.Pu}{O:Nat→Nat→Prop}{N:Nat→Prop}{c:R.Cl}{dd gg:R.Sl}{b:Nat}
theorem valid_any (h:Duo w H s d N)(ht:L.Tr s.X s.l d)(hf:KF H.p s)(need:Int)(hw:c.hi<B64∧c.lo<B64)(hby:c.by_∈s.P) :
  Calls prog 110 #[.pointer (some ⟨H.kb,0,none⟩),.agg (R.cC c dd gg).toArray,.int .i64 need] w λe w'=>e=.returned (.int .i64 (valE s c.given c.by_ (cpO c) need))∧∃T,Duo w' H s T N∧L.Tr s.X s.l T∧But N w w':=by
 unfold valE
 cases hg:c.given with
 | true=>exact valid_given h ht need hg hw
 | false=>exact valid_named h ht hf need hg hby
theorem ldC (h:R.Bx w b (R.cC c dd gg)):(Instr.loadAt 45 (.pointer (some ⟨b,0,none⟩))).run prog w=.ok (.agg (R.cC c dd gg).toArray) w:=by
 have:=R.lv41 h.range (by rfl)
 simp [Instr.loadAt,Instr.sureAddr,this]
theorem row_but0 {B:Nat→Prop}{cap:Nat}{Q:List Value}(h:Row w a n cap Q)(hb:But B w w')(hn:0<n→∀k,Blk a k→¬B k):Row w' a n cap Q:=by
 by_cases h0:0<n
 ·exact Row.but hb h (hn h0)
 ·have hl:=h.len
  refine⟨h.len,h.cap_,h.none_,λx hx j u hu=>?_,h.one⟩
  have:=(gS.1 hu).1
  omega
theorem wp_store_known {P:Program}{o:Oper}{a:Act}{K:Act→World→Prop}{Q:Exit→Act→World→Prop}(ty:TypeId)(x y:Operand)(ho:o.op=.store ty x y)(vx vy:Value)(hx:a.eval x=vx)(hy:a.eval y=vy)(w':World)
  (hr:(Instr.storeAt ty vx vy).run P w=.ok () w') (h:K (a.put o.dst undef) w'):o.wp P a w K Q:=by
 unfold Oper.wp execOp
 simp only [ho,hx,hy,hr,Sem.run_bind,Sem.run_pure,Result.andThen_ok]
 exact h
theorem read_no (h:Duo w H s d N)(ht:L.Tr s.X s.l d)(hf:KF H.p s)(hw:c.hi<B64∧c.lo<B64)(hby:c.by_∈s.P)(hv:valE s c.given c.by_ (cpO c) 1≠0) :
  Calls prog 63 #[.pointer (some ⟨H.kb,0,none⟩),.agg (R.cC c dd gg).toArray] w λe w'=>e=.returned (rpV (rep (valE s c.given c.by_ (cpO c) 1)) none 0 0)∧∃T,Duo w' H s T N∧L.Tr s.X s.l T∧But N w w':=by
 obtain⟨W,hW⟩:∃W,W=(w.alloc (Obj.cells (R.cC c dd gg).toArray 45)).alloc z6:=⟨_,rfl⟩
 have hB:Below w.heap.size w W:=by rw [hW];exact below2 _ _ _
 have hX:R.Bx W w.heap.size (R.cC c dd gg):=by rw [hW];exact R.Bx.later (below1 _ _) (R.Bx.new w (R.cC c dd gg) 45)
 have hZ:Zr W (w.heap.size+1):=by rw [hW];have:=Zr.new (w.alloc (Obj.cells (R.cC c dd gg).toArray 45));simpa using this
 have h2:=h.later hB
 have HC:=hid (valid_any (dd:=dd) (gg:=gg) h2 ht hf 1 hw hby)
 have HLd:=hid (ldC hX)
 obtain⟨m,hm⟩:∃m,m=valE s c.given c.by_ (cpO c) 1:=⟨_,rfl⟩
 rw [←hm] at HC hv
 have hq:(m != 0)=true:=by simpa using hv
 rw [←hm]
 have HW:=hid hW
 have HB:=hid hB
 have HX:=hid hX
 have HZ:=hid hZ
 have HD:=hid h2
 have HP:Hid (0<w.heap.size):=by have:=h.b0;unfold Hid;omega
 have HN:=hid (λk hk=>h.new (k:=k) hk)
 clear h h2 hB hX hZ hW ht hf hv hm
 go_enter func63,ntmps63
 go_upto_region 1 with fail
 rw [←HW.o]
 go_upto_region 2 with (first|((with_reducible refine R.ld_arm HLd.o ?_ ?_);(· rfl))|(go_at_call 110;refine HC.o.mono ?_;rintro e w1 ⟨rfl,T,hd1,ht1,hb1⟩;have HD1:=hid hd1;have HT1:=hid ht1;have HB1:Hid (But N W w1):=hb1;clear hd1 ht1 hb1))
 have HR:=hid (refused_any m w1)
 go_upto_region 3 with fail
 go_upto_region 4 with (first|(go_at_call 31;refine HR.o.mono ?_;rintro e w2 ⟨rfl,hb2⟩;have HB2:Hid (But N W w2):=HB1.o.call hb2;have HD2:=hid (HD1.o.later hb2);have HZ9:=hid (HZ.o.but HB2.o (HN.o _ (by omega)));have HS9:=hid (HZ9.o.st (rep m) none 0 0);have HL9:=hid (HZ9.o.lv (rep m) none 0 0);clear hb2)|((with_reducible refine st_arm HS9.o ?_ ?_ ?_);(· rfl);(· rfl)))
 have HB9:Hid (But (·=w.heap.size+1) w2 (w2.setCells (w.heap.size+1) 0 (rpL (rep m) none 0 0))):=R.sb_ (S:=(·=w.heap.size+1)) rfl _ 0 (But.refl _ _)
 exact bodyPost_ret (v:=rpV (rep m) none 0 0) (by simp [results,results63,asAddr,HL9.o]) rfl ⟨rfl,T,HD2.o.but HB9.o (λk hk e=>HN.o k (by omega) hk) (λe=>by have:0=w.heap.size+1:=e;omega),HT1.o,((But.of HB.o).trans HB2.o).comp HB9.o (λi e=>.inr (by omega))⟩
theorem write_no (h:Duo w H s d N)(ht:L.Tr s.X s.l d)(hf:KF H.p s)(hw:c.hi<B64∧c.lo<B64)(hby:c.by_∈s.P)(hv:valE s c.given c.by_ (cpO c) 2≠0) :
  Calls prog 64 #[.pointer (some ⟨H.kb,0,none⟩),.agg (R.cC c dd gg).toArray] w λe w'=>e=.returned (rpV (rep (valE s c.given c.by_ (cpO c) 2)) none 0 0)∧∃T,Duo w' H s T N∧L.Tr s.X s.l T∧But N w w':=by
 obtain⟨W,hW⟩:∃W,W=(w.alloc (Obj.cells (R.cC c dd gg).toArray 45)).alloc z6:=⟨_,rfl⟩
 have hB:Below w.heap.size w W:=by rw [hW];exact below2 _ _ _
 have hX:R.Bx W w.heap.size (R.cC c dd gg):=by rw [hW];exact R.Bx.later (below1 _ _) (R.Bx.new w (R.cC c dd gg) 45)
 have hZ:Zr W (w.heap.size+1):=by rw [hW];have:=Zr.new (w.alloc (Obj.cells (R.cC c dd gg).toArray 45));simpa using this
 have h2:=h.later hB
 have HC:=hid (valid_any (dd:=dd) (gg:=gg) h2 ht hf 2 hw hby)
 have HLd:=hid (ldC hX)
 obtain⟨m,hm⟩:∃m,m=valE s c.given c.by_ (cpO c) 2:=⟨_,rfl⟩
 rw [←hm] at HC hv
 have hq:(m != 0)=true:=by simpa using hv
 rw [←hm]
 have HW:=hid hW
 have HB:=hid hB
 have HX:=hid hX
 have HZ:=hid hZ
 have HD:=hid h2
 have HP:Hid (0<w.heap.size):=by have:=h.b0;unfold Hid;omega
 have HN:=hid (λk hk=>h.new (k:=k) hk)
 clear h h2 hB hX hZ hW ht hf hv hm
 go_enter func64,ntmps64
 go_upto_region 1 with fail
 rw [←HW.o]
 go_upto_region 2 with (first|((with_reducible refine R.ld_arm HLd.o ?_ ?_);(· rfl))|(go_at_call 110;refine HC.o.mono ?_;rintro e w1 ⟨rfl,T,hd1,ht1,hb1⟩;have HD1:=hid hd1;have HT1:=hid ht1;have HB1:Hid (But N W w1):=hb1;clear hd1 ht1 hb1))
 have HR:=hid (refused_any m w1)
 go_upto_region 3 with fail
 go_upto_region 4 with (first|(go_at_call 31;refine HR.o.mono ?_;rintro e w2 ⟨rfl,hb2⟩;have HB2:Hid (But N W w2):=HB1.o.call hb2;have HD2:=hid (HD1.o.later hb2);have HZ9:=hid (HZ.o.but HB2.o (HN.o _ (by omega)));have HS9:=hid (HZ9.o.st (rep m) none 0 0);have HL9:=hid (HZ9.o.lv (rep m) none 0 0);clear hb2)|((with_reducible refine st_arm HS9.o ?_ ?_ ?_);(· rfl);(· rfl)))
 have HB9:Hid (But (·=w.heap.size+1) w2 (w2.setCells (w.heap.size+1) 0 (rpL (rep m) none 0 0))):=R.sb_ (S:=(·=w.heap.size+1)) rfl _ 0 (But.refl _ _)
 exact bodyPost_ret (v:=rpV (rep m) none 0 0) (by simp [results,results64,asAddr,HL9.o]) rfl ⟨rfl,T,HD2.o.but HB9.o (λk hk e=>HN.o k (by omega) hk) (λe=>by have:0=w.heap.size+1:=e;omega),HT1.o,((But.of HB.o).trans HB2.o).comp HB9.o (λi e=>.inr (by omega))⟩
theorem read_ok (h:Duo w H s d N)(ht:L.Tr s.X s.l d)(hf:KF H.p s)(hw:c.hi<B64∧c.lo<B64)(hby:c.by_∈s.P)(ho:S.i64ok c.obj)(hv:valE s c.given c.by_ (cpO c) 1=0) :
  Calls prog 63 #[.pointer (some ⟨H.kb,0,none⟩),.agg (R.cC c dd gg).toArray] w λe w'=>∃a n cp T,e=.returned (rpV ⟨S.rvE s.V c.obj c.off c.n,(0,0,0),S.rvL s.V c.obj c.off c.n,0⟩ a n cp)∧Own w' w.heap.size 5 a n cp (S.u8s (S.rvL s.V c.obj c.off c.n))∧Duo w' H s T N∧L.Tr s.X s.l T∧But N w w':=by
 obtain⟨W,hW⟩:∃W,W=(w.alloc (Obj.cells (R.cC c dd gg).toArray 45)).alloc z6:=⟨_,rfl⟩
 have hB:Below w.heap.size w W:=by rw [hW];exact below2 _ _ _
 have hX:R.Bx W w.heap.size (R.cC c dd gg):=by rw [hW];exact R.Bx.later (below1 _ _) (R.Bx.new w (R.cC c dd gg) 45)
 have hZ:Zr W (w.heap.size+1):=by rw [hW];have:=Zr.new (w.alloc (Obj.cells (R.cC c dd gg).toArray 45));simpa using this
 have h2:=h.later hB
 have HC:=hid (valid_any (dd:=dd) (gg:=gg) h2 ht hf 1 hw hby)
 have HLd:=hid (ldC hX)
 have hq:(valE s c.given c.by_ (cpO c) 1 != 0)=false:=by simpa using hv
 rw [hv] at HC
 have HO:=hid ho
 obtain⟨D,hD⟩:∃D,D=S.rvL s.V c.obj c.off c.n:=⟨_,rfl⟩
 obtain⟨E,hE⟩:∃E,E=S.rvE s.V c.obj c.off c.n:=⟨_,rfl⟩
 rw [←hD,←hE]
 have HDq:=hid hD
 have HEq:=hid hE
 have HW:=hid hW
 have HB:=hid hB
 have HX:=hid hX
 have HZ:=hid hZ
 have HD:=hid h2
 have HP:Hid (0<w.heap.size):=by have:=h.b0;unfold Hid;omega
 have HN:=hid (λk hk=>h.new (k:=k) hk)
 clear h h2 hB hX hZ hW ht hf hv hq ho hD hE
 go_enter func63,ntmps63
 go_upto_region 1 with fail
 rw [←HW.o]
 go_upto_region 2 with (first|((with_reducible refine R.ld_arm HLd.o ?_ ?_);(· rfl))|(go_at_call 110;refine HC.o.mono ?_;rintro e w1 ⟨rfl,T,hd1,ht1,hb1⟩;have HD1:=hid hd1;have HT1:=hid ht1;have HB1:Hid (But N W w1):=hb1;clear hd1 ht1 hb1))
 have HX1:=hid (R.Bx.but HB1.o HX.o (HN.o _ (Nat.le_refl _)))
 have HRd:=hid (λ(U:World) (hU:Below w1.heap.size w1 U)=>pRead (HD1.o.later hU) c.obj c.off c.n HO.o)
 have H01:Hid (∀U,But (λ_=>False) w1 U→U.cell? ⟨H.kb,11,none⟩=some (.pointer (some ⟨H.z.s,0,none⟩))∧U.cell? ⟨w.heap.size,3,none⟩=some (.int .i64 c.obj)∧U.cell? ⟨w.heap.size,8,none⟩=some (.int .i64 c.off)∧U.cell? ⟨w.heap.size,9,none⟩=some (.int .i64 c.n)):=λU hU=>by
  have:=Cb.of (R.Bx.but hU HX1.o (λh=>h))
  exact⟨cb_ hU (HD1.o.kb 11 _ rfl) (λh=>h),this.c3,this.c8,this.c9⟩
 rw [←HDq.o,←HEq.o] at HRd
 clear HC HLd
 go_upto_region 4 with fail
 go_region_held3 (λU=>U.cell? ⟨H.kb,11,none⟩=some (.pointer (some ⟨H.z.s,0,none⟩))∧U.cell? ⟨w.heap.size,3,none⟩=some (.int .i64 c.obj)∧U.cell? ⟨w.heap.size,8,none⟩=some (.int .i64 c.off)∧U.cell? ⟨w.heap.size,9,none⟩=some (.int .i64 c.n)) (first|exact H01.o _ (But.of (Below.refl _ _).drew)|exact HE.o) (first
   | (go_at_call 111;refine (HRd.o _ (Below.refl _ _).drew).mono ?_;rintro e w2 ⟨a2,c2,rfl,hO2,hb2⟩;have HB2:Hid (Below w1.heap.size w1 w2):=b_c (Below.refl _ _).drew hb2;have HE:=hid (H01.o w2 (But.of HB2.o));have HO2:=hid hO2;clear hO2 hb2))
 have HZ9:=hid ((HZ.o.but HB1.o (HN.o _ (by omega))).later HB2.o)
 have HS9:=hid (HZ9.o.st ⟨E,(0,0,0),D,0⟩ a2 D.length c2)
 have HL9:=hid (HZ9.o.lv ⟨E,(0,0,0),D,0⟩ a2 D.length c2)
 have HB9:Hid (But (·=w.heap.size+1) w2 (w2.setCells (w.heap.size+1) 0 (rpL ⟨E,(0,0,0),D,0⟩ a2 D.length c2))):=R.sb_ (S:=(·=w.heap.size+1)) rfl _ 0 (But.refl _ _)
 have HSz:Hid (w.heap.size+2≤w1.heap.size):=by have h1:=HB1.o.size;have h2:(w.heap.size+1)<W.heap.size:=HZ.o.lt;unfold Hid;omega
 go_wp2_with (first|((with_reducible refine st_arm HS9.o ?_ ?_ ?_);(· rfl);(· rfl)))
 exact bodyPost_ret (v:=rpV ⟨E,(0,0,0),D,0⟩ a2 D.length c2) (by simp [results,results63,asAddr,HL9.o]) rfl ⟨a2,D.length,c2,T,rfl,(HO2.o.but HB9.o (λk hk e=>by have:=HO2.o.blk k hk;have:=HSz.o;have e2:k=w.heap.size+1:=e;have h3:w1.drew.heap.size=w1.heap.size:=rfl;omega)).mono (by have:=HSz.o;have h3:w1.drew.heap.size=w1.heap.size:=rfl;omega),(HD1.o.later HB2.o).but HB9.o (λk hk e=>HN.o k (by omega) hk) (λe=>by have:0=w.heap.size+1:=e;omega),HT1.o,((But.of HB.o).trans (HB1.o.call HB2.o)).comp HB9.o (λi e=>.inr (by omega))⟩
end
open Go.Proofs.YtfmhdimaijimlaaGreatDoor.M (wpAnyH_norm)
section
variable {w w':World}{H:Hd}{s s':Sta}{d d':Nat→List K.Pu}{O:Nat→Nat→Prop}{N:Nat→Prop}{c:R.Cl}{dd gg:R.Sl}{b:Nat}
theorem isV {hi lo:Nat}(h:hi<B64∧lo<B64):D.IsV (hi:Int) (lo:Int) (hi*B64+lo):=D.IsV.of ⟨h.1,h.2,rfl⟩
theorem wfits_any (hi lo:Nat)(hw:hi<B64∧lo<B64)(W:Int)(hW:1≤W)(w:World):Calls prog 166 #[.agg #[.int .u64 (hi:Int),.int .u64 (lo:Int)],.int .i64 W] w λe w'=>e=.returned (.bool (decide (D.cutN (hi*B64+lo) W=hi*B64+lo)))∧Below w.heap.size w w':=by
 have hB:=below1 w (Obj.cells #[.int .u64 (hi:Int),.int .u64 (lo:Int)] 31)
 have HC:=hid (λU=>D.cut_any (hi:Int) (lo:Int) (hi*B64+lo) W U (isV hw))
 have HV:=hid (isV hw)
 have HE:=hid R.eqlW
 have hd:decide (1≤W)=true:=by simpa using hW
 have H0:Hid (∀U,Below (w.alloc (Obj.cells #[.int .u64 (hi:Int),.int .u64 (lo:Int)] 31)).heap.size (w.alloc (Obj.cells #[.int .u64 (hi:Int),.int .u64 (lo:Int)] 31)) U→U.cell? ⟨w.heap.size,0,none⟩=some (.int .u64 (hi:Int))∧U.cell? ⟨w.heap.size,1,none⟩=some (.int .u64 (lo:Int))):=λU hU=>⟨cell_later hU (by simp [go_sem]),cell_later hU (by simp [go_sem])⟩
 have HB:=hid hB
 clear hB
 go_enter func166,ntmps166
 go_upto_region 1 with fail
 have heq:=HE.o
 go_region_held3 (λU=>U.cell? ⟨w.heap.size,0,none⟩=some (.int .u64 (hi:Int))∧U.cell? ⟨w.heap.size,1,none⟩=some (.int .u64 (lo:Int))) (first|exact H0.o _ (Below.refl _ _).drew|exact HE1.o) (first
  | (go_at_call 83;refine (HC.o _).mono ?_;rintro e w2 ⟨c1,d1,rfl,hv2,hb2⟩;have HV2:=hid hv2;have HB2:=hid (b_c ((b_c HB.o (Below.refl _ _).drew)) hb2);have HE1:=hid (H0.o w2 (b_c (Below.refl _ _).drew hb2));clear hv2 hb2))
 go_wp2
 go_ret
 refine⟨?_,HB2.o⟩
 have h1:=D.wEq_of HV2.o HV.o
 have h2:R.wEq c1 d1 (hi:Int) (lo:Int)=D.wEq c1 d1 (hi:Int) (lo:Int):=by unfold R.wEq D.wEq;simp
 rw [←h1,←h2]
 rfl
theorem kfits_any (h:Duo w H s d N)(hW:1≤H.W)(hi lo:Nat)(hw:hi<B64∧lo<B64):Calls prog 113 #[.pointer (some ⟨H.kb,0,none⟩),.agg #[.int .u64 (hi:Int),.int .u64 (lo:Int)]] w λe w'=>e=.returned (.bool (decide (D.cutN (hi*B64+lo) H.W=hi*B64+lo)))∧Below w.heap.size w w':=by
 obtain⟨W,hWq⟩:∃W,W=w.alloc (Obj.cells #[.int .u64 (hi:Int),.int .u64 (lo:Int)] 31):=⟨_,rfl⟩
 have hB:Below w.heap.size w W:=by rw [hWq];exact below1 _ _
 have y0:W.cell? ⟨w.heap.size,0,none⟩=some (.int .u64 (hi:Int)):=by rw [hWq];simp [go_sem]
 have y1:W.cell? ⟨w.heap.size,1,none⟩=some (.int .u64 (lo:Int)):=by rw [hWq];simp [go_sem]
 have k0:W.cell? ⟨H.kb,0,none⟩=some (.int .i64 H.W):=(h.later hB).kb 0 _ rfl
 have HC:=hid (λU=>wfits_any hi lo hw H.W hW U)
 have H0:Hid (∀U,Below W.heap.size W U→U.cell? ⟨w.heap.size,0,none⟩=some (.int .u64 (hi:Int))∧U.cell? ⟨w.heap.size,1,none⟩=some (.int .u64 (lo:Int))∧U.cell? ⟨H.kb,0,none⟩=some (.int .i64 H.W)):=λU hU=>⟨cell_later hU y0,cell_later hU y1,cell_later hU k0⟩
 have HB:=hid hB
 have HW:=hid hWq
 obtain⟨q,hq⟩:∃q,q=decide (D.cutN (hi*B64+lo) H.W=hi*B64+lo):=⟨_,rfl⟩
 rw [←hq] at HC ⊢
 clear hB y0 y1 k0 h hWq hq
 go_enter func113,ntmps113
 go_upto_region 1 with fail
 rw [←HW.o]
 go_region_held3 (λU=>U.cell? ⟨w.heap.size,0,none⟩=some (.int .u64 (hi:Int))∧U.cell? ⟨w.heap.size,1,none⟩=some (.int .u64 (lo:Int))∧U.cell? ⟨H.kb,0,none⟩=some (.int .i64 H.W)) (first|exact H0.o _ (Below.refl _ _).drew|exact HE1.o) (first
  | (go_at_call 166;refine (HC.o _).mono ?_;rintro e w2 ⟨rfl,hb2⟩;have HB2:=hid (b_c ((b_c HB.o (Below.refl _ _).drew)) hb2);have HE1:=hid (H0.o w2 (b_c (Below.refl _ _).drew hb2));clear hb2))
 go_wp2
 go_ret
 exact⟨rfl,HB2.o⟩
end
section
variable {w w':World}{H:Hd}{s s':Sta}{d d':Nat→List K.Pu}{O:Nat→Nat→Prop}{N:Nat→Prop}{c:R.Cl}{dd gg:R.Sl}{b:Nat}
theorem Li.lookU {U:World}{Pr:List Int}{D:Int→List Cp}{G:Int→Nat}{pa:Int→Option Addr}{cap:Int→Nat}{col:Nat→Int}{B:Nat→Prop}(h:Li w H Pr D G pa cap col)(hb:But B w U)(hn:¬B H.lg){i:Int}(hi:i∈Pr)(hr:-9223372036854775808≤i∧i<9223372036854775808) :
  (Instr.lookup 85 (.map (some H.lg)) (.int .i64 i) false).run prog U=.ok (.pointer (some ⟨G i,0,none⟩)) U:=by
 have hm:=S.owns_but hb h.map hn
 obtain⟨v,ps,hrun,hv⟩:=hm.lookup S.law3 underlying85 (S.zero_of infoL U) (zd:=.held (.pointer none)) (zp:=[]) rfl (S.key3 hr)
 rw [atKey_mapP _ _ _ hi] at hv
 simp only [S.hr,Option.some.injEq,Prod.mk.injEq,DataW.held.injEq] at hv
 rw [hrun,hv.1]
theorem Lay.laterL (h:Lay w H s d O N)(hb:Below w.heap.size w w'):Lay w' H s d O N:=by
 have hs:=hb.size
 exact⟨λi=>Part.but (B:=λ_=>False) (But.of hb) (λ_ _ h=>h) i (h.part i),h.ap,h.sub,λk hk=>by have h1:=h.rng k hk;exact⟨h1.1,by omega⟩,h.hmo,h.laid.later hb,h.b0.1,by have:=h.b0.2;omega⟩
def Lb (G:Int→Nat)(pa:Int→Option Addr)(i:Int)(k:Nat):Prop:=k=G i∨Blk (pa i) k
theorem lAdd (h:Duo w H s d N)(hf:KF H.p s){i:Int}(hi:i∈s.P){G:Int→Nat}{pa:Int→Option Addr}{cap:Int→Nat}{col:Nat→Int}{O:Nat→Nat→Prop}(hL:Lay w H s d O N)(hl:Li w H s.ks s.D G pa cap col)(hm:∀k,LiB s.ks G pa H.lg k→O 5 k)(c:Cp) :
  Calls prog 91 #[.pointer (some ⟨G i,0,none⟩),.agg #[.int .i64 c.1,.int .u64 (c.2.1:Int),.int .u64 (c.2.2:Int)]] w λe w'=>e=.returned (.int .i64 (if H.lm≤((s.D i).length:Int) then 14 else 0))∧(∃N',Duo w' H { s with D:=if H.lm≤((s.D i).length:Int) then s.D else upd s.D i (s.D i++[c]) } d N'∧Went w N w' N')∧But (Lb G pa i) w w':=by
 have hk:i∈s.ks:=by rw [hf.ks];exact hi
 by_cases hq:H.lm≤((s.D i).length:Int)
 ·simp only [if_pos hq]
  refine (M.add_full (hl.each i hk) c hq).mono ?_
  rintro e w' ⟨rfl,hb⟩
  exact⟨rfl,⟨N,h.later hb,Went.later hb⟩,But.of hb⟩
 ·simp only [if_neg hq]
  refine (M.add_more (hl.each i hk) c (by omega) hf.lm.2).mono ?_
  rintro e w' ⟨pb,cb,rfl,hd,hw⟩
  exact⟨rfl,hL.list hl hm hk hd hw,hw.but⟩
theorem add_no (h:Duo w H s d N)(hWd:1≤H.W)(hw:c.hi<B64∧c.lo<B64)(hq:fitB H.W (cpO c)=false) :
  Calls prog 65 #[.pointer (some ⟨H.kb,0,none⟩),.agg (R.cC c dd gg).toArray] w λe w'=>e=.returned (rpV (rep 18) none 0 0)∧Below w.heap.size w w':=by
 obtain⟨W,hW⟩:∃W,W=(w.alloc (Obj.cells (R.cC c dd gg).toArray 45)).alloc z6:=⟨_,rfl⟩
 have hB:Below w.heap.size w W:=by rw [hW];exact below2 _ _ _
 have hX:R.Bx W w.heap.size (R.cC c dd gg):=by rw [hW];exact R.Bx.later (below1 _ _) (R.Bx.new w (R.cC c dd gg) 45)
 have hZ:Zr W (w.heap.size+1):=by rw [hW];have:=Zr.new (w.alloc (Obj.cells (R.cC c dd gg).toArray 45));simpa using this
 have h2:=h.later hB
 have hq2:decide (D.cutN (c.hi*B64+c.lo) H.W=c.hi*B64+c.lo)=false:=by unfold fitB cpO at hq;simpa [hWd] using hq
 have HC:=hid (kfits_any h2 hWd c.hi c.lo hw)
 rw [hq2] at HC
 have x4:=(Cb.of hX).c4
 have x5:=(Cb.of hX).c5
 have HW:=hid hW
 have HB:=hid hB
 have HX:=hid hX
 have HZ:=hid hZ
 have HD:=hid h2
 have HP:Hid (0<w.heap.size):=by have:=h.b0;unfold Hid;omega
 have HN:=hid (λk hk=>h.new (k:=k) hk)
 clear h h2 hB hX hZ hW hq hq2
 go_enter func65,ntmps65
 go_upto_region 1 with fail
 rw [←HW.o]
 go_upto_region 2 with (first|(go_at_call 113;refine HC.o.mono ?_;rintro e w1 ⟨rfl,hb1⟩;have HB1:=hid hb1;clear hb1))
 have HR:=hid (refused_any 18 w1)
 go_upto_region 3 with (first|(go_at_call 31;refine HR.o.mono ?_;rintro e w2 ⟨rfl,hb2⟩;have HB2:Hid (Below W.heap.size W w2):=b_c HB1.o hb2;have HZ9:=hid (HZ.o.later HB2.o);have HS9:=hid (HZ9.o.st (rep 18) none 0 0);have HL9:=hid (HZ9.o.lv (rep 18) none 0 0);clear hb2)|((with_reducible refine st_arm HS9.o ?_ ?_ ?_);(· rfl);(· rfl)))
 have HB9:Hid (But (·=w.heap.size+1) w2 (w2.setCells (w.heap.size+1) 0 (rpL (rep 18) none 0 0))):=R.sb_ (S:=(·=w.heap.size+1)) rfl _ 0 (But.refl _ _)
 exact bodyPost_ret (v:=rpV (rep 18) none 0 0) (by simp [results,results65,asAddr,HL9.o]) rfl ⟨rfl,But.below (b_c HB.o HB2.o) HB9.o (λk e=>by omega)⟩
theorem add_ok (h:Duo w H s d N)(hf:KF H.p s)(hWd:1≤H.W)(hw:c.hi<B64∧c.lo<B64)(hby:c.by_∈s.P)(hq:fitB H.W (cpO c)=true) :
  Calls prog 65 #[.pointer (some ⟨H.kb,0,none⟩),.agg (R.cC c dd gg).toArray] w λe w'=>e=.returned (rpV (rep (if H.lm≤((s.D c.by_).length:Int) then 14 else 0)) none 0 0)∧∃N',Duo w' H { s with D:=if H.lm≤((s.D c.by_).length:Int) then s.D else upd s.D c.by_ (s.D c.by_++[cpO c]) } d N'∧Went w N w' N':=by
 obtain⟨W,hW⟩:∃W,W=(w.alloc (Obj.cells (R.cC c dd gg).toArray 45)).alloc z6:=⟨_,rfl⟩
 have hB:Below w.heap.size w W:=by rw [hW];exact below2 _ _ _
 have hX:R.Bx W w.heap.size (R.cC c dd gg):=by rw [hW];exact R.Bx.later (below1 _ _) (R.Bx.new w (R.cC c dd gg) 45)
 have hZ:Zr W (w.heap.size+1):=by rw [hW];have:=Zr.new (w.alloc (Obj.cells (R.cC c dd gg).toArray 45));simpa using this
 have h2:=h.later hB
 have hq2:decide (D.cutN (c.hi*B64+c.lo) H.W=c.hi*B64+c.lo)=true:=by unfold fitB cpO at hq;simpa [hWd] using hq
 have HC:=hid (kfits_any h2 hWd c.hi c.lo hw)
 rw [hq2] at HC
 have x4:=(Cb.of hX).c4
 have x5:=(Cb.of hX).c5
 have HF:=hid hf
 have HBy:=hid hby
 obtain⟨E,hE⟩:∃E,E=(if H.lm≤((s.D c.by_).length:Int) then (14:Int) else 0):=⟨_,rfl⟩
 obtain⟨D9,hD9⟩:∃D9,D9=(if H.lm≤((s.D c.by_).length:Int) then s.D else upd s.D c.by_ (s.D c.by_++[cpO c])):=⟨_,rfl⟩
 rw [←hE,←hD9]
 have HEq:=hid hE
 have HDq:=hid hD9
 have HW:=hid hW
 have HB:=hid hB
 have HX:=hid hX
 have HZ:=hid hZ
 have HD:=hid h2
 have HP:Hid (0<w.heap.size):=by have:=h.b0;unfold Hid;omega
 have HN:=hid (λk hk=>h.new (k:=k) hk)
 clear h h2 hB hX hZ hW hq hq2 hf hby hE hD9
 go_enter func65,ntmps65
 go_upto_region 1 with fail
 rw [←HW.o]
 go_upto_region 2 with (first|(go_at_call 113;refine HC.o.mono ?_;rintro e w1 ⟨rfl,hb1⟩;have HB1:=hid hb1;clear hb1 x4 x5))
 have HX1:=hid (R.Bx.later HB1.o HX.o)
 have HD1:=hid (HD.o.later HB1.o)
 have HZ1:=hid (HZ.o.later HB1.o)
 obtain⟨O,hL⟩:=HD1.o
 obtain⟨G,pa,cap,col,hl,hm⟩:=hL.part 5
 have hks:c.by_∈s.ks:=by rw [HF.o.ks];exact HBy.o
 have HNb:Hid (∀k,Lb G pa c.by_ k→N k):=λk hk=>hL.sub 5 k (hm k (.inr ⟨_,hks,hk⟩))
 have HSS:Hid (∀U,But (Lb G pa c.by_) w1 U→U.cell? ⟨H.kb,15,none⟩=some (.map (some H.lg))∧U.cell? ⟨w.heap.size,1,none⟩=some (.int .i64 c.by_)∧U.cell? ⟨w.heap.size,3,none⟩=some (.int .i64 c.obj)∧U.cell? ⟨w.heap.size,4,none⟩=some (.int .u64 (c.hi:Int))∧U.cell? ⟨w.heap.size,5,none⟩=some (.int .u64 (c.lo:Int))∧(Instr.lookup 85 (.map (some H.lg)) (.int .i64 c.by_) false).run prog U=.ok (.pointer (some ⟨G c.by_,0,none⟩)) U):=λU hb=>by
  have hx:=Cb.of (R.Bx.but hb HX1.o (λe=>HN.o _ (Nat.le_refl _) (HNb.o _ e)))
  exact⟨cb_ hb (HD1.o.kb 15 _ rfl) (λe=>absurd (hL.ap 7 5 _ (hL.part 7).2 (hm _ (.inr ⟨_,hks,e⟩))) (by decide)),hx.c1,hx.c3,hx.c4,hx.c5,hl.lookU hb (λe=>(hl.col _ hks _ e).2 rfl) hks (HF.o.by64 HBy.o)⟩
 have HSt:Hid (∀U,But (λk=>Lb G pa c.by_ k∨k=w.heap.size+1) w1 U→U.cell? ⟨H.kb,15,none⟩=some (.map (some H.lg))∧U.cell? ⟨w.heap.size,1,none⟩=some (.int .i64 c.by_)∧U.cell? ⟨w.heap.size,3,none⟩=some (.int .i64 c.obj)∧U.cell? ⟨w.heap.size,4,none⟩=some (.int .u64 (c.hi:Int))∧U.cell? ⟨w.heap.size,5,none⟩=some (.int .u64 (c.lo:Int))∧(Instr.lookup 85 (.map (some H.lg)) (.int .i64 c.by_) false).run prog U=.ok (.pointer (some ⟨G c.by_,0,none⟩)) U):=λU hb=>by
  have hx:=Cb.of (R.Bx.but hb HX1.o (λe=>e.elim (λe=>HN.o _ (Nat.le_refl _) (HNb.o _ e)) (λe=>by omega)))
  have hnw:∀k,N k→k≠w.heap.size+1:=λk hk e=>HN.o _ (by omega) (e ▸ hk)
  exact⟨cb_ hb (HD1.o.kb 15 _ rfl) (λe=>e.elim (λe=>absurd (hL.ap 7 5 _ (hL.part 7).2 (hm _ (.inr ⟨_,hks,e⟩))) (by decide)) (hnw _ (hL.sub 7 _ (hL.part 7).2))),hx.c1,hx.c3,hx.c4,hx.c5,hl.lookU hb (λe=>e.elim (λe=>(hl.col _ hks _ e).2 rfl) (hnw _ (hL.sub 5 _ (hm _ (.inl rfl))))) hks (HF.o.by64 HBy.o)⟩
 have HAd:=hid (λ(U:World) (hU:Below w1.heap.size w1 U)=>lAdd (HD1.o.later hU) HF.o HBy.o (hL.laterL hU) (hl.but (But.of (S:=λ_=>False) hU) (λ_ _ h=>h)) hm (cpO c))
 rw [←HEq.o,←HDq.o] at HAd
 unfold cpO at HAd
 clear hL hl hm hks HC
 go_upto_region 3 with fail
 refine wp_region_held_drew (S:=(λU:World=>U.cell? ⟨H.kb,15,none⟩=some (.map (some H.lg))∧U.cell? ⟨w.heap.size,1,none⟩=some (.int .i64 c.by_)∧U.cell? ⟨w.heap.size,3,none⟩=some (.int .i64 c.obj)∧U.cell? ⟨w.heap.size,4,none⟩=some (.int .u64 (c.hi:Int))∧U.cell? ⟨w.heap.size,5,none⟩=some (.int .u64 (c.lo:Int))∧(Instr.lookup 85 (.map (some H.lg)) (.int .i64 c.by_) false).run prog U=.ok (.pointer (some ⟨G c.by_,0,none⟩)) U)) (by kernel_rfl) (HSS.o _ (But.of (Below.refl _ _).drew)) (λhHeld=>?_)
 refine nH (bm 12 0) 12 ?_
 refine tH 0 (v:=?_) rfl (λ_ _ _ h=>h) ?_ ?_;rotate_left
 ·(intro w hSw;(try dsimp only at hSw);go_simp;try with_reducible rfl)
 try simp only [gz,Act.put]
 refine nH (bm 12 1) 11 ?_
 refine tH 1 (v:=?_) rfl (λ_ _ _ h=>h) ?_ ?_;rotate_left
 ·(intro w hSw;(try dsimp only at hSw);go_simp;try with_reducible rfl)
 try simp only [gz,Act.put]
 refine nH (bm 12 3) 10 ?_
 refine tH 2 (v:=?_) rfl (λ_ _ _ h=>h) ?_ ?_;rotate_left
 ·(intro w hSw;(try dsimp only at hSw);go_simp;try with_reducible rfl)
 try simp only [gz,Act.put]
 refine nH (bm 12 7) 9 ?_
 refine tH 3 (v:=?_) rfl (λ_ _ _ h=>h) ?_ ?_;rotate_left
 ·(intro w hSw;(try dsimp only at hSw);go_simp;try with_reducible rfl)
 try simp only [gz,Act.put]
 refine nH (bm 12 15) 8 ?_
 refine tH 4 (v:=?_) rfl (λ_ _ _ h=>h) ?_ ?_;rotate_left
 ·(intro w hSw;(try dsimp only at hSw);go_simp;try with_reducible rfl)
 try simp only [gz,Act.put]
 refine nH (bm 12 31) 7 ?_
 refine tH 5 (v:=?_) rfl (λ_ _ _ h=>h) ?_ ?_;rotate_left
 ·(intro w hSw;(try dsimp only at hSw);go_simp;try with_reducible rfl)
 try simp only [gz,Act.put]
 refine nH (bm 12 63) 6 ?_
 refine tH 6 (v:=?_) rfl (λ_ _ _ h=>h) ?_ ?_;rotate_left
 ·(intro w hSw;(try dsimp only at hSw);go_simp;try with_reducible rfl)
 try simp only [gz,Act.put]
 refine nH (bm 12 127) 5 ?_
 refine tH 7 (v:=?_) rfl (λ_ _ _ h=>h) ?_ ?_;rotate_left
 ·(intro w hSw;(try dsimp only at hSw);go_simp;try with_reducible rfl)
 try simp only [gz,Act.put]
 refine nH (bm 12 255) 4 ?_
 refine tH 8 (v:=?_) rfl (λ_ _ _ h=>h) ?_ ?_;rotate_left
 ·(intro w hSw;(try dsimp only at hSw);go_simp;try with_reducible rfl)
 try simp only [gz,Act.put]
 refine nH (bm 12 511) 3 ?_
 refine yH [9] ?_
 refine cH rfl λK hK=>?_
 go_simp
 go_wp2_with (first|(go_at_call 91;refine (HAd.o w1.drew (Below.refl _ _).drew).mono ?_;rintro e w2 ⟨rfl,⟨N2,hd2,hw2⟩,hb2⟩;have HD2:=hid hd2;have HW2:Hid (Went w1 N w2 N2):=(Went.later (Below.refl _ _).drew).trans hw2;have HB2:Hid (But (Lb G pa c.by_) w1 w2):=(But.of (Below.refl _ _).drew).trans hb2;have HZ9:=hid (HZ1.o.but HW2.o.2 (HN.o _ (by omega)));have HL9:=hid (HZ9.o.lv (rep E) none 0 0);have HS9:=hid (HZ9.o.st (rep E) none 0 0);have HB9:Hid (But (λk=>k=w.heap.size+1) w2 (w2.setCells (w.heap.size+1) 0 (rpL (rep E) none 0 0))):=R.sb_ (S:=(λk=>k=w.heap.size+1)) rfl _ 0 (But.refl _ _);have HBc:Hid (But (λk=>Lb G pa c.by_ k∨k=w.heap.size+1) w1 (w2.setCells (w.heap.size+1) 0 (rpL (rep E) none 0 0))):=(But.mono (T:=λk=>Lb G pa c.by_ k∨k=w.heap.size+1) HB2.o (λk hk=>Or.inl hk)).comp HB9.o (λi e=>.inl (.inr e));clear hd2 hb2 hw2))
 refine hK.out _ _ (HSS.o w2 HB2.o) (λhHeld=>?_)
 clear hK K
 try simp only [gz,Act.put]
 refine nH (bm 12 1023) 2 ?_
 refine tH 10 (v:=?_) rfl (λ_ _ _ h=>h) ?_ ?_;rotate_left
 ·(intro w hSw;(try dsimp only at hSw);go_simp;try with_reducible rfl)
 try simp only [gz,Act.put]
 refine nH (bm 12 2047) 1 ?_
 refine yH [11] ?_
 refine cH rfl λK hK=>?_
 rw [if_pos (by kernel_rfl)]
 refine wp_store_known 41 (.tmp 4) (.tmp 22) rfl _ _ rfl rfl _ HS9.o ?_
 refine hK.out _ _ (HSt.o _ HBc.o) (λhHeld=>?_)
 clear hK K
 try simp only [gz,Act.put]
 refine nH (bm 12 4095) 0 ?_
 refine wpAnyH_done (by kernel_rfl) ?_ _
 go_wp2
 have hlt:=HZ1.o.lt
 refine bodyPost_ret (v:=rpV (rep E) none 0 0) (by simp [results,results65,asAddr,HL9.o]) rfl ⟨rfl,N2,HD2.o.but HB9.o (λk hk e=>HW2.o.out (b:=k) (by omega) (HN.o _ (by omega)) hk) (λe=>by omega),?_⟩
 have h1:=(Went.later (N:=N) (b_c HB.o HB1.o)).trans HW2.o
 exact⟨h1.1,h1.2.comp HB9.o (λi e=>.inr (by omega))⟩
end
section
variable {w w':World}{H:Hd}{s s':Sta}{d d':Nat→List K.Pu}{O:Nat→Nat→Prop}{N:Nat→Prop}{c:R.Cl}{dd gg:R.Sl}{b:Nat}
def ArRel (w:World)(lm:Int)(g n:Nat)(K:List Cp)(t a10 a11:Value)(w':World):Prop :=
 ∃(i:Nat) (pa:Option Addr) (cap:Nat),i≤n∧t=.int .i64 (i:Int)∧M.Dm w' w.heap.size g lm pa cap (K.take i)∧Below w.heap.size w w'
theorem arm_any (h:Duo w H s d N)(hm:H.lm≤32∧1≤H.lm)(number:Int)(hlt:∀j∈s.ks,j<number)(h64:-9223372036854775808≤number∧number<9223372036854775808)(hkl:s.ks.length≤32){p:Option Addr}{n cp:Nat}{K:List Cp}(hr:Rd w p n K)(hn:(n:Int)≤H.lm) :
  Calls prog 55 #[.pointer (some ⟨H.kb,0,none⟩),.int .i64 number,.slice p n cp] w λe w'=>e=.returned (.int .i64 0)∧∃N',Duo w' H { s with ks:=s.ks++[number],D:=upd s.D number K } d N'∧Went w N w' N':=by
 have k6:=h.kb 6 _ rfl
 have HNew:=hid (M.new_ok H.lm w hm.2 hm.1)
 have HD:=hid h
 have HM:=hid hm
 have HR:=hid hr
 have HLn:Hid (K.length=n):=hr.len
 have HLt:=hid hlt
 have H64:=hid h64
 have HKl:=hid hkl
 have HNn:=hid hn
 have hn9:n<9223372036854775807:=by omega
 clear h hm hr hlt h64 hkl hn
 go_enter func55,ntmps55
 go_upto_region 3 with (first|(go_at_call 90;refine HNew.o.mono ?_;rintro e w1 ⟨g,rfl,hd1,hb1⟩;have HD1:=hid hd1;have HB1:=hid hb1;clear hd1 hb1 k6))
 go_loopw [23,10,11] (ArRel w H.lm g n K) (λt _ _ _=>n - (intOf t).toNat)
 case atStart=>exact⟨0,none,0,by omega,rfl,by simpa using HD1.o,HB1.o⟩
 case round =>
  obtain⟨i,pa,cap,hi,rfl,hdm,hB⟩:=hrel
  have ei:IntKind.i64.wrap ((i:Int)+1)=(i:Int)+1:=by rw [IntKind.wrap_i64];omega
  have HB:=hid hB
  have HDm:=hid hdm
  clear hdm hB
  by_cases hlt:i<n
  ·have hd:decide ((i:Int)<(n:Int))=true:=dT (by omega)
   have hl:=HLn.o
   obtain⟨x,hx⟩:∃x,K[i]?=some x:=⟨_,gE (by omega)⟩
   obtain⟨b,q,rfl,hat⟩:=(HR.o.later HB.o).at_ (by omega)
   obtain⟨x0,x1,x2⟩:=hat i x hx
   have HT:Hid (K.take (i+1)=K.take i++[x]):=by unfold Hid;rw [List.take_add_one,hx];rfl
   have HLi:Hid ((K.take i).length=i):=by unfold Hid;rw [List.length_take];omega
   clear hat hx hl
   obtain⟨xo,xh,xl⟩:=x
   simp only at x0 x1 x2
   obtain⟨w2,hw2⟩:∃w2,w2=wr.alloc (Obj.cells #[.int .i64 xo,.int .u64 (xh:Int),.int .u64 (xl:Int)] 38):=⟨_,rfl⟩
   have hB2:Below wr.heap.size wr w2:=by rw [hw2];exact below1 _ _
   have y0:w2.cell? ⟨wr.heap.size,0,none⟩=some (.int .i64 xo):=by rw [hw2];simp [go_sem]
   have y1:w2.cell? ⟨wr.heap.size,1,none⟩=some (.int .u64 (xh:Int)):=by rw [hw2];simp [go_sem]
   have y2:w2.cell? ⟨wr.heap.size,2,none⟩=some (.int .u64 (xl:Int)):=by rw [hw2];simp [go_sem]
   have HAd:=hid (M.add_more (HDm.o.later hB2) (xo,xh,xl) (by rw [HLi.o];have:=HNn.o;omega) HM.o.1)
   have HB2:=hid (b_c HB.o hB2)
   have HDg:=hid (HDm.o.later hB2)
   clear hB2
   go_upto_region 5 with fail
   rw [←hw2]
   clear hw2 x0 x1 x2
   go_wp2_with (first|(go_at_call 91;refine HAd.o.mono ?_;rintro e w3 ⟨pb,cb,rfl,hd3,hw3⟩;have HD3:=hid hd3;have HW3:=hid hw3;clear hd3 hw3 y0 y1 y2))
   refine⟨⟨i+1,pb,cb,by omega,by go_num,by rw [HT.o];exact HD3.o,HW3.o.below HDg.o HB2.o⟩,by simp [intOf];omega⟩
  ·obtain rfl:i=n:=by omega
   have hd:decide ((i:Int)<(i:Int))=false:=by simp
   have HK:Hid (K.take i=K):=by unfold Hid;rw [List.take_of_length_le (by have:=HLn.o;omega)]
   rw [HK.o] at HDm
   obtain⟨O,hL⟩:=HD.o
   obtain⟨G,pq,cq,col,hli,hm5⟩:=hL.part 5
   have hmr:=S.owns_but (S:=λ_=>False) (But.of HB.o) hli.map (λh=>h)
   obtain⟨w3,hrun,hm3,htn⟩:=hmr.store S.law3 underlying85 (by have:=HKl.o;unfold maxLen;omega) (key:=.int .i64 number) (kl:=.int .i64 number) (S.key3 H64.o) (val:=.pointer (some ⟨g,0,none⟩)) (d:=.held (.pointer (some ⟨g,0,none⟩))) (ps:=[]) rfl
   have hb3:=S.turned_but htn
   rw [put_mapP _ _ _ _ HLt.o] at hm3
   have k15:=(HD.o.later HB.o).kb 15 _ rfl
   have hglt:=hli.map.lt
   have HFin:Hid (∃N',Duo w3 H { s with ks:=s.ks++[number],D:=upd s.D number K } d N'∧Went w N w3 N'):=by
    have hlo:=HDm.o.lo
    have hbl:=λk hk=>(HDm.o.own.blk k hk).1
    exact hL.arm hli hm5 HLt.o ((HDm.o.but hb3 (λe=>by have e2:g=H.lg:=e;omega) (λk hk e=>by have e2:k=H.lg:=e;have:=hbl k hk;omega)).mono hL.b0.2) ⟨hlo,hbl⟩ ((But.of HB.o).trans hb3) hm3
   clear hL hli hm5 hm3 htn hb3 hglt hmr
   go_wp2
   go_ret
   exact⟨rfl,HFin.o⟩
end
section
variable {w w':World}{H:Hd}{s s':Sta}{d d':Nat→List K.Pu}{O:Nat→Nat→Prop}{N:Nat→Prop}{c:R.Cl}{dd gg:R.Sl}{b:Nat}
theorem leave_any (h:Duo w H s d N)(hi:P.Iv H.pm s.px s.P)(number:Int)(h64:-9223372036854775808≤number∧number<9223372036854775808) :
  Calls prog 79 #[.pointer (some ⟨H.kb,0,none⟩),.int .i64 number] w λe w'=>e=.returned (.tuple #[])∧Duo w' H { s with P:=P.out s.P number,ks:=P.out s.ks number } d N∧But N w w':=by
 have k14:=h.kb 14 _ rfl
 have HX:=hid (pExit h hi number)
 have H64:=hid h64
 clear h h64
 go_enter func79,ntmps79
 go_upto_region 1 with (first|(go_at_call 129;refine HX.o.mono ?_;rintro e w1 ⟨rfl,hd1,hb1⟩;have HD1:=hid hd1;have HB1:=hid hb1;clear hd1 hb1 k14))
 have k15:=HD1.o.kb 15 _ rfl
 obtain⟨O,hL⟩:=HD1.o
 obtain⟨G,pq,cq,col,hli,hm5⟩:=hL.part 5
 obtain⟨w2,hdel,hm2,htn⟩:=hli.map.drop S.law3 underlying85 (key:=.int .i64 number) (kl:=.int .i64 number) (S.key3 H64.o) 0
 have hb2:=S.turned_but htn
 rw [del_mapP] at hm2
 have HFin:=hid (hL.gone hli hm5 number hb2 hm2)
 clear hL hli hm5 hm2 htn hb2
 go_wp2
 go_end0
 exact⟨rfl,HFin.o.1,HB1.o.trans HFin.o.2⟩
theorem exit_any (h:Duo w H s d N)(hf:KF H.p s)(hby:c.by_∈s.P) :
  Calls prog 68 #[.pointer (some ⟨H.kb,0,none⟩),.agg (R.cC c dd gg).toArray] w λe w'=>e=.returned (rpV (rep 0) none 0 0)∧Duo w' H (exiA s c.by_).2 d N∧But N w w':=by
 obtain⟨W,hW⟩:∃W,W=(w.alloc (Obj.cells (R.cC c dd gg).toArray 45)).alloc z6:=⟨_,rfl⟩
 have hB:Below w.heap.size w W:=by rw [hW];exact below2 _ _ _
 have hX:R.Bx W w.heap.size (R.cC c dd gg):=by rw [hW];exact R.Bx.later (below1 _ _) (R.Bx.new w (R.cC c dd gg) 45)
 have hZ:Zr W (w.heap.size+1):=by rw [hW];have:=Zr.new (w.alloc (Obj.cells (R.cC c dd gg).toArray 45));simpa using this
 have h2:=h.later hB
 have HC:=hid (leave_any h2 hf.iv c.by_ (hf.by64 hby))
 have x1:=(Cb.of hX).c1
 unfold exiA
 have HW:=hid hW
 have HB:=hid hB
 have HX:=hid hX
 have HZ:=hid hZ
 have HD:=hid h2
 have HP:Hid (0<w.heap.size):=by have:=h.b0;unfold Hid;omega
 have HN:=hid (λk hk=>h.new (k:=k) hk)
 clear h h2 hB hX hZ hW hf hby
 go_enter func68,ntmps68
 go_upto_region 1 with fail
 rw [←HW.o]
 go_upto_region 2 with (first|(go_at_call 79;refine HC.o.mono ?_;rintro e w1 ⟨rfl,hd1,hb1⟩;have HD1:=hid hd1;have HB1:=hid hb1;clear hd1 hb1))
 have HZ9:=hid (HZ.o.but HB1.o (HN.o _ (by omega)))
 have HS9:=hid (HZ9.o.st (rep 0) none 0 0)
 have HL9:=hid (HZ9.o.lv (rep 0) none 0 0)
 have HB9:Hid (But (·=w.heap.size+1) w1 (w1.setCells (w.heap.size+1) 0 (rpL (rep 0) none 0 0))):=R.sb_ (S:=(·=w.heap.size+1)) rfl _ 0 (But.refl _ _)
 go_wp2_with (first|((with_reducible refine st_arm HS9.o ?_ ?_ ?_);(· rfl);(· rfl)))
 exact bodyPost_ret (v:=rpV (rep 0) none 0 0) (by simp [results,results68,asAddr,HL9.o]) rfl ⟨rfl,HD1.o.but HB9.o (λk hk e=>HN.o k (by omega) hk) (λe=>by have:0=w.heap.size+1:=e;omega),((But.of HB.o).trans HB1.o).comp HB9.o (λi e=>.inr (by omega))⟩
theorem lRem (h:Duo w H s d N)(hf:KF H.p s){i:Int}(hi:i∈s.P){G:Int→Nat}{pa:Int→Option Addr}{cap:Int→Nat}{col:Nat→Int}{O:Nat→Nat→Prop}(hL:Lay w H s d O N)(hl:Li w H s.ks s.D G pa cap col)(hm:∀k,LiB s.ks G pa H.lg k→O 5 k)(x:Int) :
  Calls prog 114 #[.pointer (some ⟨G i,0,none⟩),.int .i64 x] w λe w'=>∃cp:Cp,e=.returned (.tuple #[.agg #[.int .i64 cp.1,.int .u64 (cp.2.1:Int),.int .u64 (cp.2.2:Int)],.int .i64 (remA s i x).1.code])∧(∃N',Duo w' H (remA s i x).2 d N'∧Went w N w' N')∧But (Lb G pa i) w w':=by
 have hk:i∈s.ks:=by rw [hf.ks];exact hi
 unfold remA
 by_cases hq:M.okI (s.D i) x=false
 ·simp only [if_pos hq]
  refine (M.rem_bad (hl.each i hk) x hq).mono ?_
  rintro e w' ⟨rfl,hb⟩
  exact⟨(0,0,0),rfl,⟨N,h.later hb,Went.later hb⟩,But.of hb⟩
 ·simp only [if_neg hq]
  have h1:=M.okI_iff.1 (by simpa using hq:M.okI (s.D i) x=true)
  obtain⟨k,rfl⟩:=Int.eq_ofNat_of_zero_le h1.1
  have hlt:k<(s.D i).length:=by omega
  refine (M.rem_ok (hl.each i hk) k (s.D i)[k] (gE hlt) (hf.len32 hi)).mono ?_
  rintro e w' ⟨rfl,hd,hw⟩
  exact⟨(s.D i)[k],rfl,hL.list hl hm hk hd hw,hw.but⟩
theorem remove_any (h:Duo w H s d N)(hf:KF H.p s)(hby:c.by_∈s.P) :
  Calls prog 66 #[.pointer (some ⟨H.kb,0,none⟩),.agg (R.cC c dd gg).toArray] w λe w'=>e=.returned (rpV (rep (remA s c.by_ c.index).1.code) none 0 0)∧∃N',Duo w' H (remA s c.by_ c.index).2 d N'∧Went w N w' N':=by
 obtain⟨W,hW⟩:∃W,W=(w.alloc (Obj.cells (R.cC c dd gg).toArray 45)).alloc z6:=⟨_,rfl⟩
 have hB:Below w.heap.size w W:=by rw [hW];exact below2 _ _ _
 have hX:R.Bx W w.heap.size (R.cC c dd gg):=by rw [hW];exact R.Bx.later (below1 _ _) (R.Bx.new w (R.cC c dd gg) 45)
 have hZ:Zr W (w.heap.size+1):=by rw [hW];have:=Zr.new (w.alloc (Obj.cells (R.cC c dd gg).toArray 45));simpa using this
 have h2:=h.later hB
 obtain⟨O,hL⟩:=id h2
 obtain⟨G,pa,cap,col,hl,hm⟩:=hL.part 5
 have hks:c.by_∈s.ks:=by rw [hf.ks];exact hby
 have HNb:Hid (∀k,Lb G pa c.by_ k→N k):=λk hk=>hL.sub 5 k (hm k (.inr ⟨_,hks,hk⟩))
 have HS:Hid (∀U,But (Lb G pa c.by_) W U→U.cell? ⟨H.kb,15,none⟩=some (.map (some H.lg))∧U.cell? ⟨w.heap.size,1,none⟩=some (.int .i64 c.by_)∧U.cell? ⟨w.heap.size,11,none⟩=some (.int .i64 c.index)∧(Instr.lookup 85 (.map (some H.lg)) (.int .i64 c.by_) false).run prog U=.ok (.pointer (some ⟨G c.by_,0,none⟩)) U):=λU hb=>by
  have hx:=Cb.of (R.Bx.but hb hX (λe=>h.new (Nat.le_refl _) (HNb.o _ e)))
  exact⟨cb_ hb (h2.kb 15 _ rfl) (λe=>absurd (hL.ap 7 5 _ (hL.part 7).2 (hm _ (.inr ⟨_,hks,e⟩))) (by decide)),hx.c1,hx.c11,hl.lookU hb (λe=>(hl.col _ hks _ e).2 rfl) hks (hf.by64 hby)⟩
 have H0:=hid (λU (hU:But (λ_=>False) W U)=>HS.o U (hU.mono (λ_ h=>h.elim)))
 have HRm:=hid (λ(U:World) (hU:Below W.heap.size W U)=>lRem (h2.later hU) hf hby (hL.laterL hU) (hl.but (But.of (S:=λ_=>False) hU) (λ_ _ h=>h)) hm c.index)
 obtain⟨A,hA⟩:∃A,A=remA s c.by_ c.index:=⟨_,rfl⟩
 rw [←hA] at HRm ⊢
 have HW:=hid hW
 have HB:=hid hB
 have HX:=hid hX
 have HZ:=hid hZ
 have HD:=hid h2
 have HP:Hid (0<w.heap.size):=by have:=h.b0;unfold Hid;omega
 have HN:=hid (λk hk=>h.new (k:=k) hk)
 clear h h2 hB hX hZ hW hf hby hL hl hm hks hA
 go_enter func66,ntmps66
 go_upto_region 1 with fail
 rw [←HW.o]
 go_cut [5,6] (λ_ s6 U=>s6=.int .i64 A.1.code∧Hid (∃u b,(∃N2,Duo u H A.2 d N2∧Went W N u N2∧¬N2 b)∧W.heap.size≤b∧But (λk=>k=b) u U))
 case first =>
  go_region_held3 (λU=>U.cell? ⟨H.kb,15,none⟩=some (.map (some H.lg))∧U.cell? ⟨w.heap.size,1,none⟩=some (.int .i64 c.by_)∧U.cell? ⟨w.heap.size,11,none⟩=some (.int .i64 c.index)∧(Instr.lookup 85 (.map (some H.lg)) (.int .i64 c.by_) false).run prog U=.ok (.pointer (some ⟨G c.by_,0,none⟩)) U) (first|exact H0.o _ (But.of (Below.refl _ _).drew)|exact H0.o _ (But.of (below1 _ _).drew)|exact H0.o _ (But.of (below1 _ _))|exact HE.o _ (But.refl _ _)|exact HE.o _ (But.of (below1 _ _))|exact HE.o _ (L.set3_but (S:=λk=>k=W.heap.size) (b:=W.heap.size) (But.refl _ u_) rfl _)) (first
   | (go_at_call 114;(with_reducible refine (HRm.o (W.alloc (Obj.cells #[.int .i64 0,.int .u64 0,.int .u64 0] 38)).drew (below1 _ _).drew).mono ?_);rintro e u_ ⟨cp_,rfl,⟨N2,hd_,hw_⟩,hb_⟩;have HPs:Hid (∃N2,Duo u_ H A.2 d N2∧Went W N u_ N2∧¬N2 W.heap.size):=⟨N2,hd_,(Went.later (below1 W (Obj.cells #[.int .i64 0,.int .u64 0,.int .u64 0] 38)).drew).trans hw_,λe=>(hw_.1 _ e).elim (HN.o _ HB.o.size) (λh=>absurd h (by show ¬(W.alloc (Obj.cells #[.int .i64 0,.int .u64 0,.int .u64 0] 38)).heap.size≤W.heap.size;simp))⟩;have HBt:Hid (But (Lb G pa c.by_) W u_):=(But.of (S:=(Lb G pa c.by_)) (below1 W (Obj.cells #[.int .i64 0,.int .u64 0,.int .u64 0] 38)).drew).trans hb_;have hzc:=(Zb.mk_ W).but (show But (Lb G pa c.by_) (W.alloc (Obj.cells #[.int .i64 0,.int .u64 0,.int .u64 0] 38)).drew u_ from hb_) (λe=>HN.o _ HB.o.size (HNb.o _ e));have HE:=hid (λU (hU:But (λk=>k=W.heap.size) u_ U)=>HS.o U (HBt.o.comp hU (λi e=>.inr (by omega))));obtain⟨⟨z0,f0⟩,⟨z1,f1⟩,⟨z2,f2⟩⟩:=hzc;clear hb_ hd_ hw_)
   | (go_at_call 114;(with_reducible refine (HRm.o W.drew (Below.refl _ _).drew).mono ?_);rintro e u_ ⟨cp_,rfl,⟨N2,hd_,hw_⟩,hb_⟩;have HPs:Hid (∃N2,Duo u_ H A.2 d N2∧Went W N u_ N2∧¬N2 u_.heap.size):=⟨N2,hd_,(Went.later (Below.refl W.heap.size W).drew).trans hw_,hd_.new (Nat.le_refl _)⟩;have HBt:Hid (But (Lb G pa c.by_) W u_):=(But.of (S:=(Lb G pa c.by_)) (Below.refl W.heap.size W).drew).trans hb_;have HE:=hid (λU (hU:But (λk=>k=u_.heap.size) u_ U)=>HS.o U (HBt.o.comp hU (λi e=>.inr (by have:=HBt.o.size;omega))));clear hb_ hd_ hw_))
  all_goals (try go_wp2)
  all_goals go_meet
  all_goals (first|exact⟨rfl,u_,W.heap.size,HPs.o,Nat.le_refl _,L.set3_but (S:=λk=>k=W.heap.size) (b:=W.heap.size) (But.refl _ u_) rfl cp_⟩|exact⟨rfl,u_,u_.heap.size,HPs.o,HBt.o.size,But.of (below1 _ _)⟩)
 case rest =>
 rename World=>v
 obtain⟨rfl,HR⟩:=hcut
 obtain⟨u,b,⟨N2,hd3,hw3,hnb⟩,hlo,hv⟩:=HR.o
 have hsz:=HB.o.size
 have hz:=HZ.o.lt
 have HDv:=hid (hd3.but hv (λk hk e=>hnb (e ▸ hk)) (λe=>by have:=HP.o;omega))
 have HWv:Hid (Went W N v N2):=⟨hw3.1,hw3.2.comp hv (λi e=>.inr (by omega))⟩
 have HZv:=hid (HZ.o.but HWv.o.2 (HN.o _ (by omega)))
 have HNz:Hid (¬N2 (w.heap.size+1)):=hw3.out (by omega) (HN.o _ (by omega))
 clear hlo hd3 hw3 hv hsz HR hnb hz
 have HZ9:=hid (HZv.o)
 have HS9:=hid (HZ9.o.st (rep A.1.code) none 0 0)
 have HL9:=hid (HZ9.o.lv (rep A.1.code) none 0 0)
 have HB9:Hid (But (·=w.heap.size+1) (v) ((v).setCells (w.heap.size+1) 0 (rpL (rep A.1.code) none 0 0))):=R.sb_ (S:=(·=w.heap.size+1)) rfl _ 0 (But.refl _ _)
 go_wp2_with (first|((with_reducible refine st_arm HS9.o ?_ ?_ ?_);(· rfl);(· rfl)))
 refine bodyPost_ret (v:=rpV (rep A.1.code) none 0 0) (by simp [results,results66,asAddr,HL9.o]) rfl ⟨rfl,N2,HDv.o.but HB9.o (λk hk e=>HNz.o (e ▸ hk)) (λe=>by have:0=w.heap.size+1:=e;omega),?_⟩
 have h1:=(Went.later (N:=N) HB.o).trans HWv.o
 exact⟨h1.1,h1.2.comp HB9.o (λi e=>.inr (by omega))⟩
theorem spawn_no (h:Duo w H s d N)(hf:KF H.p s)(hby:c.by_∈s.P)(hG:Row w gg.a gg.n gg.c (ints c.gifts))(hgn:gg.n≤255)(hv:M.pickE H.lm (s.D c.by_) c.gifts≠0) :
  Calls prog 67 #[.pointer (some ⟨H.kb,0,none⟩),.agg (R.cC c dd gg).toArray] w λe w'=>e=.returned (rpV (rep (M.pickE H.lm (s.D c.by_) c.gifts)) none 0 0)∧Below w.heap.size w w':=by
 obtain⟨W,hW⟩:∃W,W=(w.alloc (Obj.cells (R.cC c dd gg).toArray 45)).alloc z6:=⟨_,rfl⟩
 have hB:Below w.heap.size w W:=by rw [hW];exact below2 _ _ _
 have hX:R.Bx W w.heap.size (R.cC c dd gg):=by rw [hW];exact R.Bx.later (below1 _ _) (R.Bx.new w (R.cC c dd gg) 45)
 have hZ:Zr W (w.heap.size+1):=by rw [hW];have:=Zr.new (w.alloc (Obj.cells (R.cC c dd gg).toArray 45));simpa using this
 have h2:=h.later hB
 obtain⟨O,hL⟩:=id h2
 obtain⟨G,pa,cap,col,hl,hm⟩:=hL.part 5
 have hks:c.by_∈s.ks:=by rw [hf.ks];exact hby
 have HS:Hid (∀U,But (λ_=>False) W U→U.cell? ⟨H.kb,15,none⟩=some (.map (some H.lg))∧U.cell? ⟨w.heap.size,1,none⟩=some (.int .i64 c.by_)∧U.cell? ⟨w.heap.size,12,none⟩=some (gg.v)∧(Instr.lookup 85 (.map (some H.lg)) (.int .i64 c.by_) false).run prog U=.ok (.pointer (some ⟨G c.by_,0,none⟩)) U):=λU hb=>by
  have hx:=Cb.of (R.Bx.but hb hX (λe=>e))
  exact⟨cb_ hb (h2.kb 15 _ rfl) (λe=>e),hx.c1,hx.c12,hl.lookU hb (λe=>e) hks (hf.by64 hby)⟩
 have HPk:=hid (λ(U:World) (hU:Below W.heap.size W U)=>M.pick_any ((hl.each _ hks).later hU) (Row.later hU (Row.later hB hG)) (by omega) (hf.len32 hby) hf.lm.2)
 have HF:=hid hf
 obtain⟨m,hmq⟩:∃m,m=M.pickE H.lm (s.D c.by_) c.gifts:=⟨_,rfl⟩
 obtain⟨Kl,hKl⟩:∃Kl,Kl=M.pickL H.lm (s.D c.by_) c.gifts:=⟨_,rfl⟩
 rw [←hmq,←hKl] at HPk
 rw [←hmq] at hv ⊢
 have hq:(m != 0)=true:=by simpa using hv
 have HW:=hid hW
 have HB:=hid hB
 have HX:=hid hX
 have HZ:=hid hZ
 have HD:=hid h2
 have HP:Hid (0<w.heap.size):=by have:=h.b0;unfold Hid;omega
 have HN:=hid (λk hk=>h.new (k:=k) hk)
 clear h h2 hB hX hZ hW hf hby hL hl hm hks hG hv hmq hKl
 go_enter func67,ntmps67
 go_upto_region 1 with fail
 rw [←HW.o]
 go_region_held3 (λU=>U.cell? ⟨H.kb,15,none⟩=some (.map (some H.lg))∧U.cell? ⟨w.heap.size,1,none⟩=some (.int .i64 c.by_)∧U.cell? ⟨w.heap.size,12,none⟩=some (gg.v)∧(Instr.lookup 85 (.map (some H.lg)) (.int .i64 c.by_) false).run prog U=.ok (.pointer (some ⟨G c.by_,0,none⟩)) U) (first|exact HS.o _ (But.of (Below.refl _ _).drew)|exact HE.o) (first
   | (go_at_call 115;(with_reducible refine (HPk.o W.drew (Below.refl _ _).drew).mono ?_);rintro e w1 ⟨p1,c1,rfl,hO1,hb1⟩;have HB1:Hid (Below W.heap.size W w1):=b_c (Below.refl _ _).drew hb1;have HE:=hid (HS.o w1 (But.of HB1.o));have HO1:=hid hO1;clear hO1 hb1))
 have HZ1:=hid (HZ.o.later HB1.o)
 have HR:=hid (refused_any m w1)
 go_upto_region 3 with fail
 go_upto_region 4 with (first|(go_at_call 31;refine HR.o.mono ?_;rintro e w2 ⟨rfl,hb2⟩;have HB2:=hid hb2;have HZ9:=hid (HZ1.o.later HB2.o);have HS9:=hid (HZ9.o.st (rep m) none 0 0);have HL9:=hid (HZ9.o.lv (rep m) none 0 0);clear hb2)|((with_reducible refine st_arm HS9.o ?_ ?_ ?_);(· rfl);(· rfl)))
 have HB9:Hid (But (·=w.heap.size+1) w2 (w2.setCells (w.heap.size+1) 0 (rpL (rep m) none 0 0))):=R.sb_ (S:=(·=w.heap.size+1)) rfl _ 0 (But.refl _ _)
 exact bodyPost_ret (v:=rpV (rep m) none 0 0) (by simp [results,results67,asAddr,HL9.o]) rfl ⟨rfl,But.below (b_c HB.o (b_c HB1.o HB2.o)) HB9.o (λk e=>by omega)⟩
theorem spawn_full (h:Duo w H s d N)(hf:KF H.p s)(hby:c.by_∈s.P)(hG:Row w gg.a gg.n gg.c (ints c.gifts))(hgn:gg.n≤255)(hv:M.pickE H.lm (s.D c.by_) c.gifts=0)(hp:P.fullP H.pm s.px s.P=true) :
  Calls prog 67 #[.pointer (some ⟨H.kb,0,none⟩),.agg (R.cC c dd gg).toArray] w λe w'=>e=.returned (rpV (rep 13) none 0 0)∧∃N',Duo w' H s d N'∧Went w N w' N':=by
 obtain⟨W,hW⟩:∃W,W=(w.alloc (Obj.cells (R.cC c dd gg).toArray 45)).alloc z6:=⟨_,rfl⟩
 have hB:Below w.heap.size w W:=by rw [hW];exact below2 _ _ _
 have hX:R.Bx W w.heap.size (R.cC c dd gg):=by rw [hW];exact R.Bx.later (below1 _ _) (R.Bx.new w (R.cC c dd gg) 45)
 have hZ:Zr W (w.heap.size+1):=by rw [hW];have:=Zr.new (w.alloc (Obj.cells (R.cC c dd gg).toArray 45));simpa using this
 have h2:=h.later hB
 obtain⟨O,hL⟩:=id h2
 obtain⟨G,pa,cap,col,hl,hm⟩:=hL.part 5
 have hks:c.by_∈s.ks:=by rw [hf.ks];exact hby
 have HS:Hid (∀U,But (λ_=>False) W U→U.cell? ⟨H.kb,15,none⟩=some (.map (some H.lg))∧U.cell? ⟨w.heap.size,1,none⟩=some (.int .i64 c.by_)∧U.cell? ⟨w.heap.size,12,none⟩=some (gg.v)∧(Instr.lookup 85 (.map (some H.lg)) (.int .i64 c.by_) false).run prog U=.ok (.pointer (some ⟨G c.by_,0,none⟩)) U):=λU hb=>by
  have hx:=Cb.of (R.Bx.but hb hX (λe=>e))
  exact⟨cb_ hb (h2.kb 15 _ rfl) (λe=>e),hx.c1,hx.c12,hl.lookU hb (λe=>e) hks (hf.by64 hby)⟩
 have HPk:=hid (λ(U:World) (hU:Below W.heap.size W U)=>M.pick_any ((hl.each _ hks).later hU) (Row.later hU (Row.later hB hG)) (by omega) (hf.len32 hby) hf.lm.2)
 have HF:=hid hf
 obtain⟨Kl,hKl⟩:∃Kl,Kl=M.pickL H.lm (s.D c.by_) c.gifts:=⟨_,rfl⟩
 rw [hv,←hKl] at HPk
 have HFl:=hid hp
 have HW:=hid hW
 have HB:=hid hB
 have HX:=hid hX
 have HZ:=hid hZ
 have HD:=hid h2
 have HP:Hid (0<w.heap.size):=by have:=h.b0;unfold Hid;omega
 have HN:=hid (λk hk=>h.new (k:=k) hk)
 clear h h2 hB hX hZ hW hf hby hL hl hm hks hG hv hp hKl
 go_enter func67,ntmps67
 go_upto_region 1 with fail
 rw [←HW.o]
 go_region_held3 (λU=>U.cell? ⟨H.kb,15,none⟩=some (.map (some H.lg))∧U.cell? ⟨w.heap.size,1,none⟩=some (.int .i64 c.by_)∧U.cell? ⟨w.heap.size,12,none⟩=some (gg.v)∧(Instr.lookup 85 (.map (some H.lg)) (.int .i64 c.by_) false).run prog U=.ok (.pointer (some ⟨G c.by_,0,none⟩)) U) (first|exact HS.o _ (But.of (Below.refl _ _).drew)|exact HE.o) (first
   | (go_at_call 115;(with_reducible refine (HPk.o W.drew (Below.refl _ _).drew).mono ?_);rintro e w1 ⟨p1,c1,rfl,hO1,hb1⟩;have HB1:Hid (Below W.heap.size W w1):=b_c (Below.refl _ _).drew hb1;have HE:=hid (HS.o w1 (But.of HB1.o));have HO1:=hid hO1;clear hO1 hb1))
 have HSp:=hid (pSpawn (HD.o.later HB1.o) HF.o.iv)
 have k14:=(HD.o.later HB1.o).kb 14 _ rfl
 have e1:P.spN H.pm s.px s.P=0:=by unfold P.spN;rw [if_pos HFl.o]
 have e2:P.spC H.pm s.px s.P=13:=by unfold P.spC;rw [if_pos HFl.o]
 have e3:P.spX H.pm s.px s.P=s.px:=by unfold P.spX;rw [if_pos HFl.o]
 have e4:P.spL H.pm s.px s.P=s.P:=by unfold P.spL;rw [if_pos HFl.o]
 rw [e1,e2,e3,e4] at HSp
 clear e1 e2 e3 e4
 go_upto_region 5 with (first|(go_at_call 116;refine HSp.o.mono ?_;rintro e w3 ⟨rfl,N2,hd3,hw3⟩;have HD3:=hid hd3;have HW3:Hid (Went W N w3 N2):=(Went.later HB1.o).trans hw3;clear hd3 hw3 k14))
 have HZ1:=hid (HZ.o.but HW3.o.2 (HN.o _ (by omega)))
 have HNz:Hid (¬N2 (w.heap.size+1)):=HW3.o.out HZ.o.lt (HN.o _ (by omega))
 have HR:=hid (refused_any 13 w3)
 go_upto_region 6 with fail
 go_upto_region 7 with (first|(go_at_call 31;refine HR.o.mono ?_;rintro e w2 ⟨rfl,hb2⟩;have HB2:=hid hb2;have HZ9:=hid (HZ1.o.later HB2.o);have HS9:=hid (HZ9.o.st (rep 13) none 0 0);have HL9:=hid (HZ9.o.lv (rep 13) none 0 0);clear hb2)|((with_reducible refine st_arm HS9.o ?_ ?_ ?_);(· rfl);(· rfl)))
 have HB9:Hid (But (·=w.heap.size+1) w2 (w2.setCells (w.heap.size+1) 0 (rpL (rep 13) none 0 0))):=R.sb_ (S:=(·=w.heap.size+1)) rfl _ 0 (But.refl _ _)
 exact bodyPost_ret (v:=rpV (rep 13) none 0 0) (by simp [results,results67,asAddr,HL9.o]) rfl ⟨rfl,N2,(HD3.o.later HB2.o).but HB9.o (λk hk e=>HNz.o (e ▸ hk)) (λe=>by have:0=w.heap.size+1:=e;omega),(Went.trans (Went.later (N:=N) HB.o) ((HW3.o).trans (Went.later HB2.o))).1,((Went.trans (Went.later (N:=N) HB.o) ((HW3.o).trans (Went.later HB2.o))).2).comp HB9.o (λi e=>.inr (by omega))⟩
theorem spawn_ok (h:Duo w H s d N)(hf:KF H.p s)(hby:c.by_∈s.P)(hG:Row w gg.a gg.n gg.c (ints c.gifts))(hgn:gg.n≤255)(hv:M.pickE H.lm (s.D c.by_) c.gifts=0)(hp:P.fullP H.pm s.px s.P=false) :
  Calls prog 67 #[.pointer (some ⟨H.kb,0,none⟩),.agg (R.cC c dd gg).toArray] w λe w'=>e=.returned (rpV ⟨0,(0,0,0),[],s.px⟩ none 0 0)∧∃N',Duo w' H { s with px:=s.px+1,P:=s.P++[s.px],ks:=s.ks++[s.px],D:=upd s.D s.px (M.pickL H.lm (s.D c.by_) c.gifts) } d N'∧Went w N w' N':=by
 obtain⟨W,hW⟩:∃W,W=(w.alloc (Obj.cells (R.cC c dd gg).toArray 45)).alloc z6:=⟨_,rfl⟩
 have hB:Below w.heap.size w W:=by rw [hW];exact below2 _ _ _
 have hX:R.Bx W w.heap.size (R.cC c dd gg):=by rw [hW];exact R.Bx.later (below1 _ _) (R.Bx.new w (R.cC c dd gg) 45)
 have hZ:Zr W (w.heap.size+1):=by rw [hW];have:=Zr.new (w.alloc (Obj.cells (R.cC c dd gg).toArray 45));simpa using this
 have h2:=h.later hB
 obtain⟨O,hL⟩:=id h2
 obtain⟨G,pa,cap,col,hl,hm⟩:=hL.part 5
 have hks:c.by_∈s.ks:=by rw [hf.ks];exact hby
 have HS:Hid (∀U,But (λ_=>False) W U→U.cell? ⟨H.kb,15,none⟩=some (.map (some H.lg))∧U.cell? ⟨w.heap.size,1,none⟩=some (.int .i64 c.by_)∧U.cell? ⟨w.heap.size,12,none⟩=some (gg.v)∧(Instr.lookup 85 (.map (some H.lg)) (.int .i64 c.by_) false).run prog U=.ok (.pointer (some ⟨G c.by_,0,none⟩)) U):=λU hb=>by
  have hx:=Cb.of (R.Bx.but hb hX (λe=>e))
  exact⟨cb_ hb (h2.kb 15 _ rfl) (λe=>e),hx.c1,hx.c12,hl.lookU hb (λe=>e) hks (hf.by64 hby)⟩
 have HPk:=hid (λ(U:World) (hU:Below W.heap.size W U)=>M.pick_any ((hl.each _ hks).later hU) (Row.later hU (Row.later hB hG)) (by omega) (hf.len32 hby) hf.lm.2)
 have HF:=hid hf
 obtain⟨Kl,hKl⟩:∃Kl,Kl=M.pickL H.lm (s.D c.by_) c.gifts:=⟨_,rfl⟩
 have HKn:Hid ((Kl.length:Int)≤H.lm):=by
  unfold Hid
  rw [hKl]
  unfold M.pickL
  rw [if_pos hv,List.length_map]
  unfold M.pickE at hv
  by_cases ha:c.gifts.all (M.okI (s.D c.by_))=true
  ·rw [if_pos ha] at hv
   by_cases hb:H.lm<(c.gifts.length:Int)
   ·rw [if_pos hb] at hv;exact absurd hv (by decide)
   ·omega
  ·rw [if_neg ha] at hv;exact absurd hv (by decide)
 rw [hv,←hKl] at HPk
 rw [←hKl]
 have HFl:=hid hp
 have HW:=hid hW
 have HB:=hid hB
 have HX:=hid hX
 have HZ:=hid hZ
 have HD:=hid h2
 have HP:Hid (0<w.heap.size):=by have:=h.b0;unfold Hid;omega
 have HN:=hid (λk hk=>h.new (k:=k) hk)
 clear h h2 hB hX hZ hW hf hby hL hl hm hks hG hv hp hKl
 go_enter func67,ntmps67
 go_upto_region 1 with fail
 rw [←HW.o]
 go_region_held3 (λU=>U.cell? ⟨H.kb,15,none⟩=some (.map (some H.lg))∧U.cell? ⟨w.heap.size,1,none⟩=some (.int .i64 c.by_)∧U.cell? ⟨w.heap.size,12,none⟩=some (gg.v)∧(Instr.lookup 85 (.map (some H.lg)) (.int .i64 c.by_) false).run prog U=.ok (.pointer (some ⟨G c.by_,0,none⟩)) U) (first|exact HS.o _ (But.of (Below.refl _ _).drew)|exact HE.o) (first
   | (go_at_call 115;(with_reducible refine (HPk.o W.drew (Below.refl _ _).drew).mono ?_);rintro e w1 ⟨p1,c1,rfl,hO1,hb1⟩;have HB1:Hid (Below W.heap.size W w1):=b_c (Below.refl _ _).drew hb1;have HE:=hid (HS.o w1 (But.of HB1.o));have HO1:=hid hO1;clear hO1 hb1))
 have HSp:=hid (pSpawn (HD.o.later HB1.o) HF.o.iv)
 have k14:=(HD.o.later HB1.o).kb 14 _ rfl
 have e0:¬P.fullP H.pm s.px s.P=true:=by rw [HFl.o];decide
 have e1:P.spN H.pm s.px s.P=s.px:=by unfold P.spN;rw [if_neg e0]
 have e2:P.spC H.pm s.px s.P=0:=by unfold P.spC;rw [if_neg e0]
 have e3:P.spX H.pm s.px s.P=s.px+1:=by unfold P.spX;rw [if_neg e0]
 have e4:P.spL H.pm s.px s.P=s.P++[s.px]:=by unfold P.spL;rw [if_neg e0]
 rw [e1,e2,e3,e4] at HSp
 clear e0 e1 e2 e3 e4
 go_upto_region 5 with (first|(go_at_call 116;refine HSp.o.mono ?_;rintro e w3 ⟨rfl,N2,hd3,hw3⟩;have HD3:=hid hd3;have HW3:Hid (Went w1 N w3 N2):=hw3;clear hd3 hw3 k14))
 have HRd:Hid (Rd w3 p1 Kl.length Kl):=(Ow.rd HO1.o rfl).but HW3.o.2 (λk hk e=>HN.o k (by have:=(HO1.o.blk k hk).1;have h3:W.drew.heap.size=W.heap.size:=rfl;have:=HB.o.size;omega) e)
 have HIv:=hid HF.o.iv
 have HAr:=hid (arm_any HD3.o ⟨HF.o.lm.2,HF.o.lm.1⟩ s.px (λj hj=>by have hj2:j∈s.ks:=hj;rw [HF.o.ks] at hj2;exact HIv.o.hi j hj2) (by have h1:=HIv.o.x1;have h2:=HIv.o.x2;omega) (by show s.ks.length≤32;rw [HF.o.ks];exact HIv.o.len32) (cp:=c1) HRd.o HKn.o)
 go_upto_region 8 with (first|(go_at_call 55;refine HAr.o.mono ?_;rintro e w4 ⟨rfl,N3,hd4,hw4⟩;have HD4:=hid hd4;have HW4:Hid (Went W N w4 N3):=(Went.later HB1.o).trans (HW3.o.trans hw4);clear hd4 hw4))
 have HZv:=hid (HZ.o.but HW4.o.2 (HN.o _ (by omega)))
 have HNz:Hid (¬N3 (w.heap.size+1)):=HW4.o.out HZ.o.lt (HN.o _ (by omega))
 have HZ9:=hid (HZv.o)
 have HS9:=hid (HZ9.o.st ⟨0,(0,0,0),[],s.px⟩ none 0 0)
 have HL9:=hid (HZ9.o.lv ⟨0,(0,0,0),[],s.px⟩ none 0 0)
 have HB9:Hid (But (·=w.heap.size+1) (w4) ((w4).setCells (w.heap.size+1) 0 (rpL ⟨0,(0,0,0),[],s.px⟩ none 0 0))):=R.sb_ (S:=(·=w.heap.size+1)) rfl _ 0 (But.refl _ _)
 go_wp2_with (first|((with_reducible refine st_arm HS9.o ?_ ?_ ?_);(· rfl);(· rfl)))
 exact bodyPost_ret (v:=rpV ⟨0,(0,0,0),[],s.px⟩ none 0 0) (by simp [results,results67,asAddr,HL9.o]) rfl ⟨rfl,N3,HD4.o.but HB9.o (λk hk e=>HNz.o (e ▸ hk)) (λe=>by have:0=w.heap.size+1:=e;omega),(Went.trans (Went.later (N:=N) HB.o) HW4.o).1,((Went.trans (Went.later (N:=N) HB.o) HW4.o).2).comp HB9.o (λi e=>.inr (by omega))⟩
end
section
variable {w w':World}{H:Hd}{s s':Sta}{d d':Nat→List K.Pu}{O:Nat→Nat→Prop}{N:Nat→Prop}{c:R.Cl}{dd gg:R.Sl}{b:Nat}
theorem create_no (h:Duo w H s d N)(hf:KF H.p s)(hm:S.mayV H.z.room H.z.n s.nx s.V c.size≠0) :
  Calls prog 59 #[.pointer (some ⟨H.kb,0,none⟩),.agg (R.cC c dd gg).toArray] w λe w'=>e=.returned (rpV (rep (S.mayV H.z.room H.z.n s.nx s.V c.size)) none 0 0)∧Below w.heap.size w w':=by
 obtain⟨W,hW⟩:∃W,W=(w.alloc (Obj.cells (R.cC c dd gg).toArray 45)).alloc z6:=⟨_,rfl⟩
 have hB:Below w.heap.size w W:=by rw [hW];exact below2 _ _ _
 have hX:R.Bx W w.heap.size (R.cC c dd gg):=by rw [hW];exact R.Bx.later (below1 _ _) (R.Bx.new w (R.cC c dd gg) 45)
 have hZ:Zr W (w.heap.size+1):=by rw [hW];have:=Zr.new (w.alloc (Obj.cells (R.cC c dd gg).toArray 45));simpa using this
 have h2:=h.later hB
 have HC:=hid (λ(U:World) (hU:Below W.heap.size W U)=>pMay (h2.later hU) c.size)
 have HS:Hid (∀U {s d},Duo U H s d N→But N W U→U.cell? ⟨H.kb,11,none⟩=some (.pointer (some ⟨H.z.s,0,none⟩))∧U.cell? ⟨w.heap.size,2,none⟩=some (.int .i64 c.size)):=λU s d hd hb=>by
  have:=Cb.of (R.Bx.but hb hX (h.new (Nat.le_refl _)))
  exact⟨hd.kb 11 _ rfl,this.c2⟩
 have H0:=hid (λU (hU:But (λ_=>False) W U)=>HS.o U (h2.but hU (λ_ _ h=>h) (λh=>h)) (hU.mono (λ_ h=>h.elim)))
 generalize S.mayV H.z.room H.z.n s.nx s.V c.size=m at *
 have hq:(m != 0)=true:=by simpa using hm
 have HW:=hid hW
 have HB:=hid hB
 have HX:=hid hX
 have HZ:=hid hZ
 have HD:=hid h2
 have HP:Hid (0<w.heap.size):=by have:=h.b0;unfold Hid;omega
 have HN:=hid (λk hk=>h.new (k:=k) hk)
 clear h h2 hB hX hZ hW hm hf
 go_enter func59,ntmps59
 go_upto_region 1 with fail
 rw [←HW.o]
 go_region_held3 (λU=>U.cell? ⟨H.kb,11,none⟩=some (.pointer (some ⟨H.z.s,0,none⟩))∧U.cell? ⟨w.heap.size,2,none⟩=some (.int .i64 c.size)) (first|exact H0.o _ (But.of (Below.refl _ _).drew)|exact HE.o) (first
   | (go_at_call 103;refine (HC.o _ (Below.refl _ _).drew).mono ?_;rintro e w1 ⟨rfl,hb_⟩;have HB1:Hid (Below W.heap.size W w1):=b_c (Below.refl _ _).drew hb_;have HE:=hid (H0.o w1 (But.of HB1.o));clear hb_))
 have HR:=hid (refused_any m w1)
 go_upto_region 3 with fail
 go_upto_region 4 with (first|(go_at_call 31;refine HR.o.mono ?_;rintro e w2 ⟨rfl,hb2⟩;have HB2:Hid (Below W.heap.size W w2):=b_c HB1.o hb2;have HZ9:=hid (HZ.o.later HB2.o);have HS9:=hid (HZ9.o.st (rep m) none 0 0);have HL9:=hid (HZ9.o.lv (rep m) none 0 0);clear hb2)|((with_reducible refine st_arm HS9.o ?_ ?_ ?_);(· rfl);(· rfl)))
 have HB9:Hid (But (·=w.heap.size+1) w2 (w2.setCells (w.heap.size+1) 0 (rpL (rep m) none 0 0))):=R.sb_ (S:=(·=w.heap.size+1)) rfl _ 0 (But.refl _ _)
 exact bodyPost_ret (v:=rpV (rep m) none 0 0) (by simp [results,results59,asAddr,HL9.o]) rfl ⟨rfl,But.below (b_c HB.o HB2.o) HB9.o (λk e=>by omega)⟩
theorem create_not (h:Duo w H s d N)(hf:KF H.p s)(hm:S.mayV H.z.room H.z.n s.nx s.V c.size=0)(hr:(D.rootA H.p.d s.d s.nx).code≠0) :
  Calls prog 59 #[.pointer (some ⟨H.kb,0,none⟩),.agg (R.cC c dd gg).toArray] w λe w'=>e=.returned (rpV (rep (D.rootA H.p.d s.d s.nx).code) none 0 0)∧Duo w' H (putD s (D.rootA H.p.d s.d s.nx).s) d N∧But N w w':=by
 obtain⟨W,hW⟩:∃W,W=(w.alloc (Obj.cells (R.cC c dd gg).toArray 45)).alloc z6:=⟨_,rfl⟩
 have hB:Below w.heap.size w W:=by rw [hW];exact below2 _ _ _
 have hX:R.Bx W w.heap.size (R.cC c dd gg):=by rw [hW];exact R.Bx.later (below1 _ _) (R.Bx.new w (R.cC c dd gg) 45)
 have hZ:Zr W (w.heap.size+1):=by rw [hW];have:=Zr.new (w.alloc (Obj.cells (R.cC c dd gg).toArray 45));simpa using this
 have h2:=h.later hB
 have HC:=hid (λ(U:World) (hU:Below W.heap.size W U)=>pMay (h2.later hU) c.size)
 have HS:Hid (∀U {s d},Duo U H s d N→But N W U→U.cell? ⟨H.kb,11,none⟩=some (.pointer (some ⟨H.z.s,0,none⟩))∧U.cell? ⟨w.heap.size,2,none⟩=some (.int .i64 c.size)):=λU s d hd hb=>by
  have:=Cb.of (R.Bx.but hb hX (h.new (Nat.le_refl _)))
  exact⟨hd.kb 11 _ rfl,this.c2⟩
 have H0:=hid (λU (hU:But (λ_=>False) W U)=>HS.o U (h2.but hU (λ_ _ h=>h) (λh=>h)) (hU.mono (λ_ h=>h.elim)))
 have hq:(S.mayV H.z.room H.z.n s.nx s.V c.size != 0)=false:=by simpa using hm
 rw [hm] at HC
 have HF:=hid hf
 have HNX:Hid (S.i64ok s.nx):=by have:=hf.nx;unfold Hid S.i64ok;omega
 have HM:=hid hm
 obtain⟨A,hA⟩:∃A,A=D.rootA H.p.d s.d s.nx:=⟨_,rfl⟩
 rw [←hA] at hr ⊢
 have HA:=hid hA
 have HRr:=hid hr
 have HW:=hid hW
 have HB:=hid hB
 have HX:=hid hX
 have HZ:=hid hZ
 have HD:=hid h2
 have HP:Hid (0<w.heap.size):=by have:=h.b0;unfold Hid;omega
 have HN:=hid (λk hk=>h.new (k:=k) hk)
 clear h h2 hB hX hZ hW hm hf hq hA hr
 go_enter func59,ntmps59
 go_upto_region 1 with fail
 rw [←HW.o]
 go_region_held3 (λU=>U.cell? ⟨H.kb,11,none⟩=some (.pointer (some ⟨H.z.s,0,none⟩))∧U.cell? ⟨w.heap.size,2,none⟩=some (.int .i64 c.size)) (first|exact H0.o _ (But.of (Below.refl _ _).drew)|exact HE.o) (first
   | (go_at_call 103;refine (HC.o _ (Below.refl _ _).drew).mono ?_;rintro e w1 ⟨rfl,hb_⟩;have HB1:Hid (Below W.heap.size W w1):=b_c (Below.refl _ _).drew hb_;have HE:=hid (H0.o w1 (But.of HB1.o));clear hb_))
 have HX1:=hid (R.Bx.later HB1.o HX.o)
 have HD1:=hid (HD.o.later HB1.o)
 have HZ1:=hid (HZ.o.later HB1.o)
 have HS1:Hid (w.heap.size≤w1.heap.size):=Nat.le_trans HB.o.size HB1.o.size
 have HSS:Hid (∀U {s d},Duo U H s d N→But N w1 U→U.cell? ⟨H.kb,10,none⟩=some (.pointer (some ⟨H.g,0,none⟩))∧U.cell? ⟨H.kb,11,none⟩=some (.pointer (some ⟨H.z.s,0,none⟩))∧U.cell? ⟨H.kb,12,none⟩=some (.pointer (some ⟨H.A.g,0,none⟩))∧U.cell? ⟨H.kb,13,none⟩=some (.pointer (some ⟨H.qg,0,none⟩))∧U.cell? ⟨w.heap.size,2,none⟩=some (.int .i64 c.size)):=λU s d hd hb=>by
  have:=Cb.of (R.Bx.but hb HX1.o (HN.o _ (Nat.le_refl _)))
  exact⟨hd.kb 10 _ rfl,hd.kb 11 _ rfl,hd.kb 12 _ rfl,hd.kb 13 _ rfl,this.c2⟩
 have H01:=hid (λU (hU:But (λ_=>False) w1 U)=>HSS.o U (HD1.o.but hU (λ_ _ h=>h) (λh=>h)) (hU.mono (λ_ h=>h.elim)))
 have HNx:=hid (λ(U:World) (hU:Below w1.heap.size w1 U)=>pNext (HD1.o.later hU))
 have HRt:=hid (λ(U:World) (hU:Below w1.heap.size w1 U)=>dRoot (HD1.o.later hU) HF.o s.nx (wf_i HNX.o))
 rw [←HA.o] at HRt
 clear HE HC H0
 go_upto_region 4 with fail
 go_cut [6,7] (λs5 s6 U=>∃b,s5=.pointer (some ⟨b,0,none⟩)∧s6=.int .i64 A.code∧Hid (w1.heap.size≤b∧∃u,(Duo u H (putD s A.s) d N∧But N w1 u)∧Bc u U b A.c))
 case first =>
  go_region_held3 (λU=>U.cell? ⟨H.kb,10,none⟩=some (.pointer (some ⟨H.g,0,none⟩))∧U.cell? ⟨H.kb,11,none⟩=some (.pointer (some ⟨H.z.s,0,none⟩))∧U.cell? ⟨H.kb,12,none⟩=some (.pointer (some ⟨H.A.g,0,none⟩))∧U.cell? ⟨H.kb,13,none⟩=some (.pointer (some ⟨H.qg,0,none⟩))∧U.cell? ⟨w.heap.size,2,none⟩=some (.int .i64 c.size)) (first|exact H01.o _ (But.of (Below.refl _ _).drew)|exact H01.o _ (But.of (below1 _ _).drew)|exact H01.o _ (But.of (below1 _ _))|exact HE.o _ (But.refl _ _)|exact HE.o _ (But.of (below1 _ _))|exact HE.o _ (L.set3_but (S:=λk=>k=w1.heap.size) (b:=w1.heap.size) (But.refl _ u_) rfl _)) (first
   | (go_at_call 38;refine (HNx.o _ (Below.refl _ _).drew).mono ?_;rintro e u9 ⟨rfl,hw9⟩;obtain rfl:=hw9.symm)|(go_at_call 38;refine (HNx.o _ (below1 _ _).drew).mono ?_;rintro e u9 ⟨rfl,hw9⟩;obtain rfl:=hw9.symm)|(go_at_call 104;refine (HRt.o _ (below1 _ _).drew).mono ?_;rintro e u_ ⟨rfl,hd_,hb_⟩;have HBt:Hid (But N w1 u_):=(But.of (S:=N) (below1 w1 (Obj.cells #[.int .i64 0,.int .u64 0,.int .u64 0] 38)).drew).trans hb_;have HPs:=hid (And.intro hd_ HBt.o);have hzc:=(Zb.mk_ w1).but (show But N (w1.alloc (Obj.cells #[.int .i64 0,.int .u64 0,.int .u64 0] 38)).drew u_ from hb_) (HN.o _ HS1.o);have HZc:=hid hzc;have HE:=hid (λU (hU:But (λk=>k=w1.heap.size) u_ U)=>HSS.o U (hd_.but hU (λk hk e=>HN.o k (by have h9:w1.heap.size≤_:=(Nat.le_refl _);have:=HS1.o;omega) hk) (λe=>by have h9:w1.heap.size≤_:=(Nat.le_refl _);have:=HS1.o;have:=HP.o;omega)) (HBt.o.comp hU (λi e=>.inr (by have h9:w1.heap.size≤_:=(Nat.le_refl _);omega))));obtain⟨⟨z0,f0⟩,⟨z1,f1⟩,⟨z2,f2⟩⟩:=hzc;clear hb_)
   | (go_at_call 104;refine (HRt.o _ (Below.refl _ _).drew).mono ?_;rintro e u_ ⟨rfl,hd_,hb_⟩;have HBt:Hid (But N w1 u_):=(But.of (S:=N) (Below.refl w1.heap.size w1).drew).trans hb_;have HPs:=hid (And.intro hd_ HBt.o);have HE:=hid (λU (hU:But (λk=>k=u_.heap.size) u_ U)=>HSS.o U (hd_.but hU (λk hk e=>HN.o k (by have h9:w1.heap.size≤_:=HBt.o.size;have:=HS1.o;omega) hk) (λe=>by have h9:w1.heap.size≤_:=HBt.o.size;have:=HS1.o;have:=HP.o;omega)) (HBt.o.comp hU (λi e=>.inr (by have h9:w1.heap.size≤_:=HBt.o.size;omega))));clear hb_))
  all_goals (try go_wp2)
  all_goals go_meet
  all_goals (first|exact⟨_,rfl,rfl,Nat.le_refl _,u_,HPs.o,Bc.first HZc.o _⟩|exact⟨_,rfl,rfl,HBt.o.size,u_,HPs.o,Bc.then_ u_ _⟩)
 case rest =>
 rename World=>v
 obtain⟨b,rfl,rfl,HR⟩:=hcut
 obtain⟨hlo,u,⟨hd3,hb3⟩,hbc⟩:=HR.o
 obtain⟨hv,v0,v1,v2⟩:=hbc
 have hsz:=HS1.o
 have HDv:=hid (hd3.but hv (λk hk e=>HN.o k (by omega) hk) (λe=>by have:=HP.o;omega))
 have HBv:Hid (But N w1 v):=hb3.comp hv (λi e=>.inr (by omega))
 have HZv:=hid (HZ1.o.but HBv.o (HN.o _ (by omega)))
 have HXv:=hid (R.Bx.but HBv.o HX1.o (HN.o _ (Nat.le_refl _)))
 have HLo:Hid (w1.heap.size≤b):=hlo
 have hvs:=hv.size
 have HBl:Hid (b<v.heap.size):=World.block_lt_of_cell? _ _ v0
 clear hlo hd3 hb3 hv hsz HR hvs
 have hqr:(A.code != 0)=true:=by simpa using HRr.o
 clear v0 v1 v2
 have HR:=hid (refused_any A.code v)
 go_upto_region 6 with fail
 go_upto_region 7 with (first|(go_at_call 31;refine HR.o.mono ?_;rintro e w2 ⟨rfl,hb2⟩;have HB2:Hid (Below v.heap.size v w2):=hb2;have HZ9:=hid (HZv.o.later HB2.o);have HS9:=hid (HZ9.o.st (rep A.code) none 0 0);have HL9:=hid (HZ9.o.lv (rep A.code) none 0 0);clear hb2)|((with_reducible refine st_arm HS9.o ?_ ?_ ?_);(· rfl);(· rfl)))
 have HB9:Hid (But (·=w.heap.size+1) w2 (w2.setCells (w.heap.size+1) 0 (rpL (rep A.code) none 0 0))):=R.sb_ (S:=(·=w.heap.size+1)) rfl _ 0 (But.refl _ _)
 exact bodyPost_ret (v:=rpV (rep A.code) none 0 0) (by simp [results,results59,asAddr,HL9.o]) rfl ⟨rfl,(HDv.o.later HB2.o).but HB9.o (λk hk e=>HN.o k (by omega) hk) (λe=>by have:0=w.heap.size+1:=e;omega),((But.of (b_c HB.o HB1.o)).trans (HBv.o.call HB2.o)).comp HB9.o (λi e=>.inr (by omega))⟩
theorem create_ok (h:Duo w H s d N)(hf:KF H.p s)(hm:S.mayV H.z.room H.z.n s.nx s.V c.size=0)(hr:(D.rootA H.p.d s.d s.nx).code=0) :
  Calls prog 59 #[.pointer (some ⟨H.kb,0,none⟩),.agg (R.cC c dd gg).toArray] w λe w'=>e=.returned (rpV ⟨0,(D.rootA H.p.d s.d s.nx).c,[],0⟩ none 0 0)∧∃N',Duo w' H { putD s (D.rootA H.p.d s.d s.nx).s with nx:=s.nx+1,V:=s.V++[(s.nx,List.replicate c.size.toNat 0)] } d N'∧Went w N w' N':=by
 obtain⟨W,hW⟩:∃W,W=(w.alloc (Obj.cells (R.cC c dd gg).toArray 45)).alloc z6:=⟨_,rfl⟩
 have hB:Below w.heap.size w W:=by rw [hW];exact below2 _ _ _
 have hX:R.Bx W w.heap.size (R.cC c dd gg):=by rw [hW];exact R.Bx.later (below1 _ _) (R.Bx.new w (R.cC c dd gg) 45)
 have hZ:Zr W (w.heap.size+1):=by rw [hW];have:=Zr.new (w.alloc (Obj.cells (R.cC c dd gg).toArray 45));simpa using this
 have h2:=h.later hB
 have HC:=hid (λ(U:World) (hU:Below W.heap.size W U)=>pMay (h2.later hU) c.size)
 have HS:Hid (∀U {s d},Duo U H s d N→But N W U→U.cell? ⟨H.kb,11,none⟩=some (.pointer (some ⟨H.z.s,0,none⟩))∧U.cell? ⟨w.heap.size,2,none⟩=some (.int .i64 c.size)):=λU s d hd hb=>by
  have:=Cb.of (R.Bx.but hb hX (h.new (Nat.le_refl _)))
  exact⟨hd.kb 11 _ rfl,this.c2⟩
 have H0:=hid (λU (hU:But (λ_=>False) W U)=>HS.o U (h2.but hU (λ_ _ h=>h) (λh=>h)) (hU.mono (λ_ h=>h.elim)))
 have hq:(S.mayV H.z.room H.z.n s.nx s.V c.size != 0)=false:=by simpa using hm
 rw [hm] at HC
 have HF:=hid hf
 have HNX:Hid (S.i64ok s.nx):=by have:=hf.nx;unfold Hid S.i64ok;omega
 have HM:=hid hm
 obtain⟨A,hA⟩:∃A,A=D.rootA H.p.d s.d s.nx:=⟨_,rfl⟩
 rw [←hA] at hr ⊢
 have HA:=hid hA
 have HRr:=hid hr
 have HW:=hid hW
 have HB:=hid hB
 have HX:=hid hX
 have HZ:=hid hZ
 have HD:=hid h2
 have HP:Hid (0<w.heap.size):=by have:=h.b0;unfold Hid;omega
 have HN:=hid (λk hk=>h.new (k:=k) hk)
 clear h h2 hB hX hZ hW hm hf hq hA hr
 go_enter func59,ntmps59
 go_upto_region 1 with fail
 rw [←HW.o]
 go_region_held3 (λU=>U.cell? ⟨H.kb,11,none⟩=some (.pointer (some ⟨H.z.s,0,none⟩))∧U.cell? ⟨w.heap.size,2,none⟩=some (.int .i64 c.size)) (first|exact H0.o _ (But.of (Below.refl _ _).drew)|exact HE.o) (first
   | (go_at_call 103;refine (HC.o _ (Below.refl _ _).drew).mono ?_;rintro e w1 ⟨rfl,hb_⟩;have HB1:Hid (Below W.heap.size W w1):=b_c (Below.refl _ _).drew hb_;have HE:=hid (H0.o w1 (But.of HB1.o));clear hb_))
 have HX1:=hid (R.Bx.later HB1.o HX.o)
 have HD1:=hid (HD.o.later HB1.o)
 have HZ1:=hid (HZ.o.later HB1.o)
 have HS1:Hid (w.heap.size≤w1.heap.size):=Nat.le_trans HB.o.size HB1.o.size
 have HSS:Hid (∀U {s d},Duo U H s d N→But N w1 U→U.cell? ⟨H.kb,10,none⟩=some (.pointer (some ⟨H.g,0,none⟩))∧U.cell? ⟨H.kb,11,none⟩=some (.pointer (some ⟨H.z.s,0,none⟩))∧U.cell? ⟨H.kb,12,none⟩=some (.pointer (some ⟨H.A.g,0,none⟩))∧U.cell? ⟨H.kb,13,none⟩=some (.pointer (some ⟨H.qg,0,none⟩))∧U.cell? ⟨w.heap.size,2,none⟩=some (.int .i64 c.size)):=λU s d hd hb=>by
  have:=Cb.of (R.Bx.but hb HX1.o (HN.o _ (Nat.le_refl _)))
  exact⟨hd.kb 10 _ rfl,hd.kb 11 _ rfl,hd.kb 12 _ rfl,hd.kb 13 _ rfl,this.c2⟩
 have H01:=hid (λU (hU:But (λ_=>False) w1 U)=>HSS.o U (HD1.o.but hU (λ_ _ h=>h) (λh=>h)) (hU.mono (λ_ h=>h.elim)))
 have HNx:=hid (λ(U:World) (hU:Below w1.heap.size w1 U)=>pNext (HD1.o.later hU))
 have HRt:=hid (λ(U:World) (hU:Below w1.heap.size w1 U)=>dRoot (HD1.o.later hU) HF.o s.nx (wf_i HNX.o))
 rw [←HA.o] at HRt
 clear HE HC H0
 go_upto_region 4 with fail
 go_cut [6,7] (λs5 s6 U=>∃b,s5=.pointer (some ⟨b,0,none⟩)∧s6=.int .i64 A.code∧Hid (w1.heap.size≤b∧∃u,(Duo u H (putD s A.s) d N∧But N w1 u)∧Bc u U b A.c))
 case first =>
  go_region_held3 (λU=>U.cell? ⟨H.kb,10,none⟩=some (.pointer (some ⟨H.g,0,none⟩))∧U.cell? ⟨H.kb,11,none⟩=some (.pointer (some ⟨H.z.s,0,none⟩))∧U.cell? ⟨H.kb,12,none⟩=some (.pointer (some ⟨H.A.g,0,none⟩))∧U.cell? ⟨H.kb,13,none⟩=some (.pointer (some ⟨H.qg,0,none⟩))∧U.cell? ⟨w.heap.size,2,none⟩=some (.int .i64 c.size)) (first|exact H01.o _ (But.of (Below.refl _ _).drew)|exact H01.o _ (But.of (below1 _ _).drew)|exact H01.o _ (But.of (below1 _ _))|exact HE.o _ (But.refl _ _)|exact HE.o _ (But.of (below1 _ _))|exact HE.o _ (L.set3_but (S:=λk=>k=w1.heap.size) (b:=w1.heap.size) (But.refl _ u_) rfl _)) (first
   | (go_at_call 38;refine (HNx.o _ (Below.refl _ _).drew).mono ?_;rintro e u9 ⟨rfl,hw9⟩;obtain rfl:=hw9.symm)|(go_at_call 38;refine (HNx.o _ (below1 _ _).drew).mono ?_;rintro e u9 ⟨rfl,hw9⟩;obtain rfl:=hw9.symm)|(go_at_call 104;refine (HRt.o _ (below1 _ _).drew).mono ?_;rintro e u_ ⟨rfl,hd_,hb_⟩;have HBt:Hid (But N w1 u_):=(But.of (S:=N) (below1 w1 (Obj.cells #[.int .i64 0,.int .u64 0,.int .u64 0] 38)).drew).trans hb_;have HPs:=hid (And.intro hd_ HBt.o);have hzc:=(Zb.mk_ w1).but (show But N (w1.alloc (Obj.cells #[.int .i64 0,.int .u64 0,.int .u64 0] 38)).drew u_ from hb_) (HN.o _ HS1.o);have HZc:=hid hzc;have HE:=hid (λU (hU:But (λk=>k=w1.heap.size) u_ U)=>HSS.o U (hd_.but hU (λk hk e=>HN.o k (by have h9:w1.heap.size≤_:=(Nat.le_refl _);have:=HS1.o;omega) hk) (λe=>by have h9:w1.heap.size≤_:=(Nat.le_refl _);have:=HS1.o;have:=HP.o;omega)) (HBt.o.comp hU (λi e=>.inr (by have h9:w1.heap.size≤_:=(Nat.le_refl _);omega))));obtain⟨⟨z0,f0⟩,⟨z1,f1⟩,⟨z2,f2⟩⟩:=hzc;clear hb_)
   | (go_at_call 104;refine (HRt.o _ (Below.refl _ _).drew).mono ?_;rintro e u_ ⟨rfl,hd_,hb_⟩;have HBt:Hid (But N w1 u_):=(But.of (S:=N) (Below.refl w1.heap.size w1).drew).trans hb_;have HPs:=hid (And.intro hd_ HBt.o);have HE:=hid (λU (hU:But (λk=>k=u_.heap.size) u_ U)=>HSS.o U (hd_.but hU (λk hk e=>HN.o k (by have h9:w1.heap.size≤_:=HBt.o.size;have:=HS1.o;omega) hk) (λe=>by have h9:w1.heap.size≤_:=HBt.o.size;have:=HS1.o;have:=HP.o;omega)) (HBt.o.comp hU (λi e=>.inr (by have h9:w1.heap.size≤_:=HBt.o.size;omega))));clear hb_))
  all_goals (try go_wp2)
  all_goals go_meet
  all_goals (first|exact⟨_,rfl,rfl,Nat.le_refl _,u_,HPs.o,Bc.first HZc.o _⟩|exact⟨_,rfl,rfl,HBt.o.size,u_,HPs.o,Bc.then_ u_ _⟩)
 case rest =>
 rename World=>v
 obtain⟨b,rfl,rfl,HR⟩:=hcut
 obtain⟨hlo,u,⟨hd3,hb3⟩,hbc⟩:=HR.o
 obtain⟨hv,v0,v1,v2⟩:=hbc
 have hsz:=HS1.o
 have HDv:=hid (hd3.but hv (λk hk e=>HN.o k (by omega) hk) (λe=>by have:=HP.o;omega))
 have HBv:Hid (But N w1 v):=hb3.comp hv (λi e=>.inr (by omega))
 have HZv:=hid (HZ1.o.but HBv.o (HN.o _ (by omega)))
 have HXv:=hid (R.Bx.but HBv.o HX1.o (HN.o _ (Nat.le_refl _)))
 have HLo:Hid (w1.heap.size≤b):=hlo
 have hvs:=hv.size
 have HBl:Hid (b<v.heap.size):=World.block_lt_of_cell? _ _ v0
 clear hlo hd3 hb3 hv hsz HR hvs
 have hqr:(A.code != 0)=false:=by simpa using HRr.o
 have HV:Hid (v.cell? ⟨b,0,none⟩=some (.int .i64 A.c.1)∧v.cell? ⟨b,1,none⟩=some (.int .u64 (A.c.2.1:Int))∧v.cell? ⟨b,2,none⟩=some (.int .u64 (A.c.2.2:Int))):=⟨v0,v1,v2⟩
 clear v0 v1 v2
 have HCr:=hid (λ(U:World) (hU:Below v.heap.size v U)=>pCreate (HDv.o.later hU) c.size HM.o)
 have H0v:Hid (∀U,But (λ_=>False) v U→U.cell? ⟨H.kb,11,none⟩=some (.pointer (some ⟨H.z.s,0,none⟩))∧U.cell? ⟨w.heap.size,2,none⟩=some (.int .i64 c.size)):=λU hU=>by
  have:=Cb.of (R.Bx.but hU HXv.o (λh=>h))
  exact⟨cb_ hU (HDv.o.kb 11 _ rfl) (λh=>h),this.c2⟩
 go_upto_region 7 with fail
 go_region_held3 (λU=>U.cell? ⟨H.kb,11,none⟩=some (.pointer (some ⟨H.z.s,0,none⟩))∧U.cell? ⟨w.heap.size,2,none⟩=some (.int .i64 c.size)) (first|exact H0v.o _ (But.of (Below.refl _ _).drew)|exact HE.o) (first
   | (go_at_call 105;refine (HCr.o _ (Below.refl _ _).drew).mono ?_;rintro e u2 ⟨rfl,N2,hd2,hw2⟩;have HD2:=hid hd2;have HW2:Hid (Went v N u2 N2):=(Went.later (Below.refl _ _).drew).trans hw2;have HE:Hid (u2.cell? ⟨H.kb,11,none⟩=some (.pointer (some ⟨H.z.s,0,none⟩))∧u2.cell? ⟨w.heap.size,2,none⟩=some (.int .i64 c.size)):=⟨hd2.kb 11 _ rfl,(Cb.of (R.Bx.but HW2.o.2 HXv.o (HN.o _ (Nat.le_refl _)))).c2⟩;clear hd2 hw2))
 obtain⟨v0,v1,v2⟩:=HV.o
 have hlo:=HLo.o
 have hsz:=HS1.o
 have hbb:¬N b:=HN.o _ (by omega)
 have v0:=cb_ HW2.o.2 v0 hbb
 have v1:=cb_ HW2.o.2 v1 hbb
 have v2:=cb_ HW2.o.2 v2 hbb
 have HZ9:=hid (HZv.o.but HW2.o.2 (HN.o _ (by omega)))
 have HS9:=hid (HZ9.o.st ⟨0,A.c,[],0⟩ none 0 0)
 have HL9:=hid (HZ9.o.lv ⟨0,A.c,[],0⟩ none 0 0)
 have HB9:Hid (But (·=w.heap.size+1) u2 (u2.setCells (w.heap.size+1) 0 (rpL ⟨0,A.c,[],0⟩ none 0 0))):=R.sb_ (S:=(·=w.heap.size+1)) rfl _ 0 (But.refl _ _)
 clear hlo hsz hbb
 go_wp2_with (first|((with_reducible refine st_arm HS9.o ?_ ?_ ?_);(· rfl);(· rfl)))
 refine bodyPost_ret (v:=rpV ⟨0,A.c,[],0⟩ none 0 0) (by simp [results,results59,asAddr,HL9.o]) rfl ⟨rfl,N2,HD2.o.but HB9.o (λk hk e=>?_) (λe=>by have:0=w.heap.size+1:=e;omega),?_⟩
 ·have h1:=HZv.o.lt
  exact HW2.o.out (by omega) (HN.o _ (by omega)) hk
 ·have h0:Went w N v N:=⟨λk h=>.inl h,(But.of (b_c HB.o HB1.o)).trans HBv.o⟩
  have h1:=h0.trans HW2.o
  exact⟨h1.1,h1.2.comp HB9.o (λi e=>.inr (by omega))⟩
end
end Go.Proofs.YtfmhdimaijimlaaGreatDoor.V
