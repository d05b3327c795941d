import Derived.Test.YtfmhdimaijimlaaGreatDoorG36
set_option linter.unusedVariables false
set_option linter.unusedSimpArgs false
set_option maxRecDepth 1000000
set_option maxHeartbeats 8000000
namespace Go.Proofs.YtfmhdimaijimlaaGreatDoor.V
open Go.RowKit
open Go.Proofs.YtfmhdimaijimlaaGreatDoor.H (B64 Cp)
open Go.Proofs.YtfmhdimaijimlaaGreatDoor.M (wpAnyH_norm)
section
variable {w w':World}
def knF (i:Nat):Nat:=(i%7)*B64+(i*5%23)
theorem kn_wcs (i:Nat):D.wcs (knF i)=[.int .u64 ((i%7:Nat):Int),.int .u64 ((i*5%23:Nat):Int)]:=by
 have h1:knF i / B64=i%7:=by unfold knF B64;omega
 have h2:knF i%B64=i*5%23:=by unfold knF B64;omega
 simp only [D.wcs,D.hiI,D.loI,h1,h2]
theorem kn_small (i:Nat):knF i<B64*B64:=by unfold knF B64;omega
theorem Ws.of {base:Nat}{a:Option Addr}{n c:Nat}{f:Nat→Nat}(hO3:Ow w base 31 2 a n c (D.wvs f n))(hs:∀i,f i<B64*B64):D.Ws w a n c f:=by
 refine⟨?_,?_,?_,hs⟩
 ·rcases hO3.form with ⟨_,h1,h2⟩|⟨g,_,_,h3⟩
  ·omega
  ·exact h3
 ·intro e
  rcases hO3.form with ⟨_,h1,h2⟩|⟨g,h1,_⟩
  ·exact⟨h1,h2⟩
  ·rw [h1] at e;cases e
 ·intro x hx j u hu
  by_cases h0:0<n
  ·obtain⟨b,h1,h2⟩:=Ow.at_ hO3 h0
   rw [h1] at hx
   cases hx
   rw [aa_]
   exact h2 j u hu
  ·have:n=0:=by omega
   subst this
   simp [D.wvs] at hu
theorem ldR {b:Nat}{r:Rep}{a:Option Addr}{n c:Nat}(h:R.Bx w b (rpL r a n c)):(Instr.loadAt 41 (.pointer (some ⟨b,0,none⟩))).run Tryz.prog w=.ok (rpV r a n c) w:=by
 have:=run_loadVar_mid (P:=Tryz.prog) w b 0 41 (rpL r a n c) _ h.range Tryz.underlying41 rfl (by rw [info6];rfl)
 simp [Instr.loadAt,Instr.sureAddr,this,rpL]
def KlRel (w:World)(H1 H2:Hd)(n:Nat)(v:Value)(U:World):Prop:=∃(i:Nat) (s:Sta) (N1 N2:Nat→Prop),v=.int .i64 (i:Int)∧i≤n∧Pair U H1 H2 s N1 N2 w.heap.size∧Below w.heap.size w U
def WlRel (W6:World)(v8 v9:Value)(U:World):Prop:=∃(i c:Nat) (a:Option Addr),v8=.slice a i c∧v9=.int .i64 (i:Int)∧i≤60∧Ow U W6.heap.size 31 2 a i c (D.wvs knF i)∧Below W6.heap.size W6 U
theorem app2 {U:World}{base:Nat}{a:Option Addr}{i c:Nat}(hO:Ow U base 31 2 a i c (D.wvs knF i))(hb:base≤U.heap.size)(hi:i≤60) :
  ∃a' c' w3,(Builtin.append_ #[28,28] 28 #[.slice a i c,.slice (some ⟨U.heap.size,0,none⟩) 1 1]).run Tryz.prog (U.alloc (Obj.cells #[.int .u64 ((i%7:Nat):Int),.int .u64 ((i*5%23:Nat):Int)] 31))=.ok (.slice a' (i+1) c') w3∧Ow w3 base 31 2 a' (i+1) c' (D.wvs knF (i+1))∧But (Blk a) U w3:=by
 have hcr:=Cr.lit U 31 [.int .u64 ((i%7:Nat):Int),.int .u64 ((i*5%23:Nat):Int)] (fun u hu=>by simp only [List.mem_cons,List.not_mem_nil,or_false] at hu;rcases hu with rfl|rfl<;>rfl)
 have hB:=below1 U (Obj.cells [.int .u64 ((i%7:Nat):Int),.int .u64 ((i*5%23:Nat):Int)].toArray 31)
 obtain⟨a',c',w3,hrun,hO3,hG0⟩:=append_k 28 31 _ 2 16 Tryz.underlying28 info31 rfl (by omega) (by omega) (hO.later hB) hcr (by have:=hB.size;omega) (by omega)
 refine⟨a',c',w3,hrun,?_,(hG0.pre hB).but⟩
 rw [D.wvs_succ,kn_wcs]
 exact hO3
theorem knobs_law (c:Cf)(o0 o1 o2:Int){a:Option Addr}{n cap:Nat}{C:List R.Cl}{D' G':Nat→R.Sl}(hC:Cz w a n C D' G')(hn:n≤140737488355328)(hl:D.Laid w)(h0:0<w.heap.size) :
  Calls Tryz.prog 3 #[c.v,.agg #[.int .i64 o0,.int .i64 o1,.int .i64 o2],.slice a n cap] w fun e w'=>e=.returned (.bool true)∧Below w.heap.size w w':=by
 obtain⟨W,hW⟩:∃W,W=(w.alloc (Obj.cells c.L.toArray 23)).alloc (Obj.cells #[.int .i64 o0,.int .i64 o1,.int .i64 o2] 24):=⟨_,rfl⟩
 have hB:Below w.heap.size w W:=by rw [hW];exact below2 _ _ _
 have hX:R.Bx W w.heap.size c.L:=by rw [hW];exact R.Bx.later (below1 _ _) (R.Bx.new w _ _)
 have hY:R.Bx W (w.heap.size+1) [.int .i64 o0,.int .i64 o1,.int .i64 o2]:=by
  rw [hW]
  have:=R.Bx.new (w.alloc (Obj.cells c.L.toArray 23)) [.int .i64 o0,.int .i64 o1,.int .i64 o2] 24
  rwa [World.size_alloc] at this
 have HLd:=hid (ldF hX)
 have HX:=hid hX
 have HY:=hid hY
 have HB:=hid hB
 have HWs:Hid (W.heap.size=w.heap.size+2):=by unfold Hid;rw [hW];simp
 have HCz:=hid hC
 have HLa:=hid hl
 have HP:=hid h0
 have HW:=hid hW
 clear hX hY hB hC hl h0 hW
 go_enter Tryz.func3,Tryz.ntmps3
 go_upto_region 1 with fail
 have hW:=HW.out
 rw [←hW]
 clear hW
 go_upto_region 2 with (first|((with_reducible refine R.ld_arm HLd.out ?_ ?_);(· rfl))|(go_at_call 9;refine (config_any c W).mono ?_;rintro e w1 ⟨c1,rfl,hm,hb⟩;have HM1:=hid hm;have HB1:=hid hb;have HS1:=hid (Bx.st23 (R.Bx.later hb HX.out) rfl c1);clear hm hb)|((with_reducible refine st_arm HS1.out ?_ ?_ ?_);(· rfl);(· rfl)))
 obtain⟨W2,hW2⟩:∃W2,W2=w1.setCells w.heap.size 0 c1.L:=⟨_,rfl⟩
 have HX2:Hid (R.Bx W2 w.heap.size c1.L):=by rw [hW2];exact R.Bx.set (R.Bx.later HB1.out HX.out) rfl
 rw [←hW2]
 have HLd2:=hid (ldF HX2.out)
 have HB2:Hid (Below w.heap.size w W2):=by rw [hW2];exact But.below (bc HB.out HB1.out) (R.sb_ (S:=(·=w.heap.size)) rfl _ 0 (But.refl _ _)) (fun k e=>by omega)
 have HY2:Hid (R.Bx W2 (w.heap.size+1) [.int .i64 o0,.int .i64 o1,.int .i64 o2]):=by rw [hW2];exact R.Bx.but (R.sb_ (S:=(·=w.heap.size)) rfl _ 0 (But.refl _ _)) (R.Bx.later HB1.out HY.out) (fun e=>by omega)
 have HS2:=hid (Bx.st23 (R.Bx.new W2 [.int .i64 0,.int .i64 0,.int .i64 0,.int .i64 0,.int .i64 0,.int .i64 0,.int .i64 0,.int .i64 0,.int .i64 0,.int .i64 0] 23) rfl c1)
 clear hW2
 go_upto_region 3 with (first|((with_reducible refine R.ld_arm HLd2.out ?_ ?_);(· rfl))|((with_reducible refine st_arm HS2.out ?_ ?_ ?_);(· rfl);(· rfl)))
 obtain⟨W3,hW3⟩:∃W3,W3=(W2.alloc (Obj.cells [.int .i64 0,.int .i64 0,.int .i64 0,.int .i64 0,.int .i64 0,.int .i64 0,.int .i64 0,.int .i64 0,.int .i64 0,.int .i64 0].toArray 23)).setCells W2.heap.size 0 c1.L:=⟨_,rfl⟩
 have HX3:Hid (R.Bx W3 W2.heap.size c1.L):=by rw [hW3];exact R.Bx.set (R.Bx.new W2 [.int .i64 0,.int .i64 0,.int .i64 0,.int .i64 0,.int .i64 0,.int .i64 0,.int .i64 0,.int .i64 0,.int .i64 0,.int .i64 0] 23) rfl
 have HB3:Hid (Below W2.heap.size W2 W3):=by rw [hW3];exact But.below (below1 _ _) (R.sb_ (S:=(·=W2.heap.size)) rfl _ 0 (But.refl _ _)) (fun k e=>by omega)
 rw [←hW3]
 clear hW3
 have y0:=(R.Bx.later HB3.out HY2.out).cell 0 rfl
 have x7:=HX3.out.cell 7 rfl
 have f7:W3.frozen? ⟨W2.heap.size,7,none⟩=false:=(HX3.out.there 7 (by simp [Cf.L])).2
 go_upto_region 4 with (first|(go_at_call 10;refine (below_ex o0 17 (by decide) (by decide) W3).mono ?_;rintro e w_ ⟨r0,rfl,⟨hr0,hs0⟩,hw_⟩;obtain rfl:=hw_.symm;clear hw_))
 obtain⟨W4,hW4⟩:∃W4,W4=W3.setCell ⟨W2.heap.size,7,none⟩ (.int .i64 r0):=⟨_,rfl⟩
 have HX4:Hid (R.Bx W4 W2.heap.size (Cf.L { c1 with s:=r0 })):=by rw [hW4];exact Bx.put HX3.out 7 (by simp [Cf.L]) (.int .i64 r0)
 have HB4:Hid (Below W2.heap.size W2 W4):=by rw [hW4];exact But.below HB3.out (But.own (g:=W2.heap.size) (But.refl _ _) 7 _) (fun k e=>by omega)
 rw [←hW4]
 clear hW4 y0 x7 f7
 have y1:=(R.Bx.later HB4.out HY2.out).cell 1 rfl
 have x8:=HX4.out.cell 8 rfl
 have f8:W4.frozen? ⟨W2.heap.size,8,none⟩=false:=(HX4.out.there 8 (by simp [Cf.L])).2
 go_upto_region 5 with (first|(go_at_call 10;refine (below_ex o1 4 (by decide) (by decide) W4).mono ?_;rintro e w_ ⟨r1,rfl,⟨hr1,hs1⟩,hw_⟩;obtain rfl:=hw_.symm;clear hw_))
 obtain⟨W5,hW5⟩:∃W5,W5=W4.setCell ⟨W2.heap.size,8,none⟩ (.int .i64 (1+r1)):=⟨_,rfl⟩
 have HX5:Hid (R.Bx W5 W2.heap.size (Cf.L { c1 with s:=r0,y:=1+r1 })):=by rw [hW5];exact Bx.put HX4.out 8 (by simp [Cf.L]) (.int .i64 (1+r1))
 have HB5:Hid (Below W2.heap.size W2 W5):=by rw [hW5];exact But.below HB4.out (But.own (g:=W2.heap.size) (But.refl _ _) 8 _) (fun k e=>by omega)
 rw [←hW5]
 clear hW5 y1 x8 f8
 have y2:=(R.Bx.later HB5.out HY2.out).cell 2 rfl
 have x9:=HX5.out.cell 9 rfl
 have f9:W5.frozen? ⟨W2.heap.size,9,none⟩=false:=(HX5.out.there 9 (by simp [Cf.L])).2
 go_upto_region 6 with (first|(go_at_call 10;refine (below_ex o2 65 (by decide) (by decide) W5).mono ?_;rintro e w_ ⟨r2,rfl,⟨hr2,hs2⟩,hw_⟩;obtain rfl:=hw_.symm;clear hw_))
 obtain⟨W6,hW6⟩:∃W6,W6=W5.setCell ⟨W2.heap.size,9,none⟩ (.int .i64 r2):=⟨_,rfl⟩
 obtain⟨c2,hc2⟩:∃c2:Cf,c2={ c1 with s:=r0,y:=1+r1,k:=r2 }:=⟨_,rfl⟩
 have HX6:Hid (R.Bx W6 W2.heap.size c2.L):=by rw [hW6,hc2];exact Bx.put HX5.out 9 (by simp [Cf.L]) (.int .i64 r2)
 have HB6:Hid (Below W2.heap.size W2 W6):=by rw [hW6];exact But.below HB5.out (But.own (g:=W2.heap.size) (But.refl _ _) 9 _) (fun k e=>by omega)
 have HM2:Hid (c2.may=true):=by
  have:=Cf.may_iff.1 HM1.out
  rw [hc2]
  exact Cf.may_iff.2 (by simp only [];omega)
 have HC2:Hid (∀m f,c2.pm m f=c1.pm m f):=by rw [hc2];exact fun _ _=>rfl
 have HXa:Hid (R.Bx W6 w.heap.size c1.L):=R.Bx.later HB6.out HX2.out
 rw [←hW6]
 clear hW6 hc2 y2 x9 f9 hr0 hs0 hr1 hs1 hr2 hs2 HX HY HLd HB1 HS1 HX3 HX4 HX5 HB3 HB4 HB5 HS2 HLd2 HY2 HW
 go_upto_region 8 with fail
 go_loopw [8,9] (WlRel W6) (fun _ v _=>60 - S.ivN v)
 case atStart=>exact⟨0,0,none,rfl,rfl,by omega,Ow.nil _ _ _ _,Below.refl _ _⟩
 case round =>
  obtain⟨i,ci,ai,rfl,rfl,hi,hO,hBi⟩:=hrel
  have HO:=hid hO
  have HBi:=hid hBi
  clear hO hBi
  by_cases hlt:i<60
  ·have hd:decide ((i:Int)<60)=true:=decide_eq_true (by omega)
   have e1:(i:Int).tmod 7=((i%7:Nat):Int):=by rw [Int.tmod_eq_emod_of_nonneg (by omega)];omega
   have e2:((i:Int)*5).tmod 23=((i*5%23:Nat):Int):=by rw [Int.tmod_eq_emod_of_nonneg (by omega)];omega
   obtain⟨a',c',w7,hrun,hO7,hB7⟩:=app2 HO.out HBi.out.size hi
   have HRUN:=hid hrun
   have HO7:=hid hO7
   have HB7:=hid hB7
   obtain⟨q1,hq1⟩:∃q1,q1=i%7:=⟨_,rfl⟩
   obtain⟨q2,hq2⟩:∃q2,q2=i*5%23:=⟨_,rfl⟩
   have hl1:q1<7:=by omega
   have hl2:q2<23:=by omega
   rw [←hq1] at e1 HRUN
   rw [←hq2] at e2 HRUN
   clear hrun hO7 hB7 hq1 hq2
   go_wp2_with (first|(at_builtin;refine wk_ rfl _ _ 28 rfl _ _ rfl rfl _ w7 HRUN.out ?_))
   exact⟨⟨i+1,c',a',rfl,rfl,by omega,HO7.out,But.below HBi.out HB7.out (fun j hj=>(HO.out.blk j hj).1)⟩,by simp [S.ivN];omega⟩
  ·obtain rfl:i=60:=by omega
   have hd:decide (((60:Nat):Int)<60)=false:=by decide
   go_upto_region 11 with fail
   have HWs1:Hid (D.Ws wr.drew ai 60 ci knF):=(Ws.of HO.out kn_small).later (Below.refl _ _).drew
   obtain⟨a1,c1_,p1,hrun,hWs,-,hB8⟩:=words_app HWs1.out (by omega)
   have HRUN1:=hid hrun
   have HBp1:Hid (Below wr.heap.size wr p1):=bc (Below.refl _ _).drew hB8
   have HNew1:=hid (new_ok c1 HM1.out a1 60 c1_ knF p1 hWs (by omega) (cell_later (bc (bc HB2.out (bc HB6.out HBi.out)) HBp1.out) HLa.out) (by have:=HP.out;have:=(bc (bc HB2.out (bc HB6.out HBi.out)) HBp1.out).size;omega))
   have HSx1:Hid (∀U,Below wr.heap.size wr U→R.Bx U w.heap.size c1.L):=fun U hU=>R.Bx.later hU (R.Bx.later HBi.out HXa.out)
   clear hrun hWs hB8
   refine wp_region_held_drew (S:=(fun U:World=>R.Bx U w.heap.size c1.L)) (by kernel_rfl) (HSx1.out _ (Below.refl _ _).drew) (fun hHeld=>?_)
   refine nH (bm 10 0) 10 ?_
   refine tH 0 (v:=c1.v) rfl (fun _ _ _ h=>h) ?_ ?_
   ·(intro w hSw;(try dsimp only at hSw);exact K.ex_load rfl rfl (ldF hSw))
   try simp only [gz,Act.put]
   refine nH (bm 10 1) 9 ?_
   refine tH 2 (v:=?_) rfl (fun _ _ _ h=>h) ?_ ?_;rotate_left
   ·(intro w hSw;(try dsimp only at hSw);go_simp;try with_reducible rfl)
   try simp only [gz,Act.put]
   refine nH (bm 10 5) 8 ?_
   refine yH [1] ?_
   refine cH rfl fun K hK=>?_
   go_simp
   refine hK.out _ _ (HSx1.out _ ((Below.refl _ _).drew.alloc (Nat.le_refl _) _)) (fun hHeld=>?_)
   clear hK K
   try simp only [gz,Act.put]
   refine nH (bm 10 7) 7 ?_
   refine yH [3] ?_
   refine cH rfl fun K hK=>?_
   refine M.wp_append_known (.tmp 49) (.tmp 50) 28 rfl _ _ rfl rfl _ p1 HRUN1.out ?_
   refine hK.out _ _ (HSx1.out _ HBp1.out) (fun hHeld=>?_)
   clear hK K
   try simp only [gz,Act.put]
   refine nH (bm 10 15) 6 ?_
   refine yH [4] ?_
   refine cH rfl fun K hK=>?_
   go_simp
   go_wp2_with (first|(go_at_call 11;refine HNew1.out.mono ?_;rintro e q1 ⟨H1,N1,rfl,hk,hp,-,hN,hb⟩;have HK1:=hid hk;have HPm1:=hid hp;have HNn1:=hid hN;have HBq1:Hid (Below wr.heap.size wr q1):=bc HBp1.out hb;have HBr1:=hid hb;clear hk hp hN hb))
   refine hK.out _ _ (HSx1.out _ HBq1.out) (fun hHeld=>?_)
   clear hK K
   try simp only [gz,Act.put]
   refine nH (bm 10 31) 5 ?_
   refine tH 5 (v:=?_) rfl (fun _ _ _ h=>h) ?_ ?_;rotate_left
   ·(intro w hSw;(try dsimp only at hSw);go_simp;try with_reducible rfl)
   try simp only [gz,Act.put]
   refine nH (bm 10 63) 4 ?_
   refine tH 6 (v:=?_) rfl (fun _ _ _ h=>h) ?_ ?_;rotate_left
   ·(intro w hSw;(try dsimp only at hSw);go_simp;try with_reducible rfl)
   try simp only [gz,Act.put]
   refine nH (bm 10 127) 3 ?_
   refine tH 7 (v:=?_) rfl (fun _ _ _ h=>h) ?_ ?_;rotate_left
   ·(intro w hSw;(try dsimp only at hSw);go_simp;try with_reducible rfl)
   try simp only [gz,Act.put]
   refine nH (bm 10 255) 2 ?_
   refine tH 8 (v:=?_) rfl (fun _ _ _ h=>h) ?_ ?_;rotate_left
   ·(intro w hSw;(try dsimp only at hSw);go_simp;try with_reducible rfl)
   try simp only [gz,Act.put]
   refine nH (bm 10 511) 1 ?_
   refine tH 9 (v:=?_) rfl (fun _ _ _ h=>h) ?_ ?_;rotate_left
   ·(intro w hSw;(try dsimp only at hSw);go_simp;try with_reducible rfl)
   try simp only [gz,Act.put]
   refine nH (bm 10 1023) 0 ?_
   refine wpAnyH_done (by kernel_rfl) ?_ _
   go_upto_region 12 with fail
   have HWs2:Hid (D.Ws q1.drew ai 60 ci knF):=((Ws.of HO.out kn_small).later HBq1.out).later (Below.refl _ _).drew
   obtain⟨a2,c2_,p2,hrun,hWs,-,hB8⟩:=words_app HWs2.out (by omega)
   have HRUN2:=hid hrun
   have HBp2:Hid (Below q1.heap.size q1 p2):=bc (Below.refl _ _).drew hB8
   have HNew2:=hid (new_ok c2 HM2.out a2 60 c2_ knF p2 hWs (by omega) (cell_later (bc (bc (bc HB2.out (bc HB6.out HBi.out)) HBq1.out) HBp2.out) HLa.out) (by have:=HP.out;have:=(bc (bc (bc HB2.out (bc HB6.out HBi.out)) HBq1.out) HBp2.out).size;omega))
   have HSx2:Hid (∀U,Below q1.heap.size q1 U→R.Bx U W2.heap.size c2.L):=fun U hU=>R.Bx.later hU (R.Bx.later HBq1.out (R.Bx.later HBi.out HX6.out))
   clear hrun hWs hB8
   refine wp_region_held_drew (S:=(fun U:World=>R.Bx U W2.heap.size c2.L)) (by kernel_rfl) (HSx2.out _ (Below.refl _ _).drew) (fun hHeld=>?_)
   refine nH (bm 10 0) 10 ?_
   refine tH 0 (v:=c2.v) rfl (fun _ _ _ h=>h) ?_ ?_
   ·(intro w hSw;(try dsimp only at hSw);exact K.ex_load rfl rfl (ldF hSw))
   try simp only [gz,Act.put]
   refine nH (bm 10 1) 9 ?_
   refine tH 2 (v:=?_) rfl (fun _ _ _ h=>h) ?_ ?_;rotate_left
   ·(intro w hSw;(try dsimp only at hSw);go_simp;try with_reducible rfl)
   try simp only [gz,Act.put]
   refine nH (bm 10 5) 8 ?_
   refine yH [1] ?_
   refine cH rfl fun K hK=>?_
   go_simp
   refine hK.out _ _ (HSx2.out _ ((Below.refl _ _).drew.alloc (Nat.le_refl _) _)) (fun hHeld=>?_)
   clear hK K
   try simp only [gz,Act.put]
   refine nH (bm 10 7) 7 ?_
   refine yH [3] ?_
   refine cH rfl fun K hK=>?_
   refine M.wp_append_known (.tmp 57) (.tmp 58) 28 rfl _ _ rfl rfl _ p2 HRUN2.out ?_
   refine hK.out _ _ (HSx2.out _ HBp2.out) (fun hHeld=>?_)
   clear hK K
   try simp only [gz,Act.put]
   refine nH (bm 10 15) 6 ?_
   refine yH [4] ?_
   refine cH rfl fun K hK=>?_
   go_simp
   go_wp2_with (first|(go_at_call 11;refine HNew2.out.mono ?_;rintro e q2 ⟨H2,N2,rfl,hk,hp,-,hN,hb⟩;have HK2:=hid hk;have HPm2:=hid hp;have HNn2:=hid hN;have HBq2:Hid (Below q1.heap.size q1 q2):=bc HBp2.out hb;have HBr2:=hid hb;clear hk hp hN hb))
   refine hK.out _ _ (HSx2.out _ HBq2.out) (fun hHeld=>?_)
   clear hK K
   try simp only [gz,Act.put]
   refine nH (bm 10 31) 5 ?_
   refine tH 5 (v:=?_) rfl (fun _ _ _ h=>h) ?_ ?_;rotate_left
   ·(intro w hSw;(try dsimp only at hSw);go_simp;try with_reducible rfl)
   try simp only [gz,Act.put]
   refine nH (bm 10 63) 4 ?_
   refine tH 6 (v:=?_) rfl (fun _ _ _ h=>h) ?_ ?_;rotate_left
   ·(intro w hSw;(try dsimp only at hSw);go_simp;try with_reducible rfl)
   try simp only [gz,Act.put]
   refine nH (bm 10 127) 3 ?_
   refine tH 7 (v:=?_) rfl (fun _ _ _ h=>h) ?_ ?_;rotate_left
   ·(intro w hSw;(try dsimp only at hSw);go_simp;try with_reducible rfl)
   try simp only [gz,Act.put]
   refine nH (bm 10 255) 2 ?_
   refine tH 8 (v:=?_) rfl (fun _ _ _ h=>h) ?_ ?_;rotate_left
   ·(intro w hSw;(try dsimp only at hSw);go_simp;try with_reducible rfl)
   try simp only [gz,Act.put]
   refine nH (bm 10 511) 1 ?_
   refine tH 9 (v:=?_) rfl (fun _ _ _ h=>h) ?_ ?_;rotate_left
   ·(intro w hSw;(try dsimp only at hSw);go_simp;try with_reducible rfl)
   try simp only [gz,Act.put]
   refine nH (bm 10 1023) 0 ?_
   refine wpAnyH_done (by kernel_rfl) ?_ _
   have HPr:Hid (Pair q2 H1 H2 (sta c1.m.toNat [0]) N1 N2 w.heap.size):=by
    have e1:c2.m.toNat=c1.m.toNat:=congrArg Pm.mo (HC2.out 0 (fun _=>0))
    have hk2:=HK2.out
    rw [e1] at hk2
    have sA:=(bc HB2.out (bc HB6.out HBi.out)).size
    have sB:=HBp1.out.size
    have sC:=HBp2.out.size
    have sD:=HBq1.out.size
    have eW:c2.W=c1.W:=congrArg Pm.W (HC2.out 0 (fun _=>0))
    have ep:H1.p=H2.p:=by rw [HPm1.out,HPm2.out,HC2.out,eW]
    refine⟨HK1.out.later HBq2.out,hk2,fun k h1 h2=>?_,fun k hk=>?_,ep,congrArg Pm.mo ep⟩
    ·have:=(HK1.out.rng k h1).2;have:=HNn2.out k h2;omega
    ·rcases hk with hk|hk
     ·have:=HNn1.out k hk;omega
     ·have:=HNn2.out k hk;omega
   have HBw:Hid (Below w.heap.size w q2):=bc (bc HB2.out (bc HB6.out HBi.out)) (bc HBq1.out HBq2.out)
   have HEx:=hid (example_any (cell_later HBw.out HLa.out) (by have:=HP.out;have:=HBw.out.size;omega))
   clear HBi HO hi hlt hd HWs1 HRUN1 HNew1 HSx1 HWs2 HRUN2 HNew2 HSx2 HK1 HK2 HPm1 HPm2 HNn1 HNn2 HBr1 HBr2 HBp1 HBp2 HBq1 HBq2
   go_upto_region 16 with (first|(go_at_call 12;refine HEx.out.mono ?_;rintro e q3 ⟨rfl,hb⟩;have HB3q:=hid hb;clear hb))
   go_loopw [14] (KlRel w H1 H2 n) (fun v _=>n - S.ivN v)
   case atStart=>exact⟨0,_,_,_,rfl,Nat.zero_le _,HPr.out.later HB3q.out,bc HBw.out HB3q.out⟩
   case round =>
    obtain⟨i,s,M1,M2,rfl,hi,hPr,hBr⟩:=hrel
    have HIn:=hid hi
    have HPa:=hid hPr
    have HBr:=hid hBr
    clear hi hPr hBr
    by_cases hlt:i<n
    ·have hd:decide ((i:Int)<(n:Int))=true:=decide_eq_true (by omega)
     obtain⟨cl,hcl⟩:∃cl,C[i]?=some cl:=⟨_,List.getElem?_eq_getElem (by have:=HCz.out.len;omega)⟩
     obtain⟨b,o,rfl,hrg⟩:=HCz.out.at_ (by omega)
     have hrg:=hrg i cl hcl
     have HIs:=hid (HCz.out.is i cl hcl)
     have HRg:Hid (∀U,Below w.heap.size w U→U.rangeAt b (o+i*13) (R.cC cl (D' i) (G' i))):=fun U hU j v hv=>cell_later hU (hrg j v hv)
     have HLd:=hid (ldC_at (HRg.out wr HBr.out))
     have HCp:=hid (copied_any (HIs.out.1.later HBr.out) HIs.out.2.1 HIs.out.2.2)
     obtain⟨A,hA⟩:∃A,A=doA H1.p s cl:=⟨_,rfl⟩
     have HA:=hid hA
     clear hcl hrg hA
     go_upto_region 19 with (first|((with_reducible refine R.ld_arm HLd.out ?_ ?_);(· rfl))|(go_at_call 14;refine HCp.out.mono ?_;rintro e u1 ⟨d1,g1,rfl,hm,hb⟩;have HMn:=hid hm;have HU1:=hid hb;have hdo:=do_any (HPa.out.k1.later hb) hm.is (fun _ j hj e=>by have:=(hm.d j hj).1;have:=(HPa.out.k1.rng j e).2;omega);rw [←HA.out] at hdo;have HDo:=hid hdo;clear hm hb hdo)|(go_at_call 13;refine HDo.out.mono ?_;rintro e u2 ⟨ra,rn,rc,M1',rfl,ho,hk,hw,hq⟩;have HOr:=hid ho;have HKr:=hid hk;have HWr:=hid hw;clear ho hk hw hq))
     obtain⟨u3,hu3⟩:∃u3,u3=u2.alloc (Obj.cells (rpL A.1 ra rn rc).toArray 41):=⟨_,rfl⟩
     have HX3:Hid (R.Bx u3 u2.heap.size (rpL A.1 ra rn rc)):=by rw [hu3];exact R.Bx.new u2 (rpL A.1 ra rn rc) 41
     have HU3:Hid (Below u2.heap.size u2 u3):=by rw [hu3];exact below1 _ _
     simp only [rpL] at hu3
     rw [←hu3]
     have hbs:=Kn.beside (HPa.out.k1.later HU1.out) (HPa.out.k2.later HU1.out) HPa.out.ap HWr.out
     have HK2u:=hid hbs.1
     have HAp:=hid hbs.2
     have HBu1:Hid (Below w.heap.size w u1):=bc HBr.out HU1.out
     have HBu3:Hid (Below w.heap.size w u3):=bc (But.below HBu1.out HWr.out.2 (fun k hk=>HPa.out.lo k (.inl hk))) HU3.out
     have HSS:Hid (∀U,But M2 u3 U→R.Bx U u2.heap.size (rpL A.1 ra rn rc)∧U.rangeAt b (o+i*13) (R.cC cl (D' i) (G' i))):=fun U hU=>⟨R.Bx.but hU HX3.out (HK2u.out.new (Nat.le_refl _)),HRg.out U (But.below HBu3.out hU (fun k hk=>HPa.out.lo k (.inr hk)))⟩
     have HCp2:=hid (copied_any (w:=u3.drew) (HIs.out.1.later (HBu3.out.drew)) HIs.out.2.1 HIs.out.2.2)
     have hrn:A.1.data.length=rn:=by have:=HOr.out.len;rwa [S.u8s_length] at this
     have HRn:=hid hrn
     clear hu3 hbs hrn HLd HCp HDo
     refine wp_region_held_drew (S:=(fun U:World=>(R.Bx U u2.heap.size (rpL A.1 ra rn rc)∧U.rangeAt b (o+i*13) (R.cC cl (D' i) (G' i))))) (by kernel_rfl) (HSS.out _ (But.of (Below.refl _ _).drew)) (fun hHeld=>?_)
     refine nH (bm 10 0) 10 ?_
     refine tH 0 (v:=rpV A.1 ra rn rc) rfl (fun _ _ _ h=>h) ?_ ?_
     ·(intro w hSw;(try dsimp only at hSw);exact K.ex_load rfl rfl (ldR hSw.1))
     try simp only [gz,Act.put]
     refine nH (bm 10 1) 9 ?_
     refine tH 1 (v:=?_) rfl (fun _ _ _ h=>h) ?_ ?_;rotate_left
     ·(intro w hSw;(try dsimp only at hSw);go_simp;try with_reducible rfl)
     try simp only [gz,Act.put]
     refine nH (bm 10 3) 8 ?_
     refine tH 2 (v:=?_) rfl (fun _ _ _ h=>h) ?_ ?_;rotate_left
     ·(intro w hSw;(try dsimp only at hSw);go_simp;try with_reducible rfl)
     try simp only [gz,Act.put]
     refine nH (bm 10 7) 7 ?_
     refine tH 3 (v:=?_) rfl (fun _ _ _ h=>h) ?_ ?_;rotate_left
     ·(intro w hSw;(try dsimp only at hSw);go_simp;try with_reducible rfl)
     try simp only [gz,Act.put]
     refine nH (bm 10 15) 6 ?_
     refine tH 4 (v:=.pointer (some ⟨b,o+i*13,none⟩)) rfl (fun _ _ _ h=>h) ?_ ?_
     ·(intro w hSw;(try dsimp only at hSw);first|(go_simp;done)|(go_simp;intro hh;exfalso;omega))
     try simp only [gz,Act.put]
     refine nH (bm 10 31) 5 ?_
     refine tH 5 (v:=.agg (R.cC cl (D' i) (G' i)).toArray) rfl (fun _ _ _ h=>h) ?_ ?_
     ·(intro w hSw;(try dsimp only at hSw);exact K.ex_load rfl rfl (ldC_at hSw.2))
     try simp only [gz,Act.put]
     refine nH (bm 10 63) 4 ?_
     refine yH [6] ?_
     refine cH rfl fun K hK=>?_
     go_simp
     go_wp2_with (first|(go_at_call 14;refine HCp2.out.mono ?_;rintro e v1 ⟨d2,g2,rfl,hm,hb⟩;have HV1:Hid (Below u3.heap.size u3 v1):=bc (Below.refl _ _).drew hb;have hkv:=(HK2u.out.later HU3.out).later HV1.out;have HKv:=hid hkv;have hdo:=do_any hkv hm.is (fun _ j hj e=>by have h1:u3.heap.size≤j:=(hm.d j hj).1;have h2:=(HK2u.out.rng j e).2;have h3:=HU3.out.size;omega);rw [←HPa.out.p,←HA.out] at hdo;have HDo2:=hid hdo;clear hm hb hdo hkv))
     refine hK.out _ _ (HSS.out v1 (But.of HV1.out)) (fun hHeld=>?_)
     clear hK K
     try simp only [gz,Act.put]
     refine nH (bm 10 127) 3 ?_
     refine yH [7] ?_
     refine cH rfl fun K hK=>?_
     go_simp
     go_wp2_with (first|(go_at_call 13;refine HDo2.out.mono ?_;rintro e v2 ⟨sa,sn,sc,M2',rfl,ho,hk,hw,hq⟩;have HKw:=hid hk;have HWv:=hid hw;have HOs:=hid ho;clear ho hk hw hq))
     have hsn:rn=sn:=by (have h9:=HOs.out.len;rw [S.u8s_length] at h9;rw [←h9,HRn.out])
     subst hsn
     have HBv:Hid (But M2 u3 v2):=(But.of HV1.out).trans HWv.out.2
     have HSm:=hid (sameReply_eq (w:=v2) A.1 (ca:=rc) (cb:=sc) (Fl.own (Own.but HWv.out.2 ((HOr.out.later HU3.out).later HV1.out) (fun k hk e=>by have h1:=HOr.out.blk k hk;have h2:=(HPa.out.k2.rng k e).2;have h3:=HU1.out.size;omega))) (Fl.own HOs.out) HRn.out (by have:=do_data H1.p s cl;rw [←HA.out,HRn.out] at this;omega))
     refine hK.out _ _ (HSS.out v2 HBv.out) (fun hHeld=>?_)
     clear hK K
     try simp only [gz,Act.put]
     refine nH (bm 10 255) 2 ?_
     refine yH [8] ?_
     refine cH rfl fun K hK=>?_
     go_simp
     go_wp2_with (first|(go_at_call 15;refine HSm.out.mono ?_;rintro e v3 ⟨rfl,hb⟩;have HV3:=hid hb;clear hb))
     refine hK.out _ _ (HSS.out v3 (HBv.out.call HV3.out)) (fun hHeld=>?_)
     clear hK K
     try simp only [gz,Act.put]
     refine nH (bm 10 511) 1 ?_
     refine tH 9 (v:=?_) rfl (fun _ _ _ h=>h) ?_ ?_;rotate_left
     ·(intro w hSw;(try dsimp only at hSw);go_simp;try with_reducible rfl)
     try simp only [gz,Act.put]
     refine nH (bm 10 1023) 0 ?_
     refine wpAnyH_done (by kernel_rfl) ?_ _
     go_wp2
     have hz1:=HU1.out.size
     have hz2:=HWr.out.size
     have hz3:=HU3.out.size
     have hz4:=HV1.out.size
     have hb2:=Kn.beside HKv.out ((HKr.out.later HU3.out).later HV1.out) (fun k h1 h2=>HAp.out k h2 h1) HWv.out
     have hbv:Below w.heap.size w v3:=bc (But.below (bc HBu3.out HV1.out) HWv.out.2 (fun k hk=>HPa.out.lo k (.inr hk))) HV3.out
     have hwu:=HBu3.out.size
     have hwu1:=HBu1.out.size
     refine⟨⟨i+1,A.2,M1',M2',rfl,by omega,⟨hb2.1.later HV3.out,HKw.out.later HV3.out,fun k h1 h2=>hb2.2 k h2 h1,fun k hk=>?_,HPa.out.p,HPa.out.m⟩,hbv⟩,by simp [S.ivN];omega⟩
     rcases hk with hk|hk
     ·rcases HWr.out.1 k hk with h|h
      ·exact HPa.out.lo k (.inl h)
      ·omega
     ·rcases HWv.out.1 k hk with h|h
      ·exact HPa.out.lo k (.inr h)
      ·omega
    ·obtain rfl:n=i:=by have:=HIn.out;omega
     have hd:decide ((n:Int)<(n:Int))=false:=by simp
     obtain⟨p,hp⟩:∃p,p=psOf H1.mo s:=⟨_,rfl⟩
     have HSmall:Hid p.Small:=by rw [hp];exact HPa.out.k1.small
     have HSt1:Hid (Calls Tryz.prog 17 #[.pointer (some ⟨H1.kb,0,none⟩)] wr (StRets wr p)):=by
      obtain⟨d,hdd,ht,hf,_⟩:=HPa.out.k1
      rw [hp]
      exact state_any hdd hf
     have HSt2:Hid (∀U,Below wr.heap.size wr U→Calls Tryz.prog 17 #[.pointer (some ⟨H2.kb,0,none⟩)] U (StRets U p)):=fun U hU=>by
      obtain⟨d,hdd,ht,hf,_⟩:=HPa.out.k2.later hU
      rw [hp,HPa.out.m]
      exact state_any hdd hf
     clear hp
     go_wp2_with (first|(go_at_call 17;(with_reducible refine HSt1.out.mono ?_);rintro e x1 ⟨a1,e1,Q1,a2,e2,a3,e3,Q3,rfl,hT,hb⟩;have HT1:=hid hT;have HXb:=hid hb;clear hT hb)|(go_at_call 17;(with_reducible refine (HSt2.out x1 HXb.out).mono ?_);rintro e x2 ⟨b1,f1,R1,b2,f2,b3,f3,R3,rfl,hT,hb⟩;have HT2:=hid hT;have HXc:=hid hb;have HSs:=hid (sameState_eq (w:=x2) p (c1:=e1) (c2:=e2) (c3:=e3) (d1:=f1) (d2:=f2) (d3:=f3) (HT1.out.look.later hb) hT.look HSmall.out);clear hT hb)|(go_at_call 16;refine HSs.out.mono ?_;rintro e x3 ⟨rfl,hb⟩;have HXd:=hid hb;clear hb))
     go_ret
     exact⟨rb_ rfl,bc HBr.out (bc HXb.out (bc HXc.out HXd.out))⟩
end
end Go.Proofs.YtfmhdimaijimlaaGreatDoor.V
