import Derived.Test.YtffmodpgddecnaaZ40
import Derived.Deep.CutBlock
import Derived.Deep.DeepCutAuto
namespace Go.Proofs.Ytffmodpgddecnaa.V.E
open Go.RowKit Go.Maps
open Go.Proofs.Ytffmodpgddecnaa.H (B64 Cp)
open Go.Proofs.Ytffmodpgddecnaa.M (wpAnyH_norm)
set_option linter.unusedVariables false
set_option linter.unusedSimpArgs false
section
variable {w:World}
theorem wrap_small {m:Nat}(h:m≤4096):IntKind.i64.wrap (m:Int)=(m:Int):=by rw [IntKind.wrap_i64];omega
theorem is_lt {c:R.Cl}{d g:R.Sl}(h:R.Is w c d g){j:Nat}(hj:(0<d.n∧Blk d.a j)∨(0<g.n∧Blk g.a j)):j<w.heap.size:=by
 rcases hj with ⟨h0,x,hx,rfl⟩|⟨h0,x,hx,rfl⟩
 ·have hl:=h.data.len
  have:=h.data.cells x hx 0 ((R.u8s c.data)[0]'(by simp [R.u8s];omega)) (List.getElem?_eq_getElem _)
  have h2:=World.block_lt_of_cell? _ _ this
  rwa [add_block] at h2
 ·have hl:=h.gifts.len
  have:=h.gifts.cells x hx 0 ((R.i64s c.gifts)[0]'(by simp [R.i64s];omega)) (List.getElem?_eq_getElem _)
  have h2:=World.block_lt_of_cell? _ _ this
  rwa [add_block] at h2
theorem cz_lt {a:Option Addr}{n:Nat}{C:List R.Cl}{D' G':Nat→R.Sl}(h:Cz w a n C D' G')(h0:0<n){j:Nat}(hj:Blk a j):j<w.heap.size:=by
 obtain⟨b,o,e,hr⟩:=h.at_ h0
 rw [e] at hj
 obtain⟨x,hx,rfl⟩:=hj
 cases hx
 obtain⟨c,hc⟩:∃c,C[0]?=some c:=⟨_,List.getElem?_eq_getElem (by have:=h.len;omega)⟩
 exact World.block_lt_of_cell? _ _ (hr 0 c hc 0 _ rfl)
set_option maxRecDepth 1000000 in
set_option maxHeartbeats 8000000 in
theorem keeps_law (c:Cf){a:Option Addr}{n dcap:Nat}{f:Nat→Nat}(hw:D.Ws w a n dcap f){ac:Option Addr}{nl cap:Nat}{C:List R.Cl}{D' G':Nat→R.Sl}(hC:Cz w ac nl C D' G')(hnl:nl*136≤140737488355328) :
  Calls Try.prog 4 #[c.v,.slice a n dcap,.slice ac nl cap] w fun e w'=>e=.returned (.bool true)∧Below w.heap.size w w':=by
 obtain⟨W,hW⟩:∃W,W=w.alloc (Obj.cells c.L.toArray 23):=⟨_,rfl⟩
 have hB:Below w.heap.size w W:=by rw [hW];exact below1 _ _
 have hX:R.Bx W w.heap.size c.L:=by rw [hW];exact R.Bx.new w c.L 23
 have HX:=hid hX
 have HB:=hid hB
 have HW:=hid hW
 have HLd:=hid (ldF hX)
 have HWs:=hid hw
 have HCz:=hid hC
 have HNl:=hid hnl
 clear hX hB hW hw hC hnl
 go_enter Try.func4,Try.ntmps4
 go_upto_region 1 with fail
 rw [←HW.out]
 go_upto_region 2 with (first|((with_reducible refine R.ld_arm HLd.out ?_ ?_);(· rfl))|(go_at_call 12;refine (config_any c W).mono ?_;rintro e w1 ⟨c2,rfl,hm,hb⟩;have HM1:=hid hm;have HB1:=hid hb;have HS1:=hid (Bx.st23 (R.Bx.later hb HX.out) rfl c2);clear hm hb)|((with_reducible refine st_arm HS1.out ?_ ?_ ?_);(· rfl);(· rfl)))
 obtain⟨W2,hW2⟩:∃W2,W2=w1.setCells w.heap.size 0 c2.L:=⟨_,rfl⟩
 have HX2:Hid (R.Bx W2 w.heap.size c2.L):=by rw [hW2];exact R.Bx.set (R.Bx.later HB1.out HX.out) rfl
 have HB2:Hid (Below w.heap.size w W2):=by rw [hW2];exact But.below (below_call HB.out HB1.out) (R.setCells_but (S:=(·=w.heap.size)) rfl _ 0 (But.refl _ _)) (fun k e=>by omega)
 rw [←hW2]
 clear hW2
 have HWa:=hid (words_any (HWs.out.later HB2.out))
 go_upto_region 3 with (first|(go_at_call 13;refine HWa.out.mono ?_;rintro e w3 ⟨a1,m,c1,rfl,hm,hws,hbk,hb⟩;have HMm:=hid hm;have HW3:=hid hws;have HBk:=hid hbk;have HB3:=hid hb;clear hm hws hbk hb))
 obtain⟨ga1,gc1,q1,ag,cg,p3,hr1,hr2,hO,hbq⟩:=given_row (w:=w3) HW3.out HMm.out
 obtain⟨g,rfl,hWg,hc77,hcap⟩:=given_ws hO HW3.out.small
 have HR1:=hid hr1
 have HR2:=hid hr2
 have HO:=hid hO
 have HBq:=hid hbq
 have HWg:=hid hWg
 have H77:=hid hc77
 have HBw3:Hid (Below w.heap.size w w3):=below_call HB2.out HB3.out
 have HBwp:Hid (Below w.heap.size w p3):=below_call HBw3.out hbq
 have hgl:w3.heap.size≤g∧g<p3.heap.size:=hO.blk g (blk_some g)
 have HGl:=hid hgl
 have mk0:=hid True.intro
 have hm0:=HMm.out
 clear hr1 hr2 hO hbq hWg hc77 hgl
 go_upto_region 4 with (first|(clear mk0;at_builtin;refine wpList_append_known rfl _ _ 24 rfl _ _ rfl rfl _ q1 HR1.out ?_;have mk1:=hid True.intro)|(clear mk1;at_builtin;refine wpList_append_known rfl _ _ 24 rfl _ _ rfl rfl _ p3 HR2.out ?_))
 have HS3:Hid (∀U,Below p3.heap.size p3 U→R.Bx U w.heap.size c2.L):=fun U hU=>R.Bx.later hU (R.Bx.later HBq.out (R.Bx.later HB3.out HX2.out))
 have HSl:Hid (∀U,(Instr.sliceAt 24 (.slice (some ⟨g,0,none⟩) (m+1) cg) none (some (.int .i64 (m:Int))) none).run Try.prog U=.ok (.slice (some ⟨g,0,none⟩) m cg) U):=fun U=>sliceWd_h U (some ⟨g,0,none⟩) (m+1) cg m (by omega)
 have hs1:(m:Int)+1 - 1=(m:Int):=by omega
 have hs2:wrap64 ((m:Int)+1 - 1)=(m:Int):=by unfold wrap64;omega
 have hs4:wrap64 (m:Int)=(m:Int):=by unfold wrap64;omega
 have HNew1:=hid (pnew_ok c2 HM1.out (some ⟨g,0,none⟩) m cg f p3.drew (HWg.out.later (Below.refl _ _).drew) hm0)
 refine wp_region_held_drew (S:=(fun U:World=>R.Bx U w.heap.size c2.L)) (by kernel_rfl) (HS3.out _ (Below.refl _ _).drew) (fun hHeld=>?_)
 refine wpAnyH_norm (l2:=#[false,false,false,false,false,false,false,false,false,false,false,false]) (f2:=12) (by kernel_rfl) (by kernel_rfl) ?_
 refine wpAnyH_take (i:=0) (oi:=_) (v:=c2.v) rfl (by kernel_rfl) (by kernel_rfl) (by kernel_rfl) (fun _ _ _ h=>h) (Or.inl ⟨by rfl,?_⟩) (by assumption) ?_
 ·(intro w hSw;(try dsimp only at hSw);exact ex_ld rfl rfl (ldF hSw))
 simp only [List.getElem_toArray,List.getElem_cons_succ,List.getElem_cons_zero,Act.put,List.setIfInBounds_toArray,List.set_cons_zero,List.set_cons_succ]
 refine wpAnyH_norm (l2:=#[true,false,false,false,false,false,false,false,false,false,false,false]) (f2:=11) (by kernel_rfl) (by kernel_rfl) ?_
 refine wpAnyH_take (i:=1) (oi:=_) (v:=?_) rfl (by kernel_rfl) (by kernel_rfl) (by kernel_rfl) (fun _ _ _ h=>h) (Or.inl ⟨by rfl,?_⟩) (by assumption) ?_
 rotate_left
 ·(intro w hSw;(try dsimp only at hSw);go_simp;try with_reducible rfl)
 simp only [List.getElem_toArray,List.getElem_cons_succ,List.getElem_cons_zero,Act.put,List.setIfInBounds_toArray,List.set_cons_zero,List.set_cons_succ]
 refine wpAnyH_norm (l2:=#[true,true,false,false,false,false,false,false,false,false,false,false]) (f2:=10) (by kernel_rfl) (by kernel_rfl) ?_
 refine wpAnyH_take (i:=2) (oi:=_) (v:=?_) rfl (by kernel_rfl) (by kernel_rfl) (by kernel_rfl) (fun _ _ _ h=>h) (Or.inl ⟨by rfl,?_⟩) (by assumption) ?_
 rotate_left
 ·(intro w hSw;(try dsimp only at hSw);go_simp;try with_reducible rfl)
 simp only [List.getElem_toArray,List.getElem_cons_succ,List.getElem_cons_zero,Act.put,List.setIfInBounds_toArray,List.set_cons_zero,List.set_cons_succ]
 refine wpAnyH_norm (l2:=#[true,true,true,false,false,false,false,false,false,false,false,false]) (f2:=9) (by kernel_rfl) (by kernel_rfl) ?_
 refine wpAnyH_take (i:=3) (oi:=_) (v:=?_) rfl (by kernel_rfl) (by kernel_rfl) (by kernel_rfl) (fun _ _ _ h=>h) (Or.inl ⟨by rfl,?_⟩) (by assumption) ?_
 rotate_left
 ·(intro w hSw;(try dsimp only at hSw);go_simp;try with_reducible rfl)
 simp only [List.getElem_toArray,List.getElem_cons_succ,List.getElem_cons_zero,Act.put,List.setIfInBounds_toArray,List.set_cons_zero,List.set_cons_succ]
 refine wpAnyH_norm (l2:=#[true,true,true,true,false,false,false,false,false,false,false,false]) (f2:=8) (by kernel_rfl) (by kernel_rfl) ?_
 refine wpAnyH_take (i:=4) (oi:=_) (v:=.int .i64 (m:Int)) rfl (by kernel_rfl) (by kernel_rfl) (by kernel_rfl) (fun _ _ _ h=>h) (Or.inl ⟨by rfl,?_⟩) (by assumption) ?_
 ·(intro w hSw;(try dsimp only at hSw);(go_simp;exact wrap_small hm0))
 simp only [List.getElem_toArray,List.getElem_cons_succ,List.getElem_cons_zero,Act.put,List.setIfInBounds_toArray,List.set_cons_zero,List.set_cons_succ]
 refine wpAnyH_norm (l2:=#[true,true,true,true,true,false,false,false,false,false,false,false]) (f2:=7) (by kernel_rfl) (by kernel_rfl) ?_
 refine wpAnyH_take (i:=5) (oi:=_) (v:=.slice (some ⟨g,0,none⟩) m cg) rfl (by kernel_rfl) (by kernel_rfl) (by kernel_rfl) (fun _ _ _ h=>h) (Or.inl ⟨by rfl,?_⟩) (by assumption) ?_
 ·(intro w hSw;(try dsimp only at hSw);exact ex_slice (vlo:=none) (vhi:=some (.int .i64 (m:Int))) (vmx:=none) rfl rfl rfl rfl rfl (HSl.out _))
 simp only [List.getElem_toArray,List.getElem_cons_succ,List.getElem_cons_zero,Act.put,List.setIfInBounds_toArray,List.set_cons_zero,List.set_cons_succ]
 refine wpAnyH_norm (l2:=#[true,true,true,true,true,true,false,false,false,false,false,false]) (f2:=6) (by kernel_rfl) (by kernel_rfl) ?_
 refine wpAnyH_ready (rs:=[6]) (by kernel_rfl) (by simp) ?_
 refine AllReadyH.cons rfl (fun K hK=>?_) AllReadyH.nil
 go_simp
 go_wp2_with (first|(go_at_call 8;refine HNew1.out.mono ?_;rintro e p4 ⟨hx,Nx,rfl,hmd,hcf,hhn,hhf,hNn,hgs,hb⟩;have HMd1:=hid hmd;have HP1:Hid (hx.p=(c2.pm m (fun j=>D.cutN (f j) c2.W))∧hx.cf=c2):=⟨hm_p hcf hhn hhf,hcf⟩;have HNn1:=hid hNn;have HGs1:=hid hgs;have HB4:Hid (Below p3.heap.size p3 p4):=below_call (Below.refl _ _).drew hb;clear hmd hcf hhn hhf hNn hgs hb))
 refine hK.out _ _ (HS3.out _ HB4.out) (fun hHeld=>?_)
 clear hK K
 simp only [List.getElem_toArray,List.getElem_cons_succ,List.getElem_cons_zero,Act.put,List.setIfInBounds_toArray,List.set_cons_zero,List.set_cons_succ]
 refine wpAnyH_norm (l2:=#[true,true,true,true,true,true,true,false,false,false,false,false]) (f2:=5) (by kernel_rfl) (by kernel_rfl) ?_
 refine wpAnyH_take (i:=7) (oi:=_) (v:=?_) rfl (by kernel_rfl) (by kernel_rfl) (by kernel_rfl) (fun _ _ _ h=>h) (Or.inl ⟨by rfl,?_⟩) (by assumption) ?_
 rotate_left
 ·(intro w hSw;(try dsimp only at hSw);go_simp;try with_reducible rfl)
 simp only [List.getElem_toArray,List.getElem_cons_succ,List.getElem_cons_zero,Act.put,List.setIfInBounds_toArray,List.set_cons_zero,List.set_cons_succ]
 refine wpAnyH_norm (l2:=#[true,true,true,true,true,true,true,true,false,false,false,false]) (f2:=4) (by kernel_rfl) (by kernel_rfl) ?_
 refine wpAnyH_take (i:=8) (oi:=_) (v:=?_) rfl (by kernel_rfl) (by kernel_rfl) (by kernel_rfl) (fun _ _ _ h=>h) (Or.inl ⟨by rfl,?_⟩) (by assumption) ?_
 rotate_left
 ·(intro w hSw;(try dsimp only at hSw);go_simp;try with_reducible rfl)
 simp only [List.getElem_toArray,List.getElem_cons_succ,List.getElem_cons_zero,Act.put,List.setIfInBounds_toArray,List.set_cons_zero,List.set_cons_succ]
 refine wpAnyH_norm (l2:=#[true,true,true,true,true,true,true,true,true,false,false,false]) (f2:=3) (by kernel_rfl) (by kernel_rfl) ?_
 refine wpAnyH_take (i:=9) (oi:=_) (v:=?_) rfl (by kernel_rfl) (by kernel_rfl) (by kernel_rfl) (fun _ _ _ h=>h) (Or.inl ⟨by rfl,?_⟩) (by assumption) ?_
 rotate_left
 ·(intro w hSw;(try dsimp only at hSw);go_simp;try with_reducible rfl)
 simp only [List.getElem_toArray,List.getElem_cons_succ,List.getElem_cons_zero,Act.put,List.setIfInBounds_toArray,List.set_cons_zero,List.set_cons_succ]
 refine wpAnyH_norm (l2:=#[true,true,true,true,true,true,true,true,true,true,false,false]) (f2:=2) (by kernel_rfl) (by kernel_rfl) ?_
 refine wpAnyH_take (i:=10) (oi:=_) (v:=?_) rfl (by kernel_rfl) (by kernel_rfl) (by kernel_rfl) (fun _ _ _ h=>h) (Or.inl ⟨by rfl,?_⟩) (by assumption) ?_
 rotate_left
 ·(intro w hSw;(try dsimp only at hSw);go_simp;try with_reducible rfl)
 simp only [List.getElem_toArray,List.getElem_cons_succ,List.getElem_cons_zero,Act.put,List.setIfInBounds_toArray,List.set_cons_zero,List.set_cons_succ]
 refine wpAnyH_norm (l2:=#[true,true,true,true,true,true,true,true,true,true,true,false]) (f2:=1) (by kernel_rfl) (by kernel_rfl) ?_
 refine wpAnyH_take (i:=11) (oi:=_) (v:=?_) rfl (by kernel_rfl) (by kernel_rfl) (by kernel_rfl) (fun _ _ _ h=>h) (Or.inl ⟨by rfl,?_⟩) (by assumption) ?_
 rotate_left
 ·(intro w hSw;(try dsimp only at hSw);go_simp;try with_reducible rfl)
 simp only [List.getElem_toArray,List.getElem_cons_succ,List.getElem_cons_zero,Act.put,List.setIfInBounds_toArray,List.set_cons_zero,List.set_cons_succ]
 refine wpAnyH_norm (l2:=#[true,true,true,true,true,true,true,true,true,true,true,true]) (f2:=0) (by kernel_rfl) (by kernel_rfl) ?_
 refine wpAnyH_done (by kernel_rfl) ?_ _
 have HS4:Hid (∀U,Below p4.heap.size p4 U→R.Bx U w.heap.size c2.L):=fun U hU=>HS3.out U (below_call HB4.out hU)
 obtain⟨a5,c5,p5,hrun,hws,-,hb⟩:=words_big (w:=p4.drew) (((HW3.out.later HBq.out).later HB4.out).later (Below.refl _ _).drew) (by omega)
 have HRUN5:=hid hrun
 have HB5:Hid (Below p4.heap.size p4 p5):=below_call (Below.refl _ _).drew hb
 have HNew2:=hid (pnew_ok c2 HM1.out a5 m c5 f p5 hws hm0)
 clear hrun hws hb
 go_upto_region 5 with fail
 refine wp_region_held_drew (S:=(fun U:World=>R.Bx U w.heap.size c2.L)) (by kernel_rfl) (HS4.out _ (Below.refl _ _).drew) (fun hHeld=>?_)
 refine wpAnyH_norm (l2:=#[false,false,false,false,false,false,false,false,false,false]) (f2:=10) (by kernel_rfl) (by kernel_rfl) ?_
 refine wpAnyH_take (i:=0) (oi:=_) (v:=c2.v) rfl (by kernel_rfl) (by kernel_rfl) (by kernel_rfl) (fun _ _ _ h=>h) (Or.inl ⟨by rfl,?_⟩) (by assumption) ?_
 ·(intro w hSw;(try dsimp only at hSw);exact ex_ld rfl rfl (ldF hSw))
 simp only [List.getElem_toArray,List.getElem_cons_succ,List.getElem_cons_zero,Act.put,List.setIfInBounds_toArray,List.set_cons_zero,List.set_cons_succ]
 refine wpAnyH_norm (l2:=#[true,false,false,false,false,false,false,false,false,false]) (f2:=9) (by kernel_rfl) (by kernel_rfl) ?_
 refine wpAnyH_take (i:=2) (oi:=_) (v:=?_) rfl (by kernel_rfl) (by kernel_rfl) (by kernel_rfl) (fun _ _ _ h=>h) (Or.inl ⟨by rfl,?_⟩) (by assumption) ?_
 rotate_left
 ·(intro w hSw;(try dsimp only at hSw);go_simp;try with_reducible rfl)
 simp only [List.getElem_toArray,List.getElem_cons_succ,List.getElem_cons_zero,Act.put,List.setIfInBounds_toArray,List.set_cons_zero,List.set_cons_succ]
 refine wpAnyH_norm (l2:=#[true,false,true,false,false,false,false,false,false,false]) (f2:=8) (by kernel_rfl) (by kernel_rfl) ?_
 refine wpAnyH_ready (rs:=[1]) (by kernel_rfl) (by simp) ?_
 refine AllReadyH.cons rfl (fun K hK=>?_) AllReadyH.nil
 go_simp
 refine hK.out _ _ (HS4.out _ ((Below.refl _ _).drew.alloc (Nat.le_refl _) _)) (fun hHeld=>?_)
 clear hK K
 simp only [List.getElem_toArray,List.getElem_cons_succ,List.getElem_cons_zero,Act.put,List.setIfInBounds_toArray,List.set_cons_zero,List.set_cons_succ]
 refine wpAnyH_norm (l2:=#[true,true,true,false,false,false,false,false,false,false]) (f2:=7) (by kernel_rfl) (by kernel_rfl) ?_
 refine wpAnyH_ready (rs:=[3]) (by kernel_rfl) (by simp) ?_
 refine AllReadyH.cons rfl (fun K hK=>?_) AllReadyH.nil
 refine wp_app (.tmp 56) (.tmp 57) 24 rfl _ _ rfl rfl _ p5 HRUN5.out ?_
 refine hK.out _ _ (HS4.out _ HB5.out) (fun hHeld=>?_)
 clear hK K
 simp only [List.getElem_toArray,List.getElem_cons_succ,List.getElem_cons_zero,Act.put,List.setIfInBounds_toArray,List.set_cons_zero,List.set_cons_succ]
 refine wpAnyH_norm (l2:=#[true,true,true,true,false,false,false,false,false,false]) (f2:=6) (by kernel_rfl) (by kernel_rfl) ?_
 refine wpAnyH_ready (rs:=[4]) (by kernel_rfl) (by simp) ?_
 refine AllReadyH.cons rfl (fun K hK=>?_) AllReadyH.nil
 go_simp
 go_wp2_with (first|(go_at_call 8;refine HNew2.out.mono ?_;rintro e p6 ⟨hy,Ny,rfl,hmd,hcf,hhn,hhf,hNn,hgs,hb⟩;have HMd2:=hid hmd;have HP2:Hid (hy.p=(c2.pm m (fun j=>D.cutN (f j) c2.W))∧hy.cf=c2):=⟨hm_p hcf hhn hhf,hcf⟩;have HNn2:=hid hNn;have HGs2:=hid hgs;have HB6:=hid hb;clear hmd hcf hhn hhf hNn hgs hb))
 refine hK.out _ _ (HS4.out _ (below_call HB5.out HB6.out)) (fun hHeld=>?_)
 clear hK K
 simp only [List.getElem_toArray,List.getElem_cons_succ,List.getElem_cons_zero,Act.put,List.setIfInBounds_toArray,List.set_cons_zero,List.set_cons_succ]
 refine wpAnyH_norm (l2:=#[true,true,true,true,true,false,false,false,false,false]) (f2:=5) (by kernel_rfl) (by kernel_rfl) ?_
 refine wpAnyH_take (i:=5) (oi:=_) (v:=?_) rfl (by kernel_rfl) (by kernel_rfl) (by kernel_rfl) (fun _ _ _ h=>h) (Or.inl ⟨by rfl,?_⟩) (by assumption) ?_
 rotate_left
 ·(intro w hSw;(try dsimp only at hSw);go_simp;try with_reducible rfl)
 simp only [List.getElem_toArray,List.getElem_cons_succ,List.getElem_cons_zero,Act.put,List.setIfInBounds_toArray,List.set_cons_zero,List.set_cons_succ]
 refine wpAnyH_norm (l2:=#[true,true,true,true,true,true,false,false,false,false]) (f2:=4) (by kernel_rfl) (by kernel_rfl) ?_
 refine wpAnyH_take (i:=6) (oi:=_) (v:=?_) rfl (by kernel_rfl) (by kernel_rfl) (by kernel_rfl) (fun _ _ _ h=>h) (Or.inl ⟨by rfl,?_⟩) (by assumption) ?_
 rotate_left
 ·(intro w hSw;(try dsimp only at hSw);go_simp;try with_reducible rfl)
 simp only [List.getElem_toArray,List.getElem_cons_succ,List.getElem_cons_zero,Act.put,List.setIfInBounds_toArray,List.set_cons_zero,List.set_cons_succ]
 refine wpAnyH_norm (l2:=#[true,true,true,true,true,true,true,false,false,false]) (f2:=3) (by kernel_rfl) (by kernel_rfl) ?_
 refine wpAnyH_take (i:=7) (oi:=_) (v:=?_) rfl (by kernel_rfl) (by kernel_rfl) (by kernel_rfl) (fun _ _ _ h=>h) (Or.inl ⟨by rfl,?_⟩) (by assumption) ?_
 rotate_left
 ·(intro w hSw;(try dsimp only at hSw);go_simp;try with_reducible rfl)
 simp only [List.getElem_toArray,List.getElem_cons_succ,List.getElem_cons_zero,Act.put,List.setIfInBounds_toArray,List.set_cons_zero,List.set_cons_succ]
 refine wpAnyH_norm (l2:=#[true,true,true,true,true,true,true,true,false,false]) (f2:=2) (by kernel_rfl) (by kernel_rfl) ?_
 refine wpAnyH_take (i:=8) (oi:=_) (v:=?_) rfl (by kernel_rfl) (by kernel_rfl) (by kernel_rfl) (fun _ _ _ h=>h) (Or.inl ⟨by rfl,?_⟩) (by assumption) ?_
 rotate_left
 ·(intro w hSw;(try dsimp only at hSw);go_simp;try with_reducible rfl)
 simp only [List.getElem_toArray,List.getElem_cons_succ,List.getElem_cons_zero,Act.put,List.setIfInBounds_toArray,List.set_cons_zero,List.set_cons_succ]
 refine wpAnyH_norm (l2:=#[true,true,true,true,true,true,true,true,true,false]) (f2:=1) (by kernel_rfl) (by kernel_rfl) ?_
 refine wpAnyH_take (i:=9) (oi:=_) (v:=?_) rfl (by kernel_rfl) (by kernel_rfl) (by kernel_rfl) (fun _ _ _ h=>h) (Or.inl ⟨by rfl,?_⟩) (by assumption) ?_
 rotate_left
 ·(intro w hSw;(try dsimp only at hSw);go_simp;try with_reducible rfl)
 simp only [List.getElem_toArray,List.getElem_cons_succ,List.getElem_cons_zero,Act.put,List.setIfInBounds_toArray,List.set_cons_zero,List.set_cons_succ]
 refine wpAnyH_norm (l2:=#[true,true,true,true,true,true,true,true,true,true]) (f2:=0) (by kernel_rfl) (by kernel_rfl) ?_
 refine wpAnyH_done (by kernel_rfl) ?_ _
 have HB46:Hid (Below p4.heap.size p4 p6):=below_call HB5.out HB6.out
 have HEx:=hid (pexample_any (w:=p6))
 have HB36:Hid (Below p3.heap.size p3 p6):=below_call HB4.out HB46.out
 have x77:∀U,Below p6.heap.size p6 U→U.cell? ⟨g,m*2+1,none⟩=some (.int .u64 77):=fun U hU=>cell_later hU (cell_later HB36.out H77.out)
 have HX77:=hid x77
 clear x77
 go_upto_block 0 with (first|(go_at_call 5;refine HEx.out.mono ?_;rintro e p7 ⟨rfl,hb⟩;have HB7:=hid hb;have x7:=HX77.out p7 hb;clear hb))
 have HB37:Hid (Below p3.heap.size p3 p7):=below_call HB36.out HB7.out
 have HO7:=hid (HO.out.later HB37.out)
 go_cut [12] from 90 to 99 (fun _ U=>But (Blk (some ⟨g,0,none⟩)) p7 U)
 case first =>
  refine given_set (y:=p7) HO7.out (by omega) ?_
  intro w9 hb9
  intros
  go_wp2
  go_meet
  exact hb9
 case rest =>
 rename World=>U
 have HBc:=hid hcut
 clear hcut
 rename (∀(a:Act) (w:World),Code.wp Try.prog _ _ a w→_)=>hKK
 refine hKK _ _ ?_
 have e1:=HB2.out.size
 have e2:=HB3.out.size
 have e3:=HBq.out.size
 have e4:=HB4.out.size
 have e5:=HB5.out.size
 have e6:=HB6.out.size
 have e7:=HB7.out.size
 have hgl:=HGl.out
 have hw2:w.heap.size<W2.heap.size:=World.block_lt_of_cell? _ _ (HX2.out.cell 0 rfl)
 have hng:∀j,p3.heap.size≤j→¬Blk (some ⟨g,0,none⟩) j:=fun j hj e=>by
  have h1:=Ow.blk1 (base:=0) (e:=0) (k:=0) (n:=0) (c:=0) (L:=[]) e
  omega
 have hBU:Below w.heap.size w U:=But.below (below_call HBwp.out HB37.out) HBc.out (fun j e=>by
  have h1:=Ow.blk1 (base:=0) (e:=0) (k:=0) (n:=0) (c:=0) (L:=[]) e
  omega)
 have hxlo:∀j,MdB hx.g hx.bo hx.bl Nx j→p3.heap.size≤j:=fun j hj=>by
  have:=HGs1.out
  have hd:p3.drew.heap.size=p3.heap.size:=rfl
  rcases hj with e|e|e|e
  ·exact HNn1.out j e
  ·omega
  ·omega
  ·omega
 have hylo:∀j,MdB hy.g hy.bo hy.bl Ny j→p5.heap.size≤j:=fun j hj=>by
  have:=HGs2.out
  rcases hj with e|e|e|e
  ·exact HNn2.out j e
  ·omega
  ·omega
  ·omega
 have kx4:Mw p4 hx pl0 Nx:=⟨_,_,HMd1.out⟩
 have ky6:Mw p6 hy pl0 Ny:=⟨_,_,HMd2.out⟩
 refine kp_mid (c:=c2) (f:=f) (s0:=w.heap.size) (hx:=hx) (hy:=hy) (Nx:=Nx) (Ny:=Ny) HM1.out (R.Bx.but HBc.out (R.Bx.later HB37.out (HS3.out p3 (Below.refl _ _))) (fun e=>?_)) (Ws.butB HBc.out ((HW3.out.later HBq.out).later HB37.out) (fun j hj e=>?_)) hm0 (HCz.out.later hBU) HNl.out (fun i cc hcc j hj=>?_) (fun h0 j hj=>?_) (((kx4.later HB46.out).later HB7.out).but HBc.out (fun j hj=>hng j (hxlo j hj))) ((ky6.later HB7.out).but HBc.out (fun j hj=>hng j (by have:=hylo j hj;omega))) HP1.out.1 HP2.out.1 (by rw [HP1.out.2];exact HM1.out) (by rw [HP2.out.2];exact HM1.out) (fun j hj=>by have:=hxlo j hj;omega) (fun j hj=>by have:=hylo j hj;omega) (fun j h1 h2=>by have:=kx4.lt j h1;have:=hylo j h2;omega) hBU.size (fun c a d v w h=>by cases d<;>exact h) ?_
 ·have h1:=Ow.blk1 (base:=0) (e:=0) (k:=0) (n:=0) (c:=0) (L:=[]) e
  omega
 ·have h1:=Ow.blk1 (base:=0) (e:=0) (k:=0) (n:=0) (c:=0) (L:=[]) e
  have h2:=(HBk.out j hj).2
  omega
 ·exact is_lt (HCz.out.is i cc hcc).1 hj
 ·exact cz_lt HCz.out h0 hj
 ·intro w9 hb9
  intros
  have hfin:Below w.heap.size w w9:=But.below hBU hb9 (fun j e=>e)
  have HFi:=hid hfin
  clear hfin
  first|(go_ret;exact⟨ret_bool (by simp),HFi.out⟩)|(go_ret;exact⟨rfl,HFi.out⟩)|exact⟨rfl,HFi.out⟩
end
end Go.Proofs.Ytffmodpgddecnaa.V.E
