import Derived.Test.YtffmodpgddecnaaGreatZ27
import Derived.Test.YtffmodpgddecnaaGreatZ29
import Derived.Test.YtffmodpgddecnaaGreatZ33
set_option linter.unusedVariables false
set_option linter.unusedSimpArgs false
namespace Go.Proofs.YtffmodpgddecnaaGreat.V.E
open Go.RowKit Go.Maps
open Go.Proofs.YtffmodpgddecnaaGreat.H (B64 Cp)
open Go.Proofs.YtffmodpgddecnaaGreat.M (okI atC pickE pickL)
section
variable {w w':World}{base:Nat}{M:Mh}{r:Rm}{a1:Option Addr}{c1:Nat}{Q1:List Ev}{a2:Option Addr}{c2:Nat}{a3:Option Addr}{c3:Nat}{Q3:List Ev}
theorem RmP.lift {w1 w2:World}{b:Nat}{N:Nat→Prop}{Rz:Rep×Rm}{e:Ending}(h:Pg w w1 base b M N r a1 c1 Q1 a2 c2 a3 c3 Q3)(hR:RmP w1 base M (MxN M a1 Q1 a2 a3 Q3) Rz e w2)(hd:∀j,Blk M.da j→j<w.heap.size):∃a n c,e=.returned (rpV Rz.1 a n c)∧Zr w2 b∧RmP w base M N Rz (.returned (rpV Rz.1 a n c)) (w2.setCells b 0 (rpL Rz.1 a n c)):=by
 obtain⟨a,n,c,x1,d1,R1,x2,d2,x3,d3,R3,e1,h1,h2,h3,h4,h5⟩:=hR
 have hlt:=h.z.lt
 have hwb:=h.wb
 have hbn:¬MxN M a1 Q1 a2 a3 Q3 b:=fun e=>by
  rcases h.n b e with h6|h6
  ·have:=h.nw b h6;omega
  ·omega
 have hn2:∀j,MxN M x1 R1 x2 x3 R3 j→N j∨b<j:=fun j hj=>by
  rcases h4 j hj with h6|h6
  ·exact h.n j h6
  ·exact .inr (by omega)
 have hb9:But (·=b) w2 (w2.setCells b 0 (rpL Rz.1 a n c)):=R.setCells_but (S:=(·=b)) rfl _ 0 (But.refl _ _)
 have hab:∀j,Blk a j→w1.heap.size≤j:=fun j hj=>(Ow.blk (show Ow w2 w1.heap.size 5 1 a n c _ from h1.row) j hj).1
 refine⟨a,n,c,e1,h.z.but h3 hbn,a,n,c,x1,d1,R1,x2,d2,x3,d3,R3,rfl,?_,h2.but hb9 (fun j hj e=>?_) (fun j hj e=>?_),(h.bt.comp h3 (fun j hj=>?_)).comp hb9 (fun j e=>.inr (by have:j=b:=e;omega)),fun j hj=>?_,h5⟩
 ·exact⟨Ow.but (Ow.mono (show Ow w2 w1.heap.size 5 1 a n c _ from h1.row) (by have:=h.bt.size;exact this)) hb9 (fun j hj e=>by have:=hab j hj;have:j=b:=e;omega),h1.2⟩
 ·have e:j=b:=e
  rcases hn2 j hj with h6|h6
  ·have:=h.nw j h6;omega
  ·omega
 ·have e:j=b:=e
  have:=hd j hj
  omega
 ·rcases h.n j hj with h6|h6
  ·exact .inl h6
  ·exact .inr (by omega)
 ·rcases hn2 j hj with h6|h6
  ·exact .inl h6
  ·exact .inr (by omega)
set_option maxRecDepth 100000 in
set_option maxHeartbeats 4000000 in
theorem rdo_create (h:Mx w base M r a1 c1 Q1 a2 c2 a3 c3 Q3)(hbs:base≤w.heap.size)(hf:RF M.p r)(hcf:M.C.may=true){cl:R.Cl}{dd gg:R.Sl}(hi:R.Is w cl dd gg)(hgf:Fl w gg.a (ints cl.gifts))(hfm:R.fm cl=true)(hop:cl.op=1){pi:Nat}{pv:Int×List Cp}(hix:ixF (isP cl.by_) r.P=(pi:Int))(hpi:r.P[pi]?=some pv):Calls Tryz.prog 8 #[.pointer (some ⟨M.b,0,none⟩),.agg (R.cC cl dd gg).toArray] w (RmP w base M (MxN M a1 Q1 a2 a3 Q3) (rCre M.p r cl.size)):=by
 obtain⟨W,hW⟩:∃W,W=(w.alloc (Obj.cells (R.cC cl dd gg).toArray 45)).alloc z6:=⟨_,rfl⟩
 have hB:Below w.heap.size w W:=by rw [hW];exact below2 _ _ _
 have hXc:R.Bx W w.heap.size (R.cC cl dd gg):=by rw [hW];exact R.Bx.later (below1 _ _) (R.Bx.new w (R.cC cl dd gg) 45)
 have hZ:Zr W (w.heap.size+1):=by rw [hW];have:=Zr.new (w.alloc (Obj.cells (R.cC cl dd gg).toArray 45));simpa using this
 have HP0:=hid (Pg.start h hB hZ (Nat.le_succ _))
 have HN:Hid (∀j,MxN M a1 Q1 a2 a3 Q3 j→j<w.heap.size):=fun j hj=>(h.rng j hj).2
 have HD:=hid h.dl
 have HW:=hid hW
 have HB:=hid hB
 have HX:=hid h
 have HBs:=hid hbs
 have HXc:=hid hXc
 have HF:=hid hf
 have HCf:=hid hcf
 have HIs:=hid hi
 have HFm:=hid hfm
 have HPi:=hid hpi
 have HLd:=hid (ldC hXc)
 have HIc:=hid (ris_any (w:=W) (cl:=cl) (dd:=dd) (gg:=gg) (by have:=hi.data.len;omega) (by have:=hi.gifts.len;omega) (hgf.later hB))
 rw [hfm] at HIc
 have HPr:Hid (∀U:World,Below W.heap.size W U→Calls Tryz.prog 19 #[.pointer (some ⟨M.b,0,none⟩),.int .i64 cl.by_] U fun e w'=>e=.returned (.int .i64 (pi:Int))∧Below U.heap.size U w'):=fun U hU=>by
  have:=rproc_any (h.mr.later (below_call hB hU)) cl.by_
  rw [hix] at this
  exact this
 have hC:∀U:World,Below W.heap.size W U→U.cell? ⟨w.heap.size,0,none⟩=some (.int .i64 1)∧U.cell? ⟨w.heap.size,1,none⟩=some (.int .i64 cl.by_)∧U.cell? ⟨w.heap.size,2,none⟩=some (.int .i64 cl.size):=fun U hU=>by
  have hx:=R.Bx.later hU hXc
  exact⟨by rw [←hop];exact hx.cell 0 rfl,hx.cell 1 rfl,hx.cell 2 rfl⟩
 have HC:=hid hC
 have hd0:decide ((pi:Int)<0)=false:=decide_eq_false (by omega)
 obtain⟨Qq,hQ⟩:∃Qq,Qq=rCre M.p r cl.size:=⟨_,rfl⟩
 rw [←hQ]
 have HQ:=hid hQ
 clear h hbs hf hcf hi hgf hfm hW hB hZ hXc hC hix hpi hQ
 go_enter Tryz.func8,Tryz.ntmps8
 go_upto_region 1 with fail
 rw [←HW.out]
 go_upto_region 3 with (first|((with_reducible refine R.ld_arm HLd.out ?_ ?_);(· rfl))|(go_at_call 17;refine HIc.out.mono ?_;rintro e w1 ⟨rfl,hb1⟩;have HB1:=hid hb1;clear hb1))
 obtain⟨z0,z1,-⟩:=HC.out w1 HB1.out
 go_upto_region 6 with (first|(go_at_call 19;refine (HPr.out w1 HB1.out).mono ?_;rintro e w2 ⟨rfl,hb2⟩;have HB2:=hid (below_call HB1.out hb2);clear hb2))
 clear z0 z1 hd0 HB1
 obtain⟨z0,-,z2⟩:=HC.out w2 HB2.out
 have HP2:=hid (HP0.out.later HB2.out)
 have HLd2:=hid (ldC (R.Bx.later HB2.out HXc.out))
 have hbs2:base≤w2.heap.size:=Nat.le_trans HBs.out HP2.out.bt.size
 have HCall:=hid (rcreate_any HP2.out.x hbs2 HF.out HCf.out cl.size)
 rw [←HQ.out] at HCall
 go_wp2_with (first|((with_reducible refine R.ld_arm HLd2.out ?_ ?_);(· rfl))|(go_at_call 20;refine HCall.out.mono ?_;intro e w5 hR;obtain⟨ra,rn,rc,rfl,hz5,hf5⟩:=RmP.lift HP2.out hR HD.out;have HS9:=hid (hz5.st Qq.1 ra rn rc);have HL9:=hid (hz5.lv Qq.1 ra rn rc);have HF9:=hid hf5;clear hR hz5 hf5)|((with_reducible refine st_arm HS9.out ?_ ?_ ?_);(· rfl);(· rfl)))
 exact bodyPost_ret (v:=rpV Qq.1 ra rn rc) (by simp [results,Tryz.results8,asAddr,HL9.out]) rfl HF9.out
set_option maxRecDepth 100000 in
set_option maxHeartbeats 4000000 in
theorem rdo_destroy (h:Mx w base M r a1 c1 Q1 a2 c2 a3 c3 Q3)(hbs:base≤w.heap.size)(hf:RF M.p r)(hcf:M.C.may=true){cl:R.Cl}{dd gg:R.Sl}(hi:R.Is w cl dd gg)(hgf:Fl w gg.a (ints cl.gifts))(hfm:R.fm cl=true)(hop:cl.op=2){pi:Nat}{pv:Int×List Cp}(hix:ixF (isP cl.by_) r.P=(pi:Int))(hpi:r.P[pi]?=some pv):Calls Tryz.prog 8 #[.pointer (some ⟨M.b,0,none⟩),.agg (R.cC cl dd gg).toArray] w (RmP w base M (MxN M a1 Q1 a2 a3 Q3) (rAway true r (cpO cl))):=by
 obtain⟨W,hW⟩:∃W,W=(w.alloc (Obj.cells (R.cC cl dd gg).toArray 45)).alloc z6:=⟨_,rfl⟩
 have hB:Below w.heap.size w W:=by rw [hW];exact below2 _ _ _
 have hXc:R.Bx W w.heap.size (R.cC cl dd gg):=by rw [hW];exact R.Bx.later (below1 _ _) (R.Bx.new w (R.cC cl dd gg) 45)
 have hZ:Zr W (w.heap.size+1):=by rw [hW];have:=Zr.new (w.alloc (Obj.cells (R.cC cl dd gg).toArray 45));simpa using this
 have HP0:=hid (Pg.start h hB hZ (Nat.le_succ _))
 have HN:Hid (∀j,MxN M a1 Q1 a2 a3 Q3 j→j<w.heap.size):=fun j hj=>(h.rng j hj).2
 have HD:=hid h.dl
 have HW:=hid hW
 have HB:=hid hB
 have HX:=hid h
 have HBs:=hid hbs
 have HXc:=hid hXc
 have HF:=hid hf
 have HCf:=hid hcf
 have HIs:=hid hi
 have HFm:=hid hfm
 have HPi:=hid hpi
 have HLd:=hid (ldC hXc)
 have HIc:=hid (ris_any (w:=W) (cl:=cl) (dd:=dd) (gg:=gg) (by have:=hi.data.len;omega) (by have:=hi.gifts.len;omega) (hgf.later hB))
 rw [hfm] at HIc
 have HPr:Hid (∀U:World,Below W.heap.size W U→Calls Tryz.prog 19 #[.pointer (some ⟨M.b,0,none⟩),.int .i64 cl.by_] U fun e w'=>e=.returned (.int .i64 (pi:Int))∧Below U.heap.size U w'):=fun U hU=>by
  have:=rproc_any (h.mr.later (below_call hB hU)) cl.by_
  rw [hix] at this
  exact this
 have hC:∀U:World,Below W.heap.size W U→U.cell? ⟨w.heap.size,0,none⟩=some (.int .i64 2)∧U.cell? ⟨w.heap.size,1,none⟩=some (.int .i64 cl.by_)∧U.cell? ⟨w.heap.size,2,none⟩=some (.int .i64 cl.size):=fun U hU=>by
  have hx:=R.Bx.later hU hXc
  exact⟨by rw [←hop];exact hx.cell 0 rfl,hx.cell 1 rfl,hx.cell 2 rfl⟩
 have HC:=hid hC
 have hd0:decide ((pi:Int)<0)=false:=decide_eq_false (by omega)
 obtain⟨Qq,hQ⟩:∃Qq,Qq=rAway true r (cpO cl):=⟨_,rfl⟩
 rw [←hQ]
 have HQ:=hid hQ
 clear h hbs hf hcf hi hgf hfm hW hB hZ hXc hC hix hpi hQ
 go_enter Tryz.func8,Tryz.ntmps8
 go_upto_region 1 with fail
 rw [←HW.out]
 go_upto_region 3 with (first|((with_reducible refine R.ld_arm HLd.out ?_ ?_);(· rfl))|(go_at_call 17;refine HIc.out.mono ?_;rintro e w1 ⟨rfl,hb1⟩;have HB1:=hid hb1;clear hb1))
 obtain⟨z0,z1,-⟩:=HC.out w1 HB1.out
 go_upto_region 6 with (first|(go_at_call 19;refine (HPr.out w1 HB1.out).mono ?_;rintro e w2 ⟨rfl,hb2⟩;have HB2:=hid (below_call HB1.out hb2);clear hb2))
 clear z0 z1 hd0 HB1
 obtain⟨z0,-,z2⟩:=HC.out w2 HB2.out
 have HP2:=hid (HP0.out.later HB2.out)
 have HLd2:=hid (ldC (R.Bx.later HB2.out HXc.out))
 have hbs2:base≤w2.heap.size:=Nat.le_trans HBs.out HP2.out.bt.size
 have HCall:=hid (show Calls Tryz.prog 21 _ w2 (RmP w2 base M (MxN M a1 Q1 a2 a3 Q3) (rAway true r (cpO cl))) from by have:=raway_any (cl:=cl) (dd:=dd) (gg:=gg) HP2.out.x hbs2 HF.out (.inl hop);rw [decide_eq_true hop] at this;exact this)
 rw [←HQ.out] at HCall
 go_wp2_with (first|((with_reducible refine R.ld_arm HLd2.out ?_ ?_);(· rfl))|(go_at_call 21;refine HCall.out.mono ?_;intro e w5 hR;obtain⟨ra,rn,rc,rfl,hz5,hf5⟩:=RmP.lift HP2.out hR HD.out;have HS9:=hid (hz5.st Qq.1 ra rn rc);have HL9:=hid (hz5.lv Qq.1 ra rn rc);have HF9:=hid hf5;clear hR hz5 hf5)|((with_reducible refine st_arm HS9.out ?_ ?_ ?_);(· rfl);(· rfl)))
 exact bodyPost_ret (v:=rpV Qq.1 ra rn rc) (by simp [results,Tryz.results8,asAddr,HL9.out]) rfl HF9.out
set_option maxRecDepth 100000 in
set_option maxHeartbeats 4000000 in
theorem rdo_revoke (h:Mx w base M r a1 c1 Q1 a2 c2 a3 c3 Q3)(hbs:base≤w.heap.size)(hf:RF M.p r)(hcf:M.C.may=true){cl:R.Cl}{dd gg:R.Sl}(hi:R.Is w cl dd gg)(hgf:Fl w gg.a (ints cl.gifts))(hfm:R.fm cl=true)(hop:cl.op=4){pi:Nat}{pv:Int×List Cp}(hix:ixF (isP cl.by_) r.P=(pi:Int))(hpi:r.P[pi]?=some pv):Calls Tryz.prog 8 #[.pointer (some ⟨M.b,0,none⟩),.agg (R.cC cl dd gg).toArray] w (RmP w base M (MxN M a1 Q1 a2 a3 Q3) (rAway false r (cpO cl))):=by
 obtain⟨W,hW⟩:∃W,W=(w.alloc (Obj.cells (R.cC cl dd gg).toArray 45)).alloc z6:=⟨_,rfl⟩
 have hB:Below w.heap.size w W:=by rw [hW];exact below2 _ _ _
 have hXc:R.Bx W w.heap.size (R.cC cl dd gg):=by rw [hW];exact R.Bx.later (below1 _ _) (R.Bx.new w (R.cC cl dd gg) 45)
 have hZ:Zr W (w.heap.size+1):=by rw [hW];have:=Zr.new (w.alloc (Obj.cells (R.cC cl dd gg).toArray 45));simpa using this
 have HP0:=hid (Pg.start h hB hZ (Nat.le_succ _))
 have HN:Hid (∀j,MxN M a1 Q1 a2 a3 Q3 j→j<w.heap.size):=fun j hj=>(h.rng j hj).2
 have HD:=hid h.dl
 have HW:=hid hW
 have HB:=hid hB
 have HX:=hid h
 have HBs:=hid hbs
 have HXc:=hid hXc
 have HF:=hid hf
 have HCf:=hid hcf
 have HIs:=hid hi
 have HFm:=hid hfm
 have HPi:=hid hpi
 have HLd:=hid (ldC hXc)
 have HIc:=hid (ris_any (w:=W) (cl:=cl) (dd:=dd) (gg:=gg) (by have:=hi.data.len;omega) (by have:=hi.gifts.len;omega) (hgf.later hB))
 rw [hfm] at HIc
 have HPr:Hid (∀U:World,Below W.heap.size W U→Calls Tryz.prog 19 #[.pointer (some ⟨M.b,0,none⟩),.int .i64 cl.by_] U fun e w'=>e=.returned (.int .i64 (pi:Int))∧Below U.heap.size U w'):=fun U hU=>by
  have:=rproc_any (h.mr.later (below_call hB hU)) cl.by_
  rw [hix] at this
  exact this
 have hC:∀U:World,Below W.heap.size W U→U.cell? ⟨w.heap.size,0,none⟩=some (.int .i64 4)∧U.cell? ⟨w.heap.size,1,none⟩=some (.int .i64 cl.by_)∧U.cell? ⟨w.heap.size,2,none⟩=some (.int .i64 cl.size):=fun U hU=>by
  have hx:=R.Bx.later hU hXc
  exact⟨by rw [←hop];exact hx.cell 0 rfl,hx.cell 1 rfl,hx.cell 2 rfl⟩
 have HC:=hid hC
 have hd0:decide ((pi:Int)<0)=false:=decide_eq_false (by omega)
 obtain⟨Qq,hQ⟩:∃Qq,Qq=rAway false r (cpO cl):=⟨_,rfl⟩
 rw [←hQ]
 have HQ:=hid hQ
 clear h hbs hf hcf hi hgf hfm hW hB hZ hXc hC hix hpi hQ
 go_enter Tryz.func8,Tryz.ntmps8
 go_upto_region 1 with fail
 rw [←HW.out]
 go_upto_region 3 with (first|((with_reducible refine R.ld_arm HLd.out ?_ ?_);(· rfl))|(go_at_call 17;refine HIc.out.mono ?_;rintro e w1 ⟨rfl,hb1⟩;have HB1:=hid hb1;clear hb1))
 obtain⟨z0,z1,-⟩:=HC.out w1 HB1.out
 go_upto_region 6 with (first|(go_at_call 19;refine (HPr.out w1 HB1.out).mono ?_;rintro e w2 ⟨rfl,hb2⟩;have HB2:=hid (below_call HB1.out hb2);clear hb2))
 clear z0 z1 hd0 HB1
 obtain⟨z0,-,z2⟩:=HC.out w2 HB2.out
 have HP2:=hid (HP0.out.later HB2.out)
 have HLd2:=hid (ldC (R.Bx.later HB2.out HXc.out))
 have hbs2:base≤w2.heap.size:=Nat.le_trans HBs.out HP2.out.bt.size
 have HCall:=hid (show Calls Tryz.prog 21 _ w2 (RmP w2 base M (MxN M a1 Q1 a2 a3 Q3) (rAway false r (cpO cl))) from by have:=raway_any (cl:=cl) (dd:=dd) (gg:=gg) HP2.out.x hbs2 HF.out (.inr hop);rw [decide_eq_false (show ¬cl.op=2 by omega)] at this;exact this)
 rw [←HQ.out] at HCall
 go_wp2_with (first|((with_reducible refine R.ld_arm HLd2.out ?_ ?_);(· rfl))|(go_at_call 21;refine HCall.out.mono ?_;intro e w5 hR;obtain⟨ra,rn,rc,rfl,hz5,hf5⟩:=RmP.lift HP2.out hR HD.out;have HS9:=hid (hz5.st Qq.1 ra rn rc);have HL9:=hid (hz5.lv Qq.1 ra rn rc);have HF9:=hid hf5;clear hR hz5 hf5)|((with_reducible refine st_arm HS9.out ?_ ?_ ?_);(· rfl);(· rfl)))
 exact bodyPost_ret (v:=rpV Qq.1 ra rn rc) (by simp [results,Tryz.results8,asAddr,HL9.out]) rfl HF9.out
set_option maxRecDepth 100000 in
set_option maxHeartbeats 4000000 in
theorem rdo_derive (h:Mx w base M r a1 c1 Q1 a2 c2 a3 c3 Q3)(hbs:base≤w.heap.size)(hf:RF M.p r)(hcf:M.C.may=true){cl:R.Cl}{dd gg:R.Sl}(hi:R.Is w cl dd gg)(hgf:Fl w gg.a (ints cl.gifts))(hfm:R.fm cl=true)(hop:cl.op=3){pi:Nat}{pv:Int×List Cp}(hix:ixF (isP cl.by_) r.P=(pi:Int))(hpi:r.P[pi]?=some pv):Calls Tryz.prog 8 #[.pointer (some ⟨M.b,0,none⟩),.agg (R.cC cl dd gg).toArray] w (RmP w base M (MxN M a1 Q1 a2 a3 Q3) (rDer M.p r (cpO cl) cl.rights)):=by
 obtain⟨W,hW⟩:∃W,W=(w.alloc (Obj.cells (R.cC cl dd gg).toArray 45)).alloc z6:=⟨_,rfl⟩
 have hB:Below w.heap.size w W:=by rw [hW];exact below2 _ _ _
 have hXc:R.Bx W w.heap.size (R.cC cl dd gg):=by rw [hW];exact R.Bx.later (below1 _ _) (R.Bx.new w (R.cC cl dd gg) 45)
 have hZ:Zr W (w.heap.size+1):=by rw [hW];have:=Zr.new (w.alloc (Obj.cells (R.cC cl dd gg).toArray 45));simpa using this
 have HP0:=hid (Pg.start h hB hZ (Nat.le_succ _))
 have HN:Hid (∀j,MxN M a1 Q1 a2 a3 Q3 j→j<w.heap.size):=fun j hj=>(h.rng j hj).2
 have HD:=hid h.dl
 have HW:=hid hW
 have HB:=hid hB
 have HX:=hid h
 have HBs:=hid hbs
 have HXc:=hid hXc
 have HF:=hid hf
 have HCf:=hid hcf
 have HIs:=hid hi
 have HFm:=hid hfm
 have HPi:=hid hpi
 have HLd:=hid (ldC hXc)
 have HIc:=hid (ris_any (w:=W) (cl:=cl) (dd:=dd) (gg:=gg) (by have:=hi.data.len;omega) (by have:=hi.gifts.len;omega) (hgf.later hB))
 rw [hfm] at HIc
 have HPr:Hid (∀U:World,Below W.heap.size W U→Calls Tryz.prog 19 #[.pointer (some ⟨M.b,0,none⟩),.int .i64 cl.by_] U fun e w'=>e=.returned (.int .i64 (pi:Int))∧Below U.heap.size U w'):=fun U hU=>by
  have:=rproc_any (h.mr.later (below_call hB hU)) cl.by_
  rw [hix] at this
  exact this
 have hC:∀U:World,Below W.heap.size W U→U.cell? ⟨w.heap.size,0,none⟩=some (.int .i64 3)∧U.cell? ⟨w.heap.size,1,none⟩=some (.int .i64 cl.by_)∧U.cell? ⟨w.heap.size,2,none⟩=some (.int .i64 cl.size):=fun U hU=>by
  have hx:=R.Bx.later hU hXc
  exact⟨by rw [←hop];exact hx.cell 0 rfl,hx.cell 1 rfl,hx.cell 2 rfl⟩
 have HC:=hid hC
 have hd0:decide ((pi:Int)<0)=false:=decide_eq_false (by omega)
 obtain⟨Qq,hQ⟩:∃Qq,Qq=rDer M.p r (cpO cl) cl.rights:=⟨_,rfl⟩
 rw [←hQ]
 have HQ:=hid hQ
 clear h hbs hf hcf hi hgf hfm hW hB hZ hXc hC hix hpi hQ
 go_enter Tryz.func8,Tryz.ntmps8
 go_upto_region 1 with fail
 rw [←HW.out]
 go_upto_region 3 with (first|((with_reducible refine R.ld_arm HLd.out ?_ ?_);(· rfl))|(go_at_call 17;refine HIc.out.mono ?_;rintro e w1 ⟨rfl,hb1⟩;have HB1:=hid hb1;clear hb1))
 obtain⟨z0,z1,-⟩:=HC.out w1 HB1.out
 go_upto_region 6 with (first|(go_at_call 19;refine (HPr.out w1 HB1.out).mono ?_;rintro e w2 ⟨rfl,hb2⟩;have HB2:=hid (below_call HB1.out hb2);clear hb2))
 clear z0 z1 hd0 HB1
 obtain⟨z0,-,z2⟩:=HC.out w2 HB2.out
 have HP2:=hid (HP0.out.later HB2.out)
 have HLd2:=hid (ldC (R.Bx.later HB2.out HXc.out))
 have hbs2:base≤w2.heap.size:=Nat.le_trans HBs.out HP2.out.bt.size
 have HCall:=hid (rderive_any (cl:=cl) (dd:=dd) (gg:=gg) HP2.out.x hbs2 HF.out HCf.out)
 rw [←HQ.out] at HCall
 go_wp2_with (first|((with_reducible refine R.ld_arm HLd2.out ?_ ?_);(· rfl))|(go_at_call 22;refine HCall.out.mono ?_;intro e w5 hR;obtain⟨ra,rn,rc,rfl,hz5,hf5⟩:=RmP.lift HP2.out hR HD.out;have HS9:=hid (hz5.st Qq.1 ra rn rc);have HL9:=hid (hz5.lv Qq.1 ra rn rc);have HF9:=hid hf5;clear hR hz5 hf5)|((with_reducible refine st_arm HS9.out ?_ ?_ ?_);(· rfl);(· rfl)))
 exact bodyPost_ret (v:=rpV Qq.1 ra rn rc) (by simp [results,Tryz.results8,asAddr,HL9.out]) rfl HF9.out
set_option maxRecDepth 100000 in
set_option maxHeartbeats 4000000 in
theorem rdo_read (h:Mx w base M r a1 c1 Q1 a2 c2 a3 c3 Q3)(hbs:base≤w.heap.size)(hf:RF M.p r)(hcf:M.C.may=true){cl:R.Cl}{dd gg:R.Sl}(hi:R.Is w cl dd gg)(hgf:Fl w gg.a (ints cl.gifts))(hfm:R.fm cl=true)(hop:cl.op=5){pi:Nat}{pv:Int×List Cp}(hix:ixF (isP cl.by_) r.P=(pi:Int))(hpi:r.P[pi]?=some pv)(hvr:r.V.Pairwise (fun a b=>a.1<b.1))(hth:rMay r.T cl.given pv.2 (cpO cl) 1=0→∃v∈r.V,v.1=cl.obj):Calls Tryz.prog 8 #[.pointer (some ⟨M.b,0,none⟩),.agg (R.cC cl dd gg).toArray] w (RmP w base M (MxN M a1 Q1 a2 a3 Q3) (rdK r pv.2 cl)):=by
 obtain⟨W,hW⟩:∃W,W=(w.alloc (Obj.cells (R.cC cl dd gg).toArray 45)).alloc z6:=⟨_,rfl⟩
 have hB:Below w.heap.size w W:=by rw [hW];exact below2 _ _ _
 have hXc:R.Bx W w.heap.size (R.cC cl dd gg):=by rw [hW];exact R.Bx.later (below1 _ _) (R.Bx.new w (R.cC cl dd gg) 45)
 have hZ:Zr W (w.heap.size+1):=by rw [hW];have:=Zr.new (w.alloc (Obj.cells (R.cC cl dd gg).toArray 45));simpa using this
 have HP0:=hid (Pg.start h hB hZ (Nat.le_succ _))
 have HN:Hid (∀j,MxN M a1 Q1 a2 a3 Q3 j→j<w.heap.size):=fun j hj=>(h.rng j hj).2
 have HD:=hid h.dl
 have HW:=hid hW
 have HB:=hid hB
 have HX:=hid h
 have HBs:=hid hbs
 have HXc:=hid hXc
 have HF:=hid hf
 have HCf:=hid hcf
 have HIs:=hid hi
 have HFm:=hid hfm
 have HPi:=hid hpi
 have HLd:=hid (ldC hXc)
 have HIc:=hid (ris_any (w:=W) (cl:=cl) (dd:=dd) (gg:=gg) (by have:=hi.data.len;omega) (by have:=hi.gifts.len;omega) (hgf.later hB))
 rw [hfm] at HIc
 have HPr:Hid (∀U:World,Below W.heap.size W U→Calls Tryz.prog 19 #[.pointer (some ⟨M.b,0,none⟩),.int .i64 cl.by_] U fun e w'=>e=.returned (.int .i64 (pi:Int))∧Below U.heap.size U w'):=fun U hU=>by
  have:=rproc_any (h.mr.later (below_call hB hU)) cl.by_
  rw [hix] at this
  exact this
 have hC:∀U:World,Below W.heap.size W U→U.cell? ⟨w.heap.size,0,none⟩=some (.int .i64 5)∧U.cell? ⟨w.heap.size,1,none⟩=some (.int .i64 cl.by_)∧U.cell? ⟨w.heap.size,2,none⟩=some (.int .i64 cl.size):=fun U hU=>by
  have hx:=R.Bx.later hU hXc
  exact⟨by rw [←hop];exact hx.cell 0 rfl,hx.cell 1 rfl,hx.cell 2 rfl⟩
 have HC:=hid hC
 have hd0:decide ((pi:Int)<0)=false:=decide_eq_false (by omega)
 obtain⟨Qq,hQ⟩:∃Qq,Qq=rdK r pv.2 cl:=⟨_,rfl⟩
 rw [←hQ]
 have HQ:=hid hQ
 clear h hbs hf hcf hi hgf hfm hW hB hZ hXc hC hix hpi hQ
 go_enter Tryz.func8,Tryz.ntmps8
 go_upto_region 1 with fail
 rw [←HW.out]
 go_upto_region 3 with (first|((with_reducible refine R.ld_arm HLd.out ?_ ?_);(· rfl))|(go_at_call 17;refine HIc.out.mono ?_;rintro e w1 ⟨rfl,hb1⟩;have HB1:=hid hb1;clear hb1))
 obtain⟨z0,z1,-⟩:=HC.out w1 HB1.out
 go_upto_region 6 with (first|(go_at_call 19;refine (HPr.out w1 HB1.out).mono ?_;rintro e w2 ⟨rfl,hb2⟩;have HB2:=hid (below_call HB1.out hb2);clear hb2))
 clear z0 z1 hd0 HB1
 obtain⟨z0,-,z2⟩:=HC.out w2 HB2.out
 have HP2:=hid (HP0.out.later HB2.out)
 have HLd2:=hid (ldC (R.Bx.later HB2.out HXc.out))
 have hbs2:base≤w2.heap.size:=Nat.le_trans HBs.out HP2.out.bt.size
 have HCall:=hid (rread_any HP2.out.x hbs2 HF.out hvr (HIs.out.later (below_call HB.out HB2.out)) hop (by have h9:=HFm.out;unfold R.fm R.inB R.sgB R.wi at h9;simp only [Bool.and_eq_true,decide_eq_true_eq] at h9;omega) (by have h9:=HFm.out;unfold R.fm R.inB at h9;simp only [Bool.and_eq_true,decide_eq_true_eq] at h9;have:=HIs.out.data.len;omega) HPi.out hth)
 rw [←HQ.out] at HCall
 go_wp2_with (first|((with_reducible refine R.ld_arm HLd2.out ?_ ?_);(· rfl))|(go_at_call 23;refine HCall.out.mono ?_;intro e w5 hR;obtain⟨ra,rn,rc,rfl,hz5,hf5⟩:=RmP.lift HP2.out hR HD.out;have HS9:=hid (hz5.st Qq.1 ra rn rc);have HL9:=hid (hz5.lv Qq.1 ra rn rc);have HF9:=hid hf5;clear hR hz5 hf5)|((with_reducible refine st_arm HS9.out ?_ ?_ ?_);(· rfl);(· rfl)))
 exact bodyPost_ret (v:=rpV Qq.1 ra rn rc) (by simp [results,Tryz.results8,asAddr,HL9.out]) rfl HF9.out
set_option maxRecDepth 100000 in
set_option maxHeartbeats 4000000 in
theorem rdo_write (h:Mx w base M r a1 c1 Q1 a2 c2 a3 c3 Q3)(hbs:base≤w.heap.size)(hf:RF M.p r)(hcf:M.C.may=true){cl:R.Cl}{dd gg:R.Sl}(hi:R.Is w cl dd gg)(hgf:Fl w gg.a (ints cl.gifts))(hfm:R.fm cl=true)(hop:cl.op=6){pi:Nat}{pv:Int×List Cp}(hix:ixF (isP cl.by_) r.P=(pi:Int))(hpi:r.P[pi]?=some pv)(hvr:r.V.Pairwise (fun a b=>a.1<b.1))(hdd:∀j,Blk dd.a j→¬MxN M a1 Q1 a2 a3 Q3 j)(hth:rMay r.T cl.given pv.2 (cpO cl) 2=0→∃v∈r.V,v.1=cl.obj):Calls Tryz.prog 8 #[.pointer (some ⟨M.b,0,none⟩),.agg (R.cC cl dd gg).toArray] w (RmP w base M (MxN M a1 Q1 a2 a3 Q3) (wrK r pv.2 cl)):=by
 obtain⟨W,hW⟩:∃W,W=(w.alloc (Obj.cells (R.cC cl dd gg).toArray 45)).alloc z6:=⟨_,rfl⟩
 have hB:Below w.heap.size w W:=by rw [hW];exact below2 _ _ _
 have hXc:R.Bx W w.heap.size (R.cC cl dd gg):=by rw [hW];exact R.Bx.later (below1 _ _) (R.Bx.new w (R.cC cl dd gg) 45)
 have hZ:Zr W (w.heap.size+1):=by rw [hW];have:=Zr.new (w.alloc (Obj.cells (R.cC cl dd gg).toArray 45));simpa using this
 have HP0:=hid (Pg.start h hB hZ (Nat.le_succ _))
 have HN:Hid (∀j,MxN M a1 Q1 a2 a3 Q3 j→j<w.heap.size):=fun j hj=>(h.rng j hj).2
 have HD:=hid h.dl
 have HW:=hid hW
 have HB:=hid hB
 have HX:=hid h
 have HBs:=hid hbs
 have HXc:=hid hXc
 have HF:=hid hf
 have HCf:=hid hcf
 have HIs:=hid hi
 have HFm:=hid hfm
 have HPi:=hid hpi
 have HLd:=hid (ldC hXc)
 have HIc:=hid (ris_any (w:=W) (cl:=cl) (dd:=dd) (gg:=gg) (by have:=hi.data.len;omega) (by have:=hi.gifts.len;omega) (hgf.later hB))
 rw [hfm] at HIc
 have HPr:Hid (∀U:World,Below W.heap.size W U→Calls Tryz.prog 19 #[.pointer (some ⟨M.b,0,none⟩),.int .i64 cl.by_] U fun e w'=>e=.returned (.int .i64 (pi:Int))∧Below U.heap.size U w'):=fun U hU=>by
  have:=rproc_any (h.mr.later (below_call hB hU)) cl.by_
  rw [hix] at this
  exact this
 have hC:∀U:World,Below W.heap.size W U→U.cell? ⟨w.heap.size,0,none⟩=some (.int .i64 6)∧U.cell? ⟨w.heap.size,1,none⟩=some (.int .i64 cl.by_)∧U.cell? ⟨w.heap.size,2,none⟩=some (.int .i64 cl.size):=fun U hU=>by
  have hx:=R.Bx.later hU hXc
  exact⟨by rw [←hop];exact hx.cell 0 rfl,hx.cell 1 rfl,hx.cell 2 rfl⟩
 have HC:=hid hC
 have hd0:decide ((pi:Int)<0)=false:=decide_eq_false (by omega)
 obtain⟨Qq,hQ⟩:∃Qq,Qq=wrK r pv.2 cl:=⟨_,rfl⟩
 rw [←hQ]
 have HQ:=hid hQ
 clear h hbs hf hcf hi hgf hfm hW hB hZ hXc hC hix hpi hQ
 go_enter Tryz.func8,Tryz.ntmps8
 go_upto_region 1 with fail
 rw [←HW.out]
 go_upto_region 3 with (first|((with_reducible refine R.ld_arm HLd.out ?_ ?_);(· rfl))|(go_at_call 17;refine HIc.out.mono ?_;rintro e w1 ⟨rfl,hb1⟩;have HB1:=hid hb1;clear hb1))
 obtain⟨z0,z1,-⟩:=HC.out w1 HB1.out
 go_upto_region 6 with (first|(go_at_call 19;refine (HPr.out w1 HB1.out).mono ?_;rintro e w2 ⟨rfl,hb2⟩;have HB2:=hid (below_call HB1.out hb2);clear hb2))
 clear z0 z1 hd0 HB1
 obtain⟨z0,-,z2⟩:=HC.out w2 HB2.out
 have HP2:=hid (HP0.out.later HB2.out)
 have HLd2:=hid (ldC (R.Bx.later HB2.out HXc.out))
 have hbs2:base≤w2.heap.size:=Nat.le_trans HBs.out HP2.out.bt.size
 have HCall:=hid (rwrite_any HP2.out.x hbs2 HF.out hvr (HIs.out.later (below_call HB.out HB2.out)) hop (by have h9:=HFm.out;unfold R.fm R.inB R.sgB R.wi at h9;simp only [Bool.and_eq_true,decide_eq_true_eq] at h9;omega) (by have h9:=HFm.out;unfold R.fm R.inB at h9;simp only [Bool.and_eq_true,decide_eq_true_eq] at h9;have:=HIs.out.data.len;omega) hdd HPi.out hth)
 rw [←HQ.out] at HCall
 go_wp2_with (first|((with_reducible refine R.ld_arm HLd2.out ?_ ?_);(· rfl))|(go_at_call 23;refine HCall.out.mono ?_;intro e w5 hR;obtain⟨ra,rn,rc,rfl,hz5,hf5⟩:=RmP.lift HP2.out hR HD.out;have HS9:=hid (hz5.st Qq.1 ra rn rc);have HL9:=hid (hz5.lv Qq.1 ra rn rc);have HF9:=hid hf5;clear hR hz5 hf5)|((with_reducible refine st_arm HS9.out ?_ ?_ ?_);(· rfl);(· rfl)))
 exact bodyPost_ret (v:=rpV Qq.1 ra rn rc) (by simp [results,Tryz.results8,asAddr,HL9.out]) rfl HF9.out
end
end Go.Proofs.YtffmodpgddecnaaGreat.V.E
namespace Go.Proofs.YtffmodpgddecnaaGreat.V.E
open Go.RowKit Go.Maps
open Go.Proofs.YtffmodpgddecnaaGreat.H (B64 Cp)
open Go.Proofs.YtffmodpgddecnaaGreat.M (okI atC pickE pickL)
section
variable {w w':World}{base:Nat}{M:Mh}{r:Rm}{a1:Option Addr}{c1:Nat}{Q1:List Ev}{a2:Option Addr}{c2:Nat}{a3:Option Addr}{c3:Nat}{Q3:List Ev}
theorem rm_cell {w5:World}{N:Nat→Prop}{Rz:Rep×Rm}{e:Ending}{p:Addr}{v:Value}(hR:RmP w base M N Rz e w5)(hc:w.cell? p=some v)(hn:¬N p.block):w5.cell? p=some v:=by
 obtain⟨a,n,c,x1,d1,R1,x2,d2,x3,d3,R3,e1,h1,h2,h3,h4,h5⟩:=hR
 exact cell_but h3 hc hn
set_option maxRecDepth 100000 in
set_option maxHeartbeats 4000000 in
theorem rdo_spawn (h:Mx w base M r a1 c1 Q1 a2 c2 a3 c3 Q3)(hbs:base≤w.heap.size)(hf:RF M.p r)(hcf:M.C.may=true){cl:R.Cl}{dd gg:R.Sl}(hi:R.Is w cl dd gg)(hgf:Fl w gg.a (ints cl.gifts))(hfm:R.fm cl=true)(hop:cl.op=9){pi:Nat}{pv:Int×List Cp}(hix:ixF (isP cl.by_) r.P=(pi:Int))(hpi:r.P[pi]?=some pv):Calls Tryz.prog 8 #[.pointer (some ⟨M.b,0,none⟩),.agg (R.cC cl dd gg).toArray] w (RmP w base M (MxN M a1 Q1 a2 a3 Q3) (spK M.p r pv.2 cl.gifts)):=by
 obtain⟨W,hW⟩:∃W,W=(w.alloc (Obj.cells (R.cC cl dd gg).toArray 45)).alloc z6:=⟨_,rfl⟩
 have hB:Below w.heap.size w W:=by rw [hW];exact below2 _ _ _
 have hXc:R.Bx W w.heap.size (R.cC cl dd gg):=by rw [hW];exact R.Bx.later (below1 _ _) (R.Bx.new w (R.cC cl dd gg) 45)
 have hZ:Zr W (w.heap.size+1):=by rw [hW];have:=Zr.new (w.alloc (Obj.cells (R.cC cl dd gg).toArray 45));simpa using this
 have HP0:=hid (Pg.start h hB hZ (Nat.le_succ _))
 have HN:Hid (∀j,MxN M a1 Q1 a2 a3 Q3 j→j<w.heap.size):=fun j hj=>(h.rng j hj).2
 have HD:=hid h.dl
 have HW:=hid hW
 have HB:=hid hB
 have HX:=hid h
 have HBs:=hid hbs
 have HXc:=hid hXc
 have HF:=hid hf
 have HCf:=hid hcf
 have HIs:=hid hi
 have HFm:=hid hfm
 have HPi:=hid hpi
 have HLd:=hid (ldC hXc)
 have HIc:=hid (ris_any (w:=W) (cl:=cl) (dd:=dd) (gg:=gg) (by have:=hi.data.len;omega) (by have:=hi.gifts.len;omega) (hgf.later hB))
 rw [hfm] at HIc
 have HPr:Hid (∀U:World,Below W.heap.size W U→Calls Tryz.prog 19 #[.pointer (some ⟨M.b,0,none⟩),.int .i64 cl.by_] U fun e w'=>e=.returned (.int .i64 (pi:Int))∧Below U.heap.size U w'):=fun U hU=>by
  have:=rproc_any (h.mr.later (below_call hB hU)) cl.by_
  rw [hix] at this
  exact this
 have hC:∀U:World,Below W.heap.size W U→U.cell? ⟨w.heap.size,0,none⟩=some (.int .i64 9)∧U.cell? ⟨w.heap.size,1,none⟩=some (.int .i64 cl.by_)∧U.cell? ⟨w.heap.size,2,none⟩=some (.int .i64 cl.size):=fun U hU=>by
  have hx:=R.Bx.later hU hXc
  exact⟨by rw [←hop];exact hx.cell 0 rfl,hx.cell 1 rfl,hx.cell 2 rfl⟩
 have HC:=hid hC
 have hd0:decide ((pi:Int)<0)=false:=decide_eq_false (by omega)
 obtain⟨Qq,hQ⟩:∃Qq,Qq=spK M.p r pv.2 cl.gifts:=⟨_,rfl⟩
 rw [←hQ]
 have HQ:=hid hQ
 clear h hbs hf hcf hi hgf hfm hW hB hZ hXc hC hix hpi hQ
 go_enter Tryz.func8,Tryz.ntmps8
 go_upto_region 1 with fail
 rw [←HW.out]
 go_upto_region 3 with (first|((with_reducible refine R.ld_arm HLd.out ?_ ?_);(· rfl))|(go_at_call 17;refine HIc.out.mono ?_;rintro e w1 ⟨rfl,hb1⟩;have HB1:=hid hb1;clear hb1))
 obtain⟨z0,z1,-⟩:=HC.out w1 HB1.out
 go_upto_region 6 with (first|(go_at_call 19;refine (HPr.out w1 HB1.out).mono ?_;rintro e w2 ⟨rfl,hb2⟩;have HB2:=hid (below_call HB1.out hb2);clear hb2))
 clear z0 z1 hd0 HB1
 obtain⟨z0,-,z2⟩:=HC.out w2 HB2.out
 have HP2:=hid (HP0.out.later HB2.out)
 have HLd2:=hid (ldC (R.Bx.later HB2.out HXc.out))
 have hbs2:base≤w2.heap.size:=Nat.le_trans HBs.out HP2.out.bt.size
 obtain⟨e3,he3,he3m,he3i,he3v,he3l⟩:=key_at HX.out.pk HPi.out
 have hpn:=(List.getElem?_eq_some_iff.1 HPi.out).1
 obtain⟨g3,hg3,hgc⟩:=Ow.at_ HX.out.ps.row (by omega)
 have hg31:w.cell? ⟨g3,pi*2+1,none⟩=some (.slice e3.a e3.len e3.cap):=hgc _ _ (evs_at Q3 pi e3 he3 1 (by omega))
 obtain⟨nP,hnP⟩:∃n,n=r.P.length:=⟨_,rfl⟩
 obtain⟨la,hla⟩:∃la,la=e3.a:=⟨_,rfl⟩
 obtain⟨lc,hlc⟩:∃lc,lc=e3.cap:=⟨_,rfl⟩
 obtain⟨ln,hln⟩:∃ln,ln=pv.2.length:=⟨_,rfl⟩
 have he3l2:e3.len=ln:=by rw [he3l,hln];rfl
 rw [←hla,←hlc,he3l2] at hg31
 have hOl:=HX.out.ps.each e3 he3m
 rw [←hla,←hlc,he3l2,he3v] at hOl
 have hOl:Ow w base 38 3 la ln lc (caps pv.2):=hOl
 have HOl:=hid hOl
 have hB2:=below_call HB.out HB2.out
 have m14:w2.cell? ⟨M.b,14,none⟩=some (.slice (some ⟨g3,0,none⟩) nP c3):=by rw [hnP,←hg3];exact (R.Bx.later hB2 HX.out.box).cell 14 rfl
 have p31:w2.cell? ⟨g3,pi*2+1,none⟩=some (.slice la ln lc):=cell_later hB2 hg31
 have hpl:ln≤32:=by rw [hln];exact HF.out.pl pv (List.mem_of_getElem? HPi.out)
 have hpi2:(pi:Int)<(nP:Int):=by omega
 have h0pi:(0:Int)≤(pi:Int):=by omega
 have HCall:=hid (rspawn_any (r:=r) HP2.out.x hbs2 HF.out HCf.out (hOl.later hB2) hln.symm hpl (HIs.out.gifts.later hB2) (by have h9:=HFm.out;unfold R.fm R.inB R.gfB at h9;simp only [Bool.and_eq_true,decide_eq_true_eq] at h9;have:=HIs.out.gifts.len;omega) (fun g hg=>by have h9:=HFm.out;unfold R.fm R.inB R.gfB at h9;simp only [Bool.and_eq_true,decide_eq_true_eq,List.all_eq_true] at h9;have h10:=h9.1.1.2.2.2 g hg;unfold R.wi at h10;simp only [Bool.and_eq_true,decide_eq_true_eq] at h10;exact h10.1))
 rw [←HQ.out] at HCall
 have HZ2:Hid (w2.drew.cell? ⟨w.heap.size,12,none⟩=some (.slice gg.a gg.n gg.c)):=(R.Bx.later HB2.out HXc.out).cell 12 rfl
 have hcN:¬MxN M a1 Q1 a2 a3 Q3 w.heap.size:=fun e=>by have:=HN.out _ e;omega
 have HcN:=hid hcN
 have HCd:Hid (Calls Tryz.prog 25 #[.pointer (some ⟨M.b,0,none⟩),.slice gg.a gg.n gg.c,.slice la ln lc] w2.drew (RmP w2.drew base M (MxN M a1 Q1 a2 a3 Q3) Qq)):=by
  have h9:=rspawn_any (r:=r) (HP2.out.later (V:=w2.drew) (Below.refl _ _).drew).x hbs2 HF.out HCf.out (hOl.later (below_call hB2 (Below.refl _ _).drew)) hln.symm hpl (HIs.out.gifts.later (below_call hB2 (Below.refl _ _).drew)) (by have h9:=HFm.out;unfold R.fm R.inB R.gfB at h9;simp only [Bool.and_eq_true,decide_eq_true_eq] at h9;have:=HIs.out.gifts.len;omega) (fun g hg=>by have h9:=HFm.out;unfold R.fm R.inB R.gfB at h9;simp only [Bool.and_eq_true,decide_eq_true_eq,List.all_eq_true] at h9;have h10:=h9.1.1.2.2.2 g hg;unfold R.wi at h10;simp only [Bool.and_eq_true,decide_eq_true_eq] at h10;exact h10.1)
  unfold Hid
  rw [HQ.out]
  exact h9
 have HP3:=hid (HP2.out.later (V:=w2.drew) (Below.refl _ _).drew)
 go_upto_region 34 with fail
 clear z0 z2 hnP hla hlc hln he3 he3m he3i he3v he3l hg3 hgc hg31 he3l2 hOl hB2 hpn hcN hpl HCall
 refine wp_region_held_drew (S:=(fun U:World=>U.cell? ⟨w.heap.size,12,none⟩=some (.slice gg.a gg.n gg.c))) (by kernel_rfl) (HZ2.out) (fun hHeld=>?_)
 refine nm 13 0 13 ?_
 refine tn 0 13 1 12 ?_
 simp only [zz]
 refine tn 1 13 3 11 ?_
 simp only [zz]
 refine tn 2 13 7 10 ?_
 simp only [zz]
 refine tn 3 13 15 9 ?_
 simp only [zz]
 refine tn 4 13 31 8 ?_
 simp only [zz]
 refine tn 5 13 63 7 ?_
 simp only [zz]
 refine tn 7 13 191 6 ?_
 simp only [zz]
 refine zr 6 fun K hK=>?_
 go_simp
 refine zk hK 13 255 5 (HZ2.out) fun hHeld=>?_
 clear hK K
 try simp only [zz]
 refine tn 8 13 511 4 ?_
 simp only [zz]
 refine tn 9 13 1023 3 ?_
 simp only [zz]
 refine zr 10 fun K hK=>?_
 go_simp
 refine zk hK 13 2047 2 (HZ2.out) fun hHeld=>?_
 clear hK K
 try simp only [zz]
 refine zr 11 fun K hK=>?_
 go_simp
 go_wp2_with (first|(go_at_call 25;refine HCd.out.mono ?_;intro e w5 hR;obtain⟨ra,rn,rc,rfl,hz5,hf5⟩:=RmP.lift HP3.out hR HD.out;have HS9:=hid (hz5.st Qq.1 ra rn rc);have HL9:=hid (hz5.lv Qq.1 ra rn rc);have HF9:=hid hf5;have HZ5:Hid (w5.cell? ⟨w.heap.size,12,none⟩=some (.slice gg.a gg.n gg.c)):=rm_cell hR HZ2.out HcN.out;have HSz:Hid ((w5.setCells (w.heap.size+1) 0 (rpL Qq.1 ra rn rc)).cell? ⟨w.heap.size,12,none⟩=some (.slice gg.a gg.n gg.c)):=cell_but (R.setCells_but (S:=(·=w.heap.size+1)) rfl _ 0 (But.refl _ _)) HZ5.out (show ¬w.heap.size=w.heap.size+1 by omega);clear hR hz5 hf5))
 refine zk hK 13 4095 1 (HZ5.out) fun hHeld=>?_
 clear hK K
 try simp only [zz]
 refine zr 12 fun K hK=>?_
 refine wp_sto 41 (.tmp 4) (.tmp 167) rfl _ _ rfl rfl _ HS9.out ?_
 refine zk hK 13 8191 0 (HSz.out) fun hHeld=>?_
 clear hK K
 try simp only [zz]
 refine zn ?_ _
 (try go_wp2)
 exact bodyPost_ret (v:=rpV Qq.1 ra rn rc) (by simp [results,Tryz.results8,asAddr,Act.put,HL9.out]) rfl HF9.out
end
end Go.Proofs.YtffmodpgddecnaaGreat.V.E
namespace Go.Proofs.YtffmodpgddecnaaGreat.V.E
open Go.RowKit Go.Maps
open Go.Proofs.YtffmodpgddecnaaGreat.H (B64 Cp)
theorem evs_set:∀(Q:List Ev) (i:Nat) (o o':Ev),Q[i]?=some o→o'.id=o.id→evs (Q.set i o')=(evs Q).set (i*2+1) (.slice o'.a o'.len o'.cap)
 | [],i,o,o',h,_=>by simp at h
 | q::Q,0,o,o',h,e=>by
  simp only [List.getElem?_cons_zero,Option.some.injEq] at h
  subst h
  simp [evs,Ev.c,e]
 | q::Q,i+1,o,o',h,e=>by
  have h9:=evs_set Q i o o' (by simpa using h) e
  have e1:evs (q::Q)=q.c++evs Q:=rfl
  have e2:evs ((q::Q).set (i+1) o')=q.c++evs (Q.set i o'):=rfl
  have e3:q.c.length=2:=rfl
  rw [e1,e2,h9,List.set_append_right _ _ (by rw [e3];omega),e3]
  congr 2
  omega
section
variable {w w' V X:World}{base:Nat}{M:Mh}{r:Rm}{a1:Option Addr}{c1:Nat}{Q1:List Ev}{a2:Option Addr}{c2:Nat}{a3:Option Addr}{c3:Nat}{Q3:List Ev}
theorem Mx.setL (h:Mx w base M r a1 c1 Q1 a2 c2 a3 c3 Q3){i:Nat}{o:Ev}{v:Int×List Cp}(hi:Q3[i]?=some o)(hv:r.P[i]?=some v){g:Nat}(hg:a3=some ⟨g,0,none⟩)(K:List Cp){ao:Option Addr}{co:Nat}(ho:Ow w base 38 3 ao K.length co (caps K))(hap:∀j,Blk ao j→¬MxN M a1 Q1 a2 a3 Q3 j∧¬Blk M.da j) :
  Mx (w.setCell ⟨g,i*2+1,none⟩ (.slice ao K.length co)) base M { r with P:=r.P.set i (v.1,K) } a1 c1 Q1 a2 c2 a3 c3 (Q3.set i ⟨o.id,caps K,K.length,ao,co⟩)∧But (fun j=>j=g) w (w.setCell ⟨g,i*2+1,none⟩ (.slice ao K.length co))∧(∀j,MxN M a1 Q1 a2 a3 (Q3.set i ⟨o.id,caps K,K.length,ao,co⟩) j→MxN M a1 Q1 a2 a3 Q3 j∨Blk ao j):=by
 have hb:But (fun j=>j=g) w (w.setCell ⟨g,i*2+1,none⟩ (.slice ao K.length co)):=But.setCell (S:=fun j=>j=g) (But.refl _ _) (p:=⟨g,i*2+1,none⟩) rfl _
 have hgB:Blk a3 g:=⟨_,hg,rfl⟩
 have hgM:g≠M.b:=h.nb g (.inr (.inr (.inl hgB)))
 have hil:=(List.getElem?_eq_some_iff.1 hi).1
 have hN:∀j,Two.B a3 (Q3.set i ⟨o.id,caps K,K.length,ao,co⟩) j→Two.B a3 Q3 j∨Blk ao j:=fun j hj=>by
  rcases hj with hj|⟨p,hp,hj⟩
  ·exact .inl (.inl hj)
  ·rcases List.mem_or_eq_of_mem_set hp with hp|rfl
   ·exact .inl (.inr ⟨p,hp,hj⟩)
   ·exact .inr hj
 obtain⟨e,he,_,hei,_,_⟩:=key_at h.pk hv
 have heo:e=o:=by rw [hi] at he;exact (Option.some.inj he).symm
 subst heo
 have hT:Two (w.setCell ⟨g,i*2+1,none⟩ (.slice ao K.length co)) base 65 38 3 a3 (r.P.set i (v.1,K)).length c3 (Q3.set i ⟨e.id,caps K,K.length,ao,co⟩):=by
  refine⟨?_,by rw [List.length_set,List.length_set];exact h.ps.len,fun p hp=>?_,?_,fun p hp j h1 h2=>?_⟩
  ·rw [evs_set Q3 i e ⟨e.id,caps K,K.length,ao,co⟩ hi rfl,List.length_set]
   have h9:=h.ps.row
   rw [hg] at h9 ⊢
   exact h9.set1 (i*2+1) _
  ·rcases List.mem_or_eq_of_mem_set hp with hp|rfl
   ·exact (h.ps.each p hp).but hb (fun j hj e2=>h.ps.top p hp j hj (e2 ▸ hgB))
   ·exact ho.but hb (fun j hj e2=>(hap j hj).1 (.inr (.inr (.inr (.inl (e2 ▸ hgB))))))
  ·rw [List.pairwise_iff_getElem]
   have hp:=List.pairwise_iff_getElem.1 h.ps.ap
   intro k l hk hl hkl j h1 h2
   have hk2:k<Q3.length:=by rw [List.length_set] at hk;exact hk
   have hl2:l<Q3.length:=by rw [List.length_set] at hl;exact hl
   rw [List.getElem_set] at h1 h2
   by_cases e1:i=k
   ·rw [if_pos e1] at h1
    rw [if_neg (by omega)] at h2
    exact (hap j h1).1 (.inr (.inr (.inr (.inr ⟨Q3[l],List.getElem_mem hl2,h2⟩))))
   ·rw [if_neg e1] at h1
    by_cases e2:i=l
    ·rw [if_pos e2] at h2
     exact (hap j h2).1 (.inr (.inr (.inr (.inr ⟨Q3[k],List.getElem_mem hk2,h1⟩))))
    ·rw [if_neg e2] at h2
     exact hp k l hk2 hl2 hkl j h1 h2
  ·rcases List.mem_or_eq_of_mem_set hp with hp|rfl
   ·exact h.ps.top p hp j h1 h2
   ·exact (hap j h1).1 (.inr (.inr (.inr (.inl h2))))
 have hbx:R.Bx (w.setCell ⟨g,i*2+1,none⟩ (.slice ao K.length co)) M.b (moL M { r with P:=r.P.set i (v.1,K) } a1 c1 a2 c2 a3 c3):=by
  have e9:moL M { r with P:=r.P.set i (v.1,K) } a1 c1 a2 c2 a3 c3=moL M r a1 c1 a2 c2 a3 c3:=by unfold moL;simp only [List.length_set]
  rw [e9]
  exact R.Bx.but hb h.box (fun e=>hgM e.symm)
 obtain⟨h5,h6⟩:=h.prow (P:=r.P.set i (v.1,K)) (V:=w.setCell ⟨g,i*2+1,none⟩ (.slice ao K.length co)) (X:=w.setCell ⟨g,i*2+1,none⟩ (.slice ao K.length co)) (hb.mono (fun j e=>.inl (e ▸ hgB))) (But.refl _ _) hbx hT (by
  rw [List.map_set,List.map_set,h.pk]
  congr 1
  show (e.id,caps K,K.length)=(v.1,caps K,K.length)
  rw [hei]
  rfl) (fun j hj=>by
  rcases hN j hj with e1|e1
  ·exact .inl e1
  ·exact .inr (hap j e1)) (by rw [List.length_set];exact h.sm.2.2)
 refine⟨h5,hb,fun j hj=>?_⟩
 rcases hj with e1|hj|hj|hj
 ·exact .inl (.inl e1)
 ·exact .inl (.inr (.inl hj))
 ·exact .inl (.inr (.inr (.inl hj)))
 ·rcases hN j hj with e1|e1
  ·exact .inl (.inr (.inr (.inr e1)))
  ·exact .inr e1
theorem setN_set {P:List (Int×List Cp)}(hr:P.Pairwise (fun a b=>a.1<b.1)){i:Nat}{v:Int×List Cp}(hv:P[i]?=some v)(K:List Cp):setN P v.1 K=P.set i (v.1,K):=by
 unfold setN
 apply List.ext_getElem?
 intro j
 rw [List.getElem?_map,List.getElem?_set]
 obtain⟨h1,h2⟩:=List.getElem?_eq_some_iff.1 hv
 by_cases e:i=j
 ·subst e
  rw [if_pos rfl,if_pos h1,hv]
  simp
 ·rw [if_neg e]
  cases hj:P[j]? with
  | none=>rfl
  | some u =>
   obtain⟨h3,h4⟩:=List.getElem?_eq_some_iff.1 hj
   have hp:=List.pairwise_iff_getElem.1 hr
   have hne:u.1≠v.1:=by
    rcases Nat.lt_or_gt_of_ne e with h5|h5
    ·have:=hp i j h1 h3 h5;rw [h2,h4] at this;omega
    ·have:=hp j i h3 h1 h5;rw [h2,h4] at this;omega
   simp [hne]
theorem lstN_is {P:List (Int×List Cp)}(hr:P.Pairwise (fun a b=>a.1<b.1)){v:Int×List Cp}(hv:v∈P):lstN P v.1=v.2:=by
 unfold lstN
 rw [find_mem Prod.fst hr v hv]
 rfl
end
end Go.Proofs.YtffmodpgddecnaaGreat.V.E
