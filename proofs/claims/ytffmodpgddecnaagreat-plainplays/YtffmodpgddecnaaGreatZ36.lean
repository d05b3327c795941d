import Derived.Test.YtffmodpgddecnaaGreatZ35
set_option linter.unusedVariables false
set_option linter.unusedSimpArgs false
namespace Go.Proofs.YtffmodpgddecnaaGreat.V.E
open Go.RowKit Go.Maps
open Go.Proofs.YtffmodpgddecnaaGreat.H (B64 Cp)
open Go.Proofs.YtffmodpgddecnaaGreat.M (okI atC pickE pickL)
section
variable {w w':World}{base:Nat}{M:Mh}{r:Rm}{a1:Option Addr}{c1:Nat}{Q1:List Ev}{a2:Option Addr}{c2:Nat}{a3:Option Addr}{c3:Nat}{Q3:List Ev}
theorem cr_but {S:Nat→Prop}{k:Nat}{a:Option Addr}{n c:Nat}{L:List Value}(h:Cr w k a n c L)(hb:But S w w')(hn:∀j,Blk a j→¬S j):Cr w' k a n c L :=
 ⟨h.len,h.none_,fun x hx j u hu=>cell_but hb (h.cells x hx j u hu) (by rw [add_block];exact hn _ ⟨x,hx,rfl⟩),h.one⟩
theorem neqWd (a b c d:Nat)(w:World):(binOp .neq 36 (.agg #[.int .u64 (a:Int),.int .u64 (b:Int)]) (.agg #[.int .u64 (c:Int),.int .u64 (d:Int)])).run Tryz.prog w=.ok (.bool (!decide (a=c∧b=d))) w:=by
 by_cases h1:a=c
 ·subst h1
  by_cases h2:b=d
  ·subst h2;simp [go_sem]
  ·have h3:¬(b:Int)=(d:Int):=by omega
   simp [go_sem,h2,h3]
 ·have h3:¬(a:Int)=(c:Int):=by omega
  simp [go_sem,h1,h3]
def adK (p:Pm)(r:Rm)(pi:Nat)(pv:Int×List Cp)(c:Cp):Rep×Rm:=if fitB p.W c=false then (rep 18,r) else if p.lm≤(pv.2.length:Int) then (rep 14,r) else (rep 0,{ r with P:=r.P.set pi (pv.1,pv.2++[c]) })
abbrev E0:Obj:=.cells #[] 38
abbrev C0 (c:Cp):Obj:=.cells #[.int .i64 c.1,.int .u64 (c.2.1:Int),.int .u64 (c.2.2:Int)] 38
theorem app_two {u X:World}{ge gc:Nat}{la:Option Addr}{ln lc:Nat}{K:List Cp}{c:Cp}(hX:Below u.heap.size u X)(he:Ow X u.heap.size 38 3 (some ⟨ge,0,none⟩) 0 0 [])(hK:Cr X 3 la ln lc (caps K))(hc:Cr X 3 (some ⟨gc,0,none⟩) 1 1 (encC c))(hg:gc≠ge)(hln:ln≤32) :
  ∃a1 c1 X1 a2 c2 X2,(Builtin.append_ #[63,63] 63 #[.slice (some ⟨ge,0,none⟩) 0 0,.slice la ln lc]).run Tryz.prog X=.ok (.slice a1 ln c1) X1∧(Builtin.append_ #[63,63] 63 #[.slice a1 ln c1,.slice (some ⟨gc,0,none⟩) 1 1]).run Tryz.prog X1=.ok (.slice a2 (ln+1) c2) X2∧Below u.heap.size u X1∧Below u.heap.size u X2∧Ow X2 u.heap.size 38 3 a2 (ln+1) c2 (caps (K++[c])):=by
 obtain⟨a1,c1,X1,hr1,hO1,hG1⟩:=append_k 63 38 _ 3 24 Tryz.underlying63 infoEC rfl (by omega) (by omega) he hK hX.size (by omega)
 rw [Nat.zero_add] at hr1 hO1
 rw [List.nil_append] at hO1
 have hge:∀j,Blk (some ⟨ge,0,none⟩) j→u.heap.size≤j:=fun j hj=>(Ow.blk he j hj).1
 have hX1:=But.below hX hG1.but hge
 have hc1:=cr_but hc hG1.but (fun j hj e=>hg (by obtain⟨x,hx,rfl⟩:=hj;obtain⟨y,hy,hyx⟩:=e;cases hx;cases hy;exact hyx.symm))
 obtain⟨a2,c2,X2,hr2,hO2,hG2⟩:=append_k 63 38 _ 3 24 Tryz.underlying63 infoEC rfl (by omega) (by omega) hO1 hc1 hX1.size (by omega)
 refine⟨a1,c1,X1,a2,c2,X2,hr1,hr2,hX1,But.below hX1 hG2.but (fun j hj=>(Ow.blk hO1 j hj).1),?_⟩
 rw [capA]
 have:caps [c]=encC c:=by simp [caps]
 rw [this]
 exact hO2
theorem app_lit {u X:World}{ge:Nat}{la:Option Addr}{ln lc:Nat}{K:List Cp}(c:Cp)(hX:Below u.heap.size u X)(he:Ow X u.heap.size 38 3 (some ⟨ge,0,none⟩) 0 0 [])(hK:Cr X 3 la ln lc (caps K))(hln:ln≤32) :
  ∃a1 c1 X1 a2 c2 X2,(Builtin.append_ #[63,63] 63 #[.slice (some ⟨ge,0,none⟩) 0 0,.slice la ln lc]).run Tryz.prog X=.ok (.slice a1 ln c1) X1∧(Builtin.append_ #[63,63] 63 #[.slice a1 ln c1,.slice (some ⟨X1.heap.size,0,none⟩) 1 1]).run Tryz.prog (X1.alloc (C0 c))=.ok (.slice a2 (ln+1) c2) X2∧Below u.heap.size u X1∧Below u.heap.size u X2∧Ow X2 u.heap.size 38 3 a2 (ln+1) c2 (caps (K++[c])):=by
 obtain⟨a1,c1,X1,hr1,hO1,hG1⟩:=append_k 63 38 _ 3 24 Tryz.underlying63 infoEC rfl (by omega) (by omega) he hK hX.size (by omega)
 rw [Nat.zero_add] at hr1 hO1
 rw [List.nil_append] at hO1
 have hX1:=But.below hX hG1.but (fun j hj=>(Ow.blk he j hj).1)
 have hb:=below_call hX1 (below1 X1 (C0 c))
 obtain⟨a2,c2,X2,hr2,hO2,hG2⟩:=append_k 63 38 _ 3 24 Tryz.underlying63 infoEC rfl (by omega) (by omega) (Ow.later hO1 (below1 X1 (C0 c))) (Cr.lit X1 38 (encC c) (by simp [encC,Value.oneCell'])) hb.size (by omega)
 refine⟨a1,c1,X1,a2,c2,X2,hr1,hr2,hX1,But.below hb hG2.but (fun j hj=>(Ow.blk hO1 j hj).1),?_⟩
 rw [capA]
 have:caps [c]=encC c:=by simp [caps]
 rw [this]
 exact hO2
set_option maxRecDepth 100000 in
set_option maxHeartbeats 4000000 in
theorem rdo_add (h:Mx w base M r a1 c1 Q1 a2 c2 a3 c3 Q3)(hbs:base≤w.heap.size)(hf:RF M.p r)(hcf:M.C.may=true){cl:R.Cl}{dd gg:R.Sl}(hi:R.Is w cl dd gg)(hgf:Fl w gg.a (ints cl.gifts))(hfm:R.fm cl=true)(hop:cl.op=7){pi:Nat}{pv:Int×List Cp}(hix:ixF (isP cl.by_) r.P=(pi:Int))(hpi:r.P[pi]?=some pv):Calls Tryz.prog 8 #[.pointer (some ⟨M.b,0,none⟩),.agg (R.cC cl dd gg).toArray] w (RmP w base M (MxN M a1 Q1 a2 a3 Q3) (adK M.p r pi pv (cpO cl))):=by
 obtain⟨W,hW⟩:∃W,W=(w.alloc (Obj.cells (R.cC cl dd gg).toArray 45)).alloc z6:=⟨_,rfl⟩
 have hB:Below w.heap.size w W:=by rw [hW];exact below2 _ _ _
 have hXc:R.Bx W w.heap.size (R.cC cl dd gg):=by rw [hW];exact R.Bx.later (below1 _ _) (R.Bx.new w (R.cC cl dd gg) 45)
 have hZ:Zr W (w.heap.size+1):=by rw [hW];have:=Zr.new (w.alloc (Obj.cells (R.cC cl dd gg).toArray 45));simpa using this
 have HP0:=hid (Pg.start h hB hZ (Nat.le_succ _))
 have HN:Hid (∀j,MxN M a1 Q1 a2 a3 Q3 j→j<w.heap.size):=fun j hj=>(h.rng j hj).2
 have HD:=hid h.dl
 have HW:=hid hW
 have HB:=hid hB
 have HX:=hid h
 have HBs:=hid hbs
 have HXc:=hid hXc
 have HF:=hid hf
 have HCf:=hid hcf
 have HIs:=hid hi
 have HFm:=hid hfm
 have HPi:=hid hpi
 have HLd:=hid (ldC hXc)
 have HIc:=hid (ris_any (w:=W) (cl:=cl) (dd:=dd) (gg:=gg) (by have:=hi.data.len;omega) (by have:=hi.gifts.len;omega) (hgf.later hB))
 rw [hfm] at HIc
 have HPr:Hid (∀U:World,Below W.heap.size W U→Calls Tryz.prog 19 #[.pointer (some ⟨M.b,0,none⟩),.int .i64 cl.by_] U fun e w'=>e=.returned (.int .i64 (pi:Int))∧Below U.heap.size U w'):=fun U hU=>by
  have:=rproc_any (h.mr.later (below_call hB hU)) cl.by_
  rw [hix] at this
  exact this
 have hC:∀U:World,Below W.heap.size W U→U.cell? ⟨w.heap.size,0,none⟩=some (.int .i64 7)∧U.cell? ⟨w.heap.size,1,none⟩=some (.int .i64 cl.by_)∧U.cell? ⟨w.heap.size,2,none⟩=some (.int .i64 cl.size):=fun U hU=>by
  have hx:=R.Bx.later hU hXc
  exact⟨by rw [←hop];exact hx.cell 0 rfl,hx.cell 1 rfl,hx.cell 2 rfl⟩
 have HC:=hid hC
 have hd0:decide ((pi:Int)<0)=false:=decide_eq_false (by omega)
 obtain⟨Qq,hQ⟩:∃Qq,Qq=adK M.p r pi pv (cpO cl):=⟨_,rfl⟩
 rw [←hQ]
 have HQ:=hid hQ
 clear h hbs hf hcf hi hgf hfm hW hB hZ hXc hC hix hpi hQ
 go_enter Tryz.func8,Tryz.ntmps8
 go_upto_region 1 with fail
 rw [←HW.out]
 go_upto_region 3 with (first|((with_reducible refine R.ld_arm HLd.out ?_ ?_);(· rfl))|(go_at_call 17;refine HIc.out.mono ?_;rintro e w1 ⟨rfl,hb1⟩;have HB1:=hid hb1;clear hb1))
 obtain⟨z0,z1,-⟩:=HC.out w1 HB1.out
 go_upto_region 6 with (first|(go_at_call 19;refine (HPr.out w1 HB1.out).mono ?_;rintro e w2 ⟨rfl,hb2⟩;have HB2:=hid (below_call HB1.out hb2);clear hb2))
 clear z0 z1 hd0 HB1
 obtain⟨z0,-,z2⟩:=HC.out w2 HB2.out
 have HP2:=hid (HP0.out.later HB2.out)
 have HLd2:=hid (ldC (R.Bx.later HB2.out HXc.out))
 have hbs2:base≤w2.heap.size:=Nat.le_trans HBs.out HP2.out.bt.size
 obtain⟨e3,he3,he3m,he3i,he3v,he3l⟩:=key_at HX.out.pk HPi.out
 have hpn:=(List.getElem?_eq_some_iff.1 HPi.out).1
 obtain⟨g3,hg3,hgc⟩:=Ow.at_ HX.out.ps.row (by omega)
 have hg31:w.cell? ⟨g3,pi*2+1,none⟩=some (.slice e3.a e3.len e3.cap):=hgc _ _ (evs_at Q3 pi e3 he3 1 (by omega))
 obtain⟨nP,hnP⟩:∃n,n=r.P.length:=⟨_,rfl⟩
 obtain⟨la,hla⟩:∃la,la=e3.a:=⟨_,rfl⟩
 obtain⟨lc,hlc⟩:∃lc,lc=e3.cap:=⟨_,rfl⟩
 obtain⟨ln,hln⟩:∃ln,ln=pv.2.length:=⟨_,rfl⟩
 have he3l2:e3.len=ln:=by rw [he3l,hln];rfl
 rw [←hla,←hlc,he3l2] at hg31
 have hOl:=HX.out.ps.each e3 he3m
 rw [←hla,←hlc,he3l2,he3v] at hOl
 have hOl:Ow w base 38 3 la ln lc (caps pv.2):=hOl
 have HOl:=hid hOl
 have hB2:=below_call HB.out HB2.out
 have m14:w2.cell? ⟨M.b,14,none⟩=some (.slice (some ⟨g3,0,none⟩) nP c3):=by rw [hnP,←hg3];exact (R.Bx.later hB2 HX.out.box).cell 14 rfl
 have p31:w2.cell? ⟨g3,pi*2+1,none⟩=some (.slice la ln lc):=cell_later hB2 hg31
 have hpl:ln≤32:=by rw [hln];exact HF.out.pl pv (List.mem_of_getElem? HPi.out)
 have hpi2:(pi:Int)<(nP:Int):=by omega
 have h0pi:(0:Int)≤(pi:Int):=by omega
 have HnP:=hid hnP
 have Hln:=hid hln
 have Hhg3:=hid hg3
 have HE3:=hid he3
 have hcm:=Cf.may_iff.1 HCf.out
 have hhi:=HIs.out.hi
 have hlo:=HIs.out.lo
 obtain⟨cl_,hcl⟩:∃n:Nat,M.C.l=(n:Int):=⟨M.C.l.toNat,by omega⟩
 have H18:Hid (∀U:World,Below w2.heap.size w2 U→U.cell? ⟨w.heap.size,4,none⟩=some (.int .u64 (cl.hi:Int))∧U.cell? ⟨w.heap.size,5,none⟩=some (.int .u64 (cl.lo:Int))∧U.cell? ⟨M.b,0,none⟩=some (.int .i64 M.C.W)):=fun U hU=>⟨(R.Bx.later (below_call HB2.out hU) HXc.out).cell 4 rfl,(R.Bx.later (below_call HB2.out hU) HXc.out).cell 5 rfl,(R.Bx.later (below_call hB2 hU) HX.out.box).cell 0 rfl⟩
 have Hm14:Hid (∀U:World,Below w2.heap.size w2 U→U.cell? ⟨M.b,14,none⟩=some (.slice (some ⟨g3,0,none⟩) nP c3)∧U.cell? ⟨w.heap.size,3,none⟩=some (.int .i64 cl.obj)∧U.cell? ⟨w.heap.size,4,none⟩=some (.int .u64 (cl.hi:Int))∧U.cell? ⟨w.heap.size,5,none⟩=some (.int .u64 (cl.lo:Int))∧U.cell? ⟨g3,pi*2+1,none⟩=some (.slice la ln lc)∧U.cell? ⟨M.b,6,none⟩=some (.int .i64 (cl_:Int))):=fun U hU=>⟨cell_later hU m14,(R.Bx.later (below_call HB2.out hU) HXc.out).cell 3 rfl,(R.Bx.later (below_call HB2.out hU) HXc.out).cell 4 rfl,(R.Bx.later (below_call HB2.out hU) HXc.out).cell 5 rfl,cell_later hU p31,by rw [←hcl];exact (R.Bx.later (below_call hB2 hU) HX.out.box).cell 6 rfl⟩
 obtain⟨Nn,hNn⟩:∃Nn,Nn=cl.hi*B64+cl.lo:=⟨_,rfl⟩
 have hIs:D.IsW cl.hi cl.lo Nn:=⟨hhi,hlo,hNn⟩
 obtain⟨ch,hch⟩:∃ch,ch=D.cutN Nn M.C.W / B64:=⟨_,rfl⟩
 obtain⟨cw,hcw⟩:∃cw,cw=D.cutN Nn M.C.W%B64:=⟨_,rfl⟩
 have hIc:D.IsW ch cw (D.cutN Nn M.C.W):=by rw [hch,hcw];exact D.IsW.of (Nat.lt_of_le_of_lt (Nat.mod_le _ _) hIs.lt)
 have HCu:Hid (∀U:World,Calls Tryz.prog 24 #[.agg #[.int .u64 (cl.hi:Int),.int .u64 (cl.lo:Int)],.int .i64 M.C.W] U fun e w'=>e=.returned (.agg #[.int .u64 (ch:Int),.int .u64 (cw:Int)])∧Below U.heap.size U w'):=fun U=>by
  refine (rcut_any _ _ Nn M.C.W hIs hcm.1 U).mono ?_
  rintro e w' ⟨c,d,rfl,hcd,hb⟩
  have h9:=D.IsV.of hIc
  exact⟨by rw [hcd.hi,hcd.lo,h9.hi,h9.lo],hb⟩
 obtain⟨fb,hfb⟩:∃fb,fb=fitB M.C.W (cpO cl):=⟨_,rfl⟩
 have heq:∀U:World,(binOp .neq 36 (.agg #[.int .u64 (ch:Int),.int .u64 (cw:Int)]) (.agg #[.int .u64 (cl.hi:Int),.int .u64 (cl.lo:Int)])).run Tryz.prog U=.ok (.bool (!fb)) U:=fun U=>by
  rw [neqWd]
  congr 3
  rw [hfb]
  unfold fitB
  rw [decide_eq_true (show 1≤M.C.W by omega),Bool.true_and]
  have h9:=D.IsW.eq_iff hIc hIs
  have e9:(cpO cl).2.1*B64+(cpO cl).2.2=Nn:=hNn.symm
  rw [e9]
  exact decide_eq_decide.2 h9.symm
 have HQ:Hid (Qq=if fb=false then (rep 18,r) else if (cl_:Int)≤(ln:Int) then (rep 14,r) else (rep 0,{ r with P:=r.P.set pi (pv.1,pv.2++[cpO cl]) })):=by
  unfold Hid
  rw [HQ.out]
  unfold adK
  have e1:M.p.lm=M.C.l:=rfl
  have e2:M.p.W=M.C.W:=rfl
  rw [e1,e2,←Hln.out,hcl,hfb]
 clear hla hlc he3 he3m he3i he3v he3l hgc hg31 he3l2 hOl hB2 hpn z2 hnP hln hg3 hIs hIc hch hcw hNn hfb hcl hcm hhi hlo m14 p31
 go_upto_region 18 with fail
 clear z0
 go_cut [61] (fun v U=>v=.bool (!fb)∧Hid (Below w2.heap.size w2 U))
 case first =>
  go_region_held3 (fun U=>U.cell? ⟨w.heap.size,4,none⟩=some (.int .u64 (cl.hi:Int))∧U.cell? ⟨w.heap.size,5,none⟩=some (.int .u64 (cl.lo:Int))∧U.cell? ⟨M.b,0,none⟩=some (.int .i64 M.C.W)) (first|exact H18.out _ (Below.refl _ _).drew|exact H18.out _ HB5.out) (first|(go_at_call 24;(with_reducible refine (HCu.out w2.drew).mono ?_);rintro e w5 ⟨rfl,hb5⟩;have HB5:Hid (Below w2.heap.size w2 w5):=below_call (Below.refl w2.heap.size w2).drew hb5;clear hb5))
  all_goals (try go_wp2)
  all_goals go_meet
  all_goals exact⟨rfl,HB5.out⟩
 case rest =>
 rename World=>v3
 obtain⟨rfl,HB3⟩:=hcut
 cases fb with
 | false =>
  obtain rfl:Qq=(rep 18,r):=by rw [HQ.out,if_pos rfl]
  have HEv:=hid (HP2.out.later HB3.out).e
  simp only [Bool.not_false]
  have HR_:=hid (rrefused_any 18 v3)
  go_wp2_with (first|(go_at_call 18;refine HR_.out.mono ?_;rintro e w9 ⟨rfl,hb9⟩;have HE9:=hid (HEv.out.later hb9);have HZ9:=hid HE9.out.z;have HS9:=hid (HZ9.out.st (rep 18) none 0 0);have HL9:=hid (HZ9.out.lv (rep 18) none 0 0);clear hb9)|((with_reducible refine st_arm HS9.out ?_ ?_ ?_);(· rfl);(· rfl)))
  exact bodyPost_ret (v:=rpV (rep 18) none 0 0) (by simp [results,Tryz.results8,asAddr,HL9.out]) rfl (HE9.out.fin (Nat.le_succ _) HN.out HD.out (rep 18) rfl)
 | true =>
 have HQ:=hid (HQ.out.trans (if_neg (by decide)))
 simp only [Bool.not_true]
 go_upto_region 20 with fail
 obtain⟨m14,-,-,-,p31,m6⟩:=Hm14.out v3 HB3.out
 by_cases h1:cl_≤ln
 ·obtain rfl:Qq=(rep 14,r):=by rw [HQ.out,if_pos (by omega)]
  have hd1:decide ((ln:Int)≥(cl_:Int))=true:=decide_eq_true (by omega)
  have hd1n:decide (cl_≤ln)=true:=decide_eq_true h1
  clear h1
  go_quiet (fail)
  obtain⟨v4,hv4⟩:∃v4,v4=v3.drewN nq:=⟨_,rfl⟩
  have HEv:=hid ((HP2.out.later HB3.out).later (V:=v4) (by rw [hv4];exact below_drewN (Below.refl _ _) _)).e
  rw [←hv4]
  clear hv4
  have HR_:=hid (rrefused_any 14 v4)
  go_wp2_with (first|(go_at_call 18;refine HR_.out.mono ?_;rintro e w9 ⟨rfl,hb9⟩;have HE9:=hid (HEv.out.later hb9);have HZ9:=hid HE9.out.z;have HS9:=hid (HZ9.out.st (rep 14) none 0 0);have HL9:=hid (HZ9.out.lv (rep 14) none 0 0);clear hb9)|((with_reducible refine st_arm HS9.out ?_ ?_ ?_);(· rfl);(· rfl)))
  exact bodyPost_ret (v:=rpV (rep 14) none 0 0) (by simp [results,Tryz.results8,asAddr,HL9.out]) rfl (HE9.out.fin (Nat.le_succ _) HN.out HD.out (rep 14) rfl)
 have HQ:=hid (HQ.out.trans (if_neg (by omega)))
 have hd1:decide ((ln:Int)≥(cl_:Int))=false:=decide_eq_false (by omega)
 have hd1n:decide (cl_≤ln)=false:=decide_eq_false h1
 clear h1
 go_quiet (fail)
 obtain⟨u,hu⟩:∃u,u=v3.drewN nq:=⟨_,rfl⟩
 have HB4:Hid (Below w2.heap.size w2 u):=by rw [hu];exact below_drewN HB3.out _
 rw [←hu]
 clear hu m14 p31 m6 HB3
 go_upto_region 22 with fail
 clear hd1 hd1n heq HCu H18
 have HPu:=hid (HP2.out.later HB4.out)
 have hwu:=below_call (below_call HB.out HB2.out) HB4.out
 have H22:Hid (∀U:World,Below u.heap.size u U→U.cell? ⟨M.b,14,none⟩=some (.slice (some ⟨g3,0,none⟩) nP c3)∧U.cell? ⟨w.heap.size,3,none⟩=some (.int .i64 cl.obj)∧U.cell? ⟨w.heap.size,4,none⟩=some (.int .u64 (cl.hi:Int))∧U.cell? ⟨w.heap.size,5,none⟩=some (.int .u64 (cl.lo:Int))):=fun U hU=>by obtain⟨t1,t2,t3,t4,-⟩:=Hm14.out U (below_call HB4.out hU);exact⟨t1,t2,t3,t4⟩
 have hP31:∀U:World,Below u.heap.size u U→U.cell? ⟨g3,pi*2+1,none⟩=some (.slice la ln lc):=fun U hU=>(Hm14.out U (below_call HB4.out hU)).2.2.2.2.1
 have hCrK:∀U:World,Below u.heap.size u U→Cr U 3 la ln lc (caps pv.2):=fun U hU=>cr_later (ow_cr HOl.out (caps_ones _)) (below_call hwu hU)
 have heA:Ow (u.alloc E0).drew u.heap.size 38 3 (some ⟨u.heap.size,0,none⟩) 0 0 []:=Ow.later (w:=u.alloc E0) ⟨by simp,.inr ⟨u.heap.size,0,#[],rfl,Nat.le_refl _,heap_alloc_new u _,Nat.le_refl _,by unfold maxLen;omega,rfl,rfl⟩⟩ (Below.refl _ _).drew
 obtain⟨aA,cA,X1A,aA2,cA2,X2A,hrA1,hrA2,hA14,hA18,hOA⟩:=app_lit (cpO cl) (below1 u E0).drew heA (hCrK _ (below1 u E0).drew) hpl
 have hlitB:Cr ((u.alloc E0).alloc (C0 (cpO cl))).drew 3 (some ⟨u.heap.size+1,0,none⟩) 1 1 (encC (cpO cl)):=by
  have h9:=cr_later (Cr.lit (u.alloc E0) 38 (encC (cpO cl)) (by simp [encC,Value.oneCell'])) (w':=((u.alloc E0).alloc (C0 (cpO cl))).drew) (Below.refl _ _).drew
  rw [show (u.alloc E0).heap.size=u.heap.size+1 by simp] at h9
  exact h9
 obtain⟨aB,cB,X1B,aB2,cB2,X2B,hrB1,hrB2,hB14,hB18,hOB⟩:=app_two (below2 u E0 (C0 (cpO cl))).drew (Ow.later heA (w':=((u.alloc E0).alloc (C0 (cpO cl))).drew) (below1 (u.alloc E0).drew (C0 (cpO cl)))) (hCrK _ (below2 u E0 (C0 (cpO cl))).drew) hlitB (by omega) hpl
 have hlitC:Cr ((u.alloc (C0 (cpO cl))).alloc E0).drew 3 (some ⟨u.heap.size,0,none⟩) 1 1 (encC (cpO cl)):=cr_later (Cr.lit u 38 (encC (cpO cl)) (by simp [encC,Value.oneCell'])) (w':=((u.alloc (C0 (cpO cl))).alloc E0).drew) (below1 (u.alloc (C0 (cpO cl))) E0).drew
 have heC:Ow ((u.alloc (C0 (cpO cl))).alloc E0).drew u.heap.size 38 3 (some ⟨u.heap.size+1,0,none⟩) 0 0 []:=by
  have h9:Ow ((u.alloc (C0 (cpO cl))).alloc E0) (u.alloc (C0 (cpO cl))).heap.size 38 3 (some ⟨(u.alloc (C0 (cpO cl))).heap.size,0,none⟩) 0 0 []:=⟨by simp,.inr ⟨(u.alloc (C0 (cpO cl))).heap.size,0,#[],rfl,Nat.le_refl _,heap_alloc_new _ _,Nat.le_refl _,by unfold maxLen;omega,rfl,rfl⟩⟩
  have h10:=Ow.later (Ow.mono h9 (b:=u.heap.size) (by simp)) (w':=((u.alloc (C0 (cpO cl))).alloc E0).drew) (Below.refl _ _).drew
  simpa using h10
 obtain⟨aC,cC,X1C,aC2,cC2,X2C,hrC1,hrC2,hC14,hC18,hOC⟩:=app_two (below2 u (C0 (cpO cl)) E0).drew heC (hCrK _ (below2 u (C0 (cpO cl)) E0).drew) hlitC (by omega) hpl
 have y0:=hP31 u (Below.refl _ _)
 have y1:=hP31 (u.alloc (Obj.cells #[] 38)) (below1 _ _)
 have y2:=hP31 (u.alloc (Obj.cells #[.int .i64 cl.obj,.int .u64 (cl.hi:Int),.int .u64 (cl.lo:Int)] 38)) (below1 _ _)
 have y3:=hP31 ((u.alloc (Obj.cells #[] 38)).alloc (Obj.cells #[.int .i64 cl.obj,.int .u64 (cl.hi:Int),.int .u64 (cl.lo:Int)] 38)) (below2 _ _ _)
 have y4:=hP31 ((u.alloc (Obj.cells #[.int .i64 cl.obj,.int .u64 (cl.hi:Int),.int .u64 (cl.lo:Int)] 38)).alloc (Obj.cells #[] 38)) (below2 _ _ _)
 have yA:=hP31 X2A hA18
 have yB:=hP31 X2B hB18
 have yC:=hP31 X2C hC18
 have hfz:∀U:World,Below u.heap.size u U→U.frozen? ⟨g3,pi*2+1,none⟩=false:=fun U hU=>by
  have h9:=(HPu.out.later hU).x.ps.row
  rw [Hhg3.out] at h9
  exact h9.fr _
 have fA:=hfz X2A hA18
 have fB:=hfz X2B hB18
 have fC:=hfz X2C hC18
 have hMb:=HX.out.lt
 have hg3l:g3<w.heap.size:=HN.out g3 (.inr (.inr (.inr (.inl ⟨_,Hhg3.out,rfl⟩))))
 have hg3M:g3≠M.b:=HX.out.nb g3 (.inr (.inr (.inl ⟨_,Hhg3.out,rfl⟩)))
 have hS:∀(X:World) (v:Value),Below u.heap.size u X→(X.setCell ⟨g3,pi*2+1,none⟩ v).cell? ⟨M.b,14,none⟩=some (.slice (some ⟨g3,0,none⟩) nP c3)∧(X.setCell ⟨g3,pi*2+1,none⟩ v).cell? ⟨w.heap.size,3,none⟩=some (.int .i64 cl.obj)∧(X.setCell ⟨g3,pi*2+1,none⟩ v).cell? ⟨w.heap.size,4,none⟩=some (.int .u64 (cl.hi:Int))∧(X.setCell ⟨g3,pi*2+1,none⟩ v).cell? ⟨w.heap.size,5,none⟩=some (.int .u64 (cl.lo:Int)):=fun X v hX=>by
  have hb:But (fun j=>j=g3) X (X.setCell ⟨g3,pi*2+1,none⟩ v):=But.setCell (S:=fun j=>j=g3) (But.refl _ _) (p:=⟨g3,pi*2+1,none⟩) rfl _
  obtain⟨t1,t2,t3,t4⟩:=H22.out X hX
  exact⟨cell_but hb t1 (fun e=>hg3M e.symm),cell_but hb t2 (show ¬w.heap.size=g3 by omega),cell_but hb t3 (show ¬w.heap.size=g3 by omega),cell_but hb t4 (show ¬w.heap.size=g3 by omega)⟩
 have HSA:=hid (hS X2A (.slice aA2 (ln+1) cA2) hA18)
 have HSB:=hid (hS X2B (.slice aB2 (ln+1) cB2) hB18)
 have HSC:=hid (hS X2C (.slice aC2 (ln+1) cC2) hC18)
 have HA14:=hid hA14
 have HA18:=hid hA18
 have HB14:=hid hB14
 have HB18:=hid hB18
 have HC14:=hid hC14
 have HC18:=hid hC18
 have HOA:=hid hOA
 have HOB:=hid hOB
 have HOC:=hid hOC
 obtain rfl:Qq=_:=HQ.out
 have hfin:∀(X:World) (a9:Option Addr) (c9:Nat),Below u.heap.size u X→Ow X u.heap.size 38 3 a9 (ln+1) c9 (caps (pv.2++[cpO cl]))→Pg w (X.setCell ⟨g3,pi*2+1,none⟩ (.slice a9 (ln+1) c9)) base (w.heap.size+1) M (MxN M a1 Q1 a2 a3 Q3) { r with P:=r.P.set pi (pv.1,pv.2++[cpO cl]) } a1 c1 Q1 a2 c2 a3 c3 (Q3.set pi ⟨e3.id,caps (pv.2++[cpO cl]),ln+1,a9,c9⟩):=fun X a9 c9 hX hO=>by
  have Pu:=HPu.out.later hX
  have hlt9:=HPu.out.z.lt
  have hl9:ln+1=(pv.2++[cpO cl]).length:=by rw [List.length_append,←Hln.out];rfl
  have hwu2:=HPu.out.bt.size
  rw [hl9] at hO ⊢
  obtain⟨X9,hb9,hn9⟩:=Mx.setL Pu.x HE3.out HPi.out Hhg3.out (pv.2++[cpO cl]) (hO.mono (Nat.le_trans HBs.out hwu2)) (fun k hk=>Mx.new HX.out (by have:=(hO.blk k hk).1;omega))
  exact Pg.go2 Pu X9 hb9 (fun k hk=>.inr (.inr (.inr (.inl ⟨_,Hhg3.out,hk.symm⟩)))) (fun k hk=>(hn9 k hk).elim .inl (fun e=>.inr (by have:=(hO.blk k e).1;omega)))
 have PA:=hfin X2A aA2 cA2 hA18 hOA
 have PB:=hfin X2B aB2 cB2 hB18 hOB
 have PC:=hfin X2C aC2 cC2 hC18 hOC
 have HS9A:=hid (PA.z.st (rep 0) none 0 0)
 have HL9A:=hid (PA.z.lv (rep 0) none 0 0)
 have HR9A:=hid (PA.e.fin (Nat.le_succ _) HN.out HD.out (rep 0) rfl)
 have HS9B:=hid (PB.z.st (rep 0) none 0 0)
 have HL9B:=hid (PB.z.lv (rep 0) none 0 0)
 have HR9B:=hid (PB.e.fin (Nat.le_succ _) HN.out HD.out (rep 0) rfl)
 have HS9C:=hid (PC.z.st (rep 0) none 0 0)
 have HL9C:=hid (PC.z.lv (rep 0) none 0 0)
 have HR9C:=hid (PC.e.fin (Nat.le_succ _) HN.out HD.out (rep 0) rfl)
 clear PA PB PC hfin
 clear hA14 hA18 hB14 hB18 hC14 hC18 hOA hOB hOC hS hfz hP31 hCrK heA heC hlitB hlitC hwu
 refine wp_region_held_drew (S:=(fun U:World=>U.cell? ⟨M.b,14,none⟩=some (.slice (some ⟨g3,0,none⟩) nP c3)∧U.cell? ⟨w.heap.size,3,none⟩=some (.int .i64 cl.obj)∧U.cell? ⟨w.heap.size,4,none⟩=some (.int .u64 (cl.hi:Int))∧U.cell? ⟨w.heap.size,5,none⟩=some (.int .u64 (cl.lo:Int)))) (by kernel_rfl) (H22.out _ (Below.refl _ _).drew) (fun hHeld=>?_)
 refine nm 22 0 22 ?_
 refine tn 0 22 1 21 ?_
 simp only [zz]
 refine tn 1 22 3 20 ?_
 simp only [zz]
 refine tn 2 22 7 19 ?_
 simp only [zz]
 refine tn 3 22 15 18 ?_
 simp only [zz]
 refine tn 4 22 31 17 ?_
 simp only [zz]
 refine tn 6 22 95 16 ?_
 simp only [zz]
 refine tn 7 22 223 15 ?_
 simp only [zz]
 refine tn 8 22 479 14 ?_
 simp only [zz]
 refine tn 9 22 991 13 ?_
 simp only [zz]
 refine tn 10 22 2015 12 ?_
 simp only [zz]
 refine tn 11 22 4063 11 ?_
 simp only [zz]
 refine tn 12 22 8159 10 ?_
 simp only [zz]
 refine tn 15 22 40927 9 ?_
 simp only [zz]
 refine tn 16 22 106463 8 ?_
 simp only [zz]
 refine wpAnyH_ready (rs:=[5,13,17]) (by kernel_rfl) (by simp) ?_
 refine AllReadyH.cons rfl (fun K hK=>?_) ?_
 ·go_simp
  refine zk hK 22 106495 7 (H22.out _ (below1 _ _).drew) fun hHeld=>?_
  clear hK K
  try simp only [zz]
  refine wpAnyH_ready (rs:=[13,17]) (by kernel_rfl) (by simp) ?_
  refine AllReadyH.cons rfl (fun K hK=>?_) ?_
  ·go_simp
   refine zk hK 22 114687 6 (H22.out _ (below1 _ _).drew) fun hHeld=>?_
   clear hK K
   try simp only [zz]
   refine wpAnyH_ready (rs:=[14,17]) (by kernel_rfl) (by simp) ?_
   refine AllReadyH.cons rfl (fun K hK=>?_) ?_
   ·refine wp_app (.tmp 84) (.tmp 92) 63 rfl _ _ rfl rfl _ X1A hrA1 ?_
    refine zk hK 22 131071 5 (H22.out _ HA14.out) fun hHeld=>?_
    clear hK K
    try simp only [zz]
    refine zr 17 fun K hK=>?_
    go_simp
    refine zk hK 22 262143 4 (H22.out _ (below_call HA14.out (below1 _ _))) fun hHeld=>?_
    clear hK K
    try simp only [zz]
    refine zr 18 fun K hK=>?_
    refine wp_app (.tmp 93) (.tmp 96) 63 rfl _ _ rfl rfl _ X2A hrA2 ?_
    refine zk hK 22 524287 3 (H22.out _ HA18.out) fun hHeld=>?_
    clear hK K
    try simp only [zz]
    refine tn 19 22 1048575 2 ?_
    simp only [zz]
    refine tn 20 22 2097151 1 ?_
    simp only [zz]
    refine zr 21 fun K hK=>?_
    go_simp
    refine zk hK 22 4194303 0 (HSA.out) fun hHeld=>?_
    clear hK K
    try simp only [zz]
    refine zn ?_ _
    go_wp2_with (first|((with_reducible refine st_arm HS9A.out ?_ ?_ ?_);(· rfl);(· rfl)))
    exact bodyPost_ret (v:=rpV (rep 0) none 0 0) (by simp [results,Tryz.results8,asAddr,Act.put,HL9A.out]) rfl HR9A.out
   refine AllReadyH.cons rfl (fun K hK=>?_) AllReadyH.nil
   go_simp
   refine zk hK 22 245759 5 (H22.out _ (below2 _ _ _).drew) fun hHeld=>?_
   clear hK K
   try simp only [zz]
   refine zr 14 fun K hK=>?_
   refine wp_app (.tmp 84) (.tmp 92) 63 rfl _ _ rfl rfl _ X1B hrB1 ?_
   refine zk hK 22 262143 4 (H22.out _ HB14.out) fun hHeld=>?_
   clear hK K
   try simp only [zz]
   refine zr 18 fun K hK=>?_
   refine wp_app (.tmp 93) (.tmp 96) 63 rfl _ _ rfl rfl _ X2B hrB2 ?_
   refine zk hK 22 524287 3 (H22.out _ HB18.out) fun hHeld=>?_
   clear hK K
   try simp only [zz]
   refine tn 19 22 1048575 2 ?_
   simp only [zz]
   refine tn 20 22 2097151 1 ?_
   simp only [zz]
   refine zr 21 fun K hK=>?_
   go_simp
   refine zk hK 22 4194303 0 (HSB.out) fun hHeld=>?_
   clear hK K
   try simp only [zz]
   refine zn ?_ _
   go_wp2_with (first|((with_reducible refine st_arm HS9B.out ?_ ?_ ?_);(· rfl);(· rfl)))
   exact bodyPost_ret (v:=rpV (rep 0) none 0 0) (by simp [results,Tryz.results8,asAddr,Act.put,HL9B.out]) rfl HR9B.out
  refine AllReadyH.cons rfl (fun K hK=>?_) AllReadyH.nil
  go_simp
  refine zk hK 22 237567 6 (H22.out _ (below2 _ _ _).drew) fun hHeld=>?_
  clear hK K
  try simp only [zz]
  refine zr 13 fun K hK=>?_
  go_simp
  refine zk hK 22 245759 5 (H22.out _ (below2 _ _ _).drew) fun hHeld=>?_
  clear hK K
  try simp only [zz]
  refine zr 14 fun K hK=>?_
  refine wp_app (.tmp 84) (.tmp 92) 63 rfl _ _ rfl rfl _ X1B hrB1 ?_
  refine zk hK 22 262143 4 (H22.out _ HB14.out) fun hHeld=>?_
  clear hK K
  try simp only [zz]
  refine zr 18 fun K hK=>?_
  refine wp_app (.tmp 93) (.tmp 96) 63 rfl _ _ rfl rfl _ X2B hrB2 ?_
  refine zk hK 22 524287 3 (H22.out _ HB18.out) fun hHeld=>?_
  clear hK K
  try simp only [zz]
  refine tn 19 22 1048575 2 ?_
  simp only [zz]
  refine tn 20 22 2097151 1 ?_
  simp only [zz]
  refine zr 21 fun K hK=>?_
  go_simp
  refine zk hK 22 4194303 0 (HSB.out) fun hHeld=>?_
  clear hK K
  try simp only [zz]
  refine zn ?_ _
  go_wp2_with (first|((with_reducible refine st_arm HS9B.out ?_ ?_ ?_);(· rfl);(· rfl)))
  exact bodyPost_ret (v:=rpV (rep 0) none 0 0) (by simp [results,Tryz.results8,asAddr,Act.put,HL9B.out]) rfl HR9B.out
 refine AllReadyH.cons rfl (fun K hK=>?_) ?_
 ·go_simp
  refine zk hK 22 114655 7 (H22.out _ (Below.refl _ _).drew) fun hHeld=>?_
  clear hK K
  try simp only [zz]
  refine wpAnyH_ready (rs:=[5,17]) (by kernel_rfl) (by simp) ?_
  refine AllReadyH.cons rfl (fun K hK=>?_) ?_
  ·go_simp
   refine zk hK 22 114687 6 (H22.out _ (below1 _ _).drew) fun hHeld=>?_
   clear hK K
   try simp only [zz]
   refine wpAnyH_ready (rs:=[14,17]) (by kernel_rfl) (by simp) ?_
   refine AllReadyH.cons rfl (fun K hK=>?_) ?_
   ·refine wp_app (.tmp 84) (.tmp 92) 63 rfl _ _ rfl rfl _ X1A hrA1 ?_
    refine zk hK 22 131071 5 (H22.out _ HA14.out) fun hHeld=>?_
    clear hK K
    try simp only [zz]
    refine zr 17 fun K hK=>?_
    go_simp
    refine zk hK 22 262143 4 (H22.out _ (below_call HA14.out (below1 _ _))) fun hHeld=>?_
    clear hK K
    try simp only [zz]
    refine zr 18 fun K hK=>?_
    refine wp_app (.tmp 93) (.tmp 96) 63 rfl _ _ rfl rfl _ X2A hrA2 ?_
    refine zk hK 22 524287 3 (H22.out _ HA18.out) fun hHeld=>?_
    clear hK K
    try simp only [zz]
    refine tn 19 22 1048575 2 ?_
    simp only [zz]
    refine tn 20 22 2097151 1 ?_
    simp only [zz]
    refine zr 21 fun K hK=>?_
    go_simp
    refine zk hK 22 4194303 0 (HSA.out) fun hHeld=>?_
    clear hK K
    try simp only [zz]
    refine zn ?_ _
    go_wp2_with (first|((with_reducible refine st_arm HS9A.out ?_ ?_ ?_);(· rfl);(· rfl)))
    exact bodyPost_ret (v:=rpV (rep 0) none 0 0) (by simp [results,Tryz.results8,asAddr,Act.put,HL9A.out]) rfl HR9A.out
   refine AllReadyH.cons rfl (fun K hK=>?_) AllReadyH.nil
   go_simp
   refine zk hK 22 245759 5 (H22.out _ (below2 _ _ _).drew) fun hHeld=>?_
   clear hK K
   try simp only [zz]
   refine zr 14 fun K hK=>?_
   refine wp_app (.tmp 84) (.tmp 92) 63 rfl _ _ rfl rfl _ X1B hrB1 ?_
   refine zk hK 22 262143 4 (H22.out _ HB14.out) fun hHeld=>?_
   clear hK K
   try simp only [zz]
   refine zr 18 fun K hK=>?_
   refine wp_app (.tmp 93) (.tmp 96) 63 rfl _ _ rfl rfl _ X2B hrB2 ?_
   refine zk hK 22 524287 3 (H22.out _ HB18.out) fun hHeld=>?_
   clear hK K
   try simp only [zz]
   refine tn 19 22 1048575 2 ?_
   simp only [zz]
   refine tn 20 22 2097151 1 ?_
   simp only [zz]
   refine zr 21 fun K hK=>?_
   go_simp
   refine zk hK 22 4194303 0 (HSB.out) fun hHeld=>?_
   clear hK K
   try simp only [zz]
   refine zn ?_ _
   go_wp2_with (first|((with_reducible refine st_arm HS9B.out ?_ ?_ ?_);(· rfl);(· rfl)))
   exact bodyPost_ret (v:=rpV (rep 0) none 0 0) (by simp [results,Tryz.results8,asAddr,Act.put,HL9B.out]) rfl HR9B.out
  refine AllReadyH.cons rfl (fun K hK=>?_) AllReadyH.nil
  go_simp
  refine zk hK 22 245727 6 (H22.out _ (below1 _ _).drew) fun hHeld=>?_
  clear hK K
  try simp only [zz]
  refine zr 5 fun K hK=>?_
  go_simp
  refine zk hK 22 245759 5 (H22.out _ (below2 _ _ _).drew) fun hHeld=>?_
  clear hK K
  try simp only [zz]
  refine zr 14 fun K hK=>?_
  refine wp_app (.tmp 84) (.tmp 92) 63 rfl _ _ rfl rfl _ X1C hrC1 ?_
  refine zk hK 22 262143 4 (H22.out _ HC14.out) fun hHeld=>?_
  clear hK K
  try simp only [zz]
  refine zr 18 fun K hK=>?_
  refine wp_app (.tmp 93) (.tmp 96) 63 rfl _ _ rfl rfl _ X2C hrC2 ?_
  refine zk hK 22 524287 3 (H22.out _ HC18.out) fun hHeld=>?_
  clear hK K
  try simp only [zz]
  refine tn 19 22 1048575 2 ?_
  simp only [zz]
  refine tn 20 22 2097151 1 ?_
  simp only [zz]
  refine zr 21 fun K hK=>?_
  go_simp
  refine zk hK 22 4194303 0 (HSC.out) fun hHeld=>?_
  clear hK K
  try simp only [zz]
  refine zn ?_ _
  go_wp2_with (first|((with_reducible refine st_arm HS9C.out ?_ ?_ ?_);(· rfl);(· rfl)))
  exact bodyPost_ret (v:=rpV (rep 0) none 0 0) (by simp [results,Tryz.results8,asAddr,Act.put,HL9C.out]) rfl HR9C.out
 refine AllReadyH.cons rfl (fun K hK=>?_) AllReadyH.nil
 go_simp
 refine zk hK 22 237535 7 (H22.out _ (below1 _ _).drew) fun hHeld=>?_
 clear hK K
 try simp only [zz]
 refine wpAnyH_ready (rs:=[5,13]) (by kernel_rfl) (by simp) ?_
 refine AllReadyH.cons rfl (fun K hK=>?_) ?_
 ·go_simp
  refine zk hK 22 237567 6 (H22.out _ (below2 _ _ _).drew) fun hHeld=>?_
  clear hK K
  try simp only [zz]
  refine zr 13 fun K hK=>?_
  go_simp
  refine zk hK 22 245759 5 (H22.out _ (below2 _ _ _).drew) fun hHeld=>?_
  clear hK K
  try simp only [zz]
  refine zr 14 fun K hK=>?_
  refine wp_app (.tmp 84) (.tmp 92) 63 rfl _ _ rfl rfl _ X1C hrC1 ?_
  refine zk hK 22 262143 4 (H22.out _ HC14.out) fun hHeld=>?_
  clear hK K
  try simp only [zz]
  refine zr 18 fun K hK=>?_
  refine wp_app (.tmp 93) (.tmp 96) 63 rfl _ _ rfl rfl _ X2C hrC2 ?_
  refine zk hK 22 524287 3 (H22.out _ HC18.out) fun hHeld=>?_
  clear hK K
  try simp only [zz]
  refine tn 19 22 1048575 2 ?_
  simp only [zz]
  refine tn 20 22 2097151 1 ?_
  simp only [zz]
  refine zr 21 fun K hK=>?_
  go_simp
  refine zk hK 22 4194303 0 (HSC.out) fun hHeld=>?_
  clear hK K
  try simp only [zz]
  refine zn ?_ _
  go_wp2_with (first|((with_reducible refine st_arm HS9C.out ?_ ?_ ?_);(· rfl);(· rfl)))
  exact bodyPost_ret (v:=rpV (rep 0) none 0 0) (by simp [results,Tryz.results8,asAddr,Act.put,HL9C.out]) rfl HR9C.out
 refine AllReadyH.cons rfl (fun K hK=>?_) AllReadyH.nil
 go_simp
 refine zk hK 22 245727 6 (H22.out _ (below1 _ _).drew) fun hHeld=>?_
 clear hK K
 try simp only [zz]
 refine zr 5 fun K hK=>?_
 go_simp
 refine zk hK 22 245759 5 (H22.out _ (below2 _ _ _).drew) fun hHeld=>?_
 clear hK K
 try simp only [zz]
 refine zr 14 fun K hK=>?_
 refine wp_app (.tmp 84) (.tmp 92) 63 rfl _ _ rfl rfl _ X1C hrC1 ?_
 refine zk hK 22 262143 4 (H22.out _ HC14.out) fun hHeld=>?_
 clear hK K
 try simp only [zz]
 refine zr 18 fun K hK=>?_
 refine wp_app (.tmp 93) (.tmp 96) 63 rfl _ _ rfl rfl _ X2C hrC2 ?_
 refine zk hK 22 524287 3 (H22.out _ HC18.out) fun hHeld=>?_
 clear hK K
 try simp only [zz]
 refine tn 19 22 1048575 2 ?_
 simp only [zz]
 refine tn 20 22 2097151 1 ?_
 simp only [zz]
 refine zr 21 fun K hK=>?_
 go_simp
 refine zk hK 22 4194303 0 (HSC.out) fun hHeld=>?_
 clear hK K
 try simp only [zz]
 refine zn ?_ _
 go_wp2_with (first|((with_reducible refine st_arm HS9C.out ?_ ?_ ?_);(· rfl);(· rfl)))
 exact bodyPost_ret (v:=rpV (rep 0) none 0 0) (by simp [results,Tryz.results8,asAddr,Act.put,HL9C.out]) rfl HR9C.out
end
end Go.Proofs.YtffmodpgddecnaaGreat.V.E
