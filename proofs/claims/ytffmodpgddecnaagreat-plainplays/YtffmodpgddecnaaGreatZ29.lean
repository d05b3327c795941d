import Derived.Test.YtffmodpgddecnaaGreatZ28
set_option linter.unusedVariables false
set_option linter.unusedSimpArgs false
namespace Go.Proofs.YtffmodpgddecnaaGreat.V.E
open Go.RowKit Go.Maps
open Go.Proofs.YtffmodpgddecnaaGreat.H (B64 Cp)
open Go.Proofs.YtffmodpgddecnaaGreat.M (okI atC pickE pickL)
section
variable {w w':World}{base:Nat}{M:Mh}{r:Rm}{a1:Option Addr}{c1:Nat}{Q1:List Ev}{a2:Option Addr}{c2:Nat}{a3:Option Addr}{c3:Nat}{Q3:List Ev}
theorem bit_not {a q:Int}(ha:1≤a∧a≤31)(hq:1≤q∧q≤31):(bits .andNot .i64 a q != 0)=!partB a q:=by
 have key:∀k l:Fin 31,(bits .andNot .i64 ((k.1:Int)+1) ((l.1:Int)+1) != 0)=!partB ((k.1:Int)+1) ((l.1:Int)+1):=by decide +kernel
 have e:a=(((a - 1).toNat:Nat):Int)+1:=by omega
 have e2:q=(((q - 1).toNat:Nat):Int)+1:=by omega
 have:=key ⟨(a - 1).toNat,by omega⟩ ⟨(q - 1).toNat,by omega⟩
 rw [e,e2]
 exact this
theorem cnt_succ {T:List Hl}{o:Int}{i:Nat}{x:Hl}(h:T[i]?=some x):cntN (T.take (i+1)) o=cntN (T.take i) o+(if x.c.1=o then 1 else 0):=by
 unfold cntN
 by_cases e:x.c.1=o
 ·rw [fil_keep h (decide_eq_true e),List.length_append,if_pos e];rfl
 ·rw [fil_drop h (by simpa using e),if_neg e];rfl
def CnR (W:World)(T:List Hl)(o:Int)(v7 v8:Value)(U:World):Prop:=∃(i n:Nat),v7=.int .i64 (n:Int)∧v8=.int .i64 (i:Int)∧i≤T.length∧n≤i∧Hid (n=cntN (T.take i) o)∧Hid (Below W.heap.size W U)
def DrR (w:World)(base b:Nat)(M:Mh)(N:Nat→Prop)(r:Rm)(a1:Option Addr)(c1:Nat)(Q1:List Ev)(a2:Option Addr)(c2:Nat)(a3:Option Addr)(c3:Nat)(Q3:List Ev)(L:List Value)(o:Int)(v:Value)(U:World):Prop:=∃(i ti:Nat),v=.int .i64 (i:Int)∧i≤9∧ti≤M.dn∧Hid (rDrw M.p r o=D.drawR (fun N=>(liv r.T (D.cap o N)).isSome) M.p.c M.p.n (9 - i) ti)∧Hid (Pg w U base b M N { r with t:=ti } a1 c1 Q1 a2 c2 a3 c3 Q3)∧Hid (R.Bx U w.heap.size L)
set_option maxRecDepth 100000 in
set_option maxHeartbeats 4000000 in
theorem rderive_any (h:Mx w base M r a1 c1 Q1 a2 c2 a3 c3 Q3)(hbs:base≤w.heap.size)(hf:RF M.p r)(hcf:M.C.may=true){cl:R.Cl}{dd gg:R.Sl}:Calls Tryz.prog 22 #[.pointer (some ⟨M.b,0,none⟩),.agg (R.cC cl dd gg).toArray] w (RmP w base M (MxN M a1 Q1 a2 a3 Q3) (rDer M.p r (cpO cl) cl.rights)):=by
 obtain⟨W,hW⟩:∃W,W=(w.alloc (Obj.cells (R.cC cl dd gg).toArray 45)).alloc z6:=⟨_,rfl⟩
 have hB:Below w.heap.size w W:=by rw [hW];exact below2 _ _ _
 have hXc:R.Bx W w.heap.size (R.cC cl dd gg):=by rw [hW];exact R.Bx.later (below1 _ _) (R.Bx.new w (R.cC cl dd gg) 45)
 have hZ:Zr W (w.heap.size+1):=by rw [hW];have:=Zr.new (w.alloc (Obj.cells (R.cC cl dd gg).toArray 45));simpa using this
 have HP0:=hid (Pg.start h hB hZ (Nat.le_succ _))
 have HN:Hid (∀j,MxN M a1 Q1 a2 a3 Q3 j→j<w.heap.size):=fun j hj=>(h.rng j hj).2
 have HD:=hid h.dl
 have HW:=hid hW
 have HB:=hid hB
 have HX:=hid h
 have HBs:=hid hbs
 have HF:=hid hf
 have HXc:=hid hXc
 have hcm:=Cf.may_iff.1 hcf
 have hsT:=hf.T
 have hC3:∀U:World,R.Bx U w.heap.size (R.cC cl dd gg)→U.cell? ⟨w.heap.size,3,none⟩=some (.int .i64 cl.obj)∧U.cell? ⟨w.heap.size,7,none⟩=some (.int .i64 cl.rights):=fun U hU=>⟨hU.cell 3 rfl,hU.cell 7 rfl⟩
 have HC3:=hid hC3
 have k3:=hXc.cell 3 rfl
 have k4:=hXc.cell 4 rfl
 have k5:=hXc.cell 5 rfl
 have HLv:=hid (rlive_any (h.mr.later hB) (cpO cl))
 have HT:Hid (∀U:World,Below W.heap.size W U→Mr U M r a1 c1 Q1 a2 c2 a3 c3 Q3):=fun U hU=>h.mr.later (below_call hB hU)
 obtain⟨Rr,hR⟩:∃Rr,Rr=rDer M.p r (cpO cl) cl.rights:=⟨_,rfl⟩
 rw [←hR]
 have HR:=hid hR
 obtain⟨nT,hnT⟩:∃n,n=r.T.length:=⟨_,rfl⟩
 have HnT:=hid hnT
 rw [←hnT] at hsT
 obtain⟨cq,hcq⟩:∃n:Nat,M.C.q=(n:Int):=⟨M.C.q.toNat,by omega⟩
 obtain⟨cm,hcm2⟩:∃n:Nat,M.C.m=(n:Int):=⟨M.C.m.toNat,by omega⟩
 have HCf:Hid (∀U:World,Below W.heap.size W U→U.cell? ⟨M.b,4,none⟩=some (.int .i64 (cq:Int))∧U.cell? ⟨M.b,3,none⟩=some (.int .i64 (cm:Int))∧U.cell? ⟨M.b,13,none⟩=some (.slice a2 nT c2)):=fun U hU=>by
  have hx:=R.Bx.later (below_call hB hU) h.box
  exact⟨by rw [←hcq];exact hx.cell 4 rfl,by rw [←hcm2];exact hx.cell 3 rfl,by rw [hnT];exact hx.cell 13 rfl⟩
 have HE1:Hid (M.p.e=(cq:Int)∧M.p.mo=cm):=⟨hcq,by show M.C.m.toNat=cm;rw [hcm2];rfl⟩
 rw [hcq,hcm2] at hcm
 clear h hbs hf hcf hW hB hZ hXc hR hnT hC3 hcq hcm2
 rcases liv_ix r.T (cpO cl) with ⟨h1,h2⟩|⟨i,x,h1,h2,h3⟩
 ·obtain rfl:Rr=(rep 3,r):=by rw [HR.out];unfold rDer;rw [h2]
  rw [h1] at HLv
  clear h1 h2
  go_enter Tryz.func22,Tryz.ntmps22
  go_upto_region 1 with fail
  rw [←HW.out]
  go_upto_region 2 with (first|(go_at_call 40;refine HLv.out.mono ?_;rintro e w1 ⟨rfl,hb1⟩;have HB1:=hid hb1;clear hb1))
  have HEv:=hid (HP0.out.later HB1.out).e
  clear k3 k4 k5
  have HR_:=hid (rrefused_any 3 w1)
  go_wp2_with (first|(go_at_call 18;refine HR_.out.mono ?_;rintro e w9 ⟨rfl,hb9⟩;have HE9:=hid (HEv.out.later hb9);have HZ9:=hid HE9.out.z;have HS9:=hid (HZ9.out.st (rep 3) none 0 0);have HL9:=hid (HZ9.out.lv (rep 3) none 0 0);clear hb9)|((with_reducible refine st_arm HS9.out ?_ ?_ ?_);(· rfl);(· rfl)))
  exact bodyPost_ret (v:=rpV (rep 3) none 0 0) (by simp [results,Tryz.results22,asAddr,HL9.out]) rfl (HE9.out.fin (Nat.le_succ _) HN.out HD.out (rep 3) rfl)
 rw [h1] at HLv
 have hi:=(List.getElem?_eq_some_iff.1 h2).1
 have hi2:i<nT:=by have:=HnT.out;omega
 have hii:(i:Int)<(nT:Int):=by omega
 have h0i:(0:Int)≤(i:Int):=by omega
 have hd0:decide ((i:Int)<0)=false:=decide_eq_false (by omega)
 have hrx:=HF.out.rt x (List.mem_of_getElem? h2)
 have HI:=hid h2
 have HCx:Hid (∀U:World,Below W.heap.size W U→∃gt,a2=some ⟨gt,0,none⟩∧U.cell? ⟨gt,i*6,none⟩=some (.int .i64 x.no)∧U.cell? ⟨gt,i*6+5,none⟩=some (.int .i64 x.r)):=fun U hU=>by
  obtain⟨gt,hga,hqc⟩:=hl_cells (HT.out U hU).t h2
  exact⟨gt,hga,hqc 0 _ rfl,hqc 5 _ rfl⟩
 have HA:Hid (Rr=if partB 4 x.r=false∨partB cl.rights x.r=false then (rep 4,r) else
  if (cq:Int)≤(cntN r.T cl.obj:Int) then (rep 9,r) else if cm≤nT then (rep 10,r) else
  if (rDrw M.p r cl.obj).2.1≠0 then (rep (rDrw M.p r cl.obj).2.1,{ r with t:=(rDrw M.p r cl.obj).2.2 }) else
  (⟨0,D.cap cl.obj (rDrw M.p r cl.obj).1,[],0⟩,{ r with t:=(rDrw M.p r cl.obj).2.2,T:=r.T++[⟨r.nn,x.no,D.cap cl.obj (rDrw M.p r cl.obj).1,cl.rights⟩],nn:=r.nn+1 })):=by
  unfold Hid
  rw [HR.out,←HE1.out.1,←HE1.out.2,HnT.out]
  unfold rDer
  rw [h3]
  rfl
 clear h1 h2 h3 hi HR
 go_enter Tryz.func22,Tryz.ntmps22
 go_upto_region 1 with fail
 rw [←HW.out]
 go_upto_region 4 with (first|(go_at_call 40;refine HLv.out.mono ?_;rintro e w1 ⟨rfl,hb1⟩;have HBv:=hid hb1;clear hb1))
 clear hd0 k3 k4 k5
 obtain⟨gt,hga,t0,t5⟩:=HCx.out w1 HBv.out
 obtain⟨-,-,m13⟩:=HCf.out w1 HBv.out
 rw [hga] at m13
 have HP1:=hid (HP0.out.later HBv.out)
 obtain⟨z3,z7⟩:=HC3.out w1 (R.Bx.later HBv.out HXc.out)
 have hb4:=bit_zero (q:=x.r) (need:=4) hrx (by simp)
 by_cases hg:partB 4 x.r=false∨partB cl.rights x.r=false
 ·obtain rfl:Rr=(rep 4,r):=by rw [HA.out,if_pos hg]
  have HEv:=hid HP1.out.e
  by_cases e1:partB 4 x.r=false
  ·rw [e1] at hb4
   simp only [Bool.not_false] at hb4
   clear hg e1
   have HR_:=hid (rrefused_any 4 w1)
   go_wp2_with (first|(go_at_call 18;refine HR_.out.mono ?_;rintro e w9 ⟨rfl,hb9⟩;have HE9:=hid (HEv.out.later hb9);have HZ9:=hid HE9.out.z;have HS9:=hid (HZ9.out.st (rep 4) none 0 0);have HL9:=hid (HZ9.out.lv (rep 4) none 0 0);clear hb9)|((with_reducible refine st_arm HS9.out ?_ ?_ ?_);(· rfl);(· rfl)))
   exact bodyPost_ret (v:=rpV (rep 4) none 0 0) (by simp [results,Tryz.results22,asAddr,HL9.out]) rfl (HE9.out.fin (Nat.le_succ _) HN.out HD.out (rep 4) rfl)
  ·have e1:partB 4 x.r=true:=by simpa using e1
   have e2:partB cl.rights x.r=false:=hg.elim (fun e=>by rw [e1] at e;cases e) id
   rw [e1] at hb4
   simp only [Bool.not_true] at hb4
   by_cases e3:cl.rights<1
   ·have hd1:decide (cl.rights<1)=true:=decide_eq_true e3
    clear hg e1 e2 e3
    have HR_:=hid (rrefused_any 4 w1)
    go_wp2_with (first|(go_at_call 18;refine HR_.out.mono ?_;rintro e w9 ⟨rfl,hb9⟩;have HE9:=hid (HEv.out.later hb9);have HZ9:=hid HE9.out.z;have HS9:=hid (HZ9.out.st (rep 4) none 0 0);have HL9:=hid (HZ9.out.lv (rep 4) none 0 0);clear hb9)|((with_reducible refine st_arm HS9.out ?_ ?_ ?_);(· rfl);(· rfl)))
    exact bodyPost_ret (v:=rpV (rep 4) none 0 0) (by simp [results,Tryz.results22,asAddr,HL9.out]) rfl (HE9.out.fin (Nat.le_succ _) HN.out HD.out (rep 4) rfl)
   ·have hd1:decide (cl.rights<1)=false:=decide_eq_false e3
    by_cases e4:cl.rights>31
    ·have hd2:decide (cl.rights>31)=true:=decide_eq_true e4
     clear hg e1 e2 e3 e4
     have HR_:=hid (rrefused_any 4 w1)
     go_wp2_with (first|(go_at_call 18;refine HR_.out.mono ?_;rintro e w9 ⟨rfl,hb9⟩;have HE9:=hid (HEv.out.later hb9);have HZ9:=hid HE9.out.z;have HS9:=hid (HZ9.out.st (rep 4) none 0 0);have HL9:=hid (HZ9.out.lv (rep 4) none 0 0);clear hb9)|((with_reducible refine st_arm HS9.out ?_ ?_ ?_);(· rfl);(· rfl)))
     exact bodyPost_ret (v:=rpV (rep 4) none 0 0) (by simp [results,Tryz.results22,asAddr,HL9.out]) rfl (HE9.out.fin (Nat.le_succ _) HN.out HD.out (rep 4) rfl)
    ·have hd2:decide (cl.rights>31)=false:=decide_eq_false e4
     have hbn:=bit_not (a:=cl.rights) (q:=x.r) (by omega) hrx
     rw [e2] at hbn
     simp only [Bool.not_false] at hbn
     clear hg e1 e2 e3 e4
     have HR_:=hid (rrefused_any 4 w1)
     go_wp2_with (first|(go_at_call 18;refine HR_.out.mono ?_;rintro e w9 ⟨rfl,hb9⟩;have HE9:=hid (HEv.out.later hb9);have HZ9:=hid HE9.out.z;have HS9:=hid (HZ9.out.st (rep 4) none 0 0);have HL9:=hid (HZ9.out.lv (rep 4) none 0 0);clear hb9)|((with_reducible refine st_arm HS9.out ?_ ?_ ?_);(· rfl);(· rfl)))
     exact bodyPost_ret (v:=rpV (rep 4) none 0 0) (by simp [results,Tryz.results22,asAddr,HL9.out]) rfl (HE9.out.fin (Nat.le_succ _) HN.out HD.out (rep 4) rfl)
 have e1:partB 4 x.r=true:=by
  by_cases e:partB 4 x.r=true
  ·exact e
  ·exact absurd (Or.inl (by simpa using e)) hg
 have e2:partB cl.rights x.r=true:=by
  by_cases e:partB cl.rights x.r=true
  ·exact e
  ·exact absurd (Or.inr (by simpa using e)) hg
 have HA:=hid (HA.out.trans (if_neg hg))
 have hrt:1≤cl.rights∧cl.rights≤31:=by
  have h6:=e2
  unfold partB at h6
  simp only [Bool.and_eq_true] at h6
  exact validB_iff.1 h6.1.1
 have hbn:=bit_not (a:=cl.rights) (q:=x.r) hrt hrx
 rw [e1] at hb4
 rw [e2] at hbn
 simp only [Bool.not_true] at hb4 hbn
 have hd1:decide (cl.rights<1)=false:=decide_eq_false (by omega)
 have hd2:decide (cl.rights>31)=false:=decide_eq_false (by omega)
 clear hg e1 e2
 go_upto_region 9 with fail
 clear hb4 hbn hd1 hd2 t0 t5 m13 z3 z7 hga HP1 HLv
 go_loopw [7,8] (CnR W r.T cl.obj) (fun _ v _=>r.T.length - S.ivN v)
 case atStart=>exact⟨0,0,rfl,rfl,Nat.zero_le _,Nat.le_refl _,hid rfl,HBv⟩
 case round =>
  clear HBv
  obtain⟨j,n,rfl,rfl,hj,hnj,HNt,HB2⟩:=hrel
  have hT2:=HnT.out
  obtain⟨m4,m3,m13⟩:=HCf.out wr HB2.out
  by_cases hlt:j<r.T.length
  ·have hd:decide ((j:Int)<(nT:Int))=true:=decide_eq_true (by omega)
   have hlt2:(j:Int)<(nT:Int):=by omega
   have h0j:(0:Int)≤(j:Int):=by omega
   obtain⟨q,hq⟩:∃q,r.T[j]?=some q:=⟨_,List.getElem?_eq_getElem hlt⟩
   obtain⟨gt,hga,hqc⟩:=hl_cells (HT.out wr HB2.out).t hq
   rw [hga] at m13
   have q2:=hqc 2 _ rfl
   obtain⟨z3,-⟩:=HC3.out wr (R.Bx.later HB2.out HXc.out)
   have hstep:=cnt_succ (o:=cl.obj) hq
   have HSt:=hid hstep
   clear hqc hq hga hstep hT2
   by_cases he:q.c.1=cl.obj
   ·have heb:(q.c.1==cl.obj)=true:=by simpa using he
    have HSt:Hid (n+1=cntN (r.T.take (j+1)) cl.obj):=by have h9:=HSt.out;rw [if_pos he] at h9;unfold Hid;rw [h9,HNt.out]
    clear he
    go_upto_region 11 with fail
    go_quiet (fail)
    go_wp2
    exact⟨⟨j+1,n+1,rfl,rfl,by omega,by omega,HSt,hid (below_drewN HB2.out _)⟩,by simp [S.ivN];omega⟩
   ·have heb:(q.c.1==cl.obj)=false:=by simpa using he
    have HSt:Hid (n=cntN (r.T.take (j+1)) cl.obj):=by have h9:=HSt.out;rw [if_neg he] at h9;unfold Hid;rw [h9,HNt.out];rfl
    clear he
    go_upto_region 11 with fail
    go_quiet (fail)
    go_wp2
    exact⟨⟨j+1,n,rfl,rfl,by omega,by omega,HSt,hid (below_drewN HB2.out _)⟩,by simp [S.ivN];omega⟩
  ·have hd:decide ((j:Int)<(nT:Int))=false:=decide_eq_false (by omega)
   have hdn:decide (j<nT)=false:=decide_eq_false (by omega)
   have hn2:n=cntN r.T cl.obj:=by rw [HNt.out,show j=r.T.length by omega,List.take_length]
   rw [←hn2] at HA
   have HEv:=hid (HP0.out.later HB2.out).e
   clear hn2 hT2 HNt
   by_cases h5:cq≤n
   ·obtain rfl:Rr=(rep 9,r):=by rw [HA.out,if_pos (by omega)]
    have hd3:decide ((n:Int)≥(cq:Int))=true:=decide_eq_true (by omega)
    have hd3n:decide (cq≤n)=true:=decide_eq_true h5
    clear h5 hlt
    have HR_:=hid (rrefused_any 9 wr)
    go_wp2_with (first|(go_at_call 18;refine HR_.out.mono ?_;rintro e w9 ⟨rfl,hb9⟩;have HE9:=hid (HEv.out.later hb9);have HZ9:=hid HE9.out.z;have HS9:=hid (HZ9.out.st (rep 9) none 0 0);have HL9:=hid (HZ9.out.lv (rep 9) none 0 0);clear hb9)|((with_reducible refine st_arm HS9.out ?_ ?_ ?_);(· rfl);(· rfl)))
    exact bodyPost_ret (v:=rpV (rep 9) none 0 0) (by simp [results,Tryz.results22,asAddr,HL9.out]) rfl (HE9.out.fin (Nat.le_succ _) HN.out HD.out (rep 9) rfl)
   have HA:=hid (HA.out.trans (if_neg (by omega)))
   have hd3:decide ((n:Int)≥(cq:Int))=false:=decide_eq_false (by omega)
   have hd3n:decide (cq≤n)=false:=decide_eq_false h5
   clear h5 hlt
   go_upto_region 15 with fail
   clear hd hdn hd3 hd3n m4
   by_cases h6:cm≤nT
   ·obtain rfl:Rr=(rep 10,r):=by rw [HA.out,if_pos h6]
    have hd3:decide ((nT:Int)≥(cm:Int))=true:=decide_eq_true (by omega)
    have hd3n:decide (cm≤nT)=true:=decide_eq_true h6
    clear h6
    go_quiet (fail)
    obtain⟨v2,hv2⟩:∃v2,v2=wr.drewN nq:=⟨_,rfl⟩
    have HEw:=hid (HEv.out.later (V:=v2) (by rw [hv2];exact below_drewN (Below.refl _ _) _))
    rw [←hv2]
    clear hv2
    have HR_:=hid (rrefused_any 10 v2)
    go_wp2_with (first|(go_at_call 18;refine HR_.out.mono ?_;rintro e w9 ⟨rfl,hb9⟩;have HE9:=hid (HEw.out.later hb9);have HZ9:=hid HE9.out.z;have HS9:=hid (HZ9.out.st (rep 10) none 0 0);have HL9:=hid (HZ9.out.lv (rep 10) none 0 0);clear hb9)|((with_reducible refine st_arm HS9.out ?_ ?_ ?_);(· rfl);(· rfl)))
    exact bodyPost_ret (v:=rpV (rep 10) none 0 0) (by simp [results,Tryz.results22,asAddr,HL9.out]) rfl (HE9.out.fin (Nat.le_succ _) HN.out HD.out (rep 10) rfl)
   have HA:=hid (HA.out.trans (if_neg h6))
   have hd3:decide ((nT:Int)≥(cm:Int))=false:=decide_eq_false (by omega)
   have hd3n:decide (cm≤nT)=false:=decide_eq_false h6
   clear h6
   go_quiet (fail)
   obtain⟨v2,hv2⟩:∃v2,v2=wr.drewN nq:=⟨_,rfl⟩
   have HBx:Hid (Below W.heap.size W v2):=by rw [hv2];exact below_drewN HB2.out _
   rw [←hv2]
   clear hv2 HEv m3 m13 HB2
   go_upto_region 18 with fail
   clear hd3 hd3n
   go_loopw [9] (DrR w base (w.heap.size+1) M (MxN M a1 Q1 a2 a3 Q3) r a1 c1 Q1 a2 c2 a3 c3 Q3 (R.cC cl dd gg) cl.obj) (fun v _=>9 - (intOf v).toNat)
   case atStart=>exact⟨0,r.t,rfl,by omega,HF.out.le,hid rfl,hid (HP0.out.later HBx.out),hid (R.Bx.later HBx.out HXc.out)⟩
   case round =>
    clear HBx
    obtain⟨k,ti,rfl,hk9,hti,HDr,HPg,HXb⟩:=hrel
    rename World=>U
    have hn49:=HF.out.n
    have hpn:M.p.n=M.dn:=rfl
    rw [hpn] at hn49
    have m10:=HPg.out.x.box.cell 10 rfl
    have m11:=HPg.out.x.box.cell 11 rfl
    simp only at m11
    by_cases hk:k<9
    ·have hd:decide ((k:Int)≤8)=true:=decide_eq_true (by omega)
     have hdn:decide (k≤8)=true:=decide_eq_true (by omega)
     obtain⟨m,hm⟩:∃m,9 - k=m+1:=⟨8 - k,by omega⟩
     rw [hm] at HDr
     by_cases ht:M.dn≤ti
     ·obtain rfl:Rr=(rep 11,{ r with t:=ti }):=by
       have h9:=HDr.out
       rw [D.drawR,if_neg (show ¬ti<M.p.n by rw [hpn];omega)] at h9
       rw [HA.out,h9,if_pos (show (11:Int)≠0 by decide)]
      have hd3:decide ((ti:Int)≥(M.dn:Int))=true:=decide_eq_true (by omega)
      have hd3n:decide (M.dn≤ti)=true:=decide_eq_true ht
      clear ht hm
      go_upto_region 20 with fail
      go_quiet (fail)
      obtain⟨v3,hv3⟩:∃v3,v3=U.drewN nq:=⟨_,rfl⟩
      have HEv:=hid (HPg.out.later (V:=v3) (by rw [hv3];exact below_drewN (Below.refl _ _) _)).e
      rw [←hv3]
      clear hv3
      have HR_:=hid (rrefused_any 11 v3)
      go_wp2_with (first|(go_at_call 18;refine HR_.out.mono ?_;rintro e w9 ⟨rfl,hb9⟩;have HE9:=hid (HEv.out.later hb9);have HZ9:=hid HE9.out.z;have HS9:=hid (HZ9.out.st (rep 11) none 0 0);have HL9:=hid (HZ9.out.lv (rep 11) none 0 0);clear hb9)|((with_reducible refine st_arm HS9.out ?_ ?_ ?_);(· rfl);(· rfl)))
      exact bodyPost_ret (v:=rpV (rep 11) none 0 0) (by simp [results,Tryz.results22,asAddr,HL9.out]) rfl (HE9.out.fin (Nat.le_succ _) HN.out HD.out (rep 11) rfl)
     have hd3:decide ((ti:Int)≥(M.dn:Int))=false:=decide_eq_false (by omega)
     have hd3n:decide (M.dn≤ti)=false:=decide_eq_false ht
     have htl:ti<M.dn:=by omega
     clear ht
     go_upto_region 20 with fail
     go_quiet (fail)
     obtain⟨v3,hv3⟩:∃v3,v3=U.drewN nq:=⟨_,rfl⟩
     have hbv3:Below U.heap.size U v3:=by rw [hv3];exact below_drewN (Below.refl _ _) _
     rw [←hv3]
     have HPv:=hid (HPg.out.later hbv3)
     have HXv:=hid (R.Bx.later hbv3 HXb.out)
     clear hv3 m10 m11 HPg HXb hbv3
     go_upto_region 22 with fail
     clear hd hdn hd3 hd3n
     obtain⟨gb,go_,hda,hw⟩:=HPv.out.x.dr.plain (by omega)
     have HWd:=hid (hw ti htl)
     have HCu:=hid (fun U=>rcut_at M ti (HX.out.dr.small ti) hcm.1 U)
     have H0:Hid (∀U:World,Below v3.heap.size v3 U→U.cell? ⟨w.heap.size,3,none⟩=some (.int .i64 cl.obj)∧U.cell? ⟨M.b,10,none⟩=some (.slice (some ⟨gb,go_,none⟩) M.dn M.dc)∧U.cell? ⟨M.b,11,none⟩=some (.int .i64 (ti:Int))∧U.cell? ⟨M.b,0,none⟩=some (.int .i64 M.C.W)∧U.cell? ⟨gb,go_+ti*2,none⟩=some (.int .u64 (D.hiI (M.f ti)))∧U.cell? ⟨gb,go_+ti*2+1,none⟩=some (.int .u64 (D.loI (M.f ti)))∧Below v3.heap.size v3 U):=fun U hU=>by
      have hx:=R.Bx.later hU HPv.out.x.box
      exact⟨(HC3.out U (R.Bx.later hU HXv.out)).1,by rw [←hda];exact hx.cell 10 rfl,hx.cell 11 rfl,hx.cell 0 rfl,cell_later hU HWd.out.1,cell_later hU HWd.out.2,hU⟩
     have hlt:(ti:Int)<(M.dn:Int):=by omega
     have h0t:(0:Int)≤(ti:Int):=by omega
     obtain⟨mh,hmh⟩:∃mh,mh=M.p.c ti / B64:=⟨_,rfl⟩
     obtain⟨ml,hml⟩:∃ml,ml=M.p.c ti%B64:=⟨_,rfl⟩
     rw [←hmh,←hml] at HCu
     have HCap:Hid (D.cap cl.obj (M.p.c ti)=(cl.obj,mh,ml)):=by rw [hmh,hml];rfl
     generalize D.hiI (M.f ti)=fh at *
     generalize D.loI (M.f ti)=fl at *
     clear hda hw hmh hml HWd
     go_cut [10] (fun v U=>∃p,v=.pointer (some ⟨p,0,none⟩)∧Hid (Cc3 U p (cl.obj,mh,ml))∧Hid (v3.heap.size≤p)∧Hid (Below v3.heap.size v3 U))
     case first =>
      go_region_held3 (fun U=>U.cell? ⟨w.heap.size,3,none⟩=some (.int .i64 cl.obj)∧U.cell? ⟨M.b,10,none⟩=some (.slice (some ⟨gb,go_,none⟩) M.dn M.dc)∧U.cell? ⟨M.b,11,none⟩=some (.int .i64 (ti:Int))∧U.cell? ⟨M.b,0,none⟩=some (.int .i64 M.C.W)∧U.cell? ⟨gb,go_+ti*2,none⟩=some (.int .u64 fh)∧U.cell? ⟨gb,go_+ti*2+1,none⟩=some (.int .u64 fl)∧Below v3.heap.size v3 U) (first|exact H0.out _ (Below.refl _ _).drew|exact H0.out _ (below1 _ _).drew|exact H0.out _ HB6.out|exact H0.out _ (below_call HB6.out (below1 _ _))|exact H0.out _ (But.below HB6.out (set3_but (B:=(·=v3.heap.size)) rfl ((cl.obj,mh,ml):Cp)) (fun j e=>by omega))) (first
       | (go_at_call 24;(with_reducible refine (HCu.out (v3.alloc zC).drew).mono ?_);rintro e w2 ⟨rfl,hb2⟩;have HB6:Hid (Below v3.heap.size v3 w2):=below_call (below1 v3 zC).drew hb2;have HC9:Hid (Cc3 w2 v3.heap.size (0,0,0)):=Cc3.later (zC_new v3).1 hb2;have HF9:Hid (Fz w2 v3.heap.size 3):=Fz.later (zC_new v3).2 hb2;have c0:=HC9.out.c0;have c1:=HC9.out.c1;have c2:=HC9.out.c2;have f0:=HF9.out.2 0 (by omega);have f1:=HF9.out.2 1 (by omega);have f2:=HF9.out.2 2 (by omega);clear hb2)
       | (go_at_call 24;(with_reducible refine (HCu.out v3.drew).mono ?_);rintro e w2 ⟨rfl,hb2⟩;have HB6:Hid (Below v3.heap.size v3 w2):=below_call (Below.refl v3.heap.size v3).drew hb2;clear hb2))
      all_goals (try go_wp2)
      all_goals go_meet
      ·exact⟨w2.heap.size,rfl,Cc3.new w2 (cl.obj,mh,ml),HB6.out.size,below_call HB6.out (below1 _ _)⟩
      ·exact⟨v3.heap.size,rfl,set3_cc HC9.out (cl.obj,mh,ml),Nat.le_refl _,But.below HB6.out (set3_but (B:=(·=v3.heap.size)) rfl ((cl.obj,mh,ml):Cp)) (fun j e=>by omega)⟩
     case rest =>
     rename World=>v4
     obtain⟨p,rfl,HCp,Hp,HB4⟩:=hcut
     have P4:=HPv.out.later HB4.out
     have hMb:=HX.out.lt
     have hw3:w.heap.size≤v3.heap.size:=HPv.out.bt.size
     have hp1:p≠M.b:=by have:=Hp.out;omega
     have hpN:¬MxN M a1 Q1 a2 a3 Q3 p:=fun e=>by have:=HN.out p e;have:=Hp.out;omega
     have x11:=P4.x.box.cell 11 rfl
     simp only at x11
     have f11:=P4.x.fz 11 (by omega)
     have HWt:Hid (wrap64 ((ti:Int)+1)=(ti:Int)+1):=by unfold Hid wrap64;omega
     obtain⟨V1,hV1⟩:∃V1,V1=v4.setCell ⟨M.b,11,none⟩ (.int .i64 ((ti:Int)+1)):=⟨_,rfl⟩
     have hbV1:But (fun j=>j=M.b) v4 V1:=by rw [hV1];exact But.setCell (S:=fun j=>j=M.b) (But.refl _ _) (p:=⟨M.b,11,none⟩) rfl _
     have P1:Pg w V1 base (w.heap.size+1) M (MxN M a1 Q1 a2 a3 Q3) { r with t:=ti+1 } a1 c1 Q1 a2 c2 a3 c3 Q3:=by rw [hV1];exact P4.cell 11 _ (P4.x.setT (ti+1))
     have C1:=Cc3.but (B:=fun j=>j=M.b) HCp.out hbV1 hp1
     have X1:=R.Bx.but hbV1 (R.Bx.later HB4.out HXv.out) (show ¬w.heap.size=M.b by omega)
     have HP1:=hid P1
     have HC1:=hid C1
     have HX1:=hid X1
     have HV1:=hid hV1
     have HLw:=hid (rlive_any P1.x.mr (cl.obj,mh,ml))
     clear P4 P1 C1 X1 hV1 hbV1 HPv HXv H0 HCu HCp HB4
     go_upto_region 24 with fail
     first|rw [←HV1.out]|rw [HWt.out,←HV1.out]
     clear x11 f11 HV1 HWt
     obtain⟨y0_,y1_,y2_⟩:=HC1.out
     simp only at y0_ y1_ y2_
     rcases liv_ix r.T (cl.obj,mh,ml) with ⟨h1,h2⟩|⟨l,y,h1,h2,h3⟩
     ·simp only [h1] at HLw
      have hdr:rDrw M.p r cl.obj=(M.p.c ti,0,ti+1):=by
       rw [HDr.out,D.drawR,if_pos (show ti<M.p.n from htl),if_neg (by rw [HCap.out,h2];simp)]
      have HA:Hid (Rr=(⟨0,(cl.obj,mh,ml),[],0⟩,{ r with t:=ti+1,T:=r.T++[⟨r.nn,x.no,(cl.obj,mh,ml),cl.rights⟩],nn:=r.nn+1 })):=by
       unfold Hid
       rw [HA.out,hdr]
       simp only [HCap.out]
       rfl
      clear hdr h1 h2 HDr HCap
      go_upto_region 25 with (first|(go_at_call 40;refine HLw.out.mono ?_;rintro e V5 ⟨rfl,hb5⟩;have HB5:=hid hb5;clear hb5))
      clear y0_ y1_ y2_ HLw
      have HP5:=hid (HP1.out.later HB5.out)
      have HC5:=hid (HC1.out.later HB5.out)
      have HX5:=hid (R.Bx.later HB5.out HX1.out)
      obtain⟨gt,hga,hqc⟩:=hl_cells HP5.out.x.mr.t HI.out
      have tx:V5.cell? ⟨gt,i*6,none⟩=some (.int .i64 x.no):=hqc 0 _ rfl
      have hgb:gt<V5.heap.size:=World.block_lt_of_cell? _ _ tx
      subst hga
      have hpa2:¬Blk (some ⟨gt,0,none⟩) p:=fun e=>hpN (.inr (.inr (.inl e)))
      have hma2:¬Blk (some ⟨gt,0,none⟩) M.b:=fun e=>HX.out.nb M.b (.inr (.inl e)) rfl
      have hca2:¬Blk (some ⟨gt,0,none⟩) w.heap.size:=fun e=>by have:=HN.out _ (.inr (.inr (.inl e)));omega
      have P5:=HP5.out.later (V:=V5.drew) (Below.refl _ _).drew
      obtain⟨b2,d2,w6,hr6,X6,hb6,hb66,hn6⟩:=P5.x.tok2 (Nat.le_trans HBs.out P5.bt.size) ⟨r.nn,x.no,(cl.obj,mh,ml),cl.rights⟩ (by show r.T.length<2048;have:=HnT.out;omega)
      have P6:=P5.go X6 hb6 (fun j hj=>hj.elim (fun e=>.inl e) (fun e=>.inr (.inr (.inl e)))) hn6
      simp only [hlC] at hr6 P6
      rw [←HnT.out] at hr6 P6
      have hr6:(Builtin.append_ #[66,66] 66 #[.slice (some ⟨gt,0,none⟩) nT c2,.slice (some ⟨V5.heap.size,0,none⟩) 1 1]).run Tryz.prog (V5.alloc (Obj.cells #[.int .i64 r.nn,.int .i64 x.no,.int .i64 cl.obj,.int .u64 (mh:Int),.int .u64 (ml:Int),.int .i64 cl.rights] 91)).drew=.ok (.slice b2 (nT+1) d2) w6:=hr6
      have H1:Hid (∀U:World,Below V5.heap.size V5 U→U.cell? ⟨M.b,13,none⟩=some (.slice (some ⟨gt,0,none⟩) nT c2)∧U.cell? ⟨M.b,17,none⟩=some (.int .i64 r.nn)∧U.cell? ⟨p,0,none⟩=some (.int .i64 cl.obj)∧U.cell? ⟨p,1,none⟩=some (.int .u64 (mh:Int))∧U.cell? ⟨p,2,none⟩=some (.int .u64 (ml:Int))∧U.cell? ⟨w.heap.size,7,none⟩=some (.int .i64 cl.rights)):=fun U hU=>⟨by rw [HnT.out];exact (R.Bx.later hU HP5.out.x.box).cell 13 rfl,(R.Bx.later hU HP5.out.x.box).cell 17 rfl,cell_later hU HC5.out.c0,cell_later hU HC5.out.c1,cell_later hU HC5.out.c2,(HC3.out U (R.Bx.later hU HX5.out)).2⟩
      have h0:=H1.out V5.drew (Below.refl _ _).drew
      have HS6:Hid (w6.cell? ⟨M.b,17,none⟩=some (.int .i64 r.nn)∧w6.cell? ⟨p,0,none⟩=some (.int .i64 cl.obj)∧w6.cell? ⟨p,1,none⟩=some (.int .u64 (mh:Int))∧w6.cell? ⟨p,2,none⟩=some (.int .u64 (ml:Int))∧w6.cell? ⟨w.heap.size,7,none⟩=some (.int .i64 cl.rights)):=⟨cell_but hb66 h0.2.1 hma2,cell_but hb66 h0.2.2.1 hpa2,cell_but hb66 h0.2.2.2.1 hpa2,cell_but hb66 h0.2.2.2.2.1 hpa2,cell_but hb66 h0.2.2.2.2.2 hca2⟩
      have y6:w6.cell? ⟨M.b,13,none⟩=some (.slice (some ⟨gt,0,none⟩) nT c2):=cell_but hb66 h0.1 hma2
      have f6:w6.frozen? ⟨M.b,13,none⟩=false:=by
       rw [World.frozen?_of_block (hb66.block M.b P5.x.lt hma2)]
       exact P5.x.fz 13 (by omega)
      have hbf:But (fun j=>j=M.b) w6 (w6.setCell ⟨M.b,13,none⟩ (.slice b2 (nT+1) d2)):=But.setCell (S:=fun j=>j=M.b) (But.refl _ _) (p:=⟨M.b,13,none⟩) rfl _
      have C6:Cc3 (w6.setCell ⟨M.b,13,none⟩ (.slice b2 (nT+1) d2)) p (cl.obj,mh,ml):=(Cc3.but (w:=V5.drew) ⟨h0.2.2.1,h0.2.2.2.1,h0.2.2.2.2.1⟩ hb66 hpa2).but (B:=fun j=>j=M.b) hbf hp1
      have HX7:Hid ((w6.setCell ⟨M.b,13,none⟩ (.slice b2 (nT+1) d2)).cell? ⟨w.heap.size,7,none⟩=some (.int .i64 cl.rights)):=cell_but hbf HS6.out.2.2.2.2 (show ¬w.heap.size=M.b by omega)
      have x17:=P6.x.box.cell 17 rfl
      simp only at x17
      have HX17:=hid x17
      have y0:=(H1.out V5 (Below.refl _ _)).1
      have y1:=(H1.out (V5.alloc (Obj.cells #[.int .i64 r.nn,.int .i64 x.no,.int .i64 cl.obj,.int .u64 (mh:Int),.int .u64 (ml:Int),.int .i64 cl.rights] 91)) (below1 _ _)).1
      have HP6:=hid P6
      have HC6:=hid C6
      clear X6 hb6 hb66 hn6 P5 P6 C6 h0 x17 hbf hqc
      go_cut [] (fun U=>Hid (U=w6.setCell ⟨M.b,13,none⟩ (.slice b2 (nT+1) d2)))
      case first =>
       refine wp_region_held_drew (S:=(fun U:World=>U.cell? ⟨M.b,17,none⟩=some (.int .i64 r.nn)∧U.cell? ⟨p,0,none⟩=some (.int .i64 cl.obj)∧U.cell? ⟨p,1,none⟩=some (.int .u64 (mh:Int))∧U.cell? ⟨p,2,none⟩=some (.int .u64 (ml:Int))∧U.cell? ⟨w.heap.size,7,none⟩=some (.int .i64 cl.rights))) (by kernel_rfl) ((H1.out _ (Below.refl _ _).drew).2) (fun hHeld=>?_)
       refine nm 26 0 26 ?_
       refine tn 0 26 1 25 ?_
       simp only [zz]
       refine tn 1 26 3 24 ?_
       simp only [zz]
       refine tn 2 26 7 23 ?_
       simp only [zz]
       refine tn 3 26 15 22 ?_
       simp only [zz]
       refine tn 5 26 47 21 ?_
       simp only [zz]
       refine tn 6 26 111 20 ?_
       simp only [zz]
       refine tn 7 26 239 19 ?_
       simp only [zz]
       refine tn 8 26 495 18 ?_
       simp only [zz]
       refine tn 9 26 1007 17 ?_
       simp only [zz]
       refine tn 10 26 2031 16 ?_
       simp only [zz]
       refine tn 11 26 4079 15 ?_
       simp only [zz]
       refine tn 13 26 12271 14 ?_
       simp only [zz]
       refine tn 17 26 143343 13 ?_
       simp only [zz]
       refine tn 18 26 405487 12 ?_
       simp only [zz]
       refine tn 19 26 929775 11 ?_
       simp only [zz]
       refine wpAnyH_ready (rs:=[4,12]) (by kernel_rfl) (by simp) ?_
       refine AllReadyH.cons rfl (fun K hK=>?_) ?_
       ·go_simp
        refine zk hK 26 929791 10 ((H1.out _ (Below.refl _ _).drew).2) fun hHeld=>?_
        clear hK K
        try simp only [zz]
        refine zr 12 fun K hK=>?_
        go_simp
        refine zk hK 26 933887 9 ((H1.out _ (Below.refl _ _).drew).2) fun hHeld=>?_
        clear hK K
        try simp only [zz]
        refine tn 14 26 950271 8 ?_
        simp only [zz]
        refine tn 15 26 983039 7 ?_
        simp only [zz]
        refine zr 16 fun K hK=>?_
        go_simp
        refine zk hK 26 1048575 6 ((H1.out _ (Below.refl _ _).drew).2) fun hHeld=>?_
        clear hK K
        try simp only [zz]
        refine tn 20 26 2097151 5 ?_
        simp only [zz]
        refine zr 21 fun K hK=>?_
        go_simp
        refine zk hK 26 4194303 4 ((H1.out _ (below1 _ _).drew).2) fun hHeld=>?_
        clear hK K
        try simp only [zz]
        refine zr 22 fun K hK=>?_
        refine wp_app (.tmp 141) (.tmp 158) 66 rfl _ _ rfl rfl _ w6 hr6 ?_
        refine zk hK 26 8388607 3 (HS6.out) fun hHeld=>?_
        clear hK K
        try simp only [zz]
        refine tn 23 26 16777215 2 ?_
        simp only [zz]
        refine tn 24 26 33554431 1 ?_
        simp only [zz]
        refine zr 25 fun K hK=>?_
        go_simp
        refine zk hK 26 67108863 0 (⟨HX17.out,HC6.out.c0,HC6.out.c1,HC6.out.c2,HX7.out⟩) fun hHeld=>?_
        clear hK K
        try simp only [zz]
        refine zn ?_ _
        (try go_wp2)
        go_meet
        exact hid rfl
       refine AllReadyH.cons rfl (fun K hK=>?_) AllReadyH.nil
       go_simp
       refine zk hK 26 933871 10 ((H1.out _ (Below.refl _ _).drew).2) fun hHeld=>?_
       clear hK K
       try simp only [zz]
       refine tn 14 26 950255 9 ?_
       simp only [zz]
       refine tn 15 26 983023 8 ?_
       simp only [zz]
       refine wpAnyH_ready (rs:=[4,16]) (by kernel_rfl) (by simp) ?_
       refine AllReadyH.cons rfl (fun K hK=>?_) ?_
       ·go_simp
        refine zk hK 26 983039 7 ((H1.out _ (Below.refl _ _).drew).2) fun hHeld=>?_
        clear hK K
        try simp only [zz]
        refine zr 16 fun K hK=>?_
        go_simp
        refine zk hK 26 1048575 6 ((H1.out _ (Below.refl _ _).drew).2) fun hHeld=>?_
        clear hK K
        try simp only [zz]
        refine tn 20 26 2097151 5 ?_
        simp only [zz]
        refine zr 21 fun K hK=>?_
        go_simp
        refine zk hK 26 4194303 4 ((H1.out _ (below1 _ _).drew).2) fun hHeld=>?_
        clear hK K
        try simp only [zz]
        refine zr 22 fun K hK=>?_
        refine wp_app (.tmp 141) (.tmp 158) 66 rfl _ _ rfl rfl _ w6 hr6 ?_
        refine zk hK 26 8388607 3 (HS6.out) fun hHeld=>?_
        clear hK K
        try simp only [zz]
        refine tn 23 26 16777215 2 ?_
        simp only [zz]
        refine tn 24 26 33554431 1 ?_
        simp only [zz]
        refine zr 25 fun K hK=>?_
        go_simp
        refine zk hK 26 67108863 0 (⟨HX17.out,HC6.out.c0,HC6.out.c1,HC6.out.c2,HX7.out⟩) fun hHeld=>?_
        clear hK K
        try simp only [zz]
        refine zn ?_ _
        (try go_wp2)
        go_meet
        exact hid rfl
       refine AllReadyH.cons rfl (fun K hK=>?_) AllReadyH.nil
       go_simp
       refine zk hK 26 1048559 7 ((H1.out _ (Below.refl _ _).drew).2) fun hHeld=>?_
       clear hK K
       try simp only [zz]
       refine tn 20 26 2097135 6 ?_
       simp only [zz]
       refine wpAnyH_ready (rs:=[4,21]) (by kernel_rfl) (by simp) ?_
       refine AllReadyH.cons rfl (fun K hK=>?_) ?_
       ·go_simp
        refine zk hK 26 2097151 5 ((H1.out _ (Below.refl _ _).drew).2) fun hHeld=>?_
        clear hK K
        try simp only [zz]
        refine zr 21 fun K hK=>?_
        go_simp
        refine zk hK 26 4194303 4 ((H1.out _ (below1 _ _).drew).2) fun hHeld=>?_
        clear hK K
        try simp only [zz]
        refine zr 22 fun K hK=>?_
        refine wp_app (.tmp 141) (.tmp 158) 66 rfl _ _ rfl rfl _ w6 hr6 ?_
        refine zk hK 26 8388607 3 (HS6.out) fun hHeld=>?_
        clear hK K
        try simp only [zz]
        refine tn 23 26 16777215 2 ?_
        simp only [zz]
        refine tn 24 26 33554431 1 ?_
        simp only [zz]
        refine zr 25 fun K hK=>?_
        go_simp
        refine zk hK 26 67108863 0 (⟨HX17.out,HC6.out.c0,HC6.out.c1,HC6.out.c2,HX7.out⟩) fun hHeld=>?_
        clear hK K
        try simp only [zz]
        refine zn ?_ _
        (try go_wp2)
        go_meet
        exact hid rfl
       refine AllReadyH.cons rfl (fun K hK=>?_) AllReadyH.nil
       go_simp
       refine zk hK 26 4194287 5 ((H1.out _ (below1 _ _).drew).2) fun hHeld=>?_
       clear hK K
       try simp only [zz]
       refine zr 4 fun K hK=>?_
       go_simp
       refine zk hK 26 4194303 4 ((H1.out _ (below1 _ _).drew).2) fun hHeld=>?_
       clear hK K
       try simp only [zz]
       refine zr 22 fun K hK=>?_
       refine wp_app (.tmp 141) (.tmp 158) 66 rfl _ _ rfl rfl _ w6 hr6 ?_
       refine zk hK 26 8388607 3 (HS6.out) fun hHeld=>?_
       clear hK K
       try simp only [zz]
       refine tn 23 26 16777215 2 ?_
       simp only [zz]
       refine tn 24 26 33554431 1 ?_
       simp only [zz]
       refine zr 25 fun K hK=>?_
       go_simp
       refine zk hK 26 67108863 0 (⟨HX17.out,HC6.out.c0,HC6.out.c1,HC6.out.c2,HX7.out⟩) fun hHeld=>?_
       clear hK K
       try simp only [zz]
       refine zn ?_ _
       (try go_wp2)
       go_meet
       exact hid rfl
      case rest =>
      rename World=>V6
      have e6:=hcut.out
      rw [←e6] at HP6 HC6
      clear hcut e6 y0 y1 y6 hr6 f6 HS6 H1 HP5 HC5 HX17 HX7 tx
      have x17:=HP6.out.x.box.cell 17 rfl
      have f17:=HP6.out.x.fz 17 (by omega)
      simp only at x17
      have hrn:=HF.out.nn
      have HWn:Hid (wrap64 (r.nn+1)=r.nn+1):=by unfold Hid wrap64;omega
      obtain⟨V7,hV7⟩:∃V7,V7=V6.setCell ⟨M.b,17,none⟩ (.int .i64 (r.nn+1)):=⟨_,rfl⟩
      have P7:=HP6.out.cell 17 _ (HP6.out.x.setN (r.nn+1))
      have C7:=Cc3.but (B:=fun j=>j=M.b) HC6.out (show But (fun j=>j=M.b) V6 V7 by rw [hV7];exact But.setCell (S:=fun j=>j=M.b) (But.refl _ _) (p:=⟨M.b,17,none⟩) rfl _) hp1
      rw [←hV7] at P7
      have HP7:=hid P7
      have HV7:=hid hV7
      obtain⟨c0,c1_,c2_⟩:=C7
      simp only at c0 c1_ c2_
      have HS9:=hid (HP7.out.z.st ⟨0,(cl.obj,mh,ml),[],0⟩ none 0 0)
      have HL9:=hid (HP7.out.z.lv ⟨0,(cl.obj,mh,ml),[],0⟩ none 0 0)
      clear P7 hV7 HP6 HC6
      go_upto_region 27 with fail
      first|rw [←HV7.out]|rw [HWn.out,←HV7.out]
      clear x17 f17 HWn
      go_wp2_with (first|((with_reducible refine st_arm HS9.out ?_ ?_ ?_);(· rfl);(· rfl)))
      have hfin:=HP7.out.e.fin (Nat.le_succ _) HN.out HD.out ⟨0,(cl.obj,mh,ml),[],0⟩ rfl
      obtain rfl:Rr=_:=HA.out
      exact bodyPost_ret (v:=rpV ⟨0,(cl.obj,mh,ml),[],0⟩ none 0 0) (by simp [results,Tryz.results22,asAddr,HL9.out]) rfl hfin
     ·simp only [h1] at HLw
      have hl0:decide ((l:Int)<0)=false:=decide_eq_false (by omega)
      have HNx:Hid (rDrw M.p r cl.obj=D.drawR (fun N=>(liv r.T (D.cap cl.obj N)).isSome) M.p.c M.p.n (9 - (k+1)) (ti+1)):=by
       unfold Hid
       have:9 - (k+1)=m:=by omega
       rw [HDr.out,this,D.drawR,if_pos (show ti<M.p.n from htl),if_pos (by rw [HCap.out,h3];rfl)]
      clear h1 h2 h3 HDr HCap hm
      go_wp2_with (first|(go_at_call 40;refine HLw.out.mono ?_;rintro e V5 ⟨rfl,hb5⟩;have HB5:=hid hb5;clear hb5))
      exact⟨⟨k+1,ti+1,rfl,by omega,by omega,HNx,hid (HP1.out.later HB5.out),hid (R.Bx.later HB5.out HX1.out)⟩,by simp [intOf];omega⟩
    ·obtain rfl:k=9:=by omega
     obtain rfl:Rr=(rep 12,{ r with t:=ti }):=by
      have h9:=HDr.out
      have:9 - 9=0:=rfl
      rw [this,D.drawR] at h9
      rw [HA.out,h9,if_pos (show (12:Int)≠0 by decide)]
     have HEv:=hid HPg.out.e
     clear hk m10 m11
     have HR_:=hid (rrefused_any 12 U)
     go_wp2_with (first|(go_at_call 18;refine HR_.out.mono ?_;rintro e w9 ⟨rfl,hb9⟩;have HE9:=hid (HEv.out.later hb9);have HZ9:=hid HE9.out.z;have HS9:=hid (HZ9.out.st (rep 12) none 0 0);have HL9:=hid (HZ9.out.lv (rep 12) none 0 0);clear hb9)|((with_reducible refine st_arm HS9.out ?_ ?_ ?_);(· rfl);(· rfl)))
     exact bodyPost_ret (v:=rpV (rep 12) none 0 0) (by simp [results,Tryz.results22,asAddr,HL9.out]) rfl (HE9.out.fin (Nat.le_succ _) HN.out HD.out (rep 12) rfl)
end
end Go.Proofs.YtffmodpgddecnaaGreat.V.E
