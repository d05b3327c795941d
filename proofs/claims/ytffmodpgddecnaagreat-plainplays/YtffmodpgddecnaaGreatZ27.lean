import Derived.Test.YtffmodpgddecnaaGreatZ26
set_option linter.unusedVariables false
set_option linter.unusedSimpArgs false
namespace Go.Proofs.YtffmodpgddecnaaGreat.V.E
open Go.RowKit Go.Maps
open Go.Proofs.YtffmodpgddecnaaGreat.H (B64 Cp)
section
variable {w w':World}{base:Nat}{M:Mh}{r:Rm}{a1:Option Addr}{c1:Nat}{Q1:List Ev}{a2:Option Addr}{c2:Nat}{a3:Option Addr}{c3:Nat}{Q3:List Ev}
set_option maxRecDepth 100000 in
set_option maxHeartbeats 4000000 in
theorem rcreate_any (h:Mx w base M r a1 c1 Q1 a2 c2 a3 c3 Q3)(hbs:base≤w.heap.size)(hf:RF M.p r)(hcf:M.C.may=true)(size:Int):Calls Tryz.prog 20 #[.pointer (some ⟨M.b,0,none⟩),.int .i64 size] w (RmP w base M (MxN M a1 Q1 a2 a3 Q3) (rCre M.p r size)):=by
 obtain⟨W,hW⟩:∃W,W=w.alloc z6:=⟨_,rfl⟩
 have hB:Below w.heap.size w W:=by rw [hW];exact below1 _ _
 have hZ:Zr W w.heap.size:=by rw [hW];exact Zr.new w
 have HE:=hid (MxE.start h hB hZ)
 have HN:Hid (∀j,MxN M a1 Q1 a2 a3 Q3 j→j<w.heap.size):=fun j hj=>(h.rng j hj).2
 have HD:=hid h.dl
 have HW:=hid hW
 have HB:=hid hB
 have HX:=hid h
 have HBs:=hid hbs
 have hcm:=Cf.may_iff.1 hcf
 have HRt:Hid (rCre M.p r size=if size<0∨4096<size then (rep 6,r) else if M.C.o.toNat≤r.V.length∨4611686018427387904<r.nx then (rep 7,r) else if (M.C.p.toNat:Int) - (S.usedV r.V:Int)<(S.needN size.toNat:Int) then (rep 8,r) else if M.C.m.toNat≤r.T.length then (rep 10,r) else if M.dn≤r.t then (rep 11,r) else (⟨0,D.cap r.nx (M.p.c r.t),[],0⟩,{ r with t:=r.t+1,V:=r.V++[(r.nx,List.replicate size.toNat 0)],T:=r.T++[⟨r.nn,0,D.cap r.nx (M.p.c r.t),31⟩],nx:=r.nx+1,nn:=r.nn+1 })):=by
  unfold Hid rCre S.mayV
  have e1:M.p.room=M.C.o.toNat:=rfl
  have e2:M.p.pgs=M.C.p.toNat:=rfl
  have e3:M.p.mo=M.C.m.toNat:=rfl
  have e4:M.p.n=M.dn:=rfl
  rw [e1,e2,e3,e4]
  by_cases h1:size<0∨4096<size
  ·simp only [if_pos h1];rfl
  ·simp only [if_neg h1]
   by_cases h2:M.C.o.toNat≤r.V.length∨4611686018427387904<r.nx
   ·simp only [if_pos h2];rfl
   ·simp only [if_neg h2]
    by_cases h3:(M.C.p.toNat:Int) - (S.usedV r.V:Int)<(S.needN size.toNat:Int)
    ·simp only [if_pos h3];rfl
    ·simp only [if_neg h3];rfl
 obtain⟨Rr,hR⟩:∃Rr,Rr=rCre M.p r size:=⟨_,rfl⟩
 rw [←hR] at HRt ⊢
 clear hR hB hZ hW
 by_cases h1:size<0∨4096<size
 ·obtain rfl:Rr=(rep 6,r):=by rw [HRt.out,if_pos h1]
  clear h hbs hf hcf hcm HX
  by_cases h2:size<0
  ·have hd:decide (size<0)=true:=decide_eq_true h2
   clear h1 h2
   go_enter Tryz.func20,Tryz.ntmps20
   go_upto_region 1 with fail
   rw [←HW.out]
   have HR_:=hid (rrefused_any 6 W)
   go_wp2_with (first|(go_at_call 18;refine HR_.out.mono ?_;rintro e w9 ⟨rfl,hb9⟩;have HE9:=hid (HE.out.later hb9);have HZ9:=hid HE9.out.z;have HS9:=hid (HZ9.out.st (rep 6) none 0 0);have HL9:=hid (HZ9.out.lv (rep 6) none 0 0);clear hb9)|((with_reducible refine st_arm HS9.out ?_ ?_ ?_);(· rfl);(· rfl)))
   exact bodyPost_ret (v:=rpV (rep 6) none 0 0) (by simp [results,Tryz.results20,asAddr,HL9.out]) rfl (HE9.out.fin (Nat.le_refl _) HN.out HD.out (rep 6) rfl)
  ·have hd:decide (size<0)=false:=decide_eq_false h2
   have hd2:decide (size>4096)=true:=decide_eq_true (by omega)
   clear h1 h2
   go_enter Tryz.func20,Tryz.ntmps20
   go_upto_region 1 with fail
   rw [←HW.out]
   have HR_:=hid (rrefused_any 6 W)
   go_wp2_with (first|(go_at_call 18;refine HR_.out.mono ?_;rintro e w9 ⟨rfl,hb9⟩;have HE9:=hid (HE.out.later hb9);have HZ9:=hid HE9.out.z;have HS9:=hid (HZ9.out.st (rep 6) none 0 0);have HL9:=hid (HZ9.out.lv (rep 6) none 0 0);clear hb9)|((with_reducible refine st_arm HS9.out ?_ ?_ ?_);(· rfl);(· rfl)))
   exact bodyPost_ret (v:=rpV (rep 6) none 0 0) (by simp [results,Tryz.results20,asAddr,HL9.out]) rfl (HE9.out.fin (Nat.le_refl _) HN.out HD.out (rep 6) rfl)
 have HRt:=hid (HRt.out.trans (if_neg h1))
 obtain⟨sz,hsz⟩:∃sz:Nat,size=(sz:Int):=⟨size.toNat,by omega⟩
 have hs2:sz≤4096:=by omega
 subst hsz
 rw [Int.toNat_natCast] at HRt
 have hd1:decide ((sz:Int)<0)=false:=decide_eq_false (by omega)
 have hd2:decide ((sz:Int)>4096)=false:=decide_eq_false (by omega)
 have m1:=h.box.cell 1 rfl
 have m2:=h.box.cell 2 rfl
 have m3:=h.box.cell 3 rfl
 have HC:Hid (∀U:World,Below w.heap.size w U→R.Bx U M.b (moL M r a1 c1 a2 c2 a3 c3)):=fun U hU=>R.Bx.later hU h.box
 obtain⟨nV,hnV⟩:∃n,n=r.V.length:=⟨_,rfl⟩
 obtain⟨nT,hnT⟩:∃n,n=r.T.length:=⟨_,rfl⟩
 obtain⟨us,hus⟩:∃n,n=S.usedV r.V:=⟨_,rfl⟩
 obtain⟨co,hco⟩:∃n:Nat,M.C.o=(n:Int):=⟨M.C.o.toNat,by omega⟩
 obtain⟨cp,hcp⟩:∃n:Nat,M.C.p=(n:Int):=⟨M.C.p.toNat,by omega⟩
 obtain⟨cm,hcm2⟩:∃n:Nat,M.C.m=(n:Int):=⟨M.C.m.toNat,by omega⟩
 have hrV:=hf.V
 have hrT:=hf.T
 have hru:=hf.us
 have hrx:=hf.nx
 have hrn:=hf.nn
 have hrt:=hf.le
 have hrtn:=hf.n
 rw [hco,hcp,hcm2] at hcm
 have HV12:Hid (∀U:World,Below w.heap.size w U→U.cell? ⟨M.b,12,none⟩=some (.slice a1 nV c1)∧U.cell? ⟨M.b,1,none⟩=some (.int .i64 (co:Int))∧U.cell? ⟨M.b,15,none⟩=some (.int .i64 r.nx)∧Below w.heap.size w U):=fun U hU=>⟨by rw [hnV];exact (HC.out U hU).cell 12 rfl,by rw [←hco];exact (HC.out U hU).cell 1 rfl,(HC.out U hU).cell 15 rfl,hU⟩
 have HV2:Hid (∀U:World,Below w.heap.size w U→U.cell? ⟨M.b,2,none⟩=some (.int .i64 (cp:Int))∧Below w.heap.size w U):=fun U hU=>⟨by rw [←hcp];exact (HC.out U hU).cell 2 rfl,hU⟩
 have HV13:Hid (∀U:World,Below w.heap.size w U→U.cell? ⟨M.b,13,none⟩=some (.slice a2 nT c2)∧U.cell? ⟨M.b,3,none⟩=some (.int .i64 (cm:Int))∧Below w.heap.size w U):=fun U hU=>⟨by rw [hnT];exact (HC.out U hU).cell 13 rfl,by rw [←hcm2];exact (HC.out U hU).cell 3 rfl,hU⟩
 have HV10:Hid (∀U:World,Below w.heap.size w U→U.cell? ⟨M.b,10,none⟩=some (.slice M.da M.dn M.dc)∧U.cell? ⟨M.b,11,none⟩=some (.int .i64 (r.t:Int))∧Below w.heap.size w U):=fun U hU=>⟨(HC.out U hU).cell 10 rfl,(HC.out U hU).cell 11 rfl,hU⟩
 have HPg:Hid (∀U:World,Below w.heap.size w U→Calls Tryz.prog 39 #[.pointer (some ⟨M.b,0,none⟩)] U fun e w'=>e=.returned (.int .i64 (us:Int))∧Below U.heap.size U w'):=fun U hU=>by
  rw [hus]
  exact rpages_any (h.mr.later hU) (by omega) (fun v hv=>by have:=(hf.vb v hv).1;omega)
 rw [hco,hcp,hcm2,←hnV,←hnT,←hus] at HRt
 simp only [Int.toNat_natCast] at HRt
 rw [←hnV] at hrV
 rw [←hnT] at hrT
 rw [←hus] at hru
 have hnd:S.needN sz≤64:=by unfold S.needN;omega
 have HW3:Hid (wrap64 ((sz:Int)+63)=(sz:Int)+63):=by unfold Hid wrap64;omega
 have hnd3:((sz:Int)+63).tdiv 64=(S.needN sz:Int):=by unfold S.needN;rw [Int.tdiv_eq_ediv_of_nonneg (by omega)];omega
 have HnV:=hid hnV
 have HnT:=hid hnT
 have Hco:=hid hco
 have HF:=hid hf
 have HCf:=hid hcf
 clear h hbs hf hcf m1 m2 m3 h1 hus hnV hnT hco hcp hcm2
 by_cases h2:co≤nV∨4611686018427387904<r.nx
 ·obtain rfl:Rr=(rep 7,r):=by rw [HRt.out,if_pos h2]
  go_enter Tryz.func20,Tryz.ntmps20
  go_upto_region 1 with fail
  rw [←HW.out]
  go_upto_region 3 with fail
  obtain⟨m12,m1,m15,-⟩:=HV12.out W HB.out
  go_cut [30] (fun v_ U=>v_=.bool true∧Hid (Below w.heap.size w U)∧Hid (Below W.heap.size W U))
  case first =>
   by_cases h3:co≤nV
   ·have hd3:decide ((nV:Int)≥(co:Int))=true:=decide_eq_true (by omega)
    have hd3n:decide (co≤nV)=true:=decide_eq_true (by omega)
    clear h2 h3
    go_quiet (fail)
    (try go_wp2)
    go_meet
    exact⟨rfl,below_drewN HB.out _,below_drewN (Below.refl _ _) _⟩
   ·have hd3:decide ((nV:Int)≥(co:Int))=false:=decide_eq_false (by omega)
    have hd3n:decide (co≤nV)=false:=decide_eq_false (by omega)
    have hd4:decide (r.nx>4611686018427387904)=true:=decide_eq_true (by omega)
    clear h2 h3
    go_quiet (fail)
    (try go_wp2)
    go_meet
    exact⟨rfl,below_drewN HB.out _,below_drewN (Below.refl _ _) _⟩
  case rest =>
  rename World=>v
  obtain⟨rfl,HBv,HBv2⟩:=hcut
  have HEv:=hid (HE.out.later HBv2.out)
  have HR_:=hid (rrefused_any 7 v)
  go_wp2_with (first|(go_at_call 18;refine HR_.out.mono ?_;rintro e w9 ⟨rfl,hb9⟩;have HE9:=hid (HEv.out.later hb9);have HZ9:=hid HE9.out.z;have HS9:=hid (HZ9.out.st (rep 7) none 0 0);have HL9:=hid (HZ9.out.lv (rep 7) none 0 0);clear hb9)|((with_reducible refine st_arm HS9.out ?_ ?_ ?_);(· rfl);(· rfl)))
  exact bodyPost_ret (v:=rpV (rep 7) none 0 0) (by simp [results,Tryz.results20,asAddr,HL9.out]) rfl (HE9.out.fin (Nat.le_refl _) HN.out HD.out (rep 7) rfl)
 have HRt:=hid (HRt.out.trans (if_neg h2))
 have hd3:decide ((nV:Int)≥(co:Int))=false:=decide_eq_false (by omega)
 have hd3n:decide (co≤nV)=false:=decide_eq_false (by omega)
 have hd4:decide (r.nx>4611686018427387904)=false:=decide_eq_false (by omega)
 have hx4:r.nx≤4611686018427387904:=by omega
 clear h2
 obtain⟨nd,hnd0⟩:∃nd,nd=S.needN sz:=⟨_,rfl⟩
 rw [←hnd0] at hnd3 hnd HRt
 clear hnd0
 have HW4:Hid (IntKind.i64.wrap ((us:Int)+(nd:Int))=(us:Int)+(nd:Int)):=by unfold Hid;rw [IntKind.wrap_i64];omega
 have HW5:Hid (wrap64 ((us:Int)+(nd:Int))=(us:Int)+(nd:Int)):=by unfold Hid wrap64;omega
 have HW7:Hid (IntKind.i64.wrap (nd:Int)=(nd:Int)):=by unfold Hid;rw [IntKind.wrap_i64];omega
 have HW6:Hid (IntKind.i64.wrap ((sz:Int)+63)=(sz:Int)+63):=by unfold Hid;rw [IntKind.wrap_i64];omega
 go_enter Tryz.func20,Tryz.ntmps20
 go_upto_region 1 with fail
 rw [←HW.out]
 go_upto_region 3 with fail
 obtain⟨m12,m1,m15,-⟩:=HV12.out W HB.out
 go_cut [30] (fun v_ U=>v_=.bool false∧Hid (Below w.heap.size w U)∧Hid (Below W.heap.size W U))
 case first =>
  go_quiet (fail)
  (try go_wp2)
  go_meet
  exact⟨rfl,below_drewN HB.out _,below_drewN (Below.refl _ _) _⟩
 case rest =>
 rename World=>v
 obtain⟨rfl,HBv,HBv2⟩:=hcut
 clear m12 m1 m15 hd1 hd2 hd3 hd3n hd4
 go_upto_region 5 with fail
 have hwr2:=HW4.out
 have hwr:=HW5.out
 have hwr3:=HW6.out
 have hnd2:=HW3.out
 go_cut [43] (fun v_ U=>v_=.bool (decide ((us:Int)+(nd:Int)>(cp:Int)))∧Hid (Below v.heap.size v U))
 case first =>
  go_region_held3 (fun U=>U.cell? ⟨M.b,2,none⟩=some (.int .i64 (cp:Int))∧Below w.heap.size w U) (first|exact HV2.out _ HBv.out.drew|exact HV2.out _ (below_call HBv.out HB3.out)) (first
   | (go_at_call 39;(with_reducible refine (HPg.out v.drew HBv.out.drew).mono ?_);rintro e w3 ⟨rfl,hb3⟩;have HB3:Hid (Below v.heap.size v w3):=below_call (Below.refl v.heap.size v).drew hb3;clear hb3))
  all_goals (try go_wp2)
  all_goals go_meet
  all_goals exact⟨by first|rfl|(rw [hwr2];rfl)|(rw [hwr3,hnd3,hwr2])|(rw [HW7.out,hwr2]),HB3.out⟩
 case rest =>
 rename World=>v1
 obtain⟨rfl,HBa⟩:=hcut
 have HBv:=hid (below_call HBv.out HBa.out)
 have HBv2:=hid (below_call HBv2.out HBa.out)
 clear HBa
 clear hwr2 hwr hwr3 hnd2 HW3 HW4 HW5 HW6 HW7
 by_cases h3:(cp:Int) - (us:Int)<(nd:Int)
 ·obtain rfl:Rr=(rep 8,r):=by rw [HRt.out,if_pos h3]
  have hd:decide ((us:Int)+(nd:Int)>(cp:Int))=true:=decide_eq_true (by omega)
  rw [hd]
  have HEv:=hid (HE.out.later HBv2.out)
  clear h3 hd
  have HR_:=hid (rrefused_any 8 v1)
  go_wp2_with (first|(go_at_call 18;refine HR_.out.mono ?_;rintro e w9 ⟨rfl,hb9⟩;have HE9:=hid (HEv.out.later hb9);have HZ9:=hid HE9.out.z;have HS9:=hid (HZ9.out.st (rep 8) none 0 0);have HL9:=hid (HZ9.out.lv (rep 8) none 0 0);clear hb9)|((with_reducible refine st_arm HS9.out ?_ ?_ ?_);(· rfl);(· rfl)))
  exact bodyPost_ret (v:=rpV (rep 8) none 0 0) (by simp [results,Tryz.results20,asAddr,HL9.out]) rfl (HE9.out.fin (Nat.le_refl _) HN.out HD.out (rep 8) rfl)
 have HRt:=hid (HRt.out.trans (if_neg h3))
 have hd:decide ((us:Int)+(nd:Int)>(cp:Int))=false:=decide_eq_false (by omega)
 rw [hd]
 clear h3 hd hnd3 hnd HPg HV12 HV2
 go_upto_region 7 with fail
 obtain⟨m13,m3,-⟩:=HV13.out v1 HBv.out
 by_cases h4:cm≤nT
 ·obtain rfl:Rr=(rep 10,r):=by rw [HRt.out,if_pos h4]
  have hd:decide ((nT:Int)≥(cm:Int))=true:=decide_eq_true (by omega)
  have hdn:decide (cm≤nT)=true:=decide_eq_true (by omega)
  clear h4
  go_quiet (fail)
  obtain⟨v2,hv2⟩:∃v2,v2=v1.drewN nq:=⟨_,rfl⟩
  have HEv:Hid (MxE w v2 base w.heap.size M (MxN M a1 Q1 a2 a3 Q3) r):=HE.out.later (by rw [hv2];exact below_drewN HBv2.out _)
  rw [←hv2]
  clear hv2
  have HR_:=hid (rrefused_any 10 v2)
  go_wp2_with (first|(go_at_call 18;refine HR_.out.mono ?_;rintro e w9 ⟨rfl,hb9⟩;have HE9:=hid (HEv.out.later hb9);have HZ9:=hid HE9.out.z;have HS9:=hid (HZ9.out.st (rep 10) none 0 0);have HL9:=hid (HZ9.out.lv (rep 10) none 0 0);clear hb9)|((with_reducible refine st_arm HS9.out ?_ ?_ ?_);(· rfl);(· rfl)))
  exact bodyPost_ret (v:=rpV (rep 10) none 0 0) (by simp [results,Tryz.results20,asAddr,HL9.out]) rfl (HE9.out.fin (Nat.le_refl _) HN.out HD.out (rep 10) rfl)
 have HRt:=hid (HRt.out.trans (if_neg h4))
 have hd:decide ((nT:Int)≥(cm:Int))=false:=decide_eq_false (by omega)
 have hdn:decide (cm≤nT)=false:=decide_eq_false (by omega)
 clear h4
 go_quiet (fail)
 obtain⟨v2,hv2⟩:∃v2,v2=v1.drewN nq:=⟨_,rfl⟩
 have HB2:Hid (Below w.heap.size w v2):=by rw [hv2];exact below_drewN HBv.out _
 have HB22:Hid (Below W.heap.size W v2):=by rw [hv2];exact below_drewN HBv2.out _
 rw [←hv2]
 clear hv2 m13 m3 HBv HBv2
 go_upto_region 9 with fail
 clear hd hdn HV13
 obtain⟨m10,m11,-⟩:=HV10.out v2 HB2.out
 by_cases h5:M.dn≤r.t
 ·obtain rfl:Rr=(rep 11,r):=by rw [HRt.out,if_pos h5]
  have hd:decide ((r.t:Int)≥(M.dn:Int))=true:=decide_eq_true (by omega)
  have hdn:decide (M.dn≤r.t)=true:=decide_eq_true h5
  clear h5
  go_quiet (fail)
  obtain⟨v3,hv3⟩:∃v3,v3=v2.drewN nq:=⟨_,rfl⟩
  have HEv:Hid (MxE w v3 base w.heap.size M (MxN M a1 Q1 a2 a3 Q3) r):=HE.out.later (by rw [hv3];exact below_drewN HB22.out _)
  rw [←hv3]
  clear hv3
  have HR_:=hid (rrefused_any 11 v3)
  go_wp2_with (first|(go_at_call 18;refine HR_.out.mono ?_;rintro e w9 ⟨rfl,hb9⟩;have HE9:=hid (HEv.out.later hb9);have HZ9:=hid HE9.out.z;have HS9:=hid (HZ9.out.st (rep 11) none 0 0);have HL9:=hid (HZ9.out.lv (rep 11) none 0 0);clear hb9)|((with_reducible refine st_arm HS9.out ?_ ?_ ?_);(· rfl);(· rfl)))
  exact bodyPost_ret (v:=rpV (rep 11) none 0 0) (by simp [results,Tryz.results20,asAddr,HL9.out]) rfl (HE9.out.fin (Nat.le_refl _) HN.out HD.out (rep 11) rfl)
 have HRt:=hid (HRt.out.trans (if_neg h5))
 have hd:decide ((r.t:Int)≥(M.dn:Int))=false:=decide_eq_false (by omega)
 have hdn:decide (M.dn≤r.t)=false:=decide_eq_false h5
 have htl:r.t<M.dn:=by omega
 clear h5
 go_quiet (fail)
 obtain⟨v3,hv3⟩:∃v3,v3=v2.drewN nq:=⟨_,rfl⟩
 have HB3:Hid (Below w.heap.size w v3):=by rw [hv3];exact below_drewN HB2.out _
 have HB33:Hid (Below W.heap.size W v3):=by rw [hv3];exact below_drewN HB22.out _
 rw [←hv3]
 clear hv3 m10 m11 HB2 HB22
 go_upto_region 11 with fail
 clear hd hdn
 obtain⟨gb,go_,hda,hw⟩:=HX.out.dr.plain (by omega)
 have HWd:=hid (hw r.t htl)
 have HCu:=hid (fun U=>rcut_at M r.t (HX.out.dr.small r.t) hcm.1 U)
 have H0:Hid (∀U:World,Below w.heap.size w U→U.cell? ⟨M.b,15,none⟩=some (.int .i64 r.nx)∧U.cell? ⟨M.b,10,none⟩=some (.slice (some ⟨gb,go_,none⟩) M.dn M.dc)∧U.cell? ⟨M.b,11,none⟩=some (.int .i64 (r.t:Int))∧U.cell? ⟨M.b,0,none⟩=some (.int .i64 M.C.W)∧U.cell? ⟨gb,go_+r.t*2,none⟩=some (.int .u64 (D.hiI (M.f r.t)))∧U.cell? ⟨gb,go_+r.t*2+1,none⟩=some (.int .u64 (D.loI (M.f r.t)))∧Below w.heap.size w U):=fun U hU=>⟨(HC.out U hU).cell 15 rfl,by rw [←hda];exact (HC.out U hU).cell 10 rfl,(HC.out U hU).cell 11 rfl,(HC.out U hU).cell 0 rfl,cell_later hU HWd.out.1,cell_later hU HWd.out.2,hU⟩
 have hlt:(r.t:Int)<(M.dn:Int):=by omega
 have h0t:(0:Int)≤(r.t:Int):=by omega
 obtain⟨mh,hmh⟩:∃mh,mh=M.p.c r.t / B64:=⟨_,rfl⟩
 obtain⟨ml,hml⟩:∃ml,ml=M.p.c r.t%B64:=⟨_,rfl⟩
 rw [←hmh,←hml] at HCu
 have hcap:D.cap r.nx (M.p.c r.t)=(r.nx,mh,ml):=by rw [hmh,hml];rfl
 rw [hcap] at HRt
 generalize D.hiI (M.f r.t)=fh at *
 generalize D.loI (M.f r.t)=fl at *
 clear hda hw hmh hml hcap HWd HV10
 go_cut [5] (fun v U=>∃p,v=.pointer (some ⟨p,0,none⟩)∧Hid (Cc3 U p (r.nx,mh,ml))∧Hid (v3.heap.size≤p)∧Hid (Below v3.heap.size v3 U))
 case first =>
  go_region_held3 (fun U=>U.cell? ⟨M.b,15,none⟩=some (.int .i64 r.nx)∧U.cell? ⟨M.b,10,none⟩=some (.slice (some ⟨gb,go_,none⟩) M.dn M.dc)∧U.cell? ⟨M.b,11,none⟩=some (.int .i64 (r.t:Int))∧U.cell? ⟨M.b,0,none⟩=some (.int .i64 M.C.W)∧U.cell? ⟨gb,go_+r.t*2,none⟩=some (.int .u64 fh)∧U.cell? ⟨gb,go_+r.t*2+1,none⟩=some (.int .u64 fl)∧Below w.heap.size w U) (first|exact H0.out _ HB3.out.drew|exact H0.out _ (below_call HB3.out (below1 _ _)).drew|exact H0.out _ HB5.out|exact H0.out _ (below_call HB5.out (below1 _ _))|exact H0.out _ (But.below HB5.out (set3_but (B:=(·=v3.heap.size)) rfl ((r.nx,mh,ml):Cp)) (fun j e=>by have:=HB3.out.size;omega))) (first
   | (go_at_call 24;(with_reducible refine (HCu.out (v3.alloc zC).drew).mono ?_);rintro e w2 ⟨rfl,hb2⟩;have HB5:Hid (Below w.heap.size w w2):=below_call (below_call HB3.out (below1 v3 zC)).drew hb2;have HB6:Hid (Below v3.heap.size v3 w2):=below_call (below1 v3 zC).drew hb2;have HC9:Hid (Cc3 w2 v3.heap.size (0,0,0)):=Cc3.later (zC_new v3).1 hb2;have HF9:Hid (Fz w2 v3.heap.size 3):=Fz.later (zC_new v3).2 hb2;have c0:=HC9.out.c0;have c1:=HC9.out.c1;have c2:=HC9.out.c2;have f0:=HF9.out.2 0 (by omega);have f1:=HF9.out.2 1 (by omega);have f2:=HF9.out.2 2 (by omega);clear hb2)
   | (go_at_call 24;(with_reducible refine (HCu.out v3.drew).mono ?_);rintro e w2 ⟨rfl,hb2⟩;have HB5:Hid (Below w.heap.size w w2):=below_call HB3.out.drew hb2;have HB6:Hid (Below v3.heap.size v3 w2):=below_call (Below.refl v3.heap.size v3).drew hb2;clear hb2))
  all_goals (try go_wp2)
  all_goals go_meet
  ·exact⟨w2.heap.size,rfl,Cc3.new w2 (r.nx,mh,ml),HB6.out.size,below_call HB6.out (below1 _ _)⟩
  ·exact⟨v3.heap.size,rfl,set3_cc HC9.out (r.nx,mh,ml),Nat.le_refl _,But.below HB6.out (set3_but (B:=(·=v3.heap.size)) rfl ((r.nx,mh,ml):Cp)) (fun j e=>by omega)⟩
 case rest =>
 rename World=>v4
 obtain⟨p,rfl,HCp,Hp,HB4⟩:=hcut
 have P4:=(Pg.start HX.out HB3.out (HE.out.z.later HB33.out) (Nat.le_refl _)).later HB4.out
 have hMb:=HX.out.lt
 have hp1:p≠M.b:=by have:=Hp.out;have:=HB3.out.size;omega
 have hpN:¬MxN M a1 Q1 a2 a3 Q3 p:=fun e=>by have:=HN.out p e;have:=Hp.out;have:=HB3.out.size;omega
 have x11:=P4.x.box.cell 11 rfl
 have f11:=P4.x.fz 11 (by omega)
 have HWt:Hid (wrap64 ((r.t:Int)+1)=(r.t:Int)+1):=by unfold Hid wrap64;omega
 have HWx:Hid (wrap64 (r.nx+1)=r.nx+1):=by unfold Hid wrap64;omega
 have HWn:Hid (wrap64 (r.nn+1)=r.nn+1):=by unfold Hid wrap64;omega
 obtain⟨V1,hV1⟩:∃V1,V1=v4.setCell ⟨M.b,11,none⟩ (.int .i64 ((r.t:Int)+1)):=⟨_,rfl⟩
 have P1:Pg w V1 base w.heap.size M (MxN M a1 Q1 a2 a3 Q3) { r with t:=r.t+1 } a1 c1 Q1 a2 c2 a3 c3 Q3:=by rw [hV1];exact P4.cell 11 _ (P4.x.setT (r.t+1))
 have C1:=Cc3.but (B:=fun j=>j=M.b) HCp.out (show But (fun j=>j=M.b) v4 V1 by rw [hV1];exact But.setCell (S:=fun j=>j=M.b) (But.refl _ _) (p:=⟨M.b,11,none⟩) rfl _) hp1
 obtain⟨V2,hV2⟩:∃V2,V2=V1.setCell ⟨M.b,15,none⟩ (.int .i64 (r.nx+1)):=⟨_,rfl⟩
 have P2:Pg w V2 base w.heap.size M (MxN M a1 Q1 a2 a3 Q3) { r with t:=r.t+1,nx:=r.nx+1 } a1 c1 Q1 a2 c2 a3 c3 Q3:=by rw [hV2];exact P1.cell 15 _ (P1.x.setX (r.nx+1))
 have C2:=Cc3.but (B:=fun j=>j=M.b) C1 (show But (fun j=>j=M.b) V1 V2 by rw [hV2];exact But.setCell (S:=fun j=>j=M.b) (But.refl _ _) (p:=⟨M.b,15,none⟩) rfl _) hp1
 have x15:=P1.x.box.cell 15 rfl
 have f15:=P1.x.fz 15 (by omega)
 simp only at x15
 have HP2:=hid P2
 have HC2:=hid C2
 have HV1:=hid hV1
 have HV2:=hid hV2
 clear P4 P1 P2 C1 C2 hV1 hV2
 go_upto_region 13 with fail
 first|rw [←HV1.out]|rw [HWt.out,←HV1.out]
 clear x11 f11
 go_upto_region 14 with fail
 first|rw [←HV2.out]|rw [HWx.out,←HV2.out]
 clear x15 f15 HV1 HV2 HWt HWx
 obtain⟨Z,hmk,hZow⟩:=make_bytes sz hs2
 have hbV:base≤V2.heap.size:=Nat.le_trans HBs.out HP2.out.bt.size
 obtain⟨b1,d1,w5,hr5,X5,hb5,hb55,hn5⟩:=HP2.out.x.obj2 hbV (U:=(V2.alloc (Obj.cells Z 5)).drew) (below1 V2 (Obj.cells Z 5)).drew (r.nx,List.replicate sz 0) (ao:=some ⟨V2.heap.size,0,none⟩) (co:=sz) (by
  have:=(hZow V2).later (w':=(V2.alloc (Obj.cells Z 5)).drew) (Below.refl _ _).drew
  simpa using this) (by show r.V.length<2048;have:=HnV.out;omega)
 have P5:=HP2.out.go X5 hb5 (fun j hj=>hj.elim (fun e=>.inl e) (fun e=>.inr (.inl (.inl e)))) hn5
 simp only [List.length_replicate] at hr5 P5
 rw [←HnV.out] at hr5 P5
 have hr5:(Builtin.append_ #[49,49] 49 #[.slice a1 nV c1,.slice (some ⟨V2.heap.size+1,0,none⟩) 1 1]).run Tryz.prog ((V2.alloc (Obj.cells Z 5)).alloc (Obj.cells #[.int .i64 r.nx,.slice (some ⟨V2.heap.size,0,none⟩) sz sz] 80)).drew=.ok (.slice b1 (nV+1) d1) w5:=by rw [show (V2.alloc (Obj.cells Z 5)).drew.heap.size=V2.heap.size+1 by simp] at hr5;exact hr5
 have H0:Hid (∀U:World,Below V2.heap.size V2 U→U.cell? ⟨M.b,12,none⟩=some (.slice a1 nV c1)∧U.cell? ⟨p,0,none⟩=some (.int .i64 r.nx)):=fun U hU=>⟨by rw [HnV.out];exact (R.Bx.later hU HP2.out.x.box).cell 12 rfl,cell_later hU HC2.out.c0⟩
 have hpa:¬Blk a1 p:=fun e=>hpN (.inr (.inl (.inl e)))
 have hma:¬Blk a1 M.b:=fun e=>HX.out.nb M.b (.inl (.inl e)) rfl
 have HS5:Hid (w5.cell? ⟨M.b,12,none⟩=some (.slice a1 nV c1)∧w5.cell? ⟨p,0,none⟩=some (.int .i64 r.nx)):=⟨cell_but hb55 (H0.out V2 (Below.refl _ _)).1 hma,cell_but hb55 (H0.out V2 (Below.refl _ _)).2 hpa⟩
 have f5:w5.frozen? ⟨M.b,12,none⟩=false:=by
  have h9:=HP2.out.x.fz 12 (by omega)
  rw [World.frozen?_of_block (hb55.block M.b HP2.out.x.lt hma)]
  exact h9
 have C5:Cc3 (w5.setCell ⟨M.b,12,none⟩ (.slice b1 (nV+1) d1)) p (r.nx,mh,ml):=(HC2.out.but hb55 hpa).but (B:=fun j=>j=M.b) (But.setCell (S:=fun j=>j=M.b) (But.refl _ _) (p:=⟨M.b,12,none⟩) rfl _) hp1
 have HP5:=hid P5
 have HC5:=hid C5
 clear X5 hb5 hb55 hn5 P5 C5 hZow hbV
 have y0:=(H0.out V2 (Below.refl _ _)).1
 have y5:=HS5.out.1
 have y1:=(H0.out (V2.alloc (Obj.cells Z 5)) (below1 _ _)).1
 have y2:=(H0.out ((V2.alloc (Obj.cells Z 5)).alloc (Obj.cells #[.int .i64 r.nx,.slice (some ⟨V2.heap.size,0,none⟩) sz sz] 80)) (below2 _ _ _)).1
 go_cut [] (fun U=>Hid (U=w5.setCell ⟨M.b,12,none⟩ (.slice b1 (nV+1) d1)))
 case first =>
  refine wp_region_held_drew (S:=(fun U:World=>U.cell? ⟨p,0,none⟩=some (.int .i64 r.nx))) (by kernel_rfl) ((H0.out _ (Below.refl _ _).drew).2) (fun hHeld=>?_)
  refine nm 15 0 15 ?_
  refine tn 0 15 1 14 ?_
  simp only [zz]
  refine tn 1 15 3 13 ?_
  simp only [zz]
  refine tn 2 15 7 12 ?_
  simp only [zz]
  refine tn 3 15 15 11 ?_
  simp only [zz]
  refine tn 5 15 47 10 ?_
  simp only [zz]
  refine tn 6 15 111 9 ?_
  simp only [zz]
  refine tn 7 15 239 8 ?_
  simp only [zz]
  refine wpAnyH_ready (rs:=[4,8]) (by kernel_rfl) (by simp) ?_
  refine AllReadyH.cons rfl (fun K hK=>?_) ?_
  ·go_simp
   refine zk hK 15 255 7 ((H0.out _ (Below.refl _ _).drew).2) fun hHeld=>?_
   clear hK K
   try simp only [zz]
   refine zr 8 fun K hK=>?_
   go_simp
   refine zk hK 15 511 6 ((H0.out _ (below1 _ _).drew).2) fun hHeld=>?_
   clear hK K
   try simp only [zz]
   refine tn 9 15 1023 5 ?_
   simp only [zz]
   refine zr 10 fun K hK=>?_
   go_simp
   refine zk hK 15 2047 4 ((H0.out _ (below2 _ _ _).drew).2) fun hHeld=>?_
   clear hK K
   try simp only [zz]
   refine zr 11 fun K hK=>?_
   refine wp_app (.tmp 107) (.tmp 113) 49 rfl _ _ rfl rfl _ w5 hr5 ?_
   refine zk hK 15 4095 3 (HS5.out.2) fun hHeld=>?_
   clear hK K
   try simp only [zz]
   refine tn 12 15 8191 2 ?_
   simp only [zz]
   refine tn 13 15 16383 1 ?_
   simp only [zz]
   refine zr 14 fun K hK=>?_
   go_simp
   refine zk hK 15 32767 0 (HC5.out.c0) fun hHeld=>?_
   clear hK K
   try simp only [zz]
   refine zn ?_ _
   (try go_wp2)
   go_meet
   exact hid rfl
  refine AllReadyH.cons rfl (fun K hK=>?_) AllReadyH.nil
  go_simp
  refine zk hK 15 495 7 ((H0.out _ (below1 _ _).drew).2) fun hHeld=>?_
  clear hK K
  try simp only [zz]
  refine tn 9 15 1007 6 ?_
  simp only [zz]
  refine wpAnyH_ready (rs:=[4,10]) (by kernel_rfl) (by simp) ?_
  refine AllReadyH.cons rfl (fun K hK=>?_) ?_
  ·go_simp
   refine zk hK 15 1023 5 ((H0.out _ (below1 _ _).drew).2) fun hHeld=>?_
   clear hK K
   try simp only [zz]
   refine zr 10 fun K hK=>?_
   go_simp
   refine zk hK 15 2047 4 ((H0.out _ (below2 _ _ _).drew).2) fun hHeld=>?_
   clear hK K
   try simp only [zz]
   refine zr 11 fun K hK=>?_
   refine wp_app (.tmp 107) (.tmp 113) 49 rfl _ _ rfl rfl _ w5 hr5 ?_
   refine zk hK 15 4095 3 (HS5.out.2) fun hHeld=>?_
   clear hK K
   try simp only [zz]
   refine tn 12 15 8191 2 ?_
   simp only [zz]
   refine tn 13 15 16383 1 ?_
   simp only [zz]
   refine zr 14 fun K hK=>?_
   go_simp
   refine zk hK 15 32767 0 (HC5.out.c0) fun hHeld=>?_
   clear hK K
   try simp only [zz]
   refine zn ?_ _
   (try go_wp2)
   go_meet
   exact hid rfl
  refine AllReadyH.cons rfl (fun K hK=>?_) AllReadyH.nil
  go_simp
  refine zk hK 15 2031 5 ((H0.out _ (below2 _ _ _).drew).2) fun hHeld=>?_
  clear hK K
  try simp only [zz]
  refine zr 4 fun K hK=>?_
  go_simp
  refine zk hK 15 2047 4 ((H0.out _ (below2 _ _ _).drew).2) fun hHeld=>?_
  clear hK K
  try simp only [zz]
  refine zr 11 fun K hK=>?_
  refine wp_app (.tmp 107) (.tmp 113) 49 rfl _ _ rfl rfl _ w5 hr5 ?_
  refine zk hK 15 4095 3 (HS5.out.2) fun hHeld=>?_
  clear hK K
  try simp only [zz]
  refine tn 12 15 8191 2 ?_
  simp only [zz]
  refine tn 13 15 16383 1 ?_
  simp only [zz]
  refine zr 14 fun K hK=>?_
  go_simp
  refine zk hK 15 32767 0 (HC5.out.c0) fun hHeld=>?_
  clear hK K
  try simp only [zz]
  refine zn ?_ _
  (try go_wp2)
  go_meet
  exact hid rfl
 case rest =>
 rename World=>V5
 have e5:=hcut.out
 rw [←e5] at HP5 HC5
 clear hcut e5 y0 y1 y2 y5 hr5 f5 HS5 H0 hmk HP2 HC2
 go_upto_region 15 with fail
 have hpa2:¬Blk a2 p:=fun e=>hpN (.inr (.inr (.inl e)))
 have hma2:¬Blk a2 M.b:=fun e=>HX.out.nb M.b (.inr (.inl e)) rfl
 have P5:=HP5.out.later (V:=V5.drew) (Below.refl _ _).drew
 obtain⟨b2,d2,w6,hr6,X6,hb6,hb66,hn6⟩:=P5.x.tok2 (Nat.le_trans HBs.out P5.bt.size) ⟨r.nn,0,(r.nx,mh,ml),31⟩ (by show r.T.length<2048;have:=HnT.out;omega)
 have P6:=P5.go X6 hb6 (fun j hj=>hj.elim (fun e=>.inl e) (fun e=>.inr (.inr (.inl e)))) hn6
 simp only [hlC] at hr6 P6
 rw [←HnT.out] at hr6 P6
 have hr6:(Builtin.append_ #[66,66] 66 #[.slice a2 nT c2,.slice (some ⟨V5.heap.size,0,none⟩) 1 1]).run Tryz.prog (V5.alloc (Obj.cells #[.int .i64 r.nn,.int .i64 0,.int .i64 r.nx,.int .u64 (mh:Int),.int .u64 (ml:Int),.int .i64 31] 91)).drew=.ok (.slice b2 (nT+1) d2) w6:=hr6
 have H0:Hid (∀U:World,Below V5.heap.size V5 U→U.cell? ⟨M.b,13,none⟩=some (.slice a2 nT c2)∧U.cell? ⟨M.b,17,none⟩=some (.int .i64 r.nn)∧U.cell? ⟨p,0,none⟩=some (.int .i64 r.nx)∧U.cell? ⟨p,1,none⟩=some (.int .u64 (mh:Int))∧U.cell? ⟨p,2,none⟩=some (.int .u64 (ml:Int))):=fun U hU=>⟨by rw [HnT.out];exact (R.Bx.later hU HP5.out.x.box).cell 13 rfl,(R.Bx.later hU HP5.out.x.box).cell 17 rfl,cell_later hU HC5.out.c0,cell_later hU HC5.out.c1,cell_later hU HC5.out.c2⟩
 have h0:=H0.out V5.drew (Below.refl _ _).drew
 have HS6:Hid (w6.cell? ⟨M.b,17,none⟩=some (.int .i64 r.nn)∧w6.cell? ⟨p,0,none⟩=some (.int .i64 r.nx)∧w6.cell? ⟨p,1,none⟩=some (.int .u64 (mh:Int))∧w6.cell? ⟨p,2,none⟩=some (.int .u64 (ml:Int))):=⟨cell_but hb66 h0.2.1 hma2,cell_but hb66 h0.2.2.1 hpa2,cell_but hb66 h0.2.2.2.1 hpa2,cell_but hb66 h0.2.2.2.2 hpa2⟩
 have y6:w6.cell? ⟨M.b,13,none⟩=some (.slice a2 nT c2):=cell_but hb66 h0.1 hma2
 have f6:w6.frozen? ⟨M.b,13,none⟩=false:=by
  rw [World.frozen?_of_block (hb66.block M.b P5.x.lt hma2)]
  exact P5.x.fz 13 (by omega)
 have C6:Cc3 (w6.setCell ⟨M.b,13,none⟩ (.slice b2 (nT+1) d2)) p (r.nx,mh,ml):=(Cc3.but (w:=V5.drew) ⟨h0.2.2.1,h0.2.2.2.1,h0.2.2.2.2⟩ hb66 hpa2).but (B:=fun j=>j=M.b) (But.setCell (S:=fun j=>j=M.b) (But.refl _ _) (p:=⟨M.b,13,none⟩) rfl _) hp1
 have x17:=P6.x.box.cell 17 rfl
 simp only at x17
 have HX17:=hid x17
 have y0:=(H0.out V5 (Below.refl _ _)).1
 have y1:=(H0.out (V5.alloc (Obj.cells #[.int .i64 r.nn,.int .i64 0,.int .i64 r.nx,.int .u64 (mh:Int),.int .u64 (ml:Int),.int .i64 31] 91)) (below1 _ _)).1
 have HP6:=hid P6
 have HC6:=hid C6
 clear X6 hb6 hb66 hn6 P5 P6 C6 h0 x17
 go_cut [] (fun U=>Hid (U=w6.setCell ⟨M.b,13,none⟩ (.slice b2 (nT+1) d2)))
 case first =>
  refine wp_region_held_drew (S:=(fun U:World=>U.cell? ⟨M.b,17,none⟩=some (.int .i64 r.nn)∧U.cell? ⟨p,0,none⟩=some (.int .i64 r.nx)∧U.cell? ⟨p,1,none⟩=some (.int .u64 (mh:Int))∧U.cell? ⟨p,2,none⟩=some (.int .u64 (ml:Int)))) (by kernel_rfl) ((H0.out _ (Below.refl _ _).drew).2) (fun hHeld=>?_)
  refine nm 16 0 16 ?_
  refine tn 0 16 1 15 ?_
  simp only [zz]
  refine tn 1 16 3 14 ?_
  simp only [zz]
  refine tn 2 16 7 13 ?_
  simp only [zz]
  refine tn 3 16 15 12 ?_
  simp only [zz]
  refine tn 5 16 47 11 ?_
  simp only [zz]
  refine tn 6 16 111 10 ?_
  simp only [zz]
  refine tn 7 16 239 9 ?_
  simp only [zz]
  refine tn 8 16 495 8 ?_
  simp only [zz]
  refine tn 9 16 1007 7 ?_
  simp only [zz]
  refine tn 10 16 2031 6 ?_
  simp only [zz]
  refine wpAnyH_ready (rs:=[4,11]) (by kernel_rfl) (by simp) ?_
  refine AllReadyH.cons rfl (fun K hK=>?_) ?_
  ·go_simp
   refine zk hK 16 2047 5 ((H0.out _ (Below.refl _ _).drew).2) fun hHeld=>?_
   clear hK K
   try simp only [zz]
   refine zr 11 fun K hK=>?_
   go_simp
   refine zk hK 16 4095 4 ((H0.out _ (below1 _ _).drew).2) fun hHeld=>?_
   clear hK K
   try simp only [zz]
   refine zr 12 fun K hK=>?_
   refine wp_app (.tmp 121) (.tmp 128) 66 rfl _ _ rfl rfl _ w6 hr6 ?_
   refine zk hK 16 8191 3 (HS6.out) fun hHeld=>?_
   clear hK K
   try simp only [zz]
   refine tn 13 16 16383 2 ?_
   simp only [zz]
   refine tn 14 16 32767 1 ?_
   simp only [zz]
   refine zr 15 fun K hK=>?_
   go_simp
   refine zk hK 16 65535 0 (⟨HX17.out,HC6.out.c0,HC6.out.c1,HC6.out.c2⟩) fun hHeld=>?_
   clear hK K
   try simp only [zz]
   refine zn ?_ _
   (try go_wp2)
   go_meet
   exact hid rfl
  refine AllReadyH.cons rfl (fun K hK=>?_) AllReadyH.nil
  go_simp
  refine zk hK 16 4079 5 ((H0.out _ (below1 _ _).drew).2) fun hHeld=>?_
  clear hK K
  try simp only [zz]
  refine zr 4 fun K hK=>?_
  go_simp
  refine zk hK 16 4095 4 ((H0.out _ (below1 _ _).drew).2) fun hHeld=>?_
  clear hK K
  try simp only [zz]
  refine zr 12 fun K hK=>?_
  refine wp_app (.tmp 121) (.tmp 128) 66 rfl _ _ rfl rfl _ w6 hr6 ?_
  refine zk hK 16 8191 3 (HS6.out) fun hHeld=>?_
  clear hK K
  try simp only [zz]
  refine tn 13 16 16383 2 ?_
  simp only [zz]
  refine tn 14 16 32767 1 ?_
  simp only [zz]
  refine zr 15 fun K hK=>?_
  go_simp
  refine zk hK 16 65535 0 (⟨HX17.out,HC6.out.c0,HC6.out.c1,HC6.out.c2⟩) fun hHeld=>?_
  clear hK K
  try simp only [zz]
  refine zn ?_ _
  (try go_wp2)
  go_meet
  exact hid rfl
 case rest =>
 rename World=>V6
 have e6:=hcut.out
 rw [←e6] at HP6 HC6
 clear hcut e6 y0 y1 y6 hr6 f6 HS6 H0 HP5 HC5 HX17
 have x17:=HP6.out.x.box.cell 17 rfl
 have f17:=HP6.out.x.fz 17 (by omega)
 simp only at x17
 obtain⟨V7,hV7⟩:∃V7,V7=V6.setCell ⟨M.b,17,none⟩ (.int .i64 (r.nn+1)):=⟨_,rfl⟩
 have P7:=HP6.out.cell 17 _ (HP6.out.x.setN (r.nn+1))
 have C7:=Cc3.but (B:=fun j=>j=M.b) HC6.out (show But (fun j=>j=M.b) V6 V7 by rw [hV7];exact But.setCell (S:=fun j=>j=M.b) (But.refl _ _) (p:=⟨M.b,17,none⟩) rfl _) hp1
 rw [←hV7] at P7
 have HP7:=hid P7
 have HV7:=hid hV7
 obtain⟨c0,c1_,c2_⟩:=C7
 simp only at c0 c1_ c2_
 have HS9:=hid (HP7.out.z.st ⟨0,(r.nx,mh,ml),[],0⟩ none 0 0)
 have HL9:=hid (HP7.out.z.lv ⟨0,(r.nx,mh,ml),[],0⟩ none 0 0)
 clear P7 hV7 HP6 HC6
 go_upto_region 17 with fail
 first|rw [←HV7.out]|rw [HWn.out,←HV7.out]
 clear x17 f17
 go_wp2_with (first|((with_reducible refine st_arm HS9.out ?_ ?_ ?_);(· rfl);(· rfl)))
 have hfin:=HP7.out.e.fin (Nat.le_refl _) HN.out HD.out ⟨0,(r.nx,mh,ml),[],0⟩ rfl
 obtain rfl:Rr=_:=HRt.out
 exact bodyPost_ret (v:=rpV ⟨0,(r.nx,mh,ml),[],0⟩ none 0 0) (by simp [results,Tryz.results20,asAddr,HL9.out]) rfl hfin
end
end Go.Proofs.YtffmodpgddecnaaGreat.V.E
