import Derived.Test.YtffmodpgddecnaaGreatZ28
import Derived.Test.YtffmodpgddecnaaGreatZ30
set_option linter.unusedVariables false
set_option linter.unusedSimpArgs false
namespace Go.Proofs.YtffmodpgddecnaaGreat.V.E
open Go.RowKit Go.Maps
open Go.Proofs.YtffmodpgddecnaaGreat.H (B64 Cp)
open Go.Proofs.YtffmodpgddecnaaGreat.M (okI atC pickE pickL)
section
variable {w w':World}{base:Nat}{M:Mh}{r:Rm}{a1:Option Addr}{c1:Nat}{Q1:List Ev}{a2:Option Addr}{c2:Nat}{a3:Option Addr}{c3:Nat}{Q3:List Ev}
def rdK (r:Rm)(K:List Cp)(cl:R.Cl):Rep×Rm :=
 if rMay r.T cl.given K (cpO cl) 1≠0 then (rep (rMay r.T cl.given K (cpO cl) 1),r) else (⟨S.rvE r.V cl.obj cl.off cl.n,(0,0,0),S.rvL r.V cl.obj cl.off cl.n,0⟩,r)
def wrK (r:Rm)(K:List Cp)(cl:R.Cl):Rep×Rm :=
 if rMay r.T cl.given K (cpO cl) 2≠0 then (rep (rMay r.T cl.given K (cpO cl) 2),r) else (rep (S.rvE r.V cl.obj cl.off (cl.data.length:Int)),{ r with V:=S.wrV r.V cl.obj cl.off cl.data })
theorem ix_ex {α:Type}{P:α→Bool}{L:List α}(h:∃x∈L,P x=true):∃(i:Nat) (x:α),ixF P L=(i:Int)∧L[i]?=some x∧P x=true:=by
 obtain⟨x,hx,hp⟩:=h
 unfold ixF
 cases hf:L.findIdx? P with
 | none=>exact absurd hp (by have:=List.findIdx?_eq_none_iff.1 hf x hx;simp [this])
 | some i =>
  obtain⟨h1,h2,_⟩:=List.findIdx?_eq_some_iff_getElem.1 hf
  exact⟨i,L[i],rfl,List.getElem?_eq_getElem h1,h2⟩
set_option maxRecDepth 100000 in
set_option maxHeartbeats 4000000 in
theorem rread_any (h:Mx w base M r a1 c1 Q1 a2 c2 a3 c3 Q3)(hbs:base≤w.heap.size)(hf:RF M.p r)(hvr:r.V.Pairwise (fun a b=>a.1<b.1)){cl:R.Cl}{dd gg:R.Sl}(hi:R.Is w cl dd gg)(hop:cl.op=5)(hs:-2147483648≤cl.off∧cl.off≤2147483647∧-2147483648≤cl.n∧cl.n≤2147483647)(hdl:dd.n≤65536){pi:Nat}{pv:Int×List Cp}(hpi:r.P[pi]?=some pv)(hth:rMay r.T cl.given pv.2 (cpO cl) 1=0→∃v∈r.V,v.1=cl.obj):Calls Tryz.prog 23 #[.pointer (some ⟨M.b,0,none⟩),.agg (R.cC cl dd gg).toArray,.int .i64 (pi:Int)] w (RmP w base M (MxN M a1 Q1 a2 a3 Q3) (rdK r pv.2 cl)):=by
 obtain⟨W,hW⟩:∃W,W=(w.alloc (Obj.cells (R.cC cl dd gg).toArray 45)).alloc z6:=⟨_,rfl⟩
 have hB:Below w.heap.size w W:=by rw [hW];exact below2 _ _ _
 have hXc:R.Bx W w.heap.size (R.cC cl dd gg):=by rw [hW];exact R.Bx.later (below1 _ _) (R.Bx.new w (R.cC cl dd gg) 45)
 have hZ:Zr W (w.heap.size+1):=by rw [hW];have:=Zr.new (w.alloc (Obj.cells (R.cC cl dd gg).toArray 45));simpa using this
 have HP0:=hid (Pg.start h hB hZ (Nat.le_succ _))
 have HN:Hid (∀j,MxN M a1 Q1 a2 a3 Q3 j→j<w.heap.size):=fun j hj=>(h.rng j hj).2
 have HD:=hid h.dl
 have HW:=hid hW
 have HB:=hid hB
 have HX:=hid h
 have HBs:=hid hbs
 have HXc:=hid hXc
 have HIs:=hid (hi.later hB)
 have HVr:=hid hvr
 have HVb:=hid hf.vb
 have hsV:=hf.V
 have hsP:=hf.P
 have hpl:=hf.pl pv (List.mem_of_getElem? hpi)
 obtain⟨nP,hnP⟩:∃n,n=r.P.length:=⟨_,rfl⟩
 obtain⟨nV,hnV⟩:∃n,n=r.V.length:=⟨_,rfl⟩
 have hpn:=(List.getElem?_eq_some_iff.1 hpi).1
 obtain⟨e3,he3,he3m,he3i,he3v,he3l⟩:=key_at h.pk hpi
 obtain⟨g3,hg3,hgc⟩:=Ow.at_ h.ps.row (by omega)
 have hg31:w.cell? ⟨g3,pi*2+1,none⟩=some (.slice e3.a e3.len e3.cap):=hgc _ _ (evs_at Q3 pi e3 he3 1 (by omega))
 obtain⟨la,hla⟩:∃la,la=e3.a:=⟨_,rfl⟩
 obtain⟨lc,hlc⟩:∃lc,lc=e3.cap:=⟨_,rfl⟩
 obtain⟨ln,hln⟩:∃ln,ln=pv.2.length:=⟨_,rfl⟩
 have he3l2:e3.len=ln:=by rw [he3l,hln];rfl
 rw [←hla,←hlc,he3l2] at hg31
 have hOl:=h.ps.each e3 he3m
 rw [←hla,←hlc,he3l2,he3v] at hOl
 have HS6:Hid (∀U:World,Below W.heap.size W U→R.Bx U w.heap.size (R.cC cl dd gg)∧U.cell? ⟨M.b,14,none⟩=some (.slice (some ⟨g3,0,none⟩) nP c3)∧U.cell? ⟨g3,pi*2+1,none⟩=some (.slice la ln lc)):=fun U hU=>⟨R.Bx.later hU hXc,by rw [hnP,←hg3];exact (R.Bx.later (below_call hB hU) h.box).cell 14 rfl,cell_later (below_call hB hU) hg31⟩
 have HMa:Hid (∀U:World,Below W.heap.size W U→Calls Tryz.prog 43 #[.pointer (some ⟨M.b,0,none⟩),.agg (R.cC cl dd gg).toArray,.int .i64 1,.slice la ln lc] U fun e w'=>e=.returned (.int .i64 (rMay r.T cl.given pv.2 (cpO cl) 1))∧Below U.heap.size U w'):=fun U hU=>by
  have:=rgate_any (cl:=cl) (dd:=dd) (gg:=gg) (need:=1) (cap:=lc) (h.mr.later (below_call hB hU)) hf.rt (by simp) (Fl.of (Ow.later hOl (below_call hB hU)) (by rw [hln];exact caps_len3 pv.2)) (K:=pv.2) (by omega)
  rw [←hln] at this
  exact this
 obtain⟨e,he⟩:∃e,e=rMay r.T cl.given pv.2 (cpO cl) 1:=⟨_,rfl⟩
 rw [←he] at HMa hth
 have HOb:Hid (∀U:World,Below W.heap.size W U→Calls Tryz.prog 44 #[.pointer (some ⟨M.b,0,none⟩),.int .i64 cl.obj] U fun e w'=>e=.returned (.int .i64 (ixF (isO cl.obj) r.V))∧Below U.heap.size U w'):=fun U hU=>robject_any (h.mr.later (below_call hB hU)) cl.obj
 have HC:Hid (∀U:World,Below W.heap.size W U→U.cell? ⟨w.heap.size,0,none⟩=some (.int .i64 5)∧U.cell? ⟨w.heap.size,3,none⟩=some (.int .i64 cl.obj)∧U.cell? ⟨w.heap.size,8,none⟩=some (.int .i64 cl.off)∧U.cell? ⟨w.heap.size,9,none⟩=some (.int .i64 cl.n)∧U.cell? ⟨w.heap.size,10,none⟩=some (.slice dd.a dd.n dd.c)):=fun U hU=>by
  have hx:=R.Bx.later hU hXc
  exact⟨by rw [←hop];exact hx.cell 0 rfl,hx.cell 3 rfl,hx.cell 8 rfl,hx.cell 9 rfl,hx.cell 10 rfl⟩
 obtain⟨Rr,hR⟩:∃Rr,Rr=rdK r pv.2 cl:=⟨_,rfl⟩
 rw [←hR]
 have HR:=hid hR
 have HHe:=hid he
 have hpi2:(pi:Int)<(nP:Int):=by omega
 have h0pi:(0:Int)≤(pi:Int):=by omega
 have HnV:=hid hnV
 clear h hbs hf hvr hi hop hW hB hZ hXc hR he hnV hpi hpn he3 he3m he3i he3v he3l hg3 hgc hg31 hla hlc hln he3l2 hOl hnP
 obtain⟨z0,-,z8,z9,z10⟩:=HC.out W (Below.refl _ _)
 go_enter Tryz.func23,Tryz.ntmps23
 go_upto_region 1 with fail
 rw [←HW.out]
 go_upto_region 6 with fail
 clear z0 z8 z9 z10
 go_cut [9] (fun v U=>v=.int .i64 e∧Hid (Below W.heap.size W U))
 case first =>
  refine wp_region_held_drew (S:=(fun U:World=>R.Bx U w.heap.size (R.cC cl dd gg)∧U.cell? ⟨M.b,14,none⟩=some (.slice (some ⟨g3,0,none⟩) nP c3)∧U.cell? ⟨g3,pi*2+1,none⟩=some (.slice la ln lc))) (by kernel_rfl) (HS6.out _ (Below.refl _ _).drew) (fun hHeld=>?_)
  refine nm 13 0 13 ?_
  refine tn 0 13 1 12 ?_
  simp only [zz]
  refine tv 1 (v:=.agg (R.cC cl dd gg).toArray) ?_ ?_
  ·(intro w hSw;(try dsimp only at hSw);exact ex_ld rfl rfl (ldC hSw.1))
  simp only [zz]
  refine nm 13 3 11 ?_
  refine tn 2 13 7 10 ?_
  simp only [zz]
  refine tn 3 13 15 9 ?_
  simp only [zz]
  refine tn 4 13 31 8 ?_
  simp only [zz]
  refine tn 5 13 63 7 ?_
  simp only [zz]
  refine tn 6 13 127 6 ?_
  simp only [zz]
  refine tn 7 13 255 5 ?_
  simp only [zz]
  refine tn 8 13 511 4 ?_
  simp only [zz]
  refine tn 9 13 1023 3 ?_
  simp only [zz]
  refine tn 10 13 2047 2 ?_
  simp only [zz]
  refine zr 11 fun K hK=>?_
  go_simp
  go_wp2_with (first|(go_at_call 43;refine (HMa.out _ (Below.refl _ _).drew).mono ?_;rintro e w3 ⟨rfl,hb3⟩;have HB3:Hid (Below W.heap.size W w3):=below_call (Below.refl W.heap.size W).drew hb3;clear hb3))
  refine zk hK 13 4095 1 (HS6.out _ HB3.out) fun hHeld=>?_
  clear hK K
  try simp only [zz]
  refine tn 12 13 8191 0 ?_
  simp only [zz]
  refine zn ?_ _
  (try go_wp2)
  go_meet
  exact⟨rfl,HB3.out⟩
 case rest =>
 rename World=>v1
 obtain⟨rfl,HB1⟩:=hcut
 by_cases h1:e≠0
 ·obtain rfl:Rr=(rep e,r):=by rw [HR.out];unfold rdK;rw [←HHe.out,if_pos h1]
  have hd:(e != 0)=true:=by simp [h1]
  have HEv:=hid (HP0.out.later HB1.out).e
  clear h1
  have HR_:=hid (rrefused_any e v1)
  go_wp2_with (first|(go_at_call 18;refine HR_.out.mono ?_;rintro e w9 ⟨rfl,hb9⟩;have HE9:=hid (HEv.out.later hb9);have HZ9:=hid HE9.out.z;have HS9:=hid (HZ9.out.st (rep e) none 0 0);have HL9:=hid (HZ9.out.lv (rep e) none 0 0);clear hb9)|((with_reducible refine st_arm HS9.out ?_ ?_ ?_);(· rfl);(· rfl)))
  exact bodyPost_ret (v:=rpV (rep e) none 0 0) (by simp [results,Tryz.results23,asAddr,HL9.out]) rfl (HE9.out.fin (Nat.le_succ _) HN.out HD.out (rep e) rfl)
 have h1:e=0:=by simpa using h1
 subst h1
 obtain⟨vo,hvm,hvo⟩:=hth rfl
 obtain⟨oi,ob,hoi,hob,hobp⟩:=ix_ex (P:=isO cl.obj) (L:=r.V) ⟨vo,hvm,decide_eq_true hvo⟩
 have hob1:ob.1=cl.obj:=of_decide_eq_true hobp
 have hobm:=List.mem_of_getElem? hob
 have hatV:S.atV r.V cl.obj=some ob.2:=by
  have h9:=find_mem Prod.fst HVr.out ob hobm
  rw [hob1] at h9
  unfold S.atV
  rw [h9]
  rfl
 have hon:=(List.getElem?_eq_some_iff.1 hob).1
 rw [hoi] at HOb
 obtain⟨e1,he1,he1m,he1i,he1v,he1l⟩:=key_at HX.out.ok hob
 obtain⟨bl,hbl⟩:∃bl,bl=ob.2.length:=⟨_,rfl⟩
 have hbl9:bl≤4096:=by rw [hbl];exact (HVb.out ob hobm).1
 have he1l2:e1.len=bl:=by rw [he1l,hbl];rfl
 have hnV2:=HnV.out
 obtain⟨g1,hg1,hgc1⟩:=Ow.at_ HX.out.os.row (by omega)
 have hg11:w.cell? ⟨g1,oi*2+1,none⟩=some (.slice e1.a e1.len e1.cap):=hgc1 _ _ (evs_at Q1 oi e1 he1 1 (by omega))
 rw [he1l2] at hg11
 have HOr:=hid (HX.out.os.each e1 he1m)
 have HG1:=hid hg1
 have H12:Hid (∀U:World,Below W.heap.size W U→U.cell? ⟨M.b,12,none⟩=some (.slice (some ⟨g1,0,none⟩) nV c1)∧U.cell? ⟨g1,oi*2+1,none⟩=some (.slice e1.a bl e1.cap)):=fun U hU=>⟨by rw [hnV2,←hg1];exact (R.Bx.later (below_call HB.out hU) HX.out.box).cell 12 rfl,cell_later (below_call HB.out hU) hg11⟩
 have HRt:Hid (Rr=if 0≤cl.off∧0≤cl.n∧cl.n≤1024∧cl.off+cl.n≤(bl:Int) then (⟨0,(0,0,0),(ob.2.drop cl.off.toNat).take cl.n.toNat,0⟩,r) else (rep 5,r)):=by
  unfold Hid
  rw [HR.out]
  unfold rdK S.rvE S.rvL
  rw [←HHe.out,if_neg (by simp),hatV]
  simp only [←hbl]
  by_cases h2:0≤cl.off∧0≤cl.n∧cl.n≤1024∧cl.off+cl.n≤(bl:Int)
  ·simp only [if_pos h2]
  ·simp only [if_neg h2];rfl
 have hoi2:(oi:Int)<(nV:Int):=by omega
 have h0oi:(0:Int)≤(oi:Int):=by omega
 have HE1:=hid he1
 have HE1m:=hid he1m
 have HE1v:=hid he1v
 have HOb2:=hid hob
 have HBl:=hid hbl
 have HOb1:=hid hob1
 clear hvm hvo hoi hob hobp hobm hatV he1 he1m he1i he1v he1l hbl he1l2 hg1 hgc1 hg11 HR hon hob1 hnV2
 obtain⟨-,z3,-⟩:=HC.out v1 HB1.out
 go_upto_region 10 with (first|(go_at_call 44;refine (HOb.out _ HB1.out).mono ?_;rintro e w2 ⟨rfl,hb2⟩;have HB2:=hid (below_call HB1.out hb2);clear hb2))
 clear z3
 obtain⟨z0,-,z8,z9,-⟩:=HC.out w2 HB2.out
 obtain⟨m12,o1⟩:=H12.out w2 HB2.out
 have HEv:=hid (HP0.out.later HB2.out).e
 by_cases h2:¬(0≤cl.off∧0≤cl.n∧cl.n≤1024∧cl.off+cl.n≤(bl:Int))
 ·obtain rfl:Rr=(rep 5,r):=by rw [HRt.out,if_neg h2]
  by_cases k1:cl.off<0
  ·have d1:decide (cl.off<0)=true:=decide_eq_true k1
   clear h2 k1
   go_quiet (fail)
   obtain⟨v3,hv3⟩:∃v3,v3=w2.drewN nq:=⟨_,rfl⟩
   have HEw:=hid (HEv.out.later (V:=v3) (by rw [hv3];exact below_drewN (Below.refl _ _) _))
   rw [←hv3]
   clear hv3
   have HR_:=hid (rrefused_any 5 v3)
   go_wp2_with (first|(go_at_call 18;refine HR_.out.mono ?_;rintro e w9 ⟨rfl,hb9⟩;have HE9:=hid (HEw.out.later hb9);have HZ9:=hid HE9.out.z;have HS9:=hid (HZ9.out.st (rep 5) none 0 0);have HL9:=hid (HZ9.out.lv (rep 5) none 0 0);clear hb9)|((with_reducible refine st_arm HS9.out ?_ ?_ ?_);(· rfl);(· rfl)))
   exact bodyPost_ret (v:=rpV (rep 5) none 0 0) (by simp [results,Tryz.results23,asAddr,HL9.out]) rfl (HE9.out.fin (Nat.le_succ _) HN.out HD.out (rep 5) rfl)
  ·have d1:decide (cl.off<0)=false:=decide_eq_false k1
   by_cases k2:cl.n<0
   ·have d2:decide (cl.n<0)=true:=decide_eq_true k2
    clear h2 k1 k2
    go_quiet (fail)
    obtain⟨v3,hv3⟩:∃v3,v3=w2.drewN nq:=⟨_,rfl⟩
    have HEw:=hid (HEv.out.later (V:=v3) (by rw [hv3];exact below_drewN (Below.refl _ _) _))
    rw [←hv3]
    clear hv3
    have HR_:=hid (rrefused_any 5 v3)
    go_wp2_with (first|(go_at_call 18;refine HR_.out.mono ?_;rintro e w9 ⟨rfl,hb9⟩;have HE9:=hid (HEw.out.later hb9);have HZ9:=hid HE9.out.z;have HS9:=hid (HZ9.out.st (rep 5) none 0 0);have HL9:=hid (HZ9.out.lv (rep 5) none 0 0);clear hb9)|((with_reducible refine st_arm HS9.out ?_ ?_ ?_);(· rfl);(· rfl)))
    exact bodyPost_ret (v:=rpV (rep 5) none 0 0) (by simp [results,Tryz.results23,asAddr,HL9.out]) rfl (HE9.out.fin (Nat.le_succ _) HN.out HD.out (rep 5) rfl)
   ·have d2:decide (cl.n<0)=false:=decide_eq_false k2
    by_cases k3:cl.n>1024
    ·have d3:decide (cl.n>1024)=true:=decide_eq_true k3
     clear h2 k1 k2 k3
     go_quiet (fail)
     obtain⟨v3,hv3⟩:∃v3,v3=w2.drewN nq:=⟨_,rfl⟩
     have HEw:=hid (HEv.out.later (V:=v3) (by rw [hv3];exact below_drewN (Below.refl _ _) _))
     rw [←hv3]
     clear hv3
     have HR_:=hid (rrefused_any 5 v3)
     go_wp2_with (first|(go_at_call 18;refine HR_.out.mono ?_;rintro e w9 ⟨rfl,hb9⟩;have HE9:=hid (HEw.out.later hb9);have HZ9:=hid HE9.out.z;have HS9:=hid (HZ9.out.st (rep 5) none 0 0);have HL9:=hid (HZ9.out.lv (rep 5) none 0 0);clear hb9)|((with_reducible refine st_arm HS9.out ?_ ?_ ?_);(· rfl);(· rfl)))
     exact bodyPost_ret (v:=rpV (rep 5) none 0 0) (by simp [results,Tryz.results23,asAddr,HL9.out]) rfl (HE9.out.fin (Nat.le_succ _) HN.out HD.out (rep 5) rfl)
    ·have d3:decide (cl.n>1024)=false:=decide_eq_false k3
     have k4:cl.off+cl.n>(bl:Int):=by omega
     have d4:decide (cl.off+cl.n>(bl:Int))=true:=decide_eq_true k4
     have d5:wrap64 (cl.off+cl.n)=cl.off+cl.n:=by unfold wrap64;omega
     clear h2 k1 k2 k3 k4
     go_quiet (fail)
     obtain⟨v3,hv3⟩:∃v3,v3=w2.drewN nq:=⟨_,rfl⟩
     have HEw:=hid (HEv.out.later (V:=v3) (by rw [hv3];exact below_drewN (Below.refl _ _) _))
     rw [←hv3]
     clear hv3
     have HR_:=hid (rrefused_any 5 v3)
     go_wp2_with (first|(go_at_call 18;refine HR_.out.mono ?_;rintro e w9 ⟨rfl,hb9⟩;have HE9:=hid (HEw.out.later hb9);have HZ9:=hid HE9.out.z;have HS9:=hid (HZ9.out.st (rep 5) none 0 0);have HL9:=hid (HZ9.out.lv (rep 5) none 0 0);clear hb9)|((with_reducible refine st_arm HS9.out ?_ ?_ ?_);(· rfl);(· rfl)))
     exact bodyPost_ret (v:=rpV (rep 5) none 0 0) (by simp [results,Tryz.results23,asAddr,HL9.out]) rfl (HE9.out.fin (Nat.le_succ _) HN.out HD.out (rep 5) rfl)
 have h2:=Decidable.not_not.1 h2
 have HRt:=hid (HRt.out.trans (if_pos h2))
 obtain⟨k1,k2,k3,k4⟩:=h2
 have d1:decide (cl.off<0)=false:=decide_eq_false (by omega)
 have d2:decide (cl.n<0)=false:=decide_eq_false (by omega)
 have d3:decide (cl.n>1024)=false:=decide_eq_false (by omega)
 have d4:decide (cl.off+cl.n>(bl:Int))=false:=decide_eq_false (by omega)
 have HW5:Hid (wrap64 (cl.off+cl.n)=cl.off+cl.n):=by unfold Hid wrap64;omega
 have d5:=HW5.out
 go_quiet (fail)
 obtain⟨v3,hv3⟩:∃v3,v3=w2.drewN nq:=⟨_,rfl⟩
 have HB3:Hid (Below W.heap.size W v3):=by rw [hv3];exact below_drewN HB2.out _
 rw [←hv3]
 clear hv3 d1 d2 d3 d4 d5 z0 z8 z9 m12 o1 HEv HB2
 obtain⟨z0,-,z8,z9,-⟩:=HC.out v3 HB3.out
 go_upto_region 13 with fail
 clear z0 z8 z9
 obtain⟨o,ho⟩:∃o:Nat,cl.off=(o:Int):=⟨cl.off.toNat,by omega⟩
 obtain⟨m,hm⟩:∃m:Nat,cl.n=(m:Int):=⟨cl.n.toNat,by omega⟩
 have hm9:m≤1024:=by omega
 have hom:o+m≤bl:=by omega
 have hnc:=ow_le HOr.out
 have HLen:Hid (e1.len=bl):=by
  have h9:=HOr.out.1
  rw [HE1v.out] at h9
  have:(S.u8s ob.2).length=ob.2.length:=by simp [S.u8s]
  unfold Hid
  rw [HBl.out]
  have h10:((obK ob).2.1).length=ob.2.length:=this
  omega
 rw [HLen.out] at hnc
 obtain⟨Dd,hDd⟩:∃Dd,Dd=(ob.2.drop o).take m:=⟨_,rfl⟩
 have HRt:Hid (Rr=(⟨0,(0,0,0),Dd,0⟩,r)):=by unfold Hid;rw [HRt.out,ho,hm,Int.toNat_natCast,Int.toNat_natCast,hDd]
 have HSl:Hid (∀U:World,(Instr.sliceAt 39 (.slice e1.a bl e1.cap) (some (.int .i64 (o:Int))) (some (.int .i64 ((o:Int)+(m:Int)))) none).run Tryz.prog U=.ok (.slice (cutK e1.a e1.cap o 1) m (e1.cap - o)) U):=fun U=>by
  have:=sliceB_lh U e1.a bl e1.cap o (o+m) (by omega) (by omega)
  rw [show o+m - o=m by omega] at this
  exact this
 have hCr:∀U:World,Below w.heap.size w U→Cr U 1 (cutK e1.a e1.cap o 1) m (e1.cap - o) (S.u8s Dd):=fun U hU=>by
  have h0:=cr_later (ow_cr HOr.out (by rw [HE1v.out];exact u8O _)) hU
  rw [HLen.out,HE1v.out] at h0
  have h1:=cr_take (cr_cut h0 o (by omega) hnc) m (by omega)
  rw [hDd]
  have h9:(obK ob).2.1=S.u8s ob.2:=rfl
  rw [h9] at h1
  simpa [S.u8s,List.map_drop,List.map_take] using h1
 have HCr:=hid hCr
 obtain⟨ac,hac⟩:∃ac,ac=cutK e1.a e1.cap o 1:=⟨_,rfl⟩
 obtain⟨cc,hcc⟩:∃cc,cc=e1.cap - o:=⟨_,rfl⟩
 rw [←hac,←hcc] at HSl HCr
 have HW1:Hid (wrap64 ((o:Int)+(m:Int))=(o:Int)+(m:Int)):=by unfold Hid wrap64;omega
 have HW2:Hid (IntKind.i64.wrap ((o:Int)+(m:Int))=(o:Int)+(m:Int)):=by unfold Hid;rw [IntKind.wrap_i64];omega
 have hB0:=below_call HB.out HB3.out
 obtain⟨a7,c7,w7,hr7,hO7,hG7⟩:=append_k 39 5 _ 1 1 Tryz.underlying39 infoEB rfl (by omega) (by omega) (Ow.later (w':=(v3.alloc (Obj.cells #[] 5)).drew) (show Ow (v3.alloc (Obj.cells #[] 5)) v3.heap.size 5 1 (some ⟨v3.heap.size,0,none⟩) 0 0 [] from (own_empty v3 5).row) (Below.refl _ _).drew) (HCr.out (v3.alloc (Obj.cells #[] 5)).drew (below_call hB0 (below1 _ _).drew)) (by simp) (by omega)
 have hb7:Below v3.heap.size v3 w7:=But.below (below1 v3 (Obj.cells #[] 5)).drew hG7.but (fun k hk=>by obtain⟨x,hx,rfl⟩:=hk;cases hx;exact Nat.le_refl _)
 rw [Nat.zero_add,List.nil_append] at hO7
 rw [Nat.zero_add] at hr7
 have HO7:=hid hO7
 have HB7:=hid hb7
 have HP7:=hid ((HP0.out.later HB3.out).later hb7)
 have HS9:=hid (HP7.out.z.st ⟨0,(0,0,0),Dd,0⟩ a7 m c7)
 have HL9:=hid (HP7.out.z.lv ⟨0,(0,0,0),Dd,0⟩ a7 m c7)
 have H13:Hid (∀U:World,Below v3.heap.size v3 U→U.cell? ⟨M.b,12,none⟩=some (.slice (some ⟨g1,0,none⟩) nV c1)∧U.cell? ⟨g1,oi*2+1,none⟩=some (.slice e1.a bl e1.cap)∧U.cell? ⟨w.heap.size,8,none⟩=some (.int .i64 (o:Int))):=fun U hU=>by
  have h9:=H12.out U (below_call HB3.out hU)
  have h10:=(HC.out U (below_call HB3.out hU)).2.2.1
  rw [ho] at h10
  exact⟨h9.1,h9.2,h10⟩
 have hMb:=HX.out.lt
 have hgl1:g1<w.heap.size:=by have:=HN.out g1 (.inr (.inl (.inl ⟨_,HG1.out,rfl⟩)));exact this
 have hb9:But (·=w.heap.size+1) w7 (w7.setCells (w.heap.size+1) 0 (rpL ⟨0,(0,0,0),Dd,0⟩ a7 m c7)):=R.setCells_but (S:=(·=w.heap.size+1)) rfl _ 0 (But.refl _ _)
 have HSf:Hid ((w7.setCells (w.heap.size+1) 0 (rpL ⟨0,(0,0,0),Dd,0⟩ a7 m c7)).cell? ⟨M.b,12,none⟩=some (.slice (some ⟨g1,0,none⟩) nV c1)∧(w7.setCells (w.heap.size+1) 0 (rpL ⟨0,(0,0,0),Dd,0⟩ a7 m c7)).cell? ⟨g1,oi*2+1,none⟩=some (.slice e1.a bl e1.cap)∧(w7.setCells (w.heap.size+1) 0 (rpL ⟨0,(0,0,0),Dd,0⟩ a7 m c7)).cell? ⟨w.heap.size,8,none⟩=some (.int .i64 (o:Int))):=by
  obtain⟨h9,h10,h11⟩:=H13.out w7 hb7
  exact⟨cell_but hb9 h9 (show ¬M.b=w.heap.size+1 by omega),cell_but hb9 h10 (show ¬g1=w.heap.size+1 by omega),cell_but hb9 h11 (show ¬w.heap.size=w.heap.size+1 by omega)⟩
 have HB9:=hid hb9
 have hw2:=HW2.out
 have hw1:=HW1.out
 rw [hm]
 clear hO7 hG7 hb7 hb9 hac hcc hCr HCr hDd HLen hnc ho hm k1 k2 k3 k4 hs
 go_cut [] (fun U=>Hid (U=w7.setCells (w.heap.size+1) 0 (rpL ⟨0,(0,0,0),Dd,0⟩ a7 m c7)))
 case first =>
  refine wp_region_held_drew (S:=(fun U:World=>U.cell? ⟨M.b,12,none⟩=some (.slice (some ⟨g1,0,none⟩) nV c1)∧U.cell? ⟨g1,oi*2+1,none⟩=some (.slice e1.a bl e1.cap)∧U.cell? ⟨w.heap.size,8,none⟩=some (.int .i64 (o:Int)))) (by kernel_rfl) (H13.out _ (Below.refl _ _).drew) (fun hHeld=>?_)
  refine nm 19 0 19 ?_
  refine tn 1 19 2 18 ?_
  simp only [zz]
  refine tn 2 19 6 17 ?_
  simp only [zz]
  refine tn 3 19 14 16 ?_
  simp only [zz]
  refine tn 4 19 30 15 ?_
  simp only [zz]
  refine tn 5 19 62 14 ?_
  simp only [zz]
  refine tn 6 19 126 13 ?_
  simp only [zz]
  refine tn 7 19 254 12 ?_
  simp only [zz]
  refine tn 8 19 510 11 ?_
  simp only [zz]
  refine tn 9 19 1022 10 ?_
  simp only [zz]
  refine tn 10 19 2046 9 ?_
  simp only [zz]
  refine tn 11 19 4094 8 ?_
  simp only [zz]
  refine tn 12 19 8190 7 ?_
  simp only [zz]
  refine tn 13 19 16382 6 ?_
  simp only [zz]
  refine tn 14 19 32766 5 ?_
  simp only [zz]
  refine tv 15 (v:=.slice ac m cc) ?_ ?_
  ·(intro w hSw;(try dsimp only at hSw);exact ex_slice (vlo:=some (.int .i64 (o:Int))) (vhi:=some (.int .i64 ((o:Int)+(m:Int)))) (vmx:=none) rfl rfl rfl rfl rfl (HSl.out _))
  simp only [zz]
  refine nm 19 65534 4 ?_
  refine zr 0 fun K hK=>?_
  go_simp
  refine zk hK 19 65535 3 (H13.out _ (below1 _ _).drew) fun hHeld=>?_
  clear hK K
  try simp only [zz]
  refine zr 16 fun K hK=>?_
  refine wp_app (.tmp 72) (.tmp 87) 39 rfl _ _ rfl rfl _ w7 hr7 ?_
  refine zk hK 19 131071 2 (H13.out _ HB7.out) fun hHeld=>?_
  clear hK K
  try simp only [zz]
  refine tn 17 19 262143 1 ?_
  simp only [zz]
  refine zr 18 fun K hK=>?_
  refine wp_sto 41 (.tmp 6) (.tmp 89) rfl _ _ rfl rfl _ HS9.out ?_
  refine zk hK 19 524287 0 (HSf.out) fun hHeld=>?_
  clear hK K
  try simp only [zz]
  refine zn ?_ _
  (try go_wp2)
  go_meet
  exact hid rfl
 case rest =>
 rename World=>vf
 have e7:=hcut.out
 clear hcut
 subst e7
 go_wp2
 refine bodyPost_ret (v:=rpV ⟨0,(0,0,0),Dd,0⟩ a7 m c7) (by simp [results,Tryz.results23,asAddr,HL9.out]) rfl ?_
 obtain rfl:Rr=_:=HRt.out
 have P7:=HP7.out
 have hge:∀j,Blk a7 j→v3.heap.size≤j:=fun j hj=>(Ow.blk HO7.out j hj).1
 have hlt3:w.heap.size+1<v3.heap.size:=(HP0.out.later HB3.out).z.lt
 refine⟨a7,m,c7,a1,c1,Q1,a2,c2,a3,c3,Q3,rfl,⟨(Ow.mono HO7.out (by omega)).but HB9.out (fun j hj e=>by have:=hge j hj;have:j=w.heap.size+1:=e;omega),u8O _⟩,P7.x.but HB9.out (fun j hj e=>by have:=HN.out j hj;have:j=w.heap.size+1:=e;omega) (fun j hj e=>by have:=HD.out j hj;have:j=w.heap.size+1:=e;omega),P7.bt.comp HB9.out (fun i e=>.inr (by have:i=w.heap.size+1:=e;omega)),fun j hj=>.inl hj,fun j hj e=>by have:=HN.out j e;have:=hge j hj;omega⟩
end
end Go.Proofs.YtffmodpgddecnaaGreat.V.E
