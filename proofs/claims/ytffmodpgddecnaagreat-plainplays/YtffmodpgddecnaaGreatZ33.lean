import Derived.Test.YtffmodpgddecnaaGreatZ31
import Derived.Test.YtffmodpgddecnaaGreatZ32
set_option linter.unusedVariables false
set_option linter.unusedSimpArgs false
namespace Go.Proofs.YtffmodpgddecnaaGreat.V.E
open Go.RowKit Go.Maps
open Go.Proofs.YtffmodpgddecnaaGreat.H (B64 Cp)
open Go.Proofs.YtffmodpgddecnaaGreat.M (okI atC pickE pickL)
section
variable {w w':World}{base:Nat}{M:Mh}{r:Rm}{a1:Option Addr}{c1:Nat}{Q1:List Ev}{a2:Option Addr}{c2:Nat}{a3:Option Addr}{c3:Nat}{Q3:List Ev}
theorem put_nil (L:List Nat)(o:Nat):S.putL L [] o=L:=by unfold S.putL;simp
theorem put_succ {L D:List Nat}{o i x:Nat}(hx:D[i]?=some x)(hl:o+i<L.length):(S.putL L (D.take i) o).set (o+i) x=S.putL L (D.take (i+1)) o:=by
 obtain⟨hi,hx2⟩:=List.getElem?_eq_some_iff.1 hx
 unfold S.putL
 have e1:(D.take i).length=i:=by rw [List.length_take];omega
 have e2:(D.take (i+1)).length=i+1:=by rw [List.length_take];omega
 rw [e1,e2,List.take_add_one,hx]
 have e3:(L.take o++D.take i).length=o+i:=by rw [List.length_append,e1,List.length_take];omega
 rw [List.set_append_right _ _ (by rw [e3];exact Nat.le_refl _),e3,Nat.sub_self,List.drop_eq_getElem_cons hl,List.set_cons_zero]
 simp [Nat.add_assoc]
theorem set_self {α:Type}{L:List α}{i:Nat}{x:α}(h:L[i]?=some x):L.set i x=L:=by
 obtain⟨h1,h2⟩:=List.getElem?_eq_some_iff.1 h
 rw [←h2]
 exact List.set_getElem_self h1
theorem map_setV {V:List (Int×List Nat)}(hr:V.Pairwise (fun a b=>a.1<b.1)){i:Nat}{v:Int×List Nat}(hv:V[i]?=some v)(o:Nat)(D:List Nat):V.map (S.setV v.1 o D)=V.set i (v.1,S.putL v.2 D o):=by
 apply List.ext_getElem?
 intro j
 rw [List.getElem?_map,List.getElem?_set]
 obtain⟨h1,h2⟩:=List.getElem?_eq_some_iff.1 hv
 by_cases e:i=j
 ·subst e
  rw [if_pos rfl,if_pos h1,hv]
  simp [S.setV]
 ·rw [if_neg e]
  cases hj:V[j]? with
  | none=>rfl
  | some u =>
   obtain⟨h3,h4⟩:=List.getElem?_eq_some_iff.1 hj
   have hp:=List.pairwise_iff_getElem.1 hr
   have hne:u.1≠v.1:=by
    rcases Nat.lt_or_gt_of_ne e with h5|h5
    ·have:=hp i j h1 h3 h5;rw [h2,h4] at this;omega
    ·have:=hp j i h3 h1 h5;rw [h2,h4] at this;omega
   simp [S.setV,hne]
def WrR (w:World)(base b:Nat)(M:Mh)(N:Nat→Prop)(r:Rm)(a1:Option Addr)(c1:Nat)(Q1:List Ev)(a2:Option Addr)(c2:Nat)(a3:Option Addr)(c3:Nat)(Q3:List Ev)(L:List Value)(oi:Nat)(ob:Int×List Nat)(e1:Ev)(o:Nat)(D:List Nat)(d:Nat)(v:Value)(U:World):Prop :=
 ∃i:Nat,v=.int .i64 (i:Int)∧i≤d∧Hid (Pg w U base b M N { r with V:=r.V.set oi (ob.1,S.putL ob.2 (D.take i) o) } a1 c1 (Q1.set oi (e1.re (S.u8s (S.putL ob.2 (D.take i) o)))) a2 c2 a3 c3 Q3)∧Hid (R.Bx U w.heap.size L)
set_option maxRecDepth 100000 in
set_option maxHeartbeats 4000000 in
theorem rwrite_any (h:Mx w base M r a1 c1 Q1 a2 c2 a3 c3 Q3)(hbs:base≤w.heap.size)(hf:RF M.p r)(hvr:r.V.Pairwise (fun a b=>a.1<b.1)){cl:R.Cl}{dd gg:R.Sl}(hi:R.Is w cl dd gg)(hop:cl.op=6)(hs:-2147483648≤cl.off∧cl.off≤2147483647∧-2147483648≤cl.n∧cl.n≤2147483647)(hdl:dd.n≤65536)(hdd:∀j,Blk dd.a j→¬MxN M a1 Q1 a2 a3 Q3 j){pi:Nat}{pv:Int×List Cp}(hpi:r.P[pi]?=some pv)(hth:rMay r.T cl.given pv.2 (cpO cl) 2=0→∃v∈r.V,v.1=cl.obj):Calls Tryz.prog 23 #[.pointer (some ⟨M.b,0,none⟩),.agg (R.cC cl dd gg).toArray,.int .i64 (pi:Int)] w (RmP w base M (MxN M a1 Q1 a2 a3 Q3) (wrK r pv.2 cl)):=by
 obtain⟨W,hW⟩:∃W,W=(w.alloc (Obj.cells (R.cC cl dd gg).toArray 45)).alloc z6:=⟨_,rfl⟩
 have hB:Below w.heap.size w W:=by rw [hW];exact below2 _ _ _
 have hXc:R.Bx W w.heap.size (R.cC cl dd gg):=by rw [hW];exact R.Bx.later (below1 _ _) (R.Bx.new w (R.cC cl dd gg) 45)
 have hZ:Zr W (w.heap.size+1):=by rw [hW];have:=Zr.new (w.alloc (Obj.cells (R.cC cl dd gg).toArray 45));simpa using this
 have HP0:=hid (Pg.start h hB hZ (Nat.le_succ _))
 have HN:Hid (∀j,MxN M a1 Q1 a2 a3 Q3 j→j<w.heap.size):=fun j hj=>(h.rng j hj).2
 have HD:=hid h.dl
 have HW:=hid hW
 have HB:=hid hB
 have HX:=hid h
 have HBs:=hid hbs
 have HXc:=hid hXc
 have HIs:=hid (hi.later hB)
 have HIw:=hid hi.data
 have HVr:=hid hvr
 have HVb:=hid hf.vb
 have hsV:=hf.V
 have hsP:=hf.P
 have hpl:=hf.pl pv (List.mem_of_getElem? hpi)
 obtain⟨nP,hnP⟩:∃n,n=r.P.length:=⟨_,rfl⟩
 obtain⟨nV,hnV⟩:∃n,n=r.V.length:=⟨_,rfl⟩
 have hpn:=(List.getElem?_eq_some_iff.1 hpi).1
 obtain⟨e3,he3,he3m,he3i,he3v,he3l⟩:=key_at h.pk hpi
 obtain⟨g3,hg3,hgc⟩:=Ow.at_ h.ps.row (by omega)
 have hg31:w.cell? ⟨g3,pi*2+1,none⟩=some (.slice e3.a e3.len e3.cap):=hgc _ _ (evs_at Q3 pi e3 he3 1 (by omega))
 obtain⟨la,hla⟩:∃la,la=e3.a:=⟨_,rfl⟩
 obtain⟨lc,hlc⟩:∃lc,lc=e3.cap:=⟨_,rfl⟩
 obtain⟨ln,hln⟩:∃ln,ln=pv.2.length:=⟨_,rfl⟩
 have he3l2:e3.len=ln:=by rw [he3l,hln];rfl
 rw [←hla,←hlc,he3l2] at hg31
 have hOl:=h.ps.each e3 he3m
 rw [←hla,←hlc,he3l2,he3v] at hOl
 have HS6:Hid (∀U:World,Below W.heap.size W U→R.Bx U w.heap.size (R.cC cl dd gg)∧U.cell? ⟨M.b,14,none⟩=some (.slice (some ⟨g3,0,none⟩) nP c3)∧U.cell? ⟨g3,pi*2+1,none⟩=some (.slice la ln lc)):=fun U hU=>⟨R.Bx.later hU hXc,by rw [hnP,←hg3];exact (R.Bx.later (below_call hB hU) h.box).cell 14 rfl,cell_later (below_call hB hU) hg31⟩
 have HMa:Hid (∀U:World,Below W.heap.size W U→Calls Tryz.prog 43 #[.pointer (some ⟨M.b,0,none⟩),.agg (R.cC cl dd gg).toArray,.int .i64 2,.slice la ln lc] U fun e w'=>e=.returned (.int .i64 (rMay r.T cl.given pv.2 (cpO cl) 2))∧Below U.heap.size U w'):=fun U hU=>by
  have:=rgate_any (cl:=cl) (dd:=dd) (gg:=gg) (need:=2) (cap:=lc) (h.mr.later (below_call hB hU)) hf.rt (by simp) (Fl.of (Ow.later hOl (below_call hB hU)) (by rw [hln];exact caps_len3 pv.2)) (K:=pv.2) (by omega)
  rw [←hln] at this
  exact this
 obtain⟨e,he⟩:∃e,e=rMay r.T cl.given pv.2 (cpO cl) 2:=⟨_,rfl⟩
 rw [←he] at HMa hth
 have HOb:Hid (∀U:World,Below W.heap.size W U→Calls Tryz.prog 44 #[.pointer (some ⟨M.b,0,none⟩),.int .i64 cl.obj] U fun e w'=>e=.returned (.int .i64 (ixF (isO cl.obj) r.V))∧Below U.heap.size U w'):=fun U hU=>robject_any (h.mr.later (below_call hB hU)) cl.obj
 have HC:Hid (∀U:World,Below W.heap.size W U→U.cell? ⟨w.heap.size,0,none⟩=some (.int .i64 6)∧U.cell? ⟨w.heap.size,3,none⟩=some (.int .i64 cl.obj)∧U.cell? ⟨w.heap.size,8,none⟩=some (.int .i64 cl.off)∧U.cell? ⟨w.heap.size,9,none⟩=some (.int .i64 cl.n)∧U.cell? ⟨w.heap.size,10,none⟩=some (.slice dd.a dd.n dd.c)):=fun U hU=>by
  have hx:=R.Bx.later hU hXc
  exact⟨by rw [←hop];exact hx.cell 0 rfl,hx.cell 3 rfl,hx.cell 8 rfl,hx.cell 9 rfl,hx.cell 10 rfl⟩
 obtain⟨Rr,hR⟩:∃Rr,Rr=wrK r pv.2 cl:=⟨_,rfl⟩
 rw [←hR]
 have HR:=hid hR
 have HHe:=hid he
 have hpi2:(pi:Int)<(nP:Int):=by omega
 have h0pi:(0:Int)≤(pi:Int):=by omega
 have HnV:=hid hnV
 clear h hbs hf hvr hi hop hW hB hZ hXc hR he hnV hpi hpn he3 he3m he3i he3v he3l hg3 hgc hg31 hla hlc hln he3l2 hOl hnP
 obtain⟨z0,-,z8,z9,z10⟩:=HC.out W (Below.refl _ _)
 go_enter Tryz.func23,Tryz.ntmps23
 go_upto_region 1 with fail
 rw [←HW.out]
 go_upto_region 6 with fail
 clear z0 z8 z9 z10
 go_cut [9] (fun v U=>v=.int .i64 e∧Hid (Below W.heap.size W U))
 case first =>
  refine wp_region_held_drew (S:=(fun U:World=>R.Bx U w.heap.size (R.cC cl dd gg)∧U.cell? ⟨M.b,14,none⟩=some (.slice (some ⟨g3,0,none⟩) nP c3)∧U.cell? ⟨g3,pi*2+1,none⟩=some (.slice la ln lc))) (by kernel_rfl) (HS6.out _ (Below.refl _ _).drew) (fun hHeld=>?_)
  refine nm 13 0 13 ?_
  refine tn 0 13 1 12 ?_
  simp only [zz]
  refine tv 1 (v:=.agg (R.cC cl dd gg).toArray) ?_ ?_
  ·(intro w hSw;(try dsimp only at hSw);exact ex_ld rfl rfl (ldC hSw.1))
  simp only [zz]
  refine nm 13 3 11 ?_
  refine tn 2 13 7 10 ?_
  simp only [zz]
  refine tn 3 13 15 9 ?_
  simp only [zz]
  refine tn 4 13 31 8 ?_
  simp only [zz]
  refine tn 5 13 63 7 ?_
  simp only [zz]
  refine tn 6 13 127 6 ?_
  simp only [zz]
  refine tn 7 13 255 5 ?_
  simp only [zz]
  refine tn 8 13 511 4 ?_
  simp only [zz]
  refine tn 9 13 1023 3 ?_
  simp only [zz]
  refine tn 10 13 2047 2 ?_
  simp only [zz]
  refine zr 11 fun K hK=>?_
  go_simp
  go_wp2_with (first|(go_at_call 43;refine (HMa.out _ (Below.refl _ _).drew).mono ?_;rintro e w3 ⟨rfl,hb3⟩;have HB3:Hid (Below W.heap.size W w3):=below_call (Below.refl W.heap.size W).drew hb3;clear hb3))
  refine zk hK 13 4095 1 (HS6.out _ HB3.out) fun hHeld=>?_
  clear hK K
  try simp only [zz]
  refine tn 12 13 8191 0 ?_
  simp only [zz]
  refine zn ?_ _
  (try go_wp2)
  go_meet
  exact⟨rfl,HB3.out⟩
 case rest =>
 rename World=>v1
 obtain⟨rfl,HB1⟩:=hcut
 by_cases h1:e≠0
 ·obtain rfl:Rr=(rep e,r):=by rw [HR.out];unfold wrK;rw [←HHe.out,if_pos h1]
  have hd:(e != 0)=true:=by simp [h1]
  have HEv:=hid (HP0.out.later HB1.out).e
  clear h1
  have HR_:=hid (rrefused_any e v1)
  go_wp2_with (first|(go_at_call 18;refine HR_.out.mono ?_;rintro e w9 ⟨rfl,hb9⟩;have HE9:=hid (HEv.out.later hb9);have HZ9:=hid HE9.out.z;have HS9:=hid (HZ9.out.st (rep e) none 0 0);have HL9:=hid (HZ9.out.lv (rep e) none 0 0);clear hb9)|((with_reducible refine st_arm HS9.out ?_ ?_ ?_);(· rfl);(· rfl)))
  exact bodyPost_ret (v:=rpV (rep e) none 0 0) (by simp [results,Tryz.results23,asAddr,HL9.out]) rfl (HE9.out.fin (Nat.le_succ _) HN.out HD.out (rep e) rfl)
 have h1:e=0:=by simpa using h1
 subst h1
 obtain⟨vo,hvm,hvo⟩:=hth rfl
 obtain⟨oi,ob,hoi,hob,hobp⟩:=ix_ex (P:=isO cl.obj) (L:=r.V) ⟨vo,hvm,decide_eq_true hvo⟩
 have hob1:ob.1=cl.obj:=of_decide_eq_true hobp
 have hobm:=List.mem_of_getElem? hob
 have hatV:S.atV r.V cl.obj=some ob.2:=by
  have h9:=find_mem Prod.fst HVr.out ob hobm
  rw [hob1] at h9
  unfold S.atV
  rw [h9]
  rfl
 have hon:=(List.getElem?_eq_some_iff.1 hob).1
 rw [hoi] at HOb
 obtain⟨e1,he1,he1m,he1i,he1v,he1l⟩:=key_at HX.out.ok hob
 obtain⟨bl,hbl⟩:∃bl,bl=ob.2.length:=⟨_,rfl⟩
 have hbl9:bl≤4096:=by rw [hbl];exact (HVb.out ob hobm).1
 have he1l2:e1.len=bl:=by rw [he1l,hbl];rfl
 have hnV2:=HnV.out
 obtain⟨g1,hg1,hgc1⟩:=Ow.at_ HX.out.os.row (by omega)
 have hg11:w.cell? ⟨g1,oi*2+1,none⟩=some (.slice e1.a e1.len e1.cap):=hgc1 _ _ (evs_at Q1 oi e1 he1 1 (by omega))
 rw [he1l2] at hg11
 have HOr:=hid (HX.out.os.each e1 he1m)
 have HG1:=hid hg1
 have H12:Hid (∀U:World,Below W.heap.size W U→U.cell? ⟨M.b,12,none⟩=some (.slice (some ⟨g1,0,none⟩) nV c1)∧U.cell? ⟨g1,oi*2+1,none⟩=some (.slice e1.a bl e1.cap)):=fun U hU=>⟨by rw [hnV2,←hg1];exact (R.Bx.later (below_call HB.out hU) HX.out.box).cell 12 rfl,cell_later (below_call HB.out hU) hg11⟩
 have HRt:Hid (Rr=if 0≤cl.off∧0≤(dd.n:Int)∧(dd.n:Int)≤1024∧cl.off+(dd.n:Int)≤(bl:Int) then (rep 0,{ r with V:=r.V.set oi (ob.1,S.putL ob.2 cl.data cl.off.toNat) }) else (rep 5,r)):=by
  unfold Hid
  rw [HR.out]
  have hdn:(cl.data.length:Int)=(dd.n:Int):=by have:=HIs.out.data.len;omega
  have hE:S.rvE r.V cl.obj cl.off (cl.data.length:Int)=if 0≤cl.off∧0≤(dd.n:Int)∧(dd.n:Int)≤1024∧cl.off+(dd.n:Int)≤(bl:Int) then 0 else 5:=by
   unfold S.rvE
   rw [hatV,hdn]
   simp only [←hbl]
  unfold wrK S.wrV
  rw [←HHe.out,if_neg (by simp),hE]
  by_cases h2:0≤cl.off∧0≤(dd.n:Int)∧(dd.n:Int)≤1024∧cl.off+(dd.n:Int)≤(bl:Int)
  ·simp only [if_pos h2,if_true]
   rw [←hob1,map_setV HVr.out hob]
  ·simp only [if_neg h2,if_neg (show ¬(5:Int)=0 by decide)]
 have hoi2:(oi:Int)<(nV:Int):=by omega
 have h0oi:(0:Int)≤(oi:Int):=by omega
 have HE1:=hid he1
 have HE1m:=hid he1m
 have HE1v:=hid he1v
 have HOb2:=hid hob
 have HBl:=hid hbl
 have HOb1:=hid hob1
 clear hvm hvo hoi hob hobp hobm hatV he1 he1m he1i he1v he1l hbl he1l2 hg1 hgc1 hg11 HR hon hob1 hnV2
 obtain⟨-,z3,-⟩:=HC.out v1 HB1.out
 go_upto_region 10 with (first|(go_at_call 44;refine (HOb.out _ HB1.out).mono ?_;rintro e w2 ⟨rfl,hb2⟩;have HB2:=hid (below_call HB1.out hb2);clear hb2))
 clear z3
 obtain⟨z0,-,z8,-,z10⟩:=HC.out w2 HB2.out
 obtain⟨m12,o1⟩:=H12.out w2 HB2.out
 have HEv:=hid (HP0.out.later HB2.out).e
 by_cases h2:¬(0≤cl.off∧0≤(dd.n:Int)∧(dd.n:Int)≤1024∧cl.off+(dd.n:Int)≤(bl:Int))
 ·obtain rfl:Rr=(rep 5,r):=by rw [HRt.out,if_neg h2]
  by_cases k1:cl.off<0
  ·have d1:decide (cl.off<0)=true:=decide_eq_true k1
   clear h2 k1
   go_quiet (fail)
   obtain⟨v3,hv3⟩:∃v3,v3=w2.drewN nq:=⟨_,rfl⟩
   have HEw:=hid (HEv.out.later (V:=v3) (by rw [hv3];exact below_drewN (Below.refl _ _) _))
   rw [←hv3]
   clear hv3
   have HR_:=hid (rrefused_any 5 v3)
   go_wp2_with (first|(go_at_call 18;refine HR_.out.mono ?_;rintro e w9 ⟨rfl,hb9⟩;have HE9:=hid (HEw.out.later hb9);have HZ9:=hid HE9.out.z;have HS9:=hid (HZ9.out.st (rep 5) none 0 0);have HL9:=hid (HZ9.out.lv (rep 5) none 0 0);clear hb9)|((with_reducible refine st_arm HS9.out ?_ ?_ ?_);(· rfl);(· rfl)))
   exact bodyPost_ret (v:=rpV (rep 5) none 0 0) (by simp [results,Tryz.results23,asAddr,HL9.out]) rfl (HE9.out.fin (Nat.le_succ _) HN.out HD.out (rep 5) rfl)
  ·have d1:decide (cl.off<0)=false:=decide_eq_false k1
   by_cases k2:(dd.n:Int)<0
   ·have d2:decide ((dd.n:Int)<0)=true:=decide_eq_true k2
    clear h2 k1 k2
    go_quiet (fail)
    obtain⟨v3,hv3⟩:∃v3,v3=w2.drewN nq:=⟨_,rfl⟩
    have HEw:=hid (HEv.out.later (V:=v3) (by rw [hv3];exact below_drewN (Below.refl _ _) _))
    rw [←hv3]
    clear hv3
    have HR_:=hid (rrefused_any 5 v3)
    go_wp2_with (first|(go_at_call 18;refine HR_.out.mono ?_;rintro e w9 ⟨rfl,hb9⟩;have HE9:=hid (HEw.out.later hb9);have HZ9:=hid HE9.out.z;have HS9:=hid (HZ9.out.st (rep 5) none 0 0);have HL9:=hid (HZ9.out.lv (rep 5) none 0 0);clear hb9)|((with_reducible refine st_arm HS9.out ?_ ?_ ?_);(· rfl);(· rfl)))
    exact bodyPost_ret (v:=rpV (rep 5) none 0 0) (by simp [results,Tryz.results23,asAddr,HL9.out]) rfl (HE9.out.fin (Nat.le_succ _) HN.out HD.out (rep 5) rfl)
   ·have d2:decide ((dd.n:Int)<0)=false:=decide_eq_false k2
    by_cases k3:(dd.n:Int)>1024
    ·have d3:decide ((dd.n:Int)>1024)=true:=decide_eq_true k3
     have d3n:decide (1024<dd.n)=true:=decide_eq_true (by omega)
     clear h2 k1 k2 k3
     go_quiet (fail)
     obtain⟨v3,hv3⟩:∃v3,v3=w2.drewN nq:=⟨_,rfl⟩
     have HEw:=hid (HEv.out.later (V:=v3) (by rw [hv3];exact below_drewN (Below.refl _ _) _))
     rw [←hv3]
     clear hv3
     have HR_:=hid (rrefused_any 5 v3)
     go_wp2_with (first|(go_at_call 18;refine HR_.out.mono ?_;rintro e w9 ⟨rfl,hb9⟩;have HE9:=hid (HEw.out.later hb9);have HZ9:=hid HE9.out.z;have HS9:=hid (HZ9.out.st (rep 5) none 0 0);have HL9:=hid (HZ9.out.lv (rep 5) none 0 0);clear hb9)|((with_reducible refine st_arm HS9.out ?_ ?_ ?_);(· rfl);(· rfl)))
     exact bodyPost_ret (v:=rpV (rep 5) none 0 0) (by simp [results,Tryz.results23,asAddr,HL9.out]) rfl (HE9.out.fin (Nat.le_succ _) HN.out HD.out (rep 5) rfl)
    ·have d3:decide ((dd.n:Int)>1024)=false:=decide_eq_false k3
     have d3n:decide (1024<dd.n)=false:=decide_eq_false (by omega)
     have k4:cl.off+(dd.n:Int)>(bl:Int):=by omega
     have d4:decide (cl.off+(dd.n:Int)>(bl:Int))=true:=decide_eq_true k4
     have d5:wrap64 (cl.off+(dd.n:Int))=cl.off+(dd.n:Int):=by unfold wrap64;omega
     clear h2 k1 k2 k3 k4
     go_quiet (fail)
     obtain⟨v3,hv3⟩:∃v3,v3=w2.drewN nq:=⟨_,rfl⟩
     have HEw:=hid (HEv.out.later (V:=v3) (by rw [hv3];exact below_drewN (Below.refl _ _) _))
     rw [←hv3]
     clear hv3
     have HR_:=hid (rrefused_any 5 v3)
     go_wp2_with (first|(go_at_call 18;refine HR_.out.mono ?_;rintro e w9 ⟨rfl,hb9⟩;have HE9:=hid (HEw.out.later hb9);have HZ9:=hid HE9.out.z;have HS9:=hid (HZ9.out.st (rep 5) none 0 0);have HL9:=hid (HZ9.out.lv (rep 5) none 0 0);clear hb9)|((with_reducible refine st_arm HS9.out ?_ ?_ ?_);(· rfl);(· rfl)))
     exact bodyPost_ret (v:=rpV (rep 5) none 0 0) (by simp [results,Tryz.results23,asAddr,HL9.out]) rfl (HE9.out.fin (Nat.le_succ _) HN.out HD.out (rep 5) rfl)
 have h2:=Decidable.not_not.1 h2
 have HRt:=hid (HRt.out.trans (if_pos h2))
 obtain⟨k1,k2,k3,k4⟩:=h2
 have d1:decide (cl.off<0)=false:=decide_eq_false (by omega)
 have d2:decide ((dd.n:Int)<0)=false:=decide_eq_false (by omega)
 have d3:decide ((dd.n:Int)>1024)=false:=decide_eq_false (by omega)
 have d3n:decide (1024<dd.n)=false:=decide_eq_false (by omega)
 have d4:decide (cl.off+(dd.n:Int)>(bl:Int))=false:=decide_eq_false (by omega)
 have HW5:Hid (wrap64 (cl.off+(dd.n:Int))=cl.off+(dd.n:Int)):=by unfold Hid wrap64;omega
 have d5:=HW5.out
 go_quiet (fail)
 obtain⟨v3,hv3⟩:∃v3,v3=w2.drewN nq:=⟨_,rfl⟩
 have HB3:Hid (Below W.heap.size W v3):=by rw [hv3];exact below_drewN HB2.out _
 rw [←hv3]
 clear hv3 d1 d2 d3 d3n d4 d5 z0 z8 z10 m12 o1 HEv HB2
 obtain⟨z0,-,-,-,-⟩:=HC.out v3 HB3.out
 go_upto_region 15 with fail
 clear z0
 obtain⟨o,ho⟩:∃o:Nat,cl.off=(o:Int):=⟨cl.off.toNat,by omega⟩
 have hom:o+dd.n≤bl:=by omega
 rw [ho,Int.toNat_natCast] at HRt
 have HHo:=hid ho
 have hdl2:cl.data.length=dd.n:=by have:=HIs.out.data.len;omega
 have HDl:=hid hdl2
 have HE1r:Hid (e1.re (S.u8s ob.2)=e1):=by
  have h9:e1.vs=S.u8s ob.2:=HE1v.out
  unfold Hid Ev.re
  rw [←h9]
 have HP3:Hid (Pg w v3 base (w.heap.size+1) M (MxN M a1 Q1 a2 a3 Q3) { r with V:=r.V.set oi (ob.1,S.putL ob.2 (cl.data.take 0) o) } a1 c1 (Q1.set oi (e1.re (S.u8s (S.putL ob.2 (cl.data.take 0) o)))) a2 c2 a3 c3 Q3):=by
  unfold Hid
  rw [List.take_zero,put_nil,HE1r.out,set_self HE1.out,set_self (show r.V[oi]?=some (ob.1,ob.2) from HOb2.out)]
  exact HP0.out.later HB3.out
 have hMb:=HX.out.lt
 have hgl1:g1<w.heap.size:=HN.out g1 (.inr (.inl (.inl ⟨_,HG1.out,rfl⟩)))
 clear k1 k2 k3 k4 hs ho HW5
 go_loopw [11] (WrR w base (w.heap.size+1) M (MxN M a1 Q1 a2 a3 Q3) r a1 c1 Q1 a2 c2 a3 c3 Q3 (R.cC cl dd gg) oi ob e1 o cl.data dd.n) (fun v _=>dd.n - (intOf v).toNat)
 case atStart=>exact⟨0,rfl,Nat.zero_le _,HP3,hid (R.Bx.later HB3.out HXc.out)⟩
 case round =>
  clear HP3 HB3
  obtain⟨i,rfl,hi9,HPi,HXi⟩:=hrel
  rename World=>U
  by_cases hlt:i<dd.n
  ·have hd:decide ((i:Int)<(dd.n:Int))=true:=decide_eq_true (by omega)
   obtain⟨x,hx⟩:∃x,cl.data[i]?=some x:=⟨_,List.getElem?_eq_getElem (by omega)⟩
   obtain⟨b0,o0,hda,hdc⟩:=HIw.out.plain (by omega)
   have hdx:w.cell? ⟨b0,o0+i,none⟩=some (.int .u8 (x:Int)):=by
    have h9:=hdc i (by omega)
    rw [show cl.data[i]'(by omega)=x by have:=List.getElem?_eq_getElem (l:=cl.data) (i:=i) (by omega);rw [hx] at this;exact (Option.some.inj this).symm] at h9
    exact h9
   have hbN:¬MxN M a1 Q1 a2 a3 Q3 b0:=hdd b0 ⟨_,hda,rfl⟩
   have hux:=cell_but HPi.out.bt hdx hbN
   have hb0l:b0<w.heap.size:=World.block_lt_of_cell? _ _ hdx
   obtain⟨P,hP⟩:∃P,P=S.putL ob.2 (cl.data.take i) o:=⟨_,rfl⟩
   have hPl:P.length=bl:=by
    rw [hP,HBl.out]
    unfold S.putL
    simp only [List.length_append,List.length_take,List.length_drop]
    have:=HBl.out
    omega
   have HPn:=hid (put_succ (o:=o) (L:=ob.2) hx (by have:=HBl.out;omega))
   rw [←hP] at HPi HPn
   have hil:=(List.getElem?_eq_some_iff.1 HE1.out).1
   have hiv:=(List.getElem?_eq_some_iff.1 HOb2.out).1
   have hQi:(Q1.set oi (e1.re (S.u8s P)))[oi]?=some (e1.re (S.u8s P)):=by rw [List.getElem?_set,if_pos rfl,if_pos hil]
   have hVi:(r.V.set oi (ob.1,P))[oi]?=some (ob.1,P):=by rw [List.getElem?_set,if_pos rfl,if_pos hiv]
   have hOw:=HPi.out.x.os.each _ (List.mem_of_getElem? hQi)
   have hel:e1.len=bl:=by
    have h9:=hOw.1
    have h10:(S.u8s P).length=P.length:=by simp [S.u8s]
    have h11:(e1.re (S.u8s P)).vs.length=P.length:=h10
    have h12:(e1.re (S.u8s P)).len=e1.len:=rfl
    omega
   obtain⟨gb,hgb,hgcell⟩:=Ow.at_ hOw (by show 0<e1.len;omega)
   have hgb:e1.a=some ⟨gb,0,none⟩:=hgb
   have hgbN:MxN M a1 Q1 a2 a3 Q3 gb:=.inr (.inl (.inr ⟨e1,HE1m.out,⟨_,hgb,rfl⟩⟩))
   have hgbl:=HN.out gb hgbN
   have hgc9:U.cell? ⟨gb,o+i,none⟩=some (.int .u8 ((P[o+i]'(by omega):Nat):Int)):=hgcell _ _ (by show (S.u8s P)[o+i]?=_;unfold S.u8s;rw [List.getElem?_map,List.getElem?_eq_getElem (by omega)];rfl)
   have hOw2:Ow U base 5 1 (some ⟨gb,0,none⟩) e1.len e1.cap (S.u8s P):=by have h9:=hOw;rw [show (e1.re (S.u8s P)).a=some ⟨gb,0,none⟩ from hgb] at h9;exact h9
   have hfz:=hOw2.fr (o+i)
   obtain⟨X,hbX⟩:=Mx.byte HPi.out.x hQi hVi (show (e1.re (S.u8s P)).a=some ⟨gb,0,none⟩ from hgb) (o+i) x
   have hgM:gb≠M.b:=HX.out.nb gb (.inl (.inr ⟨e1,HE1m.out,⟨_,hgb,rfl⟩⟩))
   have hg1b:g1≠gb:=fun e=>HX.out.os.top e1 HE1m.out gb ⟨_,hgb,rfl⟩ ⟨_,e ▸ HG1.out,rfl⟩
   have hb0g:b0≠gb:=fun e=>hbN (e ▸ hgbN)
   have P2:=HPi.out.go X hbX (fun k hk=>(MxN_re HE1.out _ k).2 (hk ▸ hgbN)) (fun k hk=>.inl ((MxN_re hQi _ k).1 hk))
   simp only [List.set_set] at P2
   have e8:((e1.re (S.u8s P)).re ((e1.re (S.u8s P)).vs.set (o+i) (.int .u8 (x:Int))))=e1.re (S.u8s (P.set (o+i) x)):=by
    unfold Ev.re S.u8s
    simp only [List.map_set]
   rw [e8,HPn.out] at P2
   have X2:=R.Bx.but hbX HXi.out (show ¬w.heap.size=gb by omega)
   have HP2:=hid P2
   have HX2:=hid X2
   have H17:Hid (U.cell? ⟨M.b,12,none⟩=some (.slice (some ⟨g1,0,none⟩) nV c1)∧U.cell? ⟨g1,oi*2+1,none⟩=some (.slice (some ⟨gb,0,none⟩) bl e1.cap)∧U.cell? ⟨w.heap.size,8,none⟩=some (.int .i64 (o:Int))∧U.cell? ⟨w.heap.size,10,none⟩=some (.slice (some ⟨b0,o0,none⟩) dd.n dd.c)∧U.cell? ⟨b0,o0+i,none⟩=some (.int .u8 (x:Int))):=by
    have h12:=HPi.out.x.box.cell 12 rfl
    simp only [List.length_set] at h12
    rw [←HnV.out,HG1.out] at h12
    obtain⟨gq,hgq,hqc⟩:=HPi.out.x.mr.o (by rw [evs_len,List.length_set];omega)
    have hgq2:gq=g1:=by have h13:=HG1.out;rw [hgq] at h13;exact congrArg (fun z=>(z.map Addr.block).getD 0) h13
    have h13:=hqc _ _ (evs_at _ oi _ hQi 1 (by omega))
    rw [hgq2] at h13
    refine⟨h12,?_,?_,?_,hux⟩
    ·have h14:(e1.re (S.u8s P)).c[1]?=some (.slice (some ⟨gb,0,none⟩) bl e1.cap):=by show some (Value.slice e1.a e1.len e1.cap)=_;rw [hgb,hel]
     first|exact h13.trans h14|(rw [h14] at h13;exact h13)|(have:=h13;simpa [Ev.c,Ev.re,hgb,hel] using this)
    ·have h15:=HXi.out.cell 8 rfl
     rw [HHo.out] at h15
     exact h15
    ·have h15:U.cell? ⟨w.heap.size,10,none⟩=some (.slice dd.a dd.n dd.c):=HXi.out.cell 10 rfl
     rw [hda] at h15
     exact h15
   obtain⟨q,hq⟩:∃q,q=o+i:=⟨_,rfl⟩
   have HQ1:Hid (IntKind.i64.wrap ((o:Int)+(i:Int))=(q:Int)):=by unfold Hid;rw [IntKind.wrap_i64];omega
   have HQ2:Hid (wrap64 ((o:Int)+(i:Int))=(q:Int)):=by unfold Hid wrap64;omega
   obtain⟨old,hold⟩:∃old:Value,U.cell? ⟨gb,o+i,none⟩=some old:=⟨_,hgc9⟩
   rw [←hq] at hold hfz HP2 HX2 hbX
   clear hgc9
   have hqb:(q:Int)<(bl:Int):=by omega
   have h0q:(0:Int)≤(q:Int):=by omega
   have hid1:(i:Int)<(dd.n:Int):=by omega
   have h0i:(0:Int)≤(i:Int):=by omega
   have HSf:Hid ((U.setCell ⟨gb,q,none⟩ (.int .u8 (x:Int))).cell? ⟨M.b,12,none⟩=some (.slice (some ⟨g1,0,none⟩) nV c1)∧(U.setCell ⟨gb,q,none⟩ (.int .u8 (x:Int))).cell? ⟨g1,oi*2+1,none⟩=some (.slice (some ⟨gb,0,none⟩) bl e1.cap)∧(U.setCell ⟨gb,q,none⟩ (.int .u8 (x:Int))).cell? ⟨w.heap.size,8,none⟩=some (.int .i64 (o:Int))∧(U.setCell ⟨gb,q,none⟩ (.int .u8 (x:Int))).cell? ⟨w.heap.size,10,none⟩=some (.slice (some ⟨b0,o0,none⟩) dd.n dd.c)∧(U.setCell ⟨gb,q,none⟩ (.int .u8 (x:Int))).cell? ⟨b0,o0+i,none⟩=some (.int .u8 (x:Int))):=by
    obtain⟨t1,t2,t3,t4,t5⟩:=H17.out
    exact⟨cell_but hbX t1 (fun e=>hgM e.symm),cell_but hbX t2 hg1b,cell_but hbX t3 (show ¬w.heap.size=gb by omega),cell_but hbX t4 (show ¬w.heap.size=gb by omega),cell_but hbX t5 hb0g⟩
   have hqw1:=HQ1.out
   have hqw2:=HQ2.out
   clear hx hda hdc hdx hbN hux hb0l hP hPl HPn hil hiv hQi hVi hOw hel hgcell hgb hgbN hgbl hOw2 X P2 e8 X2 HXi HPi hq hgM hg1b hb0g hbX
   go_upto_region 17 with fail
   go_region_held3 (fun V=>V.cell? ⟨M.b,12,none⟩=some (.slice (some ⟨g1,0,none⟩) nV c1)∧V.cell? ⟨g1,oi*2+1,none⟩=some (.slice (some ⟨gb,0,none⟩) bl e1.cap)∧V.cell? ⟨w.heap.size,8,none⟩=some (.int .i64 (o:Int))∧V.cell? ⟨w.heap.size,10,none⟩=some (.slice (some ⟨b0,o0,none⟩) dd.n dd.c)∧V.cell? ⟨b0,o0+i,none⟩=some (.int .u8 (x:Int))) (first|exact H17.out|exact HSf.out) (fail)
   all_goals (try go_wp2)
   all_goals exact⟨⟨i+1,rfl,by omega,hid (HP2.out.later (Below.refl _ _).drew),hid (R.Bx.later (Below.refl _ _).drew HX2.out)⟩,by simp [intOf];omega⟩
  ·obtain rfl:i=dd.n:=by omega
   have hd:decide ((dd.n:Int)<(dd.n:Int))=false:=decide_eq_false (by omega)
   have HPi:=HPi
   rw [List.take_of_length_le (by have:=HDl.out;omega)] at HPi
   have HEv:=hid HPi.out.e
   have HS9:=hid (HPi.out.z.st (rep 0) none 0 0)
   have HL9:=hid (HPi.out.z.lv (rep 0) none 0 0)
   go_wp2_with (first|((with_reducible refine st_arm HS9.out ?_ ?_ ?_);(· rfl);(· rfl)))
   obtain rfl:Rr=_:=HRt.out
   exact bodyPost_ret (v:=rpV (rep 0) none 0 0) (by simp [results,Tryz.results23,asAddr,HL9.out]) rfl (HEv.out.fin (Nat.le_succ _) HN.out HD.out (rep 0) rfl)
end
end Go.Proofs.YtffmodpgddecnaaGreat.V.E
