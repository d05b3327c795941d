import Derived.Test.YtffmodpgddecnaaGreatZ37
set_option linter.unusedVariables false
set_option linter.unusedSimpArgs false
namespace Go.Proofs.YtffmodpgddecnaaGreat.V.E
open Go.RowKit Go.Maps
open Go.Proofs.YtffmodpgddecnaaGreat.H (B64 Cp)
open Go.Proofs.YtffmodpgddecnaaGreat.M (okI atC pickE pickL)
def rtV (T:List Hl)(a:List Tok)(v:Int×List Nat):List Tok:=T.foldl (rtO T v.1) a
theorem rTk_eq (r:Rm):rTk r=r.V.foldl (rtV r.T) []:=rfl
theorem rtO_len (T:List Hl)(o:Int)(a:List Tok)(c:Hl):a.length≤(rtO T o a c).length:=by
 unfold rtO
 split
 ·exact und_len T _ a c _
 ·exact Nat.le_refl _
theorem rtV_len (T:List Hl)(a:List Tok)(v:Int×List Nat):a.length≤(rtV T a v).length:=foldH_grow _ (rtO_len T v.1) T a
theorem foldV_grow (F:List Tok→Int×List Nat→List Tok)(hF:∀a c,a.length≤(F a c).length):∀(L:List (Int×List Nat)) (a:List Tok),a.length≤(L.foldl F a).length
 | [],a=>Nat.le_refl _
 | x::r,a=>Nat.le_trans (hF a x) (foldV_grow F hF r _)
theorem foldV_le (F:List Tok→Int×List Nat→List Tok)(hF:∀a c,a.length≤(F a c).length)(L:List (Int×List Nat))(a:List Tok)(i:Nat):((L.take i).foldl F a).length≤(L.foldl F a).length:=by
 conv=>rhs;rw [←List.take_append_drop i L,List.foldl_append]
 exact foldV_grow F hF _ _
def StO (V:World)(b:Nat)(r:Rm)(n:Nat)(v:Value)(U:World):Prop :=
 ∃i p a1 c1 Q1 a2 c2,v=.int .i64 ((i:Nat):Int)∧i≤n∧Hid (p=(⟨r.V.take i,(r.V.take i).foldl (rtV r.T) [],[],r.nx,r.px,(r.t:Int)⟩:Ps))∧Hid (Sg V U b p a1 c1 Q1 a2 c2 none 0 [])
def StI (V:World)(b:Nat)(r:Rm)(o:Int)(n:Nat)(a1:Option Addr)(c1:Nat)(Q1:List Ev)(s6:List Tok)(p6:Ps)(v:Value)(U:World):Prop :=
 ∃(j:Nat) (L:List Tok) (a2:Option Addr) (c2:Nat),v=.int .i64 (j:Int)∧j≤n∧Hid (L=(r.T.take j).foldl (rtO r.T o) s6)∧Hid (Sg V U b { p6 with T:=L } a1 c1 Q1 a2 c2 none 0 [])
def StP (V:World)(b:Nat)(r:Rm)(n:Nat)(v:Value)(U:World):Prop :=
 ∃i p a1 c1 Q1 a2 c2 a3 c3 Q3,v=.int .i64 ((i:Nat):Int)∧i≤n∧Hid (p=(⟨r.V,rTk r,r.P.take i,r.nx,r.px,(r.t:Int)⟩:Ps))∧Hid (Sg V U b p a1 c1 Q1 a2 c2 a3 c3 Q3)
section
variable {w w':World}{base:Nat}{M:Mh}{r:Rm}{a1:Option Addr}{c1:Nat}{Q1:List Ev}{a2:Option Addr}{c2:Nat}{a3:Option Addr}{c3:Nat}{Q3:List Ev}
set_option maxRecDepth 100000 in
set_option maxHeartbeats 8000000 in
theorem rstate_any (h:Mx w base M r a1 c1 Q1 a2 c2 a3 c3 Q3)(hf:RF M.p r)(hbh:Beh r.T)(hL:(rTk r).length≤1048576):Calls Tryz.prog 14 #[.pointer (some ⟨M.b,0,none⟩)] w (StRets w (psR r)):=by
 obtain⟨W,hW⟩:∃W,W=w.alloc z53:=⟨_,rfl⟩
 have hB:Below w.heap.size w W:=by rw [hW];exact below1 _ _
 have hZ:Zr W w.heap.size:=by rw [hW];exact Zr.new53 w
 have hbw:w.heap.size<W.heap.size:=by rw [hW];simp
 have H1:Hid (∀U:World,Below W.heap.size W U→U.cell? ⟨M.b,15,none⟩=some (.int .i64 r.nx)∧U.cell? ⟨M.b,16,none⟩=some (.int .i64 r.px)∧U.cell? ⟨M.b,11,none⟩=some (.int .i64 (r.t:Int))):=fun U hU=>by
  have hx:=R.Bx.later (below_call hB hU) h.box
  exact⟨hx.cell 15 rfl,hx.cell 16 rfl,hx.cell 11 rfl⟩
 have hX0:=R.Bx.later (Below.refl _ (W.alloc z53)).drew (R.Bx.new W [.slice none 0 0,.slice none 0 0,.slice none 0 0,.int .i64 0,.int .i64 0,.int .i64 0] 53)
 have HS14:=hid (((Zr.new53 W).later (Below.refl _ _).drew).st53 none 0 0 none 0 0 none 0 0 r.nx r.px (r.t:Int))
 have HX14:Hid (R.Bx ((W.alloc z53).drew.setCells W.heap.size 0 (stM none 0 0 none 0 0 none 0 0 r.nx r.px (r.t:Int))) W.heap.size (stM none 0 0 none 0 0 none 0 0 r.nx r.px (r.t:Int))):=R.Bx.set hX0 rfl
 have HB14:Hid (Below W.heap.size W ((W.alloc z53).drew.setCells W.heap.size 0 (stM none 0 0 none 0 0 none 0 0 r.nx r.px (r.t:Int)))):=But.below (below1 _ _).drew (R.setCells_but (S:=(·=W.heap.size)) rfl _ 0 (But.refl _ _)) (fun j e=>by omega)
 have HX:=hid h
 have HW:=hid hW
 have HB:=hid hB
 have HZ:=hid hZ
 have HL0:=hid hL
 have HBh:=hid hbh
 have HVb:=hid hf.vb
 have HPl:=hid hf.pl
 have hsV:=hf.V
 have hsT:=hf.T
 have hsP:=hf.P
 have HBw:=hid hbw
 obtain⟨nV,hnV⟩:∃n,n=r.V.length:=⟨_,rfl⟩
 obtain⟨nT,hnT⟩:∃n,n=r.T.length:=⟨_,rfl⟩
 obtain⟨nP,hnP⟩:∃n,n=r.P.length:=⟨_,rfl⟩
 have HnnV:=hid hnV
 have HnnT:=hid hnT
 have HnnP:=hid hnP
 clear h hW hB hZ hX0 hf hbh hL hbw
 go_enter Tryz.func14,Tryz.ntmps14
 go_upto_region 1 with fail
 rw [←HW.out]
 go_cut [3] (fun v3 U=>v3=.pointer (some ⟨W.heap.size,0,none⟩)∧R.Bx U W.heap.size (stM none 0 0 none 0 0 none 0 0 r.nx r.px (r.t:Int))∧Below W.heap.size W U)
 case first =>
  refine wp_region_held_drew (S:=(fun U:World=>U.cell? ⟨M.b,15,none⟩=some (.int .i64 r.nx)∧U.cell? ⟨M.b,16,none⟩=some (.int .i64 r.px)∧U.cell? ⟨M.b,11,none⟩=some (.int .i64 (r.t:Int)))) (by kernel_rfl) (H1.out _ (Below.refl _ _).drew) (fun hHeld=>?_)
  refine nm 15 0 15 ?_
  refine tn 0 15 1 14 ?_
  simp only [zz]
  refine tn 1 15 3 13 ?_
  simp only [zz]
  refine tn 2 15 7 12 ?_
  simp only [zz]
  refine tn 3 15 15 11 ?_
  simp only [zz]
  refine tn 4 15 31 10 ?_
  simp only [zz]
  refine tn 5 15 63 9 ?_
  simp only [zz]
  refine tn 6 15 127 8 ?_
  simp only [zz]
  refine tn 7 15 255 7 ?_
  simp only [zz]
  refine tn 8 15 511 6 ?_
  simp only [zz]
  refine tn 9 15 1023 5 ?_
  simp only [zz]
  refine tn 10 15 2047 4 ?_
  simp only [zz]
  refine tn 11 15 4095 3 ?_
  simp only [zz]
  refine tn 12 15 8191 2 ?_
  simp only [zz]
  refine zr 13 fun K hK=>?_
  go_simp
  refine zk hK 15 16383 1 (H1.out _ ((below1 _ _).drew)) fun hHeld=>?_
  clear hK K
  try simp only [zz]
  refine zr 14 fun K hK=>?_
  refine wp_sto 53 (.tmp 3) (.tmp 19) rfl _ _ rfl rfl _ HS14.out ?_
  refine zk hK 15 32767 0 (H1.out _ HB14.out) fun hHeld=>?_
  clear hK K
  try simp only [zz]
  refine zn ?_ _
  (try go_wp2)
  go_meet
  exact⟨rfl,HX14.out,HB14.out⟩
 case rest =>
 rename World=>V
 obtain⟨rfl,hXV,hBV⟩:=hcut
 have HXV:=hid hXV
 have HBV:=hid hBV
 obtain⟨b,hb⟩:∃b,b=W.heap.size:=⟨_,rfl⟩
 rw [←hb] at HXV ⊢
 have hbV:b<V.heap.size:=by rw [hb];exact World.block_lt_of_cell? _ _ (hXV.cell 0 rfl)
 have HBl:=hid hbV
 have hbn:w.heap.size<b:=by rw [hb];exact HBw.out
 have HBn:=hid hbn
 clear hXV hBV H1 HS14 HX14 HB14 hb hbV hbn
 have HMx:Hid (∀U:World,But (·=b) V U→Mx U base M r a1 c1 Q1 a2 c2 a3 c3 Q3):=fun U hU=>by
  have hbn:=HBn.out
  exact (HX.out.later (below_call HB.out HBV.out)).but hU (fun j hj e=>by have:=(HX.out.rng j hj).2;omega) (fun j hj e=>by have:=HX.out.dl j hj;omega)
 have HSt:Hid (Sg V V b (⟨[],[],[],r.nx,r.px,(r.t:Int)⟩:Ps) none 0 [] none 0 none 0 []):=by
  refine⟨HXV.out,⟨Two.nil _ _ _ _ _,rfl,Ow.nil _ _ _ _,Two.nil _ _ _ _ _,rfl,?_,?_,?_⟩,?_,But.refl _ _⟩
  ·rintro j (⟨_,h,_⟩|⟨_,h,_⟩)<;>cases h
  ·rintro j (⟨_,h,_⟩|⟨_,h,_⟩)<;>cases h
  ·rintro j ⟨_,h,_⟩;cases h
  ·rintro j ((⟨_,h,_⟩|⟨_,h,_⟩)|⟨_,h,_⟩|(⟨_,h,_⟩|⟨_,h,_⟩))<;>cases h
 clear HXV
 go_upto_region 3 with fail
 go_loopw [4] (StO V b r nV) (fun v _=>nV - S.ivN v)
 case atStart=>exact⟨0,_,none,0,[],none,0,rfl,Nat.zero_le _,hid (by simp),HSt⟩
 case round =>
  clear HSt
  obtain⟨i,p,x1,d1,R1,x2,d2,rfl,hi,HP,HSg⟩:=hrel
  by_cases hlt:i<nV
  ·have hd:decide ((i:Int)<(nV:Int))=true:=decide_eq_true (by omega)
   obtain⟨v,hv⟩:∃v,r.V[i]?=some v:=⟨_,List.getElem?_eq_getElem (by omega)⟩
   have HV:=hid hv
   have kM:=HMx.out wr HSg.out.bel
   obtain⟨o,ho,hom,hoi,hov,hol⟩:=key_at kM.ok hv
   obtain⟨g1,hg1,hgc⟩:=Ow.at_ kM.os.row (by omega)
   obtain⟨bl,hbl⟩:∃bl,bl=v.2.length:=⟨_,rfl⟩
   obtain⟨oa,hoa⟩:∃oa,oa=o.a:=⟨_,rfl⟩
   obtain⟨oc,hoc⟩:∃oc,oc=o.cap:=⟨_,rfl⟩
   have hol2:o.len=bl:=by rw [hol,hbl];rfl
   have hoi2:o.id=v.1:=hoi
   have hbl2:bl≤4096:=by rw [hbl];exact (HVb.out v (List.mem_of_getElem? hv)).1
   have HS5:Hid (∀U:World,But (·=b) V U→U.cell? ⟨M.b,12,none⟩=some (.slice (some ⟨g1,0,none⟩) nV c1)∧U.cell? ⟨g1,i*2,none⟩=some (.int .i64 v.1)∧U.cell? ⟨g1,i*2+1,none⟩=some (.slice oa bl oc)):=fun U hU=>by
    have kU:=HMx.out U hU
    obtain⟨g,hg,hgc⟩:=Ow.at_ kU.os.row (by omega)
    obtain rfl:g1=g:=by rw [hg1] at hg;simpa using hg
    have e0:U.cell? ⟨g1,i*2,none⟩=some (.int .i64 o.id):=hgc _ _ (evs_at Q1 i o ho 0 (by omega))
    have e1:U.cell? ⟨g1,i*2+1,none⟩=some (.slice o.a o.len o.cap):=hgc _ _ (evs_at Q1 i o ho 1 (by omega))
    have e2:=kU.box.cell 12 rfl
    rw [hoi2] at e0
    rw [←hoa,←hoc,hol2] at e1
    exact⟨by rw [HnnV.out,←hg1];exact e2,e0,e1⟩
   have hxb:=HSg.out.blt
   have Hb0:Hid (But (·=b) V wr.drew):=HSg.out.bel.call (Below.refl _ _).drew
   have Hb1:Hid (But (·=b) V (wr.alloc (Obj.cells #[] 5)).drew):=HSg.out.bel.call (below1 _ _).drew
   have her:=(HMx.out _ Hb1.out).os.each o hom
   rw [←hoa,←hoc,hol2,hov] at her
   obtain⟨ab,cb,U5,hr5,hO5,hG5⟩:=append_k 39 5 _ 1 1 Tryz.underlying39 infoEB rfl (by omega) (by omega) (Ow.later (w':=(wr.alloc (Obj.cells #[] 5)).drew) (ow_emp wr 5 1) (Below.refl _ _).drew) (ow_cr her (S.u8s_one _)) (below1 wr (Obj.cells #[] 5)).drew.size (by omega)
   rw [Nat.zero_add] at hr5 hO5
   rw [List.nil_append] at hO5
   have hb5:Below wr.heap.size wr U5:=But.below (below1 wr (Obj.cells #[] 5)).drew hG5.but (fun j hj=>by obtain⟨x,hx,rfl⟩:=hj;cases hx;exact Nat.le_refl _)
   have hO5:Ow U5 wr.heap.size 5 1 ab v.2.length cb (S.u8s v.2):=by rw [←hbl];exact hO5
   have hpO:p.O.length≤1024:=by rw [HP.out];simp only [List.length_take];omega
   obtain⟨a8,c8,w8,hr8,f8,x8,hB8,k8⟩:=Sg.addO HSg.out hb5 (id:=v.1) hO5 (by omega)
   rw [←hbl] at hr8
   have xA0:=(HSg.out.later (Below.refl _ _).drew).c0
   have xA1:=(HSg.out.later (below1 wr (Obj.cells #[] 5)).drew).c0
   have xB:=(HSg.out.later hb5).c0
   have xC:=(HSg.out.later (below_call hb5 (below1 U5 (Obj.cells #[.int .i64 v.1,.slice ab bl cb] 80)))).c0
   have Hb5:Hid (But (·=b) V U5):=HSg.out.bel.call hb5
   have HbL:Hid (But (·=b) V (U5.alloc (Obj.cells #[.int .i64 v.1,.slice ab bl cb] 80))):=Hb5.out.call (below1 _ _)
   have hb8:But (·=b) V w8:=Hb5.out.comp hB8 (fun j hj=>.inr (HSg.out.tl.os.blk j (.inl hj)).1)
   have HSA:=hid (HS5.out _ hb8)
   have HSB:=hid (HS5.out _ k8.bel)
   have HR5:=hid hr5
   have HR8:=hid hr8
   have HK8:=hid k8
   have hii:(i:Int)<(nV:Int):=by omega
   have h0i:(0:Int)≤(i:Int):=by omega
   have Hwi:Hid (wrap64 ((i:Int)+1)=(i:Int)+1):=by unfold Hid wrap64;omega
   obtain⟨m12,-,-⟩:=HS5.out wr HSg.out.bel
   have HG1:=hid hg1
   clear hv kM ho hom hoi hov hol hgc hbl hoa hoc hol2 hoi2 her hr5 hO5 hG5 hb5 hr8 k8 hB8 hb8 hpO hg1
   go_upto_region 5 with fail
   go_cut [] (fun U=>U=w8.setCell ⟨b,0,none⟩ (.slice a8 (p.O.length+1) c8))
   case first =>
    refine wp_region_held_drew (S:=(fun U:World=>U.cell? ⟨M.b,12,none⟩=some (.slice (some ⟨g1,0,none⟩) nV c1)∧U.cell? ⟨g1,i*2,none⟩=some (.int .i64 v.1)∧U.cell? ⟨g1,i*2+1,none⟩=some (.slice oa bl oc))) (by kernel_rfl) (HS5.out _ Hb0.out) (fun hHeld=>?_)
    refine nm 25 0 25 ?_
    refine tn 0 25 1 24 ?_
    simp only [zz]
    refine tn 2 25 5 23 ?_
    simp only [zz]
    refine tn 3 25 13 22 ?_
    simp only [zz]
    refine tn 4 25 29 21 ?_
    simp only [zz]
    refine tn 5 25 61 20 ?_
    simp only [zz]
    refine tn 6 25 125 19 ?_
    simp only [zz]
    refine tn 7 25 253 18 ?_
    simp only [zz]
    refine tn 8 25 509 17 ?_
    simp only [zz]
    refine tn 9 25 1021 16 ?_
    simp only [zz]
    refine tn 11 25 3069 15 ?_
    simp only [zz]
    refine tn 12 25 7165 14 ?_
    simp only [zz]
    refine tn 13 25 15357 13 ?_
    simp only [zz]
    refine tn 14 25 31741 12 ?_
    simp only [zz]
    refine tn 15 25 64509 11 ?_
    simp only [zz]
    refine tn 16 25 130045 10 ?_
    simp only [zz]
    refine tn 17 25 261117 9 ?_
    simp only [zz]
    refine tn 18 25 523261 8 ?_
    simp only [zz]
    refine wpAnyH_ready (rs:=[1,10]) (by kernel_rfl) (by simp) ?_
    refine AllReadyH.cons rfl (fun K hK=>?_) ?_
    ·go_simp
     refine zk hK 25 523263 7 (HS5.out _ Hb0.out) fun hHeld=>?_
     clear hK K
     try simp only [zz]
     refine zr 10 fun K hK=>?_
     go_simp
     refine zk hK 25 524287 6 (HS5.out _ Hb1.out) fun hHeld=>?_
     clear hK K
     try simp only [zz]
     refine zr 19 fun K hK=>?_
     refine wp_app (.tmp 39) (.tmp 47) 39 rfl _ _ rfl rfl _ U5 HR5.out ?_
     refine zk hK 25 1048575 5 (HS5.out _ Hb5.out) fun hHeld=>?_
     clear hK K
     try simp only [zz]
     refine tn 20 25 2097151 4 ?_
     simp only [zz]
     refine zr 21 fun K hK=>?_
     go_simp
     refine zk hK 25 4194303 3 (HS5.out _ HbL.out) fun hHeld=>?_
     clear hK K
     try simp only [zz]
     refine zr 22 fun K hK=>?_
     refine wp_app (.tmp 30) (.tmp 50) 49 rfl _ _ rfl rfl _ w8 HR8.out ?_
     refine zk hK 25 8388607 2 (HSA.out) fun hHeld=>?_
     clear hK K
     try simp only [zz]
     refine tn 23 25 16777215 1 ?_
     simp only [zz]
     refine zr 24 fun K hK=>?_
     go_simp
     refine zk hK 25 33554431 0 (HSB.out) fun hHeld=>?_
     clear hK K
     try simp only [zz]
     refine zn ?_ _
     (try go_wp2)
     go_meet
     exact rfl
    refine AllReadyH.cons rfl (fun K hK=>?_) AllReadyH.nil
    go_simp
    refine zk hK 25 524285 7 (HS5.out _ Hb1.out) fun hHeld=>?_
    clear hK K
    try simp only [zz]
    refine wpAnyH_ready (rs:=[1,19]) (by kernel_rfl) (by simp) ?_
    refine AllReadyH.cons rfl (fun K hK=>?_) ?_
    ·go_simp
     refine zk hK 25 524287 6 (HS5.out _ Hb1.out) fun hHeld=>?_
     clear hK K
     try simp only [zz]
     refine zr 19 fun K hK=>?_
     refine wp_app (.tmp 39) (.tmp 47) 39 rfl _ _ rfl rfl _ U5 HR5.out ?_
     refine zk hK 25 1048575 5 (HS5.out _ Hb5.out) fun hHeld=>?_
     clear hK K
     try simp only [zz]
     refine tn 20 25 2097151 4 ?_
     simp only [zz]
     refine zr 21 fun K hK=>?_
     go_simp
     refine zk hK 25 4194303 3 (HS5.out _ HbL.out) fun hHeld=>?_
     clear hK K
     try simp only [zz]
     refine zr 22 fun K hK=>?_
     refine wp_app (.tmp 30) (.tmp 50) 49 rfl _ _ rfl rfl _ w8 HR8.out ?_
     refine zk hK 25 8388607 2 (HSA.out) fun hHeld=>?_
     clear hK K
     try simp only [zz]
     refine tn 23 25 16777215 1 ?_
     simp only [zz]
     refine zr 24 fun K hK=>?_
     go_simp
     refine zk hK 25 33554431 0 (HSB.out) fun hHeld=>?_
     clear hK K
     try simp only [zz]
     refine zn ?_ _
     (try go_wp2)
     go_meet
     exact rfl
    refine AllReadyH.cons rfl (fun K hK=>?_) AllReadyH.nil
    refine wp_app (.tmp 39) (.tmp 47) 39 rfl _ _ rfl rfl _ U5 HR5.out ?_
    refine zk hK 25 1048573 6 (HS5.out _ Hb5.out) fun hHeld=>?_
    clear hK K
    try simp only [zz]
    refine tn 20 25 2097149 5 ?_
    simp only [zz]
    refine wpAnyH_ready (rs:=[1,21]) (by kernel_rfl) (by simp) ?_
    refine AllReadyH.cons rfl (fun K hK=>?_) ?_
    ·go_simp
     refine zk hK 25 2097151 4 (HS5.out _ Hb5.out) fun hHeld=>?_
     clear hK K
     try simp only [zz]
     refine zr 21 fun K hK=>?_
     go_simp
     refine zk hK 25 4194303 3 (HS5.out _ HbL.out) fun hHeld=>?_
     clear hK K
     try simp only [zz]
     refine zr 22 fun K hK=>?_
     refine wp_app (.tmp 30) (.tmp 50) 49 rfl _ _ rfl rfl _ w8 HR8.out ?_
     refine zk hK 25 8388607 2 (HSA.out) fun hHeld=>?_
     clear hK K
     try simp only [zz]
     refine tn 23 25 16777215 1 ?_
     simp only [zz]
     refine zr 24 fun K hK=>?_
     go_simp
     refine zk hK 25 33554431 0 (HSB.out) fun hHeld=>?_
     clear hK K
     try simp only [zz]
     refine zn ?_ _
     (try go_wp2)
     go_meet
     exact rfl
    refine AllReadyH.cons rfl (fun K hK=>?_) AllReadyH.nil
    go_simp
    refine zk hK 25 4194301 4 (HS5.out _ HbL.out) fun hHeld=>?_
    clear hK K
    try simp only [zz]
    refine zr 1 fun K hK=>?_
    go_simp
    refine zk hK 25 4194303 3 (HS5.out _ HbL.out) fun hHeld=>?_
    clear hK K
    try simp only [zz]
    refine zr 22 fun K hK=>?_
    refine wp_app (.tmp 30) (.tmp 50) 49 rfl _ _ rfl rfl _ w8 HR8.out ?_
    refine zk hK 25 8388607 2 (HSA.out) fun hHeld=>?_
    clear hK K
    try simp only [zz]
    refine tn 23 25 16777215 1 ?_
    simp only [zz]
    refine zr 24 fun K hK=>?_
    go_simp
    refine zk hK 25 33554431 0 (HSB.out) fun hHeld=>?_
    clear hK K
    try simp only [zz]
    refine zn ?_ _
    (try go_wp2)
    go_meet
    exact rfl
   case rest =>
   rename World=>U6
   have hU6:=hcut
   have HK6:=HK8
   rw [←hU6] at HK6
   clear hcut hU6 HSA HSB HK8 xA0 xA1 xB xC x8 f8 HR5 HR8 m12 hd Hb0 Hb1 Hb5 HbL
   obtain⟨R6,hR6⟩:∃R6,R6=R1++[⟨v.1,S.u8s v.2,v.2.length,ab,cb⟩]:=⟨_,rfl⟩
   obtain⟨p6,hp6⟩:∃p6:Ps,p6={ p with O:=p.O++[v] }:=⟨_,rfl⟩
   have HP6:=hid hp6
   have HK6:Hid (Sg V U6 b { p6 with T:=p.T } a8 c8 R6 x2 d2 none 0 []):=by rw [hR6,hp6];exact HK6.out
   have HLb:Hid ((r.T.foldl (rtO r.T v.1) p.T).length≤1048576):=by
    have h1:=foldV_le (rtV r.T) (rtV_len r.T) r.V [] (i+1)
    rw [take_snoc HV.out,List.foldl_append,List.foldl_cons,List.foldl_nil] at h1
    rw [←rTk_eq] at h1
    have h2:=HL0.out
    have e:p.T=(r.V.take i).foldl (rtV r.T) []:=by rw [HP.out]
    show (r.T.foldl (rtO r.T v.1) p.T).length≤1048576
    rw [e]
    exact Nat.le_trans h1 h2
   have HBf:=HSg
   clear hR6 hp6 HSg
   obtain⟨s6,hs6⟩:∃s6,s6=p.T:=⟨_,rfl⟩
   have Hs6:=hid hs6
   rw [←hs6] at HK6 HLb
   clear hs6
   go_upto_region 7 with fail
   go_loopw [5] (StI V b r v.1 nT a8 c8 R6 s6 p6) (fun v _=>nT - S.ivN v)
   case atStart=>exact⟨0,s6,x2,d2,rfl,Nat.zero_le _,hid (by simp),HK6⟩
   case round =>
    clear HK6 HBf
    obtain⟨j,sl,x2,d2,rfl,hj,HSl,HSg⟩:=hrel
    obtain⟨m12,n0,-⟩:=HS5.out wr HSg.out.bel
    have kM:=HMx.out wr HSg.out.bel
    have m13:=kM.box.cell 13 rfl
    rw [←HnnT.out] at m13
    by_cases hjl:j<nT
    ·have hd:decide ((j:Int)<(nT:Int))=true:=decide_eq_true (by omega)
     have hlt2:(j:Int)<(nT:Int):=by omega
     have h0j:(0:Int)≤(j:Int):=by omega
     have Hwj:Hid (wrap64 ((j:Int)+1)=(j:Int)+1):=by unfold Hid wrap64;omega
     obtain⟨q,hq⟩:∃q,r.T[j]?=some q:=⟨_,List.getElem?_eq_getElem (by omega)⟩
     obtain⟨g2,hg2,hqc⟩:=hl_cells kM.mr.t hq
     rw [hg2] at m13
     have q1:=hqc 1 _ rfl
     have q2:=hqc 2 _ rfl
     have HQ:=hid hq
     have HS10:Hid (∀U:World,But (·=b) V U→U.cell? ⟨M.b,13,none⟩=some (.slice (some ⟨g2,0,none⟩) nT c2)∧U.cell? ⟨g2,j*6,none⟩=some (.int .i64 q.no)∧U.cell? ⟨g2,j*6+1,none⟩=some (.int .i64 q.up)∧U.cell? ⟨g2,j*6+2,none⟩=some (.int .i64 q.c.1)∧U.cell? ⟨g2,j*6+3,none⟩=some (.int .u64 (q.c.2.1:Int))∧U.cell? ⟨g2,j*6+4,none⟩=some (.int .u64 (q.c.2.2:Int))∧U.cell? ⟨g2,j*6+5,none⟩=some (.int .i64 q.r)):=fun U hU=>by
      have kU:=HMx.out U hU
      obtain⟨g,hg,hqc⟩:=hl_cells kU.mr.t HQ.out
      obtain rfl:g2=g:=by rw [hg2] at hg;simpa using hg
      have m:=kU.box.cell 13 rfl
      exact⟨by rw [HnnT.out,←hg2];exact m,hqc 0 _ rfl,hqc 1 _ rfl,hqc 2 _ rfl,hqc 3 _ rfl,hqc 4 _ rfl,hqc 5 _ rfl⟩
     have HSt:Hid ((r.T.take (j+1)).foldl (rtO r.T v.1) s6=rtO r.T v.1 sl q):=by unfold Hid;rw [foldH_take _ _ hq,HSl.out]
     have HG2:=hid hg2
     clear kM hqc hq hg2
     go_upto_region 9 with fail
     by_cases he:q.c.1=v.1
     ·have heq:(q.c.1==v.1)=true:=by simp [he]
      by_cases hu:q.up=0
      ·have huq:(q.up==0)=true:=by simp [hu]
       go_quiet (fail)
       obtain⟨v3,hv3⟩:∃v3,v3=wr.drewN nq:=⟨_,rfl⟩
       have HB3:Hid (Below wr.heap.size wr v3):=by unfold Hid;rw [hv3];exact below_drewN (Below.refl _ _) _
       rw [←hv3]
       clear hv3 m12 m13 n0 q1 q2 hd
       have hts:rtO r.T v.1 sl q=und r.T r.T.length sl q (-1):=by unfold rtO;rw [if_pos ⟨he,hu⟩]
       have hlen:(und r.T r.T.length sl q (-1)).length≤1048576:=by
        have h5:=foldH_le (rtO r.T v.1) (rtO_len r.T v.1) r.T s6 (j+1)
        rw [HSt.out,hts] at h5
        exact Nat.le_trans h5 HLb.out
       have HKd:Hid (Sg V v3.drew b { p6 with T:=sl } a8 c8 R6 x2 d2 none 0 []):=HSg.out.later (below_call HB3.out (Below.refl _ _).drew)
       have kM:=HMx.out _ HKd.out.bel
       have HTell:=hid (under_any HBh.out (by omega) M.b c2 a2 r.T.length j q sl (-1) v3.drew V.heap.size x2 d2 HQ.out (by omega) hlen (kM.box.cell 13 rfl) kM.lt (fun e=>by
        have h1:=(HKd.out.tl.ts.blk _ e).1
        have h2:=HX.out.lt
        have:=HBn.out;have:=HBl.out
        omega) (kM.ts.mono (Nat.zero_le _)) HKd.out.tl.ts HKd.out.bel.size (fun l h3 h4=>by
        have h1:=(HKd.out.tl.ts.blk _ h3).1
        have h2:=(HX.out.ts.blk l h4).2
        have:=HBn.out;have:=HBl.out
        omega))
       have Hd3:Hid (But (·=b) V v3.drew):=HKd.out.bel
       have HCo:Hid (∀U:World,But (Blk x2) v3.drew U→But (·=b) V U):=fun U hU=>Hd3.out.comp hU (fun l hl=>.inr (HKd.out.tl.ts.blk l hl).1)
       obtain⟨L,hL⟩:∃L,L=und r.T r.T.length sl q (-1):=⟨_,rfl⟩
       have HLe:Hid (L=rtO r.T v.1 sl q):=hL.trans hts.symm
       rw [←hL] at HTell
       have xT:=HKd.out.c1_
       clear he heq hu huq hts hlen kM hL HB3
       go_upto_region 10 with fail
       refine wp_region_held_drew (S:=(fun U:World=>U.cell? ⟨M.b,13,none⟩=some (.slice (some ⟨g2,0,none⟩) nT c2)∧U.cell? ⟨g2,j*6,none⟩=some (.int .i64 q.no)∧U.cell? ⟨g2,j*6+1,none⟩=some (.int .i64 q.up)∧U.cell? ⟨g2,j*6+2,none⟩=some (.int .i64 q.c.1)∧U.cell? ⟨g2,j*6+3,none⟩=some (.int .u64 (q.c.2.1:Int))∧U.cell? ⟨g2,j*6+4,none⟩=some (.int .u64 (q.c.2.2:Int))∧U.cell? ⟨g2,j*6+5,none⟩=some (.int .i64 q.r))) (by kernel_rfl) (HS10.out _ Hd3.out) (fun hHeld=>?_)
       refine nm 13 0 13 ?_
       refine tn 0 13 1 12 ?_
       simp only [zz]
       refine tn 1 13 3 11 ?_
       simp only [zz]
       refine tn 2 13 7 10 ?_
       simp only [zz]
       refine tn 3 13 15 9 ?_
       simp only [zz]
       refine tn 4 13 31 8 ?_
       simp only [zz]
       refine tn 5 13 63 7 ?_
       simp only [zz]
       refine tn 6 13 127 6 ?_
       simp only [zz]
       refine tn 7 13 255 5 ?_
       simp only [zz]
       refine tn 8 13 511 4 ?_
       simp only [zz]
       refine zr 9 fun K hK=>?_
       go_simp
       refine zk hK 13 1023 3 (HS10.out _ Hd3.out) fun hHeld=>?_
       clear hK K
       try simp only [zz]
       refine zr 10 fun K hK=>?_
       go_simp
       go_wp2_with (first|(go_at_call 35;refine HTell.out.mono ?_;rintro e u7 ⟨a9,c9,rfl,hO9,hG9⟩;obtain⟨f9,x9,k9⟩:=HKd.out.addT hO9 hG9;have HG9:=hid hG9;have HK9:=hid k9;clear hO9 hG9 k9))
       refine zk hK 13 2047 2 (HS10.out _ (HCo.out _ HG9.out.but)) fun hHeld=>?_
       clear hK K
       try simp only [zz]
       refine tn 11 13 4095 1 ?_
       simp only [zz]
       refine zr 12 fun K hK=>?_
       go_simp
       refine zk hK 13 8191 0 (HS10.out _ HK9.out.bel) fun hHeld=>?_
       clear hK K
       try simp only [zz]
       refine zn ?_ _
       have hfin:StI V b r v.1 nT a8 c8 R6 s6 p6 (.int .i64 ((j+1:Nat):Int)) (u7.setCell ⟨b,1,none⟩ (.slice a9 L.length c9)):=⟨j+1,L,a9,c9,rfl,hjl,hid (HSt.out.trans HLe.out.symm).symm,HK9⟩
       have HF9:=hid hfin
       clear hfin
       go_wp2
       exact⟨HF9.out,by simp [S.ivN];omega⟩
      ·have huq:(q.up==0)=false:=by simp [hu]
       go_quiet (fail)
       obtain⟨v3,hv3⟩:∃v3,v3=wr.drewN nq:=⟨_,rfl⟩
       have HB3:Hid (Below wr.heap.size wr v3):=by unfold Hid;rw [hv3];exact below_drewN (Below.refl _ _) _
       rw [←hv3]
       clear hv3 m12 m13 n0 q1 q2 hd
       have hts:rtO r.T v.1 sl q=sl:=by unfold rtO;rw [if_neg (fun e=>hu e.2)]
       have HF9:Hid (StI V b r v.1 nT a8 c8 R6 s6 p6 (.int .i64 ((j+1:Nat):Int)) v3):=⟨j+1,sl,x2,d2,rfl,hjl,hid (HSt.out.trans hts).symm,hid (HSg.out.later HB3.out)⟩
       clear he heq hu huq hts
       go_wp2
       exact⟨HF9.out,by simp [S.ivN];omega⟩
     ·have heq:(q.c.1==v.1)=false:=by simp [he]
      go_quiet (fail)
      obtain⟨v3,hv3⟩:∃v3,v3=wr.drewN nq:=⟨_,rfl⟩
      have HB3:Hid (Below wr.heap.size wr v3):=by unfold Hid;rw [hv3];exact below_drewN (Below.refl _ _) _
      rw [←hv3]
      clear hv3 m12 m13 n0 q1 q2 hd
      have hts:rtO r.T v.1 sl q=sl:=by unfold rtO;rw [if_neg (fun e=>he e.1)]
      have HF9:Hid (StI V b r v.1 nT a8 c8 R6 s6 p6 (.int .i64 ((j+1:Nat):Int)) v3):=⟨j+1,sl,x2,d2,rfl,hjl,hid (HSt.out.trans hts).symm,hid (HSg.out.later HB3.out)⟩
      clear he heq hts
      go_wp2
      exact⟨HF9.out,by simp [S.ivN];omega⟩
    ·obtain rfl:j=nT:=by omega
     have hd:decide ((j:Int)<(j:Int))=false:=by simp
     have hsl:=HSl.out
     rw [List.take_of_length_le (by omega)] at hsl
     have hpe:({ p6 with T:=sl }:Ps)=⟨r.V.take (i+1),(r.V.take (i+1)).foldl (rtV r.T) [],[],r.nx,r.px,(r.t:Int)⟩:=by
      rw [take_snoc HV.out,List.foldl_append,List.foldl_cons,List.foldl_nil]
      have e1:rtV r.T ((r.V.take i).foldl (rtV r.T) []) v=sl:=by rw [hsl,Hs6.out,HP.out];rfl
      rw [e1,HP6.out,HP.out]
     have HF9:Hid (StO V b r nV (.int .i64 ((i+1:Nat):Int)) wr):=⟨i+1,_,_,_,_,_,_,rfl,hlt,hid hpe,HSg⟩
     clear hpe hsl kM m12 n0
     go_wp2
     exact⟨HF9.out,by simp [S.ivN];omega⟩
  ·obtain rfl:i=nV:=by omega
   have hd:decide ((i:Int)<(i:Int))=false:=by simp
   have HP:Hid (p=⟨r.V,rTk r,[],r.nx,r.px,(r.t:Int)⟩):=by
    unfold Hid
    rw [HP.out,List.take_of_length_le (by omega),rTk_eq]
   have m12:=(HMx.out wr HSg.out.bel).box.cell 12 rfl
   rw [←HnnV.out] at m12
   go_upto_region 12 with fail
   clear m12 hd
   go_loopw [6] (StP V b r nP) (fun v _=>nP - S.ivN v)
   case atStart=>exact⟨0,p,x1,d1,R1,x2,d2,none,0,[],rfl,Nat.zero_le _,hid (by rw [HP.out];simp),HSg⟩
   case round =>
   clear HSg HP hlt hi hnV HnnV
   obtain⟨i,p,x1,d1,R1,x2,d2,x3,d3,R3,rfl,hi,HP,HSg⟩:=hrel
   by_cases hlt:i<nP
   ·have hd:decide ((i:Int)<(nP:Int))=true:=decide_eq_true (by omega)
    obtain⟨v,hv⟩:∃v,r.P[i]?=some v:=⟨_,List.getElem?_eq_getElem (by omega)⟩
    have HV:=hid hv
    have kM:=HMx.out wr HSg.out.bel
    obtain⟨o,ho,hom,hoi,hov,hol⟩:=key_at kM.pk hv
    obtain⟨g1,hg1,hgc⟩:=Ow.at_ kM.ps.row (by omega)
    obtain⟨bl,hbl⟩:∃bl,bl=v.2.length:=⟨_,rfl⟩
    obtain⟨oa,hoa⟩:∃oa,oa=o.a:=⟨_,rfl⟩
    obtain⟨oc,hoc⟩:∃oc,oc=o.cap:=⟨_,rfl⟩
    have hol2:o.len=bl:=by rw [hol,hbl];rfl
    have hoi2:o.id=v.1:=hoi
    have hbl2:bl≤4096:=by rw [hbl];exact Nat.le_trans (HPl.out v (List.mem_of_getElem? hv)) (by decide)
    have HS5:Hid (∀U:World,But (·=b) V U→U.cell? ⟨M.b,14,none⟩=some (.slice (some ⟨g1,0,none⟩) nP c3)∧U.cell? ⟨g1,i*2,none⟩=some (.int .i64 v.1)∧U.cell? ⟨g1,i*2+1,none⟩=some (.slice oa bl oc)):=fun U hU=>by
     have kU:=HMx.out U hU
     obtain⟨g,hg,hgc⟩:=Ow.at_ kU.ps.row (by omega)
     obtain rfl:g1=g:=by rw [hg1] at hg;simpa using hg
     have e0:U.cell? ⟨g1,i*2,none⟩=some (.int .i64 o.id):=hgc _ _ (evs_at Q3 i o ho 0 (by omega))
     have e1:U.cell? ⟨g1,i*2+1,none⟩=some (.slice o.a o.len o.cap):=hgc _ _ (evs_at Q3 i o ho 1 (by omega))
     have e2:=kU.box.cell 14 rfl
     rw [hoi2] at e0
     rw [←hoa,←hoc,hol2] at e1
     exact⟨by rw [HnnP.out,←hg1];exact e2,e0,e1⟩
    have hxb:=HSg.out.blt
    have Hb0:Hid (But (·=b) V wr.drew):=HSg.out.bel.call (Below.refl _ _).drew
    have Hb1:Hid (But (·=b) V (wr.alloc (Obj.cells #[] 38)).drew):=HSg.out.bel.call (below1 _ _).drew
    have her:=(HMx.out _ Hb1.out).ps.each o hom
    rw [←hoa,←hoc,hol2,hov] at her
    obtain⟨ab,cb,U5,hr5,hO5,hG5⟩:=append_k 63 38 _ 3 24 Tryz.underlying63 infoCp rfl (by omega) (by omega) (Ow.later (w':=(wr.alloc (Obj.cells #[] 38)).drew) (ow_emp wr 38 3) (Below.refl _ _).drew) (ow_cr her (caps_ones _)) (below1 wr (Obj.cells #[] 38)).drew.size (by omega)
    rw [Nat.zero_add] at hr5 hO5
    rw [List.nil_append] at hO5
    have hb5:Below wr.heap.size wr U5:=But.below (below1 wr (Obj.cells #[] 38)).drew hG5.but (fun j hj=>by obtain⟨x,hx,rfl⟩:=hj;cases hx;exact Nat.le_refl _)
    have hO5:Ow U5 wr.heap.size 38 3 ab v.2.length cb (caps v.2):=by rw [←hbl];exact hO5
    have hpO:p.P.length≤1024:=by rw [HP.out];simp only [List.length_take];omega
    obtain⟨a8,c8,w8,hr8,f8,x8,hB8,k8,-⟩:=Sg.addP HSg.out hb5 (id:=v.1) hO5 (by omega)
    rw [←hbl] at hr8
    have xA0:=(HSg.out.later (Below.refl _ _).drew).c2_
    have xA1:=(HSg.out.later (below1 wr (Obj.cells #[] 38)).drew).c2_
    have xB:=(HSg.out.later hb5).c2_
    have xC:=(HSg.out.later (below_call hb5 (below1 U5 (Obj.cells #[.int .i64 v.1,.slice ab bl cb] 65)))).c2_
    have Hb5:Hid (But (·=b) V U5):=HSg.out.bel.call hb5
    have HbL:Hid (But (·=b) V (U5.alloc (Obj.cells #[.int .i64 v.1,.slice ab bl cb] 65))):=Hb5.out.call (below1 _ _)
    have hb8:But (·=b) V w8:=Hb5.out.comp hB8 (fun j hj=>.inr (HSg.out.tl.ps.blk j (.inl hj)).1)
    have HSA:=hid (HS5.out _ hb8)
    have HSB:=hid (HS5.out _ k8.bel)
    have HR5:=hid hr5
    have HR8:=hid hr8
    have HK8:=hid k8
    have hii:(i:Int)<(nP:Int):=by omega
    have h0i:(0:Int)≤(i:Int):=by omega
    have Hwi:Hid (wrap64 ((i:Int)+1)=(i:Int)+1):=by unfold Hid wrap64;omega
    obtain⟨m12,-,-⟩:=HS5.out wr HSg.out.bel
    have HG1:=hid hg1
    obtain⟨U8,hU8⟩:∃U8,U8=w8.setCell ⟨b,2,none⟩ (.slice a8 (p.P.length+1) c8):=⟨_,rfl⟩
    have HU8:=hid hU8
    have HF9:Hid (StP V b r nP (.int .i64 ((i+1:Nat):Int)) U8):=by
     refine⟨i+1,_,_,_,_,_,_,_,_,_,rfl,hlt,?_,hid (by rw [hU8];exact HK8.out)⟩
     unfold Hid
     rw [take_snoc HV.out,HP.out]
    clear hv kM ho hom hoi hov hol hgc hbl hoa hoc hol2 hoi2 her hr5 hO5 hG5 hb5 hr8 k8 hB8 hb8 hpO hg1 hU8
    go_upto_region 14 with fail
    refine wp_region_held_drew (S:=(fun U:World=>U.cell? ⟨M.b,14,none⟩=some (.slice (some ⟨g1,0,none⟩) nP c3)∧U.cell? ⟨g1,i*2,none⟩=some (.int .i64 v.1)∧U.cell? ⟨g1,i*2+1,none⟩=some (.slice oa bl oc))) (by kernel_rfl) (HS5.out _ Hb0.out) (fun hHeld=>?_)
    refine nm 25 0 25 ?_
    refine tn 0 25 1 24 ?_
    simp only [zz]
    refine tn 2 25 5 23 ?_
    simp only [zz]
    refine tn 3 25 13 22 ?_
    simp only [zz]
    refine tn 4 25 29 21 ?_
    simp only [zz]
    refine tn 5 25 61 20 ?_
    simp only [zz]
    refine tn 6 25 125 19 ?_
    simp only [zz]
    refine tn 7 25 253 18 ?_
    simp only [zz]
    refine tn 8 25 509 17 ?_
    simp only [zz]
    refine tn 9 25 1021 16 ?_
    simp only [zz]
    refine tn 11 25 3069 15 ?_
    simp only [zz]
    refine tn 12 25 7165 14 ?_
    simp only [zz]
    refine tn 13 25 15357 13 ?_
    simp only [zz]
    refine tn 14 25 31741 12 ?_
    simp only [zz]
    refine tn 15 25 64509 11 ?_
    simp only [zz]
    refine tn 16 25 130045 10 ?_
    simp only [zz]
    refine tn 17 25 261117 9 ?_
    simp only [zz]
    refine tn 18 25 523261 8 ?_
    simp only [zz]
    refine wpAnyH_ready (rs:=[1,10]) (by kernel_rfl) (by simp) ?_
    refine AllReadyH.cons rfl (fun K hK=>?_) ?_
    ·go_simp
     refine zk hK 25 523263 7 (HS5.out _ Hb0.out) fun hHeld=>?_
     clear hK K
     try simp only [zz]
     refine zr 10 fun K hK=>?_
     go_simp
     refine zk hK 25 524287 6 (HS5.out _ Hb1.out) fun hHeld=>?_
     clear hK K
     try simp only [zz]
     refine zr 19 fun K hK=>?_
     refine wp_app (.tmp 122) (.tmp 130) 63 rfl _ _ rfl rfl _ U5 HR5.out ?_
     refine zk hK 25 1048575 5 (HS5.out _ Hb5.out) fun hHeld=>?_
     clear hK K
     try simp only [zz]
     refine tn 20 25 2097151 4 ?_
     simp only [zz]
     refine zr 21 fun K hK=>?_
     go_simp
     refine zk hK 25 4194303 3 (HS5.out _ HbL.out) fun hHeld=>?_
     clear hK K
     try simp only [zz]
     refine zr 22 fun K hK=>?_
     refine wp_app (.tmp 113) (.tmp 133) 51 rfl _ _ rfl rfl _ w8 HR8.out ?_
     refine zk hK 25 8388607 2 (HSA.out) fun hHeld=>?_
     clear hK K
     try simp only [zz]
     refine tn 23 25 16777215 1 ?_
     simp only [zz]
     refine zr 24 fun K hK=>?_
     go_simp
     refine zk hK 25 33554431 0 (HSB.out) fun hHeld=>?_
     clear hK K
     try simp only [zz]
     refine zn ?_ _
     rw [←HU8.out]
     clear xA0 xA1 xB xC x8 f8
     go_wp2
     exact⟨HF9.out,by simp [S.ivN];omega⟩
    refine AllReadyH.cons rfl (fun K hK=>?_) AllReadyH.nil
    go_simp
    refine zk hK 25 524285 7 (HS5.out _ Hb1.out) fun hHeld=>?_
    clear hK K
    try simp only [zz]
    refine wpAnyH_ready (rs:=[1,19]) (by kernel_rfl) (by simp) ?_
    refine AllReadyH.cons rfl (fun K hK=>?_) ?_
    ·go_simp
     refine zk hK 25 524287 6 (HS5.out _ Hb1.out) fun hHeld=>?_
     clear hK K
     try simp only [zz]
     refine zr 19 fun K hK=>?_
     refine wp_app (.tmp 122) (.tmp 130) 63 rfl _ _ rfl rfl _ U5 HR5.out ?_
     refine zk hK 25 1048575 5 (HS5.out _ Hb5.out) fun hHeld=>?_
     clear hK K
     try simp only [zz]
     refine tn 20 25 2097151 4 ?_
     simp only [zz]
     refine zr 21 fun K hK=>?_
     go_simp
     refine zk hK 25 4194303 3 (HS5.out _ HbL.out) fun hHeld=>?_
     clear hK K
     try simp only [zz]
     refine zr 22 fun K hK=>?_
     refine wp_app (.tmp 113) (.tmp 133) 51 rfl _ _ rfl rfl _ w8 HR8.out ?_
     refine zk hK 25 8388607 2 (HSA.out) fun hHeld=>?_
     clear hK K
     try simp only [zz]
     refine tn 23 25 16777215 1 ?_
     simp only [zz]
     refine zr 24 fun K hK=>?_
     go_simp
     refine zk hK 25 33554431 0 (HSB.out) fun hHeld=>?_
     clear hK K
     try simp only [zz]
     refine zn ?_ _
     rw [←HU8.out]
     clear xA0 xA1 xB xC x8 f8
     go_wp2
     exact⟨HF9.out,by simp [S.ivN];omega⟩
    refine AllReadyH.cons rfl (fun K hK=>?_) AllReadyH.nil
    refine wp_app (.tmp 122) (.tmp 130) 63 rfl _ _ rfl rfl _ U5 HR5.out ?_
    refine zk hK 25 1048573 6 (HS5.out _ Hb5.out) fun hHeld=>?_
    clear hK K
    try simp only [zz]
    refine tn 20 25 2097149 5 ?_
    simp only [zz]
    refine wpAnyH_ready (rs:=[1,21]) (by kernel_rfl) (by simp) ?_
    refine AllReadyH.cons rfl (fun K hK=>?_) ?_
    ·go_simp
     refine zk hK 25 2097151 4 (HS5.out _ Hb5.out) fun hHeld=>?_
     clear hK K
     try simp only [zz]
     refine zr 21 fun K hK=>?_
     go_simp
     refine zk hK 25 4194303 3 (HS5.out _ HbL.out) fun hHeld=>?_
     clear hK K
     try simp only [zz]
     refine zr 22 fun K hK=>?_
     refine wp_app (.tmp 113) (.tmp 133) 51 rfl _ _ rfl rfl _ w8 HR8.out ?_
     refine zk hK 25 8388607 2 (HSA.out) fun hHeld=>?_
     clear hK K
     try simp only [zz]
     refine tn 23 25 16777215 1 ?_
     simp only [zz]
     refine zr 24 fun K hK=>?_
     go_simp
     refine zk hK 25 33554431 0 (HSB.out) fun hHeld=>?_
     clear hK K
     try simp only [zz]
     refine zn ?_ _
     rw [←HU8.out]
     clear xA0 xA1 xB xC x8 f8
     go_wp2
     exact⟨HF9.out,by simp [S.ivN];omega⟩
    refine AllReadyH.cons rfl (fun K hK=>?_) AllReadyH.nil
    go_simp
    refine zk hK 25 4194301 4 (HS5.out _ HbL.out) fun hHeld=>?_
    clear hK K
    try simp only [zz]
    refine zr 1 fun K hK=>?_
    go_simp
    refine zk hK 25 4194303 3 (HS5.out _ HbL.out) fun hHeld=>?_
    clear hK K
    try simp only [zz]
    refine zr 22 fun K hK=>?_
    refine wp_app (.tmp 113) (.tmp 133) 51 rfl _ _ rfl rfl _ w8 HR8.out ?_
    refine zk hK 25 8388607 2 (HSA.out) fun hHeld=>?_
    clear hK K
    try simp only [zz]
    refine tn 23 25 16777215 1 ?_
    simp only [zz]
    refine zr 24 fun K hK=>?_
    go_simp
    refine zk hK 25 33554431 0 (HSB.out) fun hHeld=>?_
    clear hK K
    try simp only [zz]
    refine zn ?_ _
    rw [←HU8.out]
    clear xA0 xA1 xB xC x8 f8
    go_wp2
    exact⟨HF9.out,by simp [S.ivN];omega⟩
   ·obtain rfl:i=nP:=by omega
    have hd:decide ((i:Int)<(i:Int))=false:=by simp
    have hp:p=psR r:=by
     rw [HP.out,List.take_of_length_le (by omega)]
     rfl
    have hk9:=HSg.out
    rw [hp] at hk9
    have hbn:=HBn.out
    have hbl:=HBl.out
    have m14:=(HMx.out wr hk9.bel).box.cell 14 rfl
    rw [←HnnP.out] at m14
    have hZ9:Zr wr w.heap.size:=(HZ.out.later HBV.out).but hk9.bel (by omega)
    have HLd9:=hid (ldSt hk9.bx)
    have HS9:=hid (hZ9.st53 x1 (psR r).O.length d1 x2 (psR r).T.length d2 x3 (psR r).P.length d3 (psR r).nx (psR r).px (psR r).t)
    have HL9:=hid (hZ9.lv53 x1 (psR r).O.length d1 x2 (psR r).T.length d2 x3 (psR r).P.length d3 (psR r).nx (psR r).px (psR r).t)
    have hbe:But (·=w.heap.size) wr (wr.setCells w.heap.size 0 (stM x1 (psR r).O.length d1 x2 (psR r).T.length d2 x3 (psR r).P.length d3 (psR r).nx (psR r).px (psR r).t)):=R.setCells_but (S:=(·=w.heap.size)) rfl _ 0 (But.refl _ _)
    have hfin:StRets w (psR r) (.returned (stV x1 (psR r).O.length d1 x2 (psR r).T.length d2 x3 (psR r).P.length d3 (psR r).nx (psR r).px (psR r).t)) (wr.setCells w.heap.size 0 (stM x1 (psR r).O.length d1 x2 (psR r).T.length d2 x3 (psR r).P.length d3 (psR r).nx (psR r).px (psR r).t)) :=
     ⟨x1,d1,R1,x2,d2,x3,d3,R3,rfl,(hk9.tl.but hbe (fun j h1 h2 e=>by omega)).mono (by omega),But.below (But.below (below_call HB.out HBV.out) hk9.bel (fun j e=>by omega)) hbe (fun j e=>by omega)⟩
    have HF9:=hid hfin
    clear hfin hbe hZ9 hk9 hp hbn hbl
    go_wp2_with (first|((with_reducible refine R.ld_arm HLd9.out ?_ ?_);(· rfl))|((with_reducible refine st_arm HS9.out ?_ ?_ ?_);(· rfl);(· rfl)))
    exact bodyPost_ret (v:=stV x1 (psR r).O.length d1 x2 (psR r).T.length d2 x3 (psR r).P.length d3 (psR r).nx (psR r).px (psR r).t) (by simp [results,Tryz.results14,asAddr,Act.put,HL9.out]) rfl HF9.out
end
end Go.Proofs.YtffmodpgddecnaaGreat.V.E
