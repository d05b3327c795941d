import Derived.Test.YtffmodpgddecnaaGreatZ24
set_option linter.unusedVariables false
set_option linter.unusedSimpArgs false
namespace Go.Proofs.YtffmodpgddecnaaGreat.V.E
open Go.RowKit Go.Maps
open Go.Proofs.YtffmodpgddecnaaGreat.H (B64 Cp)
theorem wp_sto {P:Program}{w:World}{o:Oper}{a:Act}{K:Act→World→Prop}{Q:Exit→Act→World→Prop}(ty:TypeId)(x y:Operand)(ho:o.op=.store ty x y)(vx vy:Value)(hx:a.eval x=vx)(hy:a.eval y=vy)(w':World)
  (hr:(Instr.storeAt ty vx vy).run P w=.ok () w') (h:K (a.put o.dst undef) w'):o.wp P a w K Q:=by
 unfold Oper.wp execOp
 simp only [ho,hx,hy,hr,Sem.run_bind,Sem.run_pure,Result.andThen_ok]
 exact h
section
variable {w w' U:World}{h:Hm}{q:Pl}{N:Nat→Prop}{Es:List En}{Ls:List Ln}
theorem caps_ones (K:List Cp):∀u∈caps K,u.oneCell'=true:=by
 intro u hu
 unfold caps at hu
 obtain⟨c,_,hc⟩:=List.mem_flatMap.1 hu
 simp only [encC,List.mem_cons,List.not_mem_nil,or_false] at hc
 rcases hc with rfl|rfl|rfl<;>rfl
theorem find_mem {α:Type}(key:α→Int):∀{L:List α},L.Pairwise (fun a b=>key a<key b)→∀x∈L,L.find? (fun e=>decide (key e=key x))=some x
 | [],_,x,hx=>by cases hx
 | y::r,hp,x,hx=>by
  rw [List.find?_cons]
  rcases List.mem_cons.1 hx with rfl|hx
  ·simp
  ·have:=(List.pairwise_cons.1 hp).1 x hx
   rw [decide_eq_false (by omega)]
   exact find_mem key (List.pairwise_cons.1 hp).2 x hx
theorem Md.enM (k:Md w h q N Es Ls){p:Pm}(hf:Fit p q){x:En}(hx:x∈Es):enA Es x.id=x:=by
 have hr:=(k.rise hf).1
 unfold Ris at hr
 rw [List.pairwise_map] at hr
 unfold enA
 rw [find_mem En.id hr x hx]
 rfl
theorem Md.lnM (k:Md w h q N Es Ls){p:Pm}(hf:Fit p q){x:Ln}(hx:x∈Ls):lnA Ls x.id=x:=by
 have hr:=(k.rise hf).2
 unfold Ris at hr
 rw [List.pairwise_map] at hr
 unfold lnA
 rw [find_mem Ln.id hr x hx]
 rfl
theorem lv_take (O:List (Int×Ob))(i:Nat):lvN (O.take i)≤lvN O:=by
 conv=>rhs;rw [←List.take_append_drop i O]
 unfold lvN
 rw [List.map_append,List.sum_append]
 omega
theorem lv_mem {O:List (Int×Ob)}{e:Int×Ob}(h:e∈O):e.2.T.length≤lvN O:=by
 obtain⟨a,b,rfl⟩:=List.append_of_mem h
 unfold lvN
 rw [List.map_append,List.sum_append,List.map_cons,List.sum_cons]
 omega
theorem Md.at_ (k:Md w h q N Es Ls){i:Nat}{x:En}(hx:Es[i]?=some x):q.O[i]?=some (x.id,⟨x.b,x.T⟩):=by
 rw [←k.oe,List.getElem?_map,hx]
 rfl
theorem Md.atX (k:Md w h q N Es Ls){i:Nat}{x:Ln}(hx:Ls[i]?=some x):q.X[i]?=some (x.id,x.K):=by
 rw [←k.le,List.getElem?_map,hx]
 rfl
theorem take_snoc {α:Type}{L:List α}{i:Nat}{x:α}(h:L[i]?=some x):L.take (i+1)=L.take i++[x]:=by rw [List.take_add_one,h];rfl
theorem infoCp:(Tryz.prog.info? 38).map (fun i=>(i.zero,i.size,i.bytes))=some (some (.agg #[.int .i64 0,.int .u64 0,.int .u64 0]),3,24):=by kernel_rfl
theorem tlO_hd {acc:List Tok}{e:Int×Ob}{r:Tn}(h:e.2.T.head?=some r):tlO acc e=tel e.2.T e.1 e.2.T.length acc r (-1):=by unfold tlO;rw [h]
def SoRel (w2:World)(b:Nat)(q:Pl)(n:Nat)(v:Value)(U:World):Prop :=
 ∃i p a1 c1 Q1 a2 c2,v=.int .i64 ((i:Nat):Int)∧i≤n∧p=(⟨vO (q.O.take i),(q.O.take i).foldl tlO [],[],q.nx,q.px,(q.t:Int)⟩:Ps)∧Sg w2 U b p a1 c1 Q1 a2 c2 none 0 []
def SpRel (w2 w5:World)(b:Nat)(q:Pl)(n:Nat)(v:Value)(U:World):Prop :=
 ∃i p a1 c1 Q1 a2 c2 a3 c3 Q3,v=.int .i64 ((i:Nat):Int)∧i≤n∧p=(⟨vO q.O,q.O.foldl tlO [],q.X.take i,q.nx,q.px,(q.t:Int)⟩:Ps)∧Sg w2 U b p a1 c1 Q1 a2 c2 a3 c3 Q3∧But (·=b) w5 U∧∀j,Two.B a3 Q3 j→w5.heap.size≤j
set_option maxRecDepth 100000 in
set_option maxHeartbeats 8000000 in
theorem state_any (k:Md w h q N Es Ls)(hf:Fit h.p q)(ht:TreA q):Calls Tryz.prog 13 #[.pointer (some ⟨h.g,0,none⟩)] w (StRets w (psP q)):=by
 obtain⟨W,hW⟩:∃W,W=w.alloc z53:=⟨_,rfl⟩
 have hB:Below w.heap.size w W:=by rw [hW];exact below1 _ _
 have hZ:Zr W w.heap.size:=by rw [hW];exact Zr.new53 w
 have hbw:w.heap.size<W.heap.size:=by rw [hW];simp
 have k1:=k.later hB
 have H1:Hid (∀U:World,Below W.heap.size W U→U.cell? ⟨h.g,14,none⟩=some (.int .i64 q.nx)∧U.cell? ⟨h.g,15,none⟩=some (.int .i64 q.px)∧U.cell? ⟨h.g,11,none⟩=some (.int .i64 (q.t:Int))):=fun U hU=>⟨(k1.later hU).cell 14 rfl,(k1.later hU).cell 15 rfl,(k1.later hU).cell 11 rfl⟩
 have hX0:=R.Bx.later (Below.refl _ (W.alloc z53)).drew (R.Bx.new W [.slice none 0 0,.slice none 0 0,.slice none 0 0,.int .i64 0,.int .i64 0,.int .i64 0] 53)
 have HS14:=hid (((Zr.new53 W).later (Below.refl _ _).drew).st53 none 0 0 none 0 0 none 0 0 q.nx q.px (q.t:Int))
 have HX14:Hid (R.Bx ((W.alloc z53).drew.setCells W.heap.size 0 (stM none 0 0 none 0 0 none 0 0 q.nx q.px (q.t:Int))) W.heap.size (stM none 0 0 none 0 0 none 0 0 q.nx q.px (q.t:Int))):=R.Bx.set hX0 rfl
 have HB14:Hid (Below W.heap.size W ((W.alloc z53).drew.setCells W.heap.size 0 (stM none 0 0 none 0 0 none 0 0 q.nx q.px (q.t:Int)))):=But.below (below1 _ _).drew (R.setCells_but (S:=(·=W.heap.size)) rfl _ 0 (But.refl _ _)) (fun j e=>by omega)
 have HK:=hid k1
 have HK0:=hid k
 have HW:=hid hW
 have HB:=hid hB
 have HZ:=hid hZ
 have HF:=hid hf
 have HTr:=hid ht
 have HBw:=hid hbw
 clear k k1 hW hB hZ hX0 hf ht hbw
 go_enter Tryz.func13,Tryz.ntmps13
 go_upto_region 1 with fail
 rw [←HW.out]
 go_cut [3] (fun v3 U=>v3=.pointer (some ⟨W.heap.size,0,none⟩)∧R.Bx U W.heap.size (stM none 0 0 none 0 0 none 0 0 q.nx q.px (q.t:Int))∧Below W.heap.size W U)
 case first =>
  refine wp_region_held_drew (S:=(fun U:World=>U.cell? ⟨h.g,14,none⟩=some (.int .i64 q.nx)∧U.cell? ⟨h.g,15,none⟩=some (.int .i64 q.px)∧U.cell? ⟨h.g,11,none⟩=some (.int .i64 (q.t:Int)))) (by kernel_rfl) (H1.out _ (Below.refl _ _).drew) (fun hHeld=>?_)
  refine nm 15 0 15 ?_
  refine tn 0 15 1 14 ?_
  simp only [zz]
  refine tn 1 15 3 13 ?_
  simp only [zz]
  refine tn 2 15 7 12 ?_
  simp only [zz]
  refine tn 3 15 15 11 ?_
  simp only [zz]
  refine tn 4 15 31 10 ?_
  simp only [zz]
  refine tn 5 15 63 9 ?_
  simp only [zz]
  refine tn 6 15 127 8 ?_
  simp only [zz]
  refine tn 7 15 255 7 ?_
  simp only [zz]
  refine tn 8 15 511 6 ?_
  simp only [zz]
  refine tn 9 15 1023 5 ?_
  simp only [zz]
  refine tn 10 15 2047 4 ?_
  simp only [zz]
  refine tn 11 15 4095 3 ?_
  simp only [zz]
  refine tn 12 15 8191 2 ?_
  simp only [zz]
  refine zr 13 fun K hK=>?_
  go_simp
  refine zk hK 15 16383 1 (H1.out _ ((below1 _ _).drew)) fun hHeld=>?_
  clear hK K
  try simp only [zz]
  refine zr 14 fun K hK=>?_
  refine wp_sto 53 (.tmp 3) (.tmp 22) rfl _ _ rfl rfl _ HS14.out ?_
  refine zk hK 15 32767 0 (H1.out _ HB14.out) fun hHeld=>?_
  clear hK K
  try simp only [zz]
  refine zn ?_ _
  (try go_wp2)
  go_meet
  exact⟨rfl,HX14.out,HB14.out⟩
 case rest =>
 rename World=>V
 obtain⟨rfl,hXV,hBV⟩:=hcut
 have HXV:=hid hXV
 have HBV:=hid hBV
 obtain⟨b,hb⟩:∃b,b=W.heap.size:=⟨_,rfl⟩
 rw [←hb] at HXV ⊢
 have HBe:=hid hb
 have hbV:b<V.heap.size:=by rw [hb];exact World.block_lt_of_cell? _ _ (hXV.cell 0 rfl)
 have HBl:=hid hbV
 have hbn:w.heap.size<b:=by rw [hb];exact HBw.out
 have HBn:=hid hbn
 clear hXV hBV H1 HS14 HX14 HB14 hb hbV hbn
 have kV:=HK.out.later HBV.out
 have HKV:=hid kV
 obtain⟨n,hn⟩:∃n,n=Es.length:=⟨_,rfl⟩
 have HN:=hid hn
 have hnO:n≤1024:=by rw [hn,HK0.out.lenO];have:=HF.out.rm;omega
 have HRi:=hid (riseO_any kV.mo (kV.rise HF.out).1 (by rw [List.length_map,←hn];exact hnO))
 rw [List.length_map,←hn] at HRi
 have x12:=kV.cell 12 rfl
 clear kV hn
 go_upto_region 3 with (first|(go_at_call 32;refine HRi.out.mono ?_;rintro e w2 ⟨ai,ci,rfl,hoi,hb2⟩;have HOi:=hid hoi;have HB2:=hid hb2;clear hoi hb2))
 clear x12
 have HMd:Hid (∀U:World,But (·=b) w2 U→Md U h q N Es Ls):=fun U hU=>by
  have g1:=HK0.out.glt
  have g2:=HK0.out.olt
  have g3:=HK0.out.llt
  have hbn:=HBn.out
  exact (HKV.out.later HB2.out).but hU (fun j hj e=>by have:=HK0.out.lt j hj;omega) (by omega) (by omega) (by omega)
 have HSt:Hid (Sg w2 w2 b (⟨[],[],[],q.nx,q.px,(q.t:Int)⟩:Ps) none 0 [] none 0 none 0 []):=by
  refine⟨R.Bx.later HB2.out HXV.out,⟨Two.nil _ _ _ _ _,rfl,Ow.nil _ _ _ _,Two.nil _ _ _ _ _,rfl,?_,?_,?_⟩,?_,But.refl _ _⟩
  ·rintro j (⟨_,h,_⟩|⟨_,h,_⟩)<;>cases h
  ·rintro j (⟨_,h,_⟩|⟨_,h,_⟩)<;>cases h
  ·rintro j ⟨_,h,_⟩;cases h
  ·rintro j ((⟨_,h,_⟩|⟨_,h,_⟩)|⟨_,h,_⟩|(⟨_,h,_⟩|⟨_,h,_⟩))<;>cases h
 clear HRi HXV
 go_loopw [29] (SoRel w2 b q n) (fun v _=>n - S.ivN v)
 case atStart=>exact⟨0,_,none,0,[],none,0,rfl,Nat.zero_le _,(by simp [vO]),HSt.out⟩
 case round =>
  clear HSt
  obtain⟨i,p,a1,c1,Q1,a2,c2,rfl,hi,hp,hsg⟩:=hrel
  have HSg:=hid hsg
  have HP:=hid hp
  have HIn:=hid hi
  clear hsg hp hi
  by_cases hlt:i<n
  ·have hd:decide ((i:Int)<(n:Int))=true:=decide_eq_true (by omega)
   obtain⟨x,hx⟩:∃x,Es[i]?=some x:=⟨_,List.getElem?_eq_getElem (by have:=HN.out;omega)⟩
   have hxm:=List.mem_of_getElem? hx
   have kU:=HMd.out wr HSg.out.bel
   have hat:=kU.at_ hx
   have hom:=List.mem_of_getElem? hat
   obtain⟨gi,rfl⟩:=HOi.out.form (by omega)
   have y:=(Own.but HSg.out.bel HOi.out (fun j hj e=>by have:=HOi.out.blk j hj;have:=HBl.out;omega)).read.cells _ rfl i (.int .i64 x.id) (by simp [ints,hx,En.v])
   rw [addr_add0] at y
   have hix:S.i64ok x.id:=by
    have h1:=HF.out.no _ hom
    have h2:=HF.out.nx
    unfold S.i64ok
    simp only at h1
    omega
   obtain⟨bl,hbl⟩:∃bl,bl=x.b.length:=⟨_,rfl⟩
   obtain⟨nt,hnt⟩:∃nt,nt=x.T.length:=⟨_,rfl⟩
   have hlk:(Instr.lookup 58 (.map (some h.bo)) (.int .i64 x.id) false).run Tryz.prog wr=.ok (.agg #[.slice x.ba bl x.bc,.slice x.ta nt x.tc]) wr:=by
    rw [kU.look hix,kU.enM HF.out hxm,hbl,hnt];rfl
   have HEr:=hid (kU.er x hxm)
   have HXm:=hid hxm
   have hob:=HF.out.ob _ hom
   have hnt2:0<nt:=by rw [hnt];exact List.length_pos_iff.2 hob.1
   have hnt3:nt≤256:=by rw [hnt];have h1:=lv_mem hom;have h2:=HF.out.mo;simp only at h1;omega
   have hbl2:bl≤4096:=by rw [hbl];exact hob.2.1
   have hpT:p.T.length≤256:=by
    rw [HP.out]
    have h1:=tlO_len (O:=q.O.take i) (fun e he=>HTr.out e (List.mem_of_mem_take he)) []
    have h2:=lv_take q.O i
    have h3:=HF.out.mo
    simp only [List.length_nil] at h1 ⊢
    omega
   have hpO:p.O.length≤1024:=by
    rw [HP.out]
    simp only [vO,List.length_map,List.length_take]
    omega
   have HAt:=hid hat
   have HTx:Hid (Tre x.T):=HTr.out _ hom
   have x12:=kU.cell 12 rfl
   obtain⟨r,hr⟩:∃r,x.T[0]?=some r:=⟨_,List.getElem?_eq_getElem (by omega)⟩
   have HRt:=hid hr
   have hgl:=kU.glt
   have HBl2:=hid hbl
   have HNt:=hid hnt
   have hwi:wrap64 ((i:Int)+1)=(i:Int)+1:=by unfold wrap64;omega
   clear hx hxm kU hat hom hix hob hr hbl hnt
   go_upto_region 5 with fail
   clear y
   obtain⟨U1,hU1⟩:∃U1,U1=wr.alloc (.cells #[.slice x.ba bl x.bc,.slice x.ta nt x.tc] 85):=⟨_,rfl⟩
   have hb1:Below wr.heap.size wr U1:=by rw [hU1];exact below1 _ _
   have p0:U1.cell? ⟨wr.heap.size,0,none⟩=some (.slice x.ba bl x.bc):=by rw [hU1];simp [go_sem]
   have p1:U1.cell? ⟨wr.heap.size,1,none⟩=some (.slice x.ta nt x.tc):=by rw [hU1];simp [go_sem]
   have HP01:=hid (And.intro p0 p1)
   have HU1:=hid hU1
   have HB1:=hid hb1
   clear hU1 hb1 p0 p1
   go_upto_region 6 with fail
   rw [←HU1.out]
   clear x12 hlk
   have hdr:Below U1.heap.size U1 U1.drew:=(Below.refl _ _).drew
   have kd:Sg w2 U1.drew b p a1 c1 Q1 a2 c2 none 0 []:=(HSg.out.later HB1.out).later hdr
   have her:=((HEr.out.b.later HB1.out).later hdr)
   rw [←HBl2.out] at her
   obtain⟨ab,cb,U5,hr5,hO5,hG5⟩:=append_k 39 5 _ 1 1 Tryz.underlying39 infoEB rfl (by omega) (by omega) (Ow.nil U1.drew U1.drew.heap.size 5 1) (ow_cr her (S.u8s_one _)) (Nat.le_refl _) (by omega)
   rw [Nat.zero_add] at hr5 hO5
   rw [List.nil_append] at hO5
   have hb5:Below U1.drew.heap.size U1.drew U5:=But.below (Below.refl _ _) hG5.but (fun j ⟨y,hy,_⟩=>by cases hy)
   have hO5:Ow U5 U1.drew.heap.size 5 1 ab x.b.length cb (S.u8s x.b):=by rw [←HBl2.out];exact hO5
   obtain⟨a8,c8,w8,hr8,f8,x8,hB8,k8⟩:=Sg.addO kd hb5 (id:=x.id) hO5 (by omega)
   rw [←HBl2.out] at hr8
   have xA:=kd.c0
   have xB:=(kd.later hb5).c0
   have xC:=cell_later (below1 U5 (Obj.cells #[.int .i64 x.id,.slice ab bl cb] 80)) xB
   have HR5:=hid hr5
   have HR8:=hid hr8
   have HK8:=hid k8
   have hpne:wr.heap.size≠b:=by have:=HSg.out.blt;omega
   have hlt0:wr.heap.size<U1.heap.size:=World.block_lt_of_cell? _ _ HP01.out.1
   have HS6:Hid (∀U:World,Below U1.heap.size U1 U→U.cell? ⟨wr.heap.size,0,none⟩=some (.slice x.ba bl x.bc)):=fun U hU=>cell_later hU HP01.out.1
   have h18:But (Blk a1) U1 w8:=(But.of (below_call hdr hb5)).trans hB8
   have hna1:¬Blk a1 wr.heap.size:=fun e=>by have:=(HSg.out.tl.os.blk _ (.inl e)).2;omega
   have h19:But (fun j=>j=b∨Blk a1 j) U1 (w8.setCell ⟨b,0,none⟩ (.slice a8 (p.O.length+1) c8)):=(h18.mono (fun j e=>.inr e)).trans ((But.refl _ w8).setCell (p:=⟨b,0,none⟩) (.inl rfl) _)
   have HSA:Hid (w8.cell? ⟨wr.heap.size,0,none⟩=some (.slice x.ba bl x.bc)):=cell_but h18 HP01.out.1 hna1
   have HSB:Hid ((w8.setCell ⟨b,0,none⟩ (.slice a8 (p.O.length+1) c8)).cell? ⟨wr.heap.size,0,none⟩=some (.slice x.ba bl x.bc)):=cell_but h19 HP01.out.1 (fun e=>e.elim hpne hna1)
   have HSB1:Hid ((w8.setCell ⟨b,0,none⟩ (.slice a8 (p.O.length+1) c8)).cell? ⟨wr.heap.size,1,none⟩=some (.slice x.ta nt x.tc)):=cell_but h19 HP01.out.2 (fun e=>e.elim hpne hna1)
   have HB5:=hid hb5
   clear hr5 hO5 hG5 hr8 k8 kd her hB8 h18 h19
   go_cut [] (fun U=>U=w8.setCell ⟨b,0,none⟩ (.slice a8 (p.O.length+1) c8))
   case first =>
    refine wp_region_held_drew (S:=(fun U:World=>U.cell? ⟨wr.heap.size,0,none⟩=some (.slice x.ba bl x.bc))) (by kernel_rfl) (HS6.out _ (Below.refl _ _).drew) (fun hHeld=>?_)
    refine nm 11 0 11 ?_
    refine tn 0 11 1 10 ?_
    simp only [zz]
    refine tn 2 11 5 9 ?_
    simp only [zz]
    refine tn 3 11 13 8 ?_
    simp only [zz]
    refine tn 4 11 29 7 ?_
    simp only [zz]
    refine wpAnyH_ready (rs:=[1,5]) (by kernel_rfl) (by simp) ?_
    refine AllReadyH.cons rfl (fun K hK=>?_) ?_
    ·go_simp
     refine zk hK 11 31 6 (HS6.out _ (Below.refl _ _).drew) fun hHeld=>?_
     clear hK K
     try simp only [zz]
     refine zr 5 fun K hK=>?_
     refine wp_app (.const (.slice none 0 0)) (.tmp 43) 39 rfl _ _ rfl rfl _ U5 HR5.out ?_
     refine zk hK 11 63 5 (HS6.out _ (below_call (Below.refl _ _).drew HB5.out)) fun hHeld=>?_
     clear hK K
     try simp only [zz]
     refine tn 6 11 127 4 ?_
     simp only [zz]
     refine zr 7 fun K hK=>?_
     go_simp
     refine zk hK 11 255 3 (HS6.out _ (below_call (below_call (Below.refl _ _).drew HB5.out) (below1 _ _))) fun hHeld=>?_
     clear hK K
     try simp only [zz]
     refine zr 8 fun K hK=>?_
     refine wp_app (.tmp 40) (.tmp 46) 49 rfl _ _ rfl rfl _ w8 HR8.out ?_
     refine zk hK 11 511 2 (HSA.out) fun hHeld=>?_
     clear hK K
     try simp only [zz]
     refine tn 9 11 1023 1 ?_
     simp only [zz]
     refine zr 10 fun K hK=>?_
     go_simp
     refine zk hK 11 2047 0 (HSB.out) fun hHeld=>?_
     clear hK K
     try simp only [zz]
     refine zn ?_ _
     (try go_wp2)
     go_meet
     exact rfl
    refine AllReadyH.cons rfl (fun K hK=>?_) AllReadyH.nil
    refine wp_app (.const (.slice none 0 0)) (.tmp 43) 39 rfl _ _ rfl rfl _ U5 HR5.out ?_
    refine zk hK 11 61 6 (HS6.out _ (below_call (Below.refl _ _).drew HB5.out)) fun hHeld=>?_
    clear hK K
    try simp only [zz]
    refine tn 6 11 125 5 ?_
    simp only [zz]
    refine wpAnyH_ready (rs:=[1,7]) (by kernel_rfl) (by simp) ?_
    refine AllReadyH.cons rfl (fun K hK=>?_) ?_
    ·go_simp
     refine zk hK 11 127 4 (HS6.out _ (below_call (Below.refl _ _).drew HB5.out)) fun hHeld=>?_
     clear hK K
     try simp only [zz]
     refine zr 7 fun K hK=>?_
     go_simp
     refine zk hK 11 255 3 (HS6.out _ (below_call (below_call (Below.refl _ _).drew HB5.out) (below1 _ _))) fun hHeld=>?_
     clear hK K
     try simp only [zz]
     refine zr 8 fun K hK=>?_
     refine wp_app (.tmp 40) (.tmp 46) 49 rfl _ _ rfl rfl _ w8 HR8.out ?_
     refine zk hK 11 511 2 (HSA.out) fun hHeld=>?_
     clear hK K
     try simp only [zz]
     refine tn 9 11 1023 1 ?_
     simp only [zz]
     refine zr 10 fun K hK=>?_
     go_simp
     refine zk hK 11 2047 0 (HSB.out) fun hHeld=>?_
     clear hK K
     try simp only [zz]
     refine zn ?_ _
     (try go_wp2)
     go_meet
     exact rfl
    refine AllReadyH.cons rfl (fun K hK=>?_) AllReadyH.nil
    go_simp
    refine zk hK 11 253 4 (HS6.out _ (below_call (below_call (Below.refl _ _).drew HB5.out) (below1 _ _))) fun hHeld=>?_
    clear hK K
    try simp only [zz]
    refine zr 1 fun K hK=>?_
    go_simp
    refine zk hK 11 255 3 (HS6.out _ (below_call (below_call (Below.refl _ _).drew HB5.out) (below1 _ _))) fun hHeld=>?_
    clear hK K
    try simp only [zz]
    refine zr 8 fun K hK=>?_
    refine wp_app (.tmp 40) (.tmp 46) 49 rfl _ _ rfl rfl _ w8 HR8.out ?_
    refine zk hK 11 511 2 (HSA.out) fun hHeld=>?_
    clear hK K
    try simp only [zz]
    refine tn 9 11 1023 1 ?_
    simp only [zz]
    refine zr 10 fun K hK=>?_
    go_simp
    refine zk hK 11 2047 0 (HSB.out) fun hHeld=>?_
    clear hK K
    try simp only [zz]
    refine zn ?_ _
    (try go_wp2)
    go_meet
    exact rfl
   case rest =>
   rename World=>U6
   have hU6:=hcut
   have k6:=HK8.out
   rw [←hU6] at k6
   have q0:=HSB.out
   rw [←hU6] at q0
   have q1:=HSB1.out
   rw [←hU6] at q1
   clear hcut hU6 HSA HSB HSB1 HK8 xA xB xC x8 f8 HR5 HR8
   obtain⟨p6,hp6⟩:∃p6:Ps,p6={ p with O:=p.O++[(x.id,x.b)] }:=⟨_,rfl⟩
   rw [←hp6] at k6
   have hp6T:p6.T=p.T:=by rw [hp6]
   have HP6:=hid hp6
   have HP6T:=hid hp6T
   clear hp6 hp6T
   have hdr6:Below U6.heap.size U6 U6.drew:=(Below.refl _ _).drew
   have kd:=k6.later hdr6
   have kMd:=HMd.out U6.drew kd.bel
   have het:=(kMd.er x HXm.out).t
   rw [←HNt.out] at het
   obtain⟨bt,hta,htc⟩:=ow_tok het HNt.out.symm hnt2
   have htc:=htc 0 r HRt.out
   simp only [Nat.zero_mul] at htc
   have hbt:bt<w.heap.size:=HK0.out.lt bt ((kMd.er x HXm.out).nt bt (by rw [hta];exact⟨_,rfl,rfl⟩))
   have hs2w:b<w2.heap.size:=Nat.lt_of_lt_of_le HBl.out HB2.out.size
   have hna2:∀j,Blk a2 j→w2.heap.size≤j∧j<wr.heap.size:=fun j hj=>HSg.out.tl.ts.blk j hj
   have hhd:x.T.head?=some r:=by rw [List.head?_eq_getElem?];exact HRt.out
   have hsz:=HTx.out.sz hhd nt
   have HTell:=hid (tell_any HTx.out HNt.out.symm (by omega) x.ba x.ta bl x.bc x.tc x.id nt 0 r p6.T (-1) U6.drew w2.heap.size a2 c2 HRt.out (by omega) (by rw [HP6T.out];have:=HNt.out;omega) het kd.tl.ts kd.bel.size (fun j hj hj2=>by
    have h1:=(hna2 j hj).1
    rw [hta] at hj2
    have h2:=Ow.blk1 (base:=0) (e:=0) (k:=0) (n:=0) (c:=0) (L:=[]) hj2
    have:=HBn.out
    omega))
   have hTlen:p6.T.length=p.T.length:=by rw [HP6T.out]
   obtain⟨L,hL⟩:∃L,L=tel x.T x.id nt p6.T r (-1):=⟨_,rfl⟩
   rw [←hL] at HTell
   have HL:=hid hL
   rw [hta] at HTell
   have hw1:=cell_later hdr6 q0
   have hw2:=cell_later hdr6 q1
   rw [hta] at hw2
   obtain⟨t0,t1,t2,t3,t4⟩:=htc
   simp only [Nat.zero_add] at t1 t2 t3 t4
   have xT:=kd.c1_
   have HKd:=hid kd
   have hbn9:=HBn.out
   have HS7:Hid (∀U:World,But (fun j=>j=b∨Blk a2 j) U6.drew U→U.cell? ⟨wr.heap.size,0,none⟩=some (.slice x.ba bl x.bc)∧U.cell? ⟨wr.heap.size,1,none⟩=some (.slice (some ⟨bt,0,none⟩) nt x.tc)∧U.cell? ⟨bt,0,none⟩=some (.int .u64 (r.hi:Int))∧U.cell? ⟨bt,1,none⟩=some (.int .u64 (r.lo:Int))∧U.cell? ⟨bt,2,none⟩=some (.int .i64 r.r)∧U.cell? ⟨bt,3,none⟩=some (.int .u64 (r.uh:Int))∧U.cell? ⟨bt,4,none⟩=some (.int .u64 (r.ul:Int))):=fun U hU=>by
    have e1:¬(wr.heap.size=b∨Blk a2 wr.heap.size):=fun e=>by
     rcases e with e|e
     ·exact hpne e
     ·have:=(hna2 _ e).2;omega
    have e2:¬(bt=b∨Blk a2 bt):=fun e=>by
     rcases e with e|e
     ·omega
     ·have:=(hna2 _ e).1;omega
    exact⟨cell_but hU hw1 e1,cell_but hU hw2 e1,cell_but hU t0 e2,cell_but hU t1 e2,cell_but hU t2 e2,cell_but hU t3 e2,cell_but hU t4 e2⟩
   have HTa:=hid hta
   have HHd:=hid hhd
   clear hL kMd het hta hs2w hhd hsz hTlen hw1 hw2 t0 t1 t2 t3 t4 q0 q1 kd k6
   go_upto_region 7 with fail
   refine wp_region_held_drew (S:=(fun U:World=>U.cell? ⟨wr.heap.size,0,none⟩=some (.slice x.ba bl x.bc)∧U.cell? ⟨wr.heap.size,1,none⟩=some (.slice (some ⟨bt,0,none⟩) nt x.tc)∧U.cell? ⟨bt,0,none⟩=some (.int .u64 (r.hi:Int))∧U.cell? ⟨bt,1,none⟩=some (.int .u64 (r.lo:Int))∧U.cell? ⟨bt,2,none⟩=some (.int .i64 r.r)∧U.cell? ⟨bt,3,none⟩=some (.int .u64 (r.uh:Int))∧U.cell? ⟨bt,4,none⟩=some (.int .u64 (r.ul:Int)))) (by kernel_rfl) (HS7.out _ (But.refl _ _)) (fun hHeld=>?_)
   refine nm 11 0 11 ?_
   refine tn 0 11 1 10 ?_
   simp only [zz]
   refine tn 1 11 3 9 ?_
   simp only [zz]
   refine tn 3 11 11 8 ?_
   simp only [zz]
   refine tn 4 11 27 7 ?_
   simp only [zz]
   refine tn 5 11 59 6 ?_
   simp only [zz]
   refine tn 6 11 123 5 ?_
   simp only [zz]
   refine tn 7 11 251 4 ?_
   simp only [zz]
   refine zr 2 fun K hK=>?_
   go_simp
   refine zk hK 11 255 3 (HS7.out _ (But.refl _ _)) fun hHeld=>?_
   clear hK K
   try simp only [zz]
   refine zr 8 fun K hK=>?_
   go_simp
   go_wp2_with (first|(go_at_call 33;refine HTell.out.mono ?_;rintro e u7 ⟨a9,c9,rfl,hO9,hG9⟩;obtain⟨f9,x9,k9⟩:=HKd.out.addT hO9 hG9;have HG9:=hid hG9;have HK9:=hid k9;clear hO9 hG9 k9))
   refine zk hK 11 511 2 (HS7.out _ (HG9.out.but.mono (fun j e=>.inr e))) fun hHeld=>?_
   clear hK K
   try simp only [zz]
   refine tn 9 11 1023 1 ?_
   simp only [zz]
   refine zr 10 fun K hK=>?_
   go_simp
   refine zk hK 11 2047 0 (HS7.out _ ((HG9.out.but.mono (fun j e=>.inr e)).trans ((But.refl _ u7).setCell (p:=⟨b,1,none⟩) (.inl rfl) _))) fun hHeld=>?_
   clear hK K
   try simp only [zz]
   refine zn ?_ _
   have k9:=HK9.out
   have hpe:({ p6 with T:=L }:Ps)=⟨vO (q.O.take (i+1)),(q.O.take (i+1)).foldl tlO [],[],q.nx,q.px,(q.t:Int)⟩:=by
    rw [take_snoc HAt.out,List.foldl_append,List.foldl_cons,List.foldl_nil]
    have e1:tlO ((q.O.take i).foldl tlO []) (x.id,⟨x.b,x.T⟩)=L:=by
     rw [tlO_hd (e:=(x.id,⟨x.b,x.T⟩)) HHd.out,HL.out,HP6T.out,HP.out,HNt.out]
    rw [e1,HP6.out,HP.out]
    simp [vO]
   have hfin:SoRel w2 b q n (.int .i64 ((i+1:Nat):Int)) (u7.setCell ⟨b,1,none⟩ (.slice a9 L.length c9)):=⟨i+1,_,_,_,_,_,_,rfl,hlt,hpe,k9⟩
   have HF9:=hid hfin
   clear hfin hpe k9 hpne
   go_wp2
   exact⟨HF9.out,by simp [S.ivN];omega⟩
  ·obtain rfl:i=n:=by have:=HIn.out;omega
   have hd:decide ((i:Int)<(i:Int))=false:=by simp
   have hp:p=⟨vO q.O,q.O.foldl tlO [],[],q.nx,q.px,(q.t:Int)⟩:=by
    rw [HP.out,List.take_of_length_le (by rw [←HK0.out.lenO,←HN.out];exact Nat.le_refl _)]
   have HPe:=hid hp
   have kU:=HMd.out wr HSg.out.bel
   have x13:=kU.cell 13 rfl
   obtain⟨m,hm⟩:∃m,m=Ls.length:=⟨_,rfl⟩
   have HMm:=hid hm
   have hmx:q.X.length=m:=by rw [hm,←HK0.out.le,List.length_map]
   have HMx:=hid hmx
   have hmO:m≤1024:=by rw [←hmx];have:=HF.out.pm;omega
   have HRx:=hid (riseX_any kU.ml (kU.rise HF.out).2 (by rw [List.length_map,←hm];exact hmO))
   rw [List.length_map,←hm] at HRx
   clear kU hm hp hmx
   go_upto_region 10 with (first|(go_at_call 34;refine HRx.out.mono ?_;rintro e w5 ⟨aj,cj,rfl,hoj,hb5⟩;have HOj:=hid hoj;have HB5:=hid hb5;clear hoj hb5))
   clear x13
   go_loopw [66] (SpRel w2 w5 b q m) (fun v _=>m - S.ivN v)
   case atStart =>
    refine⟨0,p,a1,c1,Q1,a2,c2,none,0,[],rfl,Nat.zero_le _,by rw [HPe.out];simp,HSg.out.later HB5.out,But.refl _ _,?_⟩
    rintro j (⟨_,h,_⟩|⟨_,h,_⟩)<;>cases h
   case round =>
    rename World=>U
    have HS0:=HSg
    clear HSg HP HPe
    obtain⟨l,p2,a1,c1,Q1,a2,c2,a3,c3,Q3,rfl,hl,hp,hsg,hbw5,hlo⟩:=hrel
    have HSg:=hid hsg
    have HP:=hid hp
    have HIl:=hid hl
    have HW5:=hid hbw5
    have HLo:=hid hlo
    clear hsg hp hl hbw5 hlo
    by_cases hlt2:l<m
    ·have hd2:decide ((l:Int)<(m:Int))=true:=decide_eq_true (by omega)
     obtain⟨z,hz⟩:∃z,Ls[l]?=some z:=⟨_,List.getElem?_eq_getElem (by have:=HMm.out;omega)⟩
     have hzm:=List.mem_of_getElem? hz
     have kU:=HMd.out U HSg.out.bel
     have hat:=kU.atX hz
     have hom:=List.mem_of_getElem? hat
     obtain⟨gj,rfl⟩:=HOj.out.form (by omega)
     have y:=(Own.but HW5.out HOj.out (fun j hj e=>by have:=HOj.out.blk j hj;have:=HS0.out.blt;omega)).read.cells _ rfl l (.int .i64 z.id) (by simp [ints,hz,Ln.v])
     rw [addr_add0] at y
     have hix:S.i64ok z.id:=by
      have h1:=HF.out.mx _ hom
      have h2:=HF.out.px
      unfold S.i64ok
      simp only at h1
      omega
     obtain⟨zl,hzl⟩:∃zl,zl=z.K.length:=⟨_,rfl⟩
     have hlk:(Instr.lookup 59 (.map (some h.bl)) (.int .i64 z.id) false).run Tryz.prog U=.ok (.slice z.a zl z.c) U:=by
      rw [kU.lookL hix,kU.lnM HF.out hzm,hzl];rfl
     have hlr:=(kU.lr z hzm).l
     have hzl2:zl≤32:=by rw [hzl];have h1:=(HF.out.ln _ hom).1;have h2:=HF.out.lm;simp only at h1;omega
     have x13:=kU.cell 13 rfl
     rw [←hzl] at hlr
     obtain⟨ab,cb,U5,hr5,hO5,hG5⟩:=append_k 63 38 _ 3 24 Tryz.underlying63 infoCp rfl (by omega) (by omega) (Ow.nil U U.heap.size 38 3) (ow_cr hlr (caps_ones _)) (Nat.le_refl _) (by omega)
     rw [Nat.zero_add] at hr5 hO5
     rw [List.nil_append] at hO5
     have hb5:Below U.heap.size U U5:=But.below (Below.refl _ _) hG5.but (fun j ⟨y,hy,_⟩=>by cases hy)
     have hO5:Ow U5 U.heap.size 38 3 ab z.K.length cb (caps z.K):=by rw [←hzl];exact hO5
     have hpP:p2.P.length≤1024:=by
      rw [HP.out]
      simp only [List.length_take]
      omega
     obtain⟨a8,c8,w8,hr8,f8,x8,hB8,k8,hn8⟩:=Sg.addP HSg.out hb5 (id:=z.id) hO5 (by omega)
     rw [←hzl] at hr8
     have xB:=(HSg.out.later hb5).c2_
     have HR5:=hid hr5
     have HR8:=hid hr8
     obtain⟨U8,hU8⟩:∃U8,U8=w8.setCell ⟨b,2,none⟩ (.slice a8 (p2.P.length+1) c8):=⟨_,rfl⟩
     rw [←hU8] at k8
     have hbw8:But (·=b) w5 U8:=by
      rw [hU8]
      exact ((HW5.out.call hb5).comp hB8 (fun j hj=>.inr (HLo.out j (.inl hj)))).comp ((But.refl (fun x=>x=b) w8).setCell (p:=⟨b,2,none⟩) rfl _) (fun j e=>.inl e)
     have hlo8:∀j,Two.B a8 (Q3++[⟨z.id,caps z.K,z.K.length,ab,cb⟩]) j→w5.heap.size≤j:=fun j hj=>by
      rcases hn8 j hj with e|e
      ·exact HLo.out j e
      ·exact Nat.le_trans HW5.out.size e
     have hpe:({ p2 with P:=p2.P++[(z.id,z.K)] }:Ps)=⟨vO q.O,q.O.foldl tlO [],q.X.take (l+1),q.nx,q.px,(q.t:Int)⟩:=by
      rw [take_snoc hat,HP.out]
     have hfin:SpRel w2 w5 b q m (.int .i64 ((l+1:Nat):Int)) U8:=⟨l+1,_,_,_,_,_,_,_,_,_,rfl,hlt2,hpe,k8,hbw8,hlo8⟩
     have HF9:=hid hfin
     have HU8:=hid hU8
     clear hfin hpe k8 hbw8 hlo8 hU8 hr5 hO5 hG5 hr8 hn8 hB8 kU hat hom hz hzm hix hzl hlr hb5
     go_upto_region 12 with fail
     clear y
     go_upto_region 13 with (first|(at_builtin;refine wpList_append_known rfl _ _ 63 rfl _ _ rfl rfl _ U5 HR5.out ?_))
     clear x13 hlk
     go_upto_region 14 with (first|(at_builtin;refine wpList_append_known rfl _ _ 51 rfl _ _ rfl rfl _ w8 HR8.out ?_))
     rw [←HU8.out]
     clear xB x8 f8
     go_wp2
     exact⟨HF9.out,by simp [S.ivN];omega⟩
    ·obtain rfl:l=m:=by have:=HIl.out;omega
     have hd2:decide ((l:Int)<(l:Int))=false:=by simp
     have hp:p2=psP q:=by
      rw [HP.out,List.take_of_length_le (by rw [HMx.out];exact Nat.le_refl _)]
      rfl
     have hk9:=HSg.out
     rw [hp] at hk9
     have hbn:=HBn.out
     have hZ9:Zr U w.heap.size:=((HZ.out.later HBV.out).later HB2.out).but hk9.bel (by omega)
     have HLd9:=hid (ldSt hk9.bx)
     have HS9:=hid (hZ9.st53 a1 (psP q).O.length c1 a2 (psP q).T.length c2 a3 (psP q).P.length c3 (psP q).nx (psP q).px (psP q).t)
     have HL9:=hid (hZ9.lv53 a1 (psP q).O.length c1 a2 (psP q).T.length c2 a3 (psP q).P.length c3 (psP q).nx (psP q).px (psP q).t)
     have hbe:But (·=w.heap.size) U (U.setCells w.heap.size 0 (stM a1 (psP q).O.length c1 a2 (psP q).T.length c2 a3 (psP q).P.length c3 (psP q).nx (psP q).px (psP q).t)):=R.setCells_but (S:=(·=w.heap.size)) rfl _ 0 (But.refl _ _)
     have hws:w.heap.size<w2.heap.size:=Nat.lt_of_lt_of_le (Nat.lt_trans hbn HBl.out) HB2.out.size
     have hfin:StRets w (psP q) (.returned (stV a1 (psP q).O.length c1 a2 (psP q).T.length c2 a3 (psP q).P.length c3 (psP q).nx (psP q).px (psP q).t)) (U.setCells w.heap.size 0 (stM a1 (psP q).O.length c1 a2 (psP q).T.length c2 a3 (psP q).P.length c3 (psP q).nx (psP q).px (psP q).t)) :=
      ⟨a1,c1,Q1,a2,c2,a3,c3,Q3,rfl,(hk9.tl.but hbe (fun j h1 h2 e=>by omega)).mono (Nat.le_of_lt hws),But.below (But.below (below_call HB.out (below_call HBV.out HB2.out)) hk9.bel (fun j e=>by omega)) hbe (fun j e=>by omega)⟩
     have HF9:=hid hfin
     clear hfin hbe hws hZ9 hk9 hp
     go_wp2_with (first|((with_reducible refine R.ld_arm HLd9.out ?_ ?_);(· rfl))|((with_reducible refine st_arm HS9.out ?_ ?_ ?_);(· rfl);(· rfl)))
     exact bodyPost_ret (v:=stV a1 (psP q).O.length c1 a2 (psP q).T.length c2 a3 (psP q).P.length c3 (psP q).nx (psP q).px (psP q).t) (by simp [results,Tryz.results13,asAddr,Act.put,HL9.out]) rfl HF9.out
end
end Go.Proofs.YtffmodpgddecnaaGreat.V.E
