import Derived.Test.YtffmodpgddecnaaGreatZ16
set_option linter.unusedVariables false
set_option linter.unusedSimpArgs false
namespace Go.Proofs.YtffmodpgddecnaaGreat.V.E
open Go.RowKit Go.Maps
open Go.Proofs.YtffmodpgddecnaaGreat.H (B64 Cp)
section
variable {w w' V w2:World}{h:Hm}{q x:Pl}{N N':Nat→Prop}{Es:List En}{Ls:List Ln}{c:R.Cl}{dd gg:R.Sl}
theorem nam_zero (g:Cp→Int)(o:Int):∀(K:List Cp) (e:Int),e≠0→(L.namG g o K e).2=0→∃c∈K,c.1=o∧g c=0
 | [],e,he,h=>absurd h (by simpa [L.namG] using he)
 | c::K,e,he,h=>by
  rw [L.namG] at h
  by_cases h1:c.1≠o
  ·rw [if_pos h1] at h
   obtain⟨d,hd,h2⟩:=nam_zero g o K e he h
   exact⟨d,List.mem_cons_of_mem _ hd,h2⟩
  ·rw [if_neg h1] at h
   by_cases h2:g c=0
   ·exact⟨c,List.mem_cons_self,by simpa using h1,h2⟩
   ·rw [if_neg h2] at h
    by_cases h3:g c=4
    ·rw [if_pos h3] at h
     obtain⟨d,hd,h4⟩:=nam_zero g o K 4 (by decide) h
     exact⟨d,List.mem_cons_of_mem _ hd,h4⟩
    ·rw [if_neg h3] at h
     obtain⟨d,hd,h4⟩:=nam_zero g o K e he h
     exact⟨d,List.mem_cons_of_mem _ hd,h4⟩
theorem val_tk {given:Bool}{K:List Cp}{need:Int}{c:Cp}(h:valP q given K need c=0):tkO q.O c.1≠[]:=by
 unfold valP at h
 cases given with
 | true =>
  obtain⟨t,ht⟩:=giv_ok h
  exact List.ne_nil_of_mem (fnd_is ht).1
 | false =>
  rw [if_neg (by decide)] at h
  obtain⟨d,-,h1,h2⟩:=nam_zero _ _ _ 3 (by decide) h
  obtain⟨t,ht⟩:=giv_ok h2
  rw [←h1]
  exact List.ne_nil_of_mem (fnd_is ht).1
def WrD (v:World)(p:Nat)(x:En)(n mm:Nat)(B:List Nat)(U:World):Prop:=∃a6 c6,U.cell? ⟨p,0,none⟩=some (.slice a6 mm c6)∧U.cell? ⟨p,1,none⟩=some (.slice x.ta n x.tc)∧Ow U v.heap.size 5 1 a6 mm c6 (S.u8s B)∧But (·=p) v U
theorem row_cr {a:Option Addr}{n cp:Nat}{L:List Nat}(h:R.Row w a n cp L):Cr w 1 a n cp (S.u8s L):=by
 refine⟨by rw [Nat.mul_one];simpa [S.u8s] using h.len,h.none_,fun x hx j u hu=>h.cells x hx j u hu,u8O _⟩
set_option maxRecDepth 100000 in
set_option maxHeartbeats 4000000 in
theorem write_any (k:Md w h q N Es Ls)(hf:Fit h.p q)(hi:R.Is w c dd gg)(hc:S.i64ok c.obj)(hby:S.i64ok c.by_)(hdl:dd.n≤65536):Calls Tryz.prog 55 #[.pointer (some ⟨h.g,0,none⟩),.agg (R.cC c dd gg).toArray] w (DidP w h N (pWrite q c.given c.by_ (cpO c) c.off c.data)):=by
 obtain⟨W,hW⟩:∃W,W=(w.alloc (Obj.cells (R.cC c dd gg).toArray 45)).alloc z6:=⟨_,rfl⟩
 have hB:Below w.heap.size w W:=by rw [hW];exact below2 _ _ _
 have hX:R.Bx W w.heap.size (R.cC c dd gg):=by rw [hW];exact R.Bx.later (below1 _ _) (R.Bx.new w (R.cC c dd gg) 45)
 have hZ:Zr W (w.heap.size+1):=by rw [hW];have:=Zr.new (w.alloc (Obj.cells (R.cC c dd gg).toArray 45));simpa using this
 have k1:=k.later hB
 have HLd:=hid (ldC hX)
 have HV:=hid (validated_any k1 hf (hi.later hB) hc hby 2)
 have hdr:=row_cr (hi.later hB).data
 have hdn:=hi.data.len
 obtain⟨x,hx⟩:∃x,x=enA Es c.obj:=⟨_,rfl⟩
 have hby2:=k1.by c.obj
 have htk:=k1.tk c.obj
 have hrow:=(k1.erA c.obj).b
 rw [←hx] at hby2 hrow htk
 have hbl9:x.b.length≤4096:=by rw [hby2];exact by_le hf _
 obtain⟨bl,hbl⟩:∃bl,bl=x.b.length:=⟨_,rfl⟩
 obtain⟨n,hn⟩:∃n,n=x.T.length:=⟨_,rfl⟩
 have HLk:Hid (∀(U:World) (r:Pl),Md U h r N Es Ls→(Instr.lookup 58 (.map (some h.bo)) (.int .i64 c.obj) false).run Tryz.prog U=.ok (.agg #[.slice x.ba bl x.bc,.slice x.ta n x.tc]) U):=fun U r kU=>by rw [kU.look hc,←hx,hbl,hn];rfl
 have H3:Hid (∀U:World,Below W.heap.size W U→U.cell? ⟨w.heap.size,3,none⟩=some (.int .i64 c.obj)):=fun U hU=>(R.Bx.later hU hX).cell 3 rfl
 have H5:Hid (∀U:World,Below W.heap.size W U→U.cell? ⟨w.heap.size,8,none⟩=some (.int .i64 c.off)∧U.cell? ⟨w.heap.size,10,none⟩=some (.slice dd.a dd.n dd.c)):=fun U hU=>⟨(R.Bx.later hU hX).cell 8 rfl,(R.Bx.later hU hX).cell 10 rfl⟩
 have hgl:=k.glt
 have hol:=k.olt
 have hll:=k.llt
 have hlE:Es.length≤1024:=by rw [k.lenO];have:=hf.rm;omega
 have HRi:=hid (k.rise hf).1
 have HRo:=hid hf.ro
 have HOb:Hid ((enA Es c.obj).T≠[]→obO q.O c.obj=some ⟨(enA Es c.obj).b,(enA Es c.obj).T⟩):=fun e=>k.ob e
 have HK0:=hid k
 have HK:=hid k1
 have HB:=hid hB
 have HW:=hid hW
 have HZ:=hid hZ
 have HRow:=hid hrow
 have HDr:=hid hdr
 have HDn:=hid hdn
 have hb0:byO q.O (cpO c).1=x.b:=hby2.symm
 unfold pWrite
 rw [hb0,hdn,←hbl]
 rw [←hbl] at hbl9
 have HBl:=hid hbl
 have HN:=hid hn
 have HTk:=hid htk
 have HXe:=hid hx
 clear k k1 hB hX hZ hW hf hi hby hx hby2 hrow hbl hn hb0 hdr hdn htk
 obtain⟨e,he⟩:∃e,e=valP q c.given (lsX q.X c.by_) 2 (cpO c):=⟨_,rfl⟩
 rw [←he] at HV ⊢
 by_cases h1:e≠0
 ·rw [if_pos h1]
  have hd:(e != 0)=true:=by simp [h1]
  clear h1 he
  go_enter Tryz.func55,Tryz.ntmps55
  go_upto_region 1 with fail
  rw [←HW.out]
  go_upto_region 3 with (first|((with_reducible refine R.ld_arm HLd.out ?_ ?_);(· rfl))|(go_at_call 75;refine HV.out.mono ?_;rintro e w1 ⟨rfl,hb1⟩;have HB1:=hid hb1;clear hb1))
  have HZ1:=hid (HZ.out.later HB1.out)
  have HR_:=hid (refused_any e w1)
  go_wp2_with (first|(go_at_call 28;refine HR_.out.mono ?_;rintro e_ w3 ⟨rfl,hb3⟩;have HB3:=hid hb3;have HZ9:=hid (HZ1.out.later HB3.out);have HS9:=hid (HZ9.out.st (rep e) none 0 0);have HL9:=hid (HZ9.out.lv (rep e) none 0 0);clear hb3)|((with_reducible refine st_arm HS9.out ?_ ?_ ?_);(· rfl);(· rfl)))
  exact bodyPost_ret (v:=rpV (rep e) none 0 0) (by simp [results,Tryz.results55,asAddr,HL9.out]) rfl (refuse_fin HK0.out (HK.out.later HB1.out) (WentP.later (below_call HB.out HB1.out)) HB3.out (Nat.le_succ _) (rep e) rfl)
 have h1:e=0:=by simpa using h1
 rw [if_neg (by rw [h1];simp)]
 subst h1
 have hTne:x.T≠[]:=by rw [HTk.out];exact val_tk (c:=cpO c) he.symm
 clear he
 have HRg:=hid (fun U=>inRange_any (bl:Int) c.off (dd.n:Int) ⟨by omega,by omega⟩ U)
 by_cases h2:0≤c.off∧dd.n≤1024∧c.off+(dd.n:Int)≤(bl:Int)
 ·rw [if_pos h2]
  have hr:=(rg_iff (bl:Int) c.off (dd.n:Int)).2 ⟨h2.1,by omega,by omega,h2.2.2⟩
  rw [hr] at HRg
  obtain⟨o,ho⟩:∃o:Nat,c.off=(o:Int):=⟨c.off.toNat,by omega⟩
  rw [ho] at h2 H5 HRg ⊢
  obtain⟨h3,h4,h5⟩:=h2
  have hnc:=ow_le HRow.out
  rw [←HBl.out] at hnc
  have e1:(o:Int).toNat=o:=Int.toNat_natCast o
  rw [e1]
  have hxm:x∈Es∧x.id=c.obj:=by rw [HXe.out] at hTne ⊢;exact enA_mem hTne
  have hob:obO q.O c.obj=some ⟨x.b,x.T⟩:=by rw [HXe.out] at hTne ⊢;exact HOb.out hTne
  have HXm:=hid hxm
  obtain⟨B',hB'⟩:∃B',B'=x.b.take o++c.data++x.b.drop (o+c.data.length):=⟨_,rfl⟩
  have HSt:Hid (stO q.O c.obj (fun _=>⟨B',x.T⟩)=stO q.O (cpO c).1 (fun b=>{ b with b:=b.b.take o++c.data++b.b.drop (o+dd.n) })):=by
   have:=stO_same HRo.out hob (fun b=>{ b with b:=b.b.take o++c.data++b.b.drop (o+c.data.length) })
   unfold Hid
   rw [hB',←HDn.out]
   exact this
  obtain⟨d,hd⟩:∃d,d=dd.n:=⟨_,rfl⟩
  obtain⟨m2,hm2⟩:∃m2,m2=bl - (o+d):=⟨_,rfl⟩
  obtain⟨ac,hac⟩:∃ac,ac=cutK x.ba x.bc (o+d) 1:=⟨_,rfl⟩
  obtain⟨cc,hcc⟩:∃cc,cc=x.bc - (o+d):=⟨_,rfl⟩
  rw [←hd] at h4 h5 H5 HRg HDr HDn hdl
  have hBm:B'.length=o+(d+m2):=by have h9:=HBl.out;rw [hB',hm2];simp only [List.length_append,List.length_take,List.length_drop,HDn.out];omega
  have HBm:=hid hBm
  have HS1:Hid (∀U:World,(Instr.sliceAt 39 (.slice x.ba bl x.bc) none (some (.int .i64 (o:Int))) none).run Tryz.prog U=.ok (.slice x.ba o x.bc) U):=fun U=>sliceB_h U x.ba bl x.bc o (by omega)
  have HS2:Hid (∀U:World,(Instr.sliceAt 39 (.slice x.ba bl x.bc) (some (.int .i64 ((o:Int)+(d:Int)))) none none).run Tryz.prog U=.ok (.slice ac m2 cc) U):=fun U=>by
   have:=sliceB_l U x.ba bl x.bc (o+d) (by omega) hnc
   rw [←hac,←hm2,←hcc] at this
   exact this
  have HCon:Hid (∀(v U:World),Below W.heap.size W v→Below v.heap.size v U→U.cell? ⟨v.heap.size,0,none⟩=some (.slice x.ba o x.bc)→U.cell? ⟨v.heap.size,1,none⟩=some (.slice dd.a d dd.c)→U.cell? ⟨v.heap.size,2,none⟩=some (.slice ac m2 cc)→Calls Tryz.prog 77 #[.slice (some ⟨v.heap.size,0,none⟩) 3 3] U fun e w'=>∃a c,e=.returned (.slice a (o+(d+m2)) c)∧Ow w' v.heap.size 5 1 a (o+(d+m2)) c (S.u8s B')∧Below v.heap.size v w'):=fun v U hv hU c0 c1 c2=>by
   have hWU:=below_call hv hU
   have rr:=cr_later (ow_cr HRow.out (u8O _)) hWU
   rw [←HBl.out] at rr
   have:=concatB_any (w:=U) (p:=v.heap.size) (c0:=3) (L:=[⟨x.ba,o,x.bc,(S.u8s x.b).take (o*1)⟩,⟨dd.a,d,dd.c,S.u8s c.data⟩,⟨ac,m2,cc,(S.u8s x.b).drop ((o+d)*1)⟩]) (sxs3 c0 c1 c2 (cr_take rr o (by omega)) (cr_later HDr.out hWU) (by rw [hac,hm2,hcc];exact cr_cut rr (o+d) (by omega) hnc)) (by simp) (by simp [sxN];omega)
   have e1:sxN [⟨x.ba,o,x.bc,(S.u8s x.b).take (o*1)⟩,⟨dd.a,d,dd.c,S.u8s c.data⟩,⟨ac,m2,cc,(S.u8s x.b).drop ((o+d)*1)⟩]=o+(d+m2):=by simp [sxN]
   have e2:sxM [⟨x.ba,o,x.bc,(S.u8s x.b).take (o*1)⟩,⟨dd.a,d,dd.c,S.u8s c.data⟩,⟨ac,m2,cc,(S.u8s x.b).drop ((o+d)*1)⟩]=S.u8s B':=by rw [hB',HDn.out];simp [sxM,S.u8s,List.map_take,List.map_drop]
   rw [e1,e2] at this
   simp only [List.length_cons,List.length_nil,Nat.zero_add,Nat.reduceAdd] at this
   exact this.mono (fun e w' ⟨a,c,h1,h2,h3⟩=>⟨a,c,h1,h2.mono hU.size,below_call hU h3⟩)
  obtain⟨mm,hmm⟩:∃mm,mm=o+(d+m2):=⟨_,rfl⟩
  rw [←hmm] at HCon HBm
  have HW1:Hid (wrap64 ((o:Int)+(d:Int))=(o:Int)+(d:Int)):=by unfold Hid wrap64;omega
  have HW2:Hid (IntKind.i64.wrap ((o:Int)+(d:Int))=(o:Int)+(d:Int)):=by unfold Hid;rw [IntKind.wrap_i64];omega
  have HFin:Hid (∀y:Pl,y={ q with O:=stO q.O c.obj (fun _=>⟨B',x.T⟩) }→y={ q with O:=stO q.O (cpO c).1 (fun b=>{ b with b:=b.b.take o++c.data++b.b.drop (o+dd.n) }) }):=fun y hy=>by rw [hy,HSt.out]
  rw [←hd] at HFin ⊢
  clear e1 h3 h4 h5 hnc hxm hob hB' hd hm2 hac hcc hBm hmm hr ho hTne
  go_enter Tryz.func55,Tryz.ntmps55
  go_upto_region 1 with fail
  rw [←HW.out]
  go_upto_region 4 with (first|((with_reducible refine R.ld_arm HLd.out ?_ ?_);(· rfl))|(go_at_call 75;refine HV.out.mono ?_;rintro e w1 ⟨rfl,hb1⟩;have HB1:=hid hb1;clear hb1))
  have HZ1:=hid (HZ.out.later HB1.out)
  have HK2:=hid (HK.out.later HB1.out)
  have HKey:Hid (∀U:World,Below w1.heap.size w1 U→U.cell? ⟨w.heap.size,3,none⟩=some (.int .i64 c.obj)):=fun U hU=>H3.out U (below_call HB1.out hU)
  have hs4:w.heap.size+1<w1.heap.size:=HZ1.out.lt
  have H0:Hid (∀U:World,Below w1.heap.size w1 U→U.cell? ⟨h.g,12,none⟩=some (.map (some h.bo))∧U.cell? ⟨w.heap.size,3,none⟩=some (.int .i64 c.obj)∧(Instr.lookup 58 (.map (some h.bo)) (.int .i64 c.obj) false).run Tryz.prog U=.ok (.agg #[.slice x.ba bl x.bc,.slice x.ta n x.tc]) U):=fun U hU=>⟨(HK2.out.later hU).cell 12 rfl,HKey.out U hU,HLk.out U _ (HK2.out.later hU)⟩
  go_cut [6] (fun vp U=>∃p,vp=.pointer (some ⟨p,0,none⟩)∧U.cell? ⟨p,0,none⟩=some (.slice x.ba bl x.bc)∧U.cell? ⟨p,1,none⟩=some (.slice x.ta n x.tc)∧U.frozen? ⟨p,0,none⟩=false∧U.frozen? ⟨p,1,none⟩=false∧w1.heap.size≤p∧Below w1.heap.size w1 U)
  case first =>
   go_region_held3 (fun U=>U.cell? ⟨h.g,12,none⟩=some (.map (some h.bo))∧U.cell? ⟨w.heap.size,3,none⟩=some (.int .i64 c.obj)∧(Instr.lookup 58 (.map (some h.bo)) (.int .i64 c.obj) false).run Tryz.prog U=.ok (.agg #[.slice x.ba bl x.bc,.slice x.ta n x.tc]) U) (first|exact H0.out _ (Below.refl _ _).drew|exact H0.out _ (below1 _ _).drew|exact H0.out _ (below1 _ _)) (fail)
   all_goals (try go_wp2)
   all_goals go_meet
   all_goals exact⟨w1.heap.size,rfl,by simp [go_sem],by simp [go_sem],by simp [go_sem],by simp [go_sem],Nat.le_refl _,by first|exact (below1 _ _).drew|exact below1 _ _|exact (Below.refl _ _).drew.alloc (Nat.le_refl _) _⟩
  case rest =>
  rename World=>v
  obtain⟨p,rfl,cp0,cp1,fp0,fp1,hp,hbv⟩:=hcut
  have HKv:=hid (HK2.out.later hbv)
  have HBv:=hid hbv
  have hpv:p<v.heap.size:=World.block_lt_of_cell? _ _ cp0
  have hsv:=HBv.out.size
  have HB0v:=hid (below_call HB1.out hbv)
  have HZ1:=hid (HZ1.out.later hbv)
  obtain⟨x8,x10⟩:=H5.out v HB0v.out
  clear hbv
  go_upto_region 7 with (first|(go_at_call 76;refine (HRg.out _).mono ?_;rintro e w3 ⟨rfl,hw3⟩;obtain rfl:=hw3.symm;clear hw3))
  have hw1:=HW1.out
  have hw2:=HW2.out
  have HP0:=hid cp0
  have HP1:=hid cp1
  have HF0:=hid fp0
  have H7:Hid (∀U:World,Below v.heap.size v U→U.cell? ⟨w.heap.size,8,none⟩=some (.int .i64 (o:Int))∧U.cell? ⟨w.heap.size,10,none⟩=some (.slice dd.a d dd.c)):=fun U hU=>⟨cell_later hU x8,cell_later hU x10⟩
  have HHp:Hid (w1.heap.size≤p):=hp
  have HDone:Hid (∀(w6:World) (a6:Option Addr) (c6:Nat),Ow w6 v.heap.size 5 1 a6 mm c6 (S.u8s B')→Below v.heap.size v w6→WrD v p x n mm B' (w6.setCell ⟨p,0,none⟩ (.slice a6 mm c6))∧(fun U:World=>U.cell? ⟨w.heap.size,8,none⟩=some (.int .i64 (o:Int))∧U.cell? ⟨w.heap.size,10,none⟩=some (.slice dd.a d dd.c)) (w6.setCell ⟨p,0,none⟩ (.slice a6 mm c6))):=fun w6 a6 c6 hO6 hb6=>by
   have hb67:But (·=p) w6 (w6.setCell ⟨p,0,none⟩ (.slice a6 mm c6)):=(But.refl (·=p) w6).setCell (p:=⟨p,0,none⟩) rfl _
   have hs:=H7.out w6 hb6
   refine⟨⟨a6,c6,World.cell?_setCell_same _ _ _ (cell_later hb6 HP0.out),?_,Ow.but hO6 hb67 (fun j hj e=>by have:=(Ow.blk hO6 j hj).1;omega),(But.of hb6).trans hb67⟩,cell_but hb67 hs.1 (by simp only;omega),cell_but hb67 hs.2 (by simp only;omega)⟩
   rw [World.cell?_setCell_other _ _ _ _ (by simp)]
   exact cell_later hb6 HP1.out
  clear x8 x10
  go_cut [6] (fun vp U=>vp=.pointer (some ⟨p,0,none⟩)∧WrD v p x n mm B' U)
  case first =>
   refine wp_region_held_drew (S:=(fun U:World=>U.cell? ⟨w.heap.size,8,none⟩=some (.int .i64 (o:Int))∧U.cell? ⟨w.heap.size,10,none⟩=some (.slice dd.a d dd.c))) (by kernel_rfl) (H7.out _ (Below.refl _ _).drew) (fun hHeld=>?_)
   refine nm 20 0 20 ?_
   refine tn 0 20 1 19 ?_
   simp only [zz]
   refine tn 2 20 5 18 ?_
   simp only [zz]
   refine tn 3 20 13 17 ?_
   simp only [zz]
   refine tn 5 20 45 16 ?_
   simp only [zz]
   refine tn 6 20 109 15 ?_
   simp only [zz]
   refine tn 7 20 237 14 ?_
   simp only [zz]
   refine tn 9 20 749 13 ?_
   simp only [zz]
   refine tn 10 20 1773 12 ?_
   simp only [zz]
   refine tn 11 20 3821 11 ?_
   simp only [zz]
   refine tn 12 20 7917 10 ?_
   simp only [zz]
   refine tn 13 20 16109 9 ?_
   simp only [zz]
   refine tn 14 20 32493 8 ?_
   simp only [zz]
   refine wpAnyH_ready (rs:=[1,8]) (by kernel_rfl) (by simp) ?_
   refine AllReadyH.cons rfl (fun K hK=>?_) ?_
   ·go_simp
    refine zk hK 20 32495 7 (H7.out _ (by first|exact (Below.refl _ _).drew|exact (below1 _ _).drew)) fun hHeld=>?_
    clear hK K
    try simp only [zz]
    refine tv 4 (v:=.slice x.ba o x.bc) ?_ ?_
    ·(intro w hSw;(try dsimp only at hSw);exact ex_slice (vlo:=none) (vhi:=some (.int .i64 (o:Int))) (vmx:=none) rfl rfl rfl rfl rfl (HS1.out _))
    simp only [zz]
    refine nm 20 32511 6 ?_
    refine zr 8 fun K hK=>?_
    go_simp
    refine zk hK 20 32767 5 (H7.out _ (by first|exact (Below.refl _ _).drew|exact (below1 _ _).drew)) fun hHeld=>?_
    clear hK K
    try simp only [zz]
    refine tv 15 (v:=.slice ac m2 cc) ?_ ?_
    ·(intro w hSw;(try dsimp only at hSw);exact ex_slice (vlo:=some (.int .i64 ((o:Int)+(d:Int)))) (vhi:=none) (vmx:=none) rfl rfl rfl rfl rfl (HS2.out _))
    simp only [zz]
    refine nm 20 65535 4 ?_
    refine zr 16 fun K hK=>?_
    go_simp
    refine zk hK 20 131071 3 (H7.out _ (by first|exact (Below.refl _ _).drew|exact (below1 _ _).drew)) fun hHeld=>?_
    clear hK K
    try simp only [zz]
    refine zr 17 fun K hK=>?_
    go_simp
    go_wp2_with (first|(go_at_call 77;refine (HCon.out v _ HB0v.out (by first|exact (Below.refl _ _).drew|exact (below1 _ _).drew) (by simp [go_sem]) (by simp [go_sem]) (by simp [go_sem])).mono ?_;rintro e w6 ⟨a6,c6,rfl,hO6,hb6⟩;have HB6:=hid hb6;have HD6:=hid (HDone.out w6 a6 c6 hO6 hb6);have q0:=cell_later hb6 HP0.out;have qf:w6.frozen? ⟨p,0,none⟩=false:=(by rw [hb6.frozen hpv];exact HF0.out);clear hO6 hb6))
    refine zk hK 20 262143 2 (H7.out _ HB6.out) fun hHeld=>?_
    clear hK K
    try simp only [zz]
    refine tn 18 20 524287 1 ?_
    simp only [zz]
    refine zr 19 fun K hK=>?_
    go_simp
    refine zk hK 20 1048575 0 (HD6.out.2) fun hHeld=>?_
    clear hK K
    try simp only [zz]
    refine zn ?_ _
    (try go_wp2)
    go_meet
    exact⟨rfl,HD6.out.1⟩
   refine AllReadyH.cons rfl (fun K hK=>?_) AllReadyH.nil
   go_simp
   refine zk hK 20 32749 7 (H7.out _ (by first|exact (Below.refl _ _).drew|exact (below1 _ _).drew)) fun hHeld=>?_
   clear hK K
   try simp only [zz]
   refine tv 15 (v:=.slice ac m2 cc) ?_ ?_
   ·(intro w hSw;(try dsimp only at hSw);exact ex_slice (vlo:=some (.int .i64 ((o:Int)+(d:Int)))) (vhi:=none) (vmx:=none) rfl rfl rfl rfl rfl (HS2.out _))
   simp only [zz]
   refine nm 20 65517 6 ?_
   refine zr 1 fun K hK=>?_
   go_simp
   refine zk hK 20 65519 5 (H7.out _ (by first|exact (Below.refl _ _).drew|exact (below1 _ _).drew)) fun hHeld=>?_
   clear hK K
   try simp only [zz]
   refine tv 4 (v:=.slice x.ba o x.bc) ?_ ?_
   ·(intro w hSw;(try dsimp only at hSw);exact ex_slice (vlo:=none) (vhi:=some (.int .i64 (o:Int))) (vmx:=none) rfl rfl rfl rfl rfl (HS1.out _))
   simp only [zz]
   refine nm 20 65535 4 ?_
   refine zr 16 fun K hK=>?_
   go_simp
   refine zk hK 20 131071 3 (H7.out _ (by first|exact (Below.refl _ _).drew|exact (below1 _ _).drew)) fun hHeld=>?_
   clear hK K
   try simp only [zz]
   refine zr 17 fun K hK=>?_
   go_simp
   go_wp2_with (first|(go_at_call 77;refine (HCon.out v _ HB0v.out (by first|exact (Below.refl _ _).drew|exact (below1 _ _).drew) (by simp [go_sem]) (by simp [go_sem]) (by simp [go_sem])).mono ?_;rintro e w6 ⟨a6,c6,rfl,hO6,hb6⟩;have HB6:=hid hb6;have HD6:=hid (HDone.out w6 a6 c6 hO6 hb6);have q0:=cell_later hb6 HP0.out;have qf:w6.frozen? ⟨p,0,none⟩=false:=(by rw [hb6.frozen hpv];exact HF0.out);clear hO6 hb6))
   refine zk hK 20 262143 2 (H7.out _ HB6.out) fun hHeld=>?_
   clear hK K
   try simp only [zz]
   refine tn 18 20 524287 1 ?_
   simp only [zz]
   refine zr 19 fun K hK=>?_
   go_simp
   refine zk hK 20 1048575 0 (HD6.out.2) fun hHeld=>?_
   clear hK K
   try simp only [zz]
   refine zn ?_ _
   (try go_wp2)
   go_meet
   exact⟨rfl,HD6.out.1⟩
  case rest =>
  rename World=>V7
  obtain⟨rfl,a6,c6,r0,r1,hO7,hb7⟩:=hcut
  have hnp:¬N p:=HK2.out.new hp
  have g2:=HK2.out.olt
  have g3:=HK2.out.llt
  have g1:=HK2.out.glt
  have k7:=HKv.out.but hb7 (fun j hj e=>hnp (e ▸ hj)) (by omega) (by omega) (by omega)
  have HC7:Hid (V7.cell? ⟨w.heap.size,3,none⟩=some (.int .i64 c.obj)):=cell_but hb7 (H3.out v HB0v.out) (by simp only;omega)
  have HZ7:=hid (HZ1.out.but hb7 (by omega))
  have HW7:Hid (WentP w h N V7 N):=⟨(WentP.later (N:=N) (h:=h) (below_call HB.out HB0v.out)).1.comp hb7 (fun i e=>.inr (by omega)),fun _ h=>.inl h⟩
  have hg6:∀j,Blk a6 j→v.heap.size≤j:=fun j hj=>(Ow.blk hO7 j hj).1
  have hx7:=k7.er x HXm.out.1
  have kx:=Er.ew k7 hx7
  have kew:Ew V7.drew h ⟨c.obj,B',a6,c6,x.T,x.ta,x.tc⟩:=⟨by simp only;rw [HBm.out];exact hO7.mono (Nat.zero_le _),kx.t,fun j hj=>by have:=hg6 j hj;exact⟨by omega,by omega,by omega⟩,kx.nt⟩
  obtain⟨V8,hr8,k8,hb8,-⟩:=(k7.later (Below.refl V7.heap.size V7).drew).swapO HRi.out _ hc ⟨x,HXm.out.1,HXm.out.2⟩ hlE kew
  simp only [En.val,HBm.out,←HN.out] at hr8
  have HS:Hid (V7.drew.cell? ⟨h.g,12,none⟩=some (.map (some h.bo))∧V7.drew.cell? ⟨w.heap.size,3,none⟩=some (.int .i64 c.obj)∧V7.drew.cell? ⟨p,0,none⟩=some (.slice a6 mm c6)∧V7.drew.cell? ⟨p,1,none⟩=some (.slice x.ta n x.tc)):=⟨k7.cell 12 rfl,HC7.out,r0,r1⟩
  have HSb:Hid (V8.cell? ⟨h.g,12,none⟩=some (.map (some h.bo))∧V8.cell? ⟨w.heap.size,3,none⟩=some (.int .i64 c.obj)∧V8.cell? ⟨p,0,none⟩=some (.slice a6 mm c6)∧V8.cell? ⟨p,1,none⟩=some (.slice x.ta n x.tc)):=⟨k8.cell 12 rfl,cell_but hb8 HS.out.2.1 (by simp only;omega),cell_but hb8 HS.out.2.2.1 (by simp only;omega),cell_but hb8 HS.out.2.2.2 (by simp only;omega)⟩
  have HK8:=hid k8
  have HW8:Hid (WentP w h N V8 (NE N ⟨c.obj,B',a6,c6,x.T,x.ta,x.tc⟩)):=by
   have h1:=HW7.out.trans ((WentP.later (N:=N) (Below.refl V7.heap.size V7).drew).trans (went_o hb8))
   refine⟨h1.1,fun j hj=>?_⟩
   rcases hj with hj|hj|hj
   ·exact .inl hj
   ·exact .inr (by have:=hg6 j hj;have:=HB0v.out.size;have:=HB.out.size;omega)
   ·exact .inl (hx7.nt j hj)
  have hnb:¬NE N ⟨c.obj,B',a6,c6,x.T,x.ta,x.tc⟩ (w.heap.size+1):=fun e=>by
   have:=HZ1.out.lt
   rcases e with e|e|e
   ·exact HK0.out.new (Nat.le_succ _) e
   ·have:=hg6 _ e;omega
   ·exact HK0.out.new (Nat.le_succ _) (hx7.nt _ e)
  have HNb:=hid hnb
  have HZ8:=hid ((HZ7.out.later (Below.refl V7.heap.size V7).drew).but hb8 (by omega))
  have HS9:=hid (HZ8.out.st (rep 0) none 0 0)
  have HL9:=hid (HZ8.out.lv (rep 0) none 0 0)
  clear r0 r1 k7 hx7 kx kew k8 hb8 hnb hO7 hb7 cp0 cp1 fp0 fp1
  go_upto_region 8 with fail
  go_cut [58] (fun z U=>z=.int .i64 c.obj∧U=V8)
  case first =>
   go_region_held3 (fun U=>U.cell? ⟨h.g,12,none⟩=some (.map (some h.bo))∧U.cell? ⟨w.heap.size,3,none⟩=some (.int .i64 c.obj)∧U.cell? ⟨p,0,none⟩=some (.slice a6 mm c6)∧U.cell? ⟨p,1,none⟩=some (.slice x.ta n x.tc)) (first|exact HS.out|exact HSb.out) (fail)
   all_goals (try go_wp2)
   all_goals go_meet
   all_goals exact⟨rfl,rfl⟩
  case rest =>
  obtain⟨rfl,hVe⟩:=hcut
  subst hVe
  go_wp2_with (first|((with_reducible refine st_arm HS9.out ?_ ?_ ?_);(· rfl);(· rfl)))
  have hfin:=done_fin HK0.out HK8.out HW8.out (Nat.le_succ _) HNb.out (rep 0) rfl
  rw [HFin.out _ rfl] at hfin
  simp only [List.append_assoc] at hfin
  exact bodyPost_ret (v:=rpV (rep 0) none 0 0) (by simp [results,Tryz.results55,asAddr,HL9.out]) rfl hfin
 ·rw [if_neg h2]
  have hr:rgB (bl:Int) c.off (dd.n:Int)=false:=by
   cases hq:rgB (bl:Int) c.off (dd.n:Int) with
   | true=>have:=(rg_iff _ _ _).1 hq;exact absurd ⟨this.1,by omega,this.2.2.2⟩ h2
   | false=>rfl
  rw [hr] at HRg
  clear hr h2 hTne
  go_enter Tryz.func55,Tryz.ntmps55
  go_upto_region 1 with fail
  rw [←HW.out]
  go_upto_region 4 with (first|((with_reducible refine R.ld_arm HLd.out ?_ ?_);(· rfl))|(go_at_call 75;refine HV.out.mono ?_;rintro e w1 ⟨rfl,hb1⟩;have HB1:=hid hb1;clear hb1))
  have HZ1:=hid (HZ.out.later HB1.out)
  have HK2:=hid (HK.out.later HB1.out)
  have HKey:Hid (∀U:World,Below w1.heap.size w1 U→U.cell? ⟨w.heap.size,3,none⟩=some (.int .i64 c.obj)):=fun U hU=>H3.out U (below_call HB1.out hU)
  have hs4:w.heap.size+1<w1.heap.size:=HZ1.out.lt
  have H0:Hid (∀U:World,Below w1.heap.size w1 U→U.cell? ⟨h.g,12,none⟩=some (.map (some h.bo))∧U.cell? ⟨w.heap.size,3,none⟩=some (.int .i64 c.obj)∧(Instr.lookup 58 (.map (some h.bo)) (.int .i64 c.obj) false).run Tryz.prog U=.ok (.agg #[.slice x.ba bl x.bc,.slice x.ta n x.tc]) U):=fun U hU=>⟨(HK2.out.later hU).cell 12 rfl,HKey.out U hU,HLk.out U _ (HK2.out.later hU)⟩
  go_cut [6] (fun vp U=>∃p,vp=.pointer (some ⟨p,0,none⟩)∧U.cell? ⟨p,0,none⟩=some (.slice x.ba bl x.bc)∧U.cell? ⟨p,1,none⟩=some (.slice x.ta n x.tc)∧U.frozen? ⟨p,0,none⟩=false∧U.frozen? ⟨p,1,none⟩=false∧w1.heap.size≤p∧Below w1.heap.size w1 U)
  case first =>
   go_region_held3 (fun U=>U.cell? ⟨h.g,12,none⟩=some (.map (some h.bo))∧U.cell? ⟨w.heap.size,3,none⟩=some (.int .i64 c.obj)∧(Instr.lookup 58 (.map (some h.bo)) (.int .i64 c.obj) false).run Tryz.prog U=.ok (.agg #[.slice x.ba bl x.bc,.slice x.ta n x.tc]) U) (first|exact H0.out _ (Below.refl _ _).drew|exact H0.out _ (below1 _ _).drew|exact H0.out _ (below1 _ _)) (fail)
   all_goals (try go_wp2)
   all_goals go_meet
   all_goals exact⟨w1.heap.size,rfl,by simp [go_sem],by simp [go_sem],by simp [go_sem],by simp [go_sem],Nat.le_refl _,by first|exact (below1 _ _).drew|exact below1 _ _|exact (Below.refl _ _).drew.alloc (Nat.le_refl _) _⟩
  case rest =>
  rename World=>v
  obtain⟨p,rfl,cp0,cp1,fp0,fp1,hp,hbv⟩:=hcut
  have HKv:=hid (HK2.out.later hbv)
  have HBv:=hid hbv
  have hpv:p<v.heap.size:=World.block_lt_of_cell? _ _ cp0
  have hsv:=HBv.out.size
  have HB0v:=hid (below_call HB1.out hbv)
  have HZ1:=hid (HZ1.out.later hbv)
  obtain⟨x8,x10⟩:=H5.out v HB0v.out
  clear hbv
  go_upto_region 6 with (first|(go_at_call 76;refine (HRg.out _).mono ?_;rintro e w3 ⟨rfl,hw3⟩;obtain rfl:=hw3.symm;clear hw3))
  have HR_:=hid (refused_any 5 v)
  go_wp2_with (first|(go_at_call 28;refine HR_.out.mono ?_;rintro e_ w3 ⟨rfl,hb3⟩;have HB3:=hid hb3;have HZ9:=hid (HZ1.out.later HB3.out);have HS9:=hid (HZ9.out.st (rep 5) none 0 0);have HL9:=hid (HZ9.out.lv (rep 5) none 0 0);clear hb3)|((with_reducible refine st_arm HS9.out ?_ ?_ ?_);(· rfl);(· rfl)))
  exact bodyPost_ret (v:=rpV (rep 5) none 0 0) (by simp [results,Tryz.results55,asAddr,HL9.out]) rfl (refuse_fin HK0.out HKv.out (WentP.later (below_call HB.out HB0v.out)) HB3.out (Nat.le_succ _) (rep 5) rfl)
end
end Go.Proofs.YtffmodpgddecnaaGreat.V.E
