import Derived.Test.YtffmodpgddecnaaGreatZ11
set_option linter.unusedVariables false
set_option linter.unusedSimpArgs false
namespace Go.Proofs.YtffmodpgddecnaaGreat.V.E
open Go.RowKit Go.Maps
open Go.Proofs.YtffmodpgddecnaaGreat.H (B64 Cp)
section
variable {w w':World}{h:Hm}{q:Pl}{N:Nat→Prop}{Es:List En}{Ls:List Ln}
theorem Md.lv (k:Md w h q N Es Ls):(Es.map lenT).sum=lvN q.O:=by
 unfold lvN
 rw [←k.oe,List.map_map]
 rfl
theorem Md.pg (k:Md w h q N Es Ls):(Es.map lenB).sum=S.usedV (vO q.O):=by
 unfold S.usedV vO
 rw [←k.oe,List.map_map,List.map_map]
 rfl
theorem sum_mem:∀(O:List (Int×Ob)) (e:Int×Ob),e∈O→e.2.T.length≤(O.map fun e=>e.2.T.length).sum
 | [],e,h=>by cases h
 | y::r,e,h=>by
  rw [List.map_cons,List.sum_cons]
  rcases List.mem_cons.1 h with rfl|h
  ·omega
  ·have:=sum_mem r e h;omega
theorem tk_le (O:List (Int×Ob))(x:Int):(tkO O x).length≤lvN O:=by
 unfold tkO obO
 cases hf:O.find? (fun q=>decide (q.1=x)) with
 | none=>simp
 | some e=>exact sum_mem O e (List.mem_of_find?_eq_some hf)
theorem lives_any (k:Md w h q N Es Ls){p:Pm}(hf:Fit p q):Calls Tryz.prog 87 #[.pointer (some ⟨h.g,0,none⟩)] w fun e w'=>e=.returned (.int .i64 (lvN q.O:Int))∧Below w.heap.size w w':=by
 have h1:=k.lv
 have:=live_any k hf (by rw [h1];have:=hf.mo;omega)
 rw [h1] at this
 exact this
theorem pgs_any (k:Md w h q N Es Ls){p:Pm}(hf:Fit p q):Calls Tryz.prog 85 #[.pointer (some ⟨h.g,0,none⟩)] w fun e w'=>e=.returned (.int .i64 (S.usedV (vO q.O):Int))∧Below w.heap.size w w':=by
 have h1:=k.pg
 have:=pages_any k hf (by rw [h1];have:=hf.pg;omega) (fun e he=>by
  have h2:=hf.ob e.o (by rw [←k.oe];exact List.mem_map_of_mem he)
  exact h2.2.1)
 rw [h1] at this
 exact this
def srT (p:Pm)(q:Pl)(c:Cp)(rt:Int):Tn:=if srE p q c rt=0 then (fnd (tkO q.O c.1) c.2.1 c.2.2).getD tn0 else tn0
set_option maxRecDepth 100000 in
set_option maxHeartbeats 4000000 in
theorem source_any (k:Md w h q N Es Ls)(hf:Fit h.p q)(hcf:h.cf.may=true)(c:Cp)(rt:Int)(hc:S.i64ok c.1):Calls Tryz.prog 71 #[.pointer (some ⟨h.g,0,none⟩),cV c,.int .i64 rt] w fun e w'=>e=.returned (.tuple #[tnV (srT h.p q c rt),.int .i64 (srE h.p q c rt)])∧Below w.heap.size w w':=by
 have hl:(tkO q.O c.1).length≤1024:=by have:=tk_le q.O c.1;have:=hf.mo;omega
 obtain⟨o,hi,lo⟩:=c
 simp only at hc hl ⊢
 obtain⟨W,hW⟩:∃W,W=(w.alloc (cO (o,hi,lo))).alloc zT:=⟨_,rfl⟩
 have hB:Below w.heap.size w W:=by rw [hW];exact below2 _ _ _
 have k1:=k.later hB
 have hcc:W.cell? ⟨w.heap.size,0,none⟩=some (.int .i64 o)∧W.cell? ⟨w.heap.size,1,none⟩=some (.int .u64 (hi:Int))∧W.cell? ⟨w.heap.size,2,none⟩=some (.int .u64 (lo:Int)):=by rw [hW];exact⟨by simp [go_sem],by simp [go_sem],by simp [go_sem]⟩
 have hzt:Tc W (w.heap.size+1) 0 tn0∧∀j,j<5→W.frozen? ⟨w.heap.size+1,j,none⟩=false:=by rw [hW];exact⟨⟨by simp [go_sem,tn0],by simp [go_sem,tn0],by simp [go_sem,tn0],by simp [go_sem,tn0],by simp [go_sem,tn0]⟩,fun j hj=>by simp [go_sem]⟩
 obtain⟨y0,y1,y2⟩:=hcc
 have hcm:=Cf.may_iff.1 hcf
 have HG:=hid (given_any k1 (o,hi,lo) 4 hc hl)
 have hgl:=k.glt
 obtain⟨x,hx⟩:∃x,x=enA Es o:=⟨_,rfl⟩
 have htk:=k1.tk o
 rw [←hx] at htk
 have H0:Hid (∀U:World,Below W.heap.size W U→U.cell? ⟨h.g,12,none⟩=some (.map (some h.bo))∧U.cell? ⟨w.heap.size,0,none⟩=some (.int .i64 o)∧U.cell? ⟨h.g,4,none⟩=some (.int .i64 h.cf.q)∧(Instr.lookup 58 (.map (some h.bo)) (.int .i64 o) false).run Tryz.prog U=.ok (.agg #[.slice x.ba x.b.length x.bc,.slice x.ta (tkO q.O o).length x.tc]) U):=fun U hU=>by
  have kU:=k1.later hU
  refine⟨kU.cell 12 rfl,cell_later hU y0,kU.cell 4 rfl,?_⟩
  rw [kU.look hc,←hx,←htk]
  rfl
 have HLv:Hid (∀U:World,Below W.heap.size W U→Calls Tryz.prog 87 #[.pointer (some ⟨h.g,0,none⟩)] U fun e w'=>e=.returned (.int .i64 (lvN q.O:Int))∧Below U.heap.size U w'):=fun U hU=>lives_any (k1.later hU) hf
 have H3:Hid (∀U:World,Below W.heap.size W U→U.cell? ⟨h.g,3,none⟩=some (.int .i64 h.cf.m)∧Below W.heap.size W U):=fun U hU=>⟨(k1.later hU).cell 3 rfl,hU⟩
 have hmo:h.p.mo=h.cf.m.toNat:=rfl
 have hpe:h.p.e=h.cf.q:=rfl
 have HZt:=hid hzt
 have HB:=hid hB
 have HW:=hid hW
 have HPt:=hid (fun a b=>part_any a b)
 have hlvm:=hf.mo.2
 unfold srT srE
 simp only [hmo,hpe] at HG ⊢
 obtain⟨bl,hbl⟩:∃bl,bl=x.b.length:=⟨_,rfl⟩
 rw [←hbl] at H0
 obtain⟨T,hT⟩:∃T,T=tkO q.O o:=⟨_,rfl⟩
 unfold gvT giv at HG
 simp only at HG
 rw [←hT] at H0 HG ⊢
 obtain⟨L,hL⟩:∃L,L=lvN q.O:=⟨_,rfl⟩
 rw [←hL] at HLv hlvm ⊢
 clear k k1 hB hW hzt hc hf hx htk hbl hT hL hmo hpe
 generalize hn:T.length=n at *
 clear hn
 cases hfn:fnd T hi lo with
 | none =>
  simp only
  rw [hfn] at HG
  simp only [tn0,Int.cast_ofNat_Int] at HG
  rw [if_neg (by decide)]
  clear hfn
  go_enter Tryz.func71,Tryz.ntmps71
  go_upto_region 1 with fail
  rw [←HW.out]
  go_upto_region 2 with (first|(go_at_call 70;refine HG.out.mono ?_;rintro e w2 ⟨rfl,hb2⟩;have HB2:=hid hb2;clear hb2))
  obtain⟨U1,hU1⟩:∃U1,U1=w2.alloc (.cells #[.int .u64 0,.int .u64 0,.int .i64 0,.int .u64 0,.int .u64 0] 88):=⟨_,rfl⟩
  have hb1:Below w2.heap.size w2 U1:=by rw [hU1];exact below1 _ _
  have hbW:=below_call HB2.out hb1
  have kn:Tc U1 w2.heap.size 0 tn0:=by rw [hU1];exact⟨by simp [go_sem,tn0],by simp [go_sem,tn0],by simp [go_sem,tn0],by simp [go_sem,tn0],by simp [go_sem,tn0]⟩
  have HKN:=hid kn
  have HKZ1:=hid (HZt.out.1.later hbW)
  have HF1:Hid (∀j,j<5→U1.frozen? ⟨w.heap.size+1,j,none⟩=false):=fun j hj=>by have hltU:w.heap.size+1<W.heap.size:=World.block_lt_of_cell? _ _ HZt.out.1.c0;rw [hbW.frozen hltU];exact HZt.out.2 j hj
  have HBU:=hid (below_call HB.out hbW)
  have HUe:=hid hU1
  clear hU1 hb1 hbW kn
  rw [←HUe.out]
  clear y0 y1 y2
  go_upto_region 3 with fail
  obtain⟨z0,z1,z2,z3,z4⟩:=HKZ1.out
  have f0:=HF1.out 0 (by omega)
  have f1:=HF1.out 1 (by omega)
  have f2:=HF1.out 2 (by omega)
  have f3:=HF1.out 3 (by omega)
  have f4:=HF1.out 4 (by omega)
  go_wp2
  have hl:=lv83 (w:=set5 U1 (w.heap.size+1) tn0) (set5_tc HKZ1.out tn0)
  have hb5:=set5_but (w:=U1) (B:=(·=w.heap.size+1)) (b:=w.heap.size+1) rfl tn0
  refine bodyPost_ret (v:=.tuple #[tnV tn0,.int .i64 3]) (by simp only [set5,tn0,Int.cast_ofNat_Int] at hl;simp [results,Tryz.results71,asAddr,hl,tn0]) rfl ⟨rfl,?_⟩
  have hfin:=But.below HBU.out hb5 (fun k e=>by omega)
  simpa [set5,tn0] using hfin
 | some t =>
  simp only [Option.getD_some]
  rw [hfn] at HG
  simp only at HG
  clear hfn
  cases hpb:partB 4 t.r with
  | false =>
   rw [hpb] at HG
   simp only [if_true,tn0,Int.cast_ofNat_Int] at HG
   simp only [if_true]
   rw [if_neg (by decide)]
   go_enter Tryz.func71,Tryz.ntmps71
   go_upto_region 1 with fail
   rw [←HW.out]
   go_upto_region 2 with (first|(go_at_call 70;refine HG.out.mono ?_;rintro e w2 ⟨rfl,hb2⟩;have HB2:=hid hb2;clear hb2))
   obtain⟨U1,hU1⟩:∃U1,U1=w2.alloc (.cells #[.int .u64 0,.int .u64 0,.int .i64 0,.int .u64 0,.int .u64 0] 88):=⟨_,rfl⟩
   have hb1:Below w2.heap.size w2 U1:=by rw [hU1];exact below1 _ _
   have hbW:=below_call HB2.out hb1
   have kn:Tc U1 w2.heap.size 0 tn0:=by rw [hU1];exact⟨by simp [go_sem,tn0],by simp [go_sem,tn0],by simp [go_sem,tn0],by simp [go_sem,tn0],by simp [go_sem,tn0]⟩
   have HKN:=hid kn
   have HKZ1:=hid (HZt.out.1.later hbW)
   have HF1:Hid (∀j,j<5→U1.frozen? ⟨w.heap.size+1,j,none⟩=false):=fun j hj=>by have hltU:w.heap.size+1<W.heap.size:=World.block_lt_of_cell? _ _ HZt.out.1.c0;rw [hbW.frozen hltU];exact HZt.out.2 j hj
   have HBU:=hid (below_call HB.out hbW)
   have HUe:=hid hU1
   clear hU1 hb1 hbW kn
   rw [←HUe.out]
   clear y0 y1 y2
   go_upto_region 3 with fail
   obtain⟨z0,z1,z2,z3,z4⟩:=HKZ1.out
   have f0:=HF1.out 0 (by omega)
   have f1:=HF1.out 1 (by omega)
   have f2:=HF1.out 2 (by omega)
   have f3:=HF1.out 3 (by omega)
   have f4:=HF1.out 4 (by omega)
   go_wp2
   have hl:=lv83 (w:=set5 U1 (w.heap.size+1) tn0) (set5_tc HKZ1.out tn0)
   have hb5:=set5_but (w:=U1) (B:=(·=w.heap.size+1)) (b:=w.heap.size+1) rfl tn0
   refine bodyPost_ret (v:=.tuple #[tnV tn0,.int .i64 4]) (by simp only [set5,tn0,Int.cast_ofNat_Int] at hl;simp [results,Tryz.results71,asAddr,hl,tn0]) rfl ⟨rfl,?_⟩
   have hfin:=But.below HBU.out hb5 (fun k e=>by omega)
   simpa [set5,tn0] using hfin
  | true =>
   rw [hpb] at HG
   simp only [if_false,Bool.true_eq_false] at HG ⊢
   cases hpt:partB rt t.r with
   | false =>
    simp only [if_true]
    rw [if_neg (by decide)]
    go_enter Tryz.func71,Tryz.ntmps71
    go_upto_region 1 with fail
    rw [←HW.out]
    go_upto_region 2 with (first|(go_at_call 70;refine HG.out.mono ?_;rintro e w2 ⟨rfl,hb2⟩;have HB2:=hid hb2;clear hb2))
    obtain⟨U1,hU1⟩:∃U1,U1=w2.alloc (.cells #[.int .u64 (t.hi:Int),.int .u64 (t.lo:Int),.int .i64 t.r,.int .u64 (t.uh:Int),.int .u64 (t.ul:Int)] 88):=⟨_,rfl⟩
    have hb1:Below w2.heap.size w2 U1:=by rw [hU1];exact below1 _ _
    have hbW:=below_call HB2.out hb1
    have kn:Tc U1 w2.heap.size 0 t:=by rw [hU1];exact⟨by simp [go_sem],by simp [go_sem],by simp [go_sem],by simp [go_sem],by simp [go_sem]⟩
    have HKN:=hid kn
    have HKZ1:=hid (HZt.out.1.later hbW)
    have HF1:Hid (∀j,j<5→U1.frozen? ⟨w.heap.size+1,j,none⟩=false):=fun j hj=>by have hltU:w.heap.size+1<W.heap.size:=World.block_lt_of_cell? _ _ HZt.out.1.c0;rw [hbW.frozen hltU];exact HZt.out.2 j hj
    have HBU:=hid (below_call HB.out hbW)
    have HUe:=hid hU1
    clear hU1 hb1 hbW kn
    rw [←HUe.out]
    clear y0 y1 y2
    obtain⟨n0,n1,n2,n3,n4⟩:=HKN.out
    go_upto_region 5 with (first|(go_at_call 91;refine (HPt.out _ _ _).mono ?_;rintro e w3 ⟨rfl,hw3⟩;obtain rfl:=hw3.symm;clear hw3;rw [hpt]))
    obtain⟨z0,z1,z2,z3,z4⟩:=HKZ1.out
    have f0:=HF1.out 0 (by omega)
    have f1:=HF1.out 1 (by omega)
    have f2:=HF1.out 2 (by omega)
    have f3:=HF1.out 3 (by omega)
    have f4:=HF1.out 4 (by omega)
    go_wp2
    have hl:=lv83 (w:=set5 U1 (w.heap.size+1) tn0) (set5_tc HKZ1.out tn0)
    have hb5:=set5_but (w:=U1) (B:=(·=w.heap.size+1)) (b:=w.heap.size+1) rfl tn0
    refine bodyPost_ret (v:=.tuple #[tnV tn0,.int .i64 4]) (by simp only [set5,tn0,Int.cast_ofNat_Int] at hl;simp [results,Tryz.results71,asAddr,hl,tn0]) rfl ⟨rfl,?_⟩
    have hfin:=But.below HBU.out hb5 (fun k e=>by omega)
    simpa [set5,tn0] using hfin
   | true =>
    simp only [if_false,Bool.true_eq_false]
    obtain⟨E,hE⟩:∃E,E=(if h.cf.q≤(n:Int) then (9:Int) else if h.cf.m.toNat≤L then 10 else 0):=⟨_,rfl⟩
    rw [←hE]
    obtain⟨Y,hY⟩:∃Y,Y=(if E=0 then t else tn0):=⟨_,rfl⟩
    rw [←hY]
    have HE:=hid hE
    have HY:=hid hY
    clear hE hY
    go_enter Tryz.func71,Tryz.ntmps71
    go_upto_region 1 with fail
    rw [←HW.out]
    go_upto_region 2 with (first|(go_at_call 70;refine HG.out.mono ?_;rintro e w2 ⟨rfl,hb2⟩;have HB2:=hid hb2;clear hb2))
    obtain⟨U1,hU1⟩:∃U1,U1=w2.alloc (.cells #[.int .u64 (t.hi:Int),.int .u64 (t.lo:Int),.int .i64 t.r,.int .u64 (t.uh:Int),.int .u64 (t.ul:Int)] 88):=⟨_,rfl⟩
    have hb1:Below w2.heap.size w2 U1:=by rw [hU1];exact below1 _ _
    have hbW:=below_call HB2.out hb1
    have kn:Tc U1 w2.heap.size 0 t:=by rw [hU1];exact⟨by simp [go_sem],by simp [go_sem],by simp [go_sem],by simp [go_sem],by simp [go_sem]⟩
    have HKN:=hid kn
    have HKZ1:=hid (HZt.out.1.later hbW)
    have HF1:Hid (∀j,j<5→U1.frozen? ⟨w.heap.size+1,j,none⟩=false):=fun j hj=>by have hltU:w.heap.size+1<W.heap.size:=World.block_lt_of_cell? _ _ HZt.out.1.c0;rw [hbW.frozen hltU];exact HZt.out.2 j hj
    have HBU:=hid (below_call HB.out hbW)
    have HUe:=hid hU1
    clear hU1 hb1 hbW kn
    rw [←HUe.out]
    have HB1:Hid (Below W.heap.size W U1):=by have:=HUe.out;rw [this];exact below_call HB2.out (below1 _ _)
    clear y0 y1 y2
    obtain⟨n0,n1,n2,n3,n4⟩:=HKN.out
    have hfd:=fdO1
    go_upto_region 6 with (first|(go_at_call 91;refine (HPt.out _ _ _).mono ?_;rintro e w3 ⟨rfl,hw3⟩;obtain rfl:=hw3.symm;clear hw3;rw [hpt]))
    go_cut [28] (fun v28 U=>v28=.bool (decide ((n:Int)≥h.cf.q))∧Hid (Below U1.heap.size U1 U))
    case first =>
     go_region_held3 (fun U=>U.cell? ⟨h.g,12,none⟩=some (.map (some h.bo))∧U.cell? ⟨w.heap.size,0,none⟩=some (.int .i64 o)∧U.cell? ⟨h.g,4,none⟩=some (.int .i64 h.cf.q)∧(Instr.lookup 58 (.map (some h.bo)) (.int .i64 o) false).run Tryz.prog U=.ok (.agg #[.slice x.ba bl x.bc,.slice x.ta n x.tc]) U) (first|exact H0.out _ HB1.out.drew) (fail)
     all_goals (try go_wp2)
     all_goals go_meet
     all_goals exact⟨rfl,(Below.refl _ _).drew⟩
    case rest =>
    rename World=>v
    obtain⟨rfl,HBv⟩:=hcut
    clear n0 n1 n2 n3 n4 hfd
    have HF1:Hid (∀j,j<5→v.frozen? ⟨w.heap.size+1,j,none⟩=false):=fun j hj=>by have hltU:w.heap.size+1<U1.heap.size:=World.block_lt_of_cell? _ _ HKZ1.out.c0;rw [HBv.out.frozen hltU];exact HF1.out j hj
    have HKZ1:=hid (HKZ1.out.later HBv.out)
    have HKN:=hid (HKN.out.later HBv.out)
    have HBU:=hid (below_call HBU.out HBv.out)
    have HB1:=hid (below_call HB1.out HBv.out)
    by_cases hq:h.cf.q≤(n:Int)
    ·have hd:decide ((n:Int)≥h.cf.q)=true:=decide_eq_true hq
     have HQ:=hid hq
     rw [hd]
     clear hd hq
     go_upto_region 7 with fail
     obtain⟨z0,z1,z2,z3,z4⟩:=HKZ1.out
     have f0:=HF1.out 0 (by omega)
     have f1:=HF1.out 1 (by omega)
     have f2:=HF1.out 2 (by omega)
     have f3:=HF1.out 3 (by omega)
     have f4:=HF1.out 4 (by omega)
     go_wp2
     have hl:=lv83 (w:=set5 v (w.heap.size+1) tn0) (set5_tc HKZ1.out tn0)
     have hb5:=set5_but (w:=v) (B:=(·=w.heap.size+1)) (b:=w.heap.size+1) rfl tn0
     refine bodyPost_ret (v:=.tuple #[tnV tn0,.int .i64 9]) (by simp only [set5,tn0,Int.cast_ofNat_Int] at hl;simp [results,Tryz.results71,asAddr,hl,tn0]) rfl ⟨by rw [HY.out,HE.out,if_pos HQ.out,if_neg (by decide)],?_⟩
     have hfin:=But.below HBU.out hb5 (fun k e=>by omega)
     simpa [set5,tn0] using hfin
    ·have hd:decide ((n:Int)≥h.cf.q)=false:=decide_eq_false hq
     have HQ:=hid hq
     rw [hd]
     clear hd hq
     go_upto_region 8 with fail
     go_cut [45] (fun v45 U=>v45=.bool (decide ((L:Int)≥h.cf.m))∧Hid (Below v.heap.size v U))
     case first =>
      go_region_held3 (fun U=>U.cell? ⟨h.g,3,none⟩=some (.int .i64 h.cf.m)∧Below W.heap.size W U) (first|exact H3.out _ HB1.out.drew|exact H3.out _ (below_call HB1.out HB3.out)) (first
       | (go_at_call 87;(with_reducible refine (HLv.out v.drew HB1.out.drew).mono ?_);rintro e w3 ⟨rfl,hb3⟩;have HB3:Hid (Below v.heap.size v w3):=below_call (Below.refl v.heap.size v).drew hb3;clear hb3))
      all_goals (try go_wp2)
      all_goals go_meet
      all_goals exact⟨rfl,HB3.out⟩
     case rest =>
     rename World=>u
     obtain⟨rfl,HBu⟩:=hcut
     have HF1:Hid (∀j,j<5→u.frozen? ⟨w.heap.size+1,j,none⟩=false):=fun j hj=>by have hltU:w.heap.size+1<v.heap.size:=World.block_lt_of_cell? _ _ HKZ1.out.c0;rw [HBu.out.frozen hltU];exact HF1.out j hj
     have HKZ1:=hid (HKZ1.out.later HBu.out)
     have HKN:=hid (HKN.out.later HBu.out)
     have HBU:=hid (below_call HBU.out HBu.out)
     have HB1:=hid (below_call HB1.out HBu.out)
     by_cases hm:h.cf.m.toNat≤L
     ·have hd:decide ((L:Int)≥h.cf.m)=true:=decide_eq_true (by omega)
      have HM:=hid hm
      rw [hd]
      clear hd hm
      go_upto_region 9 with fail
      obtain⟨z0,z1,z2,z3,z4⟩:=HKZ1.out
      have f0:=HF1.out 0 (by omega)
      have f1:=HF1.out 1 (by omega)
      have f2:=HF1.out 2 (by omega)
      have f3:=HF1.out 3 (by omega)
      have f4:=HF1.out 4 (by omega)
      go_wp2
      have hl:=lv83 (w:=set5 u (w.heap.size+1) tn0) (set5_tc HKZ1.out tn0)
      have hb5:=set5_but (w:=u) (B:=(·=w.heap.size+1)) (b:=w.heap.size+1) rfl tn0
      refine bodyPost_ret (v:=.tuple #[tnV tn0,.int .i64 10]) (by simp only [set5,tn0,Int.cast_ofNat_Int] at hl;simp [results,Tryz.results71,asAddr,hl,tn0]) rfl ⟨by rw [HY.out,HE.out,if_neg (show ¬h.cf.q≤(n:Int) by have:=HQ.out;omega),if_pos HM.out,if_neg (show ¬(10:Int)=0 by decide)],?_⟩
      have hfin:=But.below HBU.out hb5 (fun k e=>by omega)
      simpa [set5,tn0] using hfin
     ·have hd:decide ((L:Int)≥h.cf.m)=false:=decide_eq_false (by omega)
      have HM:=hid hm
      rw [hd]
      clear hd hm
      obtain⟨n0,n1,n2,n3,n4⟩:=HKN.out
      go_upto_region 10 with fail
      obtain⟨z0,z1,z2,z3,z4⟩:=HKZ1.out
      have f0:=HF1.out 0 (by omega)
      have f1:=HF1.out 1 (by omega)
      have f2:=HF1.out 2 (by omega)
      have f3:=HF1.out 3 (by omega)
      have f4:=HF1.out 4 (by omega)
      go_wp2
      have hl:=lv83 (w:=set5 u (w.heap.size+1) t) (set5_tc HKZ1.out t)
      have hb5:=set5_but (w:=u) (B:=(·=w.heap.size+1)) (b:=w.heap.size+1) rfl t
      refine bodyPost_ret (v:=.tuple #[tnV t,.int .i64 0]) (by simp only [set5] at hl;simp [results,Tryz.results71,asAddr,hl]) rfl ⟨by rw [HY.out,HE.out,if_neg (show ¬h.cf.q≤(n:Int) by have:=HQ.out;omega),if_neg (show ¬h.cf.m.toNat≤L by have:=HM.out;omega),if_pos rfl],?_⟩
      have hfin:=But.below HBU.out hb5 (fun k e=>by omega)
      exact hfin
end
end Go.Proofs.YtffmodpgddecnaaGreat.V.E
namespace Go.Proofs.YtffmodpgddecnaaGreat.V.E
open Go.RowKit Go.Maps
open Go.Proofs.YtffmodpgddecnaaGreat.H (B64 Cp)
section
variable {w w':World}{h:Hm}{q:Pl}{N:Nat→Prop}{Es:List En}{Ls:List Ln}
abbrev zC:Obj:=.cells #[.int .i64 0,.int .u64 0,.int .u64 0] 38
structure Cc3 (w:World)(b:Nat)(c:Cp):Prop where
 c0:w.cell? ⟨b,0,none⟩=some (.int .i64 c.1)
 c1:w.cell? ⟨b,1,none⟩=some (.int .u64 (c.2.1:Int))
 c2:w.cell? ⟨b,2,none⟩=some (.int .u64 (c.2.2:Int))
theorem Cc3.but {B:Nat→Prop}{b:Nat}{c:Cp}(k:Cc3 w b c)(hb:But B w w')(hn:¬B b):Cc3 w' b c:=⟨cell_but hb k.c0 hn,cell_but hb k.c1 hn,cell_but hb k.c2 hn⟩
theorem Cc3.later {b:Nat}{c:Cp}(k:Cc3 w b c)(hb:Below w.heap.size w w'):Cc3 w' b c:=k.but (B:=fun _=>False) (But.of hb) (fun h=>h)
theorem Cc3.new (w:World)(c:Cp):Cc3 (w.alloc (cO c)) w.heap.size c:=⟨by simp [go_sem],by simp [go_sem],by simp [go_sem]⟩
def Fz (w:World)(b n:Nat):Prop:=b<w.heap.size∧∀j,j<n→w.frozen? ⟨b,j,none⟩=false
theorem Fz.but {B:Nat→Prop}{b n:Nat}(k:Fz w b n)(hb:But B w w')(hn:¬B b):Fz w' b n:=⟨Nat.lt_of_lt_of_le k.1 hb.size,fun j hj=>by rw [World.frozen?_of_block (hb.block b k.1 hn)];exact k.2 j hj⟩
theorem Fz.later {b n:Nat}(k:Fz w b n)(hb:Below w.heap.size w w'):Fz w' b n:=k.but (B:=fun _=>False) (But.of hb) (fun h=>h)
def set3 (w:World)(b:Nat)(c:Cp):World:=((w.setCell ⟨b,0,none⟩ (.int .i64 c.1)).setCell ⟨b,1,none⟩ (.int .u64 (c.2.1:Int))).setCell ⟨b,2,none⟩ (.int .u64 (c.2.2:Int))
theorem set3_but {B:Nat→Prop}{b:Nat}(hB:B b)(c:Cp):But B w (set3 w b c):=by
 unfold set3
 exact (((But.refl B w).setCell (p:=⟨b,0,none⟩) hB _).setCell (p:=⟨b,1,none⟩) hB _).setCell (p:=⟨b,2,none⟩) hB _
theorem set3_cc {b:Nat}{u:Cp}(k:Cc3 w b u)(c:Cp):Cc3 (set3 w b c) b c:=by
 unfold set3
 refine⟨?_,?_,?_⟩
 ·rw [World.cell?_setCell_other _ _ _ _ (by simp),World.cell?_setCell_other _ _ _ _ (by simp)];exact World.cell?_setCell_same _ _ _ k.c0
 ·rw [World.cell?_setCell_other _ _ _ _ (by simp)];exact World.cell?_setCell_same _ _ _ (by rw [World.cell?_setCell_other _ _ _ _ (by simp)];exact k.c1)
 ·exact World.cell?_setCell_same _ _ _ (by rw [World.cell?_setCell_other _ _ _ _ (by simp),World.cell?_setCell_other _ _ _ _ (by simp)];exact k.c2)
theorem info40:(Tryz.prog.info? 38).map (·.size)=some 3:=by kernel_rfl
theorem lv40 {b:Nat}{c:Cp}(k:Cc3 w b c):(loadVar 38 ⟨b,0,none⟩).run Tryz.prog w=.ok (cV c) w :=
 run_loadVar_mid (P:=Tryz.prog) w b 0 38 [.int .i64 c.1,.int .u64 (c.2.1:Int),.int .u64 (c.2.2:Int)] _ (fun j v hv=>by
  match j,hv with
  | 0,hv=>simp at hv;subst hv;exact k.c0
  | 1,hv=>simp at hv;subst hv;exact k.c1
  | 2,hv=>simp at hv;subst hv;exact k.c2
  | j+3,hv=>simp at hv) Tryz.underlying38 rfl (by rw [info40];rfl)
def dnC (o:Int)(r:Nat×Int×Nat):Cp:=if r.2.1=0 then D.cap o r.1 else (0,0,0)
def DnRel (w:World)(h:Hm)(q:Pl)(N:Nat→Prop)(Es:List En)(Ls:List Ln)(o:Int)(v:Value)(U:World):Prop :=
 ∃(i ti:Nat),v=.int .i64 (i:Int)∧i≤9∧ti≤h.n∧pDrw h.p q o=D.drawR (fun N=>(fnd (tkO q.O o) (N / B64) (N%B64)).isSome) h.p.c h.p.n (9 - i) ti∧Md U h { q with t:=ti } N Es Ls∧But (·=h.g) w U∧Cc3 U w.heap.size (0,0,0)∧Fz U w.heap.size 3
set_option maxRecDepth 100000 in
set_option maxHeartbeats 4000000 in
theorem drawNew_any (k:Md w h q N Es Ls)(hf:Fit h.p q)(hcf:h.cf.may=true)(o:Int)(ho:S.i64ok o):Calls Tryz.prog 72 #[.pointer (some ⟨h.g,0,none⟩),.int .i64 o] w fun e w'=>e=.returned (.tuple #[cV (dnC o (pDrw h.p q o)),.int .i64 (pDrw h.p q o).2.1])∧Md w' h { q with t:=(pDrw h.p q o).2.2 } N Es Ls∧But (·=h.g) w w':=by
 have hl:(tkO q.O o).length≤1024:=by have:=tk_le q.O o;have:=hf.mo;omega
 have hW1:=(Cf.may_iff.1 hcf).1
 have hn:h.n≤4096:=hf.n
 have hle:q.t≤h.n:=hf.le
 have hgl:=k.glt
 have hol:=k.olt
 have hll:=k.llt
 have HN0:Hid (¬N w.heap.size):=k.new (Nat.le_refl _)
 have hcs:=hf.cs
 obtain⟨W,hW⟩:∃W,W=w.alloc zC:=⟨_,rfl⟩
 have hB:Below w.heap.size w W:=by rw [hW];exact below1 _ _
 have H0:Hid (DnRel w h q N Es Ls o (.int .i64 0) W):=⟨0,q.t,rfl,by omega,hle,rfl,k.later hB,But.of hB,by rw [hW];exact Cc3.new w (0,0,0),by rw [hW];exact⟨by simp,fun j hj=>by simp [go_sem]⟩⟩
 obtain⟨R,hR⟩:∃R,R=pDrw h.p q o:=⟨_,rfl⟩
 rw [←hR]
 have HR:=hid hR
 have HW:=hid hW
 have HCS:=hid hcs
 clear hR k hf hcf hle hB hW hcs
 go_enter Tryz.func72,Tryz.ntmps72
 go_upto_region 1 with fail
 rw [←HW.out]
 go_upto_region 2 with fail
 go_loopw [11] (DnRel w h q N Es Ls o) (fun v _=>9 - (intOf v).toNat)
 case atStart=>exact H0.out
 case round =>
  clear H0 HW
  obtain⟨i,ti,rfl,hi,hti,hd,kU,hbU,hC3,hFz⟩:=hrel
  rename World=>U
  have HD:=hid hd
  have HK:=hid kU
  have HBt:=hid hbU
  have HC3:=hid hC3
  have HFz:=hid hFz
  clear hd kU hbU hC3 hFz
  by_cases hx:i<9
  ·have hdi:decide ((i:Int)<9)=true:=decide_eq_true (by omega)
   have hwi:wrap64 ((i:Int)+1)=(i:Int)+1:=by unfold wrap64;omega
   obtain⟨m,hm⟩:∃m,9 - i=m+1:=⟨8 - i,by omega⟩
   by_cases ht:ti=h.n
   ·have HE:Hid (R=(0,11,ti)):=by
     unfold Hid
     rw [HR.out,HD.out,hm]
     rw [D.drawR,if_neg (show ¬ti<h.p.n by show ¬ti<h.n;omega)]
    have HDr:=hid (draw_no HK.out ht)
    clear hm
    go_upto_region 4 with (first|(go_at_call 69;refine HDr.out.mono ?_;rintro e w2 ⟨rfl,hb2⟩;have HB2:=hid hb2;clear hb2))
    obtain⟨U1,hU1⟩:∃U1,U1=w2.alloc (.cells #[.int .u64 0,.int .u64 0] 36):=⟨_,rfl⟩
    have hb1:=below_call HB2.out (show Below w2.heap.size w2 U1 by rw [hU1];exact below1 _ _)
    rw [←hU1]
    have HC3:=hid (HC3.out.later hb1)
    have HFz:=hid (HFz.out.later hb1)
    have HK1:=hid (HK.out.later hb1)
    have HBt:=hid (HBt.out.call hb1)
    clear hb1 hU1
    obtain⟨z0,z1,z2⟩:=HC3.out
    simp only [Int.cast_ofNat_Int] at z0 z1 z2
    have f0:=HFz.out.2 0 (by omega)
    have f1:=HFz.out.2 1 (by omega)
    have f2:=HFz.out.2 2 (by omega)
    go_wp2
    have hl:=lv40 (w:=set3 U1 w.heap.size ((0,0,0):Cp)) (set3_cc HC3.out ((0,0,0):Cp))
    have hb3:=set3_but (w:=U1) (B:=(·=w.heap.size)) (b:=w.heap.size) rfl ((0,0,0):Cp)
    refine bodyPost_ret (v:=.tuple #[cV (0,0,0),.int .i64 11]) (by simp only [set3,Int.cast_ofNat_Int] at hl;simp [results,Tryz.results72,asAddr,hl]) rfl ⟨by rw [HE.out];rfl,?_⟩
    rw [HE.out]
    have hK3:=HK1.out.but hb3 (fun j hj e=>HN0.out (e ▸ hj)) (by omega) (by omega) (by omega)
    have hB3:=HBt.out.comp hb3 (fun i e=>.inr (by omega))
    simp only [set3,Int.cast_ofNat_Int] at hK3 hB3
    exact⟨hK3,hB3⟩
   ·have htl:ti<h.n:=by omega
    have hN:=HCS.out ti htl
    have HDr:=hid (draw_ok HK.out htl hn hW1.1)
    simp only at HDr
    obtain⟨M,hM⟩:∃M,M=h.p.c ti:=⟨_,rfl⟩
    rw [←hM] at HDr hN
    have hhi:D.hiI M=((M / B64:Nat):Int):=rfl
    have hlo:D.loI M=((M%B64:Nat):Int):=rfl
    rw [hhi,hlo] at HDr
    obtain⟨mh,hmh⟩:∃mh,mh=M / B64:=⟨_,rfl⟩
    obtain⟨ml,hml⟩:∃ml,ml=M%B64:=⟨_,rfl⟩
    rw [←hmh,←hml] at HDr
    have HM:=hid hM
    have HMh:=hid hmh
    have HMl:=hid hml
    clear hM hhi hlo hmh hml
    go_upto_region 4 with (first|(go_at_call 69;refine HDr.out.mono ?_;rintro e w2 ⟨rfl,k2,hb2⟩;have HK2:=hid k2;have HB2:=hid hb2;clear k2 hb2))
    obtain⟨U1,hU1⟩:∃U1,U1=w2.alloc (.cells #[.int .u64 (mh:Int),.int .u64 (ml:Int)] 36):=⟨_,rfl⟩
    have hb1:Below w2.heap.size w2 U1:=by rw [hU1];exact below1 _ _
    have w0:U1.cell? ⟨w2.heap.size,0,none⟩=some (.int .u64 (mh:Int)):=by rw [hU1];simp [go_sem]
    have w1:U1.cell? ⟨w2.heap.size,1,none⟩=some (.int .u64 (ml:Int)):=by rw [hU1];simp [go_sem]
    rw [←hU1]
    clear hU1
    go_upto_region 7 with fail
    obtain⟨U2,hU2⟩:∃U2,U2=U1.alloc (cO (o,mh,ml)):=⟨_,rfl⟩
    have hb12:Below U1.heap.size U1 U2:=by rw [hU2];exact below1 _ _
    have hb2:=below_call hb1 hb12
    have HC8:Hid (Cc3 U2 U1.heap.size (o,mh,ml)):=by rw [hU2];exact Cc3.new U1 _
    first|rw [←hU2]|(unfold cO at hU2;rw [←hU2])
    have k3:=HK2.out.later hb2
    have HFn:=hid (find_any k3 (o,mh,ml) ho hl)
    simp only at HFn
    have hbw:But (·=h.g) w U2:=(HBt.out.trans HB2.out).call hb2
    have HK3:=hid k3
    have HBw:=hid hbw
    have HC3:=hid ((HC3.out.but HB2.out (by omega)).later hb2)
    have HFz:=hid ((HFz.out.but HB2.out (by omega)).later hb2)
    obtain⟨c0,c1,c2⟩:=HC8.out
    clear k3 hbw hb2 hU2 hb12 hb1 w0 w1
    cases hfn:fnd (tkO q.O o) mh ml with
    | none =>
     have HE:Hid (R=(M,0,ti+1)):=by
      unfold Hid
      rw [HR.out,HD.out,hm]
      rw [D.drawR,if_pos (show ti<h.p.n from htl),if_neg (by rw [←HM.out,←HMh.out,←HMl.out,hfn];simp),←HM.out]
     rw [hfn] at HFn
     unfold fdV at HFn
     simp only [Option.getD_none,Option.isSome_none,tn0,Int.cast_ofNat_Int] at HFn
     clear hfn hm
     go_upto_region 8 with (first|(go_at_call 89;refine HFn.out.mono ?_;rintro e w4 ⟨rfl,hb4⟩;have HB4:=hid hb4;clear hb4))
     obtain⟨U5,hU5⟩:∃U5,U5=w4.alloc (.cells #[.int .u64 0,.int .u64 0,.int .i64 0,.int .u64 0,.int .u64 0] 88):=⟨_,rfl⟩
     have hb5:=below_call HB4.out (show Below w4.heap.size w4 U5 by rw [hU5];exact below1 _ _)
     rw [←hU5]
     have HC3:=hid (HC3.out.later hb5)
     have HFz:=hid (HFz.out.later hb5)
     have HK5:=hid (HK3.out.later hb5)
     have HBt5:=hid (HBw.out.call hb5)
     have HC85:=hid (HC8.out.later hb5)
     clear c0 c1 c2
     obtain⟨c0,c1,c2⟩:=HC85.out
     clear hb5 hU5
     obtain⟨z0,z1,z2⟩:=HC3.out
     simp only [Int.cast_ofNat_Int] at z0 z1 z2
     have f0:=HFz.out.2 0 (by omega)
     have f1:=HFz.out.2 1 (by omega)
     have f2:=HFz.out.2 2 (by omega)
     go_wp2
     have hl:=lv40 (w:=set3 U5 w.heap.size ((o,mh,ml):Cp)) (set3_cc HC3.out ((o,mh,ml):Cp))
     have hb3:=set3_but (w:=U5) (B:=(·=w.heap.size)) (b:=w.heap.size) rfl ((o,mh,ml):Cp)
     refine bodyPost_ret (v:=.tuple #[cV ((o,mh,ml):Cp),.int .i64 0]) (by simp only [set3] at hl;simp [results,Tryz.results72,asAddr,hl]) rfl ⟨by rw [HE.out,HMh.out,HMl.out];rfl,?_⟩
     rw [HE.out]
     have hK3:=HK5.out.but hb3 (fun j hj e=>HN0.out (e ▸ hj)) (by omega) (by omega) (by omega)
     have hB3:=HBt5.out.comp hb3 (fun i e=>.inr (by omega))
     exact⟨hK3,hB3⟩
    | some t =>
     have HNx:Hid (pDrw h.p q o=D.drawR (fun N=>(fnd (tkO q.O o) (N / B64) (N%B64)).isSome) h.p.c h.p.n (9 - (i+1)) (ti+1)):=by
      unfold Hid
      have:9 - (i+1)=m:=by omega
      rw [HD.out,hm,this]
      rw [D.drawR,if_pos (show ti<h.p.n from htl),if_pos (by rw [←HM.out,←HMh.out,←HMl.out,hfn];rfl)]
     rw [hfn] at HFn
     unfold fdV at HFn
     simp only [Option.getD_some,Option.isSome_some] at HFn
     clear hfn hm
     go_upto_region 8 with (first|(go_at_call 89;refine HFn.out.mono ?_;rintro e w4 ⟨rfl,hb4⟩;have HB4:=hid hb4;clear hb4))
     obtain⟨U5,hU5⟩:∃U5,U5=w4.alloc (.cells #[.int .u64 (t.hi:Int),.int .u64 (t.lo:Int),.int .i64 t.r,.int .u64 (t.uh:Int),.int .u64 (t.ul:Int)] 88):=⟨_,rfl⟩
     have hb5:=below_call HB4.out (show Below w4.heap.size w4 U5 by rw [hU5];exact below1 _ _)
     rw [←hU5]
     have HNn:Hid (DnRel w h q N Es Ls o (.int .i64 ((i:Int)+1)) U5):=⟨i+1,ti+1,by simp,by omega,by omega,HNx.out,HK3.out.later hb5,HBw.out.call hb5,HC3.out.later hb5,HFz.out.later hb5⟩
     clear hb5 hU5 c0 c1 c2
     go_wp2
     refine⟨?_,by simp [intOf];omega⟩
     first|exact HNn.out|(rw [hwi];exact HNn.out)
  ·obtain rfl:i=9:=by omega
   have HE:Hid (R=(0,12,ti)):=by
    unfold Hid
    rw [HR.out,HD.out]
    rfl
   obtain⟨z0,z1,z2⟩:=HC3.out
   simp only [Int.cast_ofNat_Int] at z0 z1 z2
   have f0:=HFz.out.2 0 (by omega)
   have f1:=HFz.out.2 1 (by omega)
   have f2:=HFz.out.2 2 (by omega)
   go_wp2
   have hl:=lv40 (w:=set3 U w.heap.size ((0,0,0):Cp)) (set3_cc HC3.out ((0,0,0):Cp))
   have hb3:=set3_but (w:=U) (B:=(·=w.heap.size)) (b:=w.heap.size) rfl ((0,0,0):Cp)
   refine bodyPost_ret (v:=.tuple #[cV (0,0,0),.int .i64 12]) (by simp only [set3,Int.cast_ofNat_Int] at hl;simp [results,Tryz.results72,asAddr,hl]) rfl ⟨by rw [HE.out];rfl,?_⟩
   rw [HE.out]
   have hK3:=HK.out.but hb3 (fun j hj e=>HN0.out (e ▸ hj)) (by omega) (by omega) (by omega)
   have hB3:=HBt.out.comp hb3 (fun i e=>.inr (by omega))
   simp only [set3,Int.cast_ofNat_Int] at hK3 hB3
   exact⟨hK3,hB3⟩
end
end Go.Proofs.YtffmodpgddecnaaGreat.V.E
namespace Go.Proofs.YtffmodpgddecnaaGreat.V.E
open Go.RowKit Go.Maps
open Go.Proofs.YtffmodpgddecnaaGreat.H (B64 Cp)
section
variable {w w':World}{h:Hm}{q:Pl}{N:Nat→Prop}{Es:List En}{Ls:List Ln}
set_option maxRecDepth 100000 in
set_option maxHeartbeats 4000000 in
theorem room_any (k:Md w h q N Es Ls)(hf:Fit h.p q)(hcf:h.cf.may=true)(size:Int):Calls Tryz.prog 68 #[.pointer (some ⟨h.g,0,none⟩),.int .i64 size] w fun e w'=>e=.returned (.int .i64 (rmE h.p q size))∧Below w.heap.size w w':=by
 have hcm:=Cf.may_iff.1 hcf
 have HRm:Hid (rmE h.p q size=if size<0∨4096<size then 6 else if h.cf.o.toNat≤q.O.length∨4611686018427387904<q.nx then 7 else if (h.cf.p.toNat:Int) - (S.usedV (vO q.O):Int)<(S.needN size.toNat:Int) then 8 else if h.cf.m.toNat≤lvN q.O then 10 else 0):=by
  unfold Hid rmE S.mayV
  have e1:h.p.room=h.cf.o.toNat:=rfl
  have e2:h.p.pgs=h.cf.p.toNat:=rfl
  have e3:h.p.mo=h.cf.m.toNat:=rfl
  have e4:(vO q.O).length=q.O.length:=by simp [vO]
  rw [e1,e2,e3,e4]
  by_cases h1:size<0∨4096<size
  ·simp only [if_pos h1];rfl
  ·simp only [if_neg h1]
   by_cases h2:h.cf.o.toNat≤q.O.length∨4611686018427387904<q.nx
   ·simp only [if_pos h2];rfl
   ·simp only [if_neg h2]
    by_cases h3:(h.cf.p.toNat:Int) - (S.usedV (vO q.O):Int)<(S.needN size.toNat:Int)
    ·simp only [if_pos h3];rfl
    ·simp only [if_neg h3];rfl
 obtain⟨rr,hR⟩:∃rr,rr=rmE h.p q size:=⟨_,rfl⟩
 rw [←hR] at HRm ⊢
 have HWi:=hid (fun U=>within_any size 0 4096 U)
 have HPg:Hid (∀U:World,Below w.heap.size w U→Calls Tryz.prog 85 #[.pointer (some ⟨h.g,0,none⟩)] U fun e w'=>e=.returned (.int .i64 (S.usedV (vO q.O):Int))∧Below U.heap.size U w'):=fun U hU=>pgs_any (k.later hU) hf
 have HLv:Hid (∀U:World,Below w.heap.size w U→Calls Tryz.prog 87 #[.pointer (some ⟨h.g,0,none⟩)] U fun e w'=>e=.returned (.int .i64 (lvN q.O:Int))∧Below U.heap.size U w'):=fun U hU=>lives_any (k.later hU) hf
 have H3:Hid (∀U:World,Below w.heap.size w U→U.cell? ⟨h.g,12,none⟩=some (.map (some h.bo))∧U.cell? ⟨h.g,1,none⟩=some (.int .i64 h.cf.o)∧(Builtin.len_ #[58] 3 #[.map (some h.bo)]).run Tryz.prog U=.ok (.int .i64 (q.O.length:Int)) U∧Below w.heap.size w U):=fun U hU=>by
  have kU:=k.later hU
  refine⟨kU.cell 12 rfl,kU.cell 1 rfl,?_,hU⟩
  have:=kU.mo.len Tryz.underlying58 3
  rw [List.length_map,kU.lenO] at this
  exact this
 have H6:Hid (∀U:World,Below w.heap.size w U→U.cell? ⟨h.g,2,none⟩=some (.int .i64 h.cf.p)∧Below w.heap.size w U):=fun U hU=>⟨(k.later hU).cell 2 rfl,hU⟩
 have H8:Hid (∀U:World,Below w.heap.size w U→U.cell? ⟨h.g,3,none⟩=some (.int .i64 h.cf.m)∧Below w.heap.size w U):=fun U hU=>⟨(k.later hU).cell 3 rfl,hU⟩
 have H4:Hid (∀U:World,Below w.heap.size w U→U.cell? ⟨h.g,14,none⟩=some (.int .i64 q.nx)):=fun U hU=>(k.later hU).cell 14 rfl
 have hmo:=hf.mo
 have hpg:=hf.pg
 have hrm:=hf.rm
 obtain⟨nO,hnO⟩:∃n,n=q.O.length:=⟨_,rfl⟩
 obtain⟨us,hus⟩:∃n,n=S.usedV (vO q.O):=⟨_,rfl⟩
 obtain⟨lv,hlv⟩:∃n,n=lvN q.O:=⟨_,rfl⟩
 rw [←hnO,←hus,←hlv] at HRm
 rw [←hnO] at H3 hrm
 rw [←hus] at HPg hpg
 rw [←hlv] at HLv hmo
 have hgl:=k.glt
 have hus2:us≤h.cf.p.toNat:=hpg.2
 have hlv2:lv≤256:=by omega
 clear k hf hR hnO hus hlv hmo hpg hrm
 obtain⟨co,hco⟩:∃n:Nat,h.cf.o=(n:Int):=⟨h.cf.o.toNat,by omega⟩
 obtain⟨cp,hcp⟩:∃n:Nat,h.cf.p=(n:Int):=⟨h.cf.p.toNat,by omega⟩
 obtain⟨cm,hcm2⟩:∃n:Nat,h.cf.m=(n:Int):=⟨h.cf.m.toNat,by omega⟩
 rw [hco] at H3 HRm hcm
 rw [hcp] at H6 HRm hcm hus2
 rw [hcm2] at H8 HRm hcm
 simp only [Int.toNat_natCast] at HRm hus2
 have hcp9:cp≤256:=by omega
 clear hco hcp hcm2 hcm hcf
 by_cases h1:size<0∨4096<size
 ·have e:rr=6:=by rw [HRm.out,if_pos h1]
  have hw:R.wi size 0 4096=false:=by
   unfold R.wi
   rcases h1 with h1|h1
   ·rw [decide_eq_false (show ¬(0:Int)≤size by omega)];rfl
   ·rw [decide_eq_false (show ¬size≤(4096:Int) by omega)];simp
  rw [hw] at HWi
  clear hw h1 HRm
  subst e
  go_enter Tryz.func68,Tryz.ntmps68
  go_wp2_with (first|(go_at_call 36;refine (HWi.out _).mono ?_;rintro e w3 ⟨rfl,hw3⟩;obtain rfl:=hw3.symm;clear hw3))
  go_ret
  exact⟨rfl,Below.refl _ _⟩
 have hw:R.wi size 0 4096=true:=by
  unfold R.wi
  rw [decide_eq_true (show (0:Int)≤size by omega),decide_eq_true (show size≤(4096:Int) by omega)];rfl
 rw [hw] at HWi
 rw [if_neg h1] at HRm
 obtain⟨sz,hsz⟩:∃sz:Nat,size=(sz:Int):=⟨size.toNat,by omega⟩
 have hs2:sz≤4096:=by omega
 subst hsz
 rw [Int.toNat_natCast] at HRm
 have HPo:=hid (fun U=>pagesOf_any sz hs2 U)
 have hnd:S.needN sz≤64:=by unfold S.needN;omega
 obtain⟨nd,hnd0⟩:∃nd,nd=S.needN sz:=⟨_,rfl⟩
 rw [←hnd0] at HPo HRm hnd
 clear hw h1 hnd0
 go_enter Tryz.func68,Tryz.ntmps68
 go_upto_region 3 with (first|(go_at_call 36;refine (HWi.out _).mono ?_;rintro e w3 ⟨rfl,hw3⟩;obtain rfl:=hw3.symm;clear hw3))
 go_cut [9] (fun v_ U=>v_=.bool (decide ((nO:Int)≥(co:Int)))∧Hid (Below w.heap.size w U))
 case first =>
  go_region_held3 (fun U=>U.cell? ⟨h.g,12,none⟩=some (.map (some h.bo))∧U.cell? ⟨h.g,1,none⟩=some (.int .i64 (co:Int))∧(Builtin.len_ #[58] 3 #[.map (some h.bo)]).run Tryz.prog U=.ok (.int .i64 (nO:Int)) U∧Below w.heap.size w U) (first|exact H3.out _ (Below.refl _ _).drew) (fail)
  all_goals (try go_wp2)
  all_goals go_meet
  all_goals exact⟨by first|rfl|exact congrArg Value.bool (Bool.eq_iff_iff.2 (by simp only [decide_eq_true_eq];omega)),(Below.refl _ _).drew⟩
 case rest =>
 rename World=>v
 obtain⟨rfl,HBv⟩:=hcut
 by_cases h2:co≤nO
 ·have hd:decide ((nO:Int)≥(co:Int))=true:=decide_eq_true (by omega)
  rw [hd]
  have hE:rr=7:=by rw [HRm.out,if_pos (.inl h2)]
  clear hd h2 HRm
  subst hE
  go_wp2
  go_ret
  exact⟨rfl,HBv.out⟩
 have hd:decide ((nO:Int)≥(co:Int))=false:=decide_eq_false (by omega)
 rw [hd]
 have H2:=hid h2
 have x14:=H4.out v HBv.out
 clear hd h2
 by_cases h3:4611686018427387904<q.nx
 ·have hd:decide (q.nx>4611686018427387904)=true:=decide_eq_true h3
  have hE:rr=7:=by rw [HRm.out,if_pos (.inr h3)]
  clear h3 HRm
  subst hE
  go_wp2
  go_ret
  exact⟨rfl,HBv.out⟩
 have hd:decide (q.nx>4611686018427387904)=false:=decide_eq_false h3
 have HRm:Hid (rr=if (cp:Int) - (us:Int)<(nd:Int) then 8 else if cm≤lv then 10 else 0):=by
  unfold Hid
  rw [HRm.out,if_neg (fun e=>e.elim (fun e=>by have:=H2.out;omega) h3)]
 clear h3
 go_upto_region 6 with fail
 clear hd x14
 have hwr2:IntKind.i64.wrap ((us:Int)+(nd:Int))=(us:Int)+(nd:Int):=by rw [IntKind.wrap_i64];omega
 have hwr:wrap64 ((us:Int)+(nd:Int))=(us:Int)+(nd:Int):=by unfold wrap64;omega
 go_cut [26] (fun v_ U=>v_=.bool (decide ((us:Int)+(nd:Int)>(cp:Int)))∧Hid (Below v.heap.size v U))
 case first =>
  go_region_held3 (fun U=>U.cell? ⟨h.g,2,none⟩=some (.int .i64 (cp:Int))∧Below w.heap.size w U) (first|exact H6.out _ HBv.out.drew|exact H6.out _ (below_call HBv.out HB3.out)) (first
   | (go_at_call 85;(with_reducible refine (HPg.out v.drew HBv.out.drew).mono ?_);rintro e w3 ⟨rfl,hb3⟩;have HB3:Hid (Below v.heap.size v w3):=below_call (Below.refl v.heap.size v).drew hb3;clear hb3)
   | (go_at_call 86;(with_reducible refine (HPo.out _).mono ?_);rintro e w4 ⟨rfl,hw4⟩;obtain rfl:=hw4.symm;clear hw4))
  all_goals (try go_wp2)
  all_goals go_meet
  all_goals exact⟨by first|rfl|(rw [hwr2];exact congrArg Value.bool (Bool.eq_iff_iff.2 (by simp only [decide_eq_true_eq];omega))),HB3.out⟩
 case rest =>
 rename World=>u
 obtain⟨rfl,HBu⟩:=hcut
 have HBu:=hid (below_call HBv.out HBu.out)
 by_cases h3:(cp:Int) - (us:Int)<(nd:Int)
 ·have hd:decide ((us:Int)+(nd:Int)>(cp:Int))=true:=decide_eq_true (by omega)
  rw [hd]
  have hE:rr=8:=by rw [HRm.out,if_pos h3]
  clear hd h3 HRm
  subst hE
  go_wp2
  go_ret
  exact⟨rfl,HBu.out⟩
 have hd:decide ((us:Int)+(nd:Int)>(cp:Int))=false:=decide_eq_false (by omega)
 rw [hd]
 rw [if_neg h3] at HRm
 clear hd h3 hwr hwr2
 go_upto_region 8 with fail
 go_cut [38] (fun v_ U=>v_=.bool (decide ((lv:Int)≥(cm:Int)))∧Hid (Below u.heap.size u U))
 case first =>
  go_region_held3 (fun U=>U.cell? ⟨h.g,3,none⟩=some (.int .i64 (cm:Int))∧Below w.heap.size w U) (first|exact H8.out _ HBu.out.drew|exact H8.out _ (below_call HBu.out HB5.out)) (first
   | (go_at_call 87;(with_reducible refine (HLv.out u.drew HBu.out.drew).mono ?_);rintro e w5 ⟨rfl,hb5⟩;have HB5:Hid (Below u.heap.size u w5):=below_call (Below.refl u.heap.size u).drew hb5;clear hb5))
  all_goals (try go_wp2)
  all_goals go_meet
  all_goals exact⟨by first|rfl|exact congrArg Value.bool (Bool.eq_iff_iff.2 (by simp only [decide_eq_true_eq];omega)),HB5.out⟩
 case rest =>
 rename World=>y
 obtain⟨rfl,HBy⟩:=hcut
 have HBy:=hid (below_call HBu.out HBy.out)
 by_cases h4:cm≤lv
 ·have hd:decide ((lv:Int)≥(cm:Int))=true:=decide_eq_true (by omega)
  rw [hd]
  have hE:rr=10:=by rw [HRm.out,if_pos h4]
  clear hd h4 HRm
  subst hE
  go_wp2
  go_ret
  exact⟨rfl,HBy.out⟩
 have hd:decide ((lv:Int)≥(cm:Int))=false:=decide_eq_false (by omega)
 rw [hd]
 have hE:rr=0:=by rw [HRm.out,if_neg h4]
 clear hd h4 HRm
 subst hE
 go_wp2
 go_ret
 exact⟨rfl,HBy.out⟩
end
end Go.Proofs.YtffmodpgddecnaaGreat.V.E
namespace Go.Proofs.YtffmodpgddecnaaGreat.V.E
open Go.RowKit Go.Maps
open Go.Proofs.YtffmodpgddecnaaGreat.H (B64 Cp)
section
variable {w w' V w2:World}{h:Hm}{q x:Pl}{N N':Nat→Prop}{Es:List En}{Ls:List Ln}
def NE (N:Nat→Prop)(e:En)(j:Nat):Prop:=N j∨Blk e.ba j∨Blk e.ta j
def NL (N:Nat→Prop)(e:Ln)(j:Nat):Prop:=N j∨Blk e.a j
structure Ew (V:World)(h:Hm)(e:En):Prop where
 b:Ow V 0 5 1 e.ba e.b.length e.bc (S.u8s e.b)
 t:Ow V 0 88 5 e.ta e.T.length e.tc (tns e.T)
 nb:∀k,Blk e.ba k→k≠h.g∧k≠h.bo∧k≠h.bl
 nt:∀k,Blk e.ta k→k≠h.g∧k≠h.bo∧k≠h.bl
structure Lw (V:World)(h:Hm)(e:Ln):Prop where
 l:Ow V 0 38 3 e.a e.K.length e.c (caps e.K)
 n:∀k,Blk e.a k→k≠h.g∧k≠h.bo∧k≠h.bl
theorem Ew.er {B:Nat→Prop}{e:En}(k:Ew V h e)(hb:But B V w')(hB:∀j,B j→j=h.bo∨j=h.bl)(N:Nat→Prop):Er w' (NE N e) e :=
 ⟨k.b.but hb (fun j hj e'=>by have:=k.nb j hj;rcases hB j e' with h1|h1<;>omega),k.t.but hb (fun j hj e'=>by have:=k.nt j hj;rcases hB j e' with h1|h1<;>omega),fun j hj=>.inr (.inl hj),fun j hj=>.inr (.inr hj)⟩
theorem Lw.lr {B:Nat→Prop}{e:Ln}(k:Lw V h e)(hb:But B V w')(hB:∀j,B j→j=h.bo∨j=h.bl)(N:Nat→Prop):Lr w' (NL N e) e :=
 ⟨k.l.but hb (fun j hj e'=>by have:=k.n j hj;rcases hB j e' with h1|h1<;>omega),fun j hj=>.inr hj⟩
theorem Er.ew (k:Md V h q N Es Ls){e:En}(ke:Er V N e):Ew V h e :=
 ⟨ke.b,ke.t,fun j hj=>⟨fun e'=>k.ng (e' ▸ ke.nb j hj),fun e'=>k.no (e' ▸ ke.nb j hj),fun e'=>k.nl (e' ▸ ke.nb j hj)⟩,fun j hj=>⟨fun e'=>k.ng (e' ▸ ke.nt j hj),fun e'=>k.no (e' ▸ ke.nt j hj),fun e'=>k.nl (e' ▸ ke.nt j hj)⟩⟩
theorem NE.not {e:En}(ke:Ew V h e)(k:Md V h q N Es Ls):¬NE N e h.g∧¬NE N e h.bo∧¬NE N e h.bl :=
 ⟨fun a=>a.elim k.ng (fun a=>a.elim (fun a=>(ke.nb _ a).1 rfl) (fun a=>(ke.nt _ a).1 rfl)),fun a=>a.elim k.no (fun a=>a.elim (fun a=>(ke.nb _ a).2.1 rfl) (fun a=>(ke.nt _ a).2.1 rfl)),fun a=>a.elim k.nl (fun a=>a.elim (fun a=>(ke.nb _ a).2.2 rfl) (fun a=>(ke.nt _ a).2.2 rfl))⟩
theorem NL.not {e:Ln}(ke:Lw V h e)(k:Md V h q N Es Ls):¬NL N e h.g∧¬NL N e h.bo∧¬NL N e h.bl :=
 ⟨fun a=>a.elim k.ng (fun a=>(ke.n _ a).1 rfl),fun a=>a.elim k.no (fun a=>(ke.n _ a).2.1 rfl),fun a=>a.elim k.nl (fun a=>(ke.n _ a).2.2 rfl)⟩
theorem NE.lt {e:En}(ke:Ew V h e)(k:Md V h q N Es Ls):∀j,NE N e j→j<V.heap.size:=fun j a=>a.elim (k.lt j) (fun a=>a.elim (fun a=>(ke.b.blk j a).2) (fun a=>(ke.t.blk j a).2))
theorem NL.lt {e:Ln}(ke:Lw V h e)(k:Md V h q N Es Ls):∀j,NL N e j→j<V.heap.size:=fun j a=>a.elim (k.lt j) (fun a=>(ke.l.blk j a).2)
theorem Md.addO (k:Md V h q N Es Ls)(e:En)(hid_:S.i64ok e.id)(hnew:∀y∈Es,y.id<e.id)(hlen:Es.length≤1024)(ke:Ew V h e) :
  ∃V',(Instr.mapUpdate 58 (.map (some h.bo)) (.int .i64 e.id) e.val).run Tryz.prog V=.ok () V'∧Md V' h { q with O:=q.O++[e.o] } (NE N e) (Es++[e]) Ls∧But (·=h.bo) V V'∧V'.heap.size=V.heap.size:=by
 obtain⟨V',hr,hm,hb,hs⟩:=k.mo.store Tryz.underlying58 (by rw [List.length_map];omega) hid_ e.val
 rw [insV_new (fun y hy=>by obtain⟨z,hz,rfl⟩:=List.mem_map.1 hy;exact hnew z hz)] at hm
 have n3:=NE.not ke k
 have:=k.setO (Es':=Es++[e]) (N':=NE N e) hb (by rw [List.map_append];exact hm) (fun y hy=>by
  rcases List.mem_append.1 hy with hy|hy
  ·exact ((k.er y hy).but hb (fun j hj e'=>k.no (e' ▸ hj))).mono (fun j hj=>.inl hj)
  ·rw [List.mem_singleton.1 hy];exact ke.er hb (fun j e'=>.inl e') N) (fun j hj=>.inl hj) n3.1 n3.2.1 n3.2.2 (fun j hj=>by rw [hs];exact NE.lt ke k j hj)
 rw [List.map_append,k.oe] at this
 exact⟨V',hr,this,hb,hs⟩
theorem Md.swapO (k:Md V h q N Es Ls)(hri:Ris (Es.map En.v))(e:En)(hid_:S.i64ok e.id)(hold:∃y∈Es,y.id=e.id)(hlen:Es.length≤1024)(ke:Ew V h e) :
  ∃V',(Instr.mapUpdate 58 (.map (some h.bo)) (.int .i64 e.id) e.val).run Tryz.prog V=.ok () V'∧Md V' h { q with O:=stO q.O e.id (fun _=>⟨e.b,e.T⟩) } (NE N e) (Es.map (fun y=>if y.id=e.id then e else y)) Ls∧But (·=h.bo) V V'∧V'.heap.size=V.heap.size:=by
 obtain⟨V',hr,hm,hb,hs⟩:=k.mo.store Tryz.underlying58 (by rw [List.length_map];omega) hid_ e.val
 rw [insV_swap hri (by obtain⟨y,hy,he⟩:=hold;exact⟨y.val,by rw [←he];exact List.mem_map_of_mem (f:=En.v) hy⟩)] at hm
 have n3:=NE.not ke k
 have hmm:(Es.map En.v).map (fun y=>if y.1=e.id then (y.1,e.val) else y)=(Es.map (fun y=>if y.id=e.id then e else y)).map En.v:=by
  rw [List.map_map,List.map_map]
  refine List.map_congr_left (fun y _=>?_)
  by_cases hy:y.id=e.id
  ·simp [En.v,hy]
  ·simp [En.v,hy]
 have hoo:(Es.map (fun y=>if y.id=e.id then e else y)).map En.o=stO q.O e.id (fun _=>⟨e.b,e.T⟩):=by
  unfold stO
  rw [←k.oe,List.map_map,List.map_map]
  refine List.map_congr_left (fun y _=>?_)
  by_cases hy:y.id=e.id
  ·simp [En.o,hy]
  ·simp [En.o,hy]
 rw [hmm] at hm
 have:=k.setO (Es':=Es.map (fun y=>if y.id=e.id then e else y)) (N':=NE N e) hb hm (fun y hy=>by
  obtain⟨z,hz,rfl⟩:=List.mem_map.1 hy
  by_cases hy:z.id=e.id
  ·rw [if_pos hy];exact ke.er hb (fun j e'=>.inl e') N
  ·rw [if_neg hy];exact ((k.er z hz).but hb (fun j hj e'=>k.no (e' ▸ hj))).mono (fun j hj=>.inl hj)) (fun j hj=>.inl hj) n3.1 n3.2.1 n3.2.2 (fun j hj=>by rw [hs];exact NE.lt ke k j hj)
 rw [hoo] at this
 exact⟨V',hr,this,hb,hs⟩
theorem Md.dropO (k:Md V h q N Es Ls)(o:Int)(ho:S.i64ok o)(ty:TypeId) :
  ∃V',(Builtin.delete_ #[58,3] ty #[.map (some h.bo),.int .i64 o]).run Tryz.prog V=.ok (.tuple #[]) V'∧Md V' h { q with O:=noO q.O o } N (Es.filter (fun y=>decide (y.id≠o))) Ls∧But (·=h.bo) V V':=by
 obtain⟨V',hr,hm,hb⟩:=k.mo.drop Tryz.underlying58 ho ty
 have hmm:(Es.map En.v).filter (fun e=>decide (e.1≠o))=(Es.filter (fun y=>decide (y.id≠o))).map En.v:=by rw [List.filter_map];rfl
 have hoo:(Es.filter (fun y=>decide (y.id≠o))).map En.o=noO q.O o:=by unfold noO;rw [←k.oe,List.filter_map];rfl
 rw [hmm] at hm
 have:=k.setO (Es':=Es.filter (fun y=>decide (y.id≠o))) (N':=N) hb hm (fun y hy=>(k.er y (List.mem_filter.1 hy).1).but hb (fun j hj e'=>k.no (e' ▸ hj))) (fun j hj=>hj) k.ng k.no k.nl (fun j hj=>Nat.lt_of_lt_of_le (k.lt j hj) hb.size)
 rw [hoo] at this
 exact⟨V',hr,this,hb⟩
theorem Md.addX (k:Md V h q N Es Ls)(e:Ln)(hid_:S.i64ok e.id)(hnew:∀y∈Ls,y.id<e.id)(hlen:Ls.length≤1024)(ke:Lw V h e) :
  ∃V',(Instr.mapUpdate 59 (.map (some h.bl)) (.int .i64 e.id) e.val).run Tryz.prog V=.ok () V'∧Md V' h { q with X:=q.X++[e.l] } (NL N e) Es (Ls++[e])∧But (·=h.bl) V V'∧V'.heap.size=V.heap.size:=by
 obtain⟨V',hr,hm,hb,hs⟩:=k.ml.store Tryz.underlying59 (by rw [List.length_map];omega) hid_ e.val
 rw [insV_new (fun y hy=>by obtain⟨z,hz,rfl⟩:=List.mem_map.1 hy;exact hnew z hz)] at hm
 have n3:=NL.not ke k
 have:=k.setX (Ls':=Ls++[e]) (N':=NL N e) hb (by rw [List.map_append];exact hm) (fun y hy=>by
  rcases List.mem_append.1 hy with hy|hy
  ·exact ((k.lr y hy).but hb (fun j hj e'=>k.nl (e' ▸ hj))).mono (fun j hj=>.inl hj)
  ·rw [List.mem_singleton.1 hy];exact ke.lr hb (fun j e'=>.inr e') N) (fun j hj=>.inl hj) n3.1 n3.2.1 n3.2.2 (fun j hj=>by rw [hs];exact NL.lt ke k j hj)
 rw [List.map_append,k.le] at this
 exact⟨V',hr,this,hb,hs⟩
theorem Md.swapX (k:Md V h q N Es Ls)(hri:Ris (Ls.map Ln.v))(e:Ln)(hid_:S.i64ok e.id)(hold:∃y∈Ls,y.id=e.id)(hlen:Ls.length≤1024)(ke:Lw V h e) :
  ∃V',(Instr.mapUpdate 59 (.map (some h.bl)) (.int .i64 e.id) e.val).run Tryz.prog V=.ok () V'∧Md V' h { q with X:=stX q.X e.id e.K } (NL N e) Es (Ls.map (fun y=>if y.id=e.id then e else y))∧But (·=h.bl) V V'∧V'.heap.size=V.heap.size:=by
 obtain⟨V',hr,hm,hb,hs⟩:=k.ml.store Tryz.underlying59 (by rw [List.length_map];omega) hid_ e.val
 rw [insV_swap hri (by obtain⟨y,hy,he⟩:=hold;exact⟨y.val,by rw [←he];exact List.mem_map_of_mem (f:=Ln.v) hy⟩)] at hm
 have n3:=NL.not ke k
 have hmm:(Ls.map Ln.v).map (fun y=>if y.1=e.id then (y.1,e.val) else y)=(Ls.map (fun y=>if y.id=e.id then e else y)).map Ln.v:=by
  rw [List.map_map,List.map_map]
  refine List.map_congr_left (fun y _=>?_)
  by_cases hy:y.id=e.id
  ·simp [Ln.v,hy]
  ·simp [Ln.v,hy]
 have hoo:(Ls.map (fun y=>if y.id=e.id then e else y)).map Ln.l=stX q.X e.id e.K:=by
  unfold stX
  rw [←k.le,List.map_map,List.map_map]
  refine List.map_congr_left (fun y _=>?_)
  by_cases hy:y.id=e.id
  ·simp [Ln.l,hy]
  ·simp [Ln.l,hy]
 rw [hmm] at hm
 have:=k.setX (Ls':=Ls.map (fun y=>if y.id=e.id then e else y)) (N':=NL N e) hb hm (fun y hy=>by
  obtain⟨z,hz,rfl⟩:=List.mem_map.1 hy
  by_cases hy:z.id=e.id
  ·rw [if_pos hy];exact ke.lr hb (fun j e'=>.inr e') N
  ·rw [if_neg hy];exact ((k.lr z hz).but hb (fun j hj e'=>k.nl (e' ▸ hj))).mono (fun j hj=>.inl hj)) (fun j hj=>.inl hj) n3.1 n3.2.1 n3.2.2 (fun j hj=>by rw [hs];exact NL.lt ke k j hj)
 rw [hoo] at this
 exact⟨V',hr,this,hb,hs⟩
theorem Md.dropX (k:Md V h q N Es Ls)(o:Int)(ho:S.i64ok o)(ty:TypeId) :
  ∃V',(Builtin.delete_ #[59,3] ty #[.map (some h.bl),.int .i64 o]).run Tryz.prog V=.ok (.tuple #[]) V'∧Md V' h { q with X:=q.X.filter (fun e=>decide (e.1≠o)) } N Es (Ls.filter (fun y=>decide (y.id≠o)))∧But (·=h.bl) V V':=by
 obtain⟨V',hr,hm,hb⟩:=k.ml.drop Tryz.underlying59 ho ty
 have hmm:(Ls.map Ln.v).filter (fun e=>decide (e.1≠o))=(Ls.filter (fun y=>decide (y.id≠o))).map Ln.v:=by rw [List.filter_map];rfl
 have hoo:(Ls.filter (fun y=>decide (y.id≠o))).map Ln.l=q.X.filter (fun e=>decide (e.1≠o)):=by rw [←k.le,List.filter_map];rfl
 rw [hmm] at hm
 have:=k.setX (Ls':=Ls.filter (fun y=>decide (y.id≠o))) (N':=N) hb hm (fun y hy=>(k.lr y (List.mem_filter.1 hy).1).but hb (fun j hj e'=>k.nl (e' ▸ hj))) (fun j hj=>hj) k.ng k.no k.nl (fun j hj=>Nat.lt_of_lt_of_le (k.lt j hj) hb.size)
 rw [hoo] at this
 exact⟨V',hr,this,hb⟩
end
end Go.Proofs.YtffmodpgddecnaaGreat.V.E
