import Derived.Test.YtffmodpgddecnaaGreatZ15
set_option linter.unusedVariables false
set_option linter.unusedSimpArgs false
namespace Go.Proofs.YtffmodpgddecnaaGreat.V.E
open Go.RowKit Go.Maps
open Go.Proofs.YtffmodpgddecnaaGreat.H (B64 Cp)
section
variable {w w' V w2:World}{h:Hm}{q x:Pl}{N N':Nat→Prop}{Es:List En}{Ls:List Ln}
theorem look_wp {P:Program}{w:World}{o:Oper}{a:Act}{K:Act→World→Prop}{Q:Exit→Act→World→Prop}{t:TypeId}{x y:Operand}{c:Bool}{p k v:Value}
  (ho:o.op=.lookup t x y c) (hx:a.eval x=p) (hy:a.eval y=k) (hr:(Instr.lookup t p k c).run P w=.ok v w) (h:K (a.put o.dst v) w):o.wp P a w K Q:=by
 unfold Oper.wp execOp
 simp only [ho,hx,hy,hr,Sem.run_bind,Sem.run_pure,Result.andThen_ok]
 exact h
theorem cr_lit1 {g:Nat}{c:Cp}(c0:w.cell? ⟨g,0,none⟩=some (.int .i64 c.1))(c1:w.cell? ⟨g,1,none⟩=some (.int .u64 (c.2.1:Int)))(c2:w.cell? ⟨g,2,none⟩=some (.int .u64 (c.2.2:Int))):Cr w 3 (some ⟨g,0,none⟩) 1 1 (caps [c]):=by
 refine⟨rfl,fun e=>by (cases e),fun x hx j u hu=>?_,capO _⟩
 cases hx
 rw [addr_add0]
 match j,hu with
 | 0,hu=>simp [caps,encC] at hu;subst hu;exact c0
 | 1,hu=>simp [caps,encC] at hu;subst hu;exact c1
 | 2,hu=>simp [caps,encC] at hu;subst hu;exact c2
 | j+3,hu=>simp [caps,encC] at hu
set_option maxRecDepth 100000 in
set_option maxHeartbeats 4000000 in
theorem add_any (k:Md w h q N Es Ls)(hf:Fit h.p q)(hcf:h.cf.may=true)(by_:Int)(hby:S.i64ok by_)(hh:haX q.X by_=true)(c:Cp)(hcw:c.2.1<B64∧c.2.2<B64):Calls Tryz.prog 56 #[.pointer (some ⟨h.g,0,none⟩),.int .i64 by_,cV c] w (DidP w h N (pAdd h.p q by_ c)):=by
 obtain⟨W,hW⟩:∃W,W=(w.alloc (cO c)).alloc z6:=⟨_,rfl⟩
 have hB:Below w.heap.size w W:=by rw [hW];exact below2 _ _ _
 have hZ:Zr W (w.heap.size+1):=by rw [hW];have:=Zr.new (w.alloc (cO c));simpa using this
 have hC:Cc3 W w.heap.size c:=by rw [hW];exact (Cc3.new w c).later (below1 _ _)
 have k1:=k.later hB
 have hW1:=(Cf.may_iff.1 hcf).1
 obtain⟨y,hy⟩:∃y,y=lnA Ls by_:=⟨_,rfl⟩
 have hls:=k1.ls by_
 have hlr:=(k1.lrA by_).l
 rw [←hy] at hls hlr
 have hlk:∀U:World,Below W.heap.size W U→(Instr.lookup 59 (.map (some h.bl)) (.int .i64 by_) false).run Tryz.prog U=.ok (.slice y.a y.K.length y.c) U:=fun U hU=>by
  have:=(k1.later hU).lookL hby
  rw [←hy] at this
  exact this
 have hKl:y.K.length≤32:=by rw [hls];exact ls_le hf by_
 have hRi:=(k.rise hf).2
 have hHo:=k.held hh
 have hlE:Ls.length≤1024:=by rw [k.lenL];exact xs_le hf
 have hgl:=k.glt
 have hll:=k.llt
 have HK0:=hid k
 have HK:=hid k1
 have HB:=hid hB
 have HW:=hid hW
 have HZ:=hid hZ
 have HC:=hid hC
 have HRi:=hid hRi
 have HHo:=hid hHo
 obtain⟨n,hn⟩:∃n,n=y.K.length:=⟨_,rfl⟩
 rw [←hn] at hlk hKl hlr
 have HN:=hid hn
 have HLk:=hid hlk
 have HLr:=hid hlr
 have hwl:1≤h.cf.W:=by first|exact hW1|exact hW1.1
 obtain⟨fb,hfb⟩:∃fb,fb=decide (D.cutN (c.2.1*B64+c.2.2) h.cf.W=c.2.1*B64+c.2.2):=⟨_,rfl⟩
 have hfit:fitB h.p.W c=fb:=by unfold fitB;rw [hfb];show (decide (1≤h.cf.W)&&_)=_;rw [decide_eq_true hwl,Bool.true_and];rfl
 have HFt:=hid (fun U=>wfits_any c.2.1 c.2.2 hcw h.cf.W hwl U)
 rw [←hfb] at HFt
 obtain⟨l,hl⟩:∃l,l=h.cf.l:=⟨_,rfl⟩
 have hlm:h.p.lm=l:=by rw [hl];rfl
 unfold pAdd
 rw [hfit,←hls,←hn,hlm]
 have H1:Hid (∀U:World,Below W.heap.size W U→U.cell? ⟨w.heap.size,1,none⟩=some (.int .u64 (c.2.1:Int))∧U.cell? ⟨w.heap.size,2,none⟩=some (.int .u64 (c.2.2:Int))∧U.cell? ⟨h.g,0,none⟩=some (.int .i64 h.cf.W)):=fun U hU=>⟨(hC.later hU).c1,(hC.later hU).c2,(k1.later hU).cell 0 rfl⟩
 have H3:Hid (∀U:World,Below W.heap.size W U→U.cell? ⟨h.g,13,none⟩=some (.map (some h.bl))∧U.cell? ⟨h.g,6,none⟩=some (.int .i64 l)∧(Instr.lookup 59 (.map (some h.bl)) (.int .i64 by_) false).run Tryz.prog U=.ok (.slice y.a n y.c) U):=fun U hU=>⟨(k1.later hU).cell 13 rfl,by rw [hl];exact (k1.later hU).cell 6 rfl,hlk U hU⟩
 clear k k1 hB hZ hW hC hf hcf hW1 hlr hy hls hRi hHo hh hn hlk hfb hfit hl hlm hcw
 cases fb with
 | false =>
  rw [if_pos rfl]
  go_enter Tryz.func56,Tryz.ntmps56
  go_upto_region 1 with fail
  rw [←HW.out]
  go_cut [15] (fun v U=>v=.bool true∧Below W.heap.size W U)
  case first =>
   go_region_held3 (fun U=>U.cell? ⟨w.heap.size,1,none⟩=some (.int .u64 (c.2.1:Int))∧U.cell? ⟨w.heap.size,2,none⟩=some (.int .u64 (c.2.2:Int))∧U.cell? ⟨h.g,0,none⟩=some (.int .i64 h.cf.W)) (first|exact H1.out _ (Below.refl _ _).drew|exact H1.out _ HB2.out) (first|(go_at_call 78;refine (HFt.out W.drew).mono ?_;rintro e w2 ⟨rfl,hb2⟩;have HB2:Hid (Below W.heap.size W w2):=below_call (Below.refl _ _).drew hb2;clear hb2))
   all_goals (try go_wp2)
   all_goals go_meet
   all_goals exact⟨rfl,HB2.out⟩
  case rest =>
  rename World=>u
  obtain⟨rfl,hbu⟩:=hcut
  have HBu:=hid hbu
  clear hbu
  have HZ1:=hid (HZ.out.later HBu.out)
  have HR_:=hid (refused_any 18 u)
  go_wp2_with (first|(go_at_call 28;refine HR_.out.mono ?_;rintro e_ w3 ⟨rfl,hb3⟩;have HB3:=hid hb3;have HZ9:=hid (HZ1.out.later HB3.out);have HS9:=hid (HZ9.out.st (rep 18) none 0 0);have HL9:=hid (HZ9.out.lv (rep 18) none 0 0);clear hb3)|((with_reducible refine st_arm HS9.out ?_ ?_ ?_);(· rfl);(· rfl)))
  exact bodyPost_ret (v:=rpV (rep 18) none 0 0) (by simp [results,Tryz.results56,asAddr,HL9.out]) rfl (refuse_fin HK0.out (HK.out.later HBu.out) (WentP.later (below_call HB.out HBu.out)) HB3.out (Nat.le_succ _) (rep 18) rfl)
 | true =>
  rw [if_neg (by decide)]
  by_cases h2:l≤(n:Int)
  ·rw [if_pos h2]
   have hd:decide (l≤(n:Int))=true:=decide_eq_true h2
   clear h2
   go_enter Tryz.func56,Tryz.ntmps56
   go_upto_region 1 with fail
   rw [←HW.out]
   go_cut [15] (fun v U=>v=.bool false∧Below W.heap.size W U)
   case first =>
    go_region_held3 (fun U=>U.cell? ⟨w.heap.size,1,none⟩=some (.int .u64 (c.2.1:Int))∧U.cell? ⟨w.heap.size,2,none⟩=some (.int .u64 (c.2.2:Int))∧U.cell? ⟨h.g,0,none⟩=some (.int .i64 h.cf.W)) (first|exact H1.out _ (Below.refl _ _).drew|exact H1.out _ HB2.out) (first|(go_at_call 78;refine (HFt.out W.drew).mono ?_;rintro e w2 ⟨rfl,hb2⟩;have HB2:Hid (Below W.heap.size W w2):=below_call (Below.refl _ _).drew hb2;clear hb2))
    all_goals (try go_wp2)
    all_goals go_meet
    all_goals exact⟨rfl,HB2.out⟩
   case rest =>
   rename World=>u
   obtain⟨rfl,hbu⟩:=hcut
   have HBu:=hid hbu
   clear hbu
   go_upto_region 3 with fail
   go_cut [29] (fun v U=>v=.bool true∧Below u.heap.size u U)
   case first =>
    go_region_held3 (fun U=>U.cell? ⟨h.g,13,none⟩=some (.map (some h.bl))∧U.cell? ⟨h.g,6,none⟩=some (.int .i64 l)∧(Instr.lookup 59 (.map (some h.bl)) (.int .i64 by_) false).run Tryz.prog U=.ok (.slice y.a n y.c) U) (first|exact H3.out _ (below_call HBu.out (Below.refl _ _).drew)) (fail)
    all_goals (try go_wp2)
    all_goals go_meet
    all_goals exact⟨rfl,(Below.refl _ _).drew⟩
   case rest =>
   rename World=>v
   obtain⟨rfl,hbv⟩:=hcut
   have HBv:=hid (below_call HBu.out hbv)
   clear hbv
   have HZ1:=hid (HZ.out.later HBv.out)
   have HR_:=hid (refused_any 14 v)
   go_wp2_with (first|(go_at_call 28;refine HR_.out.mono ?_;rintro e_ w3 ⟨rfl,hb3⟩;have HB3:=hid hb3;have HZ9:=hid (HZ1.out.later HB3.out);have HS9:=hid (HZ9.out.st (rep 14) none 0 0);have HL9:=hid (HZ9.out.lv (rep 14) none 0 0);clear hb3)|((with_reducible refine st_arm HS9.out ?_ ?_ ?_);(· rfl);(· rfl)))
   exact bodyPost_ret (v:=rpV (rep 14) none 0 0) (by simp [results,Tryz.results56,asAddr,HL9.out]) rfl (refuse_fin HK0.out (HK.out.later HBv.out) (WentP.later (below_call HB.out HBv.out)) HB3.out (Nat.le_succ _) (rep 14) rfl)
  ·rw [if_neg h2]
   have hd:decide (l≤(n:Int))=false:=decide_eq_false h2
   clear h2
   go_enter Tryz.func56,Tryz.ntmps56
   go_upto_region 1 with fail
   rw [←HW.out]
   go_cut [15] (fun v U=>v=.bool false∧Below W.heap.size W U)
   case first =>
    go_region_held3 (fun U=>U.cell? ⟨w.heap.size,1,none⟩=some (.int .u64 (c.2.1:Int))∧U.cell? ⟨w.heap.size,2,none⟩=some (.int .u64 (c.2.2:Int))∧U.cell? ⟨h.g,0,none⟩=some (.int .i64 h.cf.W)) (first|exact H1.out _ (Below.refl _ _).drew|exact H1.out _ HB2.out) (first|(go_at_call 78;refine (HFt.out W.drew).mono ?_;rintro e w2 ⟨rfl,hb2⟩;have HB2:Hid (Below W.heap.size W w2):=below_call (Below.refl _ _).drew hb2;clear hb2))
    all_goals (try go_wp2)
    all_goals go_meet
    all_goals exact⟨rfl,HB2.out⟩
   case rest =>
   rename World=>u
   obtain⟨rfl,hbu⟩:=hcut
   have HBu:=hid hbu
   clear hbu
   go_upto_region 3 with fail
   go_cut [29] (fun v U=>v=.bool false∧Below u.heap.size u U)
   case first =>
    go_region_held3 (fun U=>U.cell? ⟨h.g,13,none⟩=some (.map (some h.bl))∧U.cell? ⟨h.g,6,none⟩=some (.int .i64 l)∧(Instr.lookup 59 (.map (some h.bl)) (.int .i64 by_) false).run Tryz.prog U=.ok (.slice y.a n y.c) U) (first|exact H3.out _ (below_call HBu.out (Below.refl _ _).drew)) (fail)
    all_goals (try go_wp2)
    all_goals go_meet
    all_goals exact⟨rfl,(Below.refl _ _).drew⟩
   case rest =>
   rename World=>v
   obtain⟨rfl,hbv⟩:=hcut
   have HBv:=hid (below_call HBu.out hbv)
   clear hbv
   go_upto_region 5 with fail
   obtain⟨K',hK'⟩:∃K',K'=y.K++[c]:=⟨_,rfl⟩
   have HKm:Hid (K'.length=n+1):=by unfold Hid;rw [hK',HN.out];simp
   have hr0:=cr_later (ow_cr HLr.out (capO _)) HBv.out
   have HCon:Hid (∀U:World,Below v.heap.size v U→U.cell? ⟨v.heap.size+1,0,none⟩=some (.slice y.a n y.c)→U.cell? ⟨v.heap.size+1,1,none⟩=some (.slice (some ⟨v.heap.size,0,none⟩) 1 1)→U.cell? ⟨v.heap.size,0,none⟩=some (.int .i64 c.1)→U.cell? ⟨v.heap.size,1,none⟩=some (.int .u64 (c.2.1:Int))→U.cell? ⟨v.heap.size,2,none⟩=some (.int .u64 (c.2.2:Int))→Calls Tryz.prog 79 #[.slice (some ⟨v.heap.size+1,0,none⟩) 2 2] U fun e w'=>∃a c,e=.returned (.slice a (n+1) c)∧Ow w' v.heap.size 38 3 a (n+1) c (caps K')∧Below v.heap.size v w'):=fun U hU c0 c1 l0 l1 l2=>by
    have rr:=cr_later hr0 hU
    have:=concatC_any (w:=U) (p:=v.heap.size+1) (c0:=2) (L:=[⟨y.a,n,y.c,caps y.K⟩,⟨some ⟨v.heap.size,0,none⟩,1,1,caps [c]⟩]) (sxs2 c0 c1 rr (cr_lit1 l0 l1 l2)) (by simp) (by simp [sxN];omega)
    have e1:sxN [⟨y.a,n,y.c,caps y.K⟩,⟨some ⟨v.heap.size,0,none⟩,1,1,caps [c]⟩]=n+1:=by simp [sxN]
    have e2:sxM [⟨y.a,n,y.c,caps y.K⟩,⟨some ⟨v.heap.size,0,none⟩,1,1,caps [c]⟩]=caps K':=by rw [hK',capA];simp [sxM]
    rw [e1,e2] at this
    simp only [List.length_cons,List.length_nil,Nat.zero_add,Nat.reduceAdd] at this
    exact this.mono (fun e w' ⟨a,c,h1,h2,h3⟩=>⟨a,c,h1,h2.mono hU.size,below_call hU h3⟩)
   have HKe:=hid hK'
   have HKv:=hid (HK.out.later HBv.out)
   have HZv:=hid (HZ.out.later HBv.out)
   have HWv:Hid (WentP w h N v N):=WentP.later (below_call HB.out HBv.out)
   have hvz:w.heap.size+1<v.heap.size:=HZv.out.lt
   have H5:Hid (∀U:World,Below v.heap.size v U→U.cell? ⟨h.g,13,none⟩=some (.map (some h.bl))∧U.cell? ⟨w.heap.size,0,none⟩=some (.int .i64 c.1)∧U.cell? ⟨w.heap.size,1,none⟩=some (.int .u64 (c.2.1:Int))∧U.cell? ⟨w.heap.size,2,none⟩=some (.int .u64 (c.2.2:Int))):=fun U hU=>⟨(HKv.out.later hU).cell 13 rfl,((HC.out.later HBv.out).later hU).c0,((HC.out.later HBv.out).later hU).c1,((HC.out.later HBv.out).later hU).c2⟩
   have HLA:Hid (∀U:World,Below v.heap.size v U→(Instr.lookup 59 (.map (some h.bl)) (.int .i64 by_) false).run Tryz.prog U=.ok (.slice y.a n y.c) U):=fun U hU=>HLk.out U (below_call HBv.out hU)
   clear hK' hr0
   go_cut [35] (fun x U=>x=.int .i64 by_∧FinX w h q N (w.heap.size+1) by_ K' U)
   case first =>
    refine wp_region_held_drew (S:=(fun U:World=>U.cell? ⟨h.g,13,none⟩=some (.map (some h.bl))∧U.cell? ⟨w.heap.size,0,none⟩=some (.int .i64 c.1)∧U.cell? ⟨w.heap.size,1,none⟩=some (.int .u64 (c.2.1:Int))∧U.cell? ⟨w.heap.size,2,none⟩=some (.int .u64 (c.2.2:Int)))) (by kernel_rfl) (H5.out _ (Below.refl _ _).drew) (fun hHeld=>?_)
    refine nm 16 0 16 ?_
    refine tn 0 16 1 15 ?_
    simp only [zz]
    refine tn 1 16 3 14 ?_
    simp only [zz]
    refine tn 2 16 7 13 ?_
    simp only [zz]
    refine tn 3 16 15 12 ?_
    simp only [zz]
    refine tn 4 16 31 11 ?_
    simp only [zz]
    refine tn 5 16 63 10 ?_
    simp only [zz]
    refine tn 6 16 127 9 ?_
    simp only [zz]
    refine tn 7 16 255 8 ?_
    simp only [zz]
    refine tn 8 16 511 7 ?_
    simp only [zz]
    refine tn 9 16 1023 6 ?_
    simp only [zz]
    refine tn 11 16 3071 5 ?_
    simp only [zz]
    refine wpAnyH_ready (rs:=[10,12]) (by kernel_rfl) (by simp) ?_
    refine AllReadyH.cons rfl (fun K hK=>?_) ?_
    ·refine look_wp rfl rfl rfl (HLA.out _ (by first|exact (Below.refl _ _).drew|exact (below1 _ _).drew|exact (below2 _ _ _).drew)) ?_
     refine zk hK 16 4095 4 (H5.out _ (by first|exact (Below.refl _ _).drew|exact (below1 _ _).drew|exact (below2 _ _ _).drew)) fun hHeld=>?_
     clear hK K
     try simp only [zz]
     refine zr 12 fun K hK=>?_
     go_simp
     refine zk hK 16 8191 3 (H5.out _ (by first|exact (Below.refl _ _).drew|exact (below1 _ _).drew|exact (below2 _ _ _).drew)) fun hHeld=>?_
     clear hK K
     try simp only [zz]
     refine zr 13 fun K hK=>?_
     go_simp
     refine zk hK 16 16383 2 (H5.out _ (by first|exact (Below.refl _ _).drew|exact (below1 _ _).drew|exact (below2 _ _ _).drew)) fun hHeld=>?_
     clear hK K
     try simp only [zz]
     refine zr 14 fun K hK=>?_
     go_simp
     go_wp2_with (first|(go_at_call 79;refine (HCon.out _ (by first|exact (Below.refl _ _).drew|exact (below1 _ _).drew|exact (below2 _ _ _).drew) (by simp [go_sem]) (by simp [go_sem]) (by simp [go_sem]) (by simp [go_sem]) (by simp [go_sem])).mono ?_;rintro e w6 ⟨a6,c6,rfl,hO6,hb6⟩;have HB6:=hid hb6;obtain⟨V8,hr8,hF8,hb8⟩:=upd_fin HK0.out (HKv.out.later hb6) HRi.out by_ hby HHo.out hlE hO6 HKm.out (HWv.out.trans (WentP.later hb6)) (HZv.out.later hb6) (Nat.le_succ _) hvz;have HF8:=hid hF8;have h5:=H5.out _ hb6;have HS8:Hid (V8.cell? ⟨h.g,13,none⟩=some (.map (some h.bl))∧V8.cell? ⟨w.heap.size,0,none⟩=some (.int .i64 c.1)∧V8.cell? ⟨w.heap.size,1,none⟩=some (.int .u64 (c.2.1:Int))∧V8.cell? ⟨w.heap.size,2,none⟩=some (.int .u64 (c.2.2:Int))):=⟨cell_but hb8 h5.1 HK0.out.gl,cell_but hb8 h5.2.1 (by simp only;omega),cell_but hb8 h5.2.2.1 (by simp only;omega),cell_but hb8 h5.2.2.2 (by simp only;omega)⟩;clear hO6 hb6 hF8 hb8 h5))
     refine zk hK 16 32767 1 (H5.out _ HB6.out) fun hHeld=>?_
     clear hK K
     try simp only [zz]
     refine zr 15 fun K hK=>?_
     go_simp
     refine zk hK 16 65535 0 (HS8.out) fun hHeld=>?_
     clear hK K
     try simp only [zz]
     refine zn ?_ _
     (try go_wp2)
     go_meet
     exact⟨rfl,HF8.out⟩
    refine AllReadyH.cons rfl (fun K hK=>?_) AllReadyH.nil
    go_simp
    refine zk hK 16 7167 4 (H5.out _ (by first|exact (Below.refl _ _).drew|exact (below1 _ _).drew|exact (below2 _ _ _).drew)) fun hHeld=>?_
    clear hK K
    try simp only [zz]
    refine zr 10 fun K hK=>?_
    refine look_wp rfl rfl rfl (HLA.out _ (by first|exact (Below.refl _ _).drew|exact (below1 _ _).drew|exact (below2 _ _ _).drew)) ?_
    refine zk hK 16 8191 3 (H5.out _ (by first|exact (Below.refl _ _).drew|exact (below1 _ _).drew|exact (below2 _ _ _).drew)) fun hHeld=>?_
    clear hK K
    try simp only [zz]
    refine zr 13 fun K hK=>?_
    go_simp
    refine zk hK 16 16383 2 (H5.out _ (by first|exact (Below.refl _ _).drew|exact (below1 _ _).drew|exact (below2 _ _ _).drew)) fun hHeld=>?_
    clear hK K
    try simp only [zz]
    refine zr 14 fun K hK=>?_
    go_simp
    go_wp2_with (first|(go_at_call 79;refine (HCon.out _ (by first|exact (Below.refl _ _).drew|exact (below1 _ _).drew|exact (below2 _ _ _).drew) (by simp [go_sem]) (by simp [go_sem]) (by simp [go_sem]) (by simp [go_sem]) (by simp [go_sem])).mono ?_;rintro e w6 ⟨a6,c6,rfl,hO6,hb6⟩;have HB6:=hid hb6;obtain⟨V8,hr8,hF8,hb8⟩:=upd_fin HK0.out (HKv.out.later hb6) HRi.out by_ hby HHo.out hlE hO6 HKm.out (HWv.out.trans (WentP.later hb6)) (HZv.out.later hb6) (Nat.le_succ _) hvz;have HF8:=hid hF8;have h5:=H5.out _ hb6;have HS8:Hid (V8.cell? ⟨h.g,13,none⟩=some (.map (some h.bl))∧V8.cell? ⟨w.heap.size,0,none⟩=some (.int .i64 c.1)∧V8.cell? ⟨w.heap.size,1,none⟩=some (.int .u64 (c.2.1:Int))∧V8.cell? ⟨w.heap.size,2,none⟩=some (.int .u64 (c.2.2:Int))):=⟨cell_but hb8 h5.1 HK0.out.gl,cell_but hb8 h5.2.1 (by simp only;omega),cell_but hb8 h5.2.2.1 (by simp only;omega),cell_but hb8 h5.2.2.2 (by simp only;omega)⟩;clear hO6 hb6 hF8 hb8 h5))
    refine zk hK 16 32767 1 (H5.out _ HB6.out) fun hHeld=>?_
    clear hK K
    try simp only [zz]
    refine zr 15 fun K hK=>?_
    go_simp
    refine zk hK 16 65535 0 (HS8.out) fun hHeld=>?_
    clear hK K
    try simp only [zz]
    refine zn ?_ _
    (try go_wp2)
    go_meet
    exact⟨rfl,HF8.out⟩
   case rest =>
   rename World=>v9
   obtain⟨rfl,N9,Es9,Ls9,k9,hw9,hn9,hz9⟩:=hcut
   have HK9:=hid k9
   have HW9:=hid hw9
   have HN9:=hid hn9
   have HS9:=hid (hz9.st (rep 0) none 0 0)
   have HL9:=hid (hz9.lv (rep 0) none 0 0)
   clear k9 hw9 hn9 hz9
   go_wp2_with (first|((with_reducible refine st_arm HS9.out ?_ ?_ ?_);(· rfl);(· rfl)))
   have hfin:=done_fin HK0.out HK9.out HW9.out (Nat.le_succ _) HN9.out (rep 0) rfl
   rw [HKe.out] at hfin
   exact bodyPost_ret (v:=rpV (rep 0) none 0 0) (by simp [results,Tryz.results56,asAddr,HL9.out]) rfl hfin
end
end Go.Proofs.YtffmodpgddecnaaGreat.V.E
namespace Go.Proofs.YtffmodpgddecnaaGreat.V.E
open Go.RowKit Go.Maps
open Go.Proofs.YtffmodpgddecnaaGreat.H (B64 Cp)
section
variable {w w' V w2:World}
theorem okI_iff {K:List Cp}{i:Int}:M.okI K i=true↔0≤i∧i<(K.length:Int):=by unfold M.okI;exact decide_eq_true_iff
theorem okI_no {K:List Cp}{P:List Int}{j:Nat}{x:Int}(hx:P[j]?=some x)(hb:M.okI K x=false):P.all (M.okI K)=false:=by
 rw [List.all_eq_false]
 exact⟨x,List.mem_of_getElem? hx,by rw [hb];decide⟩
theorem okI_all {K:List Cp}{P:List Int}(h:∀k,k<P.length→∀x,P[k]?=some x→M.okI K x=true):P.all (M.okI K)=true:=by
 rw [List.all_eq_true]
 intro x hx
 obtain⟨k,hk⟩:=List.getElem?_of_mem hx
 exact h k (List.getElem?_eq_some_iff.1 hk).1 x hk
theorem atC_is {K:List Cp}{x:Int}(h:M.okI K x=true):∃k:Nat,x=(k:Int)∧k<K.length∧K[k]?=some (M.atC K x):=by
 obtain⟨h1,h2⟩:=okI_iff.1 h
 refine⟨x.toNat,by omega,by omega,?_⟩
 unfold M.atC
 rw [List.getElem?_eq_getElem (show x.toNat<K.length by omega)]
 rfl
def pkE (K:List Cp)(G:List Int):Int:=if G.all (M.okI K)=true then 0 else 15
def pkL (K:List Cp)(G:List Int):List Cp:=if G.all (M.okI K)=true then G.map (M.atC K) else []
def PkRel (w:World)(K:List Cp)(G:List Int)(v6 v11:Value)(U:World):Prop:=∃(i:Nat) (p:Option Addr) (c:Nat),v6=.slice p i c∧v11=.int .i64 (i:Int)∧i≤G.length∧(∀j,j<i→∀x,G[j]?=some x→M.okI K x=true)∧Ow U w.heap.size 38 3 p i c (caps ((G.take i).map (M.atC K)))∧Below w.heap.size w U
set_option maxRecDepth 100000 in
set_option maxHeartbeats 4000000 in
theorem pick_any {a:Option Addr}{n cap:Nat}{K:List Cp}(k:Ow w 0 38 3 a n cap (caps K))(hn:K.length=n)(hl:n≤32){ga:Option Addr}{gn gc:Nat}{G:List Int}(hG:R.RI w ga gn gc G)(hgl:gn≤255)(hp:∀g∈G,0≤g) :
  Calls Tryz.prog 80 #[.slice a n cap,.slice ga gn gc] w fun e w'=>∃p c,e=.returned (.tuple #[.slice p (pkL K G).length c,.int .i64 (pkE K G)])∧Ow w' w.heap.size 38 3 p (pkL K G).length c (caps (pkL K G))∧Below w.heap.size w w':=by
 have HK:=hid k
 have HG:=hid hG
 have HN:=hid hn
 have HGL:Hid (G.length=gn):=hG.len
 have HP:=hid hp
 clear k hG hn hp
 go_enter Tryz.func80,Tryz.ntmps80
 go_upto_region 3 with fail
 go_loopw [6,11] (PkRel w K G) (fun _ v _=>gn - (intOf v).toNat)
 case atStart=>exact⟨0,none,0,rfl,rfl,by omega,fun j hj=>by omega,by simp [caps];exact Ow.nil _ _ _ _,Below.refl _ _⟩
 case round =>
  obtain⟨i,p,c,rfl,rfl,hi,hok,hO,hbel⟩:=hrel
  rename World=>U
  have HO:=hid hO
  have HBU:=hid hbel
  have HOk:=hid hok
  have hgl2:=HGL.out
  clear hO hbel hok
  by_cases hx:i<gn
  ·have hd:decide ((i:Int)<(gn:Int))=true:=decide_eq_true (by omega)
   obtain⟨g,o,hga,hgc⟩:=(HG.out.later HBU.out).plain (by omega)
   obtain⟨x,hxx⟩:∃x,G[i]?=some x:=⟨G[i]'(by omega),List.getElem?_eq_getElem (by omega)⟩
   have g0:=hgc i (by omega)
   rw [show G[i]'(by omega)=x by have:=List.getElem?_eq_getElem (l:=G) (i:=i) (by omega);rw [hxx] at this;exact (Option.some.inj this).symm] at g0
   have hx0:0≤x:=HP.out x (List.mem_of_getElem? hxx)
   have hii:(i:Int)<(gn:Int):=by omega
   have h0i:(0:Int)≤(i:Int):=by omega
   have HGA:=hid hga
   by_cases ho:M.okI K x=true
   ·obtain⟨kx,rfl,hkl,hkx⟩:=atC_is ho
    obtain⟨z,hz⟩:∃z,z=M.atC K (kx:Int):=⟨_,rfl⟩
    rw [←hz] at hkx
    have hkn:kx<n:=by rw [←HN.out];exact hkl
    have hge:¬n≤kx:=by omega
    have hkii:(kx:Int)<(n:Int):=by omega
    have h0k:(0:Int)≤(kx:Int):=by omega
    obtain⟨b,ha,hcc⟩:=ow_cap (Ow.later HK.out HBU.out) (by omega)
    obtain⟨z0,z1,z2⟩:=hcc kx z hkx
    have HA:=hid ha
    obtain⟨a7,c7,w7,hr7,hO7,hG7⟩:=append_k 63 38 _ 3 24 Tryz.underlying63 infoEC rfl (by omega) (by omega) (Ow.later HO.out (below1 U (.cells #[.int .i64 z.1,.int .u64 (z.2.1:Int),.int .u64 (z.2.2:Int)] 38))) (Cr.lit U 38 (encC z) (by simp [encC,Value.oneCell'])) (by have:=HBU.out.size;simp;omega) (by omega)
    have hbb:Below U.heap.size U (U.alloc (.cells #[.int .i64 z.1,.int .u64 (z.2.1:Int),.int .u64 (z.2.2:Int)] 38)):=below1 _ _
    have HNx:Hid (PkRel w K G (.slice a7 (i+1) c7) (.int .i64 ((i:Int)+1)) w7):=by
     refine⟨i+1,a7,c7,rfl,by simp,by omega,fun j hj x' hx'=>?_,?_,But.below (below_call HBU.out hbb) hG7.but (fun k hk=>(Ow.blk HO.out k hk).1)⟩
     ·by_cases hji:j=i
      ·subst hji
       rw [hxx] at hx'
       cases hx'
       exact ho
      ·exact HOk.out j (by omega) x' hx'
     ·rw [List.take_add_one,hxx,List.map_append,capA]
      simp only [Option.toList_some,List.map_cons,List.map_nil,←hz]
      have:caps [z]=encC z:=by simp [caps]
      rw [this]
      exact hO7
    have HA7:=hid hr7
    have hwi:wrap64 ((i:Int)+1)=(i:Int)+1:=by unfold wrap64;omega
    clear hr7 hO7 hG7 hbb hgc hcc hxx ho hkl hkx hz hx0
    subst_vars
    go_wp2_with (first|(at_builtin;refine wpList_append_known rfl _ _ 63 rfl _ _ rfl rfl _ _ HA7.out ?_))
    refine⟨?_,by simp [intOf];omega⟩
    exact HNx.out
   ·have hof:M.okI K x=false:=by simpa using ho
    have hnx:(n:Int)≤x:=by
     have:¬(0≤x∧x<(K.length:Int)):=fun e=>ho (okI_iff.2 e)
     have:=HN.out
     omega
    have HE:Hid (pkE K G=15∧pkL K G=[]):=by
     have:=okI_no hxx hof
     unfold Hid pkE pkL
     rw [if_neg (by rw [this];decide),if_neg (by rw [this];decide)]
     exact⟨rfl,rfl⟩
    have hd2:decide ((n:Int)≤x)=true:=decide_eq_true hnx
    clear hgc hxx ho hof hx0
    subst_vars
    go_wp2
    exact bodyPost_ret (v:=.tuple #[.slice none 0 0,.int .i64 15]) (by simp [results,Tryz.results80]) rfl ⟨none,0,by rw [HE.out.1,HE.out.2];rfl,by rw [HE.out.2];exact Ow.nil _ _ _ _,HBU.out⟩
  ·have hd:decide ((i:Int)<(gn:Int))=false:=decide_eq_false (by omega)
   obtain rfl:i=gn:=by omega
   have hat:=okI_all (K:=K) (P:=G) (fun j hj x hx=>HOk.out j (by omega) x hx)
   have HE:Hid (pkE K G=0∧pkL K G=G.map (M.atC K)):=by
    unfold Hid pkE pkL
    rw [if_pos hat,if_pos hat]
    exact⟨rfl,rfl⟩
   have ht:G.take i=G:=List.take_of_length_le (by omega)
   rw [ht] at HO
   have HL:Hid ((G.map (M.atC K)).length=i):=by unfold Hid;rw [List.length_map];omega
   clear hat ht
   go_wp2
   exact bodyPost_ret (v:=.tuple #[.slice p i c,.int .i64 0]) (by simp [results,Tryz.results80]) rfl ⟨p,c,by rw [HE.out.1,HE.out.2,HL.out],by rw [HE.out.2,HL.out];exact HO.out,HBU.out⟩
end
end Go.Proofs.YtffmodpgddecnaaGreat.V.E
namespace Go.Proofs.YtffmodpgddecnaaGreat.V.E
open Go.RowKit Go.Maps
open Go.Proofs.YtffmodpgddecnaaGreat.H (B64 Cp)
section
variable {w w' V w2:World}{h:Hm}{q x:Pl}{N N':Nat→Prop}{Es:List En}{Ls:List Ln}
set_option maxRecDepth 100000 in
set_option maxHeartbeats 4000000 in
theorem spawn_any (k:Md w h q N Es Ls)(hf:Fit h.p q)(by_:Int)(hby:S.i64ok by_){ga:Option Addr}{gn gc:Nat}{G:List Int}(hG:R.RI w ga gn gc G)(hgl:gn≤255)(hp:∀g∈G,0≤g):Calls Tryz.prog 58 #[.pointer (some ⟨h.g,0,none⟩),.int .i64 by_,.slice ga gn gc] w (DidP w h N (pSpa h.p q by_ G)):=by
 obtain⟨W,hW⟩:∃W,W=w.alloc z6:=⟨_,rfl⟩
 have hB:Below w.heap.size w W:=by rw [hW];exact below1 _ _
 have hZ:Zr W w.heap.size:=by rw [hW];exact Zr.new w
 have k1:=k.later hB
 have x13:=k1.cell 13 rfl
 obtain⟨y,hy⟩:∃y,y=lnA Ls by_:=⟨_,rfl⟩
 have hls:=k1.ls by_
 have hlr:=(k1.lrA by_).l
 rw [←hy] at hls hlr
 have hlk:=k1.lookL hby
 rw [←hy] at hlk
 have hlk:(Instr.lookup 59 (.map (some h.bl)) (.int .i64 by_) false).run Tryz.prog W=.ok (.slice y.a y.K.length y.c) W:=hlk
 have hKl:y.K.length≤32:=by rw [hls];exact ls_le hf by_
 have hPk:=pick_any hlr rfl hKl (hG.later hB) hgl hp
 have hGl:=hG.len
 obtain⟨l,hl⟩:∃l,l=h.cf.l:=⟨_,rfl⟩
 have hlm:h.p.lm=l:=by rw [hl];rfl
 obtain⟨r,hr⟩:∃r,r=h.cf.r:=⟨_,rfl⟩
 have hpm:h.p.pm=r:=by rw [hr];rfl
 obtain⟨nX,hnX⟩:∃nX,nX=q.X.length:=⟨_,rfl⟩
 have H6:Hid (∀U:World,Below W.heap.size W U→U.cell? ⟨h.g,6,none⟩=some (.int .i64 l)):=fun U hU=>by rw [hl];exact (k1.later hU).cell 6 rfl
 have H3:Hid (∀U:World,Below W.heap.size W U→U.cell? ⟨h.g,13,none⟩=some (.map (some h.bl))∧U.cell? ⟨h.g,5,none⟩=some (.int .i64 r)∧(Builtin.len_ #[59] 3 #[.map (some h.bl)]).run Tryz.prog U=.ok (.int .i64 (nX:Int)) U):=fun U hU=>⟨(k1.later hU).cell 13 rfl,by rw [hr];exact (k1.later hU).cell 5 rfl,by
  have:=(k1.later hU).ml.len Tryz.underlying59 3
  rw [List.length_map,k1.lenL,←hnX] at this
  exact this⟩
 have hHp:S.i64ok q.px:=by have:=hf.px;unfold S.i64ok;omega
 have hnew:∀e∈Ls,e.id<q.px:=fun e he=>by
  have:=hf.mx e.l (by rw [←k.le];exact List.mem_map_of_mem (f:=Ln.l) he)
  exact this.2
 have hlE:Ls.length≤1024:=by rw [k.lenL];exact xs_le hf
 have hpx:=hf.px
 have hgll:=k.glt
 have hll:=k.llt
 have hol:=k.olt
 unfold pSpa
 rw [←hls,hlm,hpm,←hnX]
 have HK0:=hid k
 have HK:=hid k1
 have HB:=hid hB
 have HW:=hid hW
 have HZ:=hid hZ
 have HNw:=hid hnew
 have HHp:=hid hHp
 have HPk:=hid hPk
 have HPx:=hid hpx
 obtain⟨n,hn⟩:∃n,n=y.K.length:=⟨_,rfl⟩
 rw [←hn] at HPk hlk
 have HLk:=hid hlk
 have hwz:w.heap.size<W.heap.size:=HZ.out.lt
 clear k k1 hB hZ hW hf hlr hy hls hn hlk hl hlm hr hpm hnX hHp hnew hPk hG hp hKl hpx
 by_cases hall:G.all (M.okI y.K)=true
 ·have e1:pkE y.K G=0:=if_pos hall
  have e2:pkL y.K G=G.map (M.atC y.K):=if_pos hall
  have e3:(G.map (M.atC y.K)).length=gn:=by rw [List.length_map];exact hGl
  rw [e1,e2,e3] at HPk
  by_cases h1:l<(gn:Int)
  ·have ep:M.pickE l y.K G=14:=by unfold M.pickE;rw [if_pos hall,if_pos (by rw [hGl];exact h1)]
   rw [ep,if_pos (by decide)]
   have hd:decide (l<(gn:Int))=true:=decide_eq_true h1
   clear hall e1 e2 e3 h1 ep hGl
   go_enter Tryz.func58,Tryz.ntmps58
   go_upto_region 1 with fail
   rw [←HW.out]
   go_upto_region 5 with (first|((with_reducible refine look_arm HLk.out ?_ ?_ ?_);(· rfl);(· rfl))|(go_at_call 80;refine HPk.out.mono ?_;rintro e w1 ⟨p,c,rfl,hO1,hb1⟩;have HO1:=hid hO1;have HB1:=hid hb1;have x6:=(H6.out w1 hb1);clear hO1 hb1))
   have HZ1:=hid (HZ.out.later HB1.out)
   have HR_:=hid (refused_any 14 w1)
   go_wp2_with (first|(go_at_call 28;refine HR_.out.mono ?_;rintro e_ w3 ⟨rfl,hb3⟩;have HB3:=hid hb3;have HZ9:=hid (HZ1.out.later HB3.out);have HS9:=hid (HZ9.out.st (rep 14) none 0 0);have HL9:=hid (HZ9.out.lv (rep 14) none 0 0);clear hb3)|((with_reducible refine st_arm HS9.out ?_ ?_ ?_);(· rfl);(· rfl)))
   exact bodyPost_ret (v:=rpV (rep 14) none 0 0) (by simp [results,Tryz.results58,asAddr,HL9.out]) rfl (refuse_fin HK0.out (HK.out.later HB1.out) (WentP.later (below_call HB.out HB1.out)) HB3.out (Nat.le_refl _) (rep 14) rfl)
  have ep:M.pickE l y.K G=0:=by unfold M.pickE;rw [if_pos hall,if_neg (by rw [hGl];exact h1)]
  have el:M.pickL l y.K G=G.map (M.atC y.K):=by unfold M.pickL;rw [ep,if_pos rfl]
  rw [ep,if_neg (by decide),el]
  have hd:decide (l<(gn:Int))=false:=decide_eq_false h1
  obtain⟨L,hL⟩:∃L,L=G.map (M.atC y.K):=⟨_,rfl⟩
  rw [←hL] at HPk e3 ⊢
  have HLn:=hid e3
  clear hall e1 e2 e3 h1 ep el hGl hL
  by_cases h2:r≤(nX:Int)
  ·rw [if_pos (.inl h2)]
   have hd2:decide (r≤(nX:Int))=true:=decide_eq_true h2
   clear h2
   go_enter Tryz.func58,Tryz.ntmps58
   go_upto_region 1 with fail
   rw [←HW.out]
   go_upto_region 6 with (first|((with_reducible refine look_arm HLk.out ?_ ?_ ?_);(· rfl);(· rfl))|(go_at_call 80;refine HPk.out.mono ?_;rintro e w1 ⟨p,c,rfl,hO1,hb1⟩;have HO1:=hid hO1;have HB1:=hid hb1;have x6:=(H6.out w1 hb1);clear hO1 hb1))
   have HZ1:=hid (HZ.out.later HB1.out)
   go_cut [36] (fun v U=>v=.bool true∧Below w1.heap.size w1 U)
   case first =>
    go_region_held3 (fun U=>U.cell? ⟨h.g,13,none⟩=some (.map (some h.bl))∧U.cell? ⟨h.g,5,none⟩=some (.int .i64 r)∧(Builtin.len_ #[59] 3 #[.map (some h.bl)]).run Tryz.prog U=.ok (.int .i64 (nX:Int)) U) (first|exact H3.out _ (below_call HB1.out (Below.refl _ _).drew)) (fail)
    all_goals (try go_wp2)
    all_goals go_meet
    all_goals exact⟨rfl,(Below.refl _ _).drew⟩
   case rest =>
   rename World=>v
   obtain⟨rfl,hbv⟩:=hcut
   have HBv:=hid (below_call HB1.out hbv)
   have HB1v:=hid hbv
   have HZ1:=hid (HZ.out.later HBv.out)
   clear hbv
   have HR_:=hid (refused_any 13 v)
   go_wp2_with (first|(go_at_call 28;refine HR_.out.mono ?_;rintro e_ w3 ⟨rfl,hb3⟩;have HB3:=hid hb3;have HZ9:=hid (HZ1.out.later HB3.out);have HS9:=hid (HZ9.out.st (rep 13) none 0 0);have HL9:=hid (HZ9.out.lv (rep 13) none 0 0);clear hb3)|((with_reducible refine st_arm HS9.out ?_ ?_ ?_);(· rfl);(· rfl)))
   exact bodyPost_ret (v:=rpV (rep 13) none 0 0) (by simp [results,Tryz.results58,asAddr,HL9.out]) rfl (refuse_fin HK0.out (HK.out.later HBv.out) (WentP.later (below_call HB.out HBv.out)) HB3.out (Nat.le_refl _) (rep 13) rfl)
  have hd2:decide (r≤(nX:Int))=false:=decide_eq_false h2
  by_cases h3:65535<q.px
  ·rw [if_pos (.inr h3)]
   have hd3:decide (65535<q.px)=true:=decide_eq_true h3
   clear h2 h3
   go_enter Tryz.func58,Tryz.ntmps58
   go_upto_region 1 with fail
   rw [←HW.out]
   go_upto_region 6 with (first|((with_reducible refine look_arm HLk.out ?_ ?_ ?_);(· rfl);(· rfl))|(go_at_call 80;refine HPk.out.mono ?_;rintro e w1 ⟨p,c,rfl,hO1,hb1⟩;have HO1:=hid hO1;have HB1:=hid hb1;have x6:=(H6.out w1 hb1);clear hO1 hb1))
   have HZ1:=hid (HZ.out.later HB1.out)
   go_cut [36] (fun v U=>v=.bool false∧Below w1.heap.size w1 U)
   case first =>
    go_region_held3 (fun U=>U.cell? ⟨h.g,13,none⟩=some (.map (some h.bl))∧U.cell? ⟨h.g,5,none⟩=some (.int .i64 r)∧(Builtin.len_ #[59] 3 #[.map (some h.bl)]).run Tryz.prog U=.ok (.int .i64 (nX:Int)) U) (first|exact H3.out _ (below_call HB1.out (Below.refl _ _).drew)) (fail)
    all_goals (try go_wp2)
    all_goals go_meet
    all_goals exact⟨rfl,(Below.refl _ _).drew⟩
   case rest =>
   rename World=>v
   obtain⟨rfl,hbv⟩:=hcut
   have HBv:=hid (below_call HB1.out hbv)
   have HB1v:=hid hbv
   have HZ1:=hid (HZ.out.later HBv.out)
   clear hbv
   have x15:=(HK.out.later HBv.out).cell 15 rfl
   have HR_:=hid (refused_any 13 v)
   go_wp2_with (first|(go_at_call 28;refine HR_.out.mono ?_;rintro e_ w3 ⟨rfl,hb3⟩;have HB3:=hid hb3;have HZ9:=hid (HZ1.out.later HB3.out);have HS9:=hid (HZ9.out.st (rep 13) none 0 0);have HL9:=hid (HZ9.out.lv (rep 13) none 0 0);clear hb3)|((with_reducible refine st_arm HS9.out ?_ ?_ ?_);(· rfl);(· rfl)))
   exact bodyPost_ret (v:=rpV (rep 13) none 0 0) (by simp [results,Tryz.results58,asAddr,HL9.out]) rfl (refuse_fin HK0.out (HK.out.later HBv.out) (WentP.later (below_call HB.out HBv.out)) HB3.out (Nat.le_refl _) (rep 13) rfl)
  rw [if_neg (fun e=>e.elim h2 h3)]
  have hd3:decide (65535<q.px)=false:=decide_eq_false h3
  clear h2 h3
  go_enter Tryz.func58,Tryz.ntmps58
  go_upto_region 1 with fail
  rw [←HW.out]
  go_upto_region 6 with (first|((with_reducible refine look_arm HLk.out ?_ ?_ ?_);(· rfl);(· rfl))|(go_at_call 80;refine HPk.out.mono ?_;rintro e w1 ⟨p,c,rfl,hO1,hb1⟩;have HO1:=hid hO1;have HB1:=hid hb1;have x6:=(H6.out w1 hb1);clear hO1 hb1))
  have HZ1:=hid (HZ.out.later HB1.out)
  go_cut [36] (fun v U=>v=.bool false∧Below w1.heap.size w1 U)
  case first =>
   go_region_held3 (fun U=>U.cell? ⟨h.g,13,none⟩=some (.map (some h.bl))∧U.cell? ⟨h.g,5,none⟩=some (.int .i64 r)∧(Builtin.len_ #[59] 3 #[.map (some h.bl)]).run Tryz.prog U=.ok (.int .i64 (nX:Int)) U) (first|exact H3.out _ (below_call HB1.out (Below.refl _ _).drew)) (fail)
   all_goals (try go_wp2)
   all_goals go_meet
   all_goals exact⟨rfl,(Below.refl _ _).drew⟩
  case rest =>
  rename World=>v
  obtain⟨rfl,hbv⟩:=hcut
  have HBv:=hid (below_call HB1.out hbv)
  have HB1v:=hid hbv
  have HZ1:=hid (HZ.out.later HBv.out)
  clear hbv
  have kv:=HK.out.later HBv.out
  have x15:=kv.cell 15 rfl
  have z15:=kv.fz 15 (by omega)
  have HWx:Hid (wrap64 (q.px+1)=q.px+1∧IntKind.i64.wrap (q.px+1)=q.px+1):=by
   have:=HPx.out
   exact⟨by unfold wrap64;omega,by rw [IntKind.wrap_i64];omega⟩
  obtain⟨V1,hV1⟩:∃V1,V1=v.setCell ⟨h.g,15,none⟩ (.int .i64 (q.px+1)):=⟨_,rfl⟩
  have hb1:But (·=h.g) v V1:=by rw [hV1];exact (But.refl (·=h.g) v).setCell (p:=⟨h.g,15,none⟩) rfl _
  have k1:Md V1 h { q with px:=q.px+1 } N Es Ls:=by rw [hV1];exact kv.setG (q':={ q with px:=q.px+1 }) rfl rfl 15 _ (by omega) rfl
  have hOv:=(Ow.later HO1.out HB1v.out)
  have hgt:∀j,Blk p j→W.heap.size≤j:=fun j hj=>(Ow.blk HO1.out j hj).1
  have hOV:Ow V1 0 38 3 p gn c (caps L):=(Ow.but hOv hb1 (fun j hj e=>by have:=hgt j hj;have:=HB.out.size;omega)).mono (Nat.zero_le _)
  obtain⟨V2,hr2,k2,hb2,-⟩:=k1.addX ⟨q.px,L,p,c⟩ HHp.out HNw.out hlE ⟨by rw [HLn.out];exact hOV,fun j hj=>by have:=hgt j hj;have:=HB.out.size;exact⟨by omega,by omega,by omega⟩⟩
  simp only [Ln.val,HLn.out] at hr2
  simp only [Ln.l] at k2
  have HR2:=hid hr2
  have HK2:=hid k2
  have HW2:Hid (WentP w h N V2 (NL N ⟨q.px,L,p,c⟩)):=by
   have h1:=(WentP.later (N:=N) (h:=h) (below_call HB.out HBv.out)).trans ((went_g hb1).trans (went_l hb2))
   refine⟨h1.1,fun j hj=>?_⟩
   rcases hj with hj|hj
   ·exact .inl hj
   ·exact .inr (by have:=hgt j hj;have:=HB.out.size;omega)
  have HN2:Hid (¬NL N ⟨q.px,L,p,c⟩ w.heap.size):=fun e=>by
   rcases e with e|e
   ·exact HK0.out.new (Nat.le_refl _) e
   ·have:=hgt _ e;omega
  have HZ2:=hid ((HZ1.out.but hb1 (by omega)).but hb2 (by omega))
  have HS9:=hid (HZ2.out.st ⟨0,(0,0,0),[],q.px⟩ none 0 0)
  have HL9:=hid (HZ2.out.lv ⟨0,(0,0,0),[],q.px⟩ none 0 0)
  have HV1:=hid hV1
  have y13:=k1.cell 13 rfl
  have hwx:=HWx.out.1
  clear hb1 k1 hOv hgt hOV hr2 k2 hb2 hV1 kv
  go_upto_region 11 with fail
  first|rw [←HV1.out]|(rw [hwx,←HV1.out])
  go_wp2_with (first|((with_reducible refine upd_arm HR2.out ?_ ?_ ?_ ?_);(· rfl);(· rfl);(· rfl))|((with_reducible refine st_arm HS9.out ?_ ?_ ?_);(· rfl);(· rfl)))
  exact bodyPost_ret (v:=rpV ⟨0,(0,0,0),[],q.px⟩ none 0 0) (by simp [results,Tryz.results58,asAddr,HL9.out]) rfl (done_fin HK0.out HK2.out HW2.out (Nat.le_refl _) HN2.out ⟨0,(0,0,0),[],q.px⟩ rfl)
 ·have hf:G.all (M.okI y.K)=false:=by simpa using hall
  have e1:pkE y.K G=15:=if_neg hall
  have e2:pkL y.K G=[]:=if_neg hall
  rw [e1,e2] at HPk
  have ep:M.pickE l y.K G=15:=by unfold M.pickE;rw [if_neg hall]
  rw [ep,if_pos (by decide)]
  clear hall e1 e2 ep hGl hf
  go_enter Tryz.func58,Tryz.ntmps58
  go_upto_region 1 with fail
  rw [←HW.out]
  go_upto_region 3 with (first|((with_reducible refine look_arm HLk.out ?_ ?_ ?_);(· rfl);(· rfl))|(go_at_call 80;refine HPk.out.mono ?_;rintro e w1 ⟨p,c,rfl,hO1,hb1⟩;have HO1:=hid hO1;have HB1:=hid hb1;have x6:=(H6.out w1 hb1);clear hO1 hb1))
  have HZ1:=hid (HZ.out.later HB1.out)
  have HR_:=hid (refused_any 15 w1)
  go_wp2_with (first|(go_at_call 28;refine HR_.out.mono ?_;rintro e_ w3 ⟨rfl,hb3⟩;have HB3:=hid hb3;have HZ9:=hid (HZ1.out.later HB3.out);have HS9:=hid (HZ9.out.st (rep 15) none 0 0);have HL9:=hid (HZ9.out.lv (rep 15) none 0 0);clear hb3)|((with_reducible refine st_arm HS9.out ?_ ?_ ?_);(· rfl);(· rfl)))
  exact bodyPost_ret (v:=rpV (rep 15) none 0 0) (by simp [results,Tryz.results58,asAddr,HL9.out]) rfl (refuse_fin HK0.out (HK.out.later HB1.out) (WentP.later (below_call HB.out HB1.out)) HB3.out (Nat.le_refl _) (rep 15) rfl)
end
end Go.Proofs.YtffmodpgddecnaaGreat.V.E
namespace Go.Proofs.YtffmodpgddecnaaGreat.V.E
open Go.RowKit Go.Maps
open Go.Proofs.YtffmodpgddecnaaGreat.H (B64 Cp)
section
variable {w w' V w2:World}{h:Hm}{q x:Pl}{N N':Nat→Prop}{Es:List En}{Ls:List Ln}{c:R.Cl}{dd gg:R.Sl}
theorem sliceB_lh (w:World)(a:Option Addr)(n c i j:Nat)(h1:i≤j)(h2:j≤c):(Instr.sliceAt 39 (.slice a n c) (some (.int .i64 (i:Int))) (some (.int .i64 (j:Int))) none).run Tryz.prog w=.ok (.slice (cutK a c i 1) (j - i) (c - i)) w:=by
 rw [run_sliceAt_slice _ _ _ _ _ _ undB,run_slice_lh _ _ _ _ _ undB _ _ _ _ (by omega) (by omega) (by omega),elB,szB]
 rfl
theorem rg_iff (size off n:Int):rgB size off n=true↔0≤off∧0≤n∧n≤1024∧off+n≤size:=by
 unfold rgB R.wi
 simp only [Bool.and_eq_true,decide_eq_true_eq]
 omega
theorem by_le {p:Pm}(hf:Fit p q)(o:Int):(byO q.O o).length≤4096:=by
 unfold byO obO
 cases hfd:q.O.find? (fun q=>decide (q.1=o)) with
 | none=>simp
 | some e=>simpa using (hf.ob e (List.mem_of_find?_eq_some hfd)).2.1
theorem u8O (L:List Nat):∀u∈S.u8s L,u.oneCell'=true:=fun u hu=>by
 obtain⟨x,-,rfl⟩:=List.mem_map.1 hu
 rfl
set_option maxRecDepth 100000 in
set_option maxHeartbeats 4000000 in
theorem read_any (k:Md w h q N Es Ls)(hf:Fit h.p q)(hi:R.Is w c dd gg)(hc:S.i64ok c.obj)(hby:S.i64ok c.by_):Calls Tryz.prog 54 #[.pointer (some ⟨h.g,0,none⟩),.agg (R.cC c dd gg).toArray] w (DidP w h N (pRead q c.given c.by_ (cpO c) c.off c.n)):=by
 obtain⟨W,hW⟩:∃W,W=(w.alloc (Obj.cells (R.cC c dd gg).toArray 45)).alloc z6:=⟨_,rfl⟩
 have hB:Below w.heap.size w W:=by rw [hW];exact below2 _ _ _
 have hX:R.Bx W w.heap.size (R.cC c dd gg):=by rw [hW];exact R.Bx.later (below1 _ _) (R.Bx.new w (R.cC c dd gg) 45)
 have hZ:Zr W (w.heap.size+1):=by rw [hW];have:=Zr.new (w.alloc (Obj.cells (R.cC c dd gg).toArray 45));simpa using this
 have k1:=k.later hB
 have HLd:=hid (ldC hX)
 have HV:=hid (validated_any k1 hf (hi.later hB) hc hby 1)
 obtain⟨x,hx⟩:∃x,x=enA Es c.obj:=⟨_,rfl⟩
 have hby2:=k1.by c.obj
 have hrow:=(k1.erA c.obj).b
 rw [←hx] at hby2 hrow
 have hbl:x.b.length≤4096:=by rw [hby2];exact by_le hf _
 obtain⟨bl,hbl0⟩:∃bl,bl=x.b.length:=⟨_,rfl⟩
 obtain⟨tl,htl0⟩:∃tl,tl=x.T.length:=⟨_,rfl⟩
 have H4:Hid (∀U:World,Below W.heap.size W U→U.cell? ⟨h.g,12,none⟩=some (.map (some h.bo))∧U.cell? ⟨w.heap.size,3,none⟩=some (.int .i64 c.obj)∧(Instr.lookup 58 (.map (some h.bo)) (.int .i64 c.obj) false).run Tryz.prog U=.ok (.agg #[.slice x.ba bl x.bc,.slice x.ta tl x.tc]) U):=fun U hU=>⟨(k1.later hU).cell 12 rfl,(R.Bx.later hU hX).cell 3 rfl,by rw [(k1.later hU).look hc,←hx,hbl0,htl0];rfl⟩
 have H5:Hid (∀U:World,Below W.heap.size W U→U.cell? ⟨w.heap.size,8,none⟩=some (.int .i64 c.off)∧U.cell? ⟨w.heap.size,9,none⟩=some (.int .i64 c.n)):=fun U hU=>⟨(R.Bx.later hU hX).cell 8 rfl,(R.Bx.later hU hX).cell 9 rfl⟩
 have hfd:=fdO0
 have hgl:=k.glt
 have hol:=k.olt
 have hll:=k.llt
 have HK0:=hid k
 have HK:=hid k1
 have HB:=hid hB
 have HW:=hid hW
 have HZ:=hid hZ
 have HRow:=hid hrow
 have hb0:byO q.O (cpO c).1=x.b:=hby2.symm
 unfold pRead
 rw [hb0]
 rw [←hbl0] at hbl ⊢
 have HBl:=hid hbl0
 clear k k1 hB hX hZ hW hf hi hc hby hx hby2 hrow hbl0 htl0 hb0
 obtain⟨e,he⟩:∃e,e=valP q c.given (lsX q.X c.by_) 1 (cpO c):=⟨_,rfl⟩
 rw [←he] at HV ⊢
 clear he
 by_cases h1:e≠0
 ·rw [if_pos h1]
  have hd:(e != 0)=true:=by simp [h1]
  clear h1
  go_enter Tryz.func54,Tryz.ntmps54
  go_upto_region 1 with fail
  rw [←HW.out]
  go_upto_region 3 with (first|((with_reducible refine R.ld_arm HLd.out ?_ ?_);(· rfl))|(go_at_call 75;refine HV.out.mono ?_;rintro e w1 ⟨rfl,hb1⟩;have HB1:=hid hb1;clear hb1))
  have HZ1:=hid (HZ.out.later HB1.out)
  have HR_:=hid (refused_any e w1)
  go_wp2_with (first|(go_at_call 28;refine HR_.out.mono ?_;rintro e_ w3 ⟨rfl,hb3⟩;have HB3:=hid hb3;have HZ9:=hid (HZ1.out.later HB3.out);have HS9:=hid (HZ9.out.st (rep e) none 0 0);have HL9:=hid (HZ9.out.lv (rep e) none 0 0);clear hb3)|((with_reducible refine st_arm HS9.out ?_ ?_ ?_);(· rfl);(· rfl)))
  exact bodyPost_ret (v:=rpV (rep e) none 0 0) (by simp [results,Tryz.results54,asAddr,HL9.out]) rfl (refuse_fin HK0.out (HK.out.later HB1.out) (WentP.later (below_call HB.out HB1.out)) HB3.out (Nat.le_succ _) (rep e) rfl)
 have h1:e=0:=by simpa using h1
 rw [if_neg (by rw [h1];simp)]
 subst h1
 have HRg:=hid (fun U=>inRange_any (bl:Int) c.off c.n ⟨by omega,by omega⟩ U)
 by_cases h2:0≤c.off∧0≤c.n∧c.n≤1024∧c.off+c.n≤(bl:Int)
 ·rw [if_pos h2]
  have hr:=(rg_iff (bl:Int) c.off c.n).2 h2
  rw [hr] at HRg
  obtain⟨o,ho⟩:∃o:Nat,c.off=(o:Int):=⟨c.off.toNat,by omega⟩
  obtain⟨m,hm⟩:∃m:Nat,c.n=(m:Int):=⟨c.n.toNat,by omega⟩
  rw [ho,hm] at h2 H5 HRg ⊢
  obtain⟨h3,h4,h5,h6⟩:=h2
  have hm9:m≤1024:=by omega
  have hnc:=ow_le HRow.out
  rw [←HBl.out] at hnc
  have e1:(o:Int).toNat=o:=Int.toNat_natCast o
  have e2:(m:Int).toNat=m:=Int.toNat_natCast m
  rw [e1,e2]
  obtain⟨D,hD⟩:∃D,D=(x.b.drop o).take m:=⟨_,rfl⟩
  rw [←hD]
  have HSl:Hid (∀U:World,(Instr.sliceAt 39 (.slice x.ba bl x.bc) (some (.int .i64 (o:Int))) (some (.int .i64 ((o:Int)+(m:Int)))) none).run Tryz.prog U=.ok (.slice (cutK x.ba x.bc o 1) m (x.bc - o)) U):=fun U=>by
   have:=sliceB_lh U x.ba bl x.bc o (o+m) (by omega) (by omega)
   rw [show o+m - o=m by omega] at this
   exact this
  have hCr:∀U:World,Below W.heap.size W U→Cr U 1 (cutK x.ba x.bc o 1) m (x.bc - o) (S.u8s D):=fun U hU=>by
   have h0:=cr_later (ow_cr HRow.out (u8O _)) hU
   rw [←HBl.out] at h0
   have h1:=cr_take (cr_cut h0 o (by omega) hnc) m (by omega)
   rw [hD]
   simpa [S.u8s,List.map_drop,List.map_take] using h1
  have HCr:=hid hCr
  obtain⟨ac,hac⟩:∃ac,ac=cutK x.ba x.bc o 1:=⟨_,rfl⟩
  obtain⟨cc,hcc⟩:∃cc,cc=x.bc - o:=⟨_,rfl⟩
  rw [←hac,←hcc] at HSl HCr
  have HW1:Hid (wrap64 ((o:Int)+(m:Int))=(o:Int)+(m:Int)):=by unfold Hid wrap64;omega
  have HD:=hid hD
  clear e1 e2 ho hm h3 h4 h5 h6 hnc hCr hac hcc hD hr
  go_enter Tryz.func54,Tryz.ntmps54
  go_upto_region 1 with fail
  rw [←HW.out]
  go_upto_region 4 with (first|((with_reducible refine R.ld_arm HLd.out ?_ ?_);(· rfl))|(go_at_call 75;refine HV.out.mono ?_;rintro e w1 ⟨rfl,hb1⟩;have HB1:=hid hb1;clear hb1))
  have HZ1:=hid (HZ.out.later HB1.out)
  go_cut [6] (fun v U=>v=.slice x.ba bl x.bc∧Below w1.heap.size w1 U)
  case first =>
   go_region_held3 (fun U=>U.cell? ⟨h.g,12,none⟩=some (.map (some h.bo))∧U.cell? ⟨w.heap.size,3,none⟩=some (.int .i64 c.obj)∧(Instr.lookup 58 (.map (some h.bo)) (.int .i64 c.obj) false).run Tryz.prog U=.ok (.agg #[.slice x.ba bl x.bc,.slice x.ta tl x.tc]) U) (first|exact H4.out _ (below_call HB1.out (Below.refl _ _).drew)) (fail)
   all_goals (try go_wp2)
   all_goals go_meet
   all_goals exact⟨rfl,(Below.refl _ _).drew⟩
  case rest =>
  rename World=>v
  obtain⟨rfl,hbv⟩:=hcut
  have HBv:=hid (below_call HB1.out hbv)
  have HZ1:=hid (HZ.out.later HBv.out)
  obtain⟨x8,x9⟩:=H5.out v HBv.out
  clear hbv
  go_upto_region 7 with (first|(go_at_call 76;refine (HRg.out _).mono ?_;rintro e w3 ⟨rfl,hw3⟩;obtain rfl:=hw3.symm;clear hw3))
  have hsl:=HSl.out
  have hw1:=HW1.out
  obtain⟨a7,c7,w7,hr7,hO7,hG7⟩:=append_k 39 5 _ 1 1 Tryz.underlying39 infoEB rfl (by omega) (by omega) (Ow.nil v v.heap.size 5 1) (HCr.out v HBv.out) (Nat.le_refl _) (by have:=(HCr.out v HBv.out).len;omega)
  have hb7:Below v.heap.size v w7:=But.below (Below.refl _ _) hG7.but (fun k hk=>by obtain⟨_,h,_⟩:=hk;cases h)
  rw [Nat.zero_add,List.nil_append] at hO7
  rw [Nat.zero_add] at hr7
  have HO7:=hid hO7
  have HB7:=hid hb7
  have HA7:=hid hr7
  have HZ7:=hid (HZ1.out.later hb7)
  have HS9:=hid (HZ7.out.st ⟨0,(0,0,0),D,0⟩ a7 m c7)
  have HL9:=hid (HZ7.out.lv ⟨0,(0,0,0),D,0⟩ a7 m c7)
  clear hr7 hO7 hG7 hb7
  go_wp2_with (first|(at_builtin;refine wpList_append_known rfl _ _ 39 rfl _ _ rfl rfl _ _ HA7.out ?_)|((with_reducible refine st_arm HS9.out ?_ ?_ ?_);(· rfl);(· rfl)))
  refine bodyPost_ret (v:=rpV ⟨0,(0,0,0),D,0⟩ a7 m c7) (by simp [results,Tryz.results54,asAddr,HL9.out]) rfl ?_
  have hlt:=HZ1.out.lt
  have hb9:But (·=w.heap.size+1) w7 (w7.setCells (w.heap.size+1) 0 (rpL ⟨0,(0,0,0),D,0⟩ a7 m c7)):=R.setCells_but (S:=(·=w.heap.size+1)) rfl _ 0 (But.refl _ _)
  have hfin:=did_fin (HK.out.later (below_call HBv.out HB7.out)) (WentP.later (N:=N) (h:=h) (below_call HB.out (below_call HBv.out HB7.out))) (Nat.le_succ _) (HK0.out.new (Nat.le_succ _)) ⟨by omega,by omega,by omega⟩ (rpL ⟨0,(0,0,0),D,0⟩ a7 m c7)
  have hge:∀j,Blk a7 j→v.heap.size≤j:=fun j hj=>(Ow.blk HO7.out j hj).1
  refine⟨a7,m,c7,N,rfl,⟨?_,u8O _⟩,⟨_,_,hfin.1⟩,hfin.2,fun j hj=>HK0.out.new (by have:=hge j hj;omega)⟩
  exact (Ow.but HO7.out hb9 (fun j hj e=>by have:=hge j hj;omega)).mono (by omega)
 ·rw [if_neg h2]
  have hr:rgB (bl:Int) c.off c.n=false:=by
   cases hq:rgB (bl:Int) c.off c.n with
   | true=>exact absurd ((rg_iff _ _ _).1 hq) h2
   | false=>rfl
  rw [hr] at HRg
  clear hr h2
  go_enter Tryz.func54,Tryz.ntmps54
  go_upto_region 1 with fail
  rw [←HW.out]
  go_upto_region 4 with (first|((with_reducible refine R.ld_arm HLd.out ?_ ?_);(· rfl))|(go_at_call 75;refine HV.out.mono ?_;rintro e w1 ⟨rfl,hb1⟩;have HB1:=hid hb1;clear hb1))
  have HZ1:=hid (HZ.out.later HB1.out)
  go_cut [6] (fun v U=>v=.slice x.ba bl x.bc∧Below w1.heap.size w1 U)
  case first =>
   go_region_held3 (fun U=>U.cell? ⟨h.g,12,none⟩=some (.map (some h.bo))∧U.cell? ⟨w.heap.size,3,none⟩=some (.int .i64 c.obj)∧(Instr.lookup 58 (.map (some h.bo)) (.int .i64 c.obj) false).run Tryz.prog U=.ok (.agg #[.slice x.ba bl x.bc,.slice x.ta tl x.tc]) U) (first|exact H4.out _ (below_call HB1.out (Below.refl _ _).drew)) (fail)
   all_goals (try go_wp2)
   all_goals go_meet
   all_goals exact⟨rfl,(Below.refl _ _).drew⟩
  case rest =>
  rename World=>v
  obtain⟨rfl,hbv⟩:=hcut
  have HBv:=hid (below_call HB1.out hbv)
  have HZ1:=hid (HZ.out.later HBv.out)
  obtain⟨x8,x9⟩:=H5.out v HBv.out
  clear hbv
  go_upto_region 6 with (first|(go_at_call 76;refine (HRg.out _).mono ?_;rintro e w3 ⟨rfl,hw3⟩;obtain rfl:=hw3.symm;clear hw3))
  have HR_:=hid (refused_any 5 v)
  go_wp2_with (first|(go_at_call 28;refine HR_.out.mono ?_;rintro e_ w3 ⟨rfl,hb3⟩;have HB3:=hid hb3;have HZ9:=hid (HZ1.out.later HB3.out);have HS9:=hid (HZ9.out.st (rep 5) none 0 0);have HL9:=hid (HZ9.out.lv (rep 5) none 0 0);clear hb3)|((with_reducible refine st_arm HS9.out ?_ ?_ ?_);(· rfl);(· rfl)))
  exact bodyPost_ret (v:=rpV (rep 5) none 0 0) (by simp [results,Tryz.results54,asAddr,HL9.out]) rfl (refuse_fin HK0.out (HK.out.later HBv.out) (WentP.later (below_call HB.out HBv.out)) HB3.out (Nat.le_succ _) (rep 5) rfl)
end
end Go.Proofs.YtffmodpgddecnaaGreat.V.E
