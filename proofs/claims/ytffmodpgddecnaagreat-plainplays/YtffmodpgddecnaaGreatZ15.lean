import Derived.Test.YtffmodpgddecnaaGreatZ14
set_option linter.unusedVariables false
set_option linter.unusedSimpArgs false
namespace Go.Proofs.YtffmodpgddecnaaGreat.V.E
open Go.RowKit Go.Maps
open Go.Proofs.YtffmodpgddecnaaGreat.H (B64 Cp)
section
variable {w w' V w2:World}{h:Hm}{q x:Pl}{N N':Nat→Prop}{Es:List En}{Ls:List Ln}
theorem giv_ok {O:List (Int×Ob)}{need:Int}{c:Cp}(h:giv O need c=0):∃t,fnd (tkO O c.1) c.2.1 c.2.2=some t:=by
 unfold giv at h
 cases hf:fnd (tkO O c.1) c.2.1 c.2.2 with
 | none=>rw [hf] at h;simp at h
 | some t=>exact⟨t,rfl⟩
set_option maxRecDepth 100000 in
set_option maxHeartbeats 4000000 in
theorem revoke_any (k:Md w h q N Es Ls)(hf:Fit h.p q)(c:Cp)(hc:S.i64ok c.1):Calls Tryz.prog 53 #[.pointer (some ⟨h.g,0,none⟩),cV c] w (DidP w h N (pRev q c)):=by
 have hl:(tkO q.O c.1).length≤1024:=by have:=tk_le q.O c.1;have:=hf.mo;omega
 obtain⟨W,hW⟩:∃W,W=(w.alloc (cO c)).alloc z6:=⟨_,rfl⟩
 have hB:Below w.heap.size w W:=by rw [hW];exact below2 _ _ _
 have hZ:Zr W (w.heap.size+1):=by rw [hW];have:=Zr.new (w.alloc (cO c));simpa using this
 have hC:Cc3 W w.heap.size c:=by rw [hW];exact (Cc3.new w c).later (below1 _ _)
 have k1:=k.later hB
 have HGv:=hid (given_any k1 c 8 hc hl)
 obtain⟨y0,y1,y2⟩:=hC
 have HC:=hid (Cc3.mk y0 y1 y2)
 have hgl:=k.glt
 have hol:=k.olt
 have hll:=k.llt
 have HK0:=hid k
 have HK:=hid k1
 have HB:=hid hB
 have HW:=hid hW
 have HZ:=hid hZ
 unfold pRev
 obtain⟨t,ht⟩:∃t,t=gvT q.O 8 c:=⟨_,rfl⟩
 rw [←ht] at HGv
 by_cases h1:giv q.O 8 c≠0
 ·rw [if_pos h1]
  obtain⟨e,he⟩:∃e,e=giv q.O 8 c:=⟨_,rfl⟩
  rw [←he] at HGv h1 ⊢
  have hd:(e != 0)=true:=by simp [h1]
  clear k k1 hB hZ hW hc hl ht he h1 hf
  go_enter Tryz.func53,Tryz.ntmps53
  go_upto_region 1 with fail
  rw [←HW.out]
  go_upto_region 3 with (first|(go_at_call 70;refine HGv.out.mono ?_;rintro e w1 ⟨rfl,hb1⟩;have HB1:=hid hb1;clear hb1))
  obtain⟨U1,hU_⟩:∃U_,U_=w1.alloc (.cells #[.int .u64 (t.hi:Int),.int .u64 (t.lo:Int),.int .i64 t.r,.int .u64 (t.uh:Int),.int .u64 (t.ul:Int)] 88):=⟨_,rfl⟩
  have hb_:=below_call HB1.out (show Below w1.heap.size w1 U1 by rw [hU_];exact below1 _ _)
  rw [←hU_]
  have HBU:=hid hb_
  have HZ1:=hid (HZ.out.later hb_)
  clear hb_ hU_
  have HR_:=hid (refused_any e U1)
  go_wp2_with (first|(go_at_call 28;refine HR_.out.mono ?_;rintro e_ w3 ⟨rfl,hb3⟩;have HB3:=hid hb3;have HZ9:=hid (HZ1.out.later HB3.out);have HS9:=hid (HZ9.out.st (rep e) none 0 0);have HL9:=hid (HZ9.out.lv (rep e) none 0 0);clear hb3)|((with_reducible refine st_arm HS9.out ?_ ?_ ?_);(· rfl);(· rfl)))
  exact bodyPost_ret (v:=rpV (rep e) none 0 0) (by simp [results,Tryz.results53,asAddr,HL9.out]) rfl (refuse_fin HK0.out (HK.out.later HBU.out) (WentP.later (below_call HB.out HBU.out)) HB3.out (Nat.le_succ _) (rep e) rfl)
 have h1:giv q.O 8 c=0:=by simpa using h1
 rw [if_neg (by rw [h1];simp)]
 rw [h1] at HGv
 obtain⟨t',hft⟩:=giv_ok h1
 obtain⟨htm,-,-⟩:=fnd_is hft
 obtain⟨x,hx⟩:∃x,x=enA Es c.1:=⟨_,rfl⟩
 have htk:=k.tk c.1
 rw [←hx] at htk
 have hTne:x.T≠[]:=by rw [htk];exact List.ne_nil_of_mem htm
 have hxm:x∈Es∧x.id=c.1:=by rw [hx] at hTne ⊢;exact enA_mem hTne
 have hob:obO q.O c.1=some ⟨x.b,x.T⟩:=by rw [hx] at hTne ⊢;exact k.ob hTne
 have HSt:Hid (stO q.O c.1 (fun _=>⟨x.b,wsT x.T c.2⟩)=stO q.O c.1 (fun o=>{ o with T:=wsT o.T c.2 })):=stO_same hf.ro hob (fun o=>{ o with T:=wsT o.T c.2 })
 have hlE:Es.length≤1024:=by rw [k.lenO];have:=hf.rm;omega
 have HRi:=hid (k.rise hf).1
 have HLk:Hid (∀(U:World) (r:Pl),Md U h r N Es Ls→(Instr.lookup 58 (.map (some h.bo)) (.int .i64 c.1) false).run Tryz.prog U=.ok (.agg #[.slice x.ba x.b.length x.bc,.slice x.ta x.T.length x.tc]) U):=fun U r kU=>by rw [kU.look hc,←hx];rfl
 have HXm:=hid hxm
 rw [←htk] at hl ⊢
 obtain⟨u,hu⟩:∃u,x.T.head?=some u:=by
  cases hT:x.T with
  | nil=>exact absurd hT hTne
  | cons a r=>exact⟨a,rfl⟩
 rw [hu]
 simp only
 have hu0:x.T[0]?=some u:=by rw [←List.head?_eq_getElem?];exact hu
 have hpos:1≤x.T.length:=by have:=(List.getElem?_eq_some_iff.1 hu0).1;omega
 obtain⟨n,hn⟩:∃n,n=x.T.length:=⟨_,rfl⟩
 obtain⟨bl,hbl⟩:∃bl,bl=x.b.length:=⟨_,rfl⟩
 rw [←hn,←hbl] at HLk
 rw [←hn] at hl hpos
 have HN:=hid hn
 have HBl:=hid hbl
 have HU0:=hid hu0
 have hit:(0:Int)<(n:Int):=by omega
 clear k k1 hB hZ hW ht h1 hf hft htm hx htk hTne hxm hob hn hbl hu hu0
 obtain⟨bb,hbb⟩:∃bb,bb=decide (u.hi=c.2.1∧u.lo=c.2.2):=⟨_,rfl⟩
 have HBB:=hid hbb
 have hq:=fun U=>eqlWd u.hi u.lo c.2.1 c.2.2 U
 rw [←hbb] at hq
 clear hbb
 cases bb with
 | true =>
  have hcond:(u.hi,u.lo)=c.2:=by have:=of_decide_eq_true HBB.out.symm;exact Prod.ext this.1 this.2
  rw [if_pos hcond]
  clear hcond HBB
  go_enter Tryz.func53,Tryz.ntmps53
  go_upto_region 1 with fail
  rw [←HW.out]
  go_upto_region 4 with (first|(go_at_call 70;refine HGv.out.mono ?_;rintro e w1 ⟨rfl,hb1⟩;have HB1:=hid hb1;clear hb1))
  obtain⟨U1,hU_⟩:∃U_,U_=w1.alloc (.cells #[.int .u64 (t.hi:Int),.int .u64 (t.lo:Int),.int .i64 t.r,.int .u64 (t.uh:Int),.int .u64 (t.ul:Int)] 88):=⟨_,rfl⟩
  have hb_:=below_call HB1.out (show Below w1.heap.size w1 U1 by rw [hU_];exact below1 _ _)
  rw [←hU_]
  have HBU:=hid hb_
  have HZ1:=hid (HZ.out.later hb_)
  clear hb_ hU_
  have HK2:=hid (HK.out.later HBU.out)
  have HC1:=hid (HC.out.later HBU.out)
  have HKey:Hid (∀U:World,Below U1.heap.size U1 U→U.cell? ⟨w.heap.size,0,none⟩=some (.int .i64 c.1)):=fun U hU=>(HC1.out.later hU).c0
  have hs4:w.heap.size<U1.heap.size:=World.block_lt_of_cell? _ _ HC1.out.c0
  clear y0 y1 y2
  have H0:Hid (∀U:World,Below U1.heap.size U1 U→U.cell? ⟨h.g,12,none⟩=some (.map (some h.bo))∧U.cell? ⟨w.heap.size,0,none⟩=some (.int .i64 c.1)∧(Instr.lookup 58 (.map (some h.bo)) (.int .i64 c.1) false).run Tryz.prog U=.ok (.agg #[.slice x.ba bl x.bc,.slice x.ta n x.tc]) U):=fun U hU=>⟨(HK2.out.later hU).cell 12 rfl,HKey.out U hU,HLk.out U _ (HK2.out.later hU)⟩
  go_cut [7] (fun vp U=>∃p,vp=.pointer (some ⟨p,0,none⟩)∧U.cell? ⟨p,0,none⟩=some (.slice x.ba bl x.bc)∧U.cell? ⟨p,1,none⟩=some (.slice x.ta n x.tc)∧U.frozen? ⟨p,0,none⟩=false∧U.frozen? ⟨p,1,none⟩=false∧U1.heap.size≤p∧Below U1.heap.size U1 U)
  case first =>
   go_region_held3 (fun U=>U.cell? ⟨h.g,12,none⟩=some (.map (some h.bo))∧U.cell? ⟨w.heap.size,0,none⟩=some (.int .i64 c.1)∧(Instr.lookup 58 (.map (some h.bo)) (.int .i64 c.1) false).run Tryz.prog U=.ok (.agg #[.slice x.ba bl x.bc,.slice x.ta n x.tc]) U) (first|exact H0.out _ (Below.refl _ _).drew|exact H0.out _ (below1 _ _).drew|exact H0.out _ (below1 _ _)) (fail)
   all_goals (try go_wp2)
   all_goals go_meet
   all_goals exact⟨U1.heap.size,rfl,by simp [go_sem],by simp [go_sem],by simp [go_sem],by simp [go_sem],Nat.le_refl _,by first|exact (below1 _ _).drew|exact below1 _ _|exact (Below.refl _ _).drew.alloc (Nat.le_refl _) _⟩
  case rest =>
  rename World=>v
  obtain⟨p,rfl,cp0,cp1,fp0,fp1,hp,hbv⟩:=hcut
  have HKv:=hid (HK2.out.later hbv)
  have HBv:=hid hbv
  have hpv:p<v.heap.size:=World.block_lt_of_cell? _ _ cp0
  have hsv:=HBv.out.size
  have HCv:=hid (HC1.out.later hbv)
  obtain⟨b0,hb0,htc⟩:=ow_tok (HKv.out.er x HXm.out.1).t rfl (by rw [←HN.out];omega)
  have tcu:=htc 0 u HU0.out
  simp only [Nat.zero_mul] at tcu
  obtain⟨t0,t1,-,-,-⟩:=tcu
  simp only [Nat.zero_add] at t1
  obtain⟨d0,d1,d2⟩:=HCv.out
  rw [hb0] at cp1
  go_upto_region 5 with fail
  go_quiet (fail)
  obtain⟨z,hz⟩:∃z,z=v.drewN nq:=⟨_,rfl⟩
  have hbz:Below v.heap.size v z:=by rw [hz];exact below_drewN (Below.refl _ _) _
  rw [←hz]
  rw [←hb0] at cp1
  have HKz:=hid (HKv.out.later hbz)
  have HCz:=hid (HCv.out.later hbz)
  have HWz:Hid (WentP w h N z N):=(WentP.later (below_call HB.out (below_call HBU.out (below_call HBv.out hbz))))
  have HZz:=hid ((HZ1.out.later HBv.out).later hbz)
  have HPz:Hid (z.cell? ⟨p,0,none⟩=some (.slice x.ba bl x.bc)∧z.cell? ⟨p,1,none⟩=some (.slice x.ta n x.tc)∧z.frozen? ⟨p,1,none⟩=false):=⟨cell_later hbz cp0,cell_later hbz cp1,by rw [hbz.frozen hpv];exact fp1⟩
  have hpz:p<z.heap.size:=Nat.lt_of_lt_of_le hpv hbz.size
  have hsz:=hbz.size
  clear hz hbz hbv t0 t1 d0 d1 d2 cp0 cp1 fp0 fp1 htc hb0
  go_upto_region 6 with fail
  obtain⟨V,hr,kV,hbV⟩:=(HKz.out.later (Below.refl z.heap.size z).drew).dropO c.1 hc 0
  have HS:Hid (z.drew.cell? ⟨h.g,12,none⟩=some (.map (some h.bo))∧z.drew.cell? ⟨w.heap.size,0,none⟩=some (.int .i64 c.1)):=⟨HKz.out.cell 12 rfl,HCz.out.c0⟩
  have HS2:Hid (V.cell? ⟨h.g,12,none⟩=some (.map (some h.bo))∧V.cell? ⟨w.heap.size,0,none⟩=some (.int .i64 c.1)):=⟨kV.cell 12 rfl,cell_but hbV HS.out.2 (by simp only;omega)⟩
  have HKV:=hid kV
  have HWV:Hid (WentP w h N V N):=HWz.out.trans ((WentP.later (Below.refl z.heap.size z).drew).trans (went_o hbV))
  have HZV:=hid ((HZz.out.later (Below.refl z.heap.size z).drew).but hbV (by omega))
  have HS9:=hid (HZV.out.st (rep 0) none 0 0)
  have HL9:=hid (HZV.out.lv (rep 0) none 0 0)
  clear kV hbV
  go_cut [38] (fun v38 U=>v38=.int .i64 c.1∧U=V)
  case first =>
   go_region_held3 (fun U=>U.cell? ⟨h.g,12,none⟩=some (.map (some h.bo))∧U.cell? ⟨w.heap.size,0,none⟩=some (.int .i64 c.1)) (first|exact HS.out|exact HS2.out) (fail)
   all_goals (try go_wp2)
   all_goals go_meet
   all_goals exact⟨rfl,rfl⟩
  case rest =>
  obtain⟨rfl,hVe⟩:=hcut
  subst hVe
  go_wp2_with (first|((with_reducible refine st_arm HS9.out ?_ ?_ ?_);(· rfl);(· rfl)))
  exact bodyPost_ret (v:=rpV (rep 0) none 0 0) (by simp [results,Tryz.results53,asAddr,HL9.out]) rfl (done_fin HK0.out HKV.out HWV.out (Nat.le_succ _) (HK0.out.new (Nat.le_succ _)) (rep 0) rfl)
 | false =>
  have hcond:¬(u.hi,u.lo)=c.2:=fun e=>of_decide_eq_false HBB.out.symm ⟨by rw [←e],by rw [←e]⟩
  rw [if_neg hcond]
  clear hcond HBB
  go_enter Tryz.func53,Tryz.ntmps53
  go_upto_region 1 with fail
  rw [←HW.out]
  go_upto_region 4 with (first|(go_at_call 70;refine HGv.out.mono ?_;rintro e w1 ⟨rfl,hb1⟩;have HB1:=hid hb1;clear hb1))
  obtain⟨U1,hU_⟩:∃U_,U_=w1.alloc (.cells #[.int .u64 (t.hi:Int),.int .u64 (t.lo:Int),.int .i64 t.r,.int .u64 (t.uh:Int),.int .u64 (t.ul:Int)] 88):=⟨_,rfl⟩
  have hb_:=below_call HB1.out (show Below w1.heap.size w1 U1 by rw [hU_];exact below1 _ _)
  rw [←hU_]
  have HBU:=hid hb_
  have HZ1:=hid (HZ.out.later hb_)
  clear hb_ hU_
  have HK2:=hid (HK.out.later HBU.out)
  have HC1:=hid (HC.out.later HBU.out)
  have HKey:Hid (∀U:World,Below U1.heap.size U1 U→U.cell? ⟨w.heap.size,0,none⟩=some (.int .i64 c.1)):=fun U hU=>(HC1.out.later hU).c0
  have hs4:w.heap.size<U1.heap.size:=World.block_lt_of_cell? _ _ HC1.out.c0
  clear y0 y1 y2
  have H0:Hid (∀U:World,Below U1.heap.size U1 U→U.cell? ⟨h.g,12,none⟩=some (.map (some h.bo))∧U.cell? ⟨w.heap.size,0,none⟩=some (.int .i64 c.1)∧(Instr.lookup 58 (.map (some h.bo)) (.int .i64 c.1) false).run Tryz.prog U=.ok (.agg #[.slice x.ba bl x.bc,.slice x.ta n x.tc]) U):=fun U hU=>⟨(HK2.out.later hU).cell 12 rfl,HKey.out U hU,HLk.out U _ (HK2.out.later hU)⟩
  go_cut [7] (fun vp U=>∃p,vp=.pointer (some ⟨p,0,none⟩)∧U.cell? ⟨p,0,none⟩=some (.slice x.ba bl x.bc)∧U.cell? ⟨p,1,none⟩=some (.slice x.ta n x.tc)∧U.frozen? ⟨p,0,none⟩=false∧U.frozen? ⟨p,1,none⟩=false∧U1.heap.size≤p∧Below U1.heap.size U1 U)
  case first =>
   go_region_held3 (fun U=>U.cell? ⟨h.g,12,none⟩=some (.map (some h.bo))∧U.cell? ⟨w.heap.size,0,none⟩=some (.int .i64 c.1)∧(Instr.lookup 58 (.map (some h.bo)) (.int .i64 c.1) false).run Tryz.prog U=.ok (.agg #[.slice x.ba bl x.bc,.slice x.ta n x.tc]) U) (first|exact H0.out _ (Below.refl _ _).drew|exact H0.out _ (below1 _ _).drew|exact H0.out _ (below1 _ _)) (fail)
   all_goals (try go_wp2)
   all_goals go_meet
   all_goals exact⟨U1.heap.size,rfl,by simp [go_sem],by simp [go_sem],by simp [go_sem],by simp [go_sem],Nat.le_refl _,by first|exact (below1 _ _).drew|exact below1 _ _|exact (Below.refl _ _).drew.alloc (Nat.le_refl _) _⟩
  case rest =>
  rename World=>v
  obtain⟨p,rfl,cp0,cp1,fp0,fp1,hp,hbv⟩:=hcut
  have HKv:=hid (HK2.out.later hbv)
  have HBv:=hid hbv
  have hpv:p<v.heap.size:=World.block_lt_of_cell? _ _ cp0
  have hsv:=HBv.out.size
  have HCv:=hid (HC1.out.later hbv)
  obtain⟨b0,hb0,htc⟩:=ow_tok (HKv.out.er x HXm.out.1).t rfl (by rw [←HN.out];omega)
  have tcu:=htc 0 u HU0.out
  simp only [Nat.zero_mul] at tcu
  obtain⟨t0,t1,-,-,-⟩:=tcu
  simp only [Nat.zero_add] at t1
  obtain⟨d0,d1,d2⟩:=HCv.out
  rw [hb0] at cp1
  go_upto_region 5 with fail
  go_quiet (fail)
  obtain⟨z,hz⟩:∃z,z=v.drewN nq:=⟨_,rfl⟩
  have hbz:Below v.heap.size v z:=by rw [hz];exact below_drewN (Below.refl _ _) _
  rw [←hz]
  rw [←hb0] at cp1
  have HKz:=hid (HKv.out.later hbz)
  have HCz:=hid (HCv.out.later hbz)
  have HWz:Hid (WentP w h N z N):=(WentP.later (below_call HB.out (below_call HBU.out (below_call HBv.out hbz))))
  have HZz:=hid ((HZ1.out.later HBv.out).later hbz)
  have HPz:Hid (z.cell? ⟨p,0,none⟩=some (.slice x.ba bl x.bc)∧z.cell? ⟨p,1,none⟩=some (.slice x.ta n x.tc)∧z.frozen? ⟨p,1,none⟩=false):=⟨cell_later hbz cp0,cell_later hbz cp1,by rw [hbz.frozen hpv];exact fp1⟩
  have hpz:p<z.heap.size:=Nat.lt_of_lt_of_le hpv hbz.size
  have hsz:=hbz.size
  clear hz hbz hbv t0 t1 d0 d1 d2 cp0 cp1 fp0 fp1 htc hb0
  go_upto_region 8 with fail
  have hxz:=HKz.out.er x HXm.out.1
  have hrow:=hxz.t
  rw [←HN.out] at hrow
  have HWs:=hid (without_any hrow HN.out.symm hpos hl c.2)
  obtain⟨e0,e1,e2⟩:=HCz.out
  have q0:=HPz.out.1
  have q1:=HPz.out.2.1
  have qf:=HPz.out.2.2
  clear hxz hrow
  go_upto_region 9 with (first|(go_at_call 74;refine HWs.out.mono ?_;rintro e w6 ⟨a6,c6,rfl,hO6,hb6⟩;have HO6:=hid hO6;have HB6:=hid hb6;have q0:=cell_later hb6 q0;have q1:=cell_later hb6 q1;have qf:w6.frozen? ⟨p,1,none⟩=false:=(by rw [hb6.frozen hpz];exact qf);clear hO6 hb6))
  obtain⟨T',hT'⟩:∃T',T'=wsT x.T c.2:=⟨_,rfl⟩
  rw [←hT'] at HO6 HSt ⊢
  obtain⟨m,hm⟩:∃m,m=T'.length:=⟨_,rfl⟩
  rw [←hm] at HO6 ⊢
  have HM:=hid hm
  clear hT' hm
  obtain⟨V7,hV7⟩:∃V,V=w6.setCell ⟨p,1,none⟩ (.slice a6 m c6):=⟨_,rfl⟩
  rw [←hV7]
  have hb67:But (·=p) w6 V7:=by rw [hV7];exact (But.refl (·=p) w6).setCell (p:=⟨p,1,none⟩) rfl _
  have r0:V7.cell? ⟨p,0,none⟩=some (.slice x.ba bl x.bc):=by rw [hV7,World.cell?_setCell_other _ _ _ _ (by simp)];exact q0
  have r1:V7.cell? ⟨p,1,none⟩=some (.slice a6 m c6):=by rw [hV7];exact World.cell?_setCell_same _ _ _ q1
  have k6:=HKz.out.later HB6.out
  have hnp:¬N p:=HK2.out.new hp
  have g2:=HK2.out.olt
  have g3:=HK2.out.llt
  have g1:=HK2.out.glt
  have k7:=k6.but hb67 (fun j hj e=>hnp (e ▸ hj)) (by omega) (by omega) (by omega)
  have HC7:=hid ((HCz.out.later HB6.out).but hb67 (by omega))
  have HZ7:=hid ((HZz.out.later HB6.out).but hb67 (by have:=HZ1.out.lt;omega))
  have HW7:Hid (WentP w h N V7 N):=⟨(HWz.out.1.call HB6.out).comp hb67 (fun i e=>.inr (by omega)),HWz.out.2⟩
  have HO7:Hid (Ow V7 0 88 5 a6 m c6 (tns T')):=(Ow.but HO6.out hb67 (fun j hj e=>by have:=(Ow.blk HO6.out j hj).1;omega)).mono (Nat.zero_le _)
  have hg6:∀j,Blk a6 j→z.heap.size≤j:=fun j hj=>(Ow.blk HO6.out j hj).1
  have hx7:=k7.er x HXm.out.1
  have kx:=Er.ew k7 hx7
  have kew:Ew V7.drew h ⟨c.1,x.b,x.ba,x.bc,T',a6,c6⟩:=⟨kx.b,by simp only;rw [←HM.out];exact HO7.out,kx.nb,fun j hj=>by have:=hg6 j hj;exact⟨by omega,by omega,by omega⟩⟩
  obtain⟨V8,hr8,k8,hb8,-⟩:=(k7.later (Below.refl V7.heap.size V7).drew).swapO HRi.out _ hc ⟨x,HXm.out.1,HXm.out.2⟩ hlE kew
  simp only [En.val,←HM.out,←HBl.out] at hr8
  simp only at k8
  rw [HSt.out] at k8
  have HS:Hid (V7.drew.cell? ⟨h.g,12,none⟩=some (.map (some h.bo))∧V7.drew.cell? ⟨w.heap.size,0,none⟩=some (.int .i64 c.1)∧V7.drew.cell? ⟨p,0,none⟩=some (.slice x.ba bl x.bc)∧V7.drew.cell? ⟨p,1,none⟩=some (.slice a6 m c6)):=⟨k7.cell 12 rfl,HC7.out.c0,r0,r1⟩
  have HS2:Hid (V8.cell? ⟨h.g,12,none⟩=some (.map (some h.bo))∧V8.cell? ⟨w.heap.size,0,none⟩=some (.int .i64 c.1)∧V8.cell? ⟨p,0,none⟩=some (.slice x.ba bl x.bc)∧V8.cell? ⟨p,1,none⟩=some (.slice a6 m c6)):=⟨k8.cell 12 rfl,cell_but hb8 HS.out.2.1 (by simp only;omega),cell_but hb8 HS.out.2.2.1 (by simp only;omega),cell_but hb8 HS.out.2.2.2 (by simp only;omega)⟩
  have HK8:=hid k8
  have HW8:Hid (WentP w h N V8 (NE N ⟨c.1,x.b,x.ba,x.bc,T',a6,c6⟩)):=by
   have h1:=HW7.out.trans ((WentP.later (N:=N) (Below.refl V7.heap.size V7).drew).trans (went_o hb8))
   refine⟨h1.1,fun j hj=>?_⟩
   rcases hj with hj|hj|hj
   ·exact .inl hj
   ·exact .inl (hx7.nb j hj)
   ·exact .inr (by have:=hg6 j hj;omega)
  have hnb:¬NE N ⟨c.1,x.b,x.ba,x.bc,T',a6,c6⟩ (w.heap.size+1):=fun e=>by
   have:=HZz.out.lt
   rcases e with e|e|e
   ·exact HK0.out.new (Nat.le_succ _) e
   ·exact HK0.out.new (Nat.le_succ _) (hx7.nb _ e)
   ·have:=hg6 _ e;omega
  have HNb:=hid hnb
  have HZ8:=hid ((HZ7.out.later (Below.refl V7.heap.size V7).drew).but hb8 (by omega))
  have HS9:=hid (HZ8.out.st (rep 0) none 0 0)
  have HL9:=hid (HZ8.out.lv (rep 0) none 0 0)
  clear hV7 hb67 r0 r1 k6 k7 hx7 kx kew k8 hb8 hnb q0 q1 qf e0 e1 e2
  go_cut [51] (fun v51 U=>v51=.int .i64 c.1∧U=V8)
  case first =>
   go_region_held3 (fun U=>U.cell? ⟨h.g,12,none⟩=some (.map (some h.bo))∧U.cell? ⟨w.heap.size,0,none⟩=some (.int .i64 c.1)∧U.cell? ⟨p,0,none⟩=some (.slice x.ba bl x.bc)∧U.cell? ⟨p,1,none⟩=some (.slice a6 m c6)) (first|exact HS.out|exact HS2.out) (fail)
   all_goals (try go_wp2)
   all_goals go_meet
   all_goals exact⟨rfl,rfl⟩
  case rest =>
  obtain⟨rfl,hVe⟩:=hcut
  subst hVe
  go_wp2_with (first|((with_reducible refine st_arm HS9.out ?_ ?_ ?_);(· rfl);(· rfl)))
  exact bodyPost_ret (v:=rpV (rep 0) none 0 0) (by simp [results,Tryz.results53,asAddr,HL9.out]) rfl (done_fin HK0.out HK8.out HW8.out (Nat.le_succ _) HNb.out (rep 0) rfl)
end
end Go.Proofs.YtffmodpgddecnaaGreat.V.E
namespace Go.Proofs.YtffmodpgddecnaaGreat.V.E
open Go.RowKit Go.Maps
open Go.Proofs.YtffmodpgddecnaaGreat.H (B64 Cp)
section
variable {w w' V w2:World}{h:Hm}{q x:Pl}{N N':Nat→Prop}{Es:List En}{Ls:List Ln}{c:R.Cl}{dd gg:R.Sl}
theorem nam_step {g:Cp→Int}{o:Int}{K:List Cp}{i:Nat}{c:Cp}(h:K[i]?=some c)(e:Int) :
  L.namG g o (K.drop i) e=if c.1≠o then L.namG g o (K.drop (i+1)) e else if g c=0 then (c,0) else if g c=4 then L.namG g o (K.drop (i+1)) 4 else L.namG g o (K.drop (i+1)) e:=by
 obtain⟨h1,h2⟩:=List.getElem?_eq_some_iff.1 h
 rw [List.drop_eq_getElem_cons h1,h2,L.namG]
theorem ow_cap {base ty:Nat}{a:Option Addr}{n cap:Nat}{K:List Cp}(k:Ow w base ty 3 a n cap (caps K))(h0:0<n):∃b,a=some ⟨b,0,none⟩∧∀i c,K[i]?=some c→w.cell? ⟨b,i*3,none⟩=some (.int .i64 c.1)∧w.cell? ⟨b,i*3+1,none⟩=some (.int .u64 (c.2.1:Int))∧w.cell? ⟨b,i*3+2,none⟩=some (.int .u64 (c.2.2:Int)):=by
 obtain⟨b,ha,hc⟩:=Ow.at_ k h0
 refine⟨b,ha,fun i t ht=>⟨?_,?_,?_⟩⟩
 ·have:=hc _ _ ((caps_at K i t ht 0 (by omega)).trans rfl);simpa using this
 ·exact hc _ _ ((caps_at K i t ht 1 (by omega)).trans rfl)
 ·exact hc _ _ ((caps_at K i t ht 2 (by omega)).trans rfl)
theorem giv_cases (O:List (Int×Ob))(need:Int)(c:Cp):giv O need c=3∨giv O need c=4∨giv O need c=0:=by
 unfold giv
 cases fnd (tkO O c.1) c.2.1 c.2.2 with
 | none=>exact .inl rfl
 | some t =>
  simp only
  split
  ·exact .inr (.inl rfl)
  ·exact .inr (.inr rfl)
def VaRel (W:World)(g:Cp→Int)(o:Int)(K:List Cp)(v9 v33:Value)(U:World):Prop:=∃(i:Nat) (e:Int),v9=.int .i64 e∧v33=.int .i64 (i:Int)∧i≤K.length∧(L.namG g o K 3).2=(L.namG g o (K.drop i) e).2∧Below W.heap.size W U
set_option maxRecDepth 100000 in
set_option maxHeartbeats 4000000 in
theorem validated_any (k:Md w h q N Es Ls)(hf:Fit h.p q)(hi:R.Is w c dd gg)(hc:S.i64ok c.obj)(hby:S.i64ok c.by_)(need:Int):Calls Tryz.prog 75 #[.pointer (some ⟨h.g,0,none⟩),.agg (R.cC c dd gg).toArray,.int .i64 need] w fun e w'=>e=.returned (.int .i64 (valP q c.given (lsX q.X c.by_) need (cpO c)))∧Below w.heap.size w w':=by
 have hl:∀o,(tkO q.O o).length≤1024:=fun o=>by have:=tk_le q.O o;have:=hf.mo;omega
 obtain⟨W,hW⟩:∃W,W=w.alloc (Obj.cells (R.cC c dd gg).toArray 45):=⟨_,rfl⟩
 have hB:Below w.heap.size w W:=by rw [hW];exact below1 _ _
 have hX:R.Bx W w.heap.size (R.cC c dd gg):=by rw [hW];exact R.Bx.new w _ _
 have k1:=k.later hB
 have hgl:=k.glt
 have x6:=hX.cell 6 rfl
 have x3:=hX.cell 3 rfl
 have x4:=hX.cell 4 rfl
 have x5:=hX.cell 5 rfl
 have x1:=hX.cell 1 rfl
 have HB:=hid hB
 have HW:=hid hW
 have HX:=hid hX
 unfold valP
 cases hg:c.given with
 | true =>
  rw [if_pos rfl]
  rw [hg] at x6
  have HG:=hid (given_any k1 (cpO c) need hc (hl _))
  obtain⟨t,ht⟩:∃t,t=gvT q.O need (cpO c):=⟨_,rfl⟩
  obtain⟨e,he⟩:∃e,e=giv q.O need (cpO c):=⟨_,rfl⟩
  rw [←ht,←he] at HG
  rw [←he]
  unfold cpO cV at HG
  simp only at HG
  clear k k1 hB hX hW hg ht he hf hi hl hc hby
  go_enter Tryz.func75,Tryz.ntmps75
  go_upto_region 1 with fail
  rw [←HW.out]
  go_wp2_with (first|(go_at_call 70;refine HG.out.mono ?_;rintro e w2 ⟨rfl,hb2⟩;have HB2:=hid hb2;clear hb2))
  go_ret
  exact⟨rfl,below_call HB.out (below_call HB2.out (below1 _ _))⟩
 | false =>
  rw [if_neg (by decide)]
  rw [hg] at x6
  obtain⟨y,hy⟩:∃y,y=lnA Ls c.by_:=⟨_,rfl⟩
  have hls:=k1.ls c.by_
  have hlr:=k1.lrA c.by_
  rw [←hy] at hls hlr
  rw [←hls]
  have hKl:y.K.length≤32:=by
   rw [hls]
   unfold lsX
   cases hfd:q.X.find? (fun q=>decide (q.1=c.by_)) with
   | none=>simp
   | some e=>have:=(hf.ln e (List.mem_of_find?_eq_some hfd)).1;have:=hf.lm;simp;omega
  have hKo:∀z∈y.K,S.i64ok z.1:=fun z hz=>by
   rw [hls] at hz
   unfold lsX at hz
   cases hfd:q.X.find? (fun q=>decide (q.1=c.by_)) with
   | none=>rw [hfd] at hz;simp at hz
   | some e=>rw [hfd] at hz;exact ((hf.ln e (List.mem_of_find?_eq_some hfd)).2 z hz).1
  have H0:Hid (∀U:World,Below W.heap.size W U→U.cell? ⟨h.g,13,none⟩=some (.map (some h.bl))∧U.cell? ⟨w.heap.size,1,none⟩=some (.int .i64 c.by_)∧(Instr.lookup 59 (.map (some h.bl)) (.int .i64 c.by_) false).run Tryz.prog U=.ok (.slice y.a y.K.length y.c) U):=fun U hU=>by
   have kU:=k1.later hU
   refine⟨kU.cell 13 rfl,cell_later hU x1,?_⟩
   rw [kU.lookL hby,←hy]
   rfl
  have HGv:Hid (∀(z:Cp) (U:World),S.i64ok z.1→Below W.heap.size W U→Calls Tryz.prog 70 #[.pointer (some ⟨h.g,0,none⟩),cV z,.int .i64 need] U fun e w'=>e=.returned (.tuple #[tnV (gvT q.O need z),.int .i64 (giv q.O need z)])∧Below U.heap.size U w'):=fun z U hz hU=>given_any (k1.later hU) z need hz (hl _)
  have HLr:=hid hlr.l
  have HCs:=hid (giv_cases q.O need)
  obtain⟨g,hgg⟩:∃g,g=giv q.O need:=⟨_,rfl⟩
  obtain⟨gt,hgt⟩:∃gt,gt=gvT q.O need:=⟨_,rfl⟩
  rw [←hgg] at HGv HCs ⊢
  rw [←hgt] at HGv
  obtain⟨n,hn⟩:∃n,n=y.K.length:=⟨_,rfl⟩
  rw [←hn] at H0 HLr hKl
  have HN:=hid hn
  have HKo:=hid hKo
  have hobj:(cpO c).1=c.obj:=rfl
  rw [hobj]
  have HX3:=hid x3
  clear k k1 hB hX hW hg hf hi hl hc hby hy hls hlr hgg hgt hn hKo hobj x1 x3 x4 x5
  go_enter Tryz.func75,Tryz.ntmps75
  go_upto_region 1 with fail
  rw [←HW.out]
  go_upto_region 5 with fail
  clear x6
  go_cut [31,32,33] (fun v31 v32 v33 U=>v31=.slice y.a n y.c∧v32=.int .i64 (n:Int)∧v33=.int .i64 0∧Hid (Below W.heap.size W U))
  case first =>
   go_region_held3 (fun U=>U.cell? ⟨h.g,13,none⟩=some (.map (some h.bl))∧U.cell? ⟨w.heap.size,1,none⟩=some (.int .i64 c.by_)∧(Instr.lookup 59 (.map (some h.bl)) (.int .i64 c.by_) false).run Tryz.prog U=.ok (.slice y.a n y.c) U) (first|exact H0.out _ (Below.refl _ _).drew) (fail)
   all_goals (try go_wp2)
   all_goals go_meet
   all_goals exact⟨rfl,rfl,rfl,(Below.refl _ _).drew⟩
  case rest =>
  rename World=>v
  obtain⟨rfl,rfl,rfl,HBv⟩:=hcut
  go_upto_region 6 with fail
  go_loopw [9,33] (VaRel W g c.obj y.K) (fun _ v _=>n - (intOf v).toNat)
  case atStart=>exact⟨0,3,rfl,rfl,by omega,rfl,HBv.out⟩
  case round =>
   obtain⟨i,e,rfl,rfl,hi,heq,hbel⟩:=hrel
   rename World=>U
   have HQ:=hid heq
   have HBU:=hid hbel
   have hnK:=HN.out
   have y3:=cell_later hbel HX3.out
   clear heq hbel
   by_cases hx:i<n
   ·have hd:decide ((i:Int)<(n:Int))=true:=decide_eq_true (by omega)
    obtain⟨z,hz⟩:∃z,y.K[i]?=some z:=⟨y.K[i]'(by omega),List.getElem?_eq_getElem (by omega)⟩
    obtain⟨b,ha,hcc⟩:=ow_cap (Ow.later HLr.out HBU.out) (by omega)
    obtain⟨z0,z1,z2⟩:=hcc i z hz
    have hzo:=HKo.out z (List.mem_of_getElem? hz)
    have hst:=nam_step (g:=g) (o:=c.obj) hz e
    have hii:(i:Int)<(n:Int):=by omega
    have h0i:(0:Int)≤(i:Int):=by omega
    have hwi:wrap64 ((i:Int)+1)=(i:Int)+1:=by unfold wrap64;omega
    obtain⟨U1,hU1⟩:∃U1,U1=U.alloc (cO z):=⟨_,rfl⟩
    have hb1:Below U.heap.size U U1:=by rw [hU1];exact below1 _ _
    have HC1:Hid (Cc3 U1 U.heap.size z):=by rw [hU1];exact Cc3.new U z
    have g3:=cell_later hb1 y3
    obtain⟨n0,n1,n2⟩:=HC1.out
    have HB1:=hid hb1
    have HU1:Hid (U1=U.alloc (.cells #[.int .i64 z.1,.int .u64 (z.2.1:Int),.int .u64 (z.2.2:Int)] 38)):=hU1
    have HI:Hid (i+1≤y.K.length):=by unfold Hid;omega
    clear hz hb1 hU1 hcc hnK
    by_cases h1:z.1≠c.obj
    ·rw [if_pos h1] at hst
     have hne:(z.1 != c.obj)=true:=by simp [h1]
     have HNx:Hid (VaRel W g c.obj y.K (.int .i64 e) (.int .i64 ((i:Int)+1)) U1):=⟨i+1,e,rfl,by simp,HI.out,by rw [HQ.out,hst],below_call HBU.out HB1.out⟩
     clear hst h1
     go_upto_region 8 with fail
     rw [←HU1.out]
     clear z0 z1 z2 y3
     go_wp2
     refine⟨?_,by simp [intOf];omega⟩
     exact HNx.out
    ·rw [if_neg h1] at hst
     have hne:(z.1 != c.obj)=false:=by simpa using h1
     have HG:=hid (HGv.out z U1 hzo (below_call HBU.out HB1.out))
     obtain⟨t,ht⟩:∃t,t=gt z:=⟨_,rfl⟩
     rw [←ht] at HG
     rcases HCs.out z with h2|h2|h2
     ·rw [h2] at HG hst
      rw [if_neg (by decide),if_neg (by decide)] at hst
      have HNx:Hid (∀U2,Below U1.heap.size U1 U2→VaRel W g c.obj y.K (.int .i64 e) (.int .i64 ((i:Int)+1)) U2):=fun U2 hU2=>⟨i+1,e,rfl,by simp,HI.out,by rw [HQ.out,hst],below_call (below_call HBU.out HB1.out) hU2⟩
      clear hst h1 h2 ht
      go_upto_region 8 with fail
      rw [←HU1.out]
      clear z0 z1 z2 y3
      go_upto_region 10 with (first|(go_at_call 70;refine HG.out.mono ?_;rintro e_ w2 ⟨rfl,hb2⟩;have HB2:=hid hb2;clear hb2))
      obtain⟨U5,hU5⟩:∃U5,U5=w2.alloc (.cells #[.int .u64 (t.hi:Int),.int .u64 (t.lo:Int),.int .i64 t.r,.int .u64 (t.uh:Int),.int .u64 (t.ul:Int)] 88):=⟨_,rfl⟩
      have hb5:=below_call HB2.out (show Below w2.heap.size w2 U5 by rw [hU5];exact below1 _ _)
      rw [←hU5]
      have HNn:=hid (HNx.out U5 hb5)
      clear hb5 hU5
      go_wp2
      refine⟨?_,by simp [intOf];omega⟩
      exact⟨_,_,_,_,_,_,_,_,_,_,_,_,_,_,_,_,_,_,_,_,_,_,_,_,_,_,_,_,HNn.out,by rw [ha]⟩
     ·rw [h2] at HG hst
      rw [if_neg (by decide),if_pos rfl] at hst
      have HNx:Hid (∀U2,Below U1.heap.size U1 U2→VaRel W g c.obj y.K (.int .i64 4) (.int .i64 ((i:Int)+1)) U2):=fun U2 hU2=>⟨i+1,4,rfl,by simp,HI.out,by rw [HQ.out,hst],below_call (below_call HBU.out HB1.out) hU2⟩
      clear hst h1 h2 ht
      go_upto_region 8 with fail
      rw [←HU1.out]
      clear z0 z1 z2 y3
      go_upto_region 10 with (first|(go_at_call 70;refine HG.out.mono ?_;rintro e_ w2 ⟨rfl,hb2⟩;have HB2:=hid hb2;clear hb2))
      obtain⟨U5,hU5⟩:∃U5,U5=w2.alloc (.cells #[.int .u64 (t.hi:Int),.int .u64 (t.lo:Int),.int .i64 t.r,.int .u64 (t.uh:Int),.int .u64 (t.ul:Int)] 88):=⟨_,rfl⟩
      have hb5:=below_call HB2.out (show Below w2.heap.size w2 U5 by rw [hU5];exact below1 _ _)
      rw [←hU5]
      have HNn:=hid (HNx.out U5 hb5)
      clear hb5 hU5
      go_wp2
      refine⟨?_,by simp [intOf];omega⟩
      exact⟨_,_,_,_,_,_,_,_,_,_,_,_,_,_,_,_,_,_,_,_,_,_,_,_,_,_,_,_,HNn.out,by rw [ha]⟩
     ·rw [h2] at HG hst
      rw [if_pos rfl] at hst
      have HR:Hid ((L.namG g c.obj y.K 3).2=0):=by unfold Hid;rw [HQ.out,hst]
      clear hst h1 h2 ht
      go_upto_region 8 with fail
      rw [←HU1.out]
      clear z0 z1 z2 y3
      go_wp2_with (first|(go_at_call 70;refine HG.out.mono ?_;rintro e_ w2 ⟨rfl,hb2⟩;have HB2:=hid hb2;clear hb2))
      go_ret
      exact⟨ret_int HR.out.symm,below_call HB.out (below_call (below_call HBU.out HB1.out) (below_call HB2.out (below1 _ _)))⟩
   ·have hd:decide ((i:Int)<(n:Int))=false:=decide_eq_false (by omega)
    have HR:Hid ((L.namG g c.obj y.K 3).2=e):=by unfold Hid;rw [HQ.out,List.drop_eq_nil_of_le (by omega)];rfl
    have him:i=n:=by omega
    clear hnK y3
    go_wp2
    go_ret
    exact⟨ret_int HR.out.symm,below_call HB.out HBU.out⟩
end
end Go.Proofs.YtffmodpgddecnaaGreat.V.E
namespace Go.Proofs.YtffmodpgddecnaaGreat.V.E
open Go.RowKit Go.Maps
open Go.Proofs.YtffmodpgddecnaaGreat.H (B64 Cp)
section
variable {w w' V w2:World}{h:Hm}{q x:Pl}{N N':Nat→Prop}{Es:List En}{Ls:List Ln}
theorem cr_take {k:Nat}{a:Option Addr}{n c:Nat}{M:List Value}(h:Cr w k a n c M)(j:Nat)(hj:j≤n):Cr w k a j c (M.take (j*k)):=by
 refine⟨?_,fun ha=>⟨by have:=(h.none_ ha).1;omega,(h.none_ ha).2⟩,fun x hx i u hu=>h.cells x hx i u ?_,fun u hu=>h.one u (List.mem_of_mem_take hu)⟩
 ·rw [List.length_take,h.len];exact Nat.min_eq_left (Nat.mul_le_mul_right k hj)
 ·rw [List.getElem?_take] at hu
  split at hu
  ·exact hu
  ·cases hu
theorem cr_cut {k:Nat}{a:Option Addr}{n c:Nat}{M:List Value}(h:Cr w k a n c M)(j:Nat)(hj:j≤n)(hc:n≤c):Cr w k (cutK a c j k) (n - j) (c - j) (M.drop (j*k)):=by
 unfold cutK
 refine⟨?_,fun ha=>?_,fun x hx i u hu=>?_,fun u hu=>h.one u (List.mem_of_mem_drop hu)⟩
 ·rw [List.length_drop,h.len,Nat.sub_mul]
 ·have h0:a=none:=by
   split at ha
   ·exact ha
   ·simpa using ha
  have:=h.none_ h0
  omega
 ·rw [List.getElem?_drop] at hu
  by_cases hcj:c=j
  ·exfalso
   have:n=j:=by omega
   rw [List.getElem?_eq_none (by rw [h.len,this];omega)] at hu
   cases hu
  ·rw [if_neg hcj] at hx
   cases a with
   | none=>cases hx
   | some y =>
    simp only [Option.map_some,Option.some.injEq] at hx
    subst hx
    have:=h.cells y rfl _ _ hu
    rw [show (y.add (j*k)).add i=y.add (j*k+i) by simp only [Addr.add];by_cases h1:j*k=0<;>by_cases h2:i=0<;>simp [h1,h2,Nat.add_assoc]]
    exact this
theorem ex_slice {P:Program}{w:World}{o:Oper}{ρ:Operand→Value}{ty:TypeId}{x:Operand}{lo hi mx:Option Operand}{vx v:Value}{vlo vhi vmx:Option Value}
  (ho:o.op=.slice ty x lo hi mx) (hx:ρ x=vx) (h1:lo.map ρ=vlo) (h2:hi.map ρ=vhi) (h3:mx.map ρ=vmx) (hr:(Instr.sliceAt ty vx vlo vhi vmx).run P w=.ok v w):(execOp ρ o).run P w=.ok (.value v) w:=by
 unfold execOp
 simp only [ho,hx,h1,h2,h3,hr,Sem.run_bind,Sem.run_pure,Result.andThen_ok]
theorem ow_le {base e k:Nat}{a:Option Addr}{n cap:Nat}{L:List Value}(h:Ow w base e k a n cap L):n≤cap:=by
 rcases h.2 with ⟨h1,h2⟩|⟨g,c,cur,hv,hg,hh,hnc,_⟩
 ·simp only [Value.slice.injEq] at h1;omega
 ·simp only [Value.slice.injEq] at hv;omega
theorem capT:∀(K:List Cp) (j:Nat),(caps K).take (j*3)=caps (K.take j)
 | [],j=>by simp [caps]
 | c::K,0=>by simp [caps]
 | c::K,j+1=>by
  have:=capT K j
  simp only [caps] at this
  rw [show (j+1)*3=j*3+3 by omega]
  simp [caps,encC,this]
theorem capD:∀(K:List Cp) (j:Nat),(caps K).drop (j*3)=caps (K.drop j)
 | [],j=>by simp [caps]
 | c::K,0=>by simp [caps]
 | c::K,j+1=>by
  have:=capD K j
  simp only [caps] at this
  rw [show (j+1)*3=j*3+3 by omega]
  simp [caps,encC,this]
theorem capA (K M:List Cp):caps (K++M)=caps K++caps M:=by simp [caps]
theorem capO (K:List Cp):∀u∈caps K,u.oneCell'=true:=fun u hu=>by
 obtain⟨c,-,hc⟩:=List.mem_flatMap.1 hu
 simp [encC] at hc
 rcases hc with rfl|rfl|rfl<;>rfl
theorem sxs2 {k p:Nat}{s t:Sx}(c0:w.cell? ⟨p,0,none⟩=some (.slice s.a s.n s.c))(c1:w.cell? ⟨p,1,none⟩=some (.slice t.a t.n t.c))(r0:Cr w k s.a s.n s.c s.M)(r1:Cr w k t.a t.n t.c t.M):Sxs w k p [s,t] :=
 ⟨fun i x hx=>by
  match i,hx with
  | 0,hx=>simp at hx;subst hx;exact c0
  | 1,hx=>simp at hx;subst hx;exact c1
  | n+2,hx=>simp at hx,fun x hx=>by simp at hx;rcases hx with rfl|rfl;exact r0;exact r1⟩
theorem sxs3 {k p:Nat}{s t u:Sx}(c0:w.cell? ⟨p,0,none⟩=some (.slice s.a s.n s.c))(c1:w.cell? ⟨p,1,none⟩=some (.slice t.a t.n t.c))(c2:w.cell? ⟨p,2,none⟩=some (.slice u.a u.n u.c))(r0:Cr w k s.a s.n s.c s.M)(r1:Cr w k t.a t.n t.c t.M)(r2:Cr w k u.a u.n u.c u.M):Sxs w k p [s,t,u] :=
 ⟨fun i x hx=>by
  match i,hx with
  | 0,hx=>simp at hx;subst hx;exact c0
  | 1,hx=>simp at hx;subst hx;exact c1
  | 2,hx=>simp at hx;subst hx;exact c2
  | n+3,hx=>simp at hx,fun x hx=>by simp at hx;rcases hx with rfl|rfl|rfl;exact r0;exact r1;exact r2⟩
theorem ls_le (hf:Fit h.p q)(b:Int):(lsX q.X b).length≤32:=by
 unfold lsX
 cases hfd:q.X.find? (fun q=>decide (q.1=b)) with
 | none=>simp
 | some e=>have:=(hf.ln e (List.mem_of_find?_eq_some hfd)).1;have:=hf.lm;simp;omega
theorem xs_le (hf:Fit h.p q):q.X.length≤1024:=by
 obtain⟨-,b,c⟩:=hf.pm
 exact Int.ofNat_le.1 (Int.le_trans c (Int.le_trans b (by decide)))
theorem Md.lenL (k:Md w h q N Es Ls):Ls.length=q.X.length:=by rw [←k.le];simp
theorem Md.held (k:Md w h q N Es Ls){b:Int}(hh:haX q.X b=true):∃y∈Ls,y.id=b:=by
 rw [←k.le,has_l] at hh
 obtain⟨y,hy⟩:=Option.isSome_iff_exists.1 hh
 exact⟨y,List.mem_of_find?_eq_some hy,by simpa using List.find?_some hy⟩
def FinX (w:World)(h:Hm)(q:Pl)(N:Nat→Prop)(b:Nat)(by_:Int)(K:List Cp)(U:World):Prop :=
 ∃N' Es Ls,Md U h { q with X:=stX q.X by_ K } N' Es Ls∧WentP w h N U N'∧¬N' b∧Zr U b
theorem upd_fin {b g6:Nat}{a6:Option Addr}{m c6:Nat}{K:List Cp}(k0:Md w h q N Es Ls)(k:Md V h q N Es Ls)(hri:Ris (Ls.map Ln.v))(by_:Int)(hby:S.i64ok by_)(hold:∃y∈Ls,y.id=by_)(hlen:Ls.length≤1024)(hO:Ow V g6 38 3 a6 m c6 (caps K))(hm:K.length=m)(hW:WentP w h N V N)(hZ:Zr V b)(hb:w.heap.size≤b)(hg:b<g6) :
  ∃V',(Instr.mapUpdate 59 (.map (some h.bl)) (.int .i64 by_) (.slice a6 m c6)).run Tryz.prog V=.ok () V'∧FinX w h q N b by_ K V'∧But (·=h.bl) V V':=by
 subst hm
 have g1:=k0.glt
 have g2:=k0.olt
 have g3:=k0.llt
 obtain⟨V',hr,k',hb',-⟩:=k.swapX hri ⟨by_,K,a6,c6⟩ hby hold hlen ⟨hO.mono (Nat.zero_le _),fun j hj=>by have:=(hO.blk j hj).1;exact⟨by omega,by omega,by omega⟩⟩
 refine⟨V',hr,⟨_,_,_,k',?_,?_,hZ.but hb' (by omega)⟩,hb'⟩
 ·have h1:=hW.trans (went_l hb')
  refine⟨h1.1,fun j hj=>?_⟩
  rcases hj with hj|hj
  ·exact .inl hj
  ·exact .inr (by have:=(hO.blk j hj).1;omega)
 ·intro e
  rcases e with e|e
  ·exact k0.new hb e
  ·have:=(hO.blk _ e).1;omega
set_option maxRecDepth 100000 in
set_option maxHeartbeats 4000000 in
theorem remove_any (k:Md w h q N Es Ls)(hf:Fit h.p q)(by_:Int)(hby:S.i64ok by_)(hh:haX q.X by_=true)(i:Nat)(hi:i≤65536):Calls Tryz.prog 57 #[.pointer (some ⟨h.g,0,none⟩),.int .i64 by_,.int .i64 (i:Int)] w (DidP w h N (pRem q by_ (i:Int))):=by
 obtain⟨W,hW⟩:∃W,W=w.alloc z6:=⟨_,rfl⟩
 have hB:Below w.heap.size w W:=by rw [hW];exact below1 _ _
 have hZ:Zr W w.heap.size:=by rw [hW];exact Zr.new w
 have k1:=k.later hB
 have x13:=k1.cell 13 rfl
 obtain⟨y,hy⟩:∃y,y=lnA Ls by_:=⟨_,rfl⟩
 have hls:=k1.ls by_
 have hlr:=(k1.lrA by_).l
 rw [←hy] at hls hlr
 have hlk:=k1.lookL hby
 rw [←hy] at hlk
 have hlk:(Instr.lookup 59 (.map (some h.bl)) (.int .i64 by_) false).run Tryz.prog W=.ok (.slice y.a y.K.length y.c) W:=hlk
 have hKl:y.K.length≤32:=by rw [hls];exact ls_le hf by_
 unfold pRem
 rw [←hls]
 have hRi:=(k.rise hf).2
 have hHo:=k.held hh
 have hlE:Ls.length≤1024:=by rw [k.lenL];exact xs_le hf
 have hgl:=k.glt
 have hll:=k.llt
 have HK0:=hid k
 have HK:=hid k1
 have HB:=hid hB
 have HW:=hid hW
 have HZ:=hid hZ
 have HRi:=hid hRi
 have HHo:=hid hHo
 have HLk:=hid hlk
 have HC13:=hid x13
 obtain⟨n,hn⟩:∃n,n=y.K.length:=⟨_,rfl⟩
 rw [←hn] at HLk hKl hlr ⊢
 have HN:=hid hn
 by_cases h1:(n:Int)≤(i:Int)
 ·rw [if_pos h1]
  have hd:n≤i:=by omega
  have HZ1:=HZ
  clear k k1 hB hZ hW h1 hf hlr hy hls hRi hHo hh hn hlk
  go_enter Tryz.func57,Tryz.ntmps57
  go_upto_region 1 with fail
  rw [←HW.out]
  go_upto_region 3 with (first|((with_reducible refine look_arm HLk.out ?_ ?_ ?_);(· rfl);(· rfl)))
  have HR_:=hid (refused_any 15 W)
  go_wp2_with (first|(go_at_call 28;refine HR_.out.mono ?_;rintro e_ w3 ⟨rfl,hb3⟩;have HB3:=hid hb3;have HZ9:=hid (HZ1.out.later HB3.out);have HS9:=hid (HZ9.out.st (rep 15) none 0 0);have HL9:=hid (HZ9.out.lv (rep 15) none 0 0);clear hb3)|((with_reducible refine st_arm HS9.out ?_ ?_ ?_);(· rfl);(· rfl)))
  exact bodyPost_ret (v:=rpV (rep 15) none 0 0) (by simp [results,Tryz.results57,asAddr,HL9.out]) rfl (refuse_fin HK0.out HK.out (WentP.later HB.out) HB3.out (Nat.le_refl _) (rep 15) rfl)
 rw [if_neg h1]
 have hd:¬n≤i:=by omega
 have hin:i<n:=by omega
 have hnc:=ow_le hlr
 obtain⟨K',hK'⟩:∃K',K'=y.K.take i++y.K.drop (i+1):=⟨_,rfl⟩
 obtain⟨ac,hac⟩:∃ac,ac=cutK y.a y.c (i+1) 3:=⟨_,rfl⟩
 obtain⟨m2,hm2⟩:∃m2,m2=n - (i+1):=⟨_,rfl⟩
 obtain⟨cc,hcc⟩:∃cc,cc=y.c - (i+1):=⟨_,rfl⟩
 have hlr2:=hlr
 rw [HN.out] at hlr2
 have hr0:=ow_cr hlr (capO _)
 have hKm:K'.length=i+m2:=by rw [hK',hm2,HN.out];simp;omega
 have HCon:Hid (∀U:World,Below W.heap.size W U→U.cell? ⟨W.heap.size,0,none⟩=some (.slice y.a i y.c)→U.cell? ⟨W.heap.size,1,none⟩=some (.slice ac m2 cc)→Calls Tryz.prog 79 #[.slice (some ⟨W.heap.size,0,none⟩) 2 2] U fun e w'=>∃a c,e=.returned (.slice a (i+m2) c)∧Ow w' W.heap.size 38 3 a (i+m2) c (caps K')∧Below W.heap.size W w'):=fun U hU c0 c1=>by
  have rr:=cr_later hr0 hU
  have:=concatC_any (w:=U) (p:=W.heap.size) (c0:=2) (L:=[⟨y.a,i,y.c,(caps y.K).take (i*3)⟩,⟨ac,m2,cc,(caps y.K).drop ((i+1)*3)⟩]) (sxs2 c0 c1 (cr_take rr i (by omega)) (by rw [hac,hm2,hcc];exact cr_cut rr (i+1) (by omega) hnc)) (by simp) (by simp [sxN];omega)
  have e1:sxN [⟨y.a,i,y.c,(caps y.K).take (i*3)⟩,⟨ac,m2,cc,(caps y.K).drop ((i+1)*3)⟩]=i+m2:=by simp [sxN]
  have e2:sxM [⟨y.a,i,y.c,(caps y.K).take (i*3)⟩,⟨ac,m2,cc,(caps y.K).drop ((i+1)*3)⟩]=caps K':=by rw [hK',capA,←capT,←capD];simp [sxM]
  rw [e1,e2] at this
  simp only [List.length_cons,List.length_nil,Nat.zero_add,Nat.reduceAdd] at this
  exact this.mono (fun e w' ⟨a,c,h1,h2,h3⟩=>⟨a,c,h1,h2.mono hU.size,below_call hU h3⟩)
 have HS1:Hid (∀U:World,(Instr.sliceAt 63 (.slice y.a n y.c) none (some (.int .i64 (i:Int))) none).run Tryz.prog U=.ok (.slice y.a i y.c) U):=fun U=>sliceC_h U y.a n y.c i (Nat.le_trans (Nat.le_of_lt hin) hnc)
 have HS2:Hid (∀U:World,(Instr.sliceAt 63 (.slice y.a n y.c) (some (.int .i64 ((i:Int)+1))) none none).run Tryz.prog U=.ok (.slice ac m2 cc) U):=fun U=>by
  have e:((i+1:Nat):Int)=(i:Int)+1:=Int.natCast_add i 1
  rw [←e,hac,hm2,hcc]
  exact sliceC_l U y.a n y.c (i+1) hin hnc
 have hit:(i:Int).toNat=i:=Int.toNat_natCast i
 rw [hit,←hK']
 have HKm:=hid hKm
 have hwz:w.heap.size<W.heap.size:=HZ.out.lt
 have HW1:Hid (wrap64 ((i:Int)+1)=(i:Int)+1):=by unfold Hid wrap64;omega
 have HW2:Hid (IntKind.i64.wrap ((i:Int)+1)=(i:Int)+1):=by unfold Hid;rw [IntKind.wrap_i64];omega
 have hw1:=HW1.out
 have hw2:=HW2.out
 clear k k1 hB hZ hW h1 hf hlr hlr2 hr0 hy hls hRi hHo hh hn hlk hac hm2 hcc hK' hKm hit hnc
 go_enter Tryz.func57,Tryz.ntmps57
 go_upto_region 1 with fail
 rw [←HW.out]
 go_upto_region 4 with (first|((with_reducible refine look_arm HLk.out ?_ ?_ ?_);(· rfl);(· rfl)))
 have H0:Hid (∀U:World,Below W.heap.size W U→U.cell? ⟨h.g,13,none⟩=some (.map (some h.bl))):=fun U hU=>cell_later hU HC13.out
 clear x13
 go_cut [23] (fun v U=>v=.int .i64 by_∧FinX w h q N w.heap.size by_ K' U)
 case first =>
  refine wp_region_held_drew (S:=(fun U:World=>U.cell? ⟨h.g,13,none⟩=some (.map (some h.bl)))) (by kernel_rfl) (H0.out _ (Below.refl _ _).drew) (fun hHeld=>?_)
  refine nm 15 0 15 ?_
  refine tn 0 15 1 14 ?_
  simp only [zz]
  refine tn 1 15 3 13 ?_
  simp only [zz]
  refine tn 2 15 7 12 ?_
  simp only [zz]
  refine tn 3 15 15 11 ?_
  simp only [zz]
  refine tn 4 15 31 10 ?_
  simp only [zz]
  refine tn 5 15 63 9 ?_
  simp only [zz]
  refine tn 6 15 127 8 ?_
  simp only [zz]
  refine tv 7 (v:=.slice y.a i y.c) ?_ ?_
  ·(intro w hSw;(try dsimp only at hSw);exact ex_slice (vlo:=none) (vhi:=some (.int .i64 (i:Int))) (vmx:=none) rfl rfl rfl rfl rfl (HS1.out _))
  simp only [zz]
  refine nm 15 255 7 ?_
  refine tn 8 15 511 6 ?_
  simp only [zz]
  refine tn 9 15 1023 5 ?_
  simp only [zz]
  refine tn 10 15 2047 4 ?_
  simp only [zz]
  refine tv 11 (v:=.slice ac m2 cc) ?_ ?_
  ·(intro w hSw;(try dsimp only at hSw);exact ex_slice (vlo:=some (.int .i64 ((i:Int)+1))) (vhi:=none) (vmx:=none) rfl rfl rfl rfl rfl (HS2.out _))
  simp only [zz]
  refine nm 15 4095 3 ?_
  refine zr 12 fun K hK=>?_
  go_simp
  refine zk hK 15 8191 2 (H0.out _ (by first|exact (below1 _ _).drew|exact below_call (Below.refl _ _).drew (below1 _ _))) fun hHeld=>?_
  clear hK K
  try simp only [zz]
  refine zr 13 fun K hK=>?_
  go_simp
  go_wp2_with (first|(go_at_call 79;refine (HCon.out _ (by first|exact (below1 _ _).drew|exact below_call (Below.refl _ _).drew (below1 _ _)) (by simp [go_sem]) (by simp [go_sem])).mono ?_;rintro e w6 ⟨a6,c6,rfl,hO6,hb6⟩;have HB6:=hid hb6;obtain⟨V8,hr8,hF8,hb8⟩:=upd_fin HK0.out (HK.out.later hb6) HRi.out by_ hby HHo.out hlE hO6 HKm.out (WentP.later (below_call HB.out hb6)) (HZ.out.later hb6) (Nat.le_refl _) hwz;have HF8:=hid hF8;have HS8:Hid (V8.cell? ⟨h.g,13,none⟩=some (.map (some h.bl))):=cell_but hb8 (H0.out _ hb6) (HK0.out.gl);clear hO6 hb6 hF8 hb8))
  refine zk hK 15 16383 1 (H0.out _ HB6.out) fun hHeld=>?_
  clear hK K
  try simp only [zz]
  refine zr 14 fun K hK=>?_
  go_simp
  refine zk hK 15 32767 0 (HS8.out) fun hHeld=>?_
  clear hK K
  try simp only [zz]
  refine zn ?_ _
  (try go_wp2)
  go_meet
  exact⟨rfl,HF8.out⟩
 case rest =>
 rename World=>v
 obtain⟨rfl,N9,Es9,Ls9,k9,hw9,hn9,hz9⟩:=hcut
 have HK9:=hid k9
 have HW9:=hid hw9
 have HN9:=hid hn9
 have HS9:=hid (hz9.st (rep 0) none 0 0)
 have HL9:=hid (hz9.lv (rep 0) none 0 0)
 clear k9 hw9 hn9 hz9
 go_wp2_with (first|((with_reducible refine st_arm HS9.out ?_ ?_ ?_);(· rfl);(· rfl)))
 exact bodyPost_ret (v:=rpV (rep 0) none 0 0) (by simp [results,Tryz.results57,asAddr,HL9.out]) rfl (done_fin HK0.out HK9.out HW9.out (Nat.le_refl _) HN9.out (rep 0) rfl)
end
end Go.Proofs.YtffmodpgddecnaaGreat.V.E
