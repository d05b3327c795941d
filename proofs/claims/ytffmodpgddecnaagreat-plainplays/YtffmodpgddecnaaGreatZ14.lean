import Derived.Test.YtffmodpgddecnaaGreatZ13
set_option linter.unusedVariables false
set_option linter.unusedSimpArgs false
namespace Go.Proofs.YtffmodpgddecnaaGreat.V.E
open Go.RowKit Go.Maps
open Go.Proofs.YtffmodpgddecnaaGreat.H (B64 Cp)
section
variable {w w' V w2:World}{h:Hm}{q x:Pl}{N N':Nat→Prop}{Es:List En}{Ls:List Ln}
theorem fnd_is {T:List Tn}{hi lo:Nat}{t:Tn}(h:fnd T hi lo=some t):t∈T∧t.hi=hi∧t.lo=lo:=by
 unfold fnd at h
 have h1:=List.find?_some h
 simp only [decide_eq_true_eq] at h1
 exact⟨List.mem_of_find?_eq_some h,h1⟩
theorem enA_mem {Es:List En}{o:Int}(h:(enA Es o).T≠[]):enA Es o∈Es∧(enA Es o).id=o:=by
 unfold enA at h ⊢
 cases hf:Es.find? (fun e=>decide (e.id=o)) with
 | none=>rw [hf] at h;exact absurd rfl h
 | some e =>
  have h1:=List.find?_some hf
  simp only [decide_eq_true_eq] at h1
  exact⟨List.mem_of_find?_eq_some hf,h1⟩
theorem sr_ok {p:Pm}{q:Pl}{c:Cp}{rt:Int}(h:srE p q c rt=0):∃t,fnd (tkO q.O c.1) c.2.1 c.2.2=some t∧srT p q c rt=t:=by
 have h0:=h
 unfold srE at h
 cases hf:fnd (tkO q.O c.1) c.2.1 c.2.2 with
 | none=>rw [hf] at h;simp at h
 | some t=>exact⟨t,rfl,by unfold srT;rw [if_pos h0,hf];rfl⟩
theorem stO_same {O:List (Int×Ob)}{o:Int}{a:Ob}(hr:O.Pairwise (fun a b=>a.1<b.1))(ho:obO O o=some a)(f:Ob→Ob):stO O o (fun _=>f a)=stO O o f:=by
 unfold stO
 refine List.map_congr_left (fun e he=>?_)
 by_cases h1:e.1=o
 ·rw [if_pos h1,if_pos h1]
  have:e.2=a:=by
   unfold obO at ho
   cases hf:O.find? (fun q=>decide (q.1=o)) with
   | none=>rw [hf] at ho;cases ho
   | some y =>
    rw [hf] at ho
    simp only [Option.map_some,Option.some.injEq] at ho
    have h2:=List.find?_some hf
    simp only [decide_eq_true_eq] at h2
    have h3:=List.mem_of_find?_eq_some hf
    obtain⟨i,hi,rfl⟩:=List.getElem_of_mem he
    obtain⟨j,hj,rfl⟩:=List.getElem_of_mem h3
    have hp:=List.pairwise_iff_getElem.1 hr
    have:i=j:=by
     rcases Nat.lt_trichotomy i j with h4|h4|h4
     ·have:=hp i j hi hj h4;omega
     ·exact h4
     ·have:=hp j i hj hi h4;omega
    subst this
    exact ho
  rw [this]
 ·rw [if_neg h1,if_neg h1]
theorem Md.ob (k:Md w h q N Es Ls){o:Int}(hne:(enA Es o).T≠[]):obO q.O o=some ⟨(enA Es o).b,(enA Es o).T⟩:=by
 rw [←k.oe,find_o]
 unfold enA at hne ⊢
 cases hf:Es.find? (fun e=>decide (e.id=o)) with
 | none=>rw [hf] at hne;exact absurd rfl hne
 | some e=>rfl
set_option maxRecDepth 100000 in
set_option maxHeartbeats 4000000 in
theorem derive_any (k:Md w h q N Es Ls)(hf:Fit h.p q)(hcf:h.cf.may=true)(c:Cp)(rt:Int)(hc:S.i64ok c.1):Calls Tryz.prog 52 #[.pointer (some ⟨h.g,0,none⟩),cV c,.int .i64 rt] w (DidP w h N (pDer h.p q c rt)):=by
 obtain⟨W,hW⟩:∃W,W=(w.alloc (cO c)).alloc z6:=⟨_,rfl⟩
 have hB:Below w.heap.size w W:=by rw [hW];exact below2 _ _ _
 have hZ:Zr W (w.heap.size+1):=by rw [hW];have:=Zr.new (w.alloc (cO c));simpa using this
 have hC:Cc3 W w.heap.size c:=by rw [hW];exact (Cc3.new w c).later (below1 _ _)
 have k1:=k.later hB
 have HSr:=hid (source_any k1 hf hcf c rt hc)
 obtain⟨y0,y1,y2⟩:=hC
 have HC:=hid (Cc3.mk y0 y1 y2)
 have hgl:=k.glt
 have hol:=k.olt
 have hll:=k.llt
 have HK0:=hid k
 have HK:=hid k1
 have HB:=hid hB
 have HW:=hid hW
 have HZ:=hid hZ
 unfold pDer
 obtain⟨t,ht⟩:∃t,t=srT h.p q c rt:=⟨_,rfl⟩
 rw [←ht] at HSr
 by_cases h1:srE h.p q c rt≠0
 ·rw [if_pos h1]
  obtain⟨e,he⟩:∃e,e=srE h.p q c rt:=⟨_,rfl⟩
  rw [←he] at HSr h1 ⊢
  have hd:(e != 0)=true:=by simp [h1]
  clear k k1 hB hZ hW hc ht he h1 hf hcf
  go_enter Tryz.func52,Tryz.ntmps52
  go_upto_region 1 with fail
  rw [←HW.out]
  go_upto_region 3 with (first|(go_at_call 71;refine HSr.out.mono ?_;rintro e w1 ⟨rfl,hb1⟩;have HB1:=hid hb1;clear hb1))
  obtain⟨U1,hU_⟩:∃U_,U_=w1.alloc (.cells #[.int .u64 (t.hi:Int),.int .u64 (t.lo:Int),.int .i64 t.r,.int .u64 (t.uh:Int),.int .u64 (t.ul:Int)] 88):=⟨_,rfl⟩
  have hb_:=below_call HB1.out (show Below w1.heap.size w1 U1 by rw [hU_];exact below1 _ _)
  rw [←hU_]
  have HBU:=hid hb_
  have HZ1:=hid (HZ.out.later hb_)
  clear hb_ hU_
  have HR_:=hid (refused_any e U1)
  go_wp2_with (first|(go_at_call 28;refine HR_.out.mono ?_;rintro e_ w3 ⟨rfl,hb3⟩;have HB3:=hid hb3;have HZ9:=hid (HZ1.out.later HB3.out);have HS9:=hid (HZ9.out.st (rep e) none 0 0);have HL9:=hid (HZ9.out.lv (rep e) none 0 0);clear hb3)|((with_reducible refine st_arm HS9.out ?_ ?_ ?_);(· rfl);(· rfl)))
  exact bodyPost_ret (v:=rpV (rep e) none 0 0) (by simp [results,Tryz.results52,asAddr,HL9.out]) rfl (refuse_fin HK0.out (HK.out.later HBU.out) (WentP.later (below_call HB.out HBU.out)) HB3.out (Nat.le_succ _) (rep e) rfl)
 have h1:srE h.p q c rt=0:=by simpa using h1
 rw [if_neg (by rw [h1];simp)]
 obtain⟨t',hft,htt⟩:=sr_ok h1
 rw [h1] at HSr
 obtain rfl:t=t':=ht.trans htt
 obtain⟨htm,hth,htl⟩:=fnd_is hft
 have HDn:Hid (∀U:World,Below W.heap.size W U→Calls Tryz.prog 72 #[.pointer (some ⟨h.g,0,none⟩),.int .i64 c.1] U fun e w'=>e=.returned (.tuple #[cV (dnC c.1 (pDrw h.p q c.1)),.int .i64 (pDrw h.p q c.1).2.1])∧Md w' h { q with t:=(pDrw h.p q c.1).2.2 } N Es Ls∧But (·=h.g) U w'):=fun U hU=>drawNew_any (k1.later hU) hf hcf c.1 hc
 obtain⟨DD,hD⟩:∃DD,DD=pDrw h.p q c.1:=⟨_,rfl⟩
 rw [←hD] at HDn ⊢
 obtain⟨d,hdc⟩:∃d,d=dnC c.1 DD:=⟨_,rfl⟩
 rw [←hdc] at HDn
 by_cases h2:DD.2.1≠0
 ·rw [if_pos h2]
  obtain⟨e,he⟩:∃e,e=DD.2.1:=⟨_,rfl⟩
  rw [←he] at HDn h2 ⊢
  have hd:(e != 0)=true:=by simp [h2]
  clear k k1 hB hZ hW hc ht he h1 hf hcf h2 hft htt htm hth htl hD hdc
  go_enter Tryz.func52,Tryz.ntmps52
  go_upto_region 1 with fail
  rw [←HW.out]
  go_upto_region 4 with (first|(go_at_call 71;refine HSr.out.mono ?_;rintro e w1 ⟨rfl,hb1⟩;have HB1:=hid hb1;clear hb1))
  obtain⟨U1,hU_⟩:∃U_,U_=w1.alloc (.cells #[.int .u64 (t.hi:Int),.int .u64 (t.lo:Int),.int .i64 t.r,.int .u64 (t.uh:Int),.int .u64 (t.ul:Int)] 88):=⟨_,rfl⟩
  have hb_:=below_call HB1.out (show Below w1.heap.size w1 U1 by rw [hU_];exact below1 _ _)
  rw [←hU_]
  have HBU:=hid hb_
  have HZ1:=hid (HZ.out.later hb_)
  clear hb_ hU_
  obtain⟨x0,x1,x2⟩:=HC.out.later HBU.out
  clear y0 y1 y2
  go_upto_region 6 with (first|(go_at_call 72;refine (HDn.out U1 HBU.out).mono ?_;rintro e w2 ⟨rfl,k2,hb2⟩;have HK2:=hid k2;have HB2:=hid hb2;clear k2 hb2))
  obtain⟨U2,hU2⟩:∃U2,U2=w2.alloc (cO d):=⟨_,rfl⟩
  have hb2:Below w2.heap.size w2 U2:=by rw [hU2];exact below1 _ _
  first|rw [←hU2]|(unfold cO at hU2;rw [←hU2])
  have HK2:=hid (HK2.out.later hb2)
  have HZ1:=hid ((HZ1.out.but HB2.out (by omega)).later hb2)
  have HWe:Hid (WentP w h N U2 N):=((WentP.later (below_call HB.out HBU.out)).trans (went_g HB2.out)).trans (WentP.later hb2)
  clear hb2 hU2 x0 x1 x2
  have HR_:=hid (refused_any e U2)
  go_wp2_with (first|(go_at_call 28;refine HR_.out.mono ?_;rintro e_ w3 ⟨rfl,hb3⟩;have HB3:=hid hb3;have HZ9:=hid (HZ1.out.later HB3.out);have HS9:=hid (HZ9.out.st (rep e) none 0 0);have HL9:=hid (HZ9.out.lv (rep e) none 0 0);clear hb3)|((with_reducible refine st_arm HS9.out ?_ ?_ ?_);(· rfl);(· rfl)))
  exact bodyPost_ret (v:=rpV (rep e) none 0 0) (by simp [results,Tryz.results52,asAddr,HL9.out]) rfl (refuse_fin HK0.out HK2.out (HWe.out) HB3.out (Nat.le_succ _) (rep e) rfl)
 have h2:DD.2.1=0:=by simpa using h2
 rw [if_neg (by rw [h2];simp)]
 rw [h2] at HDn
 obtain⟨M,hM⟩:∃M,M=DD.1:=⟨_,rfl⟩
 have hdm:d=(c.1,M / B64,M%B64):=by rw [hdc];unfold dnC;rw [if_pos h2,hM];rfl
 rw [←hM]
 obtain⟨mh,hmh⟩:∃mh,mh=M / B64:=⟨_,rfl⟩
 obtain⟨ml,hml⟩:∃ml,ml=M%B64:=⟨_,rfl⟩
 rw [←hmh,←hml] at hdm ⊢
 subst hdm
 obtain⟨tt,htD⟩:∃tt,tt=DD.2.2:=⟨_,rfl⟩
 rw [←htD] at HDn ⊢
 have hcap:D.cap c.1 M=(c.1,mh,ml):=by rw [hmh,hml];rfl
 rw [hcap]
 obtain⟨x,hx⟩:∃x,x=enA Es c.1:=⟨_,rfl⟩
 have htk:=k.tk c.1
 rw [←hx] at htk
 have hTne:x.T≠[]:=by rw [htk];exact List.ne_nil_of_mem htm
 have hxm:x∈Es∧x.id=c.1:=by rw [hx] at hTne ⊢;exact enA_mem hTne
 have hob:obO q.O c.1=some ⟨x.b,x.T⟩:=by rw [hx] at hTne ⊢;exact k.ob hTne
 have HSt:Hid (stO q.O c.1 (fun _=>⟨x.b,x.T++[⟨mh,ml,rt,c.2.1,c.2.2⟩]⟩)=stO q.O c.1 (fun o=>{ o with T:=o.T++[⟨mh,ml,rt,c.2.1,c.2.2⟩] })):=stO_same hf.ro hob (fun o=>{ o with T:=o.T++[⟨mh,ml,rt,c.2.1,c.2.2⟩] })
 have hlT:x.T.length≤1024:=by rw [htk];have:=tk_le q.O c.1;have:=hf.mo;omega
 have hlE:Es.length≤1024:=by rw [k.lenO];have:=hf.rm;omega
 have HRi:=hid (k.rise hf).1
 have HLk:Hid (∀(U:World) (r:Pl),Md U h r N Es Ls→(Instr.lookup 58 (.map (some h.bo)) (.int .i64 c.1) false).run Tryz.prog U=.ok (.agg #[.slice x.ba x.b.length x.bc,.slice x.ta x.T.length x.tc]) U):=fun U r kU=>by rw [kU.look hc,←hx];rfl
 have HXm:=hid hxm
 have HTh:=hid (And.intro hth htl)
 obtain⟨n,hn⟩:∃n,n=x.T.length:=⟨_,rfl⟩
 obtain⟨bl,hbl⟩:∃bl,bl=x.b.length:=⟨_,rfl⟩
 rw [←hn,←hbl] at HLk
 rw [←hn] at hlT
 have HN:=hid hn
 have HBl:=hid hbl
 have hfd:=hid fdO1
 clear k k1 hB hZ hW ht h1 hf hcf h2 hft htt htm hth htl hD hdc hM hmh hml htD hcap hx htk hTne hxm hob hn hbl
 go_enter Tryz.func52,Tryz.ntmps52
 go_upto_region 1 with fail
 rw [←HW.out]
 go_upto_region 4 with (first|(go_at_call 71;refine HSr.out.mono ?_;rintro e w1 ⟨rfl,hb1⟩;have HB1:=hid hb1;clear hb1))
 obtain⟨U1,hU_⟩:∃U_,U_=w1.alloc (.cells #[.int .u64 (t.hi:Int),.int .u64 (t.lo:Int),.int .i64 t.r,.int .u64 (t.uh:Int),.int .u64 (t.ul:Int)] 88):=⟨_,rfl⟩
 have hb_:=below_call HB1.out (show Below w1.heap.size w1 U1 by rw [hU_];exact below1 _ _)
 have HTk:Hid (Tc U1 w1.heap.size 0 t):=by rw [hU_];exact⟨by simp [go_sem],by simp [go_sem],by simp [go_sem],by simp [go_sem],by simp [go_sem]⟩
 rw [←hU_]
 have HBU:=hid hb_
 have HZ1:=hid (HZ.out.later hb_)
 clear hb_ hU_
 have HC1:=hid (HC.out.later HBU.out)
 obtain⟨x0,x1,x2⟩:=HC1.out
 clear y0 y1 y2
 go_upto_region 5 with (first|(go_at_call 72;refine (HDn.out U1 HBU.out).mono ?_;rintro e w2 ⟨rfl,k2,hb2⟩;have HK2:=hid k2;have HB2:=hid hb2;clear k2 hb2))
 obtain⟨U2,hU2⟩:∃U2,U2=w2.alloc (cO (c.1,mh,ml)):=⟨_,rfl⟩
 have hb2:Below w2.heap.size w2 U2:=by rw [hU2];exact below1 _ _
 have HCd:Hid (Cc3 U2 w2.heap.size (c.1,mh,ml)):=by rw [hU2];exact Cc3.new w2 _
 first|rw [←hU2]|(unfold cO at hU2;simp only at hU2;rw [←hU2])
 have hgw1:h.g<w1.heap.size:=by have:=HB1.out.size;have:=HB.out.size;omega
 have HTk:=hid ((Tc.later (w:=w2) ⟨cell_but HB2.out HTk.out.c0 (by simp only;omega),cell_but HB2.out HTk.out.c1 (by simp only;omega),cell_but HB2.out HTk.out.c2 (by simp only;omega),cell_but HB2.out HTk.out.c3 (by simp only;omega),cell_but HB2.out HTk.out.c4 (by simp only;omega)⟩ hb2))
 have HK2:=hid (HK2.out.later hb2)
 have HC2:=hid ((HC1.out.but HB2.out (by omega)).later hb2)
 have HZ2:=hid ((HZ1.out.but HB2.out (by omega)).later hb2)
 have HWe:Hid (WentP w h N U2 N):=((WentP.later (below_call HB.out HBU.out)).trans (went_g HB2.out)).trans (WentP.later hb2)
 have hs2:w1.heap.size<U2.heap.size:=World.block_lt_of_cell? _ _ HTk.out.c0
 have hs3:w2.heap.size<U2.heap.size:=World.block_lt_of_cell? _ _ HCd.out.c0
 have hs4:w.heap.size<U2.heap.size:=World.block_lt_of_cell? _ _ HC2.out.c0
 clear hb2 hU2 x0 x1 x2
 have H0:Hid (∀U:World,Below U2.heap.size U2 U→U.cell? ⟨h.g,12,none⟩=some (.map (some h.bo))∧U.cell? ⟨w.heap.size,0,none⟩=some (.int .i64 c.1)∧(Instr.lookup 58 (.map (some h.bo)) (.int .i64 c.1) false).run Tryz.prog U=.ok (.agg #[.slice x.ba bl x.bc,.slice x.ta n x.tc]) U):=fun U hU=>⟨(HK2.out.later hU).cell 12 rfl,(HC2.out.later hU).c0,HLk.out U _ (HK2.out.later hU)⟩
 go_upto_region 7 with fail
 go_cut [10] (fun v10 U=>∃p,v10=.pointer (some ⟨p,0,none⟩)∧U.cell? ⟨p,0,none⟩=some (.slice x.ba bl x.bc)∧U.cell? ⟨p,1,none⟩=some (.slice x.ta n x.tc)∧U.frozen? ⟨p,1,none⟩=false∧U2.heap.size≤p∧Below U2.heap.size U2 U)
 case first =>
  go_region_held3 (fun U=>U.cell? ⟨h.g,12,none⟩=some (.map (some h.bo))∧U.cell? ⟨w.heap.size,0,none⟩=some (.int .i64 c.1)∧(Instr.lookup 58 (.map (some h.bo)) (.int .i64 c.1) false).run Tryz.prog U=.ok (.agg #[.slice x.ba bl x.bc,.slice x.ta n x.tc]) U) (first|exact H0.out _ (Below.refl _ _).drew|exact H0.out _ (below1 _ _).drew|exact H0.out _ (below1 _ _)) (fail)
  all_goals (try go_wp2)
  all_goals go_meet
  all_goals exact⟨U2.heap.size,rfl,by simp [go_sem],by simp [go_sem],by simp [go_sem],Nat.le_refl _,by first|exact (below1 _ _).drew|exact below1 _ _|exact (Below.refl _ _).drew.alloc (Nat.le_refl _) _⟩
 case rest =>
 rename World=>v
 obtain⟨p,rfl,cp0,cp1,fp1,hp,hbv⟩:=hcut
 have HKv:=hid (HK2.out.later hbv)
 have HBv:=hid hbv
 obtain⟨d0,d1,d2⟩:=HCd.out.later hbv
 obtain⟨t0,t1,t2,t3,t4⟩:=HTk.out.later hbv
 have hsv:=HBv.out.size
 obtain⟨U4,hU4⟩:∃U,U=v.alloc (.cells #[.int .u64 (mh:Int),.int .u64 (ml:Int),.int .i64 rt,.int .u64 (t.hi:Int),.int .u64 (t.lo:Int)] 88):=⟨_,rfl⟩
 have hb4:Below v.heap.size v U4:=by rw [hU4];exact below1 _ _
 have HN4:Hid (Tc U4 v.heap.size 0 ⟨mh,ml,rt,t.hi,t.lo⟩):=by rw [hU4];exact⟨by simp [go_sem],by simp [go_sem],by simp [go_sem],by simp [go_sem],by simp [go_sem]⟩
 have hpv:p<v.heap.size:=World.block_lt_of_cell? _ _ cp0
 have q0:=cell_later hb4 cp0
 have q1:=cell_later hb4 cp1
 have qf:U4.frozen? ⟨p,1,none⟩=false:=by rw [hb4.frozen hpv];exact fp1
 obtain⟨m0,m1,m2,m3,m4⟩:=HN4.out
 have HB4:=hid hb4
 have HU4:=hid hU4
 clear hb4 hU4 hbv
 go_upto_region 9 with fail
 rw [←HU4.out]
 clear cp0 cp1 fp1 d0 d1 d2 t0 t1 t2 t3 t4
 obtain⟨U5,hU5⟩:∃U,U=(U4.alloc (.cells #[.int .u64 (mh:Int),.int .u64 (ml:Int),.int .i64 rt,.int .u64 (t.hi:Int),.int .u64 (t.lo:Int)] 88)).alloc (.cells #[.slice x.ta n x.tc,.slice (some ⟨U4.heap.size,0,none⟩) 1 1] 83):=⟨_,rfl⟩
 have hb5:Below U4.heap.size U4 U5:=by rw [hU5];exact below2 _ _ _
 have k5:=(HKv.out.later HB4.out).later hb5
 have hxer:=k5.er x HXm.out.1
 have hcon:=concatT_any (w:=U5) (p:=U4.heap.size+1) (c0:=2) (L:=[⟨x.ta,n,x.tc,tns x.T⟩,⟨some ⟨U4.heap.size,0,none⟩,1,1,Tn.c ⟨mh,ml,rt,t.hi,t.lo⟩⟩]) ⟨fun i s hs=>by
   match i,hs with
   | 0,hs=>simp at hs;subst hs;rw [hU5];simp [go_sem]
   | 1,hs=>simp at hs;subst hs;rw [hU5];simp [go_sem],fun s hs=>by
   rcases List.mem_cons.1 hs with rfl|hs
   ·have:=ow_cr hxer.t (tns_one x.T);rw [←HN.out] at this;exact this
   ·rw [List.mem_singleton.1 hs]
    have:=cr_later (Cr.lit U4 88 (Tn.c ⟨mh,ml,rt,t.hi,t.lo⟩) (by simp [Tn.c,Value.oneCell'])) (below1 _ (.cells #[.slice x.ta n x.tc,.slice (some ⟨U4.heap.size,0,none⟩) 1 1] 83))
    rw [hU5]
    exact this⟩ (by simp) (by simp [sxN];omega)
 have e1:sxN [⟨x.ta,n,x.tc,tns x.T⟩,⟨some ⟨U4.heap.size,0,none⟩,1,1,Tn.c ⟨mh,ml,rt,t.hi,t.lo⟩⟩]=n+1:=by simp [sxN]
 have e2:sxM [⟨x.ta,n,x.tc,tns x.T⟩,⟨some ⟨U4.heap.size,0,none⟩,1,1,Tn.c ⟨mh,ml,rt,t.hi,t.lo⟩⟩]=tns (x.T++[⟨mh,ml,rt,t.hi,t.lo⟩]):=by rw [tns_app];simp [sxM,tns]
 rw [e1,e2] at hcon
 simp only [List.length_cons,List.length_nil,Nat.zero_add,Nat.reduceAdd] at hcon
 have HCon:=hid hcon
 have HK5:=hid k5
 have HB5:=hid hb5
 have HU5:=hid hU5
 clear hcon e1 e2 k5 hxer hb5 hU5
 go_upto_region 10 with (first|(go_at_call 73;rw [←HU5.out];refine HCon.out.mono ?_;rintro e w6 ⟨a6,c6,rfl,hO6,hb6⟩;have HO6:=hid hO6;have HB6:=hid hb6;have q0:=cell_later (below_call HB5.out hb6) q0;have q1:=cell_later (below_call HB5.out hb6) q1;have qf:w6.frozen? ⟨p,1,none⟩=false:=(by rw [(below_call HB5.out hb6).frozen (Nat.lt_of_lt_of_le hpv HB4.out.size)];exact qf);clear hO6 hb6))
 obtain⟨V7,hV7⟩:∃V,V=w6.setCell ⟨p,1,none⟩ (.slice a6 (n+1) c6):=⟨_,rfl⟩
 rw [←hV7]
 have hb67:But (·=p) w6 V7:=by rw [hV7];exact (But.refl (·=p) w6).setCell (p:=⟨p,1,none⟩) rfl _
 have r0:V7.cell? ⟨p,0,none⟩=some (.slice x.ba bl x.bc):=by rw [hV7,World.cell?_setCell_other _ _ _ _ (by simp)];exact q0
 have r1:V7.cell? ⟨p,1,none⟩=some (.slice a6 (n+1) c6):=by rw [hV7];exact World.cell?_setCell_same _ _ _ q1
 have hb26:Below U2.heap.size U2 w6:=below_call (below_call HBv.out HB4.out) (below_call HB5.out HB6.out)
 have k6:=HK2.out.later hb26
 have hnp:¬N p:=HK2.out.new hp
 have g2:=HK2.out.olt
 have g3:=HK2.out.llt
 have k7:=k6.but hb67 (fun j hj e=>hnp (e ▸ hj)) (by omega) (by omega) (by omega)
 have HC7:=hid ((HC2.out.later hb26).but hb67 (by omega))
 have HZ7:=hid ((HZ2.out.later hb26).but hb67 (by have:=HZ2.out.lt;omega))
 have HW7:Hid (WentP w h N V7 N):=⟨(HWe.out.1.call hb26).comp hb67 (fun i e=>.inr (by omega)),HWe.out.2⟩
 have hs6:=hb26.size
 have HO7:Hid (Ow V7 0 88 5 a6 (n+1) c6 (tns (x.T++[⟨mh,ml,rt,t.hi,t.lo⟩]))):=(Ow.but HO6.out hb67 (fun j hj e=>by have:=(Ow.blk HO6.out j hj).1;have:=HB4.out.size;have:=HB5.out.size;omega)).mono (Nat.zero_le _)
 have hg6:∀j,Blk a6 j→U2.heap.size≤j:=fun j hj=>by have:=(Ow.blk HO6.out j hj).1;have:=HB4.out.size;have:=HB5.out.size;omega
 have hx7:=k7.er x HXm.out.1
 have kx:=Er.ew k7 hx7
 have HLn:(x.T++[(⟨mh,ml,rt,t.hi,t.lo⟩:Tn)]).length=n+1:=by rw [List.length_append,←HN.out];rfl
 have kew:Ew V7.drew h ⟨c.1,x.b,x.ba,x.bc,x.T++[⟨mh,ml,rt,t.hi,t.lo⟩],a6,c6⟩:=⟨kx.b,by simp only;rw [HLn];exact HO7.out,kx.nb,fun j hj=>by have:=hg6 j hj;exact⟨by omega,by omega,by omega⟩⟩
 obtain⟨V8,hr8,k8,hb8,-⟩:=(k7.later (Below.refl V7.heap.size V7).drew).swapO HRi.out _ hc ⟨x,HXm.out.1,HXm.out.2⟩ hlE kew
 simp only [En.val,HLn,←HBl.out] at hr8
 simp only at k8
 rw [HTh.out.1,HTh.out.2,HSt.out] at k8
 have HS:Hid (V7.drew.cell? ⟨h.g,12,none⟩=some (.map (some h.bo))∧V7.drew.cell? ⟨w.heap.size,0,none⟩=some (.int .i64 c.1)∧V7.drew.cell? ⟨p,0,none⟩=some (.slice x.ba bl x.bc)∧V7.drew.cell? ⟨p,1,none⟩=some (.slice a6 (n+1) c6)):=⟨k7.cell 12 rfl,HC7.out.c0,r0,r1⟩
 have HS2:Hid (V8.cell? ⟨h.g,12,none⟩=some (.map (some h.bo))∧V8.cell? ⟨w.heap.size,0,none⟩=some (.int .i64 c.1)∧V8.cell? ⟨p,0,none⟩=some (.slice x.ba bl x.bc)∧V8.cell? ⟨p,1,none⟩=some (.slice a6 (n+1) c6)):=⟨k8.cell 12 rfl,cell_but hb8 HS.out.2.1 (by simp only;omega),cell_but hb8 HS.out.2.2.1 (by simp only;omega),cell_but hb8 HS.out.2.2.2 (by simp only;omega)⟩
 have HK8:=hid k8
 have HW8:Hid (WentP w h N V8 (NE N ⟨c.1,x.b,x.ba,x.bc,x.T++[⟨mh,ml,rt,t.hi,t.lo⟩],a6,c6⟩)):=by
  have h1:=HW7.out.trans ((WentP.later (N:=N) (Below.refl V7.heap.size V7).drew).trans (went_o hb8))
  refine⟨h1.1,fun j hj=>?_⟩
  rcases hj with hj|hj|hj
  ·exact .inl hj
  ·exact .inl (hx7.nb j hj)
  ·exact .inr (by have:=hg6 j hj;omega)
 have hnb:¬NE N ⟨c.1,x.b,x.ba,x.bc,x.T++[⟨mh,ml,rt,t.hi,t.lo⟩],a6,c6⟩ (w.heap.size+1):=fun e=>by
  have:=HZ2.out.lt
  rcases e with e|e|e
  ·exact HK0.out.new (Nat.le_succ _) e
  ·exact HK0.out.new (Nat.le_succ _) (hx7.nb _ e)
  ·have:=hg6 _ e;omega
 have HNb:=hid hnb
 have HZ8:=hid ((HZ7.out.later (Below.refl V7.heap.size V7).drew).but hb8 (by omega))
 have HS9:=hid (HZ8.out.st ⟨0,(c.1,mh,ml),[],0⟩ none 0 0)
 have HL9:=hid (HZ8.out.lv ⟨0,(c.1,mh,ml),[],0⟩ none 0 0)
 have HCd8:=hid (((((HCd.out.later hb26).but hb67 (by omega)).later (Below.refl V7.heap.size V7).drew)).but hb8 (by have:=HB2.out.size;have:=HBU.out.size;have:=HB.out.size;omega))
 obtain⟨e0,e1,e2⟩:=HCd8.out
 clear hV7 hb67 r0 r1 k6 k7 hx7 kx kew k8 hb8 hnb hb26 q0 q1 qf m0 m1 m2 m3 m4 HLn
 go_cut [59] (fun v59 U=>v59=.int .i64 c.1∧U=V8)
 case first =>
  go_region_held3 (fun U=>U.cell? ⟨h.g,12,none⟩=some (.map (some h.bo))∧U.cell? ⟨w.heap.size,0,none⟩=some (.int .i64 c.1)∧U.cell? ⟨p,0,none⟩=some (.slice x.ba bl x.bc)∧U.cell? ⟨p,1,none⟩=some (.slice a6 (n+1) c6)) (first|exact HS.out|exact HS2.out) (fail)
  all_goals (try go_wp2)
  all_goals go_meet
  all_goals exact⟨rfl,rfl⟩
 case rest =>
 obtain⟨rfl,hVe⟩:=hcut
 subst hVe
 go_wp2_with (first|((with_reducible refine st_arm HS9.out ?_ ?_ ?_);(· rfl);(· rfl)))
 exact bodyPost_ret (v:=rpV ⟨0,(c.1,mh,ml),[],0⟩ none 0 0) (by simp [results,Tryz.results52,asAddr,HL9.out]) rfl (done_fin HK0.out HK8.out HW8.out (Nat.le_succ _) HNb.out ⟨0,(c.1,mh,ml),[],0⟩ rfl)
end
end Go.Proofs.YtffmodpgddecnaaGreat.V.E
namespace Go.Proofs.YtffmodpgddecnaaGreat.V.E
open Go.RowKit Go.Maps
open Go.Proofs.YtffmodpgddecnaaGreat.H (B64 Cp)
section
variable {w w' V w2:World}
def gdc (g:Nat×Nat):List Value:=[.int .u64 (g.1:Int),.int .u64 (g.2:Int)]
def gds (G:List (Nat×Nat)):List Value:=G.flatMap gdc
theorem gds_at:∀(M:List (Nat×Nat)) (j:Nat) (t:Nat×Nat),M[j]?=some t→∀k,k<2→(gds M)[j*2+k]?=(gdc t)[k]?
 | [],j,t,h,k,hk=>by simp at h
 | x::M,0,t,h,k,hk=>by
  simp only [List.getElem?_cons_zero,Option.some.injEq] at h
  subst h
  simp only [gds,List.flatMap_cons]
  rw [List.getElem?_append_left (by simp [gdc];omega)]
  simp
 | x::M,j+1,t,h,k,hk=>by
  rw [List.getElem?_cons_succ] at h
  have:=gds_at M j t h k hk
  simp only [gds,List.flatMap_cons] at this ⊢
  rw [List.getElem?_append_right (by simp [gdc];omega),←this]
  congr 1
  simp [gdc]
  omega
theorem gds_app (A B:List (Nat×Nat)):gds (A++B)=gds A++gds B:=by simp [gds]
theorem ow_gd {base ty:Nat}{a:Option Addr}{n cap:Nat}{T:List (Nat×Nat)}(k:Ow w base ty 2 a n cap (gds T))(h0:0<n):∃b,a=some ⟨b,0,none⟩∧∀i t,T[i]?=some t→w.cell? ⟨b,i*2,none⟩=some (.int .u64 (t.1:Int))∧w.cell? ⟨b,i*2+1,none⟩=some (.int .u64 (t.2:Int)):=by
 obtain⟨b,ha,hc⟩:=Ow.at_ k h0
 refine⟨b,ha,fun i t ht=>⟨?_,?_⟩⟩
 ·have:=hc _ _ ((gds_at T i t ht 0 (by omega)).trans rfl);simpa using this
 ·exact hc _ _ ((gds_at T i t ht 1 (by omega)).trans rfl)
def IxRel (W:World)(G:List (Nat×Nat))(x:Nat×Nat)(v:Value)(U:World):Prop:=∃i:Nat,v=.int .i64 (i:Int)∧i≤G.length∧(∀j g,j<i→G[j]?=some g→g≠x)∧Below W.heap.size W U
set_option maxRecDepth 100000 in
set_option maxHeartbeats 4000000 in
theorem index_any {base ty:Nat}{a:Option Addr}{n cap:Nat}{G:List (Nat×Nat)}(k:Ow w base ty 2 a n cap (gds G))(hn:G.length=n)(hl:n≤1024)(x:Nat×Nat):Calls Tryz.prog 101 #[.slice a n cap,.agg #[.int .u64 (x.1:Int),.int .u64 (x.2:Int)]] w fun e w'=>∃r:Int,e=.returned (.int .i64 r)∧(0≤r↔x∈G)∧Below w.heap.size w w':=by
 obtain⟨W,hW⟩:∃W,W=w.alloc (.cells #[.int .u64 (x.1:Int),.int .u64 (x.2:Int)] 36):=⟨_,rfl⟩
 have hB:Below w.heap.size w W:=by rw [hW];exact below1 _ _
 have c0:W.cell? ⟨w.heap.size,0,none⟩=some (.int .u64 (x.1:Int)):=by rw [hW];simp [go_sem]
 have c1:W.cell? ⟨w.heap.size,1,none⟩=some (.int .u64 (x.2:Int)):=by rw [hW];simp [go_sem]
 have HB:=hid hB
 have HW:=hid hW
 have HK:=hid (Ow.later k hB)
 have HN:=hid hn
 have HC:=hid (And.intro c0 c1)
 clear k hB hW hn c0 c1
 go_enter Tryz.func101,Tryz.ntmps101
 go_upto_region 1 with fail
 rw [←HW.out]
 go_upto_region 2 with fail
 try go_frame
 go_loopw [8] (IxRel W G x) (fun v _=>n - (intOf v).toNat)
 case atStart=>exact⟨0,rfl,by omega,fun j g hj=>by omega,Below.refl _ _⟩
 case round =>
  obtain⟨i,rfl,hi,hpre,hbel⟩:=hrel
  rename World=>U
  have HP:=hid hpre
  have HBU:=hid hbel
  have hnG:=HN.out
  have c0:=cell_later hbel HC.out.1
  have c1:=cell_later hbel HC.out.2
  clear hpre hbel
  by_cases hx:i<n
  ·have hd:decide ((i:Int)<(n:Int))=true:=decide_eq_true (by omega)
   obtain⟨g,hg⟩:∃g,G[i]?=some g:=⟨G[i]'(by omega),List.getElem?_eq_getElem (by omega)⟩
   obtain⟨b,ha,hc⟩:=ow_gd (Ow.later HK.out HBU.out) (by omega)
   obtain⟨g0,g1⟩:=hc i g hg
   subst ha
   have hii:(i:Int)<(n:Int):=by omega
   have h0i:(0:Int)≤(i:Int):=by omega
   have hwi:wrap64 ((i:Int)+1)=(i:Int)+1:=by unfold wrap64;omega
   by_cases he:x.1=g.1∧x.2=g.2
   ·have hq:=fun U=>eqlWd x.1 x.2 g.1 g.2 U
    rw [decide_eq_true he] at hq
    have HX:Hid (x∈G):=by
     have:x=g:=Prod.ext he.1 he.2
     rw [this];exact List.mem_of_getElem? hg
    clear hc hg he hnG
    go_upto_region 4 with fail
    go_quiet (fail)
    go_wp2
    go_ret
    exact⟨(i:Int),rfl,⟨fun _=>HX.out,fun _=>by omega⟩,below_drewN (below_call HB.out HBU.out) _⟩
   ·have hq:=fun U=>eqlWd x.1 x.2 g.1 g.2 U
    rw [decide_eq_false he] at hq
    have HN1:Hid (∀m,IxRel W G x (.int .i64 ((i:Int)+1)) (U.drewN m)):=fun m=>⟨i+1,by simp,by omega,fun j u hj hu=>by
     by_cases hji:j=i
     ·subst hji
      rw [hg] at hu
      cases hu
      exact fun e=>he ⟨by rw [e],by rw [e]⟩
     ·exact HP.out j u (by omega) hu,below_drewN HBU.out m⟩
    clear hc hg he hnG
    go_upto_region 4 with fail
    go_quiet (fail)
    go_wp2
    refine⟨?_,by simp [intOf];omega⟩
    exact HN1.out _
  ·have hd:decide ((i:Int)<(n:Int))=false:=decide_eq_false (by omega)
   have him:i=n:=by omega
   have HX:Hid (¬x∈G):=fun hm=>by
    obtain⟨j,hj⟩:=List.getElem?_of_mem hm
    exact HP.out j x (by have:=(List.getElem?_eq_some_iff.1 hj).1;omega) hj rfl
   clear hnG
   go_wp2
   go_ret
   exact⟨-1,rfl,⟨fun h=>by omega,fun h=>absurd h HX.out⟩,below_call HB.out HBU.out⟩
set_option maxRecDepth 100000 in
set_option maxHeartbeats 4000000 in
theorem contains_any {base ty:Nat}{a:Option Addr}{n cap:Nat}{G:List (Nat×Nat)}(k:Ow w base ty 2 a n cap (gds G))(hn:G.length=n)(hl:n≤1024)(x:Nat×Nat):Calls Tryz.prog 93 #[.slice a n cap,.agg #[.int .u64 (x.1:Int),.int .u64 (x.2:Int)]] w fun e w'=>e=.returned (.bool (decide (x∈G)))∧Below w.heap.size w w':=by
 obtain⟨W,hW⟩:∃W,W=w.alloc (.cells #[.int .u64 (x.1:Int),.int .u64 (x.2:Int)] 36):=⟨_,rfl⟩
 have hB:Below w.heap.size w W:=by rw [hW];exact below1 _ _
 have c0:W.cell? ⟨w.heap.size,0,none⟩=some (.int .u64 (x.1:Int)):=by rw [hW];simp [go_sem]
 have c1:W.cell? ⟨w.heap.size,1,none⟩=some (.int .u64 (x.2:Int)):=by rw [hW];simp [go_sem]
 have HI:=hid (index_any (Ow.later k hB) hn hl x)
 have HB:=hid hB
 have HW:=hid hW
 clear k hB hW hn
 go_enter Tryz.func93,Tryz.ntmps93
 go_upto_region 1 with fail
 rw [←HW.out]
 go_wp2_with (first|(go_at_call 101;refine HI.out.mono ?_;rintro e w1 ⟨r,rfl,hr,hb1⟩;have HR:=hid hr;have HB1:=hid hb1;clear hr hb1))
 go_ret
 refine⟨ret_bool ?_,below_call HB.out HB1.out⟩
 rw [Bool.eq_iff_iff]
 simp only [decide_eq_true_eq]
 exact HR.out
end
end Go.Proofs.YtffmodpgddecnaaGreat.V.E
namespace Go.Proofs.YtffmodpgddecnaaGreat.V.E
open Go.RowKit Go.Maps
open Go.Proofs.YtffmodpgddecnaaGreat.H (B64 Cp)
section
variable {w w' V w2:World}
def cutK (a:Option Addr)(m l k:Nat):Option Addr:=if m=l then a else a.map (·.add (l*k))
theorem szT (w:World):(sizeOf 88).run Tryz.prog w=.ok 5 w:=by
 obtain⟨i,hi,hz0,hz1,hz2⟩:=info_parts infoET
 simp [sizeOf,typeInfo,hi,hz1]
set_option maxRecDepth 100000 in
theorem undT:Tryz.prog.underlying 83=some (.slice (Tryz.prog.elem 83)):=Tryz.underlying83
theorem elT:Tryz.prog.elem 83=88:=by kernel_rfl
theorem sliceT_l (w:World)(a:Option Addr)(n c i:Nat)(h:i≤n)(hn:n≤c):(Instr.sliceAt 83 (.slice a n c) (some (.int .i64 (i:Int))) none none).run Tryz.prog w=.ok (.slice (cutK a c i 5) (n - i) (c - i)) w:=by
 rw [run_sliceAt_slice _ _ _ _ _ _ undT,run_slice_l _ _ _ _ _ undT _ _ (by omega) (by omega),elT,szT]
 rfl
theorem szB (w:World):(sizeOf 5).run Tryz.prog w=.ok 1 w:=by
 obtain⟨i,hi,hz0,hz1,hz2⟩:=info_parts infoEB
 simp [sizeOf,typeInfo,hi,hz1]
set_option maxRecDepth 100000 in
theorem undB:Tryz.prog.underlying 39=some (.slice (Tryz.prog.elem 39)):=Tryz.underlying39
theorem elB:Tryz.prog.elem 39=5:=by kernel_rfl
theorem sliceB_l (w:World)(a:Option Addr)(n c i:Nat)(h:i≤n)(hn:n≤c):(Instr.sliceAt 39 (.slice a n c) (some (.int .i64 (i:Int))) none none).run Tryz.prog w=.ok (.slice (cutK a c i 1) (n - i) (c - i)) w:=by
 rw [run_sliceAt_slice _ _ _ _ _ _ undB,run_slice_l _ _ _ _ _ undB _ _ (by omega) (by omega),elB,szB]
 rfl
theorem sliceB_h (w:World)(a:Option Addr)(n c i:Nat)(h:i≤c):(Instr.sliceAt 39 (.slice a n c) none (some (.int .i64 (i:Int))) none).run Tryz.prog w=.ok (.slice a i c) w:=by
 rw [run_sliceAt_slice _ _ _ _ _ _ undB,run_slice_h _ _ _ _ _ undB _ _ (by omega) (by omega),elB,szB]
 simp [sliced]
 cases a<;>simp [Addr.add]
theorem szC (w:World):(sizeOf 38).run Tryz.prog w=.ok 3 w:=by
 obtain⟨i,hi,hz0,hz1,hz2⟩:=info_parts infoEC
 simp [sizeOf,typeInfo,hi,hz1]
set_option maxRecDepth 100000 in
theorem undC:Tryz.prog.underlying 63=some (.slice (Tryz.prog.elem 63)):=Tryz.underlying63
theorem elC:Tryz.prog.elem 63=38:=by kernel_rfl
theorem sliceC_l (w:World)(a:Option Addr)(n c i:Nat)(h:i≤n)(hn:n≤c):(Instr.sliceAt 63 (.slice a n c) (some (.int .i64 (i:Int))) none none).run Tryz.prog w=.ok (.slice (cutK a c i 3) (n - i) (c - i)) w:=by
 rw [run_sliceAt_slice _ _ _ _ _ _ undC,run_slice_l _ _ _ _ _ undC _ _ (by omega) (by omega),elC,szC]
 rfl
theorem sliceC_h (w:World)(a:Option Addr)(n c i:Nat)(h:i≤c):(Instr.sliceAt 63 (.slice a n c) none (some (.int .i64 (i:Int))) none).run Tryz.prog w=.ok (.slice a i c) w:=by
 rw [run_sliceAt_slice _ _ _ _ _ _ undC,run_slice_h _ _ _ _ _ undC _ _ (by omega) (by omega),elC,szC]
 simp [sliced]
 cases a<;>simp [Addr.add]
theorem infoW:(Tryz.prog.info? 36).map (fun i=>(i.zero,i.size,i.bytes))=some (some (.agg #[.int .u64 0,.int .u64 0]),2,16):=by kernel_rfl
def wsA (T:List Tn)(top:Nat×Nat)(i:Nat):List Tn×List (Nat×Nat):=((T.drop 1).take i).foldl (wsS top) (T.take 1,[top])
theorem wsA_succ (T:List Tn)(top:Nat×Nat)(i:Nat)(t:Tn)(h:T[i+1]?=some t):wsA T top (i+1)=wsS top (wsA T top i) t:=by
 unfold wsA
 have hi:(T.drop 1)[i]?=some t:=by rw [List.getElem?_drop,Nat.add_comm];exact h
 obtain⟨h1,h2⟩:=List.getElem?_eq_some_iff.1 hi
 rw [List.take_succ_eq_append_getElem h1,h2,List.foldl_append]
 rfl
theorem wsA_le (T:List Tn)(top:Nat×Nat)(i:Nat):(wsA T top i).1.length≤1+i∧(wsA T top i).2.length≤1+i:=by
 induction i with
 | zero=>unfold wsA;simp;omega
 | succ i ih =>
  by_cases h:i+1<T.length
  ·rw [wsA_succ T top i _ (List.getElem?_eq_getElem h)]
   unfold wsS
   split<;>simp<;>omega
  ·have:wsA T top (i+1)=wsA T top i:=by
    have e1:(T.drop 1).take (i+1)=T.drop 1:=List.take_of_length_le (by rw [List.length_drop];omega)
    have e2:(T.drop 1).take i=T.drop 1:=List.take_of_length_le (by rw [List.length_drop];omega)
    unfold wsA
    rw [e1,e2]
   rw [this];omega
def WsRel (W:World)(T:List Tn)(top:Nat×Nat)(v5 v6 v18:Value)(U:World):Prop:=∃(i:Nat) (a5 a6:Option Addr) (c5 c6:Nat),v5=.slice a5 (wsA T top i).1.length c5∧v6=.slice a6 (wsA T top i).2.length c6∧v18=.int .i64 (i:Int)∧i+1≤T.length ∧
 Ow U W.heap.size 88 5 a5 (wsA T top i).1.length c5 (tns (wsA T top i).1)∧Ow U W.heap.size 36 2 a6 (wsA T top i).2.length c6 (gds (wsA T top i).2)∧(∀j,Blk a5 j→¬Blk a6 j)∧Below W.heap.size W U
set_option maxRecDepth 100000 in
set_option maxHeartbeats 4000000 in
theorem without_any {a:Option Addr}{n cap:Nat}{T:List Tn}(k:Ow w 0 88 5 a n cap (tns T))(hn:T.length=n)(h1:1≤n)(hl:n≤1024)(top:Nat×Nat):Calls Tryz.prog 74 #[.slice a n cap,.agg #[.int .u64 (top.1:Int),.int .u64 (top.2:Int)]] w fun e w'=>∃a' c',e=.returned (.slice a' (wsT T top).length c')∧Ow w' w.heap.size 88 5 a' (wsT T top).length c' (tns (wsT T top))∧Below w.heap.size w w':=by
 obtain⟨W,hW⟩:∃W,W=w.alloc (.cells #[.int .u64 (top.1:Int),.int .u64 (top.2:Int)] 36):=⟨_,rfl⟩
 have hB:Below w.heap.size w W:=by rw [hW];exact below1 _ _
 have c0:W.cell? ⟨w.heap.size,0,none⟩=some (.int .u64 (top.1:Int)):=by rw [hW];simp [go_sem]
 have c1:W.cell? ⟨w.heap.size,1,none⟩=some (.int .u64 (top.2:Int)):=by rw [hW];simp [go_sem]
 obtain⟨b,ha,htc⟩:=ow_tok k hn (by omega)
 subst ha
 have hncap:n≤cap:=by
  rcases k.2 with ⟨h2,h3⟩|⟨g,c,cur,hv,_,_,hc,_⟩
  ·omega
  ·simp only [Value.slice.injEq] at hv;omega
 obtain⟨t,ht⟩:∃t,T[0]?=some t:=⟨T[0]'(by omega),List.getElem?_eq_getElem (by omega)⟩
 have HTc:Hid (∀i t,T[i]?=some t→∀U:World,Below W.heap.size W U→Tc U b (i*5) t):=fun i t ht U hU=>((htc i t ht).later hB).later hU
 have tz:=HTc.out 0 t ht W (Below.refl _ _)
 simp only [Nat.zero_mul] at tz
 obtain⟨t0,t1,t2,t3,t4⟩:=tz
 simp only [Nat.zero_add] at t1 t2 t3 t4
 have ht1:T.take 1=[t]:=by
  cases T with
  | nil=>simp at ht
  | cons x r=>simp at ht;subst ht;rfl
 obtain⟨A,hA⟩:∃A,A=cutK (some ⟨b,0,none⟩) cap 1 5:=⟨_,rfl⟩
 have hsl:=fun U=>sliceT_l U (some ⟨b,0,none⟩) n cap 1 h1 hncap
 rw [←hA] at hsl
 simp only [Int.cast_ofNat_Int,Int.natCast_one] at hsl
 have HAx:Hid (2≤n→A=some ⟨b,5,none⟩):=fun h2=>by rw [hA];unfold cutK;rw [if_neg (by omega)];simp [Addr.add]
 have HB:=hid hB
 have HW:=hid hW
 have HN:=hid hn
 have HC:=hid (And.intro c0 c1)
 have hbl:b<W.heap.size:=World.block_lt_of_cell? _ _ t0
 clear k hB hW hA htc
 go_enter Tryz.func74,Tryz.ntmps74
 go_upto_region 1 with fail
 rw [←HW.out]
 obtain⟨V1,hV1⟩:∃V,V=W.alloc (.cells #[.int .u64 (t.hi:Int),.int .u64 (t.lo:Int),.int .i64 t.r,.int .u64 (t.uh:Int),.int .u64 (t.ul:Int)] 88):=⟨_,rfl⟩
 have d0:V1.cell? ⟨w.heap.size,0,none⟩=some (.int .u64 (top.1:Int)):=by rw [hV1];exact cell_later (below1 _ _) c0
 have d1:V1.cell? ⟨w.heap.size,1,none⟩=some (.int .u64 (top.2:Int)):=by rw [hV1];exact cell_later (below1 _ _) c1
 have HV1:=hid hV1
 go_upto_region 2 with fail
 rw [←hV1]
 obtain⟨V2,hV2⟩:∃V,V=V1.alloc (.cells #[.int .u64 (top.1:Int),.int .u64 (top.2:Int)] 36):=⟨_,rfl⟩
 have HV2:=hid hV2
 have H0:Hid (WsRel W T top (.slice (some ⟨W.heap.size,0,none⟩) 1 1) (.slice (some ⟨V1.heap.size,0,none⟩) 1 1) (.int .i64 0) V2):=by
  have e1:wsA T top 0=([t],[top]):=by unfold wsA;simp [ht1]
  refine⟨0,some ⟨W.heap.size,0,none⟩,some ⟨V1.heap.size,0,none⟩,1,1,by rw [e1];rfl,by rw [e1];rfl,rfl,by omega,?_,?_,?_,?_⟩
  ·rw [e1,hV2]
   have:=(Ow.lit W 88 (tns [t]) 5 1 (by simp [tns,Tn.c]) (by omega))
   have e2:tns [t]=[.int .u64 (t.hi:Int),.int .u64 (t.lo:Int),.int .i64 t.r,.int .u64 (t.uh:Int),.int .u64 (t.ul:Int)]:=by simp [tns,Tn.c]
   rw [e2] at this
   rw [←hV1] at this
   show Ow _ _ _ _ _ _ _ (tns [t])
   rw [e2]
   exact Ow.later this (below1 _ _)
  ·rw [e1,hV2]
   exact (Ow.lit V1 36 (gds [top]) 2 1 (by simp [gds,gdc]) (by omega)).mono (by rw [hV1];simp)
  ·intro j h1 h2
   have e3:=Ow.blk1 (base:=0) (e:=0) (k:=0) (n:=0) (c:=0) (L:=[]) h1
   have e4:=Ow.blk1 (base:=0) (e:=0) (k:=0) (n:=0) (c:=0) (L:=[]) h2
   rw [e3,hV1] at e4
   simp at e4
  ·rw [hV2,hV1];exact below2 _ _ _
 clear hV1 hV2 t0 t1 t2 t3 t4 c0 c1 ht ht1
 go_upto_region 4 with fail
 rw [←HV2.out]
 clear d0 d1
 try go_frame
 go_loopw [5,6,18] (WsRel W T top) (fun _ _ v _=>n - (intOf v).toNat)
 case atStart=>exact H0.out
 case round =>
  clear H0 HV1 HV2
  obtain⟨i,a5,a6,c5,c6,rfl,rfl,rfl,hi,hO5,hO6,hap,hbel⟩:=hrel
  rename World=>U
  have HO5:=hid hO5
  have HO6:=hid hO6
  have HAp:=hid hap
  have HBU:=hid hbel
  have hnT:=HN.out
  have hle:=wsA_le T top i
  have y0:=cell_later hbel HC.out.1
  have y1:=cell_later hbel HC.out.2
  obtain⟨s,hs⟩:∃s,s=wsA T top i:=⟨_,rfl⟩
  rw [←hs] at HO5 HO6 hle ⊢
  clear hO5 hO6 hap hbel
  by_cases hx:i<n - 1
  ·have hd:decide ((i:Int)<((n - 1:Nat):Int))=true:=decide_eq_true (by omega)
   have hAe:=HAx.out (by omega)
   obtain⟨t,ht⟩:∃t,T[i+1]?=some t:=⟨T[i+1]'(by omega),List.getElem?_eq_getElem (by omega)⟩
   have hsu:=wsA_succ T top i t ht
   rw [←hs] at hsu
   have tc:=HTc.out (i+1) t ht U HBU.out
   have e5:(i+1)*5=5+i*5:=by omega
   rw [e5] at tc
   obtain⟨t0,t1,t2,t3,t4⟩:=tc
   obtain⟨U1,hU1⟩:∃U1,U1=U.alloc (.cells #[.int .u64 (t.hi:Int),.int .u64 (t.lo:Int),.int .i64 t.r,.int .u64 (t.uh:Int),.int .u64 (t.ul:Int)] 88):=⟨_,rfl⟩
   have hb1:Below U.heap.size U U1:=by rw [hU1];exact below1 _ _
   have HTn:Hid (Tc U1 U.heap.size 0 t):=by rw [hU1];exact⟨by simp [go_sem],by simp [go_sem],by simp [go_sem],by simp [go_sem],by simp [go_sem]⟩
   obtain⟨n0,n1,n2,n3,n4⟩:=HTn.out
   have z0:=cell_later hb1 y0
   have z1:=cell_later hb1 y1
   have HO51:=hid (Ow.later HO5.out hb1)
   have HO61:=hid (Ow.later HO6.out hb1)
   have HB1:=hid hb1
   have HU1:=hid hU1
   have HCt:=hid (contains_any HO61.out rfl (by omega) (t.uh,t.ul))
   have hii:(i:Int)<((n - 1:Nat):Int):=by omega
   have h0i:(0:Int)≤(i:Int):=by omega
   have hwi:wrap64 ((i:Int)+1)=(i:Int)+1:=by unfold wrap64;omega
   have HI:Hid (i+1+1≤T.length):=by unfold Hid;omega
   have HSu:=hid hsu
   subst hAe
   clear hs hsu ht hnT hb1 hU1 e5
   simp only at HCt
   by_cases h1:t.hi=top.1∧t.lo=top.2
   ·have hq:=fun U=>eqlWd t.hi t.lo top.1 top.2 U
    rw [decide_eq_true h1] at hq
    have HE:Hid (wsA T top (i+1)=(s.1,s.2++[(t.hi,t.lo)])):=by unfold Hid;rw [HSu.out];unfold wsS;rw [if_pos (.inl (Prod.ext h1.1 h1.2))]
    clear h1
    go_upto_region 6 with fail
    rw [←HU1.out]
    clear t0 t1 t2 t3 t4 y0 y1
    go_upto_region 7 with fail
    obtain⟨a7,c7,w7,hr7,hO7,hG7⟩:=append_k 24 36 _ 2 16 Tryz.underlying24 infoW rfl (by omega) (by omega) (Ow.later HO61.out (below1 U1 (.cells #[.int .u64 (t.hi:Int),.int .u64 (t.lo:Int)] 36))) (Cr.lit U1 36 (gdc (t.hi,t.lo)) (by simp [gdc,Value.oneCell'])) (by have:=HBU.out.size;have:=HB1.out.size;simp;omega) (by omega)
    have hbb:Below U1.heap.size U1 (U1.alloc (.cells #[.int .u64 (t.hi:Int),.int .u64 (t.lo:Int)] 36)):=below1 _ _
    have HNx:Hid (WsRel W T top (.slice a5 s.1.length c5) (.slice a7 (s.2.length+1) c7) (.int .i64 ((i:Int)+1)) w7):=by
     refine⟨i+1,a5,a7,c5,c7,by rw [HE.out],by rw [HE.out];simp,by simp,HI.out,?_,?_,?_,?_⟩
     ·rw [HE.out]
      exact Ow.but (Ow.later HO51.out hbb) hG7.but (fun j h1 h2=>HAp.out j h1 h2)
     ·rw [HE.out,gds_app]
      simp only [List.length_append,List.length_singleton]
      exact hO7
     ·intro j h1 h2
      rcases hG7.on j h2 with h3|h3
      ·exact HAp.out j h1 h3
      ·have:=(Ow.blk HO51.out j h1).2
       simp at h3
       omega
     ·exact But.below (below_call (below_call HBU.out HB1.out) hbb) hG7.but (fun k hk=>(Ow.blk HO61.out k hk).1)
    have HA7:=hid hr7
    clear hr7 hO7 hG7 hbb
    go_wp2_with (first|(at_builtin;refine wpList_append_known rfl _ _ 24 rfl _ _ rfl rfl _ _ HA7.out ?_))
    refine⟨?_,by simp [intOf];omega⟩
    exact HNx.out
   ·have hq:=fun U=>eqlWd t.hi t.lo top.1 top.2 U
    rw [decide_eq_false h1] at hq
    by_cases h2:(t.uh,t.ul)∈s.2
    ·rw [decide_eq_true h2] at HCt
     have HE:Hid (wsA T top (i+1)=(s.1,s.2++[(t.hi,t.lo)])):=by unfold Hid;rw [HSu.out];unfold wsS;rw [if_pos (.inr h2)]
     clear h1 h2
     go_upto_region 6 with fail
     rw [←HU1.out]
     clear t0 t1 t2 t3 t4 y0 y1
     go_upto_region 7 with (first|(go_at_call 93;refine HCt.out.mono ?_;rintro e w3 ⟨rfl,hb3⟩;have HB3:=hid hb3;clear hb3))
     have HB1:=hid (below_call HB1.out HB3.out)
     have HO51:=hid (Ow.later HO51.out HB3.out)
     have HO61:=hid (Ow.later HO61.out HB3.out)
     have HTn:=hid (HTn.out.later HB3.out)
     clear n0 n1 n2 n3 n4
     obtain⟨n0,n1,n2,n3,n4⟩:=HTn.out
     obtain⟨a7,c7,w7,hr7,hO7,hG7⟩:=append_k 24 36 _ 2 16 Tryz.underlying24 infoW rfl (by omega) (by omega) (Ow.later HO61.out (below1 w3 (.cells #[.int .u64 (t.hi:Int),.int .u64 (t.lo:Int)] 36))) (Cr.lit w3 36 (gdc (t.hi,t.lo)) (by simp [gdc,Value.oneCell'])) (by have:=HBU.out.size;have:=HB1.out.size;simp;omega) (by omega)
     have hbb:Below w3.heap.size w3 (w3.alloc (.cells #[.int .u64 (t.hi:Int),.int .u64 (t.lo:Int)] 36)):=below1 _ _
     have HNx:Hid (WsRel W T top (.slice a5 s.1.length c5) (.slice a7 (s.2.length+1) c7) (.int .i64 ((i:Int)+1)) w7):=by
      refine⟨i+1,a5,a7,c5,c7,by rw [HE.out],by rw [HE.out];simp,by simp,HI.out,?_,?_,?_,?_⟩
      ·rw [HE.out]
       exact Ow.but (Ow.later HO51.out hbb) hG7.but (fun j h1 h2=>HAp.out j h1 h2)
      ·rw [HE.out,gds_app]
       simp only [List.length_append,List.length_singleton]
       exact hO7
      ·intro j h1 h2
       rcases hG7.on j h2 with h3|h3
       ·exact HAp.out j h1 h3
       ·have:=(Ow.blk HO51.out j h1).2
        simp at h3
        omega
      ·exact But.below (below_call (below_call HBU.out HB1.out) hbb) hG7.but (fun k hk=>(Ow.blk HO61.out k hk).1)
     have HA7:=hid hr7
     clear hr7 hO7 hG7 hbb
     go_wp2_with (first|(at_builtin;refine wpList_append_known rfl _ _ 24 rfl _ _ rfl rfl _ _ HA7.out ?_))
     refine⟨?_,by simp [intOf];omega⟩
     exact HNx.out
    ·rw [decide_eq_false h2] at HCt
     have HE:Hid (wsA T top (i+1)=(s.1++[t],s.2)):=by unfold Hid;rw [HSu.out];unfold wsS;rw [if_neg (fun e=>e.elim (fun e=>h1 ⟨by rw [←e],by rw [←e]⟩) h2)]
     clear h1 h2
     go_upto_region 6 with fail
     rw [←HU1.out]
     clear t0 t1 t2 t3 t4 y0 y1
     go_upto_region 8 with (first|(go_at_call 93;refine HCt.out.mono ?_;rintro e w3 ⟨rfl,hb3⟩;have HB3:=hid hb3;clear hb3))
     have HB1:=hid (below_call HB1.out HB3.out)
     have HO51:=hid (Ow.later HO51.out HB3.out)
     have HO61:=hid (Ow.later HO61.out HB3.out)
     have HTn:=hid (HTn.out.later HB3.out)
     clear n0 n1 n2 n3 n4
     obtain⟨n0,n1,n2,n3,n4⟩:=HTn.out
     obtain⟨a7,c7,w7,hr7,hO7,hG7⟩:=append_k 83 88 _ 5 40 Tryz.underlying83 infoET rfl (by omega) (by omega) (Ow.later HO51.out (below1 w3 (.cells #[.int .u64 (t.hi:Int),.int .u64 (t.lo:Int),.int .i64 t.r,.int .u64 (t.uh:Int),.int .u64 (t.ul:Int)] 88))) (Cr.lit w3 88 (Tn.c t) (by simp [Tn.c,Value.oneCell'])) (by have:=HBU.out.size;have:=HB1.out.size;simp;omega) (by omega)
     have hbb:Below w3.heap.size w3 (w3.alloc (.cells #[.int .u64 (t.hi:Int),.int .u64 (t.lo:Int),.int .i64 t.r,.int .u64 (t.uh:Int),.int .u64 (t.ul:Int)] 88)):=below1 _ _
     have HNx:Hid (WsRel W T top (.slice a7 (s.1.length+1) c7) (.slice a6 s.2.length c6) (.int .i64 ((i:Int)+1)) w7):=by
      refine⟨i+1,a7,a6,c7,c6,by rw [HE.out];simp,by rw [HE.out],by simp,HI.out,?_,?_,?_,?_⟩
      ·rw [HE.out,tns_app]
       simp only [List.length_append,List.length_singleton]
       have e9:tns [t]=Tn.c t:=by simp [tns]
       rw [e9]
       exact hO7
      ·rw [HE.out]
       exact Ow.but (Ow.later HO61.out hbb) hG7.but (fun j h1 h2=>HAp.out j h2 h1)
      ·intro j h1 h2
       rcases hG7.on j h1 with h3|h3
       ·exact HAp.out j h3 h2
       ·have:=(Ow.blk HO61.out j h2).2
        simp at h3
        omega
      ·exact But.below (below_call (below_call HBU.out HB1.out) hbb) hG7.but (fun k hk=>(Ow.blk HO51.out k hk).1)
     have HA7:=hid hr7
     clear hr7 hO7 hG7 hbb
     go_wp2_with (first|(at_builtin;refine wpList_append_known rfl _ _ 83 rfl _ _ rfl rfl _ _ HA7.out ?_))
     refine⟨?_,by simp [intOf];omega⟩
     exact HNx.out
  ·have hd:decide ((i:Int)<((n - 1:Nat):Int))=false:=decide_eq_false (by omega)
   have HE:Hid (wsT T top=s.1):=by
    have e2:(T.drop 1).take i=T.drop 1:=List.take_of_length_le (by rw [List.length_drop];omega)
    unfold Hid wsT
    rw [hs]
    unfold wsA
    rw [e2]
   have hii:i=n - 1:=by omega
   clear hs hnT
   go_wp2
   go_ret
   rw [HE.out]
   exact⟨a5,c5,rfl,(Ow.mono HO5.out HB.out.size),below_call HB.out HBU.out⟩
end
end Go.Proofs.YtffmodpgddecnaaGreat.V.E
