import Derived.Test.YtmhinfbkmjdgfaaGreatDoorZ06
set_option linter.unusedVariables false
set_option linter.unusedSimpArgs false
set_option maxRecDepth 100000
set_option maxHeartbeats 2000000
namespace Go.Proofs.YtmhinfbkmjdgfaaGreatDoor.D
open Go.RowKit
open Go.Proofs.YtmhinfbkmjdgfaaGreatDoor.H (az Cp)
variable {H:Hd}{s:bc}{w:World}
theorem FH (h:eO w H s)(o:Int)(ho:(Lit.int .i64 o).wf=true)(D:Nat×Int×Nat)(R:DI)(mk pc nb rb:Nat)
  (hd:∀U,Below w.heap.size w U->Calls Tryz.prog 349 #[.pointer (some ⟨mk,0,none⟩),.pointer (some ⟨pc,0,none⟩)] U (pe U H s D))
  (he:Q.may H.e H.a s.L o=0->D.2.1=0->R.code=0/\∀U,aj (·=H.g) w U->eO U H { s with t:=D.2.2 }->Calls Tryz.prog 351 #[j5 (cap o D.1),.pointer (some ⟨mk,0,none⟩),.pointer (some ⟨nb,0,none⟩),.pointer (some ⟨rb,0,none⟩)] U (gP U H { s with t:=D.2.2 } R)) :
  Calls Tryz.prog 337 #[gR H,.int .i64 o,.func (.func 349) #[] #[.pointer (some ⟨mk,0,none⟩),.pointer (some ⟨pc,0,none⟩)],.func (.func 351) #[] #[.pointer (some ⟨mk,0,none⟩),.pointer (some ⟨nb,0,none⟩),.pointer (some ⟨rb,0,none⟩)]] w
   (Made w H (if Q.may H.e H.a s.L o≠0 then no s (Q.may H.e H.a s.L o) else if D.2.1≠0 then no { s with t:=D.2.2 } D.2.1 else ⟨cap o D.1,0,⟨R.X,R.l,s.L++[o],D.2.2⟩⟩)):=by
 obtain⟨w0,hw0⟩:∃w0,w0=(w.alloc (Obj.cells #[.pointer (some ⟨H.g,0,none⟩),.pointer (some ⟨H.A.g,0,none⟩),.pointer (some ⟨H.qg,0,none⟩)] 421)).alloc (Obj.cells #[.int .i64 0,.int .u64 0,.int .u64 0] 37):=⟨_,rfl⟩
 have hB0:Below w.heap.size w w0:=by rw [hw0];exact aB _ _ _
 have hmk:Mk w0 w.heap.size H:=by rw [hw0];exact⟨by simp [go_sem],by simp [go_sem],by simp [go_sem]⟩
 have hz:Zc w0 (w.heap.size+1):=by rw [hw0];exact⟨⟨by simp [go_sem],by simp [go_sem]⟩,⟨by simp [go_sem],by simp [go_sem]⟩,⟨by simp [go_sem],by simp [go_sem]⟩⟩
 have hlt:=h.tA
 have hwr:∀k,H.Wr k->k<w.heap.size:=λk hk=>hlt k (Hd.du hk)
 have HM:Hid (∀U,aj H.Wr w0 U->U.cell? ⟨w.heap.size,2,none⟩=some (.pointer (some ⟨H.qg,0,none⟩))/\Zc U (w.heap.size+1)):=λU hU=>⟨(hmk.but hU (λe=>by have:=hwr _ e;omega)).c2,hz.but hU (λe=>by have:=hwr _ e;omega)⟩
 have y2:=hmk.c2
 have HZ:=ae hz
 have HO:=ae hlt
 have HW:=ae hwr
 have HT:=ae (h.later hB0)
 have OX:=ae hB0
 have Rq:=ae (Q.gL (h.later hB0).qu o ho)
 have HD:=ae hd
 clear h hB0 hmk hz hlt hwr hd;unfold gR;by_cases hm:Q.may H.e H.a s.L o=0
 ·rw [if_neg (by simp [hm])]
  rw [hm] at Rq;by_cases hD:D.2.1=0
  ·rw [if_neg (by simp [hD])]
   obtain⟨hR,hE⟩:=he hm hD
   have HE:=ae hE
   have Vg:=ae hR
   have Ro:Hid (∀(U:World) (X:List Tk) (l:Fo) (t:Nat),eO U H ⟨X,l,s.L,t⟩->Calls Tryz.prog 244 #[.pointer (some ⟨H.qg,0,none⟩),.int .i64 o] U λr w'=>r=.returned (.int .i64 0)/\Q.Qu w' H.qg H.qb H.e H.a (s.L++[o])/\aj (λk=>k=H.qb) U w'):=λU X l t hT=>by
    have:=Q.iI hT.qu o ho
    unfold Q.oz at this;simp only [hm,if_true] at this;exact this
   clear he hE hm hR;unfold pe at HD;rw [hD] at HD;clear hD;unfold gP at HE;rw [Vg.out] at HE;go_enter Tryz.func337,Tryz.ntmps337
   go_upto_region 1 with fail
   rw [<-hw0];clear hw0;go_upto_region 4 with (first
    | (go_at_call 336;refine (cD _ _).mono ?_;rintro e w9 ⟨rfl,hw9⟩;obtain rfl:=hw9.symm;clear hw9)
    | (go_at_call 315;refine Rq.out.mono ?_;rintro e w2 ⟨rfl,hb2⟩;have OH:=ae (aa OX.out hb2);have Pj:=ae hb2;have OO:=ae (HT.out.later hb2);clear hb2))
   go_upto_region 9 with (first
    | (go_at_call 336;refine (cD _ _).mono ?_;rintro e w9 ⟨rfl,hw9⟩;obtain rfl:=hw9.symm;clear hw9)
    | (go_at_call 349;refine (HD.out w2 OH.out).mono ?_;rintro e w3 ⟨rfl,ht3,hb3⟩;have O_:=ae ht3;have OJ:=ae ((aj.of (S:=H.Wr) Pj.out).trans (aj.Ig hb3));have Tf:=ae ((aj.of OH.out).trans hb3);clear ht3 hb3))
   obtain⟨w4,hw4⟩:∃w4,w4=(w3.alloc (Obj.cells #[.int .u64 (di D.1),.int .u64 (dj D.1)] 30)).alloc (Obj.cells #[.int .i64 o,.int .u64 (di D.1),.int .u64 (dj D.1)] 37):=⟨_,rfl⟩
   have hB4:Below w3.heap.size w3 w4:=by rw [hw4];exact aB _ _ _
   have hc4:Cw w4 (w3.heap.size+1) (cap o D.1):=by rw [hw4];exact⟨by simp [go_sem,cap],by simp [go_sem,cap,di],by simp [go_sem,cap,dj]⟩
   have hs3:w.heap.size<=w3.heap.size:=Nat.le_trans OX.out.size OJ.out.size
   have HY:Hid (∀U,aj H.Wr w4 U->Cw U (w3.heap.size+1) (cap o D.1)):=λU hU=>hc4.but hU (λe=>by have:=HW.out _ e;omega)
   have z0:w4.cell? ⟨w3.heap.size+1,0,none⟩=some (.int .i64 o):=hc4.c0
   have z1:w4.cell? ⟨w3.heap.size+1,1,none⟩=some (.int .u64 (di D.1)):=hc4.c1
   have z2:w4.cell? ⟨w3.heap.size+1,2,none⟩=some (.int .u64 (dj D.1)):=hc4.c2
   have Qn:=ae (O_.out.later hB4)
   have OM:=ae (OJ.out.call hB4)
   have VG:=ae (Tf.out.call hB4)
   have Vx:Hid (Calls Tryz.prog 351 #[.agg #[.int .i64 o,.int .u64 (di D.1),.int .u64 (dj D.1)],.pointer (some ⟨mk,0,none⟩),.pointer (some ⟨nb,0,none⟩),.pointer (some ⟨rb,0,none⟩)] w4 _):=HE.out w4 VG.out Qn.out
   clear hB4 hc4 hs3;rw [<-hw4];clear hw4;go_upto_region 14 with (first
    | (go_at_call 244;refine (Ro.out w5 R.X R.l D.2.2 RG.out).mono ?_;rintro e w6 ⟨rfl,hq6,hb6⟩;have Qd:=ae (RG.out.count hb6 hq6);have O7:=ae (OS.out.trans (aj.Ij hb6));have VQ:=ae (VN.out.trans (aj.Ij hb6));clear hq6 hb6;obtain⟨u0,u1,u2⟩:=HY.out w6 VQ.out;obtain⟨⟨v0,f0⟩,⟨v1,f1⟩,⟨v2,f2⟩⟩:=(HM.out w6 O7.out).2)
    | (go_at_call 336;refine (cD _ _).mono ?_;rintro e w9 ⟨rfl,hw9⟩;obtain rfl:=hw9.symm;clear hw9)
    | (go_at_call 351;refine Vx.out.mono ?_;rintro e w5 ⟨rfl,ht5,hb5⟩;have RG:=ae ht5;have OS:=ae (OM.out.trans (aj.Ie hb5));have VN:=ae (aj.Ie (H:=H) hb5);clear ht5 hb5;have y5:=(HM.out w5 OS.out).1))
   have u0':w6.cell? ⟨w3.heap.size+1,0,none⟩=some (.int .i64 o):=u0
   have u1':w6.cell? ⟨w3.heap.size+1,1,none⟩=some (.int .u64 (di D.1)):=u1
   have u2':w6.cell? ⟨w3.heap.size+1,2,none⟩=some (.int .u64 (dj D.1)):=u2
   clear u0 u1 u2;go_wp2;have HQ:=ae (bL v0 v1 v2 (.int .i64 o) (.int .u64 (di D.1)) (.int .u64 (dj D.1)))
   obtain⟨hf1,hf2⟩:=Made.put (w1:=w) (b:=w.heap.size+1) Qd.out ((aj.of OX.out).trans O7.out) HO.out (by omega) (cap o D.1)
   exact bodyPost_ret (v:=.tuple #[.agg #[.int .i64 o,.int .u64 (di D.1),.int .u64 (dj D.1)],.nilIface]) (by simp [results,Tryz.results337,go_sem,HQ.out.1,HQ.out.2.1,HQ.out.2.2]) rfl ⟨⟨default,rfl⟩,hf1,hf2⟩
  ·rw [if_pos hD]
   have S7:=ae hD
   unfold pe at HD;clear he hm hD;go_enter Tryz.func337,Tryz.ntmps337
   go_upto_region 1 with fail
   rw [<-hw0];clear hw0;go_upto_region 4 with (first
    | (go_at_call 336;refine (cD _ _).mono ?_;rintro e w9 ⟨rfl,hw9⟩;obtain rfl:=hw9.symm;clear hw9)
    | (go_at_call 315;refine Rq.out.mono ?_;rintro e w2 ⟨rfl,hb2⟩;have OH:=ae (aa OX.out hb2);have Pj:=ae hb2;have OO:=ae (HT.out.later hb2);clear hb2))
   go_upto_region 7 with (first
    | (go_at_call 336;refine (cv _ _ S7.out _).mono ?_;unfold dS;rintro e w9 ⟨rfl,hw9⟩;obtain rfl:=hw9.symm;clear hw9)
    | (go_at_call 349;refine (HD.out w2 OH.out).mono ?_;rintro e w3 ⟨rfl,ht3,hb3⟩;have O_:=ae ht3;have OJ:=ae ((aj.of (S:=H.Wr) Pj.out).trans (aj.Ig hb3));have hbw:=OJ.out.alloc (.cells #[.int .u64 (di D.1),.int .u64 (dj D.1)] 30);have Qn:=ae (ht3.later (ag _ (.cells #[.int .u64 (di D.1),.int .u64 (dj D.1)] 30)));have OM:=ae hbw;obtain⟨⟨v0,f0⟩,⟨v1,f1⟩,⟨v2,f2⟩⟩:=(HM.out _ hbw).2;clear ht3 hb3 hbw))
   go_wp2;have HQ:=ae (bL v0 v1 v2 (.int .i64 0) (.int .u64 0) (.int .u64 0))
   obtain⟨hf1,hf2⟩:=Made.put (w1:=w) (b:=w.heap.size+1) Qn.out ((aj.of OX.out).trans OM.out) HO.out (by omega) (0,0,0)
   exact bodyPost_ret (v:=.tuple #[.agg #[.int .i64 0,.int .u64 0,.int .u64 0],dS _ _]) (by simp [results,Tryz.results337,go_sem,HQ.out.1,HQ.out.2.1,HQ.out.2.2];rfl) rfl ⟨⟨_,by rw [show (no { s with t:=D.2.2 } D.2.1).code=D.2.1 from rfl,cP S7.out];rfl⟩,hf1,hf2⟩
 ·rw [if_pos hm]
  have RV:=ae hm
  clear he hm;go_enter Tryz.func337,Tryz.ntmps337
  go_upto_region 1 with fail
  rw [<-hw0];clear hw0;go_upto_region 3 with (first
    | (go_at_call 336;refine (cv _ _ RV.out _).mono ?_;unfold dS;rintro e w9 ⟨rfl,hw9⟩;obtain rfl:=hw9.symm;clear hw9)
    | (go_at_call 315;refine Rq.out.mono ?_;rintro e w2 ⟨rfl,hb2⟩;have OH:=ae (aa OX.out hb2);have Pj:=ae hb2;have OO:=ae (HT.out.later hb2);obtain⟨⟨v0,f0⟩,⟨v1,f1⟩,⟨v2,f2⟩⟩:=(HM.out w2 (aj.of hb2)).2;clear hb2))
  go_wp2;have HQ:=ae (bL v0 v1 v2 (.int .i64 0) (.int .u64 0) (.int .u64 0))
  obtain⟨hf1,hf2⟩:=Made.put (w1:=w) (b:=w.heap.size+1) OO.out (aj.of OH.out) HO.out (by omega) (0,0,0)
  exact bodyPost_ret (v:=.tuple #[.agg #[.int .i64 0,.int .u64 0,.int .u64 0],dS _ _]) (by simp [results,Tryz.results337,go_sem,HQ.out.1,HQ.out.2.1,HQ.out.2.2];rfl) rfl ⟨⟨_,by rw [show (no s (Q.may H.e H.a s.L o)).code=Q.may H.e H.a s.L o from rfl,cP RV.out];rfl⟩,hf1,hf2⟩
theorem vX (h:eO w H s)(hf:Fit H.toPar s)(o:Int)(ho:(Lit.int .i64 o).wf=true) :
  Calls Tryz.prog 291 #[gR H,.int .i64 o] w (Made w H (bH H.toPar s o)):=by
 obtain⟨w0,hw0⟩:∃w0,w0=(w.alloc (Obj.cells #[.pointer (some ⟨H.g,0,none⟩),.pointer (some ⟨H.A.g,0,none⟩),.pointer (some ⟨H.qg,0,none⟩)] 421)).alloc (Obj.cells #[.int .i64 0,.int .u64 0,.int .u64 0] 37):=⟨_,rfl⟩
 have hB0:Below w.heap.size w w0:=by rw [hw0];exact aB _ _ _
 have hmk:Mk w0 w.heap.size H:=by rw [hw0];exact⟨by simp [go_sem],by simp [go_sem],by simp [go_sem]⟩
 have hz:Zc w0 (w.heap.size+1):=by rw [hw0];exact⟨⟨by simp [go_sem],by simp [go_sem]⟩,⟨by simp [go_sem],by simp [go_sem]⟩,⟨by simp [go_sem],by simp [go_sem]⟩⟩
 have hlt:=h.tA
 have hwr:∀k,H.Wr k->k<w.heap.size:=λk hk=>hlt k (Hd.du hk)
 have HM:Hid (∀U,aj H.Wr w0 U->Mk U w.heap.size H/\Zc U (w.heap.size+1)):=λU hU=>⟨hmk.but hU (λe=>by have:=hwr _ e;omega),hz.but hU (λe=>by have:=hwr _ e;omega)⟩
 have y1:=hmk.c1
 have HO:=ae hlt
 have HT:=ae (h.later hB0)
 have OX:=ae hB0
 have HI:=ae (C0 (h.later hB0).cat.cm o)
 unfold bH gR;by_cases hn:0<mY s.X s.l o
 ·rw [if_pos hn]
  obtain⟨m,hm⟩:∃m:Nat,m=mY s.X s.l o:=⟨_,rfl⟩
  rw [<-hm] at HI hn;have hd:decide ((m:Int)>0)=true:=decide_eq_true (by omega)
  have hp:0<(m:Int):=by omega
  clear h hB0 hmk hz hlt hwr hf hm;go_enter Tryz.func291,Tryz.ntmps291
  go_upto_region 1 with fail
  rw [<-hw0];clear hw0;go_upto_region 2 with (first
   | (go_at_call 247;refine HI.out.mono ?_;rintro e w2 ⟨rfl,hb2⟩;have OH:=ae (aa OX.out hb2);have OO:=ae (HT.out.later hb2);obtain⟨⟨v0,f0⟩,⟨v1,f1⟩,⟨v2,f2⟩⟩:=(HM.out w2 (aj.of hb2)).2;clear hb2))
  go_wp2_with (first
   | (go_at_call 336;refine (cv _ _ (by decide) _).mono ?_;unfold dS;rintro e w9 ⟨rfl,hw9⟩;obtain rfl:=hw9.symm;clear hw9))
  have HQ:=ae (bL v0 v1 v2 (.int .i64 0) (.int .u64 0) (.int .u64 0))
  obtain⟨hf1,hf2⟩:=Made.put (w1:=w) (b:=w.heap.size+1) OO.out (aj.of OH.out) HO.out (by omega) (0,0,0)
  exact bodyPost_ret (v:=.tuple #[.agg #[.int .i64 0,.int .u64 0,.int .u64 0],dS _ _]) (by simp [results,Tryz.results291,go_sem,HQ.out.1,HQ.out.2.1,HQ.out.2.2];rfl) rfl ⟨⟨_,by rw [show (no s 19).code=19 from rfl,cP (by decide)];rfl⟩,hf1,hf2⟩
 ·rw [if_neg hn]
  obtain⟨R,hR⟩:∃R,R=eV H.toPar s o (cR H.toPar s.t) (-1) 31:=⟨_,rfl⟩
  have Rk:Hid (∀U,Below w.heap.size w U->Mk U w.heap.size H->Calls Tryz.prog 337 #[gR H,.int .i64 o,.func (.func 338) #[.pointer (some ⟨H.g,0,none⟩)] #[],.func (.func 339) #[] #[.pointer (some ⟨w.heap.size,0,none⟩)]] U (Made U H R)):=λU hU hmU=>by
   rw [hR];refine E7 (h.later hU) o ho (cR H.toPar s.t) ⟨(low s.l:Int),0,s.X.set (low s.l) (cap o (cR H.toPar s.t).1,31),s.l++[((low s.l:Int),-1)]⟩ w.heap.size (λV hV=>zD ((h.later hU).later hV)) (λhm hD=>⟨rfl,λV hV hT=>?_⟩)
   have:=BU hT (hmU.but hV (λe=>by have:=hwr _ (.inl e);omega)) (cap o (cR H.toPar s.t).1) (iH (fQ hf s.t))
   rwa [show j1 H.mo s.X s.l (cap o (cR H.toPar s.t).1) 31=_ from yX hf hm hn] at this
  rw [<-hR];unfold gR at Rk;obtain⟨m,hm⟩:∃m:Nat,m=mY s.X s.l o:=⟨_,rfl⟩
  rw [<-hm] at HI hn;have hd:decide ((m:Int)>0)=false:=decide_eq_false (by omega)
  have hp:¬0<(m:Int):=by omega
  clear h hB0 hmk hz hlt hwr hf hm hR;go_enter Tryz.func291,Tryz.ntmps291
  go_upto_region 1 with fail
  rw [<-hw0];clear hw0;go_upto_region 3 with (first
   | (go_at_call 247;refine HI.out.mono ?_;rintro e w2 ⟨rfl,hb2⟩;have OH:=ae (aa OX.out hb2);have Pj:=ae hb2;obtain⟨x0,x1,x2⟩:=(HM.out w2 (aj.of hb2)).1;clear hb2))
  go_wp2_with (first
   | (go_at_call 337;refine (Rk.out w2 OH.out (HM.out w2 (aj.of Pj.out)).1).mono ?_;rintro e w3 ⟨⟨st,rfl⟩,ht3,hb3⟩;have O_:=ae ht3;have OJ:=ae ((aj.of (S:=H.Wr) Pj.out).trans hb3);obtain⟨⟨v0,f0⟩,⟨v1,f1⟩,⟨v2,f2⟩⟩:=(HM.out w3 OJ.out).2;clear ht3 hb3))
  have HQ:=ae (bL v0 v1 v2 (.int .i64 R.c.1) (.int .u64 (R.c.2.1:Int)) (.int .u64 (R.c.2.2:Int)))
  obtain⟨hf1,hf2⟩:=Made.put (w1:=w) (b:=w.heap.size+1) O_.out ((aj.of OX.out).trans OJ.out) HO.out (by omega) R.c
  exact bodyPost_ret (v:=.tuple #[.agg #[.int .i64 R.c.1,.int .u64 (R.c.2.1:Int),.int .u64 (R.c.2.2:Int)],mV st R.code]) (by simp [results,Tryz.results291,go_sem,HQ.out.1,HQ.out.2.1,HQ.out.2.2]) rfl ⟨⟨st,rfl⟩,hf1,hf2⟩
def dJ (s:bc)(c:Cp)(r:Int):Int×Int:=if bn s.X s.l c=false then (0,3) else if aS 4 (eX s c)=false\/aS r (eX s c)=false then (0,4) else (aX s.X s.l c,0)
theorem uY (P:Par)(s:bc)(c:Cp)(r:Int):bV P s c r=if (dJ s c r).2≠0 then no s (dJ s c r).2 else eV P s c.1 (cn P s c.1) (aX s.X s.l c) r:=by
 unfold bV dJ;by_cases h1:bn s.X s.l c=false
 ·simp only [if_pos h1];rfl
 ·simp only [if_neg h1]
  by_cases h2:aS 4 (eX s c)=false\/aS r (eX s c)=false
  ·simp only [if_pos h2];rfl
  ·simp only [if_neg h2];rfl
theorem Bt {c:Cp}{r:Int}(h:(dJ s c r).2=0):bn s.X s.l c=true/\aS r (eX s c)=true/\(dJ s c r).1=aX s.X s.l c:=by
 unfold dJ at h ⊢
 by_cases h1:bn s.X s.l c=false
 ·simp [if_pos h1] at h
 ·simp only [if_neg h1] at h ⊢
  by_cases h2:aS 4 (eX s c)=false\/aS r (eX s c)=false
  ·simp [if_pos h2] at h
  ·simp only [if_neg h2]
   refine⟨by simpa using h1,?_,trivial⟩
   cases hq:aS r (eX s c) with
   | true=>rfl
   | false=>exact absurd (.inr hq) h2
theorem cI (a b:Int)(w:World):Calls Tryz.prog 343 #[.int .i64 a,.int .i64 b] w λe w'=>e=.returned (.bool (aS b a))/\w'=w:=by
 have hp:=ae (gA b a)
 go_enter Tryz.func343,Tryz.ntmps343
 go_wp2_with (first|(go_at_call 316;refine (hp.out _).mono ?_;rintro e w9 ⟨rfl,hw9⟩;obtain rfl:=hw9.symm;clear hw9))
 go_ret;exact⟨rfl,rfl⟩
theorem lI (h:eO w H s)(c:Cp)(r:Int)(hw:c.2.1<az/\c.2.2<az) :
  Calls Tryz.prog 348 #[gR H,j5 c,.int .i64 r] w λe w'=>(∃st,e=.returned (.tuple #[.int .i64 (dJ s c r).1,mV st (dJ s c r).2]))/\Below w.heap.size w w':=by
 obtain⟨o,hi,lo⟩:=c
 obtain⟨w0,hw0⟩:∃w0,w0=(w.alloc (Obj.cells #[.pointer (some ⟨H.g,0,none⟩),.pointer (some ⟨H.A.g,0,none⟩),.pointer (some ⟨H.qg,0,none⟩)] 421)).alloc (Obj.cells #[.int .i64 o,.int .u64 (hi:Int),.int .u64 (lo:Int)] 37):=⟨_,rfl⟩
 have hB0:Below w.heap.size w w0:=by rw [hw0];exact aB _ _ _
 have hmk:Mk w0 w.heap.size H:=by rw [hw0];exact⟨by simp [go_sem],by simp [go_sem],by simp [go_sem]⟩
 have x0:w0.cell? ⟨w.heap.size+1,0,none⟩=some (.int .i64 o):=by rw [hw0];simp [go_sem]
 have x1:w0.cell? ⟨w.heap.size+1,1,none⟩=some (.int .u64 (hi:Int)):=by rw [hw0];simp [go_sem]
 have x2:w0.cell? ⟨w.heap.size+1,2,none⟩=some (.int .u64 (lo:Int)):=by rw [hw0];simp [go_sem]
 have y1:=hmk.c1
 have HM:=ae hmk
 have HT:=ae (h.later hB0)
 have OX:=ae hB0
 have HF:=ae (jG (h.later hB0).cat (o,hi,lo) hw)
 unfold gR dJ;by_cases hc:bn s.X s.l (o,hi,lo)=false
 ·rw [hc] at HF
  simp only [if_pos hc];obtain⟨m,hm⟩:∃m,m=aX s.X s.l (o,hi,lo):=⟨_,rfl⟩
  rw [<-hm] at HF;clear h hB0 hmk hc hm;go_enter Tryz.func348,Tryz.ntmps348
  go_upto_region 1 with fail
  rw [<-hw0];clear hw0;go_wp2_with (first
   | (go_at_call 336;refine (cv _ _ (by decide) _).mono ?_;unfold dS;rintro e w9 ⟨rfl,hw9⟩;obtain rfl:=hw9.symm;clear hw9)
   | (go_at_call 342;refine HF.out.mono ?_;rintro e w2 ⟨rfl,hb2⟩;have OH:=ae (aa OX.out hb2);clear hb2))
  exact bodyPost_ret (v:=.tuple #[.int .i64 0,dS _ _]) (by simp [results,Tryz.results348,go_sem];rfl) rfl ⟨⟨_,by rw [cP (by decide)]⟩,OH.out⟩
 ·have hc':bn s.X s.l (o,hi,lo)=true:=by simpa using hc
  rw [hc'] at HF;simp only [if_neg hc];obtain⟨hfn,hft⟩:=found h.cat.inv hc'
  obtain⟨p,hp⟩:=aL.1 hfn
  have HA:=ae (λ(U:World) (hU:Below w.heap.size w U)=>AH (h.later hU).cat.cm (aX s.X s.l (o,hi,lo)) p hp)
  rw [hft] at HA;obtain⟨q,hq⟩:∃q,q=eX s (o,hi,lo):=⟨_,rfl⟩
  rw [<-hq];unfold eX at hq;rw [<-hq] at HA;obtain⟨m,hm⟩:∃m,m=aX s.X s.l (o,hi,lo):=⟨_,rfl⟩
  rw [<-hm] at HF HA;rw [<-hm];have HP:=ae (gA r q)
  have TH:=ae (cI q 4)
  have hcell:Hid (∀(U:World),(U.alloc (Obj.cells #[.int .i64 o,.int .u64 (hi:Int),.int .u64 (lo:Int),.int .i64 q,.int .i64 p] 138)).cell? ⟨U.heap.size,3,none⟩=some (.int .i64 q)):=λU=>by simp [go_sem]
  unfold wP at HA;clear h hB0 hmk hc hc' hm hq hft hfn hp;cases hp4:aS 4 q with
  | false =>
   rw [hp4] at TH;simp only [true_or,if_true];clear hp4;go_enter Tryz.func348,Tryz.ntmps348
   go_upto_region 1 with fail
   rw [<-hw0];clear hw0;go_upto_region 4 with (first
    | (go_at_call 342;refine HF.out.mono ?_;rintro e w2 ⟨rfl,hb2⟩;have OH:=ae (aa OX.out hb2);have z1:=(HM.out.later hb2).c1;clear hb2))
   go_wp2_with (first
    | (go_at_call 336;refine (cv _ _ (by decide) _).mono ?_;unfold dS;rintro e w9 ⟨rfl,hw9⟩;obtain rfl:=hw9.symm;clear hw9)
    | (go_at_call 343;refine (TH.out _).mono ?_;rintro e w9 ⟨rfl,hw9⟩;obtain rfl:=hw9.symm;clear hw9)
    | (go_at_call 241;refine (HA.out w2 OH.out).mono ?_;rintro e w3 ⟨rfl,hb3⟩;have OJ:=ae (aa OH.out hb3);clear hb3))
   exact bodyPost_ret (v:=.tuple #[.int .i64 0,dS _ _]) (by simp [results,Tryz.results348,go_sem];rfl) rfl ⟨⟨_,by rw [cP (by decide)]⟩,OJ.out.alloc OJ.out.size _⟩
  | true =>
   rw [hp4] at TH;clear hp4;cases hpr:aS r q with
   | false =>
    rw [hpr] at HP;simp only [or_true,if_true];clear hpr;go_enter Tryz.func348,Tryz.ntmps348
    go_upto_region 1 with fail
    rw [<-hw0];clear hw0;go_upto_region 4 with (first
     | (go_at_call 342;refine HF.out.mono ?_;rintro e w2 ⟨rfl,hb2⟩;have OH:=ae (aa OX.out hb2);have z1:=(HM.out.later hb2).c1;clear hb2))
    go_wp2_with (first
     | (go_at_call 336;refine (cv _ _ (by decide) _).mono ?_;unfold dS;rintro e w9 ⟨rfl,hw9⟩;obtain rfl:=hw9.symm;clear hw9)
     | (go_at_call 316;refine (HP.out _).mono ?_;rintro e w9 ⟨rfl,hw9⟩;obtain rfl:=hw9.symm;clear hw9)
     | (go_at_call 343;refine (TH.out _).mono ?_;rintro e w9 ⟨rfl,hw9⟩;obtain rfl:=hw9.symm;clear hw9)
     | (go_at_call 241;refine (HA.out w2 OH.out).mono ?_;rintro e w3 ⟨rfl,hb3⟩;have OJ:=ae (aa OH.out hb3);clear hb3))
    exact bodyPost_ret (v:=.tuple #[.int .i64 0,dS _ _]) (by simp [results,Tryz.results348,go_sem];rfl) rfl ⟨⟨_,by rw [cP (by decide)]⟩,OJ.out.alloc OJ.out.size _⟩
   | true =>
    rw [hpr] at HP;simp only [Bool.true_eq_false,or_false,if_false];clear hpr;go_enter Tryz.func348,Tryz.ntmps348
    go_upto_region 1 with fail
    rw [<-hw0];clear hw0;go_upto_region 4 with (first
     | (go_at_call 342;refine HF.out.mono ?_;rintro e w2 ⟨rfl,hb2⟩;have OH:=ae (aa OX.out hb2);have z1:=(HM.out.later hb2).c1;clear hb2))
    go_wp2_with (first
     | (go_at_call 316;refine (HP.out _).mono ?_;rintro e w9 ⟨rfl,hw9⟩;obtain rfl:=hw9.symm;clear hw9)
     | (go_at_call 343;refine (TH.out _).mono ?_;rintro e w9 ⟨rfl,hw9⟩;obtain rfl:=hw9.symm;clear hw9)
     | (go_at_call 241;refine (HA.out w2 OH.out).mono ?_;rintro e w3 ⟨rfl,hb3⟩;have OJ:=ae (aa OH.out hb3);clear hb3))
    exact bodyPost_ret (v:=.tuple #[.int .i64 m,.nilIface]) (by simp [results,Tryz.results348,go_sem]) rfl ⟨⟨default,rfl⟩,OJ.out.alloc OJ.out.size _⟩
theorem sv (h:eO w H s)(hf:Fit H.toPar s)(c:Cp)(r:Int)(ho:(Lit.int .i64 c.1).wf=true)(hw:c.2.1<az/\c.2.2<az) :
  Calls Tryz.prog 298 #[gR H,j5 c,.int .i64 r] w (Made w H (bV H.toPar s c r)):=by
 obtain⟨o,hi,lo⟩:=c
 obtain⟨w0,hw0⟩:∃w0,w0=(((w.alloc (Obj.cells #[.pointer (some ⟨H.g,0,none⟩),.pointer (some ⟨H.A.g,0,none⟩),.pointer (some ⟨H.qg,0,none⟩)] 421)).alloc (Obj.cells #[.int .i64 o,.int .u64 (hi:Int),.int .u64 (lo:Int)] 37)).alloc (Obj.cells #[.int .i64 r] 3)).alloc (Obj.cells #[.int .i64 0,.int .u64 0,.int .u64 0] 37):=⟨_,rfl⟩
 have hB0:Below w.heap.size w w0:=by rw [hw0];exact ((aB _ _ _).alloc (by simp;omega) _).alloc (by simp;omega) _
 have hmk:Mk w0 w.heap.size H:=by rw [hw0];exact⟨by simp [go_sem],by simp [go_sem],by simp [go_sem]⟩
 have hcw:Cw w0 (w.heap.size+1) (o,hi,lo):=by rw [hw0];exact⟨by simp [go_sem],by simp [go_sem],by simp [go_sem]⟩
 have hrr:w0.cell? ⟨w.heap.size+1+1,0,none⟩=some (.int .i64 r):=by rw [hw0];simp [go_sem]
 have hz:Zc w0 (w.heap.size+1+1+1):=by rw [hw0];exact⟨⟨by simp [go_sem],by simp [go_sem]⟩,⟨by simp [go_sem],by simp [go_sem]⟩,⟨by simp [go_sem],by simp [go_sem]⟩⟩
 have hs0:w0.heap.size=w.heap.size+1+1+1+1:=by rw [hw0];simp
 have hlt:=h.tA
 have hwr:∀k,H.Wr k->k<w.heap.size:=λk hk=>hlt k (Hd.du hk)
 have HM:Hid (∀U,aj H.Wr w0 U->Mk U w.heap.size H/\Cw U (w.heap.size+1) (o,hi,lo)/\U.cell? ⟨w.heap.size+1+1,0,none⟩=some (.int .i64 r)/\Zc U (w.heap.size+1+1+1)):=λU hU=>⟨hmk.but hU (λe=>by have:=hwr _ e;omega),hcw.but hU (λe=>by have:=hwr _ e;omega),an hU hrr (λe=>by have:=hwr _ e;simp at this;omega),hz.but hU (λe=>by have:=hwr _ e;omega)⟩
 obtain⟨x0,x1,x2⟩:=hmk
 obtain⟨y0,y1,y2⟩:=hcw
 have HO:=ae hlt
 have HT:=ae (h.later hB0)
 have OX:=ae hB0
 have Py:=ae hs0
 rw [uY];by_cases hn:(dJ s (o,hi,lo) r).2=0
 ·rw [if_neg (by simp [hn])]
  obtain⟨k1,k2,k3⟩:=Bt hn
  obtain⟨g1,g2⟩:=found h.cat.inv k1
  have P3:=ae (lI (h.later hB0) (o,hi,lo) r hw)
  rw [hn,k3] at P3;obtain⟨m,hm⟩:∃m,m=aX s.X s.l (o,hi,lo):=⟨_,rfl⟩
  rw [<-hm] at P3;rw [<-hm];obtain⟨R,hR⟩:∃R,R=eV H.toPar s o (cn H.toPar s o) m r:=⟨_,rfl⟩
  have Rk:Hid (∀(U:World) (nb:Nat),Below w.heap.size w U->Mk U w.heap.size H->U.cell? ⟨w.heap.size+1,0,none⟩=some (.int .i64 o)->U.cell? ⟨w.heap.size+1+1,0,none⟩=some (.int .i64 r)->U.cell? ⟨nb,0,none⟩=some (.int .i64 m)->w.heap.size<=nb->Calls Tryz.prog 337 #[gR H,.int .i64 o,.func (.func 349) #[] #[.pointer (some ⟨w.heap.size,0,none⟩),.pointer (some ⟨w.heap.size+1,0,none⟩)],.func (.func 351) #[] #[.pointer (some ⟨w.heap.size,0,none⟩),.pointer (some ⟨nb,0,none⟩),.pointer (some ⟨w.heap.size+1+1,0,none⟩)]] U (Made U H R)):=λU nb hU hmU hcU hrU hnU hnb=>by
   rw [hR];refine FH (h.later hU) o ho (cn H.toPar s o) ⟨(low s.l:Int),0,s.X.set (low s.l) (cap o (cn H.toPar s o).1,r),s.l++[((low s.l:Int),m)]⟩ w.heap.size (w.heap.size+1) nb (w.heap.size+1+1) (λV hV=>ES ((h.later hU).later hV) hf.cs (hmU.later hV) o (cell_later hV hcU)) (λhm2 hD=>⟨rfl,λV hV hT=>?_⟩)
   have hg:∀k,w.heap.size<=k->¬k=H.g:=λk hk e=>by have:=hwr k (.inl e);omega
   have:=C_ hT (hmU.but hV (hg _ (Nat.le_refl _))) m r (an hV hnU (hg _ hnb)) (an hV hrU (hg _ (by simp;omega))) (cap o (cn H.toPar s o).1) (iH (gx hf.cs))
   rwa [show gw H.mo s.X s.l m (cap o (cn H.toPar s o).1) r=_ from wT hf hm2 (l_ hf hD) (by rw [hm];exact g1) (by rw [hm];unfold ob;rw [g2]) (by rw [hm];exact k2)] at this
  rw [<-hR];unfold gR at Rk P3 ⊢
  have hnil:∀st,mV st 0=.nilIface:=λst=>rfl
  simp only [hnil] at P3;clear h hB0 hlt hwr hf hm hR hz hrr hs0 hn k1 k2 k3 g1 g2 hnil;go_enter Tryz.func298,Tryz.ntmps298
  go_upto_region 1 with fail
  rw [<-hw0];clear hw0;have hrr:=(HM.out w0 (aj.refl _ _)).2.2.1
  go_upto_region 2 with (first
   | (go_at_call 348;refine P3.out.mono ?_;rintro e w2 ⟨⟨jk,rfl⟩,hb2⟩;have OH:=ae (aa OX.out hb2);have Pj:=ae hb2;clear hb2))
  obtain⟨w3,hw3⟩:∃w3,w3=w2.alloc (Obj.cells #[.int .i64 m] 3):=⟨_,rfl⟩
  have hB3:Below w2.heap.size w2 w3:=by rw [hw3];exact ag _ _
  have hn3:w3.cell? ⟨w2.heap.size,0,none⟩=some (.int .i64 m):=by rw [hw3];simp [go_sem]
  have RB:=ae (aj.of (S:=H.Wr) (aa Pj.out hB3))
  have QW:=ae (aa OH.out hB3)
  have SZ:=ae hn3
  have Tf:=ae OH.out.size
  obtain⟨⟨p0,p1,p2⟩,⟨q0,q1,q2⟩,q3,_⟩:=HM.out w3 RB.out
  rw [<-hw3];clear hw3 hB3 hn3;go_upto_region 5 with fail
  go_wp2_with (first
   | (go_at_call 337;refine (Rk.out w3 w2.heap.size QW.out (HM.out w3 RB.out).1 q0 q3 SZ.out Tf.out).mono ?_;rintro e w4 ⟨⟨st,rfl⟩,ht4,hb4⟩;have Qn:=ae ht4;have OM:=ae (RB.out.trans hb4);obtain⟨⟨v0,f0⟩,⟨v1,f1⟩,⟨v2,f2⟩⟩:=(HM.out w4 OM.out).2.2.2;clear ht4 hb4))
  have HQ:=ae (bL v0 v1 v2 (.int .i64 R.c.1) (.int .u64 (R.c.2.1:Int)) (.int .u64 (R.c.2.2:Int)))
  obtain⟨hf1,hf2⟩:=Made.put (w1:=w) (b:=w.heap.size+1+1+1) Qn.out ((aj.of OX.out).trans OM.out) HO.out (by omega) R.c
  exact bodyPost_ret (v:=.tuple #[.agg #[.int .i64 R.c.1,.int .u64 (R.c.2.1:Int),.int .u64 (R.c.2.2:Int)],mV st R.code]) (by simp [results,Tryz.results298,go_sem,HQ.out.1,HQ.out.2.1,HQ.out.2.2]) rfl ⟨⟨st,rfl⟩,hf1,hf2⟩
 ·rw [if_pos hn]
  have P3:=ae (lI (h.later hB0) (o,hi,lo) r hw)
  obtain⟨m,hm⟩:∃m,m=(dJ s (o,hi,lo) r).2:=⟨_,rfl⟩
  obtain⟨m1,hm1⟩:∃m,m=(dJ s (o,hi,lo) r).1:=⟨_,rfl⟩
  rw [<-hm] at P3 hn;rw [<-hm1] at P3;rw [<-hm];have RV:=ae hn
  simp only [cP hn] at P3;unfold dS at P3;unfold gR at P3 ⊢
  clear h hB0 hlt hwr hf hm hm1 hz hrr hs0 hn;go_enter Tryz.func298,Tryz.ntmps298
  go_upto_region 1 with fail
  rw [<-hw0];clear hw0;have hrr:=(HM.out w0 (aj.refl _ _)).2.2.1
  go_upto_region 2 with (first
   | (go_at_call 348;refine P3.out.mono ?_;rintro e w2 ⟨⟨jk,rfl⟩,hb2⟩;have OH:=ae (aa OX.out hb2);have Pj:=ae hb2;clear hb2))
  obtain⟨w3,hw3⟩:∃w3,w3=w2.alloc (Obj.cells #[.int .i64 m1] 3):=⟨_,rfl⟩
  have hB3:Below w2.heap.size w2 w3:=by rw [hw3];exact ag _ _
  have RB:=ae (aj.of (S:=H.Wr) (aa Pj.out hB3))
  have O_:=ae (HT.out.later (aa Pj.out hB3))
  obtain⟨⟨v0,f0⟩,⟨v1,f1⟩,⟨v2,f2⟩⟩:=(HM.out w3 RB.out).2.2.2
  rw [<-hw3];clear hw3 hB3;go_wp2;have HQ:=ae (bL v0 v1 v2 (.int .i64 0) (.int .u64 0) (.int .u64 0))
  obtain⟨hf1,hf2⟩:=Made.put (w1:=w) (b:=w.heap.size+1+1+1) O_.out ((aj.of OX.out).trans RB.out) HO.out (by omega) (0,0,0)
  exact bodyPost_ret (v:=.tuple #[.agg #[.int .i64 0,.int .u64 0,.int .u64 0],dS jk m]) (by simp [results,Tryz.results298,go_sem,HQ.out.1,HQ.out.2.1,HQ.out.2.2];rfl) rfl ⟨⟨jk,by rw [show (no s m).code=m from rfl,cP RV.out];rfl⟩,hf1,hf2⟩
def Hf (w:World)(H:Hd)(R:sK)(e:Ending)(w':World):Prop :=
 e=.returned (.tuple #[j5 R.c,.int .i64 R.code])/\eO w' H R.s/\aj H.Wr w w'
theorem ma (h:eO w H s)(hf:Fit H.toPar s)(o:Int)(ho:(Lit.int .i64 o).wf=true) :
  Calls Tryz.prog 223 #[.pointer (some ⟨H.g,0,none⟩),.pointer (some ⟨H.A.g,0,none⟩),.pointer (some ⟨H.qg,0,none⟩),.int .i64 o] w (Hf w H (bH H.toPar s o)):=by
 have hB0:=ag w (Obj.cells #[.int .i64 0,.int .u64 0,.int .u64 0] 37)
 have hz:=Zc.Gf w
 have hlt:=h.tA
 have hwr:∀k,H.Wr k->k<w.heap.size:=λk hk=>hlt k (Hd.du hk)
 have HZ:Hid (∀U,aj H.Wr (w.alloc (Obj.cells #[.int .i64 0,.int .u64 0,.int .u64 0] 37)) U->Zc U w.heap.size):=λU hU=>hz.but hU (λe=>by have:=hwr _ e;omega)
 have HO:=ae hlt
 have OX:=ae hB0
 have HK:=ae (vX (h.later hB0) hf o ho)
 unfold gR at HK;generalize bH H.toPar s o=R at *
 clear h hB0 hz hlt hwr hf;go_enter Tryz.func223,Tryz.ntmps223
 go_upto_region 2 with (first
  | (go_at_call 291;refine HK.out.mono ?_;rintro e w2 ⟨⟨st,rfl⟩,ht2,hb2⟩;have OO:=ae ht2;have OH:=ae hb2;clear ht2 hb2))
 obtain⟨v,hv⟩:∃v,v=w2.alloc (Obj.cells #[.int .i64 R.c.1,.int .u64 (R.c.2.1:Int),.int .u64 (R.c.2.2:Int)] 37):=⟨_,rfl⟩
 have hBv:Below w2.heap.size w2 v:=by rw [hv];exact ag _ _
 have hcw:Cw v w2.heap.size R.c:=by rw [hv];exact⟨by simp [go_sem],by simp [go_sem],by simp [go_sem]⟩
 have hs2:w.heap.size<w2.heap.size:=by have:=OH.out.size;simp at this;omega
 have Se:=ae (OO.out.later hBv)
 have OT:=ae (OH.out.call hBv)
 have HN:=ae (λ(U:World) (hU:Below v.heap.size v U)=>kV st R.code U (Se.out.laid.later hU))
 have HL:Hid (∀U,Below v.heap.size v U->Zc U w.heap.size):=λU hU=>HZ.out U (OT.out.call hU)
 have HS:Hid (∀U,aj (·=w.heap.size) v U->(U.cell? ⟨w2.heap.size,0,none⟩=some (.int .i64 R.c.1)/\U.cell? ⟨w2.heap.size,1,none⟩=some (.int .u64 (R.c.2.1:Int))/\U.cell? ⟨w2.heap.size,2,none⟩=some (.int .u64 (R.c.2.2:Int)))/\aj (·=w.heap.size) v U):=λU hU=>by
  obtain⟨q0,q1,q2⟩:=hcw.but hU (λe=>by omega)
  exact⟨⟨q0,q1,q2⟩,hU⟩
 rw [<-hv];clear hv hBv hcw hs2;go_region_held3 (λU=>(U.cell? ⟨w2.heap.size,0,none⟩=some (.int .i64 R.c.1)/\U.cell? ⟨w2.heap.size,1,none⟩=some (.int .u64 (R.c.2.1:Int))/\U.cell? ⟨w2.heap.size,2,none⟩=some (.int .u64 (R.c.2.2:Int)))/\aj (·=w.heap.size) v U) (first|exact HS.out _ (aj.of (Below.refl _ _).drew)|exact HS.out _ ((And.right (by assumption):aj (·=w.heap.size) v v.drew).call hb9)|exact HS.out _ ((((And.right (by assumption):aj (·=w.heap.size) v w9).own _ _).own _ _).own _ _)) (first|(go_at_call 292;refine (HN.out _ (Below.refl _ _).drew).mono ?_;rintro e w9 ⟨rfl,hb9⟩;have OU:=ae (aa (Below.refl v.heap.size v).drew hb9);obtain⟨⟨v0,f0⟩,⟨v1,f1⟩,⟨v2,f2⟩⟩:=HL.out w9 OU.out))
 go_wp2;have HQ:=ae (bL v0 v1 v2 (.int .i64 R.c.1) (.int .u64 (R.c.2.1:Int)) (.int .u64 (R.c.2.2:Int)))
 obtain⟨hf1,hf2⟩:=Made.put (w1:=w) (b:=w.heap.size) (Se.out.later OU.out) (((aj.of OX.out).trans OT.out).call OU.out) HO.out (Nat.le_refl _) R.c
 exact bodyPost_ret (v:=.tuple #[.agg #[.int .i64 R.c.1,.int .u64 (R.c.2.1:Int),.int .u64 (R.c.2.2:Int)],.int .i64 R.code]) (by simp [results,Tryz.results223,go_sem,HQ.out.1,HQ.out.2.1,HQ.out.2.2]) rfl ⟨rfl,hf1,hf2⟩
theorem rX (h:eO w H s)(hf:Fit H.toPar s)(c:Cp)(r:Int)(ho:(Lit.int .i64 c.1).wf=true)(hw:c.2.1<az/\c.2.2<az) :
  Calls Tryz.prog 227 #[.pointer (some ⟨H.g,0,none⟩),.pointer (some ⟨H.A.g,0,none⟩),.pointer (some ⟨H.qg,0,none⟩),j5 c,.int .i64 r] w (Hf w H (bV H.toPar s c r)):=by
 obtain⟨o,hi,lo⟩:=c
 obtain⟨w0,hw0⟩:∃w0,w0=(w.alloc (Obj.cells #[.int .i64 o,.int .u64 (hi:Int),.int .u64 (lo:Int)] 37)).alloc (Obj.cells #[.int .i64 0,.int .u64 0,.int .u64 0] 37):=⟨_,rfl⟩
 have hB0:Below w.heap.size w w0:=by rw [hw0];exact aB _ _ _
 have x0:w0.cell? ⟨w.heap.size,0,none⟩=some (.int .i64 o):=by rw [hw0];simp [go_sem]
 have x1:w0.cell? ⟨w.heap.size,1,none⟩=some (.int .u64 (hi:Int)):=by rw [hw0];simp [go_sem]
 have x2:w0.cell? ⟨w.heap.size,2,none⟩=some (.int .u64 (lo:Int)):=by rw [hw0];simp [go_sem]
 have hz:Zc w0 (w.heap.size+1):=by rw [hw0];exact⟨⟨by simp [go_sem],by simp [go_sem]⟩,⟨by simp [go_sem],by simp [go_sem]⟩,⟨by simp [go_sem],by simp [go_sem]⟩⟩
 have hs0:w0.heap.size=w.heap.size+1+1:=by rw [hw0];simp
 have hlt:=h.tA
 have hwr:∀k,H.Wr k->k<w.heap.size:=λk hk=>hlt k (Hd.du hk)
 have HZ:Hid (∀U,aj H.Wr w0 U->Zc U (w.heap.size+1)):=λU hU=>hz.but hU (λe=>by have:=hwr _ e;omega)
 have HO:=ae hlt
 have OX:=ae hB0
 have Py:=ae hs0
 have HK:=ae (sv (h.later hB0) hf (o,hi,lo) r ho hw)
 unfold gR at HK;generalize bV H.toPar s (o,hi,lo) r=R at *
 clear h hB0 hz hlt hwr hf hs0;go_enter Tryz.func227,Tryz.ntmps227
 go_upto_region 1 with fail
 rw [<-hw0];clear hw0;go_upto_region 2 with (first
  | (go_at_call 298;refine HK.out.mono ?_;rintro e w2 ⟨⟨st,rfl⟩,ht2,hb2⟩;have OO:=ae ht2;have OH:=ae hb2;clear ht2 hb2))
 obtain⟨v,hv⟩:∃v,v=w2.alloc (Obj.cells #[.int .i64 R.c.1,.int .u64 (R.c.2.1:Int),.int .u64 (R.c.2.2:Int)] 37):=⟨_,rfl⟩
 have hBv:Below w2.heap.size w2 v:=by rw [hv];exact ag _ _
 have hcw:Cw v w2.heap.size R.c:=by rw [hv];exact⟨by simp [go_sem],by simp [go_sem],by simp [go_sem]⟩
 have hs2:w.heap.size+1<w2.heap.size:=by have:=OH.out.size;have:=Py.out;omega
 have Se:=ae (OO.out.later hBv)
 have OT:=ae (OH.out.call hBv)
 have HN:=ae (λ(U:World) (hU:Below v.heap.size v U)=>kV st R.code U (Se.out.laid.later hU))
 have HL:Hid (∀U,Below v.heap.size v U->Zc U (w.heap.size+1)):=λU hU=>HZ.out U (OT.out.call hU)
 have HS:Hid (∀U,aj (·=w.heap.size+1) v U->(U.cell? ⟨w2.heap.size,0,none⟩=some (.int .i64 R.c.1)/\U.cell? ⟨w2.heap.size,1,none⟩=some (.int .u64 (R.c.2.1:Int))/\U.cell? ⟨w2.heap.size,2,none⟩=some (.int .u64 (R.c.2.2:Int)))/\aj (·=w.heap.size+1) v U):=λU hU=>by
  obtain⟨q0,q1,q2⟩:=hcw.but hU (λe=>by omega)
  exact⟨⟨q0,q1,q2⟩,hU⟩
 rw [<-hv];clear hv hBv hcw hs2;go_region_held3 (λU=>(U.cell? ⟨w2.heap.size,0,none⟩=some (.int .i64 R.c.1)/\U.cell? ⟨w2.heap.size,1,none⟩=some (.int .u64 (R.c.2.1:Int))/\U.cell? ⟨w2.heap.size,2,none⟩=some (.int .u64 (R.c.2.2:Int)))/\aj (·=w.heap.size+1) v U) (first|exact HS.out _ (aj.of (Below.refl _ _).drew)|exact HS.out _ ((And.right (by assumption):aj (·=w.heap.size+1) v v.drew).call hb9)|exact HS.out _ ((((And.right (by assumption):aj (·=w.heap.size+1) v w9).own _ _).own _ _).own _ _)) (first|(go_at_call 292;refine (HN.out _ (Below.refl _ _).drew).mono ?_;rintro e w9 ⟨rfl,hb9⟩;have OU:=ae (aa (Below.refl v.heap.size v).drew hb9);obtain⟨⟨v0,f0⟩,⟨v1,f1⟩,⟨v2,f2⟩⟩:=HL.out w9 OU.out))
 go_wp2;have HQ:=ae (bL v0 v1 v2 (.int .i64 R.c.1) (.int .u64 (R.c.2.1:Int)) (.int .u64 (R.c.2.2:Int)))
 obtain⟨hf1,hf2⟩:=Made.put (w1:=w) (b:=w.heap.size+1) (Se.out.later OU.out) (((aj.of OX.out).trans OT.out).call OU.out) HO.out (by omega) R.c
 exact bodyPost_ret (v:=.tuple #[.agg #[.int .i64 R.c.1,.int .u64 (R.c.2.1:Int),.int .u64 (R.c.2.2:Int)],.int .i64 R.code]) (by simp [results,Tryz.results227,go_sem,HQ.out.1,HQ.out.2.1,HQ.out.2.2]) rfl ⟨rfl,hf1,hf2⟩
end Go.Proofs.YtmhinfbkmjdgfaaGreatDoor.D
namespace Go.Proofs.YtmhinfbkmjdgfaaGreatDoor.K
open Go.RowKit
variable {k:Int}{cs:List Value}{b h i n o:Nat}{S:Nat->Prop}{w w':World}
abbrev Cp:=Int×Nat×Nat
theorem kE {α:Type}{enc:α->List Value}{k:Nat}(hk:∀x,(enc x).length=k)(K:List α)(i c:Nat)(x:α)(hi:K[i]?=some x)(hc:c<k):(K.flatMap enc)[i*k+c]?=(enc x)[c]?:=by
 induction K generalizing i with
 | nil=>cases hi
 | cons a r ih =>
  rw [List.flatMap_cons];cases i with
  | zero =>
   simp at hi
   subst hi;rw [Nat.zero_mul,Nat.zero_add,List.getElem?_append_left (by rw [hk];exact hc)]
  | succ i =>
   rw [List.getElem?_append_right (by rw [hk,Nat.add_mul];omega),hk]
   have:(i+1)*k+c - k=i*k+c:=by rw [Nat.add_mul];omega
   rw [this];exact ih i (by simpa using hi)
def mB (a b c d e f:Int):Bool:=decide (a=d/\b=e/\c=f)
theorem pN (a b c d e f:Int)(w:World):(binOp .eql 37 (.agg #[ab a,ai b,ai c]) (.agg #[ab d,ai e,ai f])).run Tryz.prog w=.ok (.bool (mB a b c d e f)) w:=by
 unfold mB;by_cases h1:a=d
 ·subst h1
  by_cases h2:b=e
  ·subst h2
   by_cases h3:c=f
   ·subst h3;simp [go_sem]
   ·simp [go_sem,h3]
  ·simp [go_sem,h2]
 ·simp [go_sem,h1]
def az:Nat:=18446744073709551616
def KF:Nat:=11400714819323198485
def jL (h:Nat):Nat:=h*KF%az
def qF (h:Nat):Nat:=h ^^^ (h / 2 ^ 29)
def cM (h v:Nat):Nat:=qF (jL (h ^^^ v))
def eC (o a b:Nat):Nat:=cM (cM (cM 5903417616801668165 o) a) b
def cQ (h:Nat)(k:Int):Nat:=if k<=0 then 0 else if 64<=k then h else h%2 ^ k.toNat
theorem sy {a:Nat}(ha:a<az)(hb:b<az):a ^^^ b<az:=Nat.xor_lt_two_pow (n:=64) ha hb
theorem fF (h:Nat):jL h<az:=Nat.mod_lt _ (by decide)
theorem mw (hh:h<az):qF h<az:=sy hh (Nat.lt_of_le_of_lt (Nat.div_le_self _ _) hh)
theorem ez (h v:Nat):cM h v<az:=mw (fF _)
theorem fV (o a b:Nat):eC o a b<az:=ez _ _
theorem oG (k:Int)(hh:h<az):cQ h k<az:=by
 unfold cQ;split
 ·decide
 ·split
  ·exact hh
  ·exact Nat.lt_of_le_of_lt (Nat.mod_le _ _) hh
theorem lp (h v:Nat)(hh:h<az)(hv:v<az) :
  bits .xor .u64 (IntKind.u64.wrap (bits .xor .u64 (h:Int) (v:Int)*11400714819323198485)) (IntKind.u64.wrap (bits .xor .u64 (h:Int) (v:Int)*11400714819323198485) / 536870912)=(cM h v:Int):=by
 have e1:IntKind.u64.wrap (bits .xor .u64 (h:Int) (v:Int)*11400714819323198485)=(jL (h ^^^ v):Int):=by
  rw [u64_xor_nat h v hh hv,IntKind.wrap_u64];unfold jL KF az;omega
 have e2:((jL (h ^^^ v):Nat):Int) / 536870912=((jL (h ^^^ v) / 2 ^ 29:Nat):Int):=by omega
 rw [e1,e2,u64_xor_nat _ _ (fF _) (Nat.lt_of_le_of_lt (Nat.div_le_self _ _) (fF _))];rfl
theorem fW (h v:Nat)(w:World)(hh:h<az)(hv:v<az) :
  Calls Tryz.prog 446 #[ai (h:Int),ai (v:Int)] w λe w'=>e=.returned (ai (cM h v:Int))/\w'=w:=by
 have HS:Hid _:=lp h v hh hv
 go_enter Tryz.func446,Tryz.ntmps446
 go_wp2;go_ret;exact⟨aQ HS.out,rfl⟩
theorem iO (h n:Nat)(hh:h<az)(hn:n<=63) :
  bits .and .u64 (h:Int) (IntKind.u64.wrap (IntKind.u64.wrap (2 ^ n) - 1))=((h%2 ^ n:Nat):Int):=by
 have h2:(2:Nat) ^ n<=2 ^ 63:=Nat.pow_le_pow_right (by omega) hn
 have hp:0<(2:Nat) ^ n:=Nat.two_pow_pos n
 have e1:((2:Int) ^ n)=((2 ^ n:Nat):Int):=by simp
 have e2:IntKind.u64.wrap (IntKind.u64.wrap (2 ^ n) - 1)=((2 ^ n - 1:Nat):Int):=by
  rw [e1,IntKind.wrap_u64,IntKind.wrap_u64];omega
 rw [e2,u64_and_nat _ _ hh (by omega),Nat.and_two_pow_sub_one_eq_mod]
theorem jz (h1:k<=0):cQ h k=0:=by unfold cQ;rw [if_pos h1]
theorem lu (h1:64<=k):cQ h k=h:=by unfold cQ;rw [if_neg (by omega),if_pos h1]
theorem jF (h1:¬k<=0)(h2:¬64<=k):cQ h k=h%2 ^ k.toNat:=by unfold cQ;rw [if_neg h1,if_neg h2]
theorem dz (h:Nat)(k:Int)(w:World)(hh:h<az) :
  Calls Tryz.prog 447 #[ai (h:Int),ab k] w λe w'=>e=.returned (ai (cQ h k:Int))/\w'=w:=by
 by_cases h1:k<=0
 ·rw [jz h1]
  go_enter Tryz.func447,Tryz.ntmps447
  go_wp2;go_ret;exact⟨rfl,rfl⟩
 ·by_cases h2:64<=k
  ·rw [lu h2]
   go_enter Tryz.func447,Tryz.ntmps447
   go_wp2;go_ret;exact⟨rfl,rfl⟩
  ·rw [jF h1 h2]
   have HL:Hid _:=iO h k.toNat hh (by omega)
   go_enter Tryz.func447,Tryz.ntmps447
   go_wp2;go_ret;exact⟨aQ HL.out,rfl⟩
def eg (o:Int):Nat:=(o%18446744073709551616).toNat
theorem oR (o:Int):eg o<az:=by unfold eg az;omega
theorem ld (o:Int):IntKind.u64.wrap o=(eg o:Int):=by rw [IntKind.wrap_u64];unfold eg;omega
def oD (W:World)(x1 x2 x3:Nat)(s t:Value)(w':World):Prop :=
 w'=W/\((t=ab 0/\s=ai 5903417616801668165)\/(t=ab 1/\s=ai (x1:Int))\/(t=ab 2/\s=ai (x2:Int))\/(t=ab 3/\s=ai (x3:Int)))
theorem fC {y x:Int}{v:Nat}(w:World)(r:Nat)(hr:r=cM h v)(hy:y=(h:Int))(hx:x=(v:Int))(hh:h<az)(hv:v<az) :
  Calls Tryz.prog 446 #[ai y,ai x] w λe w'=>e=.returned (ai (r:Int))/\w'=w:=by
 subst hy hx hr;exact fW h v w hh hv
theorem jt:(5903417616801668165:Int)=((5903417616801668165:Nat):Int):=rfl
theorem lN:(5903417616801668165:Nat)<az:=by decide
theorem jr (o:Int)(n a b x1 x2 x3:Nat)(k:Int)(w:World)(ha:a<az)(hb:b<az)(hn:n<az)
  (h1:x1<az) (h2:x2<az) (h3:x3<az) (ho:Hid (IntKind.u64.wrap o=(n:Int))) (e1:Hid (x1=cM 5903417616801668165 n)) (e2:Hid (x2=cM x1 a)) (e3:Hid (x3=cM x2 b)) :
  Calls Tryz.prog 444 #[ab o,.agg #[ai (a:Int),ai (b:Int)],ab k] w λe w'=>e=.returned (ai (cQ x3 k:Int))/\Below w.heap.size w w':=by
 go_enter Tryz.func444,Tryz.ntmps444
 go_wp2;go_step3
 go_wp2;go_step3
 go_wp2;go_loopw [7,8] (oD (w.alloc (Obj.cells #[ai (a:Int),ai (b:Int)] 30)) x1 x2 x3) (λ_ t _=>(3 - intOf t).toNat)
 case atStart=>exact⟨rfl,.inl ⟨rfl,rfl⟩⟩
 case round =>
  obtain⟨rfl,⟨rfl,rfl⟩|⟨rfl,rfl⟩|⟨rfl,rfl⟩|⟨rfl,rfl⟩⟩:=hrel
  ·go_wp2_with (first|(go_at_call 446;refine (fC _ x1 e1.out jt ho.out lN hn).mono ?_;rintro e w1 ⟨rfl,rfl⟩))
   go_roundw
   case rel=>exact⟨rfl,.inr (.inl ⟨rfl,rfl⟩)⟩
   case measure=>simp [intOf]
  ·go_wp2_with (first|(go_at_call 446;refine (fC _ x2 e2.out rfl rfl h1 ha).mono ?_;rintro e w1 ⟨rfl,rfl⟩))
   go_roundw
   case rel=>exact⟨rfl,.inr (.inr (.inl ⟨rfl,rfl⟩))⟩
   case measure=>simp [intOf]
  ·go_wp2_with (first|(go_at_call 446;refine (fC _ x3 e3.out rfl rfl h2 hb).mono ?_;rintro e w1 ⟨rfl,rfl⟩))
   go_roundw
   case rel=>exact⟨rfl,.inr (.inr (.inr ⟨rfl,rfl⟩))⟩
   case measure=>simp [intOf]
  ·go_wp2_with (first|(go_at_call 447;refine (dz _ _ _ h3).mono ?_;rintro e w1 ⟨rfl,rfl⟩))
   try rw [Exit.noGoto_ret]
   go_ret;exact⟨rfl,ag _ _⟩
theorem lf (o:Int)(a b:Nat)(k:Int)(w:World)(ha:a<az)(hb:b<az) :
  Calls Tryz.prog 444 #[ab o,.agg #[ai (a:Int),ai (b:Int)],ab k] w λe w'=>e=.returned (ai (cQ (eC (eg o) a b) k:Int))/\Below w.heap.size w w' :=
 jr o (eg o) a b _ _ (eC (eg o) a b) k w ha hb (oR o) (ez _ _) (ez _ _) (fV _ _ _) (ld o) rfl rfl rfl
abbrev Pl:=Bool×Cp×Int
def eE (p:Pl):List Value:=[.bool p.1,ab p.2.1.1,ai (p.2.1.2.1:Int),ai (p.2.1.2.2:Int),ab p.2.2]
theorem mu (p:Pl):∀v∈eE p,v.oneCell'=true:=by
 intro v hv;simp only [eE,List.mem_cons,List.not_mem_nil,or_false] at hv;rcases hv with rfl|rfl|rfl|rfl|rfl<;>rfl
def ed (P:List Pl):List Value:=P.flatMap eE
theorem aO (P:List Pl):(ed P).length=P.length*5:=by
 induction P with
 | nil=>rfl
 | cons a r ih=>simp only [ed,List.flatMap_cons,List.length_append] at ih ⊢;rw [ih];simp [eE];omega
theorem gQ (P:List Pl):∀u∈ed P,u.oneCell'=true:=λu hu=>by
 unfold ed at hu;obtain⟨x,_,hx⟩:=List.mem_flatMap.1 hu
 exact mu x u hx
structure Ce (w:World)(b o:Nat)(p:Pl):Prop where
 c0:w.cell? ⟨b,o,none⟩=some (.bool p.1)
 c1:w.cell? ⟨b,o+1,none⟩=some (ab p.2.1.1)
 c2:w.cell? ⟨b,o+2,none⟩=some (ai (p.2.1.2.1:Int))
 c3:w.cell? ⟨b,o+3,none⟩=some (ai (p.2.1.2.2:Int))
 c4:w.cell? ⟨b,o+4,none⟩=some (ab p.2.2)
theorem Ce.but {p:Pl}(h:Ce w b o p)(hb:aj S w w')(hn:¬S b):Ce w' b o p :=
 ⟨an hb h.c0 hn,an hb h.c1 hn,an hb h.c2 hn,an hb h.c3 hn,an hb h.c4 hn⟩
theorem Ce.later {p:Pl}(h:Ce w b o p)(hb:Below w.heap.size w w'):Ce w' b o p:=h.but (S:=λ_=>False) (aj.of hb) (λh=>h)
theorem qx {P:List Pl}(h:w.rangeAt b o (ed P)){p:Pl}(hi:P[i]?=some p):Ce w b (o+i*5) p:=by
 have hg:=λd (hd:d<5)=>kE (enc:=eE) (k:=5) (λ_=>rfl) P i d p hi hd
 have e:=λd (hd:d<5) v (hv:(eE p)[d]?=some v)=>h (i*5+d) v ((hg d hd).trans hv)
 simp only [<-Nat.add_assoc] at e;exact⟨e 0 (by omega) _ rfl,e 1 (by omega) _ rfl,e 2 (by omega) _ rfl,e 3 (by omega) _ rfl,e 4 (by omega) _ rfl⟩
def fj (c:Cp)(p:Pl):Bool:=p.1&&decide (p.2.1=c)
theorem B4 (x c:Cp):mB x.1 (x.2.1:Int) (x.2.2:Int) c.1 (c.2.1:Int) (c.2.2:Int)=decide (x=c):=by
 unfold mB;by_cases h:x=c
 ·subst h;simp
 ·rw [decide_eq_false h]
  refine decide_eq_false λhq=>h ?_
  obtain⟨q1,q2,q3⟩:=hq
  exact Prod.ext q1 (Prod.ext (Int.ofNat.inj q2) (Int.ofNat.inj q3))
theorem GH (x c:Cp)(w:World):(binOp .eql 37 (.agg #[ab x.1,ai (x.2.1:Int),ai (x.2.2:Int)]) (.agg #[ab c.1,ai (c.2.1:Int),ai (c.2.2:Int)])).run Tryz.prog w=.ok (.bool (decide (x=c))) w:=by
 rw [pN,B4]
theorem cI (p:Pl)(c:Cp)(w:World) :
  Calls Tryz.prog 445 #[.agg #[.bool p.1,ab p.2.1.1,ai (p.2.1.2.1:Int),ai (p.2.1.2.2:Int),ab p.2.2],.agg #[ab c.1,ai (c.2.1:Int),ai (c.2.2:Int)]] w λe w'=>e=.returned (.bool (fj c p))/\Below w.heap.size w w':=by
 obtain⟨f,x,n⟩:=p
 have heq:=λW=>GH x c W
 have HH:Hid (fj c (f,x,n)=(f&&decide (x=c))):=rfl
 generalize decide (x=c)=q at heq HH
 cases f with
 | true =>
  go_enter Tryz.func445,Tryz.ntmps445
  go_wp2;go_ret;exact⟨aA (by rw [HH.out];rfl),aB _ _ _⟩
 | false =>
  go_enter Tryz.func445,Tryz.ntmps445
  go_wp2;go_ret;exact⟨aA (by rw [HH.out];rfl),aB _ _ _⟩
def dU (P:List Pl)(c:Cp)(n:Nat):Nat:=min ((P.take n).findIdx (fj c)) (n - 1)
def xv (W:World)(P:List Pl)(c:Cp)(n:Nat)(t:Value)(w:World):Prop :=
 ∃i:Nat,i<=n/\t=ab (i:Int)/\(∀j p,j<i->P[j]?=some p->fj c p=false)/\Below W.heap.size W w
theorem uf {P:List Pl}{c:Cp}{p:Pl}(hi:i<n)(hp:P[i]?=some p)(hh:fj c p=true)(hn:∀j q,j<i->P[j]?=some q->fj c q=false):dU P c n=i:=by
 unfold dU;have hl:i<P.length:=(List.getElem?_eq_some_iff.1 hp).1
 have e:(P.take n).findIdx (fj c)=i:=by
  rw [List.findIdx_eq (by rw [List.length_take];omega)]
  refine⟨?_,λj hj=>?_⟩
  ·rw [List.getElem_take]
   rw [List.getElem?_eq_getElem hl] at hp;cases hp
   exact hh
  ·have hj2:j<P.length:=by omega
   have:=hn j _ hj (List.getElem?_eq_getElem hj2)
   rw [List.getElem_take,this]
 rw [e];omega
theorem od {P:List Pl}{c:Cp}(hn:∀j q,j<n->P[j]?=some q->fj c q=false)(hl:n<=P.length):dU P c n=n - 1:=by
 unfold dU;have e:(P.take n).findIdx (fj c)=(P.take n).length:=by
  rw [List.findIdx_eq_length];intro x hx;obtain⟨j,hj,rfl⟩:=List.mem_iff_getElem.1 hx
  rw [List.length_take] at hj;rw [List.getElem_take];exact hn j _ (by omega) (List.getElem?_eq_getElem (by omega))
 rw [e,List.length_take];omega
theorem n_ (W:World)(L:List Value)(t:TypeId):(W.alloc (.cells L.toArray t)).rangeAt W.heap.size 0 L:=λj v hv=>by
 rw [Nat.zero_add,cell_of_row _ _ _ _ _ _ (heap_alloc_new W (.cells L.toArray t))];simpa using hv
theorem eL (h:w.rangeAt b o cs)(hb:Below w.heap.size w w'):w'.rangeAt b o cs:=λj v hv=>cell_later hb (h j v hv)
theorem nX (h:w.rangeAt b o cs)(hb:aj S w w')(hn:¬S b):w'.rangeAt b o cs:=λj v hv=>an hb (h j v hv) hn
theorem qE (P:List Pl)(c:Cp)(n:Nat)(w:World)(hl:P.length=4)(h1:1<=n)(h4:n<=4) :
  Calls Tryz.prog 439 #[.agg (ed P).toArray,.agg #[ab c.1,ai (c.2.1:Int),ai (c.2.2:Int)],ab (n:Int)] w λe w'=>e=.returned (ab (dU P c n:Int))/\Below w.heap.size w w':=by
 have hs:(ed P).toArray.size=20:=by rw [List.size_toArray,aO,hl]
 have HA:Hid (∀(W:World) (t:TypeId),(W.alloc (.cells (ed P).toArray t)).rangeAt W.heap.size 0 (ed P)):=λW t=>n_ W _ t
 have HL:=ae hl
 clear hl;generalize (ed P).toArray=A at HA hs
 go_enter Tryz.func439,Tryz.ntmps439
 go_upto_region 2 with fail
 go_loopw [9] (xv ((w.alloc (.cells A 320)).alloc (.cells #[ab c.1,ai (c.2.1:Int),ai (c.2.2:Int)] 37)) P c n) (λt _=>n - (intOf t).toNat)
 case atStart=>exact⟨0,by omega,rfl,λj p hj=>absurd hj (Nat.not_lt_zero _),Below.refl _ _⟩
 case round =>
  obtain⟨i,hi,rfl,hno,hB⟩:=hrel
  have P0:=ae hno
  clear hno;by_cases hlt:i<n
  ·obtain⟨p,hp⟩:∃p,P[i]?=some p:=⟨_,List.getElem?_eq_getElem (by rw [HL.out];omega)⟩
   have hC:Hid (∀U:World,Below wr.heap.size wr U->(U.cell? ⟨w.heap.size,i*5,none⟩=some (.bool p.1)/\U.cell? ⟨w.heap.size,i*5+1,none⟩=some (ab p.2.1.1)/\U.cell? ⟨w.heap.size,i*5+2,none⟩=some (ai (p.2.1.2.1:Int))/\U.cell? ⟨w.heap.size,i*5+3,none⟩=some (ai (p.2.1.2.2:Int))/\U.cell? ⟨w.heap.size,i*5+4,none⟩=some (ab p.2.2)/\U.cell? ⟨w.heap.size+1,0,none⟩=some (ab c.1)/\U.cell? ⟨w.heap.size+1,1,none⟩=some (ai (c.2.1:Int))/\U.cell? ⟨w.heap.size+1,2,none⟩=some (ai (c.2.2:Int)))/\Below wr.heap.size wr U):=λU hU=>by
    have hx:=((qx (eL (HA.out w 320) (ag _ (.cells #[ab c.1,ai (c.2.1:Int),ai (c.2.2:Int)] 37))) hp).later hB).later hU
    rw [Nat.zero_add] at hx;exact⟨⟨hx.c0,hx.c1,hx.c2,hx.c3,hx.c4,cell_later hU (cell_later hB (by simp [go_sem])),cell_later hU (cell_later hB (by simp [go_sem])),cell_later hU (cell_later hB (by simp [go_sem]))⟩,hU⟩
   have hHas:=λW=>cI p c W
   have HP:=ae hp
   have HB:=ae hB
   clear hp hB;obtain⟨q,hq'⟩:∃q,q=fj c p:=⟨_,rfl⟩
   rw [<-hq'] at hHas;have hq:=ae hq'
   clear hq';have hi4:(i:Int)<4:=by omega
   go_upto_region 4 with fail
   go_region_held3 (λU=>(U.cell? ⟨w.heap.size,i*5,none⟩=some (.bool p.1)/\U.cell? ⟨w.heap.size,i*5+1,none⟩=some (ab p.2.1.1)/\U.cell? ⟨w.heap.size,i*5+2,none⟩=some (ai (p.2.1.2.1:Int))/\U.cell? ⟨w.heap.size,i*5+3,none⟩=some (ai (p.2.1.2.2:Int))/\U.cell? ⟨w.heap.size,i*5+4,none⟩=some (ab p.2.2)/\U.cell? ⟨w.heap.size+1,0,none⟩=some (ab c.1)/\U.cell? ⟨w.heap.size+1,1,none⟩=some (ai (c.2.1:Int))/\U.cell? ⟨w.heap.size+1,2,none⟩=some (ai (c.2.2:Int)))/\Below wr.heap.size wr U) (first|exact hC.out _ (Below.refl _ _).drew|exact hC.out _ hb2.out) (first|(go_at_call 445;refine (hHas _).mono ?_;rintro e w2 ⟨rfl,hb2'⟩;have hb2:=ae (aa (Below.refl wr.heap.size wr).drew hb2')))
   have OJ:=ae (aa HB.out (And.right (by assumption:_/\Below wr.heap.size wr w2)))
   cases q with
   | true =>
    go_wp2;go_ret;exact⟨aQ (by rw [uf hlt HP.out hq.out.symm P0.out]),aa (aB _ _ _) OJ.out⟩
   | false =>
    go_wp2;refine⟨⟨i+1,by omega,by go_num,λj x hj hx=>?_,OJ.out⟩,by simp [intOf];omega⟩
    rcases Nat.lt_or_ge j i with h3|h3
    ·exact P0.out j x h3 hx
    ·obtain rfl:j=i:=by omega
     rw [HP.out] at hx;cases hx
     exact hq.out.symm
  ·obtain rfl:i=n:=by omega
   have HE:=ae (od P0.out (by rw [HL.out];exact h4))
   have hw:IntKind.i64.wrap ((i:Int) - 1)=((i - 1:Nat):Int):=by rw [IntKind.wrap_i64];omega
   have HB:=ae hB
   clear hB;go_wp2;go_ret;exact⟨aQ (by rw [HE.out]),aa (aB _ _ _) HB.out⟩
end Go.Proofs.YtmhinfbkmjdgfaaGreatDoor.K
