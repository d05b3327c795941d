import Derived.Test.YtffmodpgddecnaaGreatDoorZ10
set_option linter.unusedVariables false
set_option linter.unusedSimpArgs false
set_option maxRecDepth 100000
set_option maxHeartbeats 2000000
namespace Go.Proofs.YtffmodpgddecnaaGreatDoor.D
open Go.RowKit
open Go.Proofs.YtffmodpgddecnaaGreatDoor.H (aq Cp)
theorem cj (s:ByteArray)(c:Int)(hc:c≠0)(w:World):Calls Tryz.prog 314 #[.string s,.int .i64 c] w λe w'=>e=.returned (dI s c)/\w'=w:=by
 have:=j9 s c w
 rwa [cP hc] at this
theorem cz (s:ByteArray)(w:World):Calls Tryz.prog 314 #[.string s,.int .i64 0] w λe w'=>e=.returned .nilIface/\w'=w:=j9 s 0 w
theorem bt {w:World}{b:Nat}{v0 v1 v2:Value}(h0:w.cell? ⟨b,0,none⟩=some v0)(h1:w.cell? ⟨b,1,none⟩=some v1)(h2:w.cell? ⟨b,2,none⟩=some v2)(x y z:Value) :
  (w.setCell ⟨b,0,none⟩ x).cell? ⟨b,0,none⟩=some x/\((w.setCell ⟨b,0,none⟩ x).setCell ⟨b,1,none⟩ y).cell? ⟨b,1,none⟩=some y/\(((w.setCell ⟨b,0,none⟩ x).setCell ⟨b,1,none⟩ y).setCell ⟨b,2,none⟩ z).cell? ⟨b,2,none⟩=some z :=
 ⟨World.cell?_setCell_same _ _ _ h0,World.cell?_setCell_same _ _ _ (aW h1 (by omega)),World.cell?_setCell_same _ _ _ (aW (aW h2 (by omega)) (by omega))⟩
def Made (w:World)(H:Hd)(R:rY)(e:Ending)(w':World):Prop :=
 (∃st,e=.returned (.tuple #[iu R.c,mV st R.code]))/\eM w' H R.s/\ah H.Wr w w'
structure Zc (w:World)(b:Nat):Prop where
 c0:az w ⟨b,0,none⟩ (.int .i64 0)
 c1:az w ⟨b,1,none⟩ (.int .u64 0)
 c2:az w ⟨b,2,none⟩ (.int .u64 0)
theorem Zc.but {S:Nat->Prop}{w w':World}{b:Nat}(h:Zc w b)(hb:ah S w w')(hn:¬S b):Zc w' b:=⟨h.c0.but hb hn,h.c1.but hb hn,h.c2.but hb hn⟩
theorem Zc.FJ (w:World):Zc (w.alloc (Obj.cells #[.int .i64 0,.int .u64 0,.int .u64 0] 37)) w.heap.size:=⟨⟨by simp [go_sem],by simp [go_sem]⟩,⟨by simp [go_sem],by simp [go_sem]⟩,⟨by simp [go_sem],by simp [go_sem]⟩⟩
structure Cw (w:World)(b:Nat)(c:Cp):Prop where
 c0:w.cell? ⟨b,0,none⟩=some (.int .i64 c.1)
 c1:w.cell? ⟨b,1,none⟩=some (.int .u64 (c.2.1:Int))
 c2:w.cell? ⟨b,2,none⟩=some (.int .u64 (c.2.2:Int))
theorem Cw.but {S:Nat->Prop}{w w':World}{b:Nat}{c:Cp}(h:Cw w b c)(hb:ah S w w')(hn:¬S b):Cw w' b c:=⟨ag hb h.c0 hn,ag hb h.c1 hn,ag hb h.c2 hn⟩
theorem Made.put {w w1 w2:World}{H:Hd}{s:aP}{b:Nat}(ht:eM w2 H s)(hb:ah H.Wr w w2)(ho:∀k,H.jD k->k<w.heap.size)(hl:w.heap.size<=b)(c:Cp) :
  eM (((w2.setCell ⟨b,0,none⟩ (.int .i64 c.1)).setCell ⟨b,1,none⟩ (.int .u64 (c.2.1:Int))).setCell ⟨b,2,none⟩ (.int .u64 (c.2.2:Int))) H s/\ah H.Wr w (((w2.setCell ⟨b,0,none⟩ (.int .i64 c.1)).setCell ⟨b,1,none⟩ (.int .u64 (c.2.1:Int))).setCell ⟨b,2,none⟩ (.int .u64 (c.2.2:Int))) :=
 have ho':∀k,H.jD k->k<b:=λk hk=>Nat.lt_of_lt_of_le (ho k hk) hl
 ⟨((ht.own ho' 0 _).own ho' 1 _).own ho' 2 _,((hb.put (p:=⟨b,0,none⟩) hl _).put (p:=⟨b,1,none⟩) hl _).put (p:=⟨b,2,none⟩) hl _⟩
theorem Fg {w:World}{H:Hd}{s:aP}(h:eM w H s)(o:Int)(ho:(Lit.int .i64 o).wf=true)(D:Nat×Int×Nat)(R:EJ)(mk:Nat)
  (hd:∀U,Below w.heap.size w U->Calls Tryz.prog 316 #[.pointer (some ⟨H.g,0,none⟩)] U (pB U H s D))
  (he:Q.may H.e H.a s.L o=0->D.2.1=0->R.code=0/\∀U,ah (·=H.g) w U->eM U H { s with t:=D.2.2 }->Calls Tryz.prog 317 #[iu (cap o D.1),.pointer (some ⟨mk,0,none⟩)] U (gX U H { s with t:=D.2.2 } R)) :
  Calls Tryz.prog 315 #[ik H,.int .i64 o,.func (.func 316) #[.pointer (some ⟨H.g,0,none⟩)] #[],.func (.func 317) #[] #[.pointer (some ⟨mk,0,none⟩)]] w
   (Made w H (if Q.may H.e H.a s.L o≠0 then no s (Q.may H.e H.a s.L o) else if D.2.1≠0 then no { s with t:=D.2.2 } D.2.1 else ⟨cap o D.1,0,⟨R.X,R.l,s.L++[o],D.2.2⟩⟩)):=by
 obtain⟨w0,hw0⟩:∃w0,w0=(w.alloc (Obj.cells #[.pointer (some ⟨H.g,0,none⟩),.pointer (some ⟨H.A.g,0,none⟩),.pointer (some ⟨H.qg,0,none⟩)] 327)).alloc (Obj.cells #[.int .i64 0,.int .u64 0,.int .u64 0] 37):=⟨_,rfl⟩
 have hB0:Below w.heap.size w w0:=by rw [hw0];exact aC _ _ _
 have hmk:Mk w0 w.heap.size H:=by rw [hw0];exact⟨by simp [go_sem],by simp [go_sem],by simp [go_sem]⟩
 have hz:Zc w0 (w.heap.size+1):=by rw [hw0];exact⟨⟨by simp [go_sem],by simp [go_sem]⟩,⟨by simp [go_sem],by simp [go_sem]⟩,⟨by simp [go_sem],by simp [go_sem]⟩⟩
 have hlt:=h.sj
 have hwr:∀k,H.Wr k->k<w.heap.size:=λk hk=>hlt k (Hd.dm hk)
 have HM:Hid (∀U,ah H.Wr w0 U->U.cell? ⟨w.heap.size,2,none⟩=some (.pointer (some ⟨H.qg,0,none⟩))/\Zc U (w.heap.size+1)):=λU hU=>⟨(hmk.but hU (λe=>by have:=hwr _ e;omega)).c2,hz.but hU (λe=>by have:=hwr _ e;omega)⟩
 have y2:=hmk.c2
 have HZ:=ab hz
 have HO:=ab hlt
 have HW:=ab hwr
 have HT:=ab (h.later hB0)
 have PL:=ab hB0
 have RC:=ab (Q.g_ (h.later hB0).qu o ho)
 have HD:=ab hd
 clear h hB0 hmk hz hlt hwr hd;unfold ik;by_cases hm:Q.may H.e H.a s.L o=0
 ·rw [if_neg (by simp [hm])]
  rw [hm] at RC;by_cases hD:D.2.1=0
  ·rw [if_neg (by simp [hD])]
   obtain⟨hR,hE⟩:=he hm hD
   have HE:=ab hE
   have UG:=ab hR
   have RS:Hid (∀(U:World) (X:List Tk) (l:Fo) (t:Nat),eM U H ⟨X,l,s.L,t⟩->Calls Tryz.prog 200 #[.pointer (some ⟨H.qg,0,none⟩),.int .i64 o] U λr w'=>r=.returned (.int .i64 0)/\Q.Qu w' H.qg H.qb H.e H.a (s.L++[o])/\ah (λk=>k=H.qb) U w'):=λU X l t hT=>by
    have:=Q.jh hT.qu o ho
    unfold Q.oF at this;simp only [hm,if_true] at this;exact this
   clear he hE hm hR;unfold pB at HD;rw [hD] at HD;clear hD;unfold gX at HE;rw [UG.out] at HE;go_enter Tryz.func315,Tryz.ntmps315
   go_upto_region 1 with fail
   rw [<-hw0];clear hw0;go_upto_region 4 with (first
    | (go_at_call 314;refine (cz _ _).mono ?_;rintro e w9 ⟨rfl,hw9⟩;obtain rfl:=hw9.symm;clear hw9)
    | (go_at_call 278;refine RC.out.mono ?_;rintro e w2 ⟨rfl,hb2⟩;have PB:=ab (aa PL.out hb2);have P1:=ab hb2;have PQ:=ab (HT.out.later hb2);clear hb2))
   go_upto_region 9 with (first
    | (go_at_call 314;refine (cz _ _).mono ?_;rintro e w9 ⟨rfl,hw9⟩;obtain rfl:=hw9.symm;clear hw9)
    | (go_at_call 316;refine (HD.out w2 PB.out).mono ?_;rintro e w3 ⟨rfl,ht3,hb3⟩;have PW:=ab ht3;have PE:=ab ((ah.of (S:=H.Wr) P1.out).trans (ah.JH hb3));have Ts:=ab ((ah.of PB.out).trans hb3);clear ht3 hb3))
   obtain⟨w4,hw4⟩:∃w4,w4=(w3.alloc (Obj.cells #[.int .u64 (cD D.1),.int .u64 (cB D.1)] 30)).alloc (Obj.cells #[.int .i64 o,.int .u64 (cD D.1),.int .u64 (cB D.1)] 37):=⟨_,rfl⟩
   have hB4:Below w3.heap.size w3 w4:=by rw [hw4];exact aC _ _ _
   have hc4:Cw w4 (w3.heap.size+1) (cap o D.1):=by rw [hw4];exact⟨by simp [go_sem,cap],by simp [go_sem,cap,cD],by simp [go_sem,cap,cB]⟩
   have hs3:w.heap.size<=w3.heap.size:=Nat.le_trans PL.out.size PE.out.size
   have HY:Hid (∀U,ah H.Wr w4 U->Cw U (w3.heap.size+1) (cap o D.1)):=λU hU=>hc4.but hU (λe=>by have:=HW.out _ e;omega)
   have z0:w4.cell? ⟨w3.heap.size+1,0,none⟩=some (.int .i64 o):=hc4.c0
   have z1:w4.cell? ⟨w3.heap.size+1,1,none⟩=some (.int .u64 (cD D.1)):=hc4.c1
   have z2:w4.cell? ⟨w3.heap.size+1,2,none⟩=some (.int .u64 (cB D.1)):=hc4.c2
   have Qm:=ab (PW.out.later hB4)
   have PM:=ab (PE.out.call hB4)
   have Rl:=ab (Ts.out.call hB4)
   have U2:Hid (Calls Tryz.prog 317 #[.agg #[.int .i64 o,.int .u64 (cD D.1),.int .u64 (cB D.1)],.pointer (some ⟨mk,0,none⟩)] w4 _):=HE.out w4 Rl.out Qm.out
   clear hB4 hc4 hs3;rw [<-hw4];clear hw4;go_upto_region 14 with (first
    | (go_at_call 200;refine (RS.out w5 R.X R.l D.2.2 QM.out).mono ?_;rintro e w6 ⟨rfl,hq6,hb6⟩;have UU:=ab (QM.out.count hb6 hq6);have P7:=ab (PI.out.trans (ah.JF hb6));have Un:=ab (Vk.out.trans (ah.JF hb6));clear hq6 hb6;obtain⟨u0,u1,u2⟩:=HY.out w6 Un.out;obtain⟨⟨v0,f0⟩,⟨v1,f1⟩,⟨v2,f2⟩⟩:=(HM.out w6 P7.out).2)
    | (go_at_call 314;refine (cz _ _).mono ?_;rintro e w9 ⟨rfl,hw9⟩;obtain rfl:=hw9.symm;clear hw9)
    | (go_at_call 317;refine U2.out.mono ?_;rintro e w5 ⟨rfl,ht5,hb5⟩;have QM:=ab ht5;have PI:=ab (PM.out.trans (ah.JE hb5));have Vk:=ab (ah.JE (H:=H) hb5);clear ht5 hb5;have y5:=(HM.out w5 PI.out).1))
   have u0':w6.cell? ⟨w3.heap.size+1,0,none⟩=some (.int .i64 o):=u0
   have u1':w6.cell? ⟨w3.heap.size+1,1,none⟩=some (.int .u64 (cD D.1)):=u1
   have u2':w6.cell? ⟨w3.heap.size+1,2,none⟩=some (.int .u64 (cB D.1)):=u2
   clear u0 u1 u2;go_wp2;have HQ:=ab (bt v0 v1 v2 (.int .i64 o) (.int .u64 (cD D.1)) (.int .u64 (cB D.1)))
   obtain⟨hf1,hf2⟩:=Made.put (w1:=w) (b:=w.heap.size+1) UU.out ((ah.of PL.out).trans P7.out) HO.out (by omega) (cap o D.1)
   exact bodyPost_ret (v:=.tuple #[.agg #[.int .i64 o,.int .u64 (cD D.1),.int .u64 (cB D.1)],.nilIface]) (by simp [results,Tryz.results315,go_sem,HQ.out.1,HQ.out.2.1,HQ.out.2.2]) rfl ⟨⟨default,rfl⟩,hf1,hf2⟩
  ·rw [if_pos hD]
   have Tj:=ab hD
   unfold pB at HD;clear he hm hD;go_enter Tryz.func315,Tryz.ntmps315
   go_upto_region 1 with fail
   rw [<-hw0];clear hw0;go_upto_region 4 with (first
    | (go_at_call 314;refine (cz _ _).mono ?_;rintro e w9 ⟨rfl,hw9⟩;obtain rfl:=hw9.symm;clear hw9)
    | (go_at_call 278;refine RC.out.mono ?_;rintro e w2 ⟨rfl,hb2⟩;have PB:=ab (aa PL.out hb2);have P1:=ab hb2;have PQ:=ab (HT.out.later hb2);clear hb2))
   go_upto_region 7 with (first
    | (go_at_call 314;refine (cj _ _ Tj.out _).mono ?_;unfold dI;rintro e w9 ⟨rfl,hw9⟩;obtain rfl:=hw9.symm;clear hw9)
    | (go_at_call 316;refine (HD.out w2 PB.out).mono ?_;rintro e w3 ⟨rfl,ht3,hb3⟩;have PW:=ab ht3;have PE:=ab ((ah.of (S:=H.Wr) P1.out).trans (ah.JH hb3));have hbw:=PE.out.alloc (.cells #[.int .u64 (cD D.1),.int .u64 (cB D.1)] 30);have Qm:=ab (ht3.later (ae _ (.cells #[.int .u64 (cD D.1),.int .u64 (cB D.1)] 30)));have PM:=ab hbw;obtain⟨⟨v0,f0⟩,⟨v1,f1⟩,⟨v2,f2⟩⟩:=(HM.out _ hbw).2;clear ht3 hb3 hbw))
   go_wp2;have HQ:=ab (bt v0 v1 v2 (.int .i64 0) (.int .u64 0) (.int .u64 0))
   obtain⟨hf1,hf2⟩:=Made.put (w1:=w) (b:=w.heap.size+1) Qm.out ((ah.of PL.out).trans PM.out) HO.out (by omega) (0,0,0)
   exact bodyPost_ret (v:=.tuple #[.agg #[.int .i64 0,.int .u64 0,.int .u64 0],dI _ _]) (by simp [results,Tryz.results315,go_sem,HQ.out.1,HQ.out.2.1,HQ.out.2.2];rfl) rfl ⟨⟨_,by rw [show (no { s with t:=D.2.2 } D.2.1).code=D.2.1 from rfl,cP Tj.out];rfl⟩,hf1,hf2⟩
 ·rw [if_pos hm]
  have Rm:=ab hm
  clear he hm;go_enter Tryz.func315,Tryz.ntmps315
  go_upto_region 1 with fail
  rw [<-hw0];clear hw0;go_upto_region 3 with (first
    | (go_at_call 314;refine (cj _ _ Rm.out _).mono ?_;unfold dI;rintro e w9 ⟨rfl,hw9⟩;obtain rfl:=hw9.symm;clear hw9)
    | (go_at_call 278;refine RC.out.mono ?_;rintro e w2 ⟨rfl,hb2⟩;have PB:=ab (aa PL.out hb2);have P1:=ab hb2;have PQ:=ab (HT.out.later hb2);obtain⟨⟨v0,f0⟩,⟨v1,f1⟩,⟨v2,f2⟩⟩:=(HM.out w2 (ah.of hb2)).2;clear hb2))
  go_wp2;have HQ:=ab (bt v0 v1 v2 (.int .i64 0) (.int .u64 0) (.int .u64 0))
  obtain⟨hf1,hf2⟩:=Made.put (w1:=w) (b:=w.heap.size+1) PQ.out (ah.of PB.out) HO.out (by omega) (0,0,0)
  exact bodyPost_ret (v:=.tuple #[.agg #[.int .i64 0,.int .u64 0,.int .u64 0],dI _ _]) (by simp [results,Tryz.results315,go_sem,HQ.out.1,HQ.out.2.1,HQ.out.2.2];rfl) rfl ⟨⟨_,by rw [show (no s (Q.may H.e H.a s.L o)).code=Q.may H.e H.a s.L o from rfl,cP Rm.out];rfl⟩,hf1,hf2⟩
theorem FR {w:World}{H:Hd}{s:aP}(h:eM w H s)(o:Int)(ho:(Lit.int .i64 o).wf=true)(D:Nat×Int×Nat)(R:EJ)(mk pc nb rb:Nat)
  (hd:∀U,Below w.heap.size w U->Calls Tryz.prog 326 #[.pointer (some ⟨mk,0,none⟩),.pointer (some ⟨pc,0,none⟩)] U (pB U H s D))
  (he:Q.may H.e H.a s.L o=0->D.2.1=0->R.code=0/\∀U,ah (·=H.g) w U->eM U H { s with t:=D.2.2 }->Calls Tryz.prog 328 #[iu (cap o D.1),.pointer (some ⟨mk,0,none⟩),.pointer (some ⟨nb,0,none⟩),.pointer (some ⟨rb,0,none⟩)] U (gX U H { s with t:=D.2.2 } R)) :
  Calls Tryz.prog 315 #[ik H,.int .i64 o,.func (.func 326) #[] #[.pointer (some ⟨mk,0,none⟩),.pointer (some ⟨pc,0,none⟩)],.func (.func 328) #[] #[.pointer (some ⟨mk,0,none⟩),.pointer (some ⟨nb,0,none⟩),.pointer (some ⟨rb,0,none⟩)]] w
   (Made w H (if Q.may H.e H.a s.L o≠0 then no s (Q.may H.e H.a s.L o) else if D.2.1≠0 then no { s with t:=D.2.2 } D.2.1 else ⟨cap o D.1,0,⟨R.X,R.l,s.L++[o],D.2.2⟩⟩)):=by
 obtain⟨w0,hw0⟩:∃w0,w0=(w.alloc (Obj.cells #[.pointer (some ⟨H.g,0,none⟩),.pointer (some ⟨H.A.g,0,none⟩),.pointer (some ⟨H.qg,0,none⟩)] 327)).alloc (Obj.cells #[.int .i64 0,.int .u64 0,.int .u64 0] 37):=⟨_,rfl⟩
 have hB0:Below w.heap.size w w0:=by rw [hw0];exact aC _ _ _
 have hmk:Mk w0 w.heap.size H:=by rw [hw0];exact⟨by simp [go_sem],by simp [go_sem],by simp [go_sem]⟩
 have hz:Zc w0 (w.heap.size+1):=by rw [hw0];exact⟨⟨by simp [go_sem],by simp [go_sem]⟩,⟨by simp [go_sem],by simp [go_sem]⟩,⟨by simp [go_sem],by simp [go_sem]⟩⟩
 have hlt:=h.sj
 have hwr:∀k,H.Wr k->k<w.heap.size:=λk hk=>hlt k (Hd.dm hk)
 have HM:Hid (∀U,ah H.Wr w0 U->U.cell? ⟨w.heap.size,2,none⟩=some (.pointer (some ⟨H.qg,0,none⟩))/\Zc U (w.heap.size+1)):=λU hU=>⟨(hmk.but hU (λe=>by have:=hwr _ e;omega)).c2,hz.but hU (λe=>by have:=hwr _ e;omega)⟩
 have y2:=hmk.c2
 have HZ:=ab hz
 have HO:=ab hlt
 have HW:=ab hwr
 have HT:=ab (h.later hB0)
 have PL:=ab hB0
 have RC:=ab (Q.g_ (h.later hB0).qu o ho)
 have HD:=ab hd
 clear h hB0 hmk hz hlt hwr hd;unfold ik;by_cases hm:Q.may H.e H.a s.L o=0
 ·rw [if_neg (by simp [hm])]
  rw [hm] at RC;by_cases hD:D.2.1=0
  ·rw [if_neg (by simp [hD])]
   obtain⟨hR,hE⟩:=he hm hD
   have HE:=ab hE
   have UG:=ab hR
   have RS:Hid (∀(U:World) (X:List Tk) (l:Fo) (t:Nat),eM U H ⟨X,l,s.L,t⟩->Calls Tryz.prog 200 #[.pointer (some ⟨H.qg,0,none⟩),.int .i64 o] U λr w'=>r=.returned (.int .i64 0)/\Q.Qu w' H.qg H.qb H.e H.a (s.L++[o])/\ah (λk=>k=H.qb) U w'):=λU X l t hT=>by
    have:=Q.jh hT.qu o ho
    unfold Q.oF at this;simp only [hm,if_true] at this;exact this
   clear he hE hm hR;unfold pB at HD;rw [hD] at HD;clear hD;unfold gX at HE;rw [UG.out] at HE;go_enter Tryz.func315,Tryz.ntmps315
   go_upto_region 1 with fail
   rw [<-hw0];clear hw0;go_upto_region 4 with (first
    | (go_at_call 314;refine (cz _ _).mono ?_;rintro e w9 ⟨rfl,hw9⟩;obtain rfl:=hw9.symm;clear hw9)
    | (go_at_call 278;refine RC.out.mono ?_;rintro e w2 ⟨rfl,hb2⟩;have PB:=ab (aa PL.out hb2);have P1:=ab hb2;have PQ:=ab (HT.out.later hb2);clear hb2))
   go_upto_region 9 with (first
    | (go_at_call 314;refine (cz _ _).mono ?_;rintro e w9 ⟨rfl,hw9⟩;obtain rfl:=hw9.symm;clear hw9)
    | (go_at_call 326;refine (HD.out w2 PB.out).mono ?_;rintro e w3 ⟨rfl,ht3,hb3⟩;have PW:=ab ht3;have PE:=ab ((ah.of (S:=H.Wr) P1.out).trans (ah.JH hb3));have Ts:=ab ((ah.of PB.out).trans hb3);clear ht3 hb3))
   obtain⟨w4,hw4⟩:∃w4,w4=(w3.alloc (Obj.cells #[.int .u64 (cD D.1),.int .u64 (cB D.1)] 30)).alloc (Obj.cells #[.int .i64 o,.int .u64 (cD D.1),.int .u64 (cB D.1)] 37):=⟨_,rfl⟩
   have hB4:Below w3.heap.size w3 w4:=by rw [hw4];exact aC _ _ _
   have hc4:Cw w4 (w3.heap.size+1) (cap o D.1):=by rw [hw4];exact⟨by simp [go_sem,cap],by simp [go_sem,cap,cD],by simp [go_sem,cap,cB]⟩
   have hs3:w.heap.size<=w3.heap.size:=Nat.le_trans PL.out.size PE.out.size
   have HY:Hid (∀U,ah H.Wr w4 U->Cw U (w3.heap.size+1) (cap o D.1)):=λU hU=>hc4.but hU (λe=>by have:=HW.out _ e;omega)
   have z0:w4.cell? ⟨w3.heap.size+1,0,none⟩=some (.int .i64 o):=hc4.c0
   have z1:w4.cell? ⟨w3.heap.size+1,1,none⟩=some (.int .u64 (cD D.1)):=hc4.c1
   have z2:w4.cell? ⟨w3.heap.size+1,2,none⟩=some (.int .u64 (cB D.1)):=hc4.c2
   have Qm:=ab (PW.out.later hB4)
   have PM:=ab (PE.out.call hB4)
   have Rl:=ab (Ts.out.call hB4)
   have U2:Hid (Calls Tryz.prog 328 #[.agg #[.int .i64 o,.int .u64 (cD D.1),.int .u64 (cB D.1)],.pointer (some ⟨mk,0,none⟩),.pointer (some ⟨nb,0,none⟩),.pointer (some ⟨rb,0,none⟩)] w4 _):=HE.out w4 Rl.out Qm.out
   clear hB4 hc4 hs3;rw [<-hw4];clear hw4;go_upto_region 14 with (first
    | (go_at_call 200;refine (RS.out w5 R.X R.l D.2.2 QM.out).mono ?_;rintro e w6 ⟨rfl,hq6,hb6⟩;have UU:=ab (QM.out.count hb6 hq6);have P7:=ab (PI.out.trans (ah.JF hb6));have Un:=ab (Vk.out.trans (ah.JF hb6));clear hq6 hb6;obtain⟨u0,u1,u2⟩:=HY.out w6 Un.out;obtain⟨⟨v0,f0⟩,⟨v1,f1⟩,⟨v2,f2⟩⟩:=(HM.out w6 P7.out).2)
    | (go_at_call 314;refine (cz _ _).mono ?_;rintro e w9 ⟨rfl,hw9⟩;obtain rfl:=hw9.symm;clear hw9)
    | (go_at_call 328;refine U2.out.mono ?_;rintro e w5 ⟨rfl,ht5,hb5⟩;have QM:=ab ht5;have PI:=ab (PM.out.trans (ah.JE hb5));have Vk:=ab (ah.JE (H:=H) hb5);clear ht5 hb5;have y5:=(HM.out w5 PI.out).1))
   have u0':w6.cell? ⟨w3.heap.size+1,0,none⟩=some (.int .i64 o):=u0
   have u1':w6.cell? ⟨w3.heap.size+1,1,none⟩=some (.int .u64 (cD D.1)):=u1
   have u2':w6.cell? ⟨w3.heap.size+1,2,none⟩=some (.int .u64 (cB D.1)):=u2
   clear u0 u1 u2;go_wp2;have HQ:=ab (bt v0 v1 v2 (.int .i64 o) (.int .u64 (cD D.1)) (.int .u64 (cB D.1)))
   obtain⟨hf1,hf2⟩:=Made.put (w1:=w) (b:=w.heap.size+1) UU.out ((ah.of PL.out).trans P7.out) HO.out (by omega) (cap o D.1)
   exact bodyPost_ret (v:=.tuple #[.agg #[.int .i64 o,.int .u64 (cD D.1),.int .u64 (cB D.1)],.nilIface]) (by simp [results,Tryz.results315,go_sem,HQ.out.1,HQ.out.2.1,HQ.out.2.2]) rfl ⟨⟨default,rfl⟩,hf1,hf2⟩
  ·rw [if_pos hD]
   have Tj:=ab hD
   unfold pB at HD;clear he hm hD;go_enter Tryz.func315,Tryz.ntmps315
   go_upto_region 1 with fail
   rw [<-hw0];clear hw0;go_upto_region 4 with (first
    | (go_at_call 314;refine (cz _ _).mono ?_;rintro e w9 ⟨rfl,hw9⟩;obtain rfl:=hw9.symm;clear hw9)
    | (go_at_call 278;refine RC.out.mono ?_;rintro e w2 ⟨rfl,hb2⟩;have PB:=ab (aa PL.out hb2);have P1:=ab hb2;have PQ:=ab (HT.out.later hb2);clear hb2))
   go_upto_region 7 with (first
    | (go_at_call 314;refine (cj _ _ Tj.out _).mono ?_;unfold dI;rintro e w9 ⟨rfl,hw9⟩;obtain rfl:=hw9.symm;clear hw9)
    | (go_at_call 326;refine (HD.out w2 PB.out).mono ?_;rintro e w3 ⟨rfl,ht3,hb3⟩;have PW:=ab ht3;have PE:=ab ((ah.of (S:=H.Wr) P1.out).trans (ah.JH hb3));have hbw:=PE.out.alloc (.cells #[.int .u64 (cD D.1),.int .u64 (cB D.1)] 30);have Qm:=ab (ht3.later (ae _ (.cells #[.int .u64 (cD D.1),.int .u64 (cB D.1)] 30)));have PM:=ab hbw;obtain⟨⟨v0,f0⟩,⟨v1,f1⟩,⟨v2,f2⟩⟩:=(HM.out _ hbw).2;clear ht3 hb3 hbw))
   go_wp2;have HQ:=ab (bt v0 v1 v2 (.int .i64 0) (.int .u64 0) (.int .u64 0))
   obtain⟨hf1,hf2⟩:=Made.put (w1:=w) (b:=w.heap.size+1) Qm.out ((ah.of PL.out).trans PM.out) HO.out (by omega) (0,0,0)
   exact bodyPost_ret (v:=.tuple #[.agg #[.int .i64 0,.int .u64 0,.int .u64 0],dI _ _]) (by simp [results,Tryz.results315,go_sem,HQ.out.1,HQ.out.2.1,HQ.out.2.2];rfl) rfl ⟨⟨_,by rw [show (no { s with t:=D.2.2 } D.2.1).code=D.2.1 from rfl,cP Tj.out];rfl⟩,hf1,hf2⟩
 ·rw [if_pos hm]
  have Rm:=ab hm
  clear he hm;go_enter Tryz.func315,Tryz.ntmps315
  go_upto_region 1 with fail
  rw [<-hw0];clear hw0;go_upto_region 3 with (first
    | (go_at_call 314;refine (cj _ _ Rm.out _).mono ?_;unfold dI;rintro e w9 ⟨rfl,hw9⟩;obtain rfl:=hw9.symm;clear hw9)
    | (go_at_call 278;refine RC.out.mono ?_;rintro e w2 ⟨rfl,hb2⟩;have PB:=ab (aa PL.out hb2);have P1:=ab hb2;have PQ:=ab (HT.out.later hb2);obtain⟨⟨v0,f0⟩,⟨v1,f1⟩,⟨v2,f2⟩⟩:=(HM.out w2 (ah.of hb2)).2;clear hb2))
  go_wp2;have HQ:=ab (bt v0 v1 v2 (.int .i64 0) (.int .u64 0) (.int .u64 0))
  obtain⟨hf1,hf2⟩:=Made.put (w1:=w) (b:=w.heap.size+1) PQ.out (ah.of PB.out) HO.out (by omega) (0,0,0)
  exact bodyPost_ret (v:=.tuple #[.agg #[.int .i64 0,.int .u64 0,.int .u64 0],dI _ _]) (by simp [results,Tryz.results315,go_sem,HQ.out.1,HQ.out.2.1,HQ.out.2.2];rfl) rfl ⟨⟨_,by rw [show (no s (Q.may H.e H.a s.L o)).code=Q.may H.e H.a s.L o from rfl,cP Rm.out];rfl⟩,hf1,hf2⟩
theorem wa {w:World}{H:Hd}{s:aP}(h:eM w H s)(hf:Fit H.toPar s)(o:Int)(ho:(Lit.int .i64 o).wf=true) :
  Calls Tryz.prog 256 #[ik H,.int .i64 o] w (Made w H (bD H.toPar s o)):=by
 obtain⟨w0,hw0⟩:∃w0,w0=(w.alloc (Obj.cells #[.pointer (some ⟨H.g,0,none⟩),.pointer (some ⟨H.A.g,0,none⟩),.pointer (some ⟨H.qg,0,none⟩)] 327)).alloc (Obj.cells #[.int .i64 0,.int .u64 0,.int .u64 0] 37):=⟨_,rfl⟩
 have hB0:Below w.heap.size w w0:=by rw [hw0];exact aC _ _ _
 have hmk:Mk w0 w.heap.size H:=by rw [hw0];exact⟨by simp [go_sem],by simp [go_sem],by simp [go_sem]⟩
 have hz:Zc w0 (w.heap.size+1):=by rw [hw0];exact⟨⟨by simp [go_sem],by simp [go_sem]⟩,⟨by simp [go_sem],by simp [go_sem]⟩,⟨by simp [go_sem],by simp [go_sem]⟩⟩
 have hlt:=h.sj
 have hwr:∀k,H.Wr k->k<w.heap.size:=λk hk=>hlt k (Hd.dm hk)
 have HM:Hid (∀U,ah H.Wr w0 U->Mk U w.heap.size H/\Zc U (w.heap.size+1)):=λU hU=>⟨hmk.but hU (λe=>by have:=hwr _ e;omega),hz.but hU (λe=>by have:=hwr _ e;omega)⟩
 have y1:=hmk.c1
 have HO:=ab hlt
 have HT:=ab (h.later hB0)
 have PL:=ab hB0
 have HI:=ab (CQ (h.later hB0).cat.cm o)
 unfold bD ik;by_cases hn:0<jF s.X s.l o
 ·rw [if_pos hn]
  obtain⟨m,hm⟩:∃m:Nat,m=jF s.X s.l o:=⟨_,rfl⟩
  rw [<-hm] at HI hn;have hd:decide ((m:Int)>0)=true:=decide_eq_true (by omega)
  have hp:0<(m:Int):=by omega
  clear h hB0 hmk hz hlt hwr hf hm;go_enter Tryz.func256,Tryz.ntmps256
  go_upto_region 1 with fail
  rw [<-hw0];clear hw0;go_upto_region 2 with (first
   | (go_at_call 203;refine HI.out.mono ?_;rintro e w2 ⟨rfl,hb2⟩;have PB:=ab (aa PL.out hb2);have PQ:=ab (HT.out.later hb2);obtain⟨⟨v0,f0⟩,⟨v1,f1⟩,⟨v2,f2⟩⟩:=(HM.out w2 (ah.of hb2)).2;clear hb2))
  go_wp2_with (first
   | (go_at_call 314;refine (cj _ _ (by decide) _).mono ?_;unfold dI;rintro e w9 ⟨rfl,hw9⟩;obtain rfl:=hw9.symm;clear hw9))
  have HQ:=ab (bt v0 v1 v2 (.int .i64 0) (.int .u64 0) (.int .u64 0))
  obtain⟨hf1,hf2⟩:=Made.put (w1:=w) (b:=w.heap.size+1) PQ.out (ah.of PB.out) HO.out (by omega) (0,0,0)
  exact bodyPost_ret (v:=.tuple #[.agg #[.int .i64 0,.int .u64 0,.int .u64 0],dI _ _]) (by simp [results,Tryz.results256,go_sem,HQ.out.1,HQ.out.2.1,HQ.out.2.2];rfl) rfl ⟨⟨_,by rw [show (no s 19).code=19 from rfl,cP (by decide)];rfl⟩,hf1,hf2⟩
 ·rw [if_neg hn]
  obtain⟨R,hR⟩:∃R,R=fk H.toPar s o (cX H.toPar s.t) (-1) 31:=⟨_,rfl⟩
  have Tg:Hid (∀U,Below w.heap.size w U->Mk U w.heap.size H->Calls Tryz.prog 315 #[ik H,.int .i64 o,.func (.func 316) #[.pointer (some ⟨H.g,0,none⟩)] #[],.func (.func 317) #[] #[.pointer (some ⟨w.heap.size,0,none⟩)]] U (Made U H R)):=λU hU hmU=>by
   rw [hR];refine Fg (h.later hU) o ho (cX H.toPar s.t) ⟨(low s.l:Int),0,s.X.set (low s.l) (cap o (cX H.toPar s.t).1,31),s.l++[((low s.l:Int),-1)]⟩ w.heap.size (λV hV=>yC ((h.later hU).later hV)) (λhm hD=>⟨rfl,λV hV hT=>?_⟩)
   have:=DU hT (hmU.but hV (λe=>by have:=hwr _ (.inl e);omega)) (cap o (cX H.toPar s.t).1) (jm (gA hf s.t))
   rwa [show kf H.mo s.X s.l (cap o (cX H.toPar s.t).1) 31=_ from Bt hf hm hn] at this
  rw [<-hR];unfold ik at Tg;obtain⟨m,hm⟩:∃m:Nat,m=jF s.X s.l o:=⟨_,rfl⟩
  rw [<-hm] at HI hn;have hd:decide ((m:Int)>0)=false:=decide_eq_false (by omega)
  have hp:¬0<(m:Int):=by omega
  clear h hB0 hmk hz hlt hwr hf hm hR;go_enter Tryz.func256,Tryz.ntmps256
  go_upto_region 1 with fail
  rw [<-hw0];clear hw0;go_upto_region 3 with (first
   | (go_at_call 203;refine HI.out.mono ?_;rintro e w2 ⟨rfl,hb2⟩;have PB:=ab (aa PL.out hb2);have P1:=ab hb2;obtain⟨x0,x1,x2⟩:=(HM.out w2 (ah.of hb2)).1;clear hb2))
  go_wp2_with (first
   | (go_at_call 315;refine (Tg.out w2 PB.out (HM.out w2 (ah.of P1.out)).1).mono ?_;rintro e w3 ⟨⟨st,rfl⟩,ht3,hb3⟩;have PW:=ab ht3;have PE:=ab ((ah.of (S:=H.Wr) P1.out).trans hb3);obtain⟨⟨v0,f0⟩,⟨v1,f1⟩,⟨v2,f2⟩⟩:=(HM.out w3 PE.out).2;clear ht3 hb3))
  have HQ:=ab (bt v0 v1 v2 (.int .i64 R.c.1) (.int .u64 (R.c.2.1:Int)) (.int .u64 (R.c.2.2:Int)))
  obtain⟨hf1,hf2⟩:=Made.put (w1:=w) (b:=w.heap.size+1) PW.out ((ah.of PL.out).trans PE.out) HO.out (by omega) R.c
  exact bodyPost_ret (v:=.tuple #[.agg #[.int .i64 R.c.1,.int .u64 (R.c.2.1:Int),.int .u64 (R.c.2.2:Int)],mV st R.code]) (by simp [results,Tryz.results256,go_sem,HQ.out.1,HQ.out.2.1,HQ.out.2.2]) rfl ⟨⟨st,rfl⟩,hf1,hf2⟩
def dE (s:aP)(c:Cp)(r:Int):Int×Int:=if aR s.X s.l c=false then (0,3) else if aE 4 (eE s c)=false\/aE r (eE s c)=false then (0,4) else (aG s.X s.l c,0)
theorem xq (P:Par)(s:aP)(c:Cp)(r:Int):bs P s c r=if (dE s c r).2≠0 then no s (dE s c r).2 else fk P s c.1 (bg P s c.1) (aG s.X s.l c) r:=by
 unfold bs dE;by_cases h1:aR s.X s.l c=false
 ·simp only [if_pos h1];rfl
 ·simp only [if_neg h1]
  by_cases h2:aE 4 (eE s c)=false\/aE r (eE s c)=false
  ·simp only [if_pos h2];rfl
  ·simp only [if_neg h2];rfl
theorem DO {s:aP}{c:Cp}{r:Int}(h:(dE s c r).2=0):aR s.X s.l c=true/\aE r (eE s c)=true/\(dE s c r).1=aG s.X s.l c:=by
 unfold dE at h ⊢
 by_cases h1:aR s.X s.l c=false
 ·simp [if_pos h1] at h
 ·simp only [if_neg h1] at h ⊢
  by_cases h2:aE 4 (eE s c)=false\/aE r (eE s c)=false
  ·simp [if_pos h2] at h
  ·simp only [if_neg h2]
   refine⟨by simpa using h1,?_,trivial⟩
   cases hq:aE r (eE s c) with
   | true=>rfl
   | false=>exact absurd (.inr hq) h2
theorem aX (a b:Int)(w:World):Calls Tryz.prog 287 #[.int .i64 a,.int .i64 b] w λe w'=>e=.returned (.bool (aE b a))/\w'=w:=by
 have hp:=ab (eY b a)
 go_enter Tryz.func287,Tryz.ntmps287
 go_wp2_with (first|(go_at_call 279;refine (hp.out _).mono ?_;rintro e w9 ⟨rfl,hw9⟩;obtain rfl:=hw9.symm;clear hw9))
 go_ret;exact⟨rfl,rfl⟩
theorem lK {w:World}{H:Hd}{s:aP}(h:eM w H s)(c:Cp)(r:Int)(hw:c.2.1<aq/\c.2.2<aq) :
  Calls Tryz.prog 325 #[ik H,iu c,.int .i64 r] w λe w'=>(∃st,e=.returned (.tuple #[.int .i64 (dE s c r).1,mV st (dE s c r).2]))/\Below w.heap.size w w':=by
 obtain⟨o,hi,lo⟩:=c
 obtain⟨w0,hw0⟩:∃w0,w0=(w.alloc (Obj.cells #[.pointer (some ⟨H.g,0,none⟩),.pointer (some ⟨H.A.g,0,none⟩),.pointer (some ⟨H.qg,0,none⟩)] 327)).alloc (Obj.cells #[.int .i64 o,.int .u64 (hi:Int),.int .u64 (lo:Int)] 37):=⟨_,rfl⟩
 have hB0:Below w.heap.size w w0:=by rw [hw0];exact aC _ _ _
 have hmk:Mk w0 w.heap.size H:=by rw [hw0];exact⟨by simp [go_sem],by simp [go_sem],by simp [go_sem]⟩
 have x0:w0.cell? ⟨w.heap.size+1,0,none⟩=some (.int .i64 o):=by rw [hw0];simp [go_sem]
 have x1:w0.cell? ⟨w.heap.size+1,1,none⟩=some (.int .u64 (hi:Int)):=by rw [hw0];simp [go_sem]
 have x2:w0.cell? ⟨w.heap.size+1,2,none⟩=some (.int .u64 (lo:Int)):=by rw [hw0];simp [go_sem]
 have y1:=hmk.c1
 have HM:=ab hmk
 have HT:=ab (h.later hB0)
 have PL:=ab hB0
 have HF:=ab (gV (h.later hB0).cat (o,hi,lo) hw)
 unfold ik dE;by_cases hc:aR s.X s.l (o,hi,lo)=false
 ·rw [hc] at HF
  simp only [if_pos hc];obtain⟨m,hm⟩:∃m,m=aG s.X s.l (o,hi,lo):=⟨_,rfl⟩
  rw [<-hm] at HF;clear h hB0 hmk hc hm;go_enter Tryz.func325,Tryz.ntmps325
  go_upto_region 1 with fail
  rw [<-hw0];clear hw0;go_wp2_with (first
   | (go_at_call 314;refine (cj _ _ (by decide) _).mono ?_;unfold dI;rintro e w9 ⟨rfl,hw9⟩;obtain rfl:=hw9.symm;clear hw9)
   | (go_at_call 320;refine HF.out.mono ?_;rintro e w2 ⟨rfl,hb2⟩;have PB:=ab (aa PL.out hb2);clear hb2))
  exact bodyPost_ret (v:=.tuple #[.int .i64 0,dI _ _]) (by simp [results,Tryz.results325,go_sem];rfl) rfl ⟨⟨_,by rw [cP (by decide)]⟩,PB.out⟩
 ·have hc':aR s.X s.l (o,hi,lo)=true:=by simpa using hc
  rw [hc'] at HF;simp only [if_neg hc];obtain⟨hfn,hft⟩:=found h.cat.inv hc'
  obtain⟨p,hp⟩:=av.1 hfn
  have HA:=ab (λ(U:World) (hU:Below w.heap.size w U)=>lF (h.later hU).cat.cm (aG s.X s.l (o,hi,lo)) p hp)
  rw [hft] at HA;obtain⟨q,hq⟩:∃q,q=eE s (o,hi,lo):=⟨_,rfl⟩
  rw [<-hq];unfold eE at hq;rw [<-hq] at HA;obtain⟨m,hm⟩:∃m,m=aG s.X s.l (o,hi,lo):=⟨_,rfl⟩
  rw [<-hm] at HF HA;rw [<-hm];have HP:=ab (eY r q)
  have QN:=ab (aX q 4)
  have hcell:Hid (∀(U:World),(U.alloc (Obj.cells #[.int .i64 o,.int .u64 (hi:Int),.int .u64 (lo:Int),.int .i64 q,.int .i64 p] 74)).cell? ⟨U.heap.size,3,none⟩=some (.int .i64 q)):=λU=>by simp [go_sem]
  unfold mT at HA;clear h hB0 hmk hc hc' hm hq hft hfn hp;cases hp4:aE 4 q with
  | false =>
   rw [hp4] at QN;simp only [true_or,if_true];clear hp4;go_enter Tryz.func325,Tryz.ntmps325
   go_upto_region 1 with fail
   rw [<-hw0];clear hw0;go_upto_region 4 with (first
    | (go_at_call 320;refine HF.out.mono ?_;rintro e w2 ⟨rfl,hb2⟩;have PB:=ab (aa PL.out hb2);have z1:=(HM.out.later hb2).c1;clear hb2))
   go_wp2_with (first
    | (go_at_call 314;refine (cj _ _ (by decide) _).mono ?_;unfold dI;rintro e w9 ⟨rfl,hw9⟩;obtain rfl:=hw9.symm;clear hw9)
    | (go_at_call 287;refine (QN.out _).mono ?_;rintro e w9 ⟨rfl,hw9⟩;obtain rfl:=hw9.symm;clear hw9)
    | (go_at_call 197;refine (HA.out w2 PB.out).mono ?_;rintro e w3 ⟨rfl,hb3⟩;have PE:=ab (aa PB.out hb3);clear hb3))
   exact bodyPost_ret (v:=.tuple #[.int .i64 0,dI _ _]) (by simp [results,Tryz.results325,go_sem];rfl) rfl ⟨⟨_,by rw [cP (by decide)]⟩,PE.out.alloc PE.out.size _⟩
  | true =>
   rw [hp4] at QN;clear hp4;cases hpr:aE r q with
   | false =>
    rw [hpr] at HP;simp only [or_true,if_true];clear hpr;go_enter Tryz.func325,Tryz.ntmps325
    go_upto_region 1 with fail
    rw [<-hw0];clear hw0;go_upto_region 4 with (first
     | (go_at_call 320;refine HF.out.mono ?_;rintro e w2 ⟨rfl,hb2⟩;have PB:=ab (aa PL.out hb2);have z1:=(HM.out.later hb2).c1;clear hb2))
    go_wp2_with (first
     | (go_at_call 314;refine (cj _ _ (by decide) _).mono ?_;unfold dI;rintro e w9 ⟨rfl,hw9⟩;obtain rfl:=hw9.symm;clear hw9)
     | (go_at_call 279;refine (HP.out _).mono ?_;rintro e w9 ⟨rfl,hw9⟩;obtain rfl:=hw9.symm;clear hw9)
     | (go_at_call 287;refine (QN.out _).mono ?_;rintro e w9 ⟨rfl,hw9⟩;obtain rfl:=hw9.symm;clear hw9)
     | (go_at_call 197;refine (HA.out w2 PB.out).mono ?_;rintro e w3 ⟨rfl,hb3⟩;have PE:=ab (aa PB.out hb3);clear hb3))
    exact bodyPost_ret (v:=.tuple #[.int .i64 0,dI _ _]) (by simp [results,Tryz.results325,go_sem];rfl) rfl ⟨⟨_,by rw [cP (by decide)]⟩,PE.out.alloc PE.out.size _⟩
   | true =>
    rw [hpr] at HP;simp only [Bool.true_eq_false,or_false,if_false];clear hpr;go_enter Tryz.func325,Tryz.ntmps325
    go_upto_region 1 with fail
    rw [<-hw0];clear hw0;go_upto_region 4 with (first
     | (go_at_call 320;refine HF.out.mono ?_;rintro e w2 ⟨rfl,hb2⟩;have PB:=ab (aa PL.out hb2);have z1:=(HM.out.later hb2).c1;clear hb2))
    go_wp2_with (first
     | (go_at_call 279;refine (HP.out _).mono ?_;rintro e w9 ⟨rfl,hw9⟩;obtain rfl:=hw9.symm;clear hw9)
     | (go_at_call 287;refine (QN.out _).mono ?_;rintro e w9 ⟨rfl,hw9⟩;obtain rfl:=hw9.symm;clear hw9)
     | (go_at_call 197;refine (HA.out w2 PB.out).mono ?_;rintro e w3 ⟨rfl,hb3⟩;have PE:=ab (aa PB.out hb3);clear hb3))
    exact bodyPost_ret (v:=.tuple #[.int .i64 m,.nilIface]) (by simp [results,Tryz.results325,go_sem]) rfl ⟨⟨default,rfl⟩,PE.out.alloc PE.out.size _⟩
theorem sB {w:World}{H:Hd}{s:aP}(h:eM w H s)(hf:Fit H.toPar s)(c:Cp)(r:Int)(ho:(Lit.int .i64 c.1).wf=true)(hw:c.2.1<aq/\c.2.2<aq) :
  Calls Tryz.prog 263 #[ik H,iu c,.int .i64 r] w (Made w H (bs H.toPar s c r)):=by
 obtain⟨o,hi,lo⟩:=c
 obtain⟨w0,hw0⟩:∃w0,w0=(((w.alloc (Obj.cells #[.pointer (some ⟨H.g,0,none⟩),.pointer (some ⟨H.A.g,0,none⟩),.pointer (some ⟨H.qg,0,none⟩)] 327)).alloc (Obj.cells #[.int .i64 o,.int .u64 (hi:Int),.int .u64 (lo:Int)] 37)).alloc (Obj.cells #[.int .i64 r] 3)).alloc (Obj.cells #[.int .i64 0,.int .u64 0,.int .u64 0] 37):=⟨_,rfl⟩
 have hB0:Below w.heap.size w w0:=by rw [hw0];exact ((aC _ _ _).alloc (by simp;omega) _).alloc (by simp;omega) _
 have hmk:Mk w0 w.heap.size H:=by rw [hw0];exact⟨by simp [go_sem],by simp [go_sem],by simp [go_sem]⟩
 have hcw:Cw w0 (w.heap.size+1) (o,hi,lo):=by rw [hw0];exact⟨by simp [go_sem],by simp [go_sem],by simp [go_sem]⟩
 have hrr:w0.cell? ⟨w.heap.size+1+1,0,none⟩=some (.int .i64 r):=by rw [hw0];simp [go_sem]
 have hz:Zc w0 (w.heap.size+1+1+1):=by rw [hw0];exact⟨⟨by simp [go_sem],by simp [go_sem]⟩,⟨by simp [go_sem],by simp [go_sem]⟩,⟨by simp [go_sem],by simp [go_sem]⟩⟩
 have hs0:w0.heap.size=w.heap.size+1+1+1+1:=by rw [hw0];simp
 have hlt:=h.sj
 have hwr:∀k,H.Wr k->k<w.heap.size:=λk hk=>hlt k (Hd.dm hk)
 have HM:Hid (∀U,ah H.Wr w0 U->Mk U w.heap.size H/\Cw U (w.heap.size+1) (o,hi,lo)/\U.cell? ⟨w.heap.size+1+1,0,none⟩=some (.int .i64 r)/\Zc U (w.heap.size+1+1+1)):=λU hU=>⟨hmk.but hU (λe=>by have:=hwr _ e;omega),hcw.but hU (λe=>by have:=hwr _ e;omega),ag hU hrr (λe=>by have:=hwr _ e;simp at this;omega),hz.but hU (λe=>by have:=hwr _ e;omega)⟩
 obtain⟨x0,x1,x2⟩:=hmk
 obtain⟨y0,y1,y2⟩:=hcw
 have HO:=ab hlt
 have HT:=ab (h.later hB0)
 have PL:=ab hB0
 have P4:=ab hs0
 rw [xq];by_cases hn:(dE s (o,hi,lo) r).2=0
 ·rw [if_neg (by simp [hn])]
  obtain⟨k1,k2,k3⟩:=DO hn
  obtain⟨g1,g2⟩:=found h.cat.inv k1
  have QF:=ab (lK (h.later hB0) (o,hi,lo) r hw)
  rw [hn,k3] at QF;obtain⟨m,hm⟩:∃m,m=aG s.X s.l (o,hi,lo):=⟨_,rfl⟩
  rw [<-hm] at QF;rw [<-hm];obtain⟨R,hR⟩:∃R,R=fk H.toPar s o (bg H.toPar s o) m r:=⟨_,rfl⟩
  have Tg:Hid (∀(U:World) (nb:Nat),Below w.heap.size w U->Mk U w.heap.size H->U.cell? ⟨w.heap.size+1,0,none⟩=some (.int .i64 o)->U.cell? ⟨w.heap.size+1+1,0,none⟩=some (.int .i64 r)->U.cell? ⟨nb,0,none⟩=some (.int .i64 m)->w.heap.size<=nb->Calls Tryz.prog 315 #[ik H,.int .i64 o,.func (.func 326) #[] #[.pointer (some ⟨w.heap.size,0,none⟩),.pointer (some ⟨w.heap.size+1,0,none⟩)],.func (.func 328) #[] #[.pointer (some ⟨w.heap.size,0,none⟩),.pointer (some ⟨nb,0,none⟩),.pointer (some ⟨w.heap.size+1+1,0,none⟩)]] U (Made U H R)):=λU nb hU hmU hcU hrU hnU hnb=>by
   rw [hR];refine FR (h.later hU) o ho (bg H.toPar s o) ⟨(low s.l:Int),0,s.X.set (low s.l) (cap o (bg H.toPar s o).1,r),s.l++[((low s.l:Int),m)]⟩ w.heap.size (w.heap.size+1) nb (w.heap.size+1+1) (λV hV=>E8 ((h.later hU).later hV) hf.cs (hmU.later hV) o (cell_later hV hcU)) (λhm2 hD=>⟨rfl,λV hV hT=>?_⟩)
   have hg:∀k,w.heap.size<=k->¬k=H.g:=λk hk e=>by have:=hwr k (.inl e);omega
   have:=C8 hT (hmU.but hV (hg _ (Nat.le_refl _))) m r (ag hV hnU (hg _ hnb)) (ag hV hrU (hg _ (by simp;omega))) (cap o (bg H.toPar s o).1) (jm (gH hf.cs))
   rwa [show gy H.mo s.X s.l m (cap o (bg H.toPar s o).1) r=_ from xt hf hm2 (mj hf hD) (by rw [hm];exact g1) (by rw [hm];unfold ob;rw [g2]) (by rw [hm];exact k2)] at this
  rw [<-hR];unfold ik at Tg QF ⊢
  have hnil:∀st,mV st 0=.nilIface:=λst=>rfl
  simp only [hnil] at QF;clear h hB0 hlt hwr hf hm hR hz hrr hs0 hn k1 k2 k3 g1 g2 hnil;go_enter Tryz.func263,Tryz.ntmps263
  go_upto_region 1 with fail
  rw [<-hw0];clear hw0;have hrr:=(HM.out w0 (ah.refl _ _)).2.2.1
  go_upto_region 2 with (first
   | (go_at_call 325;refine QF.out.mono ?_;rintro e w2 ⟨⟨st0,rfl⟩,hb2⟩;have PB:=ab (aa PL.out hb2);have P1:=ab hb2;clear hb2))
  obtain⟨w3,hw3⟩:∃w3,w3=w2.alloc (Obj.cells #[.int .i64 m] 3):=⟨_,rfl⟩
  have hB3:Below w2.heap.size w2 w3:=by rw [hw3];exact ae _ _
  have hn3:w3.cell? ⟨w2.heap.size,0,none⟩=some (.int .i64 m):=by rw [hw3];simp [go_sem]
  have Rs:=ab (ah.of (S:=H.Wr) (aa P1.out hB3))
  have Qq:=ab (aa PB.out hB3)
  have Sj:=ab hn3
  have Ts:=ab PB.out.size
  obtain⟨⟨p0,p1,p2⟩,⟨q0,q1,q2⟩,q3,_⟩:=HM.out w3 Rs.out
  rw [<-hw3];clear hw3 hB3 hn3;go_upto_region 5 with fail
  go_wp2_with (first
   | (go_at_call 315;refine (Tg.out w3 w2.heap.size Qq.out (HM.out w3 Rs.out).1 q0 q3 Sj.out Ts.out).mono ?_;rintro e w4 ⟨⟨st,rfl⟩,ht4,hb4⟩;have Qm:=ab ht4;have PM:=ab (Rs.out.trans hb4);obtain⟨⟨v0,f0⟩,⟨v1,f1⟩,⟨v2,f2⟩⟩:=(HM.out w4 PM.out).2.2.2;clear ht4 hb4))
  have HQ:=ab (bt v0 v1 v2 (.int .i64 R.c.1) (.int .u64 (R.c.2.1:Int)) (.int .u64 (R.c.2.2:Int)))
  obtain⟨hf1,hf2⟩:=Made.put (w1:=w) (b:=w.heap.size+1+1+1) Qm.out ((ah.of PL.out).trans PM.out) HO.out (by omega) R.c
  exact bodyPost_ret (v:=.tuple #[.agg #[.int .i64 R.c.1,.int .u64 (R.c.2.1:Int),.int .u64 (R.c.2.2:Int)],mV st R.code]) (by simp [results,Tryz.results263,go_sem,HQ.out.1,HQ.out.2.1,HQ.out.2.2]) rfl ⟨⟨st,rfl⟩,hf1,hf2⟩
 ·rw [if_pos hn]
  have QF:=ab (lK (h.later hB0) (o,hi,lo) r hw)
  obtain⟨m,hm⟩:∃m,m=(dE s (o,hi,lo) r).2:=⟨_,rfl⟩
  obtain⟨m1,hm1⟩:∃m,m=(dE s (o,hi,lo) r).1:=⟨_,rfl⟩
  rw [<-hm] at QF hn;rw [<-hm1] at QF;rw [<-hm];have Rm:=ab hn
  simp only [cP hn] at QF;unfold dI at QF;unfold ik at QF ⊢
  clear h hB0 hlt hwr hf hm hm1 hz hrr hs0 hn;go_enter Tryz.func263,Tryz.ntmps263
  go_upto_region 1 with fail
  rw [<-hw0];clear hw0;have hrr:=(HM.out w0 (ah.refl _ _)).2.2.1
  go_upto_region 2 with (first
   | (go_at_call 325;refine QF.out.mono ?_;rintro e w2 ⟨⟨st0,rfl⟩,hb2⟩;have PB:=ab (aa PL.out hb2);have P1:=ab hb2;clear hb2))
  obtain⟨w3,hw3⟩:∃w3,w3=w2.alloc (Obj.cells #[.int .i64 m1] 3):=⟨_,rfl⟩
  have hB3:Below w2.heap.size w2 w3:=by rw [hw3];exact ae _ _
  have Rs:=ab (ah.of (S:=H.Wr) (aa P1.out hB3))
  have PW:=ab (HT.out.later (aa P1.out hB3))
  obtain⟨⟨v0,f0⟩,⟨v1,f1⟩,⟨v2,f2⟩⟩:=(HM.out w3 Rs.out).2.2.2
  rw [<-hw3];clear hw3 hB3;go_wp2;have HQ:=ab (bt v0 v1 v2 (.int .i64 0) (.int .u64 0) (.int .u64 0))
  obtain⟨hf1,hf2⟩:=Made.put (w1:=w) (b:=w.heap.size+1+1+1) PW.out ((ah.of PL.out).trans Rs.out) HO.out (by omega) (0,0,0)
  exact bodyPost_ret (v:=.tuple #[.agg #[.int .i64 0,.int .u64 0,.int .u64 0],dI st0 m]) (by simp [results,Tryz.results263,go_sem,HQ.out.1,HQ.out.2.1,HQ.out.2.2];rfl) rfl ⟨⟨st0,by rw [show (no s m).code=m from rfl,cP Rm.out];rfl⟩,hf1,hf2⟩
def IQ (w:World)(H:Hd)(R:rY)(e:Ending)(w':World):Prop :=
 e=.returned (.tuple #[iu R.c,.int .i64 R.code])/\eM w' H R.s/\ah H.Wr w w'
theorem gG {w:World}{H:Hd}{s:aP}(h:eM w H s)(hf:Fit H.toPar s)(o:Int)(ho:(Lit.int .i64 o).wf=true) :
  Calls Tryz.prog 180 #[.pointer (some ⟨H.g,0,none⟩),.pointer (some ⟨H.A.g,0,none⟩),.pointer (some ⟨H.qg,0,none⟩),.int .i64 o] w (IQ w H (bD H.toPar s o)):=by
 have hB0:=ae w (Obj.cells #[.int .i64 0,.int .u64 0,.int .u64 0] 37)
 have hz:=Zc.FJ w
 have hlt:=h.sj
 have hwr:∀k,H.Wr k->k<w.heap.size:=λk hk=>hlt k (Hd.dm hk)
 have HZ:Hid (∀U,ah H.Wr (w.alloc (Obj.cells #[.int .i64 0,.int .u64 0,.int .u64 0] 37)) U->Zc U w.heap.size):=λU hU=>hz.but hU (λe=>by have:=hwr _ e;omega)
 have HO:=ab hlt
 have PL:=ab hB0
 have HK:=ab (wa (h.later hB0) hf o ho)
 unfold ik at HK;generalize bD H.toPar s o=R at *
 clear h hB0 hz hlt hwr hf;go_enter Tryz.func180,Tryz.ntmps180
 go_upto_region 2 with (first
  | (go_at_call 256;refine HK.out.mono ?_;rintro e w2 ⟨⟨st,rfl⟩,ht2,hb2⟩;have PQ:=ab ht2;have PB:=ab hb2;clear ht2 hb2))
 obtain⟨v,hv⟩:∃v,v=w2.alloc (Obj.cells #[.int .i64 R.c.1,.int .u64 (R.c.2.1:Int),.int .u64 (R.c.2.2:Int)] 37):=⟨_,rfl⟩
 have hBv:Below w2.heap.size w2 v:=by rw [hv];exact ae _ _
 have hcw:Cw v w2.heap.size R.c:=by rw [hv];exact⟨by simp [go_sem],by simp [go_sem],by simp [go_sem]⟩
 have hs2:w.heap.size<w2.heap.size:=by have:=PB.out.size;simp at this;omega
 have Sn:=ab (PQ.out.later hBv)
 have Qc:=ab (PB.out.call hBv)
 have HN:=ab (λ(U:World) (hU:Below v.heap.size v U)=>my st R.code U (Sn.out.laid.later hU))
 have HL:Hid (∀U,Below v.heap.size v U->Zc U w.heap.size):=λU hU=>HZ.out U (Qc.out.call hU)
 have HS:Hid (∀U,ah (·=w.heap.size) v U->(U.cell? ⟨w2.heap.size,0,none⟩=some (.int .i64 R.c.1)/\U.cell? ⟨w2.heap.size,1,none⟩=some (.int .u64 (R.c.2.1:Int))/\U.cell? ⟨w2.heap.size,2,none⟩=some (.int .u64 (R.c.2.2:Int)))/\ah (·=w.heap.size) v U):=λU hU=>by
  obtain⟨q0,q1,q2⟩:=hcw.but hU (λe=>by omega)
  exact⟨⟨q0,q1,q2⟩,hU⟩
 rw [<-hv];clear hv hBv hcw hs2;go_region_held3 (λU=>(U.cell? ⟨w2.heap.size,0,none⟩=some (.int .i64 R.c.1)/\U.cell? ⟨w2.heap.size,1,none⟩=some (.int .u64 (R.c.2.1:Int))/\U.cell? ⟨w2.heap.size,2,none⟩=some (.int .u64 (R.c.2.2:Int)))/\ah (·=w.heap.size) v U) (first|exact HS.out _ (ah.of (Below.refl _ _).drew)|exact HS.out _ ((And.right (by assumption):ah (·=w.heap.size) v v.drew).call hb9)|exact HS.out _ ((((And.right (by assumption):ah (·=w.heap.size) v w9).own _ _).own _ _).own _ _)) (first|(go_at_call 257;refine (HN.out _ (Below.refl _ _).drew).mono ?_;rintro e w9 ⟨rfl,hb9⟩;have PK:=ab (aa (Below.refl v.heap.size v).drew hb9);obtain⟨⟨v0,f0⟩,⟨v1,f1⟩,⟨v2,f2⟩⟩:=HL.out w9 PK.out))
 go_wp2;have HQ:=ab (bt v0 v1 v2 (.int .i64 R.c.1) (.int .u64 (R.c.2.1:Int)) (.int .u64 (R.c.2.2:Int)))
 obtain⟨hf1,hf2⟩:=Made.put (w1:=w) (b:=w.heap.size) (Sn.out.later PK.out) (((ah.of PL.out).trans Qc.out).call PK.out) HO.out (Nat.le_refl _) R.c
 exact bodyPost_ret (v:=.tuple #[.agg #[.int .i64 R.c.1,.int .u64 (R.c.2.1:Int),.int .u64 (R.c.2.2:Int)],.int .i64 R.code]) (by simp [results,Tryz.results180,go_sem,HQ.out.1,HQ.out.2.1,HQ.out.2.2]) rfl ⟨rfl,hf1,hf2⟩
theorem sr {w:World}{H:Hd}{s:aP}(h:eM w H s)(hf:Fit H.toPar s)(c:Cp)(r:Int)(ho:(Lit.int .i64 c.1).wf=true)(hw:c.2.1<aq/\c.2.2<aq) :
  Calls Tryz.prog 184 #[.pointer (some ⟨H.g,0,none⟩),.pointer (some ⟨H.A.g,0,none⟩),.pointer (some ⟨H.qg,0,none⟩),iu c,.int .i64 r] w (IQ w H (bs H.toPar s c r)):=by
 obtain⟨o,hi,lo⟩:=c
 obtain⟨w0,hw0⟩:∃w0,w0=(w.alloc (Obj.cells #[.int .i64 o,.int .u64 (hi:Int),.int .u64 (lo:Int)] 37)).alloc (Obj.cells #[.int .i64 0,.int .u64 0,.int .u64 0] 37):=⟨_,rfl⟩
 have hB0:Below w.heap.size w w0:=by rw [hw0];exact aC _ _ _
 have x0:w0.cell? ⟨w.heap.size,0,none⟩=some (.int .i64 o):=by rw [hw0];simp [go_sem]
 have x1:w0.cell? ⟨w.heap.size,1,none⟩=some (.int .u64 (hi:Int)):=by rw [hw0];simp [go_sem]
 have x2:w0.cell? ⟨w.heap.size,2,none⟩=some (.int .u64 (lo:Int)):=by rw [hw0];simp [go_sem]
 have hz:Zc w0 (w.heap.size+1):=by rw [hw0];exact⟨⟨by simp [go_sem],by simp [go_sem]⟩,⟨by simp [go_sem],by simp [go_sem]⟩,⟨by simp [go_sem],by simp [go_sem]⟩⟩
 have hs0:w0.heap.size=w.heap.size+1+1:=by rw [hw0];simp
 have hlt:=h.sj
 have hwr:∀k,H.Wr k->k<w.heap.size:=λk hk=>hlt k (Hd.dm hk)
 have HZ:Hid (∀U,ah H.Wr w0 U->Zc U (w.heap.size+1)):=λU hU=>hz.but hU (λe=>by have:=hwr _ e;omega)
 have HO:=ab hlt
 have PL:=ab hB0
 have P4:=ab hs0
 have HK:=ab (sB (h.later hB0) hf (o,hi,lo) r ho hw)
 unfold ik at HK;generalize bs H.toPar s (o,hi,lo) r=R at *
 clear h hB0 hz hlt hwr hf hs0;go_enter Tryz.func184,Tryz.ntmps184
 go_upto_region 1 with fail
 rw [<-hw0];clear hw0;go_upto_region 2 with (first
  | (go_at_call 263;refine HK.out.mono ?_;rintro e w2 ⟨⟨st,rfl⟩,ht2,hb2⟩;have PQ:=ab ht2;have PB:=ab hb2;clear ht2 hb2))
 obtain⟨v,hv⟩:∃v,v=w2.alloc (Obj.cells #[.int .i64 R.c.1,.int .u64 (R.c.2.1:Int),.int .u64 (R.c.2.2:Int)] 37):=⟨_,rfl⟩
 have hBv:Below w2.heap.size w2 v:=by rw [hv];exact ae _ _
 have hcw:Cw v w2.heap.size R.c:=by rw [hv];exact⟨by simp [go_sem],by simp [go_sem],by simp [go_sem]⟩
 have hs2:w.heap.size+1<w2.heap.size:=by have:=PB.out.size;have:=P4.out;omega
 have Sn:=ab (PQ.out.later hBv)
 have Qc:=ab (PB.out.call hBv)
 have HN:=ab (λ(U:World) (hU:Below v.heap.size v U)=>my st R.code U (Sn.out.laid.later hU))
 have HL:Hid (∀U,Below v.heap.size v U->Zc U (w.heap.size+1)):=λU hU=>HZ.out U (Qc.out.call hU)
 have HS:Hid (∀U,ah (·=w.heap.size+1) v U->(U.cell? ⟨w2.heap.size,0,none⟩=some (.int .i64 R.c.1)/\U.cell? ⟨w2.heap.size,1,none⟩=some (.int .u64 (R.c.2.1:Int))/\U.cell? ⟨w2.heap.size,2,none⟩=some (.int .u64 (R.c.2.2:Int)))/\ah (·=w.heap.size+1) v U):=λU hU=>by
  obtain⟨q0,q1,q2⟩:=hcw.but hU (λe=>by omega)
  exact⟨⟨q0,q1,q2⟩,hU⟩
 rw [<-hv];clear hv hBv hcw hs2;go_region_held3 (λU=>(U.cell? ⟨w2.heap.size,0,none⟩=some (.int .i64 R.c.1)/\U.cell? ⟨w2.heap.size,1,none⟩=some (.int .u64 (R.c.2.1:Int))/\U.cell? ⟨w2.heap.size,2,none⟩=some (.int .u64 (R.c.2.2:Int)))/\ah (·=w.heap.size+1) v U) (first|exact HS.out _ (ah.of (Below.refl _ _).drew)|exact HS.out _ ((And.right (by assumption):ah (·=w.heap.size+1) v v.drew).call hb9)|exact HS.out _ ((((And.right (by assumption):ah (·=w.heap.size+1) v w9).own _ _).own _ _).own _ _)) (first|(go_at_call 257;refine (HN.out _ (Below.refl _ _).drew).mono ?_;rintro e w9 ⟨rfl,hb9⟩;have PK:=ab (aa (Below.refl v.heap.size v).drew hb9);obtain⟨⟨v0,f0⟩,⟨v1,f1⟩,⟨v2,f2⟩⟩:=HL.out w9 PK.out))
 go_wp2;have HQ:=ab (bt v0 v1 v2 (.int .i64 R.c.1) (.int .u64 (R.c.2.1:Int)) (.int .u64 (R.c.2.2:Int)))
 obtain⟨hf1,hf2⟩:=Made.put (w1:=w) (b:=w.heap.size+1) (Sn.out.later PK.out) (((ah.of PL.out).trans Qc.out).call PK.out) HO.out (by omega) R.c
 exact bodyPost_ret (v:=.tuple #[.agg #[.int .i64 R.c.1,.int .u64 (R.c.2.1:Int),.int .u64 (R.c.2.2:Int)],.int .i64 R.code]) (by simp [results,Tryz.results184,go_sem,HQ.out.1,HQ.out.2.1,HQ.out.2.2]) rfl ⟨rfl,hf1,hf2⟩
end Go.Proofs.YtffmodpgddecnaaGreatDoor.D
namespace Go.Proofs.YtffmodpgddecnaaGreatDoor.K
open Go.RowKit
abbrev Cp:=Int×Nat×Nat
theorem kI {α:Type}{enc:α->List Value}{k:Nat}(hk:∀x,(enc x).length=k)(K:List α)(i c:Nat)(x:α)(hi:K[i]?=some x)(hc:c<k):(K.flatMap enc)[i*k+c]?=(enc x)[c]?:=by
 induction K generalizing i with
 | nil=>cases hi
 | cons a r ih =>
  rw [List.flatMap_cons];cases i with
  | zero =>
   simp at hi
   subst hi;rw [Nat.zero_mul,Nat.zero_add,List.getElem?_append_left (by rw [hk];exact hc)]
  | succ i =>
   rw [List.getElem?_append_right (by rw [hk,Nat.add_mul];omega),hk]
   have:(i+1)*k+c - k=i*k+c:=by rw [Nat.add_mul];omega
   rw [this];exact ih i (by simpa using hi)
def rW (a b c d e f:Int):Bool:=decide (a=d/\b=e/\c=f)
theorem xw (a b c d e f:Int)(w:World):(binOp .eql 37 (.agg #[.int .i64 a,.int .u64 b,.int .u64 c]) (.agg #[.int .i64 d,.int .u64 e,.int .u64 f])).run Tryz.prog w=.ok (.bool (rW a b c d e f)) w:=by
 unfold rW;by_cases h1:a=d
 ·subst h1
  by_cases h2:b=e
  ·subst h2
   by_cases h3:c=f
   ·subst h3;simp [go_sem]
   ·simp [go_sem,h3]
  ·simp [go_sem,h2]
 ·simp [go_sem,h1]
def aq:Nat:=18446744073709551616
def KF:Nat:=11400714819323198485
def jX (h:Nat):Nat:=h*KF%aq
def p_ (h:Nat):Nat:=h ^^^ (h / 2 ^ 29)
def cL (h v:Nat):Nat:=p_ (jX (h ^^^ v))
def eu (o a b:Nat):Nat:=cL (cL (cL 5903417616801668165 o) a) b
def cR (h:Nat)(k:Int):Nat:=if k<=0 then 0 else if 64<=k then h else h%2 ^ k.toNat
theorem uj {a b:Nat}(ha:a<aq)(hb:b<aq):a ^^^ b<aq:=Nat.xor_lt_two_pow (n:=64) ha hb
theorem ft (h:Nat):jX h<aq:=Nat.mod_lt _ (by decide)
theorem lL {h:Nat}(hh:h<aq):p_ h<aq:=uj hh (Nat.lt_of_le_of_lt (Nat.div_le_self _ _) hh)
theorem eB (h v:Nat):cL h v<aq:=lL (ft _)
theorem gz (o a b:Nat):eu o a b<aq:=eB _ _
theorem oQ {h:Nat}(k:Int)(hh:h<aq):cR h k<aq:=by
 unfold cR;split
 ·decide
 ·split
  ·exact hh
  ·exact Nat.lt_of_le_of_lt (Nat.mod_le _ _) hh
end Go.Proofs.YtffmodpgddecnaaGreatDoor.K
