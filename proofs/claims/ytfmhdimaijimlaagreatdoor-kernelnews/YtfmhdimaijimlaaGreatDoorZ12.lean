import Derived.Test.YtfmhdimaijimlaaGreatDoorZ11
set_option linter.all false
set_option maxRecDepth 1000000
set_option maxHeartbeats 8000000
open Go.Proofs.Tryz
variable {w w' w1 w2:Go.World}{n m k i j b g base kn:Nat}{a:Option Go.Addr}
namespace Go.Proofs.YtfmhdimaijimlaaGreatDoor.D
open Go.RowKit
open Go.Proofs.YtfmhdimaijimlaaGreatDoor.H (ak Cp)
theorem bQ (s:ByteArray)(c:Int)(hc:c≠0)(w:World):Calls prog 190 #[.string s,.int .i64 c] w λe w'=>e=.returned (dN s c)/\w'=w:=by
 have:=ka s c w
 rwa [cz hc] at this
theorem bK (s:ByteArray)(w:World):Calls prog 190 #[.string s,.int .i64 0] w λe w'=>e=.returned .nilIface/\w'=w:=ka s 0 w
theorem a7 {v0 v1 v2:Value}(h0:w.cell? ⟨b,0,none⟩=some v0)(h1:w.cell? ⟨b,1,none⟩=some v1)(h2:w.cell? ⟨b,2,none⟩=some v2)(x y z:Value) :
  (w.setCell ⟨b,0,none⟩ x).cell? ⟨b,0,none⟩=some x/\((w.setCell ⟨b,0,none⟩ x).setCell ⟨b,1,none⟩ y).cell? ⟨b,1,none⟩=some y/\(((w.setCell ⟨b,0,none⟩ x).setCell ⟨b,1,none⟩ y).setCell ⟨b,2,none⟩ z).cell? ⟨b,2,none⟩=some z :=
 ⟨World.cell?_setCell_same _ _ _ h0,World.cell?_setCell_same _ _ _ (aQ h1 (by omega)),World.cell?_setCell_same _ _ _ (aQ (aQ h2 (by omega)) (by omega))⟩
def Made (w:World)(H:Hd)(R:su)(e:Ending)(w':World):Prop :=
 (∃st,e=.returned (.tuple #[ir R.c,nk st R.code]))/\eQ w' H R.s/\ae H.Wr w w'
structure Zc (w:World)(b:Nat):Prop where
 c0:aq w ⟨b,0,none⟩ (.int .i64 0)
 c1:aq w ⟨b,1,none⟩ (.int .u64 0)
 c2:aq w ⟨b,2,none⟩ (.int .u64 0)
theorem Zc.but {S:Nat->Prop}(h:Zc w b)(hb:ae S w w')(hn:¬S b):Zc w' b:=⟨h.c0.but hb hn,h.c1.but hb hn,h.c2.but hb hn⟩
theorem Zc.G6 (w:World):Zc (w.alloc (Obj.cells #[.int .i64 0,.int .u64 0,.int .u64 0] 38)) w.heap.size:=⟨⟨by simp [go_sem],by simp [go_sem]⟩,⟨by simp [go_sem],by simp [go_sem]⟩,⟨by simp [go_sem],by simp [go_sem]⟩⟩
structure Cw (w:World)(b:Nat)(c:Cp):Prop where
 c0:w.cell? ⟨b,0,none⟩=some (.int .i64 c.1)
 c1:w.cell? ⟨b,1,none⟩=some (.int .u64 (c.2.1:Int))
 c2:w.cell? ⟨b,2,none⟩=some (.int .u64 (c.2.2:Int))
theorem Cw.but {S:Nat->Prop}{c:Cp}(h:Cw w b c)(hb:ae S w w')(hn:¬S b):Cw w' b c:=⟨aC hb h.c0 hn,aC hb h.c1 hn,aC hb h.c2 hn⟩
theorem Made.put {w w1 w2:World}{H:Hd}{s:aI}{b:Nat}(ht:eQ w2 H s)(hb:ae H.Wr w w2)(ho:∀k,H.jC k->k<w.heap.size)(hl:w.heap.size<=b)(c:Cp) :
  eQ (((w2.setCell ⟨b,0,none⟩ (.int .i64 c.1)).setCell ⟨b,1,none⟩ (.int .u64 (c.2.1:Int))).setCell ⟨b,2,none⟩ (.int .u64 (c.2.2:Int))) H s/\ae H.Wr w (((w2.setCell ⟨b,0,none⟩ (.int .i64 c.1)).setCell ⟨b,1,none⟩ (.int .u64 (c.2.1:Int))).setCell ⟨b,2,none⟩ (.int .u64 (c.2.2:Int))) :=
 have ho':∀k,H.jC k->k<b:=λk hk=>Nat.lt_of_lt_of_le (ho k hk) hl
 ⟨((ht.own ho' 0 _).own ho' 1 _).own ho' 2 _,((hb.put (p:=⟨b,0,none⟩) hl _).put (p:=⟨b,1,none⟩) hl _).put (p:=⟨b,2,none⟩) hl _⟩
theorem Gh {H:Hd}{s:aI}(h:eQ w H s)(o:Int)(ho:(Lit.int .i64 o).wf=true)(D:Nat×Int×Nat)(R:EW)(mk:Nat)
  (hd:∀U,Below w.heap.size w U->Calls prog 192 #[.pointer (some ⟨H.g,0,none⟩)] U (p5 U H s D))
  (he:Q.may H.e H.a s.L o=0->D.2.1=0->R.code=0/\∀U,ae (·=H.g) w U->eQ U H { s with t:=D.2.2 }->Calls prog 193 #[ir (cap o D.1),.pointer (some ⟨mk,0,none⟩)] U (gU U H { s with t:=D.2.2 } R)) :
  Calls prog 191 #[il H,.int .i64 o,.func (.func 192) #[.pointer (some ⟨H.g,0,none⟩)] #[],.func (.func 193) #[] #[.pointer (some ⟨mk,0,none⟩)]] w
   (Made w H (if Q.may H.e H.a s.L o≠0 then no s (Q.may H.e H.a s.L o) else if D.2.1≠0 then no { s with t:=D.2.2 } D.2.1 else ⟨cap o D.1,0,⟨R.X,R.l,s.L++[o],D.2.2⟩⟩)):=by
 obtain⟨w0,hw0⟩:∃w0,w0=(w.alloc (Obj.cells #[.pointer (some ⟨H.g,0,none⟩),.pointer (some ⟨H.A.g,0,none⟩),.pointer (some ⟨H.qg,0,none⟩)] 250)).alloc (Obj.cells #[.int .i64 0,.int .u64 0,.int .u64 0] 38):=⟨_,rfl⟩
 have hB0:Below w.heap.size w w0:=by rw [hw0];exact aw _ _ _
 have hmk:Mk w0 w.heap.size H:=by rw [hw0];exact⟨by simp [go_sem],by simp [go_sem],by simp [go_sem]⟩
 have hz:Zc w0 (w.heap.size+1):=by rw [hw0];exact⟨⟨by simp [go_sem],by simp [go_sem]⟩,⟨by simp [go_sem],by simp [go_sem]⟩,⟨by simp [go_sem],by simp [go_sem]⟩⟩
 have hlt:=h.uh
 have hwr:∀k,H.Wr k->k<w.heap.size:=λk hk=>hlt k (Hd.dk hk)
 have HM:Hid (∀U,ae H.Wr w0 U->U.cell? ⟨w.heap.size,2,none⟩=some (.pointer (some ⟨H.qg,0,none⟩))/\Zc U (w.heap.size+1)):=λU hU=>⟨(hmk.but hU (λe=>by have:=hwr _ e;omega)).c2,hz.but hU (λe=>by have:=hwr _ e;omega)⟩
 have y2:=hmk.c2
 have HZ:=aa hz
 have HO:=aa hlt
 have HW:=aa hwr
 have HT:=aa (h.later hB0)
 have HB0:=aa hB0
 have HMa:=aa (Q.g8 (h.later hB0).qu o ho)
 have HD:=aa hd
 clear h hB0 hmk hz hlt hwr hd
 unfold il
 by_cases hm:Q.may H.e H.a s.L o=0
 ·rw [if_neg (by simp [hm])]
  rw [hm] at HMa
  by_cases hD:D.2.1=0
  ·rw [if_neg (by simp [hD])]
   obtain⟨hR,hE⟩:=he hm hD
   have HE:=aa hE
   have HRc:=aa hR
   have HAd:Hid (∀(U:World) (X:List Tk) (l:Fo) (t:Nat),eQ U H ⟨X,l,s.L,t⟩->Calls prog 125 #[.pointer (some ⟨H.qg,0,none⟩),.int .i64 o] U λr w'=>r=.returned (.int .i64 0)/\Q.Qu w' H.qg H.qb H.e H.a (s.L++[o])/\ae (λk=>k=H.qb) U w'):=λU X l t hT=>by
    have:=Q.jo hT.qu o ho
    unfold Q.pW at this
    simp only [hm,if_true] at this
    exact this
   clear he hE hm hR
   unfold p5 at HD
   rw [hD] at HD
   clear hD
   unfold gU at HE
   rw [HRc.o] at HE
   go_enter func191,ntmps191
   go_upto_region 1 with fail
   rw [<-hw0]
   clear hw0
   go_upto_region 4 with (first
    | (go_at_call 190;refine (bK _ _).mono ?_;rintro e w9 ⟨rfl,hw9⟩;obtain rfl:=hw9.symm;clear hw9)
    | (go_at_call 177;refine HMa.o.mono ?_;rintro e w2 ⟨rfl,hb2⟩;have HB2:=aa (al HB0.o hb2);have HC2:=aa hb2;have HT2:=aa (HT.o.later hb2);clear hb2))
   go_upto_region 9 with (first
    | (go_at_call 190;refine (bK _ _).mono ?_;rintro e w9 ⟨rfl,hw9⟩;obtain rfl:=hw9.symm;clear hw9)
    | (go_at_call 192;refine (HD.o w2 HB2.o).mono ?_;rintro e w3 ⟨rfl,ht3,hb3⟩;have HT3:=aa ht3;have HB3:=aa ((ae.of (S:=H.Wr) HC2.o).trans (ae.Jp hb3));have HG3:=aa ((ae.of HB2.o).trans hb3);clear ht3 hb3))
   obtain⟨w4,hw4⟩:∃w4,w4=(w3.alloc (Obj.cells #[.int .u64 (cR D.1),.int .u64 (cT D.1)] 31)).alloc (Obj.cells #[.int .i64 o,.int .u64 (cR D.1),.int .u64 (cT D.1)] 38):=⟨_,rfl⟩
   have hB4:Below w3.heap.size w3 w4:=by rw [hw4];exact aw _ _ _
   have hc4:Cw w4 (w3.heap.size+1) (cap o D.1):=by rw [hw4];exact⟨by simp [go_sem,cap],by simp [go_sem,cap,cR],by simp [go_sem,cap,cT]⟩
   have hs3:w.heap.size<=w3.heap.size:=Nat.le_trans HB0.o.size HB3.o.size
   have HY:Hid (∀U,ae H.Wr w4 U->Cw U (w3.heap.size+1) (cap o D.1)):=λU hU=>hc4.but hU (λe=>by have:=HW.o _ e;omega)
   have z0:w4.cell? ⟨w3.heap.size+1,0,none⟩=some (.int .i64 o):=hc4.c0
   have z1:w4.cell? ⟨w3.heap.size+1,1,none⟩=some (.int .u64 (cR D.1)):=hc4.c1
   have z2:w4.cell? ⟨w3.heap.size+1,2,none⟩=some (.int .u64 (cT D.1)):=hc4.c2
   have HT4:=aa (HT3.o.later hB4)
   have HB4:=aa (HB3.o.call hB4)
   have HG4:=aa (HG3.o.call hB4)
   have HE4:Hid (Calls prog 193 #[.agg #[.int .i64 o,.int .u64 (cR D.1),.int .u64 (cT D.1)],.pointer (some ⟨mk,0,none⟩)] w4 _):=HE.o w4 HG4.o HT4.o
   clear hB4 hc4 hs3
   rw [<-hw4]
   clear hw4
   go_upto_region 14 with (first
    | (go_at_call 125;refine (HAd.o w5 R.X R.l D.2.2 HT5.o).mono ?_;rintro e w6 ⟨rfl,hq6,hb6⟩;have HT6:=aa (HT5.o.count hb6 hq6);have HB6:=aa (HB5.o.trans (ae.Ji hb6));have HC6:=aa (HC5.o.trans (ae.Ji hb6));clear hq6 hb6;obtain⟨u0,u1,u2⟩:=HY.o w6 HC6.o;obtain⟨⟨v0,f0⟩,⟨v1,f1⟩,⟨v2,f2⟩⟩:=(HM.o w6 HB6.o).2)
    | (go_at_call 190;refine (bK _ _).mono ?_;rintro e w9 ⟨rfl,hw9⟩;obtain rfl:=hw9.symm;clear hw9)
    | (go_at_call 193;refine HE4.o.mono ?_;rintro e w5 ⟨rfl,ht5,hb5⟩;have HT5:=aa ht5;have HB5:=aa (HB4.o.trans (ae.Jl hb5));have HC5:=aa (ae.Jl (H:=H) hb5);clear ht5 hb5;have y5:=(HM.o w5 HB5.o).1))
   have u0':w6.cell? ⟨w3.heap.size+1,0,none⟩=some (.int .i64 o):=u0
   have u1':w6.cell? ⟨w3.heap.size+1,1,none⟩=some (.int .u64 (cR D.1)):=u1
   have u2':w6.cell? ⟨w3.heap.size+1,2,none⟩=some (.int .u64 (cT D.1)):=u2
   clear u0 u1 u2
   go_wp2
   have HQ:=aa (a7 v0 v1 v2 (.int .i64 o) (.int .u64 (cR D.1)) (.int .u64 (cT D.1)))
   obtain⟨hf1,hf2⟩:=Made.put (w1:=w) (b:=w.heap.size+1) HT6.o ((ae.of HB0.o).trans HB6.o) HO.o (by omega) (cap o D.1)
   exact bodyPost_ret (v:=.tuple #[.agg #[.int .i64 o,.int .u64 (cR D.1),.int .u64 (cT D.1)],.nilIface]) (by simp [results,results191,go_sem,HQ.o.1,HQ.o.2.1,HQ.o.2.2]) rfl ⟨⟨default,rfl⟩,hf1,hf2⟩
  ·rw [if_pos hD]
   have HDn:=aa hD
   unfold p5 at HD
   clear he hm hD
   go_enter func191,ntmps191
   go_upto_region 1 with fail
   rw [<-hw0]
   clear hw0
   go_upto_region 4 with (first
    | (go_at_call 190;refine (bK _ _).mono ?_;rintro e w9 ⟨rfl,hw9⟩;obtain rfl:=hw9.symm;clear hw9)
    | (go_at_call 177;refine HMa.o.mono ?_;rintro e w2 ⟨rfl,hb2⟩;have HB2:=aa (al HB0.o hb2);have HC2:=aa hb2;have HT2:=aa (HT.o.later hb2);clear hb2))
   go_upto_region 7 with (first
    | (go_at_call 190;refine (bQ _ _ HDn.o _).mono ?_;unfold dN;rintro e w9 ⟨rfl,hw9⟩;obtain rfl:=hw9.symm;clear hw9)
    | (go_at_call 192;refine (HD.o w2 HB2.o).mono ?_;rintro e w3 ⟨rfl,ht3,hb3⟩;have HT3:=aa ht3;have HB3:=aa ((ae.of (S:=H.Wr) HC2.o).trans (ae.Jp hb3));have hbw:=HB3.o.alloc (.cells #[.int .u64 (cR D.1),.int .u64 (cT D.1)] 31);have HT4:=aa (ht3.later (ab _ (.cells #[.int .u64 (cR D.1),.int .u64 (cT D.1)] 31)));have HB4:=aa hbw;obtain⟨⟨v0,f0⟩,⟨v1,f1⟩,⟨v2,f2⟩⟩:=(HM.o _ hbw).2;clear ht3 hb3 hbw))
   go_wp2
   have HQ:=aa (a7 v0 v1 v2 (.int .i64 0) (.int .u64 0) (.int .u64 0))
   obtain⟨hf1,hf2⟩:=Made.put (w1:=w) (b:=w.heap.size+1) HT4.o ((ae.of HB0.o).trans HB4.o) HO.o (by omega) (0,0,0)
   exact bodyPost_ret (v:=.tuple #[.agg #[.int .i64 0,.int .u64 0,.int .u64 0],dN _ _]) (by simp [results,results191,go_sem,HQ.o.1,HQ.o.2.1,HQ.o.2.2];rfl) rfl ⟨⟨_,by rw [show (no { s with t:=D.2.2 } D.2.1).code=D.2.1 from rfl,cz HDn.o];rfl⟩,hf1,hf2⟩
 ·rw [if_pos hm]
  have HMn:=aa hm
  clear he hm
  go_enter func191,ntmps191
  go_upto_region 1 with fail
  rw [<-hw0]
  clear hw0
  go_upto_region 3 with (first
    | (go_at_call 190;refine (bQ _ _ HMn.o _).mono ?_;unfold dN;rintro e w9 ⟨rfl,hw9⟩;obtain rfl:=hw9.symm;clear hw9)
    | (go_at_call 177;refine HMa.o.mono ?_;rintro e w2 ⟨rfl,hb2⟩;have HB2:=aa (al HB0.o hb2);have HC2:=aa hb2;have HT2:=aa (HT.o.later hb2);obtain⟨⟨v0,f0⟩,⟨v1,f1⟩,⟨v2,f2⟩⟩:=(HM.o w2 (ae.of hb2)).2;clear hb2))
  go_wp2
  have HQ:=aa (a7 v0 v1 v2 (.int .i64 0) (.int .u64 0) (.int .u64 0))
  obtain⟨hf1,hf2⟩:=Made.put (w1:=w) (b:=w.heap.size+1) HT2.o (ae.of HB2.o) HO.o (by omega) (0,0,0)
  exact bodyPost_ret (v:=.tuple #[.agg #[.int .i64 0,.int .u64 0,.int .u64 0],dN _ _]) (by simp [results,results191,go_sem,HQ.o.1,HQ.o.2.1,HQ.o.2.2];rfl) rfl ⟨⟨_,by rw [show (no s (Q.may H.e H.a s.L o)).code=Q.may H.e H.a s.L o from rfl,cz HMn.o];rfl⟩,hf1,hf2⟩
theorem GR {H:Hd}{s:aI}(h:eQ w H s)(o:Int)(ho:(Lit.int .i64 o).wf=true)(D:Nat×Int×Nat)(R:EW)(mk pc nb rb:Nat)
  (hd:∀U,Below w.heap.size w U->Calls prog 203 #[.pointer (some ⟨mk,0,none⟩),.pointer (some ⟨pc,0,none⟩)] U (p5 U H s D))
  (he:Q.may H.e H.a s.L o=0->D.2.1=0->R.code=0/\∀U,ae (·=H.g) w U->eQ U H { s with t:=D.2.2 }->Calls prog 205 #[ir (cap o D.1),.pointer (some ⟨mk,0,none⟩),.pointer (some ⟨nb,0,none⟩),.pointer (some ⟨rb,0,none⟩)] U (gU U H { s with t:=D.2.2 } R)) :
  Calls prog 191 #[il H,.int .i64 o,.func (.func 203) #[] #[.pointer (some ⟨mk,0,none⟩),.pointer (some ⟨pc,0,none⟩)],.func (.func 205) #[] #[.pointer (some ⟨mk,0,none⟩),.pointer (some ⟨nb,0,none⟩),.pointer (some ⟨rb,0,none⟩)]] w
   (Made w H (if Q.may H.e H.a s.L o≠0 then no s (Q.may H.e H.a s.L o) else if D.2.1≠0 then no { s with t:=D.2.2 } D.2.1 else ⟨cap o D.1,0,⟨R.X,R.l,s.L++[o],D.2.2⟩⟩)):=by
 obtain⟨w0,hw0⟩:∃w0,w0=(w.alloc (Obj.cells #[.pointer (some ⟨H.g,0,none⟩),.pointer (some ⟨H.A.g,0,none⟩),.pointer (some ⟨H.qg,0,none⟩)] 250)).alloc (Obj.cells #[.int .i64 0,.int .u64 0,.int .u64 0] 38):=⟨_,rfl⟩
 have hB0:Below w.heap.size w w0:=by rw [hw0];exact aw _ _ _
 have hmk:Mk w0 w.heap.size H:=by rw [hw0];exact⟨by simp [go_sem],by simp [go_sem],by simp [go_sem]⟩
 have hz:Zc w0 (w.heap.size+1):=by rw [hw0];exact⟨⟨by simp [go_sem],by simp [go_sem]⟩,⟨by simp [go_sem],by simp [go_sem]⟩,⟨by simp [go_sem],by simp [go_sem]⟩⟩
 have hlt:=h.uh
 have hwr:∀k,H.Wr k->k<w.heap.size:=λk hk=>hlt k (Hd.dk hk)
 have HM:Hid (∀U,ae H.Wr w0 U->U.cell? ⟨w.heap.size,2,none⟩=some (.pointer (some ⟨H.qg,0,none⟩))/\Zc U (w.heap.size+1)):=λU hU=>⟨(hmk.but hU (λe=>by have:=hwr _ e;omega)).c2,hz.but hU (λe=>by have:=hwr _ e;omega)⟩
 have y2:=hmk.c2
 have HZ:=aa hz
 have HO:=aa hlt
 have HW:=aa hwr
 have HT:=aa (h.later hB0)
 have HB0:=aa hB0
 have HMa:=aa (Q.g8 (h.later hB0).qu o ho)
 have HD:=aa hd
 clear h hB0 hmk hz hlt hwr hd
 unfold il
 by_cases hm:Q.may H.e H.a s.L o=0
 ·rw [if_neg (by simp [hm])]
  rw [hm] at HMa
  by_cases hD:D.2.1=0
  ·rw [if_neg (by simp [hD])]
   obtain⟨hR,hE⟩:=he hm hD
   have HE:=aa hE
   have HRc:=aa hR
   have HAd:Hid (∀(U:World) (X:List Tk) (l:Fo) (t:Nat),eQ U H ⟨X,l,s.L,t⟩->Calls prog 125 #[.pointer (some ⟨H.qg,0,none⟩),.int .i64 o] U λr w'=>r=.returned (.int .i64 0)/\Q.Qu w' H.qg H.qb H.e H.a (s.L++[o])/\ae (λk=>k=H.qb) U w'):=λU X l t hT=>by
    have:=Q.jo hT.qu o ho
    unfold Q.pW at this
    simp only [hm,if_true] at this
    exact this
   clear he hE hm hR
   unfold p5 at HD
   rw [hD] at HD
   clear hD
   unfold gU at HE
   rw [HRc.o] at HE
   go_enter func191,ntmps191
   go_upto_region 1 with fail
   rw [<-hw0]
   clear hw0
   go_upto_region 4 with (first
    | (go_at_call 190;refine (bK _ _).mono ?_;rintro e w9 ⟨rfl,hw9⟩;obtain rfl:=hw9.symm;clear hw9)
    | (go_at_call 177;refine HMa.o.mono ?_;rintro e w2 ⟨rfl,hb2⟩;have HB2:=aa (al HB0.o hb2);have HC2:=aa hb2;have HT2:=aa (HT.o.later hb2);clear hb2))
   go_upto_region 9 with (first
    | (go_at_call 190;refine (bK _ _).mono ?_;rintro e w9 ⟨rfl,hw9⟩;obtain rfl:=hw9.symm;clear hw9)
    | (go_at_call 203;refine (HD.o w2 HB2.o).mono ?_;rintro e w3 ⟨rfl,ht3,hb3⟩;have HT3:=aa ht3;have HB3:=aa ((ae.of (S:=H.Wr) HC2.o).trans (ae.Jp hb3));have HG3:=aa ((ae.of HB2.o).trans hb3);clear ht3 hb3))
   obtain⟨w4,hw4⟩:∃w4,w4=(w3.alloc (Obj.cells #[.int .u64 (cR D.1),.int .u64 (cT D.1)] 31)).alloc (Obj.cells #[.int .i64 o,.int .u64 (cR D.1),.int .u64 (cT D.1)] 38):=⟨_,rfl⟩
   have hB4:Below w3.heap.size w3 w4:=by rw [hw4];exact aw _ _ _
   have hc4:Cw w4 (w3.heap.size+1) (cap o D.1):=by rw [hw4];exact⟨by simp [go_sem,cap],by simp [go_sem,cap,cR],by simp [go_sem,cap,cT]⟩
   have hs3:w.heap.size<=w3.heap.size:=Nat.le_trans HB0.o.size HB3.o.size
   have HY:Hid (∀U,ae H.Wr w4 U->Cw U (w3.heap.size+1) (cap o D.1)):=λU hU=>hc4.but hU (λe=>by have:=HW.o _ e;omega)
   have z0:w4.cell? ⟨w3.heap.size+1,0,none⟩=some (.int .i64 o):=hc4.c0
   have z1:w4.cell? ⟨w3.heap.size+1,1,none⟩=some (.int .u64 (cR D.1)):=hc4.c1
   have z2:w4.cell? ⟨w3.heap.size+1,2,none⟩=some (.int .u64 (cT D.1)):=hc4.c2
   have HT4:=aa (HT3.o.later hB4)
   have HB4:=aa (HB3.o.call hB4)
   have HG4:=aa (HG3.o.call hB4)
   have HE4:Hid (Calls prog 205 #[.agg #[.int .i64 o,.int .u64 (cR D.1),.int .u64 (cT D.1)],.pointer (some ⟨mk,0,none⟩),.pointer (some ⟨nb,0,none⟩),.pointer (some ⟨rb,0,none⟩)] w4 _):=HE.o w4 HG4.o HT4.o
   clear hB4 hc4 hs3
   rw [<-hw4]
   clear hw4
   go_upto_region 14 with (first
    | (go_at_call 125;refine (HAd.o w5 R.X R.l D.2.2 HT5.o).mono ?_;rintro e w6 ⟨rfl,hq6,hb6⟩;have HT6:=aa (HT5.o.count hb6 hq6);have HB6:=aa (HB5.o.trans (ae.Ji hb6));have HC6:=aa (HC5.o.trans (ae.Ji hb6));clear hq6 hb6;obtain⟨u0,u1,u2⟩:=HY.o w6 HC6.o;obtain⟨⟨v0,f0⟩,⟨v1,f1⟩,⟨v2,f2⟩⟩:=(HM.o w6 HB6.o).2)
    | (go_at_call 190;refine (bK _ _).mono ?_;rintro e w9 ⟨rfl,hw9⟩;obtain rfl:=hw9.symm;clear hw9)
    | (go_at_call 205;refine HE4.o.mono ?_;rintro e w5 ⟨rfl,ht5,hb5⟩;have HT5:=aa ht5;have HB5:=aa (HB4.o.trans (ae.Jl hb5));have HC5:=aa (ae.Jl (H:=H) hb5);clear ht5 hb5;have y5:=(HM.o w5 HB5.o).1))
   have u0':w6.cell? ⟨w3.heap.size+1,0,none⟩=some (.int .i64 o):=u0
   have u1':w6.cell? ⟨w3.heap.size+1,1,none⟩=some (.int .u64 (cR D.1)):=u1
   have u2':w6.cell? ⟨w3.heap.size+1,2,none⟩=some (.int .u64 (cT D.1)):=u2
   clear u0 u1 u2
   go_wp2
   have HQ:=aa (a7 v0 v1 v2 (.int .i64 o) (.int .u64 (cR D.1)) (.int .u64 (cT D.1)))
   obtain⟨hf1,hf2⟩:=Made.put (w1:=w) (b:=w.heap.size+1) HT6.o ((ae.of HB0.o).trans HB6.o) HO.o (by omega) (cap o D.1)
   exact bodyPost_ret (v:=.tuple #[.agg #[.int .i64 o,.int .u64 (cR D.1),.int .u64 (cT D.1)],.nilIface]) (by simp [results,results191,go_sem,HQ.o.1,HQ.o.2.1,HQ.o.2.2]) rfl ⟨⟨default,rfl⟩,hf1,hf2⟩
  ·rw [if_pos hD]
   have HDn:=aa hD
   unfold p5 at HD
   clear he hm hD
   go_enter func191,ntmps191
   go_upto_region 1 with fail
   rw [<-hw0]
   clear hw0
   go_upto_region 4 with (first
    | (go_at_call 190;refine (bK _ _).mono ?_;rintro e w9 ⟨rfl,hw9⟩;obtain rfl:=hw9.symm;clear hw9)
    | (go_at_call 177;refine HMa.o.mono ?_;rintro e w2 ⟨rfl,hb2⟩;have HB2:=aa (al HB0.o hb2);have HC2:=aa hb2;have HT2:=aa (HT.o.later hb2);clear hb2))
   go_upto_region 7 with (first
    | (go_at_call 190;refine (bQ _ _ HDn.o _).mono ?_;unfold dN;rintro e w9 ⟨rfl,hw9⟩;obtain rfl:=hw9.symm;clear hw9)
    | (go_at_call 203;refine (HD.o w2 HB2.o).mono ?_;rintro e w3 ⟨rfl,ht3,hb3⟩;have HT3:=aa ht3;have HB3:=aa ((ae.of (S:=H.Wr) HC2.o).trans (ae.Jp hb3));have hbw:=HB3.o.alloc (.cells #[.int .u64 (cR D.1),.int .u64 (cT D.1)] 31);have HT4:=aa (ht3.later (ab _ (.cells #[.int .u64 (cR D.1),.int .u64 (cT D.1)] 31)));have HB4:=aa hbw;obtain⟨⟨v0,f0⟩,⟨v1,f1⟩,⟨v2,f2⟩⟩:=(HM.o _ hbw).2;clear ht3 hb3 hbw))
   go_wp2
   have HQ:=aa (a7 v0 v1 v2 (.int .i64 0) (.int .u64 0) (.int .u64 0))
   obtain⟨hf1,hf2⟩:=Made.put (w1:=w) (b:=w.heap.size+1) HT4.o ((ae.of HB0.o).trans HB4.o) HO.o (by omega) (0,0,0)
   exact bodyPost_ret (v:=.tuple #[.agg #[.int .i64 0,.int .u64 0,.int .u64 0],dN _ _]) (by simp [results,results191,go_sem,HQ.o.1,HQ.o.2.1,HQ.o.2.2];rfl) rfl ⟨⟨_,by rw [show (no { s with t:=D.2.2 } D.2.1).code=D.2.1 from rfl,cz HDn.o];rfl⟩,hf1,hf2⟩
 ·rw [if_pos hm]
  have HMn:=aa hm
  clear he hm
  go_enter func191,ntmps191
  go_upto_region 1 with fail
  rw [<-hw0]
  clear hw0
  go_upto_region 3 with (first
    | (go_at_call 190;refine (bQ _ _ HMn.o _).mono ?_;unfold dN;rintro e w9 ⟨rfl,hw9⟩;obtain rfl:=hw9.symm;clear hw9)
    | (go_at_call 177;refine HMa.o.mono ?_;rintro e w2 ⟨rfl,hb2⟩;have HB2:=aa (al HB0.o hb2);have HC2:=aa hb2;have HT2:=aa (HT.o.later hb2);obtain⟨⟨v0,f0⟩,⟨v1,f1⟩,⟨v2,f2⟩⟩:=(HM.o w2 (ae.of hb2)).2;clear hb2))
  go_wp2
  have HQ:=aa (a7 v0 v1 v2 (.int .i64 0) (.int .u64 0) (.int .u64 0))
  obtain⟨hf1,hf2⟩:=Made.put (w1:=w) (b:=w.heap.size+1) HT2.o (ae.of HB2.o) HO.o (by omega) (0,0,0)
  exact bodyPost_ret (v:=.tuple #[.agg #[.int .i64 0,.int .u64 0,.int .u64 0],dN _ _]) (by simp [results,results191,go_sem,HQ.o.1,HQ.o.2.1,HQ.o.2.2];rfl) rfl ⟨⟨_,by rw [show (no s (Q.may H.e H.a s.L o)).code=Q.may H.e H.a s.L o from rfl,cz HMn.o];rfl⟩,hf1,hf2⟩
theorem xt {H:Hd}{s:aI}(h:eQ w H s)(hf:Fit H.toPar s)(o:Int)(ho:(Lit.int .i64 o).wf=true) :
  Calls prog 152 #[il H,.int .i64 o] w (Made w H (bg H.toPar s o)):=by
 obtain⟨w0,hw0⟩:∃w0,w0=(w.alloc (Obj.cells #[.pointer (some ⟨H.g,0,none⟩),.pointer (some ⟨H.A.g,0,none⟩),.pointer (some ⟨H.qg,0,none⟩)] 250)).alloc (Obj.cells #[.int .i64 0,.int .u64 0,.int .u64 0] 38):=⟨_,rfl⟩
 have hB0:Below w.heap.size w w0:=by rw [hw0];exact aw _ _ _
 have hmk:Mk w0 w.heap.size H:=by rw [hw0];exact⟨by simp [go_sem],by simp [go_sem],by simp [go_sem]⟩
 have hz:Zc w0 (w.heap.size+1):=by rw [hw0];exact⟨⟨by simp [go_sem],by simp [go_sem]⟩,⟨by simp [go_sem],by simp [go_sem]⟩,⟨by simp [go_sem],by simp [go_sem]⟩⟩
 have hlt:=h.uh
 have hwr:∀k,H.Wr k->k<w.heap.size:=λk hk=>hlt k (Hd.dk hk)
 have HM:Hid (∀U,ae H.Wr w0 U->Mk U w.heap.size H/\Zc U (w.heap.size+1)):=λU hU=>⟨hmk.but hU (λe=>by have:=hwr _ e;omega),hz.but hU (λe=>by have:=hwr _ e;omega)⟩
 have y1:=hmk.c1
 have HO:=aa hlt
 have HT:=aa (h.later hB0)
 have HB0:=aa hB0
 have HI:=aa (DY (h.later hB0).cat.cm o)
 unfold bg il
 by_cases hn:0<jE s.X s.l o
 ·rw [if_pos hn]
  obtain⟨m,hm⟩:∃m:Nat,m=jE s.X s.l o:=⟨_,rfl⟩
  rw [<-hm] at HI hn
  have hd:decide ((m:Int)>0)=true:=dT (by omega)
  have hp:0<(m:Int):=by omega
  clear h hB0 hmk hz hlt hwr hf hm
  go_enter func152,ntmps152
  go_upto_region 1 with fail
  rw [<-hw0]
  clear hw0
  go_upto_region 2 with (first
   | (go_at_call 128;refine HI.o.mono ?_;rintro e w2 ⟨rfl,hb2⟩;have HB2:=aa (al HB0.o hb2);have HT2:=aa (HT.o.later hb2);obtain⟨⟨v0,f0⟩,⟨v1,f1⟩,⟨v2,f2⟩⟩:=(HM.o w2 (ae.of hb2)).2;clear hb2))
  go_wp2_with (first
   | (go_at_call 190;refine (bQ _ _ (by decide) _).mono ?_;unfold dN;rintro e w9 ⟨rfl,hw9⟩;obtain rfl:=hw9.symm;clear hw9))
  have HQ:=aa (a7 v0 v1 v2 (.int .i64 0) (.int .u64 0) (.int .u64 0))
  obtain⟨hf1,hf2⟩:=Made.put (w1:=w) (b:=w.heap.size+1) HT2.o (ae.of HB2.o) HO.o (by omega) (0,0,0)
  exact bodyPost_ret (v:=.tuple #[.agg #[.int .i64 0,.int .u64 0,.int .u64 0],dN _ _]) (by simp [results,results152,go_sem,HQ.o.1,HQ.o.2.1,HQ.o.2.2];rfl) rfl ⟨⟨_,by rw [show (no s 19).code=19 from rfl,cz (by decide)];rfl⟩,hf1,hf2⟩
 ·rw [if_neg hn]
  obtain⟨R,hR⟩:∃R,R=fR H.toPar s o (cL H.toPar s.t) (-1) 31:=⟨_,rfl⟩
  have HTk:Hid (∀U,Below w.heap.size w U->Mk U w.heap.size H->Calls prog 191 #[il H,.int .i64 o,.func (.func 192) #[.pointer (some ⟨H.g,0,none⟩)] #[],.func (.func 193) #[] #[.pointer (some ⟨w.heap.size,0,none⟩)]] U (Made U H R)):=λU hU hmU=>by
   rw [hR]
   refine Gh (h.later hU) o ho (cL H.toPar s.t) ⟨(low s.l:Int),0,s.X.set (low s.l) (cap o (cL H.toPar s.t).1,31),s.l++[((low s.l:Int),-1)]⟩ w.heap.size (λV hV=>Cu ((h.later hU).later hV)) (λhm hD=>⟨rfl,λV hV hT=>?_⟩)
   have:=DF hT (hmU.but hV (λe=>by have:=hwr _ (.inl e);omega)) (cap o (cL H.toPar s.t).1) (ja (gI hf s.t))
   rwa [show kj H.mo s.X s.l (cap o (cL H.toPar s.t).1) 31=_ from yO hf hm hn] at this
  rw [<-hR]
  unfold il at HTk
  obtain⟨m,hm⟩:∃m:Nat,m=jE s.X s.l o:=⟨_,rfl⟩
  rw [<-hm] at HI hn
  have hd:decide ((m:Int)>0)=false:=dF (by omega)
  have hp:¬0<(m:Int):=by omega
  clear h hB0 hmk hz hlt hwr hf hm hR
  go_enter func152,ntmps152
  go_upto_region 1 with fail
  rw [<-hw0]
  clear hw0
  go_upto_region 3 with (first
   | (go_at_call 128;refine HI.o.mono ?_;rintro e w2 ⟨rfl,hb2⟩;have HB2:=aa (al HB0.o hb2);have HC2:=aa hb2;obtain⟨x0,x1,x2⟩:=(HM.o w2 (ae.of hb2)).1;clear hb2))
  go_wp2_with (first
   | (go_at_call 191;refine (HTk.o w2 HB2.o (HM.o w2 (ae.of HC2.o)).1).mono ?_;rintro e w3 ⟨⟨st,rfl⟩,ht3,hb3⟩;have HT3:=aa ht3;have HB3:=aa ((ae.of (S:=H.Wr) HC2.o).trans hb3);obtain⟨⟨v0,f0⟩,⟨v1,f1⟩,⟨v2,f2⟩⟩:=(HM.o w3 HB3.o).2;clear ht3 hb3))
  have HQ:=aa (a7 v0 v1 v2 (.int .i64 R.c.1) (.int .u64 (R.c.2.1:Int)) (.int .u64 (R.c.2.2:Int)))
  obtain⟨hf1,hf2⟩:=Made.put (w1:=w) (b:=w.heap.size+1) HT3.o ((ae.of HB0.o).trans HB3.o) HO.o (by omega) R.c
  exact bodyPost_ret (v:=.tuple #[.agg #[.int .i64 R.c.1,.int .u64 (R.c.2.1:Int),.int .u64 (R.c.2.2:Int)],nk st R.code]) (by simp [results,results152,go_sem,HQ.o.1,HQ.o.2.1,HQ.o.2.2]) rfl ⟨⟨st,rfl⟩,hf1,hf2⟩
def dz (s:aI)(c:Cp)(r:Int):Int×Int:=if aK s.X s.l c=false then (0,3) else if aA 4 (eV s c)=false\/aA r (eV s c)=false then (0,4) else (aB s.X s.l c,0)
theorem wx (P:Par)(s:aI)(c:Cp)(r:Int):bF P s c r=if (dz s c r).2≠0 then no s (dz s c r).2 else fR P s c.1 (cB P s c.1) (aB s.X s.l c) r:=by
 unfold bF dz
 by_cases h1:aK s.X s.l c=false
 ·simp only [if_pos h1];rfl
 ·simp only [if_neg h1]
  by_cases h2:aA 4 (eV s c)=false\/aA r (eV s c)=false
  ·simp only [if_pos h2];rfl
  ·simp only [if_neg h2];rfl
theorem D5 {s:aI}{c:Cp}{r:Int}(h:(dz s c r).2=0):aK s.X s.l c=true/\aA r (eV s c)=true/\(dz s c r).1=aB s.X s.l c:=by
 unfold dz at h ⊢
 by_cases h1:aK s.X s.l c=false
 ·simp [if_pos h1] at h
 ·simp only [if_neg h1] at h ⊢
  by_cases h2:aA 4 (eV s c)=false\/aA r (eV s c)=false
  ·simp [if_pos h2] at h
  ·simp only [if_neg h2]
   refine⟨by simpa using h1,?_,trivial⟩
   cases hq:aA r (eV s c) with
   | true=>rfl
   | false=>exact absurd (.inr hq) h2
theorem aR (a b:Int)(w:World):Calls prog 197 #[.int .i64 a,.int .i64 b] w λe w'=>e=.returned (.bool (aA b a))/\w'=w:=by
 have hp:=aa (fb b a)
 go_enter func197,ntmps197
 go_wp2_with (first|(go_at_call 178;refine (hp.out _).mono ?_;rintro e w9 ⟨rfl,hw9⟩;obtain rfl:=hw9.symm;clear hw9))
 go_ret
 exact⟨rfl,rfl⟩
theorem mB {H:Hd}{s:aI}(h:eQ w H s)(c:Cp)(r:Int)(hw:c.2.1<ak/\c.2.2<ak) :
  Calls prog 202 #[il H,ir c,.int .i64 r] w λe w'=>(∃st,e=.returned (.tuple #[.int .i64 (dz s c r).1,nk st (dz s c r).2]))/\Below w.heap.size w w':=by
 obtain⟨o,hi,lo⟩:=c
 obtain⟨w0,hw0⟩:∃w0,w0=(w.alloc (Obj.cells #[.pointer (some ⟨H.g,0,none⟩),.pointer (some ⟨H.A.g,0,none⟩),.pointer (some ⟨H.qg,0,none⟩)] 250)).alloc (Obj.cells #[.int .i64 o,.int .u64 (hi:Int),.int .u64 (lo:Int)] 38):=⟨_,rfl⟩
 have hB0:Below w.heap.size w w0:=by rw [hw0];exact aw _ _ _
 have hmk:Mk w0 w.heap.size H:=by rw [hw0];exact⟨by simp [go_sem],by simp [go_sem],by simp [go_sem]⟩
 have x0:w0.cell? ⟨w.heap.size+1,0,none⟩=some (.int .i64 o):=by rw [hw0];simp [go_sem]
 have x1:w0.cell? ⟨w.heap.size+1,1,none⟩=some (.int .u64 (hi:Int)):=by rw [hw0];simp [go_sem]
 have x2:w0.cell? ⟨w.heap.size+1,2,none⟩=some (.int .u64 (lo:Int)):=by rw [hw0];simp [go_sem]
 have y1:=hmk.c1
 have HM:=aa hmk
 have HT:=aa (h.later hB0)
 have HB0:=aa hB0
 have HF:=aa (gQ (h.later hB0).cat (o,hi,lo) hw)
 unfold il dz
 by_cases hc:aK s.X s.l (o,hi,lo)=false
 ·rw [hc] at HF
  simp only [if_pos hc]
  obtain⟨m,hm⟩:∃m,m=aB s.X s.l (o,hi,lo):=⟨_,rfl⟩
  rw [<-hm] at HF
  clear h hB0 hmk hc hm
  go_enter func202,ntmps202
  go_upto_region 1 with fail
  rw [<-hw0]
  clear hw0
  go_wp2_with (first
   | (go_at_call 190;refine (bQ _ _ (by decide) _).mono ?_;unfold dN;rintro e w9 ⟨rfl,hw9⟩;obtain rfl:=hw9.symm;clear hw9)
   | (go_at_call 196;refine HF.o.mono ?_;rintro e w2 ⟨rfl,hb2⟩;have HB2:=aa (al HB0.o hb2);clear hb2))
  exact bodyPost_ret (v:=.tuple #[.int .i64 0,dN _ _]) (by simp [results,results202,go_sem];rfl) rfl ⟨⟨_,by rw [cz (by decide)]⟩,HB2.o⟩
 ·have hc':aK s.X s.l (o,hi,lo)=true:=by simpa using hc
  rw [hc'] at HF
  simp only [if_neg hc]
  obtain⟨hfn,hft⟩:=found h.cat.inv hc'
  obtain⟨p,hp⟩:=cE.1 hfn
  have HA:=aa (λ(U:World) (hU:Below w.heap.size w U)=>lQ (h.later hU).cat.cm (aB s.X s.l (o,hi,lo)) p hp)
  rw [hft] at HA
  obtain⟨q,hq⟩:∃q,q=eV s (o,hi,lo):=⟨_,rfl⟩
  rw [<-hq]
  unfold eV at hq
  rw [<-hq] at HA
  obtain⟨m,hm⟩:∃m,m=aB s.X s.l (o,hi,lo):=⟨_,rfl⟩
  rw [<-hm] at HF HA
  rw [<-hm]
  have HP:=aa (fb r q)
  have HHs:=aa (aR q 4)
  have hcell:Hid (∀(U:World),(U.alloc (Obj.cells #[.int .i64 o,.int .u64 (hi:Int),.int .u64 (lo:Int),.int .i64 q,.int .i64 p] 61)).cell? ⟨U.heap.size,3,none⟩=some (.int .i64 q)):=λU=>by simp [go_sem]
  unfold mZ at HA
  clear h hB0 hmk hc hc' hm hq hft hfn hp
  cases hp4:aA 4 q with
  | false =>
   rw [hp4] at HHs
   simp only [true_or,if_true]
   clear hp4
   go_enter func202,ntmps202
   go_upto_region 1 with fail
   rw [<-hw0]
   clear hw0
   go_upto_region 4 with (first
    | (go_at_call 196;refine HF.o.mono ?_;rintro e w2 ⟨rfl,hb2⟩;have HB2:=aa (al HB0.o hb2);have z1:=(HM.o.later hb2).c1;clear hb2))
   go_wp2_with (first
    | (go_at_call 190;refine (bQ _ _ (by decide) _).mono ?_;unfold dN;rintro e w9 ⟨rfl,hw9⟩;obtain rfl:=hw9.symm;clear hw9)
    | (go_at_call 197;refine (HHs.o _).mono ?_;rintro e w9 ⟨rfl,hw9⟩;obtain rfl:=hw9.symm;clear hw9)
    | (go_at_call 122;refine (HA.o w2 HB2.o).mono ?_;rintro e w3 ⟨rfl,hb3⟩;have HB3:=aa (al HB2.o hb3);clear hb3))
   exact bodyPost_ret (v:=.tuple #[.int .i64 0,dN _ _]) (by simp [results,results202,go_sem];rfl) rfl ⟨⟨_,by rw [cz (by decide)]⟩,HB3.o.alloc HB3.o.size _⟩
  | true =>
   rw [hp4] at HHs
   clear hp4
   cases hpr:aA r q with
   | false =>
    rw [hpr] at HP
    simp only [or_true,if_true]
    clear hpr
    go_enter func202,ntmps202
    go_upto_region 1 with fail
    rw [<-hw0]
    clear hw0
    go_upto_region 4 with (first
     | (go_at_call 196;refine HF.o.mono ?_;rintro e w2 ⟨rfl,hb2⟩;have HB2:=aa (al HB0.o hb2);have z1:=(HM.o.later hb2).c1;clear hb2))
    go_wp2_with (first
     | (go_at_call 190;refine (bQ _ _ (by decide) _).mono ?_;unfold dN;rintro e w9 ⟨rfl,hw9⟩;obtain rfl:=hw9.symm;clear hw9)
     | (go_at_call 178;refine (HP.o _).mono ?_;rintro e w9 ⟨rfl,hw9⟩;obtain rfl:=hw9.symm;clear hw9)
     | (go_at_call 197;refine (HHs.o _).mono ?_;rintro e w9 ⟨rfl,hw9⟩;obtain rfl:=hw9.symm;clear hw9)
     | (go_at_call 122;refine (HA.o w2 HB2.o).mono ?_;rintro e w3 ⟨rfl,hb3⟩;have HB3:=aa (al HB2.o hb3);clear hb3))
    exact bodyPost_ret (v:=.tuple #[.int .i64 0,dN _ _]) (by simp [results,results202,go_sem];rfl) rfl ⟨⟨_,by rw [cz (by decide)]⟩,HB3.o.alloc HB3.o.size _⟩
   | true =>
    rw [hpr] at HP
    simp only [Bool.true_eq_false,or_false,if_false]
    clear hpr
    go_enter func202,ntmps202
    go_upto_region 1 with fail
    rw [<-hw0]
    clear hw0
    go_upto_region 4 with (first
     | (go_at_call 196;refine HF.o.mono ?_;rintro e w2 ⟨rfl,hb2⟩;have HB2:=aa (al HB0.o hb2);have z1:=(HM.o.later hb2).c1;clear hb2))
    go_wp2_with (first
     | (go_at_call 178;refine (HP.o _).mono ?_;rintro e w9 ⟨rfl,hw9⟩;obtain rfl:=hw9.symm;clear hw9)
     | (go_at_call 197;refine (HHs.o _).mono ?_;rintro e w9 ⟨rfl,hw9⟩;obtain rfl:=hw9.symm;clear hw9)
     | (go_at_call 122;refine (HA.o w2 HB2.o).mono ?_;rintro e w3 ⟨rfl,hb3⟩;have HB3:=aa (al HB2.o hb3);clear hb3))
    exact bodyPost_ret (v:=.tuple #[.int .i64 m,.nilIface]) (by simp [results,results202,go_sem]) rfl ⟨⟨default,rfl⟩,HB3.o.alloc HB3.o.size _⟩
theorem tU {H:Hd}{s:aI}(h:eQ w H s)(hf:Fit H.toPar s)(c:Cp)(r:Int)(ho:(Lit.int .i64 c.1).wf=true)(hw:c.2.1<ak/\c.2.2<ak) :
  Calls prog 159 #[il H,ir c,.int .i64 r] w (Made w H (bF H.toPar s c r)):=by
 obtain⟨o,hi,lo⟩:=c
 obtain⟨w0,hw0⟩:∃w0,w0=(((w.alloc (Obj.cells #[.pointer (some ⟨H.g,0,none⟩),.pointer (some ⟨H.A.g,0,none⟩),.pointer (some ⟨H.qg,0,none⟩)] 250)).alloc (Obj.cells #[.int .i64 o,.int .u64 (hi:Int),.int .u64 (lo:Int)] 38)).alloc (Obj.cells #[.int .i64 r] 3)).alloc (Obj.cells #[.int .i64 0,.int .u64 0,.int .u64 0] 38):=⟨_,rfl⟩
 have hB0:Below w.heap.size w w0:=by rw [hw0];exact ((aw _ _ _).alloc (by simp;omega) _).alloc (by simp;omega) _
 have hmk:Mk w0 w.heap.size H:=by rw [hw0];exact⟨by simp [go_sem],by simp [go_sem],by simp [go_sem]⟩
 have hcw:Cw w0 (w.heap.size+1) (o,hi,lo):=by rw [hw0];exact⟨by simp [go_sem],by simp [go_sem],by simp [go_sem]⟩
 have hrr:w0.cell? ⟨w.heap.size+1+1,0,none⟩=some (.int .i64 r):=by rw [hw0];simp [go_sem]
 have hz:Zc w0 (w.heap.size+1+1+1):=by rw [hw0];exact⟨⟨by simp [go_sem],by simp [go_sem]⟩,⟨by simp [go_sem],by simp [go_sem]⟩,⟨by simp [go_sem],by simp [go_sem]⟩⟩
 have hs0:w0.heap.size=w.heap.size+1+1+1+1:=by rw [hw0];simp
 have hlt:=h.uh
 have hwr:∀k,H.Wr k->k<w.heap.size:=λk hk=>hlt k (Hd.dk hk)
 have HM:Hid (∀U,ae H.Wr w0 U->Mk U w.heap.size H/\Cw U (w.heap.size+1) (o,hi,lo)/\U.cell? ⟨w.heap.size+1+1,0,none⟩=some (.int .i64 r)/\Zc U (w.heap.size+1+1+1)):=λU hU=>⟨hmk.but hU (λe=>by have:=hwr _ e;omega),hcw.but hU (λe=>by have:=hwr _ e;omega),aC hU hrr (λe=>by have:=hwr _ e;simp at this;omega),hz.but hU (λe=>by have:=hwr _ e;omega)⟩
 obtain⟨x0,x1,x2⟩:=hmk
 obtain⟨y0,y1,y2⟩:=hcw
 have HO:=aa hlt
 have HT:=aa (h.later hB0)
 have HB0:=aa hB0
 have HS0:=aa hs0
 rw [wx]
 by_cases hn:(dz s (o,hi,lo) r).2=0
 ·rw [if_neg (by simp [hn])]
  obtain⟨k1,k2,k3⟩:=D5 hn
  obtain⟨g1,g2⟩:=found h.cat.inv k1
  have HSr:=aa (mB (h.later hB0) (o,hi,lo) r hw)
  rw [hn,k3] at HSr
  obtain⟨m,hm⟩:∃m,m=aB s.X s.l (o,hi,lo):=⟨_,rfl⟩
  rw [<-hm] at HSr
  rw [<-hm]
  obtain⟨R,hR⟩:∃R,R=fR H.toPar s o (cB H.toPar s o) m r:=⟨_,rfl⟩
  have HTk:Hid (∀(U:World) (nb:Nat),Below w.heap.size w U->Mk U w.heap.size H->U.cell? ⟨w.heap.size+1,0,none⟩=some (.int .i64 o)->U.cell? ⟨w.heap.size+1+1,0,none⟩=some (.int .i64 r)->U.cell? ⟨nb,0,none⟩=some (.int .i64 m)->w.heap.size<=nb->Calls prog 191 #[il H,.int .i64 o,.func (.func 203) #[] #[.pointer (some ⟨w.heap.size,0,none⟩),.pointer (some ⟨w.heap.size+1,0,none⟩)],.func (.func 205) #[] #[.pointer (some ⟨w.heap.size,0,none⟩),.pointer (some ⟨nb,0,none⟩),.pointer (some ⟨w.heap.size+1+1,0,none⟩)]] U (Made U H R)):=λU nb hU hmU hcU hrU hnU hnb=>by
   rw [hR]
   refine GR (h.later hU) o ho (cB H.toPar s o) ⟨(low s.l:Int),0,s.X.set (low s.l) (cap o (cB H.toPar s o).1,r),s.l++[((low s.l:Int),m)]⟩ w.heap.size (w.heap.size+1) nb (w.heap.size+1+1) (λV hV=>Hb ((h.later hU).later hV) hf.cs (hmU.later hV) o (cell_later hV hcU)) (λhm2 hD=>⟨rfl,λV hV hT=>?_⟩)
   have hg:∀k,w.heap.size<=k->¬k=H.g:=λk hk e=>by have:=hwr k (.inl e);omega
   have:=En hT (hmU.but hV (hg _ (Nat.le_refl _))) m r (aC hV hnU (hg _ hnb)) (aC hV hrU (hg _ (by simp;omega))) (cap o (cB H.toPar s o).1) (ja (gJ hf.cs))
   rwa [show gD H.mo s.X s.l m (cap o (cB H.toPar s o).1) r=_ from wE hf hm2 (lD hf hD) (by rw [hm];exact g1) (by rw [hm];unfold ob;rw [g2]) (by rw [hm];exact k2)] at this
  rw [<-hR]
  unfold il at HTk HSr ⊢
  have hnil:∀st,nk st 0=.nilIface:=λst=>rfl
  simp only [hnil] at HSr
  clear h hB0 hlt hwr hf hm hR hz hrr hs0 hn k1 k2 k3 g1 g2 hnil
  go_enter func159,ntmps159
  go_upto_region 1 with fail
  rw [<-hw0]
  clear hw0
  have hrr:=(HM.o w0 (ae.refl _ _)).2.2.1
  go_upto_region 2 with (first
   | (go_at_call 202;refine HSr.o.mono ?_;rintro e w2 ⟨⟨st0,rfl⟩,hb2⟩;have HB2:=aa (al HB0.o hb2);have HC2:=aa hb2;clear hb2))
  obtain⟨w3,hw3⟩:∃w3,w3=w2.alloc (Obj.cells #[.int .i64 m] 3):=⟨_,rfl⟩
  have hB3:Below w2.heap.size w2 w3:=by rw [hw3];exact ab _ _
  have hn3:w3.cell? ⟨w2.heap.size,0,none⟩=some (.int .i64 m):=by rw [hw3];simp [go_sem]
  have HC3:=aa (ae.of (S:=H.Wr) (al HC2.o hB3))
  have HK3:=aa (al HB2.o hB3)
  have HN3:=aa hn3
  have HG3:=aa HB2.o.size
  obtain⟨⟨p0,p1,p2⟩,⟨q0,q1,q2⟩,q3,_⟩:=HM.o w3 HC3.o
  rw [<-hw3]
  clear hw3 hB3 hn3
  go_upto_region 5 with fail
  go_wp2_with (first
   | (go_at_call 191;refine (HTk.o w3 w2.heap.size HK3.o (HM.o w3 HC3.o).1 q0 q3 HN3.o HG3.o).mono ?_;rintro e w4 ⟨⟨st,rfl⟩,ht4,hb4⟩;have HT4:=aa ht4;have HB4:=aa (HC3.o.trans hb4);obtain⟨⟨v0,f0⟩,⟨v1,f1⟩,⟨v2,f2⟩⟩:=(HM.o w4 HB4.o).2.2.2;clear ht4 hb4))
  have HQ:=aa (a7 v0 v1 v2 (.int .i64 R.c.1) (.int .u64 (R.c.2.1:Int)) (.int .u64 (R.c.2.2:Int)))
  obtain⟨hf1,hf2⟩:=Made.put (w1:=w) (b:=w.heap.size+1+1+1) HT4.o ((ae.of HB0.o).trans HB4.o) HO.o (by omega) R.c
  exact bodyPost_ret (v:=.tuple #[.agg #[.int .i64 R.c.1,.int .u64 (R.c.2.1:Int),.int .u64 (R.c.2.2:Int)],nk st R.code]) (by simp [results,results159,go_sem,HQ.o.1,HQ.o.2.1,HQ.o.2.2]) rfl ⟨⟨st,rfl⟩,hf1,hf2⟩
 ·rw [if_pos hn]
  have HSr:=aa (mB (h.later hB0) (o,hi,lo) r hw)
  obtain⟨m,hm⟩:∃m,m=(dz s (o,hi,lo) r).2:=⟨_,rfl⟩
  obtain⟨m1,hm1⟩:∃m,m=(dz s (o,hi,lo) r).1:=⟨_,rfl⟩
  rw [<-hm] at HSr hn
  rw [<-hm1] at HSr
  rw [<-hm]
  have HMn:=aa hn
  simp only [cz hn] at HSr
  unfold dN at HSr
  unfold il at HSr ⊢
  clear h hB0 hlt hwr hf hm hm1 hz hrr hs0 hn
  go_enter func159,ntmps159
  go_upto_region 1 with fail
  rw [<-hw0]
  clear hw0
  have hrr:=(HM.o w0 (ae.refl _ _)).2.2.1
  go_upto_region 2 with (first
   | (go_at_call 202;refine HSr.o.mono ?_;rintro e w2 ⟨⟨st0,rfl⟩,hb2⟩;have HB2:=aa (al HB0.o hb2);have HC2:=aa hb2;clear hb2))
  obtain⟨w3,hw3⟩:∃w3,w3=w2.alloc (Obj.cells #[.int .i64 m1] 3):=⟨_,rfl⟩
  have hB3:Below w2.heap.size w2 w3:=by rw [hw3];exact ab _ _
  have HC3:=aa (ae.of (S:=H.Wr) (al HC2.o hB3))
  have HT3:=aa (HT.o.later (al HC2.o hB3))
  obtain⟨⟨v0,f0⟩,⟨v1,f1⟩,⟨v2,f2⟩⟩:=(HM.o w3 HC3.o).2.2.2
  rw [<-hw3]
  clear hw3 hB3
  go_wp2
  have HQ:=aa (a7 v0 v1 v2 (.int .i64 0) (.int .u64 0) (.int .u64 0))
  obtain⟨hf1,hf2⟩:=Made.put (w1:=w) (b:=w.heap.size+1+1+1) HT3.o ((ae.of HB0.o).trans HC3.o) HO.o (by omega) (0,0,0)
  exact bodyPost_ret (v:=.tuple #[.agg #[.int .i64 0,.int .u64 0,.int .u64 0],dN st0 m]) (by simp [results,results159,go_sem,HQ.o.1,HQ.o.2.1,HQ.o.2.2];rfl) rfl ⟨⟨st0,by rw [show (no s m).code=m from rfl,cz HMn.o];rfl⟩,hf1,hf2⟩
def IX (w:World)(H:Hd)(R:su)(e:Ending)(w':World):Prop :=
 e=.returned (.tuple #[ir R.c,.int .i64 R.code])/\eQ w' H R.s/\ae H.Wr w w'
theorem gy {H:Hd}{s:aI}(h:eQ w H s)(hf:Fit H.toPar s)(o:Int)(ho:(Lit.int .i64 o).wf=true) :
  Calls prog 104 #[.pointer (some ⟨H.g,0,none⟩),.pointer (some ⟨H.A.g,0,none⟩),.pointer (some ⟨H.qg,0,none⟩),.int .i64 o] w (IX w H (bg H.toPar s o)):=by
 have hB0:=ab w (Obj.cells #[.int .i64 0,.int .u64 0,.int .u64 0] 38)
 have hz:=Zc.G6 w
 have hlt:=h.uh
 have hwr:∀k,H.Wr k->k<w.heap.size:=λk hk=>hlt k (Hd.dk hk)
 have HZ:Hid (∀U,ae H.Wr (w.alloc (Obj.cells #[.int .i64 0,.int .u64 0,.int .u64 0] 38)) U->Zc U w.heap.size):=λU hU=>hz.but hU (λe=>by have:=hwr _ e;omega)
 have HO:=aa hlt
 have HB0:=aa hB0
 have HK:=aa (xt (h.later hB0) hf o ho)
 unfold il at HK
 generalize bg H.toPar s o=R at *
 clear h hB0 hz hlt hwr hf
 go_enter func104,ntmps104
 go_upto_region 2 with (first
  | (go_at_call 152;refine HK.o.mono ?_;rintro e w2 ⟨⟨st,rfl⟩,ht2,hb2⟩;have HT2:=aa ht2;have HB2:=aa hb2;clear ht2 hb2))
 obtain⟨v,hv⟩:∃v,v=w2.alloc (Obj.cells #[.int .i64 R.c.1,.int .u64 (R.c.2.1:Int),.int .u64 (R.c.2.2:Int)] 38):=⟨_,rfl⟩
 have hBv:Below w2.heap.size w2 v:=by rw [hv];exact ab _ _
 have hcw:Cw v w2.heap.size R.c:=by rw [hv];exact⟨by simp [go_sem],by simp [go_sem],by simp [go_sem]⟩
 have hs2:w.heap.size<w2.heap.size:=by have:=HB2.o.size;simp at this;omega
 have HTv:=aa (HT2.o.later hBv)
 have HBv:=aa (HB2.o.call hBv)
 have HN:=aa (λ(U:World) (hU:Below v.heap.size v U)=>lN st R.code U (HTv.o.laid.later hU))
 have HL:Hid (∀U,Below v.heap.size v U->Zc U w.heap.size):=λU hU=>HZ.o U (HBv.o.call hU)
 have HS:Hid (∀U,ae (·=w.heap.size) v U->(U.cell? ⟨w2.heap.size,0,none⟩=some (.int .i64 R.c.1)/\U.cell? ⟨w2.heap.size,1,none⟩=some (.int .u64 (R.c.2.1:Int))/\U.cell? ⟨w2.heap.size,2,none⟩=some (.int .u64 (R.c.2.2:Int)))/\ae (·=w.heap.size) v U):=λU hU=>by
  obtain⟨q0,q1,q2⟩:=hcw.but hU (λe=>by omega)
  exact⟨⟨q0,q1,q2⟩,hU⟩
 rw [<-hv]
 clear hv hBv hcw hs2
 go_region_held3 (λU=>(U.cell? ⟨w2.heap.size,0,none⟩=some (.int .i64 R.c.1)/\U.cell? ⟨w2.heap.size,1,none⟩=some (.int .u64 (R.c.2.1:Int))/\U.cell? ⟨w2.heap.size,2,none⟩=some (.int .u64 (R.c.2.2:Int)))/\ae (·=w.heap.size) v U) (first|exact HS.o _ (ae.of (Below.refl _ _).drew)|exact HS.o _ ((And.right (by assumption):ae (·=w.heap.size) v v.drew).call hb9)|exact HS.o _ ((((And.right (by assumption):ae (·=w.heap.size) v w9).own _ _).own _ _).own _ _)) (first|(go_at_call 153;refine (HN.o _ (Below.refl _ _).drew).mono ?_;rintro e w9 ⟨rfl,hb9⟩;have HB9:=aa (al (Below.refl v.heap.size v).drew hb9);obtain⟨⟨v0,f0⟩,⟨v1,f1⟩,⟨v2,f2⟩⟩:=HL.o w9 HB9.o))
 go_wp2
 have HQ:=aa (a7 v0 v1 v2 (.int .i64 R.c.1) (.int .u64 (R.c.2.1:Int)) (.int .u64 (R.c.2.2:Int)))
 obtain⟨hf1,hf2⟩:=Made.put (w1:=w) (b:=w.heap.size) (HTv.o.later HB9.o) (((ae.of HB0.o).trans HBv.o).call HB9.o) HO.o (Nat.le_refl _) R.c
 exact bodyPost_ret (v:=.tuple #[.agg #[.int .i64 R.c.1,.int .u64 (R.c.2.1:Int),.int .u64 (R.c.2.2:Int)],.int .i64 R.code]) (by simp [results,results104,go_sem,HQ.o.1,HQ.o.2.1,HQ.o.2.2]) rfl ⟨rfl,hf1,hf2⟩
theorem sM {H:Hd}{s:aI}(h:eQ w H s)(hf:Fit H.toPar s)(c:Cp)(r:Int)(ho:(Lit.int .i64 c.1).wf=true)(hw:c.2.1<ak/\c.2.2<ak) :
  Calls prog 108 #[.pointer (some ⟨H.g,0,none⟩),.pointer (some ⟨H.A.g,0,none⟩),.pointer (some ⟨H.qg,0,none⟩),ir c,.int .i64 r] w (IX w H (bF H.toPar s c r)):=by
 obtain⟨o,hi,lo⟩:=c
 obtain⟨w0,hw0⟩:∃w0,w0=(w.alloc (Obj.cells #[.int .i64 o,.int .u64 (hi:Int),.int .u64 (lo:Int)] 38)).alloc (Obj.cells #[.int .i64 0,.int .u64 0,.int .u64 0] 38):=⟨_,rfl⟩
 have hB0:Below w.heap.size w w0:=by rw [hw0];exact aw _ _ _
 have x0:w0.cell? ⟨w.heap.size,0,none⟩=some (.int .i64 o):=by rw [hw0];simp [go_sem]
 have x1:w0.cell? ⟨w.heap.size,1,none⟩=some (.int .u64 (hi:Int)):=by rw [hw0];simp [go_sem]
 have x2:w0.cell? ⟨w.heap.size,2,none⟩=some (.int .u64 (lo:Int)):=by rw [hw0];simp [go_sem]
 have hz:Zc w0 (w.heap.size+1):=by rw [hw0];exact⟨⟨by simp [go_sem],by simp [go_sem]⟩,⟨by simp [go_sem],by simp [go_sem]⟩,⟨by simp [go_sem],by simp [go_sem]⟩⟩
 have hs0:w0.heap.size=w.heap.size+1+1:=by rw [hw0];simp
 have hlt:=h.uh
 have hwr:∀k,H.Wr k->k<w.heap.size:=λk hk=>hlt k (Hd.dk hk)
 have HZ:Hid (∀U,ae H.Wr w0 U->Zc U (w.heap.size+1)):=λU hU=>hz.but hU (λe=>by have:=hwr _ e;omega)
 have HO:=aa hlt
 have HB0:=aa hB0
 have HS0:=aa hs0
 have HK:=aa (tU (h.later hB0) hf (o,hi,lo) r ho hw)
 unfold il at HK
 generalize bF H.toPar s (o,hi,lo) r=R at *
 clear h hB0 hz hlt hwr hf hs0
 go_enter func108,ntmps108
 go_upto_region 1 with fail
 rw [<-hw0]
 clear hw0
 go_upto_region 2 with (first
  | (go_at_call 159;refine HK.o.mono ?_;rintro e w2 ⟨⟨st,rfl⟩,ht2,hb2⟩;have HT2:=aa ht2;have HB2:=aa hb2;clear ht2 hb2))
 obtain⟨v,hv⟩:∃v,v=w2.alloc (Obj.cells #[.int .i64 R.c.1,.int .u64 (R.c.2.1:Int),.int .u64 (R.c.2.2:Int)] 38):=⟨_,rfl⟩
 have hBv:Below w2.heap.size w2 v:=by rw [hv];exact ab _ _
 have hcw:Cw v w2.heap.size R.c:=by rw [hv];exact⟨by simp [go_sem],by simp [go_sem],by simp [go_sem]⟩
 have hs2:w.heap.size+1<w2.heap.size:=by have:=HB2.o.size;have:=HS0.o;omega
 have HTv:=aa (HT2.o.later hBv)
 have HBv:=aa (HB2.o.call hBv)
 have HN:=aa (λ(U:World) (hU:Below v.heap.size v U)=>lN st R.code U (HTv.o.laid.later hU))
 have HL:Hid (∀U,Below v.heap.size v U->Zc U (w.heap.size+1)):=λU hU=>HZ.o U (HBv.o.call hU)
 have HS:Hid (∀U,ae (·=w.heap.size+1) v U->(U.cell? ⟨w2.heap.size,0,none⟩=some (.int .i64 R.c.1)/\U.cell? ⟨w2.heap.size,1,none⟩=some (.int .u64 (R.c.2.1:Int))/\U.cell? ⟨w2.heap.size,2,none⟩=some (.int .u64 (R.c.2.2:Int)))/\ae (·=w.heap.size+1) v U):=λU hU=>by
  obtain⟨q0,q1,q2⟩:=hcw.but hU (λe=>by omega)
  exact⟨⟨q0,q1,q2⟩,hU⟩
 rw [<-hv]
 clear hv hBv hcw hs2
 go_region_held3 (λU=>(U.cell? ⟨w2.heap.size,0,none⟩=some (.int .i64 R.c.1)/\U.cell? ⟨w2.heap.size,1,none⟩=some (.int .u64 (R.c.2.1:Int))/\U.cell? ⟨w2.heap.size,2,none⟩=some (.int .u64 (R.c.2.2:Int)))/\ae (·=w.heap.size+1) v U) (first|exact HS.o _ (ae.of (Below.refl _ _).drew)|exact HS.o _ ((And.right (by assumption):ae (·=w.heap.size+1) v v.drew).call hb9)|exact HS.o _ ((((And.right (by assumption):ae (·=w.heap.size+1) v w9).own _ _).own _ _).own _ _)) (first|(go_at_call 153;refine (HN.o _ (Below.refl _ _).drew).mono ?_;rintro e w9 ⟨rfl,hb9⟩;have HB9:=aa (al (Below.refl v.heap.size v).drew hb9);obtain⟨⟨v0,f0⟩,⟨v1,f1⟩,⟨v2,f2⟩⟩:=HL.o w9 HB9.o))
 go_wp2
 have HQ:=aa (a7 v0 v1 v2 (.int .i64 R.c.1) (.int .u64 (R.c.2.1:Int)) (.int .u64 (R.c.2.2:Int)))
 obtain⟨hf1,hf2⟩:=Made.put (w1:=w) (b:=w.heap.size+1) (HTv.o.later HB9.o) (((ae.of HB0.o).trans HBv.o).call HB9.o) HO.o (by omega) R.c
 exact bodyPost_ret (v:=.tuple #[.agg #[.int .i64 R.c.1,.int .u64 (R.c.2.1:Int),.int .u64 (R.c.2.2:Int)],.int .i64 R.code]) (by simp [results,results108,go_sem,HQ.o.1,HQ.o.2.1,HQ.o.2.2]) rfl ⟨rfl,hf1,hf2⟩
end Go.Proofs.YtfmhdimaijimlaaGreatDoor.D
