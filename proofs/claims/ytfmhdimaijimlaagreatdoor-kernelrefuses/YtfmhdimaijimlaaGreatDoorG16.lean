import Derived.Test.YtfmhdimaijimlaaGreatDoorG15
set_option linter.unusedVariables false
set_option linter.unusedSimpArgs false
set_option maxRecDepth 1000000
set_option maxHeartbeats 8000000
namespace Go.Proofs.YtfmhdimaijimlaaGreatDoor.D
open Go.RowKit
open Go.Proofs.YtfmhdimaijimlaaGreatDoor.H (B64 Cp)
theorem checked_no (s:ByteArray)(c:Int)(hc:c≠0)(w:World):Calls Tryz.prog 190 #[.string s,.int .i64 c] w fun e w'=>e=.returned (errV s c)∧w'=w:=by
 have:=checked_any s c w
 rwa [errO_ne hc] at this
theorem checked_ok (s:ByteArray)(w:World):Calls Tryz.prog 190 #[.string s,.int .i64 0] w fun e w'=>e=.returned .nilIface∧w'=w:=checked_any s 0 w
theorem three_set {w:World}{b:Nat}{v0 v1 v2:Value}(h0:w.cell? ⟨b,0,none⟩=some v0)(h1:w.cell? ⟨b,1,none⟩=some v1)(h2:w.cell? ⟨b,2,none⟩=some v2)(x y z:Value) :
  (w.setCell ⟨b,0,none⟩ x).cell? ⟨b,0,none⟩=some x∧((w.setCell ⟨b,0,none⟩ x).setCell ⟨b,1,none⟩ y).cell? ⟨b,1,none⟩=some y∧(((w.setCell ⟨b,0,none⟩ x).setCell ⟨b,1,none⟩ y).setCell ⟨b,2,none⟩ z).cell? ⟨b,2,none⟩=some z :=
 ⟨World.cell?_setCell_same _ _ _ h0,World.cell?_setCell_same _ _ _ (cell_set_ne h1 (by omega)),World.cell?_setCell_same _ _ _ (cell_set_ne (cell_set_ne h2 (by omega)) (by omega))⟩
def Made (w:World)(H:Hd)(R:Ans)(e:Ending)(w':World):Prop :=
 (∃st,e=.returned (.tuple #[cpV R.c,errO st R.code]))∧Tri w' H R.s∧But H.Wr w w'
structure Zc (w:World)(b:Nat):Prop where
 c0:Lies w ⟨b,0,none⟩ (.int .i64 0)
 c1:Lies w ⟨b,1,none⟩ (.int .u64 0)
 c2:Lies w ⟨b,2,none⟩ (.int .u64 0)
theorem Zc.but {S:Nat→Prop}{w w':World}{b:Nat}(h:Zc w b)(hb:But S w w')(hn:¬S b):Zc w' b:=⟨h.c0.but hb hn,h.c1.but hb hn,h.c2.but hb hn⟩
theorem Zc.mk_ (w:World):Zc (w.alloc (Obj.cells #[.int .i64 0,.int .u64 0,.int .u64 0] 38)) w.heap.size:=⟨⟨by simp [go_sem],by simp [go_sem]⟩,⟨by simp [go_sem],by simp [go_sem]⟩,⟨by simp [go_sem],by simp [go_sem]⟩⟩
structure Cw (w:World)(b:Nat)(c:Cp):Prop where
 c0:w.cell? ⟨b,0,none⟩=some (.int .i64 c.1)
 c1:w.cell? ⟨b,1,none⟩=some (.int .u64 (c.2.1:Int))
 c2:w.cell? ⟨b,2,none⟩=some (.int .u64 (c.2.2:Int))
theorem Cw.but {S:Nat→Prop}{w w':World}{b:Nat}{c:Cp}(h:Cw w b c)(hb:But S w w')(hn:¬S b):Cw w' b c:=⟨cb_ hb h.c0 hn,cb_ hb h.c1 hn,cb_ hb h.c2 hn⟩
theorem Made.put {w w1 w2:World}{H:Hd}{s:Sta}{b:Nat}(ht:Tri w2 H s)(hb:But H.Wr w w2)(ho:∀k,H.All k→k<w.heap.size)(hl:w.heap.size≤b)(c:Cp) :
  Tri (((w2.setCell ⟨b,0,none⟩ (.int .i64 c.1)).setCell ⟨b,1,none⟩ (.int .u64 (c.2.1:Int))).setCell ⟨b,2,none⟩ (.int .u64 (c.2.2:Int))) H s∧But H.Wr w (((w2.setCell ⟨b,0,none⟩ (.int .i64 c.1)).setCell ⟨b,1,none⟩ (.int .u64 (c.2.1:Int))).setCell ⟨b,2,none⟩ (.int .u64 (c.2.2:Int))) :=
 have ho':∀k,H.All k→k<b:=fun k hk=>Nat.lt_of_lt_of_le (ho k hk) hl
 ⟨((ht.own ho' 0 _).own ho' 1 _).own ho' 2 _,((hb.put (p:=⟨b,0,none⟩) hl _).put (p:=⟨b,1,none⟩) hl _).put (p:=⟨b,2,none⟩) hl _⟩
theorem tokenR {w:World}{H:Hd}{s:Sta}(h:Tri w H s)(o:Int)(ho:(Lit.int .i64 o).wf=true)(D:Nat×Int×Nat)(R:Res)(mk:Nat)
  (hd:∀U,Below w.heap.size w U→Calls Tryz.prog 192 #[.pointer (some ⟨H.g,0,none⟩)] U (Drew U H s D))
  (he:Q.may H.e H.a s.L o=0→D.2.1=0→R.code=0∧∀U,But (·=H.g) w U→Tri U H { s with t:=D.2.2 }→Calls Tryz.prog 193 #[cpV (cap o D.1),.pointer (some ⟨mk,0,none⟩)] U (Entered U H { s with t:=D.2.2 } R)) :
  Calls Tryz.prog 191 #[makV H,.int .i64 o,.func (.func 192) #[.pointer (some ⟨H.g,0,none⟩)] #[],.func (.func 193) #[] #[.pointer (some ⟨mk,0,none⟩)]] w
   (Made w H (if Q.may H.e H.a s.L o≠0 then no s (Q.may H.e H.a s.L o) else if D.2.1≠0 then no { s with t:=D.2.2 } D.2.1 else ⟨cap o D.1,0,⟨R.X,R.l,s.L++[o],D.2.2⟩⟩)):=by
 obtain⟨w0,hw0⟩:∃w0,w0=(w.alloc (Obj.cells #[.pointer (some ⟨H.g,0,none⟩),.pointer (some ⟨H.A.g,0,none⟩),.pointer (some ⟨H.qg,0,none⟩)] 250)).alloc (Obj.cells #[.int .i64 0,.int .u64 0,.int .u64 0] 38):=⟨_,rfl⟩
 have hB0:Below w.heap.size w w0:=by rw [hw0];exact below2 _ _ _
 have hmk:Mk w0 w.heap.size H:=by rw [hw0];exact⟨by simp [go_sem],by simp [go_sem],by simp [go_sem]⟩
 have hz:Zc w0 (w.heap.size+1):=by rw [hw0];exact⟨⟨by simp [go_sem],by simp [go_sem]⟩,⟨by simp [go_sem],by simp [go_sem]⟩,⟨by simp [go_sem],by simp [go_sem]⟩⟩
 have hlt:=h.old
 have hwr:∀k,H.Wr k→k<w.heap.size:=fun k hk=>hlt k (Hd.wr_all hk)
 have HM:Hid (∀U,But H.Wr w0 U→U.cell? ⟨w.heap.size,2,none⟩=some (.pointer (some ⟨H.qg,0,none⟩))∧Zc U (w.heap.size+1)):=fun U hU=>⟨(hmk.but hU (fun e=>by have:=hwr _ e;omega)).c2,hz.but hU (fun e=>by have:=hwr _ e;omega)⟩
 have y2:=hmk.c2
 have HZ:=hid hz
 have HO:=hid hlt
 have HW:=hid hwr
 have HT:=hid (h.later hB0)
 have HB0:=hid hB0
 have HMa:=hid (Q.may_any (h.later hB0).qu o ho)
 have HD:=hid hd
 clear h hB0 hmk hz hlt hwr hd
 unfold makV
 by_cases hm:Q.may H.e H.a s.L o=0
 ·rw [if_neg (by simp [hm])]
  rw [hm] at HMa
  by_cases hD:D.2.1=0
  ·rw [if_neg (by simp [hD])]
   obtain⟨hR,hE⟩:=he hm hD
   have HE:=hid hE
   have HRc:=hid hR
   have HAd:Hid (∀(U:World) (X:List Tk) (l:Fo) (t:Nat),Tri U H ⟨X,l,s.L,t⟩→Calls Tryz.prog 125 #[.pointer (some ⟨H.qg,0,none⟩),.int .i64 o] U fun r w'=>r=.returned (.int .i64 0)∧Q.Qu w' H.qg H.qb H.e H.a (s.L++[o])∧But (fun k=>k=H.qb) U w'):=fun U X l t hT=>by
    have:=Q.add_any hT.qu o ho
    unfold Q.addL at this
    simp only [hm,if_true] at this
    exact this
   clear he hE hm hR
   unfold Drew at HD
   rw [hD] at HD
   clear hD
   unfold Entered at HE
   rw [HRc.out] at HE
   go_enter Tryz.func191,Tryz.ntmps191
   go_upto_region 1 with fail
   rw [←hw0]
   clear hw0
   go_upto_region 4 with (first
    | (go_at_call 190;refine (checked_ok _ _).mono ?_;rintro e w9 ⟨rfl,hw9⟩;obtain rfl:=hw9.symm;clear hw9)
    | (go_at_call 177;refine HMa.out.mono ?_;rintro e w2 ⟨rfl,hb2⟩;have HB2:=hid (bc HB0.out hb2);have HC2:=hid hb2;have HT2:=hid (HT.out.later hb2);clear hb2))
   go_upto_region 9 with (first
    | (go_at_call 190;refine (checked_ok _ _).mono ?_;rintro e w9 ⟨rfl,hw9⟩;obtain rfl:=hw9.symm;clear hw9)
    | (go_at_call 192;refine (HD.out w2 HB2.out).mono ?_;rintro e w3 ⟨rfl,ht3,hb3⟩;have HT3:=hid ht3;have HB3:=hid ((But.of (S:=H.Wr) HC2.out).trans (But.ofG hb3));have HG3:=hid ((But.of HB2.out).trans hb3);clear ht3 hb3))
   obtain⟨w4,hw4⟩:∃w4,w4=(w3.alloc (Obj.cells #[.int .u64 (hiI D.1),.int .u64 (loI D.1)] 31)).alloc (Obj.cells #[.int .i64 o,.int .u64 (hiI D.1),.int .u64 (loI D.1)] 38):=⟨_,rfl⟩
   have hB4:Below w3.heap.size w3 w4:=by rw [hw4];exact below2 _ _ _
   have hc4:Cw w4 (w3.heap.size+1) (cap o D.1):=by rw [hw4];exact⟨by simp [go_sem,cap],by simp [go_sem,cap,hiI],by simp [go_sem,cap,loI]⟩
   have hs3:w.heap.size≤w3.heap.size:=Nat.le_trans HB0.out.size HB3.out.size
   have HY:Hid (∀U,But H.Wr w4 U→Cw U (w3.heap.size+1) (cap o D.1)):=fun U hU=>hc4.but hU (fun e=>by have:=HW.out _ e;omega)
   have z0:w4.cell? ⟨w3.heap.size+1,0,none⟩=some (.int .i64 o):=hc4.c0
   have z1:w4.cell? ⟨w3.heap.size+1,1,none⟩=some (.int .u64 (hiI D.1)):=hc4.c1
   have z2:w4.cell? ⟨w3.heap.size+1,2,none⟩=some (.int .u64 (loI D.1)):=hc4.c2
   have HT4:=hid (HT3.out.later hB4)
   have HB4:=hid (HB3.out.call hB4)
   have HG4:=hid (HG3.out.call hB4)
   have HE4:Hid (Calls Tryz.prog 193 #[.agg #[.int .i64 o,.int .u64 (hiI D.1),.int .u64 (loI D.1)],.pointer (some ⟨mk,0,none⟩)] w4 _):=HE.out w4 HG4.out HT4.out
   clear hB4 hc4 hs3
   rw [←hw4]
   clear hw4
   go_upto_region 14 with (first
    | (go_at_call 125;refine (HAd.out w5 R.X R.l D.2.2 HT5.out).mono ?_;rintro e w6 ⟨rfl,hq6,hb6⟩;have HT6:=hid (HT5.out.count hb6 hq6);have HB6:=hid (HB5.out.trans (But.ofQ hb6));have HC6:=hid (HC5.out.trans (But.ofQ hb6));clear hq6 hb6;obtain⟨u0,u1,u2⟩:=HY.out w6 HC6.out;obtain⟨⟨v0,f0⟩,⟨v1,f1⟩,⟨v2,f2⟩⟩:=(HM.out w6 HB6.out).2)
    | (go_at_call 190;refine (checked_ok _ _).mono ?_;rintro e w9 ⟨rfl,hw9⟩;obtain rfl:=hw9.symm;clear hw9)
    | (go_at_call 193;refine HE4.out.mono ?_;rintro e w5 ⟨rfl,ht5,hb5⟩;have HT5:=hid ht5;have HB5:=hid (HB4.out.trans (But.ofA hb5));have HC5:=hid (But.ofA (H:=H) hb5);clear ht5 hb5;have y5:=(HM.out w5 HB5.out).1))
   have u0':w6.cell? ⟨w3.heap.size+1,0,none⟩=some (.int .i64 o):=u0
   have u1':w6.cell? ⟨w3.heap.size+1,1,none⟩=some (.int .u64 (hiI D.1)):=u1
   have u2':w6.cell? ⟨w3.heap.size+1,2,none⟩=some (.int .u64 (loI D.1)):=u2
   clear u0 u1 u2
   go_wp2
   have HQ:=hid (three_set v0 v1 v2 (.int .i64 o) (.int .u64 (hiI D.1)) (.int .u64 (loI D.1)))
   obtain⟨hf1,hf2⟩:=Made.put (w1:=w) (b:=w.heap.size+1) HT6.out ((But.of HB0.out).trans HB6.out) HO.out (by omega) (cap o D.1)
   exact bodyPost_ret (v:=.tuple #[.agg #[.int .i64 o,.int .u64 (hiI D.1),.int .u64 (loI D.1)],.nilIface]) (by simp [results,Tryz.results191,go_sem,HQ.out.1,HQ.out.2.1,HQ.out.2.2]) rfl ⟨⟨default,rfl⟩,hf1,hf2⟩
  ·rw [if_pos hD]
   have HDn:=hid hD
   unfold Drew at HD
   clear he hm hD
   go_enter Tryz.func191,Tryz.ntmps191
   go_upto_region 1 with fail
   rw [←hw0]
   clear hw0
   go_upto_region 4 with (first
    | (go_at_call 190;refine (checked_ok _ _).mono ?_;rintro e w9 ⟨rfl,hw9⟩;obtain rfl:=hw9.symm;clear hw9)
    | (go_at_call 177;refine HMa.out.mono ?_;rintro e w2 ⟨rfl,hb2⟩;have HB2:=hid (bc HB0.out hb2);have HC2:=hid hb2;have HT2:=hid (HT.out.later hb2);clear hb2))
   go_upto_region 7 with (first
    | (go_at_call 190;refine (checked_no _ _ HDn.out _).mono ?_;unfold errV;rintro e w9 ⟨rfl,hw9⟩;obtain rfl:=hw9.symm;clear hw9)
    | (go_at_call 192;refine (HD.out w2 HB2.out).mono ?_;rintro e w3 ⟨rfl,ht3,hb3⟩;have HT3:=hid ht3;have HB3:=hid ((But.of (S:=H.Wr) HC2.out).trans (But.ofG hb3));have hbw:=HB3.out.alloc (.cells #[.int .u64 (hiI D.1),.int .u64 (loI D.1)] 31);have HT4:=hid (ht3.later (below1 _ (.cells #[.int .u64 (hiI D.1),.int .u64 (loI D.1)] 31)));have HB4:=hid hbw;obtain⟨⟨v0,f0⟩,⟨v1,f1⟩,⟨v2,f2⟩⟩:=(HM.out _ hbw).2;clear ht3 hb3 hbw))
   go_wp2
   have HQ:=hid (three_set v0 v1 v2 (.int .i64 0) (.int .u64 0) (.int .u64 0))
   obtain⟨hf1,hf2⟩:=Made.put (w1:=w) (b:=w.heap.size+1) HT4.out ((But.of HB0.out).trans HB4.out) HO.out (by omega) (0,0,0)
   exact bodyPost_ret (v:=.tuple #[.agg #[.int .i64 0,.int .u64 0,.int .u64 0],errV _ _]) (by simp [results,Tryz.results191,go_sem,HQ.out.1,HQ.out.2.1,HQ.out.2.2];rfl) rfl ⟨⟨_,by rw [show (no { s with t:=D.2.2 } D.2.1).code=D.2.1 from rfl,errO_ne HDn.out];rfl⟩,hf1,hf2⟩
 ·rw [if_pos hm]
  have HMn:=hid hm
  clear he hm
  go_enter Tryz.func191,Tryz.ntmps191
  go_upto_region 1 with fail
  rw [←hw0]
  clear hw0
  go_upto_region 3 with (first
    | (go_at_call 190;refine (checked_no _ _ HMn.out _).mono ?_;unfold errV;rintro e w9 ⟨rfl,hw9⟩;obtain rfl:=hw9.symm;clear hw9)
    | (go_at_call 177;refine HMa.out.mono ?_;rintro e w2 ⟨rfl,hb2⟩;have HB2:=hid (bc HB0.out hb2);have HC2:=hid hb2;have HT2:=hid (HT.out.later hb2);obtain⟨⟨v0,f0⟩,⟨v1,f1⟩,⟨v2,f2⟩⟩:=(HM.out w2 (But.of hb2)).2;clear hb2))
  go_wp2
  have HQ:=hid (three_set v0 v1 v2 (.int .i64 0) (.int .u64 0) (.int .u64 0))
  obtain⟨hf1,hf2⟩:=Made.put (w1:=w) (b:=w.heap.size+1) HT2.out (But.of HB2.out) HO.out (by omega) (0,0,0)
  exact bodyPost_ret (v:=.tuple #[.agg #[.int .i64 0,.int .u64 0,.int .u64 0],errV _ _]) (by simp [results,Tryz.results191,go_sem,HQ.out.1,HQ.out.2.1,HQ.out.2.2];rfl) rfl ⟨⟨_,by rw [show (no s (Q.may H.e H.a s.L o)).code=Q.may H.e H.a s.L o from rfl,errO_ne HMn.out];rfl⟩,hf1,hf2⟩
theorem tokenC {w:World}{H:Hd}{s:Sta}(h:Tri w H s)(o:Int)(ho:(Lit.int .i64 o).wf=true)(D:Nat×Int×Nat)(R:Res)(mk pc nb rb:Nat)
  (hd:∀U,Below w.heap.size w U→Calls Tryz.prog 203 #[.pointer (some ⟨mk,0,none⟩),.pointer (some ⟨pc,0,none⟩)] U (Drew U H s D))
  (he:Q.may H.e H.a s.L o=0→D.2.1=0→R.code=0∧∀U,But (·=H.g) w U→Tri U H { s with t:=D.2.2 }→Calls Tryz.prog 205 #[cpV (cap o D.1),.pointer (some ⟨mk,0,none⟩),.pointer (some ⟨nb,0,none⟩),.pointer (some ⟨rb,0,none⟩)] U (Entered U H { s with t:=D.2.2 } R)) :
  Calls Tryz.prog 191 #[makV H,.int .i64 o,.func (.func 203) #[] #[.pointer (some ⟨mk,0,none⟩),.pointer (some ⟨pc,0,none⟩)],.func (.func 205) #[] #[.pointer (some ⟨mk,0,none⟩),.pointer (some ⟨nb,0,none⟩),.pointer (some ⟨rb,0,none⟩)]] w
   (Made w H (if Q.may H.e H.a s.L o≠0 then no s (Q.may H.e H.a s.L o) else if D.2.1≠0 then no { s with t:=D.2.2 } D.2.1 else ⟨cap o D.1,0,⟨R.X,R.l,s.L++[o],D.2.2⟩⟩)):=by
 obtain⟨w0,hw0⟩:∃w0,w0=(w.alloc (Obj.cells #[.pointer (some ⟨H.g,0,none⟩),.pointer (some ⟨H.A.g,0,none⟩),.pointer (some ⟨H.qg,0,none⟩)] 250)).alloc (Obj.cells #[.int .i64 0,.int .u64 0,.int .u64 0] 38):=⟨_,rfl⟩
 have hB0:Below w.heap.size w w0:=by rw [hw0];exact below2 _ _ _
 have hmk:Mk w0 w.heap.size H:=by rw [hw0];exact⟨by simp [go_sem],by simp [go_sem],by simp [go_sem]⟩
 have hz:Zc w0 (w.heap.size+1):=by rw [hw0];exact⟨⟨by simp [go_sem],by simp [go_sem]⟩,⟨by simp [go_sem],by simp [go_sem]⟩,⟨by simp [go_sem],by simp [go_sem]⟩⟩
 have hlt:=h.old
 have hwr:∀k,H.Wr k→k<w.heap.size:=fun k hk=>hlt k (Hd.wr_all hk)
 have HM:Hid (∀U,But H.Wr w0 U→U.cell? ⟨w.heap.size,2,none⟩=some (.pointer (some ⟨H.qg,0,none⟩))∧Zc U (w.heap.size+1)):=fun U hU=>⟨(hmk.but hU (fun e=>by have:=hwr _ e;omega)).c2,hz.but hU (fun e=>by have:=hwr _ e;omega)⟩
 have y2:=hmk.c2
 have HZ:=hid hz
 have HO:=hid hlt
 have HW:=hid hwr
 have HT:=hid (h.later hB0)
 have HB0:=hid hB0
 have HMa:=hid (Q.may_any (h.later hB0).qu o ho)
 have HD:=hid hd
 clear h hB0 hmk hz hlt hwr hd
 unfold makV
 by_cases hm:Q.may H.e H.a s.L o=0
 ·rw [if_neg (by simp [hm])]
  rw [hm] at HMa
  by_cases hD:D.2.1=0
  ·rw [if_neg (by simp [hD])]
   obtain⟨hR,hE⟩:=he hm hD
   have HE:=hid hE
   have HRc:=hid hR
   have HAd:Hid (∀(U:World) (X:List Tk) (l:Fo) (t:Nat),Tri U H ⟨X,l,s.L,t⟩→Calls Tryz.prog 125 #[.pointer (some ⟨H.qg,0,none⟩),.int .i64 o] U fun r w'=>r=.returned (.int .i64 0)∧Q.Qu w' H.qg H.qb H.e H.a (s.L++[o])∧But (fun k=>k=H.qb) U w'):=fun U X l t hT=>by
    have:=Q.add_any hT.qu o ho
    unfold Q.addL at this
    simp only [hm,if_true] at this
    exact this
   clear he hE hm hR
   unfold Drew at HD
   rw [hD] at HD
   clear hD
   unfold Entered at HE
   rw [HRc.out] at HE
   go_enter Tryz.func191,Tryz.ntmps191
   go_upto_region 1 with fail
   rw [←hw0]
   clear hw0
   go_upto_region 4 with (first
    | (go_at_call 190;refine (checked_ok _ _).mono ?_;rintro e w9 ⟨rfl,hw9⟩;obtain rfl:=hw9.symm;clear hw9)
    | (go_at_call 177;refine HMa.out.mono ?_;rintro e w2 ⟨rfl,hb2⟩;have HB2:=hid (bc HB0.out hb2);have HC2:=hid hb2;have HT2:=hid (HT.out.later hb2);clear hb2))
   go_upto_region 9 with (first
    | (go_at_call 190;refine (checked_ok _ _).mono ?_;rintro e w9 ⟨rfl,hw9⟩;obtain rfl:=hw9.symm;clear hw9)
    | (go_at_call 203;refine (HD.out w2 HB2.out).mono ?_;rintro e w3 ⟨rfl,ht3,hb3⟩;have HT3:=hid ht3;have HB3:=hid ((But.of (S:=H.Wr) HC2.out).trans (But.ofG hb3));have HG3:=hid ((But.of HB2.out).trans hb3);clear ht3 hb3))
   obtain⟨w4,hw4⟩:∃w4,w4=(w3.alloc (Obj.cells #[.int .u64 (hiI D.1),.int .u64 (loI D.1)] 31)).alloc (Obj.cells #[.int .i64 o,.int .u64 (hiI D.1),.int .u64 (loI D.1)] 38):=⟨_,rfl⟩
   have hB4:Below w3.heap.size w3 w4:=by rw [hw4];exact below2 _ _ _
   have hc4:Cw w4 (w3.heap.size+1) (cap o D.1):=by rw [hw4];exact⟨by simp [go_sem,cap],by simp [go_sem,cap,hiI],by simp [go_sem,cap,loI]⟩
   have hs3:w.heap.size≤w3.heap.size:=Nat.le_trans HB0.out.size HB3.out.size
   have HY:Hid (∀U,But H.Wr w4 U→Cw U (w3.heap.size+1) (cap o D.1)):=fun U hU=>hc4.but hU (fun e=>by have:=HW.out _ e;omega)
   have z0:w4.cell? ⟨w3.heap.size+1,0,none⟩=some (.int .i64 o):=hc4.c0
   have z1:w4.cell? ⟨w3.heap.size+1,1,none⟩=some (.int .u64 (hiI D.1)):=hc4.c1
   have z2:w4.cell? ⟨w3.heap.size+1,2,none⟩=some (.int .u64 (loI D.1)):=hc4.c2
   have HT4:=hid (HT3.out.later hB4)
   have HB4:=hid (HB3.out.call hB4)
   have HG4:=hid (HG3.out.call hB4)
   have HE4:Hid (Calls Tryz.prog 205 #[.agg #[.int .i64 o,.int .u64 (hiI D.1),.int .u64 (loI D.1)],.pointer (some ⟨mk,0,none⟩),.pointer (some ⟨nb,0,none⟩),.pointer (some ⟨rb,0,none⟩)] w4 _):=HE.out w4 HG4.out HT4.out
   clear hB4 hc4 hs3
   rw [←hw4]
   clear hw4
   go_upto_region 14 with (first
    | (go_at_call 125;refine (HAd.out w5 R.X R.l D.2.2 HT5.out).mono ?_;rintro e w6 ⟨rfl,hq6,hb6⟩;have HT6:=hid (HT5.out.count hb6 hq6);have HB6:=hid (HB5.out.trans (But.ofQ hb6));have HC6:=hid (HC5.out.trans (But.ofQ hb6));clear hq6 hb6;obtain⟨u0,u1,u2⟩:=HY.out w6 HC6.out;obtain⟨⟨v0,f0⟩,⟨v1,f1⟩,⟨v2,f2⟩⟩:=(HM.out w6 HB6.out).2)
    | (go_at_call 190;refine (checked_ok _ _).mono ?_;rintro e w9 ⟨rfl,hw9⟩;obtain rfl:=hw9.symm;clear hw9)
    | (go_at_call 205;refine HE4.out.mono ?_;rintro e w5 ⟨rfl,ht5,hb5⟩;have HT5:=hid ht5;have HB5:=hid (HB4.out.trans (But.ofA hb5));have HC5:=hid (But.ofA (H:=H) hb5);clear ht5 hb5;have y5:=(HM.out w5 HB5.out).1))
   have u0':w6.cell? ⟨w3.heap.size+1,0,none⟩=some (.int .i64 o):=u0
   have u1':w6.cell? ⟨w3.heap.size+1,1,none⟩=some (.int .u64 (hiI D.1)):=u1
   have u2':w6.cell? ⟨w3.heap.size+1,2,none⟩=some (.int .u64 (loI D.1)):=u2
   clear u0 u1 u2
   go_wp2
   have HQ:=hid (three_set v0 v1 v2 (.int .i64 o) (.int .u64 (hiI D.1)) (.int .u64 (loI D.1)))
   obtain⟨hf1,hf2⟩:=Made.put (w1:=w) (b:=w.heap.size+1) HT6.out ((But.of HB0.out).trans HB6.out) HO.out (by omega) (cap o D.1)
   exact bodyPost_ret (v:=.tuple #[.agg #[.int .i64 o,.int .u64 (hiI D.1),.int .u64 (loI D.1)],.nilIface]) (by simp [results,Tryz.results191,go_sem,HQ.out.1,HQ.out.2.1,HQ.out.2.2]) rfl ⟨⟨default,rfl⟩,hf1,hf2⟩
  ·rw [if_pos hD]
   have HDn:=hid hD
   unfold Drew at HD
   clear he hm hD
   go_enter Tryz.func191,Tryz.ntmps191
   go_upto_region 1 with fail
   rw [←hw0]
   clear hw0
   go_upto_region 4 with (first
    | (go_at_call 190;refine (checked_ok _ _).mono ?_;rintro e w9 ⟨rfl,hw9⟩;obtain rfl:=hw9.symm;clear hw9)
    | (go_at_call 177;refine HMa.out.mono ?_;rintro e w2 ⟨rfl,hb2⟩;have HB2:=hid (bc HB0.out hb2);have HC2:=hid hb2;have HT2:=hid (HT.out.later hb2);clear hb2))
   go_upto_region 7 with (first
    | (go_at_call 190;refine (checked_no _ _ HDn.out _).mono ?_;unfold errV;rintro e w9 ⟨rfl,hw9⟩;obtain rfl:=hw9.symm;clear hw9)
    | (go_at_call 203;refine (HD.out w2 HB2.out).mono ?_;rintro e w3 ⟨rfl,ht3,hb3⟩;have HT3:=hid ht3;have HB3:=hid ((But.of (S:=H.Wr) HC2.out).trans (But.ofG hb3));have hbw:=HB3.out.alloc (.cells #[.int .u64 (hiI D.1),.int .u64 (loI D.1)] 31);have HT4:=hid (ht3.later (below1 _ (.cells #[.int .u64 (hiI D.1),.int .u64 (loI D.1)] 31)));have HB4:=hid hbw;obtain⟨⟨v0,f0⟩,⟨v1,f1⟩,⟨v2,f2⟩⟩:=(HM.out _ hbw).2;clear ht3 hb3 hbw))
   go_wp2
   have HQ:=hid (three_set v0 v1 v2 (.int .i64 0) (.int .u64 0) (.int .u64 0))
   obtain⟨hf1,hf2⟩:=Made.put (w1:=w) (b:=w.heap.size+1) HT4.out ((But.of HB0.out).trans HB4.out) HO.out (by omega) (0,0,0)
   exact bodyPost_ret (v:=.tuple #[.agg #[.int .i64 0,.int .u64 0,.int .u64 0],errV _ _]) (by simp [results,Tryz.results191,go_sem,HQ.out.1,HQ.out.2.1,HQ.out.2.2];rfl) rfl ⟨⟨_,by rw [show (no { s with t:=D.2.2 } D.2.1).code=D.2.1 from rfl,errO_ne HDn.out];rfl⟩,hf1,hf2⟩
 ·rw [if_pos hm]
  have HMn:=hid hm
  clear he hm
  go_enter Tryz.func191,Tryz.ntmps191
  go_upto_region 1 with fail
  rw [←hw0]
  clear hw0
  go_upto_region 3 with (first
    | (go_at_call 190;refine (checked_no _ _ HMn.out _).mono ?_;unfold errV;rintro e w9 ⟨rfl,hw9⟩;obtain rfl:=hw9.symm;clear hw9)
    | (go_at_call 177;refine HMa.out.mono ?_;rintro e w2 ⟨rfl,hb2⟩;have HB2:=hid (bc HB0.out hb2);have HC2:=hid hb2;have HT2:=hid (HT.out.later hb2);obtain⟨⟨v0,f0⟩,⟨v1,f1⟩,⟨v2,f2⟩⟩:=(HM.out w2 (But.of hb2)).2;clear hb2))
  go_wp2
  have HQ:=hid (three_set v0 v1 v2 (.int .i64 0) (.int .u64 0) (.int .u64 0))
  obtain⟨hf1,hf2⟩:=Made.put (w1:=w) (b:=w.heap.size+1) HT2.out (But.of HB2.out) HO.out (by omega) (0,0,0)
  exact bodyPost_ret (v:=.tuple #[.agg #[.int .i64 0,.int .u64 0,.int .u64 0],errV _ _]) (by simp [results,Tryz.results191,go_sem,HQ.out.1,HQ.out.2.1,HQ.out.2.2];rfl) rfl ⟨⟨_,by rw [show (no s (Q.may H.e H.a s.L o)).code=Q.may H.e H.a s.L o from rfl,errO_ne HMn.out];rfl⟩,hf1,hf2⟩
theorem mroot_any {w:World}{H:Hd}{s:Sta}(h:Tri w H s)(hf:Fit H.toPar s)(o:Int)(ho:(Lit.int .i64 o).wf=true) :
  Calls Tryz.prog 152 #[makV H,.int .i64 o] w (Made w H (rootA H.toPar s o)):=by
 obtain⟨w0,hw0⟩:∃w0,w0=(w.alloc (Obj.cells #[.pointer (some ⟨H.g,0,none⟩),.pointer (some ⟨H.A.g,0,none⟩),.pointer (some ⟨H.qg,0,none⟩)] 250)).alloc (Obj.cells #[.int .i64 0,.int .u64 0,.int .u64 0] 38):=⟨_,rfl⟩
 have hB0:Below w.heap.size w w0:=by rw [hw0];exact below2 _ _ _
 have hmk:Mk w0 w.heap.size H:=by rw [hw0];exact⟨by simp [go_sem],by simp [go_sem],by simp [go_sem]⟩
 have hz:Zc w0 (w.heap.size+1):=by rw [hw0];exact⟨⟨by simp [go_sem],by simp [go_sem]⟩,⟨by simp [go_sem],by simp [go_sem]⟩,⟨by simp [go_sem],by simp [go_sem]⟩⟩
 have hlt:=h.old
 have hwr:∀k,H.Wr k→k<w.heap.size:=fun k hk=>hlt k (Hd.wr_all hk)
 have HM:Hid (∀U,But H.Wr w0 U→Mk U w.heap.size H∧Zc U (w.heap.size+1)):=fun U hU=>⟨hmk.but hU (fun e=>by have:=hwr _ e;omega),hz.but hU (fun e=>by have:=hwr _ e;omega)⟩
 have y1:=hmk.c1
 have HO:=hid hlt
 have HT:=hid (h.later hB0)
 have HB0:=hid hB0
 have HI:=hid (cin_any (h.later hB0).cat.cm o)
 unfold rootA makV
 by_cases hn:0<inN s.X s.l o
 ·rw [if_pos hn]
  obtain⟨m,hm⟩:∃m:Nat,m=inN s.X s.l o:=⟨_,rfl⟩
  rw [←hm] at HI hn
  have hd:decide ((m:Int)>0)=true:=decide_eq_true (by omega)
  have hp:0<(m:Int):=by omega
  clear h hB0 hmk hz hlt hwr hf hm
  go_enter Tryz.func152,Tryz.ntmps152
  go_upto_region 1 with fail
  rw [←hw0]
  clear hw0
  go_upto_region 2 with (first
   | (go_at_call 128;refine HI.out.mono ?_;rintro e w2 ⟨rfl,hb2⟩;have HB2:=hid (bc HB0.out hb2);have HT2:=hid (HT.out.later hb2);obtain⟨⟨v0,f0⟩,⟨v1,f1⟩,⟨v2,f2⟩⟩:=(HM.out w2 (But.of hb2)).2;clear hb2))
  go_wp2_with (first
   | (go_at_call 190;refine (checked_no _ _ (by decide) _).mono ?_;unfold errV;rintro e w9 ⟨rfl,hw9⟩;obtain rfl:=hw9.symm;clear hw9))
  have HQ:=hid (three_set v0 v1 v2 (.int .i64 0) (.int .u64 0) (.int .u64 0))
  obtain⟨hf1,hf2⟩:=Made.put (w1:=w) (b:=w.heap.size+1) HT2.out (But.of HB2.out) HO.out (by omega) (0,0,0)
  exact bodyPost_ret (v:=.tuple #[.agg #[.int .i64 0,.int .u64 0,.int .u64 0],errV _ _]) (by simp [results,Tryz.results152,go_sem,HQ.out.1,HQ.out.2.1,HQ.out.2.2];rfl) rfl ⟨⟨_,by rw [show (no s 19).code=19 from rfl,errO_ne (by decide)];rfl⟩,hf1,hf2⟩
 ·rw [if_neg hn]
  obtain⟨R,hR⟩:∃R,R=tokR H.toPar s o (drawD H.toPar s.t) (-1) 31:=⟨_,rfl⟩
  have HTk:Hid (∀U,Below w.heap.size w U→Mk U w.heap.size H→Calls Tryz.prog 191 #[makV H,.int .i64 o,.func (.func 192) #[.pointer (some ⟨H.g,0,none⟩)] #[],.func (.func 193) #[] #[.pointer (some ⟨w.heap.size,0,none⟩)]] U (Made U H R)):=fun U hU hmU=>by
   rw [hR]
   refine tokenR (h.later hU) o ho (drawD H.toPar s.t) ⟨(low s.l:Int),0,s.X.set (low s.l) (cap o (drawD H.toPar s.t).1,31),s.l++[((low s.l:Int),-1)]⟩ w.heap.size (fun V hV=>draw_any ((h.later hU).later hV)) (fun hm hD=>⟨rfl,fun V hV hT=>?_⟩)
   have:=enter54 hT (hmU.but hV (fun e=>by have:=hwr _ (.inl e);omega)) (cap o (drawD H.toPar s.t).1) (half_lt (drawD_small hf s.t))
   rwa [show rootR H.mo s.X s.l (cap o (drawD H.toPar s.t).1) 31=_ from rootR_ok hf hm hn] at this
  rw [←hR]
  unfold makV at HTk
  obtain⟨m,hm⟩:∃m:Nat,m=inN s.X s.l o:=⟨_,rfl⟩
  rw [←hm] at HI hn
  have hd:decide ((m:Int)>0)=false:=decide_eq_false (by omega)
  have hp:¬0<(m:Int):=by omega
  clear h hB0 hmk hz hlt hwr hf hm hR
  go_enter Tryz.func152,Tryz.ntmps152
  go_upto_region 1 with fail
  rw [←hw0]
  clear hw0
  go_upto_region 3 with (first
   | (go_at_call 128;refine HI.out.mono ?_;rintro e w2 ⟨rfl,hb2⟩;have HB2:=hid (bc HB0.out hb2);have HC2:=hid hb2;obtain⟨x0,x1,x2⟩:=(HM.out w2 (But.of hb2)).1;clear hb2))
  go_wp2_with (first
   | (go_at_call 191;refine (HTk.out w2 HB2.out (HM.out w2 (But.of HC2.out)).1).mono ?_;rintro e w3 ⟨⟨st,rfl⟩,ht3,hb3⟩;have HT3:=hid ht3;have HB3:=hid ((But.of (S:=H.Wr) HC2.out).trans hb3);obtain⟨⟨v0,f0⟩,⟨v1,f1⟩,⟨v2,f2⟩⟩:=(HM.out w3 HB3.out).2;clear ht3 hb3))
  have HQ:=hid (three_set v0 v1 v2 (.int .i64 R.c.1) (.int .u64 (R.c.2.1:Int)) (.int .u64 (R.c.2.2:Int)))
  obtain⟨hf1,hf2⟩:=Made.put (w1:=w) (b:=w.heap.size+1) HT3.out ((But.of HB0.out).trans HB3.out) HO.out (by omega) R.c
  exact bodyPost_ret (v:=.tuple #[.agg #[.int .i64 R.c.1,.int .u64 (R.c.2.1:Int),.int .u64 (R.c.2.2:Int)],errO st R.code]) (by simp [results,Tryz.results152,go_sem,HQ.out.1,HQ.out.2.1,HQ.out.2.2]) rfl ⟨⟨st,rfl⟩,hf1,hf2⟩
def srcN (s:Sta)(c:Cp)(r:Int):Int×Int:=if hasC s.X s.l c=false then (0,3) else if partB 4 (rgt s c)=false∨partB r (rgt s c)=false then (0,4) else (findN s.X s.l c,0)
theorem childA_eq (P:Par)(s:Sta)(c:Cp)(r:Int):childA P s c r=if (srcN s c r).2≠0 then no s (srcN s c r).2 else tokR P s c.1 (childD P s c.1) (findN s.X s.l c) r:=by
 unfold childA srcN
 by_cases h1:hasC s.X s.l c=false
 ·simp only [if_pos h1];rfl
 ·simp only [if_neg h1]
  by_cases h2:partB 4 (rgt s c)=false∨partB r (rgt s c)=false
  ·simp only [if_pos h2];rfl
  ·simp only [if_neg h2];rfl
theorem srcN_ok {s:Sta}{c:Cp}{r:Int}(h:(srcN s c r).2=0):hasC s.X s.l c=true∧partB r (rgt s c)=true∧(srcN s c r).1=findN s.X s.l c:=by
 unfold srcN at h ⊢
 by_cases h1:hasC s.X s.l c=false
 ·simp [if_pos h1] at h
 ·simp only [if_neg h1] at h ⊢
  by_cases h2:partB 4 (rgt s c)=false∨partB r (rgt s c)=false
  ·simp [if_pos h2] at h
  ·simp only [if_neg h2]
   refine⟨by simpa using h1,?_,trivial⟩
   cases hq:partB r (rgt s c) with
   | true=>rfl
   | false=>exact absurd (.inr hq) h2
theorem has_any (a b:Int)(w:World):Calls Tryz.prog 197 #[.int .i64 a,.int .i64 b] w fun e w'=>e=.returned (.bool (partB b a))∧w'=w:=by
 have hp:=hid (part_any b a)
 go_enter Tryz.func197,Tryz.ntmps197
 go_wp2_with (first|(go_at_call 178;refine (hp.out _).mono ?_;rintro e w9 ⟨rfl,hw9⟩;obtain rfl:=hw9.symm;clear hw9))
 go_ret
 exact⟨rfl,rfl⟩
theorem source_any {w:World}{H:Hd}{s:Sta}(h:Tri w H s)(c:Cp)(r:Int)(hw:c.2.1<B64∧c.2.2<B64) :
  Calls Tryz.prog 202 #[makV H,cpV c,.int .i64 r] w fun e w'=>(∃st,e=.returned (.tuple #[.int .i64 (srcN s c r).1,errO st (srcN s c r).2]))∧Below w.heap.size w w':=by
 obtain⟨o,hi,lo⟩:=c
 obtain⟨w0,hw0⟩:∃w0,w0=(w.alloc (Obj.cells #[.pointer (some ⟨H.g,0,none⟩),.pointer (some ⟨H.A.g,0,none⟩),.pointer (some ⟨H.qg,0,none⟩)] 250)).alloc (Obj.cells #[.int .i64 o,.int .u64 (hi:Int),.int .u64 (lo:Int)] 38):=⟨_,rfl⟩
 have hB0:Below w.heap.size w w0:=by rw [hw0];exact below2 _ _ _
 have hmk:Mk w0 w.heap.size H:=by rw [hw0];exact⟨by simp [go_sem],by simp [go_sem],by simp [go_sem]⟩
 have x0:w0.cell? ⟨w.heap.size+1,0,none⟩=some (.int .i64 o):=by rw [hw0];simp [go_sem]
 have x1:w0.cell? ⟨w.heap.size+1,1,none⟩=some (.int .u64 (hi:Int)):=by rw [hw0];simp [go_sem]
 have x2:w0.cell? ⟨w.heap.size+1,2,none⟩=some (.int .u64 (lo:Int)):=by rw [hw0];simp [go_sem]
 have y1:=hmk.c1
 have HM:=hid hmk
 have HT:=hid (h.later hB0)
 have HB0:=hid hB0
 have HF:=hid (cfind_any (h.later hB0).cat (o,hi,lo) hw)
 unfold makV srcN
 by_cases hc:hasC s.X s.l (o,hi,lo)=false
 ·rw [hc] at HF
  simp only [if_pos hc]
  obtain⟨m,hm⟩:∃m,m=findN s.X s.l (o,hi,lo):=⟨_,rfl⟩
  rw [←hm] at HF
  clear h hB0 hmk hc hm
  go_enter Tryz.func202,Tryz.ntmps202
  go_upto_region 1 with fail
  rw [←hw0]
  clear hw0
  go_wp2_with (first
   | (go_at_call 190;refine (checked_no _ _ (by decide) _).mono ?_;unfold errV;rintro e w9 ⟨rfl,hw9⟩;obtain rfl:=hw9.symm;clear hw9)
   | (go_at_call 196;refine HF.out.mono ?_;rintro e w2 ⟨rfl,hb2⟩;have HB2:=hid (bc HB0.out hb2);clear hb2))
  exact bodyPost_ret (v:=.tuple #[.int .i64 0,errV _ _]) (by simp [results,Tryz.results202,go_sem];rfl) rfl ⟨⟨_,by rw [errO_ne (by decide)]⟩,HB2.out⟩
 ·have hc':hasC s.X s.l (o,hi,lo)=true:=by simpa using hc
  rw [hc'] at HF
  simp only [if_neg hc]
  obtain⟨hfn,hft⟩:=found h.cat.inv hc'
  obtain⟨p,hp⟩:=mn_.1 hfn
  have HA:=hid (fun (U:World) (hU:Below w.heap.size w U)=>at_in (h.later hU).cat.cm (findN s.X s.l (o,hi,lo)) p hp)
  rw [hft] at HA
  obtain⟨q,hq⟩:∃q,q=rgt s (o,hi,lo):=⟨_,rfl⟩
  rw [←hq]
  unfold rgt at hq
  rw [←hq] at HA
  obtain⟨m,hm⟩:∃m,m=findN s.X s.l (o,hi,lo):=⟨_,rfl⟩
  rw [←hm] at HF HA
  rw [←hm]
  have HP:=hid (part_any r q)
  have HHs:=hid (has_any q 4)
  have hcell:Hid (∀(U:World),(U.alloc (Obj.cells #[.int .i64 o,.int .u64 (hi:Int),.int .u64 (lo:Int),.int .i64 q,.int .i64 p] 61)).cell? ⟨U.heap.size,3,none⟩=some (.int .i64 q)):=fun U=>by simp [go_sem]
  unfold tokA at HA
  clear h hB0 hmk hc hc' hm hq hft hfn hp
  cases hp4:partB 4 q with
  | false =>
   rw [hp4] at HHs
   simp only [true_or,if_true]
   clear hp4
   go_enter Tryz.func202,Tryz.ntmps202
   go_upto_region 1 with fail
   rw [←hw0]
   clear hw0
   go_upto_region 4 with (first
    | (go_at_call 196;refine HF.out.mono ?_;rintro e w2 ⟨rfl,hb2⟩;have HB2:=hid (bc HB0.out hb2);have z1:=(HM.out.later hb2).c1;clear hb2))
   go_wp2_with (first
    | (go_at_call 190;refine (checked_no _ _ (by decide) _).mono ?_;unfold errV;rintro e w9 ⟨rfl,hw9⟩;obtain rfl:=hw9.symm;clear hw9)
    | (go_at_call 197;refine (HHs.out _).mono ?_;rintro e w9 ⟨rfl,hw9⟩;obtain rfl:=hw9.symm;clear hw9)
    | (go_at_call 122;refine (HA.out w2 HB2.out).mono ?_;rintro e w3 ⟨rfl,hb3⟩;have HB3:=hid (bc HB2.out hb3);clear hb3))
   exact bodyPost_ret (v:=.tuple #[.int .i64 0,errV _ _]) (by simp [results,Tryz.results202,go_sem];rfl) rfl ⟨⟨_,by rw [errO_ne (by decide)]⟩,HB3.out.alloc HB3.out.size _⟩
  | true =>
   rw [hp4] at HHs
   clear hp4
   cases hpr:partB r q with
   | false =>
    rw [hpr] at HP
    simp only [or_true,if_true]
    clear hpr
    go_enter Tryz.func202,Tryz.ntmps202
    go_upto_region 1 with fail
    rw [←hw0]
    clear hw0
    go_upto_region 4 with (first
     | (go_at_call 196;refine HF.out.mono ?_;rintro e w2 ⟨rfl,hb2⟩;have HB2:=hid (bc HB0.out hb2);have z1:=(HM.out.later hb2).c1;clear hb2))
    go_wp2_with (first
     | (go_at_call 190;refine (checked_no _ _ (by decide) _).mono ?_;unfold errV;rintro e w9 ⟨rfl,hw9⟩;obtain rfl:=hw9.symm;clear hw9)
     | (go_at_call 178;refine (HP.out _).mono ?_;rintro e w9 ⟨rfl,hw9⟩;obtain rfl:=hw9.symm;clear hw9)
     | (go_at_call 197;refine (HHs.out _).mono ?_;rintro e w9 ⟨rfl,hw9⟩;obtain rfl:=hw9.symm;clear hw9)
     | (go_at_call 122;refine (HA.out w2 HB2.out).mono ?_;rintro e w3 ⟨rfl,hb3⟩;have HB3:=hid (bc HB2.out hb3);clear hb3))
    exact bodyPost_ret (v:=.tuple #[.int .i64 0,errV _ _]) (by simp [results,Tryz.results202,go_sem];rfl) rfl ⟨⟨_,by rw [errO_ne (by decide)]⟩,HB3.out.alloc HB3.out.size _⟩
   | true =>
    rw [hpr] at HP
    simp only [Bool.true_eq_false,or_false,if_false]
    clear hpr
    go_enter Tryz.func202,Tryz.ntmps202
    go_upto_region 1 with fail
    rw [←hw0]
    clear hw0
    go_upto_region 4 with (first
     | (go_at_call 196;refine HF.out.mono ?_;rintro e w2 ⟨rfl,hb2⟩;have HB2:=hid (bc HB0.out hb2);have z1:=(HM.out.later hb2).c1;clear hb2))
    go_wp2_with (first
     | (go_at_call 178;refine (HP.out _).mono ?_;rintro e w9 ⟨rfl,hw9⟩;obtain rfl:=hw9.symm;clear hw9)
     | (go_at_call 197;refine (HHs.out _).mono ?_;rintro e w9 ⟨rfl,hw9⟩;obtain rfl:=hw9.symm;clear hw9)
     | (go_at_call 122;refine (HA.out w2 HB2.out).mono ?_;rintro e w3 ⟨rfl,hb3⟩;have HB3:=hid (bc HB2.out hb3);clear hb3))
    exact bodyPost_ret (v:=.tuple #[.int .i64 m,.nilIface]) (by simp [results,Tryz.results202,go_sem]) rfl ⟨⟨default,rfl⟩,HB3.out.alloc HB3.out.size _⟩
end Go.Proofs.YtfmhdimaijimlaaGreatDoor.D
