import Derived.Test.YtfmhdimaijimlaaGreatDoorE11
set_option linter.all false
set_option maxRecDepth 1000000
set_option maxHeartbeats 8000000
open Go.Proofs.Tryz
variable {w w' w1 w2:Go.World}{n m k i j b g base kn:Nat}{a:Option Go.Addr}
namespace Go.Proofs.YtfmhdimaijimlaaGreatDoor.D
open Go.RowKit
open Go.Proofs.YtfmhdimaijimlaaGreatDoor.H (B64 Cp)
theorem checked_no (s:ByteArray)(c:Int)(hc:c≠0)(w:World):Calls prog 190 #[.string s,.int .i64 c] w λe w'=>e=.returned (errV s c)∧w'=w:=by
 have:=checked_any s c w
 rwa [errO_ne hc] at this
theorem checked_ok (s:ByteArray)(w:World):Calls prog 190 #[.string s,.int .i64 0] w λe w'=>e=.returned .nilIface∧w'=w:=checked_any s 0 w
theorem three_set {v0 v1 v2:Value}(h0:w.cell? ⟨b,0,none⟩=some v0)(h1:w.cell? ⟨b,1,none⟩=some v1)(h2:w.cell? ⟨b,2,none⟩=some v2)(x y z:Value) :
  (w.setCell ⟨b,0,none⟩ x).cell? ⟨b,0,none⟩=some x∧((w.setCell ⟨b,0,none⟩ x).setCell ⟨b,1,none⟩ y).cell? ⟨b,1,none⟩=some y∧(((w.setCell ⟨b,0,none⟩ x).setCell ⟨b,1,none⟩ y).setCell ⟨b,2,none⟩ z).cell? ⟨b,2,none⟩=some z :=
 ⟨World.cell?_setCell_same _ _ _ h0,World.cell?_setCell_same _ _ _ (cell_set_ne h1 (by omega)),World.cell?_setCell_same _ _ _ (cell_set_ne (cell_set_ne h2 (by omega)) (by omega))⟩
def Made (w:World)(H:Hd)(R:Ans)(e:Ending)(w':World):Prop :=
 (∃st,e=.returned (.tuple #[cpV R.c,errO st R.code]))∧Tri w' H R.s∧But H.Wr w w'
structure Zc (w:World)(b:Nat):Prop where
 c0:Lies w ⟨b,0,none⟩ (.int .i64 0)
 c1:Lies w ⟨b,1,none⟩ (.int .u64 0)
 c2:Lies w ⟨b,2,none⟩ (.int .u64 0)
theorem Zc.but {S:Nat→Prop}(h:Zc w b)(hb:But S w w')(hn:¬S b):Zc w' b:=⟨h.c0.but hb hn,h.c1.but hb hn,h.c2.but hb hn⟩
theorem Zc.mk_ (w:World):Zc (w.alloc (Obj.cells #[.int .i64 0,.int .u64 0,.int .u64 0] 38)) w.heap.size:=⟨⟨by simp [go_sem],by simp [go_sem]⟩,⟨by simp [go_sem],by simp [go_sem]⟩,⟨by simp [go_sem],by simp [go_sem]⟩⟩
structure Cw (w:World)(b:Nat)(c:Cp):Prop where
 c0:w.cell? ⟨b,0,none⟩=some (.int .i64 c.1)
 c1:w.cell? ⟨b,1,none⟩=some (.int .u64 (c.2.1:Int))
 c2:w.cell? ⟨b,2,none⟩=some (.int .u64 (c.2.2:Int))
theorem Cw.but {S:Nat→Prop}{c:Cp}(h:Cw w b c)(hb:But S w w')(hn:¬S b):Cw w' b c:=⟨cb_ hb h.c0 hn,cb_ hb h.c1 hn,cb_ hb h.c2 hn⟩
theorem Made.put {w w1 w2:World}{H:Hd}{s:Sta}{b:Nat}(ht:Tri w2 H s)(hb:But H.Wr w w2)(ho:∀k,H.All k→k<w.heap.size)(hl:w.heap.size≤b)(c:Cp) :
  Tri (((w2.setCell ⟨b,0,none⟩ (.int .i64 c.1)).setCell ⟨b,1,none⟩ (.int .u64 (c.2.1:Int))).setCell ⟨b,2,none⟩ (.int .u64 (c.2.2:Int))) H s∧But H.Wr w (((w2.setCell ⟨b,0,none⟩ (.int .i64 c.1)).setCell ⟨b,1,none⟩ (.int .u64 (c.2.1:Int))).setCell ⟨b,2,none⟩ (.int .u64 (c.2.2:Int))) :=
 have ho':∀k,H.All k→k<b:=λk hk=>Nat.lt_of_lt_of_le (ho k hk) hl
 ⟨((ht.own ho' 0 _).own ho' 1 _).own ho' 2 _,((hb.put (p:=⟨b,0,none⟩) hl _).put (p:=⟨b,1,none⟩) hl _).put (p:=⟨b,2,none⟩) hl _⟩
theorem tokenR {H:Hd}{s:Sta}(h:Tri w H s)(o:Int)(ho:(Lit.int .i64 o).wf=true)(D:Nat×Int×Nat)(R:Res)(mk:Nat)
  (hd:∀U,Below w.heap.size w U→Calls prog 192 #[.pointer (some ⟨H.g,0,none⟩)] U (Drew U H s D))
  (he:Q.may H.e H.a s.L o=0→D.2.1=0→R.code=0∧∀U,But (·=H.g) w U→Tri U H { s with t:=D.2.2 }→Calls prog 193 #[cpV (cap o D.1),.pointer (some ⟨mk,0,none⟩)] U (Entered U H { s with t:=D.2.2 } R)) :
  Calls prog 191 #[makV H,.int .i64 o,.func (.func 192) #[.pointer (some ⟨H.g,0,none⟩)] #[],.func (.func 193) #[] #[.pointer (some ⟨mk,0,none⟩)]] w
   (Made w H (if Q.may H.e H.a s.L o≠0 then no s (Q.may H.e H.a s.L o) else if D.2.1≠0 then no { s with t:=D.2.2 } D.2.1 else ⟨cap o D.1,0,⟨R.X,R.l,s.L++[o],D.2.2⟩⟩)):=by
 obtain⟨w0,hw0⟩:∃w0,w0=(w.alloc (Obj.cells #[.pointer (some ⟨H.g,0,none⟩),.pointer (some ⟨H.A.g,0,none⟩),.pointer (some ⟨H.qg,0,none⟩)] 250)).alloc (Obj.cells #[.int .i64 0,.int .u64 0,.int .u64 0] 38):=⟨_,rfl⟩
 have hB0:Below w.heap.size w w0:=by rw [hw0];exact below2 _ _ _
 have hmk:Mk w0 w.heap.size H:=by rw [hw0];exact⟨by simp [go_sem],by simp [go_sem],by simp [go_sem]⟩
 have hz:Zc w0 (w.heap.size+1):=by rw [hw0];exact⟨⟨by simp [go_sem],by simp [go_sem]⟩,⟨by simp [go_sem],by simp [go_sem]⟩,⟨by simp [go_sem],by simp [go_sem]⟩⟩
 have hlt:=h.old
 have hwr:∀k,H.Wr k→k<w.heap.size:=λk hk=>hlt k (Hd.wr_all hk)
 have HM:Hid (∀U,But H.Wr w0 U→U.cell? ⟨w.heap.size,2,none⟩=some (.pointer (some ⟨H.qg,0,none⟩))∧Zc U (w.heap.size+1)):=λU hU=>⟨(hmk.but hU (λe=>by have:=hwr _ e;omega)).c2,hz.but hU (λe=>by have:=hwr _ e;omega)⟩
 have y2:=hmk.c2
 have HZ:=hid hz
 have HO:=hid hlt
 have HW:=hid hwr
 have HT:=hid (h.later hB0)
 have HB0:=hid hB0
 have HMa:=hid (Q.may_any (h.later hB0).qu o ho)
 have HD:=hid hd
 clear h hB0 hmk hz hlt hwr hd
 unfold makV
 by_cases hm:Q.may H.e H.a s.L o=0
 ·rw [if_neg (by simp [hm])]
  rw [hm] at HMa
  by_cases hD:D.2.1=0
  ·rw [if_neg (by simp [hD])]
   obtain⟨hR,hE⟩:=he hm hD
   have HE:=hid hE
   have HRc:=hid hR
   have HAd:Hid (∀(U:World) (X:List Tk) (l:Fo) (t:Nat),Tri U H ⟨X,l,s.L,t⟩→Calls prog 125 #[.pointer (some ⟨H.qg,0,none⟩),.int .i64 o] U λr w'=>r=.returned (.int .i64 0)∧Q.Qu w' H.qg H.qb H.e H.a (s.L++[o])∧But (λk=>k=H.qb) U w'):=λU X l t hT=>by
    have:=Q.add_any hT.qu o ho
    unfold Q.addL at this
    simp only [hm,if_true] at this
    exact this
   clear he hE hm hR
   unfold Drew at HD
   rw [hD] at HD
   clear hD
   unfold Entered at HE
   rw [HRc.o] at HE
   go_enter func191,ntmps191
   go_upto_region 1 with fail
   rw [←hw0]
   clear hw0
   go_upto_region 4 with (first
    | (go_at_call 190;refine (checked_ok _ _).mono ?_;rintro e w9 ⟨rfl,hw9⟩;obtain rfl:=hw9.symm;clear hw9)
    | (go_at_call 177;refine HMa.o.mono ?_;rintro e w2 ⟨rfl,hb2⟩;have HB2:=hid (b_c HB0.o hb2);have HC2:=hid hb2;have HT2:=hid (HT.o.later hb2);clear hb2))
   go_upto_region 9 with (first
    | (go_at_call 190;refine (checked_ok _ _).mono ?_;rintro e w9 ⟨rfl,hw9⟩;obtain rfl:=hw9.symm;clear hw9)
    | (go_at_call 192;refine (HD.o w2 HB2.o).mono ?_;rintro e w3 ⟨rfl,ht3,hb3⟩;have HT3:=hid ht3;have HB3:=hid ((But.of (S:=H.Wr) HC2.o).trans (But.ofG hb3));have HG3:=hid ((But.of HB2.o).trans hb3);clear ht3 hb3))
   obtain⟨w4,hw4⟩:∃w4,w4=(w3.alloc (Obj.cells #[.int .u64 (hiI D.1),.int .u64 (loI D.1)] 31)).alloc (Obj.cells #[.int .i64 o,.int .u64 (hiI D.1),.int .u64 (loI D.1)] 38):=⟨_,rfl⟩
   have hB4:Below w3.heap.size w3 w4:=by rw [hw4];exact below2 _ _ _
   have hc4:Cw w4 (w3.heap.size+1) (cap o D.1):=by rw [hw4];exact⟨by simp [go_sem,cap],by simp [go_sem,cap,hiI],by simp [go_sem,cap,loI]⟩
   have hs3:w.heap.size≤w3.heap.size:=Nat.le_trans HB0.o.size HB3.o.size
   have HY:Hid (∀U,But H.Wr w4 U→Cw U (w3.heap.size+1) (cap o D.1)):=λU hU=>hc4.but hU (λe=>by have:=HW.o _ e;omega)
   have z0:w4.cell? ⟨w3.heap.size+1,0,none⟩=some (.int .i64 o):=hc4.c0
   have z1:w4.cell? ⟨w3.heap.size+1,1,none⟩=some (.int .u64 (hiI D.1)):=hc4.c1
   have z2:w4.cell? ⟨w3.heap.size+1,2,none⟩=some (.int .u64 (loI D.1)):=hc4.c2
   have HT4:=hid (HT3.o.later hB4)
   have HB4:=hid (HB3.o.call hB4)
   have HG4:=hid (HG3.o.call hB4)
   have HE4:Hid (Calls prog 193 #[.agg #[.int .i64 o,.int .u64 (hiI D.1),.int .u64 (loI D.1)],.pointer (some ⟨mk,0,none⟩)] w4 _):=HE.o w4 HG4.o HT4.o
   clear hB4 hc4 hs3
   rw [←hw4]
   clear hw4
   go_upto_region 14 with (first
    | (go_at_call 125;refine (HAd.o w5 R.X R.l D.2.2 HT5.o).mono ?_;rintro e w6 ⟨rfl,hq6,hb6⟩;have HT6:=hid (HT5.o.count hb6 hq6);have HB6:=hid (HB5.o.trans (But.ofQ hb6));have HC6:=hid (HC5.o.trans (But.ofQ hb6));clear hq6 hb6;obtain⟨u0,u1,u2⟩:=HY.o w6 HC6.o;obtain⟨⟨v0,f0⟩,⟨v1,f1⟩,⟨v2,f2⟩⟩:=(HM.o w6 HB6.o).2)
    | (go_at_call 190;refine (checked_ok _ _).mono ?_;rintro e w9 ⟨rfl,hw9⟩;obtain rfl:=hw9.symm;clear hw9)
    | (go_at_call 193;refine HE4.o.mono ?_;rintro e w5 ⟨rfl,ht5,hb5⟩;have HT5:=hid ht5;have HB5:=hid (HB4.o.trans (But.ofA hb5));have HC5:=hid (But.ofA (H:=H) hb5);clear ht5 hb5;have y5:=(HM.o w5 HB5.o).1))
   have u0':w6.cell? ⟨w3.heap.size+1,0,none⟩=some (.int .i64 o):=u0
   have u1':w6.cell? ⟨w3.heap.size+1,1,none⟩=some (.int .u64 (hiI D.1)):=u1
   have u2':w6.cell? ⟨w3.heap.size+1,2,none⟩=some (.int .u64 (loI D.1)):=u2
   clear u0 u1 u2
   go_wp2
   have HQ:=hid (three_set v0 v1 v2 (.int .i64 o) (.int .u64 (hiI D.1)) (.int .u64 (loI D.1)))
   obtain⟨hf1,hf2⟩:=Made.put (w1:=w) (b:=w.heap.size+1) HT6.o ((But.of HB0.o).trans HB6.o) HO.o (by omega) (cap o D.1)
   exact bodyPost_ret (v:=.tuple #[.agg #[.int .i64 o,.int .u64 (hiI D.1),.int .u64 (loI D.1)],.nilIface]) (by simp [results,results191,go_sem,HQ.o.1,HQ.o.2.1,HQ.o.2.2]) rfl ⟨⟨default,rfl⟩,hf1,hf2⟩
  ·rw [if_pos hD]
   have HDn:=hid hD
   unfold Drew at HD
   clear he hm hD
   go_enter func191,ntmps191
   go_upto_region 1 with fail
   rw [←hw0]
   clear hw0
   go_upto_region 4 with (first
    | (go_at_call 190;refine (checked_ok _ _).mono ?_;rintro e w9 ⟨rfl,hw9⟩;obtain rfl:=hw9.symm;clear hw9)
    | (go_at_call 177;refine HMa.o.mono ?_;rintro e w2 ⟨rfl,hb2⟩;have HB2:=hid (b_c HB0.o hb2);have HC2:=hid hb2;have HT2:=hid (HT.o.later hb2);clear hb2))
   go_upto_region 7 with (first
    | (go_at_call 190;refine (checked_no _ _ HDn.o _).mono ?_;unfold errV;rintro e w9 ⟨rfl,hw9⟩;obtain rfl:=hw9.symm;clear hw9)
    | (go_at_call 192;refine (HD.o w2 HB2.o).mono ?_;rintro e w3 ⟨rfl,ht3,hb3⟩;have HT3:=hid ht3;have HB3:=hid ((But.of (S:=H.Wr) HC2.o).trans (But.ofG hb3));have hbw:=HB3.o.alloc (.cells #[.int .u64 (hiI D.1),.int .u64 (loI D.1)] 31);have HT4:=hid (ht3.later (below1 _ (.cells #[.int .u64 (hiI D.1),.int .u64 (loI D.1)] 31)));have HB4:=hid hbw;obtain⟨⟨v0,f0⟩,⟨v1,f1⟩,⟨v2,f2⟩⟩:=(HM.o _ hbw).2;clear ht3 hb3 hbw))
   go_wp2
   have HQ:=hid (three_set v0 v1 v2 (.int .i64 0) (.int .u64 0) (.int .u64 0))
   obtain⟨hf1,hf2⟩:=Made.put (w1:=w) (b:=w.heap.size+1) HT4.o ((But.of HB0.o).trans HB4.o) HO.o (by omega) (0,0,0)
   exact bodyPost_ret (v:=.tuple #[.agg #[.int .i64 0,.int .u64 0,.int .u64 0],errV _ _]) (by simp [results,results191,go_sem,HQ.o.1,HQ.o.2.1,HQ.o.2.2];rfl) rfl ⟨⟨_,by rw [show (no { s with t:=D.2.2 } D.2.1).code=D.2.1 from rfl,errO_ne HDn.o];rfl⟩,hf1,hf2⟩
 ·rw [if_pos hm]
  have HMn:=hid hm
  clear he hm
  go_enter func191,ntmps191
  go_upto_region 1 with fail
  rw [←hw0]
  clear hw0
  go_upto_region 3 with (first
    | (go_at_call 190;refine (checked_no _ _ HMn.o _).mono ?_;unfold errV;rintro e w9 ⟨rfl,hw9⟩;obtain rfl:=hw9.symm;clear hw9)
    | (go_at_call 177;refine HMa.o.mono ?_;rintro e w2 ⟨rfl,hb2⟩;have HB2:=hid (b_c HB0.o hb2);have HC2:=hid hb2;have HT2:=hid (HT.o.later hb2);obtain⟨⟨v0,f0⟩,⟨v1,f1⟩,⟨v2,f2⟩⟩:=(HM.o w2 (But.of hb2)).2;clear hb2))
  go_wp2
  have HQ:=hid (three_set v0 v1 v2 (.int .i64 0) (.int .u64 0) (.int .u64 0))
  obtain⟨hf1,hf2⟩:=Made.put (w1:=w) (b:=w.heap.size+1) HT2.o (But.of HB2.o) HO.o (by omega) (0,0,0)
  exact bodyPost_ret (v:=.tuple #[.agg #[.int .i64 0,.int .u64 0,.int .u64 0],errV _ _]) (by simp [results,results191,go_sem,HQ.o.1,HQ.o.2.1,HQ.o.2.2];rfl) rfl ⟨⟨_,by rw [show (no s (Q.may H.e H.a s.L o)).code=Q.may H.e H.a s.L o from rfl,errO_ne HMn.o];rfl⟩,hf1,hf2⟩
theorem tokenC {H:Hd}{s:Sta}(h:Tri w H s)(o:Int)(ho:(Lit.int .i64 o).wf=true)(D:Nat×Int×Nat)(R:Res)(mk pc nb rb:Nat)
  (hd:∀U,Below w.heap.size w U→Calls prog 203 #[.pointer (some ⟨mk,0,none⟩),.pointer (some ⟨pc,0,none⟩)] U (Drew U H s D))
  (he:Q.may H.e H.a s.L o=0→D.2.1=0→R.code=0∧∀U,But (·=H.g) w U→Tri U H { s with t:=D.2.2 }→Calls prog 205 #[cpV (cap o D.1),.pointer (some ⟨mk,0,none⟩),.pointer (some ⟨nb,0,none⟩),.pointer (some ⟨rb,0,none⟩)] U (Entered U H { s with t:=D.2.2 } R)) :
  Calls prog 191 #[makV H,.int .i64 o,.func (.func 203) #[] #[.pointer (some ⟨mk,0,none⟩),.pointer (some ⟨pc,0,none⟩)],.func (.func 205) #[] #[.pointer (some ⟨mk,0,none⟩),.pointer (some ⟨nb,0,none⟩),.pointer (some ⟨rb,0,none⟩)]] w
   (Made w H (if Q.may H.e H.a s.L o≠0 then no s (Q.may H.e H.a s.L o) else if D.2.1≠0 then no { s with t:=D.2.2 } D.2.1 else ⟨cap o D.1,0,⟨R.X,R.l,s.L++[o],D.2.2⟩⟩)):=by
 obtain⟨w0,hw0⟩:∃w0,w0=(w.alloc (Obj.cells #[.pointer (some ⟨H.g,0,none⟩),.pointer (some ⟨H.A.g,0,none⟩),.pointer (some ⟨H.qg,0,none⟩)] 250)).alloc (Obj.cells #[.int .i64 0,.int .u64 0,.int .u64 0] 38):=⟨_,rfl⟩
 have hB0:Below w.heap.size w w0:=by rw [hw0];exact below2 _ _ _
 have hmk:Mk w0 w.heap.size H:=by rw [hw0];exact⟨by simp [go_sem],by simp [go_sem],by simp [go_sem]⟩
 have hz:Zc w0 (w.heap.size+1):=by rw [hw0];exact⟨⟨by simp [go_sem],by simp [go_sem]⟩,⟨by simp [go_sem],by simp [go_sem]⟩,⟨by simp [go_sem],by simp [go_sem]⟩⟩
 have hlt:=h.old
 have hwr:∀k,H.Wr k→k<w.heap.size:=λk hk=>hlt k (Hd.wr_all hk)
 have HM:Hid (∀U,But H.Wr w0 U→U.cell? ⟨w.heap.size,2,none⟩=some (.pointer (some ⟨H.qg,0,none⟩))∧Zc U (w.heap.size+1)):=λU hU=>⟨(hmk.but hU (λe=>by have:=hwr _ e;omega)).c2,hz.but hU (λe=>by have:=hwr _ e;omega)⟩
 have y2:=hmk.c2
 have HZ:=hid hz
 have HO:=hid hlt
 have HW:=hid hwr
 have HT:=hid (h.later hB0)
 have HB0:=hid hB0
 have HMa:=hid (Q.may_any (h.later hB0).qu o ho)
 have HD:=hid hd
 clear h hB0 hmk hz hlt hwr hd
 unfold makV
 by_cases hm:Q.may H.e H.a s.L o=0
 ·rw [if_neg (by simp [hm])]
  rw [hm] at HMa
  by_cases hD:D.2.1=0
  ·rw [if_neg (by simp [hD])]
   obtain⟨hR,hE⟩:=he hm hD
   have HE:=hid hE
   have HRc:=hid hR
   have HAd:Hid (∀(U:World) (X:List Tk) (l:Fo) (t:Nat),Tri U H ⟨X,l,s.L,t⟩→Calls prog 125 #[.pointer (some ⟨H.qg,0,none⟩),.int .i64 o] U λr w'=>r=.returned (.int .i64 0)∧Q.Qu w' H.qg H.qb H.e H.a (s.L++[o])∧But (λk=>k=H.qb) U w'):=λU X l t hT=>by
    have:=Q.add_any hT.qu o ho
    unfold Q.addL at this
    simp only [hm,if_true] at this
    exact this
   clear he hE hm hR
   unfold Drew at HD
   rw [hD] at HD
   clear hD
   unfold Entered at HE
   rw [HRc.o] at HE
   go_enter func191,ntmps191
   go_upto_region 1 with fail
   rw [←hw0]
   clear hw0
   go_upto_region 4 with (first
    | (go_at_call 190;refine (checked_ok _ _).mono ?_;rintro e w9 ⟨rfl,hw9⟩;obtain rfl:=hw9.symm;clear hw9)
    | (go_at_call 177;refine HMa.o.mono ?_;rintro e w2 ⟨rfl,hb2⟩;have HB2:=hid (b_c HB0.o hb2);have HC2:=hid hb2;have HT2:=hid (HT.o.later hb2);clear hb2))
   go_upto_region 9 with (first
    | (go_at_call 190;refine (checked_ok _ _).mono ?_;rintro e w9 ⟨rfl,hw9⟩;obtain rfl:=hw9.symm;clear hw9)
    | (go_at_call 203;refine (HD.o w2 HB2.o).mono ?_;rintro e w3 ⟨rfl,ht3,hb3⟩;have HT3:=hid ht3;have HB3:=hid ((But.of (S:=H.Wr) HC2.o).trans (But.ofG hb3));have HG3:=hid ((But.of HB2.o).trans hb3);clear ht3 hb3))
   obtain⟨w4,hw4⟩:∃w4,w4=(w3.alloc (Obj.cells #[.int .u64 (hiI D.1),.int .u64 (loI D.1)] 31)).alloc (Obj.cells #[.int .i64 o,.int .u64 (hiI D.1),.int .u64 (loI D.1)] 38):=⟨_,rfl⟩
   have hB4:Below w3.heap.size w3 w4:=by rw [hw4];exact below2 _ _ _
   have hc4:Cw w4 (w3.heap.size+1) (cap o D.1):=by rw [hw4];exact⟨by simp [go_sem,cap],by simp [go_sem,cap,hiI],by simp [go_sem,cap,loI]⟩
   have hs3:w.heap.size≤w3.heap.size:=Nat.le_trans HB0.o.size HB3.o.size
   have HY:Hid (∀U,But H.Wr w4 U→Cw U (w3.heap.size+1) (cap o D.1)):=λU hU=>hc4.but hU (λe=>by have:=HW.o _ e;omega)
   have z0:w4.cell? ⟨w3.heap.size+1,0,none⟩=some (.int .i64 o):=hc4.c0
   have z1:w4.cell? ⟨w3.heap.size+1,1,none⟩=some (.int .u64 (hiI D.1)):=hc4.c1
   have z2:w4.cell? ⟨w3.heap.size+1,2,none⟩=some (.int .u64 (loI D.1)):=hc4.c2
   have HT4:=hid (HT3.o.later hB4)
   have HB4:=hid (HB3.o.call hB4)
   have HG4:=hid (HG3.o.call hB4)
   have HE4:Hid (Calls prog 205 #[.agg #[.int .i64 o,.int .u64 (hiI D.1),.int .u64 (loI D.1)],.pointer (some ⟨mk,0,none⟩),.pointer (some ⟨nb,0,none⟩),.pointer (some ⟨rb,0,none⟩)] w4 _):=HE.o w4 HG4.o HT4.o
   clear hB4 hc4 hs3
   rw [←hw4]
   clear hw4
   go_upto_region 14 with (first
    | (go_at_call 125;refine (HAd.o w5 R.X R.l D.2.2 HT5.o).mono ?_;rintro e w6 ⟨rfl,hq6,hb6⟩;have HT6:=hid (HT5.o.count hb6 hq6);have HB6:=hid (HB5.o.trans (But.ofQ hb6));have HC6:=hid (HC5.o.trans (But.ofQ hb6));clear hq6 hb6;obtain⟨u0,u1,u2⟩:=HY.o w6 HC6.o;obtain⟨⟨v0,f0⟩,⟨v1,f1⟩,⟨v2,f2⟩⟩:=(HM.o w6 HB6.o).2)
    | (go_at_call 190;refine (checked_ok _ _).mono ?_;rintro e w9 ⟨rfl,hw9⟩;obtain rfl:=hw9.symm;clear hw9)
    | (go_at_call 205;refine HE4.o.mono ?_;rintro e w5 ⟨rfl,ht5,hb5⟩;have HT5:=hid ht5;have HB5:=hid (HB4.o.trans (But.ofA hb5));have HC5:=hid (But.ofA (H:=H) hb5);clear ht5 hb5;have y5:=(HM.o w5 HB5.o).1))
   have u0':w6.cell? ⟨w3.heap.size+1,0,none⟩=some (.int .i64 o):=u0
   have u1':w6.cell? ⟨w3.heap.size+1,1,none⟩=some (.int .u64 (hiI D.1)):=u1
   have u2':w6.cell? ⟨w3.heap.size+1,2,none⟩=some (.int .u64 (loI D.1)):=u2
   clear u0 u1 u2
   go_wp2
   have HQ:=hid (three_set v0 v1 v2 (.int .i64 o) (.int .u64 (hiI D.1)) (.int .u64 (loI D.1)))
   obtain⟨hf1,hf2⟩:=Made.put (w1:=w) (b:=w.heap.size+1) HT6.o ((But.of HB0.o).trans HB6.o) HO.o (by omega) (cap o D.1)
   exact bodyPost_ret (v:=.tuple #[.agg #[.int .i64 o,.int .u64 (hiI D.1),.int .u64 (loI D.1)],.nilIface]) (by simp [results,results191,go_sem,HQ.o.1,HQ.o.2.1,HQ.o.2.2]) rfl ⟨⟨default,rfl⟩,hf1,hf2⟩
  ·rw [if_pos hD]
   have HDn:=hid hD
   unfold Drew at HD
   clear he hm hD
   go_enter func191,ntmps191
   go_upto_region 1 with fail
   rw [←hw0]
   clear hw0
   go_upto_region 4 with (first
    | (go_at_call 190;refine (checked_ok _ _).mono ?_;rintro e w9 ⟨rfl,hw9⟩;obtain rfl:=hw9.symm;clear hw9)
    | (go_at_call 177;refine HMa.o.mono ?_;rintro e w2 ⟨rfl,hb2⟩;have HB2:=hid (b_c HB0.o hb2);have HC2:=hid hb2;have HT2:=hid (HT.o.later hb2);clear hb2))
   go_upto_region 7 with (first
    | (go_at_call 190;refine (checked_no _ _ HDn.o _).mono ?_;unfold errV;rintro e w9 ⟨rfl,hw9⟩;obtain rfl:=hw9.symm;clear hw9)
    | (go_at_call 203;refine (HD.o w2 HB2.o).mono ?_;rintro e w3 ⟨rfl,ht3,hb3⟩;have HT3:=hid ht3;have HB3:=hid ((But.of (S:=H.Wr) HC2.o).trans (But.ofG hb3));have hbw:=HB3.o.alloc (.cells #[.int .u64 (hiI D.1),.int .u64 (loI D.1)] 31);have HT4:=hid (ht3.later (below1 _ (.cells #[.int .u64 (hiI D.1),.int .u64 (loI D.1)] 31)));have HB4:=hid hbw;obtain⟨⟨v0,f0⟩,⟨v1,f1⟩,⟨v2,f2⟩⟩:=(HM.o _ hbw).2;clear ht3 hb3 hbw))
   go_wp2
   have HQ:=hid (three_set v0 v1 v2 (.int .i64 0) (.int .u64 0) (.int .u64 0))
   obtain⟨hf1,hf2⟩:=Made.put (w1:=w) (b:=w.heap.size+1) HT4.o ((But.of HB0.o).trans HB4.o) HO.o (by omega) (0,0,0)
   exact bodyPost_ret (v:=.tuple #[.agg #[.int .i64 0,.int .u64 0,.int .u64 0],errV _ _]) (by simp [results,results191,go_sem,HQ.o.1,HQ.o.2.1,HQ.o.2.2];rfl) rfl ⟨⟨_,by rw [show (no { s with t:=D.2.2 } D.2.1).code=D.2.1 from rfl,errO_ne HDn.o];rfl⟩,hf1,hf2⟩
 ·rw [if_pos hm]
  have HMn:=hid hm
  clear he hm
  go_enter func191,ntmps191
  go_upto_region 1 with fail
  rw [←hw0]
  clear hw0
  go_upto_region 3 with (first
    | (go_at_call 190;refine (checked_no _ _ HMn.o _).mono ?_;unfold errV;rintro e w9 ⟨rfl,hw9⟩;obtain rfl:=hw9.symm;clear hw9)
    | (go_at_call 177;refine HMa.o.mono ?_;rintro e w2 ⟨rfl,hb2⟩;have HB2:=hid (b_c HB0.o hb2);have HC2:=hid hb2;have HT2:=hid (HT.o.later hb2);obtain⟨⟨v0,f0⟩,⟨v1,f1⟩,⟨v2,f2⟩⟩:=(HM.o w2 (But.of hb2)).2;clear hb2))
  go_wp2
  have HQ:=hid (three_set v0 v1 v2 (.int .i64 0) (.int .u64 0) (.int .u64 0))
  obtain⟨hf1,hf2⟩:=Made.put (w1:=w) (b:=w.heap.size+1) HT2.o (But.of HB2.o) HO.o (by omega) (0,0,0)
  exact bodyPost_ret (v:=.tuple #[.agg #[.int .i64 0,.int .u64 0,.int .u64 0],errV _ _]) (by simp [results,results191,go_sem,HQ.o.1,HQ.o.2.1,HQ.o.2.2];rfl) rfl ⟨⟨_,by rw [show (no s (Q.may H.e H.a s.L o)).code=Q.may H.e H.a s.L o from rfl,errO_ne HMn.o];rfl⟩,hf1,hf2⟩
theorem mroot_any {H:Hd}{s:Sta}(h:Tri w H s)(hf:Fit H.toPar s)(o:Int)(ho:(Lit.int .i64 o).wf=true) :
  Calls prog 152 #[makV H,.int .i64 o] w (Made w H (rootA H.toPar s o)):=by
 obtain⟨w0,hw0⟩:∃w0,w0=(w.alloc (Obj.cells #[.pointer (some ⟨H.g,0,none⟩),.pointer (some ⟨H.A.g,0,none⟩),.pointer (some ⟨H.qg,0,none⟩)] 250)).alloc (Obj.cells #[.int .i64 0,.int .u64 0,.int .u64 0] 38):=⟨_,rfl⟩
 have hB0:Below w.heap.size w w0:=by rw [hw0];exact below2 _ _ _
 have hmk:Mk w0 w.heap.size H:=by rw [hw0];exact⟨by simp [go_sem],by simp [go_sem],by simp [go_sem]⟩
 have hz:Zc w0 (w.heap.size+1):=by rw [hw0];exact⟨⟨by simp [go_sem],by simp [go_sem]⟩,⟨by simp [go_sem],by simp [go_sem]⟩,⟨by simp [go_sem],by simp [go_sem]⟩⟩
 have hlt:=h.old
 have hwr:∀k,H.Wr k→k<w.heap.size:=λk hk=>hlt k (Hd.wr_all hk)
 have HM:Hid (∀U,But H.Wr w0 U→Mk U w.heap.size H∧Zc U (w.heap.size+1)):=λU hU=>⟨hmk.but hU (λe=>by have:=hwr _ e;omega),hz.but hU (λe=>by have:=hwr _ e;omega)⟩
 have y1:=hmk.c1
 have HO:=hid hlt
 have HT:=hid (h.later hB0)
 have HB0:=hid hB0
 have HI:=hid (cin_any (h.later hB0).cat.cm o)
 unfold rootA makV
 by_cases hn:0<inN s.X s.l o
 ·rw [if_pos hn]
  obtain⟨m,hm⟩:∃m:Nat,m=inN s.X s.l o:=⟨_,rfl⟩
  rw [←hm] at HI hn
  have hd:decide ((m:Int)>0)=true:=dT (by omega)
  have hp:0<(m:Int):=by omega
  clear h hB0 hmk hz hlt hwr hf hm
  go_enter func152,ntmps152
  go_upto_region 1 with fail
  rw [←hw0]
  clear hw0
  go_upto_region 2 with (first
   | (go_at_call 128;refine HI.o.mono ?_;rintro e w2 ⟨rfl,hb2⟩;have HB2:=hid (b_c HB0.o hb2);have HT2:=hid (HT.o.later hb2);obtain⟨⟨v0,f0⟩,⟨v1,f1⟩,⟨v2,f2⟩⟩:=(HM.o w2 (But.of hb2)).2;clear hb2))
  go_wp2_with (first
   | (go_at_call 190;refine (checked_no _ _ (by decide) _).mono ?_;unfold errV;rintro e w9 ⟨rfl,hw9⟩;obtain rfl:=hw9.symm;clear hw9))
  have HQ:=hid (three_set v0 v1 v2 (.int .i64 0) (.int .u64 0) (.int .u64 0))
  obtain⟨hf1,hf2⟩:=Made.put (w1:=w) (b:=w.heap.size+1) HT2.o (But.of HB2.o) HO.o (by omega) (0,0,0)
  exact bodyPost_ret (v:=.tuple #[.agg #[.int .i64 0,.int .u64 0,.int .u64 0],errV _ _]) (by simp [results,results152,go_sem,HQ.o.1,HQ.o.2.1,HQ.o.2.2];rfl) rfl ⟨⟨_,by rw [show (no s 19).code=19 from rfl,errO_ne (by decide)];rfl⟩,hf1,hf2⟩
 ·rw [if_neg hn]
  obtain⟨R,hR⟩:∃R,R=tokR H.toPar s o (drawD H.toPar s.t) (-1) 31:=⟨_,rfl⟩
  have HTk:Hid (∀U,Below w.heap.size w U→Mk U w.heap.size H→Calls prog 191 #[makV H,.int .i64 o,.func (.func 192) #[.pointer (some ⟨H.g,0,none⟩)] #[],.func (.func 193) #[] #[.pointer (some ⟨w.heap.size,0,none⟩)]] U (Made U H R)):=λU hU hmU=>by
   rw [hR]
   refine tokenR (h.later hU) o ho (drawD H.toPar s.t) ⟨(low s.l:Int),0,s.X.set (low s.l) (cap o (drawD H.toPar s.t).1,31),s.l++[((low s.l:Int),-1)]⟩ w.heap.size (λV hV=>draw_any ((h.later hU).later hV)) (λhm hD=>⟨rfl,λV hV hT=>?_⟩)
   have:=enter54 hT (hmU.but hV (λe=>by have:=hwr _ (.inl e);omega)) (cap o (drawD H.toPar s.t).1) (half_lt (drawD_small hf s.t))
   rwa [show rootR H.mo s.X s.l (cap o (drawD H.toPar s.t).1) 31=_ from rootR_ok hf hm hn] at this
  rw [←hR]
  unfold makV at HTk
  obtain⟨m,hm⟩:∃m:Nat,m=inN s.X s.l o:=⟨_,rfl⟩
  rw [←hm] at HI hn
  have hd:decide ((m:Int)>0)=false:=dF (by omega)
  have hp:¬0<(m:Int):=by omega
  clear h hB0 hmk hz hlt hwr hf hm hR
  go_enter func152,ntmps152
  go_upto_region 1 with fail
  rw [←hw0]
  clear hw0
  go_upto_region 3 with (first
   | (go_at_call 128;refine HI.o.mono ?_;rintro e w2 ⟨rfl,hb2⟩;have HB2:=hid (b_c HB0.o hb2);have HC2:=hid hb2;obtain⟨x0,x1,x2⟩:=(HM.o w2 (But.of hb2)).1;clear hb2))
  go_wp2_with (first
   | (go_at_call 191;refine (HTk.o w2 HB2.o (HM.o w2 (But.of HC2.o)).1).mono ?_;rintro e w3 ⟨⟨st,rfl⟩,ht3,hb3⟩;have HT3:=hid ht3;have HB3:=hid ((But.of (S:=H.Wr) HC2.o).trans hb3);obtain⟨⟨v0,f0⟩,⟨v1,f1⟩,⟨v2,f2⟩⟩:=(HM.o w3 HB3.o).2;clear ht3 hb3))
  have HQ:=hid (three_set v0 v1 v2 (.int .i64 R.c.1) (.int .u64 (R.c.2.1:Int)) (.int .u64 (R.c.2.2:Int)))
  obtain⟨hf1,hf2⟩:=Made.put (w1:=w) (b:=w.heap.size+1) HT3.o ((But.of HB0.o).trans HB3.o) HO.o (by omega) R.c
  exact bodyPost_ret (v:=.tuple #[.agg #[.int .i64 R.c.1,.int .u64 (R.c.2.1:Int),.int .u64 (R.c.2.2:Int)],errO st R.code]) (by simp [results,results152,go_sem,HQ.o.1,HQ.o.2.1,HQ.o.2.2]) rfl ⟨⟨st,rfl⟩,hf1,hf2⟩
def srcN (s:Sta)(c:Cp)(r:Int):Int×Int:=if hasC s.X s.l c=false then (0,3) else if partB 4 (rgt s c)=false∨partB r (rgt s c)=false then (0,4) else (findN s.X s.l c,0)
theorem childA_eq (P:Par)(s:Sta)(c:Cp)(r:Int):childA P s c r=if (srcN s c r).2≠0 then no s (srcN s c r).2 else tokR P s c.1 (childD P s c.1) (findN s.X s.l c) r:=by
 unfold childA srcN
 by_cases h1:hasC s.X s.l c=false
 ·simp only [if_pos h1];rfl
 ·simp only [if_neg h1]
  by_cases h2:partB 4 (rgt s c)=false∨partB r (rgt s c)=false
  ·simp only [if_pos h2];rfl
  ·simp only [if_neg h2];rfl
theorem srcN_ok {s:Sta}{c:Cp}{r:Int}(h:(srcN s c r).2=0):hasC s.X s.l c=true∧partB r (rgt s c)=true∧(srcN s c r).1=findN s.X s.l c:=by
 unfold srcN at h ⊢
 by_cases h1:hasC s.X s.l c=false
 ·simp [if_pos h1] at h
 ·simp only [if_neg h1] at h ⊢
  by_cases h2:partB 4 (rgt s c)=false∨partB r (rgt s c)=false
  ·simp [if_pos h2] at h
  ·simp only [if_neg h2]
   refine⟨by simpa using h1,?_,trivial⟩
   cases hq:partB r (rgt s c) with
   | true=>rfl
   | false=>exact absurd (.inr hq) h2
theorem has_any (a b:Int)(w:World):Calls prog 197 #[.int .i64 a,.int .i64 b] w λe w'=>e=.returned (.bool (partB b a))∧w'=w:=by
 have hp:=hid (part_any b a)
 go_enter func197,ntmps197
 go_wp2_with (first|(go_at_call 178;refine (hp.out _).mono ?_;rintro e w9 ⟨rfl,hw9⟩;obtain rfl:=hw9.symm;clear hw9))
 go_ret
 exact⟨rfl,rfl⟩
theorem source_any {H:Hd}{s:Sta}(h:Tri w H s)(c:Cp)(r:Int)(hw:c.2.1<B64∧c.2.2<B64) :
  Calls prog 202 #[makV H,cpV c,.int .i64 r] w λe w'=>(∃st,e=.returned (.tuple #[.int .i64 (srcN s c r).1,errO st (srcN s c r).2]))∧Below w.heap.size w w':=by
 obtain⟨o,hi,lo⟩:=c
 obtain⟨w0,hw0⟩:∃w0,w0=(w.alloc (Obj.cells #[.pointer (some ⟨H.g,0,none⟩),.pointer (some ⟨H.A.g,0,none⟩),.pointer (some ⟨H.qg,0,none⟩)] 250)).alloc (Obj.cells #[.int .i64 o,.int .u64 (hi:Int),.int .u64 (lo:Int)] 38):=⟨_,rfl⟩
 have hB0:Below w.heap.size w w0:=by rw [hw0];exact below2 _ _ _
 have hmk:Mk w0 w.heap.size H:=by rw [hw0];exact⟨by simp [go_sem],by simp [go_sem],by simp [go_sem]⟩
 have x0:w0.cell? ⟨w.heap.size+1,0,none⟩=some (.int .i64 o):=by rw [hw0];simp [go_sem]
 have x1:w0.cell? ⟨w.heap.size+1,1,none⟩=some (.int .u64 (hi:Int)):=by rw [hw0];simp [go_sem]
 have x2:w0.cell? ⟨w.heap.size+1,2,none⟩=some (.int .u64 (lo:Int)):=by rw [hw0];simp [go_sem]
 have y1:=hmk.c1
 have HM:=hid hmk
 have HT:=hid (h.later hB0)
 have HB0:=hid hB0
 have HF:=hid (cfind_any (h.later hB0).cat (o,hi,lo) hw)
 unfold makV srcN
 by_cases hc:hasC s.X s.l (o,hi,lo)=false
 ·rw [hc] at HF
  simp only [if_pos hc]
  obtain⟨m,hm⟩:∃m,m=findN s.X s.l (o,hi,lo):=⟨_,rfl⟩
  rw [←hm] at HF
  clear h hB0 hmk hc hm
  go_enter func202,ntmps202
  go_upto_region 1 with fail
  rw [←hw0]
  clear hw0
  go_wp2_with (first
   | (go_at_call 190;refine (checked_no _ _ (by decide) _).mono ?_;unfold errV;rintro e w9 ⟨rfl,hw9⟩;obtain rfl:=hw9.symm;clear hw9)
   | (go_at_call 196;refine HF.o.mono ?_;rintro e w2 ⟨rfl,hb2⟩;have HB2:=hid (b_c HB0.o hb2);clear hb2))
  exact bodyPost_ret (v:=.tuple #[.int .i64 0,errV _ _]) (by simp [results,results202,go_sem];rfl) rfl ⟨⟨_,by rw [errO_ne (by decide)]⟩,HB2.o⟩
 ·have hc':hasC s.X s.l (o,hi,lo)=true:=by simpa using hc
  rw [hc'] at HF
  simp only [if_neg hc]
  obtain⟨hfn,hft⟩:=found h.cat.inv hc'
  obtain⟨p,hp⟩:=mn_.1 hfn
  have HA:=hid (λ(U:World) (hU:Below w.heap.size w U)=>at_in (h.later hU).cat.cm (findN s.X s.l (o,hi,lo)) p hp)
  rw [hft] at HA
  obtain⟨q,hq⟩:∃q,q=rgt s (o,hi,lo):=⟨_,rfl⟩
  rw [←hq]
  unfold rgt at hq
  rw [←hq] at HA
  obtain⟨m,hm⟩:∃m,m=findN s.X s.l (o,hi,lo):=⟨_,rfl⟩
  rw [←hm] at HF HA
  rw [←hm]
  have HP:=hid (part_any r q)
  have HHs:=hid (has_any q 4)
  have hcell:Hid (∀(U:World),(U.alloc (Obj.cells #[.int .i64 o,.int .u64 (hi:Int),.int .u64 (lo:Int),.int .i64 q,.int .i64 p] 61)).cell? ⟨U.heap.size,3,none⟩=some (.int .i64 q)):=λU=>by simp [go_sem]
  unfold tokA at HA
  clear h hB0 hmk hc hc' hm hq hft hfn hp
  cases hp4:partB 4 q with
  | false =>
   rw [hp4] at HHs
   simp only [true_or,if_true]
   clear hp4
   go_enter func202,ntmps202
   go_upto_region 1 with fail
   rw [←hw0]
   clear hw0
   go_upto_region 4 with (first
    | (go_at_call 196;refine HF.o.mono ?_;rintro e w2 ⟨rfl,hb2⟩;have HB2:=hid (b_c HB0.o hb2);have z1:=(HM.o.later hb2).c1;clear hb2))
   go_wp2_with (first
    | (go_at_call 190;refine (checked_no _ _ (by decide) _).mono ?_;unfold errV;rintro e w9 ⟨rfl,hw9⟩;obtain rfl:=hw9.symm;clear hw9)
    | (go_at_call 197;refine (HHs.o _).mono ?_;rintro e w9 ⟨rfl,hw9⟩;obtain rfl:=hw9.symm;clear hw9)
    | (go_at_call 122;refine (HA.o w2 HB2.o).mono ?_;rintro e w3 ⟨rfl,hb3⟩;have HB3:=hid (b_c HB2.o hb3);clear hb3))
   exact bodyPost_ret (v:=.tuple #[.int .i64 0,errV _ _]) (by simp [results,results202,go_sem];rfl) rfl ⟨⟨_,by rw [errO_ne (by decide)]⟩,HB3.o.alloc HB3.o.size _⟩
  | true =>
   rw [hp4] at HHs
   clear hp4
   cases hpr:partB r q with
   | false =>
    rw [hpr] at HP
    simp only [or_true,if_true]
    clear hpr
    go_enter func202,ntmps202
    go_upto_region 1 with fail
    rw [←hw0]
    clear hw0
    go_upto_region 4 with (first
     | (go_at_call 196;refine HF.o.mono ?_;rintro e w2 ⟨rfl,hb2⟩;have HB2:=hid (b_c HB0.o hb2);have z1:=(HM.o.later hb2).c1;clear hb2))
    go_wp2_with (first
     | (go_at_call 190;refine (checked_no _ _ (by decide) _).mono ?_;unfold errV;rintro e w9 ⟨rfl,hw9⟩;obtain rfl:=hw9.symm;clear hw9)
     | (go_at_call 178;refine (HP.o _).mono ?_;rintro e w9 ⟨rfl,hw9⟩;obtain rfl:=hw9.symm;clear hw9)
     | (go_at_call 197;refine (HHs.o _).mono ?_;rintro e w9 ⟨rfl,hw9⟩;obtain rfl:=hw9.symm;clear hw9)
     | (go_at_call 122;refine (HA.o w2 HB2.o).mono ?_;rintro e w3 ⟨rfl,hb3⟩;have HB3:=hid (b_c HB2.o hb3);clear hb3))
    exact bodyPost_ret (v:=.tuple #[.int .i64 0,errV _ _]) (by simp [results,results202,go_sem];rfl) rfl ⟨⟨_,by rw [errO_ne (by decide)]⟩,HB3.o.alloc HB3.o.size _⟩
   | true =>
    rw [hpr] at HP
    simp only [Bool.true_eq_false,or_false,if_false]
    clear hpr
    go_enter func202,ntmps202
    go_upto_region 1 with fail
    rw [←hw0]
    clear hw0
    go_upto_region 4 with (first
     | (go_at_call 196;refine HF.o.mono ?_;rintro e w2 ⟨rfl,hb2⟩;have HB2:=hid (b_c HB0.o hb2);have z1:=(HM.o.later hb2).c1;clear hb2))
    go_wp2_with (first
     | (go_at_call 178;refine (HP.o _).mono ?_;rintro e w9 ⟨rfl,hw9⟩;obtain rfl:=hw9.symm;clear hw9)
     | (go_at_call 197;refine (HHs.o _).mono ?_;rintro e w9 ⟨rfl,hw9⟩;obtain rfl:=hw9.symm;clear hw9)
     | (go_at_call 122;refine (HA.o w2 HB2.o).mono ?_;rintro e w3 ⟨rfl,hb3⟩;have HB3:=hid (b_c HB2.o hb3);clear hb3))
    exact bodyPost_ret (v:=.tuple #[.int .i64 m,.nilIface]) (by simp [results,results202,go_sem]) rfl ⟨⟨default,rfl⟩,HB3.o.alloc HB3.o.size _⟩
theorem mchild_any {H:Hd}{s:Sta}(h:Tri w H s)(hf:Fit H.toPar s)(c:Cp)(r:Int)(ho:(Lit.int .i64 c.1).wf=true)(hw:c.2.1<B64∧c.2.2<B64) :
  Calls prog 159 #[makV H,cpV c,.int .i64 r] w (Made w H (childA H.toPar s c r)):=by
 obtain⟨o,hi,lo⟩:=c
 obtain⟨w0,hw0⟩:∃w0,w0=(((w.alloc (Obj.cells #[.pointer (some ⟨H.g,0,none⟩),.pointer (some ⟨H.A.g,0,none⟩),.pointer (some ⟨H.qg,0,none⟩)] 250)).alloc (Obj.cells #[.int .i64 o,.int .u64 (hi:Int),.int .u64 (lo:Int)] 38)).alloc (Obj.cells #[.int .i64 r] 3)).alloc (Obj.cells #[.int .i64 0,.int .u64 0,.int .u64 0] 38):=⟨_,rfl⟩
 have hB0:Below w.heap.size w w0:=by rw [hw0];exact ((below2 _ _ _).alloc (by simp;omega) _).alloc (by simp;omega) _
 have hmk:Mk w0 w.heap.size H:=by rw [hw0];exact⟨by simp [go_sem],by simp [go_sem],by simp [go_sem]⟩
 have hcw:Cw w0 (w.heap.size+1) (o,hi,lo):=by rw [hw0];exact⟨by simp [go_sem],by simp [go_sem],by simp [go_sem]⟩
 have hrr:w0.cell? ⟨w.heap.size+1+1,0,none⟩=some (.int .i64 r):=by rw [hw0];simp [go_sem]
 have hz:Zc w0 (w.heap.size+1+1+1):=by rw [hw0];exact⟨⟨by simp [go_sem],by simp [go_sem]⟩,⟨by simp [go_sem],by simp [go_sem]⟩,⟨by simp [go_sem],by simp [go_sem]⟩⟩
 have hs0:w0.heap.size=w.heap.size+1+1+1+1:=by rw [hw0];simp
 have hlt:=h.old
 have hwr:∀k,H.Wr k→k<w.heap.size:=λk hk=>hlt k (Hd.wr_all hk)
 have HM:Hid (∀U,But H.Wr w0 U→Mk U w.heap.size H∧Cw U (w.heap.size+1) (o,hi,lo)∧U.cell? ⟨w.heap.size+1+1,0,none⟩=some (.int .i64 r)∧Zc U (w.heap.size+1+1+1)):=λU hU=>⟨hmk.but hU (λe=>by have:=hwr _ e;omega),hcw.but hU (λe=>by have:=hwr _ e;omega),cb_ hU hrr (λe=>by have:=hwr _ e;simp at this;omega),hz.but hU (λe=>by have:=hwr _ e;omega)⟩
 obtain⟨x0,x1,x2⟩:=hmk
 obtain⟨y0,y1,y2⟩:=hcw
 have HO:=hid hlt
 have HT:=hid (h.later hB0)
 have HB0:=hid hB0
 have HS0:=hid hs0
 rw [childA_eq]
 by_cases hn:(srcN s (o,hi,lo) r).2=0
 ·rw [if_neg (by simp [hn])]
  obtain⟨k1,k2,k3⟩:=srcN_ok hn
  obtain⟨g1,g2⟩:=found h.cat.inv k1
  have HSr:=hid (source_any (h.later hB0) (o,hi,lo) r hw)
  rw [hn,k3] at HSr
  obtain⟨m,hm⟩:∃m,m=findN s.X s.l (o,hi,lo):=⟨_,rfl⟩
  rw [←hm] at HSr
  rw [←hm]
  obtain⟨R,hR⟩:∃R,R=tokR H.toPar s o (childD H.toPar s o) m r:=⟨_,rfl⟩
  have HTk:Hid (∀(U:World) (nb:Nat),Below w.heap.size w U→Mk U w.heap.size H→U.cell? ⟨w.heap.size+1,0,none⟩=some (.int .i64 o)→U.cell? ⟨w.heap.size+1+1,0,none⟩=some (.int .i64 r)→U.cell? ⟨nb,0,none⟩=some (.int .i64 m)→w.heap.size≤nb→Calls prog 191 #[makV H,.int .i64 o,.func (.func 203) #[] #[.pointer (some ⟨w.heap.size,0,none⟩),.pointer (some ⟨w.heap.size+1,0,none⟩)],.func (.func 205) #[] #[.pointer (some ⟨w.heap.size,0,none⟩),.pointer (some ⟨nb,0,none⟩),.pointer (some ⟨w.heap.size+1+1,0,none⟩)]] U (Made U H R)):=λU nb hU hmU hcU hrU hnU hnb=>by
   rw [hR]
   refine tokenC (h.later hU) o ho (childD H.toPar s o) ⟨(low s.l:Int),0,s.X.set (low s.l) (cap o (childD H.toPar s o).1,r),s.l++[((low s.l:Int),m)]⟩ w.heap.size (w.heap.size+1) nb (w.heap.size+1+1) (λV hV=>draw58 ((h.later hU).later hV) hf.cs (hmU.later hV) o (cell_later hV hcU)) (λhm2 hD=>⟨rfl,λV hV hT=>?_⟩)
   have hg:∀k,w.heap.size≤k→¬k=H.g:=λk hk e=>by have:=hwr k (.inl e);omega
   have:=enter60 hT (hmU.but hV (hg _ (Nat.le_refl _))) m r (cb_ hV hnU (hg _ hnb)) (cb_ hV hrU (hg _ (by simp;omega))) (cap o (childD H.toPar s o).1) (half_lt (drawR_small hf.cs))
   rwa [show childR H.mo s.X s.l m (cap o (childD H.toPar s o).1) r=_ from childR_ok hf hm2 (childD_new hf hD) (by rw [hm];exact g1) (by rw [hm];unfold ob;rw [g2]) (by rw [hm];exact k2)] at this
  rw [←hR]
  unfold makV at HTk HSr ⊢
  have hnil:∀st,errO st 0=.nilIface:=λst=>rfl
  simp only [hnil] at HSr
  clear h hB0 hlt hwr hf hm hR hz hrr hs0 hn k1 k2 k3 g1 g2 hnil
  go_enter func159,ntmps159
  go_upto_region 1 with fail
  rw [←hw0]
  clear hw0
  have hrr:=(HM.o w0 (But.refl _ _)).2.2.1
  go_upto_region 2 with (first
   | (go_at_call 202;refine HSr.o.mono ?_;rintro e w2 ⟨⟨st0,rfl⟩,hb2⟩;have HB2:=hid (b_c HB0.o hb2);have HC2:=hid hb2;clear hb2))
  obtain⟨w3,hw3⟩:∃w3,w3=w2.alloc (Obj.cells #[.int .i64 m] 3):=⟨_,rfl⟩
  have hB3:Below w2.heap.size w2 w3:=by rw [hw3];exact below1 _ _
  have hn3:w3.cell? ⟨w2.heap.size,0,none⟩=some (.int .i64 m):=by rw [hw3];simp [go_sem]
  have HC3:=hid (But.of (S:=H.Wr) (b_c HC2.o hB3))
  have HK3:=hid (b_c HB2.o hB3)
  have HN3:=hid hn3
  have HG3:=hid HB2.o.size
  obtain⟨⟨p0,p1,p2⟩,⟨q0,q1,q2⟩,q3,_⟩:=HM.o w3 HC3.o
  rw [←hw3]
  clear hw3 hB3 hn3
  go_upto_region 5 with fail
  go_wp2_with (first
   | (go_at_call 191;refine (HTk.o w3 w2.heap.size HK3.o (HM.o w3 HC3.o).1 q0 q3 HN3.o HG3.o).mono ?_;rintro e w4 ⟨⟨st,rfl⟩,ht4,hb4⟩;have HT4:=hid ht4;have HB4:=hid (HC3.o.trans hb4);obtain⟨⟨v0,f0⟩,⟨v1,f1⟩,⟨v2,f2⟩⟩:=(HM.o w4 HB4.o).2.2.2;clear ht4 hb4))
  have HQ:=hid (three_set v0 v1 v2 (.int .i64 R.c.1) (.int .u64 (R.c.2.1:Int)) (.int .u64 (R.c.2.2:Int)))
  obtain⟨hf1,hf2⟩:=Made.put (w1:=w) (b:=w.heap.size+1+1+1) HT4.o ((But.of HB0.o).trans HB4.o) HO.o (by omega) R.c
  exact bodyPost_ret (v:=.tuple #[.agg #[.int .i64 R.c.1,.int .u64 (R.c.2.1:Int),.int .u64 (R.c.2.2:Int)],errO st R.code]) (by simp [results,results159,go_sem,HQ.o.1,HQ.o.2.1,HQ.o.2.2]) rfl ⟨⟨st,rfl⟩,hf1,hf2⟩
 ·rw [if_pos hn]
  have HSr:=hid (source_any (h.later hB0) (o,hi,lo) r hw)
  obtain⟨m,hm⟩:∃m,m=(srcN s (o,hi,lo) r).2:=⟨_,rfl⟩
  obtain⟨m1,hm1⟩:∃m,m=(srcN s (o,hi,lo) r).1:=⟨_,rfl⟩
  rw [←hm] at HSr hn
  rw [←hm1] at HSr
  rw [←hm]
  have HMn:=hid hn
  simp only [errO_ne hn] at HSr
  unfold errV at HSr
  unfold makV at HSr ⊢
  clear h hB0 hlt hwr hf hm hm1 hz hrr hs0 hn
  go_enter func159,ntmps159
  go_upto_region 1 with fail
  rw [←hw0]
  clear hw0
  have hrr:=(HM.o w0 (But.refl _ _)).2.2.1
  go_upto_region 2 with (first
   | (go_at_call 202;refine HSr.o.mono ?_;rintro e w2 ⟨⟨st0,rfl⟩,hb2⟩;have HB2:=hid (b_c HB0.o hb2);have HC2:=hid hb2;clear hb2))
  obtain⟨w3,hw3⟩:∃w3,w3=w2.alloc (Obj.cells #[.int .i64 m1] 3):=⟨_,rfl⟩
  have hB3:Below w2.heap.size w2 w3:=by rw [hw3];exact below1 _ _
  have HC3:=hid (But.of (S:=H.Wr) (b_c HC2.o hB3))
  have HT3:=hid (HT.o.later (b_c HC2.o hB3))
  obtain⟨⟨v0,f0⟩,⟨v1,f1⟩,⟨v2,f2⟩⟩:=(HM.o w3 HC3.o).2.2.2
  rw [←hw3]
  clear hw3 hB3
  go_wp2
  have HQ:=hid (three_set v0 v1 v2 (.int .i64 0) (.int .u64 0) (.int .u64 0))
  obtain⟨hf1,hf2⟩:=Made.put (w1:=w) (b:=w.heap.size+1+1+1) HT3.o ((But.of HB0.o).trans HC3.o) HO.o (by omega) (0,0,0)
  exact bodyPost_ret (v:=.tuple #[.agg #[.int .i64 0,.int .u64 0,.int .u64 0],errV st0 m]) (by simp [results,results159,go_sem,HQ.o.1,HQ.o.2.1,HQ.o.2.2];rfl) rfl ⟨⟨st0,by rw [show (no s m).code=m from rfl,errO_ne HMn.o];rfl⟩,hf1,hf2⟩
def Gave (w:World)(H:Hd)(R:Ans)(e:Ending)(w':World):Prop :=
 e=.returned (.tuple #[cpV R.c,.int .i64 R.code])∧Tri w' H R.s∧But H.Wr w w'
theorem root_any {H:Hd}{s:Sta}(h:Tri w H s)(hf:Fit H.toPar s)(o:Int)(ho:(Lit.int .i64 o).wf=true) :
  Calls prog 104 #[.pointer (some ⟨H.g,0,none⟩),.pointer (some ⟨H.A.g,0,none⟩),.pointer (some ⟨H.qg,0,none⟩),.int .i64 o] w (Gave w H (rootA H.toPar s o)):=by
 have hB0:=below1 w (Obj.cells #[.int .i64 0,.int .u64 0,.int .u64 0] 38)
 have hz:=Zc.mk_ w
 have hlt:=h.old
 have hwr:∀k,H.Wr k→k<w.heap.size:=λk hk=>hlt k (Hd.wr_all hk)
 have HZ:Hid (∀U,But H.Wr (w.alloc (Obj.cells #[.int .i64 0,.int .u64 0,.int .u64 0] 38)) U→Zc U w.heap.size):=λU hU=>hz.but hU (λe=>by have:=hwr _ e;omega)
 have HO:=hid hlt
 have HB0:=hid hB0
 have HK:=hid (mroot_any (h.later hB0) hf o ho)
 unfold makV at HK
 generalize rootA H.toPar s o=R at *
 clear h hB0 hz hlt hwr hf
 go_enter func104,ntmps104
 go_upto_region 2 with (first
  | (go_at_call 152;refine HK.o.mono ?_;rintro e w2 ⟨⟨st,rfl⟩,ht2,hb2⟩;have HT2:=hid ht2;have HB2:=hid hb2;clear ht2 hb2))
 obtain⟨v,hv⟩:∃v,v=w2.alloc (Obj.cells #[.int .i64 R.c.1,.int .u64 (R.c.2.1:Int),.int .u64 (R.c.2.2:Int)] 38):=⟨_,rfl⟩
 have hBv:Below w2.heap.size w2 v:=by rw [hv];exact below1 _ _
 have hcw:Cw v w2.heap.size R.c:=by rw [hv];exact⟨by simp [go_sem],by simp [go_sem],by simp [go_sem]⟩
 have hs2:w.heap.size<w2.heap.size:=by have:=HB2.o.size;simp at this;omega
 have HTv:=hid (HT2.o.later hBv)
 have HBv:=hid (HB2.o.call hBv)
 have HN:=hid (λ(U:World) (hU:Below v.heap.size v U)=>number_any st R.code U (HTv.o.laid.later hU))
 have HL:Hid (∀U,Below v.heap.size v U→Zc U w.heap.size):=λU hU=>HZ.o U (HBv.o.call hU)
 have HS:Hid (∀U,But (·=w.heap.size) v U→(U.cell? ⟨w2.heap.size,0,none⟩=some (.int .i64 R.c.1)∧U.cell? ⟨w2.heap.size,1,none⟩=some (.int .u64 (R.c.2.1:Int))∧U.cell? ⟨w2.heap.size,2,none⟩=some (.int .u64 (R.c.2.2:Int)))∧But (·=w.heap.size) v U):=λU hU=>by
  obtain⟨q0,q1,q2⟩:=hcw.but hU (λe=>by omega)
  exact⟨⟨q0,q1,q2⟩,hU⟩
 rw [←hv]
 clear hv hBv hcw hs2
 go_region_held3 (λU=>(U.cell? ⟨w2.heap.size,0,none⟩=some (.int .i64 R.c.1)∧U.cell? ⟨w2.heap.size,1,none⟩=some (.int .u64 (R.c.2.1:Int))∧U.cell? ⟨w2.heap.size,2,none⟩=some (.int .u64 (R.c.2.2:Int)))∧But (·=w.heap.size) v U) (first|exact HS.o _ (But.of (Below.refl _ _).drew)|exact HS.o _ ((And.right (by assumption):But (·=w.heap.size) v v.drew).call hb9)|exact HS.o _ ((((And.right (by assumption):But (·=w.heap.size) v w9).own _ _).own _ _).own _ _)) (first|(go_at_call 153;refine (HN.o _ (Below.refl _ _).drew).mono ?_;rintro e w9 ⟨rfl,hb9⟩;have HB9:=hid (b_c (Below.refl v.heap.size v).drew hb9);obtain⟨⟨v0,f0⟩,⟨v1,f1⟩,⟨v2,f2⟩⟩:=HL.o w9 HB9.o))
 go_wp2
 have HQ:=hid (three_set v0 v1 v2 (.int .i64 R.c.1) (.int .u64 (R.c.2.1:Int)) (.int .u64 (R.c.2.2:Int)))
 obtain⟨hf1,hf2⟩:=Made.put (w1:=w) (b:=w.heap.size) (HTv.o.later HB9.o) (((But.of HB0.o).trans HBv.o).call HB9.o) HO.o (Nat.le_refl _) R.c
 exact bodyPost_ret (v:=.tuple #[.agg #[.int .i64 R.c.1,.int .u64 (R.c.2.1:Int),.int .u64 (R.c.2.2:Int)],.int .i64 R.code]) (by simp [results,results104,go_sem,HQ.o.1,HQ.o.2.1,HQ.o.2.2]) rfl ⟨rfl,hf1,hf2⟩
theorem dchild_any {H:Hd}{s:Sta}(h:Tri w H s)(hf:Fit H.toPar s)(c:Cp)(r:Int)(ho:(Lit.int .i64 c.1).wf=true)(hw:c.2.1<B64∧c.2.2<B64) :
  Calls prog 108 #[.pointer (some ⟨H.g,0,none⟩),.pointer (some ⟨H.A.g,0,none⟩),.pointer (some ⟨H.qg,0,none⟩),cpV c,.int .i64 r] w (Gave w H (childA H.toPar s c r)):=by
 obtain⟨o,hi,lo⟩:=c
 obtain⟨w0,hw0⟩:∃w0,w0=(w.alloc (Obj.cells #[.int .i64 o,.int .u64 (hi:Int),.int .u64 (lo:Int)] 38)).alloc (Obj.cells #[.int .i64 0,.int .u64 0,.int .u64 0] 38):=⟨_,rfl⟩
 have hB0:Below w.heap.size w w0:=by rw [hw0];exact below2 _ _ _
 have x0:w0.cell? ⟨w.heap.size,0,none⟩=some (.int .i64 o):=by rw [hw0];simp [go_sem]
 have x1:w0.cell? ⟨w.heap.size,1,none⟩=some (.int .u64 (hi:Int)):=by rw [hw0];simp [go_sem]
 have x2:w0.cell? ⟨w.heap.size,2,none⟩=some (.int .u64 (lo:Int)):=by rw [hw0];simp [go_sem]
 have hz:Zc w0 (w.heap.size+1):=by rw [hw0];exact⟨⟨by simp [go_sem],by simp [go_sem]⟩,⟨by simp [go_sem],by simp [go_sem]⟩,⟨by simp [go_sem],by simp [go_sem]⟩⟩
 have hs0:w0.heap.size=w.heap.size+1+1:=by rw [hw0];simp
 have hlt:=h.old
 have hwr:∀k,H.Wr k→k<w.heap.size:=λk hk=>hlt k (Hd.wr_all hk)
 have HZ:Hid (∀U,But H.Wr w0 U→Zc U (w.heap.size+1)):=λU hU=>hz.but hU (λe=>by have:=hwr _ e;omega)
 have HO:=hid hlt
 have HB0:=hid hB0
 have HS0:=hid hs0
 have HK:=hid (mchild_any (h.later hB0) hf (o,hi,lo) r ho hw)
 unfold makV at HK
 generalize childA H.toPar s (o,hi,lo) r=R at *
 clear h hB0 hz hlt hwr hf hs0
 go_enter func108,ntmps108
 go_upto_region 1 with fail
 rw [←hw0]
 clear hw0
 go_upto_region 2 with (first
  | (go_at_call 159;refine HK.o.mono ?_;rintro e w2 ⟨⟨st,rfl⟩,ht2,hb2⟩;have HT2:=hid ht2;have HB2:=hid hb2;clear ht2 hb2))
 obtain⟨v,hv⟩:∃v,v=w2.alloc (Obj.cells #[.int .i64 R.c.1,.int .u64 (R.c.2.1:Int),.int .u64 (R.c.2.2:Int)] 38):=⟨_,rfl⟩
 have hBv:Below w2.heap.size w2 v:=by rw [hv];exact below1 _ _
 have hcw:Cw v w2.heap.size R.c:=by rw [hv];exact⟨by simp [go_sem],by simp [go_sem],by simp [go_sem]⟩
 have hs2:w.heap.size+1<w2.heap.size:=by have:=HB2.o.size;have:=HS0.o;omega
 have HTv:=hid (HT2.o.later hBv)
 have HBv:=hid (HB2.o.call hBv)
 have HN:=hid (λ(U:World) (hU:Below v.heap.size v U)=>number_any st R.code U (HTv.o.laid.later hU))
 have HL:Hid (∀U,Below v.heap.size v U→Zc U (w.heap.size+1)):=λU hU=>HZ.o U (HBv.o.call hU)
 have HS:Hid (∀U,But (·=w.heap.size+1) v U→(U.cell? ⟨w2.heap.size,0,none⟩=some (.int .i64 R.c.1)∧U.cell? ⟨w2.heap.size,1,none⟩=some (.int .u64 (R.c.2.1:Int))∧U.cell? ⟨w2.heap.size,2,none⟩=some (.int .u64 (R.c.2.2:Int)))∧But (·=w.heap.size+1) v U):=λU hU=>by
  obtain⟨q0,q1,q2⟩:=hcw.but hU (λe=>by omega)
  exact⟨⟨q0,q1,q2⟩,hU⟩
 rw [←hv]
 clear hv hBv hcw hs2
 go_region_held3 (λU=>(U.cell? ⟨w2.heap.size,0,none⟩=some (.int .i64 R.c.1)∧U.cell? ⟨w2.heap.size,1,none⟩=some (.int .u64 (R.c.2.1:Int))∧U.cell? ⟨w2.heap.size,2,none⟩=some (.int .u64 (R.c.2.2:Int)))∧But (·=w.heap.size+1) v U) (first|exact HS.o _ (But.of (Below.refl _ _).drew)|exact HS.o _ ((And.right (by assumption):But (·=w.heap.size+1) v v.drew).call hb9)|exact HS.o _ ((((And.right (by assumption):But (·=w.heap.size+1) v w9).own _ _).own _ _).own _ _)) (first|(go_at_call 153;refine (HN.o _ (Below.refl _ _).drew).mono ?_;rintro e w9 ⟨rfl,hb9⟩;have HB9:=hid (b_c (Below.refl v.heap.size v).drew hb9);obtain⟨⟨v0,f0⟩,⟨v1,f1⟩,⟨v2,f2⟩⟩:=HL.o w9 HB9.o))
 go_wp2
 have HQ:=hid (three_set v0 v1 v2 (.int .i64 R.c.1) (.int .u64 (R.c.2.1:Int)) (.int .u64 (R.c.2.2:Int)))
 obtain⟨hf1,hf2⟩:=Made.put (w1:=w) (b:=w.heap.size+1) (HTv.o.later HB9.o) (((But.of HB0.o).trans HBv.o).call HB9.o) HO.o (by omega) R.c
 exact bodyPost_ret (v:=.tuple #[.agg #[.int .i64 R.c.1,.int .u64 (R.c.2.1:Int),.int .u64 (R.c.2.2:Int)],.int .i64 R.code]) (by simp [results,results108,go_sem,HQ.o.1,HQ.o.2.1,HQ.o.2.2]) rfl ⟨rfl,hf1,hf2⟩
end Go.Proofs.YtfmhdimaijimlaaGreatDoor.D
