import Derived.Test.YtfmhdimaijimlaaGreatDoorZ24
set_option linter.all false
set_option maxRecDepth 1000000
set_option maxHeartbeats 8000000
open Go.Proofs.Tryz
variable {w w' w1 w2:Go.World}{n m k i j b g base kn:Nat}{a:Option Go.Addr}
namespace Go.Proofs.YtfmhdimaijimlaaGreatDoor.V
open Go.RowKit
open Go.Proofs.YtfmhdimaijimlaaGreatDoor.H (ak Cp)
section
variable {w w':World}{c:R.Cl}{dd gg:R.Sl}
theorem Bx.put {b:Nat}{L:List Value}(h:R.Bx w b L)(j:Nat)(hj:j<L.length)(v:Value):R.Bx (w.setCell ⟨b,j,none⟩ v) b (L.set j v):=by
 have hl:aq w ⟨b,j,none⟩ L[j]:=⟨h.cell j (gE hj),by have:=(h.there j hj).2;rwa [Nat.zero_add] at this⟩
 have hc:∀i u,(L.set j v)[i]?=some u->(w.setCell ⟨b,j,none⟩ v).cell? ⟨b,i,none⟩=some u:=λi u hu=>by
  by_cases e:i=j
  ·subst e
   rw [List.getElem?_set_self hj] at hu
   cases hu
   exact hl.put.1
  ·rw [List.getElem?_set_ne (by omega)] at hu
   exact D.aQ (h.cell i hu) (by omega)
 refine⟨λi u hu=>by rw [Nat.zero_add];exact hc i u hu,λi hi=>?_⟩
 rw [List.length_set] at hi
 refine⟨by rw [Nat.zero_add,hc i _ (gE (by rw [List.length_set];exact hi))];rfl,?_⟩
 have:=R.dJ b ⟨b,0+i,none⟩ [v] j w
 exact this.trans (h.there i hi).2
theorem oC (w:World)(e:TypeId):Own (w.alloc (Obj.cells #[] e)) w.heap.size e (some ⟨w.heap.size,0,none⟩) 0 0 [] :=
 ⟨World.ownsRow_made (base:=w.heap.size) (size:=1) (e:=e) w #[] 0 (by simp) (by unfold maxLen;omega) (by simp),λ_ h=>(by cases h)⟩
abbrev FN:List Value:=[.int .i64 0,.int .i64 0,.int .i64 0,.int .i64 0,.int .u64 0,.int .u64 0,.bool false,.int .i64 0,.int .i64 0,.int .i64 0,.slice none 0 0,.int .i64 0,.slice none 0 0]
theorem Bx.Hs {L:List Value}(h:R.Bx w b L)(hl:L.length=13)(c:R.Cl)(dd gg:R.Sl):(Instr.storeAt 45 (.pointer (some ⟨b,0,none⟩)) (.agg (R.cC c dd gg).toArray)).run prog w=.ok () (w.setCells b 0 (R.cC c dd gg)):=by
 have h10:(R.cC c dd gg).length=13:=rfl
 have:=R.AH (L:=R.cC c dd gg) (show w.there b 0 13 by rw [<-hl];exact h.there) h10 (by simp [R.cC,Value.oneCell'])
 simp [Instr.storeAt,storeVar,Instr.sureAddr,Value.cells,h10,this,Result.andThen]
theorem Im (h:Row w dd.a dd.n dd.c (S.aM c.data))(hs:∀x∈c.data,x<256):R.Row w dd.a dd.n dd.c c.data:=⟨by have:=h.len;rwa [S.ax] at this,h.cap_,h.none_,h.cells,hs⟩
structure Hw (w:World)(base:Nat)(c:R.Cl)(dd gg:R.Sl):Prop where
 is:R.Is w c dd gg
 d:∀j,aD dd.a j->base<=j/\j<w.heap.size
 g:∀j,aD gg.a j->base<=j/\j<w.heap.size
theorem tx (h:R.Is w c dd gg)(hb1:dd.n<=140737488355328)(hb2:gg.n*8<=140737488355328) :
  Calls prog 14 #[.agg (R.cC c dd gg).toArray] w λe w'=>∃d' g',e=.returned (.agg (R.cC c d' g').toArray)/\Hw w' w.heap.size c d' g'/\Below w.heap.size w w':=by
 obtain⟨W,hW⟩:∃W,W=(w.alloc (Obj.cells (R.cC c dd gg).toArray 45)).alloc (Obj.cells FN.toArray 45):=⟨_,rfl⟩
 have HB:Hid (Below w.heap.size w W):=by rw [hW];exact aw _ _ _
 have HWs:Hid (W.heap.size=w.heap.size+2):=by unfold Hid;rw [hW];simp
 have hX:R.Bx W w.heap.size (R.cC c dd gg):=by rw [hW];exact R.Bx.later (ab _ _) (R.Bx.new w _ _)
 have hZ:R.Bx W (w.heap.size+1) FN:=by
  rw [hW]
  have:=R.Bx.new (w.alloc (Obj.cells (R.cC c dd gg).toArray 45)) FN 45
  rwa [World.size_alloc] at this
 have h2:=h.later HB.o
 have hr1:Row W dd.a dd.n dd.c (S.aM c.data):=⟨by rw [S.ax];exact h2.data.len,h2.data.cap_,h2.data.none_,h2.data.cells,S.fB _⟩
 have hr2:Row W gg.a gg.n gg.c (ints c.an):=⟨by unfold ints;rw [List.length_map];exact h2.an.len,h2.an.cap_,h2.an.none_,h2.an.cells,by unfold ints;intro u hu;obtain⟨x,_,rfl⟩:=List.mem_map.1 hu;rfl⟩
 have hB1:=ab W (Obj.cells #[] 5)
 have hO1:=oC W 5
 obtain⟨a1,c1,W2,hrun1,hO2,hG1⟩:=S.fI hO1 (hr1.later hB1) hB1.size (by omega)
 rw [Nat.zero_add] at hrun1 hO2
 rw [List.nil_append] at hO2
 have hB2:Below W.heap.size W W2:=ae.below hB1 hG1.but (λk hk=>hO1.bD k hk)
 have hX2:=R.Bx.later hB2 hX
 have xD:W2.cell? ⟨w.heap.size,10,none⟩=some dd.v:=hX2.cell 10 rfl
 have xF:W2.frozen? ⟨w.heap.size,10,none⟩=false:=(hX2.there 10 (by simp [R.cC])).2
 have x10:(W.alloc (Obj.cells #[] 5)).cell? ⟨w.heap.size,10,none⟩=some dd.v:=(R.Bx.later hB1 hX).cell 10 rfl
 obtain⟨W3,hW3⟩:∃W3,W3=W2.setCell ⟨w.heap.size,10,none⟩ (.slice a1 dd.n c1):=⟨_,rfl⟩
 have hX3:R.Bx W3 w.heap.size (R.cC c ⟨a1,dd.n,c1⟩ gg):=by rw [hW3];exact Bx.put hX2 10 (by simp [R.cC]) (.slice a1 dd.n c1)
 have hB3:Below w.heap.size w W3:=by rw [hW3];exact ae.below (al HB.o hB2) (ae.own (g:=w.heap.size) (ae.refl _ _) 10 _) (λk e=>by omega)
 have hS3:W3.heap.size=W2.heap.size:=by rw [hW3];simp
 have hW2s:=hB2.size
 have hO3:Own W3 W.heap.size 5 a1 dd.n c1 (S.aM c.data):=by rw [hW3];exact Own.but (S:=(·=w.heap.size)) (ae.own (ae.refl _ _) 10 _) hO2 (λk hk e=>by have:=hO2.bD k hk;have:=HWs.o;omega)
 have hB4:=ab W3 (Obj.cells #[] 3)
 have hO4:=oC W3 3
 have hr3:Row w gg.a gg.n gg.c (ints c.an):=⟨by unfold ints;rw [List.length_map];exact h.an.len,h.an.cap_,h.an.none_,h.an.cells,by unfold ints;intro u hu;obtain⟨x,_,rfl⟩:=List.mem_map.1 hu;rfl⟩
 obtain⟨a2,c2,W5,hrun2,hO5,hG2⟩:=dE hO4 ((hr3.later hB3).later hB4) hB4.size (by omega)
 rw [Nat.zero_add] at hrun2 hO5
 rw [List.nil_append] at hO5
 have hB5:Below W3.heap.size W3 W5:=ae.below hB4 hG2.but (λk hk=>hO4.bD k hk)
 have hX5:=R.Bx.later hB5 hX3
 have yD:W5.cell? ⟨w.heap.size,12,none⟩=some gg.v:=hX5.cell 12 rfl
 have yF:W5.frozen? ⟨w.heap.size,12,none⟩=false:=(hX5.there 12 (by simp [R.cC])).2
 have y12:(W3.alloc (Obj.cells #[] 3)).cell? ⟨w.heap.size,12,none⟩=some gg.v:=(R.Bx.later hB4 hX3).cell 12 rfl
 obtain⟨W6,hW6⟩:∃W6,W6=W5.setCell ⟨w.heap.size,12,none⟩ (.slice a2 gg.n c2):=⟨_,rfl⟩
 have hX6:R.Bx W6 w.heap.size (R.cC c ⟨a1,dd.n,c1⟩ ⟨a2,gg.n,c2⟩):=by rw [hW6];exact Bx.put hX5 12 (by simp [R.cC]) (.slice a2 gg.n c2)
 have b6:ae (·=w.heap.size) W5 W6:=by rw [hW6];exact ae.own (ae.refl _ _) 12 _
 have b3:ae (·=w.heap.size) W2 W3:=by rw [hW3];exact ae.own (ae.refl _ _) 10 _
 have hZ6:R.Bx W6 (w.heap.size+1) FN:=R.Bx.but b6 (R.Bx.later hB5 (R.Bx.but b3 (R.Bx.later hB2 hZ) (by omega))) (by omega)
 have HLd:=aa (EH hX6)
 have HS9:=aa (Bx.Hs hZ6 rfl c ⟨a1,dd.n,c1⟩ ⟨a2,gg.n,c2⟩)
 obtain⟨W7,hW7⟩:∃W7,W7=W6.setCells (w.heap.size+1) 0 (R.cC c ⟨a1,dd.n,c1⟩ ⟨a2,gg.n,c2⟩):=⟨_,rfl⟩
 have b7:ae (·=w.heap.size+1) W6 W7:=by rw [hW7];exact R.iK (S:=(·=w.heap.size+1)) rfl _ 0 (ae.refl _ _)
 have hX7:R.Bx W7 (w.heap.size+1) (R.cC c ⟨a1,dd.n,c1⟩ ⟨a2,gg.n,c2⟩):=by rw [hW7];exact R.Bx.set hZ6 rfl
 have HL9:Hid ((loadVar 45 ⟨w.heap.size+1,0,none⟩).run prog W7=.ok (.agg (R.cC c ⟨a1,dd.n,c1⟩ ⟨a2,gg.n,c2⟩).toArray) W7):=R.Ey hX7.range (by rfl)
 rw [<-hW7] at HS9
 have s5:=hB5.size
 have hO7:Own W7 W.heap.size 5 a1 dd.n c1 (S.aM c.data):=Own.but b7 (Own.but b6 (hO3.later hB5) (λk hk e=>by have:=hO2.bD k hk;have:=HWs.o;omega)) (λk hk e=>by have:=hO2.bD k hk;have:=HWs.o;omega)
 have hP7:Own W7 W3.heap.size 3 a2 gg.n c2 (ints c.an):=Own.but b7 (Own.but b6 hO5 (λk hk e=>by have:=hO5.bD k hk;have:=HWs.o;omega)) (λk hk e=>by have:=hO5.bD k hk;have:=HWs.o;omega)
 have HMn:Hid (Hw W7 w.heap.size c ⟨a1,dd.n,c1⟩ ⟨a2,gg.n,c2⟩):=by
  refine⟨⟨Im (dd:=⟨a1,dd.n,c1⟩) hO7.read h.data.small,?_,h.hi,h.lo⟩,λj hj=>⟨by have:=hO7.bD j hj;have:=HWs.o;omega,hO7.lt j hj⟩,λj hj=>⟨by have:=hP7.bD j hj;have:=HWs.o;omega,hP7.lt j hj⟩⟩
  have hr:=hP7.read
  exact⟨by have:=hr.len;unfold ints at this;rwa [List.length_map] at this,hr.cap_,hr.none_,hr.cells⟩
 have HB7:Hid (Below w.heap.size w W7):=ae.below (ae.below (al hB3 hB5) b6 (λk e=>by omega)) b7 (λk e=>by omega)
 have HW:=aa hW
 have HW3:=aa hW3
 have HW6:=aa hW6
 have HR1:=aa hrun1
 have HR2:=aa hrun2
 clear h h2 hr1 hr2 hr3 hX hZ hB1 hO1 hO2 hG1 hB2 hX2 hX3 hB3 hS3 hW2s hO3 hB4 hO4 hO5 hG2 hB5 hX5 hX6 b6 b3 hZ6 hW7 b7 hX7 s5 hO7 hP7 hW hW3 hW6 hrun1 hrun2 hb1 hb2
 go_enter func14,ntmps14
 go_upto_region 1 with fail
 have hW:=HW.o
 rw [<-hW]
 clear hW
 go_upto_region 2 with (first|(at_builtin;refine kt rfl _ _ 39 rfl _ _ rfl rfl _ W2 HR1.o ?_))
 rw [<-HW3.o]
 clear x10 xD xF
 go_upto_region 3 with (first|(at_builtin;refine kt rfl _ _ 43 rfl _ _ rfl rfl _ W5 HR2.o ?_))
 rw [<-HW6.o]
 clear y12 yD yF
 go_wp2_with (first|((with_reducible refine R.aP HLd.o ?_ ?_);(· rfl))|((with_reducible refine aY HS9.o ?_ ?_ ?_);(· rfl);(· rfl)))
 exact bodyPost_ret (v:=.agg (R.cC c ⟨a1,dd.n,c1⟩ ⟨a2,gg.n,c2⟩).toArray) (by simp [results,results14,asAddr,Act.put,HL9.o]) rfl ⟨⟨a1,dd.n,c1⟩,⟨a2,gg.n,c2⟩,rfl,HMn.o,HB7.o⟩
end
open Go.Proofs.YtfmhdimaijimlaaGreatDoor.M (bh)
section
variable {w w':World}{H:Hd}{s s':aI}{d d':Nat->List K.Pu}{O:Nat->Nat->Prop}{N:Nat->Prop}{c:R.Cl}{dd gg:R.Sl}{b:Nat}
theorem FQ (hk:Kn w H s N)(hi:R.Is w c dd gg)(hb:R.fm c=false) :
  Calls prog 13 #[.pointer (some ⟨H.kb,0,none⟩),.agg (R.cC c dd gg).toArray] w λe w'=>e=.returned (dO (rep 1) none 0 0)/\Below w.heap.size w w':=by
 obtain⟨d,h,ht,hf,hWd⟩:=id hk
 obtain⟨W,hW⟩:∃W,W=(w.alloc (Obj.cells (R.cC c dd gg).toArray 45)).alloc z6:=⟨_,rfl⟩
 have hB:Below w.heap.size w W:=by rw [hW];exact aw _ _ _
 have hX:R.Bx W w.heap.size (R.cC c dd gg):=by rw [hW];exact R.Bx.later (ab _ _) (R.Bx.new w (R.cC c dd gg) 45)
 have hZ:Zr W (w.heap.size+1):=by rw [hW];have:=Zr.new (w.alloc (Obj.cells (R.cC c dd gg).toArray 45));simpa using this
 have h2:=h.later hB
 have HLd:=aa (EH hX)
 have HC:=aa (R.wj (R.cC c dd gg) c W ⟨_,_,rfl,hi.later hB⟩ hb)
 have HW:=aa hW
 have HB:=aa hB
 have HX:=aa hX
 have HZ:=aa hZ
 have HD:=aa h2
 have HP:Hid (0<w.heap.size):=by have:=h.b0;unfold Hid;omega
 have HN:=aa (λk hk=>h.new (k:=k) hk)
 clear h h2 hB hX hZ hW hk hf ht hi hb
 go_enter func13,ntmps13
 go_upto_region 1 with fail
 rw [<-HW.o]
 go_upto_region 2 with (first|((with_reducible refine R.aP HLd.o ?_ ?_);(· rfl))|(go_at_call 30;refine HC.o.mono ?_;rintro e w1 ⟨rfl,hb1⟩;have HB1:=aa hb1;clear hb1))
 have HZ1:=aa (HZ.o.later HB1.o)
 have HR:=aa (ba 1 w1)
 go_upto_region 3 with fail
 go_upto_region 4 with (first|(go_at_call 31;refine HR.o.mono ?_;rintro e w2 ⟨rfl,hb2⟩;have HB2:=aa hb2;have HZ9:=aa (HZ1.o.later HB2.o);have HS9:=aa (HZ9.o.st (rep 1) none 0 0);have HL9:=aa (HZ9.o.lv (rep 1) none 0 0);clear hb2)|((with_reducible refine aY HS9.o ?_ ?_ ?_);(· rfl);(· rfl)))
 have HB9:Hid (ae (·=w.heap.size+1) w2 (w2.setCells (w.heap.size+1) 0 (fK (rep 1) none 0 0))):=R.iK (S:=(·=w.heap.size+1)) rfl _ 0 (ae.refl _ _)
 exact bodyPost_ret (v:=dO (rep 1) none 0 0) (by simp [results,results13,asAddr,HL9.o]) rfl ⟨rfl,ae.below (al HB.o (al HB1.o HB2.o)) HB9.o (λk e=>by omega)⟩
theorem DA (hk:Kn w H s N)(hi:R.Is w c dd gg)(hb:R.fm c=true)(hl:s.P.contains c.au=false) :
  Calls prog 13 #[.pointer (some ⟨H.kb,0,none⟩),.agg (R.cC c dd gg).toArray] w λe w'=>e=.returned (dO (rep 2) none 0 0)/\Below w.heap.size w w':=by
 obtain⟨d,h,ht,hf,hWd⟩:=id hk
 obtain⟨W,hW⟩:∃W,W=(w.alloc (Obj.cells (R.cC c dd gg).toArray 45)).alloc z6:=⟨_,rfl⟩
 have hB:Below w.heap.size w W:=by rw [hW];exact aw _ _ _
 have hX:R.Bx W w.heap.size (R.cC c dd gg):=by rw [hW];exact R.Bx.later (ab _ _) (R.Bx.new w (R.cC c dd gg) 45)
 have hZ:Zr W (w.heap.size+1):=by rw [hW];have:=Zr.new (w.alloc (Obj.cells (R.cC c dd gg).toArray 45));simpa using this
 have h2:=h.later hB
 have HLd:=aa (EH hX)
 have HC:=aa (R.qQ (R.cC c dd gg) c W ⟨_,_,rfl,hi.later hB⟩ hb)
 have HIv:=aa hf.iv
 have HCt:=aa hl
 have HW:=aa hW
 have HB:=aa hB
 have HX:=aa hX
 have HZ:=aa hZ
 have HD:=aa h2
 have HP:Hid (0<w.heap.size):=by have:=h.b0;unfold Hid;omega
 have HN:=aa (λk hk=>h.new (k:=k) hk)
 clear h h2 hB hX hZ hW hk hf ht hi hb hl
 go_enter func13,ntmps13
 go_upto_region 1 with fail
 rw [<-HW.o]
 go_upto_region 2 with (first|((with_reducible refine R.aP HLd.o ?_ ?_);(· rfl))|(go_at_call 30;refine HC.o.mono ?_;rintro e w1 ⟨a1,n1,c1,rfl,-,hb1⟩;have HB1:=aa hb1;clear hb1))
 have HLv:Hid (∀U:World,Below w1.heap.size w1 U->Calls prog 32 #[.pointer (some ⟨H.pg,0,none⟩),.int .i64 c.au] U λe w'=>e=.returned (.bool false)/\Below w1.heap.size w1 w'):=λU hU=>by
  have:=Fw ((HD.o.later HB1.o).later hU) HIv.o c.au
  rw [HCt.o] at this
  refine this.mono ?_
  rintro e w' ⟨he,q,hq⟩
  exact⟨he,by rw [hq];exact below_drewN hU _⟩
 have HX1:=aa (R.Bx.later HB1.o HX.o)
 have H01:Hid (∀U,ae (λ_=>False) w1 U->U.cell? ⟨H.kb,14,none⟩=some (.pointer (some ⟨H.pg,0,none⟩))/\U.cell? ⟨w.heap.size,1,none⟩=some (.int .i64 c.au)):=λU hU=>by
  have:=Cb.of (R.Bx.but hU HX1.o (λh=>h))
  exact⟨aC hU ((HD.o.later HB1.o).kb 14 _ rfl) (λh=>h),this.c1⟩
 go_upto_region 4 with fail
 go_region_held3 (λU=>U.cell? ⟨H.kb,14,none⟩=some (.pointer (some ⟨H.pg,0,none⟩))/\U.cell? ⟨w.heap.size,1,none⟩=some (.int .i64 c.au)) (first|exact H01.o _ (ae.of (Below.refl _ _).drew)|exact HE.o) (first
   | (go_at_call 32;refine (HLv.o _ (Below.refl _ _).drew).mono ?_;rintro e w3 ⟨rfl,hb3⟩;have HB3:=aa hb3;have HE:=aa (H01.o w3 (ae.of HB3.o));clear hb3))
 have HZ1:=aa (HZ.o.later (al HB1.o HB3.o))
 have HR:=aa (ba 2 w3)
 go_upto_region 5 with fail
 go_upto_region 6 with (first|(go_at_call 31;refine HR.o.mono ?_;rintro e w2 ⟨rfl,hb2⟩;have HB2:=aa hb2;have HZ9:=aa (HZ1.o.later HB2.o);have HS9:=aa (HZ9.o.st (rep 2) none 0 0);have HL9:=aa (HZ9.o.lv (rep 2) none 0 0);clear hb2)|((with_reducible refine aY HS9.o ?_ ?_ ?_);(· rfl);(· rfl)))
 have HB9:Hid (ae (·=w.heap.size+1) w2 (w2.setCells (w.heap.size+1) 0 (fK (rep 2) none 0 0))):=R.iK (S:=(·=w.heap.size+1)) rfl _ 0 (ae.refl _ _)
 exact bodyPost_ret (v:=dO (rep 2) none 0 0) (by simp [results,results13,asAddr,HL9.o]) rfl ⟨rfl,ae.below (al HB.o (al (al HB1.o HB3.o) HB2.o)) HB9.o (λk e=>by omega)⟩
theorem B_:∀i,1<=i->i<=10->∀a b u,Sem.run prog (callFunc (jJ i) #[a,b]) u=.ok (.enter (jJ i) #[a,b]) u
 | 1,_,_,a,b,u=>by simp [go_sem,jJ]
 | 2,_,_,a,b,u=>by simp [go_sem,jJ]
 | 3,_,_,a,b,u=>by simp [go_sem,jJ]
 | 4,_,_,a,b,u=>by simp [go_sem,jJ]
 | 5,_,_,a,b,u=>by simp [go_sem,jJ]
 | 6,_,_,a,b,u=>by simp [go_sem,jJ]
 | 7,_,_,a,b,u=>by simp [go_sem,jJ]
 | 8,_,_,a,b,u=>by simp [go_sem,jJ]
 | 9,_,_,a,b,u=>by simp [go_sem,jJ]
 | 10,_,_,a,b,u=>by simp [go_sem,jJ]
theorem Je (hk:Kn w H s N)(hi:R.Is w c dd gg)(hb:R.fm c=true)(hl:s.P.contains c.au=true)(hap:0<dd.n->∀j,aD dd.a j->¬N j) :
  Calls prog 13 #[.pointer (some ⟨H.kb,0,none⟩),.agg (R.cC c dd gg).toArray] w (cG w H N (fX H.p s c)):=by
 obtain⟨d,h,ht,hf,hWd⟩:=id hk
 obtain⟨W,hW⟩:∃W,W=(w.alloc (Obj.cells (R.cC c dd gg).toArray 45)).alloc z6:=⟨_,rfl⟩
 have hB:Below w.heap.size w W:=by rw [hW];exact aw _ _ _
 have hX:R.Bx W w.heap.size (R.cC c dd gg):=by rw [hW];exact R.Bx.later (ab _ _) (R.Bx.new w (R.cC c dd gg) 45)
 have hZ:Zr W (w.heap.size+1):=by rw [hW];have:=Zr.new (w.alloc (Obj.cells (R.cC c dd gg).toArray 45));simpa using this
 have h2:=h.later hB
 have HLd:=aa (EH hX)
 have HC:=aa (R.qQ (R.cC c dd gg) c W ⟨_,_,rfl,hi.later hB⟩ hb)
 have HIv:=aa hf.iv
 have HCt:=aa hl
 have hfd:Fd w s N c dd gg:=⟨hi,hb,by simpa using hl,hap⟩
 obtain⟨i,hiq⟩:=Int.eq_ofNat_of_zero_le (show 0<=c.op by have:=hfd.op;omega)
 have h10:1<=i/\i<=10:=by have:=hfd.op;omega
 have HOp:Hid (c.op=(i:Int)):=hiq
 have H10:=aa h10
 have HDe:Hid (∀U,Below w.heap.size w U->Calls prog (jJ i) #[.pointer (some ⟨H.kb,0,none⟩),.agg (R.cC c dd gg).toArray] U (cG U H N (fX H.p s c))):=λU hU=>zc (hk.later hU) ⟨hfd.is.later hU,hfd.fm,hfd.au,hfd.ap⟩ i hiq
 obtain⟨F,hF⟩:∃F,F=jJ i:=⟨_,rfl⟩
 have HF:=aa hF
 have HCf:Hid (∀a b u,Sem.run prog (callFunc F #[a,b]) u=.ok (.enter F #[a,b]) u):=λa b u=>by rw [hF];exact B_ i h10.1 h10.2 a b u
 rw [<-hF] at HDe
 generalize fX H.p s c=A at *
 have HW:=aa hW
 have HB:=aa hB
 have HX:=aa hX
 have HZ:=aa hZ
 have HD:=aa h2
 have HP:Hid (0<w.heap.size):=by have:=h.b0;unfold Hid;omega
 have HN:=aa (λk hk=>h.new (k:=k) hk)
 clear h h2 hB hX hZ hW hk hf ht hi hb hl hap hfd hiq h10 hF
 go_enter func13,ntmps13
 go_upto_region 1 with fail
 rw [<-HW.o]
 go_upto_region 2 with (first|((with_reducible refine R.aP HLd.o ?_ ?_);(· rfl))|(go_at_call 30;refine HC.o.mono ?_;rintro e w1 ⟨a1,n1,c1,rfl,-,hb1⟩;have HB1:=aa hb1;clear hb1))
 have HLv:Hid (∀U:World,Below w1.heap.size w1 U->Calls prog 32 #[.pointer (some ⟨H.pg,0,none⟩),.int .i64 c.au] U λe w'=>e=.returned (.bool true)/\Below w1.heap.size w1 w'):=λU hU=>by
  have:=Fw ((HD.o.later HB1.o).later hU) HIv.o c.au
  rw [HCt.o] at this
  refine this.mono ?_
  rintro e w' ⟨he,q,hq⟩
  exact⟨he,by rw [hq];exact below_drewN hU _⟩
 have HX1:=aa (R.Bx.later HB1.o HX.o)
 have H01:Hid (∀U,ae (λ_=>False) w1 U->U.cell? ⟨H.kb,14,none⟩=some (.pointer (some ⟨H.pg,0,none⟩))/\U.cell? ⟨w.heap.size,1,none⟩=some (.int .i64 c.au)):=λU hU=>by
  have:=Cb.of (R.Bx.but hU HX1.o (λh=>h))
  exact⟨aC hU ((HD.o.later HB1.o).kb 14 _ rfl) (λh=>h),this.c1⟩
 go_upto_region 4 with fail
 go_region_held3 (λU=>U.cell? ⟨H.kb,14,none⟩=some (.pointer (some ⟨H.pg,0,none⟩))/\U.cell? ⟨w.heap.size,1,none⟩=some (.int .i64 c.au)) (first|exact H01.o _ (ae.of (Below.refl _ _).drew)|exact HE.o) (first
   | (go_at_call 32;refine (HLv.o _ (Below.refl _ _).drew).mono ?_;rintro e w3 ⟨rfl,hb3⟩;have HB3:=aa hb3;have HE:=aa (H01.o w3 (ae.of HB3.o));clear hb3))
 have HX3:=aa (R.Bx.later HB3.o HX1.o)
 have HB3w:Hid (Below w.heap.size w w3):=al HB.o (al HB1.o HB3.o)
 have HZ3:=aa (HZ.o.later (al HB1.o HB3.o))
 have H03:Hid (∀U,ae (λk=>k≠w.heap.size) w3 U->(U.cell? ⟨w.heap.size,0,none⟩=some (.int .i64 (i:Int))/\R.Bx U w.heap.size (R.cC c dd gg))):=λU hU=>by
  have hx:=R.Bx.but hU HX3.o (λe=>e rfl)
  have:=(Cb.of hx).c0
  rw [HOp.o] at this
  exact⟨this,hx⟩
 have hi10:=H10.o
 clear HC HLd HLv
 go_upto_region 6 with fail
 refine wp_region_held_drew (S:=(λU:World=>(U.cell? ⟨w.heap.size,0,none⟩=some (.int .i64 (i:Int))/\R.Bx U w.heap.size (R.cC c dd gg)))) (by kernel_rfl) (H03.o _ (ae.of (Below.refl _ _).drew)) (λhHeld=>?_)
 refine nH (bm 9 0) 9 ?_
 refine tH 1 (v:=?_) rfl (λ_ _ _ h=>h) ?_ ?_;rotate_left
 ·(intro w hSw;(try dsimp only at hSw);go_simp;try with_reducible rfl)
 try simp only [gz,Act.put]
 refine nH (bm 9 2) 8 ?_
 refine tH 2 (v:=?_) rfl (λ_ _ _ h=>h) ?_ ?_;rotate_left
 ·(intro w hSw;(try dsimp only at hSw);go_simp;try with_reducible rfl)
 try simp only [gz,Act.put]
 refine nH (bm 9 6) 7 ?_
 refine tH 5 (v:=?_) rfl (λ_ _ _ h=>h) ?_ ?_;rotate_left
 ·(intro w hSw;(try dsimp only at hSw);go_simp;try with_reducible rfl)
 try simp only [gz,Act.put]
 refine nH (bm 9 38) 6 ?_
 refine tH 6 (v:=.agg (R.cC c dd gg).toArray) rfl (λ_ _ _ h=>h) ?_ ?_
 ·(intro w hSw;(try dsimp only at hSw);exact K.eI rfl rfl (EH hSw.2))
 try simp only [gz,Act.put]
 refine nH (bm 9 102) 5 ?_
 refine yH [0] ?_
 refine cH rfl λK hK=>?_
 go_simp
 go_wp2_with (first|(go_at_call 33;refine (xq w3.drew).mono ?_;rintro e u1 ⟨rfl,hc1,hb1⟩;have HU1:Hid (Below w3.heap.size w3 u1):=al (Below.refl _ _).drew hb1;have yF:u1.cell? ⟨w3.heap.size,i,none⟩=some (.func (.func (jJ i)) #[] #[]):=hc1 i H10.o.1 H10.o.2;rw [<-HF.o] at yF;clear hc1 hb1))
 refine hK.out _ _ (H03.o u1 (ae.of HU1.o)) (λhHeld=>?_)
 clear hK K
 try simp only [gz,Act.put]
 refine nH (bm 9 103) 4 ?_
 refine tH 3 (v:=.pointer (some ⟨w3.heap.size,i,none⟩)) rfl (λ_ _ _ h=>h) ?_ ?_
 ·(intro w hSw;(try dsimp only at hSw);go_simp;intro hh;exfalso;omega)
 try simp only [gz,Act.put]
 refine nH (bm 9 111) 3 ?_
 refine yH [4] ?_
 refine cH rfl λK hK=>?_
 go_simp
 refine hK.out _ _ (H03.o u1 (ae.of HU1.o)) (λhHeld=>?_)
 clear hK K
 try simp only [gz,Act.put]
 refine nH (bm 9 127) 2 ?_
 refine yH [7] ?_
 refine cH rfl λK hK=>?_
 go_simp
 rw [HCf.o,Oper.upon_enter]
 go_wp2_with (first|((with_reducible refine (HDe.o u1 (al HB3w.o HU1.o)).mono ?_);rintro e u2 ⟨a,n,cp,N2,rfl,ho2,hk2,hw2,hd2⟩;have HO2:=aa ho2;have HK2:=aa hk2;have HW2:=aa hw2;have HD2:=aa hd2;have HU2:Hid (ae (λk=>k≠w.heap.size) w3 u2):=(ae.of HU1.o).trans (ae.mono (T:=λk=>k≠w.heap.size) hw2.2 (λk hk e=>HN.o k (by omega) hk));have HZ9:=aa ((HZ3.o.later HU1.o).but hw2.2 (HN.o _ (by omega)));have HL9:=aa (HZ9.o.lv A.1 a n cp);have HS9:=aa (HZ9.o.st A.1 a n cp);have HB9:Hid (ae (λk=>k=w.heap.size+1) u2 (u2.setCells (w.heap.size+1) 0 (fK A.1 a n cp))):=R.iK (S:=(λk=>k=w.heap.size+1)) rfl _ 0 (ae.refl _ _);have HU9:Hid (ae (λk=>k≠w.heap.size) w3 (u2.setCells (w.heap.size+1) 0 (fK A.1 a n cp))):=HU2.o.trans (ae.mono (T:=λk=>k≠w.heap.size) HB9.o (λk hk e=>by omega));clear ho2 hk2 hw2 hd2))
 refine hK.out _ _ (H03.o u2 HU2.o) (λhHeld=>?_)
 clear hK K
 try simp only [gz,Act.put]
 refine nH (bm 9 255) 1 ?_
 refine yH [8] ?_
 refine cH rfl λK hK=>?_
 rw [if_pos (by kernel_rfl)]
 refine bS 41 (.tmp 4) (.tmp 32) rfl _ _ rfl rfl _ HS9.o ?_
 refine hK.out _ _ (H03.o _ HU9.o) (λhHeld=>?_)
 clear hK K
 try simp only [gz,Act.put]
 refine nH (bm 9 511) 0 ?_
 refine wpAnyH_done (by kernel_rfl) ?_ _
 go_wp2
 have hlt:w.heap.size+1<u1.heap.size:=Nat.lt_of_lt_of_le HZ3.o.lt HU1.o.size
 have h1:=(aH.later (N:=N) (al HB3w.o HU1.o)).trans HW2.o
 refine bodyPost_ret (v:=dO A.1 a n cp) (by simp [results,results13,asAddr,HL9.o]) rfl ⟨a,n,cp,N2,rfl,?_,?_,⟨h1.1,h1.2.comp HB9.o (λi e=>.inr (by omega))⟩,HD2.o⟩
 ·exact Own.but HB9.o (HO2.o.mono (by omega)) (λk hk e=>by have:=HO2.o.bD k hk;omega)
 ·exact HK2.o.but HB9.o (λk hk e=>HW2.o.out (b:=k) (by omega) (HN.o _ (by omega)) hk) (λe=>by omega)
theorem AN (hk:Kn w H s N)(hi:R.Is w c dd gg)(hap:0<dd.n->∀j,aD dd.a j->¬N j) :
  Calls prog 13 #[.pointer (some ⟨H.kb,0,none⟩),.agg (R.cC c dd gg).toArray] w (cG w H N (fU H.p s c)):=by
 unfold fU
 by_cases hb:R.fm c=true
 ·rw [if_neg (by simp [hb])]
  by_cases hl:s.P.contains c.au=true
  ·rw [if_neg (by simp only [hl];decide)]
   exact Je hk hi hb hl hap
  ·rw [if_pos (by simpa using hl)]
   refine (DA hk hi hb (by simpa using hl)).mono ?_
   rintro e w' ⟨rfl,hw⟩
   exact cG.plain rfl rfl (hk.later hw) (aH.later hw)
 ·rw [if_pos (by simpa using hb)]
  refine (FQ hk hi (by simpa using hb)).mono ?_
  rintro e w' ⟨rfl,hw⟩
  exact cG.plain rfl rfl (hk.later hw) (aH.later hw)
end
section
variable {w w':World}{H:Hd}{s s':aI}{d d':Nat->List K.Pu}{N:Nat->Prop}
theorem Ht (h:aF w H s d N):Calls prog 69 #[.pointer (some ⟨H.z.s,0,none⟩)] w λe w'=>∃a cap,e=.returned (.slice a s.V.length cap)/\Own w' w.heap.size 3 a s.V.length cap (ints (s.V.map Prod.fst))/\Below w.heap.size w w':=by
 obtain⟨Os,hs,hv⟩:=h.st
 rw [<-hv,S.jL,show (S.vw Os).map Prod.fst=Os.map S.Ob.id by simp [S.vw,Function.comp_def]]
 exact S.FX H.z s.nx Os w hs
theorem Io (h:aF w H s d N){id:Int}{l:List Nat}(hl:S.kO s.V id=some l)(hi:S.aW id):Calls prog 119 #[.pointer (some ⟨H.z.s,0,none⟩),.int .i64 id] w λe w'=>e=.returned (.tuple #[.int .i64 (l.length:Int),.bool true])/\Below w.heap.size w w':=by
 obtain⟨Os,hs,hv⟩:=h.st
 rw [<-hv,S.uF] at hl
 have:=S.Eo H.z s.nx Os id w hs hi
 cases ho:S.fj Os id with
 | none=>rw [ho] at hl;cases hl
 | some o =>
  rw [ho] at hl this
  cases hl
  exact this
theorem Hy (h:aF w H s d N){id:Int}{l:List Nat}(hl:S.kO s.V id=some l):l.length<=4096:=by
 obtain⟨Os,hs,hv⟩:=h.st
 rw [<-hv,S.uF] at hl
 obtain⟨t,B,hs⟩:=hs
 cases ho:S.fj Os id with
 | none=>rw [ho] at hl;cases hl
 | some o =>
  rw [ho] at hl
  cases hl
  exact hs.eK o (S.at_mem ho).1
theorem A0 (h:aF w H s d N)(hi:P.Iv H.pm s.px s.P):Calls prog 72 #[.pointer (some ⟨H.pg,0,none⟩)] w λe w'=>∃a cap,e=.returned (.slice a s.P.length cap)/\Own w' w.heap.size 3 a s.P.length cap (ints s.P)/\Below w.heap.size w w':=by
 obtain⟨pa,cap,h1⟩:=h.pr
 exact P.Au h1 hi
theorem GW (h:aF w H s d N):Calls prog 39 #[.pointer (some ⟨H.pg,0,none⟩)] w λe w'=>e=.returned (.int .i64 s.px)/\w'=w:=by
 obtain⟨pa,cap,h1⟩:=h.pr
 exact P.fs h1
theorem GB (h:aF w H s d N):Calls prog 40 #[.pointer (some ⟨H.g,0,none⟩)] w λe w'=>e=.returned (.int .i64 (s.t:Int))/\w'=w:=D.xX _ _ _ _ _ _ h.dr
def J3:Value->Nat
 | .slice _ n _=>n
 | _=>0
def I0 (w2:World)(b0:Nat)(l:List Nat)(v:Value)(w':World):Prop :=
 ∃(m cap:Nat) (a:Option Addr),v=.slice a m cap/\m<=l.length/\Own w' b0 5 a m cap (S.aM (l.take m))/\(∀j,aD a j->j=b0\/w2.heap.size<=j)/\ae (·=b0) w2 w'
theorem jT (h:aF w H s d N){id:Int}{l:List Nat}(hl:S.kO s.V id=some l)(hi:S.aW id) :
  Calls prog 70 #[.pointer (some ⟨H.kb,0,none⟩),.int .i64 id] w λe w'=>∃a cap,e=.returned (.slice a l.length cap)/\Own w' w.heap.size 5 a l.length cap (S.aM l)/\Below w.heap.size w w':=by
 have hbig:=Hy h hl
 have HSz:=aa (Io h hl hi)
 have HD:=aa h
 have HP:Hid (0<w.heap.size):=by have:=h.b0;unfold Hid;omega
 have HN:=aa (λk hk=>h.new (k:=k) hk)
 have x11:=h.kb 11 _ rfl
 have HRd:Hid (∀U,aF U H s d N->∀m k:Nat,k<=1024->m+k<=l.length->Calls prog 111 #[.pointer (some ⟨H.z.s,0,none⟩),.int .i64 id,.int .i64 (m:Int),.int .i64 (k:Int)] U λe w'=>∃a cap,e=.returned (.tuple #[.slice a k cap,.int .i64 0])/\Row w' a k cap (S.aM ((l.drop m).take k))/\Below U.heap.size U w'):=λU hU m k h1 h2=>by
  have:=Fv hU id m k hi
  have e1:S.sl s.V id m k=0:=by unfold S.sl;rw [hl];simp only [];rw [if_pos (by omega)]
  have e2:S.xj s.V id m k=(l.drop m).take k:=by unfold S.xj;rw [hl];simp only [];rw [if_pos (by omega)];simp
  have e3:((l.drop m).take k).length=k:=by simp;omega
  rw [e1,e2,e3] at this
  refine this.mono ?_
  rintro e w' ⟨a,cap,he,ho,hb⟩
  exact⟨a,cap,he,ho.read,hb⟩
 obtain⟨Z,hZs,hmk⟩:=S.nY l.length (by omega)
 have HZs:=aa hZs
 obtain⟨n,hn⟩:∃n,n=l.length:=⟨_,rfl⟩
 have HL:=aa hn
 rw [<-hn] at HSz HZs HRd hmk hbig
 rw [<-hn]
 clear h hl hi hZs hn
 go_enter func70,ntmps70
 go_upto_region 2 with (first|(go_at_call 119;refine HSz.o.mono ?_;rintro e w1 ⟨rfl,hb1⟩;have HB1:=aa hb1;clear hb1))
 clear x11
 go_upto_region 3 with fail
 obtain⟨w2,hw2⟩:∃w2,w2=w1.alloc (Obj.cells Z 5):=⟨_,rfl⟩
 have HB2:Hid (Below w.heap.size w w2):=by rw [hw2];exact al HB1.o (ab _ _)
 have HO0:Hid (Own w2 w1.heap.size 5 (some ⟨w1.heap.size,0,none⟩) 0 n []):=by
  have:=World.ownsRow_made (base:=w1.heap.size) (size:=1) (e:=5) w1 Z n (by simp) (by unfold maxLen;omega) (by rw [HZs.o];omega)
  rw [hw2]
  exact⟨this,λ_ h=>(by cases h)⟩
 obtain⟨b0,hb0⟩:∃b0,b0=w1.heap.size:=⟨_,rfl⟩
 have HS2:Hid (w.heap.size<=b0/\b0<w2.heap.size):=by rw [hw2,hb0];exact⟨HB1.o.size,by simp⟩
 rw [<-hb0] at HO0
 rw [<-hw2,<-hb0]
 have HB0:=aa hb0
 clear hw2 hmk hb0
 go_loopw [7] (I0 w2 b0 l) (λv _=>n - J3 v)
 case atStart=>exact⟨0,n,_,rfl,Nat.zero_le _,HO0.o,λj hj=>.inl (S.sU hj),ae.refl _ _⟩
 case round =>
  obtain⟨m,cap,a,rfl,hm,hO,hBl,hBt⟩:=hrel
  have HO:=aa hO
  have HBl:=aa hBl
  have HBt:=aa hBt
  rw [<-HL.o] at hm
  have HM:=aa hm
  have HDr:=aa ((HD.o.later HB2.o).but hBt (λk hk e=>HN.o k (by have:=HS2.o;omega) hk) (λe=>by have:=HS2.o;have:=HP.o;omega))
  have xs:=HDr.o.kb 11 _ rfl
  clear hO hBl hBt hm
  by_cases hlt:m<n
  ·have hd:decide ((m:Int)<(n:Int))=true:=dT (by omega)
   obtain⟨k,hk⟩:∃k,k=min 1024 (n - m):=⟨_,rfl⟩
   have HMn:Hid (min (1024:Int) ((n:Int) - m)=(k:Int)):=by unfold Hid;omega
   have hk2:k<=1024/\m+k<=n/\0<k:=by omega
   have HK:=aa hk2
   clear hk hk2
   go_upto_region 5 with (first|(go_at_call 111;rw [HMn.o];refine (HRd.o wr HDr.o m k HK.o.1 HK.o.2.1).mono ?_;rintro e w6 ⟨a6,c6,rfl,hr6,hb6⟩;have HR6:=aa hr6;have HB6:=aa hb6;clear hr6 hb6))
   obtain⟨a',cap',w7,hrun,hO7,hG⟩:=S.fI (HO.o.later HB6.o) HR6.o (by have:=HB6.o.size;have:=HBt.o.size;have:=HS2.o;omega) (by have:=HK.o;omega)
   have HRUN:=aa hrun
   have HO7:=aa hO7
   have HG:=aa hG
   clear hrun hO7 hG xs
   go_wp2_with (first|(at_builtin;refine kt rfl _ _ 39 rfl _ _ rfl rfl _ w7 HRUN.o ?_))
   have hBt6:=HBt.o.call HB6.o
   have hk2:=HK.o
   refine⟨⟨m+k,cap',a',rfl,by have:=HL.o;omega,?_,λj hj=>?_,hBt6.comp HG.o.but (λj hj=>?_)⟩,by simp [J3];omega⟩
   ·rw [List.take_add,S.fv]
    exact HO7.o
   ·rcases HG.o.on j hj with h1|h1
    ·exact HBl.o j h1
    ·exact .inr (Nat.le_trans hBt6.size h1)
   ·exact HBl.o j hj
  ·obtain rfl:m=n:=by have:=HM.o;omega
   have hd:decide ((m:Int)<(m:Int))=false:=by simp
   clear xs
   go_wp2
   have hw:Below w.heap.size w wr:=ae.below (S:=(·=b0)) HB2.o HBt.o (λj hj=>by have:=HS2.o;omega)
   have ho:=HO.o
   rw [HL.o,List.take_length] at ho
   have hl:=HL.o
   subst hl
   exact bodyPost_ret (v:=.slice a l.length cap) (by simp [results,results70,go_sem]) rfl ⟨a,cap,rfl,ho.mono (by have:=HS2.o;omega),hw⟩
end
section
variable {w w':World}{H:Hd}{s s':aI}{d d':Nat->List K.Pu}{N:Nat->Prop}
structure Ev where
 id:Int
 vs:List Value
 len:Nat
 a:Option Addr
 cap:Nat
def Ev.c (o:Ev):List Value:=[.int .i64 o.id,.slice o.a o.len o.cap]
def sn (Q:List Ev):List Value:=Q.flatMap Ev.c
structure ed (w:World)(base:Nat)(E ty k:Nat)(a:Option Addr)(n cap:Nat)(Q:List Ev):Prop where
 row:Ow w base E 2 a n cap (sn Q)
 len:Q.length=n
 each:∀o∈Q,Ow w base ty k o.a o.len o.cap o.vs
 ap:Q.Pairwise (λo p=>∀j,aD o.a j->¬aD p.a j)
 top:∀o∈Q,∀j,aD o.a j->¬aD a j
variable {base E ty k:Nat}{a:Option Addr}{n cap:Nat}{Q:List Ev}
def ed.B (a:Option Addr)(Q:List Ev)(j:Nat):Prop:=aD a j\/∃o∈Q,aD o.a j
theorem ed.nil (w:World)(base E ty k:Nat):ed w base E ty k none 0 0 []:=⟨Ow.nil _ _ _ _,rfl,λo h=>(by cases h),List.Pairwise.nil,λo h=>(by cases h)⟩
theorem ed.but {S:Nat->Prop}(h:ed w base E ty k a n cap Q)(hb:ae S w w')(hn:∀j,ed.B a Q j->¬S j):ed w' base E ty k a n cap Q :=
 ⟨h.row.but hb (λj hj=>hn j (.inl hj)),h.len,λo ho=>(h.each o ho).but hb (λj hj=>hn j (.inr ⟨o,ho,hj⟩)),h.ap,h.top⟩
theorem ed.later (h:ed w base E ty k a n cap Q)(hb:Below w.heap.size w w'):ed w' base E ty k a n cap Q:=h.but (S:=λ_=>False) (ae.of hb) (λ_ _ h=>h)
theorem ed.mono (h:ed w base E ty k a n cap Q)(hb:b<=base):ed w b E ty k a n cap Q:=⟨h.row.mono hb,h.len,λo ho=>(h.each o ho).mono hb,h.ap,h.top⟩
theorem ed.bD (h:ed w base E ty k a n cap Q):∀j,ed.B a Q j->base<=j/\j<w.heap.size:=λj hj=>by
 rcases hj with hj|⟨o,ho,hj⟩
 ·exact h.row.bD j hj
 ·exact (h.each o ho).bD j hj
theorem ed.snoc (t:TypeId)(z:Value)(au:Nat)(ht:prog.underlying t=some (.slice E))(hinf:(prog.info? E).map (λi=>(i.zero,i.size,i.bytes))=some (some z,2,au))(hzs:z.cells.size=2)(hby:0<au)(hby2:au<=1024)
  {U U':World} (h:ed U base E ty k a n cap Q) (hb:base<=U.heap.size) (hU:Below U.heap.size U U') (o:Ev) (ho:Ow U' U.heap.size ty k o.a o.len o.cap o.vs) (hn:n<=2048) :
  ∃a' c' w3,(Builtin.append_ #[t,t] t #[.slice a n cap,.slice (some ⟨U'.heap.size,0,none⟩) 1 1]).run prog (U'.alloc (Obj.cells o.c.toArray E))=.ok (.slice a' (n+1) c') w3/\ed w3 base E ty k a' (n+1) c' (Q++[o])/\ae (aD a) U w3:=by
 have h':=h.later hU
 have hcr:=Cr.lit U' E o.c (λu hu=>by simp only [Ev.c,List.mem_cons,List.not_mem_nil,or_false] at hu;rcases hu with rfl|rfl<;>rfl)
 obtain⟨a',c',w3,hrun,hO3,hG0⟩:=eY t E z 2 au ht hinf hzs (by omega) hby (h'.row.later (ab U' (Obj.cells o.c.toArray E))) hcr (by have:=hU.size;simp;omega) (by
  have:(n+1)*au<=2049*1024:=Nat.mul_le_mul (by omega) hby2
  omega)
 have hG:=hG0.pre (ab U' (Obj.cells o.c.toArray E))
 have hob:=λj hj=>ho.bD j hj
 have hna:∀j,aD a j->¬aD o.a j:=λj h1 h2=>by have:=(h.row.bD j h1).2;have:=(hob j h2).1;omega
 refine⟨a',c',w3,hrun,⟨?_,by simp [h.len],?_,?_,?_⟩,(ae.of hU).trans hG.but⟩
 ·have e:sn (Q++[o])=sn Q++o.c:=by simp [sn]
  rw [e]
  exact hO3
 ·intro p hp
  rcases List.mem_append.1 hp with hp|hp
  ·exact (h'.each p hp).but hG.but (λj hj hj2=>h.top p hp j hj hj2)
  ·rw [List.mem_singleton.1 hp]
   exact (ho.mono hb).but hG.but (λj hj hj2=>hna j hj2 hj)
 ·rw [List.pairwise_append]
  refine⟨h.ap,List.pairwise_singleton _ _,λp hp q hq j h1 h2=>?_⟩
  rw [List.mem_singleton.1 hq] at h2
  have:=((h.each p hp).bD j h1).2
  have:=(hob j h2).1
  omega
 ·intro p hp j h1 h2
  rcases hG.on j h2 with h3|h3
  ·rcases List.mem_append.1 hp with hp|hp
   ·exact h.top p hp j h1 h3
   ·rw [List.mem_singleton.1 hp] at h1
    exact hna j h3 h1
  ·rcases List.mem_append.1 hp with hp|hp
   ·have:=((h.each p hp).bD j h1).2
    have:=hU.size
    omega
   ·rw [List.mem_singleton.1 hp] at h1
    have:=(hob j h1).2
    omega
theorem Gn:(prog.info? 63).map (λi=>(i.zero,i.size,i.bytes))=some (some (.agg #[.int .i64 0,.slice none 0 0]),2,32):=by kernel_rfl
theorem GL:(prog.info? 59).map (λi=>(i.zero,i.size,i.bytes))=some (some (.agg #[.int .i64 0,.slice none 0 0]),2,32):=by kernel_rfl
end
section
variable {w w':World}{H:Hd}{s s':aI}{d d':Nat->List K.Pu}{N:Nat->Prop}
def Ev.key (o:Ev):Int×List Value×Nat:=(o.id,o.vs,o.len)
def sk (v:Int×List Nat):Int×List Value×Nat:=(v.1,S.aM v.2,v.2.length)
theorem Jk (h:aF w H s d N):s.V.length<=64/\(∀v∈s.V,1<=v.1/\v.1<s.nx/\S.aW v.1/\S.kO s.V v.1=some v.2)/\s.V.Pairwise (λa b=>a.1<b.1):=by
 obtain⟨Os,⟨t,B,hs⟩,hv⟩:=h.st
 have hr:s.V.Pairwise (λa b=>a.1<b.1):=by
  rw [<-hv]
  unfold S.vw
  rw [List.pairwise_map]
  exact hs.iD
 refine⟨by rw [<-hv,S.jL];exact Nat.le_trans hs.rm.1 hs.rm.2,λv hm=>?_,hr⟩
 have hm':=hm
 rw [<-hv] at hm'
 obtain⟨o,ho,rfl⟩:=List.mem_map.1 hm'
 have:=hs.ids o ho
 have:=hs.Hn
 refine⟨by simp only [];omega,by simp only [];omega,by unfold S.aW;simp only [];omega,?_⟩
 simp only [] at hm ⊢
 unfold S.kO
 obtain⟨i,hi,he⟩:=List.getElem_of_mem hm
 have key:s.V.find? (λp=>decide (p.1=o.id))=some (o.id,o.data):=by
  rw [List.find?_eq_some_iff_getElem]
  refine⟨by simp,i,hi,he,λj hj=>?_⟩
  have:=List.pairwise_iff_getElem.1 hr j i (by omega) hi hj
  rw [he] at this
  simp only [] at this
  simp
  omega
 rw [key]
 rfl
def Ig (w1:World)(V:List (Int×List Nat))(v3 v12:Value)(w':World):Prop :=
 ∃(i c:Nat) (a:Option Addr) (Q:List Ev),v3=.slice a i c/\v12=.int .i64 (i:Int)/\i<=V.length/\ed w' w1.heap.size 63 5 1 a i c Q/\Q.map Ev.key=(V.take i).map sk/\Below w1.heap.size w1 w'
theorem qJ (h:aF w H s d N) :
  Calls prog 35 #[.pointer (some ⟨H.kb,0,none⟩)] w λe w'=>∃a c Q,e=.returned (.slice a s.V.length c)/\ed w' w.heap.size 63 5 1 a s.V.length c Q/\Q.map Ev.key=s.V.map sk/\Below w.heap.size w w':=by
 obtain⟨hV1,hV2,hV3⟩:=Jk h
 have HI:=aa (Ht h)
 have x11:=h.kb 11 _ rfl
 have HBy:Hid (∀U,Below w.heap.size w U->∀v∈s.V,Calls prog 70 #[.pointer (some ⟨H.kb,0,none⟩),.int .i64 v.1] U λe w'=>∃a cap,e=.returned (.slice a v.2.length cap)/\Own w' U.heap.size 5 a v.2.length cap (S.aM v.2)/\Below U.heap.size U w'):=λU hU v hv=>jT (h.later hU) (hV2 v hv).2.2.2 (hV2 v hv).2.2.1
 generalize s.V=V at *
 obtain⟨n,hn⟩:∃n,n=V.length:=⟨_,rfl⟩
 have HL:=aa hn
 rw [<-hn] at HI hV1
 rw [<-hn]
 clear h hV2 hV3 hn
 go_enter func35,ntmps35
 go_upto_region 3 with (first|(go_at_call 69;refine HI.o.mono ?_;rintro e w1 ⟨ai,ci,rfl,hoi,hb1⟩;have HB1:=aa hb1;have HOi:=aa hoi;clear hb1 hoi))
 clear x11
 go_loopw [3,12] (Ig w1 V) (λ_ v _=>n - S.ef v)
 case atStart=>exact⟨0,0,none,[],rfl,rfl,Nat.zero_le _,ed.nil _ _ _ _ _,rfl,Below.refl _ _⟩
 case round =>
  obtain⟨i,c,a,Q,rfl,rfl,hi,hT,hQ,hB⟩:=hrel
  rw [<-HL.o] at hi
  have HIn:=aa hi
  have HT:=aa hT
  have HQ:=aa hQ
  have HB:=aa hB
  clear hT hQ hB hi
  by_cases hlt:i<n
  ·have hd:decide ((i:Int)<(n:Int))=true:=dT (by omega)
   obtain⟨v,hv⟩:∃v,V[i]?=some v:=⟨_,gE (by have:=HL.o;omega)⟩
   obtain⟨g,rfl⟩:=HOi.o.form (by omega)
   have y:=(HOi.o.later HB.o).read.cells _ rfl i (.int .i64 v.1) (by simp [ints,hv])
   rw [nj] at y
   have HV:=aa hv
   clear hv
   go_upto_region 5 with fail
   have HBv:=aa (HBy.o wr (al HB1.o HB.o) v (List.mem_of_getElem? HV.o))
   go_wp2_with (first|(go_at_call 70;refine HBv.o.mono ?_;rintro e w6 ⟨a6,c6,rfl,ho6,hb6⟩;have hsn:=ed.snoc 49 _ 32 underlying49 Gn rfl (by decide) (by decide) HT.o HB.o.size hb6 ⟨v.1,S.aM v.2,v.2.length,a6,c6⟩ ho6.row (by omega);obtain⟨a',c',w7,hrun,hT7,hB7⟩:=hsn;simp only [Ev.c] at hrun;have HRUN:=aa hrun;have HT7:=aa hT7;have HB7:=aa hB7;clear hrun hT7 hB7 ho6 hb6)|(at_builtin;refine kt rfl _ _ 49 rfl _ _ rfl rfl _ w7 HRUN.o ?_))
   refine⟨⟨i+1,c',a',_,rfl,rfl,by have:=HL.o;omega,HT7.o,?_,ae.below HB.o HB7.o (λj hj=>(HT.o.row.bD j hj).1)⟩,by simp [S.ef];omega⟩
   rw [List.map_append,HQ.o,List.take_add_one,HV.o]
   simp [sk,Ev.key]
  ·obtain rfl:i=n:=by have:=HIn.o;omega
   have hd:decide ((i:Int)<(i:Int))=false:=by simp
   go_wp2
   have hq:=HQ.o
   rw [HL.o,List.take_length] at hq
   exact bodyPost_ret (v:=.slice a i c) (by simp [results,results35,go_sem]) rfl ⟨a,c,Q,rfl,HT.o.mono HB1.o.size,hq,al HB1.o HB.o⟩
end
section
variable {w w':World}{H:Hd}{s s':aI}{d d':Nat->List K.Pu}{N:Nat->Prop}
def Jm (D:Int->List Cp)(i:Int):Int×List Value×Nat:=(i,az (D i),(D i).length)
def IC (w1:World)(P:List Int)(D:Int->List Cp)(v3 v12:Value)(w':World):Prop :=
 ∃(i c:Nat) (a:Option Addr) (Q:List Ev),v3=.slice a i c/\v12=.int .i64 (i:Int)/\i<=P.length/\ed w' w1.heap.size 59 38 3 a i c Q/\Q.map Ev.key=(P.take i).map (Jm D)/\Below w1.heap.size w1 w'
theorem ni (h:aF w H s d N)(hf:KF H.p s) :
  Calls prog 37 #[.pointer (some ⟨H.kb,0,none⟩)] w λe w'=>∃a c Q,e=.returned (.slice a s.P.length c)/\ed w' w.heap.size 59 38 3 a s.P.length c Q/\Q.map Ev.key=s.P.map (Jm s.D)/\Below w.heap.size w w':=by
 have hP1:s.P.length<=32:=by have:=hf.iv.len;have:=hf.iv.m2;omega
 have HI:=aa (A0 h hf.iv)
 have x14:=h.kb 14 _ rfl
 obtain⟨G,pa,cap,cY,hli,-⟩:=h.li
 have HX:Hid (∀U,Below w.heap.size w U->U.cell? ⟨H.kb,15,none⟩=some (.map (some H.lg))/\∀i∈s.P,(Instr.lookup 85 (.map (some H.lg)) (.int .i64 i) false).run prog U=.ok (.pointer (some ⟨G i,0,none⟩)) U):=λU hU=>by
  refine⟨(h.later hU).kb 15 _ rfl,λi hi=>?_⟩
  exact hli.lu (ae.of (S:=λ_=>False) hU) (λh=>h) (by rw [hf.ks];exact hi) (hf.pF hi)
 have HAl:Hid (∀U,Below w.heap.size w U->∀i∈s.P,Calls prog 73 #[.pointer (some ⟨G i,0,none⟩)] U λe w'=>∃p c,e=.returned (.slice p (s.D i).length c)/\Ow w' U.heap.size 38 3 p (s.D i).length c (az (s.D i))/\Below U.heap.size U w'):=λU hU i hi=>M.ic ((hli.each i (by rw [hf.ks];exact hi)).later hU) (hf.dQ hi)
 generalize s.P=P at *
 generalize s.D=D at *
 obtain⟨n,hn⟩:∃n,n=P.length:=⟨_,rfl⟩
 have HL:=aa hn
 rw [<-hn] at HI hP1
 rw [<-hn]
 clear h hf hn hli
 go_enter func37,ntmps37
 go_upto_region 3 with (first|(go_at_call 72;refine HI.o.mono ?_;rintro e w1 ⟨ai,ci,rfl,hoi,hb1⟩;have HB1:=aa hb1;have HOi:=aa hoi;clear hb1 hoi))
 clear x14
 go_loopw [3,12] (IC w1 P D) (λ_ v _=>n - S.ef v)
 case atStart=>exact⟨0,0,none,[],rfl,rfl,Nat.zero_le _,ed.nil _ _ _ _ _,rfl,Below.refl _ _⟩
 case round =>
  obtain⟨i,c,a,Q,rfl,rfl,hi,hT,hQ,hB⟩:=hrel
  rw [<-HL.o] at hi
  have HIn:=aa hi
  have HT:=aa hT
  have HQ:=aa hQ
  have HB:=aa hB
  clear hT hQ hB hi
  by_cases hlt:i<n
  ·have hd:decide ((i:Int)<(n:Int))=true:=dT (by omega)
   obtain⟨v,hv⟩:∃v,P[i]?=some v:=⟨_,gE (by have:=HL.o;omega)⟩
   obtain⟨g,rfl⟩:=HOi.o.form (by omega)
   have y:=(HOi.o.later HB.o).read.cells _ rfl i (.int .i64 v) (by simp [ints,hv])
   rw [nj] at y
   have HV:=aa hv
   clear hv
   go_upto_region 5 with fail
   have HBv:=aa (HAl.o wr (al HB1.o HB.o) v (List.mem_of_getElem? HV.o))
   have hx:=HX.o wr (al HB1.o HB.o)
   have x15:=hx.1
   have xl:=hx.2 v (List.mem_of_getElem? HV.o)
   clear hx
   go_wp2_with (first|(go_at_call 73;refine HBv.o.mono ?_;rintro e w6 ⟨a6,c6,rfl,ho6,hb6⟩;have hsn:=ed.snoc 51 _ 32 underlying51 GL rfl (by decide) (by decide) HT.o HB.o.size hb6 ⟨v,az (D v),(D v).length,a6,c6⟩ ho6 (by omega);obtain⟨a',c',w7,hrun,hT7,hB7⟩:=hsn;simp only [Ev.c] at hrun;have HRUN:=aa hrun;have HT7:=aa hT7;have HB7:=aa hB7;clear hrun hT7 hB7 ho6 hb6)|(at_builtin;refine kt rfl _ _ 51 rfl _ _ rfl rfl _ w7 HRUN.o ?_))
   refine⟨⟨i+1,c',a',_,rfl,rfl,by have:=HL.o;omega,HT7.o,?_,ae.below HB.o HB7.o (λj hj=>(HT.o.row.bD j hj).1)⟩,by simp [S.ef];omega⟩
   rw [List.map_append,HQ.o,List.take_add_one,HV.o]
   simp [Jm,Ev.key]
  ·obtain rfl:i=n:=by have:=HIn.o;omega
   have hd:decide ((i:Int)<(i:Int))=false:=by simp
   go_wp2
   have hq:=HQ.o
   rw [HL.o,List.take_length] at hq
   exact bodyPost_ret (v:=.slice a i c) (by simp [results,results37,go_sem]) rfl ⟨a,c,Q,rfl,HT.o.mono HB1.o.size,hq,al HB1.o HB.o⟩
end
section
variable {w w':World}{H:Hd}{s s':aI}{d d':Nat->List K.Pu}{N:Nat->Prop}
theorem pA:∀(M:List Tok) (j:Nat) (t:Tok),M[j]?=some t->∀k,k<5->(eF M)[j*5+k]?=(fe t)[k]?
 | [],j,t,h,k,hk=>by simp at h
 | x::M,0,t,h,k,hk=>by
  simp only [List.getElem?_cons_zero,Option.some.injEq] at h
  subst h
  simp only [eF,List.flatMap_cons]
  rw [List.getElem?_append_left (by simp [fe];omega)]
  simp
 | x::M,j+1,t,h,k,hk=>by
  rw [List.getElem?_cons_succ] at h
  have:=pA M j t h k hk
  simp only [eF,List.flatMap_cons] at this ⊢
  rw [List.getElem?_append_right (by simp [fe];omega),<-this]
  congr 1
  simp [fe]
  omega
def vv (b:Nat)(t:Tok):Tok:=(t.1,t.2.1,if t.2.2=-1 then -1 else t.2.2+(b:Int))
def jW (mo:Nat)(X:List Tk)(l:Fo)(acc:List Tok)(id:Int):List Tok:=acc++(pN mo X l id).map (vv acc.length)
def lP (mo:Nat)(X:List Tk)(l:Fo)(ids:List Int):List Tok:=ids.foldl (jW mo X l) []
theorem Cq (mo:Nat)(X:List Tk)(l:Fo)(ids:List Int)(i:Int):lP mo X l (ids++[i])=jW mo X l (lP mo X l ids) i:=by unfold lP;rw [List.foldl_append];rfl
theorem uT {X:List Tk}{l:Fo}(h:Inv m X l)(o:Int):(pN m X l o).length<=m:=by
 unfold pN
 split
 ·rw [e_];exact mL h.ok _ _
 ·simp
theorem vO {m:Nat}{X:List Tk}{l:Fo}(h:Inv m X l):∀ids:List Int,(lP m X l ids).length<=ids.length*m:=by
 intro ids
 unfold lP
 suffices ∀(ids:List Int) (acc:List Tok),(ids.foldl (jW m X l) acc).length<=acc.length+ids.length*m by simpa using this ids []
 intro ids
 induction ids with
 | nil=>simp
 | cons i ids ih =>
  intro acc
  rw [List.foldl_cons]
  refine Nat.le_trans (ih _) ?_
  have:=uT h i
  simp only [jW,List.length_append,List.length_map,List.length_cons,Nat.add_mul,Nat.one_mul]
  omega
theorem EE {X:List Tk}{l:Fo}(h:Inv m X l)(o:Int){t:Tok}(ht:(pN m X l o)[j]?=some t):t.2.2=-1\/(0<=t.2.2/\t.2.2<(j:Int)):=by
 unfold pN at ht
 split at ht
 ·rename_i r hr
  unfold rootOf at hr
  have hm:=List.find?_some hr
  simp only [decide_eq_true_eq] at hm
  have hl:=e_ X l m (G true l r)
  have hj:=(gS.1 ht).1
  have sp:=(qM (X:=X) h.ok hm.1 _ (Nat.le_refl _)).2 j ((G true l r)[j]'(by omega)) (by omega) (gE (by omega))
  rw [List.take_length] at sp
  obtain⟨q,h1,h2⟩:=sp
  rw [ht] at h1
  cases h1
  rcases h2 with ⟨_,h2,_⟩|⟨_,p,h3,h4,_⟩
  ·exact .inl h2
  ·exact .inr ⟨by simp only [];omega,by simp only [];omega⟩
 ·simp at ht
theorem H7 {U U':World}{c:Nat}{L:List Value}(hO:Ow U base 61 5 a n c L)(hb:base<=U.heap.size)(hU:Below U.heap.size U U')(x:Tok)(hn:n<=1048576) :
  ∃a' c' w3,(Builtin.append_ #[50,50] 50 #[.slice a n c,.slice (some ⟨U'.heap.size,0,none⟩) 1 1]).run prog (U'.alloc (Obj.cells (fe x).toArray 61))=.ok (.slice a' (n+1) c') w3/\Ow w3 base 61 5 a' (n+1) c' (L++fe x)/\ae (aD a) U w3/\(∀j,aD a' j->aD a j\/U.heap.size<=j):=by
 have hcr:=Cr.lit U' 61 (fe x) (λu hu=>by simp only [fe,List.mem_cons,List.not_mem_nil,or_false] at hu;rcases hu with rfl|rfl|rfl|rfl|rfl<;>rfl)
 obtain⟨a',c',w3,hrun,hO3,hG0⟩:=eY 50 61 _ 5 40 underlying50 zu rfl (by omega) (by omega) ((hO.later hU).later (ab U' (Obj.cells (fe x).toArray 61))) hcr (by have:=hU.size;simp;omega) (by omega)
 have hG:=hG0.pre (ab U' (Obj.cells (fe x).toArray 61))
 refine⟨a',c',w3,hrun,hO3,(ae.of hU).trans hG.but,λj hj=>?_⟩
 rcases hG.on j hj with h1|h1
 ·exact .inl h1
 ·exact .inr (Nat.le_trans hU.size h1)
theorem Kv (h:aF w H s d N)(o:Int):Calls prog 71 #[.pointer (some ⟨H.A.g,0,none⟩),.int .i64 o] w λe w'=>∃a c,e=.returned (.slice a (pN H.mo s.X s.l o).length c)/\Ow w' w.heap.size 61 5 a (pN H.mo s.X s.l o).length c (eF (pN H.mo s.X s.l o))/\Below w.heap.size w w':=EM h.cat o
def Ja (w1:World)(mo:Nat)(X:List Tk)(l:Fo)(ids:List Int)(v3 v15:Value)(w':World):Prop :=
 ∃(i c:Nat) (a:Option Addr) (L:List Tok),v3=.slice a L.length c/\v15=.int .i64 (i:Int)/\i<=ids.length/\L=lP mo X l (ids.take i)/\Ow w' w1.heap.size 61 5 a L.length c (eF L)/\Below w1.heap.size w1 w'
def IF (w1 w5 w6:World)(L M:List Tok)(v3 v28:Value)(w':World):Prop :=
 ∃(j c:Nat) (a:Option Addr),v3=.slice a (L.length+j) c/\v28=.int .i64 (j:Int)/\j<=M.length/\Ow w' w1.heap.size 61 5 a (L.length+j) c (eF (L++(M.take j).map (vv L.length)))/\(∀k,aD a k->k<w5.heap.size\/w6.heap.size<=k)/\ae (λk=>w1.heap.size<=k/\k<w5.heap.size) w6 w'
theorem tZ (h:aF w H s d N)(hv:Inv H.mo s.X s.l) :
  Calls prog 36 #[.pointer (some ⟨H.kb,0,none⟩)] w λe w'=>∃a c,e=.returned (.slice a (lP H.mo s.X s.l (s.V.map Prod.fst)).length c)/\Ow w' w.heap.size 61 5 a (lP H.mo s.X s.l (s.V.map Prod.fst)).length c (eF (lP H.mo s.X s.l (s.V.map Prod.fst)))/\Below w.heap.size w w':=by
 obtain⟨hV1,hV2,hV3⟩:=Jk h
 have HI:=aa (Ht h)
 have x11:=h.kb 11 _ rfl
 have HX:Hid (∀U,Below w.heap.size w U->U.cell? ⟨H.kb,12,none⟩=some (.pointer (some ⟨H.A.g,0,none⟩))):=λU hU=>(h.later hU).kb 12 _ rfl
 have HOf:=aa (λ(U:World) (hU:Below w.heap.size w U) (o:Int)=>Kv (h.later hU) o)
 have HM:Hid (1<=H.mo/\H.mo<=256):=h.mX
 have HV:=aa hv
 obtain⟨ids,hids⟩:∃ids,ids=s.V.map Prod.fst:=⟨_,rfl⟩
 have hil:ids.length=s.V.length:=by rw [hids];simp
 rw [<-hids] at HI ⊢
 rw [<-hil] at HI hV1
 obtain⟨n,hn⟩:∃n,n=ids.length:=⟨_,rfl⟩
 have HL:=aa hn
 rw [<-hn] at HI hV1
 clear h hV2 hV3 hn hv hil hids
 go_enter func36,ntmps36
 go_upto_region 3 with (first|(go_at_call 69;refine HI.o.mono ?_;rintro e w1 ⟨ai,ci,rfl,hoi,hb1⟩;have HB1:=aa hb1;have HOi:=aa hoi;clear hb1 hoi))
 clear x11
 go_loopw [3,15] (Ja w1 H.mo s.X s.l ids) (λ_ v _=>n - S.ef v)
 case atStart=>exact⟨0,0,none,[],rfl,rfl,Nat.zero_le _,rfl,Ow.nil _ _ _ _,Below.refl _ _⟩
 case round =>
  obtain⟨i,c,a,L,rfl,rfl,hi,hL,hO,hB⟩:=hrel
  rw [<-HL.o] at hi
  have HIn:=aa hi
  have HO:=aa hO
  have HLq:=aa hL
  have HB:=aa hB
  clear hO hL hB hi
  by_cases hlt:i<n
  ·have hd:decide ((i:Int)<(n:Int))=true:=dT (by omega)
   have hLb:L.length<=16384:=by
    have h1:=vO HV.o (ids.take i)
    rw [<-HLq.o,List.length_take] at h1
    have h2:min i ids.length*H.mo<=64*256:=Nat.mul_le_mul (by omega) HM.o.2
    omega
   obtain⟨id,hid_⟩:∃id,ids[i]?=some id:=⟨_,gE (by have:=HL.o;omega)⟩
   obtain⟨g,rfl⟩:=HOi.o.form (by omega)
   have y:=(HOi.o.later HB.o).read.cells _ rfl i (.int .i64 id) (by simp [ints,hid_])
   rw [nj] at y
   have HIa:=aa hid_
   clear hid_
   obtain⟨w5,rfl⟩:∃w5,w5=wr:=⟨_,rfl⟩
   obtain⟨M,hM⟩:∃M,M=pN H.mo s.X s.l id:=⟨_,rfl⟩
   have hMl:M.length<=256:=by rw [hM];exact Nat.le_trans (uT HV.o id) HM.o.2
   have HOv:=aa (HOf.o w5 (al HB1.o HB.o) id)
   rw [<-hM] at HOv
   have HMe:=aa hM
   have HPa:Hid (∀(j:Nat) t,M[j]?=some t->t.2.2=-1\/(0<=t.2.2/\t.2.2<(j:Int))):=λj t ht=>by rw [hM] at ht;exact EE HV.o id ht
   obtain⟨ml,hml⟩:∃ml,ml=M.length:=⟨_,rfl⟩
   have HMl:=aa hml
   obtain⟨ll,hll⟩:∃ll,ll=L.length:=⟨_,rfl⟩
   have HLl:=aa hll
   rw [<-hml] at HOv hMl
   rw [<-hll] at HO hLb
   rw [<-hll]
   have x12:=HX.o w5 (al HB1.o HB.o)
   clear hM hml hll
   go_upto_region 7 with (first|(go_at_call 71;refine HOv.o.mono ?_;rintro e w6 ⟨am,cm,rfl,hom,hb6⟩;have HOm:=aa hom;have HB6:=aa hb6;clear hom hb6))
   clear x12 y
   go_loopw [3,28] (IF w1 w5 w6 L M) (λ_ v _=>ml - S.ef v)
   case atStart=>exact⟨0,c,a,by rw [HLl.o];rfl,rfl,Nat.zero_le _,by rw [<-HLl.o];simpa using HO.o.later HB6.o,λk hk=>.inl (HO.o.bD k hk).2,ae.refl _ _⟩
   case round =>
    obtain⟨j,c2,a2,rfl,rfl,hj,hO2,hBl,hBt⟩:=hrel
    rw [<-HMl.o] at hj
    have HJn:=aa hj
    have HO2:=aa hO2
    have HBl:=aa hBl
    have HBt:=aa hBt
    clear hj hO2 hBl hBt
    by_cases hjt:j<ml
    ·have hd2:decide ((j:Int)<(ml:Int))=true:=dT (by omega)
     obtain⟨t,ht⟩:∃t,M[j]?=some t:=⟨_,gE (by have:=HMl.o;omega)⟩
     have hpa:=HPa.o j t ht
     have hOr:=HOm.o.but HBt.o (λk hk e=>by have:=(HOm.o.bD k hk).1;omega)
     obtain⟨gm,rfl,hat⟩:=Ow.at_ hOr (by omega)
     obtain⟨⟨tb,th,tl⟩,tr,tq⟩:=t
     have hta:=pA M j _ ht
     have x0:=hat (j*5) _ (hta 0 (by omega))
     have x1:=hat (j*5+1) _ (hta 1 (by omega))
     have x2:=hat (j*5+2) _ (hta 2 (by omega))
     have x3:=hat (j*5+3) _ (hta 3 (by omega))
     have x4:=hat (j*5+4) _ (hta 4 (by omega))
     simp only [] at x0 x1 x2 x3 x4 hpa
     have HTj:=aa ht
     have HPq:=aa hpa
     clear hat hta ht hOr hpa
     obtain⟨w2,hw2⟩:∃w2,w2=wr.alloc (Obj.cells #[.int .i64 tb,.int .u64 (th:Int),.int .u64 (tl:Int),.int .i64 tr,.int .i64 tq] 61):=⟨_,rfl⟩
     have HB2:Hid (Below wr.heap.size wr w2):=by rw [hw2];exact ab _ _
     go_upto_region 9 with fail
     rw [<-hw2]
     have y0:w2.cell? ⟨wr.heap.size,0,none⟩=some (.int .i64 tb):=by rw [hw2];simp [go_sem]
     have y1:w2.cell? ⟨wr.heap.size,1,none⟩=some (.int .u64 (th:Int)):=by rw [hw2];simp [go_sem]
     have y2:w2.cell? ⟨wr.heap.size,2,none⟩=some (.int .u64 (tl:Int)):=by rw [hw2];simp [go_sem]
     have y3:w2.cell? ⟨wr.heap.size,3,none⟩=some (.int .i64 tr):=by rw [hw2];simp [go_sem]
     have y4:w2.cell? ⟨wr.heap.size,4,none⟩=some (.int .i64 tq):=by rw [hw2];simp [go_sem]
     have y5:w2.frozen? ⟨wr.heap.size,4,none⟩=false:=by rw [hw2];simp [go_sem]
     clear hw2 x0 x1 x2 x3 x4
     by_cases hq:tq=-1
     ·subst hq
      obtain⟨a',c',w7,hrun,hO7,hB7,hA7⟩:=H7 HO2.o (by have:=HBt.o.size;have:=HB6.o.size;have:=HB.o.size;omega) HB2.o ((tb,th,tl),tr,-1) (by have:=HLl.o;omega)
      simp only [fe] at hrun
      have HRUN:=aa hrun
      have HO7:=aa hO7
      have HB7:=aa hB7
      have HA7:=aa hA7
      clear hrun hO7 hB7 hA7
      go_wp2_with (first|(at_builtin;refine kt rfl _ _ 50 rfl _ _ rfl rfl _ w7 HRUN.o ?_))
      have hsz:=HBt.o.size
      refine⟨⟨j+1,c',a',rfl,rfl,by have:=HMl.o;omega,?_,λk hk=>?_,HBt.o.comp HB7.o (λk hk=>?_)⟩,by simp [S.ef];omega⟩
      ·have e:eF (L++(M.take (j+1)).map (vv L.length))=eF (L++(M.take j).map (vv L.length))++fe ((tb,th,tl),tr,-1):=by
        rw [List.take_add_one,HTj.o,List.map_append,<-List.append_assoc]
        simp only [Option.toList,List.map_cons,List.map_nil]
        rw [jO]
        simp [vv,HLl.o]
       rw [e]
       exact HO7.o
      ·rcases HA7.o k hk with h1|h1
       ·exact HBl.o k h1
       ·exact .inr (by omega)
      ·rcases HBl.o k hk with h1|h1
       ·exact .inl ⟨(HO2.o.bD k hk).1,h1⟩
       ·exact .inr h1
     ·have hq1:0<=tq/\tq<256:=by rcases HPq.o with h|h<;>omega
      obtain⟨hq2,hq3⟩:=hq1
      have hqd:decide (tq=-1)=false:=dF hq
      go_upto_region 11 with fail
      obtain⟨w3,hw3⟩:∃w3,w3=w2.setCell ⟨wr.heap.size,4,none⟩ (.int .i64 (tq+(ll:Int))):=⟨_,rfl⟩
      have HB3:Hid (Below wr.heap.size wr w3):=by
       rw [hw3]
       exact ae.below HB2.o (ae.own (g:=wr.heap.size) (ae.refl _ _) 4 _) (λk e=>by omega)
      have z0:w3.cell? ⟨wr.heap.size,0,none⟩=some (.int .i64 tb):=by rw [hw3];simp [go_sem,y0]
      have z1:w3.cell? ⟨wr.heap.size,1,none⟩=some (.int .u64 (th:Int)):=by rw [hw3];simp [go_sem,y1]
      have z2:w3.cell? ⟨wr.heap.size,2,none⟩=some (.int .u64 (tl:Int)):=by rw [hw3];simp [go_sem,y2]
      have z3:w3.cell? ⟨wr.heap.size,3,none⟩=some (.int .i64 tr):=by rw [hw3];simp [go_sem,y3]
      have z4:w3.cell? ⟨wr.heap.size,4,none⟩=some (.int .i64 (tq+(ll:Int))):=by rw [hw3];simp [go_sem,y4,y5]
      rw [<-hw3]
      clear hw3 y0 y1 y2 y3 y4 y5
      obtain⟨a',c',w7,hrun,hO7,hB7,hA7⟩:=H7 HO2.o (by have:=HBt.o.size;have:=HB6.o.size;have:=HB.o.size;omega) HB3.o ((tb,th,tl),tr,tq+(ll:Int)) (by have:=HLl.o;omega)
      simp only [fe] at hrun
      have HRUN:=aa hrun
      have HO7:=aa hO7
      have HB7:=aa hB7
      have HA7:=aa hA7
      clear hrun hO7 hB7 hA7
      go_wp2_with (first|(at_builtin;refine kt rfl _ _ 50 rfl _ _ rfl rfl _ w7 HRUN.o ?_))
      have hsz:=HBt.o.size
      refine⟨⟨j+1,c',a',rfl,rfl,by have:=HMl.o;omega,?_,λk hk=>?_,HBt.o.comp HB7.o (λk hk=>?_)⟩,by simp [S.ef];omega⟩
      ·have e:eF (L++(M.take (j+1)).map (vv L.length))=eF (L++(M.take j).map (vv L.length))++fe ((tb,th,tl),tr,tq+(ll:Int)):=by
        rw [List.take_add_one,HTj.o,List.map_append,<-List.append_assoc]
        simp only [Option.toList,List.map_cons,List.map_nil]
        rw [jO]
        simp [vv,hq,HLl.o]
       rw [e]
       exact HO7.o
      ·rcases HA7.o k hk with h1|h1
       ·exact HBl.o k h1
       ·exact .inr (by omega)
      ·rcases HBl.o k hk with h1|h1
       ·exact .inl ⟨(HO2.o.bD k hk).1,h1⟩
       ·exact .inr h1
    ·obtain rfl:j=ml:=by have:=HJn.o;omega
     have hd2:decide ((j:Int)<(j:Int))=false:=by simp
     go_wp2
     have hL':L++M.map (vv L.length)=lP H.mo s.X s.l (ids.take (i+1)):=by
      rw [List.take_add_one,HIa.o]
      show _=lP _ _ _ (ids.take i++[id])
      rw [Cq,<-HLq.o,jW,<-HMe.o]
     have hO:=HO2.o
     rw [HMl.o,List.take_length] at hO
     refine⟨⟨i+1,c2,a2,L++M.map (vv L.length),by simp [HMl.o],rfl,by have:=HL.o;omega,hL',by simpa using hO,ae.below (al HB.o HB6.o) HBt.o (λk hk=>hk.1)⟩,by simp [S.ef];omega⟩
  ·obtain rfl:i=n:=by have:=HIn.o;omega
   have hd:decide ((i:Int)<(i:Int))=false:=by simp
   go_wp2
   have hq:=HLq.o
   rw [HL.o,List.take_length] at hq
   rw [<-hq]
   exact bodyPost_ret (v:=.slice a L.length c) (by simp [results,results36,go_sem]) rfl ⟨a,c,rfl,HO.o.mono HB1.o.size,al HB1.o HB.o⟩
end
end Go.Proofs.YtfmhdimaijimlaaGreatDoor.V
