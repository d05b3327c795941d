import Derived.Test.YtfmhdimaijimlaaGreatDoorZNG
set_option linter.all false
set_option maxRecDepth 1000000
set_option maxHeartbeats 8000000
open Go.Proofs.Tryz
variable {w w' w1 w2:Go.World}{n m k i j b g base kn:Nat}{a:Option Go.Addr}
namespace Go.Proofs.YtfmhdimaijimlaaGreatDoor.V
open Go.RowKit
open Go.Proofs.YtfmhdimaijimlaaGreatDoor.H (ak Cp)
open Go.Proofs.YtfmhdimaijimlaaGreatDoor.M (bh)
section
variable {w w':World}
theorem make_words (w:World)(n:Nat)(hn:n<=4200):∃w',(Instr.makeSlice 28 (.int .i64 (n:Int)) (.int .i64 (n:Int))).run prog w=.ok (.slice (some ⟨w.heap.size,0,none⟩) n n) w'/\D.Ws w' (some ⟨w.heap.size,0,none⟩) n n (λ_=>0)/\Below w.heap.size w w':=by
 obtain⟨i,hi,hz0,hz1,hz2⟩:=info_parts D.tQ
 obtain⟨w',hr,ho,hg⟩:=run_make_full (P:=prog) w w.heap.size 28 31 i _ 2 underlying28 hi hz0 hz1 .i64 .i64 n (by rw [hz2];omega) (by unfold maxLen;omega) (Nat.le_refl _)
 have e:(madeCells (Value.agg #[.int .u64 0,.int .u64 0]).cells (n*2)).toList=D.pT (λ_=>0) n:=by
  apply List.ext_getElem?
  intro j
  by_cases hj:j<n*2
  ·have hq:=D.fH (λ_=>0) n (j / 2) (j%2) (by omega) (by omega)
   have hjj:j / 2*2+j%2=j:=by omega
   rw [hjj] at hq
   rw [hq]
   rcases Nat.mod_two_eq_zero_or_one j with e|e
   ·simp [madeCells,hj,Value.cells,e,D.yo,D.jj,D.iQ]
   ·simp [madeCells,hj,Value.cells,e,D.yo,D.jj,D.iQ]
  ·rw [List.getElem?_eq_none (by simp [madeCells];omega),List.getElem?_eq_none (by rw [D.bN];omega)]
 rw [e] at ho
 have hO:Ow w' w.heap.size 31 2 (some ⟨w.heap.size,0,none⟩) n n (D.pT (λ_=>0) n):=ho
 refine⟨w',hr,⟨Nat.le_refl _,λh=>(by cases h),λx hx j u hu=>?_,λi=>by decide⟩,(Below.refl _ _).grown hg (Nat.le_refl _) (λk hk=>by cases hk)⟩
 have h0:0<n:=by
  have:=(gS.1 hu).1
  rw [D.bN] at this
  omega
 obtain⟨b,h1,h2⟩:=Ow.at_ hO h0
 rw [h1] at hx
 cases hx
 rw [nj]
 exact h2 j u hu
def p0:Ps:=⟨[],[],[(0,[])],1,1,0⟩
theorem p0_small:p0.Small:=⟨by decide,by decide,by decide,λv h=>(by cases h),λv h=>by
 obtain rfl:=List.mem_singleton.1 h
 decide⟩
theorem news_bad (c:Cf)(n:Int)(k:Nat)(hnk:n%4200=(k:Int))(hk0:k<4200)(hm:c.may=false)(hl:D.Laid w)(h0:0<w.heap.size) :
  Calls prog 7 #[c.v,.int .i64 n] w λe w'=>e=.returned (.bool true)/\Below w.heap.size w w':=by
 obtain⟨W,hW⟩:∃W,W=w.alloc (Obj.cells c.L.toArray 23):=⟨_,rfl⟩
 have HB:Hid (Below w.heap.size w W):=by rw [hW];exact ab _ _
 have HX:Hid (R.Bx W w.heap.size c.L):=by rw [hW];exact R.Bx.new w _ _
 have HSx:Hid (∀U,Below W.heap.size W U->R.Bx U w.heap.size c.L):=λU hU=>R.Bx.later hU HX.o
 have HBe:=aa (vZ n 4200 (by decide) (by decide) W)
 rw [hnk] at HBe
 obtain⟨w4,hmk,hws,hb4⟩:=make_words W.drew k (by omega)
 have HWs:=aa hws
 have HB4:Hid (Below W.heap.size W w4):=al (Below.refl _ _).drew hb4
 have HM:=aa hm
 have HLa:=aa hl
 have HP:=aa h0
 have HW:=aa hW
 have HMk:=aa hmk
 have HMay:=aa (λU=>rmay_any c U)
 have HNew:=aa (new_bad c hm (some ⟨W.drew.heap.size,0,none⟩) k k w4)
 clear hm hl h0 hW hmk hws hb4 hnk
 go_enter func7,ntmps7
 go_upto_region 1 with fail
 have hW:=HW.o
 rw [<-hW]
 clear hW HW
 go_upto_region 2 with (first|(go_at_call 10;refine HBe.o.mono ?_;rintro e w_ ⟨rfl,hw_⟩;obtain rfl:=hw_.symm;clear hw_))
 have hmk:=HMk.o
 refine wp_region_held_drew (S:=(λU:World=>R.Bx U w.heap.size c.L)) (by kernel_rfl) (HSx.o _ (Below.refl _ _).drew) (λhHeld=>?_)
 refine nH (bm 9 0) 9 ?_
 refine tH 0 (v:=c.v) rfl (λ_ _ _ h=>h) ?_ ?_
 ·(intro w hSw;(try dsimp only at hSw);exact K.eI rfl rfl (Jo hSw))
 try simp only [gz,Act.put]
 refine nH (bm 9 1) 8 ?_
 refine tH 1 (v:=?_) rfl (λ_ _ _ h=>h) ?_ ?_;rotate_left
 ·(intro w hSw;(try dsimp only at hSw);go_simp;try with_reducible rfl)
 try simp only [gz,Act.put]
 refine nH (bm 9 3) 7 ?_
 refine yH [2] ?_
 refine cH rfl λK hK=>?_
 go_simp
 refine hK.out _ _ (HSx.o _ HB4.o) (λhHeld=>?_)
 clear hK K
 try simp only [gz,Act.put]
 refine nH (bm 9 7) 6 ?_
 refine yH [3] ?_
 refine cH rfl λK hK=>?_
 go_simp
 go_wp2_with (first|(go_at_call 11;refine HNew.o.mono ?_;rintro e w5 ⟨rfl,hb5⟩;have HB5:Hid (Below W.heap.size W w5):=al HB4.o hb5;clear hb5))
 refine hK.out _ _ (HSx.o _ HB5.o) (λhHeld=>?_)
 clear hK K
 try simp only [gz,Act.put]
 refine nH (bm 9 15) 5 ?_
 refine tH 4 (v:=?_) rfl (λ_ _ _ h=>h) ?_ ?_;rotate_left
 ·(intro w hSw;(try dsimp only at hSw);go_simp;try with_reducible rfl)
 try simp only [gz,Act.put]
 refine nH (bm 9 31) 4 ?_
 refine tH 5 (v:=?_) rfl (λ_ _ _ h=>h) ?_ ?_;rotate_left
 ·(intro w hSw;(try dsimp only at hSw);go_simp;try with_reducible rfl)
 try simp only [gz,Act.put]
 refine nH (bm 9 63) 3 ?_
 refine tH 6 (v:=?_) rfl (λ_ _ _ h=>h) ?_ ?_;rotate_left
 ·(intro w hSw;(try dsimp only at hSw);go_simp;try with_reducible rfl)
 try simp only [gz,Act.put]
 refine nH (bm 9 127) 2 ?_
 refine tH 7 (v:=?_) rfl (λ_ _ _ h=>h) ?_ ?_;rotate_left
 ·(intro w hSw;(try dsimp only at hSw);go_simp;try with_reducible rfl)
 try simp only [gz,Act.put]
 refine nH (bm 9 255) 1 ?_
 refine tH 8 (v:=?_) rfl (λ_ _ _ h=>h) ?_ ?_;rotate_left
 ·(intro w hSw;(try dsimp only at hSw);go_simp;try with_reducible rfl)
 try simp only [gz,Act.put]
 refine nH (bm 9 511) 0 ?_
 refine wpAnyH_done (by kernel_rfl) ?_ _
 have HEx:=aa (qV (cell_later (al HB.o HB5.o) HLa.o) (by have:=HP.o;have:=(al HB.o HB5.o).size;omega))
 clear HMk HNew HBe hmk
 go_upto_region 5 with (first|(go_at_call 12;refine HEx.o.mono ?_;rintro e w6 ⟨rfl,hb6⟩;have HB6:Hid (Below W.heap.size W w6):=al HB5.o hb6;clear hb6))
 have HLd:=aa (Jo (HSx.o w6 HB6.o))
 have HMy:=aa (HMay.o w6)
 rw [HM.o] at HMy
 clear HEx
 go_wp2_with (first|((with_reducible refine R.aP HLd.o ?_ ?_);(· rfl))|(go_at_call 21;refine HMy.o.mono ?_;rintro e w7 ⟨rfl,hb7⟩;have HB7:Hid (Below W.heap.size W w7):=al HB6.o hb7;clear hb7))
 go_ret
 exact⟨cW rfl,al HB.o HB7.o⟩
theorem news_many (c:Cf)(n:Int)(k:Nat)(hnk:n%4200=(k:Int))(hk0:k<4200)(hm:c.may=true)(hk:4096<k)(hl:D.Laid w)(h0:0<w.heap.size) :
  Calls prog 7 #[c.v,.int .i64 n] w λe w'=>e=.returned (.bool true)/\Below w.heap.size w w':=by
 obtain⟨W,hW⟩:∃W,W=w.alloc (Obj.cells c.L.toArray 23):=⟨_,rfl⟩
 have HB:Hid (Below w.heap.size w W):=by rw [hW];exact ab _ _
 have HX:Hid (R.Bx W w.heap.size c.L):=by rw [hW];exact R.Bx.new w _ _
 have HSx:Hid (∀U,Below W.heap.size W U->R.Bx U w.heap.size c.L):=λU hU=>R.Bx.later hU HX.o
 have HBe:=aa (vZ n 4200 (by decide) (by decide) W)
 rw [hnk] at HBe
 obtain⟨w4,hmk,hws,hb4⟩:=make_words W.drew k (by omega)
 have HWs:=aa hws
 have HB4:Hid (Below W.heap.size W w4):=al (Below.refl _ _).drew hb4
 have HM:=aa hm
 have HLa:=aa hl
 have HP:=aa h0
 have HW:=aa hW
 have HMk:=aa hmk
 have HMay:=aa (λU=>rmay_any c U)
 have HNew:=aa (new_many c hm (some ⟨W.drew.heap.size,0,none⟩) k k w4 hk)
 have hd:decide ((k:Int)>4096)=true:=dT (by omega)
 have hd2:decide ((4096:Int)<(k:Int))=true:=dT (by omega)
 clear hm hl h0 hW hmk hws hb4 hnk hk
 go_enter func7,ntmps7
 go_upto_region 1 with fail
 have hW:=HW.o
 rw [<-hW]
 clear hW HW
 go_upto_region 2 with (first|(go_at_call 10;refine HBe.o.mono ?_;rintro e w_ ⟨rfl,hw_⟩;obtain rfl:=hw_.symm;clear hw_))
 have hmk:=HMk.o
 refine wp_region_held_drew (S:=(λU:World=>R.Bx U w.heap.size c.L)) (by kernel_rfl) (HSx.o _ (Below.refl _ _).drew) (λhHeld=>?_)
 refine nH (bm 9 0) 9 ?_
 refine tH 0 (v:=c.v) rfl (λ_ _ _ h=>h) ?_ ?_
 ·(intro w hSw;(try dsimp only at hSw);exact K.eI rfl rfl (Jo hSw))
 try simp only [gz,Act.put]
 refine nH (bm 9 1) 8 ?_
 refine tH 1 (v:=?_) rfl (λ_ _ _ h=>h) ?_ ?_;rotate_left
 ·(intro w hSw;(try dsimp only at hSw);go_simp;try with_reducible rfl)
 try simp only [gz,Act.put]
 refine nH (bm 9 3) 7 ?_
 refine yH [2] ?_
 refine cH rfl λK hK=>?_
 go_simp
 refine hK.out _ _ (HSx.o _ HB4.o) (λhHeld=>?_)
 clear hK K
 try simp only [gz,Act.put]
 refine nH (bm 9 7) 6 ?_
 refine yH [3] ?_
 refine cH rfl λK hK=>?_
 go_simp
 go_wp2_with (first|(go_at_call 11;refine HNew.o.mono ?_;rintro e w5 ⟨rfl,hb5⟩;have HB5:Hid (Below W.heap.size W w5):=al HB4.o hb5;clear hb5))
 refine hK.out _ _ (HSx.o _ HB5.o) (λhHeld=>?_)
 clear hK K
 try simp only [gz,Act.put]
 refine nH (bm 9 15) 5 ?_
 refine tH 4 (v:=?_) rfl (λ_ _ _ h=>h) ?_ ?_;rotate_left
 ·(intro w hSw;(try dsimp only at hSw);go_simp;try with_reducible rfl)
 try simp only [gz,Act.put]
 refine nH (bm 9 31) 4 ?_
 refine tH 5 (v:=?_) rfl (λ_ _ _ h=>h) ?_ ?_;rotate_left
 ·(intro w hSw;(try dsimp only at hSw);go_simp;try with_reducible rfl)
 try simp only [gz,Act.put]
 refine nH (bm 9 63) 3 ?_
 refine tH 6 (v:=?_) rfl (λ_ _ _ h=>h) ?_ ?_;rotate_left
 ·(intro w hSw;(try dsimp only at hSw);go_simp;try with_reducible rfl)
 try simp only [gz,Act.put]
 refine nH (bm 9 127) 2 ?_
 refine tH 7 (v:=?_) rfl (λ_ _ _ h=>h) ?_ ?_;rotate_left
 ·(intro w hSw;(try dsimp only at hSw);go_simp;try with_reducible rfl)
 try simp only [gz,Act.put]
 refine nH (bm 9 255) 1 ?_
 refine tH 8 (v:=?_) rfl (λ_ _ _ h=>h) ?_ ?_;rotate_left
 ·(intro w hSw;(try dsimp only at hSw);go_simp;try with_reducible rfl)
 try simp only [gz,Act.put]
 refine nH (bm 9 511) 0 ?_
 refine wpAnyH_done (by kernel_rfl) ?_ _
 have HEx:=aa (qV (cell_later (al HB.o HB5.o) HLa.o) (by have:=HP.o;have:=(al HB.o HB5.o).size;omega))
 clear HMk HNew HBe hmk
 go_upto_region 5 with (first|(go_at_call 12;refine HEx.o.mono ?_;rintro e w6 ⟨rfl,hb6⟩;have HB6:Hid (Below W.heap.size W w6):=al HB5.o hb6;clear hb6))
 have HLd:=aa (Jo (HSx.o w6 HB6.o))
 have HMy:=aa (HMay.o w6)
 rw [HM.o] at HMy
 clear HEx
 go_wp2_with (first|((with_reducible refine R.aP HLd.o ?_ ?_);(· rfl))|(go_at_call 21;refine HMy.o.mono ?_;rintro e w7 ⟨rfl,hb7⟩;have HB7:Hid (Below W.heap.size W w7):=al HB6.o hb7;clear hb7))
 go_ret
 exact⟨cW rfl,al HB.o HB7.o⟩
end
section
variable {w w':World}
theorem news_ok (c:Cf)(n:Int)(k:Nat)(hnk:n%4200=(k:Int))(hk0:k<4200)(hm:c.may=true)(hk:k<=4096)(hl:D.Laid w)(h0:0<w.heap.size) :
  Calls prog 7 #[c.v,.int .i64 n] w λe w'=>e=.returned (.bool true)/\Below w.heap.size w w':=by
 obtain⟨W,hW⟩:∃W,W=w.alloc (Obj.cells c.L.toArray 23):=⟨_,rfl⟩
 have HB:Hid (Below w.heap.size w W):=by rw [hW];exact ab _ _
 have HX:Hid (R.Bx W w.heap.size c.L):=by rw [hW];exact R.Bx.new w _ _
 have HSx:Hid (∀U,Below W.heap.size W U->R.Bx U w.heap.size c.L):=λU hU=>R.Bx.later hU HX.o
 have HBe:=aa (vZ n 4200 (by decide) (by decide) W)
 rw [hnk] at HBe
 obtain⟨w4,hmk,hws,hb4⟩:=make_words W.drew k (by omega)
 have HWs:=aa hws
 have HB4:Hid (Below W.heap.size W w4):=al (Below.refl _ _).drew hb4
 have HM:=aa hm
 have HLa:=aa hl
 have HP:=aa h0
 have HW:=aa hW
 have HMk:=aa hmk
 have HMay:=aa (λU=>rmay_any c U)
 have HNew:=aa (bE c hm (some ⟨W.drew.heap.size,0,none⟩) k k (λ_=>0) w4 hws hk (cell_later (al HB.o HB4.o) hl) (by have:=(al HB.o HB4.o).size;omega))
 have hd:decide ((k:Int)>4096)=false:=dF (by omega)
 have hd2:decide ((4096:Int)<(k:Int))=false:=dF (by omega)
 clear hm hl h0 hW hmk hws hb4 hnk hk
 go_enter func7,ntmps7
 go_upto_region 1 with fail
 have hW:=HW.o
 rw [<-hW]
 clear hW HW
 go_upto_region 2 with (first|(go_at_call 10;refine HBe.o.mono ?_;rintro e w_ ⟨rfl,hw_⟩;obtain rfl:=hw_.symm;clear hw_))
 have hmk:=HMk.o
 refine wp_region_held_drew (S:=(λU:World=>R.Bx U w.heap.size c.L)) (by kernel_rfl) (HSx.o _ (Below.refl _ _).drew) (λhHeld=>?_)
 refine nH (bm 9 0) 9 ?_
 refine tH 0 (v:=c.v) rfl (λ_ _ _ h=>h) ?_ ?_
 ·(intro w hSw;(try dsimp only at hSw);exact K.eI rfl rfl (Jo hSw))
 try simp only [gz,Act.put]
 refine nH (bm 9 1) 8 ?_
 refine tH 1 (v:=?_) rfl (λ_ _ _ h=>h) ?_ ?_;rotate_left
 ·(intro w hSw;(try dsimp only at hSw);go_simp;try with_reducible rfl)
 try simp only [gz,Act.put]
 refine nH (bm 9 3) 7 ?_
 refine yH [2] ?_
 refine cH rfl λK hK=>?_
 go_simp
 refine hK.out _ _ (HSx.o _ HB4.o) (λhHeld=>?_)
 clear hK K
 try simp only [gz,Act.put]
 refine nH (bm 9 7) 6 ?_
 refine yH [3] ?_
 refine cH rfl λK hK=>?_
 go_simp
 go_wp2_with (first|(go_at_call 11;refine HNew.o.mono ?_;rintro e w5 ⟨H,N,rfl,hkn,-,hcf,-,hb5⟩;have HK:=aa hkn;have HCf:=aa hcf;clear hkn hcf;have HB5:Hid (Below W.heap.size W w5):=al HB4.o hb5;clear hb5))
 refine hK.out _ _ (HSx.o _ HB5.o) (λhHeld=>?_)
 clear hK K
 try simp only [gz,Act.put]
 refine nH (bm 9 15) 5 ?_
 refine tH 4 (v:=?_) rfl (λ_ _ _ h=>h) ?_ ?_;rotate_left
 ·(intro w hSw;(try dsimp only at hSw);go_simp;try with_reducible rfl)
 try simp only [gz,Act.put]
 refine nH (bm 9 31) 4 ?_
 refine tH 5 (v:=?_) rfl (λ_ _ _ h=>h) ?_ ?_;rotate_left
 ·(intro w hSw;(try dsimp only at hSw);go_simp;try with_reducible rfl)
 try simp only [gz,Act.put]
 refine nH (bm 9 63) 3 ?_
 refine tH 6 (v:=?_) rfl (λ_ _ _ h=>h) ?_ ?_;rotate_left
 ·(intro w hSw;(try dsimp only at hSw);go_simp;try with_reducible rfl)
 try simp only [gz,Act.put]
 refine nH (bm 9 127) 2 ?_
 refine tH 7 (v:=?_) rfl (λ_ _ _ h=>h) ?_ ?_;rotate_left
 ·(intro w hSw;(try dsimp only at hSw);go_simp;try with_reducible rfl)
 try simp only [gz,Act.put]
 refine nH (bm 9 255) 1 ?_
 refine tH 8 (v:=?_) rfl (λ_ _ _ h=>h) ?_ ?_;rotate_left
 ·(intro w hSw;(try dsimp only at hSw);go_simp;try with_reducible rfl)
 try simp only [gz,Act.put]
 refine nH (bm 9 511) 0 ?_
 refine wpAnyH_done (by kernel_rfl) ?_ _
 have HEx:=aa (qV (cell_later (al HB.o HB5.o) HLa.o) (by have:=HP.o;have:=(al HB.o HB5.o).size;omega))
 clear HMk HNew HBe hmk
 go_upto_region 5 with (first|(go_at_call 12;refine HEx.o.mono ?_;rintro e w6 ⟨rfl,hb6⟩;have HB6:Hid (Below W.heap.size W w6):=al HB5.o hb6;have HK6:=aa (HK.o.later hb6);clear hb6))
 have HLd:=aa (Jo (HSx.o w6 HB6.o))
 have HMy:=aa (HMay.o w6)
 rw [HM.o] at HMy
 clear HEx
 have HK7:Hid (∀U,Below w6.heap.size w6 U->Kn U H (wQ c.m.toNat [0]) N):=λU hU=>HK6.o.later hU
 go_upto_region 9 with (first|((with_reducible refine R.aP HLd.o ?_ ?_);(· rfl))|(go_at_call 21;refine HMy.o.mono ?_;rintro e w7 ⟨rfl,hb7⟩;have HB67:Hid (Below w6.heap.size w6 w7):=hb7;have HB7:Hid (Below W.heap.size W w7):=al HB6.o hb7;clear hb7))
 have HSy:Hid (∀U,Below w7.heap.size w7 U->R.Bx U w.heap.size c.L):=λU hU=>HSx.o U (al HB7.o hU)
 have HSt:Hid (Calls prog 17 #[.pointer (some ⟨H.kb,0,none⟩)] w7.drew (oO w7.drew p0)):=by
  obtain⟨d,hdd,ht,hf,_⟩:=HK7.o w7.drew (al HB67.o (Below.refl _ _).drew)
  exact j8 hdd hf
 have HNw:=aa (λU=>rnew_any c U)
 have HRs:Hid (∀U b g,M0 U c b g->Calls prog 23 #[.pointer (some ⟨b,0,none⟩)] U (oO U p0)):=λU b g h=>rstate_new h
 have HCo:Hid (∀U,Below w7.heap.size w7 U->Calls prog 24 #[.pointer (some ⟨H.kb,0,none⟩)] U λe w'=>e=.returned c.v/\Below U.heap.size U w'):=λU hU=>kconf_any (HK7.o U (al HB67.o hU)) HCf.o
 clear HMy HLd HK HK6 HMay
 refine wp_region_held_drew (S:=(λU:World=>R.Bx U w.heap.size c.L)) (by kernel_rfl) (HSy.o _ (Below.refl _ _).drew) (λhHeld=>?_)
 refine nH (bm 21 0) 21 ?_
 refine tH 0 (v:=?_) rfl (λ_ _ _ h=>h) ?_ ?_;rotate_left
 ·(intro w hSw;(try dsimp only at hSw);go_simp;try with_reducible rfl)
 try simp only [gz,Act.put]
 refine nH (bm 21 1) 20 ?_
 refine tH 1 (v:=?_) rfl (λ_ _ _ h=>h) ?_ ?_;rotate_left
 ·(intro w hSw;(try dsimp only at hSw);go_simp;try with_reducible rfl)
 try simp only [gz,Act.put]
 refine nH (bm 21 3) 19 ?_
 refine tH 2 (v:=?_) rfl (λ_ _ _ h=>h) ?_ ?_;rotate_left
 ·(intro w hSw;(try dsimp only at hSw);go_simp;try with_reducible rfl)
 try simp only [gz,Act.put]
 refine nH (bm 21 7) 18 ?_
 refine tH 3 (v:=?_) rfl (λ_ _ _ h=>h) ?_ ?_;rotate_left
 ·(intro w hSw;(try dsimp only at hSw);go_simp;try with_reducible rfl)
 try simp only [gz,Act.put]
 refine nH (bm 21 15) 17 ?_
 refine tH 4 (v:=?_) rfl (λ_ _ _ h=>h) ?_ ?_;rotate_left
 ·(intro w hSw;(try dsimp only at hSw);go_simp;try with_reducible rfl)
 try simp only [gz,Act.put]
 refine nH (bm 21 31) 16 ?_
 refine tH 5 (v:=?_) rfl (λ_ _ _ h=>h) ?_ ?_;rotate_left
 ·(intro w hSw;(try dsimp only at hSw);go_simp;try with_reducible rfl)
 try simp only [gz,Act.put]
 refine nH (bm 21 63) 15 ?_
 refine tH 6 (v:=?_) rfl (λ_ _ _ h=>h) ?_ ?_;rotate_left
 ·(intro w hSw;(try dsimp only at hSw);go_simp;try with_reducible rfl)
 try simp only [gz,Act.put]
 refine nH (bm 21 127) 14 ?_
 refine tH 7 (v:=?_) rfl (λ_ _ _ h=>h) ?_ ?_;rotate_left
 ·(intro w hSw;(try dsimp only at hSw);go_simp;try with_reducible rfl)
 try simp only [gz,Act.put]
 refine nH (bm 21 255) 13 ?_
 refine tH 9 (v:=c.v) rfl (λ_ _ _ h=>h) ?_ ?_
 ·(intro w hSw;(try dsimp only at hSw);exact K.eI rfl rfl (Jo hSw))
 try simp only [gz,Act.put]
 refine nH (bm 21 767) 12 ?_
 refine yH [8] ?_
 refine cH rfl λK hK=>?_
 go_simp
 go_wp2_with (first|(go_at_call 17;refine HSt.o.mono ?_;rintro e z1 ⟨d1,g1,S1,d2,g2,d3,g3,S3,rfl,hT,hb⟩;have HT1:=aa hT;have HZ1:Hid (Below w7.heap.size w7 z1):=al (Below.refl _ _).drew hb;clear hT hb))
 refine hK.out _ _ (HSy.o _ HZ1.o) (λhHeld=>?_)
 clear hK K
 try simp only [gz,Act.put]
 refine nH (bm 21 1023) 11 ?_
 refine yH [10] ?_
 refine cH rfl λK hK=>?_
 go_simp
 go_wp2_with (first|(go_at_call 22;refine (HNw.o z1).mono ?_;rintro e z2 ⟨mbq,gm,rfl,hM0,hb⟩;have HM0:=aa hM0;have HZ12:=aa hb;have HZ2:Hid (Below w7.heap.size w7 z2):=al HZ1.o hb;clear hM0 hb))
 refine hK.out _ _ (HSy.o _ HZ2.o) (λhHeld=>?_)
 clear hK K
 try simp only [gz,Act.put]
 refine nH (bm 21 2047) 10 ?_
 refine yH [11] ?_
 refine cH rfl λK hK=>?_
 go_simp
 go_wp2_with (first|(go_at_call 23;refine (HRs.o z2 mbq gm HM0.o).mono ?_;rintro e z3 ⟨i1,j1zq,T1,i2,j2zq,i3,j3zq,T3,rfl,hT,hb⟩;have HZ3:Hid (Below w7.heap.size w7 z3):=al HZ2.o hb;have HSs:=aa (pC (w:=z3) p0 (c1:=g1) (c2:=g2) (c3:=g3) (d1:=j1zq) (d2:=j2zq) (d3:=j3zq) (HT1.o.look.later (al HZ12.o hb)) hT.look p0_small);clear hT hb))
 refine hK.out _ _ (HSy.o _ HZ3.o) (λhHeld=>?_)
 clear hK K
 try simp only [gz,Act.put]
 refine nH (bm 21 4095) 9 ?_
 refine yH [12] ?_
 refine cH rfl λK hK=>?_
 go_simp
 go_wp2_with (first|(go_at_call 16;refine HSs.o.mono ?_;rintro e z4 ⟨rfl,hb⟩;have HZ4:Hid (Below w7.heap.size w7 z4):=al HZ3.o hb;clear hb))
 refine hK.out _ _ (HSy.o _ HZ4.o) (λhHeld=>?_)
 clear hK K
 try simp only [gz,Act.put]
 refine nH (bm 21 8191) 8 ?_
 refine tH 13 (v:=?_) rfl (λ_ _ _ h=>h) ?_ ?_;rotate_left
 ·(intro w hSw;(try dsimp only at hSw);go_simp;try with_reducible rfl)
 try simp only [gz,Act.put]
 refine nH (bm 21 16383) 7 ?_
 refine tH 14 (v:=?_) rfl (λ_ _ _ h=>h) ?_ ?_;rotate_left
 ·(intro w hSw;(try dsimp only at hSw);go_simp;try with_reducible rfl)
 try simp only [gz,Act.put]
 refine nH (bm 21 32767) 6 ?_
 refine tH 15 (v:=?_) rfl (λ_ _ _ h=>h) ?_ ?_;rotate_left
 ·(intro w hSw;(try dsimp only at hSw);go_simp;try with_reducible rfl)
 try simp only [gz,Act.put]
 refine nH (bm 21 65535) 5 ?_
 refine tH 17 (v:=c.v) rfl (λ_ _ _ h=>h) ?_ ?_
 ·(intro w hSw;(try dsimp only at hSw);exact K.eI rfl rfl (Jo hSw))
 try simp only [gz,Act.put]
 refine nH (bm 21 196607) 4 ?_
 refine yH [16] ?_
 refine cH rfl λK hK=>?_
 go_simp
 go_wp2_with (first|(go_at_call 24;refine (HCo.o z4 HZ4.o).mono ?_;rintro e z5 ⟨rfl,hb⟩;have HZ5:Hid (Below w7.heap.size w7 z5):=al HZ4.o hb;clear hb))
 refine hK.out _ _ (HSy.o _ HZ5.o) (λhHeld=>?_)
 clear hK K
 try simp only [gz,Act.put]
 refine nH (bm 21 262143) 3 ?_
 refine tH 18 (v:=.bool true) rfl (λ_ _ _ h=>h) ?_ ?_
 ·(intro w hSw;(try dsimp only at hSw);obtain⟨W,o,p,m,q,r,l,s,y,k⟩:=c;go_simp;unfold Cf.L;go_simp)
 try simp only [gz,Act.put]
 refine nH (bm 21 524287) 2 ?_
 refine tH 19 (v:=?_) rfl (λ_ _ _ h=>h) ?_ ?_;rotate_left
 ·(intro w hSw;(try dsimp only at hSw);go_simp;try with_reducible rfl)
 try simp only [gz,Act.put]
 refine nH (bm 21 1048575) 1 ?_
 refine tH 20 (v:=?_) rfl (λ_ _ _ h=>h) ?_ ?_;rotate_left
 ·(intro w hSw;(try dsimp only at hSw);go_simp;try with_reducible rfl)
 try simp only [gz,Act.put]
 refine nH (bm 21 2097151) 0 ?_
 refine wpAnyH_done (by kernel_rfl) ?_ _
 go_wp2
 go_ret
 exact⟨cW rfl,al HB.o (al HB7.o HZ5.o)⟩
theorem news_law (c:Cf)(n:Int)(hl:D.Laid w)(h0:0<w.heap.size):Calls prog 7 #[c.v,.int .i64 n] w λe w'=>e=.returned (.bool true)/\Below w.heap.size w w':=by
 obtain⟨k,hk⟩:∃k:Nat,n%4200=(k:Int):=⟨(n%4200).toNat,by omega⟩
 have hk0:k<4200:=by omega
 cases hm:c.may with
 | false=>exact news_bad c n k hk hk0 hm hl h0
 | true =>
  by_cases h:k<=4096
  ·exact news_ok c n k hk hk0 hm h hl h0
  ·exact news_many c n k hk hk0 hm (by omega) hl h0
end
end Go.Proofs.YtfmhdimaijimlaaGreatDoor.V
