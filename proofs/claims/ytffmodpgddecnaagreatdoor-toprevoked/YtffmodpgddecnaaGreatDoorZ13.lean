import Derived.Test.YtffmodpgddecnaaGreatDoorZ12
import Derived.Test.YtffmodpgddecnaaGreatDoorZL
set_option linter.unusedVariables false
set_option linter.unusedSimpArgs false
set_option maxRecDepth 100000
set_option maxHeartbeats 2000000
namespace Go.Proofs.YtffmodpgddecnaaGreatDoor.K
open Go.RowKit
variable {w w':World}{g s n k:Nat}{R:Nat->List Pl}{e hi mi:Int}
theorem ba {P:Program}{md:Region.Mode}{ops:Array Oper}{Q:Exit->Act->World->Prop}{S:World->Prop}{fuel f2:Nat}{listed l2:Array Bool}{a:Act}{w:World}(hl:listed=l2)(hf:fuel=f2)(h:wpAnyH P md ops Q S f2 l2 a w):wpAnyH P md ops Q S fuel listed a w:=by
 subst hl hf
 exact h
theorem fK {P:Program}{w:World}{o:Oper}{ρ:Operand->Value}{ty:TypeId}{x:Operand}{p v:Value}
  (ho:o.op=.load ty x) (hx:ρ x=p) (hr:(Instr.loadAt ty p).run P w=.ok v w):(execOp ρ o).run P w=.ok (.value v) w:=by
 unfold execOp;simp only [ho,hx,hr,Sem.run_bind,Sem.run_pure,Result.andThen_ok]
theorem iZ {w1 U:World}(h:Below w1.heap.size w1 U){b:Nat}(hb:w1.heap.size<=b)(o:Nat)(L:List Value):Below w1.heap.size w1 (U.setCells b o L) :=
 ah.below h (ah.setCells (S:=λx=>x=b) rfl L o (ah.refl _ _)) (λk hk=>by omega)
theorem yM {w:World}{b:Nat}{p:Pl}(h:w.rangeAt b 0 (eF p)):Ce w b 0 p:=⟨h 0 _ rfl,h 1 _ rfl,h 2 _ rfl,h 3 _ rfl,h 4 _ rfl⟩
theorem CJ:(Tryz.prog.info? 239).map (λi=>(i.zero,i.size,i.bytes))=some (some (.agg (eF fr).toArray),5,40):=by kernel_rfl
theorem vF:(Tryz.prog.info? 239).map (·.size)=some 5:=by kernel_rfl
def tell (c:Cp)(p:Pl):Value:=.tuple #[.int .i64 (if fg c p then p.2.2 else 0),.bool (fg c p)]
theorem look_ok (h:Ca w g s n k R e hi mi)(c:Cp)(hc:E1 c)(hs:0<s){r:Nat}(hr:r=fT k s c){i:Nat}(hi_:i=dN (R r) c n){p:Pl}(hp:(R r)[i]?=some p) :
  Calls Tryz.prog 431 #[.pointer (some ⟨g,0,none⟩),.agg #[.int .i64 c.1,.int .u64 (c.2.1:Int),.int .u64 (c.2.2:Int)]] w λe w'=>e=.returned (tell c p)/\Below w.heap.size w w':=by
 obtain⟨w1,hw1⟩:∃w1,w1=w.alloc (Obj.cells #[.int .i64 c.1,.int .u64 (c.2.1:Int),.int .u64 (c.2.2:Int)] 37):=⟨_,rfl⟩
 have hB1:Below w.heap.size w w1:=by rw [hw1];exact ae _ _
 have HH:=ab (h.later hB1)
 have c0:=HH.out.c0
 rw [hw1] at c0;have hz0:((s:Int)==0)=false:=by simp;omega
 have hr16:(r:Int)<16:=by have:=h.ls;have:=uL (k:=k) c hs;omega
 have hrn:r<16:=by omega
 have hi4:(i:Int)<4:=by
  have:=(List.getElem?_eq_some_iff.1 hp).1
  rw [h.len] at this;omega
 have Qi:Hid (∀U:World,Below w1.heap.size w1 U->Calls Tryz.prog 401 #[.pointer (some ⟨g,0,none⟩),.agg #[.int .i64 c.1,.int .u64 (c.2.1:Int),.int .u64 (c.2.2:Int)]] U λe w'=>e=.returned (.int .i64 (r:Int))/\Below U.heap.size U w'):=λU hU=>by
  rw [hr];exact kG (HH.out.later hU) c hc hs
 obtain⟨A,hA⟩:∃A,A=dY (R r):=⟨_,rfl⟩
 have Qg:Hid (A.length=20):=by rw [hA,aN,h.len];rfl
 have T3:Hid (A.toArray.size=20):=by rw [List.size_toArray];exact Qg.out
 have QI:Hid (∀v∈A,v.oneCell'=true):=by rw [hA];exact gZ _
 have P9:Hid (∀U:World,Below w1.heap.size w1 U->(Instr.loadAt 241 (.pointer (some ⟨g,3+r*20,none⟩))).run Tryz.prog U=.ok (.agg A.toArray) U):=λU hU=>j6 (by rw [hA];exact (HH.out.later hU).at_ r hrn) Qg.out
 have Ru:Hid (∀U:World,Calls Tryz.prog 403 #[.agg A.toArray,.agg #[.int .i64 c.1,.int .u64 (c.2.1:Int),.int .u64 (c.2.2:Int)],.int .i64 (n:Int)] U λe w'=>e=.returned (.int .i64 (i:Int))/\Below U.heap.size U w'):=λU=>by
  rw [hi_,hA];exact qh (R r) c n U (h.len r) h.n1 h.n4
 have hz:=λW=>aO oW W
 obtain⟨Z,hZ⟩:∃Z,Z=(dY (List.replicate 4 fr)).toArray:=⟨_,rfl⟩
 rw [<-hZ] at hz;have QW:Hid (Z.size=20):=by rw [hZ,List.size_toArray,aN];rfl
 have HA:=ab hA
 have HP:=ab hp
 have HI:=ab hi_
 have Qb:Hid (∀U:World,Below w1.heap.size w1 U->U.cell? ⟨w.heap.size,0,none⟩=some (.int .i64 c.1)/\U.cell? ⟨w.heap.size,1,none⟩=some (.int .u64 (c.2.1:Int))/\U.cell? ⟨w.heap.size,2,none⟩=some (.int .u64 (c.2.2:Int))/\U.cell? ⟨g,1,none⟩=some (.int .i64 (n:Int))):=λU hU =>
  ⟨cell_later hU (by rw [hw1];simp [go_sem]),cell_later hU (by rw [hw1];simp [go_sem]),cell_later hU (by rw [hw1];simp [go_sem]),(HH.out.later hU).c1⟩
 have hC:=λ(U:World) (hU:Below w1.heap.size w1 U)=>And.intro (Qb.out U hU) hU
 have HC:=ab hC
 clear hA hZ hp hi_ hr h hC;go_enter Tryz.func431,Tryz.ntmps431
 go_upto_region 3 with fail
 rw [<-hw1];have PC:=ab hB1
 clear hw1 hB1 c0 hz0;go_cut [6] (λv W=>∃b,v=.pointer (some ⟨b,0,none⟩)/\W.rangeAt b 0 A/\Below w1.heap.size w1 W)
 case first =>
  refine wp_region_held_drew (S:=(λU:World=>(U.cell? ⟨w.heap.size,0,none⟩=some (.int .i64 c.1)/\U.cell? ⟨w.heap.size,1,none⟩=some (.int .u64 (c.2.1:Int))/\U.cell? ⟨w.heap.size,2,none⟩=some (.int .u64 (c.2.2:Int))/\U.cell? ⟨g,1,none⟩=some (.int .i64 (n:Int)))/\Below w1.heap.size w1 U)) (by kernel_rfl) (HC.out _ (Below.refl w1.heap.size w1).drew) (λhHeld=>?_)
  refine nm 10 0 10 ?_
  refine tn 0 10 1 9 ?_
  simp only [zz];refine tn 1 10 3 8 ?_
  simp only [zz];refine tn 2 10 7 7 ?_
  simp only [zz];refine tn 4 10 23 6 ?_
  simp only [zz];refine tn 5 10 55 5 ?_
  simp only [zz];refine wpAnyH_ready (rs:=[3,8]) (by kernel_rfl) (by simp) ?_
  refine AllReadyH.cons rfl (λK hK=>?_) ?_
  ·go_simp
   go_wp2_with (first|(go_at_call 401;refine (Qi.out _ ((Below.refl w1.heap.size w1).drew)).mono ?_;rintro e w2 ⟨rfl,hb2⟩;have PB:=ab hb2;clear hb2))
   refine zk hK 10 63 4 (HC.out _ (aa (Below.refl w1.heap.size w1).drew PB.out)) λhHeld=>?_
   clear hK K;try simp only [zz]
   refine tn 6 10 127 3 ?_
   simp only [zz];refine tv 7 (v:=.agg A.toArray) ?_ ?_
   ·(intro w hSw;(try dsimp only at hSw);exact fK rfl rfl (P9.out _ hSw.2))
   simp only [zz];refine nm 10 255 2 ?_
   refine zr 8 λK hK=>?_
   go_simp
   refine zk hK 10 511 1 (HC.out _ (aa (aa (Below.refl w1.heap.size w1).drew PB.out) (ae _ _))) λhHeld=>?_
   clear hK K;try simp only [zz]
   refine zr 9 λK hK=>?_
   refine wp_store_mid 241 (.tmp 6) (.tmp 20) rfl _ 0 A.toArray rfl rfl (by rw [T3.out];exact (aZ w2 Z 241 20 QW.out)) (by rw [je,T3.out]) (all_oneCell_toArray QI.out) ?_
   refine zk hK 10 1023 0 (HC.out _ (iZ (aa (aa (Below.refl w1.heap.size w1).drew PB.out) (ae _ _)) ((aa (Below.refl w1.heap.size w1).drew PB.out)).size 0 _)) λhHeld=>?_
   clear hK K;try simp only [zz]
   refine zn ?_ _
   go_wp2;go_meet
   case rel=>exact⟨_,rfl,World.rangeAt_setCells_same _ _ _ _ (by rw [Qg.out];first|exact aZ w2 Z 241 20 QW.out|exact cu (aZ w1.drew Z 241 20 QW.out) PB.out),hHeld.2⟩
  refine AllReadyH.cons rfl (λK hK=>?_) AllReadyH.nil
  go_simp
  refine zk hK 10 311 4 (HC.out _ (aa (Below.refl w1.heap.size w1).drew (ae w1.drew _))) λhHeld=>?_
  clear hK K;try simp only [zz]
  refine zr 3 λK hK=>?_
  go_simp
  go_wp2_with (first|(go_at_call 401;refine (Qi.out _ (aa (Below.refl w1.heap.size w1).drew (ae w1.drew _))).mono ?_;rintro e w2 ⟨rfl,hb2⟩;have PB:=ab hb2;clear hb2))
  refine zk hK 10 319 3 (HC.out _ (aa (aa (Below.refl w1.heap.size w1).drew (ae w1.drew _)) PB.out)) λhHeld=>?_
  clear hK K;try simp only [zz]
  refine tn 6 10 383 2 ?_
  simp only [zz];refine tv 7 (v:=.agg A.toArray) ?_ ?_
  ·(intro w hSw;(try dsimp only at hSw);exact fK rfl rfl (P9.out _ hSw.2))
  simp only [zz];refine nm 10 511 1 ?_
  refine zr 9 λK hK=>?_
  refine wp_store_mid 241 (.tmp 6) (.tmp 20) rfl _ 0 A.toArray rfl rfl (by rw [T3.out];exact (cu (aZ w1.drew Z 241 20 QW.out) PB.out)) (by rw [je,T3.out]) (all_oneCell_toArray QI.out) ?_
  refine zk hK 10 1023 0 (HC.out _ (iZ (aa (aa (Below.refl w1.heap.size w1).drew (ae w1.drew _)) PB.out) (Nat.le_refl _) 0 _)) λhHeld=>?_
  clear hK K;try simp only [zz]
  refine zn ?_ _
  go_wp2;go_meet
  case rel=>exact⟨_,rfl,World.rangeAt_setCells_same _ _ _ _ (by rw [Qg.out];first|exact aZ w2 Z 241 20 QW.out|exact cu (aZ w1.drew Z 241 20 QW.out) PB.out),hHeld.2⟩
 case rest =>
  obtain⟨b,rfl,hR,hB⟩:=hcut
  have HB:=ab hB
  have Us:Hid (∀U:World,Below wc.heap.size wc U->(Instr.loadAt 241 (.pointer (some ⟨b,0,none⟩))).run Tryz.prog U=.ok (.agg A.toArray) U):=λU hU=>j6 (eH hR hU) Qg.out
  have hX:=rh (by rw [<-HA.out];exact hR) HP.out
  rw [Nat.zero_add] at hX;have Q0:Hid (∀U:World,Below wc.heap.size wc U->(U.cell? ⟨w.heap.size,0,none⟩=some (.int .i64 c.1)/\U.cell? ⟨w.heap.size,1,none⟩=some (.int .u64 (c.2.1:Int))/\U.cell? ⟨w.heap.size,2,none⟩=some (.int .u64 (c.2.2:Int))/\U.cell? ⟨g,1,none⟩=some (.int .i64 (n:Int))/\U.cell? ⟨b,i*5,none⟩=some (.bool p.1)/\U.cell? ⟨b,i*5+1,none⟩=some (.int .i64 p.2.1.1)/\U.cell? ⟨b,i*5+2,none⟩=some (.int .u64 (p.2.1.2.1:Int))/\U.cell? ⟨b,i*5+3,none⟩=some (.int .u64 (p.2.1.2.2:Int))/\U.cell? ⟨b,i*5+4,none⟩=some (.int .i64 p.2.2))/\Below wc.heap.size wc U):=λU hU=>by
   obtain⟨a1,a2,a3,a4⟩:=Qb.out U (aa HB.out hU)
   have hx:=hX.later hU
   exact⟨⟨a1,a2,a3,a4,hx.c0,hx.c1,hx.c2,hx.c3,hx.c4⟩,hU⟩
  have hz5:=λW=>aO CJ W
  obtain⟨Z5,hZ5⟩:∃Z,Z=(eF fr).toArray:=⟨_,rfl⟩
  rw [<-hZ5] at hz5;have QV:Hid (Z5.size=5):=by rw [hZ5];rfl
  clear hR hB hX hZ5 hz;go_upto_region 4 with fail
  go_cut [7] (λv W=>∃b',v=.pointer (some ⟨b',0,none⟩)/\Ce W b' 0 p/\Below wc.heap.size wc W)
  case first =>
   refine wp_region_held_drew (S:=(λU:World=>(U.cell? ⟨w.heap.size,0,none⟩=some (.int .i64 c.1)/\U.cell? ⟨w.heap.size,1,none⟩=some (.int .u64 (c.2.1:Int))/\U.cell? ⟨w.heap.size,2,none⟩=some (.int .u64 (c.2.2:Int))/\U.cell? ⟨g,1,none⟩=some (.int .i64 (n:Int))/\U.cell? ⟨b,i*5,none⟩=some (.bool p.1)/\U.cell? ⟨b,i*5+1,none⟩=some (.int .i64 p.2.1.1)/\U.cell? ⟨b,i*5+2,none⟩=some (.int .u64 (p.2.1.2.1:Int))/\U.cell? ⟨b,i*5+3,none⟩=some (.int .u64 (p.2.1.2.2:Int))/\U.cell? ⟨b,i*5+4,none⟩=some (.int .i64 p.2.2))/\Below wc.heap.size wc U)) (by kernel_rfl) (Q0.out _ (Below.refl wc.heap.size wc).drew) (λhHeld=>?_)
   refine nm 11 0 11 ?_
   refine tv 0 (v:=.agg A.toArray) ?_ ?_
   ·(intro w hSw;(try dsimp only at hSw);exact fK rfl rfl (Us.out _ hSw.2))
   simp only [zz];refine nm 11 1 10 ?_
   refine tn 1 11 3 9 ?_
   simp only [zz];refine tn 2 11 7 8 ?_
   simp only [zz];refine tn 3 11 15 7 ?_
   simp only [zz];refine tn 4 11 31 6 ?_
   simp only [zz];refine tn 5 11 63 5 ?_
   simp only [zz];refine wpAnyH_ready (rs:=[6,9]) (by kernel_rfl) (by simp) ?_
   refine AllReadyH.cons rfl (λK hK=>?_) ?_
   ·go_simp
    go_wp2_with (first|(go_at_call 403;refine (Ru.out _).mono ?_;rintro e w2 ⟨rfl,hb2⟩;have PB:=ab hb2;clear hb2))
    refine zk hK 11 127 4 (Q0.out _ (aa (Below.refl wc.heap.size wc).drew PB.out)) λhHeld=>?_
    clear hK K;try simp only [zz]
    refine tn 7 11 255 3 ?_
    simp only [zz];refine tn 8 11 511 2 ?_
    simp only [zz];refine zr 9 λK hK=>?_
    go_simp
    refine zk hK 11 1023 1 (Q0.out _ (aa (aa (Below.refl wc.heap.size wc).drew PB.out) (ae _ _))) λhHeld=>?_
    clear hK K;try simp only [zz]
    refine zr 10 λK hK=>?_
    refine wp_store_mid 239 (.tmp 7) (.tmp 29) rfl _ 0 (eF p).toArray rfl rfl (aZ w2 Z5 239 5 QV.out) vF (all_oneCell_toArray (lZ p)) ?_
    refine zk hK 11 2047 0 (Q0.out _ (iZ (aa (aa (Below.refl wc.heap.size wc).drew PB.out) (ae _ _)) ((aa (Below.refl wc.heap.size wc).drew PB.out)).size 0 _)) λhHeld=>?_
    clear hK K;try simp only [zz]
    refine zn ?_ _
    go_wp2;go_meet
    case rel=>exact⟨_,rfl,yM (World.rangeAt_setCells_same _ _ _ _ (by first|exact aZ w2 Z5 239 5 QV.out|exact cu (aZ wc.drew Z5 239 5 QV.out) PB.out)),hHeld.2⟩
   refine AllReadyH.cons rfl (λK hK=>?_) AllReadyH.nil
   go_simp
   refine zk hK 11 575 4 (Q0.out _ (aa (Below.refl wc.heap.size wc).drew (ae wc.drew _))) λhHeld=>?_
   clear hK K;try simp only [zz]
   refine zr 6 λK hK=>?_
   go_simp
   go_wp2_with (first|(go_at_call 403;refine (Ru.out _).mono ?_;rintro e w2 ⟨rfl,hb2⟩;have PB:=ab hb2;clear hb2))
   refine zk hK 11 639 3 (Q0.out _ (aa (aa (Below.refl wc.heap.size wc).drew (ae wc.drew _)) PB.out)) λhHeld=>?_
   clear hK K;try simp only [zz]
   refine tn 7 11 767 2 ?_
   simp only [zz];refine tn 8 11 1023 1 ?_
   simp only [zz];refine zr 10 λK hK=>?_
   refine wp_store_mid 239 (.tmp 7) (.tmp 29) rfl _ 0 (eF p).toArray rfl rfl (cu (aZ wc.drew Z5 239 5 QV.out) PB.out) vF (all_oneCell_toArray (lZ p)) ?_
   refine zk hK 11 2047 0 (Q0.out _ (iZ (aa (aa (Below.refl wc.heap.size wc).drew (ae wc.drew _)) PB.out) (Nat.le_refl _) 0 _)) λhHeld=>?_
   clear hK K;try simp only [zz]
   refine zn ?_ _
   go_wp2;go_meet
   case rel=>exact⟨_,rfl,yM (World.rangeAt_setCells_same _ _ _ _ (by first|exact aZ w2 Z5 239 5 QV.out|exact cu (aZ wc.drew Z5 239 5 QV.out) PB.out)),hHeld.2⟩
  case rest =>
   rename_i wd
   obtain⟨b',rfl,hX,hB⟩:=hcut
   have PE:=ab (aa HB.out hB)
   obtain⟨a1,a2,a3,_⟩:=Qb.out _ PE.out
   obtain⟨x0,x1,x2,x3,x4⟩:=hX
   simp only [Nat.zero_add] at x1 x2 x3 x4;have hHas:=λW=>aX p c W
   have HT:Hid (tell c p=.tuple #[.int .i64 (if fg c p then p.2.2 else 0),.bool (fg c p)]):=rfl
   generalize fg c p=q at hHas HT
   have QK:=ab x4
   clear x4 hB;have x4:=QK.out
   cases q with
   | true =>
    go_wp2_with (first|(go_at_call 408;refine (hHas _).mono ?_;rintro e w5 ⟨rfl,hb5⟩;have y4:=cell_later hb5 x4;have PI:=ab hb5;clear hb5))
    exact bodyPost_ret (v:=.tuple #[.int .i64 p.2.2,.bool true]) (by simp [results,Tryz.results431,go_sem]) rfl ⟨by rw [HT.out];rfl,aa PC.out (aa PE.out PI.out)⟩
   | false =>
    go_wp2_with (first|(go_at_call 408;refine (hHas _).mono ?_;rintro e w5 ⟨rfl,hb5⟩;have PI:=ab hb5;clear hb5))
    exact bodyPost_ret (v:=.tuple #[.int .i64 0,.bool false]) (by simp [results,Tryz.results431,go_sem]) rfl ⟨by rw [HT.out];rfl,aa PC.out (aa PE.out PI.out)⟩
theorem fs (h:Ca w g s n k R e hi mi)(c:Cp)(hs:s=0) :
  Calls Tryz.prog 431 #[.pointer (some ⟨g,0,none⟩),.agg #[.int .i64 c.1,.int .u64 (c.2.1:Int),.int .u64 (c.2.2:Int)]] w λe w'=>e=.returned (.tuple #[.int .i64 0,.bool false])/\Below w.heap.size w w':=by
 subst hs;have c0:=(h.later (ae w (Obj.cells #[.int .i64 c.1,.int .u64 (c.2.1:Int),.int .u64 (c.2.2:Int)] 37))).c0
 clear h;go_enter Tryz.func431,Tryz.ntmps431
 go_wp2;exact bodyPost_ret (v:=.tuple #[.int .i64 0,.bool false]) (by simp [results,Tryz.results431,go_sem]) rfl ⟨rfl,ae _ _⟩
end Go.Proofs.YtffmodpgddecnaaGreatDoor.K
namespace Go.Proofs.YtffmodpgddecnaaGreatDoor.K
open Go.RowKit
variable {w w':World}{g s n k:Nat}{R:Nat->List Pl}{e hi mi:Int}
def xQ (s n k:Nat)(R:Nat->List Pl)(c:Cp):Int×Bool :=
 if s=0 then (0,false) else
  match (R (fT k s c))[dN (R (fT k s c)) c n]? with
  | some p=>(if fg c p then p.2.2 else 0,fg c p)
  | none=>(0,false)
theorem uz {P:List Pl}{c:Cp}(h:P.length=4)(h1:1<=n)(h4:n<=4):dN P c n<4:=by unfold dN;omega
theorem jk (h:Ca w g s n k R e hi mi)(c:Cp)(hc:E1 c) :
  Calls Tryz.prog 431 #[.pointer (some ⟨g,0,none⟩),.agg #[.int .i64 c.1,.int .u64 (c.2.1:Int),.int .u64 (c.2.2:Int)]] w λe w'=>e=.returned (.tuple #[.int .i64 (xQ s n k R c).1,.bool (xQ s n k R c).2])/\Below w.heap.size w w':=by
 unfold xQ;by_cases hs:s=0
 ·rw [if_pos hs]
  exact fs h c hs
 ·rw [if_neg hs]
  have hl:=h.len (fT k s c)
  have hlt:dN (R (fT k s c)) c n<(R (fT k s c)).length:=by rw [hl];exact uz hl h.n1 h.n4
  have hp:=List.getElem?_eq_getElem hlt
  rw [hp];exact look_ok h c hc (by omega) rfl rfl hp
theorem Ca.KU (h:Ca w g s n k R e hi mi)(x:Int):Ca (w.setCell ⟨g,324,none⟩ (.int .i64 x)) g s n k R e x mi:=by
 have hn:∀j,j≠324->(w.setCell ⟨g,324,none⟩ (.int .i64 x)).cell? ⟨g,j,none⟩=w.cell? ⟨g,j,none⟩:=λj hj=>World.cell?_setCell_other _ _ _ _ (λe=>hj (by cases e;rfl))
 exact⟨by rw [hn _ (by omega)];exact h.c0,by rw [hn _ (by omega)];exact h.c1,by rw [hn _ (by omega)];exact h.c2,λr hr=>World.rangeAt_setCells_apart (h.at_ r hr) g 324 [.int .i64 x] (.inr (.inl (by rw [aN,h.len];omega))),World.there_setCells h.th g 324 [.int .i64 x],h.len,h.ce.other (by simp),h.ch.put,h.cm.other (by simp),h.ls,h.n1,h.n4,h.lk⟩
theorem Ca.JQ (h:Ca w g s n k R e hi mi)(x:Int):Ca (w.setCell ⟨g,325,none⟩ (.int .i64 x)) g s n k R e hi x:=by
 have hn:∀j,j≠325->(w.setCell ⟨g,325,none⟩ (.int .i64 x)).cell? ⟨g,j,none⟩=w.cell? ⟨g,j,none⟩:=λj hj=>World.cell?_setCell_other _ _ _ _ (λe=>hj (by cases e;rfl))
 exact⟨by rw [hn _ (by omega)];exact h.c0,by rw [hn _ (by omega)];exact h.c1,by rw [hn _ (by omega)];exact h.c2,λr hr=>World.rangeAt_setCells_apart (h.at_ r hr) g 325 [.int .i64 x] (.inr (.inl (by rw [aN,h.len];omega))),World.there_setCells h.th g 325 [.int .i64 x],h.len,h.ce.other (by simp),h.ch.other (by simp),h.cm.put,h.ls,h.n1,h.n4,h.lk⟩
theorem Dj (h:Ca w g s n k R e hi mi)(c:Cp)(hc:E1 c) :
  Calls Tryz.prog 430 #[.pointer (some ⟨g,0,none⟩),.agg #[.int .i64 c.1,.int .u64 (c.2.1:Int),.int .u64 (c.2.2:Int)]] w λx w'=>x=.returned (.tuple #[.int .i64 (xQ s n k R c).1,.bool (xQ s n k R c).2])/\Ca w' g s n k R e (if (xQ s n k R c).2 then wrap64 (hi+1) else hi) (if (xQ s n k R c).2 then mi else wrap64 (mi+1))/\ah (λk=>k=g) w w':=by
 have HH:=ab h
 have HL:=ab (λ(U:World) (hU:Below w.heap.size w U)=>jk (h.later hU) c hc)
 clear h;generalize xQ s n k R c=x at HL
 obtain⟨x1,q⟩:=x
 cases q with
 | true =>
  go_enter Tryz.func430,Tryz.ntmps430
  go_upto_region 2 with (first|(go_at_call 431;refine (HL.out _ (ae _ _)).mono ?_;rintro e w2 ⟨rfl,hb2⟩;have PB:=ab (aa (ae _ _) hb2);clear hb2))
  have Sp:=ab (HH.out.later PB.out)
  have d:=Sp.out.ch.1
  have f:=Sp.out.ch.2
  have HF:=ab (Sp.out.KU (wrap64 (hi+1)))
  go_wp2;exact bodyPost_ret (v:=.tuple #[.int .i64 x1,.bool true]) (by simp [results,Tryz.results430,go_sem]) rfl ⟨rfl,HF.out,(ah.of (S:=λk=>k=g) PB.out).setCell (p:=⟨g,324,none⟩) rfl _⟩
 | false =>
  go_enter Tryz.func430,Tryz.ntmps430
  go_upto_region 2 with (first|(go_at_call 431;refine (HL.out _ (ae _ _)).mono ?_;rintro e w2 ⟨rfl,hb2⟩;have PB:=ab (aa (ae _ _) hb2);clear hb2))
  have Sp:=ab (HH.out.later PB.out)
  have d:=Sp.out.cm.1
  have f:=Sp.out.cm.2
  have HF:=ab (Sp.out.JQ (wrap64 (mi+1)))
  go_wp2;exact bodyPost_ret (v:=.tuple #[.int .i64 x1,.bool false]) (by simp [results,Tryz.results430,go_sem]) rfl ⟨rfl,HF.out,(ah.of (S:=λk=>k=g) PB.out).setCell (p:=⟨g,325,none⟩) rfl _⟩
end Go.Proofs.YtffmodpgddecnaaGreatDoor.K
namespace Go.Proofs.YtffmodpgddecnaaGreatDoor.K
open Go.RowKit
variable {w w':World}{g s n k:Nat}{R:Nat->List Pl}{e hi mi:Int}
def fW (R:Nat->List Pl)(r:Nat)(Q:List Pl):Nat->List Pl:=λx=>if x=r then Q else R x
def CK (s n k:Nat)(R:Nat->List Pl)(c:Cp)(m:Int):Nat->List Pl :=
 if s=0 then R else fW R (fT k s c) ((true,c,m)::(R (fT k s c)).eraseIdx (dN (R (fT k s c)) c n))
theorem Ca.laid (h:Ca w g s n k R e hi mi){r:Nat}(hr:r<16){Q:List Pl}(hQ:Q.length=4):Ca (w.setCells g (3+r*20) (dY Q)) g s n k (fW R r Q) e hi mi:=by
 have hl:(dY Q).length=20:=by rw [aN,hQ]
 have hn:∀j,j<3+r*20\/3+r*20+20<=j->(w.setCells g (3+r*20) (dY Q)).cell? ⟨g,j,none⟩=w.cell? ⟨g,j,none⟩:=λj hj=>World.cell?_setCells_out g _ _ _ ⟨g,j,none⟩ (λ_ _=>by rw [hl];exact hj)
 have hf:∀j,(w.setCells g (3+r*20) (dY Q)).frozen? ⟨g,j,none⟩=w.frozen? ⟨g,j,none⟩:=λj=>World.frozen?_setCells _ _ _ _ _
 refine⟨by rw [hn _ (by omega)];exact h.c0,by rw [hn _ (by omega)];exact h.c1,by rw [hn _ (by omega)];exact h.c2,λx hx=>?_,World.there_setCells h.th _ _ _,λx=>?_,⟨by rw [hn _ (by omega)];exact h.ce.1,by rw [hf];exact h.ce.2⟩,⟨by rw [hn _ (by omega)];exact h.ch.1,by rw [hf];exact h.ch.2⟩,⟨by rw [hn _ (by omega)];exact h.cm.1,by rw [hf];exact h.cm.2⟩,h.ls,h.n1,h.n4,h.lk⟩
 ·unfold fW
  by_cases e:x=r
  ·subst e
   rw [if_pos rfl];refine World.rangeAt_setCells_same _ _ _ _ (λj hj=>?_)
   rw [hl] at hj;have:=h.th (x*20+j) (by omega)
   rw [<-Nat.add_assoc] at this;exact this
  ·rw [if_neg e]
   refine World.rangeAt_setCells_apart (h.at_ x hx) _ _ _ (.inr ?_)
   rw [aN,h.len,hl];omega
 ·unfold fW
  split
  ·exact hQ
  ·exact h.len x
theorem Bw (h:Ca w g s n k R e hi mi)(c:Cp)(m:Int)(hs:s=0) :
  Calls Tryz.prog 393 #[.pointer (some ⟨g,0,none⟩),.agg #[.int .i64 c.1,.int .u64 (c.2.1:Int),.int .u64 (c.2.2:Int)],.int .i64 m] w λe w'=>e=.returned (.tuple #[])/\Below w.heap.size w w':=by
 subst hs;have c0:=(h.later (ae w (Obj.cells #[.int .i64 c.1,.int .u64 (c.2.1:Int),.int .u64 (c.2.2:Int)] 37))).c0
 clear h;go_enter Tryz.func393,Tryz.ntmps393
 go_wp2;exact bodyPost_ret (by simp [results,Tryz.results393,go_sem]) rfl ⟨rfl,ae _ _⟩
theorem sY (h:Ca w g s n k R e hi mi)(c:Cp)(m:Int)(hc:E1 c)(hs:0<s){r:Nat}(hr:r=fT k s c){i:Nat}(hi_:i=dN (R r) c n) :
  Calls Tryz.prog 393 #[.pointer (some ⟨g,0,none⟩),.agg #[.int .i64 c.1,.int .u64 (c.2.1:Int),.int .u64 (c.2.2:Int)],.int .i64 m] w λx w'=>x=.returned (.tuple #[])/\Ca w' g s n k (fW R r ((true,c,m)::(R r).eraseIdx i)) e hi mi/\ah (λk=>k=g) w w':=by
 obtain⟨w1,hw1⟩:∃w1,w1=w.alloc (Obj.cells #[.int .i64 c.1,.int .u64 (c.2.1:Int),.int .u64 (c.2.2:Int)] 37):=⟨_,rfl⟩
 have hB1:Below w.heap.size w w1:=by rw [hw1];exact ae _ _
 have HH:=ab (h.later hB1)
 have c0:=HH.out.c0
 rw [hw1] at c0;have hz0:((s:Int)==0)=false:=by simp;omega
 have hr16:(r:Int)<16:=by have:=h.ls;have:=uL (k:=k) c hs;omega
 have hrn:r<16:=by omega
 have hi4:i<4:=by rw [hi_];exact uz (h.len r) h.n1 h.n4
 have Qi:Hid (∀U:World,Below w1.heap.size w1 U->Calls Tryz.prog 401 #[.pointer (some ⟨g,0,none⟩),.agg #[.int .i64 c.1,.int .u64 (c.2.1:Int),.int .u64 (c.2.2:Int)]] U λe w'=>e=.returned (.int .i64 (r:Int))/\Below U.heap.size U w'):=λU hU=>by
  rw [hr];exact kG (HH.out.later hU) c hc hs
 obtain⟨A,hA⟩:∃A,A=dY (R r):=⟨_,rfl⟩
 have Qg:Hid (A.length=20):=by rw [hA,aN,h.len];rfl
 have QI:Hid (∀v∈A,v.oneCell'=true):=by rw [hA];exact gZ _
 have P9:Hid (∀U:World,Below w1.heap.size w1 U->(Instr.loadAt 241 (.pointer (some ⟨g,3+r*20,none⟩))).run Tryz.prog U=.ok (.agg A.toArray) U):=λU hU=>j6 (by rw [hA];exact (HH.out.later hU).at_ r hrn) Qg.out
 have Ru:Hid (∀U:World,Calls Tryz.prog 403 #[.agg A.toArray,.agg #[.int .i64 c.1,.int .u64 (c.2.1:Int),.int .u64 (c.2.2:Int)],.int .i64 (n:Int)] U λe w'=>e=.returned (.int .i64 (i:Int))/\Below U.heap.size U w'):=λU=>by
  rw [hi_,hA];exact qh (R r) c n U (h.len r) h.n1 h.n4
 obtain⟨N,hN⟩:∃N,N=dY ((true,c,m)::(R r).eraseIdx i):=⟨_,rfl⟩
 have hQ:((true,c,m)::(R r).eraseIdx i).length=4:=by rw [List.length_cons,List.length_eraseIdx,h.len,if_pos hi4]
 have WD:Hid (N.length=20):=by rw [hN,aN,hQ];rfl
 have SY:Hid (N.toArray.size=20):=by rw [List.size_toArray];exact WD.out
 have To:Hid (∀v∈N,v.oneCell'=true):=by rw [hN];exact gZ _
 have Wl:Hid (∀U:World,Calls Tryz.prog 402 #[.agg A.toArray,.agg #[.bool true,.int .i64 c.1,.int .u64 (c.2.1:Int),.int .u64 (c.2.2:Int),.int .i64 m],.int .i64 (i:Int)] U λe w'=>e=.returned (.agg N.toArray)/\Below U.heap.size U w'):=λU=>by
  rw [hN,hA];exact z_ (R r) (true,c,m) i U (h.len r) hi4
 have Rp:Hid (∀U:World,Below w1.heap.size w1 U->Ca (U.setCells g (3+r*20) N) g s n k (fW R r ((true,c,m)::(R r).eraseIdx i)) e hi mi/\U.there g (3+r*20) 20):=λU hU=>by
  have hU2:=HH.out.later hU
  refine⟨by rw [hN];exact hU2.laid hrn hQ,λj hj=>?_⟩
  have:=hU2.th (r*20+j) (by omega)
  rw [<-Nat.add_assoc] at this;exact this
 have hz:=λW=>aO oW W
 obtain⟨Z,hZ⟩:∃Z,Z=(dY (List.replicate 4 fr)).toArray:=⟨_,rfl⟩
 rw [<-hZ] at hz;have QW:Hid (Z.size=20):=by rw [hZ,List.size_toArray,aN];rfl
 have HG:Hid (g<w.heap.size):=h.lt
 have Qb:Hid (∀U:World,Below w1.heap.size w1 U->U.cell? ⟨w.heap.size,0,none⟩=some (.int .i64 c.1)/\U.cell? ⟨w.heap.size,1,none⟩=some (.int .u64 (c.2.1:Int))/\U.cell? ⟨w.heap.size,2,none⟩=some (.int .u64 (c.2.2:Int))/\U.cell? ⟨g,1,none⟩=some (.int .i64 (n:Int))):=λU hU =>
  ⟨cell_later hU (by rw [hw1];simp [go_sem]),cell_later hU (by rw [hw1];simp [go_sem]),cell_later hU (by rw [hw1];simp [go_sem]),(HH.out.later hU).c1⟩
 clear hA hZ hi_ hr h hN hQ hi4;go_enter Tryz.func393,Tryz.ntmps393
 go_upto_region 2 with fail
 rw [<-hw1];have PC:=ab hB1
 clear hw1 hB1 c0 hz0;obtain⟨c1,c2,c3,_⟩:=Qb.out w1 (Below.refl _ _)
 go_upto_region 3 with (first|(go_at_call 401;refine (Qi.out _ (Below.refl _ _)).mono ?_;rintro e w2 ⟨rfl,hb2⟩;have PB:=ab hb2;clear hb2))
 clear c1 c2 c3;have Qy:=ab (P9.out w2 PB.out)
 have hAl:=Qg.out
 have Sc:=ab (aZ w2 Z 241 20 QW.out)
 have Qz:=xP (L:=A) (n:=20) Sc.out Qg.out QI.out
 have PE:Hid (Below w1.heap.size w1 ((w2.alloc (Obj.cells Z 241)).setCells w2.heap.size 0 A)):=iZ (aa PB.out (ae _ _)) PB.out.size 0 A
 have R5:Hid (((w2.alloc (Obj.cells Z 241)).setCells w2.heap.size 0 A).rangeAt w2.heap.size 0 A):=World.rangeAt_setCells_same _ _ _ _ (by rw [hAl];exact Sc.out)
 generalize (w2.alloc (Obj.cells Z 241)).setCells w2.heap.size 0 A=w3 at Qz PE R5
 clear Sc;go_upto_region 4 with (first|((with_reducible refine aV Qy.out ?_ ?_);· rfl))
 clear Qz Qy hz;have RR:Hid (∀U:World,ah (λx=>x=g) w3 U->(Instr.loadAt 241 (.pointer (some ⟨w2.heap.size,0,none⟩))).run Tryz.prog U=.ok (.agg A.toArray) U):=λU hU=>j6 (nF R5.out hU (by have:=HG.out;have:=PC.out.size;have:=PB.out.size;omega)) Qg.out
 have HC:Hid (∀U:World,Below w3.heap.size w3 U->(U.cell? ⟨w.heap.size,0,none⟩=some (.int .i64 c.1)/\U.cell? ⟨w.heap.size,1,none⟩=some (.int .u64 (c.2.1:Int))/\U.cell? ⟨w.heap.size,2,none⟩=some (.int .u64 (c.2.2:Int))/\U.cell? ⟨g,1,none⟩=some (.int .i64 (n:Int)))/\ah (λx=>x=g) w3 U):=λU hU=>⟨Qb.out U (aa PE.out hU),ah.of hU⟩
 have HD:Hid (∀U:World,Below w3.heap.size w3 U->(((U.setCells g (3+r*20) N).cell? ⟨w.heap.size,0,none⟩=some (.int .i64 c.1)/\(U.setCells g (3+r*20) N).cell? ⟨w.heap.size,1,none⟩=some (.int .u64 (c.2.1:Int))/\(U.setCells g (3+r*20) N).cell? ⟨w.heap.size,2,none⟩=some (.int .u64 (c.2.2:Int))/\(U.setCells g (3+r*20) N).cell? ⟨g,1,none⟩=some (.int .i64 (n:Int)))/\ah (λx=>x=g) w3 (U.setCells g (3+r*20) N))):=λU hU=>by
  obtain⟨a1,a2,a3,_⟩:=Qb.out U (aa PE.out hU)
  have hb:ah (λx=>x=g) U (U.setCells g (3+r*20) N):=ah.setCells (S:=λx=>x=g) rfl N _ (ah.refl _ _)
  have hne:¬w.heap.size=g:=by have:=HG.out;omega
  exact⟨⟨ag hb a1 hne,ag hb a2 hne,ag hb a3 hne,(Rp.out U (aa PE.out hU)).1.c1⟩,(ah.of hU).trans hb⟩
 refine wp_region_held_drew (S:=(λU:World=>(U.cell? ⟨w.heap.size,0,none⟩=some (.int .i64 c.1)/\U.cell? ⟨w.heap.size,1,none⟩=some (.int .u64 (c.2.1:Int))/\U.cell? ⟨w.heap.size,2,none⟩=some (.int .u64 (c.2.2:Int))/\U.cell? ⟨g,1,none⟩=some (.int .i64 (n:Int)))/\ah (λx=>x=g) w3 U)) (by kernel_rfl) (HC.out _ (Below.refl w3.heap.size w3).drew) (λhHeld=>?_)
 refine nm 18 0 18 ?_
 refine tn 0 18 1 17 ?_
 simp only [zz];refine tn 1 18 3 16 ?_
 simp only [zz];refine tv 2 (v:=.agg A.toArray) ?_ ?_
 ·(intro w hSw;(try dsimp only at hSw);exact fK rfl rfl (RR.out _ hSw.2))
 simp only [zz];refine nm 18 7 15 ?_
 refine tn 3 18 15 14 ?_
 simp only [zz];refine tn 4 18 31 13 ?_
 simp only [zz];refine tn 5 18 63 12 ?_
 simp only [zz];refine tv 6 (v:=.agg A.toArray) ?_ ?_
 ·(intro w hSw;(try dsimp only at hSw);exact fK rfl rfl (RR.out _ hSw.2))
 simp only [zz];refine nm 18 127 11 ?_
 refine tn 7 18 255 10 ?_
 simp only [zz];refine tn 8 18 511 9 ?_
 simp only [zz];refine tn 9 18 1023 8 ?_
 simp only [zz];refine tn 10 18 2047 7 ?_
 simp only [zz];refine tn 11 18 4095 6 ?_
 simp only [zz];refine tn 14 18 20479 5 ?_
 simp only [zz];refine tn 15 18 53247 4 ?_
 simp only [zz];refine zr 12 λK hK=>?_
 go_simp
 go_wp2_with (first|(go_at_call 403;refine (Ru.out _).mono ?_;rintro e w4 ⟨rfl,hb4⟩;have PM:=ab (aa (Below.refl w3.heap.size w3).drew hb4);clear hb4))
 refine zk hK 18 57343 3 (HC.out _ PM.out) λhHeld=>?_
 clear hK K;try simp only [zz]
 refine zr 13 λK hK=>?_
 go_simp
 go_wp2_with (first|(go_at_call 402;refine (Wl.out _).mono ?_;rintro e w5 ⟨rfl,hb5⟩;have PI:=ab (aa PM.out hb5);clear hb5))
 refine zk hK 18 65535 2 (HC.out _ PI.out) λhHeld=>?_
 clear hK K;try simp only [zz]
 refine tn 16 18 131071 1 ?_
 simp only [zz];refine zr 17 λK hK=>?_
 refine wp_store_mid 241 (.tmp 38) (.tmp 35) rfl _ _ N.toArray rfl rfl (by rw [SY.out];exact (Rp.out _ (aa PE.out PI.out)).2) (by rw [je,SY.out]) (all_oneCell_toArray To.out) ?_
 refine zk hK 18 262143 0 (HD.out _ PI.out) λhHeld=>?_
 clear hK K;try simp only [zz]
 refine zn ?_ _
 go_wp2;exact bodyPost_end (by simp [results,Tryz.results393,go_sem]) rfl ⟨rfl,(Rp.out _ (aa PE.out PI.out)).1,(ah.of (S:=λk=>k=g) (aa PC.out PE.out)).trans hHeld.2⟩
theorem kQ (h:Ca w g s n k R e hi mi)(c:Cp)(m:Int)(hc:E1 c) :
  Calls Tryz.prog 393 #[.pointer (some ⟨g,0,none⟩),.agg #[.int .i64 c.1,.int .u64 (c.2.1:Int),.int .u64 (c.2.2:Int)],.int .i64 m] w λx w'=>x=.returned (.tuple #[])/\Ca w' g s n k (CK s n k R c m) e hi mi/\ah (λk=>k=g) w w':=by
 unfold CK;by_cases hs:s=0
 ·rw [if_pos hs]
  refine (Bw h c m hs).mono ?_
  rintro x w' ⟨rfl,hb⟩
  exact⟨rfl,h.later hb,ah.of hb⟩
 ·rw [if_neg hs]
  exact sY h c m hc (by omega) rfl rfl
end Go.Proofs.YtffmodpgddecnaaGreatDoor.K
namespace Go.Proofs.YtffmodpgddecnaaGreatDoor.K
open Go.RowKit
abbrev Pu:=Cp×Int
def mk (x:Pu):Pl:=(true,x.1,x.2)
def re (S:List Pu):List Pl:=S.map mk++List.replicate (4 - S.length) fr
def m8 (n:Nat)(S:List Pu)(c:Cp)(m:Int):List Pu:=((c,m)::S.filter (λx=>x.1≠c)).take n
def Df (S:List Pu)(c:Cp):Int×Bool :=
 match S.find? (λx=>x.1=c) with
 | some x=>(x.2,true)
 | none=>(0,false)
theorem mB {S:List Pu}{i:Nat}(h:i<S.length):(re S)[i]?=some (mk S[i]):=by
 unfold re;rw [List.getElem?_append_left (by simpa using h)];simp [h]
theorem vC {S:List Pu}{i:Nat}(h:S.length<=i)(h4:i<4):(re S)[i]?=some fr:=by
 unfold re;rw [List.getElem?_append_right (by simpa using h),List.getElem?_replicate,if_pos (by simp;omega)]
theorem sb {S:List Pu}(h:S.length<=4):(re S).length=4:=by simp [re];omega
theorem yh:∀(S:List Pu) (i:Nat),(S.eraseIdx i).map mk=(S.map mk).eraseIdx i
 | [],_=>rfl
 | a::r,0=>rfl
 | a::r,i+1=>by simp only [List.eraseIdx_cons_succ,List.map_cons,yh r i]
theorem iW (c:Cp)(x:Pu):fg c (mk x)=decide (x.1=c):=rfl
theorem kk {S:List Pu}{c:Cp}(h:∀x∈S,x.1≠c):S.filter (λx=>x.1≠c)=S:=List.filter_eq_self.2 (λx hx=>by simpa using h x hx)
theorem iX:∀{S:List Pu} (hn:(S.map (·.1)).Nodup) (i:Nat) (h:i<S.length),S.filter (λx=>x.1≠S[i].1)=S.eraseIdx i
 | [],_,i,h=>by simp at h
 | a::r,hn,0,h=>by
  simp only [List.map_cons,List.nodup_cons] at hn;rw [List.filter_cons_of_neg (by simp)];simp only [List.getElem_cons_zero,List.eraseIdx_zero,List.tail_cons];exact kk (λx hx e=>hn.1 (List.mem_map.2 ⟨x,hx,e⟩))
 | a::r,hn,i+1,h=>by
  simp only [List.map_cons,List.nodup_cons] at hn;have hi:i<r.length:=by simpa using h
  have hne:a.1≠(a::r)[i+1].1:=λe=>hn.1 (List.mem_map.2 ⟨r[i],List.getElem_mem hi,by simpa using e.symm⟩)
  rw [List.filter_cons_of_pos (by simpa using hne),List.eraseIdx_cons_succ];simp only [List.getElem_cons_succ];rw [iX hn.2 i hi]
theorem rf {S:List Pu}{c:Cp}{n:Nat}(hl:S.length<=n)(h1:1<=n)(h4:n<=4) :
  (∃(i:Nat) (h:i<S.length),S[i].1=c/\S.find? (λx=>x.1=c)=some S[i]/\dN (re S) c n=i)\/((∀x∈S,x.1≠c)/\S.find? (λx=>x.1=c)=none/\dN (re S) c n=n - 1):=by
 cases hf:S.find? (λx=>x.1=c) with
 | some x =>
  obtain⟨hx,i,hi,rfl,hj⟩:=List.find?_eq_some_iff_getElem.1 hf
  have hx2:S[i].1=c:=by simpa using hx
  refine .inl ⟨i,hi,hx2,rfl,vz (p:=mk S[i]) (by omega) (mB hi) (by rw [iW];simpa using hx2) (λj q hji hq=>?_)⟩
  have:=hj j hji
  rw [mB (by omega)] at hq;cases hq
  rw [iW];simpa using this
 | none =>
  have hn:∀x∈S,x.1≠c:=λx hx=>by simpa using List.find?_eq_none.1 hf x hx
  refine .inr ⟨hn,rfl,m9 (λj q hj hq=>?_) (by rw [sb (by omega)];exact h4)⟩
  by_cases e:j<S.length
  ·rw [mB e] at hq
   cases hq
   rw [iW];simpa using hn _ (List.getElem_mem e)
  ·rw [vC (by omega) (by omega)] at hq
   cases hq
   rfl
theorem yt {n:Nat}(S:List Pu)(c:Cp)(m:Int):(m8 n S c m).length<=n:=by unfold m8;rw [List.length_take];omega
theorem sJ {n:Nat}{S:List Pu}(c:Cp)(m:Int)(h:(S.map (·.1)).Nodup):((m8 n S c m).map (·.1)).Nodup:=by
 unfold m8;rw [List.map_take];refine List.Nodup.sublist (List.take_sublist _ _) ?_
 rw [List.map_cons,List.nodup_cons];refine⟨λe=>?_,List.Nodup.sublist (List.Sublist.map _ List.filter_sublist) h⟩
 obtain⟨x,hx,e2⟩:=List.mem_map.1 e
 simpa [e2] using (List.mem_filter.1 hx).2
theorem BH {S:List Pu}{c:Cp}{n:Nat}(m:Int)(hl:S.length<=n)(h1:1<=n)(h4:n<=4)(hn:(S.map (·.1)).Nodup) :
  (true,c,m)::(re S).eraseIdx (dN (re S) c n)=re (m8 n S c m):=by
 rcases rf (c:=c) hl h1 h4 with ⟨i,hi,hc,_,hs⟩|⟨hno,_,hs⟩
 ·rw [hs]
  have e:m8 n S c m=(c,m)::S.eraseIdx i:=by
   unfold m8;rw [<-hc,iX hn i hi,List.take_of_length_le (by simp [List.length_eraseIdx,hi];omega)]
  rw [e];unfold re;rw [List.eraseIdx_append_of_lt_length (by simpa using hi)];simp only [List.map_cons,List.cons_append,List.length_cons,List.length_eraseIdx,if_pos hi];rw [show S.length - 1+1=S.length by omega,<-yh];rfl
 ·rw [hs]
  unfold m8;rw [kk hno];by_cases e:S.length<n
  ·rw [List.take_of_length_le (by simp;omega)]
   unfold re;rw [List.eraseIdx_append_of_length_le (by simp;omega),List.eraseIdx_replicate,if_pos (by simp;omega)];simp only [List.map_cons,List.cons_append,List.length_cons];rw [show 4 - S.length - 1=4 - (S.length+1) by omega];rfl
  ·have e2:S.length=n:=by omega
   obtain⟨v,rfl⟩:∃v,n=v+1:=⟨n - 1,by omega⟩
   rw [List.take_succ_cons];unfold re;rw [List.eraseIdx_append_of_lt_length (by simp;omega)];simp only [List.map_cons,List.cons_append,List.length_cons,List.length_take,e2];rw [show min v (v+1)+1=v+1 by omega];congr 2
   rw [List.map_take,List.eraseIdx_eq_take_drop_succ,List.drop_eq_nil_of_le (by simp;omega),List.append_nil];rfl
theorem CX {S:List Pu}{c:Cp}{n:Nat}(hl:S.length<=n)(h1:1<=n)(h4:n<=4) :
  (match (re S)[dN (re S) c n]? with|some p=>(if fg c p then p.2.2 else 0,fg c p)|none=>((0:Int),false))=Df S c:=by
 unfold Df;rcases rf (c:=c) hl h1 h4 with ⟨i,hi,hc,hf,hs⟩|⟨hno,hf,hs⟩
 ·rw [hs,mB hi,hf]
  simp only [iW,hc];simp [mk]
 ·rw [hs,hf]
  by_cases e:n - 1<S.length
  ·rw [mB e]
   simp only [iW];have:=hno _ (List.getElem_mem e)
   simp [this]
  ·rw [vC (by omega) (by omega)]
   rfl
structure Fit (n:Nat)(T:Nat->List Pu)(R:Nat->List Pl):Prop where
 eq:∀r,R r=re (T r)
 len:∀r,(T r).length<=n
 nd:∀r,((T r).map (·.1)).Nodup
def te (s n k:Nat)(T:Nat->List Pu)(c:Cp)(m:Int):Nat->List Pu:=if s=0 then T else λx=>if x=fT k s c then m8 n (T (fT k s c)) c m else T x
def iF (s k:Nat)(T:Nat->List Pu)(c:Cp):Int×Bool:=if s=0 then (0,false) else Df (T (fT k s c)) c
variable {s n k:Nat}{T:Nat->List Pu}{R:Nat->List Pl}
theorem Fit.zero (n:Nat):Fit n (λ_=>[]) R0:=⟨λ_=>rfl,λ_=>Nat.zero_le _,λ_=>List.nodup_nil⟩
theorem Fit.xQ (h:Fit n T R)(h1:1<=n)(h4:n<=4)(c:Cp):xQ s n k R c=iF s k T c:=by
 unfold Go.Proofs.YtffmodpgddecnaaGreatDoor.K.xQ iF;by_cases hs:s=0
 ·rw [if_pos hs,if_pos hs]
 ·rw [if_neg hs,if_neg hs,h.eq]
  exact CX (h.len _) h1 h4
theorem Fit.put (h:Fit n T R)(h1:1<=n)(h4:n<=4)(c:Cp)(m:Int):Fit n (te s n k T c m) (CK s n k R c m):=by
 unfold te CK;by_cases hs:s=0
 ·rw [if_pos hs,if_pos hs];exact h
 ·rw [if_neg hs,if_neg hs]
  refine⟨λr=>?_,λr=>?_,λr=>?_⟩
  ·unfold fW
   by_cases e:r=fT k s c
   ·rw [if_pos e]
    rw [if_pos e,h.eq];exact BH m (h.len _) h1 h4 (h.nd _)
   ·rw [if_neg e]
    rw [if_neg e];exact h.eq r
  ·split
   ·exact yt _ _ _
   ·exact h.len r
  ·split
   ·exact sJ _ _ (h.nd _)
   ·exact h.nd r
end Go.Proofs.YtffmodpgddecnaaGreatDoor.K
namespace Go.Proofs.YtffmodpgddecnaaGreatDoor.K
open Go.RowKit
def Kc (w:World)(g s n k:Nat)(T:Nat->List Pu)(E:Nat)(hi mi:Int):Prop:=E<256/\∃R,Ca w g s n k R (E:Int) hi mi/\Fit n T R
def T0:Nat->List Pu:=λ_=>[]
variable {w w':World}{g s n k E:Nat}{T:Nat->List Pu}{hi mi:Int}
theorem Kc.but {S:Nat->Prop}(h:Kc w g s n k T E hi mi)(hb:ah S w w')(h1:¬S g):Kc w' g s n k T E hi mi:=by
 obtain⟨hE,R,hc,hf⟩:=h
 exact⟨hE,R,hc.but hb h1,hf⟩
theorem Kc.later (h:Kc w g s n k T E hi mi)(hb:Below w.heap.size w w'):Kc w' g s n k T E hi mi:=h.but (S:=λ_=>False) (ah.of hb) (λh=>h)
theorem Kc.lt (h:Kc w g s n k T E hi mi):g<w.heap.size:=by
 obtain⟨_,R,hc,hf⟩:=h
 exact hc.lt
theorem JV (s n k:Nat)(w:World)(h1:s<=16)(h2:1<=n)(h3:n<=4)(h4:k<=64) :
  Calls Tryz.prog 96 #[.int .i64 (s:Int),.int .i64 (n:Int),.int .i64 (k:Int)] w λe w'=>∃g,e=.returned (.tuple #[.pointer (some ⟨g,0,none⟩),.int .i64 0])/\Kc w' g s n k T0 0 0 0/\w.heap.size<=g/\Below w.heap.size w w':=by
 refine (bU s n k w h1 h2 h3 h4).mono ?_
 rintro e w' ⟨g,rfl,hc,hg,hb⟩
 exact⟨g,rfl,⟨by decide,R0,hc,Fit.zero n⟩,hg,hb⟩
theorem Kt (h:Kc w g s n k T E hi mi)(c:Cp)(hc:E1 c) :
  Calls Tryz.prog 430 #[.pointer (some ⟨g,0,none⟩),.agg #[.int .i64 c.1,.int .u64 (c.2.1:Int),.int .u64 (c.2.2:Int)]] w λx w'=>x=.returned (.tuple #[.int .i64 (iF s k T c).1,.bool (iF s k T c).2])/\Kc w' g s n k T E (if (iF s k T c).2 then wrap64 (hi+1) else hi) (if (iF s k T c).2 then mi else wrap64 (mi+1))/\ah (λk=>k=g) w w':=by
 obtain⟨hE,R,ha,hf⟩:=h
 have:=Dj ha c hc
 rw [hf.xQ ha.n1 ha.n4] at this;refine this.mono ?_
 rintro e w' ⟨rfl,h2,hb⟩
 exact⟨rfl,⟨hE,R,h2,hf⟩,hb⟩
theorem JW (h:Kc w g s n k T E hi mi)(c:Cp)(m:Int)(hc:E1 c) :
  Calls Tryz.prog 393 #[.pointer (some ⟨g,0,none⟩),.agg #[.int .i64 c.1,.int .u64 (c.2.1:Int),.int .u64 (c.2.2:Int)],.int .i64 m] w λx w'=>x=.returned (.tuple #[])/\Kc w' g s n k (te s n k T c m) E hi mi/\ah (λk=>k=g) w w':=by
 obtain⟨hE,R,ha,hf⟩:=h
 refine (kQ ha c m hc).mono ?_
 rintro e w' ⟨rfl,h2,hb⟩
 exact⟨rfl,⟨hE,_,h2,hf.put ha.n1 ha.n4 c m⟩,hb⟩
theorem EN (h:Kc w g s n k T E hi mi):Calls Tryz.prog 244 #[.pointer (some ⟨g,0,none⟩)] w λx w'=>x=.returned (.tuple #[])/\Kc w' g s n k T0 ((E+1)%256) hi mi/\ah (λk=>k=g) w w':=by
 obtain⟨hE,R,ha,hf⟩:=h
 refine (As ha hE).mono ?_
 rintro e w' ⟨rfl,h2,hb⟩
 exact⟨rfl,⟨Nat.mod_lt _ (by decide),R0,h2,Fit.zero n⟩,hb⟩
end Go.Proofs.YtffmodpgddecnaaGreatDoor.K
namespace Go.Proofs.YtffmodpgddecnaaGreatDoor.L
open Go.RowKit H
def eE (X:List Tk)(l:Fo)(c:Cp):Int:=rg X (aG X l c)
def cQ (X:List Tk)(l:Fo)(need:Int)(c:Cp):Int:=if aR X l c=false then 3 else if aE need (eE X l c)=false then 4 else 0
theorem iL (X:List Tk)(l:Fo)(need:Int)(c:Cp):(aR X l c=false/\cQ X l need c=3)\/(aR X l c=true/\aE need (eE X l c)=false/\cQ X l need c=4)\/(aR X l c=true/\aE need (eE X l c)=true/\cQ X l need c=0):=by
 unfold cQ;cases h1:aR X l c with
 | false=>exact .inl ⟨rfl,by simp⟩
 | true =>
  cases h2:aE need (eE X l c) with
  | false=>exact .inr (.inl ⟨rfl,rfl,by simp⟩)
  | true=>exact .inr (.inr ⟨rfl,rfl,by simp⟩)
def dg (g:Cp->Int)(o:Int):List Cp->Int->Cp×Int
 | [],e=>((0,0,0),e)
 | c::r,e=>if c.1≠o then dg g o r e else if g c=0 then (c,0) else if g c=4 then dg g o r 4 else dg g o r e
theorem vP {g:Cp->Int}{o:Int}{K:List Cp}{i:Nat}{c:Cp}(h:K[i]?=some c)(e:Int) :
  dg g o (K.drop i) e=if c.1≠o then dg g o (K.drop (i+1)) e else if g c=0 then (c,0) else if g c=4 then dg g o (K.drop (i+1)) 4 else dg g o (K.drop (i+1)) e:=by
 obtain⟨hi,rfl⟩:=List.getElem?_eq_some_iff.1 h
 rw [List.drop_eq_getElem_cons hi];rfl
theorem AJ {g:Cp->Int}{o:Int}{K:List Cp}{i:Nat}(h:K.length<=i)(e:Int):dg g o (K.drop i) e=((0,0,0),e):=by
 rw [List.drop_eq_nil_of_le h];rfl
def Tr (X:List Tk)(l:Fo)(T:Nat->List K.Pu):Prop:=∀r x,x∈T r->aR X l x.1=true/\eE X l x.1=x.2
variable {X:List Tk}{l:Fo}{T:Nat->List K.Pu}{s n k:Nat}
theorem Tr.zero (X:List Tk)(l:Fo):Tr X l K.T0:=λr x hx=>by cases hx
theorem Tr.get (h:Tr X l T){c:Cp}(hg:(K.iF s k T c).2=true):aR X l c=true/\(K.iF s k T c).1=eE X l c:=by
 unfold K.iF at hg ⊢
 by_cases hs:s=0
 ·rw [if_pos hs] at hg;cases hg
 ·rw [if_neg hs] at hg ⊢
  unfold K.Df at hg ⊢
  cases hf:(T (K.fT k s c)).find? (λx=>x.1=c) with
  | none=>rw [hf] at hg;cases hg
  | some x =>
   have h1:=List.mem_of_find?_eq_some hf
   have h2:x.1=c:=by simpa using List.find?_some hf
   obtain⟨h3,h4⟩:=h _ x h1
   rw [h2] at h3 h4;exact⟨h3,h4.symm⟩
theorem Tr.put (h:Tr X l T){c:Cp}(hc:aR X l c=true):Tr X l (K.te s n k T c (eE X l c)):=λr x hx=>by
 unfold K.te at hx;split at hx
 ·exact h r x hx
 ·simp only at hx
  split at hx
  ·unfold K.m8 at hx
   rcases List.mem_cons.1 (List.mem_of_mem_take hx) with rfl|h1
   ·exact⟨hc,rfl⟩
   ·exact h _ x (List.mem_filter.1 h1).1
  ·exact h r x hx
theorem FC {m:Nat}(h:Inv m X l){j:Nat}(x:Tk)(hj:(j:Int)∉aj l){a:Int}(ha:a∈aj l):tk (X.set j x) a=tk X a:=bN _ (bd h.ok ha) (λe=>hj (e ▸ ha))
theorem Tr.add {m:Nat}(h:Tr X l T)(hv:Inv m X l)(p:Int)(c:Cp)(r:Int)(hv2:Inv m (gw m X l p c r).X (gw m X l p c r).l):Tr (gw m X l p c r).X (gw m X l p c r).l T:=by
 revert hv2
 unfold gw;by_cases h1:aR X l c=true
 ·rw [if_pos h1];exact λ_=>h
 ·rw [if_neg h1]
  by_cases h2:l.length=m
  ·rw [if_pos h2];exact λ_=>h
  ·rw [if_neg h2]
   intro hv2;have hv2:Inv m (X.set (low l) (c,r)) (l++[((low l:Int),p)]):=hv2
   intro q x hx;obtain⟨h3,h4⟩:=h q x hx
   obtain⟨a,ha,e⟩:=bj.1 h3
   have ht:=FC hv (c,r) (eK l) ha
   have ha2:a∈aj (l++[((low l:Int),p)]):=by rw [cJ];exact List.mem_append_left _ ha
   have h5:aG (X.set (low l) (c,r)) (l++[((low l:Int),p)]) x.1=a:=by
    have:=eg hv2 ha2
    rw [ht,e] at this;exact this
   have h6:aG X l x.1=a:=by rw [<-e];exact eg hv ha
   refine⟨bj.2 ⟨a,ha2,by rw [ht];exact e⟩,?_⟩
   show rg (X.set (low l) (c,r)) (aG (X.set (low l) (c,r)) (l++[((low l:Int),p)]) x.1)=x.2
   rw [<-h4];unfold eE;rw [h5,h6];unfold rg;rw [ht]
theorem found {m:Nat}(h:Inv m X l){c:Cp}(hc:aR X l c=true):aG X l c∈aj l/\(tk X (aG X l c)).1=c:=by
 obtain⟨a,ha,e⟩:=bj.1 hc
 have:=eg h ha
 rw [e] at this;rw [this];exact⟨ha,e⟩
end Go.Proofs.YtffmodpgddecnaaGreatDoor.L
namespace Go.Proofs.YtffmodpgddecnaaGreatDoor.L
open Go.RowKit H
theorem EO (a b:Int)(w:World):Calls Tryz.prog 287 #[.int .i64 a,.int .i64 b] w λe w'=>e=.returned (.bool (aE b a))/\w'=w:=by
 have hp:=ab (eY b a)
 go_enter Tryz.func287,Tryz.ntmps287
 go_wp2_with (first|(go_at_call 279;refine (hp.out _).mono ?_;rintro e w9 ⟨rfl,hw9⟩;obtain rfl:=hw9.symm;clear hw9))
 go_ret;exact⟨rfl,rfl⟩
def dE (X:List Tk)(l:Fo)(c:Cp):Int:=if aR X l c=false then 0 else eE X l c
theorem Bo {w:World}{A:Ad}{kn mo:Nat}{X:List Tk}{l:Fo}(h:ie w A kn mo X l)(c:Cp)(hw:c.2.1<aq/\c.2.2<aq) :
  Calls Tryz.prog 433 #[.agg #[.pointer (some ⟨A.g,0,none⟩)],iu c] w λe w'=>e=.returned (.tuple #[.int .i64 (dE X l c),.bool (aR X l c)])/\Below w.heap.size w w':=by
 obtain⟨o,hi,lo⟩:=c
 obtain⟨w0,hw0⟩:∃w0,w0=(w.alloc (Obj.cells #[.pointer (some ⟨A.g,0,none⟩)] 247)).alloc (Obj.cells #[.int .i64 o,.int .u64 (hi:Int),.int .u64 (lo:Int)] 37):=⟨_,rfl⟩
 have hB0:Below w.heap.size w w0:=by rw [hw0];exact aC _ _ _
 have y1:w0.cell? ⟨w.heap.size,0,none⟩=some (.pointer (some ⟨A.g,0,none⟩)):=by rw [hw0];simp [go_sem]
 have x0:w0.cell? ⟨w.heap.size+1,0,none⟩=some (.int .i64 o):=by rw [hw0];simp [go_sem]
 have x1:w0.cell? ⟨w.heap.size+1,1,none⟩=some (.int .u64 (hi:Int)):=by rw [hw0];simp [go_sem]
 have x2:w0.cell? ⟨w.heap.size+1,2,none⟩=some (.int .u64 (lo:Int)):=by rw [hw0];simp [go_sem]
 have HY:Hid (∀U,Below w0.heap.size w0 U->U.cell? ⟨w.heap.size,0,none⟩=some (.pointer (some ⟨A.g,0,none⟩))):=λU hU=>cell_later hU y1
 have PL:=ab hB0
 have HF:=ab (gV (h.later hB0) (o,hi,lo) hw)
 unfold dE;by_cases hc:aR X l (o,hi,lo)=false
 ·rw [hc] at HF
  simp only [hc,if_true];obtain⟨m,hm⟩:∃m,m=aG X l (o,hi,lo):=⟨_,rfl⟩
  rw [<-hm] at HF;clear h hB0 hc hm;go_enter Tryz.func433,Tryz.ntmps433
  go_upto_region 1 with fail
  rw [<-hw0];clear hw0;go_wp2_with (first
   | (go_at_call 320;refine HF.out.mono ?_;rintro e w2 ⟨rfl,hb2⟩;have PB:=ab (aa PL.out hb2);clear hb2))
  exact bodyPost_ret (v:=.tuple #[.int .i64 0,.bool false]) (by simp [results,Tryz.results433,go_sem]) rfl ⟨rfl,PB.out⟩
 ·have hc':aR X l (o,hi,lo)=true:=by simpa using hc
  rw [hc'] at HF;simp only [hc',Bool.true_eq_false,if_false];obtain⟨hfn,hft⟩:=found h.inv hc'
  obtain⟨p,hp⟩:=av.1 hfn
  have HA:=ab (λ(U:World) (hU:Below w.heap.size w U)=>lF (h.later hU).cm (aG X l (o,hi,lo)) p hp)
  unfold eE;rw [hft] at HA;obtain⟨m,hm⟩:∃m,m=aG X l (o,hi,lo):=⟨_,rfl⟩
  rw [<-hm] at HF HA;rw [<-hm];obtain⟨q,hq⟩:∃q,q=rg X m:=⟨_,rfl⟩
  rw [<-hq] at HA;rw [<-hq];unfold mT at HA;clear h hB0 hc hc' hm hq hft hfn hp;go_enter Tryz.func433,Tryz.ntmps433
  go_upto_region 1 with fail
  rw [<-hw0];clear hw0;go_upto_region 4 with (first
   | (go_at_call 320;refine HF.out.mono ?_;rintro e w2 ⟨rfl,hb2⟩;have PB:=ab (aa PL.out hb2);have z1:=HY.out _ hb2;clear hb2))
  go_wp2_with (first
   | (go_at_call 197;refine (HA.out w2 PB.out).mono ?_;rintro e w3 ⟨rfl,hb3⟩;have PE:=ab (aa PB.out hb3);clear hb3))
  exact bodyPost_ret (v:=.tuple #[.int .i64 q,.bool true]) (by simp [results,Tryz.results433,go_sem]) rfl ⟨rfl,PE.out.alloc PE.out.size _⟩
structure Va (w:World)(v g c:Nat):Prop where
 c0:w.cell? ⟨v,0,none⟩=some (.pointer (some ⟨g,0,none⟩))
 c1:w.cell? ⟨v,1,none⟩=some (.iface 164 (.pointer (some ⟨g,0,none⟩)))
 c2:w.cell? ⟨v,2,none⟩=some (.iface 247 (.agg #[.pointer (some ⟨c,0,none⟩)]))
theorem Va.but {S:Nat->Prop}{w w':World}{v g c:Nat}(h:Va w v g c)(hb:ah S w w')(hn:¬S v):Va w' v g c:=⟨ag hb h.c0 hn,ag hb h.c1 hn,ag hb h.c2 hn⟩
theorem Va.later {w w':World}{v g c:Nat}(h:Va w v g c)(hb:Below w.heap.size w w'):Va w' v g c:=h.but (S:=λ_=>False) (ah.of hb) (λh=>h)
theorem Va.lt {w:World}{v g c:Nat}(h:Va w v g c):v<w.heap.size:=World.block_lt_of_cell? _ _ h.c0
theorem yu (v:Value)(w:World):(Instr.typeAssert (.iface 164 v) 249 247 true).run Tryz.prog w=.ok (.tuple #[.agg #[.pointer none],.bool false]) w:=by kernel_rfl
theorem DR (v:Value)(w:World):(Instr.typeAssert (.iface 164 v) 249 164 true).run Tryz.prog w=.ok (.tuple #[v,.bool true]) w:=by kernel_rfl
theorem xH (v:Value)(w:World):(Instr.typeAssert (.iface 247 v) 249 247 true).run Tryz.prog w=.ok (.tuple #[v,.bool true]) w:=by kernel_rfl
end Go.Proofs.YtffmodpgddecnaaGreatDoor.L
