import Derived.Test.YtfmhdimaijimlaaGreatDoorZ03
set_option linter.all false
set_option maxRecDepth 1000000
set_option maxHeartbeats 8000000
open Go.Proofs.Tryz
variable {w w' w1 w2:Go.World}{n m k i j b g base kn:Nat}{a:Option Go.Addr}
namespace Go.Proofs.YtfmhdimaijimlaaGreatDoor
open Go.RowKit H
theorem vM {A:Ad}{mo:Nat}{T:List (Cp×Int)}{X:List Tk}{l:Fo}(h:Cm w A kn mo T X l)(o:Int)(hi lo:Nat)(v:Int)(b:Bool)
  (hG:∀W,Below w.heap.size w W->Calls prog 258 #[.pointer (some ⟨A.tg,0,none⟩),.agg #[.int .i64 o,.int .u64 (hi:Int),.int .u64 (lo:Int)]] W (λe w'=>e=.returned (.tuple #[.int .i64 v,.bool b])/\Below W.heap.size W w')) :
  Calls prog 196 #[.pointer (some ⟨A.g,0,none⟩),.agg #[.int .i64 o,.int .u64 (hi:Int),.int .u64 (lo:Int)]] w λe w'=>e=.returned (.tuple #[.int .i64 v,.bool b])/\Below w.heap.size w w':=by
 have hN:Hid (∀W,Below w.heap.size w W->Calls prog 230 #[.pointer (some ⟨A.g,0,none⟩),.agg #[.int .i64 o,.int .u64 (hi:Int),.int .u64 (lo:Int)]] W (λe w'=>e=.returned (.tuple #[.int .i64 v,.bool b])/\Below W.heap.size W w')):=by
  intro W hW
  have x0:=(h.later hW).c0
  clear h
  obtain⟨w1,hw1⟩:∃w1,w1=W.alloc (Obj.cells #[.int .i64 o,.int .u64 (hi:Int),.int .u64 (lo:Int)] 38):=⟨_,rfl⟩
  have hB1:Below W.heap.size W w1:=by rw [hw1];exact ab _ _
  have hC:Hid (∀U:World,Below w1.heap.size w1 U->(U.cell? ⟨W.heap.size,0,none⟩=some (.int .i64 o)/\U.cell? ⟨W.heap.size,1,none⟩=some (.int .u64 (hi:Int))/\U.cell? ⟨W.heap.size,2,none⟩=some (.int .u64 (lo:Int))/\U.cell? ⟨A.g,0,none⟩=some (.pointer (some ⟨A.tg,0,none⟩)))/\Below w1.heap.size w1 U):=λU hU =>
   ⟨⟨cell_later hU (by rw [hw1];simp [go_sem]),cell_later hU (by rw [hw1];simp [go_sem]),cell_later hU (by rw [hw1];simp [go_sem]),cell_later hU (cell_later hB1 x0)⟩,hU⟩
  have HG:=aa (λ(U:World) (hU:Below w1.heap.size w1 U)=>hG U (al (al hW hB1) hU))
  have HB1:=aa hB1
  clear hG hB1 hW
  go_enter func230,ntmps230
  go_upto_region 1 with fail
  rw [<-hw1]
  clear hw1
  go_region_held3 (λU=>(U.cell? ⟨W.heap.size,0,none⟩=some (.int .i64 o)/\U.cell? ⟨W.heap.size,1,none⟩=some (.int .u64 (hi:Int))/\U.cell? ⟨W.heap.size,2,none⟩=some (.int .u64 (lo:Int))/\U.cell? ⟨A.g,0,none⟩=some (.pointer (some ⟨A.tg,0,none⟩)))/\Below w1.heap.size w1 U) (first|exact hC.out _ HB2.o|exact hC.out _ (Below.refl _ _).drew) (first
   | (go_at_call 258;refine (HG.o _ (Below.refl _ _).drew).mono ?_;rintro e w2 ⟨rfl,hb2⟩;have HB2:=aa (al (Below.refl w1.heap.size w1).drew hb2);clear hb2))
  go_wp2
  exact bodyPost_ret (v:=.tuple #[.int .i64 v,.bool b]) (by simp [results,results230,go_sem]) rfl ⟨rfl,al HB1.o HB2.o⟩
 obtain⟨w1,hw1⟩:∃w1,w1=w.alloc (Obj.cells #[.int .i64 o,.int .u64 (hi:Int),.int .u64 (lo:Int)] 38):=⟨_,rfl⟩
 have hB1:Below w.heap.size w w1:=by rw [hw1];exact ab _ _
 have hC:Hid (∀U:World,Below w1.heap.size w1 U->(U.cell? ⟨w.heap.size,0,none⟩=some (.int .i64 o)/\U.cell? ⟨w.heap.size,1,none⟩=some (.int .u64 (hi:Int))/\U.cell? ⟨w.heap.size,2,none⟩=some (.int .u64 (lo:Int)))/\Below w1.heap.size w1 U):=λU hU =>
  ⟨⟨cell_later hU (by rw [hw1];simp [go_sem]),cell_later hU (by rw [hw1];simp [go_sem]),cell_later hU (by rw [hw1];simp [go_sem])⟩,hU⟩
 have HB1:=aa hB1
 clear hG hB1 h
 go_enter func196,ntmps196
 go_upto_region 1 with fail
 rw [<-hw1]
 clear hw1
 go_region_held3 (λU=>(U.cell? ⟨w.heap.size,0,none⟩=some (.int .i64 o)/\U.cell? ⟨w.heap.size,1,none⟩=some (.int .u64 (hi:Int))/\U.cell? ⟨w.heap.size,2,none⟩=some (.int .u64 (lo:Int)))/\Below w1.heap.size w1 U) (first|exact hC.out _ HB2.o|exact hC.out _ (Below.refl _ _).drew) (first
  | (go_at_call 230;refine (hN.out _ (al HB1.o (Below.refl _ _).drew)).mono ?_;rintro e w2 ⟨rfl,hb2⟩;have HB2:=aa (al (Below.refl w1.heap.size w1).drew hb2);clear hb2))
 go_wp2
 exact bodyPost_ret (v:=.tuple #[.int .i64 v,.bool b]) (by simp [results,results196,go_sem]) rfl ⟨rfl,al HB1.o HB2.o⟩
theorem uR {A:Ad}{mo:Nat}{T:List (Cp×Int)}{X:List Tk}{l:Fo}(h:Cm w A kn mo T X l)(n o:Int)(hi lo:Nat)(r code:Int)(hc:code≠0)
  (hG:∀W,Below w.heap.size w W->Calls prog 252 #[.pointer (some ⟨A.tg,0,none⟩),.agg #[.int .i64 o,.int .u64 (hi:Int),.int .u64 (lo:Int)],.int .i64 n] W (λe w'=>e=.returned (.int .i64 code)/\Below W.heap.size W w')) :
  Calls prog 219 #[.pointer (some ⟨A.g,0,none⟩),.int .i64 n,.agg #[.int .i64 o,.int .u64 (hi:Int),.int .u64 (lo:Int),.int .i64 r]] w λe w'=>e=.returned (.int .i64 code)/\Below w.heap.size w w':=by
 have x0:=h.c0
 clear h
 obtain⟨w1,hw1⟩:∃w1,w1=w.alloc (Obj.cells #[.int .i64 o,.int .u64 (hi:Int),.int .u64 (lo:Int),.int .i64 r] 271):=⟨_,rfl⟩
 have hB1:Below w.heap.size w w1:=by rw [hw1];exact ab _ _
 have hC:Hid (∀U:World,Below w1.heap.size w1 U->(U.cell? ⟨w.heap.size,0,none⟩=some (.int .i64 o)/\U.cell? ⟨w.heap.size,1,none⟩=some (.int .u64 (hi:Int))/\U.cell? ⟨w.heap.size,2,none⟩=some (.int .u64 (lo:Int))/\U.cell? ⟨A.g,0,none⟩=some (.pointer (some ⟨A.tg,0,none⟩)))/\Below w1.heap.size w1 U):=λU hU =>
  ⟨⟨cell_later hU (by rw [hw1];simp [go_sem]),cell_later hU (by rw [hw1];simp [go_sem]),cell_later hU (by rw [hw1];simp [go_sem]),cell_later hU (cell_later hB1 x0)⟩,hU⟩
 have HG:=aa (λ(U:World) (hU:Below w1.heap.size w1 U)=>hG U (al hB1 hU))
 have HB1:=aa hB1
 clear hG hB1
 go_enter func219,ntmps219
 go_upto_region 1 with fail
 rw [<-hw1]
 clear hw1
 go_region_held3 (λU=>(U.cell? ⟨w.heap.size,0,none⟩=some (.int .i64 o)/\U.cell? ⟨w.heap.size,1,none⟩=some (.int .u64 (hi:Int))/\U.cell? ⟨w.heap.size,2,none⟩=some (.int .u64 (lo:Int))/\U.cell? ⟨A.g,0,none⟩=some (.pointer (some ⟨A.tg,0,none⟩)))/\Below w1.heap.size w1 U) (first|exact hC.out _ HB2.o|exact hC.out _ (Below.refl _ _).drew) (first
  | (go_at_call 252;refine (HG.o _ (Below.refl _ _).drew).mono ?_;rintro e w2 ⟨rfl,hb2⟩;have HB2:=aa (al (Below.refl w1.heap.size w1).drew hb2);clear hb2))
 go_wp2
 go_ret
 exact⟨rfl,al HB1.o HB2.o⟩
theorem C8 {A:Ad}{mo:Nat}{T T':List (Cp×Int)}{X:List Tk}{l:Fo}(h:Cm w A kn mo T X l)(n:Nat)(hn:n<mo)(o:Int)(hi lo:Nat)(r:Int)
  (hG:∀W,Below w.heap.size w W->Calls prog 252 #[.pointer (some ⟨A.tg,0,none⟩),.agg #[.int .i64 o,.int .u64 (hi:Int),.int .u64 (lo:Int)],.int .i64 (n:Int)] W (λe w'=>e=.returned (.int .i64 0)/\I.Tb w' A.tg A.tb kn mo A.N T'/\ae (I.In A.tg A.tb) W w')) :
  Calls prog 219 #[.pointer (some ⟨A.g,0,none⟩),.int .i64 (n:Int),.agg #[.int .i64 o,.int .u64 (hi:Int),.int .u64 (lo:Int),.int .i64 r]] w λe w'=>e=.returned (.int .i64 0)/\Cm w' A kn mo T' (X.set n ((o,hi,lo),r)) l/\ae A.Wr w w':=by
 have x0:=h.c0
 have hl:=h.lt
 obtain⟨w1,hw1⟩:∃w1,w1=w.alloc (Obj.cells #[.int .i64 o,.int .u64 (hi:Int),.int .u64 (lo:Int),.int .i64 r] 271):=⟨_,rfl⟩
 have hB1:Below w.heap.size w w1:=by rw [hw1];exact ab _ _
 have hni:∀k,I.In A.tg A.tb k->k<w.heap.size:=by
  rintro k (rfl|rfl)
  ·exact hl _ (.inr (.inr (.inl rfl)))
  ·exact hl _ (.inr (.inr (.inr (.inl rfl))))
 have hng:¬I.In A.tg A.tb A.g:=by rintro (e|e);exact h.p_.d1 e.symm;exact h.p_.d2 e.symm
 have hns:¬I.In A.tg A.tb w.heap.size:=λhs=>by have:=hni _ hs;omega
 have hC:Hid (∀U:World,ae (I.In A.tg A.tb) w1 U->(U.cell? ⟨w.heap.size,0,none⟩=some (.int .i64 o)/\U.cell? ⟨w.heap.size,1,none⟩=some (.int .u64 (hi:Int))/\U.cell? ⟨w.heap.size,2,none⟩=some (.int .u64 (lo:Int))/\U.cell? ⟨w.heap.size,3,none⟩=some (.int .i64 r)/\U.cell? ⟨A.g,0,none⟩=some (.pointer (some ⟨A.tg,0,none⟩)))/\ae (I.In A.tg A.tb) w1 U):=λU hU =>
  ⟨⟨aC hU (by rw [hw1];simp [go_sem]) hns,aC hU (by rw [hw1];simp [go_sem]) hns,aC hU (by rw [hw1];simp [go_sem]) hns,aC hU (by rw [hw1];simp [go_sem]) hns,aC hU (cell_later hB1 x0) hng⟩,hU⟩
 have HG:=aa (λ(U:World) (hU:Below w1.heap.size w1 U)=>hG U (al hB1 hU))
 have HB1:=aa hB1
 have HH:=aa h
 have mX:=h.small
 have hne:=h.p_.d3
 have hse:¬w.heap.size=A.eb:=by have:=h.BQ;omega
 clear hG hB1 h hni hng hns hl
 go_enter func219,ntmps219
 go_upto_region 1 with fail
 rw [<-hw1]
 clear hw1
 go_region_held3 (λU=>(U.cell? ⟨w.heap.size,0,none⟩=some (.int .i64 o)/\U.cell? ⟨w.heap.size,1,none⟩=some (.int .u64 (hi:Int))/\U.cell? ⟨w.heap.size,2,none⟩=some (.int .u64 (lo:Int))/\U.cell? ⟨w.heap.size,3,none⟩=some (.int .i64 r)/\U.cell? ⟨A.g,0,none⟩=some (.pointer (some ⟨A.tg,0,none⟩)))/\ae (I.In A.tg A.tb) w1 U) (first|exact hC.out _ HB2.o|exact hC.out _ (ae.of (Below.refl _ _).drew)) (first
  | (go_at_call 252;refine (HG.o _ (Below.refl _ _).drew).mono ?_;rintro e w2 ⟨rfl,ht2,hb2⟩;have HB2:=aa ((ae.of (S:=I.In A.tg A.tb) (Below.refl w1.heap.size w1).drew).trans hb2);have HT2:=aa ht2;clear hb2 ht2))
 obtain⟨⟨y0,y1,y2,y3,_⟩,_⟩:=hC.out _ HB2.o
 have hM:=(HH.o.later HB1.o).IW HB2.o HT2.o
 have z1:=hM.c1
 obtain⟨p0,p1,p2,p3⟩:=hM.at_ hn
 have hfr:=hM.fr
 have hfin:∀W:World,W=(kA w2 A.eb (n*4) ((o,hi,lo),r)).drew->Cm W A kn mo T' (X.set n ((o,hi,lo),r)) l/\ae A.Wr w W:=by
  rintro W rfl
  refine⟨(hM.CQ hn _).later (Below.refl _ _).drew,(lH ((ae.of HB1.o).trans (HB2.o.mono ?_)) (.inr (.inr (.inl rfl))) _ _).call (Below.refl _ _).drew⟩
  rintro k (rfl|rfl)
  ·exact .inl rfl
  ·exact .inr (.inl rfl)
 have HF:=aa hfin
 clear hM hfin
 go_wp2
 go_region
 go_wp2
 go_ret
 exact⟨rfl,HF.o _ rfl⟩
theorem IS {A:Ad}(h:I.In A.tg A.tb k):A.Wr k:=by
 rcases h with rfl|rfl
 ·exact .inl rfl
 ·exact .inr (.inl rfl)
theorem wM {A:Ad}{mo:Nat}{T T':List (Cp×Int)}{X:List Tk}{l:Fo}(h:Cm w A kn mo T X l)(n:Nat)(hn:n<mo)(o:Int)(hi lo:Nat)(r:Int)(hx:tk X (n:Int)=((o,hi,lo),r))
  (hG:∀W,Below w.heap.size w W->Calls prog 260 #[.pointer (some ⟨A.tg,0,none⟩),.agg #[.int .i64 o,.int .u64 (hi:Int),.int .u64 (lo:Int)]] W (λe w'=>(∃b,e=.returned (.bool b))/\I.Tb w' A.tg A.tb kn mo A.N T'/\ae (I.In A.tg A.tb) W w')) :
  Calls prog 232 #[.pointer (some ⟨A.g,0,none⟩),.int .i64 (n:Int)] w λe w'=>e=.returned (ir (o,hi,lo))/\Cm w' A kn mo T' (X.set n tz) l/\ae A.Wr w w':=by
 have hl:=h.lt
 have hE:=h.at_ hn
 rw [hx] at hE
 obtain⟨w0,hw0⟩:∃w0,w0=w.alloc (Obj.cells #[.int .i64 0,.int .u64 0,.int .u64 0] 38):=⟨_,rfl⟩
 have hB0:Below w.heap.size w w0:=by rw [hw0];exact ab _ _
 have x0:=cell_later hB0 h.c0
 have x1:=cell_later hB0 h.c1
 obtain⟨e0,e1,e2,e3⟩:=hE.later hB0
 simp only at e0 e1 e2 e3
 have hlt0:w.heap.size<w0.heap.size:=by rw [hw0];simp
 obtain⟨w1,hw1⟩:∃w1,w1=w0.alloc (Obj.cells #[.int .i64 o,.int .u64 (hi:Int),.int .u64 (lo:Int)] 38):=⟨_,rfl⟩
 have hB01:Below w0.heap.size w0 w1:=by rw [hw1];exact ab _ _
 have hB1:Below w.heap.size w w1:=al hB0 hB01
 have hni:∀k,I.In A.tg A.tb k->k<w.heap.size:=by
  rintro k (rfl|rfl)
  ·exact hl _ (.inr (.inr (.inl rfl)))
  ·exact hl _ (.inr (.inr (.inr (.inl rfl))))
 have hng:¬I.In A.tg A.tb A.g:=by rintro (e|e);exact h.p_.d1 e.symm;exact h.p_.d2 e.symm
 have hns:¬I.In A.tg A.tb w.heap.size:=λhs=>by have:=hni _ hs;omega
 have hns1:¬I.In A.tg A.tb w0.heap.size:=λhs=>by have:=hni _ hs;omega
 have hC:Hid (∀U:World,ae (I.In A.tg A.tb) w1 U->(U.cell? ⟨w0.heap.size,0,none⟩=some (.int .i64 o)/\U.cell? ⟨w0.heap.size,1,none⟩=some (.int .u64 (hi:Int))/\U.cell? ⟨w0.heap.size,2,none⟩=some (.int .u64 (lo:Int))/\U.cell? ⟨A.g,0,none⟩=some (.pointer (some ⟨A.tg,0,none⟩)))/\ae (I.In A.tg A.tb) w1 U):=λU hU =>
  ⟨⟨aC hU (by rw [hw1];simp [go_sem]) hns1,aC hU (by rw [hw1];simp [go_sem]) hns1,aC hU (by rw [hw1];simp [go_sem]) hns1,aC hU (cell_later hB01 x0) hng⟩,hU⟩
 have hL0:aq w0 ⟨w.heap.size,0,none⟩ (.int .i64 0)/\aq w0 ⟨w.heap.size,1,none⟩ (.int .u64 0)/\aq w0 ⟨w.heap.size,2,none⟩ (.int .u64 0):=by
  rw [hw0];exact⟨⟨by simp [go_sem],by simp [go_sem]⟩,⟨by simp [go_sem],by simp [go_sem]⟩,⟨by simp [go_sem],by simp [go_sem]⟩⟩
 have hD:Hid (∀U:World,ae (I.In A.tg A.tb) w1 U->aq U ⟨w.heap.size,0,none⟩ (.int .i64 0)/\aq U ⟨w.heap.size,1,none⟩ (.int .u64 0)/\aq U ⟨w.heap.size,2,none⟩ (.int .u64 0)):=λU hU =>
  ⟨(hL0.1.later hB01).but hU hns,(hL0.2.1.later hB01).but hU hns,(hL0.2.2.later hB01).but hU hns⟩
 have HG:=aa (λ(U:World) (hU:Below w1.heap.size w1 U)=>hG U (al hB1 hU))
 have HB1:=aa hB1
 have HH:=aa h
 have mX:=h.small
 have hse:¬w.heap.size=A.eb:=by have:=h.BQ;omega
 have hse1:¬w0.heap.size=A.eb:=by have:=h.BQ;omega
 have hge:¬A.g=A.eb:=λe=>h.p_.d3 e.symm
 have hslt:¬w.heap.size=w0.heap.size:=by omega
 clear hG hB1 h hni hng hns hns1 hl hx hE hL0 hB01 hB0 hlt0
 go_enter func232,ntmps232
 go_upto_region 1 with fail
 rw [<-hw0]
 clear hw0
 go_upto_region 2 with fail
 rw [<-hw1]
 clear hw1 x0 x1 e0 e1 e2 e3
 go_region_held3 (λU=>(U.cell? ⟨w0.heap.size,0,none⟩=some (.int .i64 o)/\U.cell? ⟨w0.heap.size,1,none⟩=some (.int .u64 (hi:Int))/\U.cell? ⟨w0.heap.size,2,none⟩=some (.int .u64 (lo:Int))/\U.cell? ⟨A.g,0,none⟩=some (.pointer (some ⟨A.tg,0,none⟩)))/\ae (I.In A.tg A.tb) w1 U) (first|exact hC.out _ HB2.o|exact hC.out _ (ae.of (Below.refl _ _).drew)) (first
  | (go_at_call 260;refine (HG.o _ (Below.refl _ _).drew).mono ?_;rintro e w2 ⟨⟨b,rfl⟩,ht2,hb2⟩;have HB2:=aa ((ae.of (S:=I.In A.tg A.tb) (Below.refl w1.heap.size w1).drew).trans hb2);have HT2:=aa ht2;clear hb2 ht2))
 obtain⟨⟨y0,y1,y2,_⟩,_⟩:=hC.out _ HB2.o
 obtain⟨⟨r0,q0⟩,⟨r1,q1⟩,⟨r2,q2⟩⟩:=hD.out _ HB2.o
 have hM:=(HH.o.later HB1.o).IW HB2.o HT2.o
 have z1:=hM.c1
 obtain⟨p0,p1,p2,p3⟩:=hM.at_ hn
 have hfr:=hM.fr
 have hfin:∀W:World,W=(((kA w2 A.eb (n*4) tz).setCell ⟨w.heap.size,0,none⟩ (.int .i64 o)).setCell ⟨w.heap.size,1,none⟩ (.int .u64 (hi:Int))).setCell ⟨w.heap.size,2,none⟩ (.int .u64 (lo:Int))->Cm W A kn mo T' (X.set n tz) l/\ae A.Wr w W:=by
  rintro W rfl
  have hb:ae (·=w.heap.size) (kA w2 A.eb (n*4) tz) ((((kA w2 A.eb (n*4) tz).setCell ⟨w.heap.size,0,none⟩ (.int .i64 o)).setCell ⟨w.heap.size,1,none⟩ (.int .u64 (hi:Int))).setCell ⟨w.heap.size,2,none⟩ (.int .u64 (lo:Int))) :=
   (((ae.refl (·=w.heap.size) _).setCell (p:=⟨w.heap.size,0,none⟩) rfl _).setCell (p:=⟨w.heap.size,1,none⟩) rfl _).setCell (p:=⟨w.heap.size,2,none⟩) rfl _
  refine⟨(hM.CQ hn _).but hb (λk hk e=>by have:=HH.o.lt k hk;omega),ae.comp (lH ((ae.of HB1.o).trans (HB2.o.mono λk hk=>IS hk)) (.inr (.inr (.inl rfl))) _ _) hb (λi e=>.inr (by omega))⟩
 have HF:=aa hfin
 clear hM hfin
 go_wp2
 exact bodyPost_ret (v:=ir (o,hi,lo)) (by simp [results,results232,go_sem,r0,r1,r2]) rfl ⟨rfl,HF.o _ rfl⟩
def eX (T:List (Cp×Int))(c:Cp):List (Cp×Int):=T.filter (λe=>decide (e.1≠c))
theorem lB:∀{T:List (Cp×Int)} {c:Cp} {v:Int},(T.map Prod.fst).Nodup->(c,v)∈T->T.Perm ((c,v)::eX T c)
 | [],_,_,_,h=>by cases h
 | (d,u)::T,c,v,hn,h=>by
  rw [List.map_cons,List.nodup_cons] at hn
  by_cases e:d=c
  ·subst e
   have hu:v=u:=by
    rcases List.mem_cons.1 h with h|h
    ·exact (Prod.mk.inj h).2
    ·exact absurd (List.mem_map.2 ⟨_,h,rfl⟩) hn.1
   subst hu
   have hT:eX T d=T:=List.filter_eq_self.2 (λx hx=>dT (λe=>hn.1 (List.mem_map.2 ⟨x,hx,e⟩)))
   have:eX ((d,v)::T) d=T:=by unfold eX;rw [List.filter_cons_of_neg (by simp)];exact hT
   rw [this]
  ·have h':(c,v)∈T:=by
    rcases List.mem_cons.1 h with h|h
    ·exact absurd (Prod.mk.inj h).1.symm e
    ·exact h
   have:eX ((d,u)::T) c=(d,u)::eX T c:=by unfold eX;rw [List.filter_cons_of_pos (by simpa using e)]
   rw [this]
   exact ((lB hn.2 h').cons _).trans (List.Perm.swap _ _ _)
theorem ud {T:List (Cp×Int)}{c:Cp}(h:c∉T.map Prod.fst):eX T c=T:=List.filter_eq_self.2 (λx hx=>dT (λe=>h (List.mem_map.2 ⟨x,hx,e⟩)))
theorem sL {A:Ad}{mo:Nat}{T:List (Cp×Int)}{X:List Tk}{l:Fo}(h:Cm w A kn mo T X l)(n:Nat)(hn:n<mo)(hw:(tk X (n:Int)).1.2.1<ak/\(tk X (n:Int)).1.2.2<ak) :
  Calls prog 232 #[.pointer (some ⟨A.g,0,none⟩),.int .i64 (n:Int)] w λe w'=>e=.returned (ir (tk X (n:Int)).1)/\Cm w' A kn mo (eX T (tk X (n:Int)).1) (X.set n tz) l/\ae A.Wr w w':=by
 obtain⟨⟨o,hi,lo⟩,r,hx⟩:∃c r,tk X (n:Int)=(c,r):=⟨_,_,rfl⟩
 rw [hx] at hw ⊢
 refine wM h n hn o hi lo r hx (λW hW=>?_)
 by_cases hc:(o,hi,lo)∈T.map Prod.fst
 ·obtain⟨⟨c,v⟩,hm,rfl⟩:=List.mem_map.1 hc
  exact (I.o_ (h.uj.later hW) _ _ _ hw.1 hw.2 v hm _ (lB h.uj.nodup hm)).mono (λe w' he=>⟨⟨_,he.1⟩,he.2⟩)
 ·rw [ud hc]
  exact (I.yb (h.uj.later hW) _ _ _ hw.1 hw.2 hc).mono (λe w' he=>⟨⟨_,he.1⟩,(h.uj.later hW).later he.2,ae.of he.2⟩)
theorem lZ {A:Ad}{mo:Nat}{T:List (Cp×Int)}{X:List Tk}{l:Fo}(h:Cm w A kn mo T X l)(p:Int)(n:Nat)(hn:n<mo)(hl:(n:Int)∉ah l)(hp:p=-1\/p∈ah l) :
  Calls prog 220 #[.pointer (some ⟨A.g,2,none⟩),.int .i64 p,.int .i64 (n:Int)] w λe w'=>e=.returned (.tuple #[])/\Cm w' A kn mo T X (l++[((n:Int),p)])/\ae A.Wr w w':=by
 have x2:=h.c2
 have HH:=aa h
 by_cases hq:p=-1
 ·subst hq
  have hc:=aa (gy h.nB (n:Int))
  have HL:Hid (rU mo l (n:Int)=l++[((n:Int),-1)]):=by unfold Hid rU;rw [if_pos ⟨by omega,hl⟩]
  clear h hl hp
  go_enter func220,ntmps220
  go_wp2_with (first|(go_at_call 253;refine hc.out.mono ?_;rintro e w1 ⟨rfl,hk,hb⟩;have HK:=aa hk;have HB:=aa hb;clear hk hb))
  refine bodyPost_ret (results_none rfl _ _ _) rfl ⟨rfl,?_,HB.o.mono (λk e=>.inr (.inr (.inr e)))⟩
  rw [<-HL.o]
  exact HH.o.sD HB.o HK.o
 ·have hp':p∈ah l:=hp.resolve_left hq
  have hc:=aa (wz h.nB p (n:Int))
  have HL:Hid (l9 mo l p (n:Int)=l++[((n:Int),p)]):=by unfold Hid l9;rw [if_pos ⟨hp',by omega,hl⟩]
  have hb1:(p==(-1:Int))=false:=by simp [hq]
  clear h hl hp hp'
  go_enter func220,ntmps220
  go_wp2_with (first|(go_at_call 254;refine hc.out.mono ?_;rintro e w1 ⟨rfl,hk,hb⟩;have HK:=aa hk;have HB:=aa hb;clear hk hb))
  go_end0
  refine⟨rfl,?_,HB.o.mono (λk e=>.inr (.inr (.inr e)))⟩
  rw [<-HL.o]
  exact HH.o.sD HB.o HK.o
theorem dg {A:Ad}{mo:Nat}{T:List (Cp×Int)}{X:List Tk}{l:Fo}(h:Cm w A kn mo T X l) :
  Calls prog 218 #[.pointer (some ⟨A.g,0,none⟩)] w λe w'=>e=.returned (.int .i64 (low l:Int))/\w'=w:=by
 have hok:=aa h.nB.ok
 have mX:=h.small
 have hlen:=hok.out.len
 have hH:=λn:Int=>aa (fh h n)
 clear h
 go_enter func218,ntmps218
 go_upto_region 2 with fail
 go_loopw [3] (λv w'=>∃(i:Nat),v=.int .i64 (i:Int)/\i<=l.length/\Hid (∀j:Nat,j<i->(j:Int)∈ah l)/\w=w') (λk _=>l.length - (intOf k).toNat)
 case atStart=>exact⟨0,rfl,Nat.zero_le _,λj hj=>by omega,rfl⟩
 case round =>
  obtain⟨i,rfl,hi,hx,rfl⟩:=hrel
  have hh:=(hH (i:Int)).out
  by_cases hin:(i:Int)∈ah l
  ·rw [dT hin] at hh
   have hx1:Hid (∀j:Nat,j<i+1->(j:Int)∈ah l):=λj hj=>by
    by_cases e:j=i
    ·rw [e];exact hin
    ·exact hx.out j (by omega)
   have hlt:i+1<=l.length:=gY hx1.out
   clear hin
   go_wp2_with (first|(go_at_call 173;refine hh.mono ?_;rintro e w1 ⟨rfl,rfl⟩))
   refine⟨⟨i+1,by go_num,by omega,hx1,trivial⟩,by simp [intOf];omega⟩
  ·rw [dF hin] at hh
   have HE:Hid (low l=i):=tN hin hx.out
   clear hin
   go_wp2_with (first|(go_at_call 173;refine hh.mono ?_;rintro e w1 ⟨rfl,rfl⟩))
   go_ret
   exact⟨by rw [HE.o];rfl,rfl⟩
abbrev mZ (c:Cp)(r p:Int):Value:=.agg #[.int .i64 c.1,.int .u64 (c.2.1:Int),.int .u64 (c.2.2:Int),.int .i64 r,.int .i64 p]
def JV (w:World)(b:Nat)(c:Cp)(r p:Int):World :=
 ((((w.setCell ⟨b,0,none⟩ (.int .i64 c.1)).setCell ⟨b,1,none⟩ (.int .u64 (c.2.1:Int))).setCell ⟨b,2,none⟩ (.int .u64 (c.2.2:Int))).setCell ⟨b,3,none⟩ (.int .i64 r)).setCell ⟨b,4,none⟩ (.int .i64 p)
theorem qE {S:Nat->Prop}{a:World}(h:ae S a w)(hb:S b)(c:Cp)(r p:Int):ae S a (JV w b c r p) :=
 ((((h.setCell (p:=⟨b,0,none⟩) hb _).setCell (p:=⟨b,1,none⟩) hb _).setCell (p:=⟨b,2,none⟩) hb _).setCell (p:=⟨b,3,none⟩) hb _).setCell (p:=⟨b,4,none⟩) hb _
theorem lQ {A:Ad}{mo:Nat}{T:List (Cp×Int)}{X:List Tk}{l:Fo}(h:Cm w A kn mo T X l)(n p:Int)(hp:(n,p)∈l) :
  Calls prog 122 #[.pointer (some ⟨A.g,0,none⟩),.int .i64 n] w λe w'=>e=.returned (.tuple #[mZ (tk X n).1 (rg X n) p,.bool true])/\Below w.heap.size w w':=by
 have hnl:=cE.2 ⟨p,hp⟩
 have hrn:=h.nB.ok.range n hnl
 obtain⟨k,rfl⟩:∃k:Nat,n=(k:Int):=⟨n.toNat,by omega⟩
 have hk:k<mo:=by omega
 obtain⟨w0,hw0⟩:∃w0,w0=w.alloc (Obj.cells #[.int .i64 0,.int .u64 0,.int .u64 0,.int .i64 0,.int .i64 0] 61):=⟨_,rfl⟩
 have hB0:Below w.heap.size w w0:=by rw [hw0];exact ab _ _
 have h0:=h.later hB0
 have hh:=aa (fh h0 (k:Int))
 rw [dT hnl] at hh
 have x1:=h0.c1
 obtain⟨c,r,hxx⟩:∃c r,tk X (k:Int)=(c,r):=⟨_,_,rfl⟩
 have hE:=h0.at_ hk
 rw [hxx] at hE
 have hrg:rg X (k:Int)=r:=by unfold rg;rw [hxx]
 rw [hrg,hxx]
 obtain⟨o,hi,lo⟩:=c
 obtain⟨e0,e1,e2,e3⟩:=hE
 simp only at e0 e1 e2 e3
 obtain⟨w1,hw1⟩:∃w1,w1=w0.alloc (Obj.cells #[.int .i64 o,.int .u64 (hi:Int),.int .u64 (lo:Int),.int .i64 r] 271):=⟨_,rfl⟩
 have hB1:Below w0.heap.size w0 w1:=by rw [hw1];exact ab _ _
 have hP:=λ(W:World) (hW:Below w1.heap.size w1 W)=>rE (h0.later (al hB1 hW)) (k:Int) p hp
 have hlt0:w.heap.size<w0.heap.size:=by rw [hw0];simp
 have hL0:aq w0 ⟨w.heap.size,0,none⟩ (.int .i64 0)/\aq w0 ⟨w.heap.size,1,none⟩ (.int .u64 0)/\aq w0 ⟨w.heap.size,2,none⟩ (.int .u64 0)/\aq w0 ⟨w.heap.size,3,none⟩ (.int .i64 0)/\aq w0 ⟨w.heap.size,4,none⟩ (.int .i64 0):=by
  rw [hw0];exact⟨⟨by simp [go_sem],by simp [go_sem]⟩,⟨by simp [go_sem],by simp [go_sem]⟩,⟨by simp [go_sem],by simp [go_sem]⟩,⟨by simp [go_sem],by simp [go_sem]⟩,⟨by simp [go_sem],by simp [go_sem]⟩⟩
 have z0:w1.cell? ⟨w0.heap.size,0,none⟩=some (.int .i64 o):=by rw [hw1];simp [go_sem]
 have z1:w1.cell? ⟨w0.heap.size,1,none⟩=some (.int .u64 (hi:Int)):=by rw [hw1];simp [go_sem]
 have z2:w1.cell? ⟨w0.heap.size,2,none⟩=some (.int .u64 (lo:Int)):=by rw [hw1];simp [go_sem]
 have z3:w1.cell? ⟨w0.heap.size,3,none⟩=some (.int .i64 r):=by rw [hw1];simp [go_sem]
 have hL:Hid (∀U,Below w1.heap.size w1 U->aq U ⟨w.heap.size,0,none⟩ (.int .i64 0)/\aq U ⟨w.heap.size,1,none⟩ (.int .u64 0)/\aq U ⟨w.heap.size,2,none⟩ (.int .u64 0)/\aq U ⟨w.heap.size,3,none⟩ (.int .i64 0)/\aq U ⟨w.heap.size,4,none⟩ (.int .i64 0)):=λU hU =>
  ⟨(hL0.1.later hB1).later hU,(hL0.2.1.later hB1).later hU,(hL0.2.2.1.later hB1).later hU,(hL0.2.2.2.1.later hB1).later hU,(hL0.2.2.2.2.later hB1).later hU⟩
 have hC:Hid (∀U:World,ae (·=w.heap.size) w1 U->(U.cell? ⟨w0.heap.size,0,none⟩=some (.int .i64 o)/\U.cell? ⟨w0.heap.size,1,none⟩=some (.int .u64 (hi:Int))/\U.cell? ⟨w0.heap.size,2,none⟩=some (.int .u64 (lo:Int))/\U.cell? ⟨w0.heap.size,3,none⟩=some (.int .i64 r))/\ae (·=w.heap.size) w1 U):=λU hU =>
  ⟨⟨aC hU z0 (λe=>by simp at e;omega),aC hU z1 (λe=>by simp at e;omega),aC hU z2 (λe=>by simp at e;omega),aC hU z3 (λe=>by simp at e;omega)⟩,hU⟩
 have HP:=aa hP
 have hslt:¬w.heap.size=w0.heap.size:=by omega
 have HB:Hid (∀W,ae (·=w.heap.size) w1 W->Below w.heap.size w W):=λW hW=>ae.below (al hB0 hB1) hW (λk e=>by omega)
 have mX:=h.small
 clear h h0 hL0 hP hB0 hB1 hlt0 hxx hrg hp hnl
 go_enter func122,ntmps122
 go_upto_region 1 with fail
 rw [<-hw0]
 clear hw0
 go_upto_region 4 with (first|(go_at_call 173;refine hh.out.mono ?_;rintro e w9 ⟨rfl,hw9⟩;obtain rfl:=hw9.symm;clear hw9))
 rw [<-hw1]
 clear hw1 e0 e1 e2 e3 x1
 go_region_held3 (λU=>(U.cell? ⟨w0.heap.size,0,none⟩=some (.int .i64 o)/\U.cell? ⟨w0.heap.size,1,none⟩=some (.int .u64 (hi:Int))/\U.cell? ⟨w0.heap.size,2,none⟩=some (.int .u64 (lo:Int))/\U.cell? ⟨w0.heap.size,3,none⟩=some (.int .i64 r))/\ae (·=w.heap.size) w1 U) (first|exact hC.out _ HST.o|exact hC.out _ HB2.o|exact hC.out _ (ae.of (Below.refl _ _).drew)) (first
  | (go_at_call 174;refine (HP.o _ (Below.refl _ _).drew).mono ?_;rintro e w2 ⟨rfl,hw2⟩;have hb2:Below w1.heap.size w1 w2:=(by rw [hw2];exact (Below.refl _ _).drew);have HB2:=aa (ae.of (S:=(·=w.heap.size)) hb2);have HST:=aa (qE (S:=(·=w.heap.size)) HB2.o (b:=w.heap.size) (by rfl) (o,hi,lo) r p);obtain⟨⟨r0,f0⟩,⟨r1,f1⟩,⟨r2,f2⟩,⟨r3,f3⟩,⟨r4,f4⟩⟩:=hL.out w2 hb2;clear hw2 hb2))
 go_wp2
 exact bodyPost_ret (v:=.tuple #[mZ (o,hi,lo) r p,.bool true]) (by simp [results,results122,go_sem,r0,r1,r2,r3,r4]) rfl ⟨rfl,HB.o _ HST.o⟩
theorem FB {A:Ad}{mo:Nat}{T:List (Cp×Int)}{X:List Tk}{l:Fo}(h:Cm w A kn mo T X l)(n:Int)(hn:n∉ah l) :
  Calls prog 122 #[.pointer (some ⟨A.g,0,none⟩),.int .i64 n] w λe w'=>e=.returned (.tuple #[mZ (0,0,0) 0 0,.bool false])/\Below w.heap.size w w':=by
 obtain⟨w0,hw0⟩:∃w0,w0=w.alloc (Obj.cells #[.int .i64 0,.int .u64 0,.int .u64 0,.int .i64 0,.int .i64 0] 61):=⟨_,rfl⟩
 have hB0:Below w.heap.size w w0:=by rw [hw0];exact ab _ _
 have hh:=aa (fh (h.later hB0) n)
 rw [dF hn] at hh
 obtain⟨⟨r0,f0⟩,⟨r1,f1⟩,⟨r2,f2⟩,⟨r3,f3⟩,⟨r4,f4⟩⟩:aq w0 ⟨w.heap.size,0,none⟩ (.int .i64 0)/\aq w0 ⟨w.heap.size,1,none⟩ (.int .u64 0)/\aq w0 ⟨w.heap.size,2,none⟩ (.int .u64 0)/\aq w0 ⟨w.heap.size,3,none⟩ (.int .i64 0)/\aq w0 ⟨w.heap.size,4,none⟩ (.int .i64 0):=by
  rw [hw0];exact⟨⟨by simp [go_sem],by simp [go_sem]⟩,⟨by simp [go_sem],by simp [go_sem]⟩,⟨by simp [go_sem],by simp [go_sem]⟩,⟨by simp [go_sem],by simp [go_sem]⟩,⟨by simp [go_sem],by simp [go_sem]⟩⟩
 have HB:Hid (∀W,ae (·=w.heap.size) w0 W->Below w.heap.size w W):=λW hW=>ae.below hB0 hW (λk e=>by omega)
 clear h hB0 hn
 go_enter func122,ntmps122
 go_upto_region 1 with fail
 rw [<-hw0]
 clear hw0
 go_wp2_with (first|(go_at_call 173;refine hh.out.mono ?_;rintro e w9 ⟨rfl,hw9⟩;obtain rfl:=hw9.symm;clear hw9))
 exact bodyPost_ret (v:=.tuple #[mZ (0,0,0) 0 0,.bool false]) (by simp [results,results122,go_sem,r0,r1,r2,r3,r4]) rfl ⟨rfl,HB.o _ (qE (S:=(·=w.heap.size)) (ae.refl _ _) (b:=w.heap.size) rfl (0,0,0) 0 0)⟩
def ER (w:World)(X:List Tk)(l:Fo)(o:Int)(mo:Nat)(t:Value)(w':World):Prop :=
 ∃i:Nat,t=.int .i64 (i:Int)/\i<=mo/\Hid (∀j:Nat,j<i->((j:Int),-1)∈l->ob X (j:Int)≠o)/\Below w.heap.size w w'
theorem jQ {A:Ad}{mo:Nat}{T:List (Cp×Int)}{X:List Tk}{l:Fo}(h:Cm w A kn mo T X l)(o:Int) :
  Calls prog 120 #[.pointer (some ⟨A.g,0,none⟩),.int .i64 o] w λe w'=>((∃r,(r,-1)∈l/\ob X r=o/\e=.returned (.tuple #[.int .i64 r,.bool true]))\/((∀r,(r,-1)∈l->ob X r≠o)/\e=.returned (.tuple #[.int .i64 0,.bool false])))/\Below w.heap.size w w':=by
 have mX:=h.small
 have x1:=h.c1
 have HH:=aa h
 have hok:=aa h.nB.ok
 clear h
 go_enter func120,ntmps120
 go_upto_region 2 with fail
 go_loopw [14] (ER w X l o mo) (λk _=>mo - (intOf k).toNat)
 case atStart=>exact⟨0,rfl,Nat.zero_le _,λj hj=>by omega,Below.refl _ _⟩
 case round =>
  obtain⟨i,rfl,hi,hx,hB⟩:=hrel
  by_cases hlt:i<mo
  ·have hM:=HH.o.later hB
   obtain⟨e0,e1,e2,e3⟩:=hM.at_ hlt
   have hobx:(tk X (i:Int)).1.1=ob X (i:Int):=rfl
   rw [hobx] at e0
   obtain⟨w1,hw1⟩:∃w1,w1=wr.alloc (Obj.cells #[.int .i64 (ob X (i:Int)),.int .u64 ((tk X (i:Int)).1.2.1:Int),.int .u64 ((tk X (i:Int)).1.2.2:Int),.int .i64 (tk X (i:Int)).2] 271):=⟨_,rfl⟩
   have hB1:Below wr.heap.size wr w1:=by rw [hw1];exact ab _ _
   have HB1:=aa (al hB hB1)
   have z0:w1.cell? ⟨wr.heap.size,0,none⟩=some (.int .i64 (ob X (i:Int))):=by rw [hw1];simp [go_sem]
   have hh:=aa (fh (hM.later hB1) (i:Int))
   have hp:=aa (λp (hp:((i:Int),p)∈l)=>rE (hM.later hB1) (i:Int) p hp)
   clear hM hB1 hobx hB
   generalize hoo:ob X (i:Int)=oo at *
   generalize ((tk X (i:Int)).1.2.1:Int)=u1 at *
   generalize ((tk X (i:Int)).1.2.2:Int)=u2 at *
   generalize (tk X (i:Int)).2=u3 at *
   have HOO:=aa hoo
   clear hoo
   go_upto_region 4 with fail
   rw [<-hw1]
   clear hw1 e0 e1 e2 e3
   by_cases hq:oo=o
   ·have hb:(oo==o)=true:=by simp [hq]
    by_cases hin:(i:Int)∈ah l
    ·rw [dT hin] at hh
     obtain⟨p,hpl⟩:=cE.1 hin
     have hp1:=aa (hp.out p hpl)
     by_cases hp0:p=-1
     ·subst hp0
      have HPL:=aa hpl
      clear hpl hin hp
      go_wp2_with (first|(go_at_call 173;refine hh.out.mono ?_;rintro e w9 ⟨rfl,hw9⟩;obtain rfl:=hw9.symm;clear hw9)|(go_at_call 174;refine hp1.out.mono ?_;rintro e w9 ⟨rfl,hw9⟩;obtain rfl:=hw9.symm;clear hw9))
      exact bodyPost_ret (v:=.tuple #[.int .i64 (i:Int),.bool true]) (by simp [results,results120,go_sem]) rfl ⟨.inl ⟨(i:Int),HPL.o,by rw [HOO.o];exact hq,rfl⟩,HB1.o⟩
     ·have hb2:(p==(-1:Int))=false:=by simp [hp0]
      have hx1:Hid (∀j:Nat,j<i+1->((j:Int),-1)∈l->ob X (j:Int)≠o):=λj hj hjl=>by
       by_cases e:j=i
       ·subst e;exact absurd (hok.out.uniq hpl hjl) hp0
       ·exact hx.out j (by omega) hjl
      clear hpl hin hp
      go_wp2_with (first|(go_at_call 173;refine hh.out.mono ?_;rintro e w9 ⟨rfl,hw9⟩;obtain rfl:=hw9.symm;clear hw9)|(go_at_call 174;refine hp1.out.mono ?_;rintro e w9 ⟨rfl,hw9⟩;obtain rfl:=hw9.symm;clear hw9))
      refine⟨⟨i+1,by go_num,by omega,hx1,HB1.o⟩,by simp [intOf];omega⟩
    ·rw [dF hin] at hh
     have hx1:Hid (∀j:Nat,j<i+1->((j:Int),-1)∈l->ob X (j:Int)≠o):=λj hj hjl=>by
      by_cases e:j=i
      ·subst e;exact absurd (cE.2 ⟨_,hjl⟩) hin
      ·exact hx.out j (by omega) hjl
     clear hin hp
     go_wp2_with (first|(go_at_call 173;refine hh.out.mono ?_;rintro e w9 ⟨rfl,hw9⟩;obtain rfl:=hw9.symm;clear hw9))
     refine⟨⟨i+1,by go_num,by omega,hx1,HB1.o⟩,by simp [intOf];omega⟩
   ·have hb:(oo==o)=false:=by simp [hq]
    have hx1:Hid (∀j:Nat,j<i+1->((j:Int),-1)∈l->ob X (j:Int)≠o):=λj hj hjl=>by
     by_cases e:j=i
     ·subst e;rw [HOO.o];exact hq
     ·exact hx.out j (by omega) hjl
    clear hp hh
    go_wp2
    refine⟨⟨i+1,by go_num,by omega,hx1,HB1.o⟩,by simp [intOf];omega⟩
  ·obtain rfl:i=mo:=by omega
   have HB:=aa hB
   clear hB
   go_wp2
   refine bodyPost_ret (v:=.tuple #[.int .i64 0,.bool false]) (by simp [results,results120,go_sem]) rfl ⟨.inr ⟨λr hr=>?_,rfl⟩,HB.o⟩
   have hrn:=hok.out.range r (cE.2 ⟨_,hr⟩)
   obtain⟨k,rfl⟩:∃k:Nat,r=(k:Int):=⟨r.toNat,by omega⟩
   exact hx.out k (by omega) hr
def bU (X:List Tk)(l:Fo):List (Cp×Int):=l.map (λx=>((tk X x.1).1,x.1))
theorem ov (X:List Tk)(l:Fo):(bU X l).length=l.length:=by simp [bU]
theorem g5 {X:List Tk}{l:Fo}{c:Cp}{v:Int}:(c,v)∈bU X l↔v∈ah l/\(tk X v).1=c:=by
 unfold bU ah
 simp only [List.mem_map,Prod.mk.injEq]
 constructor
 ·rintro ⟨x,hx,h1,h2⟩;subst h2;exact⟨⟨x,hx,rfl⟩,h1⟩
 ·rintro ⟨⟨x,hx,h1⟩,h2⟩;subst h1;exact⟨x,hx,h2,rfl⟩
theorem iV {X:List Tk}{l:Fo}{c:Cp}:c∈(bU X l).map Prod.fst↔aK X l c=true:=by
 rw [bB,List.mem_map]
 constructor
 ·rintro ⟨⟨a,v⟩,h,rfl⟩;exact⟨v,(g5.1 h).1,(g5.1 h).2⟩
 ·rintro ⟨n,hn,h⟩;exact⟨(c,n),g5.2 ⟨hn,h⟩,rfl⟩
theorem nW {X Y:List Tk}{l:Fo}(h:∀a∈ah l,tk Y a=tk X a):bU Y l=bU X l:=by
 unfold bU
 refine List.map_congr_left (λx hx=>?_)
 rw [h x.1 (cE.2 ⟨x.2,hx⟩)]
structure ie (w:World)(A:Ad)(kn mo:Nat)(X:List Tk)(l:Fo):Prop where
 cm:Cm w A kn mo (bU X l) X l
 inv:Inv mo X l
theorem ie.but {S:Nat->Prop}{A:Ad}{mo:Nat}{X:List Tk}{l:Fo}(h:ie w A kn mo X l)(hb:ae S w w')(hS:∀k,A.jC k->¬S k):ie w' A kn mo X l:=⟨h.cm.but hb hS,h.inv⟩
theorem ie.later {A:Ad}{mo:Nat}{X:List Tk}{l:Fo}(h:ie w A kn mo X l)(hb:Below w.heap.size w w'):ie w' A kn mo X l:=⟨h.cm.later hb,h.inv⟩
theorem ie.lt {A:Ad}{mo:Nat}{X:List Tk}{l:Fo}(h:ie w A kn mo X l):∀k,A.jC k->k<w.heap.size:=h.cm.lt
theorem ie.Kp {A:Ad}{mo:Nat}{X:List Tk}{l:Fo}(h:ie w A kn mo X l):∀k,A.Wr k->k<w.heap.size:=λk hk=>h.cm.lt k (.inr (.inr hk))
def aB (X:List Tk)(l:Fo)(c:Cp):Int:=((ah l).find? (λn=>decide ((tk X n).1=c))).getD 0
theorem dC {X:List Tk}{l:Fo}(h:Inv m X l){n:Int}(hn:n∈ah l):aB X l (tk X n).1=n:=by
 unfold aB
 cases hf:(ah l).find? (λk=>decide ((tk X k).1=(tk X n).1)) with
 | none=>have:=List.find?_eq_none.1 hf n hn;simp at this
 | some k =>
  have h1:=List.find?_some hf
  have h2:=List.mem_of_find?_eq_some hf
  simp only [decide_eq_true_eq] at h1
  exact h.one k h2 n hn h1
theorem wC {X:List Tk}{l:Fo}{c:Cp}(h:aK X l c=false):aB X l c=0:=by
 unfold aB
 rw [List.find?_eq_none.2 (λn hn hd=>?_)]
 ·rfl
 ·have:=bB.2 ⟨n,hn,of_decide_eq_true hd⟩
  rw [h] at this;cases this
theorem gQ {A:Ad}{mo:Nat}{X:List Tk}{l:Fo}(h:ie w A kn mo X l)(c:Cp)(hw:c.2.1<ak/\c.2.2<ak) :
  Calls prog 196 #[.pointer (some ⟨A.g,0,none⟩),ir c] w λe w'=>e=.returned (.tuple #[.int .i64 (aB X l c),.bool (aK X l c)])/\Below w.heap.size w w':=by
 by_cases hc:aK X l c=true
 ·obtain⟨n,hn,rfl⟩:=bB.1 hc
  rw [hc,dC h.inv hn]
  exact vM h.cm _ _ _ n true (λW hW=>I.GH (h.cm.uj.later hW) _ _ _ hw.1 hw.2 n (g5.2 ⟨hn,rfl⟩))
 ·have hc':aK X l c=false:=by simpa using hc
  rw [hc',wC hc']
  exact vM h.cm _ _ _ 0 false (λW hW=>I.get_none (h.cm.uj.later hW) _ _ _ hw.1 hw.2 (λhk=>hc (iV.1 hk)))
def jE (X:List Tk)(l:Fo)(o:Int):Nat:=((ah l).filter (λn=>decide (ob X n=o))).length
theorem si (k:Nat):ej (k+1)=ej k++[(k:Int)]:=by unfold ej;rw [List.range_succ,List.map_append];rfl
def C4 (X:List Tk)(l:Fo)(o:Int)(k:Nat):Nat:=((ej k).filter (λn=>decide (n∈ah l/\ob X n=o))).length
theorem Gl (X:List Tk)(l:Fo)(o:Int)(k:Nat):C4 X l o k<=k:=by
 have:=List.length_filter_le (λn=>decide (n∈ah l/\ob X n=o)) (ej k)
 rw [mR] at this
 exact this
theorem AS (X:List Tk)(l:Fo)(o:Int)(k:Nat):C4 X l o (k+1)=C4 X l o k+(if (k:Int)∈ah l/\ob X (k:Int)=o then 1 else 0):=by
 unfold C4
 rw [si,List.filter_append,List.length_append]
 congr 1
 by_cases h:(k:Int)∈ah l/\ob X (k:Int)=o
 ·rw [if_pos h];simp [h]
 ·rw [if_neg h,List.filter_eq_nil_iff.2 (λa ha=>by rw [List.mem_singleton] at ha;subst ha;simpa using h)];rfl
theorem gh {A B:List Int}(hA:A.Nodup)(hB:B.Nodup)(h:∀x,x∈A↔x∈B):A.length=B.length :=
 Nat.le_antisymm (oW hA (λx hx=>(h x).1 hx)) (oW hB (λx hx=>(h x).2 hx))
theorem Ex {X:List Tk}{l:Fo}(h:Ok m l)(o:Int):C4 X l o m=jE X l o:=by
 refine gh (List.Nodup.sublist List.filter_sublist (ji m)) (List.Nodup.sublist List.filter_sublist h.nodup) (λx=>?_)
 rw [List.mem_filter,List.mem_filter,lI,decide_eq_true_eq,decide_eq_true_eq]
 exact⟨λhx=>hx.2,λhx=>⟨h.range x hx.1,hx⟩⟩
def I7 (w:World)(X:List Tk)(l:Fo)(o:Int)(mo:Nat)(v t:Value)(w':World):Prop :=
 ∃i:Nat,t=.int .i64 (i:Int)/\v=.int .i64 (C4 X l o i:Int)/\i<=mo/\Below w.heap.size w w'
theorem DY {A:Ad}{mo:Nat}{T:List (Cp×Int)}{X:List Tk}{l:Fo}(h:Cm w A kn mo T X l)(o:Int) :
  Calls prog 128 #[.pointer (some ⟨A.g,0,none⟩),.int .i64 o] w λe w'=>e=.returned (.int .i64 (jE X l o:Int))/\Below w.heap.size w w':=by
 have mX:=h.small
 have x1:=h.c1
 have HH:=aa h
 have hok:=aa h.nB.ok
 clear h
 go_enter func128,ntmps128
 go_upto_region 3 with fail
 go_loopw [5,14] (I7 w X l o mo) (λ_ k _=>mo - (intOf k).toNat)
 case atStart=>exact⟨0,rfl,rfl,Nat.zero_le _,Below.refl _ _⟩
 case round =>
  obtain⟨i,rfl,rfl,hi,hB⟩:=hrel
  by_cases hlt:i<mo
  ·have hM:=HH.o.later hB
   obtain⟨e0,e1,e2,e3⟩:=hM.at_ hlt
   have hobx:(tk X (i:Int)).1.1=ob X (i:Int):=rfl
   rw [hobx] at e0
   obtain⟨w1,hw1⟩:∃w1,w1=wr.alloc (Obj.cells #[.int .i64 (ob X (i:Int)),.int .u64 ((tk X (i:Int)).1.2.1:Int),.int .u64 ((tk X (i:Int)).1.2.2:Int),.int .i64 (tk X (i:Int)).2] 271):=⟨_,rfl⟩
   have hB1:Below wr.heap.size wr w1:=by rw [hw1];exact ab _ _
   have HB1:=aa (al hB hB1)
   have z0:w1.cell? ⟨wr.heap.size,0,none⟩=some (.int .i64 (ob X (i:Int))):=by rw [hw1];simp [go_sem]
   have hh:=aa (fh (hM.later hB1) (i:Int))
   have hsu:=AS X l o i
   have hle:=Gl X l o i
   clear hM hB1 hobx hB
   by_cases hq:ob X (i:Int)=o
   ·by_cases hin:(i:Int)∈ah l
    ·rw [dT hin] at hh
     rw [if_pos ⟨hin,hq⟩] at hsu
     have HSU:=aa hsu
     have hb:(ob X (i:Int)==o)=true:=by simp [hq]
     clear hsu hin hq
     generalize ob X (i:Int)=oo at *
     generalize ((tk X (i:Int)).1.2.1:Int)=u1 at *
     generalize ((tk X (i:Int)).1.2.2:Int)=u2 at *
     generalize (tk X (i:Int)).2=u3 at *
     generalize hff:C4 X l o i=f at *
     clear hff
     go_upto_region 5 with fail
     rw [<-hw1]
     clear hw1 e0 e1 e2 e3
     go_wp2_with (first|(go_at_call 173;refine hh.out.mono ?_;rintro e w9 ⟨rfl,hw9⟩;obtain rfl:=hw9.symm;clear hw9))
     refine⟨⟨i+1,by go_num,by rw [HSU.o];go_num,by omega,HB1.o⟩,by simp [intOf];omega⟩
    ·rw [dF hin] at hh
     rw [if_neg (λhc=>hin hc.1)] at hsu
     have HSU:=aa hsu
     have hb:(ob X (i:Int)==o)=true:=by simp [hq]
     clear hsu hin hq
     generalize ob X (i:Int)=oo at *
     generalize ((tk X (i:Int)).1.2.1:Int)=u1 at *
     generalize ((tk X (i:Int)).1.2.2:Int)=u2 at *
     generalize (tk X (i:Int)).2=u3 at *
     generalize hff:C4 X l o i=f at *
     clear hff
     go_upto_region 5 with fail
     rw [<-hw1]
     clear hw1 e0 e1 e2 e3
     go_wp2_with (first|(go_at_call 173;refine hh.out.mono ?_;rintro e w9 ⟨rfl,hw9⟩;obtain rfl:=hw9.symm;clear hw9))
     refine⟨⟨i+1,by go_num,by rw [HSU.o];rfl,by omega,HB1.o⟩,by simp [intOf];omega⟩
   ·rw [if_neg (λhc=>hq hc.2)] at hsu
    have HSU:=aa hsu
    have hb:(ob X (i:Int)==o)=false:=by simp [hq]
    clear hsu hq hh
    generalize ob X (i:Int)=oo at *
    generalize ((tk X (i:Int)).1.2.1:Int)=u1 at *
    generalize ((tk X (i:Int)).1.2.2:Int)=u2 at *
    generalize (tk X (i:Int)).2=u3 at *
    generalize hff:C4 X l o i=f at *
    clear hff
    go_upto_region 5 with fail
    rw [<-hw1]
    clear hw1 e0 e1 e2 e3
    go_wp2
    refine⟨⟨i+1,by go_num,by rw [HSU.o];rfl,by omega,HB1.o⟩,by simp [intOf];omega⟩
  ·obtain rfl:i=mo:=by omega
   have HB:=aa hB
   rw [Ex hok.out]
   clear hB
   go_wp2
   go_ret
   exact⟨rfl,HB.o⟩
structure EW where
 num:Int
 code:Int
 X:List Tk
 l:Fo
def gF (mo:Nat)(X:List Tk)(l:Fo)(p:Int)(c:Cp)(r:Int):EW :=
 if aK X l c=true then ⟨0,19,X,l⟩ else if l.length=mo then ⟨0,10,X,l⟩ else ⟨(low l:Int),0,X.set (low l) (c,r),l++[((low l:Int),p)]⟩
def kj (mo:Nat)(X:List Tk)(l:Fo)(c:Cp)(r:Int):EW :=
 if aX r=false then ⟨0,4,X,l⟩ else if dB X l c.1=true then ⟨0,19,X,l⟩ else gF mo X l (-1) c r
def gD (mo:Nat)(X:List Tk)(l:Fo)(p:Int)(c:Cp)(r:Int):EW :=
 if p∉ah l then ⟨0,20,X,l⟩ else if ob X p≠c.1 then ⟨0,3,X,l⟩ else if aA r (rg X p)=false then ⟨0,4,X,l⟩ else gF mo X l p c r
def fZ (w:World)(A:Ad)(kn mo:Nat)(R:EW)(e:Ending)(w':World):Prop :=
 e=.returned (.tuple #[.int .i64 R.num,.int .i64 R.code])/\ie w' A kn mo R.X R.l/\ae A.Wr w w'
theorem fZ.same {A:Ad}{mo:Nat}{X:List Tk}{l:Fo}{c:Int}(h:ie w A kn mo X l)(hb:Below w.heap.size w w'):fZ w A kn mo ⟨0,c,X,l⟩ (.returned (.tuple #[.int .i64 0,.int .i64 c])) w':=⟨rfl,h.later hb,ae.of hb⟩
theorem fZ.pre {W:World}{A:Ad}{mo:Nat}{R:EW}{e:Ending}(hb:Below w.heap.size w W)(h:fZ W A kn mo R e w'):fZ w A kn mo R e w':=⟨h.1,h.2.1,(ae.of hb).trans h.2.2⟩
theorem pj {A:Ad}{mo:Nat}{X:List Tk}{l:Fo}(h:ie w A kn mo X l)(p o:Int)(hi lo:Nat)(r code:Int)(hc:code≠0)
  (hG:∀W,Below w.heap.size w W->Calls prog 219 #[.pointer (some ⟨A.g,0,none⟩),.int .i64 (low l:Int),.agg #[.int .i64 o,.int .u64 (hi:Int),.int .u64 (lo:Int),.int .i64 r]] W (λe w'=>e=.returned (.int .i64 code)/\Below W.heap.size W w')) :
  Calls prog 179 #[.pointer (some ⟨A.g,0,none⟩),.int .i64 p,.agg #[.int .i64 o,.int .u64 (hi:Int),.int .u64 (lo:Int)],.int .i64 r] w (fZ w A kn mo ⟨0,code,X,l⟩):=by
 obtain⟨w1,hw1⟩:∃w1,w1=w.alloc (Obj.cells #[.int .i64 o,.int .u64 (hi:Int),.int .u64 (lo:Int)] 38):=⟨_,rfl⟩
 have hB1:Below w.heap.size w w1:=by rw [hw1];exact ab _ _
 have hC:Hid (∀U:World,Below w1.heap.size w1 U->(U.cell? ⟨w.heap.size,0,none⟩=some (.int .i64 o)/\U.cell? ⟨w.heap.size,1,none⟩=some (.int .u64 (hi:Int))/\U.cell? ⟨w.heap.size,2,none⟩=some (.int .u64 (lo:Int)))/\Below w1.heap.size w1 U):=λU hU =>
  ⟨⟨cell_later hU (by rw [hw1];simp [go_sem]),cell_later hU (by rw [hw1];simp [go_sem]),cell_later hU (by rw [hw1];simp [go_sem])⟩,hU⟩
 have HG:=aa (λ(U:World) (hU:Below w1.heap.size w1 U)=>hG U (al hB1 hU))
 have hl:=aa (dg (h.cm.later hB1))
 have HB1:=aa hB1
 have HH:=aa h
 have hbn:(code==0)=false:=by simp [hc]
 clear hG hB1 h
 go_enter func179,ntmps179
 go_upto_region 1 with fail
 rw [<-hw1]
 clear hw1
 go_upto_region 2 with (first|(go_at_call 218;refine hl.out.mono ?_;rintro e w9 ⟨rfl,hw9⟩;obtain rfl:=hw9.symm;clear hw9))
 go_region_held3 (λU=>(U.cell? ⟨w.heap.size,0,none⟩=some (.int .i64 o)/\U.cell? ⟨w.heap.size,1,none⟩=some (.int .u64 (hi:Int))/\U.cell? ⟨w.heap.size,2,none⟩=some (.int .u64 (lo:Int)))/\Below w1.heap.size w1 U) (first|exact hC.out _ HB2.o|exact hC.out _ (Below.refl _ _).drew) (first
  | (go_at_call 219;refine (HG.o _ (Below.refl _ _).drew).mono ?_;rintro e w2 ⟨rfl,hb2⟩;have HB2:=aa (al (Below.refl w1.heap.size w1).drew hb2);clear hb2))
 go_wp2
 exact bodyPost_ret (v:=.tuple #[.int .i64 0,.int .i64 code]) (by simp [results,results179,go_sem]) rfl (fZ.same HH.o (al HB1.o HB2.o))
theorem sB {A:Ad}{mo:Nat}{X:List Tk}{l:Fo}(h:ie w A kn mo X l)(p o:Int)(hi lo:Nat)(r:Int)(h1:hi<ak)(h2:lo<ak)(hc:aK X l (o,hi,lo)=false)(hl:l.length<mo)(hv:aX r=true)
  (hp:(p=-1/\dB X l o=false)\/(p∈ah l/\ob X p=o/\aA r (rg X p)=true)) :
  Calls prog 179 #[.pointer (some ⟨A.g,0,none⟩),.int .i64 p,.agg #[.int .i64 o,.int .u64 (hi:Int),.int .u64 (lo:Int)],.int .i64 r] w (fZ w A kn mo ⟨(low l:Int),0,X.set (low l) ((o,hi,lo),r),l++[((low l:Int),p)]⟩):=by
 have hlow:=te h.inv.ok hl
 obtain⟨w1,hw1⟩:∃w1,w1=w.alloc (Obj.cells #[.int .i64 o,.int .u64 (hi:Int),.int .u64 (lo:Int)] 38):=⟨_,rfl⟩
 have hB1:Below w.heap.size w w1:=by rw [hw1];exact ab _ _
 have hni:∀k,A.Wr k->k<w.heap.size:=h.Kp
 have hC:Hid (∀U:World,ae A.Wr w1 U->(U.cell? ⟨w.heap.size,0,none⟩=some (.int .i64 o)/\U.cell? ⟨w.heap.size,1,none⟩=some (.int .u64 (hi:Int))/\U.cell? ⟨w.heap.size,2,none⟩=some (.int .u64 (lo:Int)))/\ae A.Wr w1 U):=λU hU =>
  ⟨⟨aC hU (by rw [hw1];simp [go_sem]) (λhs=>by have:=hni _ hs;simp at this),aC hU (by rw [hw1];simp [go_sem]) (λhs=>by have:=hni _ hs;simp at this),aC hU (by rw [hw1];simp [go_sem]) (λhs=>by have:=hni _ hs;simp at this)⟩,hU⟩
 have hpl:p=-1\/p∈ah l:=hp.imp (·.1) (·.1)
 have hG:=λ(U:World) (hU:Below w1.heap.size w1 U)=>C8 (h.cm.later (al hB1 hU)) (low l) hlow o hi lo r (λW hW=>I.tw ((h.cm.later (al hB1 hU)).uj.later hW) o hi lo (low l:Int) h1 h2 (λhk=>by rw [iV.1 hk] at hc;cases hc) (by rw [ov];exact hl))
 have HE:Hid (bU X l++[((o,hi,lo),(low l:Int))]=bU (X.set (low l) ((o,hi,lo),r)) (l++[((low l:Int),p)])):=by
  unfold Hid
  have e1:bU (X.set (low l) ((o,hi,lo),r)) (l++[((low l:Int),p)])=bU (X.set (low l) ((o,hi,lo),r)) l++[((tk (X.set (low l) ((o,hi,lo),r)) (low l:Int)).1,(low l:Int))]:=by simp [bU]
  rw [e1,eJ _ (by rw [h.inv.len];exact hlow),nW (λa ha=>bX _ (bj h.inv.ok ha) (λe=>fz l (e ▸ ha)))]
 have HI:=aa (h.inv.add (c:=(o,hi,lo)) hlow (fz l) hc ⟨h1,h2⟩ hv hp)
 have HJ:=aa (λ(U:World) T (hU:Cm U A kn mo T (X.set (low l) ((o,hi,lo),r)) l)=>lZ hU p (low l) hlow (fz l) hpl)
 have HG:=aa hG
 have hlo:=aa (dg (h.cm.later hB1))
 have HB1:=aa hB1
 clear hG hB1 h hp hpl hni hc hl
 go_enter func179,ntmps179
 go_upto_region 1 with fail
 rw [<-hw1]
 clear hw1
 go_upto_region 2 with (first|(go_at_call 218;refine hlo.out.mono ?_;rintro e w9 ⟨rfl,hw9⟩;obtain rfl:=hw9.symm;clear hw9))
 go_region_held3 (λU=>(U.cell? ⟨w.heap.size,0,none⟩=some (.int .i64 o)/\U.cell? ⟨w.heap.size,1,none⟩=some (.int .u64 (hi:Int))/\U.cell? ⟨w.heap.size,2,none⟩=some (.int .u64 (lo:Int)))/\ae A.Wr w1 U) (first|exact hC.out _ HB2.o|exact hC.out _ (ae.of (Below.refl _ _).drew)) (first
  | (go_at_call 219;refine (HG.o _ (Below.refl _ _).drew).mono ?_;rintro e w2 ⟨rfl,hc2,hb2⟩;have HB2:=aa ((ae.of (S:=A.Wr) (Below.refl w1.heap.size w1).drew).trans hb2);have HC2:=aa hc2;clear hb2 hc2))
 go_wp2_with (first|(go_at_call 220;refine (HJ.o _ _ HC2.o).mono ?_;rintro e w3 ⟨rfl,hc3,hb3⟩;have HC3:=aa hc3;have HB3:=aa hb3;clear hc3 hb3))
 refine bodyPost_ret (v:=.tuple #[.int .i64 (low l:Int),.int .i64 0]) (by simp [results,results179,go_sem]) rfl ⟨rfl,⟨?_,HI.o⟩,(ae.of HB1.o).trans (HB2.o.trans HB3.o)⟩
 have:=HC3.o
 rw [HE.o] at this
 exact this
theorem jo {A:Ad}{mo:Nat}{X:List Tk}{l:Fo}(h:ie w A kn mo X l)(p:Int)(c:Cp)(r:Int)(hw:c.2.1<ak/\c.2.2<ak)(hv:aX r=true)
  (hp:(p=-1/\dB X l c.1=false)\/(p∈ah l/\ob X p=c.1/\aA r (rg X p)=true)) :
  Calls prog 179 #[.pointer (some ⟨A.g,0,none⟩),.int .i64 p,ir c,.int .i64 r] w (fZ w A kn mo (gF mo X l p c r)):=by
 obtain⟨o,hi,lo⟩:=c
 unfold gF
 by_cases hc:aK X l (o,hi,lo)=true
 ·rw [if_pos hc]
  exact pj h p o hi lo r 19 (by decide) (λW hW=>uR (h.cm.later hW) _ o hi lo r 19 (by decide) (λU hU=>I.wV ((h.cm.later hW).uj.later hU) o hi lo _ hw.1 hw.2 (iV.2 hc)))
 ·rw [if_neg hc]
  have hk:(o,hi,lo)∉(bU X l).map Prod.fst:=λhk=>hc (iV.1 hk)
  by_cases hl:l.length=mo
  ·rw [if_pos hl]
   exact pj h p o hi lo r 10 (by decide) (λW hW=>uR (h.cm.later hW) _ o hi lo r 10 (by decide) (λU hU=>I.Ci ((h.cm.later hW).uj.later hU) o hi lo _ hw.1 hw.2 hk (by rw [ov];exact hl)))
  ·rw [if_neg hl]
   have hle:=h.inv.ok.len
   exact sB h p o hi lo r hw.1 hw.2 (by simpa using hc) (by omega) hv hp
theorem Inv.Fs {X:List Tk}{l:Fo}(h:Inv m X l){o:Int}:dB X l o=true↔∃r,(r,-1)∈l/\ob X r=o:=by
 rw [eh]
 constructor
 ·rintro ⟨n,hn,rfl⟩
  obtain⟨r,h1,h2,_⟩:=h.mH n hn
  exact⟨r,h1,h2⟩
 ·rintro ⟨r,h1,h2⟩
  exact⟨r,cE.2 ⟨_,h1⟩,h2⟩
theorem BD {A:Ad}{mo:Nat}{X:List Tk}{l:Fo}(h:ie w A kn mo X l)(c:Cp)(r:Int)(hw:c.2.1<ak/\c.2.2<ak) :
  Calls prog 127 #[.pointer (some ⟨A.g,0,none⟩),ir c,.int .i64 r] w (fZ w A kn mo (kj mo X l c r)):=by
 obtain⟨o,hi,lo⟩:=c
 obtain⟨w1,hw1⟩:∃w1,w1=w.alloc (Obj.cells #[.int .i64 o,.int .u64 (hi:Int),.int .u64 (lo:Int)] 38):=⟨_,rfl⟩
 have hB1:Below w.heap.size w w1:=by rw [hw1];exact ab _ _
 have z0:w1.cell? ⟨w.heap.size,0,none⟩=some (.int .i64 o):=by rw [hw1];simp [go_sem]
 have HZ:Hid (∀U,Below w1.heap.size w1 U->U.cell? ⟨w.heap.size,0,none⟩=some (.int .i64 o)/\U.cell? ⟨w.heap.size,1,none⟩=some (.int .u64 (hi:Int))/\U.cell? ⟨w.heap.size,2,none⟩=some (.int .u64 (lo:Int))):=λU hU =>
  ⟨cell_later hU (by rw [hw1];simp [go_sem]),cell_later hU (by rw [hw1];simp [go_sem]),cell_later hU (by rw [hw1];simp [go_sem])⟩
 have HB1:=aa hB1
 have HH:=aa h
 have H1:=aa (h.later hB1)
 unfold kj
 clear h hB1
 by_cases hv:aX r=true
 ·rw [if_neg (by rw [hv];decide)]
  by_cases ho:dB X l o=true
  ·rw [if_pos ho]
   go_enter func127,ntmps127
   go_upto_region 1 with fail
   rw [<-hw1]
   clear hw1
   go_upto_region 4 with (first|(go_at_call 120;refine (jQ H1.o.cm o).mono ?_;rintro e w2 ⟨⟨rt,hr1,hr2,rfl⟩|⟨hr1,rfl⟩,hb2⟩<;>have HB2:=aa hb2<;>clear hb2)|(go_at_call 180;refine (bp _ _).mono ?_;rintro e w9 ⟨rfl,hw9⟩;obtain rfl:=hw9.symm;clear hw9;rw [hv]))
   ·go_wp2
    exact bodyPost_ret (v:=.tuple #[.int .i64 0,.int .i64 19]) (by simp [results,results127,go_sem]) rfl (fZ.same HH.o (al HB1.o HB2.o))
   ·exfalso
    obtain⟨r',h1,h2⟩:=HH.o.inv.Fs.1 ho
    exact hr1 r' h1 h2
  ·rw [if_neg ho]
   have HA:=aa (λ(U:World) (hU:Below w.heap.size w U)=>jo (HH.o.later hU) (-1) (o,hi,lo) r hw hv (.inl ⟨rfl,by simpa using ho⟩))
   go_enter func127,ntmps127
   go_upto_region 1 with fail
   rw [<-hw1]
   clear hw1
   go_upto_region 4 with (first|(go_at_call 120;refine (jQ H1.o.cm o).mono ?_;rintro e w2 ⟨⟨rt,hr1,hr2,rfl⟩|⟨hr1,rfl⟩,hb2⟩<;>have HB2:=aa hb2<;>clear hb2)|(go_at_call 180;refine (bp _ _).mono ?_;rintro e w9 ⟨rfl,hw9⟩;obtain rfl:=hw9.symm;clear hw9;rw [hv]))
   ·exfalso
    exact ho (HH.o.inv.Fs.2 ⟨rt,hr1,hr2⟩)
   ·obtain⟨y0,y1,y2⟩:=HZ.o _ HB2.o
    generalize gF mo X l (-1) (o,hi,lo) r=R at *
    go_wp2_with (first|(go_at_call 179;refine (HA.o _ (al HB1.o HB2.o)).mono ?_;rintro e w3 hd;have hd1:=hd.1;subst hd1;have HD:=aa hd;clear hd))
    exact bodyPost_ret (v:=.tuple #[.int .i64 R.num,.int .i64 R.code]) (by simp [results,results127,go_sem]) rfl (HD.o.pre (al HB1.o HB2.o))
 ·have hv':aX r=false:=by simpa using hv
  rw [if_pos hv']
  go_enter func127,ntmps127
  go_upto_region 1 with fail
  rw [<-hw1]
  clear hw1
  go_wp2_with (first|(go_at_call 180;refine (bp _ _).mono ?_;rintro e w9 ⟨rfl,hw9⟩;obtain rfl:=hw9.symm;clear hw9;rw [hv']))
  exact bodyPost_ret (v:=.tuple #[.int .i64 0,.int .i64 4]) (by simp [results,results127,go_sem]) rfl (fZ.same HH.o HB1.o)
open Go.RowKit
theorem ints_set (L:List Int)(j:Nat)(v:Int):(ints L).set j (.int .i64 v)=ints (L.set j v):=by simp [ints,List.map_set]
theorem Own.set {w:World}{base g n c j:Nat}{L:List Int}{v:Int}(h:Own w base 3 (some ⟨g,0,none⟩) n c (ints L)):Own (w.setCell ⟨g,j,none⟩ (.int .i64 v)) base 3 (some ⟨g,0,none⟩) n c (ints (L.set j v)) :=
 ⟨by rw [<-ints_set];exact (h.row.stored j _).1,eC _⟩
theorem Own.form {e:TypeId}{cap:Nat}{L:List Value}(h:Own w base e a n cap L)(hn:0<n):∃g,a=some ⟨g,0,none⟩:=by
 rcases h.row.2 with ⟨_,h1⟩|⟨g,c,cur,hv,_⟩
 ·omega
 ·simp only [Value.slice.injEq] at hv
  exact⟨g,hv.1⟩
def Kh (w:World)(base:Nat)(a:Option Addr)(n cap:Nat)(L:List Value):Prop:=Own w base 3 a n cap L\/(n=cap/\∃p,a=some p/\Row w a n cap L)
theorem mN {cap:Nat}{L:List Int}(x:Int)(h:Kh w base a n cap (ints L))(hb:base<=w.heap.size)(hr:(n+1)*8<=140737488355328) :
  ∃a' cap' w',(Builtin.append_ #[43,43] 43 #[.slice a n cap,.slice (some ⟨w.heap.size,0,none⟩) 1 1]).run prog (w.alloc (Obj.cells #[.int .i64 x] 3))=.ok (.slice a' (n+1) cap') w'/\Own w' base 3 a' (n+1) cap' (ints (L++[x]))/\Gr a a' w w':=by
 rcases h with h|⟨rfl,p,rfl,h⟩
 ·obtain⟨a',cap',w',hrun,hO,hG⟩:=dE (h.alloc (Obj.cells #[.int .i64 x] 3)) (Row.single w 3 (.int .i64 x) rfl) (by simp;omega) hr
  exact⟨a',cap',w',hrun,by rw [bf];exact hO,hG.pre (ab _ _)⟩
 ·obtain⟨g',cap',w',hrun,hO,hB⟩:=kz 43 3 _ 8 underlying43 sj rfl (h.alloc (Obj.cells #[.int .i64 x] 3)) (Row.single w 3 (.int .i64 x) rfl) (by omega) hr (by omega)
  refine⟨_,cap',w',hrun,by rw [bf];exact hO.mono (by simp;omega),ae.of (al (ab _ _) hB),λk hk=>.inr ?_⟩
  have:=hO.bD k hk
  simp at this
  omega
theorem Own.sub {w:World}{base:Nat}{e:TypeId}{a:Option Addr}{n cap:Nat}{L:List Value}(h:Own w base e a n cap L){m:Nat}(hm:m<=n):Own w base e a m cap (L.take m):=by
 refine⟨?_,λu hu=>h.one u (List.mem_of_mem_take hu)⟩
 have hl:=h.len
 refine⟨by rw [List.length_take];omega,?_⟩
 rcases h.row.2 with ⟨h1,h2⟩|⟨g,c,cur,hv,hg,hh,hc,hc2,hs,ht⟩
 ·subst h2
  obtain rfl:m=0:=by omega
  exact .inl ⟨h1,rfl⟩
 ·simp only [Value.slice.injEq] at hv
  obtain⟨rfl,_,rfl⟩:=hv
  refine .inr ⟨g,cap,cur,rfl,hg,hh,Nat.le_trans hm hc,hc2,hs,?_⟩
  rw [<-ht,List.take_take]
  congr 1
  omega
def oj (L M:List Int)(i:Nat):Prop:=M.length=L.length/\∀k,k<L.length->M[k]?=if k<i\/L.length<=k+i then L[L.length - 1 - k]? else L[k]?
theorem oj.step {L M:List Int}{i j:Nat}{x y:Int}(h:oj L M i)(hj:i+j+1=L.length)(hij:i<j)(hx:M[i]?=some x)(hy:M[j]?=some y):oj L ((M.set i y).set j x) (i+1):=by
 obtain⟨h1,h2⟩:=h
 refine⟨by simp [h1],λk hk=>?_⟩
 have hi2:=h2 i (by omega)
 rw [if_neg (by omega),hx] at hi2
 have hj2:=h2 j (by omega)
 rw [if_neg (by omega),hy] at hj2
 rw [List.getElem?_set]
 split
 ·next e =>
  subst e
  rw [if_pos (by simp;omega),if_pos (by omega),show L.length - 1 - j=i by omega]
  exact hi2
 ·rw [List.getElem?_set]
  split
  ·next e =>
   subst e
   rw [if_pos (by omega),if_pos (by omega),show L.length - 1 - i=j by omega]
   exact hj2
  ·rw [h2 k hk]
   by_cases hc:k<i\/L.length<=k+i
   ·rw [if_pos hc,if_pos (by omega)]
   ·rw [if_neg hc,if_neg (by omega)]
theorem oj.end_ {L M:List Int}(h:oj L M i)(hi:L.length<=2*i+1):M=L.reverse:=by
 obtain⟨h1,h2⟩:=h
 apply List.ext_getElem?
 intro k
 by_cases hk:k<L.length
 ·rw [h2 k hk,List.getElem?_reverse hk]
  split
  ·rfl
  ·rw [show L.length - 1 - k=k by omega]
 ·rw [List.getElem?_eq_none (by omega),List.getElem?_eq_none (by simp;omega)]
def FA (w:World)(base:Nat)(a:Option Addr)(n cap:Nat)(L:List Int)(t u:Value)(w':World):Prop :=
 ∃(i:Nat) (M:List Int),t=.int .i64 (i:Int)/\u=.int .i64 ((n:Int) - 1 - i)/\oj L M i/\Own w' base 3 a n cap (ints M)/\ae (aD a) w w'
theorem uY {cap:Nat}{L:List Int}(h:Own w base 3 a n cap (ints L))(hn:n<=2048) :
  Calls prog 251 #[.slice a n cap] w λe w'=>(∃v,e=.returned v)/\Own w' base 3 a n cap (ints L.reverse)/\ae (aD a) w w':=by
 have hl:=h.len
 rw [qt] at hl
 have HO:=aa h
 clear h
 go_enter func251,ntmps251
 go_upto_region 1 with fail
 go_loopw [2,3] (FA w base a n cap L) (λt _ _=>n - (intOf t).toNat)
 case atStart=>exact⟨0,L,rfl,by go_num,⟨rfl,λk hk=>by rw [if_neg (by omega)]⟩,HO.o,ae.refl _ _⟩
 case round =>
  obtain⟨i,M,rfl,rfl,hR,hO,hB⟩:=hrel
  by_cases hlt:2*i+1<n
  ·obtain⟨g,rfl⟩:=hO.form (by omega)
   obtain⟨j,hj⟩:∃j:Nat,i+j+1=n:=⟨n - 1 - i,by omega⟩
   have hje:((n:Int) - 1 - i)=(j:Int):=by omega
   rw [hje]
   have hlM:M.length=n:=by rw [hR.1];exact hl
   obtain⟨x,hx⟩:=get_some (L:=M) (i:=i) (by omega)
   obtain⟨y,hy⟩:=get_some (L:=M) (i:=j) (by omega)
   obtain⟨_,e1,hL1⟩:=hO.oR rfl (j:=i) (u:=.int .i64 x) (by simp [ints,hx])
   cases e1
   obtain⟨_,e2,hL2⟩:=hO.oR rfl (j:=j) (u:=.int .i64 y) (by simp [ints,hy])
   cases e2
   have y1:=hL1.1
   have z1:=hL1.2
   have y2:=hL2.1
   have z2:=hL2.2
   have hij:i<j:=by omega
   have hjn:j<n:=by omega
   have HO2:=aa ((hO.set (j:=i) (v:=y)).set (j:=j) (v:=x))
   have HB2:=aa ((hB.setCell (p:=⟨g,i,none⟩) ⟨_,rfl,rfl⟩ (.int .i64 y)).setCell (p:=⟨g,j,none⟩) ⟨_,rfl,rfl⟩ (.int .i64 x))
   have HR2:=aa (hR.step (by omega) hij hx hy)
   clear hO hB hR hL1 hL2 HO
   have y3:(wr.setCell ⟨g,i,none⟩ (.int .i64 y)).cell? ⟨g,j,none⟩=some (.int .i64 y):=ag y2 (by omega)
   have hne:((i:Int)==(j:Int))=false:=by simp;omega
   clear hx hy hje hlM hlt
   go_wp2
   go_region
   go_wp2
   go_roundw
   case rel=>exact⟨i+1,_,by go_num,by go_num,HR2.o,HO2.o.later ((Below.refl _ _).drew),HB2.o.call ((Below.refl _ _).drew)⟩
   case measure=>simp [intOf];omega
  ·have hge:¬((i:Int)<(n:Int) - 1 - i):=by omega
   have HO2:=aa hO
   have HB2:=aa hB
   have HE:=aa (hR.end_ (by omega))
   clear hO hB hR HO hlt
   go_wp2
   go_end0
   exact⟨⟨_,rfl⟩,by have:=HO2.o;rwa [HE.o] at this,HB2.o⟩
theorem Ki.eK {gb:Nat}{l:Fo}(h:Ki w g gb m l):m<=1024:=by
 obtain⟨N,h1,_⟩:=h
 exact h1.eK
theorem Own.Ei (w:World)(x:Int):Own (w.alloc (Obj.cells #[.int .i64 x] 3)) w.heap.size 3 (some ⟨w.heap.size,0,none⟩) 1 1 (ints [x]) :=
 ⟨⟨rfl,.inr ⟨w.heap.size,1,#[.int .i64 x],rfl,Nat.le_refl _,heap_alloc_new w _,Nat.le_refl _,by unfold maxLen;omega,rfl,rfl⟩⟩,eC _⟩
theorem EZ {m:Nat}{l:Fo}(h:Ok m l){e:Bool}:∀{S:List Int},(∀x∈S,x∈ah l)->S.length<=(S.flatMap (G e l)).length
 | [],_=>Nat.zero_le _
 | x::S,hs=>by
  have h1:=EZ h (e:=e) (S:=S) (λy hy=>hs y (by simp [hy]))
  rw [List.flatMap_cons,List.length_append,List.length_cons,kD h (hs x (by simp)),List.length_cons]
  omega
structure Sub (l:Fo)(e:Bool)(n:Int)(O S:List Int):Prop where
 sum:O++S.reverse.flatMap (G e l)=G e l n
 yg:∀x∈S,x∈ah l
theorem Sub.start {l:Fo}{e:Bool}{n:Int}(hn:n∈ah l):Sub l e n [] [n]:=⟨by simp,λx hx=>by rw [List.mem_singleton] at hx;rw [hx];exact hn⟩
theorem Sub.step {m:Nat}{l:Fo}(h:Ok m l){e:Bool}{n x:Int}{O S:List Int}(hs:Sub l e n O (S++[x])):Sub l e n (O++[x]) (S++(ord e (ch l x)).reverse):=by
 have hx:=hs.yg x (by simp)
 refine⟨?_,λy hy=>?_⟩
 ·rw [<-hs.sum]
  simp [kD h hx]
 ·rw [List.mem_append,List.mem_reverse,bu] at hy
  rcases hy with hy|hy
  ·exact hs.yg y (by simp [hy])
  ·exact b_ hy
theorem Sub.len {l:Fo}(h:Ok m l){e:Bool}{n:Int}{O S:List Int}(hs:Sub l e n O S):O.length+S.length<=(G e l n).length:=by
 have h1:=EZ h (e:=e) (S:=S.reverse) (λx hx=>hs.yg x (List.mem_reverse.1 hx))
 rw [<-hs.sum,List.length_append]
 rw [List.length_reverse] at h1
 omega
theorem Sub.end_ {l:Fo}{e:Bool}{n:Int}{O:List Int}(hs:Sub l e n O []):O=G e l n:=by have:=hs.sum;simpa using this
structure ed (w w':World)(a b:Option Addr)(i c j d:Nat)(O S:List Int):Prop where
 o:Own w' w.heap.size 3 a i c (ints O)
 s:Own w' w.heap.size 3 b j d (ints S)
 ap:∀k,aD a k->¬aD b k
 lt:Below w.heap.size w w'
def G_ (w:World)(l:Fo)(e:Bool)(n:Int)(k:Nat)(v t:Value)(w':World):Prop :=
 ∃(O S:List Int) (a b:Option Addr) (i c j d:Nat),v=.slice a i c/\t=.slice b j d/\i+k=(G e l n).length/\Sub l e n O S/\ed w w' a b i c j d O S
theorem ed.JG {wr:World}{b:Option Addr}{c d:Nat}{O S:List Int}(h:ed w wr a b i c j d O S)(x:Int)(hi:i<=2048) :
  ∃a' c' w2,(Builtin.append_ #[43,43] 43 #[.slice a i c,.slice (some ⟨wr.heap.size,0,none⟩) 1 1]).run prog (wr.alloc (Obj.cells #[.int .i64 x] 3))=.ok (.slice a' (i+1) c') w2/\ed w w2 a' b (i+1) c' j d (O++[x]) S:=by
 obtain⟨a',c',w2,hrun,hO,hG⟩:=mN x (.inl h.o) h.lt.size (by omega)
 refine⟨a',c',w2,hrun,hO,h.s.but hG.but (λk hk ha=>h.ap k ha hk),λk hk hb=>?_,h.lt.trans (hG.below h.o h.lt.size)⟩
 rcases hG.on k hk with h1|h1
 ·exact h.ap k h1 hb
 ·have:=h.s.lt k hb
  omega
theorem ed.IY {w3 w4:World}{b r:Option Addr}{c d p q:Nat}{O S R:List Int}{x:Int}(h:ed w w2 a b i c (j+1) d O (S++[x]))(hb:Below w2.heap.size w2 w3)(hr:ae (aD r) w3 w4)(hR3:∀k,aD r k->w2.heap.size<=k)(hR:Own w4 w2.heap.size 3 r p q (ints R))(hi:j+p<=4096) :
  ∃b' d' w5,(Builtin.append_ #[43,43] 43 #[.slice b j d,.slice r p q]).run prog w4=.ok (.slice b' (j+p) d') w5/\ed w w5 a b' i c (j+p) d' O (S++R):=by
 have hlS:S.length=j:=by
  have:=h.s.len
  rw [qt,List.length_append,List.length_singleton] at this
  omega
 have hb4:ae (aD r) w2 w4:=(ae.of hb).trans hr
 have ho4:Own w4 w.heap.size 3 a i c (ints O):=h.o.but hb4 (λk hk hk2=>by have:=hR3 k hk2;have:=h.o.lt k hk;omega)
 have hs4:Own w4 w.heap.size 3 b (j+1) d (ints (S++[x])):=h.s.but hb4 (λk hk hk2=>by have:=hR3 k hk2;have:=h.s.lt k hk;omega)
 have hs5:=hs4.sub (m:=j) (by omega)
 rw [show (ints (S++[x])).take j=ints S by rw [bf,List.take_left' (by rw [qt];exact hlS)]] at hs5
 have hB4:Below w.heap.size w w4:=(ae.below (h.lt.trans (hb.mono h.lt.size)) hr (λk hk=>by have:=hR3 k hk;have:=h.lt.size;omega))
 obtain⟨b',d',w5,hrun,hO,hG⟩:=dE hs5 hR.read hB4.size (by omega)
 refine⟨b',d',w5,hrun,ho4.but hG.but (λk hk ha=>h.ap k hk ha),by rw [bf];exact hO,λk hk hb2=>?_,hB4.trans (hG.below hs5 hB4.size)⟩
 rcases hG.on k hb2 with h1|h1
 ·exact h.ap k hk h1
 ·have:=ho4.lt k hk
  omega
theorem EC {S:List Int}(h:S≠[]):∃S' x,S=S'++[x]:=⟨S.dropLast,S.getLast h,(List.dropLast_concat_getLast h).symm⟩
theorem km {gb:Nat}{l:Fo}(h:Ki w g gb m l)(n:Int)(e:Bool) :
  Calls prog 215 #[.pointer (some ⟨g,0,none⟩),.int .i64 n,.bool e] w λr w'=>∃a k cap,r=.returned (.slice a k cap)/\Own w' w.heap.size 3 a k cap (ints (G e l n))/\Below w.heap.size w w':=by
 have hh:=aR h n
 have hbig:=h.eK
 have hok:=aa h.ok
 by_cases hn:n∈ah l
 ·rw [dT hn] at hh
  have hgl:=Nat.le_trans (mL hok.out e n) hbig
  have HK:=aa h
  have HN:=aa hn
  clear h hn
  go_enter func215,ntmps215
  go_upto_region 5 with (first|(go_at_call 211;refine hh.mono ?_;rintro e w1 ⟨rfl,rfl⟩))
  clear hh
  go_loopg [7,8] (G e l n).length (G_ w1 l e n)
  case atStart=>exact⟨[],[n],none,some ⟨w1.heap.size,0,none⟩,0,0,1,1,rfl,rfl,by omega,Sub.start HN.o,Own.nil _ _ _,Own.Ei w1 n,λk hk=>(by obtain⟨_,h,_⟩:=hk;cases h),ab _ _⟩
  case round =>
   obtain⟨O,S,a,b,i,c,j,d,rfl,rfl,hik,hS,hT⟩:=hrel
   have hlO:=hT.o.len
   have hlS:=hT.s.len
   rw [qt] at hlO hlS
   have hsl:=hS.len hok.out
   by_cases hj:j=0
   ·subst hj
    have hS0:S=[]:=List.eq_nil_of_length_eq_zero hlS
    subst hS0
    have HE:=aa hS.end_
    have HT:=aa hT
    clear hT hS
    go_wp2
    go_ret
    exact⟨a,i,c,rfl,by rw [<-HE.o];exact HT.o.o,HT.o.lt⟩
   ·obtain⟨S',x,rfl⟩:=EC (S:=S) (λhz=>by rw [hz] at hlS;simp at hlS;omega)
    obtain⟨j,rfl⟩:∃j',j=j'+1:=⟨j - 1,by omega⟩
    rw [List.length_append,List.length_singleton] at hlS hsl
    obtain⟨a',c',w2,hrun,hT2⟩:=hT.JG x (by omega)
    obtain⟨b0,rfl⟩:=hT.s.form (by omega)
    obtain⟨_,e1,hL1⟩:=hT.s.oR rfl (j:=j) (u:=.int .i64 x) (by rw [bf,List.getElem?_append_right (by rw [qt];omega)];simp [show S'.length=j by omega,ints])
    cases e1
    obtain⟨_,e2,hL2⟩:=hT2.s.oR rfl (j:=j) (u:=.int .i64 x) (by rw [bf,List.getElem?_append_right (by rw [qt];omega)];simp [show S'.length=j by omega,ints])
    cases e2
    have y1:=hL1.1
    have y2:=hL2.1
    have hcap:j<=d:=by have:=hT.s.read.cap_;omega
    have HRUN:=aa hrun
    have HT2:=aa hT2
    have HC:=aa (pD (HK.o.later hT2.lt) x)
    have hkl:=B6 hok.out x
    have hki:=vG hok.out (hS.yg x (by simp))
    have HST:=aa (hS.step hok.out)
    rw [<-hki] at HST
    generalize kids l x=R at HC HST hkl
    clear hrun hT2 hT hL1 hL2 hki
    have hjR:j+R.length<=4096:=by omega
    cases e
    ·go_wp2_with (first|(have hq_:=HT5;clear hq_;at_builtin;refine kt rfl _ _ 43 rfl _ _ rfl rfl _ w5 HRUN2.o ?_)|(at_builtin;refine kt rfl _ _ 43 rfl _ _ rfl rfl _ w2 HRUN.o ?_)|(go_at_call 250;refine HC.o.mono ?_;rintro e w3 ⟨r,p,q,rfl,hO3,hB3⟩;have hlp:=hO3.len;rw [qt] at hlp;obtain⟨b',d',w5,hrun2,hT5⟩:=ed.IY HT2.o hB3 (ae.refl _ _) hO3.bD hO3 (by omega);have HRUN2:=aa hrun2;have HT5:=aa hT5;clear hrun2 hT5 hO3 hB3))
     go_roundg (gk - 1)
     case measure=>omega
     case rel=>exact⟨O++[x],S'++R,a',b',i+1,c',j+p,d',rfl,rfl,by omega,by have:=HST.o;simpa [ord] using this,HT5.o⟩
    ·go_wp2_with (first|(have hq_:=HT5;clear hq_;at_builtin;refine kt rfl _ _ 43 rfl _ _ rfl rfl _ w5 HRUN2.o ?_)|(at_builtin;refine kt rfl _ _ 43 rfl _ _ rfl rfl _ w2 HRUN.o ?_)|(go_at_call 250;refine HC.o.mono ?_;rintro e w3 ⟨r,p,q,rfl,hO3,hB3⟩;have hlp:=hO3.len;rw [qt] at hlp;have HO3:=aa hO3;have HB3:=aa hB3;clear hO3 hB3)|(go_at_call 251;refine (uY HO3.o (by omega)).mono ?_;rintro e w4 ⟨⟨v4,rfl⟩,hO4,hb4⟩;obtain⟨b',d',w5,hrun2,hT5⟩:=ed.IY HT2.o HB3.o hb4 HO3.o.bD hO4 (by omega);have HRUN2:=aa hrun2;have HT5:=aa hT5;clear hrun2 hT5 hO4 hb4))
     go_roundg (gk - 1)
     case measure=>omega
     case rel=>exact⟨O++[x],S'++R.reverse,a',b',i+1,c',j+p,d',rfl,rfl,by omega,by have:=HST.o;simpa [ord] using this,HT5.o⟩
 ·rw [dF hn] at hh
  rw [ku hn]
  clear h hn
  go_enter func215,ntmps215
  go_wp2_with (first|(go_at_call 211;refine hh.mono ?_;rintro e w1 ⟨rfl,rfl⟩))
  go_ret
  exact⟨none,0,0,rfl,Own.nil _ _ _,Below.refl _ _⟩
def dP (d:Bool)(l:Fo)(n:Int):List Int:=G true l n
theorem wP {l:Fo}(h:Ok m l)(d:Bool)(n:Int):(dP d l n).length<=m:=by
 exact mL h _ _
def Ag (d:Bool):Nat:=214
theorem A7 {gb:Nat}{l:Fo}(h:Ki w g gb m l)(d:Bool)(n:Int)(b1 b2:Nat)(h1:w.cell? ⟨b1,0,none⟩=some (.pointer (some ⟨g,0,none⟩)))(h2:w.cell? ⟨b2,0,none⟩=some (.int .i64 n)) :
  Calls prog (Ag d) #[.pointer (some ⟨b1,0,none⟩),.pointer (some ⟨b2,0,none⟩)] w λr w'=>∃a k cap,r=.returned (.slice a k cap)/\Own w' w.heap.size 3 a k cap (ints (dP d l n))/\Below w.heap.size w w':=by
 have hc:=aa (km h n true)
 show Calls prog 214 _ _ _
 unfold dP
 generalize G true l n=X at hc ⊢
 clear h
 go_enter func214,ntmps214
 go_wp2_with (first|(go_at_call 215;refine hc.out.mono ?_;rintro e w1 ⟨a,k,cap,rfl,hO,hB⟩;have HO:=aa hO;have HB:=aa hB;clear hO hB))
 go_ret
 exact⟨a,k,cap,rfl,HO.o,HB.o⟩
theorem yj (w:World)(f:Fn)(a b:Array Value):Calls prog 213 #[.func f a b] w λe w'=>e=.returned (.func (.func 249) #[] #[.pointer (some ⟨w.heap.size,0,none⟩)])/\w'=w.alloc (Obj.cells #[.func f a b] 131):=by
 go_enter func213,ntmps213
 go_wp2
 go_ret
 exact⟨rfl,rfl⟩
def Sq (w:World)(d:Bool)(base b0 g:Nat)(n:Int):Prop :=
 ∃b1 b2,w.cell? ⟨b0,0,none⟩=some (.func (.func (Ag d)) #[] #[.pointer (some ⟨b1,0,none⟩),.pointer (some ⟨b2,0,none⟩)])/\w.cell? ⟨b1,0,none⟩=some (.pointer (some ⟨g,0,none⟩))/\w.cell? ⟨b2,0,none⟩=some (.int .i64 n)/\base<=b0/\base<=b1/\base<=b2
theorem Sq.but {S:Nat->Prop}{d:Bool}{b0:Nat}{n:Int}(hb:ae S w w')(h:Sq w d base b0 g n)(hS:∀k,S k->k<base):Sq w' d base b0 g n:=by
 obtain⟨b1,b2,h0,h1,h2,h3,h4,h5⟩:=h
 exact⟨b1,b2,aC hb h0 (λhs=>by have:=hS _ hs;simp at this;omega),aC hb h1 (λhs=>by have:=hS _ hs;simp at this;omega),aC hb h2 (λhs=>by have:=hS _ hs;simp at this;omega),h3,h4,h5⟩
theorem Sq.later {d:Bool}{b0:Nat}{n:Int}(hb:Below w.heap.size w w')(h:Sq w d base b0 g n):Sq w' d base b0 g n:=h.but (S:=λ_=>False) (ae.of hb) (λ_ h=>h.elim)
def IV (d:Bool):Nat:=175
theorem Bd (d:Bool)(g:Nat)(n:Int)(w:World):Calls prog (IV d) #[.pointer (some ⟨g,0,none⟩),.int .i64 n] w λe w'=>∃b0,e=.returned (.func (.func 249) #[] #[.pointer (some ⟨b0,0,none⟩)])/\Sq w' d w.heap.size b0 g n/\Below w.heap.size w w':=by
 show Calls prog 175 _ _ _
 go_enter func175,ntmps175
 go_wp2_with (first|(go_at_call 213;refine (yj _ _ _ _).mono ?_;rintro e w1 ⟨rfl,rfl⟩))
 go_ret
 refine⟨_,rfl,⟨w.heap.size,w.heap.size+1,?_,?_,?_,?_,?_,?_⟩,(aw _ _ _).alloc (by simp;omega) _⟩
 all_goals try simp [go_sem,Ag]
 all_goals omega
end Go.Proofs.YtfmhdimaijimlaaGreatDoor
