import Derived.Test.YtfmhdimaijimlaaGreatDoorZ13
set_option linter.all false
set_option maxRecDepth 1000000
set_option maxHeartbeats 8000000
open Go.Proofs.Tryz
variable {w w' w1 w2:Go.World}{n m k i j b g base kn:Nat}{a:Option Go.Addr}
namespace Go.Proofs.YtfmhdimaijimlaaGreatDoor.K
open Go.RowKit
variable {w w':World}{g s n k:Nat}{R:Nat->List Pl}{e hi mi:Int}
def ym (s n k:Nat)(R:Nat->List Pl)(c:Cp):Int×Bool :=
 if s=0 then (0,false) else
  match (R (fS k s c))[dS (R (fS k s c)) c n]? with
  | some p=>(if eZ c p then p.2.2 else 0,eZ c p)
  | none=>(0,false)
theorem vD {P:List Pl}{c:Cp}(h:P.length=4)(h1:1<=n)(h4:n<=4):dS P c n<4:=by unfold dS;omega
theorem jq (h:Ca w g s n k R e hi mi)(c:Cp)(hc:Fb c) :
  Calls prog 307 #[.pointer (some ⟨g,0,none⟩),.agg #[.int .i64 c.1,.int .u64 (c.2.1:Int),.int .u64 (c.2.2:Int)]] w λe w'=>e=.returned (.tuple #[.int .i64 (ym s n k R c).1,.bool (ym s n k R c).2])/\Below w.heap.size w w':=by
 unfold ym
 by_cases hs:s=0
 ·rw [if_pos hs]
  exact fc h c hs
 ·rw [if_neg hs]
  have hl:=h.len (fS k s c)
  have hlt:dS (R (fS k s c)) c n<(R (fS k s c)).length:=by rw [hl];exact vD hl h.n1 h.n4
  have hp:=gE hlt
  rw [hp]
  exact look_ok h c hc (by omega) rfl rfl hp
theorem Ca.Kd (h:Ca w g s n k R e hi mi)(x:Int):Ca (w.setCell ⟨g,324,none⟩ (.int .i64 x)) g s n k R e x mi:=by
 have hn:∀j,j≠324->(w.setCell ⟨g,324,none⟩ (.int .i64 x)).cell? ⟨g,j,none⟩=w.cell? ⟨g,j,none⟩:=λj hj=>World.cell?_setCell_other _ _ _ _ (λe=>hj (by cases e;rfl))
 exact⟨by rw [hn _ (by omega)];exact h.c0,by rw [hn _ (by omega)];exact h.c1,by rw [hn _ (by omega)];exact h.c2,λr hr=>World.rangeAt_setCells_apart (h.at_ r hr) g 324 [.int .i64 x] (.inr (.inl (by rw [oI,h.len];omega))),World.there_setCells h.th g 324 [.int .i64 x],h.len,h.ce.other (by simp),h.ch.put,h.cm.other (by simp),h.ls,h.n1,h.n4,h.lk⟩
theorem Ca.JL (h:Ca w g s n k R e hi mi)(x:Int):Ca (w.setCell ⟨g,325,none⟩ (.int .i64 x)) g s n k R e hi x:=by
 have hn:∀j,j≠325->(w.setCell ⟨g,325,none⟩ (.int .i64 x)).cell? ⟨g,j,none⟩=w.cell? ⟨g,j,none⟩:=λj hj=>World.cell?_setCell_other _ _ _ _ (λe=>hj (by cases e;rfl))
 exact⟨by rw [hn _ (by omega)];exact h.c0,by rw [hn _ (by omega)];exact h.c1,by rw [hn _ (by omega)];exact h.c2,λr hr=>World.rangeAt_setCells_apart (h.at_ r hr) g 325 [.int .i64 x] (.inr (.inl (by rw [oI,h.len];omega))),World.there_setCells h.th g 325 [.int .i64 x],h.len,h.ce.other (by simp),h.ch.other (by simp),h.cm.put,h.ls,h.n1,h.n4,h.lk⟩
theorem Dq (h:Ca w g s n k R e hi mi)(c:Cp)(hc:Fb c) :
  Calls prog 306 #[.pointer (some ⟨g,0,none⟩),.agg #[.int .i64 c.1,.int .u64 (c.2.1:Int),.int .u64 (c.2.2:Int)]] w λx w'=>x=.returned (.tuple #[.int .i64 (ym s n k R c).1,.bool (ym s n k R c).2])/\Ca w' g s n k R e (if (ym s n k R c).2 then wrap64 (hi+1) else hi) (if (ym s n k R c).2 then mi else wrap64 (mi+1))/\ae (λk=>k=g) w w':=by
 have HH:=aa h
 have HL:=aa (λ(U:World) (hU:Below w.heap.size w U)=>jq (h.later hU) c hc)
 clear h
 generalize ym s n k R c=x at HL
 obtain⟨x1,q⟩:=x
 cases q with
 | true =>
  go_enter func306,ntmps306
  go_upto_region 2 with (first|(go_at_call 307;refine (HL.o _ (ab _ _)).mono ?_;rintro e w2 ⟨rfl,hb2⟩;have HB2:=aa (al (ab _ _) hb2);clear hb2))
  have HH2:=aa (HH.o.later HB2.o)
  have d:=HH2.o.ch.1
  have f:=HH2.o.ch.2
  have HF:=aa (HH2.o.Kd (wrap64 (hi+1)))
  go_wp2
  exact bodyPost_ret (v:=.tuple #[.int .i64 x1,.bool true]) (by simp [results,results306,go_sem]) rfl ⟨rfl,HF.o,(ae.of (S:=λk=>k=g) HB2.o).setCell (p:=⟨g,324,none⟩) rfl _⟩
 | false =>
  go_enter func306,ntmps306
  go_upto_region 2 with (first|(go_at_call 307;refine (HL.o _ (ab _ _)).mono ?_;rintro e w2 ⟨rfl,hb2⟩;have HB2:=aa (al (ab _ _) hb2);clear hb2))
  have HH2:=aa (HH.o.later HB2.o)
  have d:=HH2.o.cm.1
  have f:=HH2.o.cm.2
  have HF:=aa (HH2.o.JL (wrap64 (mi+1)))
  go_wp2
  exact bodyPost_ret (v:=.tuple #[.int .i64 x1,.bool false]) (by simp [results,results306,go_sem]) rfl ⟨rfl,HF.o,(ae.of (S:=λk=>k=g) HB2.o).setCell (p:=⟨g,325,none⟩) rfl _⟩
variable {w w':World}{g s n k:Nat}{R:Nat->List Pl}{e hi mi:Int}
def fT (R:Nat->List Pl)(r:Nat)(Q:List Pl):Nat->List Pl:=λx=>if x=r then Q else R x
def EJ (s n k:Nat)(R:Nat->List Pl)(c:Cp)(m:Int):Nat->List Pl :=
 if s=0 then R else fT R (fS k s c) ((true,c,m)::(R (fS k s c)).eraseIdx (dS (R (fS k s c)) c n))
theorem Ca.laid (h:Ca w g s n k R e hi mi){r:Nat}(hr:r<16){Q:List Pl}(hQ:Q.length=4):Ca (w.setCells g (3+r*20) (ee Q)) g s n k (fT R r Q) e hi mi:=by
 have hl:(ee Q).length=20:=by rw [oI,hQ]
 have hn:∀j,j<3+r*20\/3+r*20+20<=j->(w.setCells g (3+r*20) (ee Q)).cell? ⟨g,j,none⟩=w.cell? ⟨g,j,none⟩:=λj hj=>World.cell?_setCells_out g _ _ _ ⟨g,j,none⟩ (λ_ _=>by rw [hl];exact hj)
 have hf:∀j,(w.setCells g (3+r*20) (ee Q)).frozen? ⟨g,j,none⟩=w.frozen? ⟨g,j,none⟩:=λj=>World.frozen?_setCells _ _ _ _ _
 refine⟨by rw [hn _ (by omega)];exact h.c0,by rw [hn _ (by omega)];exact h.c1,by rw [hn _ (by omega)];exact h.c2,λx hx=>?_,World.there_setCells h.th _ _ _,λx=>?_,⟨by rw [hn _ (by omega)];exact h.ce.1,by rw [hf];exact h.ce.2⟩,⟨by rw [hn _ (by omega)];exact h.ch.1,by rw [hf];exact h.ch.2⟩,⟨by rw [hn _ (by omega)];exact h.cm.1,by rw [hf];exact h.cm.2⟩,h.ls,h.n1,h.n4,h.lk⟩
 ·unfold fT
  by_cases e:x=r
  ·subst e
   rw [if_pos rfl]
   refine World.rangeAt_setCells_same _ _ _ _ (λj hj=>?_)
   rw [hl] at hj
   have:=h.th (x*20+j) (by omega)
   rw [<-Nat.add_assoc] at this
   exact this
  ·rw [if_neg e]
   refine World.rangeAt_setCells_apart (h.at_ x hx) _ _ _ (.inr ?_)
   rw [oI,h.len,hl]
   omega
 ·unfold fT
  split
  ·exact hQ
  ·exact h.len x
theorem By (h:Ca w g s n k R e hi mi)(c:Cp)(m:Int)(hs:s=0) :
  Calls prog 263 #[.pointer (some ⟨g,0,none⟩),.agg #[.int .i64 c.1,.int .u64 (c.2.1:Int),.int .u64 (c.2.2:Int)],.int .i64 m] w λe w'=>e=.returned (.tuple #[])/\Below w.heap.size w w':=by
 subst hs
 have c0:=(h.later (ab w (Obj.cells #[.int .i64 c.1,.int .u64 (c.2.1:Int),.int .u64 (c.2.2:Int)] 38))).c0
 clear h
 go_enter func263,ntmps263
 go_wp2
 exact bodyPost_ret (by simp [results,results263,go_sem]) rfl ⟨rfl,ab _ _⟩
theorem tw (h:Ca w g s n k R e hi mi)(c:Cp)(m:Int)(hc:Fb c)(hs:0<s){r:Nat}(hr:r=fS k s c)(hi_:i=dS (R r) c n) :
  Calls prog 263 #[.pointer (some ⟨g,0,none⟩),.agg #[.int .i64 c.1,.int .u64 (c.2.1:Int),.int .u64 (c.2.2:Int)],.int .i64 m] w λx w'=>x=.returned (.tuple #[])/\Ca w' g s n k (fT R r ((true,c,m)::(R r).eraseIdx i)) e hi mi/\ae (λk=>k=g) w w':=by
 obtain⟨w1,hw1⟩:∃w1,w1=w.alloc (Obj.cells #[.int .i64 c.1,.int .u64 (c.2.1:Int),.int .u64 (c.2.2:Int)] 38):=⟨_,rfl⟩
 have hB1:Below w.heap.size w w1:=by rw [hw1];exact ab _ _
 have HH:=aa (h.later hB1)
 have c0:=HH.o.c0
 rw [hw1] at c0
 have hz0:((s:Int)==0)=false:=by simp;omega
 have hr16:(r:Int)<16:=by have:=h.ls;have:=vi (k:=k) c hs;omega
 have hrn:r<16:=by omega
 have hi4:i<4:=by rw [hi_];exact vD (h.len r) h.n1 h.n4
 have HRow:Hid (∀U:World,Below w1.heap.size w1 U->Calls prog 275 #[.pointer (some ⟨g,0,none⟩),.agg #[.int .i64 c.1,.int .u64 (c.2.1:Int),.int .u64 (c.2.2:Int)]] U λe w'=>e=.returned (.int .i64 (r:Int))/\Below U.heap.size U w'):=λU hU=>by
  rw [hr];exact kM (HH.o.later hU) c hc hs
 obtain⟨A,hA⟩:∃A,A=ee (R r):=⟨_,rfl⟩
 have HAl:Hid (A.length=20):=by rw [hA,oI,h.len];rfl
 have HA1:Hid (∀v∈A,v.oneCell'=true):=by rw [hA];exact gW _
 have HLD:Hid (∀U:World,Below w1.heap.size w1 U->(Instr.loadAt 168 (.pointer (some ⟨g,3+r*20,none⟩))).run prog U=.ok (.agg A.toArray) U):=λU hU=>j6 (by rw [hA];exact (HH.o.later hU).at_ r hrn) HAl.o
 have HSp:Hid (∀U:World,Calls prog 277 #[.agg A.toArray,.agg #[.int .i64 c.1,.int .u64 (c.2.1:Int),.int .u64 (c.2.2:Int)],.int .i64 (n:Int)] U λe w'=>e=.returned (.int .i64 (i:Int))/\Below U.heap.size U w'):=λU=>by
  rw [hi_,hA];exact rz (R r) c n U (h.len r) h.n1 h.n4
 obtain⟨N,hN⟩:∃N,N=ee ((true,c,m)::(R r).eraseIdx i):=⟨_,rfl⟩
 have hQ:((true,c,m)::(R r).eraseIdx i).length=4:=by rw [List.length_cons,List.length_eraseIdx,h.len,if_pos hi4]
 have HNl:Hid (N.length=20):=by rw [hN,oI,hQ];rfl
 have HNs:Hid (N.toArray.size=20):=by rw [List.size_toArray];exact HNl.o
 have HN1:Hid (∀v∈N,v.oneCell'=true):=by rw [hN];exact gW _
 have HLe:Hid (∀U:World,Calls prog 276 #[.agg A.toArray,.agg #[.bool true,.int .i64 c.1,.int .u64 (c.2.1:Int),.int .u64 (c.2.2:Int),.int .i64 m],.int .i64 (i:Int)] U λe w'=>e=.returned (.agg N.toArray)/\Below U.heap.size U w'):=λU=>by
  rw [hN,hA];exact A9 (R r) (true,c,m) i U (h.len r) hi4
 have HLaid:Hid (∀U:World,Below w1.heap.size w1 U->Ca (U.setCells g (3+r*20) N) g s n k (fT R r ((true,c,m)::(R r).eraseIdx i)) e hi mi/\U.there g (3+r*20) 20):=λU hU=>by
  have hU2:=HH.o.later hU
  refine⟨by rw [hN];exact hU2.laid hrn hQ,λj hj=>?_⟩
  have:=hU2.th (r*20+j) (by omega)
  rw [<-Nat.add_assoc] at this
  exact this
 have hz:=λW=>aG pB W
 obtain⟨Z,hZ⟩:∃Z,Z=(ee (List.replicate 4 fr)).toArray:=⟨_,rfl⟩
 rw [<-hZ] at hz
 have HZs:Hid (Z.size=20):=by rw [hZ,List.size_toArray,oI];rfl
 have HG:Hid (g<w.heap.size):=h.lt
 have HC1:Hid (∀U:World,Below w1.heap.size w1 U->U.cell? ⟨w.heap.size,0,none⟩=some (.int .i64 c.1)/\U.cell? ⟨w.heap.size,1,none⟩=some (.int .u64 (c.2.1:Int))/\U.cell? ⟨w.heap.size,2,none⟩=some (.int .u64 (c.2.2:Int))/\U.cell? ⟨g,1,none⟩=some (.int .i64 (n:Int))):=λU hU =>
  ⟨cell_later hU (by rw [hw1];simp [go_sem]),cell_later hU (by rw [hw1];simp [go_sem]),cell_later hU (by rw [hw1];simp [go_sem]),(HH.o.later hU).c1⟩
 clear hA hZ hi_ hr h hN hQ hi4
 go_enter func263,ntmps263
 go_upto_region 2 with fail
 rw [<-hw1]
 have HB1:=aa hB1
 clear hw1 hB1 c0 hz0
 obtain⟨c1,c2,c3,_⟩:=HC1.o w1 (Below.refl _ _)
 go_upto_region 3 with (first|(go_at_call 275;refine (HRow.o _ (Below.refl _ _)).mono ?_;rintro e w2 ⟨rfl,hb2⟩;have HB2:=aa hb2;clear hb2))
 clear c1 c2 c3
 have HLD2:=aa (HLD.o w2 HB2.o)
 have hAl:=HAl.o
 have HTN:=aa (aS w2 Z 168 20 HZs.o)
 have HST:=AH (L:=A) (n:=20) HTN.o HAl.o HA1.o
 have HB3:Hid (Below w1.heap.size w1 ((w2.alloc (Obj.cells Z 168)).setCells w2.heap.size 0 A)):=jf (al HB2.o (ab _ _)) HB2.o.size 0 A
 have HR3:Hid (((w2.alloc (Obj.cells Z 168)).setCells w2.heap.size 0 A).rangeAt w2.heap.size 0 A):=World.rangeAt_setCells_same _ _ _ _ (by rw [hAl];exact HTN.o)
 generalize (w2.alloc (Obj.cells Z 168)).setCells w2.heap.size 0 A=w3 at HST HB3 HR3
 clear HTN
 go_upto_region 4 with (first|((with_reducible refine aP HLD2.o ?_ ?_);· rfl))
 clear HST HLD2 hz
 have HLD3:Hid (∀U:World,ae (λx=>x=g) w3 U->(Instr.loadAt 168 (.pointer (some ⟨w2.heap.size,0,none⟩))).run prog U=.ok (.agg A.toArray) U):=λU hU=>j6 (nQ HR3.o hU (by have:=HG.o;have:=HB1.o.size;have:=HB2.o.size;omega)) HAl.o
 have HC:Hid (∀U:World,Below w3.heap.size w3 U->(U.cell? ⟨w.heap.size,0,none⟩=some (.int .i64 c.1)/\U.cell? ⟨w.heap.size,1,none⟩=some (.int .u64 (c.2.1:Int))/\U.cell? ⟨w.heap.size,2,none⟩=some (.int .u64 (c.2.2:Int))/\U.cell? ⟨g,1,none⟩=some (.int .i64 (n:Int)))/\ae (λx=>x=g) w3 U):=λU hU=>⟨HC1.o U (al HB3.o hU),ae.of hU⟩
 have HD:Hid (∀U:World,Below w3.heap.size w3 U->(((U.setCells g (3+r*20) N).cell? ⟨w.heap.size,0,none⟩=some (.int .i64 c.1)/\(U.setCells g (3+r*20) N).cell? ⟨w.heap.size,1,none⟩=some (.int .u64 (c.2.1:Int))/\(U.setCells g (3+r*20) N).cell? ⟨w.heap.size,2,none⟩=some (.int .u64 (c.2.2:Int))/\(U.setCells g (3+r*20) N).cell? ⟨g,1,none⟩=some (.int .i64 (n:Int)))/\ae (λx=>x=g) w3 (U.setCells g (3+r*20) N))):=λU hU=>by
  obtain⟨a1,a2,a3,_⟩:=HC1.o U (al HB3.o hU)
  have hb:ae (λx=>x=g) U (U.setCells g (3+r*20) N):=ae.setCells (S:=λx=>x=g) rfl N _ (ae.refl _ _)
  have hne:¬w.heap.size=g:=by have:=HG.o;omega
  exact⟨⟨aC hb a1 hne,aC hb a2 hne,aC hb a3 hne,(HLaid.o U (al HB3.o hU)).1.c1⟩,(ae.of hU).trans hb⟩
 refine wp_region_held_drew (S:=(λU:World=>(U.cell? ⟨w.heap.size,0,none⟩=some (.int .i64 c.1)/\U.cell? ⟨w.heap.size,1,none⟩=some (.int .u64 (c.2.1:Int))/\U.cell? ⟨w.heap.size,2,none⟩=some (.int .u64 (c.2.2:Int))/\U.cell? ⟨g,1,none⟩=some (.int .i64 (n:Int)))/\ae (λx=>x=g) w3 U)) (by kernel_rfl) (HC.o _ (Below.refl w3.heap.size w3).drew) (λhHeld=>?_)
 refine nH (bm 18 0) 18 ?_
 refine tH 0 (v:=?_) rfl (λ_ _ _ h=>h) ?_ ?_;rotate_left
 ·(intro w hSw;(try dsimp only at hSw);go_simp;try with_reducible rfl)
 try simp only [gz,Act.put]
 refine nH (bm 18 1) 17 ?_
 refine tH 1 (v:=?_) rfl (λ_ _ _ h=>h) ?_ ?_;rotate_left
 ·(intro w hSw;(try dsimp only at hSw);go_simp;try with_reducible rfl)
 try simp only [gz,Act.put]
 refine nH (bm 18 3) 16 ?_
 refine tH 2 (v:=.agg A.toArray) rfl (λ_ _ _ h=>h) ?_ ?_
 ·(intro w hSw;(try dsimp only at hSw);exact eI rfl rfl (HLD3.o _ hSw.2))
 try simp only [gz,Act.put]
 refine nH (bm 18 7) 15 ?_
 refine tH 3 (v:=?_) rfl (λ_ _ _ h=>h) ?_ ?_;rotate_left
 ·(intro w hSw;(try dsimp only at hSw);go_simp;try with_reducible rfl)
 try simp only [gz,Act.put]
 refine nH (bm 18 15) 14 ?_
 refine tH 4 (v:=?_) rfl (λ_ _ _ h=>h) ?_ ?_;rotate_left
 ·(intro w hSw;(try dsimp only at hSw);go_simp;try with_reducible rfl)
 try simp only [gz,Act.put]
 refine nH (bm 18 31) 13 ?_
 refine tH 5 (v:=?_) rfl (λ_ _ _ h=>h) ?_ ?_;rotate_left
 ·(intro w hSw;(try dsimp only at hSw);go_simp;try with_reducible rfl)
 try simp only [gz,Act.put]
 refine nH (bm 18 63) 12 ?_
 refine tH 6 (v:=.agg A.toArray) rfl (λ_ _ _ h=>h) ?_ ?_
 ·(intro w hSw;(try dsimp only at hSw);exact eI rfl rfl (HLD3.o _ hSw.2))
 try simp only [gz,Act.put]
 refine nH (bm 18 127) 11 ?_
 refine tH 7 (v:=?_) rfl (λ_ _ _ h=>h) ?_ ?_;rotate_left
 ·(intro w hSw;(try dsimp only at hSw);go_simp;try with_reducible rfl)
 try simp only [gz,Act.put]
 refine nH (bm 18 255) 10 ?_
 refine tH 8 (v:=?_) rfl (λ_ _ _ h=>h) ?_ ?_;rotate_left
 ·(intro w hSw;(try dsimp only at hSw);go_simp;try with_reducible rfl)
 try simp only [gz,Act.put]
 refine nH (bm 18 511) 9 ?_
 refine tH 9 (v:=?_) rfl (λ_ _ _ h=>h) ?_ ?_;rotate_left
 ·(intro w hSw;(try dsimp only at hSw);go_simp;try with_reducible rfl)
 try simp only [gz,Act.put]
 refine nH (bm 18 1023) 8 ?_
 refine tH 10 (v:=?_) rfl (λ_ _ _ h=>h) ?_ ?_;rotate_left
 ·(intro w hSw;(try dsimp only at hSw);go_simp;try with_reducible rfl)
 try simp only [gz,Act.put]
 refine nH (bm 18 2047) 7 ?_
 refine tH 11 (v:=?_) rfl (λ_ _ _ h=>h) ?_ ?_;rotate_left
 ·(intro w hSw;(try dsimp only at hSw);go_simp;try with_reducible rfl)
 try simp only [gz,Act.put]
 refine nH (bm 18 4095) 6 ?_
 refine tH 14 (v:=?_) rfl (λ_ _ _ h=>h) ?_ ?_;rotate_left
 ·(intro w hSw;(try dsimp only at hSw);go_simp;try with_reducible rfl)
 try simp only [gz,Act.put]
 refine nH (bm 18 20479) 5 ?_
 refine tH 15 (v:=?_) rfl (λ_ _ _ h=>h) ?_ ?_;rotate_left
 ·(intro w hSw;(try dsimp only at hSw);go_simp;try with_reducible rfl)
 try simp only [gz,Act.put]
 refine nH (bm 18 53247) 4 ?_
 refine yH [12] ?_
 refine cH rfl λK hK=>?_
 go_simp
 go_wp2_with (first|(go_at_call 277;refine (HSp.o _).mono ?_;rintro e w4 ⟨rfl,hb4⟩;have HB4:=aa (al (Below.refl w3.heap.size w3).drew hb4);clear hb4))
 refine hK.out _ _ (HC.o _ HB4.o) (λhHeld=>?_)
 clear hK K
 try simp only [gz,Act.put]
 refine nH (bm 18 57343) 3 ?_
 refine yH [13] ?_
 refine cH rfl λK hK=>?_
 go_simp
 go_wp2_with (first|(go_at_call 276;refine (HLe.o _).mono ?_;rintro e w5 ⟨rfl,hb5⟩;have HB5:=aa (al HB4.o hb5);clear hb5))
 refine hK.out _ _ (HC.o _ HB5.o) (λhHeld=>?_)
 clear hK K
 try simp only [gz,Act.put]
 refine nH (bm 18 65535) 2 ?_
 refine tH 16 (v:=?_) rfl (λ_ _ _ h=>h) ?_ ?_;rotate_left
 ·(intro w hSw;(try dsimp only at hSw);go_simp;try with_reducible rfl)
 try simp only [gz,Act.put]
 refine nH (bm 18 131071) 1 ?_
 refine yH [17] ?_
 refine cH rfl λK hK=>?_
 refine wp_store_mid 168 (.tmp 38) (.tmp 35) rfl _ _ N.toArray rfl rfl (by rw [HNs.o];exact (HLaid.o _ (al HB3.o HB5.o)).2) (by rw [jg,HNs.o]) (all_oneCell_toArray HN1.o) ?_
 refine hK.out _ _ (HD.o _ HB5.o) (λhHeld=>?_)
 clear hK K
 try simp only [gz,Act.put]
 refine nH (bm 18 262143) 0 ?_
 refine wpAnyH_done (by kernel_rfl) ?_ _
 go_wp2
 exact bodyPost_end (by simp [results,results263,go_sem]) rfl ⟨rfl,(HLaid.o _ (al HB3.o HB5.o)).1,(ae.of (S:=λk=>k=g) (al HB1.o HB3.o)).trans hHeld.2⟩
theorem kT (h:Ca w g s n k R e hi mi)(c:Cp)(m:Int)(hc:Fb c) :
  Calls prog 263 #[.pointer (some ⟨g,0,none⟩),.agg #[.int .i64 c.1,.int .u64 (c.2.1:Int),.int .u64 (c.2.2:Int)],.int .i64 m] w λx w'=>x=.returned (.tuple #[])/\Ca w' g s n k (EJ s n k R c m) e hi mi/\ae (λk=>k=g) w w':=by
 unfold EJ
 by_cases hs:s=0
 ·rw [if_pos hs]
  refine (By h c m hs).mono ?_
  rintro x w' ⟨rfl,hb⟩
  exact⟨rfl,h.later hb,ae.of hb⟩
 ·rw [if_neg hs]
  exact tw h c m hc (by omega) rfl rfl
abbrev Pu:=Cp×Int
def mk (x:Pu):Pl:=(true,x.1,x.2)
def q7 (S:List Pu):List Pl:=S.map mk++List.replicate (4 - S.length) fr
def nf (n:Nat)(S:List Pu)(c:Cp)(m:Int):List Pu:=((c,m)::S.filter (λx=>x.1≠c)).take n
def Du (S:List Pu)(c:Cp):Int×Bool :=
 match S.find? (λx=>x.1=c) with
 | some x=>(x.2,true)
 | none=>(0,false)
theorem lT {S:List Pu}(h:i<S.length):(q7 S)[i]?=some (mk S[i]):=by
 unfold q7
 rw [List.getElem?_append_left (by simpa using h)]
 simp [h]
theorem uN {S:List Pu}(h:S.length<=i)(h4:i<4):(q7 S)[i]?=some fr:=by
 unfold q7
 rw [List.getElem?_append_right (by simpa using h),List.getElem?_replicate,if_pos (by simp;omega)]
theorem uv {S:List Pu}(h:S.length<=4):(q7 S).length=4:=by simp [q7];omega
theorem zj:∀(S:List Pu) (i:Nat),(S.eraseIdx i).map mk=(S.map mk).eraseIdx i
 | [],_=>rfl
 | a::r,0=>rfl
 | a::r,i+1=>by simp only [List.eraseIdx_cons_succ,List.map_cons,zj r i]
theorem jn (c:Cp)(x:Pu):eZ c (mk x)=decide (x.1=c):=rfl
theorem kk {S:List Pu}{c:Cp}(h:∀x∈S,x.1≠c):S.filter (λx=>x.1≠c)=S:=List.filter_eq_self.2 (λx hx=>by simpa using h x hx)
theorem iW:∀{S:List Pu} (hn:(S.map (·.1)).Nodup) (i:Nat) (h:i<S.length),S.filter (λx=>x.1≠S[i].1)=S.eraseIdx i
 | [],_,i,h=>by simp at h
 | a::r,hn,0,h=>by
  simp only [List.map_cons,List.nodup_cons] at hn
  rw [List.filter_cons_of_neg (by simp)]
  simp only [List.getElem_cons_zero,List.eraseIdx_zero,List.tail_cons]
  exact kk (λx hx e=>hn.1 (List.mem_map.2 ⟨x,hx,e⟩))
 | a::r,hn,i+1,h=>by
  simp only [List.map_cons,List.nodup_cons] at hn
  have hi:i<r.length:=by simpa using h
  have hne:a.1≠(a::r)[i+1].1:=λe=>hn.1 (List.mem_map.2 ⟨r[i],List.getElem_mem hi,by simpa using e.symm⟩)
  rw [List.filter_cons_of_pos (by simpa using hne),List.eraseIdx_cons_succ]
  simp only [List.getElem_cons_succ]
  rw [iW hn.2 i hi]
theorem rA {S:List Pu}{c:Cp}(hl:S.length<=n)(h1:1<=n)(h4:n<=4) :
  (∃(i:Nat) (h:i<S.length),S[i].1=c/\S.find? (λx=>x.1=c)=some S[i]/\dS (q7 S) c n=i)\/((∀x∈S,x.1≠c)/\S.find? (λx=>x.1=c)=none/\dS (q7 S) c n=n - 1):=by
 cases hf:S.find? (λx=>x.1=c) with
 | some x =>
  obtain⟨hx,i,hi,rfl,hj⟩:=List.find?_eq_some_iff_getElem.1 hf
  have hx2:S[i].1=c:=by simpa using hx
  refine .inl ⟨i,hi,hx2,rfl,uX (p:=mk S[i]) (by omega) (lT hi) (by rw [jn];simpa using hx2) (λj q hji hq=>?_)⟩
  have:=hj j hji
  rw [lT (by omega)] at hq
  cases hq
  rw [jn]
  simpa using this
 | none =>
  have hn:∀x∈S,x.1≠c:=λx hx=>by simpa using List.find?_eq_none.1 hf x hx
  refine .inr ⟨hn,rfl,nS (λj q hj hq=>?_) (by rw [uv (by omega)];exact h4)⟩
  by_cases e:j<S.length
  ·rw [lT e] at hq
   cases hq
   rw [jn]
   simpa using hn _ (List.getElem_mem e)
  ·rw [uN (by omega) (by omega)] at hq
   cases hq
   rfl
theorem Cj (S:List Pu)(c:Cp)(m:Int):(nf n S c m).length<=n:=by unfold nf;rw [List.length_take];omega
theorem sF {S:List Pu}(c:Cp)(m:Int)(h:(S.map (·.1)).Nodup):((nf n S c m).map (·.1)).Nodup:=by
 unfold nf
 rw [List.map_take]
 refine List.Nodup.sublist (List.take_sublist _ _) ?_
 rw [List.map_cons,List.nodup_cons]
 refine⟨λe=>?_,List.Nodup.sublist (List.Sublist.map _ List.filter_sublist) h⟩
 obtain⟨x,hx,e2⟩:=List.mem_map.1 e
 simpa [e2] using (List.mem_filter.1 hx).2
theorem zJ {S:List Pu}{c:Cp}(m:Int)(hl:S.length<=n)(h1:1<=n)(h4:n<=4)(hn:(S.map (·.1)).Nodup) :
  (true,c,m)::(q7 S).eraseIdx (dS (q7 S) c n)=q7 (nf n S c m):=by
 rcases rA (c:=c) hl h1 h4 with ⟨i,hi,hc,_,hs⟩|⟨hno,_,hs⟩
 ·rw [hs]
  have e:nf n S c m=(c,m)::S.eraseIdx i:=by
   unfold nf
   rw [<-hc,iW hn i hi,List.take_of_length_le (by simp [List.length_eraseIdx,hi];omega)]
  rw [e]
  unfold q7
  rw [List.eraseIdx_append_of_lt_length (by simpa using hi)]
  simp only [List.map_cons,List.cons_append,List.length_cons,List.length_eraseIdx,if_pos hi]
  rw [show S.length - 1+1=S.length by omega,<-zj]
  rfl
 ·rw [hs]
  unfold nf
  rw [kk hno]
  by_cases e:S.length<n
  ·rw [List.take_of_length_le (by simp;omega)]
   unfold q7
   rw [List.eraseIdx_append_of_length_le (by simp;omega),List.eraseIdx_replicate,if_pos (by simp;omega)]
   simp only [List.map_cons,List.cons_append,List.length_cons]
   rw [show 4 - S.length - 1=4 - (S.length+1) by omega]
   rfl
  ·have e2:S.length=n:=by omega
   obtain⟨v,rfl⟩:∃v,n=v+1:=⟨n - 1,by omega⟩
   rw [List.take_succ_cons]
   unfold q7
   rw [List.eraseIdx_append_of_lt_length (by simp;omega)]
   simp only [List.map_cons,List.cons_append,List.length_cons,List.length_take,e2]
   rw [show min v (v+1)+1=v+1 by omega]
   congr 2
   rw [List.map_take,List.eraseIdx_eq_take_drop_succ,List.drop_eq_nil_of_le (by simp;omega),List.append_nil]
   rfl
theorem El {S:List Pu}{c:Cp}(hl:S.length<=n)(h1:1<=n)(h4:n<=4) :
  (match (q7 S)[dS (q7 S) c n]? with|some p=>(if eZ c p then p.2.2 else 0,eZ c p)|none=>((0:Int),false))=Du S c:=by
 unfold Du
 rcases rA (c:=c) hl h1 h4 with ⟨i,hi,hc,hf,hs⟩|⟨hno,hf,hs⟩
 ·rw [hs,lT hi,hf]
  simp only [jn,hc]
  simp [mk]
 ·rw [hs,hf]
  by_cases e:n - 1<S.length
  ·rw [lT e]
   simp only [jn]
   have:=hno _ (List.getElem_mem e)
   simp [this]
  ·rw [uN (by omega) (by omega)]
   rfl
structure Fit (n:Nat)(T:Nat->List Pu)(R:Nat->List Pl):Prop where
 eq:∀r,R r=q7 (T r)
 len:∀r,(T r).length<=n
 nd:∀r,((T r).map (·.1)).Nodup
def sJ (s n k:Nat)(T:Nat->List Pu)(c:Cp)(m:Int):Nat->List Pu:=if s=0 then T else λx=>if x=fS k s c then nf n (T (fS k s c)) c m else T x
def iJ (s k:Nat)(T:Nat->List Pu)(c:Cp):Int×Bool:=if s=0 then (0,false) else Du (T (fS k s c)) c
variable {s n k:Nat}{T:Nat->List Pu}{R:Nat->List Pl}
theorem Fit.zero (n:Nat):Fit n (λ_=>[]) R0:=⟨λ_=>rfl,λ_=>Nat.zero_le _,λ_=>List.nodup_nil⟩
theorem Fit.ym (h:Fit n T R)(h1:1<=n)(h4:n<=4)(c:Cp):ym s n k R c=iJ s k T c:=by
 unfold Go.Proofs.YtfmhdimaijimlaaGreatDoor.K.ym iJ
 by_cases hs:s=0
 ·rw [if_pos hs,if_pos hs]
 ·rw [if_neg hs,if_neg hs,h.eq]
  exact El (h.len _) h1 h4
theorem Fit.put (h:Fit n T R)(h1:1<=n)(h4:n<=4)(c:Cp)(m:Int):Fit n (sJ s n k T c m) (EJ s n k R c m):=by
 unfold sJ EJ
 by_cases hs:s=0
 ·rw [if_pos hs,if_pos hs];exact h
 ·rw [if_neg hs,if_neg hs]
  refine⟨λr=>?_,λr=>?_,λr=>?_⟩
  ·unfold fT
   by_cases e:r=fS k s c
   ·rw [if_pos e]
    rw [if_pos e,h.eq]
    exact zJ m (h.len _) h1 h4 (h.nd _)
   ·rw [if_neg e]
    rw [if_neg e]
    exact h.eq r
  ·split
   ·exact Cj _ _ _
   ·exact h.len r
  ·split
   ·exact sF _ _ (h.nd _)
   ·exact h.nd r
def Kc (w:World)(g s n k:Nat)(T:Nat->List Pu)(E:Nat)(hi mi:Int):Prop:=E<256/\∃R,Ca w g s n k R (E:Int) hi mi/\Fit n T R
def T0:Nat->List Pu:=λ_=>[]
variable {w w':World}{g s n k E:Nat}{T:Nat->List Pu}{hi mi:Int}
theorem Kc.but {S:Nat->Prop}(h:Kc w g s n k T E hi mi)(hb:ae S w w')(h1:¬S g):Kc w' g s n k T E hi mi:=by
 obtain⟨hE,R,hc,hf⟩:=h
 exact⟨hE,R,hc.but hb h1,hf⟩
theorem Kc.later (h:Kc w g s n k T E hi mi)(hb:Below w.heap.size w w'):Kc w' g s n k T E hi mi:=h.but (S:=λ_=>False) (ae.of hb) (λh=>h)
theorem Kc.lt (h:Kc w g s n k T E hi mi):g<w.heap.size:=by
 obtain⟨_,R,hc,hf⟩:=h
 exact hc.lt
theorem J0 (s n k:Nat)(w:World)(h1:s<=16)(h2:1<=n)(h3:n<=4)(h4:k<=64) :
  Calls prog 53 #[.int .i64 (s:Int),.int .i64 (n:Int),.int .i64 (k:Int)] w λe w'=>∃g,e=.returned (.tuple #[.pointer (some ⟨g,0,none⟩),.int .i64 0])/\Kc w' g s n k T0 0 0 0/\w.heap.size<=g/\Below w.heap.size w w':=by
 refine (bE s n k w h1 h2 h3 h4).mono ?_
 rintro e w' ⟨g,rfl,hc,hg,hb⟩
 exact⟨g,rfl,⟨by decide,R0,hc,Fit.zero n⟩,hg,hb⟩
theorem JC (h:Kc w g s n k T E hi mi)(c:Cp)(hc:Fb c) :
  Calls prog 306 #[.pointer (some ⟨g,0,none⟩),.agg #[.int .i64 c.1,.int .u64 (c.2.1:Int),.int .u64 (c.2.2:Int)]] w λx w'=>x=.returned (.tuple #[.int .i64 (iJ s k T c).1,.bool (iJ s k T c).2])/\Kc w' g s n k T E (if (iJ s k T c).2 then wrap64 (hi+1) else hi) (if (iJ s k T c).2 then mi else wrap64 (mi+1))/\ae (λk=>k=g) w w':=by
 obtain⟨hE,R,ha,hf⟩:=h
 have:=Dq ha c hc
 rw [hf.ym ha.n1 ha.n4] at this
 refine this.mono ?_
 rintro e w' ⟨rfl,h2,hb⟩
 exact⟨rfl,⟨hE,R,h2,hf⟩,hb⟩
theorem Jv (h:Kc w g s n k T E hi mi)(c:Cp)(m:Int)(hc:Fb c) :
  Calls prog 263 #[.pointer (some ⟨g,0,none⟩),.agg #[.int .i64 c.1,.int .u64 (c.2.1:Int),.int .u64 (c.2.2:Int)],.int .i64 m] w λx w'=>x=.returned (.tuple #[])/\Kc w' g s n k (sJ s n k T c m) E hi mi/\ae (λk=>k=g) w w':=by
 obtain⟨hE,R,ha,hf⟩:=h
 refine (kT ha c m hc).mono ?_
 rintro e w' ⟨rfl,h2,hb⟩
 exact⟨rfl,⟨hE,_,h2,hf.put ha.n1 ha.n4 c m⟩,hb⟩
theorem E9 (h:Kc w g s n k T E hi mi):Calls prog 134 #[.pointer (some ⟨g,0,none⟩)] w λx w'=>x=.returned (.tuple #[])/\Kc w' g s n k T0 ((E+1)%256) hi mi/\ae (λk=>k=g) w w':=by
 obtain⟨hE,R,ha,hf⟩:=h
 refine (yS ha hE).mono ?_
 rintro e w' ⟨rfl,h2,hb⟩
 exact⟨rfl,⟨Nat.mod_lt _ (by decide),R0,h2,Fit.zero n⟩,hb⟩
end Go.Proofs.YtfmhdimaijimlaaGreatDoor.K
