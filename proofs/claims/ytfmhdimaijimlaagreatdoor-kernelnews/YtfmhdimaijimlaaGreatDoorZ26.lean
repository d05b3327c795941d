import Derived.Test.YtfmhdimaijimlaaGreatDoorZ25
set_option linter.all false
set_option maxRecDepth 1000000
set_option maxHeartbeats 8000000
open Go.Proofs.Tryz
variable {w w' w1 w2:Go.World}{n m k i j b g base kn:Nat}{a:Option Go.Addr}
namespace Go.Proofs.YtfmhdimaijimlaaGreatDoor.V
open Go.RowKit
open Go.Proofs.YtfmhdimaijimlaaGreatDoor.H (ak Cp)
open Go.Proofs.YtfmhdimaijimlaaGreatDoor.M (bh)
section
variable {w w':World}{H:Hd}{s s':aI}{d d':Nat->List K.Pu}{N:Nat->Prop}
structure Ps where
 O:List (Int×List Nat)
 T:List Tok
 P:List (Int×List Cp)
 nx:Int
 px:Int
 t:Int
def eE (mo:Nat)(s:aI):Ps:=⟨s.V,lP mo s.X s.l (s.V.map Prod.fst),s.P.map (λi=>(i,s.D i)),s.nx,s.px,(s.t:Int)⟩
def Df (x:Int×List Cp):Int×List Value×Nat:=(x.1,az x.2,x.2.length)
abbrev Eb (a1:Option Addr)(n1 c1:Nat)(a2:Option Addr)(n2 c2:Nat)(a3:Option Addr)(n3 c3:Nat)(x y z:Int):Value:=.agg #[.slice a1 n1 c1,.slice a2 n2 c2,.slice a3 n3 c3,.int .i64 x,.int .i64 y,.int .i64 z]
def stM (a1:Option Addr)(n1 c1:Nat)(a2:Option Addr)(n2 c2:Nat)(a3:Option Addr)(n3 c3:Nat)(x y z:Int):List Value:=[.slice a1 n1 c1,.slice a2 n2 c2,.slice a3 n3 c3,.int .i64 x,.int .i64 y,.int .i64 z]
structure df (w:World)(base:Nat)(p:Ps)(a1:Option Addr)(c1:Nat)(Q1:List Ev)(a2:Option Addr)(c2:Nat)(a3:Option Addr)(c3:Nat)(Q3:List Ev):Prop where
 os:ed w base 63 5 1 a1 p.O.length c1 Q1
 ok:Q1.map Ev.key=p.O.map sk
 ts:Ow w base 61 5 a2 p.T.length c2 (eF p.T)
 ps:ed w base 59 38 3 a3 p.P.length c3 Q3
 pk:Q3.map Ev.key=p.P.map Df
 JT:∀j,ed.B a1 Q1 j->¬aD a2 j
 JN:∀j,ed.B a1 Q1 j->¬ed.B a3 Q3 j
 J7:∀j,aD a2 j->¬ed.B a3 Q3 j
abbrev z53:Obj:=.cells #[.slice none 0 0,.slice none 0 0,.slice none 0 0,.int .i64 0,.int .i64 0,.int .i64 0] 53
theorem Bg:(prog.info? 53).map (·.size)=some 6:=by kernel_rfl
theorem Zr.IL (w:World):Zr (w.alloc z53) w.heap.size:=(R.Bx.new w [.slice none 0 0,.slice none 0 0,.slice none 0 0,.int .i64 0,.int .i64 0,.int .i64 0] 53).there
theorem Zr.Kt {M:List Value}(h:Zr w b)(hl:M.length=6)(h1:∀v∈M,v.oneCell'=true):(Instr.storeAt 53 (.pointer (some ⟨b,0,none⟩)) (.agg M.toArray)).run prog w=.ok () (w.setCells b 0 M):=by
 have:=R.AH h hl h1
 simp [Instr.storeAt,storeVar,Instr.sureAddr,Value.cells,hl,this,Result.andThen]
theorem Zr.Ju (h:Zr w b)(a1:Option Addr)(n1 c1:Nat)(a2:Option Addr)(n2 c2:Nat)(a3:Option Addr)(n3 c3:Nat)(x y z:Int):(Instr.storeAt 53 (.pointer (some ⟨b,0,none⟩)) (Eb a1 n1 c1 a2 n2 c2 a3 n3 c3 x y z)).run prog w=.ok () (w.setCells b 0 (stM a1 n1 c1 a2 n2 c2 a3 n3 c3 x y z)):=h.Kt (M:=stM a1 n1 c1 a2 n2 c2 a3 n3 c3 x y z) rfl (by simp [stM,Value.oneCell'])
theorem Zr.JS (h:Zr w b)(a1:Option Addr)(n1 c1:Nat)(a2:Option Addr)(n2 c2:Nat)(a3:Option Addr)(n3 c3:Nat)(x y z:Int):(loadVar 53 ⟨b,0,none⟩).run prog (w.setCells b 0 (stM a1 n1 c1 a2 n2 c2 a3 n3 c3 x y z))=.ok (Eb a1 n1 c1 a2 n2 c2 a3 n3 c3 x y z) (w.setCells b 0 (stM a1 n1 c1 a2 n2 c2 a3 n3 c3 x y z)) :=
 run_loadVar_mid (P:=prog) _ b 0 53 (stM a1 n1 c1 a2 n2 c2 a3 n3 c3 x y z) _ (World.rangeAt_setCells_same _ _ _ _ h) underlying53 rfl (by rw [Bg];rfl)
theorem df.but {S:Nat->Prop}{p:Ps}{a1 c1 Q1 a2 c2 a3 c3 Q3}(h:df w base p a1 c1 Q1 a2 c2 a3 c3 Q3)(hb:ae S w w')(hS:∀j,base<=j->j<w.heap.size->¬S j):df w' base p a1 c1 Q1 a2 c2 a3 c3 Q3 :=
 ⟨h.os.but hb (λj hj=>hS j (h.os.bD j hj).1 (h.os.bD j hj).2),h.ok,h.ts.but hb (λj hj=>hS j (h.ts.bD j hj).1 (h.ts.bD j hj).2),h.ps.but hb (λj hj=>hS j (h.ps.bD j hj).1 (h.ps.bD j hj).2),h.pk,h.JT,h.JN,h.J7⟩
theorem df.later {p:Ps}{a1 c1 Q1 a2 c2 a3 c3 Q3}(h:df w base p a1 c1 Q1 a2 c2 a3 c3 Q3)(hb:Below w.heap.size w w'):df w' base p a1 c1 Q1 a2 c2 a3 c3 Q3:=h.but (S:=λ_=>False) (ae.of hb) (λ_ _ _ h=>h)
theorem df.mono {p:Ps}{a1 c1 Q1 a2 c2 a3 c3 Q3}(h:df w base p a1 c1 Q1 a2 c2 a3 c3 Q3)(hb:b<=base):df w b p a1 c1 Q1 a2 c2 a3 c3 Q3:=⟨h.os.mono hb,h.ok,h.ts.mono hb,h.ps.mono hb,h.pk,h.JT,h.JN,h.J7⟩
def oO (w:World)(p:Ps)(e:Ending)(w':World):Prop :=
 ∃a1 c1 Q1 a2 c2 a3 c3 Q3,e=.returned (Eb a1 p.O.length c1 a2 p.T.length c2 a3 p.P.length c3 p.nx p.px p.t)/\df w' w.heap.size p a1 c1 Q1 a2 c2 a3 c3 Q3/\Below w.heap.size w w'
theorem j8 (h:aF w H s d N)(hf:KF H.p s):Calls prog 17 #[.pointer (some ⟨H.kb,0,none⟩)] w (oO w (eE H.mo s)):=by
 obtain⟨W,hW⟩:∃W,W=w.alloc z53:=⟨_,rfl⟩
 have hB:Below w.heap.size w W:=by rw [hW];exact ab _ _
 have hZ:Zr W w.heap.size:=by rw [hW];exact Zr.IL w
 have h2:=h.later hB
 have HWs:Hid (W.heap.size=w.heap.size+1):=by unfold Hid;rw [hW];simp
 have HS0:Hid (∀U,ae (λk=>k=w.heap.size) W U->(U.cell? ⟨H.kb,10,none⟩=some (.pointer (some ⟨H.g,0,none⟩))/\U.cell? ⟨H.kb,11,none⟩=some (.pointer (some ⟨H.z.s,0,none⟩))/\U.cell? ⟨H.kb,14,none⟩=some (.pointer (some ⟨H.pg,0,none⟩)))):=λU hU=>by
  have h3:=h2.but hU (λk hk e=>h.new (k:=k) (by omega) hk) (λe=>by have:=h.b0;omega)
  exact⟨h3.kb 10 _ rfl,h3.kb 11 _ rfl,h3.kb 14 _ rfl⟩
 have HS:Hid (∀U,Below W.heap.size W U->(U.cell? ⟨H.kb,10,none⟩=some (.pointer (some ⟨H.g,0,none⟩))/\U.cell? ⟨H.kb,11,none⟩=some (.pointer (some ⟨H.z.s,0,none⟩))/\U.cell? ⟨H.kb,14,none⟩=some (.pointer (some ⟨H.pg,0,none⟩)))):=λU hU=>HS0.o U (ae.of hU)
 have HO:=aa (λ(U:World) (hU:Below W.heap.size W U)=>qJ (h2.later hU))
 have HT:=aa (λ(U:World) (hU:Below W.heap.size W U)=>tZ (h2.later hU) hf.fit.inv)
 have HPr:=aa (λ(U:World) (hU:Below W.heap.size W U)=>ni (h2.later hU) hf)
 have HNx:=aa (λ(U:World) (hU:Below W.heap.size W U)=>AK (h2.later hU))
 have HPx:=aa (λ(U:World) (hU:Below W.heap.size W U)=>GW (h2.later hU))
 have HTa:=aa (λ(U:World) (hU:Below W.heap.size W U)=>GB (h2.later hU))
 obtain⟨Tl,hTl⟩:∃Tl,Tl=lP H.mo s.X s.l (s.V.map Prod.fst):=⟨_,rfl⟩
 have hps:eE H.mo s=⟨s.V,Tl,s.P.map (λi=>(i,s.D i)),s.nx,s.px,(s.t:Int)⟩:=by rw [hTl];rfl
 have hpl:s.P.map (Jm s.D)=(s.P.map (λi=>(i,s.D i))).map Df:=by rw [List.map_map];rfl
 have hpn:s.P.length=(s.P.map (λi=>(i,s.D i))).length:=by simp
 rw [hps]
 rw [<-hTl] at HT
 rw [hpl,hpn] at HPr
 generalize s.P.map (λi=>(i,s.D i))=Pl at *
 generalize s.V=V at *
 generalize s.nx=nx at *
 generalize s.px=px at *
 generalize s.t=ta at *
 obtain⟨vn,hvn⟩:∃vn,vn=V.length:=⟨_,rfl⟩
 obtain⟨tn,htn⟩:∃tn,tn=Tl.length:=⟨_,rfl⟩
 obtain⟨pn,hpn2⟩:∃pn,pn=Pl.length:=⟨_,rfl⟩
 rw [<-hvn] at HO
 rw [<-htn] at HT
 rw [<-hpn2] at HPr
 have HW:=aa hW
 have HB:=aa hB
 have HZ:=aa hZ
 have HVn:=aa hvn
 have HTn:=aa htn
 have HPn:=aa hpn2
 clear h h2 hf hB hZ hTl hps hpl hpn hvn htn hpn2 hW
 go_enter func17,ntmps17
 go_upto_region 1 with fail
 rw [<-HW.o]
 refine wp_region_held_drew (S:=(λU:World=>(U.cell? ⟨H.kb,10,none⟩=some (.pointer (some ⟨H.g,0,none⟩))/\U.cell? ⟨H.kb,11,none⟩=some (.pointer (some ⟨H.z.s,0,none⟩))/\U.cell? ⟨H.kb,14,none⟩=some (.pointer (some ⟨H.pg,0,none⟩))))) (by kernel_rfl) (HS.o _ (Below.refl _ _).drew) (λhHeld=>?_)
 refine nH (bm 23 0) 23 ?_
 refine tH 0 (v:=?_) rfl (λ_ _ _ h=>h) ?_ ?_;rotate_left
 ·(intro w hSw;(try dsimp only at hSw);go_simp;try with_reducible rfl)
 try simp only [gz,Act.put]
 refine nH (bm 23 1) 22 ?_
 refine tH 2 (v:=?_) rfl (λ_ _ _ h=>h) ?_ ?_;rotate_left
 ·(intro w hSw;(try dsimp only at hSw);go_simp;try with_reducible rfl)
 try simp only [gz,Act.put]
 refine nH (bm 23 5) 21 ?_
 refine tH 4 (v:=?_) rfl (λ_ _ _ h=>h) ?_ ?_;rotate_left
 ·(intro w hSw;(try dsimp only at hSw);go_simp;try with_reducible rfl)
 try simp only [gz,Act.put]
 refine nH (bm 23 21) 20 ?_
 refine tH 6 (v:=?_) rfl (λ_ _ _ h=>h) ?_ ?_;rotate_left
 ·(intro w hSw;(try dsimp only at hSw);go_simp;try with_reducible rfl)
 try simp only [gz,Act.put]
 refine nH (bm 23 85) 19 ?_
 refine tH 7 (v:=?_) rfl (λ_ _ _ h=>h) ?_ ?_;rotate_left
 ·(intro w hSw;(try dsimp only at hSw);go_simp;try with_reducible rfl)
 try simp only [gz,Act.put]
 refine nH (bm 23 213) 18 ?_
 refine tH 8 (v:=?_) rfl (λ_ _ _ h=>h) ?_ ?_;rotate_left
 ·(intro w hSw;(try dsimp only at hSw);go_simp;try with_reducible rfl)
 try simp only [gz,Act.put]
 refine nH (bm 23 469) 17 ?_
 refine tH 9 (v:=?_) rfl (λ_ _ _ h=>h) ?_ ?_;rotate_left
 ·(intro w hSw;(try dsimp only at hSw);go_simp;try with_reducible rfl)
 try simp only [gz,Act.put]
 refine nH (bm 23 981) 16 ?_
 refine tH 11 (v:=?_) rfl (λ_ _ _ h=>h) ?_ ?_;rotate_left
 ·(intro w hSw;(try dsimp only at hSw);go_simp;try with_reducible rfl)
 try simp only [gz,Act.put]
 refine nH (bm 23 3029) 15 ?_
 refine tH 12 (v:=?_) rfl (λ_ _ _ h=>h) ?_ ?_;rotate_left
 ·(intro w hSw;(try dsimp only at hSw);go_simp;try with_reducible rfl)
 try simp only [gz,Act.put]
 refine nH (bm 23 7125) 14 ?_
 refine tH 13 (v:=?_) rfl (λ_ _ _ h=>h) ?_ ?_;rotate_left
 ·(intro w hSw;(try dsimp only at hSw);go_simp;try with_reducible rfl)
 try simp only [gz,Act.put]
 refine nH (bm 23 15317) 13 ?_
 refine tH 14 (v:=?_) rfl (λ_ _ _ h=>h) ?_ ?_;rotate_left
 ·(intro w hSw;(try dsimp only at hSw);go_simp;try with_reducible rfl)
 try simp only [gz,Act.put]
 refine nH (bm 23 31701) 12 ?_
 refine tH 16 (v:=?_) rfl (λ_ _ _ h=>h) ?_ ?_;rotate_left
 ·(intro w hSw;(try dsimp only at hSw);go_simp;try with_reducible rfl)
 try simp only [gz,Act.put]
 refine nH (bm 23 97237) 11 ?_
 refine tH 17 (v:=?_) rfl (λ_ _ _ h=>h) ?_ ?_;rotate_left
 ·(intro w hSw;(try dsimp only at hSw);go_simp;try with_reducible rfl)
 try simp only [gz,Act.put]
 refine nH (bm 23 228309) 10 ?_
 refine tH 18 (v:=?_) rfl (λ_ _ _ h=>h) ?_ ?_;rotate_left
 ·(intro w hSw;(try dsimp only at hSw);go_simp;try with_reducible rfl)
 try simp only [gz,Act.put]
 refine nH (bm 23 490453) 9 ?_
 refine tH 19 (v:=?_) rfl (λ_ _ _ h=>h) ?_ ?_;rotate_left
 ·(intro w hSw;(try dsimp only at hSw);go_simp;try with_reducible rfl)
 try simp only [gz,Act.put]
 refine nH (bm 23 1014741) 8 ?_
 refine yH [1] ?_
 refine cH rfl λK hK=>?_
 go_simp
 go_wp2_with (first|(go_at_call 35;refine (HO.o W.drew (Below.refl _ _).drew).mono ?_;rintro e u1 ⟨a1,c1,Q1,rfl,ho,hk,hb⟩;have HU1:Hid (Below W.heap.size W u1):=al (Below.refl _ _).drew hb;have HO1:=aa ho;have HK1:=aa hk;clear ho hk hb))
 refine hK.out _ _ (HS.o u1 HU1.o) (λhHeld=>?_)
 clear hK K
 try simp only [gz,Act.put]
 refine nH (bm 23 1014743) 7 ?_
 refine yH [3] ?_
 refine cH rfl λK hK=>?_
 go_simp
 go_wp2_with (first|(go_at_call 36;refine (HT.o u1 HU1.o).mono ?_;rintro e u2 ⟨a2,c2,rfl,ho,hb⟩;have HB2:=aa hb;have HU2:Hid (Below W.heap.size W u2):=al HU1.o hb;have HO2:=aa ho;clear ho hb))
 refine hK.out _ _ (HS.o u2 HU2.o) (λhHeld=>?_)
 clear hK K
 try simp only [gz,Act.put]
 refine nH (bm 23 1014751) 6 ?_
 refine yH [5] ?_
 refine cH rfl λK hK=>?_
 go_simp
 go_wp2_with (first|(go_at_call 37;refine (HPr.o u2 HU2.o).mono ?_;rintro e u3 ⟨a3,c3,Q3,rfl,ho,hk,hb⟩;have HB3:=aa hb;have HU3:Hid (Below W.heap.size W u3):=al HU2.o hb;have HO3:=aa ho;have HK3:=aa hk;clear ho hk hb))
 refine hK.out _ _ (HS.o u3 HU3.o) (λhHeld=>?_)
 clear hK K
 try simp only [gz,Act.put]
 refine nH (bm 23 1014783) 5 ?_
 refine yH [10] ?_
 refine cH rfl λK hK=>?_
 go_simp
 go_wp2_with (first|(go_at_call 38;refine (HNx.o u3 HU3.o).mono ?_;rintro e u4 ⟨rfl,hw4⟩;obtain rfl:=hw4.symm;clear hw4))
 refine hK.out _ _ (HS.o u3 HU3.o) (λhHeld=>?_)
 clear hK K
 try simp only [gz,Act.put]
 refine nH (bm 23 1015807) 4 ?_
 refine yH [15] ?_
 refine cH rfl λK hK=>?_
 go_simp
 go_wp2_with (first|(go_at_call 39;refine (HPx.o u3 HU3.o).mono ?_;rintro e u4 ⟨rfl,hw4⟩;obtain rfl:=hw4.symm;clear hw4))
 refine hK.out _ _ (HS.o u3 HU3.o) (λhHeld=>?_)
 clear hK K
 try simp only [gz,Act.put]
 refine nH (bm 23 1048575) 3 ?_
 refine yH [20] ?_
 refine cH rfl λK hK=>?_
 go_simp
 go_wp2_with (first|(go_at_call 40;refine (HTa.o u3 HU3.o).mono ?_;rintro e u4 ⟨rfl,hw4⟩;obtain rfl:=hw4.symm;clear hw4))
 have HZ9:=aa (HZ.o.later HU3.o)
 have HL9:=aa (HZ9.o.JS a1 vn c1 a2 tn c2 a3 pn c3 nx px (ta:Int))
 have HS9:=aa (HZ9.o.Ju a1 vn c1 a2 tn c2 a3 pn c3 nx px (ta:Int))
 have HB9:Hid (ae (λk=>k=w.heap.size) u3 (u3.setCells w.heap.size 0 (stM a1 vn c1 a2 tn c2 a3 pn c3 nx px (ta:Int)))):=R.iK (S:=(λk=>k=w.heap.size)) rfl _ 0 (ae.refl _ _)
 refine hK.out _ _ (HS.o u3 HU3.o) (λhHeld=>?_)
 clear hK K
 try simp only [gz,Act.put]
 refine nH (bm 23 2097151) 2 ?_
 refine tH 21 (v:=?_) rfl (λ_ _ _ h=>h) ?_ ?_;rotate_left
 ·(intro w hSw;(try dsimp only at hSw);go_simp;try with_reducible rfl)
 try simp only [gz,Act.put]
 refine nH (bm 23 4194303) 1 ?_
 refine yH [22] ?_
 refine cH rfl λK hK=>?_
 refine bS 53 (.tmp 2) (.tmp 24) rfl _ _ rfl rfl _ HS9.o ?_
 refine hK.out _ _ (HS0.o _ ((ae.of HU3.o).trans HB9.o)) (λhHeld=>?_)
 clear hK K
 try simp only [gz,Act.put]
 refine nH (bm 23 8388607) 0 ?_
 refine wpAnyH_done (by kernel_rfl) ?_ _
 go_wp2
 have hws:=HWs.o
 have s1:=HU1.o.size
 have s2:=HB2.o.size
 have s3:=HB3.o.size
 refine bodyPost_ret (v:=Eb a1 vn c1 a2 tn c2 a3 pn c3 nx px (ta:Int)) (by simp [results,results17,asAddr,HL9.o]) rfl ⟨a1,c1,Q1,a2,c2,a3,c3,Q3,?_,?_,ae.below (al HB.o HU3.o) HB9.o (λk e=>by omega)⟩
 ·rw [HVn.o,HTn.o,HPn.o]
 ·have hb1:=λj hj=>HO1.o.bD j hj
  have hb2:=λj hj=>HO2.o.bD j hj
  have hb3:=λj hj=>HO3.o.bD j hj
  have hT:df u3 W.heap.size ⟨V,Tl,Pl,nx,px,(ta:Int)⟩ a1 c1 Q1 a2 c2 a3 c3 Q3:=by
   refine⟨?_,HK1.o,?_,?_,HK3.o,λj h1 h2=>?_,λj h1 h2=>?_,λj h1 h2=>?_⟩
   ·rw [<-HVn.o];exact (HO1.o.mono (Nat.le_refl _)).later (al HB2.o HB3.o)
   ·rw [<-HTn.o];exact (HO2.o.mono s1).later HB3.o
   ·rw [<-HPn.o];exact HO3.o.mono (Nat.le_trans s1 s2)
   ·have:=hb1 j h1;have:=hb2 j h2;omega
   ·have:=hb1 j h1;have:=hb3 j h2;omega
   ·have:=hb2 j h1;have:=hb3 j h2;omega
  exact (hT.but HB9.o (λj h1 h2 e=>by omega)).mono (by omega)
end
section
variable {w w':World}
structure Cf where
 W:Int
 o:Int
 p:Int
 m:Int
 q:Int
 r:Int
 l:Int
 s:Int
 y:Int
 k:Int
def Cf.L (c:Cf):List Value:=[.int .i64 c.W,.int .i64 c.o,.int .i64 c.p,.int .i64 c.m,.int .i64 c.q,.int .i64 c.r,.int .i64 c.l,.int .i64 c.s,.int .i64 c.y,.int .i64 c.k]
abbrev Cf.v (c:Cf):Value:=.agg c.L.toArray
def j1 (n a b:Int):Bool:=decide (a<=n)&&decide (n<=b)
theorem Et {n a b:Int}:j1 n a b=true↔a<=n/\n<=b:=by unfold j1;simp
theorem cJ (n a b:Int)(w:World):Calls prog 47 #[.int .i64 n,.int .i64 a,.int .i64 b] w λe w'=>e=.returned (.bool (j1 n a b))/\w'=w:=by
 by_cases h:a<=n
 ·have hd:decide (a<=n)=true:=dT h
  obtain⟨q,hq⟩:∃q,q=decide (n<=b):=⟨_,rfl⟩
  have e:j1 n a b=q:=by unfold j1;rw [hd,hq];simp
  have HQ:=aa hq
  rw [e]
  clear e hq h
  go_enter func47,ntmps47
  go_wp2
  rw [<-HQ.o]
  go_ret
  exact⟨cW (by simp),rfl⟩
 ·have hd:decide (a<=n)=false:=dF h
  have e:j1 n a b=false:=by unfold j1;rw [hd];rfl
  rw [e]
  clear e h
  go_enter func47,ntmps47
  go_wp2
  go_ret
  exact⟨cW (by simp),rfl⟩
def Cf.may (c:Cf):Bool:=j1 c.W 1 128&&j1 c.o 1 64&&j1 c.p 1 256&&j1 c.m 1 256&&j1 c.q 1 256&&j1 c.r 1 32&&j1 c.l 1 32&&j1 c.s 0 16&&j1 c.y 1 4&&j1 c.k 0 64
theorem Cf.vf {c:Cf}:c.may=true↔(1<=c.W/\c.W<=128)/\(1<=c.o/\c.o<=64)/\(1<=c.p/\c.p<=256)/\(1<=c.m/\c.m<=256)/\(1<=c.q/\c.q<=256)/\(1<=c.r/\c.r<=32)/\(1<=c.l/\c.l<=32)/\(0<=c.s/\c.s<=16)/\(1<=c.y/\c.y<=4)/\(0<=c.k/\c.k<=64):=by
 unfold Cf.may
 simp only [Bool.and_eq_true,Et]
 omega
theorem AW (c:Cf)(w:World):Calls prog 27 #[c.v] w λe w'=>e=.returned (.bool c.may)/\Below w.heap.size w w':=by
 obtain⟨W,o,p,m,q,r,l,s,y,k⟩:=c
 unfold Cf.v Cf.L
 cases F0:j1 W 1 128 with
 | false =>
  have E:Hid (Cf.may ⟨W,o,p,m,q,r,l,s,y,k⟩=false):=by unfold Hid Cf.may;simp only [F0,Bool.true_and,Bool.false_and,Bool.and_false,Bool.and_true]
  go_enter func27,ntmps27
  go_wp2_with (first|(go_at_call 47;refine (cJ _ _ _ _).mono ?_;rintro e w1 ⟨rfl,rfl⟩;simp only [F0]))
  go_ret
  exact⟨cW E.out.symm,ab _ _⟩
 | true =>
  cases F1:j1 o 1 64 with
  | false =>
   have E:Hid (Cf.may ⟨W,o,p,m,q,r,l,s,y,k⟩=false):=by unfold Hid Cf.may;simp only [F0,F1,Bool.true_and,Bool.false_and,Bool.and_false,Bool.and_true]
   go_enter func27,ntmps27
   go_wp2_with (first|(go_at_call 47;refine (cJ _ _ _ _).mono ?_;rintro e w1 ⟨rfl,rfl⟩;simp only [F0,F1]))
   go_ret
   exact⟨cW E.out.symm,ab _ _⟩
  | true =>
   cases F2:j1 p 1 256 with
   | false =>
    have E:Hid (Cf.may ⟨W,o,p,m,q,r,l,s,y,k⟩=false):=by unfold Hid Cf.may;simp only [F0,F1,F2,Bool.true_and,Bool.false_and,Bool.and_false,Bool.and_true]
    go_enter func27,ntmps27
    go_wp2_with (first|(go_at_call 47;refine (cJ _ _ _ _).mono ?_;rintro e w1 ⟨rfl,rfl⟩;simp only [F0,F1,F2]))
    go_ret
    exact⟨cW E.out.symm,ab _ _⟩
   | true =>
    cases F3:j1 m 1 256 with
    | false =>
     have E:Hid (Cf.may ⟨W,o,p,m,q,r,l,s,y,k⟩=false):=by unfold Hid Cf.may;simp only [F0,F1,F2,F3,Bool.true_and,Bool.false_and,Bool.and_false,Bool.and_true]
     go_enter func27,ntmps27
     go_wp2_with (first|(go_at_call 47;refine (cJ _ _ _ _).mono ?_;rintro e w1 ⟨rfl,rfl⟩;simp only [F0,F1,F2,F3]))
     go_ret
     exact⟨cW E.out.symm,ab _ _⟩
    | true =>
     cases F4:j1 q 1 256 with
     | false =>
      have E:Hid (Cf.may ⟨W,o,p,m,q,r,l,s,y,k⟩=false):=by unfold Hid Cf.may;simp only [F0,F1,F2,F3,F4,Bool.true_and,Bool.false_and,Bool.and_false,Bool.and_true]
      go_enter func27,ntmps27
      go_wp2_with (first|(go_at_call 47;refine (cJ _ _ _ _).mono ?_;rintro e w1 ⟨rfl,rfl⟩;simp only [F0,F1,F2,F3,F4]))
      go_ret
      exact⟨cW E.out.symm,ab _ _⟩
     | true =>
      cases F5:j1 r 1 32 with
      | false =>
       have E:Hid (Cf.may ⟨W,o,p,m,q,r,l,s,y,k⟩=false):=by unfold Hid Cf.may;simp only [F0,F1,F2,F3,F4,F5,Bool.true_and,Bool.false_and,Bool.and_false,Bool.and_true]
       go_enter func27,ntmps27
       go_wp2_with (first|(go_at_call 47;refine (cJ _ _ _ _).mono ?_;rintro e w1 ⟨rfl,rfl⟩;simp only [F0,F1,F2,F3,F4,F5]))
       go_ret
       exact⟨cW E.out.symm,ab _ _⟩
      | true =>
       cases F6:j1 l 1 32 with
       | false =>
        have E:Hid (Cf.may ⟨W,o,p,m,q,r,l,s,y,k⟩=false):=by unfold Hid Cf.may;simp only [F0,F1,F2,F3,F4,F5,F6,Bool.true_and,Bool.false_and,Bool.and_false,Bool.and_true]
        go_enter func27,ntmps27
        go_wp2_with (first|(go_at_call 47;refine (cJ _ _ _ _).mono ?_;rintro e w1 ⟨rfl,rfl⟩;simp only [F0,F1,F2,F3,F4,F5,F6]))
        go_ret
        exact⟨cW E.out.symm,ab _ _⟩
       | true =>
        cases F7:j1 s 0 16 with
        | false =>
         have E:Hid (Cf.may ⟨W,o,p,m,q,r,l,s,y,k⟩=false):=by unfold Hid Cf.may;simp only [F0,F1,F2,F3,F4,F5,F6,F7,Bool.true_and,Bool.false_and,Bool.and_false,Bool.and_true]
         go_enter func27,ntmps27
         go_wp2_with (first|(go_at_call 47;refine (cJ _ _ _ _).mono ?_;rintro e w1 ⟨rfl,rfl⟩;simp only [F0,F1,F2,F3,F4,F5,F6,F7]))
         go_ret
         exact⟨cW E.out.symm,ab _ _⟩
        | true =>
         cases F8:j1 y 1 4 with
         | false =>
          have E:Hid (Cf.may ⟨W,o,p,m,q,r,l,s,y,k⟩=false):=by unfold Hid Cf.may;simp only [F0,F1,F2,F3,F4,F5,F6,F7,F8,Bool.true_and,Bool.false_and,Bool.and_false,Bool.and_true]
          go_enter func27,ntmps27
          go_wp2_with (first|(go_at_call 47;refine (cJ _ _ _ _).mono ?_;rintro e w1 ⟨rfl,rfl⟩;simp only [F0,F1,F2,F3,F4,F5,F6,F7,F8]))
          go_ret
          exact⟨cW E.out.symm,ab _ _⟩
         | true =>
          cases F9:j1 k 0 64 with
          | false =>
           have E:Hid (Cf.may ⟨W,o,p,m,q,r,l,s,y,k⟩=false):=by unfold Hid Cf.may;simp only [F0,F1,F2,F3,F4,F5,F6,F7,F8,F9,Bool.true_and,Bool.false_and,Bool.and_false,Bool.and_true]
           go_enter func27,ntmps27
           go_wp2_with (first|(go_at_call 47;refine (cJ _ _ _ _).mono ?_;rintro e w1 ⟨rfl,rfl⟩;simp only [F0,F1,F2,F3,F4,F5,F6,F7,F8,F9]))
           go_ret
           exact⟨cW E.out.symm,ab _ _⟩
          | true =>
           have E:Hid (Cf.may ⟨W,o,p,m,q,r,l,s,y,k⟩=true):=by unfold Hid Cf.may;simp only [F0,F1,F2,F3,F4,F5,F6,F7,F8,F9,Bool.true_and,Bool.false_and,Bool.and_false,Bool.and_true]
           go_enter func27,ntmps27
           go_wp2_with (first|(go_at_call 47;refine (cJ _ _ _ _).mono ?_;rintro e w1 ⟨rfl,rfl⟩;simp only [F0,F1,F2,F3,F4,F5,F6,F7,F8,F9]))
           go_ret
           exact⟨cW E.out.symm,ab _ _⟩
end
section
variable {w w':World}
theorem Jo {c:Cf}(h:R.Bx w b c.L):(Instr.loadAt 23 (.pointer (some ⟨b,0,none⟩))).run prog w=.ok c.v w:=by
 have:=run_loadVar_mid (P:=prog) w b 0 23 c.L _ h.range underlying23 rfl (by rw [show (prog.info? 23).map (·.size)=some 10 by kernel_rfl];rfl)
 simp [Instr.loadAt,Instr.sureAddr,this]
structure E0 where
 A:Ad
 qg:Nat
 qb:Nat
 z:S.p7
 g:Nat
 gb:Nat
 n:Nat
 c:Nat->Nat
 pg:Nat
 cg:Nat
 kn:Nat
 mo:Nat
 e:Int
 pm:Int
 lm:Int
 cs:Nat
 cw:Nat
 W:Int
 base:Nat
def E0.H (E:E0)(lg v kb:Nat):Hd:={ A:=E.A,kn:=E.kn,mo:=E.mo,qg:=E.qg,qb:=E.qb,e:=E.e,z:=E.z,g:=E.g,gb:=E.gb,n:=E.n,c:=E.c,pg:=E.pg,pm:=E.pm,lg:=lg,lm:=E.lm,cg:=E.cg,cs:=E.cs,cw:=E.cw,v:=v,kb:=kb,W:=E.W,base:=E.base }
def wQ (mo:Nat)(ks:List Int):aI:={ X:=List.replicate mo tz,l:=[],L:=[],nx:=1,V:=[],t:=0,px:=1,P:=[0],ks:=ks,D:=λ_=>[] }
structure E5 (w:World)(E:E0)(d0 d1 t0 t1 t2 t3 t4 t5:Nat):Prop where
 dr:D.Dr w E.g E.gb E.n E.c 0
 I5:(d0<=E.g/\E.g<d1)/\(0<E.n->d0<=E.gb/\E.gb<d1)
 st:S.St w E.z 1 []
 J6:∀k,S.Zb E.z k->t0<=k/\k<t1
 cat:ie w E.A E.kn E.mo (List.replicate E.mo tz) []
 Iw:∀k,E.A.jC k->t1<=k/\k<t2
 qu:Q.Qu w E.qg E.qb E.e (E.mo:Int) []
 Jj:(t2<=E.qg/\E.qg<t3)/\t2<=E.qb/\E.qb<t3
 pr:∃pa cap,P.Ob w E.base E.pg E.pm 1 pa cap [0]/\∀k,k=E.pg\/aD pa k->t3<=k/\k<t4
 kc:∃e hi mi,K.Kc w E.cg E.cs E.cw E.kn K.T0 e hi mi
 JZ:t4<=E.cg/\E.cg<t5
 ord:0<E.base/\E.base<=d0/\d0<=d1/\d1<=t0/\t0<=t1/\t1<=t2/\t2<=t3/\t3<=t4/\t4<=t5/\t5<=w.heap.size
 mX:1<=E.mo/\E.mo<=256
 laid:D.Laid w
variable {E:E0}{d0 d1 t0 t1 t2 t3 t4 t5:Nat}
theorem E5.but (h:E5 w E d0 d1 t0 t1 t2 t3 t4 t5)(hb:ae (λk=>k=E.cg) w w')(hk:∃e hi mi,K.Kc w' E.cg E.cs E.cw E.kn K.T0 e hi mi):E5 w' E d0 d1 t0 t1 t2 t3 t4 t5:=by
 have ho:=h.ord
 have hc:=h.JZ
 refine { h with dr:=h.dr.xg hb (by have:=h.I5;omega) (λh0=>by have:=h.I5;have:=h.I5.2 h0;omega),st:=h.st.but hb (λk hk e=>by have:=h.J6 k hk;omega) (λk hk=>by obtain⟨o,ho,_⟩:=hk;cases ho),cat:=h.cat.but hb (λk hk e=>by have:=h.Iw k hk;omega),qu:=h.qu.but hb (by have:=h.Jj;omega) (by have:=h.Jj;omega),pr:=?_,kc:=hk,ord:=⟨ho.1,ho.2.1,ho.2.2.1,ho.2.2.2.1,ho.2.2.2.2.1,ho.2.2.2.2.2.1,ho.2.2.2.2.2.2.1,ho.2.2.2.2.2.2.2.1,ho.2.2.2.2.2.2.2.2.1,Nat.le_trans ho.2.2.2.2.2.2.2.2.2 hb.size⟩,laid:=?_ }
 ·obtain⟨pa,cap,h1,h2⟩:=h.pr
  exact⟨pa,cap,h1.but hb (λe=>by have:=h2 _ (.inl rfl);omega) (λk hk e=>by have:=h2 k (.inr hk);omega),h2⟩
 ·exact aC hb h.laid (by simp only [];omega)
def E0.M (E:E0)(d0 d1 t0 t1 t2 t3 t4 t5 lg v kb:Nat):Nat->Nat->Prop
 | 0=>λk=>t1<=k/\k<t2
 | 1=>λk=>t2<=k/\k<t3
 | 2=>λk=>t0<=k/\k<t1
 | 3=>λk=>d0<=k/\k<d1
 | 4=>λk=>t3<=k/\k<t4
 | 5=>λk=>k=lg
 | 6=>λk=>(t4<=k/\k<t5)\/k=v
 | 7=>λk=>k=kb
 | _=>λ_=>False
theorem E5.Km (h:E5 w E d0 d1 t0 t1 t2 t3 t4 t5){lg v kb:Nat}(hlg:t5<=lg/\lg<w.heap.size)(hv:t5<=v/\v<w.heap.size)(hkb:t5<=kb/\kb<w.heap.size)(hne:lg≠v/\lg≠kb/\v≠kb)(hmap:w.ownsMap prog 3 S.hr lg 0 (.map []))(hva:L.Va w v E.cg E.A.g)(hK:Kb w (E.H lg v kb)) :
  aF w (E.H lg v kb) (wQ E.mo []) K.T0 (λk=>(d0<=k/\k<d1)\/(t0<=k/\k<w.heap.size)):=by
 have ho:=h.ord
 obtain⟨cY,hcol⟩:∃cY:Nat->Nat,cY=λk=>if k<d1 then 3 else if k<t1 then 2 else if k<t2 then 0 else if k<t3 then 1 else if k<t4 then 4 else if k<t5 then 6 else if k=lg then 5 else if k=v then 6 else 7:=⟨_,rfl⟩
 have key:∀i k,E.M d0 d1 t0 t1 t2 t3 t4 t5 lg v kb i k->cY k=i:=by
  intro i k hk
  rw [hcol]
  simp only []
  match i,hk with
  | 0,hk=>simp only [E0.M] at hk;repeat (first|rw [if_neg (by omega)]|rw [if_pos (by omega)])
  | 1,hk=>simp only [E0.M] at hk;repeat (first|rw [if_neg (by omega)]|rw [if_pos (by omega)])
  | 2,hk=>simp only [E0.M] at hk;repeat (first|rw [if_neg (by omega)]|rw [if_pos (by omega)])
  | 3,hk=>simp only [E0.M] at hk;repeat (first|rw [if_neg (by omega)]|rw [if_pos (by omega)])
  | 4,hk=>simp only [E0.M] at hk;repeat (first|rw [if_neg (by omega)]|rw [if_pos (by omega)])
  | 5,hk=>simp only [E0.M] at hk;repeat (first|rw [if_neg (by omega)]|rw [if_pos (by omega)])
  | 6,hk =>
   simp only [E0.M] at hk
   by_cases h5:k<t5
   ·repeat (first|rw [if_neg (by omega)]|rw [if_pos (by omega)])
   ·repeat (first|rw [if_neg (by omega)]|rw [if_pos (by omega)])
  | 7,hk=>simp only [E0.M] at hk;repeat (first|rw [if_neg (by omega)]|rw [if_pos (by omega)])
 refine⟨E.M d0 d1 t0 t1 t2 t3 t4 t5 lg v kb,?_,λi j k h1 h2=>by rw [<-key i k h1,key j k h2],?_,λk hk=>⟨by rcases hk with hk|hk<;>(show E.base<=k;omega),by omega⟩,h.mX,h.laid,⟨ho.1,(by show E.base<=_;omega)⟩⟩
 ·intro i
  match i with
  | 0=>exact⟨h.cat,h.Iw⟩
  | 1=>exact⟨h.qu,λk hk=>by rcases hk with rfl|rfl;exact h.Jj.1;exact h.Jj.2⟩
  | 2=>exact⟨[],h.st,rfl,λk hk=>by rcases hk with hk|⟨o,ho,_⟩;exact h.J6 k hk;cases ho⟩
  | 3=>exact⟨h.dr,λk hk=>by rcases hk with rfl|⟨h0,rfl⟩;exact h.I5.1;exact h.I5.2 h0⟩
  | 4=>exact h.pr
  | 5=>exact⟨λ_=>0,λ_=>none,λ_=>0,λ_=>0,⟨hmap,λi hi=>(by cases hi),λi hi=>(by cases hi)⟩,λk hk=>by rcases hk with hk|⟨i,hi,_⟩;exact hk;cases hi⟩
  | 6=>exact⟨h.kc,hva,.inl h.JZ,.inr rfl,by have:=h.JZ;show v≠E.cg;omega⟩
  | 7=>exact⟨hK,rfl⟩
  | _+8=>trivial
 ·intro i k hk
  match i,hk with
  | 0,hk=>simp only [E0.M] at hk;omega
  | 1,hk=>simp only [E0.M] at hk;omega
  | 2,hk=>simp only [E0.M] at hk;omega
  | 3,hk=>simp only [E0.M] at hk;omega
  | 4,hk=>simp only [E0.M] at hk;omega
  | 5,hk=>simp only [E0.M] at hk;omega
  | 6,hk=>simp only [E0.M] at hk;omega
  | 7,hk=>simp only [E0.M] at hk;omega
end
section
variable {w w':World}
def Em (E:E0)(w5 U:World)(kb:Nat):Prop:=∃lg v,(w5.heap.size<=lg/\lg<U.heap.size)/\(w5.heap.size<=v/\v<U.heap.size)/\(w5.heap.size<=kb/\kb<U.heap.size)/\(lg≠v/\lg≠kb/\v≠kb)/\U.ownsMap prog 3 S.hr lg 0 (.map [])/\L.Va U v E.cg E.A.g/\Kb U (E.H lg v kb)/\(∃e hi mi,K.Kc U E.cg E.cs E.cw E.kn K.T0 e hi mi)/\ae (λk=>k=E.cg) w5 U
theorem Em.first {E:E0}{w5 u1:World}(hcg:E.cg<w5.heap.size){v:Nat}(hva:L.Va u1 v E.cg E.A.g)(hkc:∃e hi mi,K.Kc u1 E.cg E.cs E.cw E.kn K.T0 e hi mi)(hv:(w5.drew.alloc (Obj.map #[] 0)).heap.size<=v)(hb:ae (λk=>k=E.cg) (w5.drew.alloc (Obj.map #[] 0)) u1) :
  Em E w5 (u1.alloc (Obj.cells (E.H w5.heap.size v u1.heap.size).kc.toArray 88)) u1.heap.size:=by
 have hs:=hb.size
 simp only [World.size_alloc] at hs hv
 have hs5:w5.drew.heap.size=w5.heap.size:=rfl
 have hvl:=hva.lt
 have hm0:(w5.drew.alloc (Obj.map #[] 0)).ownsMap prog 3 S.hr w5.heap.size 0 (.map []):=World.ownsMap_made w5.drew _ _ _
 have hB1:=ab u1 (Obj.cells (E.H w5.heap.size v u1.heap.size).kc.toArray 88)
 refine⟨w5.heap.size,v,⟨Nat.le_refl _,by simp;omega⟩,⟨by omega,by simp;omega⟩,⟨by omega,by simp⟩,⟨by omega,by omega,by omega⟩,?_,hva.later hB1,λj x hx=>?_,?_,?_⟩
 ·exact S.bd (ae.of (S:=λ_=>False) hB1) (S.bd hb hm0 (by omega)) (λh=>h)
 ·exact (S.aE u1 _ _ j x (by simpa using hx)).1
 ·obtain⟨e,hi,mi,hk⟩:=hkc
  exact⟨e,hi,mi,hk.later hB1⟩
 ·have h1:ae (λk=>k=E.cg) w5 (w5.drew.alloc (Obj.map #[] 0)):=ae.of ((Below.refl _ _).drew.alloc (Nat.le_refl _) _)
  exact (h1.trans hb).trans (ae.of hB1)
theorem Em.nV {E:E0}{w5 u1:World}(hcg:E.cg<w5.heap.size){v:Nat}(hva:L.Va u1 v E.cg E.A.g)(hkc:∃e hi mi,K.Kc u1 E.cg E.cs E.cw E.kn K.T0 e hi mi)(hv:w5.drew.heap.size<=v)(hb:ae (λk=>k=E.cg) w5.drew u1) :
  Em E w5 ((u1.alloc (Obj.map #[] 0)).alloc (Obj.cells (E.H u1.heap.size v (u1.heap.size+1)).kc.toArray 88)) (u1.heap.size+1):=by
 have hs:=hb.size
 have hs5:w5.drew.heap.size=w5.heap.size:=rfl
 have hvl:=hva.lt
 have hm0:(u1.alloc (Obj.map #[] 0)).ownsMap prog 3 S.hr u1.heap.size 0 (.map []):=World.ownsMap_made u1 _ _ _
 have hB1:=ab (u1.alloc (Obj.map #[] 0)) (Obj.cells (E.H u1.heap.size v (u1.heap.size+1)).kc.toArray 88)
 have hB2:=aw u1 (Obj.map #[] 0) (Obj.cells (E.H u1.heap.size v (u1.heap.size+1)).kc.toArray 88)
 refine⟨u1.heap.size,v,⟨by omega,by simp;omega⟩,⟨by omega,by simp;omega⟩,⟨by omega,by simp⟩,⟨by omega,by omega,by omega⟩,?_,hva.later hB2,λj x hx=>?_,?_,?_⟩
 ·exact S.bd (ae.of (S:=λ_=>False) hB1) hm0 (λh=>h)
 ·have:=(S.aE (u1.alloc (Obj.map #[] 0)) (E.H u1.heap.size v (u1.heap.size+1)).kc.toArray 88 j x (by simpa using hx)).1
  rw [World.size_alloc] at this
  exact this
 ·obtain⟨e,hi,mi,hk⟩:=hkc
  exact⟨e,hi,mi,hk.later hB2⟩
 ·have h1:ae (λk=>k=E.cg) w5 w5.drew:=ae.of (Below.refl _ _).drew
  exact (h1.trans hb).trans (ae.of hB2)
theorem xK (g gb n:Nat)(cf:Nat->Nat)(W:Int)(room sv mo:Nat)(e pm lm:Int)(cs cw kn:Nat)(w:World)(base d0:Nat)(hdr:D.Dr w g gb n cf 0)(hdm:d0<=g/\(0<n->d0<=gb))(h0:0<base/\base<=d0/\d0<=w.heap.size)(hl:D.Laid w)
  (b1:1<=room/\room<=64) (b2:1<=sv/\sv<=256) (b3:1<=mo/\mo<=256) (b4:1<=e/\e<=256) (b5:1<=pm/\pm<=32) (b6:1<=lm/\lm<=32) (b7:cs<=16) (b8:1<=cw/\cw<=4) (b9:kn<=64) :
  Calls prog 29 #[(Cf.mk W (room:Int) (sv:Int) (mo:Int) e pm lm (cs:Int) (cw:Int) (kn:Int)).v,.pointer (some ⟨g,0,none⟩)] w λe' w'=>∃H N,e'=.returned (.pointer (some ⟨H.kb,0,none⟩))/\aF w' H (wQ mo [0]) K.T0 N/\H.p=⟨mo,e,n,cf,room,sv,pm,lm,W⟩/\H.cf=(Cf.mk W (room:Int) (sv:Int) (mo:Int) e pm lm (cs:Int) (cw:Int) (kn:Int)).L/\(∀k,N k->d0<=k)/\ae (λk=>d0<=k) w w':=by
 obtain⟨W0,hW⟩:∃W0,W0=w.alloc (Obj.cells (Cf.mk W (room:Int) (sv:Int) (mo:Int) e pm lm (cs:Int) (cw:Int) (kn:Int)).L.toArray 23):=⟨_,rfl⟩
 have hB:Below w.heap.size w W0:=by rw [hW];exact ab _ _
 have HWs:Hid (W0.heap.size=w.heap.size+1):=by unfold Hid;rw [hW];simp
 have HX:Hid (∀U,Below W0.heap.size W0 U->R.Bx U w.heap.size (Cf.mk W (room:Int) (sv:Int) (mo:Int) e pm lm (cs:Int) (cw:Int) (kn:Int)).L):=λU hU=>by rw [hW] at hU;exact R.Bx.later hU (R.Bx.new w (Cf.mk W (room:Int) (sv:Int) (mo:Int) e pm lm (cs:Int) (cw:Int) (kn:Int)).L 23)
 have HDr:=aa hdr
 have HDm:=aa hdm
 have H0:=aa h0
 have HLd:=aa hl
 have HG:Hid (g<w.heap.size/\(0<n->gb<w.heap.size)):=⟨hdr.lt,λh=>hdr.oN h⟩
 have HN1:=aa (S.GA room sv W0 b1 b2)
 have HN2:=aa (λU=>DD U mo kn b3.1 b3.2 b9)
 have HN3:=aa (λU=>Q.bE e (mo:Int) U ⟨b4,by omega,by omega⟩)
 have HN4:=aa (λU=>P.bE pm U b5.1 b5.2)
 have HN5:=aa (λU=>K.J0 cs cw kn U b7 b8.1 b8.2 b9)
 have HB:=aa hB
 have HW:=aa hW
 have HBd:=aa (And.intro b3 b6)
 clear hdr hdm h0 hl hB hW b1 b2 b3 b4 b5 b6 b7 b8 b9
 unfold Cf.v Cf.L
 go_enter func29,ntmps29
 go_upto_region 1 with fail
 have hW':=HW.o
 unfold Cf.L at hW'
 rw [<-hW']
 clear hW'
 have x1:=(HX.o W0 (Below.refl _ _)).cell 1 rfl
 have x2:=(HX.o W0 (Below.refl _ _)).cell 2 rfl
 simp only [] at x1 x2
 go_upto_region 2 with (first|(go_at_call 49;refine HN1.o.mono ?_;rintro e1 w1 ⟨z,rfl,rfl,rfl,hst,hzb,hb⟩;have HSt:=aa hst;have HZb:=aa hzb;have HB1:=aa hb;clear hst hzb hb))
 clear x1 x2
 have x3:=(HX.o w1 HB1.o).cell 3 rfl
 have x9:=(HX.o w1 HB1.o).cell 9 rfl
 simp only [] at x3 x9
 go_upto_region 3 with (first|(go_at_call 50;refine (HN2.o w1).mono ?_;rintro e1 w2 ⟨A,rfl,hca,hall,hb⟩;have HCa:=aa hca;have HAl:=aa hall;have HB2:=aa hb;clear hca hall hb))
 clear x3 x9
 have HU2:Hid (Below W0.heap.size W0 w2):=al HB1.o HB2.o
 have x3:=(HX.o w2 HU2.o).cell 3 rfl
 have x4:=(HX.o w2 HU2.o).cell 4 rfl
 simp only [] at x3 x4
 go_upto_region 4 with (first|(go_at_call 51;refine (HN3.o w2).mono ?_;rintro e1 w3 ⟨qg,qb,rfl,hqu,hq1,hq2,hb⟩;have HQu:=aa hqu;have HQm:=aa (And.intro hq1 hq2);have HB3:=aa hb;clear hqu hq1 hq2 hb))
 clear x3 x4
 have HU3:Hid (Below W0.heap.size W0 w3):=al HU2.o HB3.o
 have x5:=(HX.o w3 HU3.o).cell 5 rfl
 simp only [] at x5
 go_upto_region 5 with (first|(go_at_call 52;refine (HN4.o w3).mono ?_;rintro e1 w4 ⟨pg,pa,pc,rfl,hpr,hb⟩;have HPr:=aa hpr;have HB4:=aa hb;clear hpr hb))
 clear x5
 have HU4:Hid (Below W0.heap.size W0 w4):=al HU3.o HB4.o
 have x7:=(HX.o w4 HU4.o).cell 7 rfl
 have x8:=(HX.o w4 HU4.o).cell 8 rfl
 have x9:=(HX.o w4 HU4.o).cell 9 rfl
 simp only [] at x7 x8 x9
 go_upto_region 6 with (first|(go_at_call 53;refine (HN5.o w4).mono ?_;rintro e1 w5 ⟨cg,rfl,hkc,hcg,hb⟩;have HKc:=aa hkc;have HCg:=aa hcg;have HB5:=aa hb;clear hkc hcg hb))
 clear x7 x8 x9
 have HU5:Hid (Below W0.heap.size W0 w5):=al HU4.o HB5.o
 obtain⟨E,hE⟩:∃E:E0,E={ A:=A,qg:=qg,qb:=qb,z:=z,g:=g,gb:=gb,n:=n,c:=cf,pg:=pg,cg:=cg,kn:=kn,mo:=mo,e:=e,pm:=pm,lm:=lm,cs:=cs,cw:=cw,W:=W,base:=base }:=⟨_,rfl⟩
 have HE5:Hid (E5 w5 E d0 w.heap.size W0.heap.size w1.heap.size w2.heap.size w3.heap.size w4.heap.size w5.heap.size):=by
  have s0:=HWs.o
  have s1:=HB1.o.size
  have s2:=HB2.o.size
  have s3:=HB3.o.size
  have s4:=HB4.o.size
  have s5:=HB5.o.size
  have h0:=H0.o
  have B25:Below w2.heap.size w2 w5:=al HB3.o (al HB4.o HB5.o)
  rw [hE]
  refine⟨HDr.o.later (al HB.o HU5.o),⟨⟨HDm.o.1,HG.o.1⟩,λh=>⟨HDm.o.2 h,HG.o.2 h⟩⟩,HSt.o.later (al HB2.o B25),HZb.o,HCa.o.later B25,λk hk=>⟨HAl.o k hk,HCa.o.lt k hk⟩,HQu.o.later (al HB4.o HB5.o),⟨⟨HQm.o.1,HQu.o.CH⟩,HQm.o.2,HQu.o.blt⟩,⟨pa,pc,?_,λk hk=>?_⟩,⟨_,_,_,HKc.o⟩,⟨HCg.o,HKc.o.lt⟩,⟨h0.1,h0.2.1,h0.2.2,by omega,by omega,by omega,by omega,by omega,by omega,Nat.le_refl _⟩,HBd.o.1,cell_later (al HB.o HU5.o) HLd.o⟩
  ·have:=HPr.o.later HB5.o
   exact⟨this.c0,this.c1,this.c2,this.own.mono (by show base<=_;omega),this.ap,by have h9:w3.heap.size<=pg:=this.lo;show base<=pg;omega⟩
  ·rcases hk with rfl|hk
   ·exact⟨HPr.o.lo,HPr.o.lt⟩
   ·exact⟨HPr.o.own.bD k hk,HPr.o.own.lt k hk⟩
 have HEq:=aa hE
 have HVn:Hid (∀U,Below w5.heap.size w5 U->Calls prog 54 #[.pointer (some ⟨A.g,0,none⟩),.pointer (some ⟨cg,0,none⟩)] U λe' w'=>∃v,e'=.returned (.pointer (some ⟨v,0,none⟩))/\L.Va w' v E.cg E.A.g/\(∃e hi mi,K.Kc w' E.cg E.cs E.cw E.kn K.T0 e hi mi)/\U.heap.size<=v/\ae (λk=>k=E.cg) U w'):=λU hU=>by
  rw [hE]
  exact L.zv (HKc.o.later hU)
 have HCl:Hid (E.cg<w5.heap.size):=by rw [hE];exact HKc.o.lt
 have HS5:Hid (∀U,ae (λk=>k=E.cg) w5 U->(R.Bx U w.heap.size (Cf.mk W (z.room:Int) (z.n:Int) (mo:Int) e pm lm (cs:Int) (cw:Int) (kn:Int)).L)):=λU hU=>R.Bx.but hU (HX.o w5 HU5.o) (λe=>by
  have h1:=HCg.o
  have h2:=HWs.o
  have h3:=HU4.o.size
  rw [hE] at e
  simp only [] at e
  omega)
 have hmm:=@run_makeMap prog
 clear hE
 go_cut [15] (λs15 U=>∃kb,s15=.pointer (some ⟨kb,0,none⟩)/\Hid (Em E w5 U kb))
 case first =>
  refine wp_region_held_drew (S:=(λU:World=>(R.Bx U w.heap.size (Cf.mk W (z.room:Int) (z.n:Int) (mo:Int) e pm lm (cs:Int) (cw:Int) (kn:Int)).L))) (by kernel_rfl) (HS5.o _ (ae.of (Below.refl _ _).drew)) (λhHeld=>?_)
  refine nH (bm 13 0) 13 ?_
  refine tH 0 (v:=.agg #[.int .i64 W,.int .i64 (z.room:Int),.int .i64 (z.n:Int),.int .i64 (mo:Int),.int .i64 e,.int .i64 pm,.int .i64 lm,.int .i64 (cs:Int),.int .i64 (cw:Int),.int .i64 (kn:Int)]) rfl (λ_ _ _ h=>h) ?_ ?_
  ·(intro w hSw;(try dsimp only at hSw);exact K.eI rfl rfl (Jo hSw))
  try simp only [gz,Act.put]
  refine nH (bm 13 1) 12 ?_
  refine tH 1 (v:=?_) rfl (λ_ _ _ h=>h) ?_ ?_;rotate_left
  ·(intro w hSw;(try dsimp only at hSw);go_simp;try with_reducible rfl)
  try simp only [gz,Act.put]
  refine nH (bm 13 3) 11 ?_
  refine tH 2 (v:=?_) rfl (λ_ _ _ h=>h) ?_ ?_;rotate_left
  ·(intro w hSw;(try dsimp only at hSw);go_simp;try with_reducible rfl)
  try simp only [gz,Act.put]
  refine nH (bm 13 7) 10 ?_
  refine tH 3 (v:=?_) rfl (λ_ _ _ h=>h) ?_ ?_;rotate_left
  ·(intro w hSw;(try dsimp only at hSw);go_simp;try with_reducible rfl)
  try simp only [gz,Act.put]
  refine nH (bm 13 15) 9 ?_
  refine tH 4 (v:=?_) rfl (λ_ _ _ h=>h) ?_ ?_;rotate_left
  ·(intro w hSw;(try dsimp only at hSw);go_simp;try with_reducible rfl)
  try simp only [gz,Act.put]
  refine nH (bm 13 31) 8 ?_
  refine tH 5 (v:=?_) rfl (λ_ _ _ h=>h) ?_ ?_;rotate_left
  ·(intro w hSw;(try dsimp only at hSw);go_simp;try with_reducible rfl)
  try simp only [gz,Act.put]
  refine nH (bm 13 63) 7 ?_
  refine tH 7 (v:=?_) rfl (λ_ _ _ h=>h) ?_ ?_;rotate_left
  ·(intro w hSw;(try dsimp only at hSw);go_simp;try with_reducible rfl)
  try simp only [gz,Act.put]
  refine nH (bm 13 191) 6 ?_
  refine tH 8 (v:=?_) rfl (λ_ _ _ h=>h) ?_ ?_;rotate_left
  ·(intro w hSw;(try dsimp only at hSw);go_simp;try with_reducible rfl)
  try simp only [gz,Act.put]
  refine nH (bm 13 447) 5 ?_
  refine yH [6,9] ?_
  refine AllReadyH.cons rfl (λK hK=>?_) ?_
  ·go_simp
   refine hK.out _ _ (HS5.o _ (ae.of ((Below.refl _ _).drew.alloc (Nat.le_refl _) _))) (λhHeld=>?_)
   clear hK K
   try simp only [gz,Act.put]
   refine nH (bm 13 511) 4 ?_
   refine yH [9] ?_
   refine cH rfl λK hK=>?_
   go_simp
   go_wp2_with (first|(go_at_call 54;refine (HVn.o (w5.drew.alloc (Obj.map #[] 0)) ((Below.refl _ _).drew.alloc (Nat.le_refl _) _)).mono ?_;rintro e1 u1 ⟨v,rfl,hva,hkc,hv,hb⟩;have HVa:=aa hva;have HKv:=aa hkc;have HVl:=aa hv;have HBv:=aa hb;have HBc:Hid (ae (λk=>k=E.cg) w5 u1):=(ae.of ((Below.refl _ _).drew.alloc (Nat.le_refl _) _)).trans hb;clear hva hkc hv hb))
   refine hK.out _ _ (HS5.o u1 HBc.o) (λhHeld=>?_)
   clear hK K
   try simp only [gz,Act.put]
   refine nH (bm 13 1023) 3 ?_
   refine tH 10 (v:=?_) rfl (λ_ _ _ h=>h) ?_ ?_;rotate_left
   ·(intro w hSw;(try dsimp only at hSw);go_simp;try with_reducible rfl)
   try simp only [gz,Act.put]
   refine nH (bm 13 2047) 2 ?_
   refine yH [11] ?_
   refine cH rfl λK hK=>?_
   go_simp
   refine hK.out _ _ (HS5.o _ (HBc.o.trans (ae.of (ab _ _)))) (λhHeld=>?_)
   clear hK K
   try simp only [gz,Act.put]
   refine nH (bm 13 4095) 1 ?_
   refine tH 12 (v:=?_) rfl (λ_ _ _ h=>h) ?_ ?_;rotate_left
   ·(intro w hSw;(try dsimp only at hSw);go_simp;try with_reducible rfl)
   try simp only [gz,Act.put]
   refine nH (bm 13 8191) 0 ?_
   refine wpAnyH_done (by kernel_rfl) ?_ _
   go_wp2
   go_meet
   first|(exact⟨_,rfl,by have h:=Em.first HCl.o HVa.o HKv.o HVl.o HBv.o;rw [HEq.o] at h ⊢;exact h⟩)|(exact⟨_,rfl,by have h:=Em.nV HCl.o HVa.o HKv.o HVl.o HBv.o;rw [HEq.o] at h ⊢;exact h⟩)
  refine cH rfl λK hK=>?_
  go_simp
  go_wp2_with (first|(go_at_call 54;refine (HVn.o w5.drew (Below.refl _ _).drew).mono ?_;rintro e1 u1 ⟨v,rfl,hva,hkc,hv,hb⟩;have HVa:=aa hva;have HKv:=aa hkc;have HVl:=aa hv;have HBv:=aa hb;have HBc:Hid (ae (λk=>k=E.cg) w5 u1):=(ae.of (Below.refl _ _).drew).trans hb;clear hva hkc hv hb))
  refine hK.out _ _ (HS5.o u1 HBc.o) (λhHeld=>?_)
  clear hK K
  try simp only [gz,Act.put]
  refine nH (bm 13 959) 4 ?_
  refine yH [6] ?_
  refine cH rfl λK hK=>?_
  go_simp
  refine hK.out _ _ (HS5.o _ (HBc.o.trans (ae.of (ab _ _)))) (λhHeld=>?_)
  clear hK K
  try simp only [gz,Act.put]
  refine nH (bm 13 1023) 3 ?_
  refine tH 10 (v:=?_) rfl (λ_ _ _ h=>h) ?_ ?_;rotate_left
  ·(intro w hSw;(try dsimp only at hSw);go_simp;try with_reducible rfl)
  try simp only [gz,Act.put]
  refine nH (bm 13 2047) 2 ?_
  refine yH [11] ?_
  refine cH rfl λK hK=>?_
  go_simp
  refine hK.out _ _ (HS5.o _ (HBc.o.trans (ae.of (aw _ _ _)))) (λhHeld=>?_)
  clear hK K
  try simp only [gz,Act.put]
  refine nH (bm 13 4095) 1 ?_
  refine tH 12 (v:=?_) rfl (λ_ _ _ h=>h) ?_ ?_;rotate_left
  ·(intro w hSw;(try dsimp only at hSw);go_simp;try with_reducible rfl)
  try simp only [gz,Act.put]
  refine nH (bm 13 8191) 0 ?_
  refine wpAnyH_done (by kernel_rfl) ?_ _
  go_wp2
  go_meet
  first|(exact⟨_,rfl,by have h:=Em.first HCl.o HVa.o HKv.o HVl.o HBv.o;rw [HEq.o] at h ⊢;exact h⟩)|(exact⟨_,rfl,by have h:=Em.nV HCl.o HVa.o HKv.o HVl.o HBv.o;rw [HEq.o] at h ⊢;exact h⟩)
 case rest =>
  rename World=>u
  obtain⟨kb,rfl,hEm⟩:=hcut
  obtain⟨lg,v,hlg,hv,hkb,hne,hmap,hva,hK,hkc,hbt⟩:=hEm.out
  have hE5:=HE5.o.but hbt hkc
  have hD:=hE5.Km hlg hv hkb hne hmap hva hK
  have hlm:E.lm=lm:=by rw [HEq.o]
  have mX:E.mo=mo:=by rw [HEq.o]
  have HA:Hid (Calls prog 55 #[.pointer (some ⟨kb,0,none⟩),.int .i64 0,.slice none 0 0] u λe w'=>e=.returned (.int .i64 0)/\∃N',aF w' (E.H lg v kb) { wQ E.mo [] with ks:=[]++[0],D:=fT (λ_=>[]) 0 [] } K.T0 N'/\aH u (λk=>(d0<=k/\k<w.heap.size)\/(W0.heap.size<=k/\k<u.heap.size)) w' N') :=
   uS hD (by show E.lm<=32/\1<=E.lm;rw [hlm];exact⟨HBd.o.2.2,HBd.o.2.1⟩) 0 (by simp [wQ]) (by omega) (by simp [wQ]) (K:=[]) (Ow.rd (Ow.nil u 0 38 3) rfl) (by show ((0:Nat):Int)<=E.lm;rw [hlm];have:=HBd.o.2.1;omega)
  have hst:({ wQ E.mo [] with ks:=[]++[0],D:=fT (λ_=>[]) 0 [] }:aI)=wQ mo [0]:=by
   have e1:fT (λ_=>([]:List Cp)) 0 []=λ_=>[]:=by funext j;simp [fT]
   rw [e1,mX]
   rfl
  rw [hst] at HA
  have HBt:=aa hbt
  clear hEm hlg hv hkb hne hmap hva hK hkc hbt hE5 hD hlm mX hst
  go_wp2_with (first|(go_at_call 55;refine HA.o.mono ?_;rintro e1 u2 ⟨rfl,N2,hd2,hw2⟩;have HD2:=aa hd2;have HW2:=aa hw2;clear hd2 hw2))
  have h0:=H0.o
  have hws:=HWs.o
  have hcg:W0.heap.size<=E.cg:=by rw [HEq.o];exact Nat.le_trans HU4.o.size HCg.o
  have hb1:ae (λk=>d0<=k) w u:=(ae.of (al HB.o HU5.o)).trans (HBt.o.mono (λk e=>by omega))
  refine bodyPost_ret (v:=.pointer (some ⟨kb,0,none⟩)) (by simp [results,results29,go_sem]) rfl ⟨E.H lg v kb,N2,rfl,HD2.o,by rw [HEq.o];rfl,by rw [HEq.o];rfl,λk hk=>?_,hb1.trans (HW2.o.2.mono (λk hk=>by omega))⟩
  have:=hb1.size
  rcases HW2.o.1 k hk with h1|h1<;>omega
end
section
variable {w w':World}
def Cf.pm (c:Cf)(n:Nat)(f:Nat->Nat):Pm:=⟨c.m.toNat,c.q,n,f,c.o.toNat,c.p.toNat,c.r,c.l,c.W⟩
theorem Cf.enter (c:Cf)(w:World):Below w.heap.size w (w.alloc (Obj.cells c.L.toArray 23))/\R.Bx (w.alloc (Obj.cells c.L.toArray 23)) w.heap.size c.L:=⟨ab _ _,R.Bx.new w c.L 23⟩
theorem Ko {p:Pm}(hm:1<=p.mo/\p.mo<=256)(hp:1<=p.pm/\p.pm<=32)(hl:1<=p.lm/\p.lm<=32)(hc:∀i,i<p.n->p.c i<ak*ak)(hi:Inv p.mo (List.replicate p.mo tz) []):KF p (wQ p.mo [0]) :=
 {fit:={ inv:=hi,mW:=λo=>by simp [wQ,jE,ah],len:=rfl,obj:=λo=>by simp [wQ,dB,ah],ids:=λp hp=>(by cases hp) }
  le:=Nat.zero_le _
  cs:=hc
  iv:=P.Iv.start hp.1 hp.2
  ln:=λi _=>by show ((0:Nat):Int)<=_;omega
  wd:=λi _ c hc=>(by cases hc)
  lm:=hl
  ks:=rfl
  nx:=by show (1:Int)<=1/\(1:Int)<=_;decide }
theorem bE (c:Cf)(hc:c.may=true)(a:Option Addr)(n cap:Nat)(f:Nat->Nat)(w:World)(hw:D.Ws w a n cap f)(hn:n<=4096)(hl:D.Laid w)(h0:0<w.heap.size) :
  Calls prog 11 #[c.v,.slice a n cap] w λe w'=>∃H N,e=.returned (.tuple #[.pointer (some ⟨H.kb,0,none⟩),.int .i64 0])/\Kn w' H (wQ c.m.toNat [0]) N/\H.p=c.pm n (λj=>D.cn (f j) c.W)/\H.cf=c.L/\(∀k,N k->w.heap.size<=k)/\Below w.heap.size w w':=by
 obtain⟨W,hW⟩:∃W,W=w.alloc (Obj.cells c.L.toArray 23):=⟨_,rfl⟩
 have he:=c.enter w
 rw [<-hW] at he
 have hb:=Cf.vf.1 hc
 have HB:=aa he.1
 have HLd:=aa (λU (hU:Below W.heap.size W U)=>Jo (R.Bx.later hU he.2))
 have HX:=aa he.2
 have HM:=aa (AW c W)
 rw [hc] at HM
 have HN:=aa (λU (hU:Below W.heap.size W U)=>D.bE a n cap f c.W U ((hw.later he.1).later hU) hb.1.1 hb.1.2 hn)
 have hcf:c=⟨c.W,(c.o.toNat:Int),(c.p.toNat:Int),(c.m.toNat:Int),c.q,c.r,c.l,(c.s.toNat:Int),(c.y.toNat:Int),(c.k.toNat:Int)⟩:=by
  rw [Int.toNat_of_nonneg (by omega),Int.toNat_of_nonneg (by omega),Int.toNat_of_nonneg (by omega),Int.toNat_of_nonneg (by omega),Int.toNat_of_nonneg (by omega),Int.toNat_of_nonneg (by omega)]
 have HEm:Hid (∀(w1 w2:World) (g gb:Nat),Below W.heap.size W w1->Below w1.heap.size w1 w2->D.Dr w2 g gb n (λj=>D.cn (f j) c.W) 0->w1.heap.size<=g->w1.heap.size<=gb->Calls prog 29 #[c.v,.pointer (some ⟨g,0,none⟩)] w2 λe' w'=>∃H N,e'=.returned (.pointer (some ⟨H.kb,0,none⟩))/\aF w' H (wQ c.m.toNat [0]) K.T0 N/\H.p=c.pm n (λj=>D.cn (f j) c.W)/\H.cf=c.L/\(∀k,N k->w.heap.size<=k)/\ae (λk=>w.heap.size<=k) w2 w'):=λw1 w2 g gb h1 h2 hd hg hgb=>by
  have s1:=he.1.size
  have s2:=h1.size
  have s3:=h2.size
  have:=xK g gb n (λj=>D.cn (f j) c.W) c.W c.o.toNat c.p.toNat c.m.toNat c.q c.r c.l c.s.toNat c.y.toNat c.k.toNat w2 w.heap.size w.heap.size hd ⟨by omega,λ_=>by omega⟩ ⟨h0,Nat.le_refl _,by omega⟩ (cell_later h2 (cell_later h1 (cell_later he.1 hl))) (by omega) (by omega) (by omega) (by omega) (by omega) (by omega) (by omega) (by omega) (by omega)
  rw [<-hcf] at this
  exact this
 have HKf:Hid (∀i,i<n->D.cn (f i) c.W<ak*ak):=λi _=>Nat.lt_of_le_of_lt (Nat.mod_le _ _) (hw.small i)
 have HBd:=aa hb
 have HW:=aa hW
 clear he hW hc hb hn hl h0 hcf hw
 go_enter func11,ntmps11
 go_upto_region 1 with fail
 rw [<-HW.o]
 go_upto_region 3 with (first|((with_reducible refine R.aP (HLd.o W (Below.refl _ _)) ?_ ?_);(· rfl))|(go_at_call 27;refine HM.o.mono ?_;rintro e w1 ⟨rfl,hb1⟩;have HB1:=aa hb1;clear hb1))
 have x0:=(R.Bx.later HB1.o HX.o).cell 0 rfl
 go_upto_region 6 with (first|(go_at_call 28;refine (HN.o w1 HB1.o).mono ?_;rintro e w2 ⟨g,gb,rfl,hdr,hg,hgb,-,hb2⟩;have HDr:=aa hdr;have HG:=aa (And.intro hg hgb);have HB2:=aa hb2;clear hdr hg hgb hb2))
 clear x0
 have HEc:=aa (HEm.o w1 w2 g gb HB1.o HB2.o HDr.o HG.o.1 HG.o.2)
 go_wp2_with (first|((with_reducible refine R.aP (HLd.o w2 (al HB1.o HB2.o)) ?_ ?_);(· rfl))|(go_at_call 29;refine HEc.o.mono ?_;rintro e w3 ⟨H,N,rfl,hd,hp,hcf,hN,hb⟩;have HD:=aa hd;have HPm:=aa hp;have HCf:=aa hcf;have HNn:=aa hN;have HB3:=aa hb;clear hd hp hcf hN hb))
 have hbd:=HBd.o
 refine bodyPost_ret (v:=.tuple #[.pointer (some ⟨H.kb,0,none⟩),.int .i64 0]) (by simp [results,results11,go_sem]) rfl ⟨H,N,rfl,⟨_,HD.o,L.Tr.zero _ _,?_,?_⟩,HPm.o,HCf.o,HNn.o,ae.below (al HB.o (al HB1.o HB2.o)) HB3.o (λk e=>e)⟩
 ·have hk:=HPm.o
  rw [hk]
  have hi:Inv (c.pm n (λj=>D.cn (f j) c.W)).mo (List.replicate (c.pm n (λj=>D.cn (f j) c.W)).mo tz) []:=by
   have h1:=HD.o.inv
   have h2:H.mo=c.m.toNat:=by have:H.p.mo=_:=congrArg Pm.mo hk;exact this
   rw [h2] at h1
   exact h1
  exact Ko ⟨by show 1<=c.m.toNat;omega,by show c.m.toNat<=256;omega⟩ ⟨by show 1<=c.r;omega,by show c.r<=32;omega⟩ ⟨by show 1<=c.l;omega,by show c.l<=32;omega⟩ HKf.o hi
 ·have:H.p.W=_:=congrArg Pm.W HPm.o
  show 1<=H.p.W
  rw [this]
  show 1<=c.W
  omega
end
section
variable {w w':World}
theorem tQ:(prog.info? 31).map (λi=>(i.zero,i.size,i.bytes))=some (some (.agg #[.int .u64 0,.int .u64 0]),2,16):=by kernel_rfl
theorem A5 (w:World)(e:TypeId)(k:Nat):Ow (w.alloc (Obj.cells #[] e)) w.heap.size e k (some ⟨w.heap.size,0,none⟩) 0 0 [] :=
 World.ownsRow_made (base:=w.heap.size) (size:=k) (e:=e) w #[] 0 (by simp) (by unfold maxLen;omega) (by simp)
theorem Am (f:Nat->Nat)(n m:Nat)(h:m<=n):(D.pT f n).take (m*2)=D.pT f m:=by
 have e:D.pT f n=D.pT f m++(D.pT (λi=>f (m+i)) (n - m)):=by
  unfold D.pT
  rw [show n=m+(n - m) by omega,List.range_add,List.flatMap_append,List.flatMap_map]
  simp
 rw [e,List.take_left' (D.bN f m)]
theorem Ws.cr {cap:Nat}{f:Nat->Nat}(h:D.Ws w a n cap f):Cr w 2 a n cap (D.pT f n) :=
 ⟨D.bN f n,h.none_,h.cells,λu hu=>by
  unfold D.pT at hu
  obtain⟨i,_,hi⟩:=List.mem_flatMap.1 hu
  simp only [D.yo,List.mem_cons,List.not_mem_nil,or_false] at hi
  rcases hi with rfl|rfl<;>rfl⟩
theorem nG {cap:Nat}{f:Nat->Nat}(h:D.Ws w a n cap f)(hn:n<=1048576) :
  ∃a' c' w3,(Builtin.append_ #[28,28] 28 #[.slice (some ⟨w.heap.size,0,none⟩) 0 0,.slice a n cap]).run prog (w.alloc (Obj.cells #[] 31))=.ok (.slice a' n c') w3/\D.Ws w3 a' n c' f/\(∀j,aD a' j->w.heap.size<=j/\j<w3.heap.size)/\Below w.heap.size w w3:=by
 have hB:=ab w (Obj.cells #[] 31)
 have hO:=A5 w 31 2
 obtain⟨a',c',w3,hrun,hO3,hG⟩:=eY 28 31 _ 2 16 underlying28 tQ rfl (by omega) (by omega) hO (Ws.cr (h.later hB)) hB.size (by omega)
 rw [Nat.zero_add] at hrun hO3
 rw [List.nil_append] at hO3
 have hO3:Ow w3 w.heap.size 31 2 a' n c' (D.pT f n):=hO3
 refine⟨a',c',w3,hrun,⟨?_,?_,?_,h.small⟩,λj hj=>hO3.bD j hj,ae.below hB hG.but (λk hk=>(hO.bD k hk).1)⟩
 ·rcases hO3.form with ⟨_,h1,h2⟩|⟨g,_,_,h3⟩
  ·omega
  ·exact h3
 ·intro e
  rcases hO3.form with ⟨_,h1,h2⟩|⟨g,h1,_⟩
  ·exact⟨h1,h2⟩
  ·rw [h1] at e;cases e
 ·intro x hx j u hu
  by_cases h0:0<n
  ·obtain⟨b,h1,h2⟩:=Ow.at_ hO3 h0
   rw [h1] at hx
   cases hx
   rw [nj]
   exact h2 j u hu
  ·have:n=0:=by omega
   subst this
   simp [D.pT] at hu
theorem wb {cap:Nat}{f:Nat->Nat}(h:D.Ws w a n cap f):Calls prog 18 #[.slice a n cap] w λe w'=>∃a' m c',e=.returned (.slice a' m c')/\m<=4096/\D.Ws w' a' m c' f/\(∀j,aD a' j->w.heap.size<=j/\j<w'.heap.size)/\Below w.heap.size w w':=by
 by_cases hn:n<=4096
 ·have hd:decide ((n:Int)>4096)=false:=dF (by omega)
  have hd2:decide ((4096:Int)<(n:Int))=false:=dF (by omega)
  obtain⟨a',c',w3,hrun,hW,hb,hB⟩:=nG h (by omega)
  have HR:=aa hrun
  have HP:=aa (And.intro hn (And.intro hW (And.intro hb hB)))
  clear h hrun hW hb hB hn
  go_enter func18,ntmps18
  go_wp2_with (first|(at_builtin;refine kt rfl _ _ 28 rfl _ _ rfl rfl _ w3 HR.o ?_))
  exact bodyPost_ret (v:=.slice a' n c') (by simp [results,results18,go_sem]) rfl ⟨a',n,c',rfl,HP.o⟩
 ·have hd:decide ((n:Int)>4096)=true:=dT (by omega)
  have hd2:decide ((4096:Int)<(n:Int))=true:=dT (by omega)
  have hc:=h.cap_
  cases a with
  | none=>have:=h.none_ rfl;omega
  | some x =>
   have h2:D.Ws w (some x) 4096 cap f:=⟨by omega,λe=>(by cases e),λy hy j u hu=>h.cells y hy j u (by rw [<-Am f n 4096 (by omega)] at hu;rw [List.getElem?_take] at hu;split at hu;exact hu;cases hu),h.small⟩
   obtain⟨a',c',w3,hrun,hW,hb,hB⟩:=nG h2 (by omega)
   have HR:=aa hrun
   have HP:=aa (And.intro hW (And.intro hb hB))
   clear h h2 hrun hW hb hB
   go_enter func18,ntmps18
   go_upto_region 3 with fail
   go_wp2_with (first|(at_builtin;refine kt rfl _ _ 28 rfl _ _ rfl rfl _ w3 HR.o ?_))
   exact bodyPost_ret (v:=.slice a' 4096 c') (by simp [results,results18,go_sem]) rfl ⟨a',4096,c',rfl,Nat.le_refl _,HP.o⟩
end
end Go.Proofs.YtfmhdimaijimlaaGreatDoor.V
