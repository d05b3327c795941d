import Derived.Test.YtfmhdimaijimlaaGreatDoorG31
set_option linter.unusedVariables false
set_option linter.unusedSimpArgs false
set_option maxRecDepth 1000000
set_option maxHeartbeats 8000000
namespace Go.Proofs.YtfmhdimaijimlaaGreatDoor.V
open Go.RowKit
open Go.Proofs.YtfmhdimaijimlaaGreatDoor.H (B64 Cp)
open Go.Proofs.YtfmhdimaijimlaaGreatDoor.M (wpAnyH_norm)
section
variable {w w':World}{H:Hd}{s s':Sta}{d d':Nat→List K.Pu}{N:Nat→Prop}
structure Ps where
 O:List (Int×List Nat)
 T:List Tok
 P:List (Int×List Cp)
 nx:Int
 px:Int
 t:Int
def psOf (mo:Nat)(s:Sta):Ps:=⟨s.V,tkF mo s.X s.l (s.V.map Prod.fst),s.P.map (fun i=>(i,s.D i)),s.nx,s.px,(s.t:Int)⟩
def plK (x:Int×List Cp):Int×List Value×Nat:=(x.1,caps x.2,x.2.length)
abbrev stV (a1:Option Addr)(n1 c1:Nat)(a2:Option Addr)(n2 c2:Nat)(a3:Option Addr)(n3 c3:Nat)(x y z:Int):Value:=.agg #[.slice a1 n1 c1,.slice a2 n2 c2,.slice a3 n3 c3,.int .i64 x,.int .i64 y,.int .i64 z]
def stM (a1:Option Addr)(n1 c1:Nat)(a2:Option Addr)(n2 c2:Nat)(a3:Option Addr)(n3 c3:Nat)(x y z:Int):List Value:=[.slice a1 n1 c1,.slice a2 n2 c2,.slice a3 n3 c3,.int .i64 x,.int .i64 y,.int .i64 z]
structure Tells (w:World)(base:Nat)(p:Ps)(a1:Option Addr)(c1:Nat)(Q1:List Ev)(a2:Option Addr)(c2:Nat)(a3:Option Addr)(c3:Nat)(Q3:List Ev):Prop where
 os:Two w base 63 5 1 a1 p.O.length c1 Q1
 ok:Q1.map Ev.key=p.O.map obK
 ts:Ow w base 61 5 a2 p.T.length c2 (toks p.T)
 ps:Two w base 59 38 3 a3 p.P.length c3 Q3
 pk:Q3.map Ev.key=p.P.map plK
 s12:∀j,Two.B a1 Q1 j→¬Blk a2 j
 s13:∀j,Two.B a1 Q1 j→¬Two.B a3 Q3 j
 s23:∀j,Blk a2 j→¬Two.B a3 Q3 j
abbrev z53:Obj:=.cells #[.slice none 0 0,.slice none 0 0,.slice none 0 0,.int .i64 0,.int .i64 0,.int .i64 0] 53
theorem info53:(Tryz.prog.info? 53).map (·.size)=some 6:=by kernel_rfl
theorem Zr.new53 (w:World):Zr (w.alloc z53) w.heap.size:=(R.Bx.new w [.slice none 0 0,.slice none 0 0,.slice none 0 0,.int .i64 0,.int .i64 0,.int .i64 0] 53).there
theorem Zr.stT {b:Nat}{M:List Value}(h:Zr w b)(hl:M.length=6)(h1:∀v∈M,v.oneCell'=true):(Instr.storeAt 53 (.pointer (some ⟨b,0,none⟩)) (.agg M.toArray)).run Tryz.prog w=.ok () (w.setCells b 0 M):=by
 have:=R.stc h hl h1
 simp [Instr.storeAt,storeVar,Instr.sureAddr,Value.cells,hl,this,Result.andThen]
theorem Zr.st53 {b:Nat}(h:Zr w b)(a1:Option Addr)(n1 c1:Nat)(a2:Option Addr)(n2 c2:Nat)(a3:Option Addr)(n3 c3:Nat)(x y z:Int):(Instr.storeAt 53 (.pointer (some ⟨b,0,none⟩)) (stV a1 n1 c1 a2 n2 c2 a3 n3 c3 x y z)).run Tryz.prog w=.ok () (w.setCells b 0 (stM a1 n1 c1 a2 n2 c2 a3 n3 c3 x y z)):=h.stT (M:=stM a1 n1 c1 a2 n2 c2 a3 n3 c3 x y z) rfl (by simp [stM,Value.oneCell'])
theorem Zr.lv53 {b:Nat}(h:Zr w b)(a1:Option Addr)(n1 c1:Nat)(a2:Option Addr)(n2 c2:Nat)(a3:Option Addr)(n3 c3:Nat)(x y z:Int):(loadVar 53 ⟨b,0,none⟩).run Tryz.prog (w.setCells b 0 (stM a1 n1 c1 a2 n2 c2 a3 n3 c3 x y z))=.ok (stV a1 n1 c1 a2 n2 c2 a3 n3 c3 x y z) (w.setCells b 0 (stM a1 n1 c1 a2 n2 c2 a3 n3 c3 x y z)) :=
 run_loadVar_mid (P:=Tryz.prog) _ b 0 53 (stM a1 n1 c1 a2 n2 c2 a3 n3 c3 x y z) _ (World.rangeAt_setCells_same _ _ _ _ h) Tryz.underlying53 rfl (by rw [info53];rfl)
theorem Tells.but {S:Nat→Prop}{base:Nat}{p:Ps}{a1 c1 Q1 a2 c2 a3 c3 Q3}(h:Tells w base p a1 c1 Q1 a2 c2 a3 c3 Q3)(hb:But S w w')(hS:∀j,base≤j→j<w.heap.size→¬S j):Tells w' base p a1 c1 Q1 a2 c2 a3 c3 Q3 :=
 ⟨h.os.but hb (fun j hj=>hS j (h.os.blk j hj).1 (h.os.blk j hj).2),h.ok,h.ts.but hb (fun j hj=>hS j (h.ts.blk j hj).1 (h.ts.blk j hj).2),h.ps.but hb (fun j hj=>hS j (h.ps.blk j hj).1 (h.ps.blk j hj).2),h.pk,h.s12,h.s13,h.s23⟩
theorem Tells.later {base:Nat}{p:Ps}{a1 c1 Q1 a2 c2 a3 c3 Q3}(h:Tells w base p a1 c1 Q1 a2 c2 a3 c3 Q3)(hb:Below w.heap.size w w'):Tells w' base p a1 c1 Q1 a2 c2 a3 c3 Q3:=h.but (S:=fun _=>False) (But.of hb) (fun _ _ _ h=>h)
theorem Tells.mono {base b:Nat}{p:Ps}{a1 c1 Q1 a2 c2 a3 c3 Q3}(h:Tells w base p a1 c1 Q1 a2 c2 a3 c3 Q3)(hb:b≤base):Tells w b p a1 c1 Q1 a2 c2 a3 c3 Q3:=⟨h.os.mono hb,h.ok,h.ts.mono hb,h.ps.mono hb,h.pk,h.s12,h.s13,h.s23⟩
def StRets (w:World)(p:Ps)(e:Ending)(w':World):Prop :=
 ∃a1 c1 Q1 a2 c2 a3 c3 Q3,e=.returned (stV a1 p.O.length c1 a2 p.T.length c2 a3 p.P.length c3 p.nx p.px p.t)∧Tells w' w.heap.size p a1 c1 Q1 a2 c2 a3 c3 Q3∧Below w.heap.size w w'
theorem state_any (h:Duo w H s d N)(hf:KF H.p s):Calls Tryz.prog 17 #[.pointer (some ⟨H.kb,0,none⟩)] w (StRets w (psOf H.mo s)):=by
 obtain⟨W,hW⟩:∃W,W=w.alloc z53:=⟨_,rfl⟩
 have hB:Below w.heap.size w W:=by rw [hW];exact below1 _ _
 have hZ:Zr W w.heap.size:=by rw [hW];exact Zr.new53 w
 have h2:=h.later hB
 have HWs:Hid (W.heap.size=w.heap.size+1):=by unfold Hid;rw [hW];simp
 have HS0:Hid (∀U,But (fun k=>k=w.heap.size) W U→(U.cell? ⟨H.kb,10,none⟩=some (.pointer (some ⟨H.g,0,none⟩))∧U.cell? ⟨H.kb,11,none⟩=some (.pointer (some ⟨H.z.s,0,none⟩))∧U.cell? ⟨H.kb,14,none⟩=some (.pointer (some ⟨H.pg,0,none⟩)))):=fun U hU=>by
  have h3:=h2.but hU (fun k hk e=>h.new (k:=k) (by omega) hk) (fun e=>by have:=h.b0;omega)
  exact⟨h3.kb 10 _ rfl,h3.kb 11 _ rfl,h3.kb 14 _ rfl⟩
 have HS:Hid (∀U,Below W.heap.size W U→(U.cell? ⟨H.kb,10,none⟩=some (.pointer (some ⟨H.g,0,none⟩))∧U.cell? ⟨H.kb,11,none⟩=some (.pointer (some ⟨H.z.s,0,none⟩))∧U.cell? ⟨H.kb,14,none⟩=some (.pointer (some ⟨H.pg,0,none⟩)))):=fun U hU=>HS0.out U (But.of hU)
 have HO:=hid (fun (U:World) (hU:Below W.heap.size W U)=>objects_any (h2.later hU))
 have HT:=hid (fun (U:World) (hU:Below W.heap.size W U)=>tokens_any (h2.later hU) hf.fit.inv)
 have HPr:=hid (fun (U:World) (hU:Below W.heap.size W U)=>processes_any (h2.later hU) hf)
 have HNx:=hid (fun (U:World) (hU:Below W.heap.size W U)=>pNext (h2.later hU))
 have HPx:=hid (fun (U:World) (hU:Below W.heap.size W U)=>pNextP (h2.later hU))
 have HTa:=hid (fun (U:World) (hU:Below W.heap.size W U)=>pTaken (h2.later hU))
 obtain⟨Tl,hTl⟩:∃Tl,Tl=tkF H.mo s.X s.l (s.V.map Prod.fst):=⟨_,rfl⟩
 have hps:psOf H.mo s=⟨s.V,Tl,s.P.map (fun i=>(i,s.D i)),s.nx,s.px,(s.t:Int)⟩:=by rw [hTl];rfl
 have hpl:s.P.map (prK s.D)=(s.P.map (fun i=>(i,s.D i))).map plK:=by rw [List.map_map];rfl
 have hpn:s.P.length=(s.P.map (fun i=>(i,s.D i))).length:=by simp
 rw [hps]
 rw [←hTl] at HT
 rw [hpl,hpn] at HPr
 generalize s.P.map (fun i=>(i,s.D i))=Pl at *
 generalize s.V=V at *
 generalize s.nx=nx at *
 generalize s.px=px at *
 generalize s.t=ta at *
 obtain⟨vn,hvn⟩:∃vn,vn=V.length:=⟨_,rfl⟩
 obtain⟨tn,htn⟩:∃tn,tn=Tl.length:=⟨_,rfl⟩
 obtain⟨pn,hpn2⟩:∃pn,pn=Pl.length:=⟨_,rfl⟩
 rw [←hvn] at HO
 rw [←htn] at HT
 rw [←hpn2] at HPr
 have HW:=hid hW
 have HB:=hid hB
 have HZ:=hid hZ
 have HVn:=hid hvn
 have HTn:=hid htn
 have HPn:=hid hpn2
 clear h h2 hf hB hZ hTl hps hpl hpn hvn htn hpn2 hW
 go_enter Tryz.func17,Tryz.ntmps17
 go_upto_region 1 with fail
 rw [←HW.out]
 refine wp_region_held_drew (S:=(fun U:World=>(U.cell? ⟨H.kb,10,none⟩=some (.pointer (some ⟨H.g,0,none⟩))∧U.cell? ⟨H.kb,11,none⟩=some (.pointer (some ⟨H.z.s,0,none⟩))∧U.cell? ⟨H.kb,14,none⟩=some (.pointer (some ⟨H.pg,0,none⟩))))) (by kernel_rfl) (HS.out _ (Below.refl _ _).drew) (fun hHeld=>?_)
 refine nH (bm 23 0) 23 ?_
 refine tH 0 (v:=?_) rfl (fun _ _ _ h=>h) ?_ ?_;rotate_left
 ·(intro w hSw;(try dsimp only at hSw);go_simp;try with_reducible rfl)
 try simp only [gz,Act.put]
 refine nH (bm 23 1) 22 ?_
 refine tH 2 (v:=?_) rfl (fun _ _ _ h=>h) ?_ ?_;rotate_left
 ·(intro w hSw;(try dsimp only at hSw);go_simp;try with_reducible rfl)
 try simp only [gz,Act.put]
 refine nH (bm 23 5) 21 ?_
 refine tH 4 (v:=?_) rfl (fun _ _ _ h=>h) ?_ ?_;rotate_left
 ·(intro w hSw;(try dsimp only at hSw);go_simp;try with_reducible rfl)
 try simp only [gz,Act.put]
 refine nH (bm 23 21) 20 ?_
 refine tH 6 (v:=?_) rfl (fun _ _ _ h=>h) ?_ ?_;rotate_left
 ·(intro w hSw;(try dsimp only at hSw);go_simp;try with_reducible rfl)
 try simp only [gz,Act.put]
 refine nH (bm 23 85) 19 ?_
 refine tH 7 (v:=?_) rfl (fun _ _ _ h=>h) ?_ ?_;rotate_left
 ·(intro w hSw;(try dsimp only at hSw);go_simp;try with_reducible rfl)
 try simp only [gz,Act.put]
 refine nH (bm 23 213) 18 ?_
 refine tH 8 (v:=?_) rfl (fun _ _ _ h=>h) ?_ ?_;rotate_left
 ·(intro w hSw;(try dsimp only at hSw);go_simp;try with_reducible rfl)
 try simp only [gz,Act.put]
 refine nH (bm 23 469) 17 ?_
 refine tH 9 (v:=?_) rfl (fun _ _ _ h=>h) ?_ ?_;rotate_left
 ·(intro w hSw;(try dsimp only at hSw);go_simp;try with_reducible rfl)
 try simp only [gz,Act.put]
 refine nH (bm 23 981) 16 ?_
 refine tH 11 (v:=?_) rfl (fun _ _ _ h=>h) ?_ ?_;rotate_left
 ·(intro w hSw;(try dsimp only at hSw);go_simp;try with_reducible rfl)
 try simp only [gz,Act.put]
 refine nH (bm 23 3029) 15 ?_
 refine tH 12 (v:=?_) rfl (fun _ _ _ h=>h) ?_ ?_;rotate_left
 ·(intro w hSw;(try dsimp only at hSw);go_simp;try with_reducible rfl)
 try simp only [gz,Act.put]
 refine nH (bm 23 7125) 14 ?_
 refine tH 13 (v:=?_) rfl (fun _ _ _ h=>h) ?_ ?_;rotate_left
 ·(intro w hSw;(try dsimp only at hSw);go_simp;try with_reducible rfl)
 try simp only [gz,Act.put]
 refine nH (bm 23 15317) 13 ?_
 refine tH 14 (v:=?_) rfl (fun _ _ _ h=>h) ?_ ?_;rotate_left
 ·(intro w hSw;(try dsimp only at hSw);go_simp;try with_reducible rfl)
 try simp only [gz,Act.put]
 refine nH (bm 23 31701) 12 ?_
 refine tH 16 (v:=?_) rfl (fun _ _ _ h=>h) ?_ ?_;rotate_left
 ·(intro w hSw;(try dsimp only at hSw);go_simp;try with_reducible rfl)
 try simp only [gz,Act.put]
 refine nH (bm 23 97237) 11 ?_
 refine tH 17 (v:=?_) rfl (fun _ _ _ h=>h) ?_ ?_;rotate_left
 ·(intro w hSw;(try dsimp only at hSw);go_simp;try with_reducible rfl)
 try simp only [gz,Act.put]
 refine nH (bm 23 228309) 10 ?_
 refine tH 18 (v:=?_) rfl (fun _ _ _ h=>h) ?_ ?_;rotate_left
 ·(intro w hSw;(try dsimp only at hSw);go_simp;try with_reducible rfl)
 try simp only [gz,Act.put]
 refine nH (bm 23 490453) 9 ?_
 refine tH 19 (v:=?_) rfl (fun _ _ _ h=>h) ?_ ?_;rotate_left
 ·(intro w hSw;(try dsimp only at hSw);go_simp;try with_reducible rfl)
 try simp only [gz,Act.put]
 refine nH (bm 23 1014741) 8 ?_
 refine yH [1] ?_
 refine cH rfl fun K hK=>?_
 go_simp
 go_wp2_with (first|(go_at_call 35;refine (HO.out W.drew (Below.refl _ _).drew).mono ?_;rintro e u1 ⟨a1,c1,Q1,rfl,ho,hk,hb⟩;have HU1:Hid (Below W.heap.size W u1):=bc (Below.refl _ _).drew hb;have HO1:=hid ho;have HK1:=hid hk;clear ho hk hb))
 refine hK.out _ _ (HS.out u1 HU1.out) (fun hHeld=>?_)
 clear hK K
 try simp only [gz,Act.put]
 refine nH (bm 23 1014743) 7 ?_
 refine yH [3] ?_
 refine cH rfl fun K hK=>?_
 go_simp
 go_wp2_with (first|(go_at_call 36;refine (HT.out u1 HU1.out).mono ?_;rintro e u2 ⟨a2,c2,rfl,ho,hb⟩;have HB2:=hid hb;have HU2:Hid (Below W.heap.size W u2):=bc HU1.out hb;have HO2:=hid ho;clear ho hb))
 refine hK.out _ _ (HS.out u2 HU2.out) (fun hHeld=>?_)
 clear hK K
 try simp only [gz,Act.put]
 refine nH (bm 23 1014751) 6 ?_
 refine yH [5] ?_
 refine cH rfl fun K hK=>?_
 go_simp
 go_wp2_with (first|(go_at_call 37;refine (HPr.out u2 HU2.out).mono ?_;rintro e u3 ⟨a3,c3,Q3,rfl,ho,hk,hb⟩;have HB3:=hid hb;have HU3:Hid (Below W.heap.size W u3):=bc HU2.out hb;have HO3:=hid ho;have HK3:=hid hk;clear ho hk hb))
 refine hK.out _ _ (HS.out u3 HU3.out) (fun hHeld=>?_)
 clear hK K
 try simp only [gz,Act.put]
 refine nH (bm 23 1014783) 5 ?_
 refine yH [10] ?_
 refine cH rfl fun K hK=>?_
 go_simp
 go_wp2_with (first|(go_at_call 38;refine (HNx.out u3 HU3.out).mono ?_;rintro e u4 ⟨rfl,hw4⟩;obtain rfl:=hw4.symm;clear hw4))
 refine hK.out _ _ (HS.out u3 HU3.out) (fun hHeld=>?_)
 clear hK K
 try simp only [gz,Act.put]
 refine nH (bm 23 1015807) 4 ?_
 refine yH [15] ?_
 refine cH rfl fun K hK=>?_
 go_simp
 go_wp2_with (first|(go_at_call 39;refine (HPx.out u3 HU3.out).mono ?_;rintro e u4 ⟨rfl,hw4⟩;obtain rfl:=hw4.symm;clear hw4))
 refine hK.out _ _ (HS.out u3 HU3.out) (fun hHeld=>?_)
 clear hK K
 try simp only [gz,Act.put]
 refine nH (bm 23 1048575) 3 ?_
 refine yH [20] ?_
 refine cH rfl fun K hK=>?_
 go_simp
 go_wp2_with (first|(go_at_call 40;refine (HTa.out u3 HU3.out).mono ?_;rintro e u4 ⟨rfl,hw4⟩;obtain rfl:=hw4.symm;clear hw4))
 have HZ9:=hid (HZ.out.later HU3.out)
 have HL9:=hid (HZ9.out.lv53 a1 vn c1 a2 tn c2 a3 pn c3 nx px (ta:Int))
 have HS9:=hid (HZ9.out.st53 a1 vn c1 a2 tn c2 a3 pn c3 nx px (ta:Int))
 have HB9:Hid (But (fun k=>k=w.heap.size) u3 (u3.setCells w.heap.size 0 (stM a1 vn c1 a2 tn c2 a3 pn c3 nx px (ta:Int)))):=R.sb_ (S:=(fun k=>k=w.heap.size)) rfl _ 0 (But.refl _ _)
 refine hK.out _ _ (HS.out u3 HU3.out) (fun hHeld=>?_)
 clear hK K
 try simp only [gz,Act.put]
 refine nH (bm 23 2097151) 2 ?_
 refine tH 21 (v:=?_) rfl (fun _ _ _ h=>h) ?_ ?_;rotate_left
 ·(intro w hSw;(try dsimp only at hSw);go_simp;try with_reducible rfl)
 try simp only [gz,Act.put]
 refine nH (bm 23 4194303) 1 ?_
 refine yH [22] ?_
 refine cH rfl fun K hK=>?_
 refine wp_store_known 53 (.tmp 2) (.tmp 24) rfl _ _ rfl rfl _ HS9.out ?_
 refine hK.out _ _ (HS0.out _ ((But.of HU3.out).trans HB9.out)) (fun hHeld=>?_)
 clear hK K
 try simp only [gz,Act.put]
 refine nH (bm 23 8388607) 0 ?_
 refine wpAnyH_done (by kernel_rfl) ?_ _
 go_wp2
 have hws:=HWs.out
 have s1:=HU1.out.size
 have s2:=HB2.out.size
 have s3:=HB3.out.size
 refine bodyPost_ret (v:=stV a1 vn c1 a2 tn c2 a3 pn c3 nx px (ta:Int)) (by simp [results,Tryz.results17,asAddr,HL9.out]) rfl ⟨a1,c1,Q1,a2,c2,a3,c3,Q3,?_,?_,But.below (bc HB.out HU3.out) HB9.out (fun k e=>by omega)⟩
 ·rw [HVn.out,HTn.out,HPn.out]
 ·have hb1:=fun j hj=>HO1.out.blk j hj
  have hb2:=fun j hj=>HO2.out.blk j hj
  have hb3:=fun j hj=>HO3.out.blk j hj
  have hT:Tells u3 W.heap.size ⟨V,Tl,Pl,nx,px,(ta:Int)⟩ a1 c1 Q1 a2 c2 a3 c3 Q3:=by
   refine⟨?_,HK1.out,?_,?_,HK3.out,fun j h1 h2=>?_,fun j h1 h2=>?_,fun j h1 h2=>?_⟩
   ·rw [←HVn.out];exact (HO1.out.mono (Nat.le_refl _)).later (bc HB2.out HB3.out)
   ·rw [←HTn.out];exact (HO2.out.mono s1).later HB3.out
   ·rw [←HPn.out];exact HO3.out.mono (Nat.le_trans s1 s2)
   ·have:=hb1 j h1;have:=hb2 j h2;omega
   ·have:=hb1 j h1;have:=hb3 j h2;omega
   ·have:=hb2 j h1;have:=hb3 j h2;omega
  exact (hT.but HB9.out (fun j h1 h2 e=>by omega)).mono (by omega)
end
section
variable {w w':World}
structure Cf where
 W:Int
 o:Int
 p:Int
 m:Int
 q:Int
 r:Int
 l:Int
 s:Int
 y:Int
 k:Int
def Cf.L (c:Cf):List Value:=[.int .i64 c.W,.int .i64 c.o,.int .i64 c.p,.int .i64 c.m,.int .i64 c.q,.int .i64 c.r,.int .i64 c.l,.int .i64 c.s,.int .i64 c.y,.int .i64 c.k]
abbrev Cf.v (c:Cf):Value:=.agg c.L.toArray
def inW (n a b:Int):Bool:=decide (a≤n)&&decide (n≤b)
theorem inW_iff {n a b:Int}:inW n a b=true↔a≤n∧n≤b:=by unfold inW;simp
theorem inW_any (n a b:Int)(w:World):Calls Tryz.prog 47 #[.int .i64 n,.int .i64 a,.int .i64 b] w fun e w'=>e=.returned (.bool (inW n a b))∧w'=w:=by
 by_cases h:a≤n
 ·have hd:decide (a≤n)=true:=decide_eq_true h
  obtain⟨q,hq⟩:∃q,q=decide (n≤b):=⟨_,rfl⟩
  have e:inW n a b=q:=by unfold inW;rw [hd,hq];simp
  have HQ:=hid hq
  rw [e]
  clear e hq h
  go_enter Tryz.func47,Tryz.ntmps47
  go_wp2
  rw [←HQ.out]
  go_ret
  exact⟨rb_ (by simp),rfl⟩
 ·have hd:decide (a≤n)=false:=decide_eq_false h
  have e:inW n a b=false:=by unfold inW;rw [hd];rfl
  rw [e]
  clear e h
  go_enter Tryz.func47,Tryz.ntmps47
  go_wp2
  go_ret
  exact⟨rb_ (by simp),rfl⟩
def Cf.may (c:Cf):Bool:=inW c.W 1 128&&inW c.o 1 64&&inW c.p 1 256&&inW c.m 1 256&&inW c.q 1 256&&inW c.r 1 32&&inW c.l 1 32&&inW c.s 0 16&&inW c.y 1 4&&inW c.k 0 64
theorem Cf.may_iff {c:Cf}:c.may=true↔(1≤c.W∧c.W≤128)∧(1≤c.o∧c.o≤64)∧(1≤c.p∧c.p≤256)∧(1≤c.m∧c.m≤256)∧(1≤c.q∧c.q≤256)∧(1≤c.r∧c.r≤32)∧(1≤c.l∧c.l≤32)∧(0≤c.s∧c.s≤16)∧(1≤c.y∧c.y≤4)∧(0≤c.k∧c.k≤64):=by
 unfold Cf.may
 simp only [Bool.and_eq_true,inW_iff]
 omega
theorem kmay_any (c:Cf)(w:World):Calls Tryz.prog 27 #[c.v] w fun e w'=>e=.returned (.bool c.may)∧Below w.heap.size w w':=by
 obtain⟨W,o,p,m,q,r,l,s,y,k⟩:=c
 unfold Cf.v Cf.L
 cases F0:inW W 1 128 with
 | false =>
  have E:Hid (Cf.may ⟨W,o,p,m,q,r,l,s,y,k⟩=false):=by unfold Hid Cf.may;simp only [F0,Bool.true_and,Bool.false_and,Bool.and_false,Bool.and_true]
  go_enter Tryz.func27,Tryz.ntmps27
  go_wp2_with (first|(go_at_call 47;refine (inW_any _ _ _ _).mono ?_;rintro e w1 ⟨rfl,rfl⟩;simp only [F0]))
  go_ret
  exact⟨rb_ E.out.symm,below1 _ _⟩
 | true =>
  cases F1:inW o 1 64 with
  | false =>
   have E:Hid (Cf.may ⟨W,o,p,m,q,r,l,s,y,k⟩=false):=by unfold Hid Cf.may;simp only [F0,F1,Bool.true_and,Bool.false_and,Bool.and_false,Bool.and_true]
   go_enter Tryz.func27,Tryz.ntmps27
   go_wp2_with (first|(go_at_call 47;refine (inW_any _ _ _ _).mono ?_;rintro e w1 ⟨rfl,rfl⟩;simp only [F0,F1]))
   go_ret
   exact⟨rb_ E.out.symm,below1 _ _⟩
  | true =>
   cases F2:inW p 1 256 with
   | false =>
    have E:Hid (Cf.may ⟨W,o,p,m,q,r,l,s,y,k⟩=false):=by unfold Hid Cf.may;simp only [F0,F1,F2,Bool.true_and,Bool.false_and,Bool.and_false,Bool.and_true]
    go_enter Tryz.func27,Tryz.ntmps27
    go_wp2_with (first|(go_at_call 47;refine (inW_any _ _ _ _).mono ?_;rintro e w1 ⟨rfl,rfl⟩;simp only [F0,F1,F2]))
    go_ret
    exact⟨rb_ E.out.symm,below1 _ _⟩
   | true =>
    cases F3:inW m 1 256 with
    | false =>
     have E:Hid (Cf.may ⟨W,o,p,m,q,r,l,s,y,k⟩=false):=by unfold Hid Cf.may;simp only [F0,F1,F2,F3,Bool.true_and,Bool.false_and,Bool.and_false,Bool.and_true]
     go_enter Tryz.func27,Tryz.ntmps27
     go_wp2_with (first|(go_at_call 47;refine (inW_any _ _ _ _).mono ?_;rintro e w1 ⟨rfl,rfl⟩;simp only [F0,F1,F2,F3]))
     go_ret
     exact⟨rb_ E.out.symm,below1 _ _⟩
    | true =>
     cases F4:inW q 1 256 with
     | false =>
      have E:Hid (Cf.may ⟨W,o,p,m,q,r,l,s,y,k⟩=false):=by unfold Hid Cf.may;simp only [F0,F1,F2,F3,F4,Bool.true_and,Bool.false_and,Bool.and_false,Bool.and_true]
      go_enter Tryz.func27,Tryz.ntmps27
      go_wp2_with (first|(go_at_call 47;refine (inW_any _ _ _ _).mono ?_;rintro e w1 ⟨rfl,rfl⟩;simp only [F0,F1,F2,F3,F4]))
      go_ret
      exact⟨rb_ E.out.symm,below1 _ _⟩
     | true =>
      cases F5:inW r 1 32 with
      | false =>
       have E:Hid (Cf.may ⟨W,o,p,m,q,r,l,s,y,k⟩=false):=by unfold Hid Cf.may;simp only [F0,F1,F2,F3,F4,F5,Bool.true_and,Bool.false_and,Bool.and_false,Bool.and_true]
       go_enter Tryz.func27,Tryz.ntmps27
       go_wp2_with (first|(go_at_call 47;refine (inW_any _ _ _ _).mono ?_;rintro e w1 ⟨rfl,rfl⟩;simp only [F0,F1,F2,F3,F4,F5]))
       go_ret
       exact⟨rb_ E.out.symm,below1 _ _⟩
      | true =>
       cases F6:inW l 1 32 with
       | false =>
        have E:Hid (Cf.may ⟨W,o,p,m,q,r,l,s,y,k⟩=false):=by unfold Hid Cf.may;simp only [F0,F1,F2,F3,F4,F5,F6,Bool.true_and,Bool.false_and,Bool.and_false,Bool.and_true]
        go_enter Tryz.func27,Tryz.ntmps27
        go_wp2_with (first|(go_at_call 47;refine (inW_any _ _ _ _).mono ?_;rintro e w1 ⟨rfl,rfl⟩;simp only [F0,F1,F2,F3,F4,F5,F6]))
        go_ret
        exact⟨rb_ E.out.symm,below1 _ _⟩
       | true =>
        cases F7:inW s 0 16 with
        | false =>
         have E:Hid (Cf.may ⟨W,o,p,m,q,r,l,s,y,k⟩=false):=by unfold Hid Cf.may;simp only [F0,F1,F2,F3,F4,F5,F6,F7,Bool.true_and,Bool.false_and,Bool.and_false,Bool.and_true]
         go_enter Tryz.func27,Tryz.ntmps27
         go_wp2_with (first|(go_at_call 47;refine (inW_any _ _ _ _).mono ?_;rintro e w1 ⟨rfl,rfl⟩;simp only [F0,F1,F2,F3,F4,F5,F6,F7]))
         go_ret
         exact⟨rb_ E.out.symm,below1 _ _⟩
        | true =>
         cases F8:inW y 1 4 with
         | false =>
          have E:Hid (Cf.may ⟨W,o,p,m,q,r,l,s,y,k⟩=false):=by unfold Hid Cf.may;simp only [F0,F1,F2,F3,F4,F5,F6,F7,F8,Bool.true_and,Bool.false_and,Bool.and_false,Bool.and_true]
          go_enter Tryz.func27,Tryz.ntmps27
          go_wp2_with (first|(go_at_call 47;refine (inW_any _ _ _ _).mono ?_;rintro e w1 ⟨rfl,rfl⟩;simp only [F0,F1,F2,F3,F4,F5,F6,F7,F8]))
          go_ret
          exact⟨rb_ E.out.symm,below1 _ _⟩
         | true =>
          cases F9:inW k 0 64 with
          | false =>
           have E:Hid (Cf.may ⟨W,o,p,m,q,r,l,s,y,k⟩=false):=by unfold Hid Cf.may;simp only [F0,F1,F2,F3,F4,F5,F6,F7,F8,F9,Bool.true_and,Bool.false_and,Bool.and_false,Bool.and_true]
           go_enter Tryz.func27,Tryz.ntmps27
           go_wp2_with (first|(go_at_call 47;refine (inW_any _ _ _ _).mono ?_;rintro e w1 ⟨rfl,rfl⟩;simp only [F0,F1,F2,F3,F4,F5,F6,F7,F8,F9]))
           go_ret
           exact⟨rb_ E.out.symm,below1 _ _⟩
          | true =>
           have E:Hid (Cf.may ⟨W,o,p,m,q,r,l,s,y,k⟩=true):=by unfold Hid Cf.may;simp only [F0,F1,F2,F3,F4,F5,F6,F7,F8,F9,Bool.true_and,Bool.false_and,Bool.and_false,Bool.and_true]
           go_enter Tryz.func27,Tryz.ntmps27
           go_wp2_with (first|(go_at_call 47;refine (inW_any _ _ _ _).mono ?_;rintro e w1 ⟨rfl,rfl⟩;simp only [F0,F1,F2,F3,F4,F5,F6,F7,F8,F9]))
           go_ret
           exact⟨rb_ E.out.symm,below1 _ _⟩
end
section
variable {w w':World}
theorem ldF {b:Nat}{c:Cf}(h:R.Bx w b c.L):(Instr.loadAt 23 (.pointer (some ⟨b,0,none⟩))).run Tryz.prog w=.ok c.v w:=by
 have:=run_loadVar_mid (P:=Tryz.prog) w b 0 23 c.L _ h.range Tryz.underlying23 rfl (by rw [show (Tryz.prog.info? 23).map (·.size)=some 10 by kernel_rfl];rfl)
 simp [Instr.loadAt,Instr.sureAddr,this]
structure E0 where
 A:Ad
 qg:Nat
 qb:Nat
 z:S.Sid
 g:Nat
 gb:Nat
 n:Nat
 c:Nat→Nat
 pg:Nat
 cg:Nat
 kn:Nat
 mo:Nat
 e:Int
 pm:Int
 lm:Int
 cs:Nat
 cw:Nat
 W:Int
 base:Nat
def E0.H (E:E0)(lg v kb:Nat):Hd:={ A:=E.A,kn:=E.kn,mo:=E.mo,qg:=E.qg,qb:=E.qb,e:=E.e,z:=E.z,g:=E.g,gb:=E.gb,n:=E.n,c:=E.c,pg:=E.pg,pm:=E.pm,lg:=lg,lm:=E.lm,cg:=E.cg,cs:=E.cs,cw:=E.cw,v:=v,kb:=kb,W:=E.W,base:=E.base }
def sta (mo:Nat)(ks:List Int):Sta:={ X:=List.replicate mo tz,l:=[],L:=[],nx:=1,V:=[],t:=0,px:=1,P:=[0],ks:=ks,D:=fun _=>[] }
structure E5 (w:World)(E:E0)(d0 d1 t0 t1 t2 t3 t4 t5:Nat):Prop where
 dr:D.Dr w E.g E.gb E.n E.c 0
 drm:(d0≤E.g∧E.g<d1)∧(0<E.n→d0≤E.gb∧E.gb<d1)
 st:S.St w E.z 1 []
 stm:∀k,S.Zb E.z k→t0≤k∧k<t1
 cat:Cat w E.A E.kn E.mo (List.replicate E.mo tz) []
 catm:∀k,E.A.All k→t1≤k∧k<t2
 qu:Q.Qu w E.qg E.qb E.e (E.mo:Int) []
 qum:(t2≤E.qg∧E.qg<t3)∧t2≤E.qb∧E.qb<t3
 pr:∃pa cap,P.Ob w E.base E.pg E.pm 1 pa cap [0]∧∀k,k=E.pg∨Blk pa k→t3≤k∧k<t4
 kc:∃e hi mi,K.Kc w E.cg E.cs E.cw E.kn K.T0 e hi mi
 cgm:t4≤E.cg∧E.cg<t5
 ord:0<E.base∧E.base≤d0∧d0≤d1∧d1≤t0∧t0≤t1∧t1≤t2∧t2≤t3∧t3≤t4∧t4≤t5∧t5≤w.heap.size
 hmo:1≤E.mo∧E.mo≤256
 laid:D.Laid w
variable {E:E0}{d0 d1 t0 t1 t2 t3 t4 t5:Nat}
theorem E5.but (h:E5 w E d0 d1 t0 t1 t2 t3 t4 t5)(hb:But (fun k=>k=E.cg) w w')(hk:∃e hi mi,K.Kc w' E.cg E.cs E.cw E.kn K.T0 e hi mi):E5 w' E d0 d1 t0 t1 t2 t3 t4 t5:=by
 have ho:=h.ord
 have hc:=h.cgm
 refine { h with dr:=h.dr.butN hb (by have:=h.drm;omega) (fun h0=>by have:=h.drm;have:=h.drm.2 h0;omega),st:=h.st.but hb (fun k hk e=>by have:=h.stm k hk;omega) (fun k hk=>by obtain⟨o,ho,_⟩:=hk;cases ho),cat:=h.cat.but hb (fun k hk e=>by have:=h.catm k hk;omega),qu:=h.qu.but hb (by have:=h.qum;omega) (by have:=h.qum;omega),pr:=?_,kc:=hk,ord:=⟨ho.1,ho.2.1,ho.2.2.1,ho.2.2.2.1,ho.2.2.2.2.1,ho.2.2.2.2.2.1,ho.2.2.2.2.2.2.1,ho.2.2.2.2.2.2.2.1,ho.2.2.2.2.2.2.2.2.1,Nat.le_trans ho.2.2.2.2.2.2.2.2.2 hb.size⟩,laid:=?_ }
 ·obtain⟨pa,cap,h1,h2⟩:=h.pr
  exact⟨pa,cap,h1.but hb (fun e=>by have:=h2 _ (.inl rfl);omega) (fun k hk e=>by have:=h2 k (.inr hk);omega),h2⟩
 ·exact cb_ hb h.laid (by simp only [];omega)
def E0.M (E:E0)(d0 d1 t0 t1 t2 t3 t4 t5 lg v kb:Nat):Nat→Nat→Prop
 | 0=>fun k=>t1≤k∧k<t2
 | 1=>fun k=>t2≤k∧k<t3
 | 2=>fun k=>t0≤k∧k<t1
 | 3=>fun k=>d0≤k∧k<d1
 | 4=>fun k=>t3≤k∧k<t4
 | 5=>fun k=>k=lg
 | 6=>fun k=>(t4≤k∧k<t5)∨k=v
 | 7=>fun k=>k=kb
 | _=>fun _=>False
theorem E5.duo (h:E5 w E d0 d1 t0 t1 t2 t3 t4 t5){lg v kb:Nat}(hlg:t5≤lg∧lg<w.heap.size)(hv:t5≤v∧v<w.heap.size)(hkb:t5≤kb∧kb<w.heap.size)(hne:lg≠v∧lg≠kb∧v≠kb)(hmap:w.ownsMap Tryz.prog 3 S.hr lg 0 (.map []))(hva:L.Va w v E.cg E.A.g)(hK:Kb w (E.H lg v kb)) :
  Duo w (E.H lg v kb) (sta E.mo []) K.T0 (fun k=>(d0≤k∧k<d1)∨(t0≤k∧k<w.heap.size)):=by
 have ho:=h.ord
 obtain⟨col,hcol⟩:∃col:Nat→Nat,col=fun k=>if k<d1 then 3 else if k<t1 then 2 else if k<t2 then 0 else if k<t3 then 1 else if k<t4 then 4 else if k<t5 then 6 else if k=lg then 5 else if k=v then 6 else 7:=⟨_,rfl⟩
 have key:∀i k,E.M d0 d1 t0 t1 t2 t3 t4 t5 lg v kb i k→col k=i:=by
  intro i k hk
  rw [hcol]
  simp only []
  match i,hk with
  | 0,hk=>simp only [E0.M] at hk;repeat (first|rw [if_neg (by omega)]|rw [if_pos (by omega)])
  | 1,hk=>simp only [E0.M] at hk;repeat (first|rw [if_neg (by omega)]|rw [if_pos (by omega)])
  | 2,hk=>simp only [E0.M] at hk;repeat (first|rw [if_neg (by omega)]|rw [if_pos (by omega)])
  | 3,hk=>simp only [E0.M] at hk;repeat (first|rw [if_neg (by omega)]|rw [if_pos (by omega)])
  | 4,hk=>simp only [E0.M] at hk;repeat (first|rw [if_neg (by omega)]|rw [if_pos (by omega)])
  | 5,hk=>simp only [E0.M] at hk;repeat (first|rw [if_neg (by omega)]|rw [if_pos (by omega)])
  | 6,hk =>
   simp only [E0.M] at hk
   by_cases h5:k<t5
   ·repeat (first|rw [if_neg (by omega)]|rw [if_pos (by omega)])
   ·repeat (first|rw [if_neg (by omega)]|rw [if_pos (by omega)])
  | 7,hk=>simp only [E0.M] at hk;repeat (first|rw [if_neg (by omega)]|rw [if_pos (by omega)])
 refine⟨E.M d0 d1 t0 t1 t2 t3 t4 t5 lg v kb,?_,fun i j k h1 h2=>by rw [←key i k h1,key j k h2],?_,fun k hk=>⟨by rcases hk with hk|hk<;>(show E.base≤k;omega),by omega⟩,h.hmo,h.laid,⟨ho.1,(by show E.base≤_;omega)⟩⟩
 ·intro i
  match i with
  | 0=>exact⟨h.cat,h.catm⟩
  | 1=>exact⟨h.qu,fun k hk=>by rcases hk with rfl|rfl;exact h.qum.1;exact h.qum.2⟩
  | 2=>exact⟨[],h.st,rfl,fun k hk=>by rcases hk with hk|⟨o,ho,_⟩;exact h.stm k hk;cases ho⟩
  | 3=>exact⟨h.dr,fun k hk=>by rcases hk with rfl|⟨h0,rfl⟩;exact h.drm.1;exact h.drm.2 h0⟩
  | 4=>exact h.pr
  | 5=>exact⟨fun _=>0,fun _=>none,fun _=>0,fun _=>0,⟨hmap,fun i hi=>(by cases hi),fun i hi=>(by cases hi)⟩,fun k hk=>by rcases hk with hk|⟨i,hi,_⟩;exact hk;cases hi⟩
  | 6=>exact⟨h.kc,hva,.inl h.cgm,.inr rfl,by have:=h.cgm;show v≠E.cg;omega⟩
  | 7=>exact⟨hK,rfl⟩
  | _+8=>trivial
 ·intro i k hk
  match i,hk with
  | 0,hk=>simp only [E0.M] at hk;omega
  | 1,hk=>simp only [E0.M] at hk;omega
  | 2,hk=>simp only [E0.M] at hk;omega
  | 3,hk=>simp only [E0.M] at hk;omega
  | 4,hk=>simp only [E0.M] at hk;omega
  | 5,hk=>simp only [E0.M] at hk;omega
  | 6,hk=>simp only [E0.M] at hk;omega
  | 7,hk=>simp only [E0.M] at hk;omega
end
section
variable {w w':World}
def Em (E:E0)(w5 U:World)(kb:Nat):Prop:=∃lg v,(w5.heap.size≤lg∧lg<U.heap.size)∧(w5.heap.size≤v∧v<U.heap.size)∧(w5.heap.size≤kb∧kb<U.heap.size)∧(lg≠v∧lg≠kb∧v≠kb)∧U.ownsMap Tryz.prog 3 S.hr lg 0 (.map [])∧L.Va U v E.cg E.A.g∧Kb U (E.H lg v kb)∧(∃e hi mi,K.Kc U E.cg E.cs E.cw E.kn K.T0 e hi mi)∧But (fun k=>k=E.cg) w5 U
theorem Em.first {E:E0}{w5 u1:World}(hcg:E.cg<w5.heap.size){v:Nat}(hva:L.Va u1 v E.cg E.A.g)(hkc:∃e hi mi,K.Kc u1 E.cg E.cs E.cw E.kn K.T0 e hi mi)(hv:(w5.drew.alloc (Obj.map #[] 0)).heap.size≤v)(hb:But (fun k=>k=E.cg) (w5.drew.alloc (Obj.map #[] 0)) u1) :
  Em E w5 (u1.alloc (Obj.cells (E.H w5.heap.size v u1.heap.size).kc.toArray 88)) u1.heap.size:=by
 have hs:=hb.size
 simp only [World.size_alloc] at hs hv
 have hs5:w5.drew.heap.size=w5.heap.size:=rfl
 have hvl:=hva.lt
 have hm0:(w5.drew.alloc (Obj.map #[] 0)).ownsMap Tryz.prog 3 S.hr w5.heap.size 0 (.map []):=World.ownsMap_made w5.drew _ _ _
 have hB1:=below1 u1 (Obj.cells (E.H w5.heap.size v u1.heap.size).kc.toArray 88)
 refine⟨w5.heap.size,v,⟨Nat.le_refl _,by simp;omega⟩,⟨by omega,by simp;omega⟩,⟨by omega,by simp⟩,⟨by omega,by omega,by omega⟩,?_,hva.later hB1,fun j x hx=>?_,?_,?_⟩
 ·exact S.owns_but (But.of (S:=fun _=>False) hB1) (S.owns_but hb hm0 (by omega)) (fun h=>h)
 ·exact (S.lies_new u1 _ _ j x (by simpa using hx)).1
 ·obtain⟨e,hi,mi,hk⟩:=hkc
  exact⟨e,hi,mi,hk.later hB1⟩
 ·have h1:But (fun k=>k=E.cg) w5 (w5.drew.alloc (Obj.map #[] 0)):=But.of ((Below.refl _ _).drew.alloc (Nat.le_refl _) _)
  exact (h1.trans hb).trans (But.of hB1)
theorem Em.then_ {E:E0}{w5 u1:World}(hcg:E.cg<w5.heap.size){v:Nat}(hva:L.Va u1 v E.cg E.A.g)(hkc:∃e hi mi,K.Kc u1 E.cg E.cs E.cw E.kn K.T0 e hi mi)(hv:w5.drew.heap.size≤v)(hb:But (fun k=>k=E.cg) w5.drew u1) :
  Em E w5 ((u1.alloc (Obj.map #[] 0)).alloc (Obj.cells (E.H u1.heap.size v (u1.heap.size+1)).kc.toArray 88)) (u1.heap.size+1):=by
 have hs:=hb.size
 have hs5:w5.drew.heap.size=w5.heap.size:=rfl
 have hvl:=hva.lt
 have hm0:(u1.alloc (Obj.map #[] 0)).ownsMap Tryz.prog 3 S.hr u1.heap.size 0 (.map []):=World.ownsMap_made u1 _ _ _
 have hB1:=below1 (u1.alloc (Obj.map #[] 0)) (Obj.cells (E.H u1.heap.size v (u1.heap.size+1)).kc.toArray 88)
 have hB2:=below2 u1 (Obj.map #[] 0) (Obj.cells (E.H u1.heap.size v (u1.heap.size+1)).kc.toArray 88)
 refine⟨u1.heap.size,v,⟨by omega,by simp;omega⟩,⟨by omega,by simp;omega⟩,⟨by omega,by simp⟩,⟨by omega,by omega,by omega⟩,?_,hva.later hB2,fun j x hx=>?_,?_,?_⟩
 ·exact S.owns_but (But.of (S:=fun _=>False) hB1) hm0 (fun h=>h)
 ·have:=(S.lies_new (u1.alloc (Obj.map #[] 0)) (E.H u1.heap.size v (u1.heap.size+1)).kc.toArray 88 j x (by simpa using hx)).1
  rw [World.size_alloc] at this
  exact this
 ·obtain⟨e,hi,mi,hk⟩:=hkc
  exact⟨e,hi,mi,hk.later hB2⟩
 ·have h1:But (fun k=>k=E.cg) w5 w5.drew:=But.of (Below.refl _ _).drew
  exact (h1.trans hb).trans (But.of hB2)
theorem empty_any (g gb n:Nat)(cf:Nat→Nat)(W:Int)(room pgs mo:Nat)(e pm lm:Int)(cs cw kn:Nat)(w:World)(base d0:Nat)(hdr:D.Dr w g gb n cf 0)(hdm:d0≤g∧(0<n→d0≤gb))(h0:0<base∧base≤d0∧d0≤w.heap.size)(hl:D.Laid w)
  (b1:1≤room∧room≤64) (b2:1≤pgs∧pgs≤256) (b3:1≤mo∧mo≤256) (b4:1≤e∧e≤256) (b5:1≤pm∧pm≤32) (b6:1≤lm∧lm≤32) (b7:cs≤16) (b8:1≤cw∧cw≤4) (b9:kn≤64) :
  Calls Tryz.prog 29 #[(Cf.mk W (room:Int) (pgs:Int) (mo:Int) e pm lm (cs:Int) (cw:Int) (kn:Int)).v,.pointer (some ⟨g,0,none⟩)] w fun e' w'=>∃H N,e'=.returned (.pointer (some ⟨H.kb,0,none⟩))∧Duo w' H (sta mo [0]) K.T0 N∧H.p=⟨mo,e,n,cf,room,pgs,pm,lm,W⟩∧H.cf=(Cf.mk W (room:Int) (pgs:Int) (mo:Int) e pm lm (cs:Int) (cw:Int) (kn:Int)).L∧(∀k,N k→d0≤k)∧But (fun k=>d0≤k) w w':=by
 obtain⟨W0,hW⟩:∃W0,W0=w.alloc (Obj.cells (Cf.mk W (room:Int) (pgs:Int) (mo:Int) e pm lm (cs:Int) (cw:Int) (kn:Int)).L.toArray 23):=⟨_,rfl⟩
 have hB:Below w.heap.size w W0:=by rw [hW];exact below1 _ _
 have HWs:Hid (W0.heap.size=w.heap.size+1):=by unfold Hid;rw [hW];simp
 have HX:Hid (∀U,Below W0.heap.size W0 U→R.Bx U w.heap.size (Cf.mk W (room:Int) (pgs:Int) (mo:Int) e pm lm (cs:Int) (cw:Int) (kn:Int)).L):=fun U hU=>by rw [hW] at hU;exact R.Bx.later hU (R.Bx.new w (Cf.mk W (room:Int) (pgs:Int) (mo:Int) e pm lm (cs:Int) (cw:Int) (kn:Int)).L 23)
 have HDr:=hid hdr
 have HDm:=hid hdm
 have H0:=hid h0
 have HLd:=hid hl
 have HG:Hid (g<w.heap.size∧(0<n→gb<w.heap.size)):=⟨hdr.lt,fun h=>hdr.lt2 h⟩
 have HN1:=hid (S.st_new room pgs W0 b1 b2)
 have HN2:=hid (fun U=>cnew_ok U mo kn b3.1 b3.2 b9)
 have HN3:=hid (fun U=>Q.new_ok e (mo:Int) U ⟨b4,by omega,by omega⟩)
 have HN4:=hid (fun U=>P.new_ok pm U b5.1 b5.2)
 have HN5:=hid (fun U=>K.knew cs cw kn U b7 b8.1 b8.2 b9)
 have HB:=hid hB
 have HW:=hid hW
 have HBd:=hid (And.intro b3 b6)
 clear hdr hdm h0 hl hB hW b1 b2 b3 b4 b5 b6 b7 b8 b9
 unfold Cf.v Cf.L
 go_enter Tryz.func29,Tryz.ntmps29
 go_upto_region 1 with fail
 have hW':=HW.out
 unfold Cf.L at hW'
 rw [←hW']
 clear hW'
 have x1:=(HX.out W0 (Below.refl _ _)).cell 1 rfl
 have x2:=(HX.out W0 (Below.refl _ _)).cell 2 rfl
 simp only [] at x1 x2
 go_upto_region 2 with (first|(go_at_call 49;refine HN1.out.mono ?_;rintro e1 w1 ⟨z,rfl,rfl,rfl,hst,hzb,hb⟩;have HSt:=hid hst;have HZb:=hid hzb;have HB1:=hid hb;clear hst hzb hb))
 clear x1 x2
 have x3:=(HX.out w1 HB1.out).cell 3 rfl
 have x9:=(HX.out w1 HB1.out).cell 9 rfl
 simp only [] at x3 x9
 go_upto_region 3 with (first|(go_at_call 50;refine (HN2.out w1).mono ?_;rintro e1 w2 ⟨A,rfl,hca,hall,hb⟩;have HCa:=hid hca;have HAl:=hid hall;have HB2:=hid hb;clear hca hall hb))
 clear x3 x9
 have HU2:Hid (Below W0.heap.size W0 w2):=bc HB1.out HB2.out
 have x3:=(HX.out w2 HU2.out).cell 3 rfl
 have x4:=(HX.out w2 HU2.out).cell 4 rfl
 simp only [] at x3 x4
 go_upto_region 4 with (first|(go_at_call 51;refine (HN3.out w2).mono ?_;rintro e1 w3 ⟨qg,qb,rfl,hqu,hq1,hq2,hb⟩;have HQu:=hid hqu;have HQm:=hid (And.intro hq1 hq2);have HB3:=hid hb;clear hqu hq1 hq2 hb))
 clear x3 x4
 have HU3:Hid (Below W0.heap.size W0 w3):=bc HU2.out HB3.out
 have x5:=(HX.out w3 HU3.out).cell 5 rfl
 simp only [] at x5
 go_upto_region 5 with (first|(go_at_call 52;refine (HN4.out w3).mono ?_;rintro e1 w4 ⟨pg,pa,pc,rfl,hpr,hb⟩;have HPr:=hid hpr;have HB4:=hid hb;clear hpr hb))
 clear x5
 have HU4:Hid (Below W0.heap.size W0 w4):=bc HU3.out HB4.out
 have x7:=(HX.out w4 HU4.out).cell 7 rfl
 have x8:=(HX.out w4 HU4.out).cell 8 rfl
 have x9:=(HX.out w4 HU4.out).cell 9 rfl
 simp only [] at x7 x8 x9
 go_upto_region 6 with (first|(go_at_call 53;refine (HN5.out w4).mono ?_;rintro e1 w5 ⟨cg,rfl,hkc,hcg,hb⟩;have HKc:=hid hkc;have HCg:=hid hcg;have HB5:=hid hb;clear hkc hcg hb))
 clear x7 x8 x9
 have HU5:Hid (Below W0.heap.size W0 w5):=bc HU4.out HB5.out
 obtain⟨E,hE⟩:∃E:E0,E={ A:=A,qg:=qg,qb:=qb,z:=z,g:=g,gb:=gb,n:=n,c:=cf,pg:=pg,cg:=cg,kn:=kn,mo:=mo,e:=e,pm:=pm,lm:=lm,cs:=cs,cw:=cw,W:=W,base:=base }:=⟨_,rfl⟩
 have HE5:Hid (E5 w5 E d0 w.heap.size W0.heap.size w1.heap.size w2.heap.size w3.heap.size w4.heap.size w5.heap.size):=by
  have s0:=HWs.out
  have s1:=HB1.out.size
  have s2:=HB2.out.size
  have s3:=HB3.out.size
  have s4:=HB4.out.size
  have s5:=HB5.out.size
  have h0:=H0.out
  have B25:Below w2.heap.size w2 w5:=bc HB3.out (bc HB4.out HB5.out)
  rw [hE]
  refine⟨HDr.out.later (bc HB.out HU5.out),⟨⟨HDm.out.1,HG.out.1⟩,fun h=>⟨HDm.out.2 h,HG.out.2 h⟩⟩,HSt.out.later (bc HB2.out B25),HZb.out,HCa.out.later B25,fun k hk=>⟨HAl.out k hk,HCa.out.lt k hk⟩,HQu.out.later (bc HB4.out HB5.out),⟨⟨HQm.out.1,HQu.out.glt⟩,HQm.out.2,HQu.out.blt⟩,⟨pa,pc,?_,fun k hk=>?_⟩,⟨_,_,_,HKc.out⟩,⟨HCg.out,HKc.out.lt⟩,⟨h0.1,h0.2.1,h0.2.2,by omega,by omega,by omega,by omega,by omega,by omega,Nat.le_refl _⟩,HBd.out.1,cell_later (bc HB.out HU5.out) HLd.out⟩
  ·have:=HPr.out.later HB5.out
   exact⟨this.c0,this.c1,this.c2,this.own.mono (by show base≤_;omega),this.ap,by have h9:w3.heap.size≤pg:=this.lo;show base≤pg;omega⟩
  ·rcases hk with rfl|hk
   ·exact⟨HPr.out.lo,HPr.out.lt⟩
   ·exact⟨HPr.out.own.blk k hk,HPr.out.own.lt k hk⟩
 have HEq:=hid hE
 have HVn:Hid (∀U,Below w5.heap.size w5 U→Calls Tryz.prog 54 #[.pointer (some ⟨A.g,0,none⟩),.pointer (some ⟨cg,0,none⟩)] U fun e' w'=>∃v,e'=.returned (.pointer (some ⟨v,0,none⟩))∧L.Va w' v E.cg E.A.g∧(∃e hi mi,K.Kc w' E.cg E.cs E.cw E.kn K.T0 e hi mi)∧U.heap.size≤v∧But (fun k=>k=E.cg) U w'):=fun U hU=>by
  rw [hE]
  exact L.vnew_any (HKc.out.later hU)
 have HCl:Hid (E.cg<w5.heap.size):=by rw [hE];exact HKc.out.lt
 have HS5:Hid (∀U,But (fun k=>k=E.cg) w5 U→(R.Bx U w.heap.size (Cf.mk W (z.room:Int) (z.n:Int) (mo:Int) e pm lm (cs:Int) (cw:Int) (kn:Int)).L)):=fun U hU=>R.Bx.but hU (HX.out w5 HU5.out) (fun e=>by
  have h1:=HCg.out
  have h2:=HWs.out
  have h3:=HU4.out.size
  rw [hE] at e
  simp only [] at e
  omega)
 have hmm:=@run_makeMap Tryz.prog
 clear hE
 go_cut [15] (fun s15 U=>∃kb,s15=.pointer (some ⟨kb,0,none⟩)∧Hid (Em E w5 U kb))
 case first =>
  refine wp_region_held_drew (S:=(fun U:World=>(R.Bx U w.heap.size (Cf.mk W (z.room:Int) (z.n:Int) (mo:Int) e pm lm (cs:Int) (cw:Int) (kn:Int)).L))) (by kernel_rfl) (HS5.out _ (But.of (Below.refl _ _).drew)) (fun hHeld=>?_)
  refine nH (bm 13 0) 13 ?_
  refine tH 0 (v:=.agg #[.int .i64 W,.int .i64 (z.room:Int),.int .i64 (z.n:Int),.int .i64 (mo:Int),.int .i64 e,.int .i64 pm,.int .i64 lm,.int .i64 (cs:Int),.int .i64 (cw:Int),.int .i64 (kn:Int)]) rfl (fun _ _ _ h=>h) ?_ ?_
  ·(intro w hSw;(try dsimp only at hSw);exact K.ex_load rfl rfl (ldF hSw))
  try simp only [gz,Act.put]
  refine nH (bm 13 1) 12 ?_
  refine tH 1 (v:=?_) rfl (fun _ _ _ h=>h) ?_ ?_;rotate_left
  ·(intro w hSw;(try dsimp only at hSw);go_simp;try with_reducible rfl)
  try simp only [gz,Act.put]
  refine nH (bm 13 3) 11 ?_
  refine tH 2 (v:=?_) rfl (fun _ _ _ h=>h) ?_ ?_;rotate_left
  ·(intro w hSw;(try dsimp only at hSw);go_simp;try with_reducible rfl)
  try simp only [gz,Act.put]
  refine nH (bm 13 7) 10 ?_
  refine tH 3 (v:=?_) rfl (fun _ _ _ h=>h) ?_ ?_;rotate_left
  ·(intro w hSw;(try dsimp only at hSw);go_simp;try with_reducible rfl)
  try simp only [gz,Act.put]
  refine nH (bm 13 15) 9 ?_
  refine tH 4 (v:=?_) rfl (fun _ _ _ h=>h) ?_ ?_;rotate_left
  ·(intro w hSw;(try dsimp only at hSw);go_simp;try with_reducible rfl)
  try simp only [gz,Act.put]
  refine nH (bm 13 31) 8 ?_
  refine tH 5 (v:=?_) rfl (fun _ _ _ h=>h) ?_ ?_;rotate_left
  ·(intro w hSw;(try dsimp only at hSw);go_simp;try with_reducible rfl)
  try simp only [gz,Act.put]
  refine nH (bm 13 63) 7 ?_
  refine tH 7 (v:=?_) rfl (fun _ _ _ h=>h) ?_ ?_;rotate_left
  ·(intro w hSw;(try dsimp only at hSw);go_simp;try with_reducible rfl)
  try simp only [gz,Act.put]
  refine nH (bm 13 191) 6 ?_
  refine tH 8 (v:=?_) rfl (fun _ _ _ h=>h) ?_ ?_;rotate_left
  ·(intro w hSw;(try dsimp only at hSw);go_simp;try with_reducible rfl)
  try simp only [gz,Act.put]
  refine nH (bm 13 447) 5 ?_
  refine yH [6,9] ?_
  refine AllReadyH.cons rfl (fun K hK=>?_) ?_
  ·go_simp
   refine hK.out _ _ (HS5.out _ (But.of ((Below.refl _ _).drew.alloc (Nat.le_refl _) _))) (fun hHeld=>?_)
   clear hK K
   try simp only [gz,Act.put]
   refine nH (bm 13 511) 4 ?_
   refine yH [9] ?_
   refine cH rfl fun K hK=>?_
   go_simp
   go_wp2_with (first|(go_at_call 54;refine (HVn.out (w5.drew.alloc (Obj.map #[] 0)) ((Below.refl _ _).drew.alloc (Nat.le_refl _) _)).mono ?_;rintro e1 u1 ⟨v,rfl,hva,hkc,hv,hb⟩;have HVa:=hid hva;have HKv:=hid hkc;have HVl:=hid hv;have HBv:=hid hb;have HBc:Hid (But (fun k=>k=E.cg) w5 u1):=(But.of ((Below.refl _ _).drew.alloc (Nat.le_refl _) _)).trans hb;clear hva hkc hv hb))
   refine hK.out _ _ (HS5.out u1 HBc.out) (fun hHeld=>?_)
   clear hK K
   try simp only [gz,Act.put]
   refine nH (bm 13 1023) 3 ?_
   refine tH 10 (v:=?_) rfl (fun _ _ _ h=>h) ?_ ?_;rotate_left
   ·(intro w hSw;(try dsimp only at hSw);go_simp;try with_reducible rfl)
   try simp only [gz,Act.put]
   refine nH (bm 13 2047) 2 ?_
   refine yH [11] ?_
   refine cH rfl fun K hK=>?_
   go_simp
   refine hK.out _ _ (HS5.out _ (HBc.out.trans (But.of (below1 _ _)))) (fun hHeld=>?_)
   clear hK K
   try simp only [gz,Act.put]
   refine nH (bm 13 4095) 1 ?_
   refine tH 12 (v:=?_) rfl (fun _ _ _ h=>h) ?_ ?_;rotate_left
   ·(intro w hSw;(try dsimp only at hSw);go_simp;try with_reducible rfl)
   try simp only [gz,Act.put]
   refine nH (bm 13 8191) 0 ?_
   refine wpAnyH_done (by kernel_rfl) ?_ _
   go_wp2
   go_meet
   first|(exact⟨_,rfl,by have h:=Em.first HCl.out HVa.out HKv.out HVl.out HBv.out;rw [HEq.out] at h ⊢;exact h⟩)|(exact⟨_,rfl,by have h:=Em.then_ HCl.out HVa.out HKv.out HVl.out HBv.out;rw [HEq.out] at h ⊢;exact h⟩)
  refine cH rfl fun K hK=>?_
  go_simp
  go_wp2_with (first|(go_at_call 54;refine (HVn.out w5.drew (Below.refl _ _).drew).mono ?_;rintro e1 u1 ⟨v,rfl,hva,hkc,hv,hb⟩;have HVa:=hid hva;have HKv:=hid hkc;have HVl:=hid hv;have HBv:=hid hb;have HBc:Hid (But (fun k=>k=E.cg) w5 u1):=(But.of (Below.refl _ _).drew).trans hb;clear hva hkc hv hb))
  refine hK.out _ _ (HS5.out u1 HBc.out) (fun hHeld=>?_)
  clear hK K
  try simp only [gz,Act.put]
  refine nH (bm 13 959) 4 ?_
  refine yH [6] ?_
  refine cH rfl fun K hK=>?_
  go_simp
  refine hK.out _ _ (HS5.out _ (HBc.out.trans (But.of (below1 _ _)))) (fun hHeld=>?_)
  clear hK K
  try simp only [gz,Act.put]
  refine nH (bm 13 1023) 3 ?_
  refine tH 10 (v:=?_) rfl (fun _ _ _ h=>h) ?_ ?_;rotate_left
  ·(intro w hSw;(try dsimp only at hSw);go_simp;try with_reducible rfl)
  try simp only [gz,Act.put]
  refine nH (bm 13 2047) 2 ?_
  refine yH [11] ?_
  refine cH rfl fun K hK=>?_
  go_simp
  refine hK.out _ _ (HS5.out _ (HBc.out.trans (But.of (below2 _ _ _)))) (fun hHeld=>?_)
  clear hK K
  try simp only [gz,Act.put]
  refine nH (bm 13 4095) 1 ?_
  refine tH 12 (v:=?_) rfl (fun _ _ _ h=>h) ?_ ?_;rotate_left
  ·(intro w hSw;(try dsimp only at hSw);go_simp;try with_reducible rfl)
  try simp only [gz,Act.put]
  refine nH (bm 13 8191) 0 ?_
  refine wpAnyH_done (by kernel_rfl) ?_ _
  go_wp2
  go_meet
  first|(exact⟨_,rfl,by have h:=Em.first HCl.out HVa.out HKv.out HVl.out HBv.out;rw [HEq.out] at h ⊢;exact h⟩)|(exact⟨_,rfl,by have h:=Em.then_ HCl.out HVa.out HKv.out HVl.out HBv.out;rw [HEq.out] at h ⊢;exact h⟩)
 case rest =>
  rename World=>u
  obtain⟨kb,rfl,hEm⟩:=hcut
  obtain⟨lg,v,hlg,hv,hkb,hne,hmap,hva,hK,hkc,hbt⟩:=hEm.out
  have hE5:=HE5.out.but hbt hkc
  have hD:=hE5.duo hlg hv hkb hne hmap hva hK
  have hlm:E.lm=lm:=by rw [HEq.out]
  have hmo:E.mo=mo:=by rw [HEq.out]
  have HA:Hid (Calls Tryz.prog 55 #[.pointer (some ⟨kb,0,none⟩),.int .i64 0,.slice none 0 0] u fun e w'=>e=.returned (.int .i64 0)∧∃N',Duo w' (E.H lg v kb) { sta E.mo [] with ks:=[]++[0],D:=upd (fun _=>[]) 0 [] } K.T0 N'∧Went u (fun k=>(d0≤k∧k<w.heap.size)∨(W0.heap.size≤k∧k<u.heap.size)) w' N') :=
   arm_any hD (by show E.lm≤32∧1≤E.lm;rw [hlm];exact⟨HBd.out.2.2,HBd.out.2.1⟩) 0 (by simp [sta]) (by omega) (by simp [sta]) (K:=[]) (Ow.rd (Ow.nil u 0 38 3) rfl) (by show ((0:Nat):Int)≤E.lm;rw [hlm];have:=HBd.out.2.1;omega)
  have hst:({ sta E.mo [] with ks:=[]++[0],D:=upd (fun _=>[]) 0 [] }:Sta)=sta mo [0]:=by
   have e1:upd (fun _=>([]:List Cp)) 0 []=fun _=>[]:=by funext j;simp [upd]
   rw [e1,hmo]
   rfl
  rw [hst] at HA
  have HBt:=hid hbt
  clear hEm hlg hv hkb hne hmap hva hK hkc hbt hE5 hD hlm hmo hst
  go_wp2_with (first|(go_at_call 55;refine HA.out.mono ?_;rintro e1 u2 ⟨rfl,N2,hd2,hw2⟩;have HD2:=hid hd2;have HW2:=hid hw2;clear hd2 hw2))
  have h0:=H0.out
  have hws:=HWs.out
  have hcg:W0.heap.size≤E.cg:=by rw [HEq.out];exact Nat.le_trans HU4.out.size HCg.out
  have hb1:But (fun k=>d0≤k) w u:=(But.of (bc HB.out HU5.out)).trans (HBt.out.mono (fun k e=>by omega))
  refine bodyPost_ret (v:=.pointer (some ⟨kb,0,none⟩)) (by simp [results,Tryz.results29,go_sem]) rfl ⟨E.H lg v kb,N2,rfl,HD2.out,by rw [HEq.out];rfl,by rw [HEq.out];rfl,fun k hk=>?_,hb1.trans (HW2.out.2.mono (fun k hk=>by omega))⟩
  have:=hb1.size
  rcases HW2.out.1 k hk with h1|h1<;>omega
end
end Go.Proofs.YtfmhdimaijimlaaGreatDoor.V
