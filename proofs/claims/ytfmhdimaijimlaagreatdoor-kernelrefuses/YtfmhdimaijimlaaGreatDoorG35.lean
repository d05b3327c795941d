import Derived.Test.YtfmhdimaijimlaaGreatDoorG33
set_option linter.unusedVariables false
set_option linter.unusedSimpArgs false
set_option maxRecDepth 1000000
set_option maxHeartbeats 8000000
namespace Go.Proofs.YtfmhdimaijimlaaGreatDoor.V
open Go.RowKit
open Go.Proofs.YtfmhdimaijimlaaGreatDoor.M (wpAnyH_norm)
section
variable {w w':World}
theorem tmod_low (n k:Int)(hk:0<k):(n.tmod k<0∧n.tmod k+k=n%k∧-k<n.tmod k)∨(0≤n.tmod k∧n.tmod k=n%k∧n.tmod k<k):=by
 have h1:=Int.emod_nonneg n (show k≠0 by omega)
 have h2:=Int.emod_lt_of_pos n hk
 have h3:=@Int.tmod_eq_emod n k
 by_cases h:0≤n∨k ∣ n
 ·rw [if_pos h] at h3
  exact .inr (by omega)
 ·rw [if_neg h] at h3
  by_cases h0:n%k=0
  ·exact absurd (.inr (Int.dvd_of_emod_eq_zero h0)) h
  ·exact .inl (by omega)
theorem below_any (n k:Int)(hk:0<k)(hk2:k≤4200)(w:World):Calls Tryz.prog 10 #[.int .i64 n,.int .i64 k] w fun e w'=>e=.returned (.int .i64 (n%k))∧w'=w:=by
 have hz:k≠0:=by omega
 obtain⟨m,hm⟩:∃m,m=n.tmod k:=⟨_,rfl⟩
 have hc:=tmod_low n k hk
 rw [←hm] at hc
 have HM:=hid hm
 generalize n%k=r at *
 rcases hc with ⟨h1,h2,h3⟩|⟨h1,h2,h3⟩
 ·have hd:decide (m<0)=true:=decide_eq_true h1
  subst h2
  clear hm
  go_enter Tryz.func10,Tryz.ntmps10
  go_upto_region 2 with fail
  rw [←HM.out]
  go_wp2
  go_ret
  exact⟨rfl,rfl⟩
 ·have hd:decide (m<0)=false:=decide_eq_false (by omega)
  subst h2
  clear hm
  go_enter Tryz.func10,Tryz.ntmps10
  go_upto_region 2 with fail
  rw [←HM.out]
  go_wp2
  go_ret
  exact⟨rfl,rfl⟩
theorem below_ex (n k:Int)(hk:0<k)(hk2:k≤4200)(w:World):Calls Tryz.prog 10 #[.int .i64 n,.int .i64 k] w fun e w'=>∃r,e=.returned (.int .i64 r)∧(0≤r∧r<k)∧w'=w:=by
 refine (below_any n k hk hk2 w).mono ?_
 rintro e w' ⟨rfl,hw⟩
 exact⟨_,rfl,⟨Int.emod_nonneg n (by omega),Int.emod_lt_of_pos n hk⟩,hw⟩
theorem Bx.st23 {b:Nat}{L:List Value}(h:R.Bx w b L)(hl:L.length=10)(c:Cf):(Instr.storeAt 23 (.pointer (some ⟨b,0,none⟩)) c.v).run Tryz.prog w=.ok () (w.setCells b 0 c.L):=by
 have h10:c.L.length=10:=rfl
 have:=R.stc (L:=c.L) (show w.there b 0 10 by rw [←hl];exact h.there) h10 (by simp [Cf.L,Value.oneCell'])
 simp [Instr.storeAt,storeVar,Instr.sureAddr,Value.cells,h10,this,Result.andThen]
theorem Bx.lv23 {b:Nat}{L:List Value}(h:R.Bx w b L)(hl:L.length=10)(c:Cf):(loadVar 23 ⟨b,0,none⟩).run Tryz.prog (w.setCells b 0 c.L)=.ok c.v (w.setCells b 0 c.L) :=
 run_loadVar_mid (P:=Tryz.prog) _ b 0 23 c.L _ (World.rangeAt_setCells_same _ _ _ _ (show w.there b 0 10 by rw [←hl];exact h.there)) Tryz.underlying23 rfl (by rw [show (Tryz.prog.info? 23).map (·.size)=some 10 by kernel_rfl];rfl)
theorem config_any (c:Cf)(w:World):Calls Tryz.prog 9 #[c.v] w fun e w'=>∃c':Cf,e=.returned c'.v∧c'.may=true∧Below w.heap.size w w':=by
 obtain⟨W,hW⟩:∃W,W=(w.alloc (Obj.cells c.L.toArray 23)).alloc (Obj.cells [.int .i64 0,.int .i64 0,.int .i64 0,.int .i64 0,.int .i64 0,.int .i64 0,.int .i64 0,.int .i64 0,.int .i64 0,.int .i64 0].toArray 23):=⟨_,rfl⟩
 have HB:Hid (Below w.heap.size w W):=by rw [hW];exact below2 _ _ _
 have hX:R.Bx W w.heap.size c.L:=by rw [hW];exact R.Bx.later (below1 _ _) (R.Bx.new w _ _)
 have HZ:Hid (R.Bx W (w.heap.size+1) [.int .i64 0,.int .i64 0,.int .i64 0,.int .i64 0,.int .i64 0,.int .i64 0,.int .i64 0,.int .i64 0,.int .i64 0,.int .i64 0]):=by
  rw [hW]
  have:=R.Bx.new (w.alloc (Obj.cells c.L.toArray 23)) [.int .i64 0,.int .i64 0,.int .i64 0,.int .i64 0,.int .i64 0,.int .i64 0,.int .i64 0,.int .i64 0,.int .i64 0,.int .i64 0] 23
  rwa [World.size_alloc] at this
 have HS:Hid (∀U,But (fun k=>k=w.heap.size+1) W U→(U.cell? ⟨w.heap.size,0,none⟩=some (.int .i64 c.W)∧U.cell? ⟨w.heap.size,1,none⟩=some (.int .i64 c.o)∧U.cell? ⟨w.heap.size,2,none⟩=some (.int .i64 c.p)∧U.cell? ⟨w.heap.size,3,none⟩=some (.int .i64 c.m)∧U.cell? ⟨w.heap.size,4,none⟩=some (.int .i64 c.q)∧U.cell? ⟨w.heap.size,5,none⟩=some (.int .i64 c.r)∧U.cell? ⟨w.heap.size,6,none⟩=some (.int .i64 c.l)∧U.cell? ⟨w.heap.size,7,none⟩=some (.int .i64 c.s)∧U.cell? ⟨w.heap.size,8,none⟩=some (.int .i64 c.y)∧U.cell? ⟨w.heap.size,9,none⟩=some (.int .i64 c.k))):=fun U hU=>by
  have:=R.Bx.but hU hX (fun e=>by omega)
  exact⟨this.cell 0 rfl,this.cell 1 rfl,this.cell 2 rfl,this.cell 3 rfl,this.cell 4 rfl,this.cell 5 rfl,this.cell 6 rfl,this.cell 7 rfl,this.cell 8 rfl,this.cell 9 rfl⟩
 have HBl:=hid (fun n k hk hk2=>below_ex n k hk hk2 W.drew)
 have HW:=hid hW
 clear hX hW
 go_enter Tryz.func9,Tryz.ntmps9
 go_upto_region 1 with fail
 have hW:=HW.out
 rw [←hW]
 clear hW
 refine wp_region_held_drew (S:=(fun U:World=>(U.cell? ⟨w.heap.size,0,none⟩=some (.int .i64 c.W)∧U.cell? ⟨w.heap.size,1,none⟩=some (.int .i64 c.o)∧U.cell? ⟨w.heap.size,2,none⟩=some (.int .i64 c.p)∧U.cell? ⟨w.heap.size,3,none⟩=some (.int .i64 c.m)∧U.cell? ⟨w.heap.size,4,none⟩=some (.int .i64 c.q)∧U.cell? ⟨w.heap.size,5,none⟩=some (.int .i64 c.r)∧U.cell? ⟨w.heap.size,6,none⟩=some (.int .i64 c.l)∧U.cell? ⟨w.heap.size,7,none⟩=some (.int .i64 c.s)∧U.cell? ⟨w.heap.size,8,none⟩=some (.int .i64 c.y)∧U.cell? ⟨w.heap.size,9,none⟩=some (.int .i64 c.k)))) (by kernel_rfl) (HS.out _ (But.of (Below.refl _ _).drew)) (fun hHeld=>?_)
 refine nH (bm 48 0) 48 ?_
 refine tH 0 (v:=?_) rfl (fun _ _ _ h=>h) ?_ ?_;rotate_left
 ·(intro w hSw;(try dsimp only at hSw);go_simp;try with_reducible rfl)
 try simp only [gz,Act.put]
 refine nH (bm 48 1) 47 ?_
 refine tH 1 (v:=?_) rfl (fun _ _ _ h=>h) ?_ ?_;rotate_left
 ·(intro w hSw;(try dsimp only at hSw);go_simp;try with_reducible rfl)
 try simp only [gz,Act.put]
 refine nH (bm 48 3) 46 ?_
 refine tH 2 (v:=?_) rfl (fun _ _ _ h=>h) ?_ ?_;rotate_left
 ·(intro w hSw;(try dsimp only at hSw);go_simp;try with_reducible rfl)
 try simp only [gz,Act.put]
 refine nH (bm 48 7) 45 ?_
 refine tH 5 (v:=?_) rfl (fun _ _ _ h=>h) ?_ ?_;rotate_left
 ·(intro w hSw;(try dsimp only at hSw);go_simp;try with_reducible rfl)
 try simp only [gz,Act.put]
 refine nH (bm 48 39) 44 ?_
 refine tH 6 (v:=?_) rfl (fun _ _ _ h=>h) ?_ ?_;rotate_left
 ·(intro w hSw;(try dsimp only at hSw);go_simp;try with_reducible rfl)
 try simp only [gz,Act.put]
 refine nH (bm 48 103) 43 ?_
 refine tH 7 (v:=?_) rfl (fun _ _ _ h=>h) ?_ ?_;rotate_left
 ·(intro w hSw;(try dsimp only at hSw);go_simp;try with_reducible rfl)
 try simp only [gz,Act.put]
 refine nH (bm 48 231) 42 ?_
 refine tH 10 (v:=?_) rfl (fun _ _ _ h=>h) ?_ ?_;rotate_left
 ·(intro w hSw;(try dsimp only at hSw);go_simp;try with_reducible rfl)
 try simp only [gz,Act.put]
 refine nH (bm 48 1255) 41 ?_
 refine tH 11 (v:=?_) rfl (fun _ _ _ h=>h) ?_ ?_;rotate_left
 ·(intro w hSw;(try dsimp only at hSw);go_simp;try with_reducible rfl)
 try simp only [gz,Act.put]
 refine nH (bm 48 3303) 40 ?_
 refine tH 12 (v:=?_) rfl (fun _ _ _ h=>h) ?_ ?_;rotate_left
 ·(intro w hSw;(try dsimp only at hSw);go_simp;try with_reducible rfl)
 try simp only [gz,Act.put]
 refine nH (bm 48 7399) 39 ?_
 refine tH 15 (v:=?_) rfl (fun _ _ _ h=>h) ?_ ?_;rotate_left
 ·(intro w hSw;(try dsimp only at hSw);go_simp;try with_reducible rfl)
 try simp only [gz,Act.put]
 refine nH (bm 48 40167) 38 ?_
 refine tH 16 (v:=?_) rfl (fun _ _ _ h=>h) ?_ ?_;rotate_left
 ·(intro w hSw;(try dsimp only at hSw);go_simp;try with_reducible rfl)
 try simp only [gz,Act.put]
 refine nH (bm 48 105703) 37 ?_
 refine tH 17 (v:=?_) rfl (fun _ _ _ h=>h) ?_ ?_;rotate_left
 ·(intro w hSw;(try dsimp only at hSw);go_simp;try with_reducible rfl)
 try simp only [gz,Act.put]
 refine nH (bm 48 236775) 36 ?_
 refine tH 20 (v:=?_) rfl (fun _ _ _ h=>h) ?_ ?_;rotate_left
 ·(intro w hSw;(try dsimp only at hSw);go_simp;try with_reducible rfl)
 try simp only [gz,Act.put]
 refine nH (bm 48 1285351) 35 ?_
 refine tH 21 (v:=?_) rfl (fun _ _ _ h=>h) ?_ ?_;rotate_left
 ·(intro w hSw;(try dsimp only at hSw);go_simp;try with_reducible rfl)
 try simp only [gz,Act.put]
 refine nH (bm 48 3382503) 34 ?_
 refine tH 22 (v:=?_) rfl (fun _ _ _ h=>h) ?_ ?_;rotate_left
 ·(intro w hSw;(try dsimp only at hSw);go_simp;try with_reducible rfl)
 try simp only [gz,Act.put]
 refine nH (bm 48 7576807) 33 ?_
 refine tH 25 (v:=?_) rfl (fun _ _ _ h=>h) ?_ ?_;rotate_left
 ·(intro w hSw;(try dsimp only at hSw);go_simp;try with_reducible rfl)
 try simp only [gz,Act.put]
 refine nH (bm 48 41131239) 32 ?_
 refine tH 26 (v:=?_) rfl (fun _ _ _ h=>h) ?_ ?_;rotate_left
 ·(intro w hSw;(try dsimp only at hSw);go_simp;try with_reducible rfl)
 try simp only [gz,Act.put]
 refine nH (bm 48 108240103) 31 ?_
 refine tH 27 (v:=?_) rfl (fun _ _ _ h=>h) ?_ ?_;rotate_left
 ·(intro w hSw;(try dsimp only at hSw);go_simp;try with_reducible rfl)
 try simp only [gz,Act.put]
 refine nH (bm 48 242457831) 30 ?_
 refine tH 30 (v:=?_) rfl (fun _ _ _ h=>h) ?_ ?_;rotate_left
 ·(intro w hSw;(try dsimp only at hSw);go_simp;try with_reducible rfl)
 try simp only [gz,Act.put]
 refine nH (bm 48 1316199655) 29 ?_
 refine tH 31 (v:=?_) rfl (fun _ _ _ h=>h) ?_ ?_;rotate_left
 ·(intro w hSw;(try dsimp only at hSw);go_simp;try with_reducible rfl)
 try simp only [gz,Act.put]
 refine nH (bm 48 3463683303) 28 ?_
 refine tH 32 (v:=?_) rfl (fun _ _ _ h=>h) ?_ ?_;rotate_left
 ·(intro w hSw;(try dsimp only at hSw);go_simp;try with_reducible rfl)
 try simp only [gz,Act.put]
 refine nH (bm 48 7758650599) 27 ?_
 refine tH 35 (v:=?_) rfl (fun _ _ _ h=>h) ?_ ?_;rotate_left
 ·(intro w hSw;(try dsimp only at hSw);go_simp;try with_reducible rfl)
 try simp only [gz,Act.put]
 refine nH (bm 48 42118388967) 26 ?_
 refine tH 36 (v:=?_) rfl (fun _ _ _ h=>h) ?_ ?_;rotate_left
 ·(intro w hSw;(try dsimp only at hSw);go_simp;try with_reducible rfl)
 try simp only [gz,Act.put]
 refine nH (bm 48 110837865703) 25 ?_
 refine tH 38 (v:=?_) rfl (fun _ _ _ h=>h) ?_ ?_;rotate_left
 ·(intro w hSw;(try dsimp only at hSw);go_simp;try with_reducible rfl)
 try simp only [gz,Act.put]
 refine nH (bm 48 385715772647) 24 ?_
 refine tH 39 (v:=?_) rfl (fun _ _ _ h=>h) ?_ ?_;rotate_left
 ·(intro w hSw;(try dsimp only at hSw);go_simp;try with_reducible rfl)
 try simp only [gz,Act.put]
 refine nH (bm 48 935471586535) 23 ?_
 refine tH 40 (v:=?_) rfl (fun _ _ _ h=>h) ?_ ?_;rotate_left
 ·(intro w hSw;(try dsimp only at hSw);go_simp;try with_reducible rfl)
 try simp only [gz,Act.put]
 refine nH (bm 48 2034983214311) 22 ?_
 refine tH 43 (v:=?_) rfl (fun _ _ _ h=>h) ?_ ?_;rotate_left
 ·(intro w hSw;(try dsimp only at hSw);go_simp;try with_reducible rfl)
 try simp only [gz,Act.put]
 refine nH (bm 48 10831076236519) 21 ?_
 refine tH 44 (v:=?_) rfl (fun _ _ _ h=>h) ?_ ?_;rotate_left
 ·(intro w hSw;(try dsimp only at hSw);go_simp;try with_reducible rfl)
 try simp only [gz,Act.put]
 refine nH (bm 48 28423262280935) 20 ?_
 refine yH [3] ?_
 refine cH rfl fun K hK=>?_
 go_simp
 go_wp2_with (first|(go_at_call 10;refine (HBl.out _ 128 (by decide) (by decide)).mono ?_;rintro e w_ ⟨r0,rfl,⟨hl0,hh0⟩,hw_⟩;obtain rfl:=hw_.symm;clear hw_))
 refine hK.out _ _ (HS.out _ (But.of (Below.refl _ _).drew)) (fun hHeld=>?_)
 clear hK K
 try simp only [gz,Act.put]
 refine nH (bm 48 28423262280943) 19 ?_
 refine tH 4 (v:=?_) rfl (fun _ _ _ h=>h) ?_ ?_;rotate_left
 ·(intro w hSw;(try dsimp only at hSw);go_simp;try with_reducible rfl)
 try simp only [gz,Act.put]
 refine nH (bm 48 28423262280959) 18 ?_
 refine yH [8] ?_
 refine cH rfl fun K hK=>?_
 go_simp
 go_wp2_with (first|(go_at_call 10;refine (HBl.out _ 64 (by decide) (by decide)).mono ?_;rintro e w_ ⟨r1,rfl,⟨hl1,hh1⟩,hw_⟩;obtain rfl:=hw_.symm;clear hw_))
 refine hK.out _ _ (HS.out _ (But.of (Below.refl _ _).drew)) (fun hHeld=>?_)
 clear hK K
 try simp only [gz,Act.put]
 refine nH (bm 48 28423262281215) 17 ?_
 refine tH 9 (v:=?_) rfl (fun _ _ _ h=>h) ?_ ?_;rotate_left
 ·(intro w hSw;(try dsimp only at hSw);go_simp;try with_reducible rfl)
 try simp only [gz,Act.put]
 refine nH (bm 48 28423262281727) 16 ?_
 refine yH [13] ?_
 refine cH rfl fun K hK=>?_
 go_simp
 go_wp2_with (first|(go_at_call 10;refine (HBl.out _ 256 (by decide) (by decide)).mono ?_;rintro e w_ ⟨r2,rfl,⟨hl2,hh2⟩,hw_⟩;obtain rfl:=hw_.symm;clear hw_))
 refine hK.out _ _ (HS.out _ (But.of (Below.refl _ _).drew)) (fun hHeld=>?_)
 clear hK K
 try simp only [gz,Act.put]
 refine nH (bm 48 28423262289919) 15 ?_
 refine tH 14 (v:=?_) rfl (fun _ _ _ h=>h) ?_ ?_;rotate_left
 ·(intro w hSw;(try dsimp only at hSw);go_simp;try with_reducible rfl)
 try simp only [gz,Act.put]
 refine nH (bm 48 28423262306303) 14 ?_
 refine yH [18] ?_
 refine cH rfl fun K hK=>?_
 go_simp
 go_wp2_with (first|(go_at_call 10;refine (HBl.out _ 256 (by decide) (by decide)).mono ?_;rintro e w_ ⟨r3,rfl,⟨hl3,hh3⟩,hw_⟩;obtain rfl:=hw_.symm;clear hw_))
 refine hK.out _ _ (HS.out _ (But.of (Below.refl _ _).drew)) (fun hHeld=>?_)
 clear hK K
 try simp only [gz,Act.put]
 refine nH (bm 48 28423262568447) 13 ?_
 refine tH 19 (v:=?_) rfl (fun _ _ _ h=>h) ?_ ?_;rotate_left
 ·(intro w hSw;(try dsimp only at hSw);go_simp;try with_reducible rfl)
 try simp only [gz,Act.put]
 refine nH (bm 48 28423263092735) 12 ?_
 refine yH [23] ?_
 refine cH rfl fun K hK=>?_
 go_simp
 go_wp2_with (first|(go_at_call 10;refine (HBl.out _ 256 (by decide) (by decide)).mono ?_;rintro e w_ ⟨r4,rfl,⟨hl4,hh4⟩,hw_⟩;obtain rfl:=hw_.symm;clear hw_))
 refine hK.out _ _ (HS.out _ (But.of (Below.refl _ _).drew)) (fun hHeld=>?_)
 clear hK K
 try simp only [gz,Act.put]
 refine nH (bm 48 28423271481343) 11 ?_
 refine tH 24 (v:=?_) rfl (fun _ _ _ h=>h) ?_ ?_;rotate_left
 ·(intro w hSw;(try dsimp only at hSw);go_simp;try with_reducible rfl)
 try simp only [gz,Act.put]
 refine nH (bm 48 28423288258559) 10 ?_
 refine yH [28] ?_
 refine cH rfl fun K hK=>?_
 go_simp
 go_wp2_with (first|(go_at_call 10;refine (HBl.out _ 32 (by decide) (by decide)).mono ?_;rintro e w_ ⟨r5,rfl,⟨hl5,hh5⟩,hw_⟩;obtain rfl:=hw_.symm;clear hw_))
 refine hK.out _ _ (HS.out _ (But.of (Below.refl _ _).drew)) (fun hHeld=>?_)
 clear hK K
 try simp only [gz,Act.put]
 refine nH (bm 48 28423556694015) 9 ?_
 refine tH 29 (v:=?_) rfl (fun _ _ _ h=>h) ?_ ?_;rotate_left
 ·(intro w hSw;(try dsimp only at hSw);go_simp;try with_reducible rfl)
 try simp only [gz,Act.put]
 refine nH (bm 48 28424093564927) 8 ?_
 refine yH [33] ?_
 refine cH rfl fun K hK=>?_
 go_simp
 go_wp2_with (first|(go_at_call 10;refine (HBl.out _ 32 (by decide) (by decide)).mono ?_;rintro e w_ ⟨r6,rfl,⟨hl6,hh6⟩,hw_⟩;obtain rfl:=hw_.symm;clear hw_))
 refine hK.out _ _ (HS.out _ (But.of (Below.refl _ _).drew)) (fun hHeld=>?_)
 clear hK K
 try simp only [gz,Act.put]
 refine nH (bm 48 28432683499519) 7 ?_
 refine tH 34 (v:=?_) rfl (fun _ _ _ h=>h) ?_ ?_;rotate_left
 ·(intro w hSw;(try dsimp only at hSw);go_simp;try with_reducible rfl)
 try simp only [gz,Act.put]
 refine nH (bm 48 28449863368703) 6 ?_
 refine yH [37] ?_
 refine cH rfl fun K hK=>?_
 go_simp
 go_wp2_with (first|(go_at_call 10;refine (HBl.out _ 17 (by decide) (by decide)).mono ?_;rintro e w_ ⟨r7,rfl,⟨hl7,hh7⟩,hw_⟩;obtain rfl:=hw_.symm;clear hw_))
 refine hK.out _ _ (HS.out _ (But.of (Below.refl _ _).drew)) (fun hHeld=>?_)
 clear hK K
 try simp only [gz,Act.put]
 refine nH (bm 48 28587302322175) 5 ?_
 refine yH [41] ?_
 refine cH rfl fun K hK=>?_
 go_simp
 go_wp2_with (first|(go_at_call 10;refine (HBl.out _ 4 (by decide) (by decide)).mono ?_;rintro e w_ ⟨r8,rfl,⟨hl8,hh8⟩,hw_⟩;obtain rfl:=hw_.symm;clear hw_))
 refine hK.out _ _ (HS.out _ (But.of (Below.refl _ _).drew)) (fun hHeld=>?_)
 clear hK K
 try simp only [gz,Act.put]
 refine nH (bm 48 30786325577727) 4 ?_
 refine tH 42 (v:=?_) rfl (fun _ _ _ h=>h) ?_ ?_;rotate_left
 ·(intro w hSw;(try dsimp only at hSw);go_simp;try with_reducible rfl)
 try simp only [gz,Act.put]
 refine nH (bm 48 35184372088831) 3 ?_
 refine yH [45] ?_
 refine cH rfl fun K hK=>?_
 go_simp
 go_wp2_with (first|(go_at_call 10;refine (HBl.out _ 65 (by decide) (by decide)).mono ?_;rintro e w_ ⟨r9,rfl,⟨hl9,hh9⟩,hw_⟩;obtain rfl:=hw_.symm;clear hw_))
 refine hK.out _ _ (HS.out _ (But.of (Below.refl _ _).drew)) (fun hHeld=>?_)
 clear hK K
 try simp only [gz,Act.put]
 refine nH (bm 48 70368744177663) 2 ?_
 refine tH 46 (v:=?_) rfl (fun _ _ _ h=>h) ?_ ?_;rotate_left
 ·(intro w hSw;(try dsimp only at hSw);go_simp;try with_reducible rfl)
 try simp only [gz,Act.put]
 refine nH (bm 48 140737488355327) 1 ?_
 refine yH [47] ?_
 refine cH rfl fun K hK=>?_
 have HZ9:=hid (R.Bx.later (Below.refl _ _).drew HZ.out)
 have HS9:=hid (Bx.st23 HZ9.out rfl (Cf.mk (IntKind.i64.wrap (1+r0)) (IntKind.i64.wrap (1+r1)) (IntKind.i64.wrap (1+r2)) (IntKind.i64.wrap (1+r3)) (IntKind.i64.wrap (1+r4)) (IntKind.i64.wrap (1+r5)) (IntKind.i64.wrap (1+r6)) (r7) (IntKind.i64.wrap (1+r8)) (r9)))
 have HL9:=hid (Bx.lv23 HZ9.out rfl (Cf.mk (IntKind.i64.wrap (1+r0)) (IntKind.i64.wrap (1+r1)) (IntKind.i64.wrap (1+r2)) (IntKind.i64.wrap (1+r3)) (IntKind.i64.wrap (1+r4)) (IntKind.i64.wrap (1+r5)) (IntKind.i64.wrap (1+r6)) (r7) (IntKind.i64.wrap (1+r8)) (r9)))
 have HB9:Hid (But (fun k=>k=w.heap.size+1) W.drew (W.drew.setCells (w.heap.size+1) 0 (Cf.mk (IntKind.i64.wrap (1+r0)) (IntKind.i64.wrap (1+r1)) (IntKind.i64.wrap (1+r2)) (IntKind.i64.wrap (1+r3)) (IntKind.i64.wrap (1+r4)) (IntKind.i64.wrap (1+r5)) (IntKind.i64.wrap (1+r6)) (r7) (IntKind.i64.wrap (1+r8)) (r9)).L)):=R.sb_ (S:=(fun k=>k=w.heap.size+1)) rfl _ 0 (But.refl _ _)
 refine wp_store_known 23 (.tmp 2) (.tmp 49) rfl _ _ rfl rfl _ HS9.out ?_
 refine hK.out _ _ (HS.out _ ((But.of (Below.refl _ _).drew).trans HB9.out)) (fun hHeld=>?_)
 clear hK K
 try simp only [gz,Act.put]
 refine nH (bm 48 281474976710655) 0 ?_
 refine wpAnyH_done (by kernel_rfl) ?_ _
 go_wp2
 refine bodyPost_ret (v:=(Cf.mk (IntKind.i64.wrap (1+r0)) (IntKind.i64.wrap (1+r1)) (IntKind.i64.wrap (1+r2)) (IntKind.i64.wrap (1+r3)) (IntKind.i64.wrap (1+r4)) (IntKind.i64.wrap (1+r5)) (IntKind.i64.wrap (1+r6)) (r7) (IntKind.i64.wrap (1+r8)) (r9)).v) (by simp [results,Tryz.results9,asAddr,HL9.out]) rfl ⟨(Cf.mk (IntKind.i64.wrap (1+r0)) (IntKind.i64.wrap (1+r1)) (IntKind.i64.wrap (1+r2)) (IntKind.i64.wrap (1+r3)) (IntKind.i64.wrap (1+r4)) (IntKind.i64.wrap (1+r5)) (IntKind.i64.wrap (1+r6)) (r7) (IntKind.i64.wrap (1+r8)) (r9)),rfl,Cf.may_iff.2 (by simp only [IntKind.wrap_i64];omega),But.below (HB.out.drew) HB9.out (fun k e=>by omega)⟩
end
open Go.Proofs.YtfmhdimaijimlaaGreatDoor.H (B64 Cp)
section
def exF (j:Nat):Nat:=[5,261,5,7,9].getD j 0
def exC:Cf:=⟨8,2,3,4,3,2,2,1,1,0⟩
def exP:Pm:=exC.pm 5 (fun j=>D.cutN (exF j) exC.W)
def ex1:R.Cl:=⟨1,0,65,0,0,0,false,0,0,0,[],0,[]⟩
def ex2:R.Cl:=⟨3,0,0,1,0,5,false,3,0,0,[],0,[]⟩
def ex3:R.Cl:=⟨6,0,0,1,0,7,true,0,64,0,[9],0,[]⟩
def ex4:R.Cl:=⟨5,0,0,1,0,7,true,0,60,5,[],0,[]⟩
def exS0:Sta:=sta exC.m.toNat [0]
def exS1:Sta:=(doA exP exS0 ex1).2
def exS2:Sta:=(doA exP exS1 ex2).2
def exS3:Sta:=(doA exP exS2 ex3).2
def exS4:Sta:=(doA exP exS3 ex4).2
theorem ex_r1:(doA exP exS0 ex1).1=⟨0,(1,0,5),[],0⟩:=by kernel_rfl
theorem ex_r2:(doA exP exS1 ex2).1=⟨0,(1,0,7),[],0⟩:=by kernel_rfl
theorem ex_r3:(doA exP exS2 ex3).1=⟨0,(0,0,0),[],0⟩:=by kernel_rfl
theorem ex_r4:(doA exP exS3 ex4).1=⟨0,(0,0,0),[0,0,0,0,9],0⟩:=by kernel_rfl
theorem ex_s:(psOf 4 exS4).O.length=1∧(psOf 4 exS4).T.length=2∧(psOf 4 exS4).t=4:=⟨by kernel_rfl,by kernel_rfl,by kernel_rfl⟩
end
end Go.Proofs.YtfmhdimaijimlaaGreatDoor.V
