import Derived.Test.YtffmodpgddecnaaGreatDoorZ33
set_option linter.unusedVariables false
set_option linter.unusedSimpArgs false
set_option maxRecDepth 100000
set_option maxHeartbeats 8000000
namespace Go.Proofs.YtffmodpgddecnaaGreatDoor.V
open Go.RowKit
open Go.Proofs.YtffmodpgddecnaaGreatDoor.M (ba)
section
variable {w w':World}
theorem AB (n k:Int)(hk:0<k):(n.tmod k<0/\n.tmod k+k=n%k/\-k<n.tmod k)\/(0<=n.tmod k/\n.tmod k=n%k/\n.tmod k<k):=by
 have h1:=Int.emod_nonneg n (show k≠0 by omega)
 have h2:=Int.emod_lt_of_pos n hk
 have h3:=@Int.tmod_eq_emod n k
 by_cases h:0<=n\/k ∣ n
 ·rw [if_pos h] at h3
  exact .inr (by omega)
 ·rw [if_neg h] at h3
  by_cases h0:n%k=0
  ·exact absurd (.inr (Int.dvd_of_emod_eq_zero h0)) h
  ·exact .inl (by omega)
theorem wR (n k:Int)(hk:0<k)(hk2:k<=4200)(w:World):Calls Tryz.prog 42 #[.int .i64 n,.int .i64 k] w λe w'=>e=.returned (.int .i64 (n%k))/\w'=w:=by
 have hz:k≠0:=by omega
 obtain⟨m,hm⟩:∃m,m=n.tmod k:=⟨_,rfl⟩
 have hc:=AB n k hk
 rw [<-hm] at hc;have HM:=ab hm
 generalize n%k=r at *
 rcases hc with ⟨h1,h2,h3⟩|⟨h1,h2,h3⟩
 ·have hd:decide (m<0)=true:=decide_eq_true h1
  subst h2;clear hm;go_enter Tryz.func42,Tryz.ntmps42
  go_upto_region 2 with fail
  rw [<-HM.out];go_wp2;go_ret;exact⟨rfl,rfl⟩
 ·have hd:decide (m<0)=false:=decide_eq_false (by omega)
  subst h2;clear hm;go_enter Tryz.func42,Tryz.ntmps42
  go_upto_region 2 with fail
  rw [<-HM.out];go_wp2;go_ret;exact⟨rfl,rfl⟩
theorem AR (n k:Int)(hk:0<k)(hk2:k<=4200)(w:World):Calls Tryz.prog 42 #[.int .i64 n,.int .i64 k] w λe w'=>∃r,e=.returned (.int .i64 r)/\(0<=r/\r<k)/\w'=w:=by
 refine (wR n k hk hk2 w).mono ?_
 rintro e w' ⟨rfl,hw⟩
 exact⟨_,rfl,⟨Int.emod_nonneg n (by omega),Int.emod_lt_of_pos n hk⟩,hw⟩
theorem Bx.Jo {b:Nat}{L:List Value}(h:R.Bx w b L)(hl:L.length=10)(c:Cf):(Instr.storeAt 23 (.pointer (some ⟨b,0,none⟩)) c.v).run Tryz.prog w=.ok () (w.setCells b 0 c.L):=by
 have h10:c.L.length=10:=rfl
 have:=R.xP (L:=c.L) (show w.there b 0 10 by rw [<-hl];exact h.there) h10 (by simp [Cf.L,Value.oneCell'])
 simp [Instr.storeAt,storeVar,Instr.sureAddr,Value.cells,h10,this,Result.andThen]
theorem Bx.Ks {b:Nat}{L:List Value}(h:R.Bx w b L)(hl:L.length=10)(c:Cf):(loadVar 23 ⟨b,0,none⟩).run Tryz.prog (w.setCells b 0 c.L)=.ok c.v (w.setCells b 0 c.L) :=
 run_loadVar_mid (P:=Tryz.prog) _ b 0 23 c.L _ (World.rangeAt_setCells_same _ _ _ _ (show w.there b 0 10 by rw [<-hl];exact h.there)) Tryz.underlying23 rfl (by rw [show (Tryz.prog.info? 23).map (·.size)=some 10 by kernel_rfl];rfl)
theorem uu (c:Cf)(w:World):Calls Tryz.prog 9 #[c.v] w λe w'=>∃c':Cf,e=.returned c'.v/\c'.may=true/\Below w.heap.size w w':=by
 obtain⟨W,hW⟩:∃W,W=(w.alloc (Obj.cells c.L.toArray 23)).alloc (Obj.cells [.int .i64 0,.int .i64 0,.int .i64 0,.int .i64 0,.int .i64 0,.int .i64 0,.int .i64 0,.int .i64 0,.int .i64 0,.int .i64 0].toArray 23):=⟨_,rfl⟩
 have HB:Hid (Below w.heap.size w W):=by rw [hW];exact aC _ _ _
 have hX:R.Bx W w.heap.size c.L:=by rw [hW];exact R.Bx.later (ae _ _) (R.Bx.new w _ _)
 have HZ:Hid (R.Bx W (w.heap.size+1) [.int .i64 0,.int .i64 0,.int .i64 0,.int .i64 0,.int .i64 0,.int .i64 0,.int .i64 0,.int .i64 0,.int .i64 0,.int .i64 0]):=by
  rw [hW];have:=R.Bx.new (w.alloc (Obj.cells c.L.toArray 23)) [.int .i64 0,.int .i64 0,.int .i64 0,.int .i64 0,.int .i64 0,.int .i64 0,.int .i64 0,.int .i64 0,.int .i64 0,.int .i64 0] 23
  rwa [World.size_alloc] at this
 have HS:Hid (∀U,ah (λk=>k=w.heap.size+1) W U->(U.cell? ⟨w.heap.size,0,none⟩=some (.int .i64 c.W)/\U.cell? ⟨w.heap.size,1,none⟩=some (.int .i64 c.o)/\U.cell? ⟨w.heap.size,2,none⟩=some (.int .i64 c.p)/\U.cell? ⟨w.heap.size,3,none⟩=some (.int .i64 c.m)/\U.cell? ⟨w.heap.size,4,none⟩=some (.int .i64 c.q)/\U.cell? ⟨w.heap.size,5,none⟩=some (.int .i64 c.r)/\U.cell? ⟨w.heap.size,6,none⟩=some (.int .i64 c.l)/\U.cell? ⟨w.heap.size,7,none⟩=some (.int .i64 c.s)/\U.cell? ⟨w.heap.size,8,none⟩=some (.int .i64 c.y)/\U.cell? ⟨w.heap.size,9,none⟩=some (.int .i64 c.k))):=λU hU=>by
  have:=R.Bx.but hU hX (λe=>by omega)
  exact⟨this.cell 0 rfl,this.cell 1 rfl,this.cell 2 rfl,this.cell 3 rfl,this.cell 4 rfl,this.cell 5 rfl,this.cell 6 rfl,this.cell 7 rfl,this.cell 8 rfl,this.cell 9 rfl⟩
 have P3:=ab (λn k hk hk2=>AR n k hk hk2 W.drew)
 have HW:=ab hW
 clear hX hW;go_enter Tryz.func9,Tryz.ntmps9
 go_upto_region 1 with fail
 have hW:=HW.out
 rw [<-hW];clear hW;refine wp_region_held_drew (S:=(λU:World=>(U.cell? ⟨w.heap.size,0,none⟩=some (.int .i64 c.W)/\U.cell? ⟨w.heap.size,1,none⟩=some (.int .i64 c.o)/\U.cell? ⟨w.heap.size,2,none⟩=some (.int .i64 c.p)/\U.cell? ⟨w.heap.size,3,none⟩=some (.int .i64 c.m)/\U.cell? ⟨w.heap.size,4,none⟩=some (.int .i64 c.q)/\U.cell? ⟨w.heap.size,5,none⟩=some (.int .i64 c.r)/\U.cell? ⟨w.heap.size,6,none⟩=some (.int .i64 c.l)/\U.cell? ⟨w.heap.size,7,none⟩=some (.int .i64 c.s)/\U.cell? ⟨w.heap.size,8,none⟩=some (.int .i64 c.y)/\U.cell? ⟨w.heap.size,9,none⟩=some (.int .i64 c.k)))) (by kernel_rfl) (HS.out _ (ah.of (Below.refl _ _).drew)) (λhHeld=>?_)
 refine nm 48 0 48 ?_
 refine tn 0 48 1 47 ?_
 simp only [zz];refine tn 1 48 3 46 ?_
 simp only [zz];refine tn 2 48 7 45 ?_
 simp only [zz];refine tn 5 48 39 44 ?_
 simp only [zz];refine tn 6 48 103 43 ?_
 simp only [zz];refine tn 7 48 231 42 ?_
 simp only [zz];refine tn 10 48 1255 41 ?_
 simp only [zz];refine tn 11 48 3303 40 ?_
 simp only [zz];refine tn 12 48 7399 39 ?_
 simp only [zz];refine tn 15 48 40167 38 ?_
 simp only [zz];refine tn 16 48 105703 37 ?_
 simp only [zz];refine tn 17 48 236775 36 ?_
 simp only [zz];refine tn 20 48 1285351 35 ?_
 simp only [zz];refine tn 21 48 3382503 34 ?_
 simp only [zz];refine tn 22 48 7576807 33 ?_
 simp only [zz];refine tn 25 48 41131239 32 ?_
 simp only [zz];refine tn 26 48 108240103 31 ?_
 simp only [zz];refine tn 27 48 242457831 30 ?_
 simp only [zz];refine tn 30 48 1316199655 29 ?_
 simp only [zz];refine tn 31 48 3463683303 28 ?_
 simp only [zz];refine tn 32 48 7758650599 27 ?_
 simp only [zz];refine tn 35 48 42118388967 26 ?_
 simp only [zz];refine tn 36 48 110837865703 25 ?_
 simp only [zz];refine tn 38 48 385715772647 24 ?_
 simp only [zz];refine tn 39 48 935471586535 23 ?_
 simp only [zz];refine tn 40 48 2034983214311 22 ?_
 simp only [zz];refine tn 43 48 10831076236519 21 ?_
 simp only [zz];refine tn 44 48 28423262280935 20 ?_
 simp only [zz];refine zr 3 λK hK=>?_
 go_simp
 go_wp2_with (first|(go_at_call 42;refine (P3.out _ 128 (by decide) (by decide)).mono ?_;rintro e w_ ⟨r0,rfl,⟨hl0,hh0⟩,hw_⟩;obtain rfl:=hw_.symm;clear hw_))
 refine zk hK 48 28423262280943 19 (HS.out _ (ah.of (Below.refl _ _).drew)) λhHeld=>?_
 clear hK K;try simp only [zz]
 refine tn 4 48 28423262280959 18 ?_
 simp only [zz];refine zr 8 λK hK=>?_
 go_simp
 go_wp2_with (first|(go_at_call 42;refine (P3.out _ 64 (by decide) (by decide)).mono ?_;rintro e w_ ⟨r1,rfl,⟨hl1,hh1⟩,hw_⟩;obtain rfl:=hw_.symm;clear hw_))
 refine zk hK 48 28423262281215 17 (HS.out _ (ah.of (Below.refl _ _).drew)) λhHeld=>?_
 clear hK K;try simp only [zz]
 refine tn 9 48 28423262281727 16 ?_
 simp only [zz];refine zr 13 λK hK=>?_
 go_simp
 go_wp2_with (first|(go_at_call 42;refine (P3.out _ 256 (by decide) (by decide)).mono ?_;rintro e w_ ⟨r2,rfl,⟨hl2,hh2⟩,hw_⟩;obtain rfl:=hw_.symm;clear hw_))
 refine zk hK 48 28423262289919 15 (HS.out _ (ah.of (Below.refl _ _).drew)) λhHeld=>?_
 clear hK K;try simp only [zz]
 refine tn 14 48 28423262306303 14 ?_
 simp only [zz];refine zr 18 λK hK=>?_
 go_simp
 go_wp2_with (first|(go_at_call 42;refine (P3.out _ 256 (by decide) (by decide)).mono ?_;rintro e w_ ⟨r3,rfl,⟨hl3,hh3⟩,hw_⟩;obtain rfl:=hw_.symm;clear hw_))
 refine zk hK 48 28423262568447 13 (HS.out _ (ah.of (Below.refl _ _).drew)) λhHeld=>?_
 clear hK K;try simp only [zz]
 refine tn 19 48 28423263092735 12 ?_
 simp only [zz];refine zr 23 λK hK=>?_
 go_simp
 go_wp2_with (first|(go_at_call 42;refine (P3.out _ 256 (by decide) (by decide)).mono ?_;rintro e w_ ⟨r4,rfl,⟨hl4,hh4⟩,hw_⟩;obtain rfl:=hw_.symm;clear hw_))
 refine zk hK 48 28423271481343 11 (HS.out _ (ah.of (Below.refl _ _).drew)) λhHeld=>?_
 clear hK K;try simp only [zz]
 refine tn 24 48 28423288258559 10 ?_
 simp only [zz];refine zr 28 λK hK=>?_
 go_simp
 go_wp2_with (first|(go_at_call 42;refine (P3.out _ 32 (by decide) (by decide)).mono ?_;rintro e w_ ⟨r5,rfl,⟨hl5,hh5⟩,hw_⟩;obtain rfl:=hw_.symm;clear hw_))
 refine zk hK 48 28423556694015 9 (HS.out _ (ah.of (Below.refl _ _).drew)) λhHeld=>?_
 clear hK K;try simp only [zz]
 refine tn 29 48 28424093564927 8 ?_
 simp only [zz];refine zr 33 λK hK=>?_
 go_simp
 go_wp2_with (first|(go_at_call 42;refine (P3.out _ 32 (by decide) (by decide)).mono ?_;rintro e w_ ⟨r6,rfl,⟨hl6,hh6⟩,hw_⟩;obtain rfl:=hw_.symm;clear hw_))
 refine zk hK 48 28432683499519 7 (HS.out _ (ah.of (Below.refl _ _).drew)) λhHeld=>?_
 clear hK K;try simp only [zz]
 refine tn 34 48 28449863368703 6 ?_
 simp only [zz];refine zr 37 λK hK=>?_
 go_simp
 go_wp2_with (first|(go_at_call 42;refine (P3.out _ 17 (by decide) (by decide)).mono ?_;rintro e w_ ⟨r7,rfl,⟨hl7,hh7⟩,hw_⟩;obtain rfl:=hw_.symm;clear hw_))
 refine zk hK 48 28587302322175 5 (HS.out _ (ah.of (Below.refl _ _).drew)) λhHeld=>?_
 clear hK K;try simp only [zz]
 refine zr 41 λK hK=>?_
 go_simp
 go_wp2_with (first|(go_at_call 42;refine (P3.out _ 4 (by decide) (by decide)).mono ?_;rintro e w_ ⟨r8,rfl,⟨hl8,hh8⟩,hw_⟩;obtain rfl:=hw_.symm;clear hw_))
 refine zk hK 48 30786325577727 4 (HS.out _ (ah.of (Below.refl _ _).drew)) λhHeld=>?_
 clear hK K;try simp only [zz]
 refine tn 42 48 35184372088831 3 ?_
 simp only [zz];refine zr 45 λK hK=>?_
 go_simp
 go_wp2_with (first|(go_at_call 42;refine (P3.out _ 65 (by decide) (by decide)).mono ?_;rintro e w_ ⟨r9,rfl,⟨hl9,hh9⟩,hw_⟩;obtain rfl:=hw_.symm;clear hw_))
 refine zk hK 48 70368744177663 2 (HS.out _ (ah.of (Below.refl _ _).drew)) λhHeld=>?_
 clear hK K;try simp only [zz]
 refine tn 46 48 140737488355327 1 ?_
 simp only [zz];refine zr 47 λK hK=>?_
 have PO:=ab (R.Bx.later (Below.refl _ _).drew HZ.out)
 have PT:=ab (Bx.Jo PO.out rfl (Cf.mk (IntKind.i64.wrap (1+r0)) (IntKind.i64.wrap (1+r1)) (IntKind.i64.wrap (1+r2)) (IntKind.i64.wrap (1+r3)) (IntKind.i64.wrap (1+r4)) (IntKind.i64.wrap (1+r5)) (IntKind.i64.wrap (1+r6)) (r7) (IntKind.i64.wrap (1+r8)) (r9)))
 have PU:=ab (Bx.Ks PO.out rfl (Cf.mk (IntKind.i64.wrap (1+r0)) (IntKind.i64.wrap (1+r1)) (IntKind.i64.wrap (1+r2)) (IntKind.i64.wrap (1+r3)) (IntKind.i64.wrap (1+r4)) (IntKind.i64.wrap (1+r5)) (IntKind.i64.wrap (1+r6)) (r7) (IntKind.i64.wrap (1+r8)) (r9)))
 have PK:Hid (ah (λk=>k=w.heap.size+1) W.drew (W.drew.setCells (w.heap.size+1) 0 (Cf.mk (IntKind.i64.wrap (1+r0)) (IntKind.i64.wrap (1+r1)) (IntKind.i64.wrap (1+r2)) (IntKind.i64.wrap (1+r3)) (IntKind.i64.wrap (1+r4)) (IntKind.i64.wrap (1+r5)) (IntKind.i64.wrap (1+r6)) (r7) (IntKind.i64.wrap (1+r8)) (r9)).L)):=R.ay (S:=(λk=>k=w.heap.size+1)) rfl _ 0 (ah.refl _ _)
 refine cn 23 (.tmp 2) (.tmp 49) rfl _ _ rfl rfl _ PT.out ?_
 refine zk hK 48 281474976710655 0 (HS.out _ ((ah.of (Below.refl _ _).drew).trans PK.out)) λhHeld=>?_
 clear hK K;try simp only [zz]
 refine zn ?_ _
 go_wp2;refine bodyPost_ret (v:=(Cf.mk (IntKind.i64.wrap (1+r0)) (IntKind.i64.wrap (1+r1)) (IntKind.i64.wrap (1+r2)) (IntKind.i64.wrap (1+r3)) (IntKind.i64.wrap (1+r4)) (IntKind.i64.wrap (1+r5)) (IntKind.i64.wrap (1+r6)) (r7) (IntKind.i64.wrap (1+r8)) (r9)).v) (by simp [results,Tryz.results9,asAddr,PU.out]) rfl ⟨(Cf.mk (IntKind.i64.wrap (1+r0)) (IntKind.i64.wrap (1+r1)) (IntKind.i64.wrap (1+r2)) (IntKind.i64.wrap (1+r3)) (IntKind.i64.wrap (1+r4)) (IntKind.i64.wrap (1+r5)) (IntKind.i64.wrap (1+r6)) (r7) (IntKind.i64.wrap (1+r8)) (r9)),rfl,Cf.oD.2 (by simp only [IntKind.wrap_i64];omega),ah.below (HB.out.drew) PK.out (λk e=>by omega)⟩
end
end Go.Proofs.YtffmodpgddecnaaGreatDoor.V
