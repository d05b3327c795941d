import Derived.Test.YtffmodpgddecnaaGreatDoorZ08
set_option linter.unusedVariables false
set_option linter.unusedSimpArgs false
set_option maxRecDepth 100000
set_option maxHeartbeats 2000000
namespace Go.Proofs.YtffmodpgddecnaaGreatDoor.Q
open Go.RowKit Go.Maps
theorem g_ {w:World}{g b:Nat}{e a:Int}{L:List Int}(h:Qu w g b e a L)(x:Int)(hx:(Lit.int .i64 x).wf=true) :
  Calls Tryz.prog 278 #[.pointer (some ⟨g,0,none⟩),.int .i64 x] w λr w'=>r=.returned (.int .i64 (may e a L x))/\Below w.heap.size w w':=by
 have hof:=ab (λ(U:World) (hU:Below w.heap.size w U)=>AL (h.later hU) x hx)
 have hal:=ab (λ(U:World) (hU:Below w.heap.size w U)=>gW (h.later hU))
 have hm:Hid (may e a L x=if e<=(L.count x:Int) then 9 else if a<=(L.length:Int) then 10 else 0):=rfl
 have hC0:Hid (∀U:World,Below w.heap.size w U->(U.cell? ⟨g,0,none⟩=some (.int .i64 e))/\Below w.heap.size w U):=λU hU=>⟨cell_later hU h.c0,hU⟩
 have hC1:Hid (∀U:World,Below w.heap.size w U->(U.cell? ⟨g,1,none⟩=some (.int .i64 a))/\Below w.heap.size w U):=λU hU=>⟨cell_later hU h.c1,hU⟩
 clear h;generalize (L.count x:Int)=c at *
 generalize (L.length:Int)=l at *
 have hr1:Hid (e<=c->may e a L x=9):=λh1=>by rw [hm.out,if_pos h1]
 have hr2:Hid (c<e->a<=l->may e a L x=10):=λh1 h2=>by rw [hm.out,if_neg (by omega),if_pos h2]
 have hr3:Hid (c<e->l<a->may e a L x=0):=λh1 h2=>by rw [hm.out,if_neg (by omega),if_neg (by omega)]
 clear hm;generalize may e a L x=mm at *
 go_enter Tryz.func278,Tryz.ntmps278
 go_upto_region 1 with fail
 go_region_held3 (λU=>(U.cell? ⟨g,0,none⟩=some (.int .i64 e))/\Below w.heap.size w U) (first|exact hC0.out _ PB.out|exact hC0.out _ (Below.refl _ _).drew) (first
  | (go_at_call 336;refine (hof.out _ (Below.refl _ _).drew).mono ?_;rintro e w2 ⟨rfl,hw2⟩;have PB:Hid (Below w.heap.size w w2):=(by unfold Hid;rw [hw2];exact (Below.refl _ _).drew);clear hw2))
 by_cases h1:e<=c
 ·have hd:decide (c>=e)=true:=decide_eq_true h1
  go_wp2;go_ret;exact⟨by rw [hr1.out (by omega)];rfl,PB.out⟩
 ·have hd:decide (c>=e)=false:=decide_eq_false h1
  go_upto_region 3 with fail
  go_region_held3 (λU=>(U.cell? ⟨g,1,none⟩=some (.int .i64 a))/\Below w.heap.size w U) (first|exact hC1.out _ PE.out|exact hC1.out _ PB.out.drew) (first
   | (go_at_call 337;refine (hal.out _ PB.out.drew).mono ?_;rintro e w3 ⟨rfl,hb3⟩;have PE:=ab (aa PB.out.drew hb3);clear hb3))
  by_cases h2:a<=l
  ·have hd:decide (l>=a)=true:=decide_eq_true h2
   go_wp2;go_ret;exact⟨by rw [hr2.out (by omega) (by omega)];rfl,PE.out⟩
  ·have hd:decide (l>=a)=false:=decide_eq_false h2
   go_wp2;go_ret;exact⟨by rw [hr3.out (by omega) (by omega)];rfl,PE.out⟩
theorem jh {w:World}{g b:Nat}{e a:Int}{L:List Int}(h:Qu w g b e a L)(x:Int)(hx:(Lit.int .i64 x).wf=true) :
  Calls Tryz.prog 200 #[.pointer (some ⟨g,0,none⟩),.int .i64 x] w λr w'=>r=.returned (.int .i64 (may e a L x))/\Qu w' g b e a (oF e a L x)/\ah (λk=>k=b) w w':=by
 have hma:=ab (g_ h x hx)
 by_cases hm:may e a L x=0
 ·have hA:oF e a L x=L++[x]:=by unfold oF;rw [if_pos hm]
  have hS:=ab (hA ▸ h.sz.add x)
  obtain⟨h1,h2⟩:=mq hm
  have h3:=h.sz.e2
  rw [hm] at hma ⊢
  rw [hA];have hl1:=h.sz.len
  have hl2:=h.sz.a2
  have hQ:=ab (λ(U:World) (hU:Below w.heap.size w U)=>h.later hU)
  clear h hA hm;go_enter Tryz.func200,Tryz.ntmps200
  go_upto_region 2 with (first|(go_at_call 278;refine hma.out.mono ?_;rintro e w1 ⟨rfl,hb1⟩;have PC:=ab hb1;clear hb1))
  have PZ:=ab (hQ.out _ PC.out)
  obtain⟨c0,c1,c2,⟨D,hown,hcn⟩,_⟩:=PZ.out
  have HC:=ab hcn
  have hlm:L.length<maxLen:=by unfold maxLen;omega
  clear hcn;go_wp2_with (first
   | (at_lookup;refine wpList_lookup_own_int _ rfl _ _ 235 rfl 3 3 .i64 law Tryz.underlying235 Tryz.underlying3 (EY _) b _ _ rfl hown _ _ rfl (keyOf_int_mk Tryz.underlying3 hx) ?_;intro c hat hwc;have HA:=ab hat;clear hat)
   | (at_mapUpdate;refine wpList_mapUpdate_own _ rfl _ _ _ 235 rfl 3 3 law Tryz.underlying235 _ b _ _ rfl hown hlm _ _ _ rfl rfl (keyOf_int_mk Tryz.underlying3 hx) _ [] (plainElem_int Tryz.underlying3 (wrap64_wf _)) ?_;intro w2 hown2 hg2;have PS:=ab hown2;have TF:=ab hg2;clear hown2 hg2))
  go_ret;have hc:=HA.out
  rw [HC.out.at_ x] at hc;have hc:=uc hc
  have hw:wrap64 (c+1)=c+1:=by unfold wrap64;omega
  have ho:=PS.out
  rw [hw] at ho;have hcn2:=HC.out.put (M:=L++[x]) (x:=x) (c:=c+1) hx (λy hy=>by simp [List.count_append,Ne.symm hy]) (by simp [List.count_append];omega) (by omega)
  obtain⟨r1,r2⟩:=PZ.out.turn TF.out ho hcn2 hS.out
  exact⟨rfl,r1,(ah.of PC.out).trans r2⟩
 ·have hA:oF e a L x=L:=by unfold oF;rw [if_neg hm]
  rw [hA];have hQ:=ab (λ(U:World) (hU:Below w.heap.size w U)=>h.later hU)
  clear h hA;generalize may e a L x=mm at *
  have hd:(mm != 0)=true:=by simp [hm]
  go_enter Tryz.func200,Tryz.ntmps200
  go_wp2_with (first|(go_at_call 278;refine hma.out.mono ?_;rintro e w1 ⟨rfl,hb1⟩;have PC:=ab hb1;clear hb1))
  go_ret;exact⟨rfl,hQ.out _ PC.out,ah.of PC.out⟩
theorem CR {w:World}{g b:Nat}{e a:Int}{L:List Int}(h:Qu w g b e a L)(x n:Int)(hx:(Lit.int .i64 x).wf=true) :
  Calls Tryz.prog 322 #[.pointer (some ⟨g,0,none⟩),.int .i64 x,.int .i64 n] w λr w'=>r=.returned (.int .i64 (rL L x n))/\Qu w' g b e a (jc L x n)/\ah (λk=>k=b) w w':=by
 have hof:=ab (AL h x hx)
 have HQ:=ab h
 have hS:=ab (h.sz.sub x n)
 have hl1:=h.sz.len
 have hl2:=h.sz.a2
 have hcl:=h.sz.mO x
 have he2:=h.sz.e2
 have hlm:L.length<maxLen:=by unfold maxLen;omega
 obtain⟨c0,c1,c2,⟨D,hown,hcn⟩,_⟩:=h
 have HC:=ab hcn
 clear hcn;obtain⟨c,hc⟩:∃c:Int,c=(L.count x:Int):=⟨_,rfl⟩
 have Vv:=ab hc
 have hc0:0<=c:=by omega
 have hc9:c<=256:=by omega
 rw [<-hc] at hof;by_cases h1:n<0\/c<n
 ·have hR:rL L x n=20/\jc L x n=L:=by unfold rL jc;rw [<-hc,if_pos h1,if_pos h1];exact⟨rfl,rfl⟩
  rw [hR.1,hR.2];clear hc hcl hS hR;go_enter Tryz.func322,Tryz.ntmps322
  go_upto_region 2 with (first|(go_at_call 336;refine hof.out.mono ?_;rintro e w1 ⟨rfl,hw1⟩;obtain rfl:=hw1.symm;clear hw1))
  by_cases h2:n<0
  ·have hd:decide (n<0)=true:=decide_eq_true h2
   go_wp2;go_ret;exact⟨rfl,HQ.out,ah.refl _ _⟩
  ·have hd:decide (n<0)=false:=decide_eq_false h2
   have hd2:decide (n>c)=true:=decide_eq_true (by omega)
   have h3:c<n:=by omega
   go_wp2;go_ret;exact⟨rfl,HQ.out,ah.refl _ _⟩
 ·have hR:rL L x n=0/\jc L x n=fS x n.toNat L:=by unfold rL jc;rw [<-hc,if_neg h1,if_neg h1];exact⟨rfl,rfl⟩
  rw [hR.2] at hS;rw [hR.1,hR.2];have HO:=ab (dZ x n.toNat L)
  have HN:=ab (ee x n.toNat L)
  clear hc hcl hR;have hd:decide (n<0)=false:=decide_eq_false (by omega)
  have hd2:decide (n>c)=false:=decide_eq_false (by omega)
  have hn0:0<=n:=by omega
  have hnc:n<=c:=by omega
  clear h1;by_cases h2:n=c
  ·subst h2
   go_enter Tryz.func322,Tryz.ntmps322
   go_wp2_with (first
    | (go_at_call 336;refine hof.out.mono ?_;rintro e w1 ⟨rfl,hw1⟩;obtain rfl:=hw1.symm;clear hw1)
    | (at_delete;refine wpList_delete_own _ rfl _ _ 235 3 rfl 3 law Tryz.underlying235 _ b _ _ rfl hown _ _ rfl (keyOf_int_mk Tryz.underlying3 hx) ?_;intro w2 hown2 ht2;have PS:=ab hown2;have PQ:=ab ht2;clear hown2 ht2))
   go_ret;have hcn2:=HC.out.del (M:=fS x n.toNat L) (x:=x) HO.out (by rw [HN.out];have:=Vv.out;omega)
   obtain⟨r1,r2⟩:=HQ.out.turn PQ.out.grown PS.out hcn2 hS.out
   exact⟨rfl,r1,r2⟩
  ·have hd3:(n==c)=false:=by simp [h2]
   go_enter Tryz.func322,Tryz.ntmps322
   go_wp2_with (first
    | (go_at_call 336;refine hof.out.mono ?_;rintro e w1 ⟨rfl,hw1⟩;obtain rfl:=hw1.symm;clear hw1)
    | (at_mapUpdate;refine wpList_mapUpdate_own _ rfl _ _ _ 235 rfl 3 3 law Tryz.underlying235 _ b _ _ rfl hown hlm _ _ _ rfl rfl (keyOf_int_mk Tryz.underlying3 hx) _ [] (plainElem_int Tryz.underlying3 (zO (by omega) (by omega))) ?_;intro w2 hown2 hg2;have PS:=ab hown2;have TF:=ab hg2;clear hown2 hg2))
   go_ret;have hcn2:=HC.out.put (M:=fS x n.toNat L) (x:=x) (c:=c - n) hx HO.out (by rw [HN.out];have:=Vv.out;omega) (by omega)
   obtain⟨r1,r2⟩:=HQ.out.turn TF.out PS.out hcn2 hS.out
   exact⟨rfl,r1,r2⟩
def dM (n m:Int):Bool:=decide (1<=n/\n<=m)
theorem aS (n m:Int)(w:World):Calls Tryz.prog 171 #[.int .i64 n,.int .i64 m] w λr w'=>r=.returned (.bool (dM n m))/\w'=w:=by
 unfold dM;by_cases h1:1<=n
 ·have hd:decide (n>=1)=true:=decide_eq_true h1
  go_enter Tryz.func171,Tryz.ntmps171
  go_wp2;go_ret;exact⟨au (by simp [h1]),rfl⟩
 ·have hd:decide (n>=1)=false:=decide_eq_false h1
  go_enter Tryz.func171,Tryz.ntmps171
  go_wp2;go_ret;exact⟨au (by simp),rfl⟩
def okB (e a:Int):Prop:=(1<=e/\e<=256)/\1<=a/\a<=256
theorem bU (e a:Int)(w:World)(h:okB e a) :
  Calls Tryz.prog 94 #[.int .i64 e,.int .i64 a] w λr w'=>∃g b,r=.returned (.tuple #[.pointer (some ⟨g,0,none⟩),.int .i64 0])/\Qu w' g b e a []/\w.heap.size<=g/\w.heap.size<=b/\Below w.heap.size w w':=by
 have h1:dM e 256=true:=decide_eq_true h.1
 have h2:dM a 256=true:=decide_eq_true h.2
 have HS:Hid (Sz e a []):=⟨h.1.1,h.1.2,h.2.1,h.2.2,by have:=h.2.1;simp;omega,λx=>by have:=h.1.1;simp;omega⟩
 clear h;have hmm:=@run_makeMap Tryz.prog
 go_enter Tryz.func94,Tryz.ntmps94
 go_wp2_with (first|(go_at_call 171;refine (aS _ _ _).mono ?_;rintro e w1 ⟨rfl,hw1⟩;obtain rfl:=hw1.symm;clear hw1))
 have hB:=aC w (.map #[] 0) (.cells #[.int .i64 e,.int .i64 a,.map (some w.heap.size)] 237)
 exact bodyPost_ret (v:=.tuple #[.pointer (some ⟨w.heap.size+1,0,none⟩),.int .i64 0]) (by simp [results,Tryz.results94,go_sem]) rfl ⟨w.heap.size+1,w.heap.size,rfl,⟨by simp [go_sem],by simp [go_sem],by simp [go_sem],⟨.map [],(World.ownsMap_made w _ _ _).alloc _,Cn.start⟩,HS.out⟩,by omega,Nat.le_refl _,hB⟩
end Go.Proofs.YtffmodpgddecnaaGreatDoor.Q
namespace Go.Proofs.YtffmodpgddecnaaGreatDoor.D
open Go.Proofs.YtffmodpgddecnaaGreatDoor.H (aq)
open Go.RowKit
theorem mH:aq=2 ^ 64:=rfl
structure im (a b N:Nat):Prop where
 ha:a<aq
 hb:b<aq
 hn:N=a*aq+b
theorem im.lt {a b N:Nat}(h:im a b N):N<aq*aq:=by
 obtain⟨ha,hb,rfl⟩:=h
 calc a*aq+b<a*aq+aq:=by omega
  _=(a+1)*aq:=by rw [Nat.add_mul,Nat.one_mul]
  _<=aq*aq:=Nat.mul_le_mul_right _ ha
theorem im.of {N:Nat}(h:N<aq*aq):im (N / aq) (N%aq) N :=
 ⟨Nat.div_lt_of_lt_mul h,Nat.mod_lt _ (by decide),by rw [Nat.mul_comm];exact (Nat.div_add_mod N aq).symm⟩
theorem im.inj {a b c d N:Nat}(h:im a b N)(k:im c d N):a=c/\b=d:=by
 obtain⟨ha,hb,hn⟩:=h
 obtain⟨hc,hd,hm⟩:=k
 unfold aq at *
 omega
theorem im.Kr {a b N M:Nat}(h:im a b N)(k:im a b M):N=M:=by rw [h.hn,k.hn]
theorem im.zero:im 0 0 0:=⟨by decide,by decide,rfl⟩
theorem im.eq_iff {a b c d N M:Nat}(h:im a b N)(k:im c d M):N=M↔a=c/\b=d:=by
 constructor
 ·rintro rfl;exact h.inj k
 ·rintro ⟨rfl,rfl⟩;exact h.Kr k
def aY (N:Nat)(width:Int):Nat:=N%2 ^ width.toNat
theorem fu (h n:Nat)(hh:h<aq)(hn:n<=63) :
  bits .and .u64 (h:Int) (IntKind.u64.wrap (IntKind.u64.wrap (2 ^ n) - 1))=((h%2 ^ n:Nat):Int):=by
 have h2:(2:Nat) ^ n<=2 ^ 63:=Nat.pow_le_pow_right (by omega) hn
 have hp:0<(2:Nat) ^ n:=Nat.two_pow_pos n
 have e1:((2:Int) ^ n)=((2 ^ n:Nat):Int):=by simp
 have e2:IntKind.u64.wrap (IntKind.u64.wrap (2 ^ n) - 1)=((2 ^ n - 1:Nat):Int):=by
  rw [e1,IntKind.wrap_u64,IntKind.wrap_u64];omega
 rw [e2,u64_and_nat _ _ hh (by omega),Nat.and_two_pow_sub_one_eq_mod]
theorem zA {N:Nat}{width:Int}(h:width<1):aY N width=0:=by
 unfold aY;have:width.toNat=0:=by omega
 rw [this];simp [Nat.mod_one]
theorem DA:(2:Nat) ^ 128=aq*aq:=by decide
theorem uB {a b N:Nat}{width:Int}(h:im a b N)(hw:128<=width):im a b (aY N width):=by
 have hl:=h.lt
 have:aY N width=N:=by
  unfold aY;apply Nat.mod_eq_of_lt
  calc N<aq*aq:=hl
   _=2 ^ 128:=DA.symm
   _<=_:=Nat.pow_le_pow_right (by omega) (by omega)
 rw [this];exact h
theorem Ay {a b N:Nat}{width:Int}(h:im a b N)(h1:64<=width)(_h2:width<128):im (a%2 ^ (width - 64).toNat) b (aY N width):=by
 obtain⟨k,hk⟩:∃k:Nat,width=64+k:=⟨(width - 64).toNat,by omega⟩
 have e1:(width - 64).toNat=k:=by omega
 have e2:width.toNat=k+64:=by omega
 rw [e1];refine⟨Nat.lt_of_le_of_lt (Nat.mod_le _ _) h.ha,h.hb,?_⟩
 unfold aY;rw [e2,h.hn,Nat.pow_add,<-mH,Nat.mul_comm (2 ^ k) aq,Nat.mod_mul];have hb:=h.hb
 have e3:(a*aq+b)%aq=b:=by rw [Nat.add_comm,Nat.add_mul_mod_self_right,Nat.mod_eq_of_lt hb]
 have e4:(a*aq+b) / aq=a:=by
  rw [Nat.add_comm,Nat.add_mul_div_right _ _ (by decide),Nat.div_eq_of_lt hb,Nat.zero_add]
 rw [e3,e4,Nat.mul_comm,Nat.add_comm]
theorem zQ {a b N:Nat}{width:Int}(h:im a b N)(h1:1<=width)(h2:width<64):im 0 (b%2 ^ width.toNat) (aY N width):=by
 have hk:width.toNat<=64:=by omega
 refine⟨by decide,Nat.lt_of_le_of_lt (Nat.mod_le _ _) h.hb,?_⟩
 unfold aY;rw [h.hn,Nat.zero_mul,Nat.zero_add];have:aq=2 ^ width.toNat*2 ^ (64 - width.toNat):=by rw [<-Nat.pow_add,mH];congr 1;omega
 rw [this,<-Nat.mul_assoc,Nat.mul_comm a,Nat.mul_assoc,Nat.add_comm,Nat.add_mul_mod_self_left]
structure il (a b:Int)(N:Nat):Prop where
 ex:∃x y:Nat,a=x/\b=y/\im x y N
theorem il.of {a b N:Nat}(h:im a b N):il a b N:=⟨a,b,rfl,rfl,h⟩
theorem il.zero:il 0 0 0:=⟨0,0,rfl,rfl,im.zero⟩
theorem il.lt {a b:Int}{N:Nat}(h:il a b N):N<aq*aq:=by
 obtain⟨x,y,rfl,rfl,h⟩:=h
 exact h.lt
def vu (a b c d:Int):Bool:=decide (a=c)&&decide (b=d)
theorem su {a b c d:Int}{N M:Nat}(h:il a b N)(k:il c d M):vu a b c d=decide (N=M):=by
 obtain⟨x,y,rfl,rfl,h⟩:=h
 obtain⟨z,u,rfl,rfl,k⟩:=k
 unfold vu;rw [<-Bool.decide_and,decide_eq_decide];have:=h.eq_iff k
 omega
theorem il.inj {a b c d:Int}{N:Nat}(h:il a b N)(k:il c d N):a=c/\b=d:=by
 have:=su h k
 simp only [vu,decide_true,Bool.and_eq_true,decide_eq_true_eq] at this;exact this
def cD (N:Nat):Int:=((N / aq:Nat):Int)
def cB (N:Nat):Int:=((N%aq:Nat):Int)
theorem DN {N:Nat}(h:N<aq*aq):il (cD N) (cB N) N:=il.of (im.of h)
theorem il.hi {a b:Int}{N:Nat}(h:il a b N):a=cD N:=(h.inj (DN h.lt)).1
theorem il.lo {a b:Int}{N:Nat}(h:il a b N):b=cB N:=(h.inj (DN h.lt)).2
theorem jl:cD 0=0:=rfl
theorem jt:cB 0=0:=rfl
theorem bu {w:World}{base:Nat}{e:TypeId}{size:Nat}{v:Value}{n:Nat}{xs:List Value}(h:w.ownsRow base e size v n xs):∀k,v.ownBlock=some k->base<=k:=by
 intro k hk;rcases h.2 with ⟨rfl,_⟩|⟨g,cap,cur,rfl,hg,_⟩
 ·cases hk
 ·simp [Value.ownBlock] at hk;omega
theorem aW {w:World}{b o o':Nat}{v u:Value}(h:w.cell? ⟨b,o,none⟩=some v)(hne:o'≠o):(w.setCell ⟨b,o',none⟩ u).cell? ⟨b,o,none⟩=some v:=by
 rw [World.cell?_setCell_other _ _ _ _ (λe=>hne (by simpa using congrArg Addr.off e))];exact h
def Wd (w:World)(b o N:Nat):Prop:=w.cell? ⟨b,o,none⟩=some (.int .u64 (cD N))/\w.cell? ⟨b,o+1,none⟩=some (.int .u64 (cB N))
theorem Wd.but {S:Nat->Prop}{w w':World}{b o N:Nat}(hb:ah S w w')(h:Wd w b o N)(hn:¬S b):Wd w' b o N:=⟨ag hb h.1 hn,ag hb h.2 hn⟩
theorem Wd.later {w w':World}{b o N:Nat}(hb:Below w.heap.size w w')(h:Wd w b o N):Wd w' b o N:=⟨cell_later hb h.1,cell_later hb h.2⟩
def xN (N:Nat):List Value:=[.int .u64 (cD N),.int .u64 (cB N)]
def oT (f:Nat->Nat)(k:Nat):List Value:=(List.range k).flatMap λi=>xN (f i)
theorem qP (f:Nat->Nat)(k:Nat):oT f (k+1)=oT f k++xN (f k):=by simp [oT,List.range_succ]
theorem ca (f:Nat->Nat)(k:Nat):(oT f k).length=k*2:=by
 induction k with
 | zero=>rfl
 | succ k ih=>rw [qP,List.length_append,ih,Nat.succ_mul];rfl
theorem fy (f:Nat->Nat)(k i c:Nat)(hi:i<k)(hc:c<2):(oT f k)[i*2+c]?=(xN (f i))[c]?:=by
 induction k with
 | zero=>omega
 | succ k ih =>
  rw [qP];by_cases h:i<k
  ·rw [List.getElem?_append_left (by rw [ca];omega)]
   exact ih h
  ·obtain rfl:i=k:=by omega
   rw [List.getElem?_append_right (by rw [ca];omega),ca]
   congr 1
   omega
structure Ws (w:World)(a:Option Addr)(n cap:Nat)(f:Nat->Nat):Prop where
 cap_:n<=cap
 none_:a=none->n=0/\cap=0
 cells:∀x,a=some x->∀j u,(oT f n)[j]?=some u->w.cell? (x.add j)=some u
 small:∀i,f i<aq*aq
theorem Ws.later {W w1:World}{a:Option Addr}{n cap:Nat}{f:Nat->Nat}(hb:Below W.heap.size W w1)(h:Ws W a n cap f):Ws w1 a n cap f :=
 ⟨h.cap_,h.none_,λx hx j u hu=>cell_later hb (h.cells x hx j u hu),h.small⟩
theorem Ws.plain {w:World}{a:Option Addr}{n cap:Nat}{f:Nat->Nat}(h:Ws w a n cap f)(hl:0<n):∃b o,a=some ⟨b,o,none⟩/\∀i,i<n->Wd w b (o+i*2) (f i):=by
 cases a with
 | none=>have:=h.none_ rfl;omega
 | some x =>
  obtain⟨b,o,spot⟩:=x
  have h0:=h.cells _ rfl (0*2+0) _ (fy f n 0 0 hl (by omega))
  have hs:spot=none:=by simpa [Addr.add] using World.cell?_spot h0
  subst hs;refine⟨b,o,rfl,λi hi=>⟨?_,?_⟩⟩
  ·have:=h.cells _ rfl (i*2+0) _ (fy f n i 0 hi (by omega))
   rw [bB] at this;exact this
  ·have:=h.cells _ rfl (i*2+1) _ (fy f n i 1 hi (by omega))
   rw [bB] at this;exact this
theorem Ws.at {w:World}{b o n cap:Nat}{f:Nat->Nat}(hc:n<=cap)(hs:∀i,f i<aq*aq)(h:∀i,i<n->Wd w b (o+i*2) (f i)):Ws w (some ⟨b,o,none⟩) n cap f:=by
 refine⟨hc,λh=>(by cases h),λx hx j u hu=>?_,hs⟩
 cases hx
 rw [bB];have hj:j<n*2:=by have:=(List.getElem?_eq_some_iff.1 hu).1;rwa [ca] at this
 have hq:=fy f n (j / 2) (j%2) (by omega) (by omega)
 have hjj:j / 2*2+j%2=j:=by omega
 rw [hjj] at hq;rw [hq] at hu;have hw:=h (j / 2) (by omega)
 rcases Nat.mod_two_eq_zero_or_one j with e|e
 ·rw [e] at hu
  simp only [xN,List.getElem?_cons_zero,Option.some.injEq] at hu;subst hu;have:=hw.1
  have e2:o+j / 2*2=o+j:=by omega
  rwa [e2] at this
 ·rw [e] at hu
  simp only [xN,List.getElem?_cons_succ,List.getElem?_cons_zero,Option.some.injEq] at hu;subst hu;have:=hw.2
  have e2:o+j / 2*2+1=o+j:=by omega
  rwa [e2] at this
theorem Ws.take {w:World}{a:Option Addr}{n cap:Nat}{f:Nat->Nat}(h:Ws w a n cap f){m:Nat}(hm:m<=n)(h0:0<m):Ws w a m cap f:=by
 obtain⟨b,o,rfl,hw⟩:=h.plain (by omega)
 exact Ws.at (by have:=h.cap_;omega) h.small (λi hi=>hw i (by omega))
structure Ar (w:World)(b n:Nat)(f:Nat->Nat):Prop where
 lt:b<w.heap.size
 fr:∀j,w.frozen? ⟨b,j,none⟩=false
 at_:∀i,i<n->Wd w b (i*2) (f i)
theorem Ar.but {S:Nat->Prop}{w w':World}{b n:Nat}{f:Nat->Nat}(hb:ah S w w')(h:Ar w b n f)(hn:¬S b):Ar w' b n f :=
 ⟨Nat.lt_of_lt_of_le h.lt hb.size,λj=>by rw [World.frozen?_of_block (w:=w) (hb.block b h.lt hn)];exact h.fr j,λi hi=>(h.at_ i hi).but hb hn⟩
theorem Ar.later {w w':World}{b n:Nat}{f:Nat->Nat}(hb:Below w.heap.size w w')(h:Ar w b n f):Ar w' b n f:=h.but (S:=λ_=>False) (ah.of hb) (λh=>h)
theorem Ar.alloc {w:World}{b n:Nat}{f:Nat->Nat}(h:Ar w b n f)(o:Obj):Ar (w.alloc o) b n f:=h.later (ae _ _)
theorem Ar.congr {w:World}{b n:Nat}{f g:Nat->Nat}(h:Ar w b n f)(e:∀i,i<n->f i=g i):Ar w b n g:=⟨h.lt,h.fr,λi hi=>by rw [<-e i hi];exact h.at_ i hi⟩
theorem Ar.set {w:World}{b n:Nat}{f g:Nat->Nat}{i N:Nat}(h:Ar w b n f)(hi:i<n)(hg:∀j,j<n->g j=if j=i then N else f j) :
  Ar ((w.setCell ⟨b,i*2,none⟩ (.int .u64 (cD N))).setCell ⟨b,i*2+1,none⟩ (.int .u64 (cB N))) b n g:=by
 refine⟨by simpa using h.lt,λj=>by simpa using h.fr j,λj hj=>?_⟩
 rw [hg j hj];obtain⟨h1,h2⟩:=h.at_ j hj
 by_cases e:j=i
 ·subst e
  rw [if_pos rfl];exact⟨aW (World.cell?_setCell_same _ _ _ h1) (by omega),World.cell?_setCell_same _ _ _ (aW h2 (by omega))⟩
 ·rw [if_neg e]
  exact⟨aW (aW h1 (by omega)) (by omega),aW (aW h2 (by omega)) (by omega)⟩
theorem Hk:(Tryz.prog.info? 30).map (λi=>(i.zero,i.size,i.bytes))=some (some (.agg #[.int .u64 0,.int .u64 0]),2,16):=by kernel_rfl
theorem II {w:World}{base b n cap:Nat}{f:Nat->Nat}(h:w.ownsRow base 30 2 (.slice (some ⟨b,0,none⟩) n cap) n (oT f n)):Ar w b n f/\base<=b/\n<=cap:=by
 have hb:=bu h b rfl
 have hcell:∀i c u,i<n->c<2->(xN (f i))[c]?=some u->w.cell? ⟨b,i*2+c,none⟩=some u:=by
  intro i c u hi hc hu;have:=h.cells (g:=b) rfl (i*2+c) u (by rw [fy f n i c hi hc];exact hu)
  rw [aQ] at this;exact this
 rcases h.2 with ⟨h0,_⟩|⟨g,c,cur,hv,_,hh,hc,_⟩
 ·simp at h0
 ·simp only [Value.slice.injEq,Option.some.injEq,Addr.mk.injEq] at hv
  obtain⟨⟨rfl,_⟩,_,rfl⟩:=hv
  refine⟨⟨(Array.getElem?_eq_some_iff.1 hh).1,λj=>by simp [World.frozen?,hh],λi hi=>⟨hcell i 0 _ hi (by omega) rfl,hcell i 1 _ hi (by omega) rfl⟩⟩,hb,hc⟩
theorem ey (w:World)(t:TypeId)(ht:Tryz.prog.underlying t=some (.slice 30))(n:Nat)(hn:n<=4096) :
  ∃w',(Instr.makeSlice t (.int .i64 (n:Int)) (.int .i64 (n:Int))).run Tryz.prog w=.ok (.slice (some ⟨w.heap.size,0,none⟩) n n) w'/\Ar w' w.heap.size n (λ_=>0)/\Below w.heap.size w w':=by
 obtain⟨i,hi,hz0,hz1,hz2⟩:=info_parts Hk
 obtain⟨w',hr,ho,hg⟩:=run_make_full (P:=Tryz.prog) w w.heap.size t 30 i _ 2 ht hi hz0 hz1 .i64 .i64 n (by rw [hz2];omega) (by unfold maxLen;omega) (Nat.le_refl _)
 refine⟨w',hr,?_,(Below.refl _ _).grown hg (Nat.le_refl _) (λk hk=>by cases hk)⟩
 have e:(madeCells (Value.agg #[.int .u64 0,.int .u64 0]).cells (n*2)).toList=oT (λ_=>0) n:=by
  apply List.ext_getElem?
  intro j;by_cases hj:j<n*2
  ·have hq:=fy (λ_=>0) n (j / 2) (j%2) (by omega) (by omega)
   have hjj:j / 2*2+j%2=j:=by omega
   rw [hjj] at hq;rw [hq];rcases Nat.mod_two_eq_zero_or_one j with e|e
   ·simp [madeCells,hj,Value.cells,e,xN,jl,jt]
   ·simp [madeCells,hj,Value.cells,e,xN,jl,jt]
  ·rw [List.getElem?_eq_none (by simp [madeCells];omega),List.getElem?_eq_none (by rw [ca];omega)]
 rw [e] at ho;exact (II ho).1
theorem ux (h:Nat)(n:Int)(w:World)(hh:h<aq)(h0:0<=n)(h1:n<=63) :
  Calls Tryz.prog 241 #[.int .u64 (h:Int),.int .i64 n] w λe w'=>e=.returned (.int .u64 ((h%2 ^ n.toNat:Nat):Int))/\w'=w:=by
 have hl:=fu h n.toNat hh (by omega)
 have HL:Hid (bits .and .u64 (h:Int) (IntKind.u64.wrap (IntKind.u64.wrap (2 ^ n.toNat) - 1))=((h%2 ^ n.toNat:Nat):Int)):=hl
 clear hl;go_enter Tryz.func241,Tryz.ntmps241
 go_wp2;go_ret;exact⟨aT HL.out,rfl⟩
theorem kH (a b:Int)(N:Nat)(width:Int)(w:World)(h:il a b N) :
  Calls Tryz.prog 167 #[.agg #[.int .u64 a,.int .u64 b],.int .i64 width] w λe w'=>∃c d:Int,e=.returned (.agg #[.int .u64 c,.int .u64 d])/\il c d (aY N width)/\Below w.heap.size w w':=by
 obtain⟨a,b,rfl,rfl,h⟩:=h
 by_cases h1:width<1
 ·have hz:aY N width=0:=zA h1
  rw [hz];clear hz
  go_enter Tryz.func167,Tryz.ntmps167
  go_wp2;exact bodyPost_ret (v:=.agg #[.int .u64 0,.int .u64 0]) (by simp [results,Tryz.results167,go_sem]) rfl ⟨0,0,rfl,il.zero,aC _ _ _⟩
 ·by_cases h2:128<=width
  ·have hz:=il.of (uB h h2)
   clear h;go_enter Tryz.func167,Tryz.ntmps167
   go_wp2;exact bodyPost_ret (v:=.agg #[.int .u64 a,.int .u64 b]) (by simp [results,Tryz.results167,go_sem]) rfl ⟨a,b,rfl,hz,aC _ _ _⟩
  ·by_cases h3:64<=width
   ·have hz:=il.of (Ay h h3 (by omega))
    have hh:=h.ha
    have hw:IntKind.i64.wrap (width - 64)=width - 64:=by rw [IntKind.wrap_i64];omega
    clear h;go_enter Tryz.func167,Tryz.ntmps167
    go_wp2;go_region_with (first|(go_at_call 241;refine (ux _ _ _ hh (by omega) (by omega)).mono ?_;rintro e w' ⟨rfl,rfl⟩))
    all_goals go_wp2
    all_goals exact bodyPost_ret (v:=.agg #[.int .u64 ((a%2 ^ (width - 64).toNat:Nat):Int),.int .u64 b]) (by simp [results,Tryz.results167,go_sem]) rfl ⟨_,b,rfl,hz,(aC _ _ _).drew⟩
   ·have hz:=il.of (zQ (width:=width) h (by omega) (by omega))
    have hh:=h.hb
    have h4:width<=63:=by omega
    clear h;go_enter Tryz.func167,Tryz.ntmps167
    go_wp2_with (first|(go_at_call 241;refine (ux b width _ hh (by omega) h4).mono ?_;rintro e w' ⟨rfl,rfl⟩))
    exact bodyPost_ret (v:=.agg #[.int .u64 0,.int .u64 ((b%2 ^ width.toNat:Nat):Int)]) (by simp [results,Tryz.results167,go_sem]) rfl ⟨0,_,rfl,hz,(aC _ _ _)⟩
theorem uI {b o b' o':Nat}(h:b≠b'\/o≠o'):(⟨b,o,none⟩:Addr)≠⟨b',o',none⟩:=by
 intro e;simp only [Addr.mk.injEq,and_true] at e;omega
theorem JU (N:Nat)(width:Int)(w:World)(h:N<aq*aq) :
  Calls Tryz.prog 167 #[.agg #[.int .u64 (cD N),.int .u64 (cB N)],.int .i64 width] w λe w'=>e=.returned (.agg #[.int .u64 (cD (aY N width)),.int .u64 (cB (aY N width))])/\Below w.heap.size w w':=by
 refine (kH _ _ N width w (DN h)).mono ?_
 rintro e w' ⟨c,d,rfl,hv,hb⟩
 rw [hv.hi,hv.lo];exact⟨rfl,hb⟩
def kW (f:Nat->Nat)(width:Int)(i j:Nat):Nat:=if j<i then aY (f j) width else 0
theorem vH (f:Nat->Nat)(width:Int)(j:Nat):kW f width 0 j=0:=by unfold kW;rw [if_neg (by omega)]
theorem wQ (f:Nat->Nat)(width:Int)(i j:Nat):kW f width (i+1) j=if j=i then aY (f i) width else kW f width i j:=by
 unfold kW;by_cases h:j=i
 ·subst h;rw [if_pos (by omega),if_pos rfl]
 ·rw [if_neg h]
  by_cases h1:j<i
  ·rw [if_pos (by omega),if_pos h1]
  ·rw [if_neg (by omega),if_neg h1]
theorem An (f:Nat->Nat)(width:Int)(n j:Nat)(h:j<n):kW f width n j=aY (f j) width:=by unfold kW;rw [if_pos h]
def CV (w:World)(n:Nat)(f:Nat->Nat)(width:Int)(gb:Nat)(t:Value)(w':World):Prop :=
 ∃i:Nat,i<=n/\t=.int .i64 (i:Int)/\Ar w' gb n (kW f width i)/\Below w.heap.size w w'
theorem BM (a:Option Addr)(n cap:Nat)(f:Nat->Nat)(width:Int)(w:World)(h:Ws w a n cap f)(hn:n<=4096) :
  Calls Tryz.prog 91 #[.slice a n cap,.int .i64 width] w λe w'=>e=.returned (.slice (some ⟨w.heap.size,0,none⟩) n n)/\Ar w' w.heap.size n (λj=>aY (f j) width)/\Below w.heap.size w w':=by
 obtain⟨w1,hrun,ha,hb⟩:=ey w 152 Tryz.underlying152 n hn
 have HA:Hid (Ar w1 w.heap.size n (λ_=>0)):=ha
 have HB:Hid (Below w.heap.size w w1):=hb
 have HH:Hid (Ws w a n cap f):=h
 clear ha hb h;go_enter Tryz.func91,Tryz.ntmps91
 go_upto_region 3 with fail
 go_loopw [13] (CV w n f width w.heap.size) (λt _=>n - (intOf t).toNat)
 case atStart=>exact⟨0,Nat.zero_le _,rfl,HA.out.congr (λj _=>(vH f width j).symm),HB.out⟩
 case round =>
  obtain⟨i,hi,rfl,hA,hB⟩:=hrel
  by_cases hlt:i<n
  ·obtain⟨b,o,rfl,hw⟩:=(HH.out.later hB).plain (by omega)
   have hsm:=HH.out.small i
   obtain⟨x0,x1⟩:=hw i hlt
   have TB:Hid (Ar wr w.heap.size n (kW f width i)):=hA
   clear hA hw;go_wp2_with (first|(go_at_call 167;refine (JU _ _ _ hsm).mono ?_;rintro e w2 ⟨rfl,hb2⟩;have A2:=(TB.out.alloc _).later hb2;obtain⟨q0,q1⟩:=A2.at_ i hlt;have q2:=A2.fr;have H2:Hid (Ar w2 w.heap.size n (kW f width i)):=A2;clear A2))
   refine⟨⟨i+1,by omega,by go_num,H2.out.set hlt (λj _=>wQ f width i j),?_⟩,by simp [intOf];omega⟩
   exact ((aa (aa hB (ae _ _)) hb2).setCell (Nat.le_refl _) _).setCell (Nat.le_refl _) _
  ·obtain rfl:i=n:=by omega
   have TB:Hid (Ar wr w.heap.size i (kW f width i)):=hA
   clear hA;go_wp2;go_ret;exact⟨rfl,TB.out.congr (λj hj=>An f width i j hj),hB⟩
end Go.Proofs.YtffmodpgddecnaaGreatDoor.D
namespace Go.Proofs.YtffmodpgddecnaaGreatDoor.D
open Go.Proofs.YtffmodpgddecnaaGreatDoor.H (aq)
open Go.RowKit
theorem qQ (gb n t:Nat)(w:World)(ht:t<n)(hn:n<=4096) :
  Calls Tryz.prog 360 #[.slice (some ⟨gb,0,none⟩) n n,.int .i64 (t:Int)] w λe w'=>e=.returned (.slice (some ⟨gb,t*2,none⟩) (n - t) (n - t))/\w'=w:=by
 have h1:(t:Int)<=(n:Int):=by omega
 have hne:¬n=t:=by omega
 have hnb:(n==t)=false:=by simpa using hne
 have hna:(n - t==0)=false:=by simp;omega
 go_enter Tryz.func360,Tryz.ntmps360
 go_wp2;go_ret;exact⟨rfl,rfl⟩
theorem qC (gb n:Nat)(w:World)(hn:n<=4096) :
  Calls Tryz.prog 360 #[.slice (some ⟨gb,0,none⟩) n n,.int .i64 (n:Int)] w λe w'=>e=.returned (.slice (some ⟨gb,0,none⟩) 0 0)/\w'=w:=by
 go_enter Tryz.func360,Tryz.ntmps360
 go_wp2;go_ret;exact⟨rfl,rfl⟩
theorem tI (gb n:Nat)(hn:n<=4096):∃x0,∀w:World,Calls Tryz.prog 360 #[.slice (some ⟨gb,0,none⟩) n n,.int .i64 (n:Int)] w λe w'=>e=.returned (.slice x0 0 0)/\w'=w:=⟨_,λw=>qC gb n w hn⟩
structure Dr (w:World)(g gb n:Nat)(c:Nat->Nat)(t:Nat):Prop where
 all:w.cell? ⟨g,0,none⟩=some (.slice (some ⟨gb,0,none⟩) n n)
 tk:az w ⟨g,1,none⟩ (.int .i64 (t:Int))
 ar:∀i,i<n->Wd w gb (i*2) (c i)
 ne:g≠gb
 le:t<=n
 eI:n<=4096
theorem Dr.but {S:Nat->Prop}{w w':World}{g gb n:Nat}{c:Nat->Nat}{t:Nat}(hb:ah S w w')(h:Dr w g gb n c t)(h1:¬S g)(h2:¬S gb):Dr w' g gb n c t :=
 ⟨ag hb h.all h1,h.tk.but hb h1,λi hi=>(h.ar i hi).but hb h2,h.ne,h.le,h.eI⟩
theorem Dr.later {w w':World}{g gb n:Nat}{c:Nat->Nat}{t:Nat}(hb:Below w.heap.size w w')(h:Dr w g gb n c t):Dr w' g gb n c t:=h.but (S:=λ_=>False) (ah.of hb) (λh=>h) (λh=>h)
theorem Dr.alloc {w:World}{g gb n:Nat}{c:Nat->Nat}{t:Nat}(h:Dr w g gb n c t)(o:Obj):Dr (w.alloc o) g gb n c t:=h.later (ae _ _)
theorem Dr.lt {w:World}{g gb n:Nat}{c:Nat->Nat}{t:Nat}(h:Dr w g gb n c t):g<w.heap.size:=World.block_lt_of_cell? _ _ h.all
theorem Dr.put {w:World}{g gb n:Nat}{c:Nat->Nat}{t:Nat}(h:Dr w g gb n c t){t':Nat}(ht:t'<=n):Dr (w.setCell ⟨g,1,none⟩ (.int .i64 (t':Int))) g gb n c t' :=
 ⟨aW h.all (by omega),h.tk.put,λi hi=>by
  obtain⟨h1,h2⟩:=h.ar i hi
  have hne:=h.ne
  exact⟨by rw [World.cell?_setCell_other _ _ _ _ (uI (.inl hne))];exact h1,by rw [World.cell?_setCell_other _ _ _ _ (uI (.inl hne))];exact h2⟩,h.ne,ht,h.eI⟩
theorem bU (a:Option Addr)(n cap:Nat)(f:Nat->Nat)(width:Int)(w:World)(h:Ws w a n cap f)(h1:1<=width)(h2:width<=128)(hn:n<=4096) :
  Calls Tryz.prog 44 #[.slice a n cap,.int .i64 width] w λe w'=>∃g gb,e=.returned (.tuple #[.pointer (some ⟨g,0,none⟩),.int .i64 0])/\Dr w' g gb n (λj=>aY (f j) width) 0/\w.heap.size<=g/\w.heap.size<=gb/\gb<w'.heap.size/\Below w.heap.size w w':=by
 go_enter Tryz.func44,Tryz.ntmps44
 go_wp2_with (first|(go_at_call 91;refine (BM _ _ _ f _ _ h hn).mono ?_;rintro e w1 ⟨rfl,hA,hb⟩))
 have hlt:=hA.lt
 refine bodyPost_ret (v:=.tuple #[.pointer (some ⟨w1.heap.size,0,none⟩),.int .i64 0]) (by simp [results,Tryz.results44,go_sem]) rfl ⟨_,w.heap.size,rfl,?_,hb.size,Nat.le_refl _,by simp;omega,hb.alloc hb.size _⟩
 exact⟨by simp [go_sem],⟨by simp [go_sem],by simp [go_sem]⟩,λi hi=>(hA.at_ i hi).later (ae _ _),by omega,Nat.zero_le _,hn⟩
end Go.Proofs.YtffmodpgddecnaaGreatDoor.D
namespace Go.Proofs.YtffmodpgddecnaaGreatDoor.D
open Go.Proofs.YtffmodpgddecnaaGreatDoor.H (aq)
open Go.RowKit
theorem _root_.Go.Proofs.YtffmodpgddecnaaGreatDoor.ah.own {a w:World}{g:Nat}(h:ah (·=g) a w)(o:Nat)(u:Value):ah (·=g) a (w.setCell ⟨g,o,none⟩ u):=h.setCell (p:=⟨g,o,none⟩) (show g=g from rfl) u
theorem Dr.drewN {w:World}{g gb n:Nat}{c:Nat->Nat}{t:Nat}(h:Dr w g gb n c t)(k:Nat):Dr (w.drewN k) g gb n c t:=h.later (below_drewN (Below.refl _ _) _)
theorem Dr.fresh {w:World}{g gb n:Nat}{c:Nat->Nat}{t:Nat}(h:Dr w g gb n c t){b:Nat}(h1:g≠b)(h2:gb≠b)(o:Nat)(u:Value):Dr (w.setCell ⟨b,o,none⟩ u) g gb n c t :=
 h.but (S:=(·=b)) ((ah.refl (·=b) _).own _ _) h1 h2
theorem wm (g gb n:Nat)(c:Nat->Nat)(t:Nat)(w:World)(h:Dr w g gb n c t) :
  Calls Tryz.prog 55 #[.pointer (some ⟨g,0,none⟩)] w λe w'=>e=.returned (.int .i64 (t:Int))/\w'=w:=by
 have x:=h.tk.1
 go_enter Tryz.func55,Tryz.ntmps55
 go_wp2;go_ret;exact⟨rfl,rfl⟩
theorem nR (g gb n:Nat)(c:Nat->Nat)(t:Nat)(w:World)(h:Dr w g gb n c t)(ht:t<n) :
  Calls Tryz.prog 316 #[.pointer (some ⟨g,0,none⟩)] w λe w'=>e=.returned (.tuple #[.agg #[.int .u64 (cD (c t)),.int .u64 (cB (c t))],.int .i64 0])/\Dr w' g gb n c (t+1)/\ah (·=g) w w':=by
 have x:=(h.alloc (.cells #[.int .u64 0,.int .u64 0] 30)).tk.1
 have x2:=(h.alloc (.cells #[.int .u64 0,.int .u64 0] 30)).tk.2
 have y:=(h.alloc (.cells #[.int .u64 0,.int .u64 0] 30)).all
 obtain⟨q0,q1⟩:=(h.alloc (.cells #[.int .u64 0,.int .u64 0] 30)).ar t ht
 have hn:=h.eI
 have hlt:=h.lt
 have hne:=h.ne
 have H:Hid (Dr w g gb n c t):=h
 clear h;go_enter Tryz.func316,Tryz.ntmps316
 go_wp2;go_quiet (first|(go_at_call 360;refine Calls.quiet_of_same (qQ gb n t _ ht hn)))
 go_wp2;have hgb:gb<w.heap.size:=World.block_lt_of_cell? _ _ ((H.out.ar t ht).1)
 have hD:=((((H.out.alloc (Obj.cells #[Value.int IntKind.u64 0,Value.int IntKind.u64 0] 30)).drewN nq).put (t':=t+1) (by omega)).fresh (b:=w.heap.size) (by omega) (by omega) 0 (.int .u64 (cD (c t)))).fresh (b:=w.heap.size) (by omega) (by omega) 1 (.int .u64 (cB (c t)))
 have hB:ah (·=g) w ((((((w.alloc (Obj.cells #[Value.int IntKind.u64 0,Value.int IntKind.u64 0] 30)).drewN nq).setCell ⟨g,1,none⟩ (.int .i64 ((t+1:Nat):Int))).setCell ⟨w.heap.size,0,none⟩ (.int .u64 (cD (c t)))).setCell ⟨w.heap.size,1,none⟩ (.int .u64 (cB (c t))))) :=
  ((((ah.of (S:=(·=g)) (below_drewN (ae _ _) _)).own _ _).put (p:=⟨w.heap.size,0,none⟩) (Nat.le_refl _) _).put (p:=⟨w.heap.size,1,none⟩) (Nat.le_refl _) _)
 rw [Int.natCast_succ] at hD hB;refine bodyPost_ret (v:=.tuple #[.agg #[.int .u64 (cD (c t)),.int .u64 (cB (c t))],.int .i64 0]) ?_ rfl ⟨rfl,hD,hB⟩
 simp [results,Tryz.results316,go_sem]
theorem q9 (g gb n:Nat)(c:Nat->Nat)(w:World)(h:Dr w g gb n c n) :
  Calls Tryz.prog 316 #[.pointer (some ⟨g,0,none⟩)] w λe w'=>e=.returned (.tuple #[.agg #[.int .u64 0,.int .u64 0],.int .i64 11])/\Below w.heap.size w w':=by
 have x:=(h.alloc (.cells #[.int .u64 0,.int .u64 0] 30)).tk.1
 have y:=(h.alloc (.cells #[.int .u64 0,.int .u64 0] 30)).all
 have hn:=h.eI
 clear h;obtain⟨x0,hx0⟩:∃x0,∀w:World,Calls Tryz.prog 360 #[.slice (some ⟨gb,0,none⟩) n n,.int .i64 (n:Int)] w λe w'=>e=.returned (.slice x0 0 0)/\w'=w:=tI gb n hn
 go_enter Tryz.func316,Tryz.ntmps316
 go_wp2;go_quiet (first|(go_at_call 360;refine Calls.quiet_of_same (hx0 _)))
 go_wp2;exact bodyPost_ret (v:=.tuple #[.agg #[.int .u64 0,.int .u64 0],.int .i64 11]) (by simp [results,Tryz.results316,go_sem]) rfl ⟨rfl,(((below_drewN (ae _ _) _).setCell (Nat.le_refl _) _).setCell (Nat.le_refl _) _)⟩
end Go.Proofs.YtffmodpgddecnaaGreatDoor.D
namespace Go.Proofs.YtffmodpgddecnaaGreatDoor.D
open Go.Proofs.YtffmodpgddecnaaGreatDoor.H (aq)
open Go.RowKit
end Go.Proofs.YtffmodpgddecnaaGreatDoor.D
namespace Go.Proofs.YtffmodpgddecnaaGreatDoor.D
open Go.Proofs.YtffmodpgddecnaaGreatDoor.H (aq)
open Go.RowKit
end Go.Proofs.YtffmodpgddecnaaGreatDoor.D
namespace Go.Proofs.YtffmodpgddecnaaGreatDoor.D
open Go.Proofs.YtffmodpgddecnaaGreatDoor.H (aq)
open Go.RowKit
end Go.Proofs.YtffmodpgddecnaaGreatDoor.D
namespace Go.Proofs.YtffmodpgddecnaaGreatDoor.D
open Go.Proofs.YtffmodpgddecnaaGreatDoor.H (aq)
open Go.RowKit
end Go.Proofs.YtffmodpgddecnaaGreatDoor.D
namespace Go.Proofs.YtffmodpgddecnaaGreatDoor.D
open Go.Proofs.YtffmodpgddecnaaGreatDoor.H (aq)
open Go.RowKit
end Go.Proofs.YtffmodpgddecnaaGreatDoor.D
namespace Go.Proofs.YtffmodpgddecnaaGreatDoor.D
open Go.RowKit
open Go.Proofs.YtffmodpgddecnaaGreatDoor.H (aq)
def bM (P:Nat->Bool)(c:Nat->Nat)(n:Nat):Nat->Nat->Nat×Int×Nat
 | 0,t=>(0,12,t)
 | k+1,t=>if t<n then (if P (c t)=true then bM P c n k (t+1) else (c t,0,t+1)) else (0,11,t)
theorem nL {P:Nat->Bool}{c:Nat->Nat}{n k t:Nat}(h:¬t<n):bM P c n (k+1) t=(0,11,t):=by rw [bM,if_neg h]
theorem na {P:Nat->Bool}{c:Nat->Nat}{n k t:Nat}(h:t<n)(hp:P (c t)=false):bM P c n (k+1) t=(c t,0,t+1):=by rw [bM,if_pos h,if_neg (by rw [hp];decide)]
theorem nO {P:Nat->Bool}{c:Nat->Nat}{n k t:Nat}(h:t<n)(hp:P (c t)=true):bM P c n (k+1) t=bM P c n k (t+1):=by rw [bM,if_pos h,if_pos hp]
theorem q5 {P:Nat->Bool}{c:Nat->Nat}{n:Nat}:∀{k t:Nat},t<=n->(bM P c n k t).2.2<=n
 | 0,t,h=>h
 | k+1,t,h=>by
  rw [bM];split
  ·split
   ·exact q5 (by omega)
   ·simpa using by omega
  ·exact h
theorem gH {P:Nat->Bool}{c:Nat->Nat}{n:Nat}(hc:∀i,i<n->c i<aq*aq):∀{k t:Nat},(bM P c n k t).1<aq*aq
 | 0,t=>by
  rw [bM];show 0<aq*aq
  decide
 | k+1,t=>by
  rw [bM];split
  ·split
   ·exact gH hc
   ·exact hc _ (by assumption)
  ·show 0<aq*aq
   decide
theorem Dr.vW {S:Nat->Prop}{w w':World}{g gb n:Nat}{c:Nat->Nat}{t:Nat}(hb:ah S w w')(h:Dr w g gb n c t)(h1:¬S g)(h2:0<n->¬S gb):Dr w' g gb n c t :=
 ⟨ag hb h.all h1,h.tk.but hb h1,λi hi=>(h.ar i hi).but hb (h2 (by omega)),h.ne,h.le,h.eI⟩
theorem Dr.gO {w:World}{g gb n:Nat}{c:Nat->Nat}{t:Nat}(h:Dr w g gb n c t){b:Nat}(h1:g≠b)(h2:0<n->gb≠b)(o:Nat)(u:Value):Dr (w.setCell ⟨b,o,none⟩ u) g gb n c t :=
 h.vW (S:=(·=b)) ((ah.refl (·=b) _).own _ _) h1 h2
theorem Dr.po {w:World}{g gb n:Nat}{c:Nat->Nat}{t:Nat}(h:Dr w g gb n c t)(h0:0<n):gb<w.heap.size:=World.block_lt_of_cell? _ _ (h.ar 0 h0).1
theorem iU {w:World}{b:Nat}{v0 v1:Value}(h0:w.cell? ⟨b,0,none⟩=some v0)(h1:w.cell? ⟨b,1,none⟩=some v1)(x y:Value):(w.setCell ⟨b,0,none⟩ x).cell? ⟨b,0,none⟩=some x/\((w.setCell ⟨b,0,none⟩ x).setCell ⟨b,1,none⟩ y).cell? ⟨b,1,none⟩=some y :=
 ⟨World.cell?_setCell_same _ _ _ h0,World.cell?_setCell_same _ _ _ (aW h1 (by omega))⟩
def fP (w:World)(g gb n:Nat)(c:Nat->Nat)(t:Nat)(P:Nat->Bool)(e:Ending)(w':World):Prop :=
 e=.returned (.tuple #[.agg #[.int .u64 (cD (bM P c n 9 t).1),.int .u64 (cB (bM P c n 9 t).1)],.int .i64 (bM P c n 9 t).2.1])/\Dr w' g gb n c (bM P c n 9 t).2.2/\ah (·=g) w w'
def H_ (w w1:World)(g gb n:Nat)(c:Nat->Nat)(t:Nat)(P:Nat->Bool)(v:Value)(w':World):Prop :=
 ∃i:Nat,i<=9/\v=.int .i64 (i:Int)/\Hid (bM P c n 9 t=bM P c n (9 - i) (t+i))/\Hid (Dr w' g gb n c (t+i))/\Hid (ah (·=g) w w')/\(az w' ⟨w.heap.size,0,none⟩ (.int .u64 0)/\az w' ⟨w.heap.size,1,none⟩ (.int .u64 0))/\w1.heap.size<=w'.heap.size
theorem Dk {w:World}{g gb n:Nat}{c:Nat->Nat}{t:Nat}(h:Dr w g gb n c t)(hcs:∀i,i<n->c i<aq*aq)(P:Nat->Bool)(k1 k2:Nat)
  (hcl:∀W,ah (·=g) w W->∀N,N<aq*aq->Calls Tryz.prog 370 #[.agg #[.int .u64 (cD N),.int .u64 (cB N)],.pointer (some ⟨k1,0,none⟩),.pointer (some ⟨k2,0,none⟩)] W λe w'=>e=.returned (.bool (P N))/\Below W.heap.size W w') :
  Calls Tryz.prog 369 #[.pointer (some ⟨g,0,none⟩),.func (.func 370) #[] #[.pointer (some ⟨k1,0,none⟩),.pointer (some ⟨k2,0,none⟩)]] w (fP w g gb n c t P):=by
 obtain⟨w1,hw1⟩:∃w1,w1=w.alloc (Obj.cells #[.int .u64 0,.int .u64 0] 30):=⟨_,rfl⟩
 have hB1:Below w.heap.size w w1:=by rw [hw1];exact ae _ _
 have l0:az w1 ⟨w.heap.size,0,none⟩ (.int .u64 0):=by rw [hw1];exact⟨by simp [go_sem],by simp [go_sem]⟩
 have l1:az w1 ⟨w.heap.size,1,none⟩ (.int .u64 0):=by rw [hw1];exact⟨by simp [go_sem],by simp [go_sem]⟩
 have hg:=h.lt
 have HG:=ab h.po
 have hlt1:w.heap.size<w1.heap.size:=World.block_lt_of_cell? _ _ l0.1
 have h1:=ab (h.later hB1)
 have PC:Hid (ah (·=g) w w1):=ah.of hB1
 have HL:=ab (And.intro l0 l1)
 have HC:=ab hcl
 have HS:=ab hcs
 clear h hB1 l0 l1 hcl hcs;go_enter Tryz.func369,Tryz.ntmps369
 go_upto_region 1 with fail
 rw [<-hw1];clear hw1;go_upto_region 2 with fail
 go_loopw [8] (H_ w w1 g gb n c t P) (λv _=>9 - (intOf v).toNat)
 case atStart=>exact⟨0,Nat.zero_le _,rfl,rfl,h1,PC,HL.out,Nat.le_refl _⟩
 case round =>
  obtain⟨i,hi,rfl,hE,hD,hB,⟨l0,l1⟩,hsz⟩:=hrel
  by_cases h9:i<9
  ·by_cases ht:t+i<n
   ·have hdr:=ab (nR g gb n c (t+i) wr hD.out ht)
    have hN:=HS.out (t+i) ht
    have hek:9 - i=(9 - (i+1))+1:=by omega
    generalize hNN:c (t+i)=N at *
    obtain⟨RY,-⟩:=And.intro (ab (And.intro l0 l1)) trivial
    clear l0 l1;go_upto_region 4 with (first|(go_at_call 316;refine hdr.out.mono ?_;rintro e w2 ⟨rfl,hD2,hB2⟩;have Qn:=ab hD2;have PB:=ab (hB.out.trans hB2);have QX:Hid (az w2 ⟨w.heap.size,0,none⟩ (.int .u64 0)/\az w2 ⟨w.heap.size,1,none⟩ (.int .u64 0)):=⟨RY.out.1.but hB2 (by show ¬(w.heap.size=g);omega),RY.out.2.but hB2 (by show ¬(w.heap.size=g);omega)⟩;have hsz2:=hB2.size;clear hD2 hB2))
    obtain⟨w3,hw3⟩:∃w3,w3=w2.alloc (Obj.cells #[.int .u64 (cD N),.int .u64 (cB N)] 30):=⟨_,rfl⟩
    rw [<-hw3];have hB3:Below w2.heap.size w2 w3:=by rw [hw3];exact ae _ _
    have z0:w3.cell? ⟨w2.heap.size,0,none⟩=some (.int .u64 (cD N)):=by rw [hw3];simp [go_sem]
    have z1:w3.cell? ⟨w2.heap.size,1,none⟩=some (.int .u64 (cB N)):=by rw [hw3];simp [go_sem]
    have hcl:=ab (HC.out w3 (PB.out.call hB3) N hN)
    have Qs:=ab (Qn.out.later hB3)
    have PE:=ab (PB.out.call hB3)
    have S7:Hid (az w3 ⟨w.heap.size,0,none⟩ (.int .u64 0)/\az w3 ⟨w.heap.size,1,none⟩ (.int .u64 0)):=⟨QX.out.1.later hB3,QX.out.2.later hB3⟩
    have HZ:Hid (w3.cell? ⟨w2.heap.size,0,none⟩=some (.int .u64 (cD N))/\w3.cell? ⟨w2.heap.size,1,none⟩=some (.int .u64 (cB N))):=⟨z0,z1⟩
    have hsz3:=hB3.size
    clear hw3 hdr hD hB RY Qn PB QX hB3;cases hp:P N with
    | true =>
     rw [hp] at hcl;go_wp2_with (first|(go_at_call 370;refine hcl.out.mono ?_;rintro e w4 ⟨rfl,hB4⟩;have PM:=ab hB4;clear hB4))
     refine⟨⟨i+1,by omega,by go_num,?_,?_,PE.out.call PM.out,⟨S7.out.1.later PM.out,S7.out.2.later PM.out⟩,?_⟩,by simp [intOf];omega⟩
     ·show _=_
      rw [hE.out,hek,nO ht (by rw [hNN];exact hp)];rfl
     ·exact Qs.out.later PM.out
     ·have:=PM.out.size;omega
    | false =>
     rw [hp] at hcl;have hR:bM P c n 9 t=(N,0,t+i+1):=by rw [hE.out,hek,na ht (by rw [hNN];exact hp),hNN]
     have HR:=ab hR
     clear hE hp hek hR;go_upto_region 7 with (first|(go_at_call 370;refine hcl.out.mono ?_;rintro e w4 ⟨rfl,hB4⟩;have PM:=ab hB4;clear hB4))
     have y0:=cell_later PM.out HZ.out.1
     have y1:=cell_later PM.out HZ.out.2
     have l0:=(S7.out.1.later PM.out).1
     have l1:=(S7.out.2.later PM.out).1
     have f0:=(S7.out.1.later PM.out).2
     have f1:=(S7.out.2.later PM.out).2
     have hB5:ah (·=g) w ((w4.setCell ⟨w.heap.size,0,none⟩ (.int .u64 (cD N))).setCell ⟨w.heap.size,1,none⟩ (.int .u64 (cB N))):=((PE.out.call PM.out).put (p:=⟨w.heap.size,0,none⟩) (Nat.le_refl _) _).put (p:=⟨w.heap.size,1,none⟩) (Nat.le_refl _) _
     have PI:=ab hB5
     have RM:=ab (((Qs.out.later PM.out).gO (b:=w.heap.size) (by omega) (λh0=>by have:=HG.out h0;omega) 0 (.int .u64 (cD N))).gO (b:=w.heap.size) (by omega) (λh0=>by have:=HG.out h0;omega) 1 (.int .u64 (cB N)))
     have HQ:=ab (iU l0 l1 (.int .u64 (cD N)) (.int .u64 (cB N)))
     clear hB5;go_wp2;refine bodyPost_ret (v:=.tuple #[.agg #[.int .u64 (cD N),.int .u64 (cB N)],.int .i64 0]) (by simp [results,Tryz.results369,go_sem,HQ.out.1,HQ.out.2]) rfl ?_
     show fP _ _ _ _ _ _ _ _ _
     unfold fP;rw [HR.out];exact⟨rfl,RM.out,PI.out⟩
   ·have hle:=hD.out.le
    have hdr:Hid (Calls Tryz.prog 316 #[.pointer (some ⟨g,0,none⟩)] wr λe w'=>e=.returned (.tuple #[.agg #[.int .u64 0,.int .u64 0],.int .i64 11])/\Below wr.heap.size wr w'):=by
     have e1:t+i=n:=by omega
     have hq:=hD.out
     rw [e1] at hq;exact q9 g gb n c wr hq
    have hek:9 - i=(9 - (i+1))+1:=by omega
    have HR:Hid (bM P c n 9 t=(0,11,t+i)):=by
     show _=_
     rw [hE.out,hek,nL ht]
    obtain⟨RY,-⟩:=And.intro (ab (And.intro l0 l1)) trivial
    clear l0 l1 hE hek hle;go_upto_region 5 with (first|(go_at_call 316;refine hdr.out.mono ?_;rintro e w2 ⟨rfl,hB2⟩;have PB:=ab hB2;clear hB2))
    have hB3:Below wr.heap.size wr (w2.alloc (Obj.cells #[.int .u64 0,.int .u64 0] 30)):=PB.out.alloc PB.out.size _
    have x0:=(RY.out.1.later hB3).1
    have x1:=(RY.out.2.later hB3).1
    have f0:=(RY.out.1.later hB3).2
    have f1:=(RY.out.2.later hB3).2
    have PE:=ab hB3
    have PI:Hid (ah (·=g) w (((w2.alloc (Obj.cells #[.int .u64 0,.int .u64 0] 30)).setCell ⟨w.heap.size,0,none⟩ (.int .u64 0)).setCell ⟨w.heap.size,1,none⟩ (.int .u64 0))):=((hB.out.call hB3).put (p:=⟨w.heap.size,0,none⟩) (Nat.le_refl _) _).put (p:=⟨w.heap.size,1,none⟩) (Nat.le_refl _) _
    have RM:=ab (((hD.out.later hB3).gO (b:=w.heap.size) (by omega) (λh0=>by have:=HG.out h0;omega) 0 (.int .u64 0)).gO (b:=w.heap.size) (by omega) (λh0=>by have:=HG.out h0;omega) 1 (.int .u64 0))
    have HQ:=ab (iU x0 x1 (.int .u64 0) (.int .u64 0))
    clear hB3;go_wp2;refine bodyPost_ret (v:=.tuple #[.agg #[.int .u64 0,.int .u64 0],.int .i64 11]) (by simp [results,Tryz.results369,go_sem,HQ.out.1,HQ.out.2]) rfl ?_
    show fP _ _ _ _ _ _ _ _ _
    unfold fP;rw [HR.out];exact⟨by simp only [jl,jt],RM.out,PI.out⟩
  ·obtain rfl:i=9:=by omega
   have HR:Hid (bM P c n 9 t=(0,12,t+9)):=by
    show _=_
    rw [hE.out];rfl
   have x0:=l0.1
   have x1:=l1.1
   have f0:=l0.2
   have f1:=l1.2
   have PI:Hid (ah (·=g) w ((wr.setCell ⟨w.heap.size,0,none⟩ (.int .u64 0)).setCell ⟨w.heap.size,1,none⟩ (.int .u64 0))):=(hB.out.put (p:=⟨w.heap.size,0,none⟩) (Nat.le_refl _) _).put (p:=⟨w.heap.size,1,none⟩) (Nat.le_refl _) _
   have RM:=ab ((hD.out.gO (b:=w.heap.size) (by omega) (λh0=>by have:=HG.out h0;omega) 0 (.int .u64 0)).gO (b:=w.heap.size) (by omega) (λh0=>by have:=HG.out h0;omega) 1 (.int .u64 0))
   have HQ:=ab (iU x0 x1 (.int .u64 0) (.int .u64 0))
   clear l0 l1 hE;go_wp2;refine bodyPost_ret (v:=.tuple #[.agg #[.int .u64 0,.int .u64 0],.int .i64 12]) (by simp [results,Tryz.results369,go_sem,HQ.out.1,HQ.out.2]) rfl ?_
   show fP _ _ _ _ _ _ _ _ _
   unfold fP;rw [HR.out];exact⟨by simp only [jl,jt],RM.out,PI.out⟩
def Spec (P:Nat->Bool)(c:Nat->Nat)(n k t:Nat)(R:Nat×Int×Nat):Prop :=
 ∃q:Nat,R.2.2=t+q/\q<=k/\t+q<=n /\
  ((R.2.1=0/\0<q/\R.1=c (t+q - 1)/\P R.1=false/\∀j,j<q - 1->P (c (t+j))=true) \/
  (R.2.1=11/\R.1=0/\t+q=n/\q<k/\∀j,j<q->P (c (t+j))=true) \/
  (R.2.1=12/\R.1=0/\q=k/\∀j,j<q->P (c (t+j))=true))
theorem lW {P:Nat->Bool}{c:Nat->Nat}{n:Nat}:∀{k t:Nat},t<=n->Spec P c n k t (bM P c n k t)
 | 0,t,h=>⟨0,rfl,Nat.le_refl _,h,.inr (.inr ⟨rfl,rfl,rfl,λj hj=>by omega⟩)⟩
 | k+1,t,h=>by
  by_cases ht:t<n
  ·cases hp:P (c t) with
   | false =>
    rw [na ht hp];exact⟨1,rfl,by omega,by omega,.inl ⟨rfl,by omega,rfl,hp,λj hj=>by omega⟩⟩
   | true =>
    rw [nO ht hp];obtain⟨q,h1,h2,h3,hc⟩:=lW (P:=P) (c:=c) (n:=n) (k:=k) (t:=t+1) (by omega)
    have hall:∀s,(∀j,j<s->P (c (t+1+j))=true)->∀j,j<s+1->P (c (t+j))=true:=λs hs j hj=>by
     cases j with
     | zero=>exact hp
     | succ j =>
      have:=hs j (by omega)
      rwa [show t+1+j=t+(j+1) by omega] at this
    refine⟨q+1,by rw [h1];omega,by omega,by omega,?_⟩
    rcases hc with ⟨e1,e2,e3,e4,e5⟩|⟨e1,e2,e3,e4,e5⟩|⟨e1,e2,e3,e5⟩
    ·refine .inl ⟨e1,by omega,by rw [e3];congr 1;omega,e4,?_⟩
     have:=hall (q - 1) e5
     rwa [show q - 1+1=q+1 - 1 by omega] at this
    ·exact .inr (.inl ⟨e1,e2,by omega,by omega,hall q e5⟩)
    ·exact .inr (.inr ⟨e1,e2,by omega,hall q e5⟩)
  ·rw [nL ht]
   exact⟨0,rfl,by omega,by omega,.inr (.inl ⟨rfl,rfl,by omega,by omega,λj hj=>by omega⟩)⟩
end Go.Proofs.YtffmodpgddecnaaGreatDoor.D
namespace Go.Proofs.YtffmodpgddecnaaGreatDoor
open Go.RowKit Go.Shelf H
theorem Ow.form {w:World}{base:Nat}{e:TypeId}{k:Nat}{a:Option Addr}{n cap:Nat}{L:List Value}(h:Ow w base e k a n cap L):(a=none/\n=0/\cap=0)\/∃g,a=some ⟨g,0,none⟩/\(∀j,w.frozen? ⟨g,j,none⟩=false)/\n<=cap:=by
 rcases h.2 with ⟨h1,h2⟩|⟨g,c,cur,hv,_,hh,hc,_⟩
 ·simp only [Value.slice.injEq] at h1
  exact .inl ⟨h1.1,h2,h1.2.2⟩
 ·simp only [Value.slice.injEq] at hv
  obtain⟨rfl,_,rfl⟩:=hv
  exact .inr ⟨g,rfl,λj=>by simp [World.frozen?,hh],hc⟩
theorem Ow.JO {w:World}{base:Nat}{e:TypeId}{k g n cap:Nat}{L:List Value}(h:Ow w base e k (some ⟨g,0,none⟩) n cap L)(j:Nat)(u:Value):Ow (w.setCell ⟨g,j,none⟩ u) base e k (some ⟨g,0,none⟩) n cap (L.set j u):=(World.ownsRow.stored h j u).1
def Rv (w:World)(a:Option Addr)(L:List Value):Prop:=∀g,a=some ⟨g,0,none⟩->∀j u,L[j]?=some u->w.cell? ⟨g,j,none⟩=some u
theorem Ow.rv {w:World}{base:Nat}{e:TypeId}{k:Nat}{a:Option Addr}{n cap:Nat}{L:List Value}(h:Ow w base e k a n cap L):Rv w a L:=λg e j u hu=>by
 by_cases hn:0<n
 ·obtain⟨b,hb,hc⟩:=h.at_ hn
  rw [hb] at e;cases e
  exact hc j u hu
 ·have hl:=h.1
  have h0:n=0:=by omega
  rw [h0,Nat.zero_mul] at hl;rw [List.eq_nil_of_length_eq_zero hl] at hu;cases hu
end Go.Proofs.YtffmodpgddecnaaGreatDoor
