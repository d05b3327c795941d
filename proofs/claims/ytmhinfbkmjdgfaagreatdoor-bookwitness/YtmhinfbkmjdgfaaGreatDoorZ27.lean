import Derived.Shelf.Slices.SearchI
import Derived.Shelf.Slices.Clone
import Derived.Shelf.Slices.Delete
import Derived.Sort.OwnSortedInts
import Derived.Test.YtmhinfbkmjdgfaaGreatDoorZ10
set_option linter.unusedVariables false
set_option linter.unusedSimpArgs false
set_option maxRecDepth 100000
set_option maxHeartbeats 1000000
namespace Go.Proofs.YtmhinfbkmjdgfaaGreatDoor.P
open Go.Shelf Go.RowKit Go.Sort
variable {L:List Int}{base cap n:Nat}{a:Option Addr}{w:World}
def JX:Go.Shelf.Ren:=⟨fun|25=>221|31=>287|32=>288|37=>325|23=>366|15=>314|n=>n,fun|40=>104|22=>42|n=>n,fun|n=>n⟩
theorem Hr:Lays2.n25 Tryz.prog JX:={
 mixed:=by kernel_rfl,
 f25:=Tryz.func221.trans (congrArg some (by kernel_rfl)),
 f31:=Tryz.func287.trans (congrArg some (by kernel_rfl)),
 f32:=Tryz.func288.trans (congrArg some (by kernel_rfl)),
 f37:=Tryz.func325.trans (congrArg some (by kernel_rfl)),
 t0:=Tryz.underlying0,a0:=Tryz.isAgg0,z0:=Tryz.sizeOf0,v0:=Tryz.zeroValue0,
 t3:=Tryz.underlying3,a3:=Tryz.isAgg3,z3:=Tryz.sizeOf3,v3:=Tryz.zeroValue3,
 t4:=Tryz.underlying4,a4:=Tryz.isAgg4,z4:=Tryz.sizeOf4,v4:=Tryz.zeroValue4,
 t22:=Tryz.underlying42,a22:=Tryz.isAgg42,z22:=Tryz.sizeOf42,v22:=Tryz.zeroValue42,
 t40:=Tryz.underlying104,a40:=Tryz.isAgg104,z40:=Tryz.sizeOf104,v40:=Tryz.zeroValue104 }
theorem nS {g:Nat}(h:Own w base 3 (some ⟨g,0,none⟩) n cap (ints L)):∀j,j<L.length->w.cell? ⟨g,0+j,none⟩=some (ab (L.getD j 0)):=λj hj=>by
 have h1:=h.read.cells _ rfl j _ (mx L j hj)
 rw [bq] at h1;rw [h1];simp [List.getD,hj]
theorem tX (h:Own w base 3 a n cap (ints L)):L.length=n:=by have:=h.len;rwa [eN] at this
theorem Dg (h:Own w base 3 none n cap (ints L)):n=0/\cap=0/\L=[]:=by
 have h1:=h.read.none_ rfl
 exact⟨h1.1,h1.2,List.eq_nil_of_length_eq_zero (by rw [tX h];exact h1.1)⟩
theorem yA {a:Addr}{L:List Value}(h:Own w base 3 (some a) n cap L):∃g,a=⟨g,0,none⟩:=by
 rcases h.row.2 with ⟨h1,h2⟩|⟨g,c,cur,hv,_⟩
 ·simp at h1
 ·simp only [Value.slice.injEq,Option.some.injEq] at hv
  exact⟨g,hv.1⟩
theorem sf (x:Int)(w:World):Calls Tryz.prog 221 #[.slice none 0 0,ab x] w λe w'=>e=.returned (.tuple #[ab 0,.bool false])/\∃q,w'=w.drewN q:=by
 go_enter Tryz.func221,Tryz.ntmps221
 go_wp2;go_loopw [7,8] (λs t w'=>s=ab 0/\t=ab 0/\w=w') (λ_ _ _=>0)
 case atStart=>exact⟨rfl,rfl,rfl⟩
 case round =>
  obtain⟨rfl,rfl,rfl⟩:=hrel
  go_wp2;exact bodyPost_ret (v:=.tuple #[ab 0,.bool false]) (by simp [results,Tryz.results221,go_sem]) rfl ⟨rfl,0,rfl⟩
theorem lA (h:Own w base 3 a n cap (ints L))(hn:n<4611686018427387904)(hs:L.Pairwise (·<=·))(x:Int) :
  Calls Tryz.prog 221 #[.slice a n cap,ab x] w λe w'=>e=.returned (.tuple #[ab (L.countP (·<x):Nat),.bool (L.contains x)])/\∃q,w'=w.drewN q:=by
 cases a with
 | none =>
  obtain⟨rfl,rfl,rfl⟩:=Dg h
  exact sf x w
 | some p =>
  obtain⟨g,rfl⟩:=yA h
  have hl:=tX h
  have h2:=Any.slices_BinarySearch_int Hr g 0 n cap L x w (by omega) hn (nS h) (by rw [List.take_of_length_le (by omega)];exact hs)
  rw [List.take_of_length_le (by omega)] at h2;exact h2
theorem sr (h:Own w base 3 a n cap (ints L))(hb:base<=w.heap.size)(hn:n<=4096)(x:Int) :
  Calls Tryz.prog 273 #[.slice a n cap,ab n,.slice (some ⟨w.heap.size,0,none⟩) 1 1] (w.alloc (Obj.cells #[ab x] 3)) λe w'=>∃a' cap',e=.returned (.slice a' (n+1) cap')/\Own w' base 3 a' (n+1) cap' (ints (L++[x]))/\Gr a a' w w':=by
 have hc:=h.read.cap_
 have hm:cap<=maxLen:=by
  rcases h.row.2 with ⟨h1,h2⟩|⟨g,c,cur,hv,_,_,_,h4,_⟩
  ·simp only [Value.slice.injEq] at h1;unfold maxLen;omega
  ·simp only [Value.slice.injEq] at hv;omega
 unfold maxLen at hm;obtain⟨a',cap',w',hrun,hO,hG⟩:=tu x (.inl h) hb (by omega)
 have ON:=ae hrun
 have HO:=ae hO
 have HG:=ae hG
 clear hrun hO hG h;obtain⟨w1,hw1⟩:∃w1,w1=w.alloc (Obj.cells #[ab x] 3):=⟨_,rfl⟩
 obtain⟨vb,hvb⟩:∃vb,vb=w.heap.size:=⟨_,rfl⟩
 rw [<-hw1,<-hvb] at ON;rw [<-hw1,<-hvb];clear hw1 hvb;go_enter Tryz.func273,Tryz.ntmps273
 go_wp2_with (first|(at_builtin;refine aw rfl _ _ 42 rfl _ _ rfl rfl _ w' ON.out ?_))
 all_goals
  go_ret;exact⟨a',cap',rfl,HO.out,HG.out⟩
end Go.Proofs.YtmhinfbkmjdgfaaGreatDoor.P
namespace Go.Proofs.YtmhinfbkmjdgfaaGreatDoor.P
open Go.RowKit
variable {m v x:Int}{L:List Int}
def qU (L:List Int):Prop:=L.Pairwise (·<·)
theorem qU.le (h:qU L):L.Pairwise (·<=·):=List.Pairwise.imp (λh=>Int.le_of_lt h) h
theorem sw (h:∀y∈L,y<v):L.countP (·<v)=L.length:=by
 rw [List.countP_eq_length];intro y hy;exact decide_eq_true (h y hy)
theorem oI (h:∀y∈L,y<v):L.contains v=false:=by
 rw [Bool.eq_false_iff];intro hc;have:=h v (by simpa using hc)
 omega
def out (L:List Int)(n:Int):List Int:=L.filter (λy=>y != n)
theorem xg (h:qU L)(hv:∀y∈L,y<v):qU (L++[v]):=by
 unfold qU;rw [List.pairwise_append];exact⟨h,List.pairwise_singleton _ _,λa ha b hb=>by rw [List.mem_singleton] at hb;subst hb;exact hv a ha⟩
structure Iv (m x:Int)(L:List Int):Prop where
 m1:1<=m
 m2:m<=32
 len:(L.length:Int)<=m
 qL:qU L
 lo:∀y∈L,0<=y
 hi:∀y∈L,y<x
 x1:0<=x
 x2:x<=65536
def dI (m x:Int)(L:List Int):Bool:=decide (m<=(L.length:Int)\/65535<x)
def Ej (m x:Int)(L:List Int):Int:=if dI m x L then 13 else 0
def Fm (m x:Int)(L:List Int):Int:=if dI m x L then 0 else x
def AD (m x:Int)(L:List Int):Int:=if dI m x L then x else x+1
def xt (m x:Int)(L:List Int):List Int:=if dI m x L then L else L++[x]
theorem Iv.spawn (h:Iv m x L):Iv m (AD m x L) (xt m x L):=by
 unfold AD xt;by_cases hf:dI m x L=true
 ·rw [if_pos hf,if_pos hf];exact h
 ·rw [if_neg hf,if_neg hf]
  unfold dI at hf;have hf2:¬(m<=(L.length:Int)\/65535<x):=λe=>hf (decide_eq_true e)
  have:=h.x1
  refine⟨h.m1,h.m2,by simp;omega,xg h.qL h.hi,λy hy=>?_,λy hy=>?_,by omega,by omega⟩
  ·rcases List.mem_append.1 hy with e|e
   ·exact h.lo y e
   ·rw [List.mem_singleton] at e;omega
  ·rcases List.mem_append.1 hy with e|e
   ·have:=h.hi y e;omega
   ·rw [List.mem_singleton] at e;omega
theorem Iv.start (h1:1<=m)(h2:m<=32):Iv m 1 [0]:=⟨h1,h2,by simp;omega,List.pairwise_singleton _ _,by simp,by simp,by omega,by omega⟩
theorem Iv.iM (h:Iv m x L):L.length<=32:=by have:=h.len;have:=h.m2;omega
structure Ob (w:World)(base g:Nat)(m x:Int)(pa:Option Addr)(cap:Nat)(L:List Int):Prop where
 c0:w.cell? ⟨g,0,none⟩=some (ab m)
 c1:aM w ⟨g,1,none⟩ (ab x)
 c2:aM w ⟨g,2,none⟩ (.slice pa L.length cap)
 own:Own w base 3 pa L.length cap (ints L)
 ap:∀k,aI pa k->k≠g
 lo:base<=g
variable {w w':World}{base g:Nat}{m x:Int}{pa:Option Addr}{cap:Nat}{L:List Int}
theorem Ob.lt (h:Ob w base g m x pa cap L):g<w.heap.size:=World.block_lt_of_cell? _ _ h.c0
theorem Ob.but {S:Nat->Prop}(h:Ob w base g m x pa cap L)(hb:aj S w w')(h1:¬S g)(h2:∀k,aI pa k->¬S k):Ob w' base g m x pa cap L :=
 ⟨an hb h.c0 h1,h.c1.but hb h1,h.c2.but hb h1,h.own.but hb h2,h.ap,h.lo⟩
theorem Ob.later (h:Ob w base g m x pa cap L)(hb:Below w.heap.size w w'):Ob w' base g m x pa cap L:=h.but (S:=λ_=>False) (aj.of hb) (λh=>h) (λ_ _ h=>h)
theorem Ob.hb (h:Ob w base g m x pa cap L):base<=w.heap.size:=by have:=h.lo;have:=h.lt;omega
structure Rd (w w':World)(g:Nat)(pa pa':Option Addr):Prop where
 but:aj (λk=>k=g\/aI pa k) w w'
 on:∀k,aI pa' k->aI pa k\/w.heap.size<=k
theorem Rd.refl (g:Nat)(pa:Option Addr)(h:Below w.heap.size w w'):Rd w w' g pa pa:=⟨aj.of h,λ_ h=>.inl h⟩
theorem Rd.below {pa':Option Addr}{u:World}(h:Rd w w' g pa pa')(ho:Ob w base g m x pa cap L)(hb:Below base u w):Below base u w' :=
 ⟨h.but.os.trans hb.os,h.but.tape.trans hb.tape,h.but.output.trans hb.output,Nat.le_trans hb.size h.but.size,λk hk=>(h.but.block k (by have:=ho.hb;omega) (λe=>by
  rcases e with e|e
  ·have:=ho.lo;omega
  ·have:=ho.own.dB k e;omega)).trans (hb.block k hk)⟩
theorem Ob.put {pb:Option Addr}{c:Nat}{M:List Int}(h:Ob w base g m x pa cap L)(hG:Gr pa pb w w')(ho:Own w' base 3 pb M.length c (ints M)):Ob (w'.setCell ⟨g,2,none⟩ (.slice pb M.length c)) base g m x pb c M/\Rd w (w'.setCell ⟨g,2,none⟩ (.slice pb M.length c)) g pa pb:=by
 have hn:¬aI pa g:=λe=>h.ap g e rfl
 have hap:∀k,aI pb k->k≠g:=λk hk=>by
  rcases hG.on k hk with e|e
  ·exact h.ap k e
  ·have:=h.lt;omega
 exact⟨⟨by rw [World.cell?_setCell_other _ _ _ _ (by simp)];exact an hG.but h.c0 hn,(h.c1.but hG.but hn).other (by simp),(h.c2.but hG.but hn).put,ho.but ((aj.refl (λk=>k=g) w').setCell (p:=⟨g,2,none⟩) rfl _) hap,hap,h.lo⟩,
  (hG.but.mono (λk hk=>.inr hk)).setCell (.inl rfl) _,λk hk=>hG.on k hk⟩
theorem Ob.El (h:Ob w base g m x pa cap L)(y:Int):Ob (w.setCell ⟨g,1,none⟩ (ab y)) base g m y pa cap L/\aj (λk=>k=g) w (w.setCell ⟨g,1,none⟩ (ab y)):=by
 have hb:aj (λk=>k=g) w (w.setCell ⟨g,1,none⟩ (ab y)):=(aj.refl (λk=>k=g) w).setCell (p:=⟨g,1,none⟩) rfl _
 exact⟨⟨by rw [World.cell?_setCell_other _ _ _ _ (by simp)];exact h.c0,h.c1.put,h.c2.other (by simp),h.own.but hb h.ap,h.ap,h.lo⟩,hb⟩
theorem kA (h:Ob w base g m x pa cap L)(hs:qU L)(hl:L.length<=4096)(v:Int)(hv:∀y∈L,y<v) :
  Calls Tryz.prog 207 #[.pointer (some ⟨g,2,none⟩),ab v] w λe w'=>∃pa' cap',e=.returned (.tuple #[])/\Ob w' base g m x pa' cap' (L++[v])/\Rd w w' g pa pa':=by
 have hse:=ae (lA h.own (by omega) hs.le v)
 rw [sw hv,oI hv] at hse;have c2:=h.c2.1
 have hQ:=ae (λ(U:World) (hU:Below w.heap.size w U)=>h.later hU)
 clear h hs hv;go_enter Tryz.func207,Tryz.ntmps207
 go_upto_region 2 with (first|(go_at_call 221;refine hse.out.mono ?_;rintro e w1 ⟨rfl,hq⟩;have OI:Hid (Below w.heap.size w w1):=(by obtain⟨q,rfl⟩:=hq;exact below_drewN (Below.refl _ _) q);clear hq))
 have hR1:=hQ.out _ OI.out
 have hin:=ae (sr hR1.own hR1.hb hl v)
 have d2:=hR1.c2.1
 have PB:=ae hR1
 have hst:Hid (∀a' cap' w2,Own w2 base 3 a' (L.length+1) cap' (ints (L++[v]))->Gr pa a' w1 w2->aM w2 ⟨g,2,none⟩ (.slice pa L.length cap)/\Ob (w2.setCell ⟨g,2,none⟩ (.slice a' (L.length+1) cap')) base g m x a' cap' (L++[v])/\Rd w (w2.setCell ⟨g,2,none⟩ (.slice a' (L.length+1) cap')) g pa a'):=λa' cap' w2 ho hG=>by
  have hlen:(L++[v]).length=L.length+1:=by simp
  rw [<-hlen] at ho ⊢
  obtain⟨p1,p2⟩:=PB.out.put hG ho
  refine⟨PB.out.c2.but hG.but (λe=>PB.out.ap g e rfl),p1,(aj.of OI.out).trans p2.but,λk hk=>?_⟩
  rcases p2.on k hk with e|e
  ·exact .inl e
  ·exact .inr (Nat.le_trans OI.out.size e)
 clear hR1 PB hse;go_wp2_with (first|(go_at_call 273;refine hin.out.mono ?_;rintro e w2 ⟨a',cap',rfl,ho,hG⟩;obtain⟨⟨e2,f2⟩,hfin⟩:=hst.out _ _ _ ho hG;have P9:=ae hfin;clear hfin ho hG))
 exact bodyPost_end (by simp [results,Tryz.results207,go_sem]) rfl ⟨a',cap',rfl,P9.out.1,P9.out.2⟩
theorem pQ (h:Ob w base g m x pa cap L):Calls Tryz.prog 307 #[.pointer (some ⟨g,2,none⟩)] w λe w'=>e=.returned (ab (L.length:Int))/\w'=w:=by
 have c2:=h.c2.1
 clear h;go_enter Tryz.func307,Tryz.ntmps307
 go_wp2;go_ret;exact⟨rfl,rfl⟩
theorem cI (h:Ob w base g m x pa cap L)(hs:qU L)(hl:L.length<=4096)(v:Int):Calls Tryz.prog 134 #[.pointer (some ⟨g,2,none⟩),ab v] w λe w'=>e=.returned (.bool (L.contains v))/\∃q,w'=w.drewN q:=by
 have hse:=ae (lA h.own (by omega) hs.le v)
 have c2:=h.c2.1
 clear h hs;generalize L.contains v=bb at *
 go_enter Tryz.func134,Tryz.ntmps134
 go_wp2_with (first|(go_at_call 221;refine hse.out.mono ?_;rintro e w1 ⟨rfl,hq⟩;have HQ:=ae hq;clear hq))
 go_ret;exact⟨rfl,HQ.out⟩
end Go.Proofs.YtmhinfbkmjdgfaaGreatDoor.P
namespace Go.Proofs.YtmhinfbkmjdgfaaGreatDoor.P
open Go.RowKit
variable {w w':World}{base g:Nat}{m x:Int}{pa:Option Addr}{cap:Nat}{L:List Int}
theorem cu (m:Int)(w:World)(h1:1<=m)(h2:m<=32) :
  Calls Tryz.prog 128 #[ab m] w λe w'=>∃g pa cap,e=.returned (.tuple #[aq g,ab 0])/\Ob w' w.heap.size g m 1 pa cap [0]/\Below w.heap.size w w':=by
 have hd1:decide (m<1)=false:=decide_eq_false (by omega)
 have hd2:decide (m>32)=false:=decide_eq_false (by omega)
 obtain⟨g,hg⟩:∃g,g=w.heap.size:=⟨_,rfl⟩
 have hO:Ob (w.alloc (.cells #[ab m,ab 1,.slice none 0 0] 226)) w.heap.size w.heap.size m 1 none 0 []:=⟨by simp [go_sem],⟨by simp [go_sem],by simp [go_sem]⟩,⟨by simp [go_sem],by simp [go_sem]⟩,Own.nil _ _ _,λk hk=>(by obtain⟨_,e,_⟩:=hk;cases e),Nat.le_refl _⟩
 have hp:=ae (kA hO List.Pairwise.nil (by simp) 0 (by simp))
 have hfin:Hid (∀w2 pa',Rd (w.alloc (.cells #[ab m,ab 1,.slice none 0 0] 226)) w2 w.heap.size none pa'->Below w.heap.size w w2):=λw2 pa' hr=>hr.below hO (ag _ _)
 clear hO h1 h2;go_enter Tryz.func128,Tryz.ntmps128
 go_wp2_with (first|(go_at_call 207;refine hp.out.mono ?_;rintro e w2 ⟨pa',cap',rfl,ho,hr⟩;have HO:=ae ho;have HB:=ae (hfin.out _ _ hr);clear ho hr))
 exact bodyPost_ret (v:=.tuple #[aq w.heap.size,ab 0]) (by simp [results,Tryz.results128,go_sem]) rfl ⟨w.heap.size,pa',cap',rfl,HO.out,HB.out⟩
theorem hJ (h:Ob w base g m x pa cap L)(hi:Iv m x L)(hf:m<=(L.length:Int)\/65535<x) :
  Calls Tryz.prog 235 #[aq g] w λe w'=>e=.returned (.tuple #[ab 0,ab 13])/\∃q,w'=w.drewN q:=by
 have hm:=ae (λq:Nat=>pQ (h.later (below_drewN (Below.refl w.heap.size w) q)))
 have c0:=h.c0
 have c1:=h.c1.1
 clear h hi;by_cases h1:m<=(L.length:Int)
 ·have hd:decide ((L.length:Int)>=m)=true:=decide_eq_true h1
  go_enter Tryz.func235,Tryz.ntmps235
  go_upto_region 1 with fail
  go_quiet (first|(go_at_call 307;refine Calls.quiet_of_same (hm.out _)))
  go_wp2;exact bodyPost_ret (v:=.tuple #[ab 0,ab 13]) (by simp [results,Tryz.results235,go_sem]) rfl ⟨rfl,_,rfl⟩
 ·have hd:decide ((L.length:Int)>=m)=false:=decide_eq_false h1
  have hd2:decide (x>65535)=true:=decide_eq_true (by omega)
  go_enter Tryz.func235,Tryz.ntmps235
  go_upto_region 1 with fail
  go_quiet (first|(go_at_call 307;refine Calls.quiet_of_same (hm.out _)))
  go_wp2;exact bodyPost_ret (v:=.tuple #[ab 0,ab 13]) (by simp [results,Tryz.results235,go_sem]) rfl ⟨rfl,_,rfl⟩
theorem rU (h:Ob w base g m x pa cap L)(hi:Iv m x L)(hf:¬(m<=(L.length:Int)\/65535<x)) :
  Calls Tryz.prog 235 #[aq g] w λe w'=>∃pa' cap',e=.returned (.tuple #[ab x,ab 0])/\Ob w' base g m (x+1) pa' cap' (L++[x])/\Rd w w' g pa pa':=by
 have hm:=ae (λq:Nat=>pQ (h.later (below_drewN (Below.refl w.heap.size w) q)))
 have hp:=ae (λ(U:World) (hU:Below w.heap.size w U)=>kA (h.later hU) hi.qL (by have:=hi.iM;omega) x hi.hi)
 have HO:=ae h
 have c0:=h.c0
 have c1:=h.c1.1
 have hx1:=hi.x1
 have hx2:x<=65535:=by omega
 clear h hi;have hd:decide ((L.length:Int)>=m)=false:=decide_eq_false (by omega)
 have hd2:decide (x>65535)=false:=decide_eq_false (by omega)
 clear hf;go_enter Tryz.func235,Tryz.ntmps235
 go_upto_region 1 with fail
 go_quiet (first|(go_at_call 307;refine Calls.quiet_of_same (hm.out _)))
 obtain⟨w1,hw1⟩:∃w1,w1=w.drewN nq:=⟨_,rfl⟩
 have OI:Hid (Below w.heap.size w w1):=by rw [hw1];exact below_drewN (Below.refl _ _) nq
 rw [<-hw1];clear hw1;replace c1:=cell_later OI.out c1
 clear c0 hm;go_upto_region 5 with (first|(go_at_call 207;refine (hp.out _ OI.out).mono ?_;rintro e w2 ⟨pa',cap',rfl,ho,hr⟩;have O0:=ae ho;have Pp:=ae hr;clear ho hr))
 clear c1;obtain⟨d1,f1⟩:=O0.out.c1
 have hs:=ae (O0.out.El (x+1))
 have hfin:Hid (Rd w (w2.setCell ⟨g,1,none⟩ (ab (x+1))) g pa pa'):=by
  refine⟨((aj.of OI.out).trans Pp.out.but).trans (hs.out.2.mono (λk hk=>.inl hk)),λk hk=>?_⟩
  rcases Pp.out.on k hk with e|e
  ·exact .inl e
  ·exact .inr (Nat.le_trans OI.out.size e)
 go_wp2;exact bodyPost_ret (v:=.tuple #[ab x,ab 0]) (by simp [results,Tryz.results235,go_sem]) rfl ⟨pa',cap',rfl,hs.out.1,hfin.out⟩
theorem wX (h:Ob w base g m x pa cap L)(hi:Iv m x L) :
  Calls Tryz.prog 235 #[aq g] w λe w'=>∃pa' cap',e=.returned (.tuple #[ab (Fm m x L),ab (Ej m x L)])/\Ob w' base g m (AD m x L) pa' cap' (xt m x L)/\Rd w w' g pa pa':=by
 unfold Fm Ej AD xt;by_cases hf:m<=(L.length:Int)\/65535<x
 ·rw [if_pos (show dI m x L=true from decide_eq_true hf),if_pos (show dI m x L=true from decide_eq_true hf),if_pos (show dI m x L=true from decide_eq_true hf),if_pos (show dI m x L=true from decide_eq_true hf)]
  refine (hJ h hi hf).mono ?_
  rintro e w' ⟨rfl,q,rfl⟩
  have hb:=below_drewN (Below.refl w.heap.size w) q
  exact⟨pa,cap,rfl,h.later hb,Rd.refl _ _ hb⟩
 ·have hff:¬dI m x L=true:=λe=>hf (of_decide_eq_true e)
  rw [if_neg hff,if_neg hff,if_neg hff,if_neg hff];exact rU h hi hf
theorem yH (h:Ob w base g m x pa cap L)(hi:Iv m x L)(n:Int):Calls Tryz.prog 62 #[aq g,ab n] w λe w'=>e=.returned (.bool (L.contains n))/\∃q,w'=w.drewN q:=by
 have hh:=ae (cI h hi.qL (by have:=hi.iM;omega) n)
 clear h hi;generalize L.contains n=bb at *
 go_enter Tryz.func62,Tryz.ntmps62
 go_wp2_with (first|(go_at_call 134;refine hh.out.mono ?_;rintro e w1 ⟨rfl,hq⟩;have HQ:=ae hq;clear hq))
 go_ret;exact⟨rfl,HQ.out⟩
end Go.Proofs.YtmhinfbkmjdgfaaGreatDoor.P
