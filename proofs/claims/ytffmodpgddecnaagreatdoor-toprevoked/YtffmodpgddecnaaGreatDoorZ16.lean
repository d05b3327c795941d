import Derived.Test.YtffmodpgddecnaaGreatDoorZ15
set_option linter.unusedVariables false
set_option linter.unusedSimpArgs false
set_option maxRecDepth 100000
set_option maxHeartbeats 1000000
namespace Go.Proofs.YtffmodpgddecnaaGreatDoor.P
open Go.RowKit
def jw (L:List Int):Prop:=L.Pairwise (·<·)
theorem jw.le {L:List Int}(h:jw L):L.Pairwise (·<=·):=List.Pairwise.imp (λh=>Int.le_of_lt h) h
theorem sU {L:List Int}{v:Int}(h:∀y∈L,y<v):L.countP (·<v)=L.length:=by
 rw [List.countP_eq_length];intro y hy;exact decide_eq_true (h y hy)
theorem oM {L:List Int}{v:Int}(h:∀y∈L,y<v):L.contains v=false:=by
 rw [Bool.eq_false_iff];intro hc;have:=h v (by simpa using hc)
 omega
def out (L:List Int)(n:Int):List Int:=L.filter (λy=>y != n)
theorem rH {L:List Int}{n:Int}(h:n∉L):out L n=L:=by
 unfold out;rw [List.filter_eq_self];intro y hy;simp only [bne_iff_ne,ne_eq];intro e;exact h (e ▸ hy)
theorem sX:∀{L:List Int} {n:Int},jw L->n∈L->L.countP (·<n)<L.length/\L.take (L.countP (·<n))++L.drop (L.countP (·<n)+1)=out L n
 | [],n,_,h=>by cases h
 | y::l,n,hr,h=>by
  have hr':=List.pairwise_cons.1 hr
  by_cases h1:y<n
  ·have hn:n∈l:=by
    rcases List.mem_cons.1 h with e|e
    ·omega
    ·exact e
   obtain⟨i1,i2⟩:=sX (L:=l) hr'.2 hn
   have hc:(y::l).countP (·<n)=l.countP (·<n)+1:=by rw [List.countP_cons,if_pos (decide_eq_true h1)]
   have hf:out (y::l) n=y::out l n:=by
    unfold out;rw [List.filter_cons,if_pos (by simp;omega)]
   rw [hc,hf];refine⟨by simp;omega,?_⟩
   rw [List.take_succ_cons,List.drop_succ_cons,List.cons_append,i2]
  ·have hy:y=n:=by
    rcases List.mem_cons.1 h with e|e
    ·exact e.symm
    ·have:=hr'.1 n e;omega
   subst hy;have hl:∀z∈l,y<z:=hr'.1
   have hc:(y::l).countP (·<y)=0:=by
    rw [List.countP_eq_zero];intro z hz;rcases List.mem_cons.1 hz with e|e
    ·subst e;simp
    ·have:=hl z e;simp;omega
   have hf:out (y::l) y=l:=by
    unfold out;rw [List.filter_cons,if_neg (by simp)];exact rH (λe=>by have:=hl y e;omega)
   rw [hc,hf];exact⟨by simp,by simp⟩
theorem En {L:List Int}{n:Int}(hr:jw L)(h:n∈L):(out L n).length+1=L.length:=by
 obtain⟨h1,h2⟩:=sX hr h
 rw [<-h2];simp
 omega
theorem js {L:List Int}{n y:Int}:y∈out L n↔y∈L/\y≠n:=by simp [out]
theorem zD {L:List Int}{n:Int}(h:jw L):jw (out L n):=List.Pairwise.filter _ h
theorem FI (L:List Int)(n:Int):(out L n).length<=L.length:=List.length_filter_le _ _
theorem wF {L:List Int}{v:Int}(h:jw L)(hv:∀y∈L,y<v):jw (L++[v]):=by
 unfold jw;rw [List.pairwise_append];exact⟨h,List.pairwise_singleton _ _,λa ha b hb=>by rw [List.mem_singleton] at hb;subst hb;exact hv a ha⟩
structure Iv (m x:Int)(L:List Int):Prop where
 m1:1<=m
 m2:m<=32
 len:(L.length:Int)<=m
 iE:jw L
 lo:∀y∈L,0<=y
 hi:∀y∈L,y<x
 x1:0<=x
 x2:x<=65536
def dF (m x:Int)(L:List Int):Bool:=decide (m<=(L.length:Int)\/65535<x)
def E7 (m x:Int)(L:List Int):Int:=if dF m x L then 13 else 0
def Gs (m x:Int)(L:List Int):Int:=if dF m x L then 0 else x
def zl (m x:Int)(L:List Int):Int:=if dF m x L then x else x+1
def yY (m x:Int)(L:List Int):List Int:=if dF m x L then L else L++[x]
theorem Iv.spawn {m x:Int}{L:List Int}(h:Iv m x L):Iv m (zl m x L) (yY m x L):=by
 unfold zl yY;by_cases hf:dF m x L=true
 ·rw [if_pos hf,if_pos hf];exact h
 ·rw [if_neg hf,if_neg hf]
  unfold dF at hf;have hf2:¬(m<=(L.length:Int)\/65535<x):=λe=>hf (decide_eq_true e)
  have:=h.x1
  refine⟨h.m1,h.m2,by simp;omega,wF h.iE h.hi,λy hy=>?_,λy hy=>?_,by omega,by omega⟩
  ·rcases List.mem_append.1 hy with e|e
   ·exact h.lo y e
   ·rw [List.mem_singleton] at e;omega
  ·rcases List.mem_append.1 hy with e|e
   ·have:=h.hi y e;omega
   ·rw [List.mem_singleton] at e;omega
def Kg (L:List Int)(n:Int):Int:=if L.contains n then 0 else 20
theorem Iv.exit {m x:Int}{L:List Int}(h:Iv m x L)(n:Int):Iv m x (out L n) :=
 ⟨h.m1,h.m2,by have:=h.len;have:=FI L n;omega,zD h.iE,λy hy=>h.lo y (js.1 hy).1,λy hy=>h.hi y (js.1 hy).1,h.x1,h.x2⟩
theorem Iv.start {m:Int}(h1:1<=m)(h2:m<=32):Iv m 1 [0]:=⟨h1,h2,by simp;omega,List.pairwise_singleton _ _,by simp,by simp,by omega,by omega⟩
theorem Iv.dK {m x:Int}{L:List Int}(h:Iv m x L):L.length<=32:=by have:=h.len;have:=h.m2;omega
structure Ob (w:World)(base g:Nat)(m x:Int)(pa:Option Addr)(cap:Nat)(L:List Int):Prop where
 c0:w.cell? ⟨g,0,none⟩=some (.int .i64 m)
 c1:az w ⟨g,1,none⟩ (.int .i64 x)
 c2:az w ⟨g,2,none⟩ (.slice pa L.length cap)
 own:Own w base 3 pa L.length cap (ints L)
 ap:∀k,aJ pa k->k≠g
 lo:base<=g
variable {w w':World}{base g:Nat}{m x:Int}{pa:Option Addr}{cap:Nat}{L:List Int}
theorem Ob.lt (h:Ob w base g m x pa cap L):g<w.heap.size:=World.block_lt_of_cell? _ _ h.c0
theorem Ob.but {S:Nat->Prop}(h:Ob w base g m x pa cap L)(hb:ah S w w')(h1:¬S g)(h2:∀k,aJ pa k->¬S k):Ob w' base g m x pa cap L :=
 ⟨ag hb h.c0 h1,h.c1.but hb h1,h.c2.but hb h1,h.own.but hb h2,h.ap,h.lo⟩
theorem Ob.later (h:Ob w base g m x pa cap L)(hb:Below w.heap.size w w'):Ob w' base g m x pa cap L:=h.but (S:=λ_=>False) (ah.of hb) (λh=>h) (λ_ _ h=>h)
theorem Ob.hb (h:Ob w base g m x pa cap L):base<=w.heap.size:=by have:=h.lo;have:=h.lt;omega
structure Rd (w w':World)(g:Nat)(pa pa':Option Addr):Prop where
 but:ah (λk=>k=g\/aJ pa k) w w'
 on:∀k,aJ pa' k->aJ pa k\/w.heap.size<=k
theorem Rd.refl (g:Nat)(pa:Option Addr)(h:Below w.heap.size w w'):Rd w w' g pa pa:=⟨ah.of h,λ_ h=>.inl h⟩
theorem Rd.below {pa':Option Addr}{u:World}(h:Rd w w' g pa pa')(ho:Ob w base g m x pa cap L)(hb:Below base u w):Below base u w' :=
 ⟨h.but.os.trans hb.os,h.but.tape.trans hb.tape,h.but.output.trans hb.output,Nat.le_trans hb.size h.but.size,λk hk=>(h.but.block k (by have:=ho.hb;omega) (λe=>by
  rcases e with e|e
  ·have:=ho.lo;omega
  ·have:=ho.own.bT k e;omega)).trans (hb.block k hk)⟩
theorem Ob.put {pb:Option Addr}{c:Nat}{M:List Int}(h:Ob w base g m x pa cap L)(hG:Gr pa pb w w')(ho:Own w' base 3 pb M.length c (ints M)):Ob (w'.setCell ⟨g,2,none⟩ (.slice pb M.length c)) base g m x pb c M/\Rd w (w'.setCell ⟨g,2,none⟩ (.slice pb M.length c)) g pa pb:=by
 have hn:¬aJ pa g:=λe=>h.ap g e rfl
 have hap:∀k,aJ pb k->k≠g:=λk hk=>by
  rcases hG.on k hk with e|e
  ·exact h.ap k e
  ·have:=h.lt;omega
 exact⟨⟨by rw [World.cell?_setCell_other _ _ _ _ (by simp)];exact ag hG.but h.c0 hn,(h.c1.but hG.but hn).other (by simp),(h.c2.but hG.but hn).put,ho.but ((ah.refl (λk=>k=g) w').setCell (p:=⟨g,2,none⟩) rfl _) hap,hap,h.lo⟩,
  (hG.but.mono (λk hk=>.inr hk)).setCell (.inl rfl) _,λk hk=>hG.on k hk⟩
theorem Ob.DT (h:Ob w base g m x pa cap L)(y:Int):Ob (w.setCell ⟨g,1,none⟩ (.int .i64 y)) base g m y pa cap L/\ah (λk=>k=g) w (w.setCell ⟨g,1,none⟩ (.int .i64 y)):=by
 have hb:ah (λk=>k=g) w (w.setCell ⟨g,1,none⟩ (.int .i64 y)):=(ah.refl (λk=>k=g) w).setCell (p:=⟨g,1,none⟩) rfl _
 exact⟨⟨by rw [World.cell?_setCell_other _ _ _ _ (by simp)];exact h.c0,h.c1.put,h.c2.other (by simp),h.own.but hb h.ap,h.ap,h.lo⟩,hb⟩
theorem kQ (h:Ob w base g m x pa cap L)(hs:jw L)(hl:L.length<=4096)(v:Int)(hv:∀y∈L,y<v) :
  Calls Tryz.prog 172 #[.pointer (some ⟨g,2,none⟩),.int .i64 v] w λe w'=>∃pa' cap',e=.returned (.tuple #[])/\Ob w' base g m x pa' cap' (L++[v])/\Rd w w' g pa pa':=by
 have hse:=ab (fF h.own (by omega) hs.le v)
 rw [sU hv,oM hv] at hse;have c2:=h.c2.1
 have hQ:=ab (λ(U:World) (hU:Below w.heap.size w U)=>h.later hU)
 clear h hs hv;go_enter Tryz.func172,Tryz.ntmps172
 go_upto_region 2 with (first|(go_at_call 178;refine hse.out.mono ?_;rintro e w1 ⟨rfl,hq⟩;have PC:Hid (Below w.heap.size w w1):=(by obtain⟨q,rfl⟩:=hq;exact below_drewN (Below.refl _ _) q);clear hq))
 have hR1:=hQ.out _ PC.out
 have hin:=ab (uk hR1.own hR1.hb hl v)
 have d2:=hR1.c2.1
 have QD:=ab hR1
 have hst:Hid (∀a' cap' w2,Own w2 base 3 a' (L.length+1) cap' (ints (L++[v]))->Gr pa a' w1 w2->az w2 ⟨g,2,none⟩ (.slice pa L.length cap)/\Ob (w2.setCell ⟨g,2,none⟩ (.slice a' (L.length+1) cap')) base g m x a' cap' (L++[v])/\Rd w (w2.setCell ⟨g,2,none⟩ (.slice a' (L.length+1) cap')) g pa a'):=λa' cap' w2 ho hG=>by
  have hlen:(L++[v]).length=L.length+1:=by simp
  rw [<-hlen] at ho ⊢
  obtain⟨p1,p2⟩:=QD.out.put hG ho
  refine⟨QD.out.c2.but hG.but (λe=>QD.out.ap g e rfl),p1,(ah.of PC.out).trans p2.but,λk hk=>?_⟩
  rcases p2.on k hk with e|e
  ·exact .inl e
  ·exact .inr (Nat.le_trans PC.out.size e)
 clear hR1 QD hse;go_wp2_with (first|(go_at_call 243;refine hin.out.mono ?_;rintro e w2 ⟨a',cap',rfl,ho,hG⟩;obtain⟨⟨e2,f2⟩,hfin⟩:=hst.out _ _ _ ho hG;have PX:=ab hfin;clear hfin ho hG))
 exact bodyPost_end (by simp [results,Tryz.results172,go_sem]) rfl ⟨a',cap',rfl,PX.out.1,PX.out.2⟩
theorem qX (h:Ob w base g m x pa cap L):Calls Tryz.prog 272 #[.pointer (some ⟨g,2,none⟩)] w λe w'=>e=.returned (.int .i64 (L.length:Int))/\w'=w:=by
 have c2:=h.c2.1
 clear h;go_enter Tryz.func272,Tryz.ntmps272
 go_wp2;go_ret;exact⟨rfl,rfl⟩
theorem aX (h:Ob w base g m x pa cap L)(hs:jw L)(hl:L.length<=4096)(v:Int):Calls Tryz.prog 100 #[.pointer (some ⟨g,2,none⟩),.int .i64 v] w λe w'=>e=.returned (.bool (L.contains v))/\∃q,w'=w.drewN q:=by
 have hse:=ab (fF h.own (by omega) hs.le v)
 have c2:=h.c2.1
 clear h hs;generalize L.contains v=bb at *
 go_enter Tryz.func100,Tryz.ntmps100
 go_wp2_with (first|(go_at_call 178;refine hse.out.mono ?_;rintro e w1 ⟨rfl,hq⟩;have HQ:=ab hq;clear hq))
 go_ret;exact⟨rfl,HQ.out⟩
theorem gW (h:Ob w base g m x pa cap L)(hl:L.length<=4096):Calls Tryz.prog 198 #[.pointer (some ⟨g,2,none⟩)] w λe w'=>∃p c,e=.returned (.slice p L.length c)/\Own w' w.heap.size 3 p L.length c (ints L)/\Below w.heap.size w w':=by
 have hc:=ab (vZ h.own hl)
 have c2:=h.c2.1
 clear h;go_enter Tryz.func198,Tryz.ntmps198
 go_wp2_with (first|(go_at_call 277;refine hc.out.mono ?_;rintro e w1 ⟨p,c,rfl,ho,hb⟩;have HO:=ab ho;have HB:=ab hb;clear ho hb))
 go_ret;exact⟨p,c,rfl,HO.out,HB.out⟩
theorem yy (h:Ob w base g m x pa cap L)(hs:jw L)(hl:L.length<=4096)(v:Int)(hv:v∈L) :
  Calls Tryz.prog 282 #[.pointer (some ⟨g,2,none⟩),.int .i64 v] w λe w'=>∃cap',e=.returned (.bool true)/\Ob w' base g m x pa cap' (out L v)/\Rd w w' g pa pa:=by
 have hse:=ab (fF h.own (by omega) hs.le v)
 obtain⟨hi,ho⟩:=sX hs hv
 have hol:=En hs hv
 obtain⟨i,hii⟩:∃i,i=L.countP (·<v):=⟨_,rfl⟩
 have hcv:L.contains v=true:=by simpa using hv
 rw [<-hii,hcv] at hse;rw [<-hii] at hi ho;obtain⟨ga,rfl⟩:=h.own.form (by omega)
 have c2:=h.c2.1
 have hQ:=ab (λ(U:World) (hU:Below w.heap.size w U)=>h.later hU)
 have HO:=ab ho
 have hgn:Hid (∀k,k=ga↔aJ (some ⟨ga,0,none⟩) k):=λk=>⟨λe=>⟨_,rfl,e.symm⟩,λ⟨_,e1,e2⟩=>by cases e1;exact e2.symm⟩
 clear h hs hv hii hcv ho;go_enter Tryz.func282,Tryz.ntmps282
 go_upto_region 3 with (first|(go_at_call 178;refine hse.out.mono ?_;rintro e w1 ⟨rfl,hq⟩;have PC:Hid (Below w.heap.size w w1):=(by obtain⟨q,rfl⟩:=hq;exact below_drewN (Below.refl _ _) q);clear hq))
 have hR1:=hQ.out _ PC.out
 have hde:=ab (tM hR1.own i hi)
 have d2:=hR1.c2.1
 have QD:=ab hR1
 have hst:Hid (∀w2,Own w2 base 3 (some ⟨ga,0,none⟩) (L.length - 1) cap (ints (L.take i++L.drop (i+1)))->ah (λk=>k=ga) w1 w2->az w2 ⟨g,2,none⟩ (.slice (some ⟨ga,0,none⟩) L.length cap)/\Ob (w2.setCell ⟨g,2,none⟩ (.slice (some ⟨ga,0,none⟩) (L.length - 1) cap)) base g m x (some ⟨ga,0,none⟩) cap (out L v)/\Rd w (w2.setCell ⟨g,2,none⟩ (.slice (some ⟨ga,0,none⟩) (L.length - 1) cap)) g (some ⟨ga,0,none⟩) (some ⟨ga,0,none⟩)):=λw2 ho hb=>by
  have hlen:L.length - 1=(out L v).length:=by omega
  rw [HO.out,hlen] at ho;rw [hlen];have hG:Gr (some ⟨ga,0,none⟩) (some ⟨ga,0,none⟩) w1 w2:=⟨hb.mono (λk hk=>(hgn.out k).1 hk),λk hk=>.inl hk⟩
  obtain⟨p1,p2⟩:=QD.out.put hG ho
  refine⟨QD.out.c2.but hG.but (λe=>QD.out.ap g e rfl),p1,(ah.of PC.out).trans p2.but,λk hk=>.inl hk⟩
 clear hR1 QD hse hol;go_wp2_with (first|(go_at_call 341;refine hde.out.mono ?_;rintro e w2 ⟨rfl,ho,hb⟩;obtain⟨⟨e2,f2⟩,hfin⟩:=hst.out _ ho hb;have PX:=ab hfin;clear hfin ho hb))
 go_ret;exact⟨cap,rfl,PX.out.1,PX.out.2⟩
theorem D8 (h:Ob w base g m x pa cap L)(hs:jw L)(hl:L.length<=4096)(v:Int)(hv:v∉L) :
  Calls Tryz.prog 282 #[.pointer (some ⟨g,2,none⟩),.int .i64 v] w λe w'=>e=.returned (.bool false)/\∃q,w'=w.drewN q:=by
 have hse:=ab (fF h.own (by omega) hs.le v)
 have hcv:L.contains v=false:=by simpa using hv
 rw [hcv] at hse;have c2:=h.c2.1
 clear h hs hv hcv;go_enter Tryz.func282,Tryz.ntmps282
 go_wp2_with (first|(go_at_call 178;refine hse.out.mono ?_;rintro e w1 ⟨rfl,hq⟩;have HQ:=ab hq;clear hq))
 go_ret;exact⟨rfl,HQ.out⟩
end Go.Proofs.YtffmodpgddecnaaGreatDoor.P
namespace Go.Proofs.YtffmodpgddecnaaGreatDoor.P
open Go.RowKit
variable {w w':World}{base g:Nat}{m x:Int}{pa:Option Addr}{cap:Nat}{L:List Int}
theorem bU (m:Int)(w:World)(h1:1<=m)(h2:m<=32) :
  Calls Tryz.prog 95 #[.int .i64 m] w λe w'=>∃g pa cap,e=.returned (.tuple #[.pointer (some ⟨g,0,none⟩),.int .i64 0])/\Ob w' w.heap.size g m 1 pa cap [0]/\Below w.heap.size w w':=by
 have hd1:decide (m<1)=false:=decide_eq_false (by omega)
 have hd2:decide (m>32)=false:=decide_eq_false (by omega)
 obtain⟨g,hg⟩:∃g,g=w.heap.size:=⟨_,rfl⟩
 have hO:Ob (w.alloc (.cells #[.int .i64 m,.int .i64 1,.slice none 0 0] 173)) w.heap.size w.heap.size m 1 none 0 []:=⟨by simp [go_sem],⟨by simp [go_sem],by simp [go_sem]⟩,⟨by simp [go_sem],by simp [go_sem]⟩,Own.nil _ _ _,λk hk=>(by obtain⟨_,e,_⟩:=hk;cases e),Nat.le_refl _⟩
 have hp:=ab (kQ hO List.Pairwise.nil (by simp) 0 (by simp))
 have hfin:Hid (∀w2 pa',Rd (w.alloc (.cells #[.int .i64 m,.int .i64 1,.slice none 0 0] 173)) w2 w.heap.size none pa'->Below w.heap.size w w2):=λw2 pa' hr=>hr.below hO (ae _ _)
 clear hO h1 h2;go_enter Tryz.func95,Tryz.ntmps95
 go_wp2_with (first|(go_at_call 172;refine hp.out.mono ?_;rintro e w2 ⟨pa',cap',rfl,ho,hr⟩;have HO:=ab ho;have HB:=ab (hfin.out _ _ hr);clear ho hr))
 exact bodyPost_ret (v:=.tuple #[.pointer (some ⟨w.heap.size,0,none⟩),.int .i64 0]) (by simp [results,Tryz.results95,go_sem]) rfl ⟨w.heap.size,pa',cap',rfl,HO.out,HB.out⟩
theorem iI (h:Ob w base g m x pa cap L)(hi:Iv m x L)(hf:m<=(L.length:Int)\/65535<x) :
  Calls Tryz.prog 192 #[.pointer (some ⟨g,0,none⟩)] w λe w'=>e=.returned (.tuple #[.int .i64 0,.int .i64 13])/\∃q,w'=w.drewN q:=by
 have hm:=ab (λq:Nat=>qX (h.later (below_drewN (Below.refl w.heap.size w) q)))
 have c0:=h.c0
 have c1:=h.c1.1
 clear h hi;by_cases h1:m<=(L.length:Int)
 ·have hd:decide ((L.length:Int)>=m)=true:=decide_eq_true h1
  go_enter Tryz.func192,Tryz.ntmps192
  go_upto_region 1 with fail
  go_quiet (first|(go_at_call 272;refine Calls.quiet_of_same (hm.out _)))
  go_wp2;exact bodyPost_ret (v:=.tuple #[.int .i64 0,.int .i64 13]) (by simp [results,Tryz.results192,go_sem]) rfl ⟨rfl,_,rfl⟩
 ·have hd:decide ((L.length:Int)>=m)=false:=decide_eq_false h1
  have hd2:decide (x>65535)=true:=decide_eq_true (by omega)
  go_enter Tryz.func192,Tryz.ntmps192
  go_upto_region 1 with fail
  go_quiet (first|(go_at_call 272;refine Calls.quiet_of_same (hm.out _)))
  go_wp2;exact bodyPost_ret (v:=.tuple #[.int .i64 0,.int .i64 13]) (by simp [results,Tryz.results192,go_sem]) rfl ⟨rfl,_,rfl⟩
theorem sV (h:Ob w base g m x pa cap L)(hi:Iv m x L)(hf:¬(m<=(L.length:Int)\/65535<x)) :
  Calls Tryz.prog 192 #[.pointer (some ⟨g,0,none⟩)] w λe w'=>∃pa' cap',e=.returned (.tuple #[.int .i64 x,.int .i64 0])/\Ob w' base g m (x+1) pa' cap' (L++[x])/\Rd w w' g pa pa':=by
 have hm:=ab (λq:Nat=>qX (h.later (below_drewN (Below.refl w.heap.size w) q)))
 have hp:=ab (λ(U:World) (hU:Below w.heap.size w U)=>kQ (h.later hU) hi.iE (by have:=hi.dK;omega) x hi.hi)
 have HO:=ab h
 have c0:=h.c0
 have c1:=h.c1.1
 have hx1:=hi.x1
 have hx2:x<=65535:=by omega
 clear h hi;have hd:decide ((L.length:Int)>=m)=false:=decide_eq_false (by omega)
 have hd2:decide (x>65535)=false:=decide_eq_false (by omega)
 clear hf;go_enter Tryz.func192,Tryz.ntmps192
 go_upto_region 1 with fail
 go_quiet (first|(go_at_call 272;refine Calls.quiet_of_same (hm.out _)))
 obtain⟨w1,hw1⟩:∃w1,w1=w.drewN nq:=⟨_,rfl⟩
 have PC:Hid (Below w.heap.size w w1):=by rw [hw1];exact below_drewN (Below.refl _ _) nq
 rw [<-hw1];clear hw1;replace c1:=cell_later PC.out c1
 clear c0 hm;go_upto_region 5 with (first|(go_at_call 172;refine (hp.out _ PC.out).mono ?_;rintro e w2 ⟨pa',cap',rfl,ho,hr⟩;have PS:=ab ho;have QL:=ab hr;clear ho hr))
 clear c1;obtain⟨d1,f1⟩:=PS.out.c1
 have hs:=ab (PS.out.DT (x+1))
 have hfin:Hid (Rd w (w2.setCell ⟨g,1,none⟩ (.int .i64 (x+1))) g pa pa'):=by
  refine⟨((ah.of PC.out).trans QL.out.but).trans (hs.out.2.mono (λk hk=>.inl hk)),λk hk=>?_⟩
  rcases QL.out.on k hk with e|e
  ·exact .inl e
  ·exact .inr (Nat.le_trans PC.out.size e)
 go_wp2;exact bodyPost_ret (v:=.tuple #[.int .i64 x,.int .i64 0]) (by simp [results,Tryz.results192,go_sem]) rfl ⟨pa',cap',rfl,hs.out.1,hfin.out⟩
theorem vS (h:Ob w base g m x pa cap L)(hi:Iv m x L) :
  Calls Tryz.prog 192 #[.pointer (some ⟨g,0,none⟩)] w λe w'=>∃pa' cap',e=.returned (.tuple #[.int .i64 (Gs m x L),.int .i64 (E7 m x L)])/\Ob w' base g m (zl m x L) pa' cap' (yY m x L)/\Rd w w' g pa pa':=by
 unfold Gs E7 zl yY;by_cases hf:m<=(L.length:Int)\/65535<x
 ·rw [if_pos (show dF m x L=true from decide_eq_true hf),if_pos (show dF m x L=true from decide_eq_true hf),if_pos (show dF m x L=true from decide_eq_true hf),if_pos (show dF m x L=true from decide_eq_true hf)]
  refine (iI h hi hf).mono ?_
  rintro e w' ⟨rfl,q,rfl⟩
  have hb:=below_drewN (Below.refl w.heap.size w) q
  exact⟨pa,cap,rfl,h.later hb,Rd.refl _ _ hb⟩
 ·have hff:¬dF m x L=true:=λe=>hf (of_decide_eq_true e)
  rw [if_neg hff,if_neg hff,if_neg hff,if_neg hff];exact sV h hi hf
theorem BN (h:Ob w base g m x pa cap L)(hi:Iv m x L)(n:Int):Calls Tryz.prog 48 #[.pointer (some ⟨g,0,none⟩),.int .i64 n] w λe w'=>e=.returned (.bool (L.contains n))/\∃q,w'=w.drewN q:=by
 have hh:=ab (aX h hi.iE (by have:=hi.dK;omega) n)
 clear h hi;generalize L.contains n=bb at *
 go_enter Tryz.func48,Tryz.ntmps48
 go_wp2_with (first|(go_at_call 100;refine hh.out.mono ?_;rintro e w1 ⟨rfl,hq⟩;have HQ:=ab hq;clear hq))
 go_ret;exact⟨rfl,HQ.out⟩
theorem yo (h:Ob w base g m x pa cap L)(hi:Iv m x L):Calls Tryz.prog 114 #[.pointer (some ⟨g,0,none⟩)] w λe w'=>∃p c,e=.returned (.slice p L.length c)/\Own w' w.heap.size 3 p L.length c (ints L)/\Below w.heap.size w w':=by
 have hh:=ab (gW h (by have:=hi.dK;omega))
 clear h hi;go_enter Tryz.func114,Tryz.ntmps114
 go_wp2_with (first|(go_at_call 198;refine hh.out.mono ?_;rintro e w1 ⟨p,c,rfl,ho,hb⟩;have HO:=ab ho;have HB:=ab hb;clear ho hb))
 go_ret;exact⟨p,c,rfl,HO.out,HB.out⟩
theorem fa (h:Ob w base g m x pa cap L):Calls Tryz.prog 54 #[.pointer (some ⟨g,0,none⟩)] w λe w'=>e=.returned (.int .i64 x)/\w'=w:=by
 have c1:=h.c1.1
 clear h;go_enter Tryz.func54,Tryz.ntmps54
 go_wp2;go_ret;exact⟨rfl,rfl⟩
theorem lz (h:Ob w base g m x pa cap L)(hi:Iv m x L)(n:Int):Calls Tryz.prog 204 #[.pointer (some ⟨g,0,none⟩),.int .i64 n] w λe w'=>∃cap',e=.returned (.int .i64 (Kg L n))/\Ob w' base g m x pa cap' (out L n)/\Rd w w' g pa pa:=by
 unfold Kg;by_cases hn:n∈L
 ·rw [if_pos (show L.contains n=true by simpa using hn)]
  have hh:=ab (yy h hi.iE (by have:=hi.dK;omega) n hn)
  clear h hi hn;go_enter Tryz.func204,Tryz.ntmps204
  go_wp2_with (first|(go_at_call 282;refine hh.out.mono ?_;rintro e w1 ⟨cap',rfl,ho,hr⟩;have HO:=ab ho;have HR:=ab hr;clear ho hr))
  go_ret;exact⟨cap',rfl,HO.out,HR.out⟩
 ·rw [if_neg (show ¬L.contains n=true by simpa using hn),rH hn]
  have hh:=ab (D8 h hi.iE (by have:=hi.dK;omega) n hn)
  have HO:=ab (λ(U:World) (hU:Below w.heap.size w U)=>h.later hU)
  clear h hi hn;go_enter Tryz.func204,Tryz.ntmps204
  go_wp2_with (first|(go_at_call 282;refine hh.out.mono ?_;rintro e w1 ⟨rfl,hq⟩;have HB:Hid (Below w.heap.size w w1):=(by obtain⟨q,rfl⟩:=hq;exact below_drewN (Below.refl _ _) q);clear hq))
  go_ret;exact⟨cap,rfl,HO.out _ HB.out,Rd.refl _ _ HB.out⟩
end Go.Proofs.YtffmodpgddecnaaGreatDoor.P
