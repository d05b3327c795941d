import Derived.Stop.BytesEq
import Derived.Lib.SliceRun
import Derived.Test.YtffmodpgddecnaaGreatDoorZ15
set_option linter.unusedVariables false
set_option linter.unusedSimpArgs false
set_option maxRecDepth 100000
set_option maxHeartbeats 1000000
namespace Go.Proofs.YtffmodpgddecnaaGreatDoor.P
open Go.RowKit
def jw (L:List Int):Prop:=L.Pairwise (·<·)
theorem jw.le {L:List Int}(h:jw L):L.Pairwise (·<=·):=List.Pairwise.imp (λh=>Int.le_of_lt h) h
theorem sU {L:List Int}{v:Int}(h:∀y∈L,y<v):L.countP (·<v)=L.length:=by
 rw [List.countP_eq_length];intro y hy;exact decide_eq_true (h y hy)
theorem oM {L:List Int}{v:Int}(h:∀y∈L,y<v):L.contains v=false:=by
 rw [Bool.eq_false_iff];intro hc;have:=h v (by simpa using hc)
 omega
def out (L:List Int)(n:Int):List Int:=L.filter (λy=>y != n)
theorem rH {L:List Int}{n:Int}(h:n∉L):out L n=L:=by
 unfold out;rw [List.filter_eq_self];intro y hy;simp only [bne_iff_ne,ne_eq];intro e;exact h (e ▸ hy)
theorem sX:∀{L:List Int} {n:Int},jw L->n∈L->L.countP (·<n)<L.length/\L.take (L.countP (·<n))++L.drop (L.countP (·<n)+1)=out L n
 | [],n,_,h=>by cases h
 | y::l,n,hr,h=>by
  have hr':=List.pairwise_cons.1 hr
  by_cases h1:y<n
  ·have hn:n∈l:=by
    rcases List.mem_cons.1 h with e|e
    ·omega
    ·exact e
   obtain⟨i1,i2⟩:=sX (L:=l) hr'.2 hn
   have hc:(y::l).countP (·<n)=l.countP (·<n)+1:=by rw [List.countP_cons,if_pos (decide_eq_true h1)]
   have hf:out (y::l) n=y::out l n:=by
    unfold out;rw [List.filter_cons,if_pos (by simp;omega)]
   rw [hc,hf];refine⟨by simp;omega,?_⟩
   rw [List.take_succ_cons,List.drop_succ_cons,List.cons_append,i2]
  ·have hy:y=n:=by
    rcases List.mem_cons.1 h with e|e
    ·exact e.symm
    ·have:=hr'.1 n e;omega
   subst hy;have hl:∀z∈l,y<z:=hr'.1
   have hc:(y::l).countP (·<y)=0:=by
    rw [List.countP_eq_zero];intro z hz;rcases List.mem_cons.1 hz with e|e
    ·subst e;simp
    ·have:=hl z e;simp;omega
   have hf:out (y::l) y=l:=by
    unfold out;rw [List.filter_cons,if_neg (by simp)];exact rH (λe=>by have:=hl y e;omega)
   rw [hc,hf];exact⟨by simp,by simp⟩
theorem En {L:List Int}{n:Int}(hr:jw L)(h:n∈L):(out L n).length+1=L.length:=by
 obtain⟨h1,h2⟩:=sX hr h
 rw [<-h2];simp
 omega
theorem js {L:List Int}{n y:Int}:y∈out L n↔y∈L/\y≠n:=by simp [out]
theorem zD {L:List Int}{n:Int}(h:jw L):jw (out L n):=List.Pairwise.filter _ h
theorem FI (L:List Int)(n:Int):(out L n).length<=L.length:=List.length_filter_le _ _
theorem wF {L:List Int}{v:Int}(h:jw L)(hv:∀y∈L,y<v):jw (L++[v]):=by
 unfold jw;rw [List.pairwise_append];exact⟨h,List.pairwise_singleton _ _,λa ha b hb=>by rw [List.mem_singleton] at hb;subst hb;exact hv a ha⟩
structure Iv (m x:Int)(L:List Int):Prop where
 m1:1<=m
 m2:m<=32
 len:(L.length:Int)<=m
 iE:jw L
 lo:∀y∈L,0<=y
 hi:∀y∈L,y<x
 x1:0<=x
 x2:x<=65536
def dF (m x:Int)(L:List Int):Bool:=decide (m<=(L.length:Int)\/65535<x)
def E7 (m x:Int)(L:List Int):Int:=if dF m x L then 13 else 0
def Gs (m x:Int)(L:List Int):Int:=if dF m x L then 0 else x
def zl (m x:Int)(L:List Int):Int:=if dF m x L then x else x+1
def yY (m x:Int)(L:List Int):List Int:=if dF m x L then L else L++[x]
theorem Iv.spawn {m x:Int}{L:List Int}(h:Iv m x L):Iv m (zl m x L) (yY m x L):=by
 unfold zl yY;by_cases hf:dF m x L=true
 ·rw [if_pos hf,if_pos hf];exact h
 ·rw [if_neg hf,if_neg hf]
  unfold dF at hf;have hf2:¬(m<=(L.length:Int)\/65535<x):=λe=>hf (decide_eq_true e)
  have:=h.x1
  refine⟨h.m1,h.m2,by simp;omega,wF h.iE h.hi,λy hy=>?_,λy hy=>?_,by omega,by omega⟩
  ·rcases List.mem_append.1 hy with e|e
   ·exact h.lo y e
   ·rw [List.mem_singleton] at e;omega
  ·rcases List.mem_append.1 hy with e|e
   ·have:=h.hi y e;omega
   ·rw [List.mem_singleton] at e;omega
def Kg (L:List Int)(n:Int):Int:=if L.contains n then 0 else 20
theorem Iv.exit {m x:Int}{L:List Int}(h:Iv m x L)(n:Int):Iv m x (out L n) :=
 ⟨h.m1,h.m2,by have:=h.len;have:=FI L n;omega,zD h.iE,λy hy=>h.lo y (js.1 hy).1,λy hy=>h.hi y (js.1 hy).1,h.x1,h.x2⟩
theorem Iv.start {m:Int}(h1:1<=m)(h2:m<=32):Iv m 1 [0]:=⟨h1,h2,by simp;omega,List.pairwise_singleton _ _,by simp,by simp,by omega,by omega⟩
theorem Iv.dK {m x:Int}{L:List Int}(h:Iv m x L):L.length<=32:=by have:=h.len;have:=h.m2;omega
structure Ob (w:World)(base g:Nat)(m x:Int)(pa:Option Addr)(cap:Nat)(L:List Int):Prop where
 c0:w.cell? ⟨g,0,none⟩=some (.int .i64 m)
 c1:az w ⟨g,1,none⟩ (.int .i64 x)
 c2:az w ⟨g,2,none⟩ (.slice pa L.length cap)
 own:Own w base 3 pa L.length cap (ints L)
 ap:∀k,aJ pa k->k≠g
 lo:base<=g
variable {w w':World}{base g:Nat}{m x:Int}{pa:Option Addr}{cap:Nat}{L:List Int}
theorem Ob.lt (h:Ob w base g m x pa cap L):g<w.heap.size:=World.block_lt_of_cell? _ _ h.c0
theorem Ob.but {S:Nat->Prop}(h:Ob w base g m x pa cap L)(hb:ah S w w')(h1:¬S g)(h2:∀k,aJ pa k->¬S k):Ob w' base g m x pa cap L :=
 ⟨ag hb h.c0 h1,h.c1.but hb h1,h.c2.but hb h1,h.own.but hb h2,h.ap,h.lo⟩
theorem Ob.later (h:Ob w base g m x pa cap L)(hb:Below w.heap.size w w'):Ob w' base g m x pa cap L:=h.but (S:=λ_=>False) (ah.of hb) (λh=>h) (λ_ _ h=>h)
theorem Ob.hb (h:Ob w base g m x pa cap L):base<=w.heap.size:=by have:=h.lo;have:=h.lt;omega
structure Rd (w w':World)(g:Nat)(pa pa':Option Addr):Prop where
 but:ah (λk=>k=g\/aJ pa k) w w'
 on:∀k,aJ pa' k->aJ pa k\/w.heap.size<=k
theorem Rd.refl (g:Nat)(pa:Option Addr)(h:Below w.heap.size w w'):Rd w w' g pa pa:=⟨ah.of h,λ_ h=>.inl h⟩
theorem Rd.below {pa':Option Addr}{u:World}(h:Rd w w' g pa pa')(ho:Ob w base g m x pa cap L)(hb:Below base u w):Below base u w' :=
 ⟨h.but.os.trans hb.os,h.but.tape.trans hb.tape,h.but.output.trans hb.output,Nat.le_trans hb.size h.but.size,λk hk=>(h.but.block k (by have:=ho.hb;omega) (λe=>by
  rcases e with e|e
  ·have:=ho.lo;omega
  ·have:=ho.own.bT k e;omega)).trans (hb.block k hk)⟩
theorem Ob.put {pb:Option Addr}{c:Nat}{M:List Int}(h:Ob w base g m x pa cap L)(hG:Gr pa pb w w')(ho:Own w' base 3 pb M.length c (ints M)):Ob (w'.setCell ⟨g,2,none⟩ (.slice pb M.length c)) base g m x pb c M/\Rd w (w'.setCell ⟨g,2,none⟩ (.slice pb M.length c)) g pa pb:=by
 have hn:¬aJ pa g:=λe=>h.ap g e rfl
 have hap:∀k,aJ pb k->k≠g:=λk hk=>by
  rcases hG.on k hk with e|e
  ·exact h.ap k e
  ·have:=h.lt;omega
 exact⟨⟨by rw [World.cell?_setCell_other _ _ _ _ (by simp)];exact ag hG.but h.c0 hn,(h.c1.but hG.but hn).other (by simp),(h.c2.but hG.but hn).put,ho.but ((ah.refl (λk=>k=g) w').setCell (p:=⟨g,2,none⟩) rfl _) hap,hap,h.lo⟩,
  (hG.but.mono (λk hk=>.inr hk)).setCell (.inl rfl) _,λk hk=>hG.on k hk⟩
theorem Ob.DT (h:Ob w base g m x pa cap L)(y:Int):Ob (w.setCell ⟨g,1,none⟩ (.int .i64 y)) base g m y pa cap L/\ah (λk=>k=g) w (w.setCell ⟨g,1,none⟩ (.int .i64 y)):=by
 have hb:ah (λk=>k=g) w (w.setCell ⟨g,1,none⟩ (.int .i64 y)):=(ah.refl (λk=>k=g) w).setCell (p:=⟨g,1,none⟩) rfl _
 exact⟨⟨by rw [World.cell?_setCell_other _ _ _ _ (by simp)];exact h.c0,h.c1.put,h.c2.other (by simp),h.own.but hb h.ap,h.ap,h.lo⟩,hb⟩
theorem kQ (h:Ob w base g m x pa cap L)(hs:jw L)(hl:L.length<=4096)(v:Int)(hv:∀y∈L,y<v) :
  Calls Tryz.prog 172 #[.pointer (some ⟨g,2,none⟩),.int .i64 v] w λe w'=>∃pa' cap',e=.returned (.tuple #[])/\Ob w' base g m x pa' cap' (L++[v])/\Rd w w' g pa pa':=by
 have hse:=ab (fF h.own (by omega) hs.le v)
 rw [sU hv,oM hv] at hse;have c2:=h.c2.1
 have hQ:=ab (λ(U:World) (hU:Below w.heap.size w U)=>h.later hU)
 clear h hs hv;go_enter Tryz.func172,Tryz.ntmps172
 go_upto_region 2 with (first|(go_at_call 178;refine hse.out.mono ?_;rintro e w1 ⟨rfl,hq⟩;have PC:Hid (Below w.heap.size w w1):=(by obtain⟨q,rfl⟩:=hq;exact below_drewN (Below.refl _ _) q);clear hq))
 have hR1:=hQ.out _ PC.out
 have hin:=ab (uk hR1.own hR1.hb hl v)
 have d2:=hR1.c2.1
 have QD:=ab hR1
 have hst:Hid (∀a' cap' w2,Own w2 base 3 a' (L.length+1) cap' (ints (L++[v]))->Gr pa a' w1 w2->az w2 ⟨g,2,none⟩ (.slice pa L.length cap)/\Ob (w2.setCell ⟨g,2,none⟩ (.slice a' (L.length+1) cap')) base g m x a' cap' (L++[v])/\Rd w (w2.setCell ⟨g,2,none⟩ (.slice a' (L.length+1) cap')) g pa a'):=λa' cap' w2 ho hG=>by
  have hlen:(L++[v]).length=L.length+1:=by simp
  rw [<-hlen] at ho ⊢
  obtain⟨p1,p2⟩:=QD.out.put hG ho
  refine⟨QD.out.c2.but hG.but (λe=>QD.out.ap g e rfl),p1,(ah.of PC.out).trans p2.but,λk hk=>?_⟩
  rcases p2.on k hk with e|e
  ·exact .inl e
  ·exact .inr (Nat.le_trans PC.out.size e)
 clear hR1 QD hse;go_wp2_with (first|(go_at_call 243;refine hin.out.mono ?_;rintro e w2 ⟨a',cap',rfl,ho,hG⟩;obtain⟨⟨e2,f2⟩,hfin⟩:=hst.out _ _ _ ho hG;have PX:=ab hfin;clear hfin ho hG))
 exact bodyPost_end (by simp [results,Tryz.results172,go_sem]) rfl ⟨a',cap',rfl,PX.out.1,PX.out.2⟩
theorem qX (h:Ob w base g m x pa cap L):Calls Tryz.prog 272 #[.pointer (some ⟨g,2,none⟩)] w λe w'=>e=.returned (.int .i64 (L.length:Int))/\w'=w:=by
 have c2:=h.c2.1
 clear h;go_enter Tryz.func272,Tryz.ntmps272
 go_wp2;go_ret;exact⟨rfl,rfl⟩
theorem aX (h:Ob w base g m x pa cap L)(hs:jw L)(hl:L.length<=4096)(v:Int):Calls Tryz.prog 100 #[.pointer (some ⟨g,2,none⟩),.int .i64 v] w λe w'=>e=.returned (.bool (L.contains v))/\∃q,w'=w.drewN q:=by
 have hse:=ab (fF h.own (by omega) hs.le v)
 have c2:=h.c2.1
 clear h hs;generalize L.contains v=bb at *
 go_enter Tryz.func100,Tryz.ntmps100
 go_wp2_with (first|(go_at_call 178;refine hse.out.mono ?_;rintro e w1 ⟨rfl,hq⟩;have HQ:=ab hq;clear hq))
 go_ret;exact⟨rfl,HQ.out⟩
theorem gW (h:Ob w base g m x pa cap L)(hl:L.length<=4096):Calls Tryz.prog 198 #[.pointer (some ⟨g,2,none⟩)] w λe w'=>∃p c,e=.returned (.slice p L.length c)/\Own w' w.heap.size 3 p L.length c (ints L)/\Below w.heap.size w w':=by
 have hc:=ab (vZ h.own hl)
 have c2:=h.c2.1
 clear h;go_enter Tryz.func198,Tryz.ntmps198
 go_wp2_with (first|(go_at_call 277;refine hc.out.mono ?_;rintro e w1 ⟨p,c,rfl,ho,hb⟩;have HO:=ab ho;have HB:=ab hb;clear ho hb))
 go_ret;exact⟨p,c,rfl,HO.out,HB.out⟩
theorem yy (h:Ob w base g m x pa cap L)(hs:jw L)(hl:L.length<=4096)(v:Int)(hv:v∈L) :
  Calls Tryz.prog 282 #[.pointer (some ⟨g,2,none⟩),.int .i64 v] w λe w'=>∃cap',e=.returned (.bool true)/\Ob w' base g m x pa cap' (out L v)/\Rd w w' g pa pa:=by
 have hse:=ab (fF h.own (by omega) hs.le v)
 obtain⟨hi,ho⟩:=sX hs hv
 have hol:=En hs hv
 obtain⟨i,hii⟩:∃i,i=L.countP (·<v):=⟨_,rfl⟩
 have hcv:L.contains v=true:=by simpa using hv
 rw [<-hii,hcv] at hse;rw [<-hii] at hi ho;obtain⟨ga,rfl⟩:=h.own.form (by omega)
 have c2:=h.c2.1
 have hQ:=ab (λ(U:World) (hU:Below w.heap.size w U)=>h.later hU)
 have HO:=ab ho
 have hgn:Hid (∀k,k=ga↔aJ (some ⟨ga,0,none⟩) k):=λk=>⟨λe=>⟨_,rfl,e.symm⟩,λ⟨_,e1,e2⟩=>by cases e1;exact e2.symm⟩
 clear h hs hv hii hcv ho;go_enter Tryz.func282,Tryz.ntmps282
 go_upto_region 3 with (first|(go_at_call 178;refine hse.out.mono ?_;rintro e w1 ⟨rfl,hq⟩;have PC:Hid (Below w.heap.size w w1):=(by obtain⟨q,rfl⟩:=hq;exact below_drewN (Below.refl _ _) q);clear hq))
 have hR1:=hQ.out _ PC.out
 have hde:=ab (tM hR1.own i hi)
 have d2:=hR1.c2.1
 have QD:=ab hR1
 have hst:Hid (∀w2,Own w2 base 3 (some ⟨ga,0,none⟩) (L.length - 1) cap (ints (L.take i++L.drop (i+1)))->ah (λk=>k=ga) w1 w2->az w2 ⟨g,2,none⟩ (.slice (some ⟨ga,0,none⟩) L.length cap)/\Ob (w2.setCell ⟨g,2,none⟩ (.slice (some ⟨ga,0,none⟩) (L.length - 1) cap)) base g m x (some ⟨ga,0,none⟩) cap (out L v)/\Rd w (w2.setCell ⟨g,2,none⟩ (.slice (some ⟨ga,0,none⟩) (L.length - 1) cap)) g (some ⟨ga,0,none⟩) (some ⟨ga,0,none⟩)):=λw2 ho hb=>by
  have hlen:L.length - 1=(out L v).length:=by omega
  rw [HO.out,hlen] at ho;rw [hlen];have hG:Gr (some ⟨ga,0,none⟩) (some ⟨ga,0,none⟩) w1 w2:=⟨hb.mono (λk hk=>(hgn.out k).1 hk),λk hk=>.inl hk⟩
  obtain⟨p1,p2⟩:=QD.out.put hG ho
  refine⟨QD.out.c2.but hG.but (λe=>QD.out.ap g e rfl),p1,(ah.of PC.out).trans p2.but,λk hk=>.inl hk⟩
 clear hR1 QD hse hol;go_wp2_with (first|(go_at_call 341;refine hde.out.mono ?_;rintro e w2 ⟨rfl,ho,hb⟩;obtain⟨⟨e2,f2⟩,hfin⟩:=hst.out _ ho hb;have PX:=ab hfin;clear hfin ho hb))
 go_ret;exact⟨cap,rfl,PX.out.1,PX.out.2⟩
theorem D8 (h:Ob w base g m x pa cap L)(hs:jw L)(hl:L.length<=4096)(v:Int)(hv:v∉L) :
  Calls Tryz.prog 282 #[.pointer (some ⟨g,2,none⟩),.int .i64 v] w λe w'=>e=.returned (.bool false)/\∃q,w'=w.drewN q:=by
 have hse:=ab (fF h.own (by omega) hs.le v)
 have hcv:L.contains v=false:=by simpa using hv
 rw [hcv] at hse;have c2:=h.c2.1
 clear h hs hv hcv;go_enter Tryz.func282,Tryz.ntmps282
 go_wp2_with (first|(go_at_call 178;refine hse.out.mono ?_;rintro e w1 ⟨rfl,hq⟩;have HQ:=ab hq;clear hq))
 go_ret;exact⟨rfl,HQ.out⟩
end Go.Proofs.YtffmodpgddecnaaGreatDoor.P
namespace Go.Proofs.YtffmodpgddecnaaGreatDoor.P
open Go.RowKit
variable {w w':World}{base g:Nat}{m x:Int}{pa:Option Addr}{cap:Nat}{L:List Int}
theorem bU (m:Int)(w:World)(h1:1<=m)(h2:m<=32) :
  Calls Tryz.prog 95 #[.int .i64 m] w λe w'=>∃g pa cap,e=.returned (.tuple #[.pointer (some ⟨g,0,none⟩),.int .i64 0])/\Ob w' w.heap.size g m 1 pa cap [0]/\Below w.heap.size w w':=by
 have hd1:decide (m<1)=false:=decide_eq_false (by omega)
 have hd2:decide (m>32)=false:=decide_eq_false (by omega)
 obtain⟨g,hg⟩:∃g,g=w.heap.size:=⟨_,rfl⟩
 have hO:Ob (w.alloc (.cells #[.int .i64 m,.int .i64 1,.slice none 0 0] 173)) w.heap.size w.heap.size m 1 none 0 []:=⟨by simp [go_sem],⟨by simp [go_sem],by simp [go_sem]⟩,⟨by simp [go_sem],by simp [go_sem]⟩,Own.nil _ _ _,λk hk=>(by obtain⟨_,e,_⟩:=hk;cases e),Nat.le_refl _⟩
 have hp:=ab (kQ hO List.Pairwise.nil (by simp) 0 (by simp))
 have hfin:Hid (∀w2 pa',Rd (w.alloc (.cells #[.int .i64 m,.int .i64 1,.slice none 0 0] 173)) w2 w.heap.size none pa'->Below w.heap.size w w2):=λw2 pa' hr=>hr.below hO (ae _ _)
 clear hO h1 h2;go_enter Tryz.func95,Tryz.ntmps95
 go_wp2_with (first|(go_at_call 172;refine hp.out.mono ?_;rintro e w2 ⟨pa',cap',rfl,ho,hr⟩;have HO:=ab ho;have HB:=ab (hfin.out _ _ hr);clear ho hr))
 exact bodyPost_ret (v:=.tuple #[.pointer (some ⟨w.heap.size,0,none⟩),.int .i64 0]) (by simp [results,Tryz.results95,go_sem]) rfl ⟨w.heap.size,pa',cap',rfl,HO.out,HB.out⟩
theorem iI (h:Ob w base g m x pa cap L)(hi:Iv m x L)(hf:m<=(L.length:Int)\/65535<x) :
  Calls Tryz.prog 192 #[.pointer (some ⟨g,0,none⟩)] w λe w'=>e=.returned (.tuple #[.int .i64 0,.int .i64 13])/\∃q,w'=w.drewN q:=by
 have hm:=ab (λq:Nat=>qX (h.later (below_drewN (Below.refl w.heap.size w) q)))
 have c0:=h.c0
 have c1:=h.c1.1
 clear h hi;by_cases h1:m<=(L.length:Int)
 ·have hd:decide ((L.length:Int)>=m)=true:=decide_eq_true h1
  go_enter Tryz.func192,Tryz.ntmps192
  go_upto_region 1 with fail
  go_quiet (first|(go_at_call 272;refine Calls.quiet_of_same (hm.out _)))
  go_wp2;exact bodyPost_ret (v:=.tuple #[.int .i64 0,.int .i64 13]) (by simp [results,Tryz.results192,go_sem]) rfl ⟨rfl,_,rfl⟩
 ·have hd:decide ((L.length:Int)>=m)=false:=decide_eq_false h1
  have hd2:decide (x>65535)=true:=decide_eq_true (by omega)
  go_enter Tryz.func192,Tryz.ntmps192
  go_upto_region 1 with fail
  go_quiet (first|(go_at_call 272;refine Calls.quiet_of_same (hm.out _)))
  go_wp2;exact bodyPost_ret (v:=.tuple #[.int .i64 0,.int .i64 13]) (by simp [results,Tryz.results192,go_sem]) rfl ⟨rfl,_,rfl⟩
theorem sV (h:Ob w base g m x pa cap L)(hi:Iv m x L)(hf:¬(m<=(L.length:Int)\/65535<x)) :
  Calls Tryz.prog 192 #[.pointer (some ⟨g,0,none⟩)] w λe w'=>∃pa' cap',e=.returned (.tuple #[.int .i64 x,.int .i64 0])/\Ob w' base g m (x+1) pa' cap' (L++[x])/\Rd w w' g pa pa':=by
 have hm:=ab (λq:Nat=>qX (h.later (below_drewN (Below.refl w.heap.size w) q)))
 have hp:=ab (λ(U:World) (hU:Below w.heap.size w U)=>kQ (h.later hU) hi.iE (by have:=hi.dK;omega) x hi.hi)
 have HO:=ab h
 have c0:=h.c0
 have c1:=h.c1.1
 have hx1:=hi.x1
 have hx2:x<=65535:=by omega
 clear h hi;have hd:decide ((L.length:Int)>=m)=false:=decide_eq_false (by omega)
 have hd2:decide (x>65535)=false:=decide_eq_false (by omega)
 clear hf;go_enter Tryz.func192,Tryz.ntmps192
 go_upto_region 1 with fail
 go_quiet (first|(go_at_call 272;refine Calls.quiet_of_same (hm.out _)))
 obtain⟨w1,hw1⟩:∃w1,w1=w.drewN nq:=⟨_,rfl⟩
 have PC:Hid (Below w.heap.size w w1):=by rw [hw1];exact below_drewN (Below.refl _ _) nq
 rw [<-hw1];clear hw1;replace c1:=cell_later PC.out c1
 clear c0 hm;go_upto_region 5 with (first|(go_at_call 172;refine (hp.out _ PC.out).mono ?_;rintro e w2 ⟨pa',cap',rfl,ho,hr⟩;have PS:=ab ho;have QL:=ab hr;clear ho hr))
 clear c1;obtain⟨d1,f1⟩:=PS.out.c1
 have hs:=ab (PS.out.DT (x+1))
 have hfin:Hid (Rd w (w2.setCell ⟨g,1,none⟩ (.int .i64 (x+1))) g pa pa'):=by
  refine⟨((ah.of PC.out).trans QL.out.but).trans (hs.out.2.mono (λk hk=>.inl hk)),λk hk=>?_⟩
  rcases QL.out.on k hk with e|e
  ·exact .inl e
  ·exact .inr (Nat.le_trans PC.out.size e)
 go_wp2;exact bodyPost_ret (v:=.tuple #[.int .i64 x,.int .i64 0]) (by simp [results,Tryz.results192,go_sem]) rfl ⟨pa',cap',rfl,hs.out.1,hfin.out⟩
theorem vS (h:Ob w base g m x pa cap L)(hi:Iv m x L) :
  Calls Tryz.prog 192 #[.pointer (some ⟨g,0,none⟩)] w λe w'=>∃pa' cap',e=.returned (.tuple #[.int .i64 (Gs m x L),.int .i64 (E7 m x L)])/\Ob w' base g m (zl m x L) pa' cap' (yY m x L)/\Rd w w' g pa pa':=by
 unfold Gs E7 zl yY;by_cases hf:m<=(L.length:Int)\/65535<x
 ·rw [if_pos (show dF m x L=true from decide_eq_true hf),if_pos (show dF m x L=true from decide_eq_true hf),if_pos (show dF m x L=true from decide_eq_true hf),if_pos (show dF m x L=true from decide_eq_true hf)]
  refine (iI h hi hf).mono ?_
  rintro e w' ⟨rfl,q,rfl⟩
  have hb:=below_drewN (Below.refl w.heap.size w) q
  exact⟨pa,cap,rfl,h.later hb,Rd.refl _ _ hb⟩
 ·have hff:¬dF m x L=true:=λe=>hf (of_decide_eq_true e)
  rw [if_neg hff,if_neg hff,if_neg hff,if_neg hff];exact sV h hi hf
theorem BN (h:Ob w base g m x pa cap L)(hi:Iv m x L)(n:Int):Calls Tryz.prog 48 #[.pointer (some ⟨g,0,none⟩),.int .i64 n] w λe w'=>e=.returned (.bool (L.contains n))/\∃q,w'=w.drewN q:=by
 have hh:=ab (aX h hi.iE (by have:=hi.dK;omega) n)
 clear h hi;generalize L.contains n=bb at *
 go_enter Tryz.func48,Tryz.ntmps48
 go_wp2_with (first|(go_at_call 100;refine hh.out.mono ?_;rintro e w1 ⟨rfl,hq⟩;have HQ:=ab hq;clear hq))
 go_ret;exact⟨rfl,HQ.out⟩
theorem yo (h:Ob w base g m x pa cap L)(hi:Iv m x L):Calls Tryz.prog 114 #[.pointer (some ⟨g,0,none⟩)] w λe w'=>∃p c,e=.returned (.slice p L.length c)/\Own w' w.heap.size 3 p L.length c (ints L)/\Below w.heap.size w w':=by
 have hh:=ab (gW h (by have:=hi.dK;omega))
 clear h hi;go_enter Tryz.func114,Tryz.ntmps114
 go_wp2_with (first|(go_at_call 198;refine hh.out.mono ?_;rintro e w1 ⟨p,c,rfl,ho,hb⟩;have HO:=ab ho;have HB:=ab hb;clear ho hb))
 go_ret;exact⟨p,c,rfl,HO.out,HB.out⟩
theorem fa (h:Ob w base g m x pa cap L):Calls Tryz.prog 54 #[.pointer (some ⟨g,0,none⟩)] w λe w'=>e=.returned (.int .i64 x)/\w'=w:=by
 have c1:=h.c1.1
 clear h;go_enter Tryz.func54,Tryz.ntmps54
 go_wp2;go_ret;exact⟨rfl,rfl⟩
theorem lz (h:Ob w base g m x pa cap L)(hi:Iv m x L)(n:Int):Calls Tryz.prog 204 #[.pointer (some ⟨g,0,none⟩),.int .i64 n] w λe w'=>∃cap',e=.returned (.int .i64 (Kg L n))/\Ob w' base g m x pa cap' (out L n)/\Rd w w' g pa pa:=by
 unfold Kg;by_cases hn:n∈L
 ·rw [if_pos (show L.contains n=true by simpa using hn)]
  have hh:=ab (yy h hi.iE (by have:=hi.dK;omega) n hn)
  clear h hi hn;go_enter Tryz.func204,Tryz.ntmps204
  go_wp2_with (first|(go_at_call 282;refine hh.out.mono ?_;rintro e w1 ⟨cap',rfl,ho,hr⟩;have HO:=ab ho;have HR:=ab hr;clear ho hr))
  go_ret;exact⟨cap',rfl,HO.out,HR.out⟩
 ·rw [if_neg (show ¬L.contains n=true by simpa using hn),rH hn]
  have hh:=ab (D8 h hi.iE (by have:=hi.dK;omega) n hn)
  have HO:=ab (λ(U:World) (hU:Below w.heap.size w U)=>h.later hU)
  clear h hi hn;go_enter Tryz.func204,Tryz.ntmps204
  go_wp2_with (first|(go_at_call 282;refine hh.out.mono ?_;rintro e w1 ⟨rfl,hq⟩;have HB:Hid (Below w.heap.size w w1):=(by obtain⟨q,rfl⟩:=hq;exact below_drewN (Below.refl _ _) q);clear hq))
  go_ret;exact⟨cap,rfl,HO.out _ HB.out,Rd.refl _ _ HB.out⟩
end Go.Proofs.YtffmodpgddecnaaGreatDoor.P
namespace Go.Proofs.YtffmodpgddecnaaGreatDoor.S
open Go.RowKit
theorem jr:(Tryz.prog.info? 5).map (λi=>(i.zero,i.size,i.bytes))=some (some (.int .u8 0),1,1):=by kernel_rfl
def bG (l:List Nat):List Value:=l.map λ(n:Nat)=>Value.int .u8 (n:Int)
theorem aM (l:List Nat):(bG l).length=l.length:=by simp [bG]
theorem fE (l m:List Nat):bG (l++m)=bG l++bG m:=by simp [bG]
theorem fH (l:List Nat):∀u∈bG l,u.oneCell'=true:=by
 intro u hu;simp only [bG,List.mem_map] at hu;obtain⟨n,_,rfl⟩:=hu
 rfl
theorem fL {w:World}{base:Nat}{a:Option Addr}{n cap:Nat}{L:List Value}{b:Option Addr}{m c:Nat}{M:List Value}(h:Own w base 5 a n cap L)(k:Row w b m c M)(hb:base<=w.heap.size)(hr:n+m<=140737488355328) :
  ∃a' cap' w',(Builtin.append_ #[38,38] 38 #[.slice a n cap,.slice b m c]).run Tryz.prog w=.ok (.slice a' (n+m) cap') w'/\Own w' base 5 a' (n+m) cap' (L++M)/\Gr a a' w w' :=
 mC 38 5 _ 1 Tryz.underlying38 jr rfl h k hb (by omega) hr
structure di (w:World)(g pb n:Nat)(t:Nat->Bool)(B:Nat->Nat->Nat):Prop where
 ne:g≠pb
 le:n<=256
 head:w.cell? ⟨g,0,none⟩=some (.slice (some ⟨pb,0,none⟩) n n)
 mark:∀i,i<256->az w ⟨g,1+i,none⟩ (.bool (t i))
 kB:∀i j,i<n->j<64->az w ⟨pb,i*64+j,none⟩ (.int .u8 ((B i j:Nat):Int))
 lt:pb<w.heap.size
 only:∀i,t i=true->i<n
 zero:∀i j,t i=false->B i j=0
 small:∀i j,B i j<256
theorem di.but {S:Nat->Prop}{w w':World}{g pb n:Nat}{t:Nat->Bool}{B:Nat->Nat->Nat}(hb:ah S w w')(h:di w g pb n t B)(h1:¬S g)(h2:¬S pb):di w' g pb n t B :=
 ⟨h.ne,h.le,ag hb h.head h1,λi hi=>(h.mark i hi).but hb h1,λi j hi hj=>(h.kB i j hi hj).but hb h2,Nat.lt_of_lt_of_le h.lt hb.size,h.only,h.zero,h.small⟩
theorem di.later {w w':World}{g pb n:Nat}{t:Nat->Bool}{B:Nat->Nat->Nat}(hb:Below w.heap.size w w')(h:di w g pb n t B):di w' g pb n t B :=
 h.but (S:=λ_=>False) (ah.of hb) (λh=>h) (λh=>h)
theorem di.B9 {w:World}{g pb n:Nat}{t:Nat->Bool}{B:Nat->Nat->Nat}(h:di w g pb n t B):g<w.heap.size:=World.block_lt_of_cell? _ _ h.head
theorem Dy:(Tryz.prog.info? 311).map (λi=>(i.zero,i.size,i.bytes))=some (some (.agg (#[.slice none 0 0]++Array.replicate 256 (.bool false))),257,280):=by kernel_rfl
theorem aO {t:TypeId}{z:Value}{s b:Nat}(h:(Tryz.prog.info? t).map (λi=>(i.zero,i.size,i.bytes))=some (some z,s,b))(w:World):(zeroValue t).run Tryz.prog w=.ok z w:=by
 obtain⟨i,hi,hz0,hz1,hz2⟩:=info_parts h
 simp [zeroValue,typeInfo,hi,hz0]
theorem C7:∃Z:Array Value,(∀w,(zeroValue 311).run Tryz.prog w=.ok (.agg Z) w)/\Z.size=257/\∀i,i<256->Z[1+i]?=some (.bool false) :=
 ⟨_,aO Dy,by simp,λi hi=>by
  rw [Array.getElem?_append_right (by simp)];simp [hi]⟩
theorem oI:(Tryz.prog.info? 387).map (λi=>(i.zero,i.size,i.bytes))=some (some (.agg (Array.replicate 64 (.int .u8 0))),64,64):=by kernel_rfl
theorem td (w:World)(n:Nat)(hn:n<=256):∃w',(Instr.makeSlice 307 (.int .i64 (n:Int)) (.int .i64 (n:Int))).run Tryz.prog w=.ok (.slice (some ⟨w.heap.size,0,none⟩) n n) w' /\
  (∀j,j<n*64->az w' ⟨w.heap.size,j,none⟩ (.int .u8 0))/\w.heap.size<w'.heap.size/\Below w.heap.size w w':=by
 obtain⟨i,hi,hz0,hz1,hz2⟩:=info_parts oI
 obtain⟨w',hr,ho,hg⟩:=run_make_full (P:=Tryz.prog) w w.heap.size 307 387 i _ 64 Tryz.underlying307 hi hz0 hz1 .i64 .i64 n (by rw [hz2];omega) (by unfold maxLen;omega) (Nat.le_refl _)
 rcases ho.2 with ⟨h0,_⟩|⟨g,c,cur,hv,hg2,hh,hc,hm,hsz,htk⟩
 ·simp at h0
 ·simp only [Value.slice.injEq,Option.some.injEq,Addr.mk.injEq] at hv
  obtain⟨⟨rfl,_⟩,_,rfl⟩:=hv
  refine⟨w',hr,λj hj=>⟨?_,by simp [World.frozen?,hh]⟩,(Array.getElem?_eq_some_iff.1 hh).1,(Below.refl _ _).grown hg (Nat.le_refl _) (λk hk=>by cases hk)⟩
  have hq:=ho.cells (g:=w.heap.size) rfl j (.int .u8 0) (by
   simp only [madeCells,Array.getElem?_toList,Value.cells];simp [hj,Nat.mod_lt])
  rwa [aQ] at hq
theorem bU (n:Nat)(w:World)(hn:n<=256) :
  Calls Tryz.prog 168 #[.int .i64 (n:Int)] w λe w'=>∃g pb,e=.returned (.tuple #[.pointer (some ⟨g,0,none⟩),.int .i64 0])/\di w' g pb n (λ_=>false) (λ_ _=>0)/\w.heap.size<=g/\w.heap.size<=pb/\Below w.heap.size w w':=by
 obtain⟨w1,hmk,hl,hlt,hb⟩:=td w n hn
 obtain⟨Z,hz,hZs,hZi⟩:=C7
 have hZ0:(Z=#[])=False:=eq_false (λh=>by rw [h] at hZs;simp at hZs)
 have hd1:decide ((n:Int)<0)=false:=decide_eq_false (by omega)
 have hd2:decide ((n:Int)>256)=false:=decide_eq_false (by omega)
 have HL:Hid (∀j,j<n*64->az w1 ⟨w.heap.size,j,none⟩ (.int .u8 0)):=hl
 have HB:Hid (Below w.heap.size w w1):=hb
 have HZ:Hid (Z.size=257/\∀i,i<256->Z[1+i]?=some (.bool false)):=⟨hZs,hZi⟩
 clear hl hb hZs hZi;go_enter Tryz.func168,Tryz.ntmps168
 go_wp2;obtain⟨hZs,hZi⟩:=HZ.out
 have hb2:=ae w1 (.cells (Z.setIfInBounds 0 (Value.slice (some ⟨w.heap.size,0,none⟩) n n)) 311)
 have hh:=heap_alloc_new w1 (.cells (Z.setIfInBounds 0 (Value.slice (some ⟨w.heap.size,0,none⟩) n n)) 311)
 refine bodyPost_ret (v:=.tuple #[.pointer (some ⟨w1.heap.size,0,none⟩),.int .i64 0]) (by simp [results,Tryz.results168,go_sem]) rfl ⟨_,w.heap.size,rfl,⟨by omega,hn,?_,λi hi=>⟨?_,?_⟩,λi j hi hj=>?_,(by simp;omega),λ_ h=>(by cases h),λ_ _ _=>rfl,λ_ _=>(by omega)⟩,by omega,Nat.le_refl _,aa HB.out hb2⟩
 ·rw [cell_of_row _ _ _ _ _ _ hh]
  simp [hZs]
 ·rw [cell_of_row _ _ _ _ _ _ hh,Array.getElem?_setIfInBounds_ne (by omega)]
  exact hZi i hi
 ·simp only [World.frozen?,hh]
  simp
 ·exact (HL.out (i*64+j) (by omega)).later hb2
def uA (n:Nat)(p:Int):Bool:=decide (0<=p/\p<(n:Int))
theorem bo (g pb n:Nat)(p:Int)(w:World)(x:w.cell? ⟨g,0,none⟩=some (.slice (some ⟨pb,0,none⟩) n n)) :
  Calls Tryz.prog 372 #[.pointer (some ⟨g,0,none⟩),.int .i64 p] w λe w'=>e=.returned (.bool (uA n p))/\w'=w:=by
 unfold uA;by_cases h0:0<=p
 ·have hd:decide (0<=p/\p<(n:Int))=decide (p<(n:Int)):=by simp [h0]
  have hg:decide (p>=0)=true:=decide_eq_true h0
  go_enter Tryz.func372,Tryz.ntmps372
  go_wp2;go_ret;exact⟨au hd.symm,rfl⟩
 ·have hd:decide (0<=p/\p<(n:Int))=false:=by simp [h0]
  have hg:decide (p>=0)=false:=decide_eq_false h0
  go_enter Tryz.func372,Tryz.ntmps372
  go_wp2;go_ret;exact⟨rfl,rfl⟩
def fx (n:Nat)(t:Nat->Bool)(b:Bool):List Nat:=(List.range n).filter λi=>t i==b
def de (l:List Nat):List Int:=l.map λ(k:Nat)=>(k:Int)
theorem gl (l:List Nat):(de l).length=l.length:=by simp [de]
theorem qa (l m:List Nat):de (l++m)=de l++de m:=by simp [de]
theorem jz (n:Nat)(t:Nat->Bool)(b:Bool):fx (n+1) t b=fx n t b++(if t n==b then [n] else []):=by
 simp only [fx,List.range_succ,List.filter_append];congr 1
 by_cases h:t n==b<;>simp [h]
theorem tx (n:Nat)(t:Nat->Bool)(b:Bool):(fx n t b).length<=n:=by
 have:=List.length_filter_le (λi=>t i==b) (List.range n)
 simpa [fx] using this
theorem oE {n:Nat}{t:Nat->Bool}{b:Bool}{i:Nat}:i∈fx n t b↔i<n/\t i=b:=by simp [fx]
def Dv (w:World)(n:Nat)(t:Nat->Bool)(b:Bool)(v k:Value)(w':World):Prop :=
 ∃(i:Nat) (a:Option Addr) (m cap:Nat),v=.slice a m cap/\k=.int .i64 (i:Int)/\i<=n/\m<=i/\Own w' w.heap.size 3 a m cap (ints (de (fx i t b)))/\Below w.heap.size w w'
theorem lu (g pb n:Nat)(t:Nat->Bool)(B:Nat->Nat->Nat)(b:Bool)(w:World)(h:di w g pb n t B) :
  Calls Tryz.prog 319 #[.pointer (some ⟨g,0,none⟩),.bool b] w λe w'=>∃a m cap,e=.returned (.slice a m cap)/\Own w' w.heap.size 3 a m cap (ints (de (fx n t b)))/\Below w.heap.size w w':=by
 have x:=h.head
 have HA:Hid (di w g pb n t B):=h
 have hn:=h.le
 clear h;go_enter Tryz.func319,Tryz.ntmps319
 go_wp2;go_loopw [5,12] (Dv w n t b) (λ_ k _=>n - (intOf k).toNat)
 case atStart=>exact⟨0,none,0,0,rfl,rfl,Nat.zero_le _,Nat.le_refl _,Own.nil _ _ _,Below.refl _ _⟩
 case round =>
  clear x;obtain⟨i,a,m,cap,rfl,rfl,hi,hm,hO,hB⟩:=hrel
  have HO:Hid (Own wr w.heap.size 3 a m cap (ints (de (fx i t b)))):=hO
  have HB:Hid (Below w.heap.size w wr):=hB
  clear hO hB;by_cases hlt:i<n
  ·have hd:decide ((i:Int)<(n:Int))=true:=decide_eq_true (by omega)
   have y:=((HA.out.later HB.out).mark i (by omega)).1
   cases he:(t i==b) with
   | true =>
    obtain⟨a',cap',w2,hrun,hO2,hG⟩:=dA (HO.out.alloc (Obj.cells #[Value.int .i64 (i:Int)] 3)) (Row.single wr 3 (.int .i64 (i:Int)) rfl) (by have:=HB.out.size;simp;omega) (by omega)
    have PD:=ab hrun
    have hB2:Below w.heap.size w w2:=(HB.out.alloc HB.out.size _).trans (Gr.below (HO.out.alloc _) hG (by have:=HB.out.size;simp;omega))
    have PS:Hid (Own w2 w.heap.size 3 a' (m+1) cap' (ints (de (fx (i+1) t b)))):=by
     rw [jz,he,qa,bA];exact hO2
    have PB:=ab hB2
    clear hrun hO2 hG hB2;go_wp2_with (first|(at_builtin;refine al rfl _ _ 42 rfl _ _ rfl rfl _ w2 PD.out ?_))
    exact⟨⟨i+1,a',m+1,cap',rfl,rfl,by omega,by omega,PS.out,PB.out⟩,by simp [intOf];omega⟩
   | false =>
    have PS:Hid (Own wr w.heap.size 3 a m cap (ints (de (fx (i+1) t b)))):=by
     refine ab ?_
     rw [jz,he];simpa using HO.out
    go_wp2;exact⟨⟨i+1,a,m,cap,rfl,rfl,by omega,by omega,PS.out,HB.out⟩,by simp [intOf];omega⟩
  ·obtain rfl:i=n:=by omega
   have hd:decide ((i:Int)<(i:Int))=false:=by simp
   go_wp2;go_ret;exact⟨a,m,cap,rfl,HO.out,HB.out⟩
theorem zw (g pb n:Nat)(t:Nat->Bool)(B:Nat->Nat->Nat)(w:World)(h:di w g pb n t B) :
  Calls Tryz.prog 313 #[.pointer (some ⟨g,0,none⟩)] w λe w'=>e=.returned (.int .i64 ((fx n t false).length:Int))/\Below w.heap.size w w':=by
 have H:=ab h
 clear h;go_enter Tryz.func313,Tryz.ntmps313
 go_wp2_with (first|(go_at_call 319;refine (lu g pb n t B false _ H.out).mono ?_;rintro e w1 ⟨a,m,cap,rfl,O,hb⟩))
 go_ret;have hl:=O.len
 rw [aL,gl] at hl;exact⟨aT (by rw [hl]),hb⟩
def ke (n:Nat)(t:Nat->Bool)(p off m:Int):Int:=if uA n p=true/\t p.toNat=true then (if 0<=off/\0<=m/\m<=64 - off then 0 else 5) else 20
theorem jk (g pb n:Nat)(t:Nat->Bool)(B:Nat->Nat->Nat)(p off m:Int)(w:World)(h:di w g pb n t B)(ho:-9223372036854775808<=off/\off<9223372036854775808) :
  Calls Tryz.prog 330 #[.pointer (some ⟨g,0,none⟩),.int .i64 p,.int .i64 off,.int .i64 m] w λe w'=>e=.returned (.int .i64 (ke n t p off m))/\w'=w:=by
 have x:=h.head
 have H:=ab h
 have hn:=h.le
 clear h;have HW:Hid (0<=off->IntKind.i64.wrap (64 - off)=64 - off):=ab (λh=>by rw [IntKind.wrap_i64];omega)
 obtain⟨E,hE⟩:∃E,E=ke n t p off m:=⟨_,rfl⟩
 rw [<-hE];have HE:=ab hE
 clear hE;cases hth:uA n p with
 | false =>
  go_enter Tryz.func330,Tryz.ntmps330
  go_wp2_with (first|(go_at_call 372;refine (bo g pb n p _ x).mono ?_;rintro e w1 ⟨rfl,rfl⟩;rw [hth]))
  go_ret;exact⟨aT (by rw [HE.out];simp [ke,hth]),rfl⟩
 | true =>
  obtain⟨q,rfl⟩:∃q:Nat,p=(q:Int):=⟨p.toNat,by simp [uA] at hth;omega⟩
  have hq:q<n:=by simp [uA] at hth;omega
  have y:=(H.out.mark q (by omega)).1
  cases htq:t q with
  | false =>
   rw [htq] at y;go_enter Tryz.func330,Tryz.ntmps330
   go_wp2_with (first|(go_at_call 372;refine (bo g pb n (q:Int) _ x).mono ?_;rintro e w1 ⟨rfl,rfl⟩;rw [hth]))
   go_ret;exact⟨aT (by rw [HE.out];simp [ke,htq]),rfl⟩
  | true =>
   rw [htq] at y;have e1:ke n t (q:Int) off m=if 0<=off/\0<=m/\m<=64 - off then 0 else 5:=by simp [ke,hth,htq]
   rw [e1] at HE;clear e1 ho;by_cases h0:off<0
   ·have hd0:decide (off<0)=true:=decide_eq_true h0
    go_enter Tryz.func330,Tryz.ntmps330
    go_wp2_with (first|(go_at_call 372;refine (bo g pb n (q:Int) _ x).mono ?_;rintro e w1 ⟨rfl,rfl⟩;rw [hth]))
    go_ret;exact⟨aT (by rw [HE.out,if_neg (by omega)]),rfl⟩
   ·have hd0:decide (off<0)=false:=decide_eq_false h0
    by_cases h1:m<0
    ·have hd1:decide (m<0)=true:=decide_eq_true h1
     go_enter Tryz.func330,Tryz.ntmps330
     go_wp2_with (first|(go_at_call 372;refine (bo g pb n (q:Int) _ x).mono ?_;rintro e w1 ⟨rfl,rfl⟩;rw [hth]))
     go_ret;exact⟨aT (by rw [HE.out,if_neg (by omega)]),rfl⟩
    ·have hd1:decide (m<0)=false:=decide_eq_false h1
     have ew:IntKind.i64.wrap (64 - off)=64 - off:=HW.out (by omega)
     by_cases h2:m>64 - off
     ·have hd2:decide (m>64 - off)=true:=decide_eq_true h2
      go_enter Tryz.func330,Tryz.ntmps330
      go_wp2_with (first|(go_at_call 372;refine (bo g pb n (q:Int) _ x).mono ?_;rintro e w1 ⟨rfl,rfl⟩;rw [hth]))
      go_ret;exact⟨aT (by rw [HE.out,if_neg (by omega)]),rfl⟩
     ·have hd2:decide (m>64 - off)=false:=decide_eq_false h2
      go_enter Tryz.func330,Tryz.ntmps330
      go_wp2_with (first|(go_at_call 372;refine (bo g pb n (q:Int) _ x).mono ?_;rintro e w1 ⟨rfl,rfl⟩;rw [hth]))
      go_ret;exact⟨aT (by rw [HE.out,if_pos (by omega)]),rfl⟩
def yI (w:World)(a:Option Addr):Prop:=∀x,a=some x->∀j,w.frozen? ⟨x.block,j,none⟩=false
theorem _root_.Go.Proofs.YtffmodpgddecnaaGreatDoor.Own.soft {w:World}{base:Nat}{e:TypeId}{a:Option Addr}{n cap:Nat}{L:List Value}(h:Own w base e a n cap L):yI w a:=by
 intro x hx j;rcases h.row.2 with ⟨h1,hn⟩|⟨g,c,cur,hv,_,hh,hc,_⟩
 ·subst hx;simp at h1
 ·subst hx
  simp only [Value.slice.injEq,Option.some.injEq] at hv;obtain⟨rfl,_,rfl⟩:=hv
  simp [World.frozen?,hh]
theorem yI.but {S:Nat->Prop}{w w':World}{a:Option Addr}(hb:ah S w w')(h:yI w a)(hl:∀k,aJ a k->k<w.heap.size)(hn:∀k,aJ a k->¬S k):yI w' a:=λx hx j=>by
 have e:w'.frozen? ⟨x.block,j,none⟩=w.frozen? ⟨x.block,j,none⟩:=World.frozen?_of_block (hb.block x.block (hl _ ⟨x,hx,rfl⟩) (hn _ ⟨x,hx,rfl⟩))
 rw [e];exact h x hx j
structure rY (w:World)(base:Nat)(a:Option Addr)(n cap:Nat)(L:List Value):Prop where
 row:Row w a n cap L
 soft:yI w a
 ge:∀k,aJ a k->base<=k
 lt:∀k,aJ a k->k<w.heap.size
theorem rY.but {S:Nat->Prop}{w w':World}{base:Nat}{a:Option Addr}{n cap:Nat}{L:List Value}(hb:ah S w w')(h:rY w base a n cap L)(hn:∀k,aJ a k->¬S k):rY w' base a n cap L :=
 ⟨h.row.but hb hn,h.soft.but hb h.lt hn,h.ge,λk hk=>Nat.lt_of_lt_of_le (h.lt k hk) hb.size⟩
theorem _root_.Go.Proofs.YtffmodpgddecnaaGreatDoor.Own.K3 {w:World}{base:Nat}{e:TypeId}{a:Option Addr}{n cap:Nat}{L:List Value}(h:Own w base e a n cap L):rY w base a n cap L:=⟨h.read,h.soft,h.bT,h.lt⟩
def tk (t:Nat->Bool)(L:List Nat):Nat->Bool:=λi=>t i||decide (i∈L)
theorem BZ (t:Nat->Bool):tk t []=t:=by funext i;simp [tk]
theorem di.AG {w:World}{g pb n:Nat}{t u:Nat->Bool}{B:Nat->Nat->Nat}{k:Nat}{b:Bool}(h:di w g pb n t B)(hk:k<n)(hu:∀i,u i=if i=k then b else t i)(hC:∀i j,u i=false->B i j=0) :
  di (w.setCell ⟨g,1+k,none⟩ (.bool b)) g pb n u B:=by
 have hn:=h.le
 refine⟨h.ne,h.le,?_,λi hi=>?_,λi j hi hj=>(h.kB i j hi hj).other (λe=>h.ne (congrArg Addr.block e)),by simpa using h.lt,λi hi=>?_,hC,h.small⟩
 ·rw [World.cell?_setCell_other _ _ _ _ (λe=>by have:=congrArg Addr.off e;simp at this)]
  exact h.head
 ·rw [hu i]
  by_cases e:i=k
  ·subst e
   rw [if_pos rfl];exact (h.mark i hi).put
  ·rw [if_neg e]
   exact (h.mark i hi).other (λe2=>e (by have:=congrArg Addr.off e2;simp at this;omega))
 ·rw [hu i] at hi
  split at hi
  ·omega
  ·exact h.only i hi
def D1 (w1:World)(g pb n:Nat)(t:Nat->Bool)(B:Nat->Nat->Nat)(K:Nat)(v:Value)(w':World):Prop :=
 ∃i:Nat,v=.int .i64 (i:Int)/\i<=K/\di w' g pb n (tk t ((fx n t false).take i)) B/\ah (·=g) w1 w'
theorem iw (L:List Nat)(i:Nat)(h:i<L.length):(ints (de L))[i]?=some (.int .i64 ((L[i]:Nat):Int)):=by
 rw [ef _ i (by rw [gl];exact h)]
 simp [de]
theorem Ei (g pb n:Nat)(t:Nat->Bool)(B:Nat->Nat->Nat)(K:Nat)(w:World)(h:di w g pb n t B)(hk:K<=(fx n t false).length) :
  Calls Tryz.prog 258 #[.pointer (some ⟨g,0,none⟩),.int .i64 (K:Int)] w λe w'=>∃a,e=.returned (.tuple #[.slice a K K,.int .i64 0])/\rY w' w.heap.size a K K (ints (de ((fx n t false).take K))) /\
   di w' g pb n (tk t ((fx n t false).take K)) B/\ah (·=g) w w':=by
 have hd:decide ((K:Int)<0)=false:=decide_eq_false (by omega)
 have H:=ab h
 have HK:=ab hk
 have hgl:=h.B9
 have hn:=h.le
 have hK2:K<=256:=Nat.le_trans hk (Nat.le_trans (tx n t false) hn)
 clear h hk;go_enter Tryz.func258,Tryz.ntmps258
 go_upto_region 4 with (first|(go_at_call 319;refine (lu g pb n t B false _ H.out).mono ?_;rintro e w1 ⟨a,m,cap,rfl,O,hb⟩))
 have hl:=O.len
 rw [aL,gl] at hl;have hKm:K<=m:=by have:=HK.out;omega
 have hd2:decide ((K:Int)>(m:Int))=false:=decide_eq_false (by omega)
 have HL:=ab hl
 have HO:=ab O
 have HB:=ab hb
 have hcap:=O.read.cap_
 clear hl O hb;cases a with
 | none =>
  obtain⟨rfl,rfl⟩:=HO.out.read.none_ rfl
  obtain rfl:K=0:=by omega
  have HZ:Hid (di w1 g pb n (tk t ((fx n t false).take 0)) B):=ab (by rw [List.take_zero,BZ];exact H.out.later HB.out)
  simp only [Int.cast_ofNat_Int];go_wp2;go_loopw [21] (λk w'=>k=.int .i64 0/\w1=w') (λ_ _=>0)
  case atStart=>exact⟨rfl,rfl⟩
  case round =>
   obtain⟨rfl,rfl⟩:=hrel
   go_wp2;refine bodyPost_ret (v:=.tuple #[.slice none 0 0,.int .i64 0]) (by simp [results,Tryz.results258,go_sem]) rfl ⟨none,rfl,⟨?_,λ_ h=>(by cases h),λ_ h=>?_,λ_ h=>?_⟩,HZ.out,ah.of HB.out⟩
   ·exact dS _
   ·obtain⟨_,h,_⟩:=h
    cases h
   ·obtain⟨_,h,_⟩:=h
    cases h
 | some x =>
  obtain⟨gb,rfl,hgb⟩:∃gb,x=⟨gb,0,none⟩/\w.heap.size<=gb:=by
   rcases HO.out.row.2 with ⟨h1,hn⟩|⟨gb,c,cur,hv,hgb,_⟩
   ·simp at h1
   ·simp only [Value.slice.injEq,Option.some.injEq] at hv
    exact⟨gb,hv.1,hgb⟩
  go_upto_region 7 with fail
  go_loopw [21] (D1 w1 g pb n t B K) (λk _=>K - (intOf k).toNat)
  case atStart=>exact⟨0,rfl,Nat.zero_le _,by rw [List.take_zero,BZ];exact H.out.later HB.out,ah.refl _ _⟩
  case round =>
   obtain⟨i,rfl,hi,hA,hBt⟩:=hrel
   have HA:=ab hA
   have PH:=ab hBt
   clear hA hBt;by_cases hlt:i<K
   ·have hd3:decide ((i:Int)<(K:Int))=true:=decide_eq_true (by omega)
    have hil:i<(fx n t false).length:=by have:=HL.out;omega
    obtain⟨q,hq⟩:∃q,q=(fx n t false)[i]:=⟨_,rfl⟩
    have hqm:q<n/\t q=false:=oE.1 (by rw [hq];exact List.getElem_mem _)
    have hqn:=hqm.1
    have y:wr.cell? ⟨gb,i,none⟩=some (.int .i64 (q:Int)):=by
     have:=(HO.out.read.but PH.out (λk hk e=>by obtain⟨z,hz,rfl⟩:=hk;cases hz;simp only at e;omega)).cells _ rfl i _ (iw _ i hil)
     rw [aQ] at this;rw [hq];exact this
    have z:=HA.out.mark q (by omega)
    have z1:=z.1
    have z2:=z.2
    have HN:Hid (di (wr.setCell ⟨g,1+q,none⟩ (.bool true)) g pb n (tk t ((fx n t false).take (i+1))) B):=HA.out.AG hqn (λj=>by
     rw [List.take_add_one,List.getElem?_eq_getElem hil,<-hq];simp only [tk,Option.toList_some,List.mem_append,List.mem_singleton];by_cases e:j=q
     ·simp [e]
     ·simp [e]) (λj b hj=>H.out.zero j b (by simp [tk] at hj;exact hj.1))
    have TP:Hid (ah (·=g) w1 (wr.setCell ⟨g,1+q,none⟩ (.bool true))):=PH.out.setCell (p:=⟨g,1+q,none⟩) (show g=g from rfl) _
    clear z hq hqm;go_wp2;exact⟨⟨i+1,rfl,by omega,HN.out,TP.out⟩,by simp [intOf];omega⟩
   ·obtain rfl:i=K:=by omega
    go_wp2;have hO:=HO.out.K3.but PH.out (λk hk e=>by obtain⟨z,hz,rfl⟩:=hk;cases hz;simp only at e;omega)
    have hr:=hO.row.sub (m:=i) (c:=i) hKm (Nat.le_refl _) (λh=>by cases h)
    refine bodyPost_ret (v:=.tuple #[.slice (some ⟨gb,0,none⟩) i i,.int .i64 0]) (by simp [results,Tryz.results258,go_sem]) rfl ⟨_,rfl,⟨?_,hO.soft,hO.ge,hO.lt⟩,HA.out,(ah.of HB.out).trans PH.out⟩
    simpa [ints,de,List.map_take] using hr
theorem aV {P:Program}{w:World}{ops:Array Oper}{rest:List Oper}{a:Act}{Q:Exit->Act->World->Prop}{d:Option Tmp}{tt:TypeId}{ps:String}{af}{ty:TypeId}{x:Operand}{p v:Value}
  (hr:(Instr.loadAt ty p).run P w=.ok v w) (hx:a.eval x=p) (h:wpList P ops Q rest (a.put d v) w) :
  wpList P ops Q ({ dst:=d,op:=.load ty x,type:=tt,pos:=ps,after:=af,guard:=none }::rest) a w:=by
 refine wpList_plain rfl λK hK=>?_
 unfold Oper.wp execOp;simp only [hx,hr,Sem.run_bind,Sem.run_pure,Result.andThen_ok];exact hK _ _ h
theorem jN {P:Program}{w w':World}{ops:Array Oper}{rest:List Oper}{a:Act}{Q:Exit->Act->World->Prop}{d:Option Tmp}{tt:TypeId}{ps:String}{af}{t:TypeId}{x:Operand}{vx v:Value}
  (hr:(Builtin.clear_ #[t] tt #[vx]).run P w=.ok v w') (hx:a.eval x=vx) (h:wpList P ops Q rest (a.put d v) w') :
  wpList P ops Q ({ dst:=d,op:=.call { callee:=.builtin .clear,args:=#[x],argTypes:=#[t] },type:=tt,pos:=ps,after:=af,guard:=none }::rest) a w:=by
 refine wpList_plain rfl λK hK=>?_
 unfold Oper.wp execOp;simp only [resolve,invoke,builtin,Sem.run_bind,Sem.run_pure,Result.andThen_ok,List.map_toArray,List.map_cons,List.map_nil,hx,hr];exact hK _ _ h
theorem xZ (t:TypeId)(n:Nat)(ht:Tryz.prog.underlying t=some (.array n 5))(xs ys:List UInt8)(hx:xs.length=n)(hy:ys.length=n)(w:World) :
  (Op.equalIn 10000 t (.agg (xs.map Extern.Stop.cell).toArray) (.agg (ys.map Extern.Stop.cell).toArray)).run Tryz.prog w=.ok (xs==ys) w :=
 run_equalIn_bytes (P:=Tryz.prog) w 9998 t 5 n ht Tryz.underlying5 (λw=>by
  obtain⟨i,hi,hz0,hz1,hz2⟩:=info_parts jr
  simp [sizeOf,typeInfo,hi,hz1]) xs ys hx hy
end Go.Proofs.YtffmodpgddecnaaGreatDoor.S
