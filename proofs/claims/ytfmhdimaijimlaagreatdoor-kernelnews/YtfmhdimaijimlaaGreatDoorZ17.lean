import Derived.Test.YtfmhdimaijimlaaGreatDoorZ16
import Derived.Shelf.Slices.SearchI
import Derived.Shelf.Slices.Clone
import Derived.Shelf.Slices.Delete
import Derived.Sort.OwnSortedInts
set_option linter.all false
set_option maxRecDepth 1000000
set_option maxHeartbeats 8000000
open Go.Proofs.Tryz
variable {w w' w1 w2:Go.World}{n m k i j b g base kn:Nat}{a:Option Go.Addr}
namespace Go.Proofs.YtfmhdimaijimlaaGreatDoor.P
open Go.Shelf Go.RowKit Go.Sort
def JI:Go.Shelf.Ren:=⟨fun|25=>102|31=>148|32=>149|37=>188|23=>221|15=>176|n=>n,fun|40=>245|22=>43|n=>n,fun|n=>n⟩
theorem Iy:Lays2.n25 prog JI:={
 mixed:=by kernel_rfl,
 f25:=func102.trans (congrArg some (by kernel_rfl)),
 f31:=func148.trans (congrArg some (by kernel_rfl)),
 f32:=func149.trans (congrArg some (by kernel_rfl)),
 f37:=func188.trans (congrArg some (by kernel_rfl)),
 t0:=underlying0,a0:=isAgg0,z0:=sizeOf0,v0:=zeroValue0,
 t3:=underlying3,a3:=isAgg3,z3:=sizeOf3,v3:=zeroValue3,
 t4:=underlying4,a4:=isAgg4,z4:=sizeOf4,v4:=zeroValue4,
 t22:=underlying43,a22:=isAgg43,z22:=sizeOf43,v22:=zeroValue43,
 t40:=underlying245,a40:=isAgg245,z40:=sizeOf245,v40:=zeroValue245 }
theorem Fg:Lays2.n15 prog JI:={
 mixed:=by kernel_rfl,
 f15:=func176.trans (congrArg some (by kernel_rfl)),
 t3:=underlying3,a3:=isAgg3,z3:=sizeOf3,v3:=zeroValue3,
 t4:=underlying4,a4:=isAgg4,z4:=sizeOf4,v4:=zeroValue4,
 t22:=underlying43,a22:=isAgg43,z22:=sizeOf43,v22:=zeroValue43,
 i3:=sj }
theorem Ia:Lays2.n23 prog JI:={
 mixed:=by kernel_rfl,
 f23:=func221.trans (congrArg some (by kernel_rfl)),
 t0:=underlying0,a0:=isAgg0,z0:=sizeOf0,v0:=zeroValue0,
 t3:=underlying3,a3:=isAgg3,z3:=sizeOf3,v3:=zeroValue3,
 t4:=underlying4,a4:=isAgg4,z4:=sizeOf4,v4:=zeroValue4,
 t22:=underlying43,a22:=isAgg43,z22:=sizeOf43,v22:=zeroValue43,
 i3:=sj }
theorem fk {cap:Nat}{L:List Int}(h:Own w base 3 (some ⟨g,0,none⟩) n cap (ints L)):∀j,j<L.length->w.cell? ⟨g,0+j,none⟩=some (.int .i64 (L.getD j 0)):=λj hj=>by
 have h1:=h.read.cells _ rfl j _ (ep L j hj)
 rw [aV] at h1
 rw [h1]
 simp [List.getD,hj]
theorem kU {cap:Nat}{L:List Int}(h:Own w base 3 a n cap (ints L)):L.length=n:=by have:=h.len;rwa [qt] at this
theorem vE {cap:Nat}{L:List Int}(h:Own w base 3 none n cap (ints L)):n=0/\cap=0/\L=[]:=by
 have h1:=h.read.none_ rfl
 exact⟨h1.1,h1.2,List.eq_nil_of_length_eq_zero (by rw [kU h];exact h1.1)⟩
theorem qc {cap:Nat}{a:Addr}{L:List Value}(h:Own w base 3 (some a) n cap L):∃g,a=⟨g,0,none⟩:=by
 rcases h.row.2 with ⟨h1,h2⟩|⟨g,c,cur,hv,_⟩
 ·simp at h1
 ·simp only [Value.slice.injEq,Option.some.injEq] at hv
  exact⟨g,hv.1⟩
theorem tp (x:Int)(w:World):Calls prog 102 #[.slice none 0 0,.int .i64 x] w λe w'=>e=.returned (.tuple #[.int .i64 0,.bool false])/\∃q,w'=w.drewN q:=by
 go_enter func102,ntmps102
 go_wp2
 go_loopw [7,8] (λs t w'=>s=.int .i64 0/\t=.int .i64 0/\w=w') (λ_ _ _=>0)
 case atStart=>exact⟨rfl,rfl,rfl⟩
 case round =>
  obtain⟨rfl,rfl,rfl⟩:=hrel
  go_wp2
  exact bodyPost_ret (v:=.tuple #[.int .i64 0,.bool false]) (by simp [results,results102,go_sem]) rfl ⟨rfl,0,rfl⟩
theorem ft {cap:Nat}{L:List Int}(h:Own w base 3 a n cap (ints L))(hn:n<4611686018427387904)(hs:L.Pairwise (·<=·))(x:Int) :
  Calls prog 102 #[.slice a n cap,.int .i64 x] w λe w'=>e=.returned (.tuple #[.int .i64 (L.countP (·<x):Nat),.bool (L.contains x)])/\∃q,w'=w.drewN q:=by
 cases a with
 | none =>
  obtain⟨rfl,rfl,rfl⟩:=vE h
  exact tp x w
 | some p =>
  obtain⟨g,rfl⟩:=qc h
  have hl:=kU h
  have h2:=Any.slices_BinarySearch_int Iy g 0 n cap L x w (by omega) hn (fk h) (by rw [List.take_of_length_le (by omega)];exact hs)
  rw [List.take_of_length_le (by omega)] at h2
  exact h2
theorem sW {cap:Nat}{L:List Int}(h:Own w base 3 a n cap (ints L))(hb:base<=w.heap.size)(hn:n<=4096)(x:Int) :
  Calls prog 133 #[.slice a n cap,.int .i64 n,.slice (some ⟨w.heap.size,0,none⟩) 1 1] (w.alloc (Obj.cells #[.int .i64 x] 3)) λe w'=>∃a' cap',e=.returned (.slice a' (n+1) cap')/\Own w' base 3 a' (n+1) cap' (ints (L++[x]))/\Gr a a' w w':=by
 have hc:=h.read.cap_
 have hm:cap<=maxLen:=by
  rcases h.row.2 with ⟨h1,h2⟩|⟨g,c,cur,hv,_,_,_,h4,_⟩
  ·simp only [Value.slice.injEq] at h1;unfold maxLen;omega
  ·simp only [Value.slice.injEq] at hv;omega
 unfold maxLen at hm
 obtain⟨a',cap',w',hrun,hO,hG⟩:=mN x (.inl h) hb (by omega)
 have HRUN:=aa hrun
 have HO:=aa hO
 have HG:=aa hG
 clear hrun hO hG h
 obtain⟨w1,hw1⟩:∃w1,w1=w.alloc (Obj.cells #[.int .i64 x] 3):=⟨_,rfl⟩
 obtain⟨vb,hvb⟩:∃vb,vb=w.heap.size:=⟨_,rfl⟩
 rw [<-hw1,<-hvb] at HRUN
 rw [<-hw1,<-hvb]
 clear hw1 hvb
 go_enter func133,ntmps133
 go_wp2_with (first|(at_builtin;refine kt rfl _ _ 43 rfl _ _ rfl rfl _ w' HRUN.o ?_))
 all_goals
  go_ret
  exact⟨a',cap',rfl,HO.o,HG.o⟩
theorem _root_.Go.Proofs.YtfmhdimaijimlaaGreatDoor.Own.cut {w:World}{base:Nat}{e:TypeId}{g n cap m:Nat}{L:List Value}(h:Own w base e (some ⟨g,0,none⟩) n cap L)(hm:m<=n):Own w base e (some ⟨g,0,none⟩) m cap (L.take m):=by
 have hl:=h.len
 refine⟨⟨by rw [List.length_take];omega,?_⟩,λu hu=>h.one u (List.mem_of_mem_take hu)⟩
 rcases h.row.2 with ⟨h1,h2⟩|⟨g',c,cur,hv,h1,h2,h3,h4,h5,h6⟩
 ·simp at h1
 ·simp only [Value.slice.injEq] at hv
  obtain⟨hg,_,rfl⟩:=hv
  refine .inr ⟨g',cap,cur,by rw [hg],h1,h2,by omega,h4,h5,?_⟩
  rw [<-h6,List.take_take]
  congr 1
  omega
theorem nF (W:World):grow W #[]=W:=by simp [grow]
theorem sV {cap:Nat}{L:List Int}(h:Own w base 3 (some ⟨g,0,none⟩) n cap (ints L))(i:Nat)(hi:i<n) :
  Calls prog 221 #[.slice (some ⟨g,0,none⟩) n cap,.int .i64 (i:Nat),.int .i64 (i+1:Nat)] w λe w'=>e=.returned (.slice (some ⟨g,0,none⟩) (n - 1) cap)/\Own w' base 3 (some ⟨g,0,none⟩) (n - 1) cap (ints (L.take i++L.drop (i+1)))/\ae (λk=>k=g) w w':=by
 have hl:=kU h
 subst hl
 rcases h.row.2 with ⟨h1,_⟩|⟨g',c,cur,hv,hg,hh,h1,h2,h3,h4⟩
 ·simp at h1
 ·simp only [Value.slice.injEq,Option.some.injEq] at hv
  obtain⟨hg1,_,rfl⟩:=hv
  obtain rfl:g=g':=by simpa using hg1
  have hH:Holds (Value.int .i64) w g 0 L.toArray:=holds_of_blockI hh (by simpa [ints] using h4)
  have hd:=Any.slices_Delete_int Ia g 0 cap i (i+1) L w hH h1 (by unfold maxLen at h2;omega) (by omega) (by omega)
  refine hd.mono ?_
  rintro e w' ⟨rfl,q,rfl⟩
  have hone:i+1 - i=1:=by omega
  rw [hone]
  have hlen:(L.take i++L.drop (i+1)++List.replicate 1 0).length=L.length:=by simp;omega
  have ho:Own (putRow (Value.int .i64) (Sort.ahead w q) g 0 (L.take i++L.drop (i+1)++List.replicate 1 0).toArray) base 3 (some ⟨g,0,none⟩) L.length cap (ints (L.take i++L.drop (i+1)++List.replicate 1 0)):=by
   have:=ownsRow_sortedI (n:=q) (os:=#[]) hlen hg hh h1 h2 h3
   rw [nF] at this
   exact⟨this,eC _⟩
  have hg2:w.grownBy (putRow (Value.int .i64) (Sort.ahead w q) g 0 (L.take i++L.drop (i+1)++List.replicate 1 0).toArray) (some g):=by
   have:=grownBy_sortedI (w:=w) (g:=g) (n:=q) (os:=#[]) (L.take i++L.drop (i+1)++List.replicate 1 0).toArray
   rw [nF] at this
   exact this
  refine⟨rfl,?_,⟨hg2.os,hg2.tape,hg2.output,hg2.size,λk hk hn=>hg2.block k hk (λe=>hn (by simpa using e))⟩⟩
  have hcut:=ho.cut (m:=L.length - 1) (by omega)
  rw [bf,List.take_left' (by rw [qt];simp;omega)] at hcut
  exact hcut
theorem wI {cap:Nat}{L:List Int}(h:Own w base 3 a n cap (ints L))(hn:n<=4096) :
  Calls prog 176 #[.slice a n cap] w λe w'=>∃p c,e=.returned (.slice p n c)/\Own w' w.heap.size 3 p n c (ints L)/\Below w.heap.size w w':=by
 cases a with
 | none =>
  obtain⟨rfl,rfl,rfl⟩:=vE h
  refine (Any.slices_Clone_int_nil Fg 0 0 w).mono ?_
  rintro e w' ⟨rfl,rfl⟩
  exact⟨none,0,rfl,Own.nil _ _ _,Below.refl _ _⟩
 | some p =>
  obtain⟨g,rfl⟩:=qc h
  have hl:=kU h
  refine (Any.slices_Clone_int Fg g 0 n cap L w (by omega) (by omega) (fk h)).mono ?_
  rintro e w' ⟨v',rfl,ho,_,hb⟩
  rw [List.take_of_length_le (by omega)] at ho
  rcases ho.2 with ⟨h1,h2⟩|⟨g',c,cur,hv,h3⟩
  ·subst h1
   exact⟨none,0,by rw [h2],⟨by rw [h2] at ho ⊢;exact ho,eC _⟩,hb⟩
  ·subst hv
   exact⟨_,c,rfl,⟨ho,eC _⟩,hb⟩
open Go.RowKit
def iO (L:List Int):Prop:=L.Pairwise (·<·)
theorem iO.le {L:List Int}(h:iO L):L.Pairwise (·<=·):=List.Pairwise.imp (λh=>Int.le_of_lt h) h
theorem tj {L:List Int}{v:Int}(h:∀y∈L,y<v):L.countP (·<v)=L.length:=by
 rw [List.countP_eq_length]
 intro y hy
 exact dT (h y hy)
theorem pZ {L:List Int}{v:Int}(h:∀y∈L,y<v):L.contains v=false:=by
 rw [Bool.eq_false_iff]
 intro hc
 have:=h v (by simpa using hc)
 omega
def out (L:List Int)(n:Int):List Int:=L.filter (λy=>y != n)
theorem rL {L:List Int}{n:Int}(h:n∉L):out L n=L:=by
 unfold out
 rw [List.filter_eq_self]
 intro y hy
 simp only [bne_iff_ne,ne_eq]
 intro e
 exact h (e ▸ hy)
theorem sx:∀{L:List Int} {n:Int},iO L->n∈L->L.countP (·<n)<L.length/\L.take (L.countP (·<n))++L.drop (L.countP (·<n)+1)=out L n
 | [],n,_,h=>by cases h
 | y::l,n,hr,h=>by
  have hr':=List.pairwise_cons.1 hr
  by_cases h1:y<n
  ·have hn:n∈l:=by
    rcases List.mem_cons.1 h with e|e
    ·omega
    ·exact e
   obtain⟨i1,i2⟩:=sx (L:=l) hr'.2 hn
   have hc:(y::l).countP (·<n)=l.countP (·<n)+1:=by rw [List.countP_cons,if_pos (dT h1)]
   have hf:out (y::l) n=y::out l n:=by
    unfold out
    rw [List.filter_cons,if_pos (by simp;omega)]
   rw [hc,hf]
   refine⟨by simp;omega,?_⟩
   rw [List.take_succ_cons,List.drop_succ_cons,List.cons_append,i2]
  ·have hy:y=n:=by
    rcases List.mem_cons.1 h with e|e
    ·exact e.symm
    ·have:=hr'.1 n e;omega
   subst hy
   have hl:∀z∈l,y<z:=hr'.1
   have hc:(y::l).countP (·<y)=0:=by
    rw [List.countP_eq_zero]
    intro z hz
    rcases List.mem_cons.1 hz with e|e
    ·subst e;simp
    ·have:=hl z e;simp;omega
   have hf:out (y::l) y=l:=by
    unfold out
    rw [List.filter_cons,if_neg (by simp)]
    exact rL (λe=>by have:=hl y e;omega)
   rw [hc,hf]
   exact⟨by simp,by simp⟩
theorem CX {L:List Int}{n:Int}(hr:iO L)(h:n∈L):(out L n).length+1=L.length:=by
 obtain⟨h1,h2⟩:=sx hr h
 rw [<-h2]
 simp
 omega
theorem iZ {L:List Int}{n y:Int}:y∈out L n↔y∈L/\y≠n:=by simp [out]
theorem zy {L:List Int}{n:Int}(h:iO L):iO (out L n):=List.Pairwise.filter _ h
theorem FT (L:List Int)(n:Int):(out L n).length<=L.length:=List.length_filter_le _ _
theorem xV {L:List Int}{v:Int}(h:iO L)(hv:∀y∈L,y<v):iO (L++[v]):=by
 unfold iO
 rw [List.pairwise_append]
 exact⟨h,List.pairwise_singleton _ _,λa ha b hb=>by rw [List.mem_singleton] at hb;subst hb;exact hv a ha⟩
structure Iv (m x:Int)(L:List Int):Prop where
 m1:1<=m
 m2:m<=32
 len:(L.length:Int)<=m
 iD:iO L
 lo:∀y∈L,0<=y
 hi:∀y∈L,y<x
 x1:0<=x
 x2:x<=65536
def dy (m x:Int)(L:List Int):Bool:=decide (m<=(L.length:Int)\/65535<x)
def GV (m x:Int)(L:List Int):Int:=if dy m x L then 13 else 0
def GS (m x:Int)(L:List Int):Int:=if dy m x L then 0 else x
def As (m x:Int)(L:List Int):Int:=if dy m x L then x else x+1
def yN (m x:Int)(L:List Int):List Int:=if dy m x L then L else L++[x]
theorem Iv.spawn {m x:Int}{L:List Int}(h:Iv m x L):Iv m (As m x L) (yN m x L):=by
 unfold As yN
 by_cases hf:dy m x L=true
 ·rw [if_pos hf,if_pos hf];exact h
 ·rw [if_neg hf,if_neg hf]
  unfold dy at hf
  have hf2:¬(m<=(L.length:Int)\/65535<x):=λe=>hf (dT e)
  have:=h.x1
  refine⟨h.m1,h.m2,by simp;omega,xV h.iD h.hi,λy hy=>?_,λy hy=>?_,by omega,by omega⟩
  ·rcases List.mem_append.1 hy with e|e
   ·exact h.lo y e
   ·rw [List.mem_singleton] at e;omega
  ·rcases List.mem_append.1 hy with e|e
   ·have:=h.hi y e;omega
   ·rw [List.mem_singleton] at e;omega
def CK (L:List Int)(n:Int):Int:=if L.contains n then 0 else 20
theorem Iv.exit {m x:Int}{L:List Int}(h:Iv m x L)(n:Int):Iv m x (out L n) :=
 ⟨h.m1,h.m2,by have:=h.len;have:=FT L n;omega,zy h.iD,λy hy=>h.lo y (iZ.1 hy).1,λy hy=>h.hi y (iZ.1 hy).1,h.x1,h.x2⟩
theorem Iv.start {m:Int}(h1:1<=m)(h2:m<=32):Iv m 1 [0]:=⟨h1,h2,by simp;omega,List.pairwise_singleton _ _,by simp,by simp,by omega,by omega⟩
theorem Iv.dQ {m x:Int}{L:List Int}(h:Iv m x L):L.length<=32:=by have:=h.len;have:=h.m2;omega
structure Ob (w:World)(base g:Nat)(m x:Int)(pa:Option Addr)(cap:Nat)(L:List Int):Prop where
 c0:w.cell? ⟨g,0,none⟩=some (.int .i64 m)
 c1:aq w ⟨g,1,none⟩ (.int .i64 x)
 c2:aq w ⟨g,2,none⟩ (.slice pa L.length cap)
 own:Own w base 3 pa L.length cap (ints L)
 ap:∀k,aD pa k->k≠g
 lo:base<=g
variable {w w':World}{base g:Nat}{m x:Int}{pa:Option Addr}{cap:Nat}{L:List Int}
theorem Ob.lt (h:Ob w base g m x pa cap L):g<w.heap.size:=World.block_lt_of_cell? _ _ h.c0
theorem Ob.but {S:Nat->Prop}(h:Ob w base g m x pa cap L)(hb:ae S w w')(h1:¬S g)(h2:∀k,aD pa k->¬S k):Ob w' base g m x pa cap L :=
 ⟨aC hb h.c0 h1,h.c1.but hb h1,h.c2.but hb h1,h.own.but hb h2,h.ap,h.lo⟩
theorem Ob.later (h:Ob w base g m x pa cap L)(hb:Below w.heap.size w w'):Ob w' base g m x pa cap L:=h.but (S:=λ_=>False) (ae.of hb) (λh=>h) (λ_ _ h=>h)
theorem Ob.hb (h:Ob w base g m x pa cap L):base<=w.heap.size:=by have:=h.lo;have:=h.lt;omega
structure Rd (w w':World)(g:Nat)(pa pa':Option Addr):Prop where
 but:ae (λk=>k=g\/aD pa k) w w'
 on:∀k,aD pa' k->aD pa k\/w.heap.size<=k
theorem Rd.refl (g:Nat)(pa:Option Addr)(h:Below w.heap.size w w'):Rd w w' g pa pa:=⟨ae.of h,λ_ h=>.inl h⟩
theorem Rd.below {pa':Option Addr}{u:World}(h:Rd w w' g pa pa')(ho:Ob w base g m x pa cap L)(hb:Below base u w):Below base u w' :=
 ⟨h.but.os.trans hb.os,h.but.tape.trans hb.tape,h.but.output.trans hb.output,Nat.le_trans hb.size h.but.size,λk hk=>(h.but.block k (by have:=ho.hb;omega) (λe=>by
  rcases e with e|e
  ·have:=ho.lo;omega
  ·have:=ho.own.bD k e;omega)).trans (hb.block k hk)⟩
theorem Ob.put {pb:Option Addr}{c:Nat}{M:List Int}(h:Ob w base g m x pa cap L)(hG:Gr pa pb w w')(ho:Own w' base 3 pb M.length c (ints M)):Ob (w'.setCell ⟨g,2,none⟩ (.slice pb M.length c)) base g m x pb c M/\Rd w (w'.setCell ⟨g,2,none⟩ (.slice pb M.length c)) g pa pb:=by
 have hn:¬aD pa g:=λe=>h.ap g e rfl
 have hap:∀k,aD pb k->k≠g:=λk hk=>by
  rcases hG.on k hk with e|e
  ·exact h.ap k e
  ·have:=h.lt;omega
 exact⟨⟨by rw [World.cell?_setCell_other _ _ _ _ (by simp)];exact aC hG.but h.c0 hn,(h.c1.but hG.but hn).other (by simp),(h.c2.but hG.but hn).put,ho.but ((ae.refl (λk=>k=g) w').setCell (p:=⟨g,2,none⟩) rfl _) hap,hap,h.lo⟩,
  (hG.but.mono (λk hk=>.inr hk)).setCell (.inl rfl) _,λk hk=>hG.on k hk⟩
theorem Ob.CQ (h:Ob w base g m x pa cap L)(y:Int):Ob (w.setCell ⟨g,1,none⟩ (.int .i64 y)) base g m y pa cap L/\ae (λk=>k=g) w (w.setCell ⟨g,1,none⟩ (.int .i64 y)):=by
 have hb:ae (λk=>k=g) w (w.setCell ⟨g,1,none⟩ (.int .i64 y)):=(ae.refl (λk=>k=g) w).setCell (p:=⟨g,1,none⟩) rfl _
 exact⟨⟨by rw [World.cell?_setCell_other _ _ _ _ (by simp)];exact h.c0,h.c1.put,h.c2.other (by simp),h.own.but hb h.ap,h.ap,h.lo⟩,hb⟩
theorem kT (h:Ob w base g m x pa cap L)(hs:iO L)(hl:L.length<=4096)(v:Int)(hv:∀y∈L,y<v) :
  Calls prog 88 #[.pointer (some ⟨g,2,none⟩),.int .i64 v] w λe w'=>∃pa' cap',e=.returned (.tuple #[])/\Ob w' base g m x pa' cap' (L++[v])/\Rd w w' g pa pa':=by
 have hse:=aa (ft h.own (by omega) hs.le v)
 rw [tj hv,pZ hv] at hse
 have c2:=h.c2.1
 have hQ:=aa (λ(U:World) (hU:Below w.heap.size w U)=>h.later hU)
 clear h hs hv
 go_enter func88,ntmps88
 go_upto_region 2 with (first|(go_at_call 102;refine hse.out.mono ?_;rintro e w1 ⟨rfl,hq⟩;have HB1:Hid (Below w.heap.size w w1):=(by obtain⟨q,rfl⟩:=hq;exact below_drewN (Below.refl _ _) q);clear hq))
 have hR1:=hQ.out _ HB1.o
 have hin:=aa (sW hR1.own hR1.hb hl v)
 have d2:=hR1.c2.1
 have HR1:=aa hR1
 have hst:Hid (∀a' cap' w2,Own w2 base 3 a' (L.length+1) cap' (ints (L++[v]))->Gr pa a' w1 w2->aq w2 ⟨g,2,none⟩ (.slice pa L.length cap)/\Ob (w2.setCell ⟨g,2,none⟩ (.slice a' (L.length+1) cap')) base g m x a' cap' (L++[v])/\Rd w (w2.setCell ⟨g,2,none⟩ (.slice a' (L.length+1) cap')) g pa a'):=λa' cap' w2 ho hG=>by
  have hlen:(L++[v]).length=L.length+1:=by simp
  rw [<-hlen] at ho ⊢
  obtain⟨p1,p2⟩:=HR1.o.put hG ho
  refine⟨HR1.o.c2.but hG.but (λe=>HR1.o.ap g e rfl),p1,(ae.of HB1.o).trans p2.but,λk hk=>?_⟩
  rcases p2.on k hk with e|e
  ·exact .inl e
  ·exact .inr (Nat.le_trans HB1.o.size e)
 clear hR1 HR1 hse
 go_wp2_with (first|(go_at_call 133;refine hin.out.mono ?_;rintro e w2 ⟨a',cap',rfl,ho,hG⟩;obtain⟨⟨e2,f2⟩,hfin⟩:=hst.out _ _ _ ho hG;have HFIN:=aa hfin;clear hfin ho hG))
 exact bodyPost_end (by simp [results,results88,go_sem]) rfl ⟨a',cap',rfl,HFIN.o.1,HFIN.o.2⟩
theorem qh (h:Ob w base g m x pa cap L):Calls prog 169 #[.pointer (some ⟨g,2,none⟩)] w λe w'=>e=.returned (.int .i64 (L.length:Int))/\w'=w:=by
 have c2:=h.c2.1
 clear h
 go_enter func169,ntmps169
 go_wp2
 go_ret
 exact⟨rfl,rfl⟩
theorem aR (h:Ob w base g m x pa cap L)(hs:iO L)(hl:L.length<=4096)(v:Int):Calls prog 58 #[.pointer (some ⟨g,2,none⟩),.int .i64 v] w λe w'=>e=.returned (.bool (L.contains v))/\∃q,w'=w.drewN q:=by
 have hse:=aa (ft h.own (by omega) hs.le v)
 have c2:=h.c2.1
 clear h hs
 generalize L.contains v=bb at *
 go_enter func58,ntmps58
 go_wp2_with (first|(go_at_call 102;refine hse.out.mono ?_;rintro e w1 ⟨rfl,hq⟩;have HQ:=aa hq;clear hq))
 go_ret
 exact⟨rfl,HQ.o⟩
theorem ic (h:Ob w base g m x pa cap L)(hl:L.length<=4096):Calls prog 123 #[.pointer (some ⟨g,2,none⟩)] w λe w'=>∃p c,e=.returned (.slice p L.length c)/\Own w' w.heap.size 3 p L.length c (ints L)/\Below w.heap.size w w':=by
 have hc:=aa (wI h.own hl)
 have c2:=h.c2.1
 clear h
 go_enter func123,ntmps123
 go_wp2_with (first|(go_at_call 176;refine hc.out.mono ?_;rintro e w1 ⟨p,c,rfl,ho,hb⟩;have HO:=aa ho;have HB:=aa hb;clear ho hb))
 go_ret
 exact⟨p,c,rfl,HO.o,HB.o⟩
theorem Cs (h:Ob w base g m x pa cap L)(hs:iO L)(hl:L.length<=4096)(v:Int)(hv:v∈L) :
  Calls prog 181 #[.pointer (some ⟨g,2,none⟩),.int .i64 v] w λe w'=>∃cap',e=.returned (.bool true)/\Ob w' base g m x pa cap' (out L v)/\Rd w w' g pa pa:=by
 have hse:=aa (ft h.own (by omega) hs.le v)
 obtain⟨hi,ho⟩:=sx hs hv
 have hol:=CX hs hv
 obtain⟨i,hii⟩:∃i,i=L.countP (·<v):=⟨_,rfl⟩
 have hcv:L.contains v=true:=by simpa using hv
 rw [<-hii,hcv] at hse
 rw [<-hii] at hi ho
 obtain⟨ga,rfl⟩:=h.own.form (by omega)
 have c2:=h.c2.1
 have hQ:=aa (λ(U:World) (hU:Below w.heap.size w U)=>h.later hU)
 have HO:=aa ho
 have hgn:Hid (∀k,k=ga↔aD (some ⟨ga,0,none⟩) k):=λk=>⟨λe=>⟨_,rfl,e.symm⟩,λ⟨_,e1,e2⟩=>by cases e1;exact e2.symm⟩
 clear h hs hv hii hcv ho
 go_enter func181,ntmps181
 go_upto_region 3 with (first|(go_at_call 102;refine hse.out.mono ?_;rintro e w1 ⟨rfl,hq⟩;have HB1:Hid (Below w.heap.size w w1):=(by obtain⟨q,rfl⟩:=hq;exact below_drewN (Below.refl _ _) q);clear hq))
 have hR1:=hQ.out _ HB1.o
 have hde:=aa (sV hR1.own i hi)
 have d2:=hR1.c2.1
 have HR1:=aa hR1
 have hst:Hid (∀w2,Own w2 base 3 (some ⟨ga,0,none⟩) (L.length - 1) cap (ints (L.take i++L.drop (i+1)))->ae (λk=>k=ga) w1 w2->aq w2 ⟨g,2,none⟩ (.slice (some ⟨ga,0,none⟩) L.length cap)/\Ob (w2.setCell ⟨g,2,none⟩ (.slice (some ⟨ga,0,none⟩) (L.length - 1) cap)) base g m x (some ⟨ga,0,none⟩) cap (out L v)/\Rd w (w2.setCell ⟨g,2,none⟩ (.slice (some ⟨ga,0,none⟩) (L.length - 1) cap)) g (some ⟨ga,0,none⟩) (some ⟨ga,0,none⟩)):=λw2 ho hb=>by
  have hlen:L.length - 1=(out L v).length:=by omega
  rw [HO.o,hlen] at ho
  rw [hlen]
  have hG:Gr (some ⟨ga,0,none⟩) (some ⟨ga,0,none⟩) w1 w2:=⟨hb.mono (λk hk=>(hgn.out k).1 hk),λk hk=>.inl hk⟩
  obtain⟨p1,p2⟩:=HR1.o.put hG ho
  refine⟨HR1.o.c2.but hG.but (λe=>HR1.o.ap g e rfl),p1,(ae.of HB1.o).trans p2.but,λk hk=>.inl hk⟩
 clear hR1 HR1 hse hol
 go_wp2_with (first|(go_at_call 221;refine hde.out.mono ?_;rintro e w2 ⟨rfl,ho,hb⟩;obtain⟨⟨e2,f2⟩,hfin⟩:=hst.out _ ho hb;have HFIN:=aa hfin;clear hfin ho hb))
 go_ret
 exact⟨cap,rfl,HFIN.o.1,HFIN.o.2⟩
theorem DI (h:Ob w base g m x pa cap L)(hs:iO L)(hl:L.length<=4096)(v:Int)(hv:v∉L) :
  Calls prog 181 #[.pointer (some ⟨g,2,none⟩),.int .i64 v] w λe w'=>e=.returned (.bool false)/\∃q,w'=w.drewN q:=by
 have hse:=aa (ft h.own (by omega) hs.le v)
 have hcv:L.contains v=false:=by simpa using hv
 rw [hcv] at hse
 have c2:=h.c2.1
 clear h hs hv hcv
 go_enter func181,ntmps181
 go_wp2_with (first|(go_at_call 102;refine hse.out.mono ?_;rintro e w1 ⟨rfl,hq⟩;have HQ:=aa hq;clear hq))
 go_ret
 exact⟨rfl,HQ.o⟩
variable {w w':World}{base g:Nat}{m x:Int}{pa:Option Addr}{cap:Nat}{L:List Int}
theorem bE (m:Int)(w:World)(h1:1<=m)(h2:m<=32) :
  Calls prog 52 #[.int .i64 m] w λe w'=>∃g pa cap,e=.returned (.tuple #[.pointer (some ⟨g,0,none⟩),.int .i64 0])/\Ob w' w.heap.size g m 1 pa cap [0]/\Below w.heap.size w w':=by
 have hd1:decide (m<1)=false:=dF (by omega)
 have hd2:decide (m>32)=false:=dF (by omega)
 obtain⟨g,hg⟩:∃g,g=w.heap.size:=⟨_,rfl⟩
 have hO:Ob (w.alloc (.cells #[.int .i64 m,.int .i64 1,.slice none 0 0] 130)) w.heap.size w.heap.size m 1 none 0 []:=⟨by simp [go_sem],⟨by simp [go_sem],by simp [go_sem]⟩,⟨by simp [go_sem],by simp [go_sem]⟩,Own.nil _ _ _,λk hk=>(by obtain⟨_,e,_⟩:=hk;cases e),Nat.le_refl _⟩
 have hp:=aa (kT hO List.Pairwise.nil (by simp) 0 (by simp))
 have hfin:Hid (∀w2 pa',Rd (w.alloc (.cells #[.int .i64 m,.int .i64 1,.slice none 0 0] 130)) w2 w.heap.size none pa'->Below w.heap.size w w2):=λw2 pa' hr=>hr.below hO (ab _ _)
 clear hO h1 h2
 go_enter func52,ntmps52
 go_wp2_with (first|(go_at_call 88;refine hp.out.mono ?_;rintro e w2 ⟨pa',cap',rfl,ho,hr⟩;have HO:=aa ho;have HB:=aa (hfin.out _ _ hr);clear ho hr))
 exact bodyPost_ret (v:=.tuple #[.pointer (some ⟨w.heap.size,0,none⟩),.int .i64 0]) (by simp [results,results52,go_sem]) rfl ⟨w.heap.size,pa',cap',rfl,HO.o,HB.o⟩
theorem iA (h:Ob w base g m x pa cap L)(hi:Iv m x L)(hf:m<=(L.length:Int)\/65535<x) :
  Calls prog 116 #[.pointer (some ⟨g,0,none⟩)] w λe w'=>e=.returned (.tuple #[.int .i64 0,.int .i64 13])/\∃q,w'=w.drewN q:=by
 have hm:=aa (λq:Nat=>qh (h.later (below_drewN (Below.refl w.heap.size w) q)))
 have c0:=h.c0
 have c1:=h.c1.1
 clear h hi
 by_cases h1:m<=(L.length:Int)
 ·have hd:decide ((L.length:Int)>=m)=true:=dT h1
  go_enter func116,ntmps116
  go_upto_region 1 with fail
  go_quiet (first|(go_at_call 169;refine Calls.quiet_of_same (hm.out _)))
  go_wp2
  exact bodyPost_ret (v:=.tuple #[.int .i64 0,.int .i64 13]) (by simp [results,results116,go_sem]) rfl ⟨rfl,_,rfl⟩
 ·have hd:decide ((L.length:Int)>=m)=false:=dF h1
  have hd2:decide (x>65535)=true:=dT (by omega)
  go_enter func116,ntmps116
  go_upto_region 1 with fail
  go_quiet (first|(go_at_call 169;refine Calls.quiet_of_same (hm.out _)))
  go_wp2
  exact bodyPost_ret (v:=.tuple #[.int .i64 0,.int .i64 13]) (by simp [results,results116,go_sem]) rfl ⟨rfl,_,rfl⟩
theorem ub (h:Ob w base g m x pa cap L)(hi:Iv m x L)(hf:¬(m<=(L.length:Int)\/65535<x)) :
  Calls prog 116 #[.pointer (some ⟨g,0,none⟩)] w λe w'=>∃pa' cap',e=.returned (.tuple #[.int .i64 x,.int .i64 0])/\Ob w' base g m (x+1) pa' cap' (L++[x])/\Rd w w' g pa pa':=by
 have hm:=aa (λq:Nat=>qh (h.later (below_drewN (Below.refl w.heap.size w) q)))
 have hp:=aa (λ(U:World) (hU:Below w.heap.size w U)=>kT (h.later hU) hi.iD (by have:=hi.dQ;omega) x hi.hi)
 have HO:=aa h
 have c0:=h.c0
 have c1:=h.c1.1
 have hx1:=hi.x1
 have hx2:x<=65535:=by omega
 clear h hi
 have hd:decide ((L.length:Int)>=m)=false:=dF (by omega)
 have hd2:decide (x>65535)=false:=dF (by omega)
 clear hf
 go_enter func116,ntmps116
 go_upto_region 1 with fail
 go_quiet (first|(go_at_call 169;refine Calls.quiet_of_same (hm.out _)))
 obtain⟨w1,hw1⟩:∃w1,w1=w.drewN nq:=⟨_,rfl⟩
 have HB1:Hid (Below w.heap.size w w1):=by rw [hw1];exact below_drewN (Below.refl _ _) nq
 rw [<-hw1]
 clear hw1
 replace c1:=cell_later HB1.o c1
 clear c0 hm
 go_upto_region 5 with (first|(go_at_call 88;refine (hp.out _ HB1.o).mono ?_;rintro e w2 ⟨pa',cap',rfl,ho,hr⟩;have HO2:=aa ho;have HR2:=aa hr;clear ho hr))
 clear c1
 obtain⟨d1,f1⟩:=HO2.o.c1
 have hs:=aa (HO2.o.CQ (x+1))
 have hfin:Hid (Rd w (w2.setCell ⟨g,1,none⟩ (.int .i64 (x+1))) g pa pa'):=by
  refine⟨((ae.of HB1.o).trans HR2.o.but).trans (hs.out.2.mono (λk hk=>.inl hk)),λk hk=>?_⟩
  rcases HR2.o.on k hk with e|e
  ·exact .inl e
  ·exact .inr (Nat.le_trans HB1.o.size e)
 go_wp2
 exact bodyPost_ret (v:=.tuple #[.int .i64 x,.int .i64 0]) (by simp [results,results116,go_sem]) rfl ⟨pa',cap',rfl,hs.out.1,hfin.out⟩
theorem v8 (h:Ob w base g m x pa cap L)(hi:Iv m x L) :
  Calls prog 116 #[.pointer (some ⟨g,0,none⟩)] w λe w'=>∃pa' cap',e=.returned (.tuple #[.int .i64 (GS m x L),.int .i64 (GV m x L)])/\Ob w' base g m (As m x L) pa' cap' (yN m x L)/\Rd w w' g pa pa':=by
 unfold GS GV As yN
 by_cases hf:m<=(L.length:Int)\/65535<x
 ·rw [if_pos (show dy m x L=true from dT hf),if_pos (show dy m x L=true from dT hf),if_pos (show dy m x L=true from dT hf),if_pos (show dy m x L=true from dT hf)]
  refine (iA h hi hf).mono ?_
  rintro e w' ⟨rfl,q,rfl⟩
  have hb:=below_drewN (Below.refl w.heap.size w) q
  exact⟨pa,cap,rfl,h.later hb,Rd.refl _ _ hb⟩
 ·have hff:¬dy m x L=true:=λe=>hf (of_decide_eq_true e)
  rw [if_neg hff,if_neg hff,if_neg hff,if_neg hff]
  exact ub h hi hf
theorem A1 (h:Ob w base g m x pa cap L)(hi:Iv m x L)(n:Int):Calls prog 32 #[.pointer (some ⟨g,0,none⟩),.int .i64 n] w λe w'=>e=.returned (.bool (L.contains n))/\∃q,w'=w.drewN q:=by
 have hh:=aa (aR h hi.iD (by have:=hi.dQ;omega) n)
 clear h hi
 generalize L.contains n=bb at *
 go_enter func32,ntmps32
 go_wp2_with (first|(go_at_call 58;refine hh.out.mono ?_;rintro e w1 ⟨rfl,hq⟩;have HQ:=aa hq;clear hq))
 go_ret
 exact⟨rfl,HQ.o⟩
theorem Au (h:Ob w base g m x pa cap L)(hi:Iv m x L):Calls prog 72 #[.pointer (some ⟨g,0,none⟩)] w λe w'=>∃p c,e=.returned (.slice p L.length c)/\Own w' w.heap.size 3 p L.length c (ints L)/\Below w.heap.size w w':=by
 have hh:=aa (ic h (by have:=hi.dQ;omega))
 clear h hi
 go_enter func72,ntmps72
 go_wp2_with (first|(go_at_call 123;refine hh.out.mono ?_;rintro e w1 ⟨p,c,rfl,ho,hb⟩;have HO:=aa ho;have HB:=aa hb;clear ho hb))
 go_ret
 exact⟨p,c,rfl,HO.o,HB.o⟩
theorem fs (h:Ob w base g m x pa cap L):Calls prog 39 #[.pointer (some ⟨g,0,none⟩)] w λe w'=>e=.returned (.int .i64 x)/\w'=w:=by
 have c1:=h.c1.1
 clear h
 go_enter func39,ntmps39
 go_wp2
 go_ret
 exact⟨rfl,rfl⟩
theorem mD (h:Ob w base g m x pa cap L)(hi:Iv m x L)(n:Int):Calls prog 129 #[.pointer (some ⟨g,0,none⟩),.int .i64 n] w λe w'=>∃cap',e=.returned (.int .i64 (CK L n))/\Ob w' base g m x pa cap' (out L n)/\Rd w w' g pa pa:=by
 unfold CK
 by_cases hn:n∈L
 ·rw [if_pos (show L.contains n=true by simpa using hn)]
  have hh:=aa (Cs h hi.iD (by have:=hi.dQ;omega) n hn)
  clear h hi hn
  go_enter func129,ntmps129
  go_wp2_with (first|(go_at_call 181;refine hh.out.mono ?_;rintro e w1 ⟨cap',rfl,ho,hr⟩;have HO:=aa ho;have HR:=aa hr;clear ho hr))
  go_ret
  exact⟨cap',rfl,HO.o,HR.o⟩
 ·rw [if_neg (show ¬L.contains n=true by simpa using hn),rL hn]
  have hh:=aa (DI h hi.iD (by have:=hi.dQ;omega) n hn)
  have HO:=aa (λ(U:World) (hU:Below w.heap.size w U)=>h.later hU)
  clear h hi hn
  go_enter func129,ntmps129
  go_wp2_with (first|(go_at_call 181;refine hh.out.mono ?_;rintro e w1 ⟨rfl,hq⟩;have HB:Hid (Below w.heap.size w w1):=(by obtain⟨q,rfl⟩:=hq;exact below_drewN (Below.refl _ _) q);clear hq))
  go_ret
  exact⟨cap,rfl,HO.o _ HB.o,Rd.refl _ _ HB.o⟩
end Go.Proofs.YtfmhdimaijimlaaGreatDoor.P
