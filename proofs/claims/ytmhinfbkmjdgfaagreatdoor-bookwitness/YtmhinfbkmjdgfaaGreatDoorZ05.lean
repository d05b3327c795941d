import Derived.Maps.RangeWalk
import Derived.Sort.KeysCollected
import Derived.Test.YtmhinfbkmjdgfaaGreatDoorZ04
set_option linter.unusedVariables false
set_option linter.unusedSimpArgs false
set_option maxRecDepth 100000
set_option maxHeartbeats 2000000
namespace Go.Proofs.YtmhinfbkmjdgfaaGreatDoor
open Go.RowKit Go.Shelf H
variable {c:Cp}{K:List Cp}{b n o:Nat}{S:Nat->Prop}{a:Option Addr}{w w':World}
structure AA (w:World)(b o:Nat)(c:Cp):Prop where
 c0:w.cell? ⟨b,o,none⟩=some (ab c.1)
 c1:w.cell? ⟨b,o+1,none⟩=some (ai (c.2.1:Int))
 c2:w.cell? ⟨b,o+2,none⟩=some (ai (c.2.2:Int))
theorem AA.but (hb:aj S w w')(h:AA w b o c)(hn:¬S b):AA w' b o c:=⟨an hb h.c0 hn,an hb h.c1 hn,an hb h.c2 hn⟩
theorem AA.later (h:AA w b o c)(hb:Below w.heap.size w w'):AA w' b o c:=h.but (S:=λ_=>False) (aj.of hb) (λh=>h)
structure Rd (w:World)(a:Option Addr)(n:Nat)(K:List Cp):Prop where
 len:K.length=n
 at_:0<n->∃b o,a=some ⟨b,o,none⟩/\∀(i:Nat) (c:Cp),K[i]?=some c->AA w b (o+i*3) c
theorem Rd.but (h:Rd w a n K)(hb:aj S w w')(hn:∀k,aI a k->¬S k):Rd w' a n K :=
 ⟨h.len,λh0=>by
  obtain⟨b,o,e,hc⟩:=h.at_ h0
  exact⟨b,o,e,λi c hi=>(hc i c hi).but hb (hn b ⟨_,e,rfl⟩)⟩⟩
theorem Rd.later (h:Rd w a n K)(hb:Below w.heap.size w w'):Rd w' a n K:=h.but (S:=λ_=>False) (aj.of hb) (λ_ _ h=>h)
theorem Ow.at_ {base:Nat}{e:TypeId}{k:Nat}{cap:Nat}{L:List Value}(h:Ow w base e k a n cap L)(hn:0<n):∃b,a=some ⟨b,0,none⟩/\∀j u,L[j]?=some u->w.cell? ⟨b,j,none⟩=some u:=by
 rcases h.2 with ⟨_,h1⟩|⟨g,c,cur,hv,_⟩
 ·omega
 ·simp only [Value.slice.injEq] at hv
  refine⟨g,hv.1,λj u hu=>?_⟩
  have h':=h
  rw [Ow,hv.1] at h';have:=World.ownsRow.cells (g:=g) h' rfl j u hu
  rwa [aY] at this
def rootOf (X:List Tk)(l:Fo)(o:Int):Option Int:=(aF l).find? (λn=>decide ((n,-1)∈l/\ob X n=o))
end Go.Proofs.YtmhinfbkmjdgfaaGreatDoor
namespace Go.Proofs.YtmhinfbkmjdgfaaGreatDoor.Q
open Go.RowKit Go.Maps
variable {a e x y:Int}{L M zs:List Int}{b g n:Nat}{S:Nat->Prop}{w w':World}
theorem qC:∀{l m:List Int},l.Nodup->(∀x∈l,x∈m)->l.length<=m.length
 | [],_,_,_=>Nat.zero_le _
 | x::l,m,hn,hs=>by
  obtain⟨h1,h2⟩:=List.nodup_cons.1 hn
  have h3:=qC (m:=m.erase x) h2 (λy hy=>(List.mem_erase_of_ne (λ(e:y=x)=>h1 (e ▸ hy))).2 (hs y (by simp [hy])))
  have hx:=hs x (by simp)
  rw [List.length_erase_of_mem hx] at h3;have:=List.length_pos_of_mem hx
  simp
  omega
def gU (L zs:List Int):Nat:=(zs.map λx=>L.count x).sum
theorem nJ (L:List Int)(x:Int)(zs:List Int):gU L (x::zs)=L.count x+gU L zs:=by simp [gU]
theorem vr (L zs:List Int)(x:Int):gU L (zs++[x])=gU L zs+L.count x:=by simp [gU]
theorem qQ (L:List Int)(x:Int)(zs:List Int)(h:x∉zs):gU (L.filter (λy=>y != x)) zs=gU L zs:=by
 unfold gU;congr 1
 apply List.map_congr_left
 intro y hy;exact List.count_filter (by simp;exact λe=>h (e ▸ hy))
theorem mh (L:List Int)(x:Int):L.length=L.count x+(L.filter (λy=>y != x)).length:=by
 induction L with
 | nil=>rfl
 | cons a L ih =>
  by_cases h:a=x
  ·subst h;simp;omega
  ·simp [h];omega
theorem oK:∀{zs L:List Int},zs.Nodup->gU L zs<=L.length
 | [],L,_=>by simp [gU]
 | x::zs,L,hn=>by
  obtain⟨h1,h2⟩:=List.nodup_cons.1 hn
  have h3:=oK (L:=L.filter (λy=>y != x)) h2
  rw [qQ L x zs h1] at h3;rw [nJ,mh L x];omega
theorem pZ:∀{zs L:List Int},zs.Nodup->(∀x∈L,x∈zs)->gU L zs=L.length
 | [],L,_,h=>by
  cases L with
  | nil=>rfl
  | cons a L=>exact absurd (h a (by simp)) (by simp)
 | x::zs,L,hn,h=>by
  obtain⟨h1,h2⟩:=List.nodup_cons.1 hn
  have h3:=pZ (L:=L.filter (λy=>y != x)) h2 (λy hy=>by
   simp at hy
   have:=h y hy.1
   simp at this
   rcases this with e|e
   ·exact absurd e hy.2
   ·exact e)
  rw [qQ L x zs h1] at h3;rw [nJ,mh L x,h3]
def Fc (x:Int):Nat->List Int->List Int
 | _,[]=>[]
 | 0,y::l=>y::l
 | n+1,y::l=>if y=x then Fc x n l else y::Fc x (n+1) l
def may (e a:Int)(L:List Int)(x:Int):Int:=if e<=(L.count x:Int) then 9 else if a<=(L.length:Int) then 10 else 0
def oz (e a:Int)(L:List Int)(x:Int):List Int:=if may e a L x=0 then L++[x] else L
def Iy (L:List Int)(x n:Int):List Int:=if n<0\/(L.count x:Int)<n then L else Fc x n.toNat L
structure Sz (e a:Int)(L:List Int):Prop where
 e1:1<=e
 e2:e<=256
 a1:1<=a
 a2:a<=256
 len:(L.length:Int)<=a
 jU:∀x,(L.count x:Int)<=e
theorem lP (h:may e a L x=0):(L.count x:Int)<e/\(L.length:Int)<a:=by
 unfold may at h;split at h
 ·cases h
 ·split at h
  ·cases h
  ·omega
theorem Sz.add (h:Sz e a L)(x:Int):Sz e a (oz e a L x):=by
 unfold oz;split
 ·rename_i hm
  obtain⟨h1,h2⟩:=lP hm
  refine⟨h.e1,h.e2,h.a1,h.a2,by simp;omega,λy=>?_⟩
  by_cases e:y=x
  ·subst e;simp;omega
  ·have:=h.jU y
   have e2:(L++[x]).count y=L.count y:=by simp [List.count_append,Ne.symm e]
   rw [e2];exact this
 ·exact h
theorem law:Keyed Tryz.prog 3:=int_keyed Tryz.underlying3
theorem DJ (w:World):(zeroValue 3).run Tryz.prog w=.ok (.int .i64 0) w:=by kernel_rfl
abbrev ky (x:Int):Lit:=.int .i64 x
abbrev nu (x:Int):DataW Unit:=.lit (.int .i64 x)
theorem DO (h:x≠y):ky x≠ky y:=λe=>h (by simpa [ky] using e)
theorem yY (h:(Lit.int .i64 x).wf=true):WideAt.IsKeyLit (ky x):=law.key (keyOf_int_mk Tryz.underlying3 h)
structure Cn (D:DataW Unit)(L:List Int):Prop where
 at_:∀x,D.atKey (ky x) (nu 0)=nu (L.count x:Int)
 has:∀x,Maps.has D (ky x)=decide (x∈L)
 map:IsMap D
theorem Cn.start:Cn (.map []) []:=⟨λx=>rfl,λx=>by simp [Maps.has],isMap_empty⟩
theorem Cn.put {D:DataW Unit}(h:Cn D L){c:Int}(hx:(Lit.int .i64 x).wf=true)(ho:∀y,y≠x->M.count y=L.count y)(hc:(M.count x:Int)=c)(h0:0<c):Cn (D.put (ky x) (nu c)) M:=by
 refine⟨λy=>?_,λy=>?_,h.map.put _ _⟩
 ·by_cases e:y=x
  ·subst e;rw [atKey_put_same h.map (yY hx),hc]
  ·rw [atKey_put_other (DO e),h.at_ y,ho y e]
 ·by_cases e:y=x
  ·subst e
   rw [has_put_same h.map (yY hx)];exact (decide_eq_true (List.count_pos_iff.1 (by omega))).symm
  ·rw [has_put_other (DO e),h.has y]
   have h1:=ho y e
   congr 1
   rw [<-List.count_pos_iff,<-List.count_pos_iff,h1]
def FP:Lit->Int
 | .int _ x=>x
 | _=>0
abbrev owns (w:World)(b n:Nat)(D:DataW Unit):Prop:=w.ownsMap Tryz.prog 3 (plainElem Tryz.prog 3) b n D
theorem Cy {D:DataW Unit}(h:owns w b n D)(hc:Cn D L):Maps.size D<=L.length:=by
 obtain⟨es,hD,hpw,_⟩:=h.entries law
 obtain⟨es',hD',hko⟩:=h.keysOf
 obtain rfl:es=es':=by rw [hD] at hD';simpa using hD'
 subst hD;have hk:∀p∈es,∃x,p.1=ky x:=λp hp=>by
  obtain⟨v,hv⟩:=hko p hp
  obtain⟨x,_,hx,_⟩:=Maps.keyOf_int_inv Tryz.underlying3 hv
  exact⟨x,hx⟩
 have h1:(es.map λp=>FP p.1).Nodup:=List.pairwise_map.2 (hpw.imp_of_mem λ{p q} hp hq hne e=>hne (by
  obtain⟨a,ha⟩:=hk p hp
  obtain⟨b,hb⟩:=hk q hq
  rw [ha,hb] at e ⊢
  exact congrArg _ e))
 have h2:=qC (m:=L) h1 (λx hx=>by
  obtain⟨p,hp,rfl⟩:=List.mem_map.1 hx
  obtain⟨a,ha⟩:=hk p hp
  rw [ha];have h3:=hc.has a
  have h4:Maps.has (DataW.map es) (ky a)=true:=by
   rw [has_eq,List.any_eq_true];exact⟨p,hp,by rw [ha];simp [Lit.sameKey]⟩
  rw [h4] at h3;exact of_decide_eq_true h3.symm)
 rw [List.length_map] at h2;exact h2
theorem tight {D:DataW Unit}(h:owns w b n D)(hc:Cn D L):owns w b L.length D:=by
 have hs:=Cy h hc
 obtain⟨es,clock,hb,F,_,rfl⟩:=h
 refine⟨es,clock,hb,F,?_,rfl⟩
 simpa [Maps.size,length_sorted] using hs
def Mp (w:World)(b:Nat)(L:List Int):Prop:=∃D,owns w b L.length D/\Cn D L
theorem bS {D:DataW Unit}(hb:aj S w w')(h:owns w b n D)(hn:¬S b):owns w' b n D:=by
 have hlt:=h.lt
 obtain⟨es,clock,hh,r⟩:=h
 exact⟨es,clock,(hb.block b hlt hn).trans hh,r⟩
theorem Mp.but (h:Mp w b L)(hb:aj S w w')(hn:¬S b):Mp w' b L:=by
 obtain⟨D,h1,h2⟩:=h
 exact⟨D,bS hb h1 hn,h2⟩
theorem Mp.lt (h:Mp w b L):b<w.heap.size:=by
 obtain⟨D,h1,_⟩:=h
 exact h1.lt
structure Qu (w:World)(g b:Nat)(e a:Int)(L:List Int):Prop where
 c0:w.cell? ⟨g,0,none⟩=some (.int .i64 e)
 c1:w.cell? ⟨g,1,none⟩=some (.int .i64 a)
 c2:w.cell? ⟨g,2,none⟩=some (.map (some b))
 mp:Mp w b L
 sz:Sz e a L
theorem Qu.but (h:Qu w g b e a L)(hb:aj S w w')(hg:¬S g)(hn:¬S b):Qu w' g b e a L :=
 ⟨an hb h.c0 hg,an hb h.c1 hg,an hb h.c2 hg,h.mp.but hb hn,h.sz⟩
theorem Qu.later (h:Qu w g b e a L)(hb:Below w.heap.size w w'):Qu w' g b e a L:=h.but (S:=λ_=>False) (aj.of hb) (λh=>h) (λh=>h)
theorem Qu.gb (h:Qu w g b e a L):g≠b:=λeq=>by
 obtain⟨D,⟨es,clock,hh,_⟩,_⟩:=h.mp
 have:=h.c0
 rw [eq] at this;simp [World.cell?,hh] at this
theorem Qu.DU (h:Qu w g b e a L):g<w.heap.size:=World.block_lt_of_cell? _ _ h.c0
theorem Qu.blt (h:Qu w g b e a L):b<w.heap.size:=h.mp.lt
theorem Qu.turn {D:DataW Unit}(h:Qu w g b e a L)(hg:w.grownBy w' (some b))(ho:owns w' b n D)(hc:Cn D M)(hs:Sz e a M):Qu w' g b e a M/\aj (λk=>k=b) w w':=by
 have hB:aj (λk=>k=b) w w':=⟨hg.os,hg.tape,hg.output,hg.size,λk hk hn=>hg.block k hk (λe=>hn (by simpa using e))⟩
 exact⟨⟨an hB h.c0 h.gb,an hB h.c1 h.gb,an hB h.c2 h.gb,⟨D,tight ho hc,hc⟩,hs⟩,hB⟩
def oQ (D:DataW Unit)(left:Lit->Bool)(zs:List Int):Prop:=zs.Nodup/\∀x,x∈zs↔(Maps.has D (ky x)=true/\left (ky x)=false)
theorem oQ.start (D:DataW Unit):oQ D (Maps.has D) []:=⟨List.nodup_nil,λx=>by cases Maps.has D (ky x)<;>simp⟩
theorem oQ.step {D:DataW Unit}{left:Lit->Bool}(h:oQ D left zs){y:DataW Unit}(hlk:left (ky x)=true)(hat:∀zd,D.atKey (ky x) zd=y):oQ D (λz=>left z&&!z.sameKey (ky x)) (zs++[x]):=by
 have hhas:Maps.has D (ky x)=true:=has_true_of_atKey hat
 have hnew:x∉zs:=λhx=>by have:=((h.2 x).1 hx).2;rw [hlk] at this;cases this
 refine⟨List.nodup_append.2 ⟨h.1,by simp,λa ha b hb=>by simp at hb;subst hb;exact λe=>hnew (e ▸ ha)⟩,λy=>?_⟩
 by_cases hy:y=x
 ·subst hy;simp [hhas,Lit.sameKey]
 ·simp [h.2 y,hy,Lit.sameKey]
theorem oQ.all {D:DataW Unit}{left:Lit->Bool}(h:oQ D left zs)(hc:Cn D L)(hl:∀kl,left kl=false)(x:Int):x∈zs↔x∈L:=by
 rw [h.2 x,hc.has x,hl];simp
theorem sJ (h:nu x=nu y):x=y:=by simpa [nu] using h
theorem FL (h:Qu w g b e a L)(x:Int)(hx:(Lit.int .i64 x).wf=true) :
  Calls Tryz.prog 361 #[.pointer (some ⟨g,0,none⟩),.int .i64 x] w λr w'=>r=.returned (.int .i64 (L.count x:Int))/\w'=w:=by
 obtain⟨c0,c1,c2,⟨D,hown,hcn⟩,hsz⟩:=h
 have HC:=ae hcn
 clear hcn hsz;go_enter Tryz.func361,Tryz.ntmps361
 go_wp2_with (first|(at_lookup;refine wpList_lookup_own_int _ rfl _ _ 314 rfl 3 3 .i64 law Tryz.underlying314 Tryz.underlying3 (DJ _) b _ _ rfl hown _ _ rfl (keyOf_int_mk Tryz.underlying3 hx) ?_;intro c hat hwc;have HA:=ae hat;clear hat))
 go_ret;refine⟨aQ ?_,rfl⟩
 have h1:=HA.out
 rw [HC.out.at_ x] at h1;exact (sJ h1).symm
def xV (w:World)(b:Nat)(L:List Int)(D:DataW Unit)(s:Value)(w':World):Prop :=
 ∃left jU zs,s=.int .i64 (gU L zs:Int)/\w'.ranges Tryz.prog 3 (plainElem Tryz.prog 3) b w.heap.size L.length D left jU/\oQ D left zs/\Below w.heap.size w w'
theorem oy (h:Qu w g b e a L) :
  Calls Tryz.prog 362 #[.pointer (some ⟨g,0,none⟩)] w λr w'=>r=.returned (.int .i64 (L.length:Int))/\Below w.heap.size w w':=by
 obtain⟨c0,c1,c2,⟨D,hown,hcn⟩,hsz⟩:=h
 have HC:=ae hcn
 have hll:=hsz.len
 have ha2:=hsz.a2
 clear hcn hsz;go_enter Tryz.func362,Tryz.ntmps362
 go_upto_region 3 with (first|(at_range;refine wpList_range_own _ rfl _ 314 rfl 3 3 law Tryz.underlying314 _ b _ _ rfl hown ?_;intro w0 hrg0 hg0 hs0;clear hs0))
 go_frame
 go_loopw [3] (xV w b L D) (λ_ wr=>wr.rangeLeft b w.heap.size)
 case atStart=>exact⟨_,_,[],rfl,hrg0,oQ.start D,rA (Below.refl _ _) hg0 (λk hk=>by cases hk)⟩
 case round =>
  clear hrg0 hg0;obtain⟨left,jU,zs,rfl,fa,hcoll,hbel⟩:=hrel
  have HO:=ae hcoll
  have HB:=ae hbel
  have HS:=ae (oK (L:=L) hcoll.1)
  clear hcoll hbel;go_wp2_with (first|(at_next;refine wpList_next_ranges_ii _ rfl _ rfl 3 3 .i64 .i64 law Tryz.underlying3 Tryz.underlying3 b w.heap.size _ _ _ _ rfl fa ?_ ?_))
  ·intro _ hl0
   have HL:=ae hl0
   clear hl0;go_wp2;go_ret;refine⟨aQ ?_,HB.out⟩
   have h1:=pZ (L:=L) HO.out.1 (λx hx=>(HO.out.all HC.out HL.out x).2 hx)
   rw [h1]
  ·intro x c w1 cnt1 hwx hwc hlx hat hrg1 hlt hg1 hs1 hen
   have hcx:c=(L.count x:Int):=by
    have h1:=hat (nu 0)
    rw [HC.out.at_ x] at h1;exact (sJ h1).symm
   have hO1:=HO.out.step hlx hat
   have O2:=ae (oK (L:=L) hO1.1)
   have hsn:=vr L zs x
   have hm:w1.rangeLeft b w.heap.size<wr.rangeLeft b w.heap.size:=by rw [hrg1.left_eq,fa.left_eq];exact hlt
   have HN:Hid (xV w b L D (.int .i64 ((gU L zs:Int)+c)) w1):=⟨_,_,zs++[x],by rw [hsn,hcx];rfl,hrg1,hO1,HB.out.grown hg1 HB.out.size (λk hk=>by cases hk;exact Nat.le_refl _)⟩
   have hw:wrap64 ((gU L zs:Int)+c)=(gU L zs:Int)+c:=by
    have:=O2.out
    rw [hsn] at this;unfold wrap64;omega
   clear hs1 hat hO1 fa hrg1 hg1 hlt hlx hsn hcx;go_wp2;refine⟨?_,hm⟩
   rw [hw];exact HN.out
theorem gL (h:Qu w g b e a L)(x:Int)(hx:(Lit.int .i64 x).wf=true) :
  Calls Tryz.prog 315 #[.pointer (some ⟨g,0,none⟩),.int .i64 x] w λr w'=>r=.returned (.int .i64 (may e a L x))/\Below w.heap.size w w':=by
 have hof:=ae (λ(U:World) (hU:Below w.heap.size w U)=>FL (h.later hU) x hx)
 have hal:=ae (λ(U:World) (hU:Below w.heap.size w U)=>oy (h.later hU))
 have hm:Hid (may e a L x=if e<=(L.count x:Int) then 9 else if a<=(L.length:Int) then 10 else 0):=rfl
 have hC0:Hid (∀U:World,Below w.heap.size w U->(U.cell? ⟨g,0,none⟩=some (.int .i64 e))/\Below w.heap.size w U):=λU hU=>⟨cell_later hU h.c0,hU⟩
 have hC1:Hid (∀U:World,Below w.heap.size w U->(U.cell? ⟨g,1,none⟩=some (.int .i64 a))/\Below w.heap.size w U):=λU hU=>⟨cell_later hU h.c1,hU⟩
 clear h;generalize (L.count x:Int)=c at *
 generalize (L.length:Int)=l at *
 have hr1:Hid (e<=c->may e a L x=9):=λh1=>by rw [hm.out,if_pos h1]
 have hr2:Hid (c<e->a<=l->may e a L x=10):=λh1 h2=>by rw [hm.out,if_neg (by omega),if_pos h2]
 have hr3:Hid (c<e->l<a->may e a L x=0):=λh1 h2=>by rw [hm.out,if_neg (by omega),if_neg (by omega)]
 clear hm;generalize may e a L x=mm at *
 go_enter Tryz.func315,Tryz.ntmps315
 go_upto_region 1 with fail
 go_region_held3 (λU=>(U.cell? ⟨g,0,none⟩=some (.int .i64 e))/\Below w.heap.size w U) (first|exact hC0.out _ OH.out|exact hC0.out _ (Below.refl _ _).drew) (first
  | (go_at_call 361;refine (hof.out _ (Below.refl _ _).drew).mono ?_;rintro e w2 ⟨rfl,hw2⟩;have OH:Hid (Below w.heap.size w w2):=(by unfold Hid;rw [hw2];exact (Below.refl _ _).drew);clear hw2))
 by_cases h1:e<=c
 ·have hd:decide (c>=e)=true:=decide_eq_true h1
  go_wp2;go_ret;exact⟨by rw [hr1.out (by omega)];rfl,OH.out⟩
 ·have hd:decide (c>=e)=false:=decide_eq_false h1
  go_upto_region 3 with fail
  go_region_held3 (λU=>(U.cell? ⟨g,1,none⟩=some (.int .i64 a))/\Below w.heap.size w U) (first|exact hC1.out _ OJ.out|exact hC1.out _ OH.out.drew) (first
   | (go_at_call 362;refine (hal.out _ OH.out.drew).mono ?_;rintro e w3 ⟨rfl,hb3⟩;have OJ:=ae (aa OH.out.drew hb3);clear hb3))
  by_cases h2:a<=l
  ·have hd:decide (l>=a)=true:=decide_eq_true h2
   go_wp2;go_ret;exact⟨by rw [hr2.out (by omega) (by omega)];rfl,OJ.out⟩
  ·have hd:decide (l>=a)=false:=decide_eq_false h2
   go_wp2;go_ret;exact⟨by rw [hr3.out (by omega) (by omega)];rfl,OJ.out⟩
theorem iI (h:Qu w g b e a L)(x:Int)(hx:(Lit.int .i64 x).wf=true) :
  Calls Tryz.prog 244 #[.pointer (some ⟨g,0,none⟩),.int .i64 x] w λr w'=>r=.returned (.int .i64 (may e a L x))/\Qu w' g b e a (oz e a L x)/\aj (λk=>k=b) w w':=by
 have hma:=ae (gL h x hx)
 by_cases hm:may e a L x=0
 ·have hA:oz e a L x=L++[x]:=by unfold oz;rw [if_pos hm]
  have hS:=ae (hA ▸ h.sz.add x)
  obtain⟨h1,h2⟩:=lP hm
  have h3:=h.sz.e2
  rw [hm] at hma ⊢
  rw [hA];have hl1:=h.sz.len
  have hl2:=h.sz.a2
  have hQ:=ae (λ(U:World) (hU:Below w.heap.size w U)=>h.later hU)
  clear h hA hm;go_enter Tryz.func244,Tryz.ntmps244
  go_upto_region 2 with (first|(go_at_call 315;refine hma.out.mono ?_;rintro e w1 ⟨rfl,hb1⟩;have OI:=ae hb1;clear hb1))
  have VS:=ae (hQ.out _ OI.out)
  obtain⟨c0,c1,c2,⟨D,hown,hcn⟩,_⟩:=VS.out
  have HC:=ae hcn
  have hlm:L.length<maxLen:=by unfold maxLen;omega
  clear hcn;go_wp2_with (first
   | (at_lookup;refine wpList_lookup_own_int _ rfl _ _ 314 rfl 3 3 .i64 law Tryz.underlying314 Tryz.underlying3 (DJ _) b _ _ rfl hown _ _ rfl (keyOf_int_mk Tryz.underlying3 hx) ?_;intro c hat hwc;have HA:=ae hat;clear hat)
   | (at_mapUpdate;refine wpList_mapUpdate_own _ rfl _ _ _ 314 rfl 3 3 law Tryz.underlying314 _ b _ _ rfl hown hlm _ _ _ rfl rfl (keyOf_int_mk Tryz.underlying3 hx) _ [] (plainElem_int Tryz.underlying3 (wrap64_wf _)) ?_;intro w2 hown2 hg2;have O0:=ae hown2;have UD:=ae hg2;clear hown2 hg2))
  go_ret;have hc:=HA.out
  rw [HC.out.at_ x] at hc;have hc:=sJ hc
  have hw:wrap64 (c+1)=c+1:=by unfold wrap64;omega
  have ho:=O0.out
  rw [hw] at ho;have hcn2:=HC.out.put (M:=L++[x]) (x:=x) (c:=c+1) hx (λy hy=>by simp [List.count_append,Ne.symm hy]) (by simp [List.count_append];omega) (by omega)
  obtain⟨r1,r2⟩:=VS.out.turn UD.out ho hcn2 hS.out
  exact⟨rfl,r1,(aj.of OI.out).trans r2⟩
 ·have hA:oz e a L x=L:=by unfold oz;rw [if_neg hm]
  rw [hA];have hQ:=ae (λ(U:World) (hU:Below w.heap.size w U)=>h.later hU)
  clear h hA;generalize may e a L x=mm at *
  have hd:(mm != 0)=true:=by simp [hm]
  go_enter Tryz.func244,Tryz.ntmps244
  go_wp2_with (first|(go_at_call 315;refine hma.out.mono ?_;rintro e w1 ⟨rfl,hb1⟩;have OI:=ae hb1;clear hb1))
  go_ret;exact⟨rfl,hQ.out _ OI.out,aj.of OI.out⟩
def dQ (n m:Int):Bool:=decide (1<=n/\n<=m)
theorem aK (n m:Int)(w:World):Calls Tryz.prog 206 #[ab n,ab m] w λr w'=>r=.returned (.bool (dQ n m))/\w'=w:=by
 unfold dQ;by_cases h1:1<=n
 ·have hd:decide (n>=1)=true:=decide_eq_true h1
  go_enter Tryz.func206,Tryz.ntmps206
  go_wp2;go_ret;exact⟨aA (by simp [h1]),rfl⟩
 ·have hd:decide (n>=1)=false:=decide_eq_false h1
  go_enter Tryz.func206,Tryz.ntmps206
  go_wp2;go_ret;exact⟨aA (by simp),rfl⟩
def okB (e a:Int):Prop:=(1<=e/\e<=256)/\1<=a/\a<=256
theorem cu (e a:Int)(w:World)(h:okB e a) :
  Calls Tryz.prog 127 #[ab e,ab a] w λr w'=>∃g b,r=.returned (.tuple #[aq g,ab 0])/\Qu w' g b e a []/\w.heap.size<=g/\w.heap.size<=b/\Below w.heap.size w w':=by
 have h1:dQ e 256=true:=decide_eq_true h.1
 have h2:dQ a 256=true:=decide_eq_true h.2
 have HS:Hid (Sz e a []):=⟨h.1.1,h.1.2,h.2.1,h.2.2,by have:=h.2.1;simp;omega,λx=>by have:=h.1.1;simp;omega⟩
 clear h;have hmm:=@run_makeMap Tryz.prog
 go_enter Tryz.func127,Tryz.ntmps127
 go_wp2_with (first|(go_at_call 206;refine (aK _ _ _).mono ?_;rintro e w1 ⟨rfl,hw1⟩;obtain rfl:=hw1.symm;clear hw1))
 have hB:=aB w (.map #[] 0) (.cells #[ab e,ab a,.map (some w.heap.size)] 316)
 exact bodyPost_ret (v:=.tuple #[.pointer (some ⟨w.heap.size+1,0,none⟩),ab 0]) (by simp [results,Tryz.results127,go_sem]) rfl ⟨w.heap.size+1,w.heap.size,rfl,⟨by simp [go_sem],by simp [go_sem],by simp [go_sem],⟨.map [],(World.ownsMap_made w _ _ _).alloc _,Cn.start⟩,HS.out⟩,by omega,Nat.le_refl _,hB⟩
end Go.Proofs.YtmhinfbkmjdgfaaGreatDoor.Q
namespace Go.Proofs.YtmhinfbkmjdgfaaGreatDoor.D
open Go.Proofs.YtmhinfbkmjdgfaaGreatDoor.H (az)
open Go.RowKit
variable {width:Int}{M N a b base c cap d n o o':Nat}{f g:Nat->Nat}{S:Nat->Prop}{v:Value}{w w':World}
theorem lb:az=2 ^ 64:=rfl
structure iA (a b N:Nat):Prop where
 ha:a<az
 hb:b<az
 hn:N=a*az+b
theorem iA.lt (h:iA a b N):N<az*az:=by
 obtain⟨ha,hb,rfl⟩:=h
 calc a*az+b<a*az+az:=by omega
  _=(a+1)*az:=by rw [Nat.add_mul,Nat.one_mul]
  _<=az*az:=Nat.mul_le_mul_right _ ha
theorem iA.of (h:N<az*az):iA (N / az) (N%az) N :=
 ⟨Nat.div_lt_of_lt_mul h,Nat.mod_lt _ (by decide),by rw [Nat.mul_comm];exact (Nat.div_add_mod N az).symm⟩
theorem iA.inj (h:iA a b N)(k:iA c d N):a=c/\b=d:=by
 obtain⟨ha,hb,hn⟩:=h
 obtain⟨hc,hd,hm⟩:=k
 unfold az at *
 omega
theorem iA.I6 (h:iA a b N)(k:iA a b M):N=M:=by rw [h.hn,k.hn]
theorem iA.zero:iA 0 0 0:=⟨by decide,by decide,rfl⟩
theorem iA.eq_iff (h:iA a b N)(k:iA c d M):N=M↔a=c/\b=d:=by
 constructor
 ·rintro rfl;exact h.inj k
 ·rintro ⟨rfl,rfl⟩;exact h.I6 k
def cE (N:Nat)(width:Int):Nat:=N%2 ^ width.toNat
theorem iO (h n:Nat)(hh:h<az)(hn:n<=63) :
  bits .and .u64 (h:Int) (IntKind.u64.wrap (IntKind.u64.wrap (2 ^ n) - 1))=((h%2 ^ n:Nat):Int):=by
 have h2:(2:Nat) ^ n<=2 ^ 63:=Nat.pow_le_pow_right (by omega) hn
 have hp:0<(2:Nat) ^ n:=Nat.two_pow_pos n
 have e1:((2:Int) ^ n)=((2 ^ n:Nat):Int):=by simp
 have e2:IntKind.u64.wrap (IntKind.u64.wrap (2 ^ n) - 1)=((2 ^ n - 1:Nat):Int):=by
  rw [e1,IntKind.wrap_u64,IntKind.wrap_u64];omega
 rw [e2,u64_and_nat _ _ hh (by omega),Nat.and_two_pow_sub_one_eq_mod]
theorem xJ (h:width<1):cE N width=0:=by
 unfold cE;have:width.toNat=0:=by omega
 rw [this];simp [Nat.mod_one]
theorem BP:(2:Nat) ^ 128=az*az:=by decide
theorem BD (h:iA a b N)(hw:128<=width):iA a b (cE N width):=by
 have hl:=h.lt
 have:cE N width=N:=by
  unfold cE;apply Nat.mod_eq_of_lt
  calc N<az*az:=hl
   _=2 ^ 128:=BP.symm
   _<=_:=Nat.pow_le_pow_right (by omega) (by omega)
 rw [this];exact h
theorem EP (h:iA a b N)(h1:64<=width)(_h2:width<128):iA (a%2 ^ (width - 64).toNat) b (cE N width):=by
 obtain⟨k,hk⟩:∃k:Nat,width=64+k:=⟨(width - 64).toNat,by omega⟩
 have e1:(width - 64).toNat=k:=by omega
 have e2:width.toNat=k+64:=by omega
 rw [e1];refine⟨Nat.lt_of_le_of_lt (Nat.mod_le _ _) h.ha,h.hb,?_⟩
 unfold cE;rw [e2,h.hn,Nat.pow_add,<-lb,Nat.mul_comm (2 ^ k) az,Nat.mod_mul];have hb:=h.hb
 have e3:(a*az+b)%az=b:=by rw [Nat.add_comm,Nat.add_mul_mod_self_right,Nat.mod_eq_of_lt hb]
 have e4:(a*az+b) / az=a:=by
  rw [Nat.add_comm,Nat.add_mul_div_right _ _ (by decide),Nat.div_eq_of_lt hb,Nat.zero_add]
 rw [e3,e4,Nat.mul_comm,Nat.add_comm]
theorem Fu (h:iA a b N)(h1:1<=width)(h2:width<64):iA 0 (b%2 ^ width.toNat) (cE N width):=by
 have hk:width.toNat<=64:=by omega
 refine⟨by decide,Nat.lt_of_le_of_lt (Nat.mod_le _ _) h.hb,?_⟩
 unfold cE;rw [h.hn,Nat.zero_mul,Nat.zero_add];have:az=2 ^ width.toNat*2 ^ (64 - width.toNat):=by rw [<-Nat.pow_add,lb];congr 1;omega
 rw [this,<-Nat.mul_assoc,Nat.mul_comm a,Nat.mul_assoc,Nat.add_comm,Nat.add_mul_mod_self_left]
structure js (a b:Int)(N:Nat):Prop where
 ex:∃x y:Nat,a=x/\b=y/\iA x y N
theorem js.of (h:iA a b N):js a b N:=⟨a,b,rfl,rfl,h⟩
theorem js.zero:js 0 0 0:=⟨0,0,rfl,rfl,iA.zero⟩
theorem js.lt {a b:Int}(h:js a b N):N<az*az:=by
 obtain⟨x,y,rfl,rfl,h⟩:=h
 exact h.lt
def xp (a b c d:Int):Bool:=decide (a=c)&&decide (b=d)
theorem Am {a b c d:Int}(h:js a b N)(k:js c d M):xp a b c d=decide (N=M):=by
 obtain⟨x,y,rfl,rfl,h⟩:=h
 obtain⟨z,u,rfl,rfl,k⟩:=k
 unfold xp;rw [<-Bool.decide_and,decide_eq_decide];have:=h.eq_iff k
 omega
theorem js.inj {a b c d:Int}(h:js a b N)(k:js c d N):a=c/\b=d:=by
 have:=Am h k
 simp only [xp,decide_true,Bool.and_eq_true,decide_eq_true_eq] at this;exact this
def di (N:Nat):Int:=((N / az:Nat):Int)
def dj (N:Nat):Int:=((N%az:Nat):Int)
theorem Ge (h:N<az*az):js (di N) (dj N) N:=js.of (iA.of h)
theorem js.hi {a b:Int}(h:js a b N):a=di N:=(h.inj (Ge h.lt)).1
theorem js.lo {a b:Int}(h:js a b N):b=dj N:=(h.inj (Ge h.lt)).2
theorem iX:di 0=0:=rfl
theorem iU:dj 0=0:=rfl
theorem bD {e:TypeId}{size:Nat}{xs:List Value}(h:w.ownsRow base e size v n xs):∀k,v.ownBlock=some k->base<=k:=by
 intro k hk;rcases h.2 with ⟨rfl,_⟩|⟨g,cap,cur,rfl,hg,_⟩
 ·cases hk
 ·simp [Value.ownBlock] at hk;omega
theorem bC {u:Value}(h:w.cell? ⟨b,o,none⟩=some v)(hne:o'≠o):(w.setCell ⟨b,o',none⟩ u).cell? ⟨b,o,none⟩=some v:=by
 rw [World.cell?_setCell_other _ _ _ _ (λe=>hne (by simpa using congrArg Addr.off e))];exact h
def Wd (w:World)(b o N:Nat):Prop:=w.cell? ⟨b,o,none⟩=some (ai (di N))/\w.cell? ⟨b,o+1,none⟩=some (ai (dj N))
theorem Wd.but (hb:aj S w w')(h:Wd w b o N)(hn:¬S b):Wd w' b o N:=⟨an hb h.1 hn,an hb h.2 hn⟩
theorem Wd.later (hb:Below w.heap.size w w')(h:Wd w b o N):Wd w' b o N:=⟨cell_later hb h.1,cell_later hb h.2⟩
def yS (N:Nat):List Value:=[ai (di N),ai (dj N)]
def DM (f:Nat->Nat)(k:Nat):List Value:=(List.range k).flatMap λi=>yS (f i)
theorem qo (f:Nat->Nat)(k:Nat):DM f (k+1)=DM f k++yS (f k):=by simp [DM,List.range_succ]
theorem dp (f:Nat->Nat)(k:Nat):(DM f k).length=k*2:=by
 induction k with
 | zero=>rfl
 | succ k ih=>rw [qo,List.length_append,ih,Nat.succ_mul];rfl
theorem fy (f:Nat->Nat)(k i c:Nat)(hi:i<k)(hc:c<2):(DM f k)[i*2+c]?=(yS (f i))[c]?:=by
 induction k with
 | zero=>omega
 | succ k ih =>
  rw [qo];by_cases h:i<k
  ·rw [List.getElem?_append_left (by rw [dp];omega)]
   exact ih h
  ·obtain rfl:i=k:=by omega
   rw [List.getElem?_append_right (by rw [dp];omega),dp]
   congr 1
   omega
structure Ws (w:World)(a:Option Addr)(n cap:Nat)(f:Nat->Nat):Prop where
 cap_:n<=cap
 none_:a=none->n=0/\cap=0
 cells:∀x,a=some x->∀j u,(DM f n)[j]?=some u->w.cell? (x.add j)=some u
 small:∀i,f i<az*az
theorem Ws.later {W w1:World}{a:Option Addr}(hb:Below W.heap.size W w1)(h:Ws W a n cap f):Ws w1 a n cap f :=
 ⟨h.cap_,h.none_,λx hx j u hu=>cell_later hb (h.cells x hx j u hu),h.small⟩
theorem Ws.plain {a:Option Addr}(h:Ws w a n cap f)(hl:0<n):∃b o,a=some ⟨b,o,none⟩/\∀i,i<n->Wd w b (o+i*2) (f i):=by
 cases a with
 | none=>have:=h.none_ rfl;omega
 | some x =>
  obtain⟨b,o,spot⟩:=x
  have h0:=h.cells _ rfl (0*2+0) _ (fy f n 0 0 hl (by omega))
  have hs:spot=none:=by simpa [Addr.add] using World.cell?_spot h0
  subst hs;refine⟨b,o,rfl,λi hi=>⟨?_,?_⟩⟩
  ·have:=h.cells _ rfl (i*2+0) _ (fy f n i 0 hi (by omega))
   rw [bq] at this;exact this
  ·have:=h.cells _ rfl (i*2+1) _ (fy f n i 1 hi (by omega))
   rw [bq] at this;exact this
theorem Ws.at (hc:n<=cap)(hs:∀i,f i<az*az)(h:∀i,i<n->Wd w b (o+i*2) (f i)):Ws w (some ⟨b,o,none⟩) n cap f:=by
 refine⟨hc,λh=>(by cases h),λx hx j u hu=>?_,hs⟩
 cases hx
 rw [bq];have hj:j<n*2:=by have:=(List.getElem?_eq_some_iff.1 hu).1;rwa [dp] at this
 have hq:=fy f n (j / 2) (j%2) (by omega) (by omega)
 have hjj:j / 2*2+j%2=j:=by omega
 rw [hjj] at hq;rw [hq] at hu;have hw:=h (j / 2) (by omega)
 rcases Nat.mod_two_eq_zero_or_one j with e|e
 ·rw [e] at hu
  simp only [yS,List.getElem?_cons_zero,Option.some.injEq] at hu;subst hu;have:=hw.1
  have e2:o+j / 2*2=o+j:=by omega
  rwa [e2] at this
 ·rw [e] at hu
  simp only [yS,List.getElem?_cons_succ,List.getElem?_cons_zero,Option.some.injEq] at hu;subst hu;have:=hw.2
  have e2:o+j / 2*2+1=o+j:=by omega
  rwa [e2] at this
structure Ar (w:World)(b n:Nat)(f:Nat->Nat):Prop where
 lt:b<w.heap.size
 fr:∀j,w.frozen? ⟨b,j,none⟩=false
 at_:∀i,i<n->Wd w b (i*2) (f i)
theorem Ar.but (hb:aj S w w')(h:Ar w b n f)(hn:¬S b):Ar w' b n f :=
 ⟨Nat.lt_of_lt_of_le h.lt hb.size,λj=>by rw [World.frozen?_of_block (w:=w) (hb.block b h.lt hn)];exact h.fr j,λi hi=>(h.at_ i hi).but hb hn⟩
theorem Ar.later (hb:Below w.heap.size w w')(h:Ar w b n f):Ar w' b n f:=h.but (S:=λ_=>False) (aj.of hb) (λh=>h)
theorem Ar.alloc (h:Ar w b n f)(o:Obj):Ar (w.alloc o) b n f:=h.later (ag _ _)
theorem Ar.congr (h:Ar w b n f)(e:∀i,i<n->f i=g i):Ar w b n g:=⟨h.lt,h.fr,λi hi=>by rw [<-e i hi];exact h.at_ i hi⟩
theorem Ar.set {i:Nat}(h:Ar w b n f)(hi:i<n)(hg:∀j,j<n->g j=if j=i then N else f j) :
  Ar ((w.setCell ⟨b,i*2,none⟩ (ai (di N))).setCell ⟨b,i*2+1,none⟩ (ai (dj N))) b n g:=by
 refine⟨by simpa using h.lt,λj=>by simpa using h.fr j,λj hj=>?_⟩
 rw [hg j hj];obtain⟨h1,h2⟩:=h.at_ j hj
 by_cases e:j=i
 ·subst e
  rw [if_pos rfl];exact⟨bC (World.cell?_setCell_same _ _ _ h1) (by omega),World.cell?_setCell_same _ _ _ (bC h2 (by omega))⟩
 ·rw [if_neg e]
  exact⟨bC (bC h1 (by omega)) (by omega),bC (bC h2 (by omega)) (by omega)⟩
theorem Ey:(Tryz.prog.info? 30).map (λi=>(i.zero,i.size,i.bytes))=some (some (.agg #[ai 0,ai 0]),2,16):=by kernel_rfl
theorem GU (h:w.ownsRow base 30 2 (.slice (some ⟨b,0,none⟩) n cap) n (DM f n)):Ar w b n f/\base<=b/\n<=cap:=by
 have hb:=bD h b rfl
 have hcell:∀i c u,i<n->c<2->(yS (f i))[c]?=some u->w.cell? ⟨b,i*2+c,none⟩=some u:=by
  intro i c u hi hc hu;have:=h.cells (g:=b) rfl (i*2+c) u (by rw [fy f n i c hi hc];exact hu)
  rw [aY] at this;exact this
 rcases h.2 with ⟨h0,_⟩|⟨g,c,cur,hv,_,hh,hc,_⟩
 ·simp at h0
 ·simp only [Value.slice.injEq,Option.some.injEq,Addr.mk.injEq] at hv
  obtain⟨⟨rfl,_⟩,_,rfl⟩:=hv
  refine⟨⟨(Array.getElem?_eq_some_iff.1 hh).1,λj=>by simp [World.frozen?,hh],λi hi=>⟨hcell i 0 _ hi (by omega) rfl,hcell i 1 _ hi (by omega) rfl⟩⟩,hb,hc⟩
theorem cW (w:World)(t:TypeId)(ht:Tryz.prog.underlying t=some (.slice 30))(n:Nat)(hn:n<=4096) :
  ∃w',(Instr.makeSlice t (ab (n:Int)) (ab (n:Int))).run Tryz.prog w=.ok (.slice (some ⟨w.heap.size,0,none⟩) n n) w'/\Ar w' w.heap.size n (λ_=>0)/\Below w.heap.size w w':=by
 obtain⟨i,hi,hz0,hz1,hz2⟩:=info_parts Ey
 obtain⟨w',hr,ho,hg⟩:=run_make_full (P:=Tryz.prog) w w.heap.size t 30 i _ 2 ht hi hz0 hz1 .i64 .i64 n (by rw [hz2];omega) (by unfold maxLen;omega) (Nat.le_refl _)
 refine⟨w',hr,?_,(Below.refl _ _).grown hg (Nat.le_refl _) (λk hk=>by cases hk)⟩
 have e:(madeCells (Value.agg #[ai 0,ai 0]).cells (n*2)).toList=DM (λ_=>0) n:=by
  apply List.ext_getElem?
  intro j;by_cases hj:j<n*2
  ·have hq:=fy (λ_=>0) n (j / 2) (j%2) (by omega) (by omega)
   have hjj:j / 2*2+j%2=j:=by omega
   rw [hjj] at hq;rw [hq];rcases Nat.mod_two_eq_zero_or_one j with e|e
   ·simp [madeCells,hj,Value.cells,e,yS,iX,iU]
   ·simp [madeCells,hj,Value.cells,e,yS,iX,iU]
  ·rw [List.getElem?_eq_none (by simp [madeCells];omega),List.getElem?_eq_none (by rw [dp];omega)]
 rw [e] at ho;exact (GU ho).1
theorem ug (h:Nat)(n:Int)(w:World)(hh:h<az)(h0:0<=n)(h1:n<=63) :
  Calls Tryz.prog 271 #[ai (h:Int),ab n] w λe w'=>e=.returned (ai ((h%2 ^ n.toNat:Nat):Int))/\w'=w:=by
 have hl:=iO h n.toNat hh (by omega)
 have HL:Hid (bits .and .u64 (h:Int) (IntKind.u64.wrap (IntKind.u64.wrap (2 ^ n.toNat) - 1))=((h%2 ^ n.toNat:Nat):Int)):=hl
 clear hl;go_enter Tryz.func271,Tryz.ntmps271
 go_wp2;go_ret;exact⟨aQ HL.out,rfl⟩
theorem uh (a b:Int)(N:Nat)(width:Int)(w:World)(h:js a b N) :
  Calls Tryz.prog 202 #[.agg #[ai a,ai b],ab width] w λe w'=>∃c d:Int,e=.returned (.agg #[ai c,ai d])/\js c d (cE N width)/\Below w.heap.size w w':=by
 obtain⟨a,b,rfl,rfl,h⟩:=h
 by_cases h1:width<1
 ·have hz:cE N width=0:=xJ h1
  rw [hz];clear hz
  go_enter Tryz.func202,Tryz.ntmps202
  go_wp2;exact bodyPost_ret (v:=.agg #[ai 0,ai 0]) (by simp [results,Tryz.results202,go_sem]) rfl ⟨0,0,rfl,js.zero,aB _ _ _⟩
 ·by_cases h2:128<=width
  ·have hz:=js.of (BD h h2)
   clear h;go_enter Tryz.func202,Tryz.ntmps202
   go_wp2;exact bodyPost_ret (v:=.agg #[ai a,ai b]) (by simp [results,Tryz.results202,go_sem]) rfl ⟨a,b,rfl,hz,aB _ _ _⟩
  ·by_cases h3:64<=width
   ·have hz:=js.of (EP h h3 (by omega))
    have hh:=h.ha
    have hw:IntKind.i64.wrap (width - 64)=width - 64:=by rw [IntKind.wrap_i64];omega
    clear h;go_enter Tryz.func202,Tryz.ntmps202
    go_wp2;go_region_with (first|(go_at_call 271;refine (ug _ _ _ hh (by omega) (by omega)).mono ?_;rintro e w' ⟨rfl,rfl⟩))
    all_goals go_wp2
    all_goals exact bodyPost_ret (v:=.agg #[ai ((a%2 ^ (width - 64).toNat:Nat):Int),ai b]) (by simp [results,Tryz.results202,go_sem]) rfl ⟨_,b,rfl,hz,(aB _ _ _).drew⟩
   ·have hz:=js.of (Fu (width:=width) h (by omega) (by omega))
    have hh:=h.hb
    have h4:width<=63:=by omega
    clear h;go_enter Tryz.func202,Tryz.ntmps202
    go_wp2_with (first|(go_at_call 271;refine (ug b width _ hh (by omega) h4).mono ?_;rintro e w' ⟨rfl,rfl⟩))
    exact bodyPost_ret (v:=.agg #[ai 0,ai ((b%2 ^ width.toNat:Nat):Int)]) (by simp [results,Tryz.results202,go_sem]) rfl ⟨0,_,rfl,hz,(aB _ _ _)⟩
theorem ub {b':Nat}(h:b≠b'\/o≠o'):(⟨b,o,none⟩:Addr)≠⟨b',o',none⟩:=by
 intro e;simp only [Addr.mk.injEq,and_true] at e;omega
theorem Jc (N:Nat)(width:Int)(w:World)(h:N<az*az) :
  Calls Tryz.prog 202 #[.agg #[ai (di N),ai (dj N)],ab width] w λe w'=>e=.returned (.agg #[ai (di (cE N width)),ai (dj (cE N width))])/\Below w.heap.size w w':=by
 refine (uh _ _ N width w (Ge h)).mono ?_
 rintro e w' ⟨c,d,rfl,hv,hb⟩
 rw [hv.hi,hv.lo];exact⟨rfl,hb⟩
def mn (f:Nat->Nat)(width:Int)(i j:Nat):Nat:=if j<i then cE (f j) width else 0
theorem vf (f:Nat->Nat)(width:Int)(j:Nat):mn f width 0 j=0:=by unfold mn;rw [if_neg (by omega)]
theorem uW (f:Nat->Nat)(width:Int)(i j:Nat):mn f width (i+1) j=if j=i then cE (f i) width else mn f width i j:=by
 unfold mn;by_cases h:j=i
 ·subst h;rw [if_pos (by omega),if_pos rfl]
 ·rw [if_neg h]
  by_cases h1:j<i
  ·rw [if_pos (by omega),if_pos h1]
  ·rw [if_neg (by omega),if_neg h1]
theorem zA (f:Nat->Nat)(width:Int)(n j:Nat)(h:j<n):mn f width n j=cE (f j) width:=by unfold mn;rw [if_pos h]
def B3 (w:World)(n:Nat)(f:Nat->Nat)(width:Int)(gb:Nat)(t:Value)(w':World):Prop :=
 ∃i:Nat,i<=n/\t=ab (i:Int)/\Ar w' gb n (mn f width i)/\Below w.heap.size w w'
theorem yi (a:Option Addr)(n cap:Nat)(f:Nat->Nat)(width:Int)(w:World)(h:Ws w a n cap f)(hn:n<=4096) :
  Calls Tryz.prog 124 #[.slice a n cap,ab width] w λe w'=>e=.returned (.slice (some ⟨w.heap.size,0,none⟩) n n)/\Ar w' w.heap.size n (λj=>cE (f j) width)/\Below w.heap.size w w':=by
 obtain⟨w1,hrun,ha,hb⟩:=cW w 205 Tryz.underlying205 n hn
 have HA:Hid (Ar w1 w.heap.size n (λ_=>0)):=ha
 have HB:Hid (Below w.heap.size w w1):=hb
 have HH:Hid (Ws w a n cap f):=h
 clear ha hb h;go_enter Tryz.func124,Tryz.ntmps124
 go_upto_region 3 with fail
 go_loopw [13] (B3 w n f width w.heap.size) (λt _=>n - (intOf t).toNat)
 case atStart=>exact⟨0,Nat.zero_le _,rfl,HA.out.congr (λj _=>(vf f width j).symm),HB.out⟩
 case round =>
  obtain⟨i,hi,rfl,hA,hB⟩:=hrel
  by_cases hlt:i<n
  ·obtain⟨b,o,rfl,hw⟩:=(HH.out.later hB).plain (by omega)
   have hsm:=HH.out.small i
   obtain⟨x0,x1⟩:=hw i hlt
   have Td:Hid (Ar wr w.heap.size n (mn f width i)):=hA
   clear hA hw;go_wp2_with (first|(go_at_call 202;refine (Jc _ _ _ hsm).mono ?_;rintro e w2 ⟨rfl,hb2⟩;have A2:=(Td.out.alloc _).later hb2;obtain⟨q0,q1⟩:=A2.at_ i hlt;have q2:=A2.fr;have H2:Hid (Ar w2 w.heap.size n (mn f width i)):=A2;clear A2))
   refine⟨⟨i+1,by omega,by go_num,H2.out.set hlt (λj _=>uW f width i j),?_⟩,by simp [intOf];omega⟩
   exact ((aa (aa hB (ag _ _)) hb2).setCell (Nat.le_refl _) _).setCell (Nat.le_refl _) _
  ·obtain rfl:i=n:=by omega
   have Td:Hid (Ar wr w.heap.size i (mn f width i)):=hA
   clear hA;go_wp2;go_ret;exact⟨rfl,Td.out.congr (λj hj=>zA f width i j hj),hB⟩
end Go.Proofs.YtmhinfbkmjdgfaaGreatDoor.D
namespace Go.Proofs.YtmhinfbkmjdgfaaGreatDoor.D
open Go.Proofs.YtmhinfbkmjdgfaaGreatDoor.H (az)
open Go.RowKit
variable {g gb n t:Nat}{c:Nat->Nat}{w w':World}
theorem pE (gb n t:Nat)(w:World)(ht:t<n)(hn:n<=4096) :
  Calls Tryz.prog 383 #[.slice (some ⟨gb,0,none⟩) n n,ab (t:Int)] w λe w'=>e=.returned (.slice (some ⟨gb,t*2,none⟩) (n - t) (n - t))/\w'=w:=by
 have h1:(t:Int)<=(n:Int):=by omega
 have hne:¬n=t:=by omega
 have hnb:(n==t)=false:=by simpa using hne
 have hna:(n - t==0)=false:=by simp;omega
 go_enter Tryz.func383,Tryz.ntmps383
 go_wp2;go_ret;exact⟨rfl,rfl⟩
theorem qM (gb n:Nat)(w:World)(hn:n<=4096) :
  Calls Tryz.prog 383 #[.slice (some ⟨gb,0,none⟩) n n,ab (n:Int)] w λe w'=>e=.returned (.slice (some ⟨gb,0,none⟩) 0 0)/\w'=w:=by
 go_enter Tryz.func383,Tryz.ntmps383
 go_wp2;go_ret;exact⟨rfl,rfl⟩
theorem sI (gb n:Nat)(hn:n<=4096):∃x0,∀w:World,Calls Tryz.prog 383 #[.slice (some ⟨gb,0,none⟩) n n,ab (n:Int)] w λe w'=>e=.returned (.slice x0 0 0)/\w'=w:=⟨_,λw=>qM gb n w hn⟩
structure Dr (w:World)(g gb n:Nat)(c:Nat->Nat)(t:Nat):Prop where
 all:w.cell? ⟨g,0,none⟩=some (.slice (some ⟨gb,0,none⟩) n n)
 tk:aM w ⟨g,1,none⟩ (ab (t:Int))
 ar:∀i,i<n->Wd w gb (i*2) (c i)
 ne:g≠gb
 le:t<=n
 gJ:n<=4096
theorem Dr.but {S:Nat->Prop}(hb:aj S w w')(h:Dr w g gb n c t)(h1:¬S g)(h2:¬S gb):Dr w' g gb n c t :=
 ⟨an hb h.all h1,h.tk.but hb h1,λi hi=>(h.ar i hi).but hb h2,h.ne,h.le,h.gJ⟩
theorem Dr.later (hb:Below w.heap.size w w')(h:Dr w g gb n c t):Dr w' g gb n c t:=h.but (S:=λ_=>False) (aj.of hb) (λh=>h) (λh=>h)
theorem Dr.alloc (h:Dr w g gb n c t)(o:Obj):Dr (w.alloc o) g gb n c t:=h.later (ag _ _)
theorem Dr.lt (h:Dr w g gb n c t):g<w.heap.size:=World.block_lt_of_cell? _ _ h.all
theorem Dr.put (h:Dr w g gb n c t){t':Nat}(ht:t'<=n):Dr (w.setCell ⟨g,1,none⟩ (ab (t':Int))) g gb n c t' :=
 ⟨bC h.all (by omega),h.tk.put,λi hi=>by
  obtain⟨h1,h2⟩:=h.ar i hi
  have hne:=h.ne
  exact⟨by rw [World.cell?_setCell_other _ _ _ _ (ub (.inl hne))];exact h1,by rw [World.cell?_setCell_other _ _ _ _ (ub (.inl hne))];exact h2⟩,h.ne,ht,h.gJ⟩
def kS (n:Nat)(width:Int):Int:=if width<1\/128<width then 18 else if 4096<n then 23 else 0
theorem BN (a:Option Addr)(n cap:Nat)(width:Int)(w:World)(he:kS n width≠0) :
  Calls Tryz.prog 58 #[.slice a n cap,ab width] w λe w'=>e=.returned (.tuple #[.pointer none,ab (kS n width)])/\w'=w:=by
 by_cases h1:width<1
 ·have e1:kS n width=18:=by unfold kS;rw [if_pos (.inl h1)]
  rw [e1];clear he e1;go_enter Tryz.func58,Tryz.ntmps58
  go_wp2;exact bodyPost_ret (v:=.tuple #[.pointer none,ab 18]) (by simp [results,Tryz.results58,go_sem]) rfl ⟨rfl,rfl⟩
 by_cases h2:128<width
 ·have e1:kS n width=18:=by unfold kS;rw [if_pos (.inr h2)]
  rw [e1];clear he e1;go_enter Tryz.func58,Tryz.ntmps58
  go_wp2;exact bodyPost_ret (v:=.tuple #[.pointer none,ab 18]) (by simp [results,Tryz.results58,go_sem]) rfl ⟨rfl,rfl⟩
 by_cases h3:4096<n
 ·have e1:kS n width=23:=by unfold kS;rw [if_neg (by omega),if_pos h3]
  rw [e1];clear he e1;go_enter Tryz.func58,Tryz.ntmps58
  go_wp2;exact bodyPost_ret (v:=.tuple #[.pointer none,ab 23]) (by simp [results,Tryz.results58,go_sem]) rfl ⟨rfl,rfl⟩
 ·exact absurd (by unfold kS;rw [if_neg (by omega),if_neg h3]) he
theorem cu (a:Option Addr)(n cap:Nat)(f:Nat->Nat)(width:Int)(w:World)(h:Ws w a n cap f)(h1:1<=width)(h2:width<=128)(hn:n<=4096) :
  Calls Tryz.prog 58 #[.slice a n cap,ab width] w λe w'=>∃g gb,e=.returned (.tuple #[aq g,ab 0])/\Dr w' g gb n (λj=>cE (f j) width) 0/\w.heap.size<=g/\w.heap.size<=gb/\gb<w'.heap.size/\Below w.heap.size w w':=by
 go_enter Tryz.func58,Tryz.ntmps58
 go_wp2_with (first|(go_at_call 124;refine (yi _ _ _ f _ _ h hn).mono ?_;rintro e w1 ⟨rfl,hA,hb⟩))
 have hlt:=hA.lt
 refine bodyPost_ret (v:=.tuple #[aq w1.heap.size,ab 0]) (by simp [results,Tryz.results58,go_sem]) rfl ⟨_,w.heap.size,rfl,?_,hb.size,Nat.le_refl _,by simp;omega,hb.alloc hb.size _⟩
 exact⟨by simp [go_sem],⟨by simp [go_sem],by simp [go_sem]⟩,λi hi=>(hA.at_ i hi).later (ag _ _),by omega,Nat.zero_le _,hn⟩
end Go.Proofs.YtmhinfbkmjdgfaaGreatDoor.D
namespace Go.Proofs.YtmhinfbkmjdgfaaGreatDoor.D
open Go.Proofs.YtmhinfbkmjdgfaaGreatDoor.H (az)
open Go.RowKit
variable {g gb n t:Nat}{c:Nat->Nat}{w:World}
theorem _root_.Go.Proofs.YtmhinfbkmjdgfaaGreatDoor.aj.own {a:World}(h:aj (·=g) a w)(o:Nat)(u:Value):aj (·=g) a (w.setCell ⟨g,o,none⟩ u):=h.setCell (p:=⟨g,o,none⟩) (show g=g from rfl) u
theorem Dr.drewN (h:Dr w g gb n c t)(k:Nat):Dr (w.drewN k) g gb n c t:=h.later (below_drewN (Below.refl _ _) _)
theorem Dr.fresh (h:Dr w g gb n c t){b:Nat}(h1:g≠b)(h2:gb≠b)(o:Nat)(u:Value):Dr (w.setCell ⟨b,o,none⟩ u) g gb n c t :=
 h.but (S:=(·=b)) ((aj.refl (·=b) _).own _ _) h1 h2
theorem nY (g gb n:Nat)(c:Nat->Nat)(t:Nat)(w:World)(h:Dr w g gb n c t)(ht:t<n) :
  Calls Tryz.prog 338 #[aq g] w λe w'=>e=.returned (.tuple #[.agg #[ai (di (c t)),ai (dj (c t))],ab 0])/\Dr w' g gb n c (t+1)/\aj (·=g) w w':=by
 have x:=(h.alloc (.cells #[ai 0,ai 0] 30)).tk.1
 have x2:=(h.alloc (.cells #[ai 0,ai 0] 30)).tk.2
 have y:=(h.alloc (.cells #[ai 0,ai 0] 30)).all
 obtain⟨q0,q1⟩:=(h.alloc (.cells #[ai 0,ai 0] 30)).ar t ht
 have hn:=h.gJ
 have hlt:=h.lt
 have hne:=h.ne
 have H:Hid (Dr w g gb n c t):=h
 clear h;go_enter Tryz.func338,Tryz.ntmps338
 go_wp2;go_quiet (first|(go_at_call 383;refine Calls.quiet_of_same (pE gb n t _ ht hn)))
 go_wp2;have hgb:gb<w.heap.size:=World.block_lt_of_cell? _ _ ((H.out.ar t ht).1)
 have hD:=((((H.out.alloc (Obj.cells #[Value.int IntKind.u64 0,Value.int IntKind.u64 0] 30)).drewN nq).put (t':=t+1) (by omega)).fresh (b:=w.heap.size) (by omega) (by omega) 0 (ai (di (c t)))).fresh (b:=w.heap.size) (by omega) (by omega) 1 (ai (dj (c t)))
 have hB:aj (·=g) w ((((((w.alloc (Obj.cells #[Value.int IntKind.u64 0,Value.int IntKind.u64 0] 30)).drewN nq).setCell ⟨g,1,none⟩ (ab ((t+1:Nat):Int))).setCell ⟨w.heap.size,0,none⟩ (ai (di (c t)))).setCell ⟨w.heap.size,1,none⟩ (ai (dj (c t))))) :=
  ((((aj.of (S:=(·=g)) (below_drewN (ag _ _) _)).own _ _).put (p:=⟨w.heap.size,0,none⟩) (Nat.le_refl _) _).put (p:=⟨w.heap.size,1,none⟩) (Nat.le_refl _) _)
 rw [Int.natCast_succ] at hD hB;refine bodyPost_ret (v:=.tuple #[.agg #[ai (di (c t)),ai (dj (c t))],ab 0]) ?_ rfl ⟨rfl,hD,hB⟩
 simp [results,Tryz.results338,go_sem]
theorem pS (g gb n:Nat)(c:Nat->Nat)(w:World)(h:Dr w g gb n c n) :
  Calls Tryz.prog 338 #[aq g] w λe w'=>e=.returned (.tuple #[.agg #[ai 0,ai 0],ab 11])/\Below w.heap.size w w':=by
 have x:=(h.alloc (.cells #[ai 0,ai 0] 30)).tk.1
 have y:=(h.alloc (.cells #[ai 0,ai 0] 30)).all
 have hn:=h.gJ
 clear h;obtain⟨x0,hx0⟩:∃x0,∀w:World,Calls Tryz.prog 383 #[.slice (some ⟨gb,0,none⟩) n n,ab (n:Int)] w λe w'=>e=.returned (.slice x0 0 0)/\w'=w:=sI gb n hn
 go_enter Tryz.func338,Tryz.ntmps338
 go_wp2;go_quiet (first|(go_at_call 383;refine Calls.quiet_of_same (hx0 _)))
 go_wp2;exact bodyPost_ret (v:=.tuple #[.agg #[ai 0,ai 0],ab 11]) (by simp [results,Tryz.results338,go_sem]) rfl ⟨rfl,(((below_drewN (ag _ _) _).setCell (Nat.le_refl _) _).setCell (Nat.le_refl _) _)⟩
end Go.Proofs.YtmhinfbkmjdgfaaGreatDoor.D
namespace Go.Proofs.YtmhinfbkmjdgfaaGreatDoor.D
open Go.Proofs.YtmhinfbkmjdgfaaGreatDoor.H (az)
open Go.RowKit
end Go.Proofs.YtmhinfbkmjdgfaaGreatDoor.D
namespace Go.Proofs.YtmhinfbkmjdgfaaGreatDoor.D
open Go.Proofs.YtmhinfbkmjdgfaaGreatDoor.H (az)
open Go.RowKit
end Go.Proofs.YtmhinfbkmjdgfaaGreatDoor.D
namespace Go.Proofs.YtmhinfbkmjdgfaaGreatDoor.D
open Go.Proofs.YtmhinfbkmjdgfaaGreatDoor.H (az)
open Go.RowKit
end Go.Proofs.YtmhinfbkmjdgfaaGreatDoor.D
namespace Go.Proofs.YtmhinfbkmjdgfaaGreatDoor.D
open Go.Proofs.YtmhinfbkmjdgfaaGreatDoor.H (az)
open Go.RowKit
end Go.Proofs.YtmhinfbkmjdgfaaGreatDoor.D
namespace Go.Proofs.YtmhinfbkmjdgfaaGreatDoor.D
open Go.Proofs.YtmhinfbkmjdgfaaGreatDoor.H (az)
open Go.RowKit
end Go.Proofs.YtmhinfbkmjdgfaaGreatDoor.D
namespace Go.Proofs.YtmhinfbkmjdgfaaGreatDoor.D
open Go.RowKit
open Go.Proofs.YtmhinfbkmjdgfaaGreatDoor.H (az)
variable {b g gb k n t:Nat}{P:Nat->Bool}{c:Nat->Nat}{w:World}
def bZ (P:Nat->Bool)(c:Nat->Nat)(n:Nat):Nat->Nat->Nat×Int×Nat
 | 0,t=>(0,12,t)
 | k+1,t=>if t<n then (if P (c t)=true then bZ P c n k (t+1) else (c t,0,t+1)) else (0,11,t)
theorem nT (h:¬t<n):bZ P c n (k+1) t=(0,11,t):=by rw [bZ,if_neg h]
theorem ny (h:t<n)(hp:P (c t)=false):bZ P c n (k+1) t=(c t,0,t+1):=by rw [bZ,if_pos h,if_neg (by rw [hp];decide)]
theorem ot (h:t<n)(hp:P (c t)=true):bZ P c n (k+1) t=bZ P c n k (t+1):=by rw [bZ,if_pos h,if_pos hp]
theorem ru :∀{k t:Nat},t<=n->(bZ P c n k t).2.2<=n
 | 0,t,h=>h
 | k+1,t,h=>by
  rw [bZ];split
  ·split
   ·exact ru (by omega)
   ·simpa using by omega
  ·exact h
theorem gx (hc:∀i,i<n->c i<az*az):∀{k t:Nat},(bZ P c n k t).1<az*az
 | 0,t=>by
  rw [bZ];show 0<az*az
  decide
 | k+1,t=>by
  rw [bZ];split
  ·split
   ·exact gx hc
   ·exact hc _ (by assumption)
  ·show 0<az*az
   decide
theorem Dr.vH {S:Nat->Prop}{w':World}(hb:aj S w w')(h:Dr w g gb n c t)(h1:¬S g)(h2:0<n->¬S gb):Dr w' g gb n c t :=
 ⟨an hb h.all h1,h.tk.but hb h1,λi hi=>(h.ar i hi).but hb (h2 (by omega)),h.ne,h.le,h.gJ⟩
theorem Dr.gu (h:Dr w g gb n c t)(h1:g≠b)(h2:0<n->gb≠b)(o:Nat)(u:Value):Dr (w.setCell ⟨b,o,none⟩ u) g gb n c t :=
 h.vH (S:=(·=b)) ((aj.refl (·=b) _).own _ _) h1 h2
theorem Dr.pB (h:Dr w g gb n c t)(h0:0<n):gb<w.heap.size:=World.block_lt_of_cell? _ _ (h.ar 0 h0).1
theorem iK {v0 v1:Value}(h0:w.cell? ⟨b,0,none⟩=some v0)(h1:w.cell? ⟨b,1,none⟩=some v1)(x y:Value):(w.setCell ⟨b,0,none⟩ x).cell? ⟨b,0,none⟩=some x/\((w.setCell ⟨b,0,none⟩ x).setCell ⟨b,1,none⟩ y).cell? ⟨b,1,none⟩=some y :=
 ⟨World.cell?_setCell_same _ _ _ h0,World.cell?_setCell_same _ _ _ (bC h1 (by omega))⟩
def fL (w:World)(g gb n:Nat)(c:Nat->Nat)(t:Nat)(P:Nat->Bool)(e:Ending)(w':World):Prop :=
 e=.returned (.tuple #[.agg #[ai (di (bZ P c n 9 t).1),ai (dj (bZ P c n 9 t).1)],ab (bZ P c n 9 t).2.1])/\Dr w' g gb n c (bZ P c n 9 t).2.2/\aj (·=g) w w'
def Gs (w w1:World)(g gb n:Nat)(c:Nat->Nat)(t:Nat)(P:Nat->Bool)(v:Value)(w':World):Prop :=
 ∃i:Nat,i<=9/\v=ab (i:Int)/\Hid (bZ P c n 9 t=bZ P c n (9 - i) (t+i))/\Hid (Dr w' g gb n c (t+i))/\Hid (aj (·=g) w w')/\(aM w' ⟨w.heap.size,0,none⟩ (ai 0)/\aM w' ⟨w.heap.size,1,none⟩ (ai 0))/\w1.heap.size<=w'.heap.size
theorem C6 (h:Dr w g gb n c t)(hcs:∀i,i<n->c i<az*az)(P:Nat->Bool)(k1 k2:Nat)
  (hcl:∀W,aj (·=g) w W->∀N,N<az*az->Calls Tryz.prog 393 #[.agg #[ai (di N),ai (dj N)],aq k1,aq k2] W λe w'=>e=.returned (.bool (P N))/\Below W.heap.size W w') :
  Calls Tryz.prog 392 #[aq g,.func (.func 393) #[] #[aq k1,aq k2]] w (fL w g gb n c t P):=by
 obtain⟨w1,hw1⟩:∃w1,w1=w.alloc (Obj.cells #[ai 0,ai 0] 30):=⟨_,rfl⟩
 have hB1:Below w.heap.size w w1:=by rw [hw1];exact ag _ _
 have l0:aM w1 ⟨w.heap.size,0,none⟩ (ai 0):=by rw [hw1];exact⟨by simp [go_sem],by simp [go_sem]⟩
 have l1:aM w1 ⟨w.heap.size,1,none⟩ (ai 0):=by rw [hw1];exact⟨by simp [go_sem],by simp [go_sem]⟩
 have hg:=h.lt
 have HG:=ae h.pB
 have hlt1:w.heap.size<w1.heap.size:=World.block_lt_of_cell? _ _ l0.1
 have h1:=ae (h.later hB1)
 have OI:Hid (aj (·=g) w w1):=aj.of hB1
 have HL:=ae (And.intro l0 l1)
 have HC:=ae hcl
 have HS:=ae hcs
 clear h hB1 l0 l1 hcl hcs;go_enter Tryz.func392,Tryz.ntmps392
 go_upto_region 1 with fail
 rw [<-hw1];clear hw1;go_upto_region 2 with fail
 go_loopw [8] (Gs w w1 g gb n c t P) (λv _=>9 - (intOf v).toNat)
 case atStart=>exact⟨0,Nat.zero_le _,rfl,rfl,h1,OI,HL.out,Nat.le_refl _⟩
 case round =>
  obtain⟨i,hi,rfl,hE,hD,hB,⟨l0,l1⟩,hsz⟩:=hrel
  by_cases h9:i<9
  ·by_cases ht:t+i<n
   ·have hdr:=ae (nY g gb n c (t+i) wr hD.out ht)
    have hN:=HS.out (t+i) ht
    have hek:9 - i=(9 - (i+1))+1:=by omega
    generalize hNN:c (t+i)=N at *
    obtain⟨RH,-⟩:=And.intro (ae (And.intro l0 l1)) trivial
    clear l0 l1;go_upto_region 4 with (first|(go_at_call 338;refine hdr.out.mono ?_;rintro e w2 ⟨rfl,hD2,hB2⟩;have PO:=ae hD2;have OH:=ae (hB.out.trans hB2);have Qh:Hid (aM w2 ⟨w.heap.size,0,none⟩ (ai 0)/\aM w2 ⟨w.heap.size,1,none⟩ (ai 0)):=⟨RH.out.1.but hB2 (by show ¬(w.heap.size=g);omega),RH.out.2.but hB2 (by show ¬(w.heap.size=g);omega)⟩;have hsz2:=hB2.size;clear hD2 hB2))
    obtain⟨w3,hw3⟩:∃w3,w3=w2.alloc (Obj.cells #[ai (di N),ai (dj N)] 30):=⟨_,rfl⟩
    rw [<-hw3];have hB3:Below w2.heap.size w2 w3:=by rw [hw3];exact ag _ _
    have z0:w3.cell? ⟨w2.heap.size,0,none⟩=some (ai (di N)):=by rw [hw3];simp [go_sem]
    have z1:w3.cell? ⟨w2.heap.size,1,none⟩=some (ai (dj N)):=by rw [hw3];simp [go_sem]
    have hcl:=ae (HC.out w3 (OH.out.call hB3) N hN)
    have RK:=ae (PO.out.later hB3)
    have OJ:=ae (OH.out.call hB3)
    have Sy:Hid (aM w3 ⟨w.heap.size,0,none⟩ (ai 0)/\aM w3 ⟨w.heap.size,1,none⟩ (ai 0)):=⟨Qh.out.1.later hB3,Qh.out.2.later hB3⟩
    have HZ:Hid (w3.cell? ⟨w2.heap.size,0,none⟩=some (ai (di N))/\w3.cell? ⟨w2.heap.size,1,none⟩=some (ai (dj N))):=⟨z0,z1⟩
    have hsz3:=hB3.size
    clear hw3 hdr hD hB RH PO OH Qh hB3;cases hp:P N with
    | true =>
     rw [hp] at hcl;go_wp2_with (first|(go_at_call 393;refine hcl.out.mono ?_;rintro e w4 ⟨rfl,hB4⟩;have OM:=ae hB4;clear hB4))
     refine⟨⟨i+1,by omega,by go_num,?_,?_,OJ.out.call OM.out,⟨Sy.out.1.later OM.out,Sy.out.2.later OM.out⟩,?_⟩,by simp [intOf];omega⟩
     ·show _=_
      rw [hE.out,hek,ot ht (by rw [hNN];exact hp)];rfl
     ·exact RK.out.later OM.out
     ·have:=OM.out.size;omega
    | false =>
     rw [hp] at hcl;have hR:bZ P c n 9 t=(N,0,t+i+1):=by rw [hE.out,hek,ny ht (by rw [hNN];exact hp),hNN]
     have HR:=ae hR
     clear hE hp hek hR;go_upto_region 7 with (first|(go_at_call 393;refine hcl.out.mono ?_;rintro e w4 ⟨rfl,hB4⟩;have OM:=ae hB4;clear hB4))
     have y0:=cell_later OM.out HZ.out.1
     have y1:=cell_later OM.out HZ.out.2
     have l0:=(Sy.out.1.later OM.out).1
     have l1:=(Sy.out.2.later OM.out).1
     have f0:=(Sy.out.1.later OM.out).2
     have f1:=(Sy.out.2.later OM.out).2
     have hB5:aj (·=g) w ((w4.setCell ⟨w.heap.size,0,none⟩ (ai (di N))).setCell ⟨w.heap.size,1,none⟩ (ai (dj N))):=((OJ.out.call OM.out).put (p:=⟨w.heap.size,0,none⟩) (Nat.le_refl _) _).put (p:=⟨w.heap.size,1,none⟩) (Nat.le_refl _) _
     have OS:=ae hB5
     have S4:=ae (((RK.out.later OM.out).gu (b:=w.heap.size) (by omega) (λh0=>by have:=HG.out h0;omega) 0 (ai (di N))).gu (b:=w.heap.size) (by omega) (λh0=>by have:=HG.out h0;omega) 1 (ai (dj N)))
     have HQ:=ae (iK l0 l1 (ai (di N)) (ai (dj N)))
     clear hB5;go_wp2;refine bodyPost_ret (v:=.tuple #[.agg #[ai (di N),ai (dj N)],ab 0]) (by simp [results,Tryz.results392,go_sem,HQ.out.1,HQ.out.2]) rfl ?_
     show fL _ _ _ _ _ _ _ _ _
     unfold fL;rw [HR.out];exact⟨rfl,S4.out,OS.out⟩
   ·have hle:=hD.out.le
    have hdr:Hid (Calls Tryz.prog 338 #[aq g] wr λe w'=>e=.returned (.tuple #[.agg #[ai 0,ai 0],ab 11])/\Below wr.heap.size wr w'):=by
     have e1:t+i=n:=by omega
     have hq:=hD.out
     rw [e1] at hq;exact pS g gb n c wr hq
    have hek:9 - i=(9 - (i+1))+1:=by omega
    have HR:Hid (bZ P c n 9 t=(0,11,t+i)):=by
     show _=_
     rw [hE.out,hek,nT ht]
    obtain⟨RH,-⟩:=And.intro (ae (And.intro l0 l1)) trivial
    clear l0 l1 hE hek hle;go_upto_region 5 with (first|(go_at_call 338;refine hdr.out.mono ?_;rintro e w2 ⟨rfl,hB2⟩;have OH:=ae hB2;clear hB2))
    have hB3:Below wr.heap.size wr (w2.alloc (Obj.cells #[ai 0,ai 0] 30)):=OH.out.alloc OH.out.size _
    have x0:=(RH.out.1.later hB3).1
    have x1:=(RH.out.2.later hB3).1
    have f0:=(RH.out.1.later hB3).2
    have f1:=(RH.out.2.later hB3).2
    have OJ:=ae hB3
    have OS:Hid (aj (·=g) w (((w2.alloc (Obj.cells #[ai 0,ai 0] 30)).setCell ⟨w.heap.size,0,none⟩ (ai 0)).setCell ⟨w.heap.size,1,none⟩ (ai 0))):=((hB.out.call hB3).put (p:=⟨w.heap.size,0,none⟩) (Nat.le_refl _) _).put (p:=⟨w.heap.size,1,none⟩) (Nat.le_refl _) _
    have S4:=ae (((hD.out.later hB3).gu (b:=w.heap.size) (by omega) (λh0=>by have:=HG.out h0;omega) 0 (ai 0)).gu (b:=w.heap.size) (by omega) (λh0=>by have:=HG.out h0;omega) 1 (ai 0))
    have HQ:=ae (iK x0 x1 (ai 0) (ai 0))
    clear hB3;go_wp2;refine bodyPost_ret (v:=.tuple #[.agg #[ai 0,ai 0],ab 11]) (by simp [results,Tryz.results392,go_sem,HQ.out.1,HQ.out.2]) rfl ?_
    show fL _ _ _ _ _ _ _ _ _
    unfold fL;rw [HR.out];exact⟨by simp only [iX,iU],S4.out,OS.out⟩
  ·obtain rfl:i=9:=by omega
   have HR:Hid (bZ P c n 9 t=(0,12,t+9)):=by
    show _=_
    rw [hE.out];rfl
   have x0:=l0.1
   have x1:=l1.1
   have f0:=l0.2
   have f1:=l1.2
   have OS:Hid (aj (·=g) w ((wr.setCell ⟨w.heap.size,0,none⟩ (ai 0)).setCell ⟨w.heap.size,1,none⟩ (ai 0))):=(hB.out.put (p:=⟨w.heap.size,0,none⟩) (Nat.le_refl _) _).put (p:=⟨w.heap.size,1,none⟩) (Nat.le_refl _) _
   have S4:=ae ((hD.out.gu (b:=w.heap.size) (by omega) (λh0=>by have:=HG.out h0;omega) 0 (ai 0)).gu (b:=w.heap.size) (by omega) (λh0=>by have:=HG.out h0;omega) 1 (ai 0))
   have HQ:=ae (iK x0 x1 (ai 0) (ai 0))
   clear l0 l1 hE;go_wp2;refine bodyPost_ret (v:=.tuple #[.agg #[ai 0,ai 0],ab 12]) (by simp [results,Tryz.results392,go_sem,HQ.out.1,HQ.out.2]) rfl ?_
   show fL _ _ _ _ _ _ _ _ _
   unfold fL;rw [HR.out];exact⟨by simp only [iX,iU],S4.out,OS.out⟩
end Go.Proofs.YtmhinfbkmjdgfaaGreatDoor.D
