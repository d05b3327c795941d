import Derived.Test.YtfmhdimaijimlaaGreatDoorZ01
import Derived.Maps.RangeWalk
import Derived.Sort.KeysCollected
set_option linter.all false
set_option maxRecDepth 1000000
set_option maxHeartbeats 8000000
open Go.Proofs.Tryz
variable {w w' w1 w2:Go.World}{n m k i j b g base kn:Nat}{a:Option Go.Addr}
namespace Go.Proofs.YtfmhdimaijimlaaGreatDoor.Q
open Go.RowKit Go.Maps
theorem rZ:∀{l m:List Int},l.Nodup->(∀x∈l,x∈m)->l.length<=m.length
 | [],_,_,_=>Nat.zero_le _
 | x::l,m,hn,hs=>by
  obtain⟨h1,h2⟩:=List.nodup_cons.1 hn
  have h3:=rZ (m:=m.erase x) h2 (λy hy=>(List.mem_erase_of_ne (λ(e:y=x)=>h1 (e ▸ hy))).2 (hs y (by simp [hy])))
  have hx:=hs x (by simp)
  rw [List.length_erase_of_mem hx] at h3
  have:=List.length_pos_of_mem hx
  simp
  omega
def ik (L zs:List Int):Nat:=(zs.map λx=>L.count x).sum
theorem nr (L:List Int)(x:Int)(zs:List Int):ik L (x::zs)=L.count x+ik L zs:=by simp [ik]
theorem yd (L zs:List Int)(x:Int):ik L (zs++[x])=ik L zs+L.count x:=by simp [ik]
theorem qy (L:List Int)(x:Int)(zs:List Int)(h:x∉zs):ik (L.filter (λy=>y != x)) zs=ik L zs:=by
 unfold ik
 congr 1
 apply List.map_congr_left
 intro y hy
 exact List.count_filter (by simp;exact λe=>h (e ▸ hy))
theorem mu (L:List Int)(x:Int):L.length=L.count x+(L.filter (λy=>y != x)).length:=by
 induction L with
 | nil=>rfl
 | cons a L ih =>
  by_cases h:a=x
  ·subst h;simp;omega
  ·simp [h];omega
theorem oT:∀{zs L:List Int},zs.Nodup->ik L zs<=L.length
 | [],L,_=>by simp [ik]
 | x::zs,L,hn=>by
  obtain⟨h1,h2⟩:=List.nodup_cons.1 hn
  have h3:=oT (L:=L.filter (λy=>y != x)) h2
  rw [qy L x zs h1] at h3
  rw [nr,mu L x]
  omega
theorem sd:∀{zs L:List Int},zs.Nodup->(∀x∈L,x∈zs)->ik L zs=L.length
 | [],L,_,h=>by
  cases L with
  | nil=>rfl
  | cons a L=>exact absurd (h a (by simp)) (by simp)
 | x::zs,L,hn,h=>by
  obtain⟨h1,h2⟩:=List.nodup_cons.1 hn
  have h3:=sd (L:=L.filter (λy=>y != x)) h2 (λy hy=>by
   simp at hy
   have:=h y hy.1
   simp at this
   rcases this with e|e
   ·exact absurd e hy.2
   ·exact e)
  rw [qy L x zs h1] at h3
  rw [nr,mu L x,h3]
def fQ (x:Int):Nat->List Int->List Int
 | _,[]=>[]
 | 0,y::l=>y::l
 | n+1,y::l=>if y=x then fQ x n l else y::fQ x (n+1) l
theorem eu:∀(x:Int) (n:Nat) (l:List Int),(fQ x n l).count x=l.count x - n
 | x,n,[]=>by cases n<;>simp [fQ]
 | x,0,y::l=>by simp [fQ]
 | x,n+1,y::l=>by
  unfold fQ
  split
  ·rename_i h
   subst h
   rw [eu]
   simp
  ·rename_i h
   rw [List.count_cons_of_ne h,List.count_cons_of_ne h,eu]
theorem ey:∀(x:Int) (n:Nat) (l:List Int) (y:Int),y≠x->(fQ x n l).count y=l.count y
 | x,n,[],y,h=>by cases n<;>simp [fQ]
 | x,0,z::l,y,h=>by simp [fQ]
 | x,n+1,z::l,y,h=>by
  unfold fQ
  split
  ·rename_i e
   subst e
   rw [ey _ n l y h,List.count_cons_of_ne (λe=>h e.symm)]
  ·rw [List.count_cons,List.count_cons,ey x (n+1) l y h]
theorem jl:∀(x:Int) (n:Nat) (l:List Int),n<=l.count x->(fQ x n l).length+n=l.length
 | x,n,[],h=>by simp at h;subst h;rfl
 | x,0,y::l,h=>by simp [fQ]
 | x,n+1,y::l,h=>by
  unfold fQ
  split
  ·rename_i e
   subst e
   simp at h
   have:=jl y n l h
   simp
   omega
  ·rename_i e
   rw [List.count_cons_of_ne e] at h
   have:=jl x (n+1) l h
   simp
   omega
def may (e a:Int)(L:List Int)(x:Int):Int:=if e<=(L.count x:Int) then 9 else if a<=(L.length:Int) then 10 else 0
def pW (e a:Int)(L:List Int)(x:Int):List Int:=if may e a L x=0 then L++[x] else L
def qi (L:List Int)(x n:Int):Int:=if n<0\/(L.count x:Int)<n then 20 else 0
def i_ (L:List Int)(x n:Int):List Int:=if n<0\/(L.count x:Int)<n then L else fQ x n.toNat L
structure Sz (e a:Int)(L:List Int):Prop where
 e1:1<=e
 e2:e<=256
 a1:1<=a
 a2:a<=256
 len:(L.length:Int)<=a
 mW:∀x,(L.count x:Int)<=e
theorem lO {e a:Int}{L:List Int}{x:Int}(h:may e a L x=0):(L.count x:Int)<e/\(L.length:Int)<a:=by
 unfold may at h
 split at h
 ·cases h
 ·split at h
  ·cases h
  ·omega
theorem Sz.add {e a:Int}{L:List Int}(h:Sz e a L)(x:Int):Sz e a (pW e a L x):=by
 unfold pW
 split
 ·rename_i hm
  obtain⟨h1,h2⟩:=lO hm
  refine⟨h.e1,h.e2,h.a1,h.a2,by simp;omega,λy=>?_⟩
  by_cases e:y=x
  ·subst e;simp;omega
  ·have:=h.mW y
   have e2:(L++[x]).count y=L.count y:=by simp [List.count_append,Ne.symm e]
   rw [e2];exact this
 ·exact h
theorem Sz.sub {e a:Int}{L:List Int}(h:Sz e a L)(x n:Int):Sz e a (i_ L x n):=by
 unfold i_
 split
 ·exact h
 ·rename_i hn
  have hl:=jl x n.toNat L (by omega)
  refine⟨h.e1,h.e2,h.a1,h.a2,by have:=h.len;omega,λy=>?_⟩
  by_cases e:y=x
  ·subst e;rw [eu];have:=h.mW y;omega
  ·rw [ey _ _ _ _ e];exact h.mW y
theorem law:Keyed prog 3:=int_keyed underlying3
theorem ET (w:World):(zeroValue 3).run prog w=.ok (.int .i64 0) w:=by kernel_rfl
abbrev ky (x:Int):Lit:=.int .i64 x
abbrev nu (x:Int):DataW Unit:=.lit (.int .i64 x)
theorem uL {x y:Int}(h:x≠y):ky x≠ky y:=λe=>h (by simpa [ky] using e)
theorem BL {x:Int}(h:(Lit.int .i64 x).wf=true):WideAt.IsKeyLit (ky x):=law.key (keyOf_int_mk underlying3 h)
structure Cn (D:DataW Unit)(L:List Int):Prop where
 at_:∀x,D.atKey (ky x) (nu 0)=nu (L.count x:Int)
 has:∀x,Maps.has D (ky x)=decide (x∈L)
 map:IsMap D
theorem Cn.start:Cn (.map []) []:=⟨λx=>rfl,λx=>by simp [Maps.has],isMap_empty⟩
theorem Cn.put {D:DataW Unit}{L M:List Int}(h:Cn D L){x c:Int}(hx:(Lit.int .i64 x).wf=true)(ho:∀y,y≠x->M.count y=L.count y)(hc:(M.count x:Int)=c)(h0:0<c):Cn (D.put (ky x) (nu c)) M:=by
 refine⟨λy=>?_,λy=>?_,h.map.put _ _⟩
 ·by_cases e:y=x
  ·subst e;rw [atKey_put_same h.map (BL hx),hc]
  ·rw [atKey_put_other (uL e),h.at_ y,ho y e]
 ·by_cases e:y=x
  ·subst e
   rw [has_put_same h.map (BL hx)]
   exact (dT (List.count_pos_iff.1 (by omega))).symm
  ·rw [has_put_other (uL e),h.has y]
   have h1:=ho y e
   congr 1
   rw [<-List.count_pos_iff,<-List.count_pos_iff,h1]
theorem Cn.del {D:DataW Unit}{L M:List Int}(h:Cn D L){x:Int}(ho:∀y,y≠x->M.count y=L.count y)(hc:M.count x=0):Cn (D.del (ky x)) M:=by
 refine⟨λy=>?_,λy=>?_,h.map.del _⟩
 ·by_cases e:y=x
  ·subst e;rw [atKey_del_same,hc];rfl
  ·rw [atKey_del_other (uL e),h.at_ y,ho y e]
 ·by_cases e:y=x
  ·subst e
   rw [has_del_same]
   exact (dF (λhm=>by have:=List.count_pos_iff.2 hm;omega)).symm
  ·rw [has_del_other (uL e),h.has y]
   have h1:=ho y e
   congr 1
   rw [<-List.count_pos_iff,<-List.count_pos_iff,h1]
def Hc:Lit->Int
 | .int _ x=>x
 | _=>0
abbrev owns (w:World)(b n:Nat)(D:DataW Unit):Prop:=w.ownsMap prog 3 (plainElem prog 3) b n D
theorem CT {D:DataW Unit}{L:List Int}(h:owns w b n D)(hc:Cn D L):Maps.size D<=L.length:=by
 obtain⟨es,hD,hpw,_⟩:=h.entries law
 obtain⟨es',hD',hko⟩:=h.keysOf
 obtain rfl:es=es':=by rw [hD] at hD';simpa using hD'
 subst hD
 have hk:∀p∈es,∃x,p.1=ky x:=λp hp=>by
  obtain⟨v,hv⟩:=hko p hp
  obtain⟨x,_,hx,_⟩:=Maps.keyOf_int_inv underlying3 hv
  exact⟨x,hx⟩
 have h1:(es.map λp=>Hc p.1).Nodup:=List.pairwise_map.2 (hpw.imp_of_mem λ{p q} hp hq hne e=>hne (by
  obtain⟨a,ha⟩:=hk p hp
  obtain⟨b,hb⟩:=hk q hq
  rw [ha,hb] at e ⊢
  exact congrArg _ e))
 have h2:=rZ (m:=L) h1 (λx hx=>by
  obtain⟨p,hp,rfl⟩:=List.mem_map.1 hx
  obtain⟨a,ha⟩:=hk p hp
  rw [ha]
  have h3:=hc.has a
  have h4:Maps.has (DataW.map es) (ky a)=true:=by
   rw [has_eq,List.any_eq_true]
   exact⟨p,hp,by rw [ha];simp [Lit.sameKey]⟩
  rw [h4] at h3
  exact of_decide_eq_true h3.symm)
 rw [List.length_map] at h2
 exact h2
theorem tight {D:DataW Unit}{L:List Int}(h:owns w b n D)(hc:Cn D L):owns w b L.length D:=by
 have hs:=CT h hc
 obtain⟨es,clock,hb,F,_,rfl⟩:=h
 refine⟨es,clock,hb,F,?_,rfl⟩
 simpa [Maps.size,length_sorted] using hs
def Mp (w:World)(b:Nat)(L:List Int):Prop:=∃D,owns w b L.length D/\Cn D L
theorem bd {S:Nat->Prop}{D:DataW Unit}(hb:ae S w w')(h:owns w b n D)(hn:¬S b):owns w' b n D:=by
 have hlt:=h.lt
 obtain⟨es,clock,hh,r⟩:=h
 exact⟨es,clock,(hb.block b hlt hn).trans hh,r⟩
theorem Mp.but {S:Nat->Prop}{L:List Int}(h:Mp w b L)(hb:ae S w w')(hn:¬S b):Mp w' b L:=by
 obtain⟨D,h1,h2⟩:=h
 exact⟨D,bd hb h1 hn,h2⟩
theorem Mp.lt {L:List Int}(h:Mp w b L):b<w.heap.size:=by
 obtain⟨D,h1,_⟩:=h
 exact h1.lt
structure Qu (w:World)(g b:Nat)(e a:Int)(L:List Int):Prop where
 c0:w.cell? ⟨g,0,none⟩=some (.int .i64 e)
 c1:w.cell? ⟨g,1,none⟩=some (.int .i64 a)
 c2:w.cell? ⟨g,2,none⟩=some (.map (some b))
 mp:Mp w b L
 sz:Sz e a L
theorem Qu.but {S:Nat->Prop}{e a:Int}{L:List Int}(h:Qu w g b e a L)(hb:ae S w w')(hg:¬S g)(hn:¬S b):Qu w' g b e a L :=
 ⟨aC hb h.c0 hg,aC hb h.c1 hg,aC hb h.c2 hg,h.mp.but hb hn,h.sz⟩
theorem Qu.later {e a:Int}{L:List Int}(h:Qu w g b e a L)(hb:Below w.heap.size w w'):Qu w' g b e a L:=h.but (S:=λ_=>False) (ae.of hb) (λh=>h) (λh=>h)
theorem Qu.gb {e a:Int}{L:List Int}(h:Qu w g b e a L):g≠b:=λeq=>by
 obtain⟨D,⟨es,clock,hh,_⟩,_⟩:=h.mp
 have:=h.c0
 rw [eq] at this
 simp [World.cell?,hh] at this
theorem Qu.CH {e a:Int}{L:List Int}(h:Qu w g b e a L):g<w.heap.size:=World.block_lt_of_cell? _ _ h.c0
theorem Qu.blt {e a:Int}{L:List Int}(h:Qu w g b e a L):b<w.heap.size:=h.mp.lt
theorem Qu.GD {e a:Int}{L M:List Int}{D:DataW Unit}(h:Qu w g b e a L)(hg:w.grownBy w' (some b))(ho:owns w' b n D)(hc:Cn D M)(hs:Sz e a M):Qu w' g b e a M/\ae (λk=>k=b) w w':=by
 have hB:ae (λk=>k=b) w w':=⟨hg.os,hg.tape,hg.output,hg.size,λk hk hn=>hg.block k hk (λe=>hn (by simpa using e))⟩
 exact⟨⟨aC hB h.c0 h.gb,aC hB h.c1 h.gb,aC hB h.c2 h.gb,⟨D,tight ho hc,hc⟩,hs⟩,hB⟩
def pV (D:DataW Unit)(left:Lit->Bool)(zs:List Int):Prop:=zs.Nodup/\∀x,x∈zs↔(Maps.has D (ky x)=true/\left (ky x)=false)
theorem pV.start (D:DataW Unit):pV D (Maps.has D) []:=⟨List.nodup_nil,λx=>by cases Maps.has D (ky x)<;>simp⟩
theorem pV.step {D:DataW Unit}{left:Lit->Bool}{zs:List Int}(h:pV D left zs){x:Int}{y:DataW Unit}(hlk:left (ky x)=true)(hat:∀zd,D.atKey (ky x) zd=y):pV D (λz=>left z&&!z.sameKey (ky x)) (zs++[x]):=by
 have hhas:Maps.has D (ky x)=true:=has_true_of_atKey hat
 have hnew:x∉zs:=λhx=>by have:=((h.2 x).1 hx).2;rw [hlk] at this;cases this
 refine⟨List.nodup_append.2 ⟨h.1,by simp,λa ha b hb=>by simp at hb;subst hb;exact λe=>hnew (e ▸ ha)⟩,λy=>?_⟩
 by_cases hy:y=x
 ·subst hy;simp [hhas,Lit.sameKey]
 ·simp [h.2 y,hy,Lit.sameKey]
theorem pV.all {D:DataW Unit}{left:Lit->Bool}{zs L:List Int}(h:pV D left zs)(hc:Cn D L)(hl:∀kl,left kl=false)(x:Int):x∈zs↔x∈L:=by
 rw [h.2 x,hc.has x,hl]
 simp
theorem zK {x:Int}(h1:-9223372036854775808<=x)(h2:x<=9223372036854775807):(Lit.int .i64 x).wf=true:=WalkArith.wf_i64 (by omega)
theorem t_ {x y:Int}(h:nu x=nu y):x=y:=by simpa [nu] using h
theorem Bu {e a:Int}{L:List Int}(h:Qu w g b e a L)(x:Int)(hx:(Lit.int .i64 x).wf=true) :
  Calls prog 216 #[.pointer (some ⟨g,0,none⟩),.int .i64 x] w λr w'=>r=.returned (.int .i64 (L.count x:Int))/\w'=w:=by
 obtain⟨c0,c1,c2,⟨D,hown,hcn⟩,hsz⟩:=h
 have HC:=aa hcn
 clear hcn hsz
 go_enter func216,ntmps216
 go_wp2_with (first|(at_lookup;refine wpList_lookup_own_int _ rfl _ _ 162 rfl 3 3 .i64 law underlying162 underlying3 (ET _) b _ _ rfl hown _ _ rfl (keyOf_int_mk underlying3 hx) ?_;intro c hat hwc;have HA:=aa hat;clear hat))
 go_ret
 refine⟨aL ?_,rfl⟩
 have h1:=HA.o
 rw [HC.o.at_ x] at h1
 exact (t_ h1).symm
def yZ (w:World)(b:Nat)(L:List Int)(D:DataW Unit)(s:Value)(w':World):Prop :=
 ∃left mW zs,s=.int .i64 (ik L zs:Int)/\w'.ranges prog 3 (plainElem prog 3) b w.heap.size L.length D left mW/\pV D left zs/\Below w.heap.size w w'
theorem ic {e a:Int}{L:List Int}(h:Qu w g b e a L) :
  Calls prog 217 #[.pointer (some ⟨g,0,none⟩)] w λr w'=>r=.returned (.int .i64 (L.length:Int))/\Below w.heap.size w w':=by
 obtain⟨c0,c1,c2,⟨D,hown,hcn⟩,hsz⟩:=h
 have HC:=aa hcn
 have hll:=hsz.len
 have ha2:=hsz.a2
 clear hcn hsz
 go_enter func217,ntmps217
 go_upto_region 3 with (first|(at_range;refine wpList_range_own _ rfl _ 162 rfl 3 3 law underlying162 _ b _ _ rfl hown ?_;intro w0 hrg0 hg0 hs0;clear hs0))
 go_frame
 go_loopw [3] (yZ w b L D) (λ_ wr=>wr.rangeLeft b w.heap.size)
 case atStart=>exact⟨_,_,[],rfl,hrg0,pV.start D,qZ (Below.refl _ _) hg0 (λk hk=>by cases hk)⟩
 case round =>
  clear hrg0 hg0
  obtain⟨left,mW,zs,rfl,hrg,hcoll,hbel⟩:=hrel
  have HO:=aa hcoll
  have HB:=aa hbel
  have HS:=aa (oT (L:=L) hcoll.1)
  clear hcoll hbel
  go_wp2_with (first|(at_next;refine wpList_next_ranges_ii _ rfl _ rfl 3 3 .i64 .i64 law underlying3 underlying3 b w.heap.size _ _ _ _ rfl hrg ?_ ?_))
  ·intro _ hl0
   have HL:=aa hl0
   clear hl0
   go_wp2
   go_ret
   refine⟨aL ?_,HB.o⟩
   have h1:=sd (L:=L) HO.o.1 (λx hx=>(HO.o.all HC.o HL.o x).2 hx)
   rw [h1]
  ·intro x c w1 cnt1 hwx hwc hlx hat hrg1 hlt hg1 hs1 hen
   have hcx:c=(L.count x:Int):=by
    have h1:=hat (nu 0)
    rw [HC.o.at_ x] at h1
    exact (t_ h1).symm
   have hO1:=HO.o.step hlx hat
   have HS1:=aa (oT (L:=L) hO1.1)
   have hsn:=yd L zs x
   have hm:w1.rangeLeft b w.heap.size<wr.rangeLeft b w.heap.size:=by rw [hrg1.left_eq,hrg.left_eq];exact hlt
   have HN:Hid (yZ w b L D (.int .i64 ((ik L zs:Int)+c)) w1):=⟨_,_,zs++[x],by rw [hsn,hcx];rfl,hrg1,hO1,HB.o.grown hg1 HB.o.size (λk hk=>by cases hk;exact Nat.le_refl _)⟩
   have hw:wrap64 ((ik L zs:Int)+c)=(ik L zs:Int)+c:=by
    have:=HS1.o
    rw [hsn] at this
    unfold wrap64;omega
   clear hs1 hat hO1 hrg hrg1 hg1 hlt hlx hsn hcx
   go_wp2
   refine⟨?_,hm⟩
   rw [hw]
   exact HN.o
theorem g8 {e a:Int}{L:List Int}(h:Qu w g b e a L)(x:Int)(hx:(Lit.int .i64 x).wf=true) :
  Calls prog 177 #[.pointer (some ⟨g,0,none⟩),.int .i64 x] w λr w'=>r=.returned (.int .i64 (may e a L x))/\Below w.heap.size w w':=by
 have hof:=aa (λ(U:World) (hU:Below w.heap.size w U)=>Bu (h.later hU) x hx)
 have hal:=aa (λ(U:World) (hU:Below w.heap.size w U)=>ic (h.later hU))
 have hm:Hid (may e a L x=if e<=(L.count x:Int) then 9 else if a<=(L.length:Int) then 10 else 0):=rfl
 have hC0:Hid (∀U:World,Below w.heap.size w U->(U.cell? ⟨g,0,none⟩=some (.int .i64 e))/\Below w.heap.size w U):=λU hU=>⟨cell_later hU h.c0,hU⟩
 have hC1:Hid (∀U:World,Below w.heap.size w U->(U.cell? ⟨g,1,none⟩=some (.int .i64 a))/\Below w.heap.size w U):=λU hU=>⟨cell_later hU h.c1,hU⟩
 clear h
 generalize (L.count x:Int)=c at *
 generalize (L.length:Int)=l at *
 have hr1:Hid (e<=c->may e a L x=9):=λh1=>by rw [hm.out,if_pos h1]
 have hr2:Hid (c<e->a<=l->may e a L x=10):=λh1 h2=>by rw [hm.out,if_neg (by omega),if_pos h2]
 have hr3:Hid (c<e->l<a->may e a L x=0):=λh1 h2=>by rw [hm.out,if_neg (by omega),if_neg (by omega)]
 clear hm
 generalize may e a L x=mm at *
 go_enter func177,ntmps177
 go_upto_region 1 with fail
 go_region_held3 (λU=>(U.cell? ⟨g,0,none⟩=some (.int .i64 e))/\Below w.heap.size w U) (first|exact hC0.out _ HB2.o|exact hC0.out _ (Below.refl _ _).drew) (first
  | (go_at_call 216;refine (hof.out _ (Below.refl _ _).drew).mono ?_;rintro e w2 ⟨rfl,hw2⟩;have HB2:Hid (Below w.heap.size w w2):=(by unfold Hid;rw [hw2];exact (Below.refl _ _).drew);clear hw2))
 by_cases h1:e<=c
 ·have hd:decide (c>=e)=true:=dT h1
  go_wp2
  go_ret
  exact⟨by rw [hr1.out (by omega)];rfl,HB2.o⟩
 ·have hd:decide (c>=e)=false:=dF h1
  go_upto_region 3 with fail
  go_region_held3 (λU=>(U.cell? ⟨g,1,none⟩=some (.int .i64 a))/\Below w.heap.size w U) (first|exact hC1.out _ HB3.o|exact hC1.out _ HB2.o.drew) (first
   | (go_at_call 217;refine (hal.out _ HB2.o.drew).mono ?_;rintro e w3 ⟨rfl,hb3⟩;have HB3:=aa (al HB2.o.drew hb3);clear hb3))
  by_cases h2:a<=l
  ·have hd:decide (l>=a)=true:=dT h2
   go_wp2
   go_ret
   exact⟨by rw [hr2.out (by omega) (by omega)];rfl,HB3.o⟩
  ·have hd:decide (l>=a)=false:=dF h2
   go_wp2
   go_ret
   exact⟨by rw [hr3.out (by omega) (by omega)];rfl,HB3.o⟩
theorem jo {e a:Int}{L:List Int}(h:Qu w g b e a L)(x:Int)(hx:(Lit.int .i64 x).wf=true) :
  Calls prog 125 #[.pointer (some ⟨g,0,none⟩),.int .i64 x] w λr w'=>r=.returned (.int .i64 (may e a L x))/\Qu w' g b e a (pW e a L x)/\ae (λk=>k=b) w w':=by
 have hma:=aa (g8 h x hx)
 by_cases hm:may e a L x=0
 ·have hA:pW e a L x=L++[x]:=by unfold pW;rw [if_pos hm]
  have hS:=aa (hA ▸ h.sz.add x)
  obtain⟨h1,h2⟩:=lO hm
  have h3:=h.sz.e2
  rw [hm] at hma ⊢
  rw [hA]
  have hl1:=h.sz.len
  have hl2:=h.sz.a2
  have hQ:=aa (λ(U:World) (hU:Below w.heap.size w U)=>h.later hU)
  clear h hA hm
  go_enter func125,ntmps125
  go_upto_region 2 with (first|(go_at_call 177;refine hma.out.mono ?_;rintro e w1 ⟨rfl,hb1⟩;have HB1:=aa hb1;clear hb1))
  have HQ1:=aa (hQ.out _ HB1.o)
  obtain⟨c0,c1,c2,⟨D,hown,hcn⟩,_⟩:=HQ1.o
  have HC:=aa hcn
  have hlm:L.length<maxLen:=by unfold maxLen;omega
  clear hcn
  go_wp2_with (first
   | (at_lookup;refine wpList_lookup_own_int _ rfl _ _ 162 rfl 3 3 .i64 law underlying162 underlying3 (ET _) b _ _ rfl hown _ _ rfl (keyOf_int_mk underlying3 hx) ?_;intro c hat hwc;have HA:=aa hat;clear hat)
   | (at_mapUpdate;refine wpList_mapUpdate_own _ rfl _ _ _ 162 rfl 3 3 law underlying162 _ b _ _ rfl hown hlm _ _ _ rfl rfl (keyOf_int_mk underlying3 hx) _ [] (plainElem_int underlying3 (wrap64_wf _)) ?_;intro w2 hown2 hg2;have HO2:=aa hown2;have HG2:=aa hg2;clear hown2 hg2))
  go_ret
  have hc:=HA.o
  rw [HC.o.at_ x] at hc
  have hc:=t_ hc
  have hw:wrap64 (c+1)=c+1:=by unfold wrap64;omega
  have ho:=HO2.o
  rw [hw] at ho
  have hcn2:=HC.o.put (M:=L++[x]) (x:=x) (c:=c+1) hx (λy hy=>by simp [List.count_append,Ne.symm hy]) (by simp [List.count_append];omega) (by omega)
  obtain⟨r1,r2⟩:=HQ1.o.GD HG2.o ho hcn2 hS.out
  exact⟨rfl,r1,(ae.of HB1.o).trans r2⟩
 ·have hA:pW e a L x=L:=by unfold pW;rw [if_neg hm]
  rw [hA]
  have hQ:=aa (λ(U:World) (hU:Below w.heap.size w U)=>h.later hU)
  clear h hA
  generalize may e a L x=mm at *
  have hd:(mm != 0)=true:=by simp [hm]
  go_enter func125,ntmps125
  go_wp2_with (first|(go_at_call 177;refine hma.out.mono ?_;rintro e w1 ⟨rfl,hb1⟩;have HB1:=aa hb1;clear hb1))
  go_ret
  exact⟨rfl,hQ.out _ HB1.o,ae.of HB1.o⟩
theorem Db {e a:Int}{L:List Int}(h:Qu w g b e a L)(x n:Int)(hx:(Lit.int .i64 x).wf=true) :
  Calls prog 199 #[.pointer (some ⟨g,0,none⟩),.int .i64 x,.int .i64 n] w λr w'=>r=.returned (.int .i64 (qi L x n))/\Qu w' g b e a (i_ L x n)/\ae (λk=>k=b) w w':=by
 have hof:=aa (Bu h x hx)
 have HQ:=aa h
 have hS:=aa (h.sz.sub x n)
 have hl1:=h.sz.len
 have hl2:=h.sz.a2
 have hcl:=h.sz.mW x
 have he2:=h.sz.e2
 have hlm:L.length<maxLen:=by unfold maxLen;omega
 obtain⟨c0,c1,c2,⟨D,hown,hcn⟩,_⟩:=h
 have HC:=aa hcn
 clear hcn
 obtain⟨c,hc⟩:∃c:Int,c=(L.count x:Int):=⟨_,rfl⟩
 have HCC:=aa hc
 have hc0:0<=c:=by omega
 have hc9:c<=256:=by omega
 rw [<-hc] at hof
 by_cases h1:n<0\/c<n
 ·have hR:qi L x n=20/\i_ L x n=L:=by unfold qi i_;rw [<-hc,if_pos h1,if_pos h1];exact⟨rfl,rfl⟩
  rw [hR.1,hR.2]
  clear hc hcl hS hR
  go_enter func199,ntmps199
  go_upto_region 2 with (first|(go_at_call 216;refine hof.out.mono ?_;rintro e w1 ⟨rfl,hw1⟩;obtain rfl:=hw1.symm;clear hw1))
  by_cases h2:n<0
  ·have hd:decide (n<0)=true:=dT h2
   go_wp2
   go_ret
   exact⟨rfl,HQ.o,ae.refl _ _⟩
  ·have hd:decide (n<0)=false:=dF h2
   have hd2:decide (n>c)=true:=dT (by omega)
   have h3:c<n:=by omega
   go_wp2
   go_ret
   exact⟨rfl,HQ.o,ae.refl _ _⟩
 ·have hR:qi L x n=0/\i_ L x n=fQ x n.toNat L:=by unfold qi i_;rw [<-hc,if_neg h1,if_neg h1];exact⟨rfl,rfl⟩
  rw [hR.2] at hS
  rw [hR.1,hR.2]
  have HO:=aa (ey x n.toNat L)
  have HN:=aa (eu x n.toNat L)
  clear hc hcl hR
  have hd:decide (n<0)=false:=dF (by omega)
  have hd2:decide (n>c)=false:=dF (by omega)
  have hn0:0<=n:=by omega
  have hnc:n<=c:=by omega
  clear h1
  by_cases h2:n=c
  ·subst h2
   go_enter func199,ntmps199
   go_wp2_with (first
    | (go_at_call 216;refine hof.out.mono ?_;rintro e w1 ⟨rfl,hw1⟩;obtain rfl:=hw1.symm;clear hw1)
    | (at_delete;refine wpList_delete_own _ rfl _ _ 162 3 rfl 3 law underlying162 _ b _ _ rfl hown _ _ rfl (keyOf_int_mk underlying3 hx) ?_;intro w2 hown2 ht2;have HO2:=aa hown2;have HT2:=aa ht2;clear hown2 ht2))
   go_ret
   have hcn2:=HC.o.del (M:=fQ x n.toNat L) (x:=x) HO.o (by rw [HN.o];have:=HCC.o;omega)
   obtain⟨r1,r2⟩:=HQ.o.GD HT2.o.grown HO2.o hcn2 hS.out
   exact⟨rfl,r1,r2⟩
  ·have hd3:(n==c)=false:=by simp [h2]
   go_enter func199,ntmps199
   go_wp2_with (first
    | (go_at_call 216;refine hof.out.mono ?_;rintro e w1 ⟨rfl,hw1⟩;obtain rfl:=hw1.symm;clear hw1)
    | (at_mapUpdate;refine wpList_mapUpdate_own _ rfl _ _ _ 162 rfl 3 3 law underlying162 _ b _ _ rfl hown hlm _ _ _ rfl rfl (keyOf_int_mk underlying3 hx) _ [] (plainElem_int underlying3 (zK (by omega) (by omega))) ?_;intro w2 hown2 hg2;have HO2:=aa hown2;have HG2:=aa hg2;clear hown2 hg2))
   go_ret
   have hcn2:=HC.o.put (M:=fQ x n.toNat L) (x:=x) (c:=c - n) hx HO.o (by rw [HN.o];have:=HCC.o;omega) (by omega)
   obtain⟨r1,r2⟩:=HQ.o.GD HG2.o HO2.o hcn2 hS.out
   exact⟨rfl,r1,r2⟩
def dI (n m:Int):Bool:=decide (1<=n/\n<=m)
theorem aJ (n m:Int)(w:World):Calls prog 87 #[.int .i64 n,.int .i64 m] w λr w'=>r=.returned (.bool (dI n m))/\w'=w:=by
 unfold dI
 by_cases h1:1<=n
 ·have hd:decide (n>=1)=true:=dT h1
  go_enter func87,ntmps87
  go_wp2
  go_ret
  exact⟨cW (by simp [h1]),rfl⟩
 ·have hd:decide (n>=1)=false:=dF h1
  go_enter func87,ntmps87
  go_wp2
  go_ret
  exact⟨cW (by simp),rfl⟩
def okB (e a:Int):Prop:=(1<=e/\e<=256)/\1<=a/\a<=256
theorem bE (e a:Int)(w:World)(h:okB e a) :
  Calls prog 51 #[.int .i64 e,.int .i64 a] w λr w'=>∃g b,r=.returned (.tuple #[.pointer (some ⟨g,0,none⟩),.int .i64 0])/\Qu w' g b e a []/\w.heap.size<=g/\w.heap.size<=b/\Below w.heap.size w w':=by
 have h1:dI e 256=true:=dT h.1
 have h2:dI a 256=true:=dT h.2
 have HS:Hid (Sz e a []):=⟨h.1.1,h.1.2,h.2.1,h.2.2,by have:=h.2.1;simp;omega,λx=>by have:=h.1.1;simp;omega⟩
 clear h
 have hmm:=@run_makeMap prog
 go_enter func51,ntmps51
 go_wp2_with (first|(go_at_call 87;refine (aJ _ _ _).mono ?_;rintro e w1 ⟨rfl,hw1⟩;obtain rfl:=hw1.symm;clear hw1))
 have hB:=aw w (.map #[] 0) (.cells #[.int .i64 e,.int .i64 a,.map (some w.heap.size)] 164)
 exact bodyPost_ret (v:=.tuple #[.pointer (some ⟨w.heap.size+1,0,none⟩),.int .i64 0]) (by simp [results,results51,go_sem]) rfl ⟨w.heap.size+1,w.heap.size,rfl,⟨by simp [go_sem],by simp [go_sem],by simp [go_sem],⟨.map [],(World.ownsMap_made w _ _ _).alloc _,Cn.start⟩,HS.o⟩,by omega,Nat.le_refl _,hB⟩
end Go.Proofs.YtfmhdimaijimlaaGreatDoor.Q
namespace Go.Proofs.YtfmhdimaijimlaaGreatDoor.D
open Go.Proofs.YtfmhdimaijimlaaGreatDoor.H (ak)
open Go.RowKit
theorem mc:ak=2 ^ 64:=rfl
structure iL (a b N:Nat):Prop where
 ha:a<ak
 hb:b<ak
 hn:N=a*ak+b
theorem iL.lt {a N:Nat}(h:iL a b N):N<ak*ak:=by
 obtain⟨ha,hb,rfl⟩:=h
 calc a*ak+b<a*ak+ak:=by omega
  _=(a+1)*ak:=by rw [Nat.add_mul,Nat.one_mul]
  _<=ak*ak:=Nat.mul_le_mul_right _ ha
theorem iL.of {N:Nat}(h:N<ak*ak):iL (N / ak) (N%ak) N :=
 ⟨Nat.div_lt_of_lt_mul h,Nat.mod_lt _ (by decide),by rw [Nat.mul_comm];exact (Nat.div_add_mod N ak).symm⟩
theorem iL.inj {a c d N:Nat}(h:iL a b N)(k:iL c d N):a=c/\b=d:=by
 obtain⟨ha,hb,hn⟩:=h
 obtain⟨hc,hd,hm⟩:=k
 unfold ak at *
 omega
theorem iL.JW {a N M:Nat}(h:iL a b N)(k:iL a b M):N=M:=by rw [h.hn,k.hn]
theorem iL.zero:iL 0 0 0:=⟨by decide,by decide,rfl⟩
theorem iL.eq_iff {a c d N M:Nat}(h:iL a b N)(k:iL c d M):N=M↔a=c/\b=d:=by
 constructor
 ·rintro rfl;exact h.inj k
 ·rintro ⟨rfl,rfl⟩;exact h.JW k
def cn (N:Nat)(width:Int):Nat:=N%2 ^ width.toNat
theorem iP (h n:Nat)(hh:h<ak)(hn:n<=63) :
  bits .and .u64 (h:Int) (IntKind.u64.wrap (IntKind.u64.wrap (2 ^ n) - 1))=((h%2 ^ n:Nat):Int):=by
 have h2:(2:Nat) ^ n<=2 ^ 63:=Nat.pow_le_pow_right (by omega) hn
 have hp:0<(2:Nat) ^ n:=Nat.two_pow_pos n
 have e1:((2:Int) ^ n)=((2 ^ n:Nat):Int):=by simp
 have e2:IntKind.u64.wrap (IntKind.u64.wrap (2 ^ n) - 1)=((2 ^ n - 1:Nat):Int):=by
  rw [e1,IntKind.wrap_u64,IntKind.wrap_u64]
  omega
 rw [e2,u64_and_nat _ _ hh (by omega),Nat.and_two_pow_sub_one_eq_mod]
theorem Bb {N:Nat}{width:Int}(h:width<1):cn N width=0:=by
 unfold cn
 have:width.toNat=0:=by omega
 rw [this];simp [Nat.mod_one]
theorem EG:(2:Nat) ^ 128=ak*ak:=by decide
theorem Ez {a N:Nat}{width:Int}(h:iL a b N)(hw:128<=width):iL a b (cn N width):=by
 have hl:=h.lt
 have:cn N width=N:=by
  unfold cn
  apply Nat.mod_eq_of_lt
  calc N<ak*ak:=hl
   _=2 ^ 128:=EG.symm
   _<=_:=Nat.pow_le_pow_right (by omega) (by omega)
 rw [this];exact h
theorem G8 {a N:Nat}{width:Int}(h:iL a b N)(h1:64<=width)(_h2:width<128):iL (a%2 ^ (width - 64).toNat) b (cn N width):=by
 obtain⟨k,hk⟩:∃k:Nat,width=64+k:=⟨(width - 64).toNat,by omega⟩
 have e1:(width - 64).toNat=k:=by omega
 have e2:width.toNat=k+64:=by omega
 rw [e1]
 refine⟨Nat.lt_of_le_of_lt (Nat.mod_le _ _) h.ha,h.hb,?_⟩
 unfold cn
 rw [e2,h.hn,Nat.pow_add,<-mc,Nat.mul_comm (2 ^ k) ak,Nat.mod_mul]
 have hb:=h.hb
 have e3:(a*ak+b)%ak=b:=by rw [Nat.add_comm,Nat.add_mul_mod_self_right,Nat.mod_eq_of_lt hb]
 have e4:(a*ak+b) / ak=a:=by
  rw [Nat.add_comm,Nat.add_mul_div_right _ _ (by decide),Nat.div_eq_of_lt hb,Nat.zero_add]
 rw [e3,e4,Nat.mul_comm,Nat.add_comm]
theorem FK {a N:Nat}{width:Int}(h:iL a b N)(h1:1<=width)(h2:width<64):iL 0 (b%2 ^ width.toNat) (cn N width):=by
 have hk:width.toNat<=64:=by omega
 refine⟨by decide,Nat.lt_of_le_of_lt (Nat.mod_le _ _) h.hb,?_⟩
 unfold cn
 rw [h.hn,Nat.zero_mul,Nat.zero_add]
 have:ak=2 ^ width.toNat*2 ^ (64 - width.toNat):=by rw [<-Nat.pow_add,mc];congr 1;omega
 rw [this,<-Nat.mul_assoc,Nat.mul_comm a,Nat.mul_assoc,Nat.add_comm,Nat.add_mul_mod_self_left]
structure jD (a b:Int)(N:Nat):Prop where
 ex:∃x y:Nat,a=x/\b=y/\iL x y N
theorem jD.of {a b N:Nat}(h:iL a b N):jD a b N:=⟨a,b,rfl,rfl,h⟩
theorem jD.zero:jD 0 0 0:=⟨0,0,rfl,rfl,iL.zero⟩
theorem jD.lt {a b:Int}{N:Nat}(h:jD a b N):N<ak*ak:=by
 obtain⟨x,y,rfl,rfl,h⟩:=h
 exact h.lt
def yl (a b c d:Int):Bool:=decide (a=c)&&decide (b=d)
theorem Ah {a b c d:Int}{N M:Nat}(h:jD a b N)(k:jD c d M):yl a b c d=decide (N=M):=by
 obtain⟨x,y,rfl,rfl,h⟩:=h
 obtain⟨z,u,rfl,rfl,k⟩:=k
 unfold yl
 rw [<-Bool.decide_and,decide_eq_decide]
 have:=h.eq_iff k
 omega
theorem jD.inj {a b c d:Int}{N:Nat}(h:jD a b N)(k:jD c d N):a=c/\b=d:=by
 have:=Ah h k
 simp only [yl,decide_true,Bool.and_eq_true,decide_eq_true_eq] at this
 exact this
def cR (N:Nat):Int:=((N / ak:Nat):Int)
def cT (N:Nat):Int:=((N%ak:Nat):Int)
theorem Ho {N:Nat}(h:N<ak*ak):jD (cR N) (cT N) N:=jD.of (iL.of h)
theorem jD.hi {a b:Int}{N:Nat}(h:jD a b N):a=cR N:=(h.inj (Ho h.lt)).1
theorem jD.lo {a b:Int}{N:Nat}(h:jD a b N):b=cT N:=(h.inj (Ho h.lt)).2
theorem jj:cR 0=0:=rfl
theorem iQ:cT 0=0:=rfl
theorem aZ {e:TypeId}{size:Nat}{v:Value}{xs:List Value}(h:w.ownsRow base e size v n xs):∀k,v.ownBlock=some k->base<=k:=by
 intro k hk
 rcases h.2 with ⟨rfl,_⟩|⟨g,cap,cur,rfl,hg,_⟩
 ·cases hk
 ·simp [Value.ownBlock] at hk;omega
theorem aQ {o o':Nat}{v u:Value}(h:w.cell? ⟨b,o,none⟩=some v)(hne:o'≠o):(w.setCell ⟨b,o',none⟩ u).cell? ⟨b,o,none⟩=some v:=by
 rw [World.cell?_setCell_other _ _ _ _ (λe=>hne (by simpa using congrArg Addr.off e))]
 exact h
def Wd (w:World)(b o N:Nat):Prop:=w.cell? ⟨b,o,none⟩=some (.int .u64 (cR N))/\w.cell? ⟨b,o+1,none⟩=some (.int .u64 (cT N))
theorem Wd.but {S:Nat->Prop}{o N:Nat}(hb:ae S w w')(h:Wd w b o N)(hn:¬S b):Wd w' b o N:=⟨aC hb h.1 hn,aC hb h.2 hn⟩
theorem Wd.later {o N:Nat}(hb:Below w.heap.size w w')(h:Wd w b o N):Wd w' b o N:=⟨cell_later hb h.1,cell_later hb h.2⟩
def yo (N:Nat):List Value:=[.int .u64 (cR N),.int .u64 (cT N)]
def pT (f:Nat->Nat)(k:Nat):List Value:=(List.range k).flatMap λi=>yo (f i)
theorem qS (f:Nat->Nat)(k:Nat):pT f (k+1)=pT f k++yo (f k):=by simp [pT,List.range_succ]
theorem bN (f:Nat->Nat)(k:Nat):(pT f k).length=k*2:=by
 induction k with
 | zero=>rfl
 | succ k ih=>rw [qS,List.length_append,ih,Nat.succ_mul];rfl
theorem fH (f:Nat->Nat)(k i c:Nat)(hi:i<k)(hc:c<2):(pT f k)[i*2+c]?=(yo (f i))[c]?:=by
 induction k with
 | zero=>omega
 | succ k ih =>
  rw [qS]
  by_cases h:i<k
  ·rw [List.getElem?_append_left (by rw [bN];omega)]
   exact ih h
  ·obtain rfl:i=k:=by omega
   rw [List.getElem?_append_right (by rw [bN];omega),bN]
   congr 1
   omega
structure Ws (w:World)(a:Option Addr)(n cap:Nat)(f:Nat->Nat):Prop where
 cap_:n<=cap
 none_:a=none->n=0/\cap=0
 cells:∀x,a=some x->∀j u,(pT f n)[j]?=some u->w.cell? (x.add j)=some u
 small:∀i,f i<ak*ak
theorem Ws.later {W:World}{cap:Nat}{f:Nat->Nat}(hb:Below W.heap.size W w1)(h:Ws W a n cap f):Ws w1 a n cap f :=
 ⟨h.cap_,h.none_,λx hx j u hu=>cell_later hb (h.cells x hx j u hu),h.small⟩
theorem Ws.plain {cap:Nat}{f:Nat->Nat}(h:Ws w a n cap f)(hl:0<n):∃b o,a=some ⟨b,o,none⟩/\∀i,i<n->Wd w b (o+i*2) (f i):=by
 cases a with
 | none=>have:=h.none_ rfl;omega
 | some x =>
  obtain⟨b,o,spot⟩:=x
  have h0:=h.cells _ rfl (0*2+0) _ (fH f n 0 0 hl (by omega))
  have hs:spot=none:=by simpa [Addr.add] using World.cell?_spot h0
  subst hs
  refine⟨b,o,rfl,λi hi=>⟨?_,?_⟩⟩
  ·have:=h.cells _ rfl (i*2+0) _ (fH f n i 0 hi (by omega))
   rw [aV] at this
   exact this
  ·have:=h.cells _ rfl (i*2+1) _ (fH f n i 1 hi (by omega))
   rw [aV] at this
   exact this
theorem Ws.at {o cap:Nat}{f:Nat->Nat}(hc:n<=cap)(hs:∀i,f i<ak*ak)(h:∀i,i<n->Wd w b (o+i*2) (f i)):Ws w (some ⟨b,o,none⟩) n cap f:=by
 refine⟨hc,λh=>(by cases h),λx hx j u hu=>?_,hs⟩
 cases hx
 rw [aV]
 have hj:j<n*2:=by have:=(gS.1 hu).1;rwa [bN] at this
 have hq:=fH f n (j / 2) (j%2) (by omega) (by omega)
 have hjj:j / 2*2+j%2=j:=by omega
 rw [hjj] at hq
 rw [hq] at hu
 have hw:=h (j / 2) (by omega)
 rcases Nat.mod_two_eq_zero_or_one j with e|e
 ·rw [e] at hu
  simp only [yo,List.getElem?_cons_zero,Option.some.injEq] at hu
  subst hu
  have:=hw.1
  have e2:o+j / 2*2=o+j:=by omega
  rwa [e2] at this
 ·rw [e] at hu
  simp only [yo,List.getElem?_cons_succ,List.getElem?_cons_zero,Option.some.injEq] at hu
  subst hu
  have:=hw.2
  have e2:o+j / 2*2+1=o+j:=by omega
  rwa [e2] at this
structure Ar (w:World)(b n:Nat)(f:Nat->Nat):Prop where
 lt:b<w.heap.size
 fr:∀j,w.frozen? ⟨b,j,none⟩=false
 at_:∀i,i<n->Wd w b (i*2) (f i)
theorem Ar.but {S:Nat->Prop}{f:Nat->Nat}(hb:ae S w w')(h:Ar w b n f)(hn:¬S b):Ar w' b n f :=
 ⟨Nat.lt_of_lt_of_le h.lt hb.size,λj=>by rw [World.frozen?_of_block (w:=w) (hb.block b h.lt hn)];exact h.fr j,λi hi=>(h.at_ i hi).but hb hn⟩
theorem Ar.later {f:Nat->Nat}(hb:Below w.heap.size w w')(h:Ar w b n f):Ar w' b n f:=h.but (S:=λ_=>False) (ae.of hb) (λh=>h)
theorem Ar.alloc {f:Nat->Nat}(h:Ar w b n f)(o:Obj):Ar (w.alloc o) b n f:=h.later (ab _ _)
theorem Ar.congr {f g:Nat->Nat}(h:Ar w b n f)(e:∀i,i<n->f i=g i):Ar w b n g:=⟨h.lt,h.fr,λi hi=>by rw [<-e i hi];exact h.at_ i hi⟩
theorem Ar.set {w:World}{b n:Nat}{f g:Nat->Nat}{i N:Nat}(h:Ar w b n f)(hi:i<n)(hg:∀j,j<n->g j=if j=i then N else f j) :
  Ar ((w.setCell ⟨b,i*2,none⟩ (.int .u64 (cR N))).setCell ⟨b,i*2+1,none⟩ (.int .u64 (cT N))) b n g:=by
 refine⟨by simpa using h.lt,λj=>by simpa using h.fr j,λj hj=>?_⟩
 rw [hg j hj]
 obtain⟨h1,h2⟩:=h.at_ j hj
 by_cases e:j=i
 ·subst e
  rw [if_pos rfl]
  exact⟨aQ (World.cell?_setCell_same _ _ _ h1) (by omega),World.cell?_setCell_same _ _ _ (aQ h2 (by omega))⟩
 ·rw [if_neg e]
  exact⟨aQ (aQ h1 (by omega)) (by omega),aQ (aQ h2 (by omega)) (by omega)⟩
theorem tQ:(prog.info? 31).map (λi=>(i.zero,i.size,i.bytes))=some (some (.agg #[.int .u64 0,.int .u64 0]),2,16):=by kernel_rfl
theorem Iu {cap:Nat}{f:Nat->Nat}(h:w.ownsRow base 31 2 (.slice (some ⟨b,0,none⟩) n cap) n (pT f n)):Ar w b n f/\base<=b/\n<=cap:=by
 have hb:=aZ h b rfl
 have hcell:∀i c u,i<n->c<2->(yo (f i))[c]?=some u->w.cell? ⟨b,i*2+c,none⟩=some u:=by
  intro i c u hi hc hu
  have:=h.cells (g:=b) rfl (i*2+c) u (by rw [fH f n i c hi hc];exact hu)
  rw [nj] at this
  exact this
 rcases h.2 with ⟨h0,_⟩|⟨g,c,cur,hv,_,hh,hc,_⟩
 ·simp at h0
 ·simp only [Value.slice.injEq,Option.some.injEq,Addr.mk.injEq] at hv
  obtain⟨⟨rfl,_⟩,_,rfl⟩:=hv
  refine⟨⟨(Array.getElem?_eq_some_iff.1 hh).1,λj=>by simp [World.frozen?,hh],λi hi=>⟨hcell i 0 _ hi (by omega) rfl,hcell i 1 _ hi (by omega) rfl⟩⟩,hb,hc⟩
theorem eg (w:World)(t:TypeId)(ht:prog.underlying t=some (.slice 31))(n:Nat)(hn:n<=4096) :
  ∃w',(Instr.makeSlice t (.int .i64 (n:Int)) (.int .i64 (n:Int))).run prog w=.ok (.slice (some ⟨w.heap.size,0,none⟩) n n) w'/\Ar w' w.heap.size n (λ_=>0)/\Below w.heap.size w w':=by
 obtain⟨i,hi,hz0,hz1,hz2⟩:=info_parts tQ
 obtain⟨w',hr,ho,hg⟩:=run_make_full (P:=prog) w w.heap.size t 31 i _ 2 ht hi hz0 hz1 .i64 .i64 n (by rw [hz2];omega) (by unfold maxLen;omega) (Nat.le_refl _)
 refine⟨w',hr,?_,(Below.refl _ _).grown hg (Nat.le_refl _) (λk hk=>by cases hk)⟩
 have e:(madeCells (Value.agg #[.int .u64 0,.int .u64 0]).cells (n*2)).toList=pT (λ_=>0) n:=by
  apply List.ext_getElem?
  intro j
  by_cases hj:j<n*2
  ·have hq:=fH (λ_=>0) n (j / 2) (j%2) (by omega) (by omega)
   have hjj:j / 2*2+j%2=j:=by omega
   rw [hjj] at hq
   rw [hq]
   rcases Nat.mod_two_eq_zero_or_one j with e|e
   ·simp [madeCells,hj,Value.cells,e,yo,jj,iQ]
   ·simp [madeCells,hj,Value.cells,e,yo,jj,iQ]
  ·rw [List.getElem?_eq_none (by simp [madeCells];omega),List.getElem?_eq_none (by rw [bN];omega)]
 rw [e] at ho
 exact (Iu ho).1
theorem vr (h:Nat)(n:Int)(w:World)(hh:h<ak)(h0:0<=n)(h1:n<=63) :
  Calls prog 131 #[.int .u64 (h:Int),.int .i64 n] w λe w'=>e=.returned (.int .u64 ((h%2 ^ n.toNat:Nat):Int))/\w'=w:=by
 have hl:=iP h n.toNat hh (by omega)
 have HL:Hid (bits .and .u64 (h:Int) (IntKind.u64.wrap (IntKind.u64.wrap (2 ^ n.toNat) - 1))=((h%2 ^ n.toNat:Nat):Int)):=hl
 clear hl
 go_enter func131,ntmps131
 go_wp2
 go_ret
 exact⟨aL HL.o,rfl⟩
theorem kR (a b:Int)(N:Nat)(width:Int)(w:World)(h:jD a b N) :
  Calls prog 83 #[.agg #[.int .u64 a,.int .u64 b],.int .i64 width] w λe w'=>∃c d:Int,e=.returned (.agg #[.int .u64 c,.int .u64 d])/\jD c d (cn N width)/\Below w.heap.size w w':=by
 obtain⟨a,b,rfl,rfl,h⟩:=h
 by_cases h1:width<1
 ·have hz:cn N width=0:=Bb h1
  rw [hz];clear hz
  go_enter func83,ntmps83
  go_wp2
  exact bodyPost_ret (v:=.agg #[.int .u64 0,.int .u64 0]) (by simp [results,results83,go_sem]) rfl ⟨0,0,rfl,jD.zero,aw _ _ _⟩
 ·by_cases h2:128<=width
  ·have hz:=jD.of (Ez h h2)
   clear h
   go_enter func83,ntmps83
   go_wp2
   exact bodyPost_ret (v:=.agg #[.int .u64 a,.int .u64 b]) (by simp [results,results83,go_sem]) rfl ⟨a,b,rfl,hz,aw _ _ _⟩
  ·by_cases h3:64<=width
   ·have hz:=jD.of (G8 h h3 (by omega))
    have hh:=h.ha
    have hw:IntKind.i64.wrap (width - 64)=width - 64:=by rw [IntKind.wrap_i64];omega
    clear h
    go_enter func83,ntmps83
    go_wp2
    go_region_with (first|(go_at_call 131;refine (vr _ _ _ hh (by omega) (by omega)).mono ?_;rintro e w' ⟨rfl,rfl⟩))
    all_goals go_wp2
    all_goals exact bodyPost_ret (v:=.agg #[.int .u64 ((a%2 ^ (width - 64).toNat:Nat):Int),.int .u64 b]) (by simp [results,results83,go_sem]) rfl ⟨_,b,rfl,hz,(aw _ _ _).drew⟩
   ·have hz:=jD.of (FK (width:=width) h (by omega) (by omega))
    have hh:=h.hb
    have h4:width<=63:=by omega
    clear h
    go_enter func83,ntmps83
    go_wp2_with (first|(go_at_call 131;refine (vr b width _ hh (by omega) h4).mono ?_;rintro e w' ⟨rfl,rfl⟩))
    exact bodyPost_ret (v:=.agg #[.int .u64 0,.int .u64 ((b%2 ^ width.toNat:Nat):Int)]) (by simp [results,results83,go_sem]) rfl ⟨0,_,rfl,hz,(aw _ _ _)⟩
theorem vt {o b' o':Nat}(h:b≠b'\/o≠o'):(⟨b,o,none⟩:Addr)≠⟨b',o',none⟩:=by
 intro e
 simp only [Addr.mk.injEq,and_true] at e
 omega
theorem JE (N:Nat)(width:Int)(w:World)(h:N<ak*ak) :
  Calls prog 83 #[.agg #[.int .u64 (cR N),.int .u64 (cT N)],.int .i64 width] w λe w'=>e=.returned (.agg #[.int .u64 (cR (cn N width)),.int .u64 (cT (cn N width))])/\Below w.heap.size w w':=by
 refine (kR _ _ N width w (Ho h)).mono ?_
 rintro e w' ⟨c,d,rfl,hv,hb⟩
 rw [hv.hi,hv.lo]
 exact⟨rfl,hb⟩
def mG (f:Nat->Nat)(width:Int)(i j:Nat):Nat:=if j<i then cn (f j) width else 0
theorem vS (f:Nat->Nat)(width:Int)(j:Nat):mG f width 0 j=0:=by unfold mG;rw [if_neg (by omega)]
theorem wH (f:Nat->Nat)(width:Int)(i j:Nat):mG f width (i+1) j=if j=i then cn (f i) width else mG f width i j:=by
 unfold mG
 by_cases h:j=i
 ·subst h;rw [if_pos (by omega),if_pos rfl]
 ·rw [if_neg h]
  by_cases h1:j<i
  ·rw [if_pos (by omega),if_pos h1]
  ·rw [if_neg (by omega),if_neg h1]
theorem Bq (f:Nat->Nat)(width:Int)(n j:Nat)(h:j<n):mG f width n j=cn (f j) width:=by unfold mG;rw [if_pos h]
def DC (w:World)(n:Nat)(f:Nat->Nat)(width:Int)(gb:Nat)(t:Value)(w':World):Prop :=
 ∃i:Nat,i<=n/\t=.int .i64 (i:Int)/\Ar w' gb n (mG f width i)/\Below w.heap.size w w'
theorem ze (a:Option Addr)(n cap:Nat)(f:Nat->Nat)(width:Int)(w:World)(h:Ws w a n cap f)(hn:n<=4096) :
  Calls prog 48 #[.slice a n cap,.int .i64 width] w λe w'=>e=.returned (.slice (some ⟨w.heap.size,0,none⟩) n n)/\Ar w' w.heap.size n (λj=>cn (f j) width)/\Below w.heap.size w w':=by
 obtain⟨w1,hrun,ha,hb⟩:=eg w 108 underlying108 n hn
 have HA:Hid (Ar w1 w.heap.size n (λ_=>0)):=ha
 have HB:Hid (Below w.heap.size w w1):=hb
 have HH:Hid (Ws w a n cap f):=h
 clear ha hb h
 go_enter func48,ntmps48
 go_upto_region 3 with fail
 go_loopw [13] (DC w n f width w.heap.size) (λt _=>n - (intOf t).toNat)
 case atStart=>exact⟨0,Nat.zero_le _,rfl,HA.o.congr (λj _=>(vS f width j).symm),HB.o⟩
 case round =>
  obtain⟨i,hi,rfl,hA,hB⟩:=hrel
  by_cases hlt:i<n
  ·obtain⟨b,o,rfl,hw⟩:=(HH.o.later hB).plain (by omega)
   have hsm:=HH.o.small i
   obtain⟨x0,x1⟩:=hw i hlt
   have HAr:Hid (Ar wr w.heap.size n (mG f width i)):=hA
   clear hA hw
   go_wp2_with (first|(go_at_call 83;refine (JE _ _ _ hsm).mono ?_;rintro e w2 ⟨rfl,hb2⟩;have A2:=(HAr.o.alloc _).later hb2;obtain⟨q0,q1⟩:=A2.at_ i hlt;have q2:=A2.fr;have H2:Hid (Ar w2 w.heap.size n (mG f width i)):=A2;clear A2))
   refine⟨⟨i+1,by omega,by go_num,H2.o.set hlt (λj _=>wH f width i j),?_⟩,by simp [intOf];omega⟩
   exact ((al (al hB (ab _ _)) hb2).setCell (Nat.le_refl _) _).setCell (Nat.le_refl _) _
  ·obtain rfl:i=n:=by omega
   have HAr:Hid (Ar wr w.heap.size i (mG f width i)):=hA
   clear hA
   go_wp2
   go_ret
   exact⟨rfl,HAr.o.congr (λj hj=>Bq f width i j hj),hB⟩
theorem qR (gb n t:Nat)(w:World)(ht:t<n)(hn:n<=4096) :
  Calls prog 225 #[.slice (some ⟨gb,0,none⟩) n n,.int .i64 (t:Int)] w λe w'=>e=.returned (.slice (some ⟨gb,t*2,none⟩) (n - t) (n - t))/\w'=w:=by
 have h1:(t:Int)<=(n:Int):=by omega
 have hne:¬n=t:=by omega
 have hnb:(n==t)=false:=by simpa using hne
 have hna:(n - t==0)=false:=by simp;omega
 go_enter func225,ntmps225
 go_wp2
 go_ret
 exact⟨rfl,rfl⟩
theorem rN (gb n:Nat)(w:World)(hn:n<=4096) :
  Calls prog 225 #[.slice (some ⟨gb,0,none⟩) n n,.int .i64 (n:Int)] w λe w'=>e=.returned (.slice (some ⟨gb,0,none⟩) 0 0)/\w'=w:=by
 go_enter func225,ntmps225
 go_wp2
 go_ret
 exact⟨rfl,rfl⟩
theorem sQ (gb n:Nat)(hn:n<=4096):∃x0,∀w:World,Calls prog 225 #[.slice (some ⟨gb,0,none⟩) n n,.int .i64 (n:Int)] w λe w'=>e=.returned (.slice x0 0 0)/\w'=w:=⟨_,λw=>rN gb n w hn⟩
structure Dr (w:World)(g gb n:Nat)(c:Nat->Nat)(t:Nat):Prop where
 all:w.cell? ⟨g,0,none⟩=some (.slice (some ⟨gb,0,none⟩) n n)
 tk:aq w ⟨g,1,none⟩ (.int .i64 (t:Int))
 ar:∀i,i<n->Wd w gb (i*2) (c i)
 ne:g≠gb
 le:t<=n
 eK:n<=4096
theorem Dr.but {S:Nat->Prop}{gb:Nat}{c:Nat->Nat}{t:Nat}(hb:ae S w w')(h:Dr w g gb n c t)(h1:¬S g)(h2:¬S gb):Dr w' g gb n c t :=
 ⟨aC hb h.all h1,h.tk.but hb h1,λi hi=>(h.ar i hi).but hb h2,h.ne,h.le,h.eK⟩
theorem Dr.later {gb:Nat}{c:Nat->Nat}{t:Nat}(hb:Below w.heap.size w w')(h:Dr w g gb n c t):Dr w' g gb n c t:=h.but (S:=λ_=>False) (ae.of hb) (λh=>h) (λh=>h)
theorem Dr.alloc {gb:Nat}{c:Nat->Nat}{t:Nat}(h:Dr w g gb n c t)(o:Obj):Dr (w.alloc o) g gb n c t:=h.later (ab _ _)
theorem Dr.lt {gb:Nat}{c:Nat->Nat}{t:Nat}(h:Dr w g gb n c t):g<w.heap.size:=World.block_lt_of_cell? _ _ h.all
theorem Dr.put {w:World}{g gb n:Nat}{c:Nat->Nat}{t:Nat}(h:Dr w g gb n c t){t':Nat}(ht:t'<=n):Dr (w.setCell ⟨g,1,none⟩ (.int .i64 (t':Int))) g gb n c t' :=
 ⟨aQ h.all (by omega),h.tk.put,λi hi=>by
  obtain⟨h1,h2⟩:=h.ar i hi
  have hne:=h.ne
  exact⟨by rw [World.cell?_setCell_other _ _ _ _ (vt (.inl hne))];exact h1,by rw [World.cell?_setCell_other _ _ _ _ (vt (.inl hne))];exact h2⟩,h.ne,ht,h.eK⟩
theorem bE (a:Option Addr)(n cap:Nat)(f:Nat->Nat)(width:Int)(w:World)(h:Ws w a n cap f)(h1:1<=width)(h2:width<=128)(hn:n<=4096) :
  Calls prog 28 #[.slice a n cap,.int .i64 width] w λe w'=>∃g gb,e=.returned (.tuple #[.pointer (some ⟨g,0,none⟩),.int .i64 0])/\Dr w' g gb n (λj=>cn (f j) width) 0/\w.heap.size<=g/\w.heap.size<=gb/\gb<w'.heap.size/\Below w.heap.size w w':=by
 go_enter func28,ntmps28
 go_wp2_with (first|(go_at_call 48;refine (ze _ _ _ f _ _ h hn).mono ?_;rintro e w1 ⟨rfl,hA,hb⟩))
 have hlt:=hA.lt
 refine bodyPost_ret (v:=.tuple #[.pointer (some ⟨w1.heap.size,0,none⟩),.int .i64 0]) (by simp [results,results28,go_sem]) rfl ⟨_,w.heap.size,rfl,?_,hb.size,Nat.le_refl _,by simp;omega,hb.alloc hb.size _⟩
 exact⟨by simp [go_sem],⟨by simp [go_sem],by simp [go_sem]⟩,λi hi=>(hA.at_ i hi).later (ab _ _),by omega,Nat.zero_le _,hn⟩
end Go.Proofs.YtfmhdimaijimlaaGreatDoor.D
namespace Go.Proofs.YtfmhdimaijimlaaGreatDoor.D
open Go.Proofs.YtfmhdimaijimlaaGreatDoor.H (ak)
open Go.RowKit
theorem _root_.Go.Proofs.YtfmhdimaijimlaaGreatDoor.ae.own {a w:World}{g:Nat}(h:ae (·=g) a w)(o:Nat)(u:Value):ae (·=g) a (w.setCell ⟨g,o,none⟩ u):=h.setCell (p:=⟨g,o,none⟩) (show g=g from rfl) u
theorem Dr.drewN {gb:Nat}{c:Nat->Nat}{t:Nat}(h:Dr w g gb n c t)(k:Nat):Dr (w.drewN k) g gb n c t:=h.later (below_drewN (Below.refl _ _) _)
theorem Dr.fresh {w:World}{g gb n:Nat}{c:Nat->Nat}{t:Nat}(h:Dr w g gb n c t){b:Nat}(h1:g≠b)(h2:gb≠b)(o:Nat)(u:Value):Dr (w.setCell ⟨b,o,none⟩ u) g gb n c t :=
 h.but (S:=(·=b)) ((ae.refl (·=b) _).own _ _) h1 h2
theorem xX (g gb n:Nat)(c:Nat->Nat)(t:Nat)(w:World)(h:Dr w g gb n c t) :
  Calls prog 40 #[.pointer (some ⟨g,0,none⟩)] w λe w'=>e=.returned (.int .i64 (t:Int))/\w'=w:=by
 have x:=h.tk.1
 go_enter func40,ntmps40
 go_wp2
 go_ret
 exact⟨rfl,rfl⟩
theorem nE (g gb n:Nat)(c:Nat->Nat)(t:Nat)(w:World)(h:Dr w g gb n c t)(ht:t<n) :
  Calls prog 192 #[.pointer (some ⟨g,0,none⟩)] w λe w'=>e=.returned (.tuple #[.agg #[.int .u64 (cR (c t)),.int .u64 (cT (c t))],.int .i64 0])/\Dr w' g gb n c (t+1)/\ae (·=g) w w':=by
 have x:=(h.alloc (.cells #[.int .u64 0,.int .u64 0] 31)).tk.1
 have x2:=(h.alloc (.cells #[.int .u64 0,.int .u64 0] 31)).tk.2
 have y:=(h.alloc (.cells #[.int .u64 0,.int .u64 0] 31)).all
 obtain⟨q0,q1⟩:=(h.alloc (.cells #[.int .u64 0,.int .u64 0] 31)).ar t ht
 have hn:=h.eK
 have hlt:=h.lt
 have hne:=h.ne
 have H:Hid (Dr w g gb n c t):=h
 clear h
 go_enter func192,ntmps192
 go_wp2
 go_quiet (first|(go_at_call 225;refine Calls.quiet_of_same (qR gb n t _ ht hn)))
 go_wp2
 have hgb:gb<w.heap.size:=World.block_lt_of_cell? _ _ ((H.o.ar t ht).1)
 have hD:=((((H.o.alloc (Obj.cells #[Value.int IntKind.u64 0,Value.int IntKind.u64 0] 31)).drewN nq).put (t':=t+1) (by omega)).fresh (b:=w.heap.size) (by omega) (by omega) 0 (.int .u64 (cR (c t)))).fresh (b:=w.heap.size) (by omega) (by omega) 1 (.int .u64 (cT (c t)))
 have hB:ae (·=g) w ((((((w.alloc (Obj.cells #[Value.int IntKind.u64 0,Value.int IntKind.u64 0] 31)).drewN nq).setCell ⟨g,1,none⟩ (.int .i64 ((t+1:Nat):Int))).setCell ⟨w.heap.size,0,none⟩ (.int .u64 (cR (c t)))).setCell ⟨w.heap.size,1,none⟩ (.int .u64 (cT (c t))))) :=
  ((((ae.of (S:=(·=g)) (below_drewN (ab _ _) _)).own _ _).put (p:=⟨w.heap.size,0,none⟩) (Nat.le_refl _) _).put (p:=⟨w.heap.size,1,none⟩) (Nat.le_refl _) _)
 rw [Int.natCast_succ] at hD hB
 refine bodyPost_ret (v:=.tuple #[.agg #[.int .u64 (cR (c t)),.int .u64 (cT (c t))],.int .i64 0]) ?_ rfl ⟨rfl,hD,hB⟩
 simp [results,results192,go_sem]
theorem rq (g gb n:Nat)(c:Nat->Nat)(w:World)(h:Dr w g gb n c n) :
  Calls prog 192 #[.pointer (some ⟨g,0,none⟩)] w λe w'=>e=.returned (.tuple #[.agg #[.int .u64 0,.int .u64 0],.int .i64 11])/\Below w.heap.size w w':=by
 have x:=(h.alloc (.cells #[.int .u64 0,.int .u64 0] 31)).tk.1
 have y:=(h.alloc (.cells #[.int .u64 0,.int .u64 0] 31)).all
 have hn:=h.eK
 clear h
 obtain⟨x0,hx0⟩:∃x0,∀w:World,Calls prog 225 #[.slice (some ⟨gb,0,none⟩) n n,.int .i64 (n:Int)] w λe w'=>e=.returned (.slice x0 0 0)/\w'=w:=sQ gb n hn
 go_enter func192,ntmps192
 go_wp2
 go_quiet (first|(go_at_call 225;refine Calls.quiet_of_same (hx0 _)))
 go_wp2
 exact bodyPost_ret (v:=.tuple #[.agg #[.int .u64 0,.int .u64 0],.int .i64 11]) (by simp [results,results192,go_sem]) rfl ⟨rfl,(((below_drewN (ab _ _) _).setCell (Nat.le_refl _) _).setCell (Nat.le_refl _) _)⟩
def bs (P:Nat->Bool)(c:Nat->Nat)(n:Nat):Nat->Nat->Nat×Int×Nat
 | 0,t=>(0,12,t)
 | k+1,t=>if t<n then (if P (c t)=true then bs P c n k (t+1) else (c t,0,t+1)) else (0,11,t)
theorem nC {P:Nat->Bool}{c:Nat->Nat}{t:Nat}(h:¬t<n):bs P c n (k+1) t=(0,11,t):=by rw [bs,if_neg h]
theorem oa {P:Nat->Bool}{c:Nat->Nat}{t:Nat}(h:t<n)(hp:P (c t)=false):bs P c n (k+1) t=(c t,0,t+1):=by rw [bs,if_pos h,if_neg (by rw [hp];decide)]
theorem nt {P:Nat->Bool}{c:Nat->Nat}{t:Nat}(h:t<n)(hp:P (c t)=true):bs P c n (k+1) t=bs P c n k (t+1):=by rw [bs,if_pos h,if_pos hp]
theorem qD {P:Nat->Bool}{c:Nat->Nat}{n:Nat}:∀{k t:Nat},t<=n->(bs P c n k t).2.2<=n
 | 0,t,h=>h
 | k+1,t,h=>by
  rw [bs]
  split
  ·split
   ·exact qD (by omega)
   ·simpa using by omega
  ·exact h
theorem gJ {P:Nat->Bool}{c:Nat->Nat}{n:Nat}(hc:∀i,i<n->c i<ak*ak):∀{k t:Nat},(bs P c n k t).1<ak*ak
 | 0,t=>by
  rw [bs]
  show 0<ak*ak
  decide
 | k+1,t=>by
  rw [bs]
  split
  ·split
   ·exact gJ hc
   ·exact hc _ (by assumption)
  ·show 0<ak*ak
   decide
end Go.Proofs.YtfmhdimaijimlaaGreatDoor.D
