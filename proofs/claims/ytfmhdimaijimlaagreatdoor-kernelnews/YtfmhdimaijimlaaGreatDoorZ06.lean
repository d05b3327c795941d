import Derived.Test.YtfmhdimaijimlaaGreatDoorZ05
import Derived.Maps.OwnIn
import Derived.Sort.CutIn
set_option linter.all false
set_option maxRecDepth 1000000
set_option maxHeartbeats 8000000
open Go.Proofs.Tryz
variable {w w' w1 w2:Go.World}{n m k i j b g base kn:Nat}{a:Option Go.Addr}
namespace Go.Proofs.YtfmhdimaijimlaaGreatDoor
open Go.RowKit Go.Shelf H
structure Cr (w:World)(k:Nat)(b:Option Addr)(m c:Nat)(M:List Value):Prop where
 len:M.length=m*k
 none_:b=none->m=0/\c=0
 cells:∀x,b=some x->∀j u,M[j]?=some u->w.cell? (x.add j)=some u
 one:∀u∈M,u.oneCell'=true
theorem eY (t e:TypeId)(z:Value)(k au:Nat)(ht:prog.underlying t=some (.slice e))(hinf:(prog.info? e).map (λi=>(i.zero,i.size,i.bytes))=some (some z,k,au))(hzs:z.cells.size=k)(hk:0<k)(hby:0<au)
  {w:World} {base:Nat} {a:Option Addr} {n cap:Nat} {L:List Value} {b:Option Addr} {m c:Nat} {M:List Value} (h:w.ownsRow base e k (.slice a n cap) n L) (r:Cr w k b m c M) (hb:base<=w.heap.size) (hr:(n+m)*au<=140737488355328) :
  ∃a' cap' w',(Builtin.append_ #[t,t] t #[.slice a n cap,.slice b m c]).run prog w=.ok (.slice a' (n+m) cap') w'/\w'.ownsRow base e k (.slice a' (n+m) cap') (n+m) (L++M)/\Gr a a' w w':=by
 obtain⟨i,hi,hz0,hz1,hz2⟩:=info_parts hinf
 have hnm:n+m<=140737488355328:=Nat.le_trans (Nat.le_mul_of_pos_right _ hby) hr
 cases b with
 | none =>
  obtain⟨rfl,rfl⟩:=r.none_ rfl
  have hM:M=[]:=List.eq_nil_of_length_eq_zero (by have:=r.len;omega)
  subst hM
  have hr:=run_append_owned_none (P:=prog) (w:=w) base t t e i k ht hi _ n _ h
  exact⟨a,cap,w,hr,by simpa using h,Gr.refl _ _⟩
 | some x =>
  obtain⟨v',w',hr,h2,h3,_,h5⟩:=run_append_own_at (P:=prog) w base t t e i _ k au ht hi hz0 hz1 hz2 hzs hk _ n _ h x m c M r.len (r.cells x rfl) r.one (by unfold maxLen;omega) hr hb
  obtain⟨a',cap',rfl⟩:∃a' cap',v'=.slice a' (n+m) cap':=by
   rcases h2.2 with ⟨h,h'⟩|⟨g',cap',_,h,_⟩
   ·exact⟨.none,0,by rw [h,h']⟩
   ·exact⟨_,cap',h⟩
  refine⟨a',cap',w',hr,h2,⟨h3.os,h3.tape,h3.output,h3.size,λj hj hn=>h3.block j hj (λe=>hn (aD.of.1 e.symm))⟩,λj hj=>?_⟩
  rcases h5 with h5|h5
  ·rw [aD.of.2 hj] at h5
   exact .inl (aD.of.1 h5.symm)
  ·rw [aD.of.2 hj] at h5
   right
   simp at h5
   omega
theorem Cr.lit (w:World)(e:TypeId)(M:List Value)(h1:∀u∈M,u.oneCell'=true):Cr (w.alloc (Obj.cells M.toArray e)) M.length (some ⟨w.heap.size,0,none⟩) 1 1 M :=
 ⟨by simp,λh=>(by cases h),λx hx j u hu=>by
  cases hx
  rw [nj]
  simp only [World.cell?,World.alloc,Array.getElem?_push_size]
  simpa using hu,h1⟩
def Ow (w:World)(base:Nat)(e:TypeId)(k:Nat)(a:Option Addr)(n cap:Nat)(L:List Value):Prop:=w.ownsRow base e k (.slice a n cap) n L
theorem Ow.but {S:Nat->Prop}{e:TypeId}{cap:Nat}{L:List Value}(h:Ow w base e k a n cap L)(hb:ae S w w')(hn:∀j,aD a j->¬S j):Ow w' base e k a n cap L:=oY hb h (λj hj=>hn j (aD.of.1 hj))
theorem Ow.later {e:TypeId}{cap:Nat}{L:List Value}(h:Ow w base e k a n cap L)(hb:Below w.heap.size w w'):Ow w' base e k a n cap L:=h.but (S:=λ_=>False) (ae.of hb) (λ_ _ h=>h)
theorem Ow.mono {e:TypeId}{cap:Nat}{L:List Value}(h:Ow w base e k a n cap L)(hb:b<=base):Ow w b e k a n cap L:=gw h hb
theorem Ow.bD {e:TypeId}{cap:Nat}{L:List Value}(h:Ow w base e k a n cap L):∀j,aD a j->base<=j/\j<w.heap.size:=λj hj=>aZ h j (aD.of.2 hj)
theorem Ow.nil (w:World)(base:Nat)(e:TypeId)(k:Nat):Ow w base e k none 0 0 []:=⟨by simp,.inl ⟨rfl,rfl⟩⟩
theorem Ow.cells {w:World}{base:Nat}{e:TypeId}{k:Nat}{a:Option Addr}{n cap:Nat}{L:List Value}(h:Ow w base e k a n cap L){j:Nat}(hj:aD a j):∃cs t z,w.heap[j]?=some (.cells cs t z):=by
 rcases h.2 with ⟨h1,_⟩|⟨g,c,cur,hv,hg,hh,r⟩
 ·simp only [Value.slice.injEq] at h1
  obtain⟨x,hx,_⟩:=hj
  rw [h1.1] at hx
  cases hx
 ·simp only [Value.slice.injEq] at hv
  obtain⟨x,hx,rfl⟩:=hj
  rw [hv.1] at hx
  cases hx
  exact⟨_,_,_,hh⟩
theorem Ow.put {w:World}{base:Nat}{e:TypeId}{k:Nat}{a:Option Addr}{n cap:Nat}{L:List Value}(h:Ow w base e k a n cap L){D:Nat}{ds:List Deferred}(hK:w.heap[D]?=some (.deferred (some ds))):Ow (w.putObj D (.deferred none)) base e k a n cap L:=ownsRow_putObj h _ hK rfl
def bZ (B:Nat)(W:World)(k:Nat):Prop:=k=B\/∃a n c,W.cell? ⟨B,0,none⟩=some (.slice a n c)/\aD a k
def B5 (B:Nat)(e:TypeId)(k:Nat)(W:World)(n:Nat)(L:List Value):Prop:=∃a c,aq W ⟨B,0,none⟩ (.slice a n c)/\Ow W (B+1) e k a n c L
theorem B5.grown {B C:Nat}{e:TypeId}{L:List Value}{W W':World}{row:Option Nat}(h:B5 B e k W n L)(hg:W.grownBy W' row)(hr:∀r,row=some r->C<=r/\∃o,W.heap[r]?=some o/\o.isCells=false):B5 B e k W' n L:=by
 obtain⟨a,c,hl,hO⟩:=h
 refine⟨a,c,⟨cell_kept hl.1 hg (λr e=>(hr r e).2),(frozen_kept hl.1 hg (λr e=>(hr r e).2)).trans hl.2⟩,hO.but (bo hg) (λj hj e=>?_)⟩
 obtain⟨_,o,ho,hc⟩:=hr j e
 obtain⟨cs,t,z,hh⟩:=hO.cells hj
 rw [ho] at hh
 cases hh
 cases hc
theorem kd {B:Nat}(hl:w.cell? ⟨B,0,none⟩=some (.slice none 0 0))(W:World)(hW:Below w.heap.size w W)(k:Nat)(hk:bZ B W k):k<w.heap.size:=by
 have hB:=World.block_lt_of_cell? _ _ hl
 rcases hk with rfl|⟨a,n,c,h2,hk⟩
 ·exact hB
 ·rw [cell_later hW hl] at h2
  cases h2
  obtain⟨x,hx,_⟩:=hk
  cases hx
theorem nw {B C:Nat}(hB:B<C)(W:World)(L:Nat)(o o':Obj)(hL:C<=L)(h:W.heap[L]?=some o)(ho:o.isCells=false)(k:Nat)(hk:bZ B (W.putObj L o') k):bZ B W k:=by
 rcases hk with rfl|⟨a,n,c,h2,hk⟩
 ·exact .inl rfl
 ·refine .inr ⟨a,n,c,?_,hk⟩
  have hne:(W.putObj L o').heap[B]?=W.heap[B]?:=World.putObj_heap_other (by omega)
  rw [World.cell?_of_block (w:=W) (w':=W.putObj L o') hne] at h2
  exact h2
theorem uA (t e:TypeId)(z:Value)(k au:Nat)(ht:prog.underlying t=some (.slice e))(hinf:(prog.info? e).map (λi=>(i.zero,i.size,i.bytes))=some (some z,k,au))(hzs:z.cells.size=k)(hk:0<k)(hby:0<au)(hby2:au<=1024)
  {B:Nat} {W:World} {n:Nat} {L:List Value} {a:Option Addr} {c:Nat} (hl:aq W ⟨B,0,none⟩ (.slice a n c)) (hO:Ow W (B+1) e k a n c L) (M:List Value) (hM:M.length=k) (hM1:∀u∈M,u.oneCell'=true) (hn:n<=2048) :
  ∃a' c' w3,(Builtin.append_ #[t,t] t #[.slice a n c,.slice (some ⟨W.heap.size,0,none⟩) 1 1]).run prog (W.alloc (Obj.cells M.toArray e))=.ok (.slice a' (n+1) c') w3 /\
   aq w3 ⟨B,0,none⟩ (.slice a n c)/\∀w4,w4=w3.setCell ⟨B,0,none⟩ (.slice a' (n+1) c')->w4.cell? ⟨B,0,none⟩=some (.slice a' (n+1) c')/\B5 B e k w4 (n+1) (L++M)/\ae (bZ B W) W w4/\(∀j,bZ B w4 j->bZ B W j\/W.heap.size<=j)/\(∀j,bZ B W j->B<=j/\∃cs t z,W.heap[j]?=some (.cells cs t z)):=by
 have hBl:B<W.heap.size:=World.block_lt_of_cell? _ _ hl.1
 have hcr:=Cr.lit W e M hM1
 rw [hM] at hcr
 obtain⟨a',c',w3,hrun,hO3,hG0⟩:=eY t e z k au ht hinf hzs hk hby (hO.later (ab W (Obj.cells M.toArray e))) hcr (by simp;omega) (by
  have:(n+1)*au<=2049*1024:=Nat.mul_le_mul (by omega) hby2
  omega)
 have hG:=hG0.pre (ab W (Obj.cells M.toArray e))
 have hO3:Ow w3 (B+1) e k a' (n+1) c' (L++M):=hO3
 have hl3:aq w3 ⟨B,0,none⟩ (.slice a n c):=hl.but hG.but (λhb=>by have:=(hO.bD B hb).1;omega)
 have hfp:∀j,bZ B W j->j=B\/aD a j:=λj hj=>by
  rcases hj with rfl|⟨a2,n2,c2,h2,hj⟩
  ·exact .inl rfl
  ·rw [hl.1] at h2
   cases h2
   exact .inr hj
 refine⟨a',c',w3,hrun,hl3,?_⟩
 rintro w4 rfl
 have hb4:ae (bZ B W) W (w3.setCell ⟨B,0,none⟩ (.slice a' (n+1) c')) :=
  (hG.but.mono (λj hj=>.inr ⟨a,_,c,hl.1,hj⟩)).setCell (p:=⟨B,0,none⟩) (.inl rfl) _
 have hl4:=hl3.put (u:=.slice a' (n+1) c')
 have hO4:Ow (w3.setCell ⟨B,0,none⟩ (.slice a' (n+1) c')) (B+1) e k a' (n+1) c' (L++M) :=
  hO3.but (S:=(·=B)) ((ae.refl (·=B) _).setCell (p:=⟨B,0,none⟩) (show B=B from rfl) _) (λj hj e=>by have:=(hO3.bD j hj).1;omega)
 refine⟨hl4.1,⟨a',c',hl4,hO4⟩,hb4,λj hj=>?_,λj hj=>?_⟩
 ·rcases hj with rfl|⟨a2,n2,c2,h2,hj⟩
  ·exact .inl (.inl rfl)
  ·rw [hl4.1] at h2
   cases h2
   rcases hG.on j hj with h3|h3
   ·exact .inl (.inr ⟨a,_,c,hl.1,h3⟩)
   ·exact .inr h3
 ·rcases hfp j hj with rfl|h3
  ·refine⟨Nat.le_refl _,?_⟩
   have:=hl.1
   unfold World.cell? at this
   cases ho:W.heap[j]? with
   | none=>rw [ho] at this;cases this
   | some o =>
    rw [ho] at this
    cases o with
    | cells cs t z=>exact⟨cs,t,z,rfl⟩
    | _=>simp at this
  ·exact⟨by have:=(hO.bD j h3).1;omega,hO.cells h3⟩
def dq (x:Cp):List Value:=[.int .i64 x.1,.int .u64 (x.2.1:Int),.int .u64 (x.2.2:Int)]
def az (K:List Cp):List Value:=K.flatMap dq
theorem je (x:Cp):∀v∈dq x,v.oneCell'=true:=by
 intro v hv
 simp only [dq,List.mem_cons,List.not_mem_nil,or_false] at hv
 rcases hv with rfl|rfl|rfl<;>rfl
theorem oB (K:List Cp)(x:Cp):az (K++[x])=az K++dq x:=by simp [az]
theorem j5:(prog.info? 38).map (λi=>(i.zero,i.size,i.bytes))=some (some (.agg #[.int .i64 0,.int .u64 0,.int .u64 0]),3,24):=by kernel_rfl
abbrev Tok:=Cp×Int×Int
def fe (x:Tok):List Value:=[.int .i64 x.1.1,.int .u64 (x.1.2.1:Int),.int .u64 (x.1.2.2:Int),.int .i64 x.2.1,.int .i64 x.2.2]
def eF (K:List Tok):List Value:=K.flatMap fe
theorem BB (x:Tok):∀v∈fe x,v.oneCell'=true:=by
 intro v hv
 simp only [fe,List.mem_cons,List.not_mem_nil,or_false] at hv
 rcases hv with rfl|rfl|rfl|rfl|rfl<;>rfl
theorem jO (K:List Tok)(x:Tok):eF (K++[x])=eF K++fe x:=by simp [eF]
theorem zu:(prog.info? 61).map (λi=>(i.zero,i.size,i.bytes))=some (some (.agg #[.int .i64 0,.int .u64 0,.int .u64 0,.int .i64 0,.int .i64 0]),5,40):=by kernel_rfl
def tW (X:List Tk):List Int->List Cp
 | []=>[]
 | a::A=>(tk X a).1::tW (X.set a.toNat tz) A
def runT (T:List (Cp×Int))(X:List Tk):List Int->List (Cp×Int)
 | []=>T
 | a::A=>runT (eX T (tk X a).1) (X.set a.toNat tz) A
theorem j4:∀(A:List Int) (X:List Tk) (a:Int),tW X (A++[a])=tW X A++[(tk (fJ X A) a).1]
 | [],X,a=>rfl
 | b::A,X,a=>by show (tk X b).1::tW _ (A++[a])=_;rw [j4];rfl
theorem jG:∀(A:List Int) (T:List (Cp×Int)) (X:List Tk) (a:Int),runT T X (A++[a])=eX (runT T X A) (tk (fJ X A) a).1
 | [],T,X,a=>rfl
 | b::A,T,X,a=>by show runT _ _ (A++[a])=_;rw [jG];rfl
theorem Bv:∀(A:List Int) (X:List Tk) (a:Int),0<=a->(∀x∈A,0<=x)->tk (fJ X A) a=tk X a\/tk (fJ X A) a=tz
 | [],X,a,_,_=>.inl rfl
 | b::A,X,a,h0,hA=>by
  unfold fJ
  have hb:=hA b (List.mem_cons_self ..)
  rcases Bv A (X.set b.toNat tz) a h0 (λx hx=>hA x (List.mem_cons_of_mem _ hx)) with h|h
  ·by_cases e:a=b
   ·rw [h]
    by_cases hl:b.toNat<X.length
    ·right
     have:(b.toNat:Int)=b:=by omega
     have h2:=eJ (X:=X) tz hl
     rw [this] at h2
     rw [e];exact h2
    ·left
     rw [List.set_eq_of_length_le (by omega)]
   ·left
    rw [h]
    exact bX tz h0 (by omega)
  ·exact .inr h
theorem ju {P:List Int->Prop}(h0:P [])(h1:∀A a,P A->P (A++[a])):∀A,P A:=λA=>by
 have:∀B:List Int,P B.reverse:=λB=>by
  induction B with
  | nil=>exact h0
  | cons b B ih=>rw [List.reverse_cons];exact h1 _ _ ih
 have h:=this A.reverse
 rwa [List.reverse_reverse] at h
theorem EA {X:List Tk}:∀(A:List Int),(∀a∈A,0<=a)->A.Nodup->tW X A=A.map (λk=>(tk X k).1) :=
 ju (P:=λA=>(∀a∈A,0<=a)->A.Nodup->tW X A=A.map (λk=>(tk X k).1)) (λ_ _=>rfl) (λA a ih h0 hn=>by
  rw [List.nodup_append] at hn
  rw [j4,ih (λx hx=>h0 x (List.mem_append_left _ hx)) hn.1,jI A X a (h0 a (by simp)) (λx hx=>h0 x (List.mem_append_left _ hx)) (λhm=>hn.2.2 a hm a (by simp) rfl)]
  simp)
theorem runT_eq {X:List Tk}{l:Fo}(h:Inv m X l):∀(A:List Int),(∀a∈A,a∈ah l)->A.Nodup->runT (bU X l) X A=bU X (aT l A) :=
 ju (P:=λA=>(∀a∈A,a∈ah l)->A.Nodup->runT (bU X l) X A=bU X (aT l A)) (λ_ _=>by rw [ru];rfl) (λA a ih h0 hn=>by
  rw [List.nodup_append] at hn
  have hA:∀x∈A,x∈ah l:=λx hx=>h0 x (List.mem_append_left _ hx)
  have ha:=h0 a (by simp)
  rw [jG,ih hA hn.1,jI A X a (bj h.ok ha) (λx hx=>bj h.ok (hA x hx)) (λhm=>hn.2.2 a hm a (by simp) rfl),<-ou]
  unfold eX bU cut
  rw [List.filter_map]
  congr 1
  refine List.filter_congr (λx hx=>?_)
  have hxl:=(iT.1 hx).1
  simp only [Function.comp]
  by_cases e:x.1=a
  ·rw [dF (by simp [e]),dF (by simp [e])]
  ·have h1:(tk X x.1).1≠(tk X a).1:=λhc=>e (h.one _ (cE.2 ⟨x.2,hxl⟩) _ ha hc)
   have h2:x.1≠a:=e
   rw [dT h1,dT h2])
theorem tI {l:Fo}{A B:List Int}(h:∀x,x∈A↔x∈B):aT l A=aT l B:=by
 unfold aT
 refine List.filter_congr (λx _=>?_)
 by_cases e:x.1∈A
 ·rw [dF (λhn=>hn e),dF (λhn=>hn ((h _).1 e))]
 ·have h1:x.1∉B:=λhn=>e ((h _).2 hn)
  rw [dT e,dT h1]
theorem jA {A:Ad}{mo:Nat}{T:List (Cp×Int)}{X:List Tk}{l:Fo}(h:Cm w A kn mo T X l)(n:Int) :
  Calls prog 233 #[.pointer (some ⟨A.g,2,none⟩),.int .i64 n] w λe w'=>e=.returned (.tuple #[])/\Cm w' A kn mo T X (aT l (G true l n))/\ae (·=A.kb) w w':=by
 have hok:=aa h.nB.ok
 have mX:=h.small
 have hfl:(Fl l n).length<=mo:=by rw [Gj hok.out];exact mL hok.out _ _
 have hkb:A.kb<w.heap.size:=h.lt _ (.inr (.inr (.inr (.inr (.inr rfl)))))
 have HC:Hid (aT l (G true l n)=aT l (Fl l n)):=tI (λx=>(um hok.out).symm)
 have hF:=aa (zm h.nB n)
 have x2:=h.c2
 have HH:=aa h
 unfold Hid at HC
 rw [HC]
 clear h HC
 go_enter func233,ntmps233
 go_upto_region 1 with (first|(go_at_call 261;refine hF.out.mono ?_;rintro e w1 ⟨a,k,cap,rfl,hO,hB⟩;have hlk:=hO.len;rw [qt] at hlk;subst hlk;have HO:=aa hO;have HB:=aa hB;clear hO hB))
 go_loopw [13] (λt W=>∃i:Nat,t=.int .i64 (i:Int)/\i<=(Fl l n).length/\Cm W A kn mo T X (aT l ((Fl l n).take i))/\ae (·=A.kb) w1 W) (λt _=>(Fl l n).length - (intOf t).toNat)
 case atStart=>exact⟨0,rfl,Nat.zero_le _,by rw [List.take_zero,ru];exact HH.o.later HB.o,ae.refl _ _⟩
 case round =>
  obtain⟨i,rfl,hi,hM,hbw⟩:=hrel
  by_cases hlt:i<(Fl l n).length
  ·have hOr:=HO.o.but hbw (λj hj e=>by have:=HO.o.bD j hj;omega)
   obtain⟨ga,rfl⟩:=hOr.form (by omega)
   obtain⟨_,e1,hL1⟩:=hOr.oR rfl (ep (Fl l n) i hlt)
   cases e1
   have y1:=hL1.1
   have z2:=hM.c2
   have hst:=vW hok.out (n:=n) (gE hlt)
   have hcut:=kR hM.nB (Fl l n)[i]
   have hcl:Bo (aT l ((Fl l n).take i)) (Fl l n)[i]=aT l ((Fl l n).take (i+1)):=by
    unfold Bo;rw [if_pos ⟨hst.1,hst.2.1⟩];exact hst.2.2
   rw [hcl] at hcut
   have HCUT:=aa hcut
   have HM:=aa hM
   have HBW:=aa hbw
   clear hcut hcl hst hM hbw hOr hL1
   generalize (Fl l n)[i]=x at *
   go_wp2_with (first|(go_at_call 262;refine HCUT.o.mono ?_;rintro e w2 ⟨rfl,hk2,hb2⟩;have HK2:=aa hk2;have HB2:=aa hb2;clear hk2 hb2))
   refine⟨⟨i+1,by go_num,by omega,HM.o.sD HB2.o HK2.o,HBW.o.trans HB2.o⟩,by simp [intOf];omega⟩
  ·obtain rfl:i=(Fl l n).length:=by omega
   rw [List.take_length] at hM
   have HM:=aa hM
   have HBW:=aa hbw
   clear hM hbw
   go_wp2
   go_end0
   exact⟨rfl,HM.o,(ae.of HB.o).trans HBW.o⟩
theorem qN {A:Ad}{mo:Nat}{T:List (Cp×Int)}{X:List Tk}{l:Fo}(h:Cm w A kn mo T X l)(n:Int) :
  Calls prog 121 #[.pointer (some ⟨A.g,2,none⟩),.int .i64 n] w λe w'=>∃b0,e=.returned (.func (.func 249) #[] #[.pointer (some ⟨b0,0,none⟩)])/\Sq w' true w.heap.size b0 A.kg n/\Below w.heap.size w w':=by
 have hc:=aa (Bd true A.kg n w)
 change Hid (Calls prog 175 _ w _) at hc
 have x2:=h.c2
 clear h
 go_enter func121,ntmps121
 go_wp2_with (first|(go_at_call 175;refine hc.out.mono ?_;rintro e w1 ⟨b0,rfl,hs,hb⟩;have HS:=aa hs;have HB:=aa hb;clear hs hb))
 go_ret
 exact⟨b0,rfl,HS.o,HB.o⟩
attribute [local go_sem] Oper.semAt_some
def bJ {l:Fo}{n:Int}(pre:List (Mem l n)):List Int:=pre.map Subtype.val
theorem ia {l:Fo}{n:Int}(pre:List (Mem l n))(x:Mem l n):bJ (pre++[x])=bJ pre++[x.1]:=by simp [bJ]
theorem BO {l:Fo}{n:Int}(pre:List (Mem l n)):(bJ pre).length=pre.length:=by simp [bJ]
theorem zU {l:Fo}{n:Int}{pre:List (Mem l n)}{x:Int}(h:x∈bJ pre):x∈G true l n:=by
 unfold bJ at h
 obtain⟨y,_,rfl⟩:=List.mem_map.1 h
 exact y.2
theorem q8 {l:Fo}{n:Int}:bJ (l:=l) (n:=n) (dP true l n).attach=G true l n:=by
 unfold bJ
 rw [List.attach_map_subtype_val];rfl
structure zt (w:World)(A:Ad)(kn mo:Nat)(X:List Tk)(l:Fo)(B0 B:Nat)(n:Int)(pre:List (Mem l n))(W:World):Prop where
 box:B5 B 38 3 W pre.length (az (tW X (bJ pre)))
 c:aq W ⟨B0,0,none⟩ (.pointer (some ⟨A.g,0,none⟩))
 cm:Cm W A kn mo (runT (bU X l) X (bJ pre)) (fJ X (bJ pre)) l
 but:ae A.Wr w W
def sZ (A:Ad)(B:Nat)(W:World)(k:Nat):Prop:=A.Wr k\/bZ B W k
theorem ti {A:Ad}{mo:Nat}{X:List Tk}{l:Fo}{B0 B:Nat}{n:Int}{C:Nat}(hA:∀k,A.jC k->k<C)(hw:w.heap.size<=C)(h0:B0<C):OwnFrom C (zt w A kn mo X l B0 B n):=λs W W' row hs hg hr =>
 ⟨hs.box.grown hg hr,hs.c.but (bo hg) (λe=>by have:=(hr _ e).1;simp at this;omega),hs.cm.but (bo hg) (λk hk e=>by have:=(hr _ e).1;have:=hA k hk;omega),hs.but.comp (bo hg) (λi e=>.inr (by have:=(hr _ e).1;omega))⟩
theorem DH {F:Fence}{P:Program}{o:Oper}{a:Act}{K:Act->World->Prop}{Q:Exit->Act->World->Prop}(s x:Operand)(t:TypeId)
  (ho:o.op=.call { callee:=.builtin .append,args:=#[s,x],argTypes:=#[t,t] }) (vs vx:Value) (hs:a.eval s=vs) (hx:a.eval x=vx) (v':Value) (w':World)
  (hr:(Builtin.append_ #[t,t] o.type #[vs,vx]).run P w=.ok v' w') (h:K (a.put o.dst v') w'):Oper.wpIn F n P o a w K Q:=by
 unfold Oper.wpIn
 refine⟨by simp [Oper.about,ho,resolve,Target.leads,Sem.run_pure],?_⟩
 rw [Oper.semAt_plain F _ _ (by rw [ho];intro c hc;cases hc)]
 simp [execOp,ho,resolve,invoke,builtin,hs,hx,hr,Result.andThen]
 exact h
theorem o_ {A:Ad}{mo:Nat}{X:List Tk}{l:Fo}(h:ie w A kn mo X l)(n:Int)(hn:n∈ah l) :
  Calls prog 201 #[.pointer (some ⟨A.g,0,none⟩),.int .i64 n] w λe w'=>∃a c,e=.returned (.tuple #[.slice a (G true l n).length c,.int .i64 0])/\Ow w' w.heap.size 38 3 a (G true l n).length c (az ((G true l n).map (λk=>(tk X k).1)))/\ie w' A kn mo (fJ X (G true l n)) (aT l (G true l n))/\ae A.Wr w w':=by
 have mX:=h.cm.small
 have hGl:=mL h.inv.ok true n
 have HH:=aa h
 have hAll:=aa h.lt
 obtain⟨w0,hw0⟩:∃w0,w0=w.alloc (Obj.cells #[.pointer (some ⟨A.g,0,none⟩)] 82):=⟨_,rfl⟩
 have hB0:Below w.heap.size w w0:=by rw [hw0];exact ab _ _
 have hL0:aq w0 ⟨w.heap.size,0,none⟩ (.pointer (some ⟨A.g,0,none⟩)):=by rw [hw0];exact aE _ _ _
 have z0:=hL0.1
 have hlt0:w.heap.size<w0.heap.size:=by rw [hw0];simp
 obtain⟨w2,hw2⟩:∃w2,w2=w0.alloc (Obj.cells #[.slice none 0 0] 57):=⟨_,rfl⟩
 have hB2:Below w0.heap.size w0 w2:=by rw [hw2];exact ab _ _
 have hL2:aq w2 ⟨w0.heap.size,0,none⟩ (.slice none 0 0):=by rw [hw2];exact aE _ _ _
 have z2:=(hL0.later hB2).1
 have hh:=aa (fh (h.cm.later hB0) n)
 rw [dT hn] at hh
 have hmk:=aa (qN (h.cm.later (al hB0 hB2)) n)
 clear h
 refine (callsIn_wide (n:=3)).1 ?_
 refine callsIn_of_wp_marks func201 rfl trivial ?_ rfl
 simp only [ntmps201,List.size_toArray,List.length_cons,List.length_nil,Nat.reduceAdd,Nat.reduceSub,Array.replicate_succ,Array.replicate_zero,List.push_toArray,List.append_toArray,List.nil_append,List.cons_append]
 gi_upto_region 1 with fail
 rw [<-hw0]
 clear hw0
 gi_upto_region 4 with (first|(refine⟨trivial,?_⟩;gi_at_call 173;refine (callsIn_wide.2 hh.out).mono ?_;rintro e w9 ⟨rfl,hw9⟩;obtain rfl:=hw9.symm;clear hw9))
 rw [<-hw2]
 clear hw2
 gi_wp2_with (refine⟨trivial,?_⟩;gi_at_call 121;refine (callsIn_wide.2 hmk.out).mono ?_;rintro e w1 ⟨b0,rfl,hS,hB⟩;have HS:=aa hS;have HB:=aa hB;clear hS hB)
 have l1:w0.heap.size<w1.heap.size:=Nat.lt_of_lt_of_le (World.block_lt_of_cell? _ _ hL2.1) HB.o.size
 have hBw1:=al (al hB0 hB2) HB.o
 have hM1:=HH.o.cm.later hBw1
 have hL01:=(hL0.later hB2).later HB.o
 have hL21:=hL2.later HB.o
 have hwr:Hid (∀k,A.Wr k->k<w.heap.size):=λk hk=>hAll.out k (.inr (.inr hk))
 have hmx:prog.follows .mixedOrders=true:=by kernel_rfl
 have hrng:Hid (∀x∈G true l n,x∈ah l/\0<=x/\x<(mo:Int)):=λx hx=>by
  have h1:=dK HH.o.inv.ok hx
  have:=HH.o.inv.ok.range x h1
  exact⟨h1,this.1,this.2⟩
 refine ot 7 (by omega) rfl HS.o hM1.nB (sZ A w0.heap.size) (λW hW k hk=>?_) (λW L o o' hL hLo ho k hk=>hk.imp id (λhk=>nw l1 W L o o' hL hLo ho k hk))
  (zt w A kn mo X l w.heap.size w0.heap.size n) (ti (λk hk=>by have:=hAll.out k hk;have:=hBw1.size;omega) hBw1.size (by omega)) ⟨⟨none,0,hL21,Ow.nil _ _ _ _⟩,hL01,hM1,ae.of hBw1⟩ ?assign ?body ?done
 ·rcases hk with hk|hk
  ·have:=hwr.out k hk;have:=hBw1.size;omega
  ·exact kd hL21.1 W hW k hk
 case assign =>
  intro L x W K hK
  gi_wp2
  exact hK
 case body =>
  rintro L pre x W hI hlt
  simp only [yM,List.setIfInBounds_toArray,List.set]
  obtain⟨x,hx⟩:=x
  obtain⟨hxl,hx0,hxm⟩:=hrng.out x hx
  obtain⟨k,rfl⟩:∃k:Nat,x=(k:Int):=⟨x.toNat,by omega⟩
  have hkm:k<mo:=by omega
  obtain⟨a,c,hl,hO⟩:=hI.box
  have hpl:pre.length<=2048:=by unfold dP at hlt;omega
  have hwide:(tk (fJ X (bJ pre)) (k:Int)).1.2.1<ak/\(tk (fJ X (bJ pre)) (k:Int)).1.2.2<ak:=by
   rcases Bv (bJ pre) X (k:Int) hx0 (λy hy=>(hrng.out y (zU hy)).2.1) with e|e
   ·rw [e];exact HH.o.inv.wide _ hxl
   ·rw [e];decide
  have hfg:=aa (sL (hI.cm.later (Below.refl _ _).drew) k hkm hwide)
  have HPO:Hid (∀W2,Cm W2 A kn mo (eX (runT (bU X l) X (bJ pre)) (tk (fJ X (bJ pre)) (k:Int)).1) ((fJ X (bJ pre)).set k tz) l->ae A.Wr W.drew W2 ->
    ∃a' c' w3,(Builtin.append_ #[57,57] 57 #[.slice a pre.length c,.slice (some ⟨W2.heap.size,0,none⟩) 1 1]).run prog (W2.alloc (Obj.cells #[.int .i64 (tk (fJ X (bJ pre)) (k:Int)).1.1,.int .u64 ((tk (fJ X (bJ pre)) (k:Int)).1.2.1:Int),.int .u64 ((tk (fJ X (bJ pre)) (k:Int)).1.2.2:Int)] 38))=.ok (.slice a' (pre.length+1) c') w3/\aq W2 ⟨w0.heap.size,0,none⟩ (.slice a pre.length c)/\aq w3 ⟨w0.heap.size,0,none⟩ (.slice a pre.length c) /\
     (KeepsFrom w1.heap.size W (w3.setCell ⟨w0.heap.size,0,none⟩ (.slice a' (pre.length+1) c'))/\Kq (sZ A w0.heap.size) W (w3.setCell ⟨w0.heap.size,0,none⟩ (.slice a' (pre.length+1) c'))/\zt w A kn mo X l w.heap.size w0.heap.size n (pre++[⟨(k:Int),hx⟩]) (w3.setCell ⟨w0.heap.size,0,none⟩ (.slice a' (pre.length+1) c')))):=by
   intro W2 hM2 hB2
   have hBW:ae A.Wr W W2:=(ae.of (Below.refl _ _).drew).trans hB2
   have hl2:=hl.but hBW (λe=>by have:=hwr.out _ e;simp at this;omega)
   have hO2:=hO.but hBW (λj hj e=>by have:=hwr.out _ e;have:=(hO.bD j hj).1;omega)
   obtain⟨a',c',w3,hrun,hl3,hr⟩:=uA 57 38 _ 3 24 underlying57 j5 rfl (by omega) (by omega) (by omega) hl2 hO2 (dq (tk (fJ X (bJ pre)) (k:Int)).1) rfl (je _) hpl
   obtain⟨hc4,hbx4,hb4,hf4,hg4⟩:=hr _ rfl
   have hfpW:∀j,bZ w0.heap.size W2 j->bZ w0.heap.size W j:=λj hj=>by
    rcases hj with rfl|⟨a2,n2,c2,h2,hj⟩
    ·exact .inl rfl
    ·rw [hl2.1] at h2
     cases h2
     exact .inr ⟨a,_,c,hl.1,hj⟩
   have hbw4:ae (sZ A w0.heap.size W) W (w3.setCell ⟨w0.heap.size,0,none⟩ (.slice a' (pre.length+1) c')) :=
    (hBW.mono (λj hj=>.inl hj)).trans (hb4.mono (λj hj=>.inr (hfpW j hj)))
   refine⟨a',c',w3,hrun,hl2,hl3,oh hbw4 (λj o hj ho hge hs=>?_),zn hbw4 (λj hj=>hj) (λj hj=>?_),⟨?_,?_,?_,?_⟩⟩
   ·rcases hs with hs|hs
    ·have:=hwr.out j hs;have:=hBw1.size;omega
    ·have:∃cs t z,W.heap[j]?=some (.cells cs t z):=by
      rcases hs with rfl|⟨a2,n2,c2,h2,hj2⟩
      ·have h3:=hl.1
       unfold World.cell? at h3
       rw [hj] at h3
       cases o with
       | cells cs t z=>exact⟨cs,t,z,hj⟩
       | _=>simp at h3
      ·rw [hl.1] at h2
       cases h2
       exact hO.cells hj2
     obtain⟨cs,t,z,hh⟩:=this
     rw [hj] at hh
     cases hh
     cases ho
   ·rcases hj with hj|hj
    ·exact .inl (.inl hj)
    ·rcases hf4 j hj with h5|h5
     ·exact .inl (.inr (hfpW j h5))
     ·exact .inr (Nat.le_trans hBW.size h5)
   ·rw [ia,j4,oB,List.length_append]
    exact hbx4
   ·exact (hI.c.but hBW (λe=>by have:=hwr.out _ e;simp at this)).but hb4 (λe=>by have:=(hg4 _ e).1;simp at this;omega)
   ·have e1:((⟨(k:Int),hx⟩:Mem l n)).1.toNat=k:=by simp
    rw [ia,jG,qj,e1]
    exact hM2.but hb4 (λj hj e=>by have:=(hg4 _ e).1;have:=hAll.out j hj;omega)
   ·exact (hI.but.trans hBW).comp hb4 (λj e=>.inr (by have:=(hg4 _ e).1;omega))
  have y6:=hl.1
  have y2:=hI.c.1
  generalize tk (fJ X (bJ pre)) (k:Int)=tt at *
  obtain⟨⟨o,hi,lo⟩,r⟩:=tt
  clear hI hl hO hwide hxl
  gi_wp2
  refine wpIn_region_any hmx ?_
  change wpAnyIn _ _ _ _ _ _ _ _ _ (World.drew _)
  refine yI [0,1,4] ?_
  refine AllReadyIn.cons rfl (λK hK=>?z1_0) (AllReadyIn.cons rfl (λK hK=>?z1_1) (AllReadyIn.cons rfl (λK hK=>?z1_2) AllReadyIn.nil))
  case' z1_0 =>
   go_simp
   refine hK _ _ ?_
   clear hK K
   refine yI [1,4] ?_
   refine AllReadyIn.cons rfl (λK hK=>?z2_0) (AllReadyIn.cons rfl (λK hK=>?z2_1) AllReadyIn.nil)
   case' z2_0 =>
    go_simp
    refine hK _ _ ?_
    clear hK K
    refine yI [2,4] ?_
    refine AllReadyIn.cons rfl (λK hK=>?z3_0) (AllReadyIn.cons rfl (λK hK=>?z3_1) AllReadyIn.nil)
    case' z3_0 =>
     go_simp
     refine hK _ _ ?_
     clear hK K
     refine yI [3,4] ?_
     refine AllReadyIn.cons rfl (λK hK=>?z4_0) (AllReadyIn.cons rfl (λK hK=>?z4_1) AllReadyIn.nil)
     case' z4_0 =>
      go_simp
      refine hK _ _ ?_
      clear hK K
      refine yI [4] ?_
      refine cI rfl λK hK=>?_
      go_simp
      refine hK _ _ ?_
      clear hK K
      refine yI [5] ?_
      refine cI rfl λK hK=>?_
      go_simp
     case' z4_1 =>
      go_simp
      refine hK _ _ ?_
      clear hK K
      refine yI [3] ?_
      refine cI rfl λK hK=>?_
      go_simp
      refine hK _ _ ?_
      clear hK K
      refine yI [5] ?_
      refine cI rfl λK hK=>?_
      go_simp
    case' z3_1 =>
     go_simp
     refine hK _ _ ?_
     clear hK K
     refine yI [2] ?_
     refine cI rfl λK hK=>?_
     go_simp
     refine hK _ _ ?_
     clear hK K
     refine yI [3] ?_
     refine cI rfl λK hK=>?_
     go_simp
     refine hK _ _ ?_
     clear hK K
     refine yI [5] ?_
     refine cI rfl λK hK=>?_
     go_simp
   case' z2_1 =>
    go_simp
    refine hK _ _ ?_
    clear hK K
    refine yI [1] ?_
    refine cI rfl λK hK=>?_
    go_simp
    refine hK _ _ ?_
    clear hK K
    refine yI [2] ?_
    refine cI rfl λK hK=>?_
    go_simp
    refine hK _ _ ?_
    clear hK K
    refine yI [3] ?_
    refine cI rfl λK hK=>?_
    go_simp
    refine hK _ _ ?_
    clear hK K
    refine yI [5] ?_
    refine cI rfl λK hK=>?_
    go_simp
  case' z1_1 =>
   go_simp
   refine hK _ _ ?_
   clear hK K
   refine yI [0,2,4] ?_
   refine AllReadyIn.cons rfl (λK hK=>?z5_0) (AllReadyIn.cons rfl (λK hK=>?z5_1) (AllReadyIn.cons rfl (λK hK=>?z5_2) AllReadyIn.nil))
   case' z5_0 =>
    go_simp
    refine hK _ _ ?_
    clear hK K
    refine yI [2,4] ?_
    refine AllReadyIn.cons rfl (λK hK=>?z6_0) (AllReadyIn.cons rfl (λK hK=>?z6_1) AllReadyIn.nil)
    case' z6_0 =>
     go_simp
     refine hK _ _ ?_
     clear hK K
     refine yI [3,4] ?_
     refine AllReadyIn.cons rfl (λK hK=>?z7_0) (AllReadyIn.cons rfl (λK hK=>?z7_1) AllReadyIn.nil)
     case' z7_0 =>
      go_simp
      refine hK _ _ ?_
      clear hK K
      refine yI [4] ?_
      refine cI rfl λK hK=>?_
      go_simp
      refine hK _ _ ?_
      clear hK K
      refine yI [5] ?_
      refine cI rfl λK hK=>?_
      go_simp
     case' z7_1 =>
      go_simp
      refine hK _ _ ?_
      clear hK K
      refine yI [3] ?_
      refine cI rfl λK hK=>?_
      go_simp
      refine hK _ _ ?_
      clear hK K
      refine yI [5] ?_
      refine cI rfl λK hK=>?_
      go_simp
    case' z6_1 =>
     go_simp
     refine hK _ _ ?_
     clear hK K
     refine yI [2] ?_
     refine cI rfl λK hK=>?_
     go_simp
     refine hK _ _ ?_
     clear hK K
     refine yI [3] ?_
     refine cI rfl λK hK=>?_
     go_simp
     refine hK _ _ ?_
     clear hK K
     refine yI [5] ?_
     refine cI rfl λK hK=>?_
     go_simp
   case' z5_1 =>
    go_simp
    refine hK _ _ ?_
    clear hK K
    refine yI [0,3,4] ?_
    refine AllReadyIn.cons rfl (λK hK=>?z8_0) (AllReadyIn.cons rfl (λK hK=>?z8_1) (AllReadyIn.cons rfl (λK hK=>?z8_2) AllReadyIn.nil))
    case' z8_0 =>
     go_simp
     refine hK _ _ ?_
     clear hK K
     refine yI [3,4] ?_
     refine AllReadyIn.cons rfl (λK hK=>?z9_0) (AllReadyIn.cons rfl (λK hK=>?z9_1) AllReadyIn.nil)
     case' z9_0 =>
      go_simp
      refine hK _ _ ?_
      clear hK K
      refine yI [4] ?_
      refine cI rfl λK hK=>?_
      go_simp
      refine hK _ _ ?_
      clear hK K
      refine yI [5] ?_
      refine cI rfl λK hK=>?_
      go_simp
     case' z9_1 =>
      go_simp
      refine hK _ _ ?_
      clear hK K
      refine yI [3] ?_
      refine cI rfl λK hK=>?_
      go_simp
      refine hK _ _ ?_
      clear hK K
      refine yI [5] ?_
      refine cI rfl λK hK=>?_
      go_simp
    case' z8_1 =>
     go_simp
     refine hK _ _ ?_
     clear hK K
     refine yI [0,4] ?_
     refine AllReadyIn.cons rfl (λK hK=>?z10_0) (AllReadyIn.cons rfl (λK hK=>?z10_1) AllReadyIn.nil)
     case' z10_0 =>
      go_simp
      refine hK _ _ ?_
      clear hK K
      refine yI [4] ?_
      refine cI rfl λK hK=>?_
      go_simp
      refine hK _ _ ?_
      clear hK K
      refine yI [5] ?_
      refine cI rfl λK hK=>?_
      go_simp
     case' z10_1 =>
      go_simp
      refine hK _ _ ?_
      clear hK K
      refine yI [0,5] ?_
      refine AllReadyIn.cons rfl (λK hK=>?z11_0) (AllReadyIn.cons rfl (λK hK=>?z11_1) AllReadyIn.nil)
      case' z11_0 =>
       go_simp
       refine hK _ _ ?_
       clear hK K
       refine yI [5] ?_
       refine cI rfl λK hK=>?_
       go_simp
      case' z11_1 =>
       go_simp
       gi_wp2_with (refine⟨trivial,?_⟩;gi_at_call 232;refine (CallsIn.inRound L (callsIn_wide.2 hfg.out)).mono ?_;rintro e w5 ⟨rfl,hM5,hB5⟩;obtain⟨a',c',w3,hrun,hq2,hq3,hq⟩:=HPO.o w5 hM5 hB5;have HRUN:=aa hrun;have HQ:=aa hq;have yq:=hq2.1;have yqa:=(hq2.alloc (Obj.cells #[.int .i64 o,.int .u64 (hi:Int),.int .u64 (lo:Int)] 38)).1;have yq3:=hq3.1;have zq3:=hq3.2;clear hM5 hB5 hrun hq hq2 hq3)
       refine yI [0,6] ?_
       refine AllReadyIn.cons rfl (λK hK=>?z12_0) (AllReadyIn.cons rfl (λK hK=>?z12_1) AllReadyIn.nil)
       case' z12_0 =>
        go_simp
        refine hK _ _ ?_
        clear hK K
        refine yI [6] ?_
        refine cI rfl λK hK=>?_
        go_simp
        refine hK _ _ ?_
        clear hK K
        refine yI [7] ?_
        refine cI rfl λK hK=>?_
        rw [if_pos (by kernel_rfl)]
        refine DH _ _ 57 rfl _ _ rfl rfl _ w3 HRUN.o ?_
        refine hK _ _ ?_
        clear hK K
        simp only [Act.put,List.setIfInBounds_toArray]
        refine yI [8] ?_
        refine cI rfl λK hK=>?_
        go_simp
        refine hK _ _ ?_
        clear hK K
        refine wpAnyIn_done (by kernel_rfl) ?_ _
        exact HQ.o
       case' z12_1 =>
        go_simp
        refine hK _ _ ?_
        clear hK K
        refine yI [0] ?_
        refine cI rfl λK hK=>?_
        go_simp
        refine hK _ _ ?_
        clear hK K
        refine yI [7] ?_
        refine cI rfl λK hK=>?_
        rw [if_pos (by kernel_rfl)]
        refine DH _ _ 57 rfl _ _ rfl rfl _ w3 HRUN.o ?_
        refine hK _ _ ?_
        clear hK K
        simp only [Act.put,List.setIfInBounds_toArray]
        refine yI [8] ?_
        refine cI rfl λK hK=>?_
        go_simp
        refine hK _ _ ?_
        clear hK K
        refine wpAnyIn_done (by kernel_rfl) ?_ _
        exact HQ.o
    case' z8_2 =>
     go_simp
     refine hK _ _ ?_
     clear hK K
     refine yI [0,3] ?_
     refine AllReadyIn.cons rfl (λK hK=>?z13_0) (AllReadyIn.cons rfl (λK hK=>?z13_1) AllReadyIn.nil)
     case' z13_0 =>
      go_simp
      refine hK _ _ ?_
      clear hK K
      refine yI [3] ?_
      refine cI rfl λK hK=>?_
      go_simp
      refine hK _ _ ?_
      clear hK K
      refine yI [5] ?_
      refine cI rfl λK hK=>?_
      go_simp
     case' z13_1 =>
      go_simp
      refine hK _ _ ?_
      clear hK K
      refine yI [0,5] ?_
      refine AllReadyIn.cons rfl (λK hK=>?z14_0) (AllReadyIn.cons rfl (λK hK=>?z14_1) AllReadyIn.nil)
      case' z14_0 =>
       go_simp
       refine hK _ _ ?_
       clear hK K
       refine yI [5] ?_
       refine cI rfl λK hK=>?_
       go_simp
      case' z14_1 =>
       go_simp
       gi_wp2_with (refine⟨trivial,?_⟩;gi_at_call 232;refine (CallsIn.inRound L (callsIn_wide.2 hfg.out)).mono ?_;rintro e w5 ⟨rfl,hM5,hB5⟩;obtain⟨a',c',w3,hrun,hq2,hq3,hq⟩:=HPO.o w5 hM5 hB5;have HRUN:=aa hrun;have HQ:=aa hq;have yq:=hq2.1;have yqa:=(hq2.alloc (Obj.cells #[.int .i64 o,.int .u64 (hi:Int),.int .u64 (lo:Int)] 38)).1;have yq3:=hq3.1;have zq3:=hq3.2;clear hM5 hB5 hrun hq hq2 hq3)
       refine yI [0,6] ?_
       refine AllReadyIn.cons rfl (λK hK=>?z15_0) (AllReadyIn.cons rfl (λK hK=>?z15_1) AllReadyIn.nil)
       case' z15_0 =>
        go_simp
        refine hK _ _ ?_
        clear hK K
        refine yI [6] ?_
        refine cI rfl λK hK=>?_
        go_simp
        refine hK _ _ ?_
        clear hK K
        refine yI [7] ?_
        refine cI rfl λK hK=>?_
        rw [if_pos (by kernel_rfl)]
        refine DH _ _ 57 rfl _ _ rfl rfl _ w3 HRUN.o ?_
        refine hK _ _ ?_
        clear hK K
        simp only [Act.put,List.setIfInBounds_toArray]
        refine yI [8] ?_
        refine cI rfl λK hK=>?_
        go_simp
        refine hK _ _ ?_
        clear hK K
        refine wpAnyIn_done (by kernel_rfl) ?_ _
        exact HQ.o
       case' z15_1 =>
        go_simp
        refine hK _ _ ?_
        clear hK K
        refine yI [0] ?_
        refine cI rfl λK hK=>?_
        go_simp
        refine hK _ _ ?_
        clear hK K
        refine yI [7] ?_
        refine cI rfl λK hK=>?_
        rw [if_pos (by kernel_rfl)]
        refine DH _ _ 57 rfl _ _ rfl rfl _ w3 HRUN.o ?_
        refine hK _ _ ?_
        clear hK K
        simp only [Act.put,List.setIfInBounds_toArray]
        refine yI [8] ?_
        refine cI rfl λK hK=>?_
        go_simp
        refine hK _ _ ?_
        clear hK K
        refine wpAnyIn_done (by kernel_rfl) ?_ _
        exact HQ.o
   case' z5_2 =>
    go_simp
    refine hK _ _ ?_
    clear hK K
    refine yI [0,2] ?_
    refine AllReadyIn.cons rfl (λK hK=>?z16_0) (AllReadyIn.cons rfl (λK hK=>?z16_1) AllReadyIn.nil)
    case' z16_0 =>
     go_simp
     refine hK _ _ ?_
     clear hK K
     refine yI [2] ?_
     refine cI rfl λK hK=>?_
     go_simp
     refine hK _ _ ?_
     clear hK K
     refine yI [3] ?_
     refine cI rfl λK hK=>?_
     go_simp
     refine hK _ _ ?_
     clear hK K
     refine yI [5] ?_
     refine cI rfl λK hK=>?_
     go_simp
    case' z16_1 =>
     go_simp
     refine hK _ _ ?_
     clear hK K
     refine yI [0,3] ?_
     refine AllReadyIn.cons rfl (λK hK=>?z17_0) (AllReadyIn.cons rfl (λK hK=>?z17_1) AllReadyIn.nil)
     case' z17_0 =>
      go_simp
      refine hK _ _ ?_
      clear hK K
      refine yI [3] ?_
      refine cI rfl λK hK=>?_
      go_simp
      refine hK _ _ ?_
      clear hK K
      refine yI [5] ?_
      refine cI rfl λK hK=>?_
      go_simp
     case' z17_1 =>
      go_simp
      refine hK _ _ ?_
      clear hK K
      refine yI [0,5] ?_
      refine AllReadyIn.cons rfl (λK hK=>?z18_0) (AllReadyIn.cons rfl (λK hK=>?z18_1) AllReadyIn.nil)
      case' z18_0 =>
       go_simp
       refine hK _ _ ?_
       clear hK K
       refine yI [5] ?_
       refine cI rfl λK hK=>?_
       go_simp
      case' z18_1 =>
       go_simp
       gi_wp2_with (refine⟨trivial,?_⟩;gi_at_call 232;refine (CallsIn.inRound L (callsIn_wide.2 hfg.out)).mono ?_;rintro e w5 ⟨rfl,hM5,hB5⟩;obtain⟨a',c',w3,hrun,hq2,hq3,hq⟩:=HPO.o w5 hM5 hB5;have HRUN:=aa hrun;have HQ:=aa hq;have yq:=hq2.1;have yqa:=(hq2.alloc (Obj.cells #[.int .i64 o,.int .u64 (hi:Int),.int .u64 (lo:Int)] 38)).1;have yq3:=hq3.1;have zq3:=hq3.2;clear hM5 hB5 hrun hq hq2 hq3)
       refine yI [0,6] ?_
       refine AllReadyIn.cons rfl (λK hK=>?z19_0) (AllReadyIn.cons rfl (λK hK=>?z19_1) AllReadyIn.nil)
       case' z19_0 =>
        go_simp
        refine hK _ _ ?_
        clear hK K
        refine yI [6] ?_
        refine cI rfl λK hK=>?_
        go_simp
        refine hK _ _ ?_
        clear hK K
        refine yI [7] ?_
        refine cI rfl λK hK=>?_
        rw [if_pos (by kernel_rfl)]
        refine DH _ _ 57 rfl _ _ rfl rfl _ w3 HRUN.o ?_
        refine hK _ _ ?_
        clear hK K
        simp only [Act.put,List.setIfInBounds_toArray]
        refine yI [8] ?_
        refine cI rfl λK hK=>?_
        go_simp
        refine hK _ _ ?_
        clear hK K
        refine wpAnyIn_done (by kernel_rfl) ?_ _
        exact HQ.o
       case' z19_1 =>
        go_simp
        refine hK _ _ ?_
        clear hK K
        refine yI [0] ?_
        refine cI rfl λK hK=>?_
        go_simp
        refine hK _ _ ?_
        clear hK K
        refine yI [7] ?_
        refine cI rfl λK hK=>?_
        rw [if_pos (by kernel_rfl)]
        refine DH _ _ 57 rfl _ _ rfl rfl _ w3 HRUN.o ?_
        refine hK _ _ ?_
        clear hK K
        simp only [Act.put,List.setIfInBounds_toArray]
        refine yI [8] ?_
        refine cI rfl λK hK=>?_
        go_simp
        refine hK _ _ ?_
        clear hK K
        refine wpAnyIn_done (by kernel_rfl) ?_ _
        exact HQ.o
  case' z1_2 =>
   go_simp
   refine hK _ _ ?_
   clear hK K
   refine yI [0,1] ?_
   refine AllReadyIn.cons rfl (λK hK=>?z20_0) (AllReadyIn.cons rfl (λK hK=>?z20_1) AllReadyIn.nil)
   case' z20_0 =>
    go_simp
    refine hK _ _ ?_
    clear hK K
    refine yI [1] ?_
    refine cI rfl λK hK=>?_
    go_simp
    refine hK _ _ ?_
    clear hK K
    refine yI [2] ?_
    refine cI rfl λK hK=>?_
    go_simp
    refine hK _ _ ?_
    clear hK K
    refine yI [3] ?_
    refine cI rfl λK hK=>?_
    go_simp
    refine hK _ _ ?_
    clear hK K
    refine yI [5] ?_
    refine cI rfl λK hK=>?_
    go_simp
   case' z20_1 =>
    go_simp
    refine hK _ _ ?_
    clear hK K
    refine yI [0,2] ?_
    refine AllReadyIn.cons rfl (λK hK=>?z21_0) (AllReadyIn.cons rfl (λK hK=>?z21_1) AllReadyIn.nil)
    case' z21_0 =>
     go_simp
     refine hK _ _ ?_
     clear hK K
     refine yI [2] ?_
     refine cI rfl λK hK=>?_
     go_simp
     refine hK _ _ ?_
     clear hK K
     refine yI [3] ?_
     refine cI rfl λK hK=>?_
     go_simp
     refine hK _ _ ?_
     clear hK K
     refine yI [5] ?_
     refine cI rfl λK hK=>?_
     go_simp
    case' z21_1 =>
     go_simp
     refine hK _ _ ?_
     clear hK K
     refine yI [0,3] ?_
     refine AllReadyIn.cons rfl (λK hK=>?z22_0) (AllReadyIn.cons rfl (λK hK=>?z22_1) AllReadyIn.nil)
     case' z22_0 =>
      go_simp
      refine hK _ _ ?_
      clear hK K
      refine yI [3] ?_
      refine cI rfl λK hK=>?_
      go_simp
      refine hK _ _ ?_
      clear hK K
      refine yI [5] ?_
      refine cI rfl λK hK=>?_
      go_simp
     case' z22_1 =>
      go_simp
      refine hK _ _ ?_
      clear hK K
      refine yI [0,5] ?_
      refine AllReadyIn.cons rfl (λK hK=>?z23_0) (AllReadyIn.cons rfl (λK hK=>?z23_1) AllReadyIn.nil)
      case' z23_0 =>
       go_simp
       refine hK _ _ ?_
       clear hK K
       refine yI [5] ?_
       refine cI rfl λK hK=>?_
       go_simp
      case' z23_1 =>
       go_simp
       gi_wp2_with (refine⟨trivial,?_⟩;gi_at_call 232;refine (CallsIn.inRound L (callsIn_wide.2 hfg.out)).mono ?_;rintro e w5 ⟨rfl,hM5,hB5⟩;obtain⟨a',c',w3,hrun,hq2,hq3,hq⟩:=HPO.o w5 hM5 hB5;have HRUN:=aa hrun;have HQ:=aa hq;have yq:=hq2.1;have yqa:=(hq2.alloc (Obj.cells #[.int .i64 o,.int .u64 (hi:Int),.int .u64 (lo:Int)] 38)).1;have yq3:=hq3.1;have zq3:=hq3.2;clear hM5 hB5 hrun hq hq2 hq3)
       refine yI [0,6] ?_
       refine AllReadyIn.cons rfl (λK hK=>?z24_0) (AllReadyIn.cons rfl (λK hK=>?z24_1) AllReadyIn.nil)
       case' z24_0 =>
        go_simp
        refine hK _ _ ?_
        clear hK K
        refine yI [6] ?_
        refine cI rfl λK hK=>?_
        go_simp
        refine hK _ _ ?_
        clear hK K
        refine yI [7] ?_
        refine cI rfl λK hK=>?_
        rw [if_pos (by kernel_rfl)]
        refine DH _ _ 57 rfl _ _ rfl rfl _ w3 HRUN.o ?_
        refine hK _ _ ?_
        clear hK K
        simp only [Act.put,List.setIfInBounds_toArray]
        refine yI [8] ?_
        refine cI rfl λK hK=>?_
        go_simp
        refine hK _ _ ?_
        clear hK K
        refine wpAnyIn_done (by kernel_rfl) ?_ _
        exact HQ.o
       case' z24_1 =>
        go_simp
        refine hK _ _ ?_
        clear hK K
        refine yI [0] ?_
        refine cI rfl λK hK=>?_
        go_simp
        refine hK _ _ ?_
        clear hK K
        refine yI [7] ?_
        refine cI rfl λK hK=>?_
        rw [if_pos (by kernel_rfl)]
        refine DH _ _ 57 rfl _ _ rfl rfl _ w3 HRUN.o ?_
        refine hK _ _ ?_
        clear hK K
        simp only [Act.put,List.setIfInBounds_toArray]
        refine yI [8] ?_
        refine cI rfl λK hK=>?_
        go_simp
        refine hK _ _ ?_
        clear hK K
        refine wpAnyIn_done (by kernel_rfl) ?_ _
        exact HQ.o
  all_goals (
   gi_wp2_with (refine⟨trivial,?_⟩;gi_at_call 232;refine (CallsIn.inRound L (callsIn_wide.2 hfg.out)).mono ?_;rintro e w5 ⟨rfl,hM5,hB5⟩;obtain⟨a',c',w3,hrun,hq2,hq3,hq⟩:=HPO.o w5 hM5 hB5;have HRUN:=aa hrun;have HQ:=aa hq;have yq:=hq2.1;have yqa:=(hq2.alloc (Obj.cells #[.int .i64 o,.int .u64 (hi:Int),.int .u64 (lo:Int)] 38)).1;have yq3:=hq3.1;have zq3:=hq3.2;clear hM5 hB5 hrun hq hq2 hq3)
   refine yI [6] ?_
   refine cI rfl λK hK=>?_
   go_simp
   refine hK _ _ ?_
   clear hK K
   refine yI [7] ?_
   refine cI rfl λK hK=>?_
   rw [if_pos (by kernel_rfl)]
   refine DH _ _ 57 rfl _ _ rfl rfl _ w3 HRUN.o ?_
   refine hK _ _ ?_
   clear hK K
   simp only [Act.put,List.setIfInBounds_toArray]
   refine yI [8] ?_
   refine cI rfl λK hK=>?_
   go_simp
   refine hK _ _ ?_
   clear hK K
   refine wpAnyIn_done (by kernel_rfl) ?_ _
   exact HQ.o)
 case done =>
  intro D W hD hI hK
  have hla:(dP true l n).attach.length=(G true l n).length:=by rw [List.length_attach];rfl
  have hok:=HH.o.inv.ok
  have hGn:∀x∈G true l n,x∈ah l:=λx hx=>dK hok hx
  have hnd:=fG hok true n
  obtain⟨hbox,hcc,hcm,hbut⟩:=hI
  rw [q8] at hbox hcm
  rw [hla,EA _ (λx hx=>bj hok (hGn x hx)) hnd] at hbox
  rw [runT_eq HH.o.inv _ hGn hnd] at hcm
  obtain⟨a,c,hl,hO⟩:=hbox
  have hfe:=aa (jA hcm n)
  have y2:=hcc.1
  have HFIN:Hid (∀w4,Cm w4 A kn mo (bU X (aT l (G true l n))) (fJ X (G true l n)) (aT l (G true l n))->ae (·=A.kb) W w4->aq w4 ⟨w0.heap.size,0,none⟩ (.slice a (G true l n).length c)/\w4.heap[D]?=some (.deferred (some []))/\(Ow (w4.putObj D (.deferred none)) w.heap.size 38 3 a (G true l n).length c (az ((G true l n).map (λk=>(tk X k).1)))/\ie (w4.putObj D (.deferred none)) A kn mo (fJ X (G true l n)) (aT l (G true l n))/\ae A.Wr w (w4.putObj D (.deferred none)))):=by
   intro w4 hM4 hB4
   have hkb:A.kb<w.heap.size:=hAll.out _ (.inr (.inr (.inr (.inr (.inr rfl)))))
   have hDl:D<W.heap.size:=(Array.getElem?_eq_some_iff.1 hK).1
   have hK4:w4.heap[D]?=some (.deferred (some [])):=(hB4.block D hDl (by show ¬D=A.kb;omega)).trans hK
   have hbp:=bo (grownBy_putObj' w4 D (.deferred none))
   have hAd:∀k,A.jC k->¬(some D=some k):=λk hk e=>by have:=hAll.out k hk;cases e;omega
   have htk:∀x∈ah (aT l (G true l n)),tk (fJ X (G true l n)) x=tk X x:=λx hx=>by
    obtain⟨h1,h2⟩:=bn.1 hx
    exact jI _ X x (bj hok h1) (λy hy=>bj hok (hGn y hy)) h2
   refine⟨hl.but hB4 (by show ¬w0.heap.size=A.kb;omega),hK4,((hO.but hB4 (λj hj e=>by have:=(hO.bD j hj).1;omega)).put hK4).mono (by omega),⟨?_,(HH.o.inv.aT _ hM4.nB.ok).ext (by rw [uI];exact HH.o.inv.len) htk⟩,?_⟩
   ·rw [nW htk]
    exact hM4.but hbp hAd
   ·exact ((hbut.trans (hB4.mono (λk e=>.inr (.inr (.inr e))))).comp hbp (λk e=>.inr (by cases e;omega)))
  clear hbut hcm hl hO hcc hK
  gi_wp2_with (refine⟨trivial,?_⟩;gi_at_call 233;refine (callsIn_wide.2 hfe.out).mono ?_;rintro e w4 ⟨rfl,hM4,hB4⟩;obtain⟨hl4,hK4,hfin⟩:=HFIN.o w4 hM4 hB4;have y4:=hl4.1;have HF:=aa hfin;have HK4:=aa hK4;clear hM4 hB4 hl4 hfin hK4)
  refine⟨by simp,.inl ⟨_,_,rfl,run_takeDeferred HK4.o,?_⟩⟩
  refine⟨.tuple #[.slice a (G true l n).length c,.int .i64 0],?_,a,c,rfl,HF.o⟩
  simp [results,Tryz.f201,go_sem]
end Go.Proofs.YtfmhdimaijimlaaGreatDoor
