import Init
import Derived.Laws.BitsAllLaws
import Derived.Laws.ShiftsVarLaws
import Derived.WalkKit
import Derived.WalkSpells
import Derived.Test.YtmhinfbkmjdgfaaGreatDoorRows
import Derived.WalkLawsBesides
import Derived.WalkMore
import Derived.Deep.RegionHeld3
import Derived.Deep.MidRow
import Derived.Deep.QuietTactic
import Derived.Deep.DeepCutAuto
import Derived.BigQuiet
import Derived.Maps.AppendAt
import Derived.Laws.AppendOwnNone
import Derived.Laws.OwnMore
import Derived.Laws.CopyRow
import Derived.Laws.IdiomCopy
import Derived.Test.YtmhinfbkmjdgfaaGreatDoorZZ
set_option linter.unusedVariables false
set_option linter.unusedSimpArgs false
set_option maxRecDepth 100000
set_option maxHeartbeats 1000000
namespace Go.Proofs.YtmhinfbkmjdgfaaGreatDoor
variable {e:Bool}{k n p x:Int}{P:Int->Prop}{c:List Int}{i j m:Nat}
abbrev Fo:=List (Int×Int)
def aF (l:Fo):List Int:=l.map (·.1)
def ch (l:Fo)(p:Int):List Int:=(l.filter (λx=>decide (x.2=p))).map (·.1)
def Ok (m:Nat)(l:Fo):Prop:=∀P:Fo->Prop,P []->(∀(l:Fo) (n p:Int),P l->0<=n->n<m->n∉aF l->(p=-1\/p∈aF l)->P (l++[(n,p)]))->P l
theorem Ok.nil :Ok m []:=λ_ h0 _=>h0
theorem Ok.add {l:Fo}(h:Ok m l)(h0:0<=n)(h1:n<m)(h2:n∉aF l)(h3:p=-1\/p∈aF l):Ok m (l++[(n,p)]):=λP hn ha=>ha l n p (h P hn ha) h0 h1 h2 h3
theorem Ok.ind {P:Fo->Prop}{l:Fo}(h:Ok m l)(hn:P [])(ha:∀(l:Fo) (n p:Int),Ok m l->P l->0<=n->n<m->n∉aF l->(p=-1\/p∈aF l)->P (l++[(n,p)])):P l :=
 (h (λl=>Ok m l/\P l) ⟨Ok.nil,hn⟩ (λl n p ih h0 h1 h2 h3=>⟨ih.1.add h0 h1 h2 h3,ha l n p ih.1 ih.2 h0 h1 h2 h3⟩)).2
theorem cT (l:Fo)(n p:Int):aF (l++[(n,p)])=aF l++[n]:=by simp [aF]
theorem sG (l:Fo)(n p q:Int):ch (l++[(n,p)]) q=ch l q++(if p=q then [n] else []):=by
 unfold ch;rw [List.filter_append,List.map_append];congr 1
 by_cases h:p=q<;>simp [h]
theorem jE {l:Fo}:k∈ch l p↔(k,p)∈l:=by
 unfold ch;simp only [List.mem_map,List.mem_filter,decide_eq_true_eq];constructor
 ·rintro ⟨⟨a,b⟩,⟨h1,h2⟩,h3⟩
  simp only at h2 h3;subst h2 h3
  exact h1
 ·intro h
  exact⟨(k,p),⟨h,rfl⟩,rfl⟩
theorem aL {l:Fo}:k∈aF l↔∃p,(k,p)∈l:=by
 unfold aF;simp only [List.mem_map];constructor
 ·rintro ⟨⟨a,b⟩,h1,h2⟩
  simp only at h2;subst h2;exact⟨b,h1⟩
 ·rintro ⟨p,h⟩
  exact⟨_,h,rfl⟩
theorem Ok.range {l:Fo}(h:Ok m l):∀k∈aF l,0<=k/\k<m:=by
 refine Ok.ind (P:=λl=>∀k∈aF l,0<=k/\k<m) h ?_ ?_
 ·intro k hk;cases hk
 ·intro l n p h ih h0 h1 h2 h3
  intro k hk;rw [cT,List.mem_append,List.mem_singleton] at hk;rcases hk with hk|rfl
  ·exact ih k hk
  ·exact⟨h0,h1⟩
theorem Ok.nodup {l:Fo}(h:Ok m l):(aF l).Nodup:=by
 refine Ok.ind (P:=λl=>(aF l).Nodup) h ?_ ?_
 ·exact List.nodup_nil
 ·intro l n p h ih h0 h1 h2 h3
  rw [cT,List.nodup_append];refine⟨ih,by simp,λa ha b hb=>?_⟩
  rw [List.mem_singleton] at hb;subst hb;intro e;subst e;exact h2 ha
theorem Ok.par {l:Fo}(h:Ok m l):∀(j:Nat) (k p:Int),l[j]?=some (k,p)->p=-1\/∃(i:Nat) (q:Int),i<j/\l[i]?=some (p,q):=by
 refine Ok.ind (P:=λl=>∀(j:Nat) (k p:Int),l[j]?=some (k,p)->p=-1\/∃(i:Nat) (q:Int),i<j/\l[i]?=some (p,q)) h ?_ ?_
 ·intro j k p hj;simp at hj
 ·intro l n p h ih h0 h1 h2 h3
  intro j k q hj;by_cases hlt:j<l.length
  ·rw [List.getElem?_append_left hlt] at hj
   rcases ih j k q hj with h|⟨i,r,hi,hr⟩
   ·exact .inl h
   ·exact .inr ⟨i,r,hi,by rw [List.getElem?_append_left (by omega)];exact hr⟩
  ·rw [List.getElem?_append_right (by omega)] at hj
   have hj0:j - l.length=0:=by
    rcases Nat.eq_zero_or_pos (j - l.length) with h|h
    ·exact h
    ·rw [List.getElem?_eq_none (by simp;omega)] at hj;cases hj
   rw [hj0] at hj;simp only [List.getElem?_cons_zero,Option.some.injEq,Prod.mk.injEq] at hj;obtain⟨rfl,rfl⟩:=hj
   rcases h3 with h3|h3
   ·exact .inl h3
   ·obtain⟨r,hr⟩:=aL.1 h3
    obtain⟨i,hi⟩:=List.getElem?_of_mem hr
    have:i<l.length:=(List.getElem?_eq_some_iff.1 hi).1
    exact .inr ⟨i,r,by omega,by rw [List.getElem?_append_left this];exact hi⟩
theorem Ok.up {l:Fo}(h:Ok m l)(hk:(k,p)∈l):p=-1\/p∈aF l:=by
 obtain⟨j,hj⟩:=List.getElem?_of_mem hk
 rcases h.par j k p hj with h|⟨i,q,_,hi⟩
 ·exact .inl h
 ·exact .inr (aL.2 ⟨q,List.mem_of_getElem? hi⟩)
theorem Ok.uniq {l:Fo}(h:Ok m l):∀{k p q:Int},(k,p)∈l->(k,q)∈l->p=q:=by
 refine Ok.ind (P:=λl=>∀{k p q:Int},(k,p)∈l->(k,q)∈l->p=q) h ?_ ?_
 ·intro k p q hk;cases hk
 ·intro l n p h ih h0 h1 h2 h3
  intro k p q h4 h5;rw [List.mem_append,List.mem_singleton,Prod.mk.injEq] at h4 h5;rcases h4 with h4|⟨rfl,rfl⟩<;>rcases h5 with h5|⟨h5,rfl⟩
  ·exact ih h4 h5
  ·subst h5;exact absurd (aL.2 ⟨_,h4⟩) h2
  ·exact absurd (aL.2 ⟨_,h5⟩) h2
  ·rfl
theorem AE (l:Fo)(p:Int):(ch l p).Sublist (aF l):=(List.filter_sublist).map _
theorem Ok.Bg {l:Fo}(h:Ok m l)(p:Int):(ch l p).Nodup:=List.Nodup.sublist (AE l p) h.nodup
theorem g8 {l:Fo}(h:k∈ch l p):k∈aF l:=(AE l p).subset h
theorem Ok.none {l:Fo}(h:Ok m l)(h0:0<=p)(hp:p∉aF l):ch l p=[]:=by
 apply List.eq_nil_iff_forall_not_mem.2
 intro k hk;rcases h.up (jE.1 hk) with h1|h1
 ·omega
 ·exact hp h1
theorem Ag:∀(m:Nat) (L:List Int),L.Nodup->(∀x∈L,0<=x/\x<m)->L.length<=m
 | 0,L,_,h=>by
  cases L with
  | nil=>simp
  | cons a t=>have:=h a (by simp);omega
 | m+1,L,hn,h=>by
  have h1:=Ag m (L.erase (m:Int)) (hn.erase _) (λx hx=>by
   have h2:=(hn.mem_erase_iff).1 hx
   have h3:=h x h2.2
   have h4:=h2.1
   exact⟨h3.1,by omega⟩)
  by_cases hm:(m:Int)∈L
  ·rw [List.length_erase_of_mem hm] at h1
   omega
  ·rw [List.erase_of_not_mem hm] at h1
   omega
theorem Ok.len {l:Fo}(h:Ok m l):l.length<=m:=by
 have:=Ag m (aF l) h.nodup h.range
 simpa [aF] using this
structure Nd where
 th:Bool
 pa:Int
 fi:Int
 be:Int
def Ic:Nd:=⟨false,0,0,0⟩
def nx (c:List Int)(i:Nat):Int:=(c[i]?).getD (-1)
structure dZ (m:Nat)(l:Fo)(N:List Nd):Prop where
 len:N.length=m
 ok:Ok m l
 out:∀(k:Nat) (x:Nd),N[k]?=some x->(k:Int)∉aF l->x=Ic
 pU:∀(k:Nat) (x:Nd) (p:Int),N[k]?=some x->((k:Int),p)∈l->x.th=true/\x.pa=p
 fi:∀(k:Nat) (x:Nd),N[k]?=some x->(k:Int)∈aF l->x.fi=nx (ch l k) 0
 be:∀(p:Int),0<=p->∀(i k:Nat) (x:Nd),(ch l p)[i]?=some (k:Int)->N[k]?=some x->x.be=nx (ch l p) (i+1)
theorem get_some {α:Type}{L:List α}(h:i<L.length):∃p,L[i]?=some p:=⟨L[i],List.getElem?_eq_getElem h⟩
theorem aP {α:Type}{L:List α}{x p:α}(h:(L.set i x)[j]?=some p):(i=j/\p=x)\/(i≠j/\L[j]?=some p):=by
 rw [List.getElem?_set] at h;split at h
 ·next he =>
  split at h
  ·exact .inl ⟨he,(Option.some.inj h).symm⟩
  ·cases h
 ·next he=>exact .inr ⟨he,h⟩
theorem dZ.get {l:Fo}{N:List Nd}(h:dZ m l N)(hn:n∈aF l):∃(k:Nat) (x:Nd),n=(k:Int)/\k<m/\N[k]?=some x:=by
 have hr:=h.ok.range n hn
 obtain⟨x,hx⟩:=get_some (L:=N) (i:=n.toNat) (by rw [h.len];omega)
 exact⟨n.toNat,x,by omega,by omega,hx⟩
theorem dZ.there {l:Fo}{N:List Nd}(h:dZ m l N){k:Nat}{x:Nd}(hx:N[k]?=some x):x.th=decide ((k:Int)∈aF l):=by
 by_cases hk:(k:Int)∈aF l
 ·obtain⟨p,hp⟩:=aL.1 hk
  rw [(h.pU k x p hx hp).1,decide_eq_true hk]
 ·rw [h.out k x hx hk,decide_eq_false hk];rfl
structure fb (N:List Nd)(p:Nat)(c:List Int):Prop where
 top:∃x,N[p]?=some x/\x.fi=nx c 0
 Jv:∀(i:Nat) (a:Int),c[i]?=some a->∃(k:Nat) (x:Nd),a=(k:Int)/\N[k]?=some x/\x.be=nx c (i+1)
theorem dZ.chain {l:Fo}{N:List Nd}(h:dZ m l N){p:Nat}(hp:(p:Int)∈aF l):fb N p (ch l p):=by
 refine⟨?_,λi a ha=>?_⟩
 ·obtain⟨k,x,hk,_,hx⟩:=h.get hp
  have:k=p:=by omega
  subst this;exact⟨x,hx,h.fi _ _ hx hp⟩
 ·obtain⟨k,x,rfl,_,hx⟩:=h.get (g8 (List.mem_of_getElem? ha))
  exact⟨k,x,rfl,hx,h.be p (by omega) i k x ha hx⟩
def my (p:Nat)(c:List Int):Nat->Nat
 | 0=>p
 | i+1=>(nx c i).toNat
def pw:Nat->Nat
 | 0=>2
 | _+1=>3
def Nd.put (x:Nd)(f:Nat)(v:Int):Nd:=if f=2 then { x with fi:=v } else { x with be:=v }
def dM (N:List Nd)(p:Nat)(c:List Int)(i:Nat)(v:Int):List Nd :=
 match N[my p c i]? with
 | some x=>N.set (my p c i) (x.put (pw i) v)
 | none=>N
theorem z_ (N:List Nd)(p:Nat)(c:List Int)(i:Nat)(v:Int):(dM N p c i v).length=N.length:=by
 unfold dM;split<;>simp
theorem km {N:List Nd}{p:Nat}{v:Int}{k:Nat}{x:Nd}(h:(dM N p c i v)[k]?=some x) :
  ∃y,N[k]?=some y/\x.th=y.th/\x.pa=y.pa/\x.fi=(if i=0/\k=p then v else y.fi)/\x.be=(if 0<i/\k=my p c i then v else y.be):=by
 unfold dM at h;split at h
 ·next y hy =>
  rcases aP h with ⟨hk,rfl⟩|⟨hk,h⟩
  ·subst hk
   refine⟨y,hy,?_⟩
   cases i with
   | zero=>simp [Nd.put,pw,my]
   | succ i=>simp [Nd.put,pw]
  ·refine⟨x,h,rfl,rfl,?_,?_⟩
   ·rw [if_neg];rintro ⟨rfl,rfl⟩;exact hk rfl
   ·rw [if_neg];rintro ⟨_,rfl⟩;exact hk rfl
 ·next hy =>
  refine⟨x,h,rfl,rfl,?_,?_⟩
  ·rw [if_neg];rintro ⟨rfl,rfl⟩;unfold my at hy;rw [hy] at h;cases h
  ·rw [if_neg];rintro ⟨_,rfl⟩;rw [hy] at h;cases h
theorem gY (h:i<c.length):nx c i=c[i]:=by simp [nx,h]
theorem Dp (h:c.length<=i):nx c i=-1:=by simp [nx,h]
theorem dZ.init (m:Nat):dZ m [] (List.replicate m Ic):=by
 refine⟨by simp,.nil,λk x hx _=>?_,λk x p _ h=>(by cases h),λk x _ h=>(by cases h),λp _ i k x h=>?_⟩
 ·rw [List.getElem?_replicate] at hx
  split at hx
  ·exact (Option.some.inj hx).symm
  ·cases hx
 ·simp [ch] at h
theorem dZ.root {l:Fo}{N:List Nd}(h:dZ m l N){n:Nat}(hn:n<m)(hl:(n:Int)∉aF l):dZ m (l++[((n:Int),-1)]) (N.set n ⟨true,-1,-1,-1⟩):=by
 have hch:∀q:Int,0<=q->ch (l++[((n:Int),-1)]) q=ch l q:=λq hq=>by
  rw [sG,if_neg (by omega),List.append_nil]
 refine⟨by rw [List.length_set];exact h.len,.add h.ok (by omega) (by omega) hl (.inl rfl),λk x hx hk=>?_,λk x p hx hp=>?_,λk x hx hk=>?_,λp hp i k x hi hx=>?_⟩
 ·rw [cT,List.mem_append,List.mem_singleton,not_or] at hk
  rcases aP hx with ⟨rfl,_⟩|⟨_,hx⟩
  ·exact absurd rfl hk.2
  ·exact h.out k x hx hk.1
 ·rw [List.mem_append,List.mem_singleton,Prod.mk.injEq] at hp
  rcases aP hx with ⟨rfl,rfl⟩|⟨hne,hx⟩
  ·rcases hp with hp|⟨_,rfl⟩
   ·exact absurd (aL.2 ⟨_,hp⟩) hl
   ·exact⟨rfl,rfl⟩
  ·rcases hp with hp|⟨hp,_⟩
   ·exact h.pU k x p hx hp
   ·omega
 ·rw [hch _ (by omega)]
  rw [cT,List.mem_append,List.mem_singleton] at hk;rcases aP hx with ⟨rfl,rfl⟩|⟨hne,hx⟩
  ·rw [h.ok.none (by omega) hl];rfl
  ·rcases hk with hk|hk
   ·exact h.fi k x hx hk
   ·omega
 ·rw [hch p hp] at hi ⊢
  have hk:=g8 (List.mem_of_getElem? hi)
  rcases aP hx with ⟨rfl,rfl⟩|⟨hne,hx⟩
  ·exact absurd hk hl
  ·exact h.be p hp i k x hi hx
theorem Aj (hc:c.Nodup){a:Int}(h1:c[i]?=some a)(h2:c[j]?=some a):i=j:=by
 have hi:=(List.getElem?_eq_some_iff.1 h1).1
 exact (List.getElem?_inj hi hc).1 (h1.trans h2.symm)
theorem dZ.xY {l:Fo}{N:List Nd}(h:dZ m l N){p n:Nat}(hp:(p:Int)∈aF l)(hl:(n:Int)∉aF l)(y:Nd):fb (N.set n y) p (ch l p):=by
 obtain⟨⟨x,hx,hx2⟩,h2⟩:=h.chain hp
 have hpn:n≠p:=λe=>hl (by rw [e];exact hp)
 refine⟨⟨x,by rw [List.getElem?_set_ne hpn];exact hx,hx2⟩,λi a ha=>?_⟩
 obtain⟨k,z,rfl,hz,hz2⟩:=h2 i a ha
 have hkn:n≠k:=λe=>hl (by rw [e];exact g8 (List.mem_of_getElem? ha))
 exact⟨k,z,rfl,by rw [List.getElem?_set_ne hkn];exact hz,hz2⟩
theorem dZ.child {l:Fo}{N:List Nd}(h:dZ m l N){n p:Nat}(hn:n<m)(hp:(p:Int)∈aF l)(hl:(n:Int)∉aF l) :
  dZ m (l++[((n:Int),(p:Int))]) (dM (N.set n ⟨true,p,-1,-1⟩) p (ch l p) (ch l p).length n):=by
 obtain⟨c,hc⟩:∃c,c=ch l p:=⟨_,rfl⟩
 rw [<-hc];have hcn:c.Nodup:=hc ▸ h.ok.Bg p
 have hcm:∀a∈c,a∈aF l:=λa ha=>g8 (hc ▸ ha)
 have hpn:n≠p:=λe=>hl (by rw [e];exact hp)
 have hlk:my p c c.length≠n/\((my p c c.length:Nat):Int)∈aF l/\(0<c.length->c[c.length - 1]?=some ((my p c c.length:Nat):Int)):=by
  cases hcl:c.length with
  | zero=>exact⟨λe=>hpn e.symm,hp,λh=>absurd h (Nat.lt_irrefl _)⟩
  | succ j =>
   have hj:j<c.length:=by omega
   have hm:=hcm _ (List.getElem_mem hj)
   have hr:=h.ok.range _ hm
   have e:((my p c (j+1):Nat):Int)=c[j]:=by show (((nx c j).toNat:Nat):Int)=_;rw [gY hj];omega
   refine⟨λe2=>hl ?_,by rw [e];exact hm,λ_=>by rw [e];simp⟩
   rw [<-e2,e];exact hm
 have hch:∀q:Int,q≠p->ch (l++[((n:Int),(p:Int))]) q=ch l q:=λq hq=>by
  rw [sG,if_neg (λe=>hq e.symm),List.append_nil]
 have hchp:ch (l++[((n:Int),(p:Int))]) p=c++[(n:Int)]:=by rw [sG,if_pos rfl,hc]
 refine⟨by rw [z_,List.length_set];exact h.len,.add h.ok (by omega) (by omega) hl (.inr hp),λk x hx hk=>?_,λk x q hx hq=>?_,λk x hx hk=>?_,λq hq i k x hi hx=>?_⟩
 ·rw [cT,List.mem_append,List.mem_singleton,not_or] at hk
  obtain⟨y,hy,h1,h2,h3,h4⟩:=km hx
  rw [if_neg (λe=>hk.1 (by rw [e.2];exact hp))] at h3
  rw [if_neg (λe=>hk.1 (by rw [e.2];exact hlk.2.1))] at h4
  rcases aP hy with ⟨rfl,_⟩|⟨_,hy⟩
  ·exact absurd rfl hk.2
  ·have:=h.out k y hy hk.1
   subst this;obtain⟨a,b,c,d⟩:=x
   simp only at h1 h2 h3 h4;subst h1 h2 h3 h4
   rfl
 ·obtain⟨y,hy,h1,h2,_,_⟩:=km hx
  rw [h1,h2];rw [List.mem_append,List.mem_singleton,Prod.mk.injEq] at hq;rcases aP hy with ⟨rfl,rfl⟩|⟨hne,hy⟩
  ·rcases hq with hq|⟨_,rfl⟩
   ·exact absurd (aL.2 ⟨_,hq⟩) hl
   ·exact⟨rfl,rfl⟩
  ·rcases hq with hq|⟨hq,_⟩
   ·exact h.pU k y q hy hq
   ·omega
 ·obtain⟨y,hy,_,_,h3,_⟩:=km hx
  rw [h3];rw [cT,List.mem_append,List.mem_singleton] at hk;by_cases hkp:k=p
  ·subst hkp
   rw [hchp];rcases aP hy with ⟨rfl,rfl⟩|⟨hne,hy⟩
   ·exact absurd rfl hpn
   ·by_cases hc0:c.length=0
    ·rw [if_pos ⟨hc0,rfl⟩,List.eq_nil_of_length_eq_zero hc0];rfl
    ·rw [if_neg (λe=>hc0 e.1),h.fi k y hy hp,<-hc,gY (by omega),gY (by simp),List.getElem_append_left (by omega)]
  ·rw [if_neg (λe=>hkp e.2),hch _ (by omega)]
   rcases aP hy with ⟨rfl,rfl⟩|⟨hne,hy⟩
   ·rw [h.ok.none (by omega) hl];rfl
   ·rcases hk with hk|hk
    ·exact h.fi k y hy hk
    ·omega
 ·obtain⟨y,hy,_,_,_,h4⟩:=km hx
  rw [h4];by_cases hqp:q=p
  ·subst hqp
   rw [hchp] at hi ⊢
   by_cases hil:i<c.length
   ·rw [List.getElem?_append_left hil] at hi
    have hkl:=hcm _ (List.mem_of_getElem? hi)
    rcases aP hy with ⟨rfl,rfl⟩|⟨hne,hy⟩
    ·exact absurd hkl hl
    ·by_cases hi1:i+1=c.length
     ·have:(k:Int)=(my p c c.length:Nat):=by
       have:=hlk.2.2 (by omega)
       rw [show c.length - 1=i by omega,hi] at this;exact Option.some.inj this
      rw [if_pos ⟨by omega,by omega⟩,gY (by simp;omega)];simp [hi1]
     ·rw [if_neg]
      ·rw [h.be p (by omega) i k y (hc ▸ hi) hy,<-hc,gY (by omega),gY (by simp;omega),List.getElem_append_left (by omega)]
      ·rintro ⟨h5,h6⟩
       have:=hlk.2.2 h5
       rw [<-h6] at this;have:=Aj hcn hi this
       omega
   ·rw [List.getElem?_append_right (by omega)] at hi
    have hi0:i - c.length=0:=by
     rcases Nat.eq_zero_or_pos (i - c.length) with h|h
     ·exact h
     ·rw [List.getElem?_eq_none (by simp;omega)] at hi;cases hi
    rw [hi0] at hi;simp only [List.getElem?_cons_zero,Option.some.injEq] at hi;have hkn:n=k:=by omega
    subst hkn;rw [if_neg (λe=>hlk.1 e.2.symm),Dp (by simp;omega)];rcases aP hy with ⟨_,rfl⟩|⟨hne,hy⟩
    ·rfl
    ·exact absurd rfl hne
  ·rw [hch q hqp] at hi ⊢
   have hkl:=List.mem_of_getElem? hi
   rcases aP hy with ⟨rfl,rfl⟩|⟨hne,hy⟩
   ·exact absurd (g8 hkl) hl
   ·rw [if_neg]
    ·exact h.be q hq i k y hi hy
    ·rintro ⟨h5,h6⟩
     have:=List.mem_of_getElem? (hlk.2.2 h5)
     rw [<-h6,hc] at this;exact hqp (h.ok.uniq (jE.1 hkl) (jE.1 this))
theorem Ok.ahead {l:Fo}(h:Ok m l){c:Int}(hj:l[j]?=some (k,p))(hi:l[i]?=some (c,k)):j<i:=by
 rcases h.par i c k hi with e|⟨i',q,hlt,hq⟩
 ·have:=h.range k (aL.2 ⟨p,List.mem_of_getElem? hj⟩)
  omega
 ·have h1:(aF l)[i']?=some k:=by simp [aF,hq]
  have h2:(aF l)[j]?=some k:=by simp [aF,hj]
  have:=Aj h.nodup h1 h2
  omega
theorem yy {l:Fo}(h:Ok m l)(hs:∀n∈aF l,(∀c∈ch l n,P c)->P n):∀n∈aF l,P n:=by
 have key:∀(d j:Nat) (k p:Int),l[j]?=some (k,p)->l.length<=d+j->P k:=by
  intro d;induction d with
  | zero =>
   intro j k p hj hd;have:=(List.getElem?_eq_some_iff.1 hj).1
   omega
  | succ d ih =>
   intro j k p hj hd;refine hs k (aL.2 ⟨p,List.mem_of_getElem? hj⟩) (λc hc=>?_)
   obtain⟨i,hi⟩:=List.getElem?_of_mem (jE.1 hc)
   have:=h.ahead hj hi
   exact ih i c k hi (by omega)
 intro n hn;obtain⟨p,hp⟩:=aL.1 hn
 obtain⟨j,hj⟩:=List.getElem?_of_mem hp
 exact key l.length j n p hj (by omega)
theorem EN {l:Fo}(h:Ok m l)(hs:∀n p,(n,p)∈l->(p∈aF l->P p)->P n):∀n∈aF l,P n:=by
 have key:∀(d j:Nat) (k p:Int),l[j]?=some (k,p)->j<d->P k:=by
  intro d;induction d with
  | zero=>intro j k p hj hd;omega
  | succ d ih =>
   intro j k p hj hd;refine hs k p (List.mem_of_getElem? hj) (λhp=>?_)
   obtain⟨q,hq⟩:=aL.1 hp
   obtain⟨i,hi⟩:=List.getElem?_of_mem hq
   have:=h.ahead hi hj
   exact ih i p q hi (by omega)
 intro n hn;obtain⟨p,hp⟩:=aL.1 hn
 obtain⟨j,hj⟩:=List.getElem?_of_mem hp
 exact key (j+1) j n p hj (by omega)
theorem lT {f g:Int->List Int}:∀{L:List Int},(∀c∈L,f c=g c)->L.flatMap f=L.flatMap g
 | [],_=>rfl
 | c::L,h=>by
  rw [List.flatMap_cons,List.flatMap_cons,h c (by simp),lT (λx hx=>h x (by simp [hx]))]
def ord (e:Bool)(c:List Int):List Int:=if e then c else c.reverse
theorem kr :x∈ord e c↔x∈c:=by unfold ord;split<;>simp
def gn (e:Bool)(l:Fo):Nat->Int->List Int
 | 0,_=>[]
 | d+1,n=>n::(ord e (ch l n)).flatMap (gn e l d)
theorem vv {l:Fo}(h:Ok m l)(e:Bool):∀(d j:Nat) (k p:Int),l[j]?=some (k,p)->l.length<=d+j->gn e l (d+1) k=gn e l d k:=by
 intro d;induction d with
 | zero =>
  intro j k p hj hd;have:=(List.getElem?_eq_some_iff.1 hj).1
  omega
 | succ d ih =>
  intro j k p hj hd;show k::(ord e (ch l k)).flatMap (gn e l (d+1))=k::(ord e (ch l k)).flatMap (gn e l d)
  rw [lT (λc hc=>?_)];obtain⟨i,hi⟩:=List.getElem?_of_mem (jE.1 (kr.1 hc))
  have:=h.ahead hj hi
  exact ih i c k hi (by omega)
def G (e:Bool)(l:Fo)(n:Int):List Int:=if n∈aF l then gn e l l.length n else []
theorem Hn {l:Fo}(h:Ok m l)(hn:n∈aF l):G e l n=n::(ord e (ch l n)).flatMap (G e l):=by
 obtain⟨p,hp⟩:=aL.1 hn
 obtain⟨j,hj⟩:=List.getElem?_of_mem hp
 have h1:=vv h e l.length j n p hj (by omega)
 have h2:G e l n=gn e l l.length n:=by unfold G;rw [if_pos hn]
 rw [h2,<-h1];show n::(ord e (ch l n)).flatMap (gn e l l.length)=_
 rw [lT (λc hc=>?_)];unfold G;rw [if_pos (g8 (kr.1 hc))]
theorem xX {l:Fo}(h:Ok m l)(hn:n∈aF l):n∈G e l n:=by rw [Hn h hn];simp
def par (l:Fo)(k:Int):Int:=((l.find? (λx=>decide (x.1=k))).map (·.2)).getD (-1)
def un (l:Fo):Nat->Int->List Int
 | 0,_=>[]
 | d+1,n=>n::(if par l n∈aF l then un l d (par l n) else [])
theorem EX {l:Fo}(h:Ok m l)(hx:(x,p)∈l):∀a∈aF l,p∈G e l a->x∈G e l a:=by
 refine yy h (λa ha ih hm=>?_)
 rw [Hn h ha,List.mem_cons,List.mem_flatMap] at hm ⊢
 rcases hm with rfl|⟨c,hc,hm⟩
 ·exact .inr ⟨x,kr.2 (jE.2 hx),xX h (aL.2 ⟨_,hx⟩)⟩
 ·exact .inr ⟨c,hc,ih c (kr.1 hc) hm⟩
def IA (l:Fo)(A:List Int):Fo:=l.filter (λx=>decide (x.1∉A))
end Go.Proofs.YtmhinfbkmjdgfaaGreatDoor
namespace Go.Proofs.YtmhinfbkmjdgfaaGreatDoor.H
open Go.RowKit
def az:Nat:=18446744073709551616
def KF:Nat:=11400714819323198485
def jL (h:Nat):Nat:=h*KF%az
def qF (h:Nat):Nat:=h ^^^ (h / 2 ^ 29)
def cM (h v:Nat):Nat:=qF (jL (h ^^^ v))
def eC (o a b:Nat):Nat:=cM (cM (cM 5903417616801668165 o) a) b
def cQ (h:Nat)(k:Int):Nat:=if k<=0 then 0 else if 64<=k then h else h%2 ^ k.toNat
theorem sy {a b:Nat}(ha:a<az)(hb:b<az):a ^^^ b<az:=Nat.xor_lt_two_pow (n:=64) ha hb
theorem fF (h:Nat):jL h<az:=Nat.mod_lt _ (by decide)
theorem mw {h:Nat}(hh:h<az):qF h<az:=sy hh (Nat.lt_of_le_of_lt (Nat.div_le_self _ _) hh)
theorem ez (h v:Nat):cM h v<az:=mw (fF _)
theorem fV (o a b:Nat):eC o a b<az:=ez _ _
theorem oG {h:Nat}(k:Int)(hh:h<az):cQ h k<az:=by
 unfold cQ;split
 ·decide
 ·split
  ·exact hh
  ·exact Nat.lt_of_le_of_lt (Nat.mod_le _ _) hh
end Go.Proofs.YtmhinfbkmjdgfaaGreatDoor.H
namespace Go.Proofs.YtmhinfbkmjdgfaaGreatDoor.H
abbrev Cp:=Int×Nat×Nat
structure Pl (V:Type) where
 k:Int
 c:Cp
 v:V
variable {V:Type}
variable {i j:Nat}
def fH (p:Pl V):Option (Cp×V):=if p.k=1\/p.k=3 then some (p.c,p.v) else none
def eI (L:List (Pl V)):List (Cp×V):=L.filterMap fH
def Way (h:Cp->Nat)(good:Int->Prop)(L:List (Pl V)):Prop :=
 ∀(i:Nat) (p:Pl V),L[i]?=some p->p.k=1->∃d,d<L.length/\i=(h p.c+d)%L.length/\∀e,e<d->∀(q:Pl V),L[(h p.c+e)%L.length]?=some q->good q.k
theorem aP {L:List (Pl V)}{x p:Pl V}(h:(L.set i x)[j]?=some p):(j=i/\p=x)\/(j≠i/\L[j]?=some p):=by
 rw [List.getElem?_set] at h;split at h
 ·split at h
  ·next h1 h2=>exact .inl ⟨h1.symm,(Option.some.inj h).symm⟩
  ·cases h
 ·next h1=>exact .inr ⟨λe=>h1 e.symm,h⟩
theorem get_some {L:List (Pl V)}(h:i<L.length):∃p:Pl V,L[i]?=some p:=⟨_,List.getElem?_eq_getElem h⟩
theorem eA {L:List (Pl V)}{p:Pl V}(h:L[i]?=some p):i<L.length:=(List.getElem?_eq_some_iff.1 h).1
theorem Way.set {h:Cp->Nat}{good:Int->Prop}{L:List (Pl V)}{x:Pl V}(hw:Way h good L)(hold:∀(q:Pl V),L[i]?=some q->good q.k->good x.k)
  (hx:x.k=1->∃d,d<L.length/\i=(h x.c+d)%L.length/\∀e,e<d->∀(q:Pl V),L[(h x.c+e)%L.length]?=some q->good q.k):Way h good (L.set i x):=by
 have key:∀(m:Nat) (q':Pl V),(L.set i x)[m]?=some q'->(∀(q:Pl V),L[m]?=some q->good q.k)->good q'.k:=by
  intro m q' h1 h2;rcases aP h1 with ⟨rfl,rfl⟩|⟨_,h3⟩
  ·have hm:=eA h1
   rw [List.length_set] at hm;obtain⟨q,hq⟩:=get_some hm
   exact hold q hq (h2 q hq)
  ·exact h2 q' h3
 intro j p hp hk;rw [List.length_set];rcases aP hp with ⟨rfl,rfl⟩|⟨_,h3⟩
 ·obtain⟨d,h1,h2,h3⟩:=hx hk
  exact⟨d,h1,h2,λe he q hq=>key _ _ hq (h3 e he)⟩
 ·obtain⟨d,h1,h2,h4⟩:=hw j p h3 hk
  exact⟨d,h1,h2,λe he q hq=>key _ _ hq (h4 e he)⟩
theorem Way.none {h:Cp->Nat}{L:List (Pl V)}(hw:Way h (·≠0) L){c:Cp}{d:Nat}{q:Pl V}(hb:∀e,e<d->∀(p:Pl V),L[(h c+e)%L.length]?=some p->p.k=1->p.c≠c)(hq:L[(h c+d)%L.length]?=some q)(h0:q.k=0) :
  ∀(i:Nat) (p:Pl V),L[i]?=some p->p.k=1->p.c≠c:=by
 intro i p hp hk hc;obtain⟨d',h1,h2,h3⟩:=hw i p hp hk
 rw [hc] at h2 h3;rcases Nat.lt_trichotomy d' d with h4|h4|h4
 ·exact hb d' h4 p (by rw [<-h2];exact hp) hk hc
 ·subst h4
  rw [<-h2,hp] at hq;cases hq
  omega
 ·exact h3 d h4 q hq h0
theorem Way.Gq {h:Cp->Nat}{L:List (Pl V)}(hw:Way h (·≠0) L){c:Cp}(hb:∀e,e<L.length->∀(p:Pl V),L[(h c+e)%L.length]?=some p->p.k=1->p.c≠c) :
  ∀(i:Nat) (p:Pl V),L[i]?=some p->p.k=1->p.c≠c:=by
 intro i p hp hk hc;obtain⟨d',h1,h2,h3⟩:=hw i p hp hk
 rw [hc] at h2 h3;exact hb d' h1 p (by rw [<-h2];exact hp) hk hc
theorem Ac {L:List (Pl V)}{q x:Pl V}{y:Cp×V}(h:L[i]?=some q)(hq:fH q=none)(hx:fH x=some y):(eI (L.set i x)).Perm (y::eI L):=by
 induction L generalizing i with
 | nil=>cases h
 | cons a r ih =>
  cases i with
  | zero =>
   simp only [List.getElem?_cons_zero,Option.some.injEq] at h;subst h;simp [eI,hq,hx]
  | succ i =>
   simp only [List.getElem?_cons_succ] at h;have:=ih h
   unfold eI at this ⊢
   rw [List.set_cons_succ,List.filterMap_cons,List.filterMap_cons];cases fH a with
   | none=>exact this
   | some z=>exact (this.cons z).trans (List.Perm.swap _ _ _)
theorem wa {L:List (Pl V)}{p q x:Pl V}(hp:L[i]?=some p)(hq:L[j]?=some q)(hx:fH x=fH p):(eI ((L.set i q).set j x)).Perm (eI L):=by
 have e:∀M:List (Pl V),eI M=(M.map fH).filterMap id:=λM=>by rw [List.filterMap_map];rfl
 rw [e,e,List.map_set,List.map_set,hx];refine List.Perm.filterMap id ?_
 have hi:i<(L.map fH).length:=by rw [List.length_map];exact eA hp
 have hj:j<(L.map fH).length:=by rw [List.length_map];exact eA hq
 have h1:fH p=(L.map fH)[i]:=by
  rw [List.getElem_map];have:=(List.getElem?_eq_some_iff.1 hp).2
  rw [this]
 have h2:fH q=(L.map fH)[j]:=by
  rw [List.getElem_map];have:=(List.getElem?_eq_some_iff.1 hq).2
  rw [this]
 rw [h1,h2];exact List.set_set_perm hi hj
theorem Ak {L:List (Pl V)}{p:Pl V}(h:L[i]?=some p)(hk:p.k=1):(p.c,p.v)∈eI L :=
 List.mem_filterMap.2 ⟨p,List.mem_of_getElem? h,by unfold fH;rw [if_pos (.inl hk)]⟩
theorem xP {L:List (Pl V)}{y:Cp×V}(h:y∈eI L)(hk:∀(i:Nat) (p:Pl V),L[i]?=some p->p.k=0\/p.k=1\/p.k=2):∃(i:Nat) (p:Pl V),L[i]?=some p/\p.k=1/\y=(p.c,p.v):=by
 obtain⟨p,hp,he⟩:=List.mem_filterMap.1 h
 obtain⟨i,hi⟩:=List.getElem?_of_mem hp
 unfold fH at he;split at he
 ·next h1 =>
  refine⟨i,p,hi,?_,(Option.some.inj he).symm⟩
  rcases hk i p hi with h2|h2|h2<;>omega
 ·cases he
def xq (L:List (Pl V)):Nat:=L.countP (λp=>decide (p.k=0))
theorem Ch {L:List (Pl V)}{q x:Pl V}(h:L[i]?=some q)(hq:q.k=0)(hx:x.k≠0):xq L=xq (L.set i x)+1:=by
 induction L generalizing i with
 | nil=>cases h
 | cons a r ih =>
  cases i with
  | zero =>
   simp only [List.getElem?_cons_zero,Option.some.injEq] at h;subst h;simp [xq,hq,hx]
  | succ i =>
   simp only [List.getElem?_cons_succ] at h;have:=ih h
   unfold xq at this ⊢
   rw [List.set_cons_succ,List.countP_cons,List.countP_cons,this];omega
theorem A9 {L:List (Pl V)}(h:∀(i:Nat) (p:Pl V),L[i]?=some p->p.k=0\/p.k=1):xq L+(eI L).length=L.length:=by
 induction L with
 | nil=>rfl
 | cons a r ih =>
  have h0:=h 0 a rfl
  have h1:=ih (λi p hp=>h (i+1) p hp)
  unfold xq eI at h1 ⊢
  rw [List.countP_cons,List.filterMap_cons];rcases h0 with h0|h0
  ·simp [h0,fH];omega
  ·simp [h0,fH];omega
theorem AR {L:List (Pl V)}(h:0<xq L):∃(i:Nat) (p:Pl V),L[i]?=some p/\p.k=0:=by
 obtain⟨p,hp,hk⟩:=List.countP_pos_iff.1 h
 obtain⟨i,hi⟩:=List.getElem?_of_mem hp
 exact⟨i,p,hi,of_decide_eq_true hk⟩
theorem sF (L:List (Pl V)):xq L<=L.length:=List.countP_le_length
theorem eY {h N:Nat}(hh:h<N)(hi:i<N):∃d,d<N/\i=(h+d)%N:=by
 by_cases hle:h<=i
 ·exact⟨i - h,by omega,by rw [Nat.add_sub_cancel' hle,Nat.mod_eq_of_lt hi]⟩
 ·refine⟨i+N - h,by omega,?_⟩
  have:h+(i+N - h)=i+N:=by omega
  rw [this,Nat.add_mod_right,Nat.mod_eq_of_lt hi]
theorem pY (h d N:Nat):((h+d)%N+1)%N=(h+(d+1))%N:=by rw [Nat.mod_add_mod,Nat.add_assoc]
def Cv (L:List (Pl V)):Nat:=L.countP (λp=>decide (p.k=3))
theorem uu {L:List (Pl V)}{q x:Pl V}(h:L[i]?=some q):Cv (L.set i x)+(if q.k=3 then 1 else 0)=Cv L+(if x.k=3 then 1 else 0):=by
 induction L generalizing i with
 | nil=>cases h
 | cons a r ih =>
  cases i with
  | zero =>
   simp only [List.getElem?_cons_zero,Option.some.injEq] at h;subst h;simp [Cv,List.countP_cons];omega
  | succ i =>
   simp only [List.getElem?_cons_succ] at h;have:=ih h
   unfold Cv at this ⊢
   rw [List.set_cons_succ,List.countP_cons,List.countP_cons];omega
end Go.Proofs.YtmhinfbkmjdgfaaGreatDoor.H
namespace Go.Proofs.YtmhinfbkmjdgfaaGreatDoor
open H
variable {r:Int}{k m:Nat}
abbrev Tk:=Cp×Int
def tz:Tk:=((0,0,0),0)
def tk (X:List Tk)(n:Int):Tk:=(X[n.toNat]?).getD tz
def ob (X:List Tk)(n:Int):Int:=(tk X n).1.1
def rg (X:List Tk)(n:Int):Int:=(tk X n).2
def bK (r:Int):Bool:=decide (1<=r/\r<=31)
def aS (a b:Int):Bool:=bK a&&bK b&&decide (a.toNat &&& b.toNat=a.toNat)
theorem tR :bK r=true↔1<=r/\r<=31:=by unfold bK;exact decide_eq_true_iff
theorem jX {a b:Int}(h:aS a b=true):bK a=true:=by
 unfold aS at h;simp only [Bool.and_eq_true] at h;exact h.1.1
structure Inv (m:Nat)(X:List Tk)(l:Fo):Prop where
 ok:Ok m l
 len:X.length=m
 one:∀a∈aF l,∀b∈aF l,(tk X a).1=(tk X b).1->a=b
 val:∀a∈aF l,bK (rg X a)=true
 up:∀n p,(n,p)∈l->p≠-1->ob X n=ob X p/\aS (rg X n) (rg X p)=true
 root:∀a b,(a,-1)∈l->(b,-1)∈l->ob X a=ob X b->a=b
 wide:∀a∈aF l,(tk X a).1.2.1<az/\(tk X a).1.2.2<az
theorem o_:∀{A B:List Int},A.Nodup->(∀x∈A,x∈B)->A.length<=B.length
 | [],B,_,_=>Nat.zero_le _
 | a::A,B,hn,h=>by
  rw [List.nodup_cons] at hn;have h1:=o_ (A:=A) (B:=B.erase a) hn.2 (λx hx=>by
   have hne:x≠a:=λe=>hn.1 (e ▸ hx)
   exact (List.mem_erase_of_ne hne).2 (h x (List.mem_cons_of_mem _ hx)))
  have h2:=List.length_erase_of_mem (h a (List.mem_cons_self ..))
  have h3:=List.length_pos_of_mem (h a (List.mem_cons_self ..))
  rw [List.length_cons];omega
def eB (k:Nat):List Int:=(List.range k).map (λ(i:Nat)=>(i:Int))
theorem me (k:Nat):(eB k).length=k:=by simp [eB]
theorem lR {x:Int}:x∈eB k↔0<=x/\x<(k:Int):=by
 unfold eB;simp only [List.mem_map,List.mem_range];constructor
 ·rintro ⟨i,hi,rfl⟩;omega
 ·rintro ⟨h0,h1⟩;exact⟨x.toNat,by omega,by omega⟩
theorem jd (k:Nat):(eB k).Nodup:=by
 unfold eB;rw [List.Nodup,List.pairwise_map];exact List.nodup_range.imp (λh e=>h (by exact_mod_cast e))
def Bp (l:Fo):Nat->Nat->Nat
 | k,0=>k
 | k,f+1=>if (k:Int)∈aF l then Bp l (k+1) f else k
def low (l:Fo):Nat:=Bp l 0 (l.length+1)
theorem uL {l:Fo}(h:(k:Int)∉aF l)(hb:∀j:Nat,j<k->(j:Int)∈aF l):∀(f j:Nat),j<=k->k<j+f->Bp l j f=k
 | 0,j,h1,h2=>by omega
 | f+1,j,h1,h2=>by
  unfold Bp;by_cases e:j=k
  ·subst e;rw [if_neg h]
  ·rw [if_pos (hb j (by omega))]
   exact uL h hb f (j+1) (by omega) (by omega)
theorem Ao (l:Fo):(aF l).length=l.length:=by simp [aF]
theorem gI {l:Fo}(hb:∀j:Nat,j<k->(j:Int)∈aF l):k<=l.length:=by
 have:=o_ (jd k) (B:=aF l) (λx hx=>by
  have:=lR.1 hx
  have e:x=(x.toNat:Int):=by omega
  rw [e];exact hb _ (by omega))
 rw [me,Ao] at this;exact this
theorem sR {l:Fo}(h:(k:Int)∉aF l)(hb:∀j:Nat,j<k->(j:Int)∈aF l):low l=k:=by
 have:=gI hb
 exact uL h hb _ 0 (Nat.zero_le _) (by omega)
theorem xE (l:Fo):∃k:Nat,(k:Int)∉aF l/\∀j:Nat,j<k->(j:Int)∈aF l:=by
 have:∀n:Nat,(∃k:Nat,(k:Int)∉aF l/\∀j:Nat,j<k->(j:Int)∈aF l)\/∀j:Nat,j<n->(j:Int)∈aF l:=by
  intro n;induction n with
  | zero=>exact .inr (λj h=>by omega)
  | succ n ih =>
   rcases ih with h|h
   ·exact .inl h
   ·by_cases hn:(n:Int)∈aF l
    ·refine .inr (λj hj=>?_)
     by_cases e:j=n
     ·rw [e];exact hn
     ·exact h j (by omega)
    ·exact .inl ⟨n,hn,h⟩
 rcases this (l.length+1) with h|h
 ·exact h
 ·have:=gI h;omega
theorem fx (l:Fo):(low l:Int)∉aF l:=by
 obtain⟨k,h1,h2⟩:=xE l
 rw [sR h1 h2];exact h1
theorem vB {l:Fo}{j:Nat}(h:j<low l):(j:Int)∈aF l:=by
 obtain⟨k,h1,h2⟩:=xE l
 rw [sR h1 h2] at h;exact h2 j h
theorem tI {l:Fo}(h:Ok m l)(hl:l.length<m):low l<m:=by
 have:=gI (l:=l) (k:=low l) (λj hj=>vB hj)
 omega
theorem fY {X:List Tk}(x:Tk)(h:k<X.length):tk (X.set k x) (k:Int)=x:=by
 unfold tk;simp [h]
theorem dY {X:List Tk}(x:Tk){n:Int}(h0:0<=n)(h:n≠(k:Int)):tk (X.set k x) n=tk X n:=by
 unfold tk;rw [List.getElem?_set_ne (by omega)]
def Ju (X:List Tk):List Int->List Tk
 | []=>X
 | a::A=>Ju (X.set a.toNat tz) A
theorem gH {l:Fo}(h:Ok m l){k:Int}(hk:k∈aF l):0<=k:=(h.range k hk).1
def eG (X:List Tk)(l:Fo)(o:Int):Bool:=(aF l).any (λn=>decide (ob X n=o))
def bn (X:List Tk)(l:Fo)(c:Cp):Bool:=(aF l).any (λn=>decide ((tk X n).1=c))
theorem fR {X:List Tk}{l:Fo}{o:Int}:eG X l o=true↔∃n∈aF l,ob X n=o:=by unfold eG;simp
theorem bW {X:List Tk}{l:Fo}{c:Cp}:bn X l c=true↔∃n∈aF l,(tk X n).1=c:=by unfold bn;simp
theorem fG {X:List Tk}{l:Fo}{c:Cp}(h:bn X l c=true):eG X l c.1=true:=by
 obtain⟨n,hn,e⟩:=bW.1 h
 exact fR.2 ⟨n,hn,by unfold ob;rw [e]⟩
theorem Inv.add {X:List Tk}{l:Fo}(h:Inv m X l){p:Int}{c:Cp}(hk:k<m)(hn:(k:Int)∉aF l)(hc:bn X l c=false)(hw:c.2.1<az/\c.2.2<az)(hv:bK r=true)
  (hp:(p=-1/\eG X l c.1=false)\/(p∈aF l/\ob X p=c.1/\aS r (rg X p)=true)):Inv m (X.set k (c,r)) (l++[((k:Int),p)]):=by
 have hlen:k<X.length:=by rw [h.len];exact hk
 have hs:=fY (X:=X) (c,r) hlen
 have ho:∀a∈aF l,tk (X.set k (c,r)) a=tk X a:=λa ha=>dY _ (gH h.ok ha) (λe=>hn (e ▸ ha))
 have hN:∀a,a∈aF (l++[((k:Int),p)])↔a∈aF l\/a=(k:Int):=λa=>by rw [cT,List.mem_append,List.mem_singleton]
 have hC:∀a∈aF l,(tk X a).1≠c:=λa ha e=>by
  have:=bW.2 ⟨a,ha,e⟩;rw [hc] at this;cases this
 have hpn:p≠(k:Int):=by
  rcases hp with ⟨rfl,_⟩|⟨hp,_⟩
  ·omega
  ·exact λe=>hn (e ▸ hp)
 have hob:∀a∈aF l,ob (X.set k (c,r)) a=ob X a:=λa ha=>by unfold ob;rw [ho a ha]
 have fa:∀a∈aF l,rg (X.set k (c,r)) a=rg X a:=λa ha=>by unfold rg;rw [ho a ha]
 have hobk:ob (X.set k (c,r)) (k:Int)=c.1:=by unfold ob;rw [hs]
 have hrgk:rg (X.set k (c,r)) (k:Int)=r:=by unfold rg;rw [hs]
 refine⟨h.ok.add (by omega) (by omega) hn (hp.imp (·.1) (·.1)),by rw [List.length_set];exact h.len,?_,?_,?_,?_,?_⟩
 ·intro a ha b hb e
  rcases (hN a).1 ha with ha|rfl<;>rcases (hN b).1 hb with hb|rfl
  ·rw [ho a ha,ho b hb] at e;exact h.one a ha b hb e
  ·rw [ho a ha,hs] at e;exact absurd e (hC a ha)
  ·rw [ho b hb,hs] at e;exact absurd e.symm (hC b hb)
  ·rfl
 ·intro a ha
  rcases (hN a).1 ha with ha|rfl
  ·rw [fa a ha];exact h.val a ha
  ·rw [hrgk];exact hv
 ·intro n q hq h1
  rw [List.mem_append,List.mem_singleton,Prod.mk.injEq] at hq;rcases hq with hq|⟨rfl,rfl⟩
  ·have hn1:=aL.2 ⟨q,hq⟩
   have hq1:q∈aF l:=(h.ok.up hq).resolve_left h1
   rw [hob n hn1,hob q hq1,fa n hn1,fa q hq1];exact h.up n q hq h1
  ·rcases hp with ⟨h2,_⟩|⟨hp1,hp2,hp3⟩
   ·exact absurd h2 h1
   ·rw [hobk,hrgk,hob _ hp1,fa _ hp1]
    exact⟨hp2.symm,hp3⟩
 ·intro a b ha hb e
  rw [List.mem_append,List.mem_singleton,Prod.mk.injEq] at ha hb;rcases ha with ha|⟨rfl,hpa⟩<;>rcases hb with hb|⟨rfl,hpb⟩
  ·rw [hob a (aL.2 ⟨_,ha⟩),hob b (aL.2 ⟨_,hb⟩)] at e
   exact h.root a b ha hb e
  ·rcases hp with ⟨_,hf⟩|⟨hp1,_⟩
   ·rw [hobk,hob a (aL.2 ⟨_,ha⟩)] at e
    have:=fR.2 ⟨a,aL.2 ⟨_,ha⟩,e⟩
    rw [hf] at this;cases this
   ·have:=gH h.ok hp1;omega
  ·rcases hp with ⟨_,hf⟩|⟨hp1,_⟩
   ·rw [hobk,hob b (aL.2 ⟨_,hb⟩)] at e
    have:=fR.2 ⟨b,aL.2 ⟨_,hb⟩,e.symm⟩
    rw [hf] at this;cases this
   ·have:=gH h.ok hp1;omega
  ·rfl
 ·intro a ha
  rcases (hN a).1 ha with ha|rfl
  ·rw [ho a ha];exact h.wide a ha
  ·rw [hs];exact hw
theorem Inv.init (m:Nat):Inv m (List.replicate m tz) []:=by
 refine⟨Ok.nil,by simp,?_,?_,?_,?_,?_⟩
 ·intro a ha;cases ha
 ·intro a ha;cases ha
 ·intro n p hp;cases hp
 ·intro a b ha;cases ha
 ·intro a ha;cases ha
theorem Inv.Ec {X:List Tk}{l:Fo}(h:Inv m X l):∀n∈aF l,∃r,(r,-1)∈l/\ob X r=ob X n/\n∈G true l r:=by
 refine EN h.ok (P:=λn=>∃r,(r,-1)∈l/\ob X r=ob X n/\n∈G true l r) (λn p hn ih=>?_)
 by_cases hp:p=-1
 ·subst hp
  exact⟨n,hn,rfl,xX h.ok (aL.2 ⟨_,hn⟩)⟩
 ·have hp1:p∈aF l:=(h.ok.up hn).resolve_left hp
  obtain⟨r,hr,ho,hG⟩:=ih hp1
  exact⟨r,hr,by rw [ho,(h.up n p hn hp).1],EX h.ok hn r (aL.2 ⟨_,hr⟩) hG⟩
end Go.Proofs.YtmhinfbkmjdgfaaGreatDoor
namespace Go.Proofs.YtmhinfbkmjdgfaaGreatDoor
open Go.RowKit
variable {p:Addr}{L M xs:List Value}{b b' base c cap g gb m n o o' size:Nat}{S T:Nat->Prop}{a a':Option Addr}{e:TypeId}{u v:Value}{W w w' w1:World}
theorem ae {p:Prop}(h:p):Hid p:=h
theorem aQ {k:IntKind}{a b:Int}(h:a=b):Ending.returned (.int k a)=.returned (.int k b):=by rw [h]
theorem aA {a b:Bool}(h:a=b):Ending.returned (.bool a)=.returned (.bool b):=by rw [h]
theorem ag (w:World)(o:Obj):Below w.heap.size w (w.alloc o):=(Below.refl _ _).alloc (Nat.le_refl _) _
theorem aB (w:World)(o p:Obj):Below w.heap.size w ((w.alloc o).alloc p):=(ag _ _).alloc (by simp) _
theorem aa (h:Below w.heap.size w W)(hb:Below W.heap.size W w1):Below w.heap.size w w1:=h.trans (hb.mono h.size)
theorem rA {w2:World}{row:Option Nat}(h:Below w.heap.size w w1)(hgr:w1.grownBy w2 row)(hg:∀k,row=some k->w.heap.size<=k):Below w.heap.size w w2 :=
 h.grown hgr h.size hg
theorem aY (g i:Nat):(⟨g,0,none⟩:Addr).add i=⟨g,i,none⟩:=by unfold Addr.add;split<;>simp_all
theorem bq (g o i:Nat):(⟨g,o,none⟩:Addr).add i=⟨g,o+i,none⟩:=by unfold Addr.add;split<;>simp_all
theorem DF:(Tryz.prog.info? 3).map (λi=>(i.zero,i.size,i.bytes))=some (some (ab 0),1,8):=by kernel_rfl
def aM (w:World)(p:Addr)(v:Value):Prop:=w.cell? p=some v/\w.frozen? p=false
theorem aM.later (hb:Below W.heap.size W w1)(h:aM W p v):aM w1 p v :=
 ⟨cell_later hb h.1,by rw [hb.frozen (World.block_lt_of_cell? _ _ h.1)];exact h.2⟩
def ints (l:List Int):List Value:=l.map λ(n:Int)=>Value.int .i64 n
theorem eN (l:List Int):(ints l).length=l.length:=by simp [ints]
theorem fZ (l m:List Int):ints (l++m)=ints l++ints m:=by simp [ints]
theorem mx (l:List Int)(i:Nat)(h:i<l.length):(ints l)[i]?=some (ab l[i]):=by simp [ints,h]
structure aj (S:Nat->Prop)(w w':World):Prop where
 os:w'.os=w.os
 tape:w'.tape=w.tape
 output:w'.output=w.output
 size:w.heap.size<=w'.heap.size
 block:∀k,k<w.heap.size->¬S k->w'.heap[k]?=w.heap[k]?
theorem aj.refl (S:Nat->Prop)(w:World):aj S w w:=⟨rfl,rfl,rfl,Nat.le_refl _,λ_ _ _=>rfl⟩
theorem aj.trans {a b c:World}(h:aj S a b)(k:aj S b c):aj S a c :=
 ⟨k.os.trans h.os,k.tape.trans h.tape,k.output.trans h.output,Nat.le_trans h.size k.size,λi hi hn=>(k.block i (Nat.lt_of_lt_of_le hi h.size) hn).trans (h.block i hi hn)⟩
theorem aj.of (h:Below w.heap.size w w'):aj S w w':=⟨h.os,h.tape,h.output,h.size,λk hk _=>h.block k hk⟩
theorem aj.call (h:aj S w W)(hb:Below W.heap.size W w'):aj S w w':=h.trans (aj.of hb)
theorem aj.below (h:Below w.heap.size w W)(hb:aj S W w')(hS:∀k,S k->w.heap.size<=k):Below w.heap.size w w' :=
 ⟨hb.os.trans h.os,hb.tape.trans h.tape,hb.output.trans h.output,Nat.le_trans h.size hb.size,λk hk=>(hb.block k (Nat.lt_of_lt_of_le hk h.size) (λhs=>by have:=hS k hs;omega)).trans (h.block k hk)⟩
theorem aj.mono (h:aj S w w')(hS:∀k,S k->T k):aj T w w':=⟨h.os,h.tape,h.output,h.size,λk hk hn=>h.block k hk (λhs=>hn (hS k hs))⟩
theorem aj.setCell {a:World}(h:aj S a w)(hp:S p.block)(u:Value):aj S a (w.setCell p u) :=
 h.trans ⟨rfl,rfl,rfl,by simp [World.setCell],λk hk hn=>Below.heap_setCell _ _ _ _ (λe=>hn (e ▸ hp))⟩
theorem aj.alloc {a:World}(h:aj S a w)(o:Obj):aj S a (w.alloc o):=h.call (ag _ _)
theorem aj.put {a:World}(h:aj S a w)(hp:a.heap.size<=p.block)(u:Value):aj S a (w.setCell p u) :=
 ⟨h.os,h.tape,h.output,by simpa using h.size,λk hk hn=>by rw [Below.heap_setCell _ _ _ _ (by omega)];exact h.block k hk hn⟩
theorem aj.setCells (hp:S b):∀(vs:List Value) (o:Nat) {a w:World},aj S a w->aj S a (w.setCells b o vs)
 | [],_,_,_,h=>h
 | v::r,o,_,_,h=>aj.setCells hp r (o+1) (h.setCell (p:=⟨b,o,none⟩) hp v)
theorem dE (b:Nat):∀(vs:List Value) (o:Nat) (w:World),(w.setCells b o vs).heap.size=w.heap.size
 | [],_,_=>rfl
 | v::r,o,w=>by rw [World.setCells,dE b r];simp [World.setCell]
theorem aM.but (hb:aj S w w')(h:aM w p v)(hn:¬S p.block):aM w' p v:=by
 have hk:=hb.block p.block (World.block_lt_of_cell? _ _ h.1) hn
 exact⟨by rw [World.cell?_of_block hk];exact h.1,by rw [World.frozen?_of_block hk];exact h.2⟩
theorem aM.put (h:aM w p v):aM (w.setCell p u) p u :=
 ⟨World.cell?_setCell_same _ _ _ h.1,by have:=h.2;simpa using this⟩
theorem aM.other {q:Addr}(h:aM w p v)(hne:q≠p):aM (w.setCell q u) p v :=
 ⟨by rw [World.cell?_setCell_other _ _ _ _ hne];exact h.1,by have:=h.2;simpa using this⟩
theorem an (hb:aj S w w')(h:w.cell? p=some v)(hn:¬S p.block):w'.cell? p=some v:=by
 rw [World.cell?_of_block (hb.block p.block (World.block_lt_of_cell? _ _ h) hn)];exact h
theorem aj.comp {a b c:World}(h:aj S a b)(k:aj T b c)(hT:∀i,T i->S i\/a.heap.size<=i):aj S a c :=
 ⟨k.os.trans h.os,k.tape.trans h.tape,k.output.trans h.output,Nat.le_trans h.size k.size,λi hi hn=>(k.block i (Nat.lt_of_lt_of_le hi h.size) (λht=>by rcases hT i ht with h1|h1;exact hn h1;omega)).trans (h.block i hi hn)⟩
structure Row (w:World)(a:Option Addr)(n cap:Nat)(L:List Value):Prop where
 len:L.length=n
 cap_:n<=cap
 none_:a=none->n=0/\cap=0
 cells:∀x,a=some x->∀j u,L[j]?=some u->w.cell? (x.add j)=some u
 one:∀u∈L,u.oneCell'=true
theorem Row.later (hb:Below W.heap.size W w1)(h:Row W a n cap L):Row w1 a n cap L :=
 ⟨h.len,h.cap_,h.none_,λx hx j u hu=>cell_later hb (h.cells x hx j u hu),h.one⟩
theorem Row.alloc (h:Row w a n cap L)(o:Obj):Row (w.alloc o) a n cap L:=h.later (ag _ _)
theorem bh (w:World):Row w none 0 0 []:=⟨rfl,Nat.le_refl _,λ_=>⟨rfl,rfl⟩,λ_ h=>(by cases h),λ_ h=>(by cases h)⟩
def aI (a:Option Addr)(k:Nat):Prop:=∃x,a=some x/\x.block=k
theorem nV (x:Addr)(j:Nat):(x.add j).block=x.block:=by unfold Addr.add;split<;>rfl
theorem Row.but (hb:aj S w w')(h:Row w a n cap L)(hn:∀k,aI a k->¬S k):Row w' a n cap L :=
 ⟨h.len,h.cap_,h.none_,λx hx j u hu=>an hb (h.cells x hx j u hu) (by rw [nV];exact hn _ ⟨x,hx,rfl⟩),h.one⟩
theorem Row.plain (h:Row w a n cap L)(hl:0<n):∃b o,a=some ⟨b,o,none⟩/\∀i v,L[i]?=some v->w.cell? ⟨b,o+i,none⟩=some v:=by
 cases a with
 | none=>have:=h.none_ rfl;omega
 | some x =>
  obtain⟨b,o,spot⟩:=x
  have hlen:=h.len
  have h0:=h.cells _ rfl 0 _ (List.getElem?_eq_getElem (by omega))
  have hs:spot=none:=by simpa [Addr.add] using World.cell?_spot h0
  subst hs;refine⟨b,o,rfl,λi v hi=>?_⟩
  have:=h.cells _ rfl i _ hi
  rw [bq] at this;exact this
theorem Row.at (hl:L.length=n)(hc:n<=cap)(hs:∀x∈L,x.oneCell'=true)(h:∀i v,L[i]?=some v->w.cell? ⟨b,o+i,none⟩=some v):Row w (some ⟨b,o,none⟩) n cap L:=by
 refine⟨hl,hc,λh=>(by cases h),λx hx j u hu=>?_,hs⟩
 cases hx
 rw [bq];exact h j u hu
theorem Row.sub (h:Row w a n cap L)(hm:m<=n)(hc:m<=c)(h0:a=none->c=0):Row w a m c (L.take m) :=
 ⟨by rw [List.length_take,h.len];omega,hc,λe=>⟨by have:=h.none_ e;omega,h0 e⟩,λx hx j u hu=>h.cells x hx j u (by
  rw [List.getElem?_take] at hu;split at hu
  ·exact hu
  ·cases hu),λu hu=>h.one u (List.mem_of_mem_take hu)⟩
structure Own (w:World)(base:Nat)(e:TypeId)(a:Option Addr)(n cap:Nat)(L:List Value):Prop where
 row:w.ownsRow base e 1 (.slice a n cap) n L
 one:∀u∈L,u.oneCell'=true
theorem Own.len (h:Own w base e a n cap L):L.length=n:=by
 have:=h.row.1
 rw [Nat.mul_one] at this;exact this
theorem Own.read (h:Own w base e a n cap L):Row w a n cap L:=by
 refine⟨h.len,?_,?_,?_,h.one⟩
 ·rcases h.row.2 with ⟨h,hn⟩|⟨g,c,cur,hv,_,_,hc,_⟩
  ·omega
  ·simp only [Value.slice.injEq] at hv;omega
 ·intro ha
  rcases h.row.2 with ⟨h,hn⟩|⟨g,c,cur,hv,_,_,hc,_⟩
  ·simp only [Value.slice.injEq] at h;omega
  ·subst ha;simp at hv
 ·intro x hx j u hu
  rcases h.row.2 with ⟨h,hn⟩|⟨g,c,cur,hv,_,_,hc,_⟩
  ·subst hx;simp at h
  ·subst hx
   simp only [Value.slice.injEq,Option.some.injEq] at hv;obtain⟨rfl,_,rfl⟩:=hv
   exact h.row.cells (g:=g) rfl j u hu
theorem jf (hb:aj S W w1)(h:W.ownsRow base e size v n xs)(hn:∀k,v.ownBlock=some k->¬S k):w1.ownsRow base e size v n xs:=by
 refine⟨h.1,?_⟩
 rcases h.2 with h|⟨g,cap,cur,hv,hg,hh,r⟩
 ·exact .inl h
 ·have hlt:g<W.heap.size:=by
   rcases Nat.lt_or_ge g W.heap.size with h1|h1
   ·exact h1
   ·rw [Array.getElem?_eq_none h1] at hh;cases hh
  exact .inr ⟨g,cap,cur,hv,hg,by rw [hb.block g hlt (hn g (by rw [hv];simp [Value.ownBlock]))];exact hh,r⟩
theorem fc (h:w.ownsRow b e size v n xs)(hb:b'<=b):w.ownsRow b' e size v n xs:=by
 refine⟨h.1,?_⟩
 rcases h.2 with h|⟨g,cap,cur,hv,hg,r⟩
 ·exact .inl h
 ·exact .inr ⟨g,cap,cur,hv,Nat.le_trans hb hg,r⟩
theorem bD (h:w.ownsRow base e size v n xs):∀k,v.ownBlock=some k->base<=k/\k<w.heap.size:=by
 intro k hk;rcases h.2 with ⟨rfl,_⟩|⟨g,cap,cur,rfl,hg,hh,_⟩
 ·cases hk
 ·simp [Value.ownBlock] at hk
  subst hk;exact⟨hg,(Array.getElem?_eq_some_iff.1 hh).1⟩
theorem aI.of {k:Nat}:(Value.slice a n cap).ownBlock=some k↔aI a k:=by
 cases a with
 | none=>simp [Value.ownBlock,aI]
 | some x=>simp [Value.ownBlock,aI]
theorem Own.but (hb:aj S W w1)(h:Own W base e a n cap L)(hn:∀k,aI a k->¬S k):Own w1 base e a n cap L :=
 ⟨jf hb h.row (λk hk=>hn k (aI.of.1 hk)),h.one⟩
theorem Own.later (hb:Below W.heap.size W w1)(h:Own W base e a n cap L):Own w1 base e a n cap L :=
 h.but (S:=λ_=>False) (aj.of hb) (λ_ _ h=>h)
theorem Own.alloc (h:Own w base e a n cap L)(o:Obj):Own (w.alloc o) base e a n cap L:=h.later (ag _ _)
theorem Own.mono (h:Own w base e a n cap L)(hb:b<=base):Own w b e a n cap L:=⟨fc h.row hb,h.one⟩
theorem Own.nil (w:World)(base:Nat)(e:TypeId):Own w base e .none 0 0 []:=⟨⟨rfl,.inl ⟨rfl,rfl⟩⟩,λ_ h=>(by cases h)⟩
theorem Own.dB (h:Own w base e a n cap L):∀k,aI a k->base<=k:=λk hk=>(bD h.row k (aI.of.2 hk)).1
theorem Own.lt (h:Own w base e a n cap L):∀k,aI a k->k<w.heap.size:=λk hk=>(bD h.row k (aI.of.2 hk)).2
structure Gr (a a':Option Addr)(w w':World):Prop where
 but:aj (aI a) w w'
 on:∀k,aI a' k->aI a k\/w.heap.size<=k
theorem Gr.refl (a:Option Addr)(w:World):Gr a a w w:=⟨aj.refl _ _,λ_ h=>.inl h⟩
theorem Gr.trans {a'':Option Addr}{w'':World}(h:Gr a a' w w')(k:Gr a' a'' w' w''):Gr a a'' w w'' :=
 ⟨h.but.comp k.but h.on,λi hi=>by
  rcases k.on i hi with h1|h1
  ·exact h.on i h1
  ·exact .inr (Nat.le_trans h.but.size h1)⟩
theorem Gr.pre (h:Below w.heap.size w W)(k:Gr a a' W w'):Gr a a' w w' :=
 ⟨(aj.of h).trans k.but,λi hi=>by
  rcases k.on i hi with h1|h1
  ·exact .inl h1
  ·exact .inr (Nat.le_trans h.size h1)⟩
theorem Gr.below (h:Own w base e a n cap L)(g:Gr a a' w w')(hb:base<=w.heap.size):Below base w w' :=
 ⟨g.but.os,g.but.tape,g.but.output,g.but.size,λk hk=>g.but.block k (by omega) (λhs=>by have:=h.dB k hs;omega)⟩
theorem lq (t e:TypeId)(z:Value)(aE:Nat)(ht:Tryz.prog.underlying t=some (.slice e))(hinf:(Tryz.prog.info? e).map (λi=>(i.zero,i.size,i.bytes))=some (some z,1,aE))(hzs:z.cells.size=1)
       {b:Option Addr}   (h:Own w base e a n cap L) (k:Row w b m c M) (hb:base<=w.heap.size) (hr:(n+m)*aE<=140737488355328) (hr2:n+m<=140737488355328) :
  ∃a' cap' w',(Builtin.append_ #[t,t] t #[.slice a n cap,.slice b m c]).run Tryz.prog w=.ok (.slice a' (n+m) cap') w'/\Own w' base e a' (n+m) cap' (L++M)/\Gr a a' w w':=by
 obtain⟨i,hi,hz0,hz1,hz2⟩:=info_parts hinf
 have hsm:∀x∈L++M,x.oneCell'=true:=λx hx=>by
  rcases List.mem_append.1 hx with h1|h1
  ·exact h.one x h1
  ·exact k.one x h1
 cases b with
 | none =>
  obtain⟨rfl,rfl⟩:=k.none_ rfl
  have hM:M=[]:=List.eq_nil_of_length_eq_zero k.len
  subst hM;have hr:=run_append_owned_none (P:=Tryz.prog) (w:=w) base t t e i 1 ht hi _ n _ h.row
  exact⟨a,cap,w,hr,⟨by simpa using h.row,hsm⟩,Gr.refl _ _⟩
 | some x =>
  obtain⟨v',w',hr,h2,h3,_,h5⟩:=run_append_own_at (P:=Tryz.prog) w base t t e i _ 1 aE ht hi hz0 hz1 hz2 hzs (by decide) _ n _ h.row x m c M (by rw [k.len,Nat.mul_one]) (k.cells x rfl) k.one (by unfold maxLen;omega) hr hb
  obtain⟨a',cap',rfl⟩:∃a' cap',v'=.slice a' (n+m) cap':=by
   rcases h2.2 with ⟨h,h'⟩|⟨g',cap',_,h,_⟩
   ·exact⟨.none,0,by rw [h,h']⟩
   ·exact⟨_,cap',h⟩
  refine⟨a',cap',w',hr,⟨h2,hsm⟩,⟨h3.os,h3.tape,h3.output,h3.size,λj hj hn=>h3.block j hj (λe=>hn (aI.of.1 e.symm))⟩,λj hj=>?_⟩
  rcases h5 with h5|h5
  ·rw [aI.of.2 hj] at h5
   exact .inl (aI.of.1 h5.symm)
  ·rw [aI.of.2 hj] at h5
   right
   simp at h5
   omega
theorem j9 (t e:TypeId)(z:Value)(aE:Nat)(ht:Tryz.prog.underlying t=some (.slice e))(hinf:(Tryz.prog.info? e).map (λi=>(i.zero,i.size,i.bytes))=some (some z,1,aE))(hzs:z.cells.size=1)
      {x:Addr}   (h:Row w (some p) n n L) (k:Row w (some x) m c M) (hm:0<m) (hr:(n+m)*aE<=140737488355328) (hr2:n+m<=140737488355328) :
  ∃g' cap' w',(Builtin.append_ #[t,t] t #[.slice (some p) n n,.slice (some x) m c]).run Tryz.prog w=.ok (.slice (some ⟨g',0,none⟩) (n+m) cap') w'/\Own w' w.heap.size e (some ⟨g',0,none⟩) (n+m) cap' (L++M)/\Below w.heap.size w w':=by
 obtain⟨i,hi,hz0,hz1,hz2⟩:=info_parts hinf
 have hl:=h.len
 have hlm:=k.len
 have hrun:=run_append_grow (P:=Tryz.prog) w t t e i z ht hi hz0 p n n L (by rw [hz1,Nat.mul_one];exact hl) (h.cells p rfl) x m c M (by rw [hz1,Nat.mul_one];exact hlm) (k.cells x rfl) (by omega) (by omega) (growslice_fits (by omega) (by rw [hz2];omega))
 refine⟨_,_,_,hrun,⟨⟨by simp [hl,hlm],.inr ⟨w.heap.size,_,_,rfl,Nat.le_refl _,heap_alloc_new w.drew _,grownCap_ge _ _ _ _,grownCap_le_maxLen _ _ _ _ (by unfold maxLen;omega),?_,?_⟩⟩,λu hu=>?_⟩,((Below.refl _ _).drew).alloc (by simp) _⟩
 ·have:=grownCap_ge w (n+m) n e
  simp only [Array.size_append,List.size_toArray,size_zeroCells,hzs,hl,hlm];omega
 ·rw [Nat.mul_one,Array.toList_append,Array.toList_append]
  exact List.take_left' (by simp [hl,hlm])
 ·rcases List.mem_append.1 hu with h1|h1
  ·exact h.one u h1
  ·exact k.one u h1
theorem aw {P:Program}{ops:Array Oper}{rest:List Oper}{o:Oper}{a:Act}{Q:Exit->Act->World->Prop}(hgd:o.guard=none)(s x:Operand)(t:TypeId)
  (ho:o.op=.call { callee:=.builtin .append,args:=#[s,x],argTypes:=#[t,t] }) (vs vx:Value) (hs:a.eval s=vs) (hx:a.eval x=vx) (v':Value) (w':World)
  (hr:(Builtin.append_ #[t,t] o.type #[vs,vx]).run P w=.ok v' w') (h:wpList P ops Q rest (a.put o.dst v') w'):wpList P ops Q (o::rest) a w:=by
 refine wpList_plain hgd λK hK=>?_
 unfold Oper.wp execOp;simp only [ho,resolve,invoke,builtin,Sem.run_bind,Sem.run_pure,Result.andThen_ok,List.map_toArray,List.map_cons,List.map_nil,hs,hx,hr];exact hK _ _ h
theorem Row.single (w:World)(e:TypeId)(v:Value)(hv:v.oneCell'=true):Row (w.alloc (Obj.cells #[v] e)) (some ⟨w.heap.size,0,.none⟩) 1 1 [v] :=
 Row.at (L:=[v]) rfl (Nat.le_refl _) (λx hx=>by simp at hx;subst hx;exact hv) (λi u hu=>by
  cases i with
  | zero=>simp at hu;subst hu;simp [go_sem]
  | succ i=>simp at hu)
structure Pn (w:World)(b o:Nat)(x:Nd):Prop where
 c0:w.cell? ⟨b,o,none⟩=some (.bool x.th)
 c1:w.cell? ⟨b,o+1,none⟩=some (ab x.pa)
 c2:w.cell? ⟨b,o+2,none⟩=some (ab x.fi)
 c3:w.cell? ⟨b,o+3,none⟩=some (ab x.be)
theorem Pn.but {x:Nd}(hb:aj S w w')(h:Pn w b o x)(hn:¬S b):Pn w' b o x :=
 ⟨an hb h.c0 hn,an hb h.c1 hn,an hb h.c2 hn,an hb h.c3 hn⟩
structure Tm (w:World)(g gb m:Nat)(N:List Nd):Prop where
 a0:w.cell? ⟨g,0,none⟩=some (.slice (some ⟨gb,0,none⟩) m m)
 fr:∀j,w.frozen? ⟨gb,j,none⟩=false
 at_:∀(i:Nat) (x:Nd),N[i]?=some x->Pn w gb (i*4) x
 ne:g≠gb
 pB:gb<w.heap.size
 len:N.length=m
 gJ:m<=1024
theorem Tm.lt {N:List Nd}(h:Tm w g gb m N):g<w.heap.size:=World.block_lt_of_cell? _ _ h.a0
theorem Tm.but {N:List Nd}(hb:aj S w w')(h:Tm w g gb m N)(h1:¬S g)(h2:¬S gb):Tm w' g gb m N :=
 ⟨an hb h.a0 h1,λj=>by rw [World.frozen?_of_block (w:=w) (hb.block gb h.pB h2)];exact h.fr j,λi p hp=>(h.at_ i p hp).but hb h2,h.ne,Nat.lt_of_lt_of_le h.pB hb.size,h.len,h.gJ⟩
theorem Tm.later {N:List Nd}(hb:Below w.heap.size w w')(h:Tm w g gb m N):Tm w' g gb m N:=h.but (S:=λ_=>False) (aj.of hb) (λh=>h) (λh=>h)
theorem ax (h:w.cell? ⟨b,o,none⟩=some v)(hne:o≠o'):(w.setCell ⟨b,o',none⟩ u).cell? ⟨b,o,none⟩=some v:=by
 rw [World.cell?_setCell_other _ _ _ _ (λe=>hne (by cases e;rfl))];exact h
theorem iC (h:w.cell? ⟨b,o,none⟩=some v)(hne:b≠b'):(w.setCell ⟨b',o',none⟩ u).cell? ⟨b,o,none⟩=some v:=by
 rw [World.cell?_setCell_other _ _ _ _ (λe=>hne (by cases e;rfl))];exact h
theorem lG {N:List Nd}(h:Tm w g gb m N)(n:Nat)(hn:n<m) :
  Calls Tryz.prog 404 #[aq g,ab (n:Int)] w λe w'=>e=.returned (.pointer (some ⟨gb,n*4,none⟩))/\w'=w:=by
 have x:=h.a0
 have hb:=h.gJ
 clear h;have h1:¬(n:Int)<0:=by omega
 have h2:¬(m:Int)<=(n:Int):=by omega
 go_enter Tryz.func404,Tryz.ntmps404
 go_wp2;go_ret;exact⟨by simp,rfl⟩
theorem xO {N:List Nd}(h:Tm w g gb m N)(n:Int)(hn:n<0\/(m:Int)<=n) :
  Calls Tryz.prog 404 #[aq g,ab n] w λe w'=>e=.returned (.pointer none)/\w'=w:=by
 have x:=h.a0
 have hb:=h.gJ
 clear h;by_cases h1:n<0
 ·clear hn
  go_enter Tryz.func404,Tryz.ntmps404
  go_wp2;go_ret;exact⟨rfl,rfl⟩
 ·have h2:(m:Int)<=n:=by omega
  clear hn;go_enter Tryz.func404,Tryz.ntmps404
  go_wp2;go_ret;exact⟨rfl,rfl⟩
def Ki (w:World)(g gb m:Nat)(l:Fo):Prop:=∃N,Tm w g gb m N/\dZ m l N
theorem Ki.later {l:Fo}(hb:Below w.heap.size w w')(h:Ki w g gb m l):Ki w' g gb m l:=by
 obtain⟨N,h1,h2⟩:=h
 exact⟨N,h1.later hb,h2⟩
theorem Ki.but {l:Fo}(hb:aj S w w')(h:Ki w g gb m l)(hg:¬S g)(hgb:¬S gb):Ki w' g gb m l:=by
 obtain⟨N,h1,h2⟩:=h
 exact⟨N,h1.but hb hg hgb,h2⟩
theorem Ki.ok {l:Fo}(h:Ki w g gb m l):Ok m l:=by
 obtain⟨N,h1,h2⟩:=h
 exact h2.ok
theorem cI {l:Fo}(h:Ki w g gb m l)(n:Int) :
  Calls Tryz.prog 356 #[aq g,ab n] w λe w'=>e=.returned (.bool (decide (n∈aF l)))/\w'=w:=by
 obtain⟨N,hT,hR⟩:=h
 by_cases hn:n<0\/(m:Int)<=n
 ·have hf:decide (n∈aF l)=false:=decide_eq_false (λhk=>by have:=hR.ok.range n hk;omega)
  rw [hf];have hc:=xO hT n hn
  clear hT hR hn;go_enter Tryz.func356,Tryz.ntmps356
  go_wp2_with (go_at_call 404;refine hc.mono ?_;rintro e w1 ⟨rfl,rfl⟩)
  go_ret;exact⟨rfl,rfl⟩
 ·obtain⟨k,rfl⟩:∃k:Nat,n=(k:Int):=⟨n.toNat,by omega⟩
  obtain⟨x,hx⟩:=get_some (L:=N) (i:=k) (by rw [hT.len];omega)
  rw [<-hR.there hx];have hc:=lG hT k (by omega)
  have c0:=(hT.at_ k x hx).c0
  clear hT hR hn;go_enter Tryz.func356,Tryz.ntmps356
  go_wp2_with (go_at_call 404;refine hc.mono ?_;rintro e w1 ⟨rfl,rfl⟩)
  go_ret;exact⟨rfl,rfl⟩
end Go.Proofs.YtmhinfbkmjdgfaaGreatDoor
