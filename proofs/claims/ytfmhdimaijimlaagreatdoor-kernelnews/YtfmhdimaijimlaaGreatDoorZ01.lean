import Derived.Test.YtfmhdimaijimlaaGreatDoorA9
import Init
import Derived.Laws.BitsAllLaws
import Derived.Laws.ShiftsVarLaws
import Derived.WalkSpells
import Derived.WalkLawsBesides
import Derived.WalkMore
import Derived.Deep.MidRow
import Derived.Deep.QuietTactic
import Derived.Deep.DeepCutAuto
import Derived.BigQuiet
import Derived.Maps.AppendAt
import Derived.Laws.AppendOwnNone
import Derived.Laws.OwnMore
import Derived.Laws.CopyRow
import Derived.Laws.IdiomCopy
set_option linter.all false
set_option maxRecDepth 1000000
set_option maxHeartbeats 8000000
open Go.Proofs.Tryz
variable {w w' w1 w2:Go.World}{n m k i j b g base kn:Nat}{a:Option Go.Addr}
namespace Go.Proofs.YtfmhdimaijimlaaGreatDoor
abbrev Fo:=List (Int×Int)
def ah (l:Fo):List Int:=l.map (·.1)
def ch (l:Fo)(p:Int):List Int:=(l.filter (λx=>decide (x.2=p))).map (·.1)
def kids (l:Fo)(p:Int):List Int:=if 0<=p then ch l p else []
def Ok (m:Nat)(l:Fo):Prop:=∀P:Fo->Prop,P []->(∀(l:Fo) (n p:Int),P l->0<=n->n<m->n∉ah l->(p=-1\/p∈ah l)->P (l++[(n,p)]))->P l
theorem Ok.nil:Ok m []:=λ_ h0 _=>h0
theorem Ok.add {m:Nat}{l:Fo}{n p:Int}(h:Ok m l)(h0:0<=n)(h1:n<m)(h2:n∉ah l)(h3:p=-1\/p∈ah l):Ok m (l++[(n,p)]):=λP hn ha=>ha l n p (h P hn ha) h0 h1 h2 h3
theorem Ok.ind {P:Fo->Prop}{l:Fo}(h:Ok m l)(hn:P [])(ha:∀(l:Fo) (n p:Int),Ok m l->P l->0<=n->n<m->n∉ah l->(p=-1\/p∈ah l)->P (l++[(n,p)])):P l :=
 (h (λl=>Ok m l/\P l) ⟨Ok.nil,hn⟩ (λl n p ih h0 h1 h2 h3=>⟨ih.1.add h0 h1 h2 h3,ha l n p ih.1 ih.2 h0 h1 h2 h3⟩)).2
theorem cQ (l:Fo)(n p:Int):ah (l++[(n,p)])=ah l++[n]:=by simp [ah]
theorem pY (l:Fo)(n p q:Int):ch (l++[(n,p)]) q=ch l q++(if p=q then [n] else []):=by
 unfold ch
 rw [List.filter_append,List.map_append]
 congr 1
 by_cases h:p=q<;>simp [h]
theorem bl {l:Fo}{p k:Int}:k∈ch l p↔(k,p)∈l:=by
 unfold ch
 simp only [List.mem_map,List.mem_filter,decide_eq_true_eq]
 constructor
 ·rintro ⟨⟨a,b⟩,⟨h1,h2⟩,h3⟩
  simp only at h2 h3
  subst h2 h3
  exact h1
 ·intro h
  exact⟨(k,p),⟨h,rfl⟩,rfl⟩
theorem cE {l:Fo}{k:Int}:k∈ah l↔∃p,(k,p)∈l:=by
 unfold ah
 simp only [List.mem_map]
 constructor
 ·rintro ⟨⟨a,b⟩,h1,h2⟩
  simp only at h2
  subst h2
  exact⟨b,h1⟩
 ·rintro ⟨p,h⟩
  exact⟨_,h,rfl⟩
theorem Ok.range {l:Fo}(h:Ok m l):∀k∈ah l,0<=k/\k<m:=by
 refine Ok.ind (P:=λl=>∀k∈ah l,0<=k/\k<m) h ?_ ?_
 ·intro k hk;cases hk
 ·intro l n p h ih h0 h1 h2 h3
  intro k hk
  rw [cQ,List.mem_append,List.mem_singleton] at hk
  rcases hk with hk|rfl
  ·exact ih k hk
  ·exact⟨h0,h1⟩
theorem Ok.nodup {l:Fo}(h:Ok m l):(ah l).Nodup:=by
 refine Ok.ind (P:=λl=>(ah l).Nodup) h ?_ ?_
 ·exact List.nodup_nil
 ·intro l n p h ih h0 h1 h2 h3
  rw [cQ,List.nodup_append]
  refine⟨ih,by simp,λa ha b hb=>?_⟩
  rw [List.mem_singleton] at hb
  subst hb
  intro e
  subst e
  exact h2 ha
theorem Ok.par {l:Fo}(h:Ok m l):∀(j:Nat) (k p:Int),l[j]?=some (k,p)->p=-1\/∃(i:Nat) (q:Int),i<j/\l[i]?=some (p,q):=by
 refine Ok.ind (P:=λl=>∀(j:Nat) (k p:Int),l[j]?=some (k,p)->p=-1\/∃(i:Nat) (q:Int),i<j/\l[i]?=some (p,q)) h ?_ ?_
 ·intro j k p hj;simp at hj
 ·intro l n p h ih h0 h1 h2 h3
  intro j k q hj
  by_cases hlt:j<l.length
  ·rw [List.getElem?_append_left hlt] at hj
   rcases ih j k q hj with h|⟨i,r,hi,hr⟩
   ·exact .inl h
   ·exact .inr ⟨i,r,hi,by rw [List.getElem?_append_left (by omega)];exact hr⟩
  ·rw [List.getElem?_append_right (by omega)] at hj
   have hj0:j - l.length=0:=by
    rcases Nat.eq_zero_or_pos (j - l.length) with h|h
    ·exact h
    ·rw [List.getElem?_eq_none (by simp;omega)] at hj;cases hj
   rw [hj0] at hj
   simp only [List.getElem?_cons_zero,Option.some.injEq,Prod.mk.injEq] at hj
   obtain⟨rfl,rfl⟩:=hj
   rcases h3 with h3|h3
   ·exact .inl h3
   ·obtain⟨r,hr⟩:=cE.1 h3
    obtain⟨i,hi⟩:=List.getElem?_of_mem hr
    have:i<l.length:=(gS.1 hi).1
    exact .inr ⟨i,r,by omega,by rw [List.getElem?_append_left this];exact hi⟩
theorem Ok.up {l:Fo}(h:Ok m l){k p:Int}(hk:(k,p)∈l):p=-1\/p∈ah l:=by
 obtain⟨j,hj⟩:=List.getElem?_of_mem hk
 rcases h.par j k p hj with h|⟨i,q,_,hi⟩
 ·exact .inl h
 ·exact .inr (cE.2 ⟨q,List.mem_of_getElem? hi⟩)
theorem Ok.uniq {l:Fo}(h:Ok m l):∀{k p q:Int},(k,p)∈l->(k,q)∈l->p=q:=by
 refine Ok.ind (P:=λl=>∀{k p q:Int},(k,p)∈l->(k,q)∈l->p=q) h ?_ ?_
 ·intro k p q hk;cases hk
 ·intro l n p h ih h0 h1 h2 h3
  intro k p q h4 h5
  rw [List.mem_append,List.mem_singleton,Prod.mk.injEq] at h4 h5
  rcases h4 with h4|⟨rfl,rfl⟩<;>rcases h5 with h5|⟨h5,rfl⟩
  ·exact ih h4 h5
  ·subst h5;exact absurd (cE.2 ⟨_,h4⟩) h2
  ·exact absurd (cE.2 ⟨_,h5⟩) h2
  ·rfl
theorem tT (l:Fo)(p:Int):(ch l p).Sublist (ah l):=(List.filter_sublist).map _
theorem Ok.kQ {l:Fo}(h:Ok m l)(p:Int):(ch l p).Nodup:=List.Nodup.sublist (tT l p) h.nodup
theorem b_ {l:Fo}{p k:Int}(h:k∈ch l p):k∈ah l:=(tT l p).subset h
theorem Ok.none {l:Fo}(h:Ok m l){p:Int}(h0:0<=p)(hp:p∉ah l):ch l p=[]:=by
 apply List.eq_nil_iff_forall_not_mem.2
 intro k hk
 rcases h.up (bl.1 hk) with h1|h1
 ·omega
 ·exact hp h1
theorem sN:∀(m:Nat) (L:List Int),L.Nodup->(∀x∈L,0<=x/\x<m)->L.length<=m
 | 0,L,_,h=>by
  cases L with
  | nil=>simp
  | cons a t=>have:=h a (by simp);omega
 | m+1,L,hn,h=>by
  have h1:=sN m (L.erase (m:Int)) (hn.erase _) (λx hx=>by
   have h2:=(hn.mem_erase_iff).1 hx
   have h3:=h x h2.2
   have h4:=h2.1
   exact⟨h3.1,by omega⟩)
  by_cases hm:(m:Int)∈L
  ·rw [List.length_erase_of_mem hm] at h1
   omega
  ·rw [List.erase_of_not_mem hm] at h1
   omega
theorem Ok.len {l:Fo}(h:Ok m l):l.length<=m:=by
 have:=sN m (ah l) h.nodup h.range
 simpa [ah] using this
def cut (l:Fo)(n:Int):Fo:=l.filter (λx=>decide (x.1≠n))
theorem Dv (l:Fo)(n a p:Int):cut (l++[(a,p)]) n=cut l n++(if a=n then [] else [(a,p)]):=by
 unfold cut
 rw [List.filter_append]
 congr 1
 by_cases h:a=n<;>simp [h]
theorem kN {l:Fo}{n:Int}{x:Int×Int}:x∈cut l n↔x∈l/\x.1≠n:=by simp [cut]
theorem dD {l:Fo}{n k:Int}:k∈ah (cut l n)↔k∈ah l/\k≠n:=by
 rw [cE,cE]
 constructor
 ·rintro ⟨p,hp⟩
  have:=kN.1 hp
  exact⟨⟨p,this.1⟩,this.2⟩
 ·rintro ⟨⟨p,hp⟩,hn⟩
  exact⟨p,kN.2 ⟨hp,hn⟩⟩
theorem Ok.cut {m:Nat}{l:Fo}(h:Ok m l)(n:Int)(hc:ch l n=[]):Ok m (cut l n):=by
 refine Ok.ind (P:=λl=>ch l n=[]->Ok m (Go.Proofs.YtfmhdimaijimlaaGreatDoor.cut l n)) h ?_ ?_ hc
 ·exact λ_=>Ok.nil
 ·intro l a p h ih h0 h1 h2 h3 hc
  rw [pY] at hc
  obtain⟨hc1,hc2⟩:=List.append_eq_nil_iff.1 hc
  have hpn:p≠n:=by
   intro e
   rw [if_pos e] at hc2
   cases hc2
  rw [Dv]
  split
  ·rw [List.append_nil];exact ih hc1
  ·refine .add (ih hc1) h0 h1 (λhk=>h2 (dD.1 hk).1) ?_
   rcases h3 with h3|h3
   ·exact .inl h3
   ·exact .inr (dD.2 ⟨h3,hpn⟩)
theorem tR (l:Fo)(n q:Int):ch (cut l n) q=(ch l q).filter (λx=>decide (x≠n)):=by
 unfold ch cut
 rw [List.filter_filter,List.filter_map,List.filter_filter]
 congr 1
 apply List.filter_congr
 intro x _
 simp only [Function.comp]
 rw [Bool.and_comm]
theorem fE {c:List Int}{n:Int}(h:n∉c):c.filter (λx=>decide (x≠n))=c:=by
 rw [List.filter_eq_self]
 intro a ha
 exact dT (λe=>h (e ▸ ha))
theorem xU {c1 c2:List Int}{n:Int}(h:(c1++n::c2).Nodup):(c1++n::c2).filter (λx=>decide (x≠n))=c1++c2:=by
 rw [List.nodup_append] at h
 obtain⟨_,h2,h3⟩:=h
 rw [List.nodup_cons] at h2
 rw [List.filter_append,fE (λhk=>h3 n hk n (by simp) rfl)]
 congr 1
 rw [List.filter_cons_of_neg (by simp)]
 exact fE h2.1
structure Nd where
 th:Bool
 pa:Int
 fi:Int
 be:Int
def yr:Nd:=⟨false,0,0,0⟩
def nx (c:List Int)(i:Nat):Int:=(c[i]?).getD (-1)
structure cU (m:Nat)(l:Fo)(N:List Nd):Prop where
 len:N.length=m
 ok:Ok m l
 out:∀(k:Nat) (x:Nd),N[k]?=some x->(k:Int)∉ah l->x=yr
 yg:∀(k:Nat) (x:Nd) (p:Int),N[k]?=some x->((k:Int),p)∈l->x.th=true/\x.pa=p
 fi:∀(k:Nat) (x:Nd),N[k]?=some x->(k:Int)∈ah l->x.fi=nx (ch l k) 0
 be:∀(p:Int),0<=p->∀(i k:Nat) (x:Nd),(ch l p)[i]?=some (k:Int)->N[k]?=some x->x.be=nx (ch l p) (i+1)
theorem get_some {α:Type}{L:List α}{i:Nat}(h:i<L.length):∃p,L[i]?=some p:=⟨L[i],gE h⟩
theorem ay {α:Type}{L:List α}{x p:α}(h:(L.set i x)[j]?=some p):(i=j/\p=x)\/(i≠j/\L[j]?=some p):=by
 rw [List.getElem?_set] at h
 split at h
 ·next he =>
  split at h
  ·exact .inl ⟨he,(Option.some.inj h).symm⟩
  ·cases h
 ·next he=>exact .inr ⟨he,h⟩
theorem cU.get {l:Fo}{N:List Nd}(h:cU m l N){n:Int}(hn:n∈ah l):∃(k:Nat) (x:Nd),n=(k:Int)/\k<m/\N[k]?=some x:=by
 have hr:=h.ok.range n hn
 obtain⟨x,hx⟩:=get_some (L:=N) (i:=n.toNat) (by rw [h.len];omega)
 exact⟨n.toNat,x,by omega,by omega,hx⟩
theorem cU.there {l:Fo}{N:List Nd}(h:cU m l N){x:Nd}(hx:N[k]?=some x):x.th=decide ((k:Int)∈ah l):=by
 by_cases hk:(k:Int)∈ah l
 ·obtain⟨p,hp⟩:=cE.1 hk
  rw [(h.yg k x p hx hp).1,dT hk]
 ·rw [h.out k x hx hk,dF hk];rfl
structure dH (N:List Nd)(p:Nat)(c:List Int):Prop where
 top:∃x,N[p]?=some x/\x.fi=nx c 0
 J2:∀(i:Nat) (a:Int),c[i]?=some a->∃(k:Nat) (x:Nd),a=(k:Int)/\N[k]?=some x/\x.be=nx c (i+1)
theorem cU.chain {l:Fo}{N:List Nd}(h:cU m l N){p:Nat}(hp:(p:Int)∈ah l):dH N p (ch l p):=by
 refine⟨?_,λi a ha=>?_⟩
 ·obtain⟨k,x,hk,_,hx⟩:=h.get hp
  have:k=p:=by omega
  subst this
  exact⟨x,hx,h.fi _ _ hx hp⟩
 ·obtain⟨k,x,rfl,_,hx⟩:=h.get (b_ (List.mem_of_getElem? ha))
  exact⟨k,x,rfl,hx,h.be p (by omega) i k x ha hx⟩
def kh (p:Nat)(c:List Int):Nat->Nat
 | 0=>p
 | i+1=>(nx c i).toNat
def mV:Nat->Nat
 | 0=>2
 | _+1=>3
def Nd.put (x:Nd)(f:Nat)(v:Int):Nd:=if f=2 then { x with fi:=v } else { x with be:=v }
def bR (N:List Nd)(p:Nat)(c:List Int)(i:Nat)(v:Int):List Nd :=
 match N[kh p c i]? with
 | some x=>N.set (kh p c i) (x.put (mV i) v)
 | none=>N
theorem rl (N:List Nd)(p:Nat)(c:List Int)(i:Nat)(v:Int):(bR N p c i v).length=N.length:=by
 unfold bR;split<;>simp
theorem eN {N:List Nd}{p:Nat}{c:List Int}{v:Int}{x:Nd}(h:(bR N p c i v)[k]?=some x) :
  ∃y,N[k]?=some y/\x.th=y.th/\x.pa=y.pa/\x.fi=(if i=0/\k=p then v else y.fi)/\x.be=(if 0<i/\k=kh p c i then v else y.be):=by
 unfold bR at h
 split at h
 ·next y hy =>
  rcases ay h with ⟨hk,rfl⟩|⟨hk,h⟩
  ·subst hk
   refine⟨y,hy,?_⟩
   cases i with
   | zero=>simp [Nd.put,mV,kh]
   | succ i=>simp [Nd.put,mV]
  ·refine⟨x,h,rfl,rfl,?_,?_⟩
   ·rw [if_neg];rintro ⟨rfl,rfl⟩;exact hk rfl
   ·rw [if_neg];rintro ⟨_,rfl⟩;exact hk rfl
 ·next hy =>
  refine⟨x,h,rfl,rfl,?_,?_⟩
  ·rw [if_neg];rintro ⟨rfl,rfl⟩;unfold kh at hy;rw [hy] at h;cases h
  ·rw [if_neg];rintro ⟨_,rfl⟩;rw [hy] at h;cases h
theorem eM {c:List Int}(h:i<c.length):nx c i=c[i]:=by simp [nx,h]
theorem z_ {c:List Int}(h:c.length<=i):nx c i=-1:=by simp [nx,h]
theorem cU.init (m:Nat):cU m [] (List.replicate m yr):=by
 refine⟨by simp,.nil,λk x hx _=>?_,λk x p _ h=>(by cases h),λk x _ h=>(by cases h),λp _ i k x h=>?_⟩
 ·rw [List.getElem?_replicate] at hx
  split at hx
  ·exact (Option.some.inj hx).symm
  ·cases hx
 ·simp [ch] at h
theorem cU.root {l:Fo}{N:List Nd}(h:cU m l N){n:Nat}(hn:n<m)(hl:(n:Int)∉ah l):cU m (l++[((n:Int),-1)]) (N.set n ⟨true,-1,-1,-1⟩):=by
 have hch:∀q:Int,0<=q->ch (l++[((n:Int),-1)]) q=ch l q:=λq hq=>by
  rw [pY,if_neg (by omega),List.append_nil]
 refine⟨by rw [List.length_set];exact h.len,.add h.ok (by omega) (by omega) hl (.inl rfl),λk x hx hk=>?_,λk x p hx hp=>?_,λk x hx hk=>?_,λp hp i k x hi hx=>?_⟩
 ·rw [cQ,List.mem_append,List.mem_singleton,not_or] at hk
  rcases ay hx with ⟨rfl,_⟩|⟨_,hx⟩
  ·exact absurd rfl hk.2
  ·exact h.out k x hx hk.1
 ·rw [List.mem_append,List.mem_singleton,Prod.mk.injEq] at hp
  rcases ay hx with ⟨rfl,rfl⟩|⟨hne,hx⟩
  ·rcases hp with hp|⟨_,rfl⟩
   ·exact absurd (cE.2 ⟨_,hp⟩) hl
   ·exact⟨rfl,rfl⟩
  ·rcases hp with hp|⟨hp,_⟩
   ·exact h.yg k x p hx hp
   ·omega
 ·rw [hch _ (by omega)]
  rw [cQ,List.mem_append,List.mem_singleton] at hk
  rcases ay hx with ⟨rfl,rfl⟩|⟨hne,hx⟩
  ·rw [h.ok.none (by omega) hl];rfl
  ·rcases hk with hk|hk
   ·exact h.fi k x hx hk
   ·omega
 ·rw [hch p hp] at hi ⊢
  have hk:=b_ (List.mem_of_getElem? hi)
  rcases ay hx with ⟨rfl,rfl⟩|⟨hne,hx⟩
  ·exact absurd hk hl
  ·exact h.be p hp i k x hi hx
theorem gl {c:List Int}(hc:c.Nodup){a:Int}(h1:c[i]?=some a)(h2:c[j]?=some a):i=j:=by
 have hi:=(gS.1 h1).1
 exact (List.getElem?_inj hi hc).1 (h1.trans h2.symm)
theorem cU.Cx {l:Fo}{N:List Nd}(h:cU m l N){p n:Nat}(hp:(p:Int)∈ah l)(hl:(n:Int)∉ah l)(y:Nd):dH (N.set n y) p (ch l p):=by
 obtain⟨⟨x,hx,hx2⟩,h2⟩:=h.chain hp
 have hpn:n≠p:=λe=>hl (by rw [e];exact hp)
 refine⟨⟨x,by rw [List.getElem?_set_ne hpn];exact hx,hx2⟩,λi a ha=>?_⟩
 obtain⟨k,z,rfl,hz,hz2⟩:=h2 i a ha
 have hkn:n≠k:=λe=>hl (by rw [e];exact b_ (List.mem_of_getElem? ha))
 exact⟨k,z,rfl,by rw [List.getElem?_set_ne hkn];exact hz,hz2⟩
theorem cU.child {l:Fo}{N:List Nd}(h:cU m l N){n p:Nat}(hn:n<m)(hp:(p:Int)∈ah l)(hl:(n:Int)∉ah l) :
  cU m (l++[((n:Int),(p:Int))]) (bR (N.set n ⟨true,p,-1,-1⟩) p (ch l p) (ch l p).length n):=by
 obtain⟨c,hc⟩:∃c,c=ch l p:=⟨_,rfl⟩
 rw [<-hc]
 have hcn:c.Nodup:=hc ▸ h.ok.kQ p
 have hcm:∀a∈c,a∈ah l:=λa ha=>b_ (hc ▸ ha)
 have hpn:n≠p:=λe=>hl (by rw [e];exact hp)
 have hlk:kh p c c.length≠n/\((kh p c c.length:Nat):Int)∈ah l/\(0<c.length->c[c.length - 1]?=some ((kh p c c.length:Nat):Int)):=by
  cases hcl:c.length with
  | zero=>exact⟨λe=>hpn e.symm,hp,λh=>absurd h (Nat.lt_irrefl _)⟩
  | succ j =>
   have hj:j<c.length:=by omega
   have hm:=hcm _ (List.getElem_mem hj)
   have hr:=h.ok.range _ hm
   have e:((kh p c (j+1):Nat):Int)=c[j]:=by show (((nx c j).toNat:Nat):Int)=_;rw [eM hj];omega
   refine⟨λe2=>hl ?_,by rw [e];exact hm,λ_=>by rw [e];simp⟩
   rw [<-e2,e];exact hm
 have hch:∀q:Int,q≠p->ch (l++[((n:Int),(p:Int))]) q=ch l q:=λq hq=>by
  rw [pY,if_neg (λe=>hq e.symm),List.append_nil]
 have hchp:ch (l++[((n:Int),(p:Int))]) p=c++[(n:Int)]:=by rw [pY,if_pos rfl,hc]
 refine⟨by rw [rl,List.length_set];exact h.len,.add h.ok (by omega) (by omega) hl (.inr hp),λk x hx hk=>?_,λk x q hx hq=>?_,λk x hx hk=>?_,λq hq i k x hi hx=>?_⟩
 ·rw [cQ,List.mem_append,List.mem_singleton,not_or] at hk
  obtain⟨y,hy,h1,h2,h3,h4⟩:=eN hx
  rw [if_neg (λe=>hk.1 (by rw [e.2];exact hp))] at h3
  rw [if_neg (λe=>hk.1 (by rw [e.2];exact hlk.2.1))] at h4
  rcases ay hy with ⟨rfl,_⟩|⟨_,hy⟩
  ·exact absurd rfl hk.2
  ·have:=h.out k y hy hk.1
   subst this
   obtain⟨a,b,c,d⟩:=x
   simp only at h1 h2 h3 h4
   subst h1 h2 h3 h4
   rfl
 ·obtain⟨y,hy,h1,h2,_,_⟩:=eN hx
  rw [h1,h2]
  rw [List.mem_append,List.mem_singleton,Prod.mk.injEq] at hq
  rcases ay hy with ⟨rfl,rfl⟩|⟨hne,hy⟩
  ·rcases hq with hq|⟨_,rfl⟩
   ·exact absurd (cE.2 ⟨_,hq⟩) hl
   ·exact⟨rfl,rfl⟩
  ·rcases hq with hq|⟨hq,_⟩
   ·exact h.yg k y q hy hq
   ·omega
 ·obtain⟨y,hy,_,_,h3,_⟩:=eN hx
  rw [h3]
  rw [cQ,List.mem_append,List.mem_singleton] at hk
  by_cases hkp:k=p
  ·subst hkp
   rw [hchp]
   rcases ay hy with ⟨rfl,rfl⟩|⟨hne,hy⟩
   ·exact absurd rfl hpn
   ·by_cases hc0:c.length=0
    ·rw [if_pos ⟨hc0,rfl⟩,List.eq_nil_of_length_eq_zero hc0];rfl
    ·rw [if_neg (λe=>hc0 e.1),h.fi k y hy hp,<-hc,eM (by omega),eM (by simp),List.getElem_append_left (by omega)]
  ·rw [if_neg (λe=>hkp e.2),hch _ (by omega)]
   rcases ay hy with ⟨rfl,rfl⟩|⟨hne,hy⟩
   ·rw [h.ok.none (by omega) hl];rfl
   ·rcases hk with hk|hk
    ·exact h.fi k y hy hk
    ·omega
 ·obtain⟨y,hy,_,_,_,h4⟩:=eN hx
  rw [h4]
  by_cases hqp:q=p
  ·subst hqp
   rw [hchp] at hi ⊢
   by_cases hil:i<c.length
   ·rw [List.getElem?_append_left hil] at hi
    have hkl:=hcm _ (List.mem_of_getElem? hi)
    rcases ay hy with ⟨rfl,rfl⟩|⟨hne,hy⟩
    ·exact absurd hkl hl
    ·by_cases hi1:i+1=c.length
     ·have:(k:Int)=(kh p c c.length:Nat):=by
       have:=hlk.2.2 (by omega)
       rw [show c.length - 1=i by omega,hi] at this
       exact Option.some.inj this
      rw [if_pos ⟨by omega,by omega⟩,eM (by simp;omega)]
      simp [hi1]
     ·rw [if_neg]
      ·rw [h.be p (by omega) i k y (hc ▸ hi) hy,<-hc,eM (by omega),eM (by simp;omega),List.getElem_append_left (by omega)]
      ·rintro ⟨h5,h6⟩
       have:=hlk.2.2 h5
       rw [<-h6] at this
       have:=gl hcn hi this
       omega
   ·rw [List.getElem?_append_right (by omega)] at hi
    have hi0:i - c.length=0:=by
     rcases Nat.eq_zero_or_pos (i - c.length) with h|h
     ·exact h
     ·rw [List.getElem?_eq_none (by simp;omega)] at hi;cases hi
    rw [hi0] at hi
    simp only [List.getElem?_cons_zero,Option.some.injEq] at hi
    have hkn:n=k:=by omega
    subst hkn
    rw [if_neg (λe=>hlk.1 e.2.symm),z_ (by simp;omega)]
    rcases ay hy with ⟨_,rfl⟩|⟨hne,hy⟩
    ·rfl
    ·exact absurd rfl hne
  ·rw [hch q hqp] at hi ⊢
   have hkl:=List.mem_of_getElem? hi
   rcases ay hy with ⟨rfl,rfl⟩|⟨hne,hy⟩
   ·exact absurd (b_ hkl) hl
   ·rw [if_neg]
    ·exact h.be q hq i k y hi hy
    ·rintro ⟨h5,h6⟩
     have:=List.mem_of_getElem? (hlk.2.2 h5)
     rw [<-h6,hc] at this
     exact hqp (h.ok.uniq (bl.1 hkl) (bl.1 this))
theorem Ok.ahead {l:Fo}(h:Ok m l){k p c:Int}(hj:l[j]?=some (k,p))(hi:l[i]?=some (c,k)):j<i:=by
 rcases h.par i c k hi with e|⟨i',q,hlt,hq⟩
 ·have:=h.range k (cE.2 ⟨p,List.mem_of_getElem? hj⟩)
  omega
 ·have h1:(ah l)[i']?=some k:=by simp [ah,hq]
  have h2:(ah l)[j]?=some k:=by simp [ah,hj]
  have:=gl h.nodup h1 h2
  omega
theorem fq {l:Fo}(h:Ok m l){P:Int->Prop}(hs:∀n∈ah l,(∀c∈ch l n,P c)->P n):∀n∈ah l,P n:=by
 have key:∀(d j:Nat) (k p:Int),l[j]?=some (k,p)->l.length<=d+j->P k:=by
  intro d
  induction d with
  | zero =>
   intro j k p hj hd
   have:=(gS.1 hj).1
   omega
  | succ d ih =>
   intro j k p hj hd
   refine hs k (cE.2 ⟨p,List.mem_of_getElem? hj⟩) (λc hc=>?_)
   obtain⟨i,hi⟩:=List.getElem?_of_mem (bl.1 hc)
   have:=h.ahead hj hi
   exact ih i c k hi (by omega)
 intro n hn
 obtain⟨p,hp⟩:=cE.1 hn
 obtain⟨j,hj⟩:=List.getElem?_of_mem hp
 exact key l.length j n p hj (by omega)
theorem jK {l:Fo}(h:Ok m l){P:Int->Prop}(hs:∀n p,(n,p)∈l->(p∈ah l->P p)->P n):∀n∈ah l,P n:=by
 have key:∀(d j:Nat) (k p:Int),l[j]?=some (k,p)->j<d->P k:=by
  intro d
  induction d with
  | zero=>intro j k p hj hd;omega
  | succ d ih =>
   intro j k p hj hd
   refine hs k p (List.mem_of_getElem? hj) (λhp=>?_)
   obtain⟨q,hq⟩:=cE.1 hp
   obtain⟨i,hi⟩:=List.getElem?_of_mem hq
   have:=h.ahead hi hj
   exact ih i p q hi (by omega)
 intro n hn
 obtain⟨p,hp⟩:=cE.1 hn
 obtain⟨j,hj⟩:=List.getElem?_of_mem hp
 exact key (j+1) j n p hj (by omega)
theorem lL {f g:Int->List Int}:∀{L:List Int},(∀c∈L,f c=g c)->L.flatMap f=L.flatMap g
 | [],_=>rfl
 | c::L,h=>by
  rw [List.flatMap_cons,List.flatMap_cons,h c (by simp),lL (λx hx=>h x (by simp [hx]))]
def ord (e:Bool)(c:List Int):List Int:=if e then c else c.reverse
theorem bu {e:Bool}{c:List Int}{x:Int}:x∈ord e c↔x∈c:=by unfold ord;split<;>simp
def gn (e:Bool)(l:Fo):Nat->Int->List Int
 | 0,_=>[]
 | d+1,n=>n::(ord e (ch l n)).flatMap (gn e l d)
theorem xw {l:Fo}(h:Ok m l)(e:Bool):∀(d j:Nat) (k p:Int),l[j]?=some (k,p)->l.length<=d+j->gn e l (d+1) k=gn e l d k:=by
 intro d
 induction d with
 | zero =>
  intro j k p hj hd
  have:=(gS.1 hj).1
  omega
 | succ d ih =>
  intro j k p hj hd
  show k::(ord e (ch l k)).flatMap (gn e l (d+1))=k::(ord e (ch l k)).flatMap (gn e l d)
  rw [lL (λc hc=>?_)]
  obtain⟨i,hi⟩:=List.getElem?_of_mem (bl.1 (bu.1 hc))
  have:=h.ahead hj hi
  exact ih i c k hi (by omega)
def G (e:Bool)(l:Fo)(n:Int):List Int:=if n∈ah l then gn e l l.length n else []
theorem ku {e:Bool}{l:Fo}{n:Int}(hn:n∉ah l):G e l n=[]:=by unfold G;rw [if_neg hn]
theorem kD {l:Fo}(h:Ok m l){e:Bool}{n:Int}(hn:n∈ah l):G e l n=n::(ord e (ch l n)).flatMap (G e l):=by
 obtain⟨p,hp⟩:=cE.1 hn
 obtain⟨j,hj⟩:=List.getElem?_of_mem hp
 have h1:=xw h e l.length j n p hj (by omega)
 have h2:G e l n=gn e l l.length n:=by unfold G;rw [if_pos hn]
 rw [h2,<-h1]
 show n::(ord e (ch l n)).flatMap (gn e l l.length)=_
 rw [lL (λc hc=>?_)]
 unfold G
 rw [if_pos (b_ (bu.1 hc))]
theorem oJ {l:Fo}(h:Ok m l){e:Bool}{n:Int}(hn:n∈ah l):n∈G e l n:=by rw [kD h hn];simp
def par (l:Fo)(k:Int):Int:=((l.find? (λx=>decide (x.1=k))).map (·.2)).getD (-1)
theorem fu {l:Fo}(h:Ok m l){n p:Int}(hn:(n,p)∈l):par l n=p:=by
 unfold par
 cases hf:l.find? (λx=>decide (x.1=n)) with
 | none=>exact absurd (List.find?_eq_none.1 hf _ hn) (by simp)
 | some x =>
  have h1:=List.mem_of_find?_eq_some hf
  have h2:=List.find?_some hf
  simp only [decide_eq_true_eq] at h2
  obtain⟨a,b⟩:=x
  simp only at h2
  subst h2
  exact h.uniq h1 hn
def un (l:Fo):Nat->Int->List Int
 | 0,_=>[]
 | d+1,n=>n::(if par l n∈ah l then un l d (par l n) else [])
theorem wS {l:Fo}(h:Ok m l):∀(d j:Nat) (k p:Int),l[j]?=some (k,p)->j<d->un l (d+1) k=un l d k:=by
 intro d
 induction d with
 | zero=>intro j k p hj hd;omega
 | succ d ih =>
  intro j k p hj hd
  show k::(if par l k∈ah l then un l (d+1) (par l k) else [])=k::(if par l k∈ah l then un l d (par l k) else [])
  rw [fu h (List.mem_of_getElem? hj)]
  split
  ·next hp =>
   obtain⟨q,hq⟩:=cE.1 hp
   obtain⟨i,hi⟩:=List.getElem?_of_mem hq
   have:=h.ahead hi hj
   rw [ih i p q hi (by omega)]
  ·rfl
def U (l:Fo)(n:Int):List Int:=if n∈ah l then un l l.length n else []
theorem E6 {l:Fo}{n:Int}(hn:n∉ah l):U l n=[]:=by unfold U;rw [if_neg hn]
theorem qO {l:Fo}(h:Ok m l){n p:Int}(hn:(n,p)∈l):U l n=n::U l p:=by
 obtain⟨j,hj⟩:=List.getElem?_of_mem hn
 have hlt:=(gS.1 hj).1
 have h1:=wS h l.length j n p hj hlt
 have h2:U l n=un l l.length n:=by unfold U;rw [if_pos (cE.2 ⟨p,hn⟩)]
 rw [h2,<-h1]
 show n::(if par l n∈ah l then un l l.length (par l n) else [])=_
 rw [fu h hn]
 rfl
theorem fM {l:Fo}{a x:Int}(h:a∈U l x):x∈ah l:=Classical.byContradiction λhx=>by rw [E6 hx] at h;cases h
theorem yY {l:Fo}(h:Ok m l){n:Int}(hn:n∈ah l):n∈U l n:=by
 obtain⟨p,hp⟩:=cE.1 hn
 rw [qO h hp]
 simp
theorem JM {l:Fo}(h:Ok m l){c a:Int}(hc:(c,a)∈l)(ha:a∈ah l):∀x∈ah l,c∈U l x->a∈U l x:=by
 refine jK h (λx p hx ih hm=>?_)
 rw [qO h hx,List.mem_cons] at hm ⊢
 rcases hm with rfl|hm
 ·rw [h.uniq hc hx]
  exact .inr (yY h (by rw [<-h.uniq hc hx];exact ha))
 ·exact .inr (ih (fM hm) hm)
theorem Ak {l:Fo}(h:Ok m l){e:Bool}{x p:Int}(hx:(x,p)∈l):∀a∈ah l,p∈G e l a->x∈G e l a:=by
 refine fq h (λa ha ih hm=>?_)
 rw [kD h ha,List.mem_cons,List.mem_flatMap] at hm ⊢
 rcases hm with rfl|⟨c,hc,hm⟩
 ·exact .inr ⟨x,bu.2 (bl.2 hx),oJ h (cE.2 ⟨_,hx⟩)⟩
 ·exact .inr ⟨c,hc,ih c (bu.1 hc) hm⟩
theorem FM {l:Fo}(h:Ok m l){e:Bool}:∀a∈ah l,∀x∈G e l a,a∈U l x:=by
 refine fq h (λa ha ih x hm=>?_)
 rw [kD h ha,List.mem_cons,List.mem_flatMap] at hm
 rcases hm with rfl|⟨c,hc,hm⟩
 ·exact yY h ha
 ·have h1:=ih c (bu.1 hc) x hm
  exact JM h (bl.1 (bu.1 hc)) ha x (fM h1) h1
theorem Gp {l:Fo}(h:Ok m l){e:Bool}:∀x∈ah l,∀a∈U l x,x∈G e l a:=by
 refine jK h (λx p hx ih a ha=>?_)
 rw [qO h hx,List.mem_cons] at ha
 rcases ha with rfl|ha
 ·exact oJ h (cE.2 ⟨_,hx⟩)
 ·have h1:=ih (fM ha) a ha
  refine Ak h hx a (Classical.byContradiction λhn=>?_) h1
  rw [ku hn] at h1
  cases h1
theorem bW {l:Fo}(h:Ok m l){e:Bool}{a x:Int}:x∈G e l a↔a∈U l x:=by
 constructor
 ·intro hx
  refine FM h a (Classical.byContradiction λhn=>?_) x hx
  rw [ku hn] at hx
  cases hx
 ·intro ha
  exact Gp h x (fM ha) a ha
theorem dK {l:Fo}(h:Ok m l){e:Bool}{a x:Int}(hx:x∈G e l a):x∈ah l:=fM ((bW h).1 hx)
theorem IM {l:Fo}(h:Ok m l):∀x∈ah l,∀y∈U l x,∀(i j:Nat) (p q:Int),l[i]?=some (y,p)->l[j]?=some (x,q)->i<=j:=by
 refine jK h (λx p hx ih y hy i j r q hi hj=>?_)
 rw [qO h hx,List.mem_cons] at hy
 rcases hy with rfl|hy
 ·have h1:(ah l)[i]?=some y:=by simp [ah,hi]
  have h2:(ah l)[j]?=some y:=by simp [ah,hj]
  rw [gl h.nodup h1 h2]
  exact Nat.le_refl _
 ·have hp:=fM hy
  obtain⟨r2,hr2⟩:=cE.1 hp
  obtain⟨i2,hi2⟩:=List.getElem?_of_mem hr2
  have hq:q=p:=h.uniq (List.mem_of_getElem? hj) hx
  subst hq
  have h1:=h.ahead hi2 hj
  have h2:=ih hp y hy i i2 r r2 hi hi2
  omega
theorem Ac {l:Fo}(h:Ok m l){c p:Int}(hc:(c,p)∈l):c∉U l p:=by
 intro hm
 obtain⟨q,hq⟩:=cE.1 (fM hm)
 obtain⟨i,hi⟩:=List.getElem?_of_mem hc
 obtain⟨j,hj⟩:=List.getElem?_of_mem hq
 have h1:=IM h p (fM hm) c hm i j p q hi hj
 have h2:=h.ahead hj hi
 omega
theorem Ii {l:Fo}(h:Ok m l){c1 c2 a:Int}(h1:(c1,a)∈l)(h2:(c2,a)∈l):∀x∈ah l,c1∈U l x->c2∈U l x->c1=c2:=by
 refine jK h (λx p hx ih hm1 hm2=>?_)
 rw [qO h hx,List.mem_cons] at hm1 hm2
 rcases hm1 with rfl|hm1<;>rcases hm2 with rfl|hm2
 ·rfl
 ·rw [h.uniq hx h1] at hm2
  exact absurd hm2 (Ac h h2)
 ·rw [h.uniq hx h2] at hm1
  exact absurd hm1 (Ac h h1)
 ·exact ih (fM hm1) hm1 hm2
theorem rO {f:Int->List Int}:∀{L:List Int},L.Nodup->(∀c∈L,(f c).Nodup)->(∀c1∈L,∀c2∈L,∀x,x∈f c1->x∈f c2->c1=c2)->(L.flatMap f).Nodup
 | [],_,_,_=>by simp
 | c::L,h1,h2,h3=>by
  rw [List.nodup_cons] at h1
  rw [List.flatMap_cons,List.nodup_append]
  refine⟨h2 c (by simp),rO h1.2 (λx hx=>h2 x (by simp [hx])) (λa ha b hb=>h3 a (by simp [ha]) b (by simp [hb])),λa ha b hb e=>?_⟩
  subst e
  rw [List.mem_flatMap] at hb
  obtain⟨d,hd,hb⟩:=hb
  have:=h3 c (by simp) d (by simp [hd]) a ha hb
  subst this
  exact h1.1 hd
theorem y_ {c:List Int}(h:c.Nodup):c.reverse.Nodup:=List.pairwise_reverse.2 (h.imp (λh e=>h e.symm))
theorem vP {e:Bool}{c:List Int}(h:c.Nodup):(ord e c).Nodup:=by
 unfold ord
 split
 ·exact h
 ·exact y_ h
theorem fG {l:Fo}(h:Ok m l)(e:Bool)(n:Int):(G e l n).Nodup:=by
 by_cases hn:n∈ah l
 ·refine fq h (P:=λn=>(G e l n).Nodup) (λa ha ih=>?_) n hn
  rw [kD h ha,List.nodup_cons]
  refine⟨λhm=>?_,rO (vP (h.kQ a)) (λc hc=>ih c (bu.1 hc)) (λc1 hc1 c2 hc2 x hx1 hx2=>?_)⟩
  ·rw [List.mem_flatMap] at hm
   obtain⟨c,hc,hm⟩:=hm
   exact Ac h (bl.1 (bu.1 hc)) ((bW h).1 hm)
  ·exact Ii h (bl.1 (bu.1 hc1)) (bl.1 (bu.1 hc2)) x (dK h hx1) ((bW h).1 hx1) ((bW h).1 hx2)
 ·rw [ku hn];exact List.nodup_nil
theorem mL {l:Fo}(h:Ok m l)(e:Bool)(n:Int):(G e l n).length<=m:=sN m _ (fG h e n) (λx hx=>h.range x (dK h hx))
theorem la {f g:Int->List Int}:∀{L:List Int},(∀c∈L,(f c).length=(g c).length)->(L.reverse.flatMap f).length=(L.flatMap g).length
 | [],_=>rfl
 | c::L,h=>by
  rw [List.reverse_cons,List.flatMap_append,List.length_append,la (λx hx=>h x (by simp [hx]))]
  simp [h c (by simp)]
  omega
theorem Bt {l:Fo}(h:Ok m l)(n:Int):(G false l n).length=(G true l n).length:=by
 by_cases hn:n∈ah l
 ·refine fq h (P:=λn=>(G false l n).length=(G true l n).length) (λa ha ih=>?_) n hn
  rw [kD h ha,kD h ha,List.length_cons,List.length_cons]
  congr 1
  exact la ih
 ·rw [ku hn,ku hn]
def Fl (l:Fo)(n:Int):List Int:=(G false l n).reverse
theorem AM {f:Int->List Int}:∀(L:List Int),(L.reverse.flatMap f).reverse=L.flatMap (λc=>(f c).reverse)
 | []=>rfl
 | c::L=>by
  rw [List.reverse_cons,List.flatMap_append,List.reverse_append,AM L]
  simp
theorem Jg {l:Fo}(h:Ok m l){n:Int}(hn:n∈ah l):Fl l n=(ch l n).flatMap (Fl l)++[n]:=by
 unfold Fl
 rw [kD h hn,List.reverse_cons]
 show ((ch l n).reverse.flatMap (G false l)).reverse++[n]=_
 rw [AM]
theorem FH {l:Fo}{n:Int}(hn:n∉ah l):Fl l n=[]:=by unfold Fl;rw [ku hn];rfl
theorem um {l:Fo}(h:Ok m l){a x:Int}:x∈Fl l a↔x∈G true l a:=by
 unfold Fl
 rw [List.mem_reverse,bW h,bW h]
theorem AI {l:Fo}(h:Ok m l)(n:Int):(Fl l n).Nodup:=y_ (fG h false n)
theorem Gj {l:Fo}(h:Ok m l)(n:Int):(Fl l n).length=(G true l n).length:=by unfold Fl;rw [List.length_reverse,Bt h]
def oc (l:Fo):List Int->List Int->Prop
 | _,[]=>True
 | q,x::L=>par l x∈q/\oc l (x::q) L
theorem oc.mono {l:Fo}:∀{L q q':List Int},(∀x∈q,x∈q')->oc l q L->oc l q' L
 | [],_,_,_,_=>trivial
 | x::L,q,q',hq,h=>⟨hq _ h.1,oc.mono (λy hy=>by
   rw [List.mem_cons] at hy ⊢
   exact hy.imp id (hq y)) h.2⟩
theorem oc.app {l:Fo}:∀{A B q:List Int},oc l q A->oc l q B->oc l q (A++B)
 | [],_,_,_,h=>h
 | x::A,B,q,h1,h2=>⟨h1.1,oc.app h1.2 (h2.mono (λy hy=>List.mem_cons_of_mem _ hy))⟩
theorem oc.fm {l:Fo}{f:Int->List Int}{q:List Int}:∀{L:List Int},(∀c∈L,oc l q (f c))->oc l q (L.flatMap f)
 | [],_=>trivial
 | c::L,h=>by
  rw [List.flatMap_cons]
  exact (h c (by simp)).app (oc.fm (λx hx=>h x (by simp [hx])))
theorem oc.get {l:Fo}:∀{L q:List Int} {i:Nat} {x:Int},oc l q L->L[i]?=some x->par l x∈q\/par l x∈L.take i
 | [],_,_,_,_,h=>by simp at h
 | y::L,q,0,x,h,hx=>by
  simp at hx
  subst hx
  exact .inl h.1
 | y::L,q,i+1,x,h,hx=>by
  rw [List.getElem?_cons_succ] at hx
  rcases h.2.get hx with h1|h1
  ·rw [List.mem_cons] at h1
   rcases h1 with h1|h1
   ·exact .inr (by rw [List.take_succ_cons,h1];simp)
   ·exact .inl h1
  ·exact .inr (by rw [List.take_succ_cons];exact List.mem_cons_of_mem _ h1)
theorem Ib {l:Fo}(h:Ok m l):∀a∈ah l,∀q,par l a∈q->oc l q (G true l a):=by
 refine fq h (λa ha ih q hq=>?_)
 rw [kD h ha]
 exact⟨hq,oc.fm (λc hc=>ih c (bu.1 hc) _ (by rw [fu h (bl.1 (bu.1 hc))];simp))⟩
theorem Aq {l:Fo}(h:Ok m l){n:Int}{x:Int}(hi:0<i)(hx:(G true l n)[i]?=some x):par l x∈(G true l n).take i:=by
 have hn:n∈ah l:=Classical.byContradiction λhn=>by rw [ku hn] at hx;simp at hx
 rw [kD h hn] at hx ⊢
 obtain⟨j,rfl⟩:∃j,i=j+1:=⟨i - 1,by omega⟩
 rw [List.getElem?_cons_succ] at hx
 have h1:oc l [n] ((ord true (ch l n)).flatMap (G true l)) :=
  oc.fm (λc hc=>Ib h c (b_ (bu.1 hc)) _ (by rw [fu h (bl.1 (bu.1 hc))];simp))
 rcases h1.get hx with h2|h2
 ·rw [List.take_succ_cons]
  rw [List.mem_singleton] at h2
  rw [h2]
  simp
 ·rw [List.take_succ_cons]
  exact List.mem_cons_of_mem _ h2
def nX (l:Fo):List Int->List Int->Prop
 | _,[]=>True
 | q,x::L=>(∀c∈ch l x,c∈q)/\nX l (x::q) L
theorem nX.app {l:Fo}:∀{A B q:List Int},nX l q A->(∀q',(∀x∈A,x∈q')->nX l q' B)->nX l q (A++B)
 | [],B,q,_,h=>h q (λx hx=>by cases hx)
 | x::A,B,q,h1,h2=>by
  refine⟨h1.1,?_⟩
  have key:∀{A B q:List Int} {x:Int},x∈q->nX l q A->(∀q',(∀y∈x::A,y∈q')->nX l q' B)->nX l q (A++B):=by
   intro A
   induction A with
   | nil=>intro B q x hx _ h;exact h q (λy hy=>by rw [List.mem_singleton] at hy;rw [hy];exact hx)
   | cons a A ih =>
    intro B q x hx ha hb
    refine⟨ha.1,?_⟩
    have h3:nX l (a::q) A:=ha.2
    have key2:∀{A B q S:List Int},(∀y∈S,y∈q)->nX l q A->(∀q',(∀y∈S++A,y∈q')->nX l q' B)->nX l q (A++B):=by
     intro A
     induction A with
     | nil=>intro B q S hS _ h;exact h q (λy hy=>hS y (by simpa using hy))
     | cons b A ih2 =>
      intro B q S hS hA hB
      refine⟨hA.1,ih2 (S:=S++[b]) (λy hy=>?_) hA.2 (λq' hq'=>hB q' (λy hy=>hq' y (by simpa using hy)))⟩
      rw [List.mem_append,List.mem_singleton] at hy
      rcases hy with hy|rfl
      ·exact List.mem_cons_of_mem _ (hS y hy)
      ·simp
    exact key2 (S:=[x,a]) (λy hy=>by
     simp only [List.mem_cons,List.not_mem_nil,or_false] at hy
     rcases hy with rfl|rfl
     ·exact List.mem_cons_of_mem _ hx
     ·simp) h3 (λq' hq'=>hb q' (λy hy=>hq' y (by simpa using hy)))
  exact key (x:=x) (by simp) h1.2 (λq' hq'=>h2 q' hq')
theorem nX.fm {l:Fo}{f:Int->List Int}:∀{L:List Int},(∀c∈L,∀q,nX l q (f c))->∀q,nX l q (L.flatMap f)
 | [],_,_=>trivial
 | c::L,h,q=>by
  rw [List.flatMap_cons]
  exact (h c (by simp) q).app (λq' _=>nX.fm (λx hx=>h x (by simp [hx])) q')
theorem GP {l:Fo}(h:Ok m l):∀a∈ah l,∀q,nX l q (Fl l a):=by
 refine fq h (λa ha ih q=>?_)
 rw [Jg h ha]
 refine (nX.fm ih q).app (λq' hq'=>⟨λc hc=>hq' c ?_,trivial⟩)
 rw [List.mem_flatMap]
 exact⟨c,hc,(um h).2 (oJ h (b_ hc))⟩
theorem nX.get {l:Fo}:∀{L q:List Int} {i:Nat} {x:Int},nX l q L->L[i]?=some x->∀c∈ch l x,c∈q\/c∈L.take i
 | [],_,_,_,_,h=>by simp at h
 | y::L,q,0,x,h,hx=>by
  simp at hx
  subst hx
  exact λc hc=>.inl (h.1 c hc)
 | y::L,q,i+1,x,h,hx=>by
  rw [List.getElem?_cons_succ] at hx
  intro c hc
  rcases h.2.get hx c hc with h1|h1
  ·rw [List.mem_cons] at h1
   rcases h1 with h1|h1
   ·exact .inr (by rw [List.take_succ_cons,h1];simp)
   ·exact .inl h1
  ·exact .inr (by rw [List.take_succ_cons];exact List.mem_cons_of_mem _ h1)
def aT (l:Fo)(A:List Int):Fo:=l.filter (λx=>decide (x.1∉A))
theorem ru (l:Fo):aT l []=l:=by unfold aT;rw [List.filter_eq_self];intro a _;simp
theorem ou (l:Fo)(A:List Int)(n:Int):cut (aT l A) n=aT l (A++[n]):=by
 unfold cut aT
 rw [List.filter_filter]
 apply List.filter_congr
 intro x _
 by_cases h1:x.1=n<;>by_cases h2:x.1∈A<;>simp [h1,h2]
theorem bn {l:Fo}{A:List Int}{k:Int}:k∈ah (aT l A)↔k∈ah l/\k∉A:=by
 rw [cE,cE]
 constructor
 ·rintro ⟨p,hp⟩
  have:=List.mem_filter.1 hp
  exact⟨⟨p,this.1⟩,by simpa using this.2⟩
 ·rintro ⟨⟨p,hp⟩,hn⟩
  exact⟨p,List.mem_filter.2 ⟨hp,by simpa using hn⟩⟩
theorem qB {l:Fo}{A:List Int}{x:Int}(h:∀c∈ch l x,c∈A):ch (aT l A) x=[]:=by
 apply List.eq_nil_iff_forall_not_mem.2
 intro k hk
 have h1:=List.mem_filter.1 (bl.1 hk)
 have h2:=h k (bl.2 h1.1)
 simp [h2] at h1
theorem vW {l:Fo}(h:Ok m l){n:Int}{x:Int}(hx:(Fl l n)[i]?=some x):x∈ah (aT l ((Fl l n).take i))/\ch (aT l ((Fl l n).take i)) x=[]/\cut (aT l ((Fl l n).take i)) x=aT l ((Fl l n).take (i+1)):=by
 have hn:n∈ah l:=Classical.byContradiction λhn=>by rw [FH hn] at hx;simp at hx
 have hlt:=(gS.1 hx).1
 have he:(Fl l n)[i]=x:=(gS.1 hx).2
 refine⟨bn.2 ⟨dK h ((um h).1 (List.mem_of_getElem? hx)),λhm=>?_⟩,qB (λc hc=>?_),?_⟩
 ·obtain⟨j,hj⟩:=List.getElem?_of_mem hm
  rw [List.getElem?_take] at hj
  split at hj
  ·next hji =>
   have:=gl (AI h n) hj hx
   omega
  ·cases hj
 ·rcases (GP h n hn []).get hx c hc with h1|h1
  ·cases h1
  ·exact h1
 ·rw [ou,List.take_succ_eq_append_getElem hlt,he]
end Go.Proofs.YtfmhdimaijimlaaGreatDoor
namespace Go.Proofs.YtfmhdimaijimlaaGreatDoor.H
open Go.RowKit
def ak:Nat:=18446744073709551616
def KF:Nat:=11400714819323198485
def jH (h:Nat):Nat:=h*KF%ak
def qm (h:Nat):Nat:=h ^^^ (h / 2 ^ 29)
def ck (h v:Nat):Nat:=qm (jH (h ^^^ v))
def ek (o a b:Nat):Nat:=ck (ck (ck 5903417616801668165 o) a) b
def cD (h:Nat)(k:Int):Nat:=if k<=0 then 0 else if 64<=k then h else h%2 ^ k.toNat
theorem ux {a:Nat}(ha:a<ak)(hb:b<ak):a ^^^ b<ak:=Nat.xor_lt_two_pow (n:=64) ha hb
theorem fy (h:Nat):jH h<ak:=Nat.mod_lt _ (by decide)
theorem lA {h:Nat}(hh:h<ak):qm h<ak:=ux hh (Nat.lt_of_le_of_lt (Nat.div_le_self _ _) hh)
theorem eB (h v:Nat):ck h v<ak:=lA (fy _)
theorem gP (o a b:Nat):ek o a b<ak:=eB _ _
theorem pJ {h:Nat}(k:Int)(hh:h<ak):cD h k<ak:=by
 unfold cD
 split
 ·decide
 ·split
  ·exact hh
  ·exact Nat.lt_of_le_of_lt (Nat.mod_le _ _) hh
abbrev Cp:=Int×Nat×Nat
structure Pl (V:Type) where
 k:Int
 c:Cp
 v:V
variable {V:Type}
def eR (p:Pl V):Option (Cp×V):=if p.k=1\/p.k=3 then some (p.c,p.v) else none
def dU (L:List (Pl V)):List (Cp×V):=L.filterMap eR
def Way (h:Cp->Nat)(good:Int->Prop)(L:List (Pl V)):Prop :=
 ∀(i:Nat) (p:Pl V),L[i]?=some p->p.k=1->∃d,d<L.length/\i=(h p.c+d)%L.length/\∀e,e<d->∀(q:Pl V),L[(h p.c+e)%L.length]?=some q->good q.k
theorem ay {L:List (Pl V)}{x p:Pl V}(h:(L.set i x)[j]?=some p):(j=i/\p=x)\/(j≠i/\L[j]?=some p):=by
 rw [List.getElem?_set] at h
 split at h
 ·split at h
  ·next h1 h2=>exact .inl ⟨h1.symm,(Option.some.inj h).symm⟩
  ·cases h
 ·next h1=>exact .inr ⟨λe=>h1 e.symm,h⟩
theorem get_some {L:List (Pl V)}{i:Nat}(h:i<L.length):∃p:Pl V,L[i]?=some p:=⟨_,gE h⟩
theorem cN {L:List (Pl V)}{p:Pl V}(h:L[i]?=some p):i<L.length:=(gS.1 h).1
theorem Way.set {h:Cp->Nat}{good:Int->Prop}{L:List (Pl V)}{i:Nat}{x:Pl V}(hw:Way h good L)(hold:∀(q:Pl V),L[i]?=some q->good q.k->good x.k)
  (hx:x.k=1->∃d,d<L.length/\i=(h x.c+d)%L.length/\∀e,e<d->∀(q:Pl V),L[(h x.c+e)%L.length]?=some q->good q.k):Way h good (L.set i x):=by
 have key:∀(m:Nat) (q':Pl V),(L.set i x)[m]?=some q'->(∀(q:Pl V),L[m]?=some q->good q.k)->good q'.k:=by
  intro m q' h1 h2
  rcases ay h1 with ⟨rfl,rfl⟩|⟨_,h3⟩
  ·have hm:=cN h1
   rw [List.length_set] at hm
   obtain⟨q,hq⟩:=get_some hm
   exact hold q hq (h2 q hq)
  ·exact h2 q' h3
 intro j p hp hk
 rw [List.length_set]
 rcases ay hp with ⟨rfl,rfl⟩|⟨_,h3⟩
 ·obtain⟨d,h1,h2,h3⟩:=hx hk
  exact⟨d,h1,h2,λe he q hq=>key _ _ hq (h3 e he)⟩
 ·obtain⟨d,h1,h2,h4⟩:=hw j p h3 hk
  exact⟨d,h1,h2,λe he q hq=>key _ _ hq (h4 e he)⟩
theorem Way.none {h:Cp->Nat}{L:List (Pl V)}(hw:Way h (·≠0) L){c:Cp}{d:Nat}{q:Pl V}(hb:∀e,e<d->∀(p:Pl V),L[(h c+e)%L.length]?=some p->p.k=1->p.c≠c)(hq:L[(h c+d)%L.length]?=some q)(h0:q.k=0) :
  ∀(i:Nat) (p:Pl V),L[i]?=some p->p.k=1->p.c≠c:=by
 intro i p hp hk hc
 obtain⟨d',h1,h2,h3⟩:=hw i p hp hk
 rw [hc] at h2 h3
 rcases Nat.lt_trichotomy d' d with h4|h4|h4
 ·exact hb d' h4 p (by rw [<-h2];exact hp) hk hc
 ·subst h4
  rw [<-h2,hp] at hq
  cases hq
  omega
 ·exact h3 d h4 q hq h0
theorem Way.Hq {h:Cp->Nat}{L:List (Pl V)}(hw:Way h (·≠0) L){c:Cp}(hb:∀e,e<L.length->∀(p:Pl V),L[(h c+e)%L.length]?=some p->p.k=1->p.c≠c) :
  ∀(i:Nat) (p:Pl V),L[i]?=some p->p.k=1->p.c≠c:=by
 intro i p hp hk hc
 obtain⟨d',h1,h2,h3⟩:=hw i p hp hk
 rw [hc] at h2 h3
 exact hb d' h1 p (by rw [<-h2];exact hp) hk hc
theorem qT {L:List (Pl V)}{i:Nat}{q x:Pl V}{y:Cp×V}(h:L[i]?=some q)(hq:eR q=none)(hx:eR x=some y):(dU (L.set i x)).Perm (y::dU L):=by
 induction L generalizing i with
 | nil=>cases h
 | cons a r ih =>
  cases i with
  | zero =>
   simp only [List.getElem?_cons_zero,Option.some.injEq] at h
   subst h
   simp [dU,hq,hx]
  | succ i =>
   simp only [List.getElem?_cons_succ] at h
   have:=ih h
   unfold dU at this ⊢
   rw [List.set_cons_succ,List.filterMap_cons,List.filterMap_cons]
   cases eR a with
   | none=>exact this
   | some z=>exact (this.cons z).trans (List.Perm.swap _ _ _)
theorem A8 {L:List (Pl V)}{q x:Pl V}{y:Cp×V}(h:L[i]?=some q)(hq:eR q=some y)(hx:eR x=none):(dU L).Perm (y::dU (L.set i x)):=by
 have h2:(L.set i x)[i]?=some x:=by rw [List.getElem?_set];simp [cN h]
 have:=qT (L:=L.set i x) (i:=i) (x:=q) h2 hx hq
 rw [List.set_set] at this
 have e:L.set i q=L:=by
  apply List.ext_getElem?
  intro j
  rw [List.getElem?_set]
  split
  ·next hj=>subst hj;rw [if_pos (cN h),h]
  ·rfl
 rwa [e] at this
theorem yh {L:List (Pl V)}{p q x:Pl V}(hp:L[i]?=some p)(hq:L[j]?=some q)(hx:eR x=eR p):(dU ((L.set i q).set j x)).Perm (dU L):=by
 have e:∀M:List (Pl V),dU M=(M.map eR).filterMap id:=λM=>by rw [List.filterMap_map];rfl
 rw [e,e,List.map_set,List.map_set,hx]
 refine List.Perm.filterMap id ?_
 have hi:i<(L.map eR).length:=by rw [List.length_map];exact cN hp
 have hj:j<(L.map eR).length:=by rw [List.length_map];exact cN hq
 have h1:eR p=(L.map eR)[i]:=by
  rw [List.getElem_map]
  have:=(gS.1 hp).2
  rw [this]
 have h2:eR q=(L.map eR)[j]:=by
  rw [List.getElem_map]
  have:=(gS.1 hq).2
  rw [this]
 rw [h1,h2]
 exact List.set_set_perm hi hj
theorem AG {L:List (Pl V)}{p:Pl V}(h:L[i]?=some p)(hk:p.k=1):(p.c,p.v)∈dU L :=
 List.mem_filterMap.2 ⟨p,List.mem_of_getElem? h,by unfold eR;rw [if_pos (.inl hk)]⟩
theorem zY {L:List (Pl V)}{y:Cp×V}(h:y∈dU L)(hk:∀(i:Nat) (p:Pl V),L[i]?=some p->p.k=0\/p.k=1\/p.k=2):∃(i:Nat) (p:Pl V),L[i]?=some p/\p.k=1/\y=(p.c,p.v):=by
 obtain⟨p,hp,he⟩:=List.mem_filterMap.1 h
 obtain⟨i,hi⟩:=List.getElem?_of_mem hp
 unfold eR at he
 split at he
 ·next h1 =>
  refine⟨i,p,hi,?_,(Option.some.inj he).symm⟩
  rcases hk i p hi with h2|h2|h2<;>omega
 ·cases he
def sw (L:List (Pl V)):Nat:=L.countP (λp=>decide (p.k=0))
theorem DW {L:List (Pl V)}{q x:Pl V}(h:L[i]?=some q)(hq:q.k=0)(hx:x.k≠0):sw L=sw (L.set i x)+1:=by
 induction L generalizing i with
 | nil=>cases h
 | cons a r ih =>
  cases i with
  | zero =>
   simp only [List.getElem?_cons_zero,Option.some.injEq] at h
   subst h
   simp [sw,hq,hx]
  | succ i =>
   simp only [List.getElem?_cons_succ] at h
   have:=ih h
   unfold sw at this ⊢
   rw [List.set_cons_succ,List.countP_cons,List.countP_cons,this]
   omega
theorem zI {L:List (Pl V)}{q x:Pl V}(h:L[i]?=some q)(hq:q.k≠0)(hx:x.k≠0):sw (L.set i x)=sw L:=by
 induction L generalizing i with
 | nil=>cases h
 | cons a r ih =>
  cases i with
  | zero =>
   simp only [List.getElem?_cons_zero,Option.some.injEq] at h
   subst h
   simp [sw,hq,hx]
  | succ i =>
   simp only [List.getElem?_cons_succ] at h
   have:=ih h
   unfold sw at this ⊢
   rw [List.set_cons_succ,List.countP_cons,List.countP_cons,this]
theorem Dt {L:List (Pl V)}(h:∀(i:Nat) (p:Pl V),L[i]?=some p->p.k=0\/p.k=1):sw L+(dU L).length=L.length:=by
 induction L with
 | nil=>rfl
 | cons a r ih =>
  have h0:=h 0 a rfl
  have h1:=ih (λi p hp=>h (i+1) p hp)
  unfold sw dU at h1 ⊢
  rw [List.countP_cons,List.filterMap_cons]
  rcases h0 with h0|h0
  ·simp [h0,eR];omega
  ·simp [h0,eR];omega
theorem Ba {L:List (Pl V)}(h:0<sw L):∃(i:Nat) (p:Pl V),L[i]?=some p/\p.k=0:=by
 obtain⟨p,hp,hk⟩:=List.countP_pos_iff.1 h
 obtain⟨i,hi⟩:=List.getElem?_of_mem hp
 exact⟨i,p,hi,of_decide_eq_true hk⟩
theorem sC (L:List (Pl V)):sw L<=L.length:=List.countP_le_length
theorem J8 {h N:Nat}(hh:h<N)(hi:i<N):∃d,d<N/\i=(h+d)%N:=by
 by_cases hle:h<=i
 ·exact⟨i - h,by omega,by rw [Nat.add_sub_cancel' hle,Nat.mod_eq_of_lt hi]⟩
 ·refine⟨i+N - h,by omega,?_⟩
  have:h+(i+N - h)=i+N:=by omega
  rw [this,Nat.add_mod_right,Nat.mod_eq_of_lt hi]
theorem ri (h d N:Nat):((h+d)%N+1)%N=(h+(d+1))%N:=by rw [Nat.mod_add_mod,Nat.add_assoc]
def DG (L:List (Pl V)):Nat:=L.countP (λp=>decide (p.k=3))
theorem vj {L:List (Pl V)}{q x:Pl V}(h:L[i]?=some q):DG (L.set i x)+(if q.k=3 then 1 else 0)=DG L+(if x.k=3 then 1 else 0):=by
 induction L generalizing i with
 | nil=>cases h
 | cons a r ih =>
  cases i with
  | zero =>
   simp only [List.getElem?_cons_zero,Option.some.injEq] at h
   subst h
   simp [DG,List.countP_cons]
   omega
  | succ i =>
   simp only [List.getElem?_cons_succ] at h
   have:=ih h
   unfold DG at this ⊢
   rw [List.set_cons_succ,List.countP_cons,List.countP_cons]
   omega
end Go.Proofs.YtfmhdimaijimlaaGreatDoor.H
namespace Go.Proofs.YtfmhdimaijimlaaGreatDoor
open H
abbrev Tk:=Cp×Int
def tz:Tk:=((0,0,0),0)
def tk (X:List Tk)(n:Int):Tk:=(X[n.toNat]?).getD tz
def ob (X:List Tk)(n:Int):Int:=(tk X n).1.1
def rg (X:List Tk)(n:Int):Int:=(tk X n).2
def aX (r:Int):Bool:=decide (1<=r/\r<=31)
def aA (a b:Int):Bool:=aX a&&aX b&&decide (a.toNat &&& b.toNat=a.toNat)
theorem mC {r:Int}:aX r=true↔1<=r/\r<=31:=by unfold aX;exact decide_eq_true_iff
theorem j9 {a b:Int}(h:aA a b=true):aX a=true:=by
 unfold aA at h;simp only [Bool.and_eq_true] at h;exact h.1.1
structure Inv (m:Nat)(X:List Tk)(l:Fo):Prop where
 ok:Ok m l
 len:X.length=m
 one:∀a∈ah l,∀b∈ah l,(tk X a).1=(tk X b).1->a=b
 val:∀a∈ah l,aX (rg X a)=true
 up:∀n p,(n,p)∈l->p≠-1->ob X n=ob X p/\aA (rg X n) (rg X p)=true
 root:∀a b,(a,-1)∈l->(b,-1)∈l->ob X a=ob X b->a=b
 wide:∀a∈ah l,(tk X a).1.2.1<ak/\(tk X a).1.2.2<ak
theorem oW:∀{A B:List Int},A.Nodup->(∀x∈A,x∈B)->A.length<=B.length
 | [],B,_,_=>Nat.zero_le _
 | a::A,B,hn,h=>by
  rw [List.nodup_cons] at hn
  have h1:=oW (A:=A) (B:=B.erase a) hn.2 (λx hx=>by
   have hne:x≠a:=λe=>hn.1 (e ▸ hx)
   exact (List.mem_erase_of_ne hne).2 (h x (List.mem_cons_of_mem _ hx)))
  have h2:=List.length_erase_of_mem (h a (List.mem_cons_self ..))
  have h3:=List.length_pos_of_mem (h a (List.mem_cons_self ..))
  rw [List.length_cons]
  omega
def ej (k:Nat):List Int:=(List.range k).map (λ(i:Nat)=>(i:Int))
theorem mR (k:Nat):(ej k).length=k:=by simp [ej]
theorem lI {x:Int}:x∈ej k↔0<=x/\x<(k:Int):=by
 unfold ej
 simp only [List.mem_map,List.mem_range]
 constructor
 ·rintro ⟨i,hi,rfl⟩;omega
 ·rintro ⟨h0,h1⟩;exact⟨x.toNat,by omega,by omega⟩
theorem ji (k:Nat):(ej k).Nodup:=by
 unfold ej
 rw [List.Nodup,List.pairwise_map]
 exact List.nodup_range.imp (λh e=>h (by exact_mod_cast e))
def Ej (l:Fo):Nat->Nat->Nat
 | k,0=>k
 | k,f+1=>if (k:Int)∈ah l then Ej l (k+1) f else k
def low (l:Fo):Nat:=Ej l 0 (l.length+1)
theorem vz {l:Fo}{k:Nat}(h:(k:Int)∉ah l)(hb:∀j:Nat,j<k->(j:Int)∈ah l):∀(f j:Nat),j<=k->k<j+f->Ej l j f=k
 | 0,j,h1,h2=>by omega
 | f+1,j,h1,h2=>by
  unfold Ej
  by_cases e:j=k
  ·subst e;rw [if_neg h]
  ·rw [if_pos (hb j (by omega))]
   exact vz h hb f (j+1) (by omega) (by omega)
theorem ma (l:Fo):(ah l).length=l.length:=by simp [ah]
theorem gY {l:Fo}{k:Nat}(hb:∀j:Nat,j<k->(j:Int)∈ah l):k<=l.length:=by
 have:=oW (ji k) (B:=ah l) (λx hx=>by
  have:=lI.1 hx
  have e:x=(x.toNat:Int):=by omega
  rw [e];exact hb _ (by omega))
 rw [mR,ma] at this
 exact this
theorem tN {l:Fo}{k:Nat}(h:(k:Int)∉ah l)(hb:∀j:Nat,j<k->(j:Int)∈ah l):low l=k:=by
 have:=gY hb
 exact vz h hb _ 0 (Nat.zero_le _) (by omega)
theorem zW (l:Fo):∃k:Nat,(k:Int)∉ah l/\∀j:Nat,j<k->(j:Int)∈ah l:=by
 have:∀n:Nat,(∃k:Nat,(k:Int)∉ah l/\∀j:Nat,j<k->(j:Int)∈ah l)\/∀j:Nat,j<n->(j:Int)∈ah l:=by
  intro n
  induction n with
  | zero=>exact .inr (λj h=>by omega)
  | succ n ih =>
   rcases ih with h|h
   ·exact .inl h
   ·by_cases hn:(n:Int)∈ah l
    ·refine .inr (λj hj=>?_)
     by_cases e:j=n
     ·rw [e];exact hn
     ·exact h j (by omega)
    ·exact .inl ⟨n,hn,h⟩
 rcases this (l.length+1) with h|h
 ·exact h
 ·have:=gY h;omega
theorem fz (l:Fo):(low l:Int)∉ah l:=by
 obtain⟨k,h1,h2⟩:=zW l
 rw [tN h1 h2];exact h1
theorem wN {l:Fo}(h:j<low l):(j:Int)∈ah l:=by
 obtain⟨k,h1,h2⟩:=zW l
 rw [tN h1 h2] at h;exact h2 j h
theorem te {l:Fo}(h:Ok m l)(hl:l.length<m):low l<m:=by
 have:=gY (l:=l) (k:=low l) (λj hj=>wN hj)
 omega
theorem eJ {X:List Tk}(x:Tk)(h:k<X.length):tk (X.set k x) (k:Int)=x:=by
 unfold tk;simp [h]
theorem bX {X:List Tk}{k:Nat}(x:Tk){n:Int}(h0:0<=n)(h:n≠(k:Int)):tk (X.set k x) n=tk X n:=by
 unfold tk;rw [List.getElem?_set_ne (by omega)]
def fJ (X:List Tk):List Int->List Tk
 | []=>X
 | a::A=>fJ (X.set a.toNat tz) A
theorem uI:∀(A:List Int) (X:List Tk),(fJ X A).length=X.length
 | [],X=>rfl
 | a::A,X=>by unfold fJ;rw [uI,List.length_set]
theorem qj:∀(A:List Int) (X:List Tk) (a:Int),fJ X (A++[a])=(fJ X A).set a.toNat tz
 | [],X,a=>rfl
 | b::A,X,a=>by show fJ (X.set b.toNat tz) (A++[a])=_;rw [qj];rfl
theorem jI:∀(A:List Int) (X:List Tk) (n:Int),0<=n->(∀a∈A,0<=a)->n∉A->tk (fJ X A) n=tk X n
 | [],X,n,_,_,_=>rfl
 | a::A,X,n,h0,hA,hn=>by
  unfold fJ
  rw [jI A _ n h0 (λx hx=>hA x (List.mem_cons_of_mem _ hx)) (λh=>hn (List.mem_cons_of_mem _ h))]
  have ha:=hA a (List.mem_cons_self ..)
  have:(a.toNat:Int)=a:=by omega
  exact bX tz h0 (λe=>hn (by rw [e,this];exact List.mem_cons_self ..))
theorem bj {l:Fo}(h:Ok m l){k:Int}(hk:k∈ah l):0<=k:=(h.range k hk).1
theorem Inv.ext {X Y:List Tk}{l:Fo}(h:Inv m X l)(hl:Y.length=m)(he:∀a∈ah l,tk Y a=tk X a):Inv m Y l:=by
 have ho:∀a∈ah l,ob Y a=ob X a:=λa ha=>by unfold ob;rw [he a ha]
 have hr:∀a∈ah l,rg Y a=rg X a:=λa ha=>by unfold rg;rw [he a ha]
 refine⟨h.ok,hl,λa ha b hb e=>h.one a ha b hb (by rw [<-he a ha,<-he b hb];exact e),λa ha=>by rw [hr a ha];exact h.val a ha,λn p hp h1=>?_,λa b ha hb e=>?_,λa ha=>by rw [he a ha];exact h.wide a ha⟩
 ·have hn:=cE.2 ⟨p,hp⟩
  have hp2:p∈ah l:=(h.ok.up hp).resolve_left h1
  rw [ho n hn,ho p hp2,hr n hn,hr p hp2]
  exact h.up n p hp h1
 ·rw [ho a (cE.2 ⟨_,ha⟩),ho b (cE.2 ⟨_,hb⟩)] at e
  exact h.root a b ha hb e
theorem iT {l:Fo}{A:List Int}{x:Int×Int}:x∈aT l A↔x∈l/\x.1∉A:=by unfold aT;rw [List.mem_filter,decide_eq_true_eq]
theorem Inv.aT {X:List Tk}{l:Fo}(h:Inv m X l)(A:List Int)(hk:Ok m (aT l A)):Inv m X (aT l A):=by
 have hs:∀a∈ah (Go.Proofs.YtfmhdimaijimlaaGreatDoor.aT l A),a∈ah l:=λa ha=>(bn.1 ha).1
 exact⟨hk,h.len,λa ha b hb e=>h.one a (hs a ha) b (hs b hb) e,λa ha=>h.val a (hs a ha),λn p hp h1=>h.up n p (iT.1 hp).1 h1,λa b ha hb e=>h.root a b (iT.1 ha).1 (iT.1 hb).1 e,λa ha=>h.wide a (hs a ha)⟩
def dB (X:List Tk)(l:Fo)(o:Int):Bool:=(ah l).any (λn=>decide (ob X n=o))
def aK (X:List Tk)(l:Fo)(c:Cp):Bool:=(ah l).any (λn=>decide ((tk X n).1=c))
theorem eh {X:List Tk}{l:Fo}{o:Int}:dB X l o=true↔∃n∈ah l,ob X n=o:=by unfold dB;simp
theorem bB {X:List Tk}{l:Fo}{c:Cp}:aK X l c=true↔∃n∈ah l,(tk X n).1=c:=by unfold aK;simp
theorem cM {X:List Tk}{l:Fo}{c:Cp}(h:aK X l c=true):dB X l c.1=true:=by
 obtain⟨n,hn,e⟩:=bB.1 h
 exact eh.2 ⟨n,hn,by unfold ob;rw [e]⟩
theorem Inv.add {m:Nat}{X:List Tk}{l:Fo}(h:Inv m X l){k:Nat}{p:Int}{c:Cp}{r:Int}(hk:k<m)(hn:(k:Int)∉ah l)(hc:aK X l c=false)(hw:c.2.1<ak/\c.2.2<ak)(hv:aX r=true)
  (hp:(p=-1/\dB X l c.1=false)\/(p∈ah l/\ob X p=c.1/\aA r (rg X p)=true)):Inv m (X.set k (c,r)) (l++[((k:Int),p)]):=by
 have hlen:k<X.length:=by rw [h.len];exact hk
 have hs:=eJ (X:=X) (c,r) hlen
 have ho:∀a∈ah l,tk (X.set k (c,r)) a=tk X a:=λa ha=>bX _ (bj h.ok ha) (λe=>hn (e ▸ ha))
 have hN:∀a,a∈ah (l++[((k:Int),p)])↔a∈ah l\/a=(k:Int):=λa=>by rw [cQ,List.mem_append,List.mem_singleton]
 have hC:∀a∈ah l,(tk X a).1≠c:=λa ha e=>by
  have:=bB.2 ⟨a,ha,e⟩;rw [hc] at this;cases this
 have hpn:p≠(k:Int):=by
  rcases hp with ⟨rfl,_⟩|⟨hp,_⟩
  ·omega
  ·exact λe=>hn (e ▸ hp)
 have hob:∀a∈ah l,ob (X.set k (c,r)) a=ob X a:=λa ha=>by unfold ob;rw [ho a ha]
 have hrg:∀a∈ah l,rg (X.set k (c,r)) a=rg X a:=λa ha=>by unfold rg;rw [ho a ha]
 have hobk:ob (X.set k (c,r)) (k:Int)=c.1:=by unfold ob;rw [hs]
 have hrgk:rg (X.set k (c,r)) (k:Int)=r:=by unfold rg;rw [hs]
 refine⟨h.ok.add (by omega) (by omega) hn (hp.imp (·.1) (·.1)),by rw [List.length_set];exact h.len,?_,?_,?_,?_,?_⟩
 ·intro a ha b hb e
  rcases (hN a).1 ha with ha|rfl<;>rcases (hN b).1 hb with hb|rfl
  ·rw [ho a ha,ho b hb] at e;exact h.one a ha b hb e
  ·rw [ho a ha,hs] at e;exact absurd e (hC a ha)
  ·rw [ho b hb,hs] at e;exact absurd e.symm (hC b hb)
  ·rfl
 ·intro a ha
  rcases (hN a).1 ha with ha|rfl
  ·rw [hrg a ha];exact h.val a ha
  ·rw [hrgk];exact hv
 ·intro n q hq h1
  rw [List.mem_append,List.mem_singleton,Prod.mk.injEq] at hq
  rcases hq with hq|⟨rfl,rfl⟩
  ·have hn1:=cE.2 ⟨q,hq⟩
   have hq1:q∈ah l:=(h.ok.up hq).resolve_left h1
   rw [hob n hn1,hob q hq1,hrg n hn1,hrg q hq1]
   exact h.up n q hq h1
  ·rcases hp with ⟨h2,_⟩|⟨hp1,hp2,hp3⟩
   ·exact absurd h2 h1
   ·rw [hobk,hrgk,hob _ hp1,hrg _ hp1]
    exact⟨hp2.symm,hp3⟩
 ·intro a b ha hb e
  rw [List.mem_append,List.mem_singleton,Prod.mk.injEq] at ha hb
  rcases ha with ha|⟨rfl,hpa⟩<;>rcases hb with hb|⟨rfl,hpb⟩
  ·rw [hob a (cE.2 ⟨_,ha⟩),hob b (cE.2 ⟨_,hb⟩)] at e
   exact h.root a b ha hb e
  ·rcases hp with ⟨_,hf⟩|⟨hp1,_⟩
   ·rw [hobk,hob a (cE.2 ⟨_,ha⟩)] at e
    have:=eh.2 ⟨a,cE.2 ⟨_,ha⟩,e⟩
    rw [hf] at this;cases this
   ·have:=bj h.ok hp1;omega
  ·rcases hp with ⟨_,hf⟩|⟨hp1,_⟩
   ·rw [hobk,hob b (cE.2 ⟨_,hb⟩)] at e
    have:=eh.2 ⟨b,cE.2 ⟨_,hb⟩,e.symm⟩
    rw [hf] at this;cases this
   ·have:=bj h.ok hp1;omega
  ·rfl
 ·intro a ha
  rcases (hN a).1 ha with ha|rfl
  ·rw [ho a ha];exact h.wide a ha
  ·rw [hs];exact hw
theorem Inv.init (m:Nat):Inv m (List.replicate m tz) []:=by
 refine⟨Ok.nil,by simp,?_,?_,?_,?_,?_⟩
 ·intro a ha;cases ha
 ·intro a ha;cases ha
 ·intro n p hp;cases hp
 ·intro a b ha;cases ha
 ·intro a ha;cases ha
theorem Inv.mH {X:List Tk}{l:Fo}(h:Inv m X l):∀n∈ah l,∃r,(r,-1)∈l/\ob X r=ob X n/\n∈G true l r:=by
 refine jK h.ok (P:=λn=>∃r,(r,-1)∈l/\ob X r=ob X n/\n∈G true l r) (λn p hn ih=>?_)
 by_cases hp:p=-1
 ·subst hp
  exact⟨n,hn,rfl,oJ h.ok (cE.2 ⟨_,hn⟩)⟩
 ·have hp1:p∈ah l:=(h.ok.up hn).resolve_left hp
  obtain⟨r,hr,ho,hG⟩:=ih hp1
  exact⟨r,hr,by rw [ho,(h.up n p hn hp).1],Ak h.ok hn r (cE.2 ⟨_,hr⟩) hG⟩
theorem Inv.same {X:List Tk}{l:Fo}(h:Inv m X l):∀n∈ah l,∀a∈U l n,ob X a=ob X n:=by
 refine jK h.ok (P:=λn=>∀a∈U l n,ob X a=ob X n) (λn p hn ih=>?_)
 intro a ha
 rw [qO h.ok hn] at ha
 rcases List.mem_cons.1 ha with rfl|ha
 ·rfl
 ·have hp:=fM ha
  rw [ih hp a ha,(h.up n p hn (λe=>by have:=bj h.ok hp;omega)).1]
theorem Inv.qd {X:List Tk}{l:Fo}(h:Inv m X l){r:Int}(hr:(r,-1)∈l){n:Int}:n∈G true l r↔n∈ah l/\ob X n=ob X r:=by
 constructor
 ·intro hn
  have h1:=(bW h.ok).1 hn
  have h2:=fM h1
  exact⟨h2,(h.same n h2 r h1).symm⟩
 ·rintro ⟨hn,ho⟩
  obtain⟨s,hs,hso,hG⟩:=h.mH n hn
  rw [h.root r s hr hs (by rw [hso,ho])]
  exact hG
open Go.RowKit
theorem aa {p:Prop}(h:p):Hid p:=h
theorem aL {k:IntKind}{a b:Int}(h:a=b):Ending.returned (.int k a)=.returned (.int k b):=by rw [h]
theorem cW {a b:Bool}(h:a=b):Ending.returned (.bool a)=.returned (.bool b):=by rw [h]
theorem ab (w:World)(o:Obj):Below w.heap.size w (w.alloc o):=(Below.refl _ _).alloc (Nat.le_refl _) _
theorem aw (w:World)(o p:Obj):Below w.heap.size w ((w.alloc o).alloc p):=(ab _ _).alloc (by simp) _
theorem al {W:World}(h:Below w.heap.size w W)(hb:Below W.heap.size W w1):Below w.heap.size w w1:=h.trans (hb.mono h.size)
theorem qZ {row:Option Nat}(h:Below w.heap.size w w1)(hgr:w1.grownBy w2 row)(hg:∀k,row=some k->w.heap.size<=k):Below w.heap.size w w2 :=
 h.grown hgr h.size hg
theorem nj (g i:Nat):(⟨g,0,none⟩:Addr).add i=⟨g,i,none⟩:=by unfold Addr.add;split<;>simp_all
theorem aV (g o i:Nat):(⟨g,o,none⟩:Addr).add i=⟨g,o+i,none⟩:=by unfold Addr.add;split<;>simp_all
theorem sj:(prog.info? 3).map (λi=>(i.zero,i.size,i.bytes))=some (some (.int .i64 0),1,8):=by kernel_rfl
def aq (w:World)(p:Addr)(v:Value):Prop:=w.cell? p=some v/\w.frozen? p=false
theorem aq.later {W:World}{p:Addr}{v:Value}(hb:Below W.heap.size W w1)(h:aq W p v):aq w1 p v :=
 ⟨cell_later hb h.1,by rw [hb.frozen (World.block_lt_of_cell? _ _ h.1)];exact h.2⟩
theorem aq.alloc {p:Addr}{v:Value}(h:aq w p v)(o:Obj):aq (w.alloc o) p v:=h.later (ab _ _)
def ints (l:List Int):List Value:=l.map λ(n:Int)=>Value.int .i64 n
theorem qt (l:List Int):(ints l).length=l.length:=by simp [ints]
theorem bf (l m:List Int):ints (l++m)=ints l++ints m:=by simp [ints]
theorem ep (l:List Int)(i:Nat)(h:i<l.length):(ints l)[i]?=some (.int .i64 l[i]):=by simp [ints,h]
theorem eC (l:List Int):∀u∈ints l,u.oneCell'=true:=by
 intro u hu
 simp only [ints,List.mem_map] at hu
 obtain⟨n,_,rfl⟩:=hu
 rfl
structure ae (S:Nat->Prop)(w w':World):Prop where
 os:w'.os=w.os
 tape:w'.tape=w.tape
 output:w'.output=w.output
 size:w.heap.size<=w'.heap.size
 block:∀k,k<w.heap.size->¬S k->w'.heap[k]?=w.heap[k]?
theorem ae.refl (S:Nat->Prop)(w:World):ae S w w:=⟨rfl,rfl,rfl,Nat.le_refl _,λ_ _ _=>rfl⟩
theorem ae.trans {S:Nat->Prop}{a b c:World}(h:ae S a b)(k:ae S b c):ae S a c :=
 ⟨k.os.trans h.os,k.tape.trans h.tape,k.output.trans h.output,Nat.le_trans h.size k.size,λi hi hn=>(k.block i (Nat.lt_of_lt_of_le hi h.size) hn).trans (h.block i hi hn)⟩
theorem ae.of {S:Nat->Prop}{w w':World}(h:Below w.heap.size w w'):ae S w w':=⟨h.os,h.tape,h.output,h.size,λk hk _=>h.block k hk⟩
theorem ae.call {S:Nat->Prop}{W:World}(h:ae S w W)(hb:Below W.heap.size W w'):ae S w w':=h.trans (ae.of hb)
theorem ae.below {S:Nat->Prop}{W:World}(h:Below w.heap.size w W)(hb:ae S W w')(hS:∀k,S k->w.heap.size<=k):Below w.heap.size w w' :=
 ⟨hb.os.trans h.os,hb.tape.trans h.tape,hb.output.trans h.output,Nat.le_trans h.size hb.size,λk hk=>(hb.block k (Nat.lt_of_lt_of_le hk h.size) (λhs=>by have:=hS k hs;omega)).trans (h.block k hk)⟩
theorem ae.mono {S T:Nat->Prop}(h:ae S w w')(hS:∀k,S k->T k):ae T w w':=⟨h.os,h.tape,h.output,h.size,λk hk hn=>h.block k hk (λhs=>hn (hS k hs))⟩
theorem ae.setCell {S:Nat->Prop}{a w:World}(h:ae S a w){p:Addr}(hp:S p.block)(u:Value):ae S a (w.setCell p u) :=
 h.trans ⟨rfl,rfl,rfl,by simp [World.setCell],λk hk hn=>Below.heap_setCell _ _ _ _ (λe=>hn (e ▸ hp))⟩
theorem ae.alloc {S:Nat->Prop}{a:World}(h:ae S a w)(o:Obj):ae S a (w.alloc o):=h.call (ab _ _)
theorem ae.put {S:Nat->Prop}{a w:World}(h:ae S a w){p:Addr}(hp:a.heap.size<=p.block)(u:Value):ae S a (w.setCell p u) :=
 ⟨h.os,h.tape,h.output,by simpa using h.size,λk hk hn=>by rw [Below.heap_setCell _ _ _ _ (by omega)];exact h.block k hk hn⟩
theorem ae.setCells {S:Nat->Prop}{b:Nat}(hp:S b):∀(vs:List Value) (o:Nat) {a w:World},ae S a w->ae S a (w.setCells b o vs)
 | [],_,_,_,h=>h
 | v::r,o,_,_,h=>ae.setCells hp r (o+1) (h.setCell (p:=⟨b,o,none⟩) hp v)
theorem cv (b:Nat):∀(vs:List Value) (o:Nat) (w:World),(w.setCells b o vs).heap.size=w.heap.size
 | [],_,_=>rfl
 | v::r,o,w=>by rw [World.setCells,cv b r];simp [World.setCell]
theorem aq.but {S:Nat->Prop}{p:Addr}{v:Value}(hb:ae S w w')(h:aq w p v)(hn:¬S p.block):aq w' p v:=by
 have hk:=hb.block p.block (World.block_lt_of_cell? _ _ h.1) hn
 exact⟨by rw [World.cell?_of_block hk];exact h.1,by rw [World.frozen?_of_block hk];exact h.2⟩
theorem aq.put {w:World}{p:Addr}{v u:Value}(h:aq w p v):aq (w.setCell p u) p u :=
 ⟨World.cell?_setCell_same _ _ _ h.1,by have:=h.2;simpa using this⟩
theorem aq.other {p q:Addr}{v u:Value}(h:aq w p v)(hne:q≠p):aq (w.setCell q u) p v :=
 ⟨by rw [World.cell?_setCell_other _ _ _ _ hne];exact h.1,by have:=h.2;simpa using this⟩
theorem aC {S:Nat->Prop}{p:Addr}{v:Value}(hb:ae S w w')(h:w.cell? p=some v)(hn:¬S p.block):w'.cell? p=some v:=by
 rw [World.cell?_of_block (hb.block p.block (World.block_lt_of_cell? _ _ h) hn)];exact h
theorem ae.comp {S T:Nat->Prop}{a b c:World}(h:ae S a b)(k:ae T b c)(hT:∀i,T i->S i\/a.heap.size<=i):ae S a c :=
 ⟨k.os.trans h.os,k.tape.trans h.tape,k.output.trans h.output,Nat.le_trans h.size k.size,λi hi hn=>(k.block i (Nat.lt_of_lt_of_le hi h.size) (λht=>by rcases hT i ht with h1|h1;exact hn h1;omega)).trans (h.block i hi hn)⟩
structure Row (w:World)(a:Option Addr)(n cap:Nat)(L:List Value):Prop where
 len:L.length=n
 cap_:n<=cap
 none_:a=none->n=0/\cap=0
 cells:∀x,a=some x->∀j u,L[j]?=some u->w.cell? (x.add j)=some u
 one:∀u∈L,u.oneCell'=true
theorem Row.later {W:World}{cap:Nat}{L:List Value}(hb:Below W.heap.size W w1)(h:Row W a n cap L):Row w1 a n cap L :=
 ⟨h.len,h.cap_,h.none_,λx hx j u hu=>cell_later hb (h.cells x hx j u hu),h.one⟩
theorem Row.alloc {cap:Nat}{L:List Value}(h:Row w a n cap L)(o:Obj):Row (w.alloc o) a n cap L:=h.later (ab _ _)
theorem dY (w:World):Row w none 0 0 []:=⟨rfl,Nat.le_refl _,λ_=>⟨rfl,rfl⟩,λ_ h=>(by cases h),λ_ h=>(by cases h)⟩
def aD (a:Option Addr)(k:Nat):Prop:=∃x,a=some x/\x.block=k
theorem nU (x:Addr)(j:Nat):(x.add j).block=x.block:=by unfold Addr.add;split<;>rfl
theorem Row.but {S:Nat->Prop}{cap:Nat}{L:List Value}(hb:ae S w w')(h:Row w a n cap L)(hn:∀k,aD a k->¬S k):Row w' a n cap L :=
 ⟨h.len,h.cap_,h.none_,λx hx j u hu=>aC hb (h.cells x hx j u hu) (by rw [nU];exact hn _ ⟨x,hx,rfl⟩),h.one⟩
theorem Row.plain {cap:Nat}{L:List Value}(h:Row w a n cap L)(hl:0<n):∃b o,a=some ⟨b,o,none⟩/\∀i v,L[i]?=some v->w.cell? ⟨b,o+i,none⟩=some v:=by
 cases a with
 | none=>have:=h.none_ rfl;omega
 | some x =>
  obtain⟨b,o,spot⟩:=x
  have hlen:=h.len
  have h0:=h.cells _ rfl 0 _ (gE (by omega))
  have hs:spot=none:=by simpa [Addr.add] using World.cell?_spot h0
  subst hs
  refine⟨b,o,rfl,λi v hi=>?_⟩
  have:=h.cells _ rfl i _ hi
  rw [aV] at this
  exact this
theorem Row.at {o cap:Nat}{L:List Value}(hl:L.length=n)(hc:n<=cap)(hs:∀x∈L,x.oneCell'=true)(h:∀i v,L[i]?=some v->w.cell? ⟨b,o+i,none⟩=some v):Row w (some ⟨b,o,none⟩) n cap L:=by
 refine⟨hl,hc,λh=>(by cases h),λx hx j u hu=>?_,hs⟩
 cases hx
 rw [aV]
 exact h j u hu
theorem Row.sub {w:World}{a:Option Addr}{n cap m c:Nat}{L:List Value}(h:Row w a n cap L)(hm:m<=n)(hc:m<=c)(h0:a=none->c=0):Row w a m c (L.take m) :=
 ⟨by rw [List.length_take,h.len];omega,hc,λe=>⟨by have:=h.none_ e;omega,h0 e⟩,λx hx j u hu=>h.cells x hx j u (by
  rw [List.getElem?_take] at hu
  split at hu
  ·exact hu
  ·cases hu),λu hu=>h.one u (List.mem_of_mem_take hu)⟩
structure Own (w:World)(base:Nat)(e:TypeId)(a:Option Addr)(n cap:Nat)(L:List Value):Prop where
 row:w.ownsRow base e 1 (.slice a n cap) n L
 one:∀u∈L,u.oneCell'=true
theorem Own.len {e:TypeId}{cap:Nat}{L:List Value}(h:Own w base e a n cap L):L.length=n:=by
 have:=h.row.1
 rw [Nat.mul_one] at this
 exact this
theorem Own.read {e:TypeId}{cap:Nat}{L:List Value}(h:Own w base e a n cap L):Row w a n cap L:=by
 refine⟨h.len,?_,?_,?_,h.one⟩
 ·rcases h.row.2 with ⟨h,hn⟩|⟨g,c,cur,hv,_,_,hc,_⟩
  ·omega
  ·simp only [Value.slice.injEq] at hv;omega
 ·intro ha
  rcases h.row.2 with ⟨h,hn⟩|⟨g,c,cur,hv,_,_,hc,_⟩
  ·simp only [Value.slice.injEq] at h;omega
  ·subst ha;simp at hv
 ·intro x hx j u hu
  rcases h.row.2 with ⟨h,hn⟩|⟨g,c,cur,hv,_,_,hc,_⟩
  ·subst hx;simp at h
  ·subst hx
   simp only [Value.slice.injEq,Option.some.injEq] at hv
   obtain⟨rfl,_,rfl⟩:=hv
   exact h.row.cells (g:=g) rfl j u hu
theorem oY {S:Nat->Prop}{W:World}{e:TypeId}{size:Nat}{v:Value}{xs:List Value}(hb:ae S W w1)(h:W.ownsRow base e size v n xs)(hn:∀k,v.ownBlock=some k->¬S k):w1.ownsRow base e size v n xs:=by
 refine⟨h.1,?_⟩
 rcases h.2 with h|⟨g,cap,cur,hv,hg,hh,r⟩
 ·exact .inl h
 ·have hlt:g<W.heap.size:=by
   rcases Nat.lt_or_ge g W.heap.size with h1|h1
   ·exact h1
   ·rw [Array.getElem?_eq_none h1] at hh;cases hh
  exact .inr ⟨g,cap,cur,hv,hg,by rw [hb.block g hlt (hn g (by rw [hv];simp [Value.ownBlock]))];exact hh,r⟩
theorem gw {b':Nat}{e:TypeId}{size:Nat}{v:Value}{xs:List Value}(h:w.ownsRow b e size v n xs)(hb:b'<=b):w.ownsRow b' e size v n xs:=by
 refine⟨h.1,?_⟩
 rcases h.2 with h|⟨g,cap,cur,hv,hg,r⟩
 ·exact .inl h
 ·exact .inr ⟨g,cap,cur,hv,Nat.le_trans hb hg,r⟩
theorem aZ {e:TypeId}{size:Nat}{v:Value}{xs:List Value}(h:w.ownsRow base e size v n xs):∀k,v.ownBlock=some k->base<=k/\k<w.heap.size:=by
 intro k hk
 rcases h.2 with ⟨rfl,_⟩|⟨g,cap,cur,rfl,hg,hh,_⟩
 ·cases hk
 ·simp [Value.ownBlock] at hk
  subst hk
  exact⟨hg,(Array.getElem?_eq_some_iff.1 hh).1⟩
theorem aD.of {a:Option Addr}{n cap k:Nat}:(Value.slice a n cap).ownBlock=some k↔aD a k:=by
 cases a with
 | none=>simp [Value.ownBlock,aD]
 | some x=>simp [Value.ownBlock,aD]
theorem Own.but {S:Nat->Prop}{W:World}{e:TypeId}{cap:Nat}{L:List Value}(hb:ae S W w1)(h:Own W base e a n cap L)(hn:∀k,aD a k->¬S k):Own w1 base e a n cap L :=
 ⟨oY hb h.row (λk hk=>hn k (aD.of.1 hk)),h.one⟩
theorem Own.later {W:World}{e:TypeId}{cap:Nat}{L:List Value}(hb:Below W.heap.size W w1)(h:Own W base e a n cap L):Own w1 base e a n cap L :=
 h.but (S:=λ_=>False) (ae.of hb) (λ_ _ h=>h)
theorem Own.alloc {e:TypeId}{cap:Nat}{L:List Value}(h:Own w base e a n cap L)(o:Obj):Own (w.alloc o) base e a n cap L:=h.later (ab _ _)
theorem Own.mono {e:TypeId}{cap:Nat}{L:List Value}(h:Own w base e a n cap L)(hb:b<=base):Own w b e a n cap L:=⟨gw h.row hb,h.one⟩
theorem Own.nil (w:World)(base:Nat)(e:TypeId):Own w base e .none 0 0 []:=⟨⟨rfl,.inl ⟨rfl,rfl⟩⟩,λ_ h=>(by cases h)⟩
theorem Own.bD {e:TypeId}{cap:Nat}{L:List Value}(h:Own w base e a n cap L):∀k,aD a k->base<=k:=λk hk=>(aZ h.row k (aD.of.2 hk)).1
theorem Own.lt {e:TypeId}{cap:Nat}{L:List Value}(h:Own w base e a n cap L):∀k,aD a k->k<w.heap.size:=λk hk=>(aZ h.row k (aD.of.2 hk)).2
theorem Own.oR {e:TypeId}{cap:Nat}{L:List Value}(h:Own w base e a n cap L){x:Addr}(hx:a=some x){u:Value}(hu:L[j]?=some u):∃g,x=⟨g,0,none⟩/\aq w ⟨g,j,none⟩ u:=by
 rcases h.row.2 with ⟨h1,hn⟩|⟨g,c,cur,hv,_,hh,hc,_⟩
 ·subst hx;simp at h1
 ·subst hx
  simp only [Value.slice.injEq,Option.some.injEq] at hv
  obtain⟨rfl,_,rfl⟩:=hv
  refine⟨g,rfl,?_,by simp [World.frozen?,hh]⟩
  have:=h.read.cells _ rfl j u hu
  rwa [nj] at this
structure Gr (a a':Option Addr)(w w':World):Prop where
 but:ae (aD a) w w'
 on:∀k,aD a' k->aD a k\/w.heap.size<=k
theorem Gr.refl (a:Option Addr)(w:World):Gr a a w w:=⟨ae.refl _ _,λ_ h=>.inl h⟩
theorem Gr.trans {a' a'':Option Addr}{w'':World}(h:Gr a a' w w')(k:Gr a' a'' w' w''):Gr a a'' w w'' :=
 ⟨h.but.comp k.but h.on,λi hi=>by
  rcases k.on i hi with h1|h1
  ·exact h.on i h1
  ·exact .inr (Nat.le_trans h.but.size h1)⟩
theorem Gr.pre {a':Option Addr}{W:World}(h:Below w.heap.size w W)(k:Gr a a' W w'):Gr a a' w w' :=
 ⟨(ae.of h).trans k.but,λi hi=>by
  rcases k.on i hi with h1|h1
  ·exact .inl h1
  ·exact .inr (Nat.le_trans h.size h1)⟩
theorem Gr.below {e:TypeId}{a':Option Addr}{cap:Nat}{L:List Value}(h:Own w base e a n cap L)(g:Gr a a' w w')(hb:base<=w.heap.size):Below base w w' :=
 ⟨g.but.os,g.but.tape,g.but.output,g.but.size,λk hk=>g.but.block k (by omega) (λhs=>by have:=h.bD k hs;omega)⟩
theorem lr (t e:TypeId)(z:Value)(au:Nat)(ht:prog.underlying t=some (.slice e))(hinf:(prog.info? e).map (λi=>(i.zero,i.size,i.bytes))=some (some z,1,au))(hzs:z.cells.size=1)
  {w:World} {base:Nat} {a:Option Addr} {n cap:Nat} {L:List Value} {b:Option Addr} {m c:Nat} {M:List Value} (h:Own w base e a n cap L) (k:Row w b m c M) (hb:base<=w.heap.size) (hr:(n+m)*au<=140737488355328) (hr2:n+m<=140737488355328) :
  ∃a' cap' w',(Builtin.append_ #[t,t] t #[.slice a n cap,.slice b m c]).run prog w=.ok (.slice a' (n+m) cap') w'/\Own w' base e a' (n+m) cap' (L++M)/\Gr a a' w w':=by
 obtain⟨i,hi,hz0,hz1,hz2⟩:=info_parts hinf
 have hsm:∀x∈L++M,x.oneCell'=true:=λx hx=>by
  rcases List.mem_append.1 hx with h1|h1
  ·exact h.one x h1
  ·exact k.one x h1
 cases b with
 | none =>
  obtain⟨rfl,rfl⟩:=k.none_ rfl
  have hM:M=[]:=List.eq_nil_of_length_eq_zero k.len
  subst hM
  have hr:=run_append_owned_none (P:=prog) (w:=w) base t t e i 1 ht hi _ n _ h.row
  exact⟨a,cap,w,hr,⟨by simpa using h.row,hsm⟩,Gr.refl _ _⟩
 | some x =>
  obtain⟨v',w',hr,h2,h3,_,h5⟩:=run_append_own_at (P:=prog) w base t t e i _ 1 au ht hi hz0 hz1 hz2 hzs (by decide) _ n _ h.row x m c M (by rw [k.len,Nat.mul_one]) (k.cells x rfl) k.one (by unfold maxLen;omega) hr hb
  obtain⟨a',cap',rfl⟩:∃a' cap',v'=.slice a' (n+m) cap':=by
   rcases h2.2 with ⟨h,h'⟩|⟨g',cap',_,h,_⟩
   ·exact⟨.none,0,by rw [h,h']⟩
   ·exact⟨_,cap',h⟩
  refine⟨a',cap',w',hr,⟨h2,hsm⟩,⟨h3.os,h3.tape,h3.output,h3.size,λj hj hn=>h3.block j hj (λe=>hn (aD.of.1 e.symm))⟩,λj hj=>?_⟩
  rcases h5 with h5|h5
  ·rw [aD.of.2 hj] at h5
   exact .inl (aD.of.1 h5.symm)
  ·rw [aD.of.2 hj] at h5
   right
   simp at h5
   omega
theorem kz (t e:TypeId)(z:Value)(au:Nat)(ht:prog.underlying t=some (.slice e))(hinf:(prog.info? e).map (λi=>(i.zero,i.size,i.bytes))=some (some z,1,au))(hzs:z.cells.size=1)
  {w:World} {p:Addr} {n:Nat} {L:List Value} {x:Addr} {m c:Nat} {M:List Value} (h:Row w (some p) n n L) (k:Row w (some x) m c M) (hm:0<m) (hr:(n+m)*au<=140737488355328) (hr2:n+m<=140737488355328) :
  ∃g' cap' w',(Builtin.append_ #[t,t] t #[.slice (some p) n n,.slice (some x) m c]).run prog w=.ok (.slice (some ⟨g',0,none⟩) (n+m) cap') w'/\Own w' w.heap.size e (some ⟨g',0,none⟩) (n+m) cap' (L++M)/\Below w.heap.size w w':=by
 obtain⟨i,hi,hz0,hz1,hz2⟩:=info_parts hinf
 have hl:=h.len
 have hlm:=k.len
 have hrun:=run_append_grow (P:=prog) w t t e i z ht hi hz0 p n n L (by rw [hz1,Nat.mul_one];exact hl) (h.cells p rfl) x m c M (by rw [hz1,Nat.mul_one];exact hlm) (k.cells x rfl) (by omega) (by omega) (growslice_fits (by omega) (by rw [hz2];omega))
 refine⟨_,_,_,hrun,⟨⟨by simp [hl,hlm],.inr ⟨w.heap.size,_,_,rfl,Nat.le_refl _,heap_alloc_new w.drew _,grownCap_ge _ _ _ _,grownCap_le_maxLen _ _ _ _ (by unfold maxLen;omega),?_,?_⟩⟩,λu hu=>?_⟩,((Below.refl _ _).drew).alloc (by simp) _⟩
 ·have:=grownCap_ge w (n+m) n e
  simp only [Array.size_append,List.size_toArray,size_zeroCells,hzs,hl,hlm]
  omega
 ·rw [Nat.mul_one,Array.toList_append,Array.toList_append]
  exact List.take_left' (by simp [hl,hlm])
 ·rcases List.mem_append.1 hu with h1|h1
  ·exact h.one u h1
  ·exact k.one u h1
theorem kt {P:Program}{ops:Array Oper}{rest:List Oper}{o:Oper}{a:Act}{Q:Exit->Act->World->Prop}(hgd:o.guard=none)(s x:Operand)(t:TypeId)
  (ho:o.op=.call { callee:=.builtin .append,args:=#[s,x],argTypes:=#[t,t] }) (vs vx:Value) (hs:a.eval s=vs) (hx:a.eval x=vx) (v':Value) (w':World)
  (hr:(Builtin.append_ #[t,t] o.type #[vs,vx]).run P w=.ok v' w') (h:wpList P ops Q rest (a.put o.dst v') w'):wpList P ops Q (o::rest) a w:=by
 refine wpList_plain hgd λK hK=>?_
 unfold Oper.wp execOp
 simp only [ho,resolve,invoke,builtin,Sem.run_bind,Sem.run_pure,Result.andThen_ok,List.map_toArray,List.map_cons,List.map_nil,hs,hx,hr]
 exact hK _ _ h
theorem Row.single (w:World)(e:TypeId)(v:Value)(hv:v.oneCell'=true):Row (w.alloc (Obj.cells #[v] e)) (some ⟨w.heap.size,0,.none⟩) 1 1 [v] :=
 Row.at (L:=[v]) rfl (Nat.le_refl _) (λx hx=>by simp at hx;subst hx;exact hv) (λi u hu=>by
  cases i with
  | zero=>simp at hu;subst hu;simp [go_sem]
  | succ i=>simp at hu)
end Go.Proofs.YtfmhdimaijimlaaGreatDoor
