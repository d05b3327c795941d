import Init
import Derived.Laws.BitsAllLaws
import Derived.Laws.ShiftsVarLaws
import Derived.WalkKit
import Derived.WalkSpells
set_option linter.unusedVariables false
set_option linter.unusedSimpArgs false
namespace Go.Proofs.YtffmodpgddecnaaGreatDoor
abbrev Fo:=List (Int×Int)
def aj (l:Fo):List Int:=l.map (·.1)
def ch (l:Fo)(p:Int):List Int:=(l.filter (λx=>decide (x.2=p))).map (·.1)
def kids (l:Fo)(p:Int):List Int:=if 0<=p then ch l p else []
def Ok (m:Nat)(l:Fo):Prop:=∀P:Fo->Prop,P []->(∀(l:Fo) (n p:Int),P l->0<=n->n<m->n∉aj l->(p=-1\/p∈aj l)->P (l++[(n,p)]))->P l
theorem Ok.nil {m:Nat}:Ok m []:=λ_ h0 _=>h0
theorem Ok.add {m:Nat}{l:Fo}{n p:Int}(h:Ok m l)(h0:0<=n)(h1:n<m)(h2:n∉aj l)(h3:p=-1\/p∈aj l):Ok m (l++[(n,p)]):=λP hn ha=>ha l n p (h P hn ha) h0 h1 h2 h3
theorem Ok.ind {m:Nat}{P:Fo->Prop}{l:Fo}(h:Ok m l)(hn:P [])(ha:∀(l:Fo) (n p:Int),Ok m l->P l->0<=n->n<m->n∉aj l->(p=-1\/p∈aj l)->P (l++[(n,p)])):P l :=
 (h (λl=>Ok m l/\P l) ⟨Ok.nil,hn⟩ (λl n p ih h0 h1 h2 h3=>⟨ih.1.add h0 h1 h2 h3,ha l n p ih.1 ih.2 h0 h1 h2 h3⟩)).2
theorem cJ (l:Fo)(n p:Int):aj (l++[(n,p)])=aj l++[n]:=by simp [aj]
theorem ou (l:Fo)(n p q:Int):ch (l++[(n,p)]) q=ch l q++(if p=q then [n] else []):=by
 unfold ch;rw [List.filter_append,List.map_append];congr 1
 by_cases h:p=q<;>simp [h]
theorem bJ {l:Fo}{p k:Int}:k∈ch l p↔(k,p)∈l:=by
 unfold ch;simp only [List.mem_map,List.mem_filter,decide_eq_true_eq];constructor
 ·rintro ⟨⟨a,b⟩,⟨h1,h2⟩,h3⟩
  simp only at h2 h3;subst h2 h3
  exact h1
 ·intro h
  exact⟨(k,p),⟨h,rfl⟩,rfl⟩
theorem av {l:Fo}{k:Int}:k∈aj l↔∃p,(k,p)∈l:=by
 unfold aj;simp only [List.mem_map];constructor
 ·rintro ⟨⟨a,b⟩,h1,h2⟩
  simp only at h2;subst h2;exact⟨b,h1⟩
 ·rintro ⟨p,h⟩
  exact⟨_,h,rfl⟩
theorem Ok.range {m:Nat}{l:Fo}(h:Ok m l):∀k∈aj l,0<=k/\k<m:=by
 refine Ok.ind (P:=λl=>∀k∈aj l,0<=k/\k<m) h ?_ ?_
 ·intro k hk;cases hk
 ·intro l n p h ih h0 h1 h2 h3
  intro k hk;rw [cJ,List.mem_append,List.mem_singleton] at hk;rcases hk with hk|rfl
  ·exact ih k hk
  ·exact⟨h0,h1⟩
theorem Ok.nodup {m:Nat}{l:Fo}(h:Ok m l):(aj l).Nodup:=by
 refine Ok.ind (P:=λl=>(aj l).Nodup) h ?_ ?_
 ·exact List.nodup_nil
 ·intro l n p h ih h0 h1 h2 h3
  rw [cJ,List.nodup_append];refine⟨ih,by simp,λa ha b hb=>?_⟩
  rw [List.mem_singleton] at hb;subst hb;intro e;subst e;exact h2 ha
theorem Ok.par {m:Nat}{l:Fo}(h:Ok m l):∀(j:Nat) (k p:Int),l[j]?=some (k,p)->p=-1\/∃(i:Nat) (q:Int),i<j/\l[i]?=some (p,q):=by
 refine Ok.ind (P:=λl=>∀(j:Nat) (k p:Int),l[j]?=some (k,p)->p=-1\/∃(i:Nat) (q:Int),i<j/\l[i]?=some (p,q)) h ?_ ?_
 ·intro j k p hj;simp at hj
 ·intro l n p h ih h0 h1 h2 h3
  intro j k q hj;by_cases hlt:j<l.length
  ·rw [List.getElem?_append_left hlt] at hj
   rcases ih j k q hj with h|⟨i,r,hi,hr⟩
   ·exact .inl h
   ·exact .inr ⟨i,r,hi,by rw [List.getElem?_append_left (by omega)];exact hr⟩
  ·rw [List.getElem?_append_right (by omega)] at hj
   have hj0:j - l.length=0:=by
    rcases Nat.eq_zero_or_pos (j - l.length) with h|h
    ·exact h
    ·rw [List.getElem?_eq_none (by simp;omega)] at hj;cases hj
   rw [hj0] at hj;simp only [List.getElem?_cons_zero,Option.some.injEq,Prod.mk.injEq] at hj;obtain⟨rfl,rfl⟩:=hj
   rcases h3 with h3|h3
   ·exact .inl h3
   ·obtain⟨r,hr⟩:=av.1 h3
    obtain⟨i,hi⟩:=List.getElem?_of_mem hr
    have:i<l.length:=(List.getElem?_eq_some_iff.1 hi).1
    exact .inr ⟨i,r,by omega,by rw [List.getElem?_append_left this];exact hi⟩
theorem Ok.up {m:Nat}{l:Fo}(h:Ok m l){k p:Int}(hk:(k,p)∈l):p=-1\/p∈aj l:=by
 obtain⟨j,hj⟩:=List.getElem?_of_mem hk
 rcases h.par j k p hj with h|⟨i,q,_,hi⟩
 ·exact .inl h
 ·exact .inr (av.2 ⟨q,List.mem_of_getElem? hi⟩)
theorem Ok.uniq {m:Nat}{l:Fo}(h:Ok m l):∀{k p q:Int},(k,p)∈l->(k,q)∈l->p=q:=by
 refine Ok.ind (P:=λl=>∀{k p q:Int},(k,p)∈l->(k,q)∈l->p=q) h ?_ ?_
 ·intro k p q hk;cases hk
 ·intro l n p h ih h0 h1 h2 h3
  intro k p q h4 h5;rw [List.mem_append,List.mem_singleton,Prod.mk.injEq] at h4 h5;rcases h4 with h4|⟨rfl,rfl⟩<;>rcases h5 with h5|⟨h5,rfl⟩
  ·exact ih h4 h5
  ·subst h5;exact absurd (av.2 ⟨_,h4⟩) h2
  ·exact absurd (av.2 ⟨_,h5⟩) h2
  ·rfl
theorem sH (l:Fo)(p:Int):(ch l p).Sublist (aj l):=(List.filter_sublist).map _
theorem Ok.kD {m:Nat}{l:Fo}(h:Ok m l)(p:Int):(ch l p).Nodup:=List.Nodup.sublist (sH l p) h.nodup
theorem cG {l:Fo}{p k:Int}(h:k∈ch l p):k∈aj l:=(sH l p).subset h
theorem Ok.none {m:Nat}{l:Fo}(h:Ok m l){p:Int}(h0:0<=p)(hp:p∉aj l):ch l p=[]:=by
 apply List.eq_nil_iff_forall_not_mem.2
 intro k hk;rcases h.up (bJ.1 hk) with h1|h1
 ·omega
 ·exact hp h1
theorem sE:∀(m:Nat) (L:List Int),L.Nodup->(∀x∈L,0<=x/\x<m)->L.length<=m
 | 0,L,_,h=>by
  cases L with
  | nil=>simp
  | cons a t=>have:=h a (by simp);omega
 | m+1,L,hn,h=>by
  have h1:=sE m (L.erase (m:Int)) (hn.erase _) (λx hx=>by
   have h2:=(hn.mem_erase_iff).1 hx
   have h3:=h x h2.2
   have h4:=h2.1
   exact⟨h3.1,by omega⟩)
  by_cases hm:(m:Int)∈L
  ·rw [List.length_erase_of_mem hm] at h1
   omega
  ·rw [List.erase_of_not_mem hm] at h1
   omega
theorem Ok.len {m:Nat}{l:Fo}(h:Ok m l):l.length<=m:=by
 have:=sE m (aj l) h.nodup h.range
 simpa [aj] using this
def cut (l:Fo)(n:Int):Fo:=l.filter (λx=>decide (x.1≠n))
theorem Ch (l:Fo)(n a p:Int):cut (l++[(a,p)]) n=cut l n++(if a=n then [] else [(a,p)]):=by
 unfold cut;rw [List.filter_append];congr 1
 by_cases h:a=n<;>simp [h]
theorem kF {l:Fo}{n:Int}{x:Int×Int}:x∈cut l n↔x∈l/\x.1≠n:=by simp [cut]
theorem dB {l:Fo}{n k:Int}:k∈aj (cut l n)↔k∈aj l/\k≠n:=by
 rw [av,av];constructor
 ·rintro ⟨p,hp⟩
  have:=kF.1 hp
  exact⟨⟨p,this.1⟩,this.2⟩
 ·rintro ⟨⟨p,hp⟩,hn⟩
  exact⟨p,kF.2 ⟨hp,hn⟩⟩
theorem Ok.cut {m:Nat}{l:Fo}(h:Ok m l)(n:Int)(hc:ch l n=[]):Ok m (cut l n):=by
 refine Ok.ind (P:=λl=>ch l n=[]->Ok m (Go.Proofs.YtffmodpgddecnaaGreatDoor.cut l n)) h ?_ ?_ hc
 ·exact λ_=>Ok.nil
 ·intro l a p h ih h0 h1 h2 h3 hc
  rw [ou] at hc;obtain⟨hc1,hc2⟩:=List.append_eq_nil_iff.1 hc
  have hpn:p≠n:=by
   intro e;rw [if_pos e] at hc2;cases hc2
  rw [Ch];split
  ·rw [List.append_nil];exact ih hc1
  ·refine .add (ih hc1) h0 h1 (λhk=>h2 (dB.1 hk).1) ?_
   rcases h3 with h3|h3
   ·exact .inl h3
   ·exact .inr (dB.2 ⟨h3,hpn⟩)
theorem tG (l:Fo)(n q:Int):ch (cut l n) q=(ch l q).filter (λx=>decide (x≠n)):=by
 unfold ch cut;rw [List.filter_filter,List.filter_map,List.filter_filter];congr 1
 apply List.filter_congr
 intro x _;simp only [Function.comp];rw [Bool.and_comm]
theorem fz {c:List Int}{n:Int}(h:n∉c):c.filter (λx=>decide (x≠n))=c:=by
 rw [List.filter_eq_self];intro a ha;exact decide_eq_true (λe=>h (e ▸ ha))
theorem wE {c1 c2:List Int}{n:Int}(h:(c1++n::c2).Nodup):(c1++n::c2).filter (λx=>decide (x≠n))=c1++c2:=by
 rw [List.nodup_append] at h;obtain⟨_,h2,h3⟩:=h
 rw [List.nodup_cons] at h2;rw [List.filter_append,fz (λhk=>h3 n hk n (by simp) rfl)];congr 1
 rw [List.filter_cons_of_neg (by simp)];exact fz h2.1
structure Nd where
 th:Bool
 pa:Int
 fi:Int
 be:Int
def xO:Nd:=⟨false,0,0,0⟩
def nx (c:List Int)(i:Nat):Int:=(c[i]?).getD (-1)
structure dk (m:Nat)(l:Fo)(N:List Nd):Prop where
 len:N.length=m
 ok:Ok m l
 out:∀(k:Nat) (x:Nd),N[k]?=some x->(k:Int)∉aj l->x=xO
 vT:∀(k:Nat) (x:Nd) (p:Int),N[k]?=some x->((k:Int),p)∈l->x.th=true/\x.pa=p
 fi:∀(k:Nat) (x:Nd),N[k]?=some x->(k:Int)∈aj l->x.fi=nx (ch l k) 0
 be:∀(p:Int),0<=p->∀(i k:Nat) (x:Nd),(ch l p)[i]?=some (k:Int)->N[k]?=some x->x.be=nx (ch l p) (i+1)
theorem get_some {α:Type}{L:List α}{i:Nat}(h:i<L.length):∃p,L[i]?=some p:=⟨L[i],List.getElem?_eq_getElem h⟩
theorem aD {α:Type}{L:List α}{i j:Nat}{x p:α}(h:(L.set i x)[j]?=some p):(i=j/\p=x)\/(i≠j/\L[j]?=some p):=by
 rw [List.getElem?_set] at h;split at h
 ·next he =>
  split at h
  ·exact .inl ⟨he,(Option.some.inj h).symm⟩
  ·cases h
 ·next he=>exact .inr ⟨he,h⟩
theorem dk.get {m:Nat}{l:Fo}{N:List Nd}(h:dk m l N){n:Int}(hn:n∈aj l):∃(k:Nat) (x:Nd),n=(k:Int)/\k<m/\N[k]?=some x:=by
 have hr:=h.ok.range n hn
 obtain⟨x,hx⟩:=get_some (L:=N) (i:=n.toNat) (by rw [h.len];omega)
 exact⟨n.toNat,x,by omega,by omega,hx⟩
theorem dk.there {m:Nat}{l:Fo}{N:List Nd}(h:dk m l N){k:Nat}{x:Nd}(hx:N[k]?=some x):x.th=decide ((k:Int)∈aj l):=by
 by_cases hk:(k:Int)∈aj l
 ·obtain⟨p,hp⟩:=av.1 hk
  rw [(h.vT k x p hx hp).1,decide_eq_true hk]
 ·rw [h.out k x hx hk,decide_eq_false hk];rfl
structure dy (N:List Nd)(p:Nat)(c:List Int):Prop where
 top:∃x,N[p]?=some x/\x.fi=nx c 0
 Ky:∀(i:Nat) (a:Int),c[i]?=some a->∃(k:Nat) (x:Nd),a=(k:Int)/\N[k]?=some x/\x.be=nx c (i+1)
theorem dk.chain {m:Nat}{l:Fo}{N:List Nd}(h:dk m l N){p:Nat}(hp:(p:Int)∈aj l):dy N p (ch l p):=by
 refine⟨?_,λi a ha=>?_⟩
 ·obtain⟨k,x,hk,_,hx⟩:=h.get hp
  have:k=p:=by omega
  subst this;exact⟨x,hx,h.fi _ _ hx hp⟩
 ·obtain⟨k,x,rfl,_,hx⟩:=h.get (cG (List.mem_of_getElem? ha))
  exact⟨k,x,rfl,hx,h.be p (by omega) i k x ha hx⟩
def j_ (p:Nat)(c:List Int):Nat->Nat
 | 0=>p
 | i+1=>(nx c i).toNat
def mN:Nat->Nat
 | 0=>2
 | _+1=>3
def Nd.put (x:Nd)(f:Nat)(v:Int):Nd:=if f=2 then { x with fi:=v } else { x with be:=v }
def gJ (N:List Nd)(p:Nat)(c:List Int)(i:Nat)(v:Int):List Nd :=
 match N[j_ p c i]? with
 | some x=>N.set (j_ p c i) (x.put (mN i) v)
 | none=>N
theorem rM (N:List Nd)(p:Nat)(c:List Int)(i:Nat)(v:Int):(gJ N p c i v).length=N.length:=by
 unfold gJ;split<;>simp
theorem eP {N:List Nd}{p:Nat}{c:List Int}{i:Nat}{v:Int}{k:Nat}{x:Nd}(h:(gJ N p c i v)[k]?=some x) :
  ∃y,N[k]?=some y/\x.th=y.th/\x.pa=y.pa/\x.fi=(if i=0/\k=p then v else y.fi)/\x.be=(if 0<i/\k=j_ p c i then v else y.be):=by
 unfold gJ at h;split at h
 ·next y hy =>
  rcases aD h with ⟨hk,rfl⟩|⟨hk,h⟩
  ·subst hk
   refine⟨y,hy,?_⟩
   cases i with
   | zero=>simp [Nd.put,mN,j_]
   | succ i=>simp [Nd.put,mN]
  ·refine⟨x,h,rfl,rfl,?_,?_⟩
   ·rw [if_neg];rintro ⟨rfl,rfl⟩;exact hk rfl
   ·rw [if_neg];rintro ⟨_,rfl⟩;exact hk rfl
 ·next hy =>
  refine⟨x,h,rfl,rfl,?_,?_⟩
  ·rw [if_neg];rintro ⟨rfl,rfl⟩;unfold j_ at hy;rw [hy] at h;cases h
  ·rw [if_neg];rintro ⟨_,rfl⟩;rw [hy] at h;cases h
theorem eO {c:List Int}{i:Nat}(h:i<c.length):nx c i=c[i]:=by simp [nx,h]
theorem AQ {c:List Int}{i:Nat}(h:c.length<=i):nx c i=-1:=by simp [nx,h]
theorem dk.init (m:Nat):dk m [] (List.replicate m xO):=by
 refine⟨by simp,.nil,λk x hx _=>?_,λk x p _ h=>(by cases h),λk x _ h=>(by cases h),λp _ i k x h=>?_⟩
 ·rw [List.getElem?_replicate] at hx
  split at hx
  ·exact (Option.some.inj hx).symm
  ·cases hx
 ·simp [ch] at h
theorem dk.root {m:Nat}{l:Fo}{N:List Nd}(h:dk m l N){n:Nat}(hn:n<m)(hl:(n:Int)∉aj l):dk m (l++[((n:Int),-1)]) (N.set n ⟨true,-1,-1,-1⟩):=by
 have hch:∀q:Int,0<=q->ch (l++[((n:Int),-1)]) q=ch l q:=λq hq=>by
  rw [ou,if_neg (by omega),List.append_nil]
 refine⟨by rw [List.length_set];exact h.len,.add h.ok (by omega) (by omega) hl (.inl rfl),λk x hx hk=>?_,λk x p hx hp=>?_,λk x hx hk=>?_,λp hp i k x hi hx=>?_⟩
 ·rw [cJ,List.mem_append,List.mem_singleton,not_or] at hk
  rcases aD hx with ⟨rfl,_⟩|⟨_,hx⟩
  ·exact absurd rfl hk.2
  ·exact h.out k x hx hk.1
 ·rw [List.mem_append,List.mem_singleton,Prod.mk.injEq] at hp
  rcases aD hx with ⟨rfl,rfl⟩|⟨hne,hx⟩
  ·rcases hp with hp|⟨_,rfl⟩
   ·exact absurd (av.2 ⟨_,hp⟩) hl
   ·exact⟨rfl,rfl⟩
  ·rcases hp with hp|⟨hp,_⟩
   ·exact h.vT k x p hx hp
   ·omega
 ·rw [hch _ (by omega)]
  rw [cJ,List.mem_append,List.mem_singleton] at hk;rcases aD hx with ⟨rfl,rfl⟩|⟨hne,hx⟩
  ·rw [h.ok.none (by omega) hl];rfl
  ·rcases hk with hk|hk
   ·exact h.fi k x hx hk
   ·omega
 ·rw [hch p hp] at hi ⊢
  have hk:=cG (List.mem_of_getElem? hi)
  rcases aD hx with ⟨rfl,rfl⟩|⟨hne,hx⟩
  ·exact absurd hk hl
  ·exact h.be p hp i k x hi hx
theorem gi {c:List Int}(hc:c.Nodup){i j:Nat}{a:Int}(h1:c[i]?=some a)(h2:c[j]?=some a):i=j:=by
 have hi:=(List.getElem?_eq_some_iff.1 h1).1
 exact (List.getElem?_inj hi hc).1 (h1.trans h2.symm)
theorem dk.A_ {m:Nat}{l:Fo}{N:List Nd}(h:dk m l N){p n:Nat}(hp:(p:Int)∈aj l)(hl:(n:Int)∉aj l)(y:Nd):dy (N.set n y) p (ch l p):=by
 obtain⟨⟨x,hx,hx2⟩,h2⟩:=h.chain hp
 have hpn:n≠p:=λe=>hl (by rw [e];exact hp)
 refine⟨⟨x,by rw [List.getElem?_set_ne hpn];exact hx,hx2⟩,λi a ha=>?_⟩
 obtain⟨k,z,rfl,hz,hz2⟩:=h2 i a ha
 have hkn:n≠k:=λe=>hl (by rw [e];exact cG (List.mem_of_getElem? ha))
 exact⟨k,z,rfl,by rw [List.getElem?_set_ne hkn];exact hz,hz2⟩
theorem dk.child {m:Nat}{l:Fo}{N:List Nd}(h:dk m l N){n p:Nat}(hn:n<m)(hp:(p:Int)∈aj l)(hl:(n:Int)∉aj l) :
  dk m (l++[((n:Int),(p:Int))]) (gJ (N.set n ⟨true,p,-1,-1⟩) p (ch l p) (ch l p).length n):=by
 obtain⟨c,hc⟩:∃c,c=ch l p:=⟨_,rfl⟩
 rw [<-hc];have hcn:c.Nodup:=hc ▸ h.ok.kD p
 have hcm:∀a∈c,a∈aj l:=λa ha=>cG (hc ▸ ha)
 have hpn:n≠p:=λe=>hl (by rw [e];exact hp)
 have hlk:j_ p c c.length≠n/\((j_ p c c.length:Nat):Int)∈aj l/\(0<c.length->c[c.length - 1]?=some ((j_ p c c.length:Nat):Int)):=by
  cases hcl:c.length with
  | zero=>exact⟨λe=>hpn e.symm,hp,λh=>absurd h (Nat.lt_irrefl _)⟩
  | succ j =>
   have hj:j<c.length:=by omega
   have hm:=hcm _ (List.getElem_mem hj)
   have hr:=h.ok.range _ hm
   have e:((j_ p c (j+1):Nat):Int)=c[j]:=by show (((nx c j).toNat:Nat):Int)=_;rw [eO hj];omega
   refine⟨λe2=>hl ?_,by rw [e];exact hm,λ_=>by rw [e];simp⟩
   rw [<-e2,e];exact hm
 have hch:∀q:Int,q≠p->ch (l++[((n:Int),(p:Int))]) q=ch l q:=λq hq=>by
  rw [ou,if_neg (λe=>hq e.symm),List.append_nil]
 have hchp:ch (l++[((n:Int),(p:Int))]) p=c++[(n:Int)]:=by rw [ou,if_pos rfl,hc]
 refine⟨by rw [rM,List.length_set];exact h.len,.add h.ok (by omega) (by omega) hl (.inr hp),λk x hx hk=>?_,λk x q hx hq=>?_,λk x hx hk=>?_,λq hq i k x hi hx=>?_⟩
 ·rw [cJ,List.mem_append,List.mem_singleton,not_or] at hk
  obtain⟨y,hy,h1,h2,h3,h4⟩:=eP hx
  rw [if_neg (λe=>hk.1 (by rw [e.2];exact hp))] at h3
  rw [if_neg (λe=>hk.1 (by rw [e.2];exact hlk.2.1))] at h4
  rcases aD hy with ⟨rfl,_⟩|⟨_,hy⟩
  ·exact absurd rfl hk.2
  ·have:=h.out k y hy hk.1
   subst this;obtain⟨a,b,c,d⟩:=x
   simp only at h1 h2 h3 h4;subst h1 h2 h3 h4
   rfl
 ·obtain⟨y,hy,h1,h2,_,_⟩:=eP hx
  rw [h1,h2];rw [List.mem_append,List.mem_singleton,Prod.mk.injEq] at hq;rcases aD hy with ⟨rfl,rfl⟩|⟨hne,hy⟩
  ·rcases hq with hq|⟨_,rfl⟩
   ·exact absurd (av.2 ⟨_,hq⟩) hl
   ·exact⟨rfl,rfl⟩
  ·rcases hq with hq|⟨hq,_⟩
   ·exact h.vT k y q hy hq
   ·omega
 ·obtain⟨y,hy,_,_,h3,_⟩:=eP hx
  rw [h3];rw [cJ,List.mem_append,List.mem_singleton] at hk;by_cases hkp:k=p
  ·subst hkp
   rw [hchp];rcases aD hy with ⟨rfl,rfl⟩|⟨hne,hy⟩
   ·exact absurd rfl hpn
   ·by_cases hc0:c.length=0
    ·rw [if_pos ⟨hc0,rfl⟩,List.eq_nil_of_length_eq_zero hc0];rfl
    ·rw [if_neg (λe=>hc0 e.1),h.fi k y hy hp,<-hc,eO (by omega),eO (by simp),List.getElem_append_left (by omega)]
  ·rw [if_neg (λe=>hkp e.2),hch _ (by omega)]
   rcases aD hy with ⟨rfl,rfl⟩|⟨hne,hy⟩
   ·rw [h.ok.none (by omega) hl];rfl
   ·rcases hk with hk|hk
    ·exact h.fi k y hy hk
    ·omega
 ·obtain⟨y,hy,_,_,_,h4⟩:=eP hx
  rw [h4];by_cases hqp:q=p
  ·subst hqp
   rw [hchp] at hi ⊢
   by_cases hil:i<c.length
   ·rw [List.getElem?_append_left hil] at hi
    have hkl:=hcm _ (List.mem_of_getElem? hi)
    rcases aD hy with ⟨rfl,rfl⟩|⟨hne,hy⟩
    ·exact absurd hkl hl
    ·by_cases hi1:i+1=c.length
     ·have:(k:Int)=(j_ p c c.length:Nat):=by
       have:=hlk.2.2 (by omega)
       rw [show c.length - 1=i by omega,hi] at this;exact Option.some.inj this
      rw [if_pos ⟨by omega,by omega⟩,eO (by simp;omega)];simp [hi1]
     ·rw [if_neg]
      ·rw [h.be p (by omega) i k y (hc ▸ hi) hy,<-hc,eO (by omega),eO (by simp;omega),List.getElem_append_left (by omega)]
      ·rintro ⟨h5,h6⟩
       have:=hlk.2.2 h5
       rw [<-h6] at this;have:=gi hcn hi this
       omega
   ·rw [List.getElem?_append_right (by omega)] at hi
    have hi0:i - c.length=0:=by
     rcases Nat.eq_zero_or_pos (i - c.length) with h|h
     ·exact h
     ·rw [List.getElem?_eq_none (by simp;omega)] at hi;cases hi
    rw [hi0] at hi;simp only [List.getElem?_cons_zero,Option.some.injEq] at hi;have hkn:n=k:=by omega
    subst hkn;rw [if_neg (λe=>hlk.1 e.2.symm),AQ (by simp;omega)];rcases aD hy with ⟨_,rfl⟩|⟨hne,hy⟩
    ·rfl
    ·exact absurd rfl hne
  ·rw [hch q hqp] at hi ⊢
   have hkl:=List.mem_of_getElem? hi
   rcases aD hy with ⟨rfl,rfl⟩|⟨hne,hy⟩
   ·exact absurd (cG hkl) hl
   ·rw [if_neg]
    ·exact h.be q hq i k y hi hy
    ·rintro ⟨h5,h6⟩
     have:=List.mem_of_getElem? (hlk.2.2 h5)
     rw [<-h6,hc] at this;exact hqp (h.ok.uniq (bJ.1 hkl) (bJ.1 this))
theorem Ok.ahead {m:Nat}{l:Fo}(h:Ok m l){j i:Nat}{k p c:Int}(hj:l[j]?=some (k,p))(hi:l[i]?=some (c,k)):j<i:=by
 rcases h.par i c k hi with e|⟨i',q,hlt,hq⟩
 ·have:=h.range k (av.2 ⟨p,List.mem_of_getElem? hj⟩)
  omega
 ·have h1:(aj l)[i']?=some k:=by simp [aj,hq]
  have h2:(aj l)[j]?=some k:=by simp [aj,hj]
  have:=gi h.nodup h1 h2
  omega
theorem fb {m:Nat}{l:Fo}(h:Ok m l){P:Int->Prop}(hs:∀n∈aj l,(∀c∈ch l n,P c)->P n):∀n∈aj l,P n:=by
 have key:∀(d j:Nat) (k p:Int),l[j]?=some (k,p)->l.length<=d+j->P k:=by
  intro d;induction d with
  | zero =>
   intro j k p hj hd;have:=(List.getElem?_eq_some_iff.1 hj).1
   omega
  | succ d ih =>
   intro j k p hj hd;refine hs k (av.2 ⟨p,List.mem_of_getElem? hj⟩) (λc hc=>?_)
   obtain⟨i,hi⟩:=List.getElem?_of_mem (bJ.1 hc)
   have:=h.ahead hj hi
   exact ih i c k hi (by omega)
 intro n hn;obtain⟨p,hp⟩:=av.1 hn
 obtain⟨j,hj⟩:=List.getElem?_of_mem hp
 exact key l.length j n p hj (by omega)
theorem jY {m:Nat}{l:Fo}(h:Ok m l){P:Int->Prop}(hs:∀n p,(n,p)∈l->(p∈aj l->P p)->P n):∀n∈aj l,P n:=by
 have key:∀(d j:Nat) (k p:Int),l[j]?=some (k,p)->j<d->P k:=by
  intro d;induction d with
  | zero=>intro j k p hj hd;omega
  | succ d ih =>
   intro j k p hj hd;refine hs k p (List.mem_of_getElem? hj) (λhp=>?_)
   obtain⟨q,hq⟩:=av.1 hp
   obtain⟨i,hi⟩:=List.getElem?_of_mem hq
   have:=h.ahead hi hj
   exact ih i p q hi (by omega)
 intro n hn;obtain⟨p,hp⟩:=av.1 hn
 obtain⟨j,hj⟩:=List.getElem?_of_mem hp
 exact key (j+1) j n p hj (by omega)
theorem kV {f g:Int->List Int}:∀{L:List Int},(∀c∈L,f c=g c)->L.flatMap f=L.flatMap g
 | [],_=>rfl
 | c::L,h=>by
  rw [List.flatMap_cons,List.flatMap_cons,h c (by simp),kV (λx hx=>h x (by simp [hx]))]
def ord (e:Bool)(c:List Int):List Int:=if e then c else c.reverse
theorem bP {e:Bool}{c:List Int}{x:Int}:x∈ord e c↔x∈c:=by unfold ord;split<;>simp
def gn (e:Bool)(l:Fo):Nat->Int->List Int
 | 0,_=>[]
 | d+1,n=>n::(ord e (ch l n)).flatMap (gn e l d)
theorem wT {m:Nat}{l:Fo}(h:Ok m l)(e:Bool):∀(d j:Nat) (k p:Int),l[j]?=some (k,p)->l.length<=d+j->gn e l (d+1) k=gn e l d k:=by
 intro d;induction d with
 | zero =>
  intro j k p hj hd;have:=(List.getElem?_eq_some_iff.1 hj).1
  omega
 | succ d ih =>
  intro j k p hj hd;show k::(ord e (ch l k)).flatMap (gn e l (d+1))=k::(ord e (ch l k)).flatMap (gn e l d)
  rw [kV (λc hc=>?_)];obtain⟨i,hi⟩:=List.getElem?_of_mem (bJ.1 (bP.1 hc))
  have:=h.ahead hj hi
  exact ih i c k hi (by omega)
def G (e:Bool)(l:Fo)(n:Int):List Int:=if n∈aj l then gn e l l.length n else []
theorem kr {e:Bool}{l:Fo}{n:Int}(hn:n∉aj l):G e l n=[]:=by unfold G;rw [if_neg hn]
theorem kt {m:Nat}{l:Fo}(h:Ok m l){e:Bool}{n:Int}(hn:n∈aj l):G e l n=n::(ord e (ch l n)).flatMap (G e l):=by
 obtain⟨p,hp⟩:=av.1 hn
 obtain⟨j,hj⟩:=List.getElem?_of_mem hp
 have h1:=wT h e l.length j n p hj (by omega)
 have h2:G e l n=gn e l l.length n:=by unfold G;rw [if_pos hn]
 rw [h2,<-h1];show n::(ord e (ch l n)).flatMap (gn e l l.length)=_
 rw [kV (λc hc=>?_)];unfold G;rw [if_pos (cG (bP.1 hc))]
theorem oy {m:Nat}{l:Fo}(h:Ok m l){e:Bool}{n:Int}(hn:n∈aj l):n∈G e l n:=by rw [kt h hn];simp
def par (l:Fo)(k:Int):Int:=((l.find? (λx=>decide (x.1=k))).map (·.2)).getD (-1)
theorem fB {m:Nat}{l:Fo}(h:Ok m l){n p:Int}(hn:(n,p)∈l):par l n=p:=by
 unfold par;cases hf:l.find? (λx=>decide (x.1=n)) with
 | none=>exact absurd (List.find?_eq_none.1 hf _ hn) (by simp)
 | some x =>
  have h1:=List.mem_of_find?_eq_some hf
  have h2:=List.find?_some hf
  simp only [decide_eq_true_eq] at h2;obtain⟨a,b⟩:=x
  simp only at h2;subst h2;exact h.uniq h1 hn
def un (l:Fo):Nat->Int->List Int
 | 0,_=>[]
 | d+1,n=>n::(if par l n∈aj l then un l d (par l n) else [])
theorem xA {m:Nat}{l:Fo}(h:Ok m l):∀(d j:Nat) (k p:Int),l[j]?=some (k,p)->j<d->un l (d+1) k=un l d k:=by
 intro d;induction d with
 | zero=>intro j k p hj hd;omega
 | succ d ih =>
  intro j k p hj hd;show k::(if par l k∈aj l then un l (d+1) (par l k) else [])=k::(if par l k∈aj l then un l d (par l k) else [])
  rw [fB h (List.mem_of_getElem? hj)];split
  ·next hp =>
   obtain⟨q,hq⟩:=av.1 hp
   obtain⟨i,hi⟩:=List.getElem?_of_mem hq
   have:=h.ahead hi hj
   rw [ih i p q hi (by omega)]
  ·rfl
def U (l:Fo)(n:Int):List Int:=if n∈aj l then un l l.length n else []
theorem EE {l:Fo}{n:Int}(hn:n∉aj l):U l n=[]:=by unfold U;rw [if_neg hn]
theorem ri {m:Nat}{l:Fo}(h:Ok m l){n p:Int}(hn:(n,p)∈l):U l n=n::U l p:=by
 obtain⟨j,hj⟩:=List.getElem?_of_mem hn
 have hlt:=(List.getElem?_eq_some_iff.1 hj).1
 have h1:=xA h l.length j n p hj hlt
 have h2:U l n=un l l.length n:=by unfold U;rw [if_pos (av.2 ⟨p,hn⟩)]
 rw [h2,<-h1];show n::(if par l n∈aj l then un l l.length (par l n) else [])=_
 rw [fB h hn];rfl
theorem fO {l:Fo}{a x:Int}(h:a∈U l x):x∈aj l:=Classical.byContradiction λhx=>by rw [EE hx] at h;cases h
theorem z7 {m:Nat}{l:Fo}(h:Ok m l){n:Int}(hn:n∈aj l):n∈U l n:=by
 obtain⟨p,hp⟩:=av.1 hn
 rw [ri h hp];simp
theorem Kp {m:Nat}{l:Fo}(h:Ok m l){c a:Int}(hc:(c,a)∈l)(ha:a∈aj l):∀x∈aj l,c∈U l x->a∈U l x:=by
 refine jY h (λx p hx ih hm=>?_)
 rw [ri h hx,List.mem_cons] at hm ⊢
 rcases hm with rfl|hm
 ·rw [h.uniq hc hx]
  exact .inr (z7 h (by rw [<-h.uniq hc hx];exact ha))
 ·exact .inr (ih (fO hm) hm)
theorem zb {m:Nat}{l:Fo}(h:Ok m l){e:Bool}{x p:Int}(hx:(x,p)∈l):∀a∈aj l,p∈G e l a->x∈G e l a:=by
 refine fb h (λa ha ih hm=>?_)
 rw [kt h ha,List.mem_cons,List.mem_flatMap] at hm ⊢
 rcases hm with rfl|⟨c,hc,hm⟩
 ·exact .inr ⟨x,bP.2 (bJ.2 hx),oy h (av.2 ⟨_,hx⟩)⟩
 ·exact .inr ⟨c,hc,ih c (bP.1 hc) hm⟩
theorem Gw {m:Nat}{l:Fo}(h:Ok m l){e:Bool}:∀a∈aj l,∀x∈G e l a,a∈U l x:=by
 refine fb h (λa ha ih x hm=>?_)
 rw [kt h ha,List.mem_cons,List.mem_flatMap] at hm;rcases hm with rfl|⟨c,hc,hm⟩
 ·exact z7 h ha
 ·have h1:=ih c (bP.1 hc) x hm
  exact Kp h (bJ.1 (bP.1 hc)) ha x (fO h1) h1
theorem GL {m:Nat}{l:Fo}(h:Ok m l){e:Bool}:∀x∈aj l,∀a∈U l x,x∈G e l a:=by
 refine jY h (λx p hx ih a ha=>?_)
 rw [ri h hx,List.mem_cons] at ha;rcases ha with rfl|ha
 ·exact oy h (av.2 ⟨_,hx⟩)
 ·have h1:=ih (fO ha) a ha
  refine zb h hx a (Classical.byContradiction λhn=>?_) h1
  rw [kr hn] at h1;cases h1
theorem cE {m:Nat}{l:Fo}(h:Ok m l){e:Bool}{a x:Int}:x∈G e l a↔a∈U l x:=by
 constructor
 ·intro hx
  refine Gw h a (Classical.byContradiction λhn=>?_) x hx
  rw [kr hn] at hx;cases hx
 ·intro ha
  exact GL h x (fO ha) a ha
theorem dp {m:Nat}{l:Fo}(h:Ok m l){e:Bool}{a x:Int}(hx:x∈G e l a):x∈aj l:=fO ((cE h).1 hx)
theorem I5 {m:Nat}{l:Fo}(h:Ok m l):∀x∈aj l,∀y∈U l x,∀(i j:Nat) (p q:Int),l[i]?=some (y,p)->l[j]?=some (x,q)->i<=j:=by
 refine jY h (λx p hx ih y hy i j r q hi hj=>?_)
 rw [ri h hx,List.mem_cons] at hy;rcases hy with rfl|hy
 ·have h1:(aj l)[i]?=some y:=by simp [aj,hi]
  have h2:(aj l)[j]?=some y:=by simp [aj,hj]
  rw [gi h.nodup h1 h2];exact Nat.le_refl _
 ·have hp:=fO hy
  obtain⟨r2,hr2⟩:=av.1 hp
  obtain⟨i2,hi2⟩:=List.getElem?_of_mem hr2
  have hq:q=p:=h.uniq (List.mem_of_getElem? hj) hx
  subst hq;have h1:=h.ahead hi2 hj
  have h2:=ih hp y hy i i2 r r2 hi hi2
  omega
theorem zj {m:Nat}{l:Fo}(h:Ok m l){c p:Int}(hc:(c,p)∈l):c∉U l p:=by
 intro hm;obtain⟨q,hq⟩:=av.1 (fO hm)
 obtain⟨i,hi⟩:=List.getElem?_of_mem hc
 obtain⟨j,hj⟩:=List.getElem?_of_mem hq
 have h1:=I5 h p (fO hm) c hm i j p q hi hj
 have h2:=h.ahead hj hi
 omega
theorem IB {m:Nat}{l:Fo}(h:Ok m l){c1 c2 a:Int}(h1:(c1,a)∈l)(h2:(c2,a)∈l):∀x∈aj l,c1∈U l x->c2∈U l x->c1=c2:=by
 refine jY h (λx p hx ih hm1 hm2=>?_)
 rw [ri h hx,List.mem_cons] at hm1 hm2;rcases hm1 with rfl|hm1<;>rcases hm2 with rfl|hm2
 ·rfl
 ·rw [h.uniq hx h1] at hm2
  exact absurd hm2 (zj h h2)
 ·rw [h.uniq hx h2] at hm1
  exact absurd hm1 (zj h h1)
 ·exact ih (fO hm1) hm1 hm2
theorem qf {f:Int->List Int}:∀{L:List Int},L.Nodup->(∀c∈L,(f c).Nodup)->(∀c1∈L,∀c2∈L,∀x,x∈f c1->x∈f c2->c1=c2)->(L.flatMap f).Nodup
 | [],_,_,_=>by simp
 | c::L,h1,h2,h3=>by
  rw [List.nodup_cons] at h1;rw [List.flatMap_cons,List.nodup_append];refine⟨h2 c (by simp),qf h1.2 (λx hx=>h2 x (by simp [hx])) (λa ha b hb=>h3 a (by simp [ha]) b (by simp [hb])),λa ha b hb e=>?_⟩
  subst e;rw [List.mem_flatMap] at hb;obtain⟨d,hd,hb⟩:=hb
  have:=h3 c (by simp) d (by simp [hd]) a ha hb
  subst this;exact h1.1 hd
theorem zx {c:List Int}(h:c.Nodup):c.reverse.Nodup:=List.pairwise_reverse.2 (h.imp (λh e=>h e.symm))
theorem wk {e:Bool}{c:List Int}(h:c.Nodup):(ord e c).Nodup:=by
 unfold ord;split
 ·exact h
 ·exact zx h
theorem fG {m:Nat}{l:Fo}(h:Ok m l)(e:Bool)(n:Int):(G e l n).Nodup:=by
 by_cases hn:n∈aj l
 ·refine fb h (P:=λn=>(G e l n).Nodup) (λa ha ih=>?_) n hn
  rw [kt h ha,List.nodup_cons];refine⟨λhm=>?_,qf (wk (h.kD a)) (λc hc=>ih c (bP.1 hc)) (λc1 hc1 c2 hc2 x hx1 hx2=>?_)⟩
  ·rw [List.mem_flatMap] at hm
   obtain⟨c,hc,hm⟩:=hm
   exact zj h (bJ.1 (bP.1 hc)) ((cE h).1 hm)
  ·exact IB h (bJ.1 (bP.1 hc1)) (bJ.1 (bP.1 hc2)) x (dp h hx1) ((cE h).1 hx1) ((cE h).1 hx2)
 ·rw [kr hn];exact List.nodup_nil
theorem l9 {m:Nat}{l:Fo}(h:Ok m l)(e:Bool)(n:Int):(G e l n).length<=m:=sE m _ (fG h e n) (λx hx=>h.range x (dp h hx))
theorem lV {f g:Int->List Int}:∀{L:List Int},(∀c∈L,(f c).length=(g c).length)->(L.reverse.flatMap f).length=(L.flatMap g).length
 | [],_=>rfl
 | c::L,h=>by
  rw [List.reverse_cons,List.flatMap_append,List.length_append,lV (λx hx=>h x (by simp [hx]))]
  simp [h c (by simp)];omega
theorem AV {m:Nat}{l:Fo}(h:Ok m l)(n:Int):(G false l n).length=(G true l n).length:=by
 by_cases hn:n∈aj l
 ·refine fb h (P:=λn=>(G false l n).length=(G true l n).length) (λa ha ih=>?_) n hn
  rw [kt h ha,kt h ha,List.length_cons,List.length_cons];congr 1
  exact lV ih
 ·rw [kr hn,kr hn]
def Fl (l:Fo)(n:Int):List Int:=(G false l n).reverse
theorem zT {f:Int->List Int}:∀(L:List Int),(L.reverse.flatMap f).reverse=L.flatMap (λc=>(f c).reverse)
 | []=>rfl
 | c::L=>by
  rw [List.reverse_cons,List.flatMap_append,List.reverse_append,zT L];simp
theorem IH {m:Nat}{l:Fo}(h:Ok m l){n:Int}(hn:n∈aj l):Fl l n=(ch l n).flatMap (Fl l)++[n]:=by
 unfold Fl;rw [kt h hn,List.reverse_cons];show ((ch l n).reverse.flatMap (G false l)).reverse++[n]=_
 rw [zT]
theorem FF {l:Fo}{n:Int}(hn:n∉aj l):Fl l n=[]:=by unfold Fl;rw [kr hn];rfl
theorem sP {m:Nat}{l:Fo}(h:Ok m l){a x:Int}:x∈Fl l a↔x∈G true l a:=by
 unfold Fl;rw [List.mem_reverse,cE h,cE h]
theorem BR {m:Nat}{l:Fo}(h:Ok m l)(n:Int):(Fl l n).Nodup:=zx (fG h false n)
theorem Gc {m:Nat}{l:Fo}(h:Ok m l)(n:Int):(Fl l n).length=(G true l n).length:=by unfold Fl;rw [List.length_reverse,AV h]
def nI (l:Fo):List Int->List Int->Prop
 | _,[]=>True
 | q,x::L=>par l x∈q/\nI l (x::q) L
theorem nI.mono {l:Fo}:∀{L q q':List Int},(∀x∈q,x∈q')->nI l q L->nI l q' L
 | [],_,_,_,_=>trivial
 | x::L,q,q',hq,h=>⟨hq _ h.1,nI.mono (λy hy=>by
   rw [List.mem_cons] at hy ⊢
   exact hy.imp id (hq y)) h.2⟩
theorem nI.app {l:Fo}:∀{A B q:List Int},nI l q A->nI l q B->nI l q (A++B)
 | [],_,_,_,h=>h
 | x::A,B,q,h1,h2=>⟨h1.1,nI.app h1.2 (h2.mono (λy hy=>List.mem_cons_of_mem _ hy))⟩
theorem nI.fm {l:Fo}{f:Int->List Int}{q:List Int}:∀{L:List Int},(∀c∈L,nI l q (f c))->nI l q (L.flatMap f)
 | [],_=>trivial
 | c::L,h=>by
  rw [List.flatMap_cons];exact (h c (by simp)).app (nI.fm (λx hx=>h x (by simp [hx])))
theorem nI.get {l:Fo}:∀{L q:List Int} {i:Nat} {x:Int},nI l q L->L[i]?=some x->par l x∈q\/par l x∈L.take i
 | [],_,_,_,_,h=>by simp at h
 | y::L,q,0,x,h,hx=>by
  simp at hx
  subst hx;exact .inl h.1
 | y::L,q,i+1,x,h,hx=>by
  rw [List.getElem?_cons_succ] at hx;rcases h.2.get hx with h1|h1
  ·rw [List.mem_cons] at h1
   rcases h1 with h1|h1
   ·exact .inr (by rw [List.take_succ_cons,h1];simp)
   ·exact .inl h1
  ·exact .inr (by rw [List.take_succ_cons];exact List.mem_cons_of_mem _ h1)
theorem Jq {m:Nat}{l:Fo}(h:Ok m l):∀a∈aj l,∀q,par l a∈q->nI l q (G true l a):=by
 refine fb h (λa ha ih q hq=>?_)
 rw [kt h ha];exact⟨hq,nI.fm (λc hc=>ih c (bP.1 hc) _ (by rw [fB h (bJ.1 (bP.1 hc))];simp))⟩
theorem BA {m:Nat}{l:Fo}(h:Ok m l){n:Int}{i:Nat}{x:Int}(hi:0<i)(hx:(G true l n)[i]?=some x):par l x∈(G true l n).take i:=by
 have hn:n∈aj l:=Classical.byContradiction λhn=>by rw [kr hn] at hx;simp at hx
 rw [kt h hn] at hx ⊢
 obtain⟨j,rfl⟩:∃j,i=j+1:=⟨i - 1,by omega⟩
 rw [List.getElem?_cons_succ] at hx;have h1:nI l [n] ((ord true (ch l n)).flatMap (G true l)) :=
  nI.fm (λc hc=>Jq h c (cG (bP.1 hc)) _ (by rw [fB h (bJ.1 (bP.1 hc))];simp))
 rcases h1.get hx with h2|h2
 ·rw [List.take_succ_cons]
  rw [List.mem_singleton] at h2;rw [h2];simp
 ·rw [List.take_succ_cons]
  exact List.mem_cons_of_mem _ h2
def og (l:Fo):List Int->List Int->Prop
 | _,[]=>True
 | q,x::L=>(∀c∈ch l x,c∈q)/\og l (x::q) L
theorem og.app {l:Fo}:∀{A B q:List Int},og l q A->(∀q',(∀x∈A,x∈q')->og l q' B)->og l q (A++B)
 | [],B,q,_,h=>h q (λx hx=>by cases hx)
 | x::A,B,q,h1,h2=>by
  refine⟨h1.1,?_⟩
  have key:∀{A B q:List Int} {x:Int},x∈q->og l q A->(∀q',(∀y∈x::A,y∈q')->og l q' B)->og l q (A++B):=by
   intro A;induction A with
   | nil=>intro B q x hx _ h;exact h q (λy hy=>by rw [List.mem_singleton] at hy;rw [hy];exact hx)
   | cons a A ih =>
    intro B q x hx ha hb;refine⟨ha.1,?_⟩
    have h3:og l (a::q) A:=ha.2
    have key2:∀{A B q S:List Int},(∀y∈S,y∈q)->og l q A->(∀q',(∀y∈S++A,y∈q')->og l q' B)->og l q (A++B):=by
     intro A;induction A with
     | nil=>intro B q S hS _ h;exact h q (λy hy=>hS y (by simpa using hy))
     | cons b A ih2 =>
      intro B q S hS hA hB;refine⟨hA.1,ih2 (S:=S++[b]) (λy hy=>?_) hA.2 (λq' hq'=>hB q' (λy hy=>hq' y (by simpa using hy)))⟩
      rw [List.mem_append,List.mem_singleton] at hy;rcases hy with hy|rfl
      ·exact List.mem_cons_of_mem _ (hS y hy)
      ·simp
    exact key2 (S:=[x,a]) (λy hy=>by
     simp only [List.mem_cons,List.not_mem_nil,or_false] at hy;rcases hy with rfl|rfl
     ·exact List.mem_cons_of_mem _ hx
     ·simp) h3 (λq' hq'=>hb q' (λy hy=>hq' y (by simpa using hy)))
  exact key (x:=x) (by simp) h1.2 (λq' hq'=>h2 q' hq')
theorem og.fm {l:Fo}{f:Int->List Int}:∀{L:List Int},(∀c∈L,∀q,og l q (f c))->∀q,og l q (L.flatMap f)
 | [],_,_=>trivial
 | c::L,h,q=>by
  rw [List.flatMap_cons];exact (h c (by simp) q).app (λq' _=>og.fm (λx hx=>h x (by simp [hx])) q')
theorem He {m:Nat}{l:Fo}(h:Ok m l):∀a∈aj l,∀q,og l q (Fl l a):=by
 refine fb h (λa ha ih q=>?_)
 rw [IH h ha];refine (og.fm ih q).app (λq' hq'=>⟨λc hc=>hq' c ?_,trivial⟩)
 rw [List.mem_flatMap];exact⟨c,hc,(sP h).2 (oy h (cG hc))⟩
theorem og.get {l:Fo}:∀{L q:List Int} {i:Nat} {x:Int},og l q L->L[i]?=some x->∀c∈ch l x,c∈q\/c∈L.take i
 | [],_,_,_,_,h=>by simp at h
 | y::L,q,0,x,h,hx=>by
  simp at hx
  subst hx;exact λc hc=>.inl (h.1 c hc)
 | y::L,q,i+1,x,h,hx=>by
  rw [List.getElem?_cons_succ] at hx;intro c hc;rcases h.2.get hx c hc with h1|h1
  ·rw [List.mem_cons] at h1
   rcases h1 with h1|h1
   ·exact .inr (by rw [List.take_succ_cons,h1];simp)
   ·exact .inl h1
  ·exact .inr (by rw [List.take_succ_cons];exact List.mem_cons_of_mem _ h1)
def bh (l:Fo)(A:List Int):Fo:=l.filter (λx=>decide (x.1∉A))
theorem p6 (l:Fo):bh l []=l:=by unfold bh;rw [List.filter_eq_self];intro a _;simp
theorem nX (l:Fo)(A:List Int)(n:Int):cut (bh l A) n=bh l (A++[n]):=by
 unfold cut bh;rw [List.filter_filter];apply List.filter_congr
 intro x _;by_cases h1:x.1=n<;>by_cases h2:x.1∈A<;>simp [h1,h2]
theorem bz {l:Fo}{A:List Int}{k:Int}:k∈aj (bh l A)↔k∈aj l/\k∉A:=by
 rw [av,av];constructor
 ·rintro ⟨p,hp⟩
  have:=List.mem_filter.1 hp
  exact⟨⟨p,this.1⟩,by simpa using this.2⟩
 ·rintro ⟨⟨p,hp⟩,hn⟩
  exact⟨p,List.mem_filter.2 ⟨hp,by simpa using hn⟩⟩
theorem qm {l:Fo}{A:List Int}{x:Int}(h:∀c∈ch l x,c∈A):ch (bh l A) x=[]:=by
 apply List.eq_nil_iff_forall_not_mem.2
 intro k hk;have h1:=List.mem_filter.1 (bJ.1 hk)
 have h2:=h k (bJ.2 h1.1)
 simp [h2] at h1
theorem xa {m:Nat}{l:Fo}(h:Ok m l){n:Int}{i:Nat}{x:Int}(hx:(Fl l n)[i]?=some x):x∈aj (bh l ((Fl l n).take i))/\ch (bh l ((Fl l n).take i)) x=[]/\cut (bh l ((Fl l n).take i)) x=bh l ((Fl l n).take (i+1)):=by
 have hn:n∈aj l:=Classical.byContradiction λhn=>by rw [FF hn] at hx;simp at hx
 have hlt:=(List.getElem?_eq_some_iff.1 hx).1
 have he:(Fl l n)[i]=x:=(List.getElem?_eq_some_iff.1 hx).2
 refine⟨bz.2 ⟨dp h ((sP h).1 (List.mem_of_getElem? hx)),λhm=>?_⟩,qm (λc hc=>?_),?_⟩
 ·obtain⟨j,hj⟩:=List.getElem?_of_mem hm
  rw [List.getElem?_take] at hj;split at hj
  ·next hji =>
   have:=gi (BR h n) hj hx
   omega
  ·cases hj
 ·rcases (He h n hn []).get hx c hc with h1|h1
  ·cases h1
  ·exact h1
 ·rw [nX,List.take_succ_eq_append_getElem hlt,he]
end Go.Proofs.YtffmodpgddecnaaGreatDoor
namespace Go.Proofs.YtffmodpgddecnaaGreatDoor.H
open Go.RowKit
def aq:Nat:=18446744073709551616
def KF:Nat:=11400714819323198485
def jX (h:Nat):Nat:=h*KF%aq
def p_ (h:Nat):Nat:=h ^^^ (h / 2 ^ 29)
def cL (h v:Nat):Nat:=p_ (jX (h ^^^ v))
def eu (o a b:Nat):Nat:=cL (cL (cL 5903417616801668165 o) a) b
def cR (h:Nat)(k:Int):Nat:=if k<=0 then 0 else if 64<=k then h else h%2 ^ k.toNat
theorem uj {a b:Nat}(ha:a<aq)(hb:b<aq):a ^^^ b<aq:=Nat.xor_lt_two_pow (n:=64) ha hb
theorem ft (h:Nat):jX h<aq:=Nat.mod_lt _ (by decide)
theorem lL {h:Nat}(hh:h<aq):p_ h<aq:=uj hh (Nat.lt_of_le_of_lt (Nat.div_le_self _ _) hh)
theorem eB (h v:Nat):cL h v<aq:=lL (ft _)
theorem gz (o a b:Nat):eu o a b<aq:=eB _ _
theorem oQ {h:Nat}(k:Int)(hh:h<aq):cR h k<aq:=by
 unfold cR;split
 ·decide
 ·split
  ·exact hh
  ·exact Nat.lt_of_le_of_lt (Nat.mod_le _ _) hh
end Go.Proofs.YtffmodpgddecnaaGreatDoor.H
namespace Go.Proofs.YtffmodpgddecnaaGreatDoor.H
abbrev Cp:=Int×Nat×Nat
structure Pl (V:Type) where
 k:Int
 c:Cp
 v:V
variable {V:Type}
def eN (p:Pl V):Option (Cp×V):=if p.k=1\/p.k=3 then some (p.c,p.v) else none
def dP (L:List (Pl V)):List (Cp×V):=L.filterMap eN
def Way (h:Cp->Nat)(good:Int->Prop)(L:List (Pl V)):Prop :=
 ∀(i:Nat) (p:Pl V),L[i]?=some p->p.k=1->∃d,d<L.length/\i=(h p.c+d)%L.length/\∀e,e<d->∀(q:Pl V),L[(h p.c+e)%L.length]?=some q->good q.k
theorem aD {L:List (Pl V)}{i j:Nat}{x p:Pl V}(h:(L.set i x)[j]?=some p):(j=i/\p=x)\/(j≠i/\L[j]?=some p):=by
 rw [List.getElem?_set] at h;split at h
 ·split at h
  ·next h1 h2=>exact .inl ⟨h1.symm,(Option.some.inj h).symm⟩
  ·cases h
 ·next h1=>exact .inr ⟨λe=>h1 e.symm,h⟩
theorem get_some {L:List (Pl V)}{i:Nat}(h:i<L.length):∃p:Pl V,L[i]?=some p:=⟨_,List.getElem?_eq_getElem h⟩
theorem cY {L:List (Pl V)}{i:Nat}{p:Pl V}(h:L[i]?=some p):i<L.length:=(List.getElem?_eq_some_iff.1 h).1
theorem Way.set {h:Cp->Nat}{good:Int->Prop}{L:List (Pl V)}{i:Nat}{x:Pl V}(hw:Way h good L)(hold:∀(q:Pl V),L[i]?=some q->good q.k->good x.k)
  (hx:x.k=1->∃d,d<L.length/\i=(h x.c+d)%L.length/\∀e,e<d->∀(q:Pl V),L[(h x.c+e)%L.length]?=some q->good q.k):Way h good (L.set i x):=by
 have key:∀(m:Nat) (q':Pl V),(L.set i x)[m]?=some q'->(∀(q:Pl V),L[m]?=some q->good q.k)->good q'.k:=by
  intro m q' h1 h2;rcases aD h1 with ⟨rfl,rfl⟩|⟨_,h3⟩
  ·have hm:=cY h1
   rw [List.length_set] at hm;obtain⟨q,hq⟩:=get_some hm
   exact hold q hq (h2 q hq)
  ·exact h2 q' h3
 intro j p hp hk;rw [List.length_set];rcases aD hp with ⟨rfl,rfl⟩|⟨_,h3⟩
 ·obtain⟨d,h1,h2,h3⟩:=hx hk
  exact⟨d,h1,h2,λe he q hq=>key _ _ hq (h3 e he)⟩
 ·obtain⟨d,h1,h2,h4⟩:=hw j p h3 hk
  exact⟨d,h1,h2,λe he q hq=>key _ _ hq (h4 e he)⟩
theorem Way.none {h:Cp->Nat}{L:List (Pl V)}(hw:Way h (·≠0) L){c:Cp}{d:Nat}{q:Pl V}(hb:∀e,e<d->∀(p:Pl V),L[(h c+e)%L.length]?=some p->p.k=1->p.c≠c)(hq:L[(h c+d)%L.length]?=some q)(h0:q.k=0) :
  ∀(i:Nat) (p:Pl V),L[i]?=some p->p.k=1->p.c≠c:=by
 intro i p hp hk hc;obtain⟨d',h1,h2,h3⟩:=hw i p hp hk
 rw [hc] at h2 h3;rcases Nat.lt_trichotomy d' d with h4|h4|h4
 ·exact hb d' h4 p (by rw [<-h2];exact hp) hk hc
 ·subst h4
  rw [<-h2,hp] at hq;cases hq
  omega
 ·exact h3 d h4 q hq h0
theorem Way.Ji {h:Cp->Nat}{L:List (Pl V)}(hw:Way h (·≠0) L){c:Cp}(hb:∀e,e<L.length->∀(p:Pl V),L[(h c+e)%L.length]?=some p->p.k=1->p.c≠c) :
  ∀(i:Nat) (p:Pl V),L[i]?=some p->p.k=1->p.c≠c:=by
 intro i p hp hk hc;obtain⟨d',h1,h2,h3⟩:=hw i p hp hk
 rw [hc] at h2 h3;exact hb d' h1 p (by rw [<-h2];exact hp) hk hc
theorem qN {L:List (Pl V)}{i:Nat}{q x:Pl V}{y:Cp×V}(h:L[i]?=some q)(hq:eN q=none)(hx:eN x=some y):(dP (L.set i x)).Perm (y::dP L):=by
 induction L generalizing i with
 | nil=>cases h
 | cons a r ih =>
  cases i with
  | zero =>
   simp only [List.getElem?_cons_zero,Option.some.injEq] at h;subst h;simp [dP,hq,hx]
  | succ i =>
   simp only [List.getElem?_cons_succ] at h;have:=ih h
   unfold dP at this ⊢
   rw [List.set_cons_succ,List.filterMap_cons,List.filterMap_cons];cases eN a with
   | none=>exact this
   | some z=>exact (this.cons z).trans (List.Perm.swap _ _ _)
theorem Af {L:List (Pl V)}{i:Nat}{q x:Pl V}{y:Cp×V}(h:L[i]?=some q)(hq:eN q=some y)(hx:eN x=none):(dP L).Perm (y::dP (L.set i x)):=by
 have h2:(L.set i x)[i]?=some x:=by rw [List.getElem?_set];simp [cY h]
 have:=qN (L:=L.set i x) (i:=i) (x:=q) h2 hx hq
 rw [List.set_set] at this;have e:L.set i q=L:=by
  apply List.ext_getElem?
  intro j;rw [List.getElem?_set];split
  ·next hj=>subst hj;rw [if_pos (cY h),h]
  ·rfl
 rwa [e] at this
theorem wy {L:List (Pl V)}{i j:Nat}{p q x:Pl V}(hp:L[i]?=some p)(hq:L[j]?=some q)(hx:eN x=eN p):(dP ((L.set i q).set j x)).Perm (dP L):=by
 have e:∀M:List (Pl V),dP M=(M.map eN).filterMap id:=λM=>by rw [List.filterMap_map];rfl
 rw [e,e,List.map_set,List.map_set,hx];refine List.Perm.filterMap id ?_
 have hi:i<(L.map eN).length:=by rw [List.length_map];exact cY hp
 have hj:j<(L.map eN).length:=by rw [List.length_map];exact cY hq
 have h1:eN p=(L.map eN)[i]:=by
  rw [List.getElem_map];have:=(List.getElem?_eq_some_iff.1 hp).2
  rw [this]
 have h2:eN q=(L.map eN)[j]:=by
  rw [List.getElem_map];have:=(List.getElem?_eq_some_iff.1 hq).2
  rw [this]
 rw [h1,h2];exact List.set_set_perm hi hj
theorem zX {L:List (Pl V)}{i:Nat}{p:Pl V}(h:L[i]?=some p)(hk:p.k=1):(p.c,p.v)∈dP L :=
 List.mem_filterMap.2 ⟨p,List.mem_of_getElem? h,by unfold eN;rw [if_pos (.inl hk)]⟩
theorem AH {L:List (Pl V)}{y:Cp×V}(h:y∈dP L)(hk:∀(i:Nat) (p:Pl V),L[i]?=some p->p.k=0\/p.k=1\/p.k=2):∃(i:Nat) (p:Pl V),L[i]?=some p/\p.k=1/\y=(p.c,p.v):=by
 obtain⟨p,hp,he⟩:=List.mem_filterMap.1 h
 obtain⟨i,hi⟩:=List.getElem?_of_mem hp
 unfold eN at he;split at he
 ·next h1 =>
  refine⟨i,p,hi,?_,(Option.some.inj he).symm⟩
  rcases hk i p hi with h2|h2|h2<;>omega
 ·cases he
def rX (L:List (Pl V)):Nat:=L.countP (λp=>decide (p.k=0))
theorem Ec {L:List (Pl V)}{i:Nat}{q x:Pl V}(h:L[i]?=some q)(hq:q.k=0)(hx:x.k≠0):rX L=rX (L.set i x)+1:=by
 induction L generalizing i with
 | nil=>cases h
 | cons a r ih =>
  cases i with
  | zero =>
   simp only [List.getElem?_cons_zero,Option.some.injEq] at h;subst h;simp [rX,hq,hx]
  | succ i =>
   simp only [List.getElem?_cons_succ] at h;have:=ih h
   unfold rX at this ⊢
   rw [List.set_cons_succ,List.countP_cons,List.countP_cons,this];omega
theorem yk {L:List (Pl V)}{i:Nat}{q x:Pl V}(h:L[i]?=some q)(hq:q.k≠0)(hx:x.k≠0):rX (L.set i x)=rX L:=by
 induction L generalizing i with
 | nil=>cases h
 | cons a r ih =>
  cases i with
  | zero =>
   simp only [List.getElem?_cons_zero,Option.some.injEq] at h;subst h;simp [rX,hq,hx]
  | succ i =>
   simp only [List.getElem?_cons_succ] at h;have:=ih h
   unfold rX at this ⊢
   rw [List.set_cons_succ,List.countP_cons,List.countP_cons,this]
theorem Eb {L:List (Pl V)}(h:∀(i:Nat) (p:Pl V),L[i]?=some p->p.k=0\/p.k=1):rX L+(dP L).length=L.length:=by
 induction L with
 | nil=>rfl
 | cons a r ih =>
  have h0:=h 0 a rfl
  have h1:=ih (λi p hp=>h (i+1) p hp)
  unfold rX dP at h1 ⊢
  rw [List.countP_cons,List.filterMap_cons];rcases h0 with h0|h0
  ·simp [h0,eN];omega
  ·simp [h0,eN];omega
theorem Bf {L:List (Pl V)}(h:0<rX L):∃(i:Nat) (p:Pl V),L[i]?=some p/\p.k=0:=by
 obtain⟨p,hp,hk⟩:=List.countP_pos_iff.1 h
 obtain⟨i,hi⟩:=List.getElem?_of_mem hp
 exact⟨i,p,hi,of_decide_eq_true hk⟩
theorem ur (L:List (Pl V)):rX L<=L.length:=List.countP_le_length
theorem KR {h i N:Nat}(hh:h<N)(hi:i<N):∃d,d<N/\i=(h+d)%N:=by
 by_cases hle:h<=i
 ·exact⟨i - h,by omega,by rw [Nat.add_sub_cancel' hle,Nat.mod_eq_of_lt hi]⟩
 ·refine⟨i+N - h,by omega,?_⟩
  have:h+(i+N - h)=i+N:=by omega
  rw [this,Nat.add_mod_right,Nat.mod_eq_of_lt hi]
theorem qW (h d N:Nat):((h+d)%N+1)%N=(h+(d+1))%N:=by rw [Nat.mod_add_mod,Nat.add_assoc]
def CW (L:List (Pl V)):Nat:=L.countP (λp=>decide (p.k=3))
theorem uv {L:List (Pl V)}{i:Nat}{q x:Pl V}(h:L[i]?=some q):CW (L.set i x)+(if q.k=3 then 1 else 0)=CW L+(if x.k=3 then 1 else 0):=by
 induction L generalizing i with
 | nil=>cases h
 | cons a r ih =>
  cases i with
  | zero =>
   simp only [List.getElem?_cons_zero,Option.some.injEq] at h;subst h;simp [CW,List.countP_cons];omega
  | succ i =>
   simp only [List.getElem?_cons_succ] at h;have:=ih h
   unfold CW at this ⊢
   rw [List.set_cons_succ,List.countP_cons,List.countP_cons];omega
end Go.Proofs.YtffmodpgddecnaaGreatDoor.H
