import Init
import Derived.Laws.BitsAllLaws
import Derived.Laws.ShiftsVarLaws
import Derived.WalkKit
import Derived.WalkSpells
import Derived.Test.YtffmodpgddecnaaGreatRows
import Derived.WalkLawsBesides
import Derived.WalkMore
import Derived.Deep.RegionHeld3
import Derived.Deep.MidRow
import Derived.Deep.QuietTactic
import Derived.Deep.DeepCutAuto
import Derived.BigQuiet
import Derived.Maps.AppendAt
import Derived.Laws.AppendOwnNone
import Derived.Laws.OwnMore
import Derived.Laws.CopyRow
import Derived.Laws.IdiomCopy
import Derived.Deep.LoopGhost
set_option linter.unusedVariables false
namespace Go.Proofs.YtffmodpgddecnaaGreat
abbrev Fo:=List (Int×Int)
def nums (l:Fo):List Int:=l.map (·.1)
def ch (l:Fo)(p:Int):List Int:=(l.filter (fun x=>decide (x.2=p))).map (·.1)
def Ok (m:Nat)(l:Fo):Prop:=∀P:Fo→Prop,P []→(∀(l:Fo) (n p:Int),P l→0≤n→n<m→n∉nums l→(p=-1∨p∈nums l)→P (l++[(n,p)]))→P l
theorem Ok.nil {m:Nat}:Ok m []:=fun _ h0 _=>h0
theorem Ok.add {m:Nat}{l:Fo}{n p:Int}(h:Ok m l)(h0:0≤n)(h1:n<m)(h2:n∉nums l)(h3:p=-1∨p∈nums l):Ok m (l++[(n,p)]):=fun P hn ha=>ha l n p (h P hn ha) h0 h1 h2 h3
theorem Ok.ind {m:Nat}{P:Fo→Prop}{l:Fo}(h:Ok m l)(hn:P [])(ha:∀(l:Fo) (n p:Int),Ok m l→P l→0≤n→n<m→n∉nums l→(p=-1∨p∈nums l)→P (l++[(n,p)])):P l :=
 (h (fun l=>Ok m l∧P l) ⟨Ok.nil,hn⟩ (fun l n p ih h0 h1 h2 h3=>⟨ih.1.add h0 h1 h2 h3,ha l n p ih.1 ih.2 h0 h1 h2 h3⟩)).2
theorem nums_app (l:Fo)(n p:Int):nums (l++[(n,p)])=nums l++[n]:=by simp [nums]
theorem ch_app (l:Fo)(n p q:Int):ch (l++[(n,p)]) q=ch l q++(if p=q then [n] else []):=by
 unfold ch
 rw [List.filter_append,List.map_append]
 congr 1
 by_cases h:p=q<;>simp [h]
theorem mem_ch {l:Fo}{p k:Int}:k∈ch l p↔(k,p)∈l:=by
 unfold ch
 simp only [List.mem_map,List.mem_filter,decide_eq_true_eq]
 constructor
 ·rintro ⟨⟨a,b⟩,⟨h1,h2⟩,h3⟩
  simp only at h2 h3
  subst h2 h3
  exact h1
 ·intro h
  exact⟨(k,p),⟨h,rfl⟩,rfl⟩
theorem mem_nums {l:Fo}{k:Int}:k∈nums l↔∃p,(k,p)∈l:=by
 unfold nums
 simp only [List.mem_map]
 constructor
 ·rintro ⟨⟨a,b⟩,h1,h2⟩
  simp only at h2
  subst h2
  exact⟨b,h1⟩
 ·rintro ⟨p,h⟩
  exact⟨_,h,rfl⟩
theorem Ok.range {m:Nat}{l:Fo}(h:Ok m l):∀k∈nums l,0≤k∧k<m:=by
 refine Ok.ind (P:=fun l=>∀k∈nums l,0≤k∧k<m) h ?_ ?_
 ·intro k hk;cases hk
 ·intro l n p h ih h0 h1 h2 h3
  intro k hk
  rw [nums_app,List.mem_append,List.mem_singleton] at hk
  rcases hk with hk|rfl
  ·exact ih k hk
  ·exact⟨h0,h1⟩
theorem Ok.nodup {m:Nat}{l:Fo}(h:Ok m l):(nums l).Nodup:=by
 refine Ok.ind (P:=fun l=>(nums l).Nodup) h ?_ ?_
 ·exact List.nodup_nil
 ·intro l n p h ih h0 h1 h2 h3
  rw [nums_app,List.nodup_append]
  refine⟨ih,by simp,fun a ha b hb=>?_⟩
  rw [List.mem_singleton] at hb
  subst hb
  intro e
  subst e
  exact h2 ha
theorem Ok.par {m:Nat}{l:Fo}(h:Ok m l):∀(j:Nat) (k p:Int),l[j]?=some (k,p)→p=-1∨∃(i:Nat) (q:Int),i<j∧l[i]?=some (p,q):=by
 refine Ok.ind (P:=fun l=>∀(j:Nat) (k p:Int),l[j]?=some (k,p)→p=-1∨∃(i:Nat) (q:Int),i<j∧l[i]?=some (p,q)) h ?_ ?_
 ·intro j k p hj;simp at hj
 ·intro l n p h ih h0 h1 h2 h3
  intro j k q hj
  by_cases hlt:j<l.length
  ·rw [List.getElem?_append_left hlt] at hj
   rcases ih j k q hj with h|⟨i,r,hi,hr⟩
   ·exact .inl h
   ·exact .inr ⟨i,r,hi,by rw [List.getElem?_append_left (by omega)];exact hr⟩
  ·rw [List.getElem?_append_right (by omega)] at hj
   have hj0:j - l.length=0:=by
    rcases Nat.eq_zero_or_pos (j - l.length) with h|h
    ·exact h
    ·rw [List.getElem?_eq_none (by simp;omega)] at hj;cases hj
   rw [hj0] at hj
   simp only [List.getElem?_cons_zero,Option.some.injEq,Prod.mk.injEq] at hj
   obtain⟨rfl,rfl⟩:=hj
   rcases h3 with h3|h3
   ·exact .inl h3
   ·obtain⟨r,hr⟩:=mem_nums.1 h3
    obtain⟨i,hi⟩:=List.getElem?_of_mem hr
    have:i<l.length:=(List.getElem?_eq_some_iff.1 hi).1
    exact .inr ⟨i,r,by omega,by rw [List.getElem?_append_left this];exact hi⟩
theorem Ok.up {m:Nat}{l:Fo}(h:Ok m l){k p:Int}(hk:(k,p)∈l):p=-1∨p∈nums l:=by
 obtain⟨j,hj⟩:=List.getElem?_of_mem hk
 rcases h.par j k p hj with h|⟨i,q,_,hi⟩
 ·exact .inl h
 ·exact .inr (mem_nums.2 ⟨q,List.mem_of_getElem? hi⟩)
theorem Ok.uniq {m:Nat}{l:Fo}(h:Ok m l):∀{k p q:Int},(k,p)∈l→(k,q)∈l→p=q:=by
 refine Ok.ind (P:=fun l=>∀{k p q:Int},(k,p)∈l→(k,q)∈l→p=q) h ?_ ?_
 ·intro k p q hk;cases hk
 ·intro l n p h ih h0 h1 h2 h3
  intro k p q h4 h5
  rw [List.mem_append,List.mem_singleton,Prod.mk.injEq] at h4 h5
  rcases h4 with h4|⟨rfl,rfl⟩<;>rcases h5 with h5|⟨h5,rfl⟩
  ·exact ih h4 h5
  ·subst h5;exact absurd (mem_nums.2 ⟨_,h4⟩) h2
  ·exact absurd (mem_nums.2 ⟨_,h5⟩) h2
  ·rfl
theorem ch_sub (l:Fo)(p:Int):(ch l p).Sublist (nums l):=(List.filter_sublist).map _
theorem Ok.chNodup {m:Nat}{l:Fo}(h:Ok m l)(p:Int):(ch l p).Nodup:=List.Nodup.sublist (ch_sub l p) h.nodup
theorem ch_mem {l:Fo}{p k:Int}(h:k∈ch l p):k∈nums l:=(ch_sub l p).subset h
theorem Ok.none {m:Nat}{l:Fo}(h:Ok m l){p:Int}(h0:0≤p)(hp:p∉nums l):ch l p=[]:=by
 apply List.eq_nil_iff_forall_not_mem.2
 intro k hk
 rcases h.up (mem_ch.1 hk) with h1|h1
 ·omega
 ·exact hp h1
theorem pigeon:∀(m:Nat) (L:List Int),L.Nodup→(∀x∈L,0≤x∧x<m)→L.length≤m
 | 0,L,_,h=>by
  cases L with
  | nil=>simp
  | cons a t=>have:=h a (by simp);omega
 | m+1,L,hn,h=>by
  have h1:=pigeon m (L.erase (m:Int)) (hn.erase _) (fun x hx=>by
   have h2:=(hn.mem_erase_iff).1 hx
   have h3:=h x h2.2
   have h4:=h2.1
   exact⟨h3.1,by omega⟩)
  by_cases hm:(m:Int)∈L
  ·rw [List.length_erase_of_mem hm] at h1
   omega
  ·rw [List.erase_of_not_mem hm] at h1
   omega
theorem Ok.len {m:Nat}{l:Fo}(h:Ok m l):l.length≤m:=by
 have:=pigeon m (nums l) h.nodup h.range
 simpa [nums] using this
def cut (l:Fo)(n:Int):Fo:=l.filter (fun x=>decide (x.1≠n))
theorem cut_app (l:Fo)(n a p:Int):cut (l++[(a,p)]) n=cut l n++(if a=n then [] else [(a,p)]):=by
 unfold cut
 rw [List.filter_append]
 congr 1
 by_cases h:a=n<;>simp [h]
theorem mem_cut {l:Fo}{n:Int}{x:Int×Int}:x∈cut l n↔x∈l∧x.1≠n:=by simp [cut]
theorem nums_cut {l:Fo}{n k:Int}:k∈nums (cut l n)↔k∈nums l∧k≠n:=by
 rw [mem_nums,mem_nums]
 constructor
 ·rintro ⟨p,hp⟩
  have:=mem_cut.1 hp
  exact⟨⟨p,this.1⟩,this.2⟩
 ·rintro ⟨⟨p,hp⟩,hn⟩
  exact⟨p,mem_cut.2 ⟨hp,hn⟩⟩
theorem Ok.cut {m:Nat}{l:Fo}(h:Ok m l)(n:Int)(hc:ch l n=[]):Ok m (cut l n):=by
 refine Ok.ind (P:=fun l=>ch l n=[]→Ok m (Go.Proofs.YtffmodpgddecnaaGreat.cut l n)) h ?_ ?_ hc
 ·exact fun _=>Ok.nil
 ·intro l a p h ih h0 h1 h2 h3 hc
  rw [ch_app] at hc
  obtain⟨hc1,hc2⟩:=List.append_eq_nil_iff.1 hc
  have hpn:p≠n:=by
   intro e
   rw [if_pos e] at hc2
   cases hc2
  rw [cut_app]
  split
  ·rw [List.append_nil];exact ih hc1
  ·refine .add (ih hc1) h0 h1 (fun hk=>h2 (nums_cut.1 hk).1) ?_
   rcases h3 with h3|h3
   ·exact .inl h3
   ·exact .inr (nums_cut.2 ⟨h3,hpn⟩)
theorem ch_cut (l:Fo)(n q:Int):ch (cut l n) q=(ch l q).filter (fun x=>decide (x≠n)):=by
 unfold ch cut
 rw [List.filter_filter,List.filter_map,List.filter_filter]
 congr 1
 apply List.filter_congr
 intro x _
 simp only [Function.comp]
 rw [Bool.and_comm]
theorem filter_out {c:List Int}{n:Int}(h:n∉c):c.filter (fun x=>decide (x≠n))=c:=by
 rw [List.filter_eq_self]
 intro a ha
 exact decide_eq_true (fun e=>h (e ▸ ha))
theorem filter_in {c1 c2:List Int}{n:Int}(h:(c1++n::c2).Nodup):(c1++n::c2).filter (fun x=>decide (x≠n))=c1++c2:=by
 rw [List.nodup_append] at h
 obtain⟨_,h2,h3⟩:=h
 rw [List.nodup_cons] at h2
 rw [List.filter_append,filter_out (fun hk=>h3 n hk n (by simp) rfl)]
 congr 1
 rw [List.filter_cons_of_neg (by simp)]
 exact filter_out h2.1
end Go.Proofs.YtffmodpgddecnaaGreat
namespace Go.Proofs.YtffmodpgddecnaaGreat
structure Nd where
 th:Bool
 pa:Int
 fi:Int
 be:Int
def nd0:Nd:=⟨false,0,0,0⟩
def nx (c:List Int)(i:Nat):Int:=(c[i]?).getD (-1)
structure Rep (m:Nat)(l:Fo)(N:List Nd):Prop where
 len:N.length=m
 ok:Ok m l
 out:∀(k:Nat) (x:Nd),N[k]?=some x→(k:Int)∉nums l→x=nd0
 inn:∀(k:Nat) (x:Nd) (p:Int),N[k]?=some x→((k:Int),p)∈l→x.th=true∧x.pa=p
 fi:∀(k:Nat) (x:Nd),N[k]?=some x→(k:Int)∈nums l→x.fi=nx (ch l k) 0
 be:∀(p:Int),0≤p→∀(i k:Nat) (x:Nd),(ch l p)[i]?=some (k:Int)→N[k]?=some x→x.be=nx (ch l p) (i+1)
theorem get_some {α:Type}{L:List α}{i:Nat}(h:i<L.length):∃p,L[i]?=some p:=⟨L[i],List.getElem?_eq_getElem h⟩
theorem get_set {α:Type}{L:List α}{i j:Nat}{x p:α}(h:(L.set i x)[j]?=some p):(i=j∧p=x)∨(i≠j∧L[j]?=some p):=by
 rw [List.getElem?_set] at h
 split at h
 ·next he =>
  split at h
  ·exact .inl ⟨he,(Option.some.inj h).symm⟩
  ·cases h
 ·next he=>exact .inr ⟨he,h⟩
theorem Rep.there {m:Nat}{l:Fo}{N:List Nd}(h:Rep m l N){k:Nat}{x:Nd}(hx:N[k]?=some x):x.th=decide ((k:Int)∈nums l):=by
 by_cases hk:(k:Int)∈nums l
 ·obtain⟨p,hp⟩:=mem_nums.1 hk
  rw [(h.inn k x p hx hp).1,decide_eq_true hk]
 ·rw [h.out k x hx hk,decide_eq_false hk];rfl
def lkN (p:Nat)(c:List Int):Nat→Nat
 | 0=>p
 | i+1=>(nx c i).toNat
def lkF:Nat→Nat
 | 0=>2
 | _+1=>3
def Nd.put (x:Nd)(f:Nat)(v:Int):Nd:=if f=2 then { x with fi:=v } else { x with be:=v }
def putL (N:List Nd)(p:Nat)(c:List Int)(i:Nat)(v:Int):List Nd :=
 match N[lkN p c i]? with
 | some x=>N.set (lkN p c i) (x.put (lkF i) v)
 | none=>N
theorem putL_len (N:List Nd)(p:Nat)(c:List Int)(i:Nat)(v:Int):(putL N p c i v).length=N.length:=by
 unfold putL;split<;>simp
theorem put_get {N:List Nd}{p:Nat}{c:List Int}{i:Nat}{v:Int}{k:Nat}{x:Nd}(h:(putL N p c i v)[k]?=some x) :
  ∃y,N[k]?=some y∧x.th=y.th∧x.pa=y.pa∧x.fi=(if i=0∧k=p then v else y.fi)∧x.be=(if 0<i∧k=lkN p c i then v else y.be):=by
 unfold putL at h
 split at h
 ·next y hy =>
  rcases get_set h with ⟨hk,rfl⟩|⟨hk,h⟩
  ·subst hk
   refine⟨y,hy,?_⟩
   cases i with
   | zero=>simp [Nd.put,lkF,lkN]
   | succ i=>simp [Nd.put,lkF]
  ·refine⟨x,h,rfl,rfl,?_,?_⟩
   ·rw [if_neg];rintro ⟨rfl,rfl⟩;exact hk rfl
   ·rw [if_neg];rintro ⟨_,rfl⟩;exact hk rfl
 ·next hy =>
  refine⟨x,h,rfl,rfl,?_,?_⟩
  ·rw [if_neg];rintro ⟨rfl,rfl⟩;unfold lkN at hy;rw [hy] at h;cases h
  ·rw [if_neg];rintro ⟨_,rfl⟩;rw [hy] at h;cases h
theorem nx_lt {c:List Int}{i:Nat}(h:i<c.length):nx c i=c[i]:=by simp [nx,h]
theorem Rep.root {m:Nat}{l:Fo}{N:List Nd}(h:Rep m l N){n:Nat}(hn:n<m)(hl:(n:Int)∉nums l):Rep m (l++[((n:Int),-1)]) (N.set n ⟨true,-1,-1,-1⟩):=by
 have hch:∀q:Int,0≤q→ch (l++[((n:Int),-1)]) q=ch l q:=fun q hq=>by
  rw [ch_app,if_neg (by omega),List.append_nil]
 refine⟨by rw [List.length_set];exact h.len,.add h.ok (by omega) (by omega) hl (.inl rfl),fun k x hx hk=>?_,fun k x p hx hp=>?_,fun k x hx hk=>?_,fun p hp i k x hi hx=>?_⟩
 ·rw [nums_app,List.mem_append,List.mem_singleton,not_or] at hk
  rcases get_set hx with ⟨rfl,_⟩|⟨_,hx⟩
  ·exact absurd rfl hk.2
  ·exact h.out k x hx hk.1
 ·rw [List.mem_append,List.mem_singleton,Prod.mk.injEq] at hp
  rcases get_set hx with ⟨rfl,rfl⟩|⟨hne,hx⟩
  ·rcases hp with hp|⟨_,rfl⟩
   ·exact absurd (mem_nums.2 ⟨_,hp⟩) hl
   ·exact⟨rfl,rfl⟩
  ·rcases hp with hp|⟨hp,_⟩
   ·exact h.inn k x p hx hp
   ·omega
 ·rw [hch _ (by omega)]
  rw [nums_app,List.mem_append,List.mem_singleton] at hk
  rcases get_set hx with ⟨rfl,rfl⟩|⟨hne,hx⟩
  ·rw [h.ok.none (by omega) hl];rfl
  ·rcases hk with hk|hk
   ·exact h.fi k x hx hk
   ·omega
 ·rw [hch p hp] at hi ⊢
  have hk:=ch_mem (List.mem_of_getElem? hi)
  rcases get_set hx with ⟨rfl,rfl⟩|⟨hne,hx⟩
  ·exact absurd hk hl
  ·exact h.be p hp i k x hi hx
theorem nd_idx {c:List Int}(hc:c.Nodup){i j:Nat}{a:Int}(h1:c[i]?=some a)(h2:c[j]?=some a):i=j:=by
 have hi:=(List.getElem?_eq_some_iff.1 h1).1
 exact (List.getElem?_inj hi hc).1 (h1.trans h2.symm)
end Go.Proofs.YtffmodpgddecnaaGreat
namespace Go.Proofs.YtffmodpgddecnaaGreat
theorem Ok.ahead {m:Nat}{l:Fo}(h:Ok m l){j i:Nat}{k p c:Int}(hj:l[j]?=some (k,p))(hi:l[i]?=some (c,k)):j<i:=by
 rcases h.par i c k hi with e|⟨i',q,hlt,hq⟩
 ·have:=h.range k (mem_nums.2 ⟨p,List.mem_of_getElem? hj⟩)
  omega
 ·have h1:(nums l)[i']?=some k:=by simp [nums,hq]
  have h2:(nums l)[j]?=some k:=by simp [nums,hj]
  have:=nd_idx h.nodup h1 h2
  omega
theorem up_ind {m:Nat}{l:Fo}(h:Ok m l){P:Int→Prop}(hs:∀n p,(n,p)∈l→(p∈nums l→P p)→P n):∀n∈nums l,P n:=by
 have key:∀(d j:Nat) (k p:Int),l[j]?=some (k,p)→j<d→P k:=by
  intro d
  induction d with
  | zero=>intro j k p hj hd;omega
  | succ d ih =>
   intro j k p hj hd
   refine hs k p (List.mem_of_getElem? hj) (fun hp=>?_)
   obtain⟨q,hq⟩:=mem_nums.1 hp
   obtain⟨i,hi⟩:=List.getElem?_of_mem hq
   have:=h.ahead hi hj
   exact ih i p q hi (by omega)
 intro n hn
 obtain⟨p,hp⟩:=mem_nums.1 hn
 obtain⟨j,hj⟩:=List.getElem?_of_mem hp
 exact key (j+1) j n p hj (by omega)
def ord (e:Bool)(c:List Int):List Int:=if e then c else c.reverse
def gn (e:Bool)(l:Fo):Nat→Int→List Int
 | 0,_=>[]
 | d+1,n=>n::(ord e (ch l n)).flatMap (gn e l d)
def G (e:Bool)(l:Fo)(n:Int):List Int:=if n∈nums l then gn e l l.length n else []
def par (l:Fo)(k:Int):Int:=((l.find? (fun x=>decide (x.1=k))).map (·.2)).getD (-1)
theorem par_eq {m:Nat}{l:Fo}(h:Ok m l){n p:Int}(hn:(n,p)∈l):par l n=p:=by
 unfold par
 cases hf:l.find? (fun x=>decide (x.1=n)) with
 | none=>exact absurd (List.find?_eq_none.1 hf _ hn) (by simp)
 | some x =>
  have h1:=List.mem_of_find?_eq_some hf
  have h2:=List.find?_some hf
  simp only [decide_eq_true_eq] at h2
  obtain⟨a,b⟩:=x
  simp only at h2
  subst h2
  exact h.uniq h1 hn
def un (l:Fo):Nat→Int→List Int
 | 0,_=>[]
 | d+1,n=>n::(if par l n∈nums l then un l d (par l n) else [])
theorem un_stable {m:Nat}{l:Fo}(h:Ok m l):∀(d j:Nat) (k p:Int),l[j]?=some (k,p)→j<d→un l (d+1) k=un l d k:=by
 intro d
 induction d with
 | zero=>intro j k p hj hd;omega
 | succ d ih =>
  intro j k p hj hd
  show k::(if par l k∈nums l then un l (d+1) (par l k) else [])=k::(if par l k∈nums l then un l d (par l k) else [])
  rw [par_eq h (List.mem_of_getElem? hj)]
  split
  ·next hp =>
   obtain⟨q,hq⟩:=mem_nums.1 hp
   obtain⟨i,hi⟩:=List.getElem?_of_mem hq
   have:=h.ahead hi hj
   rw [ih i p q hi (by omega)]
  ·rfl
def U (l:Fo)(n:Int):List Int:=if n∈nums l then un l l.length n else []
theorem U_out {l:Fo}{n:Int}(hn:n∉nums l):U l n=[]:=by unfold U;rw [if_neg hn]
theorem U_eq {m:Nat}{l:Fo}(h:Ok m l){n p:Int}(hn:(n,p)∈l):U l n=n::U l p:=by
 obtain⟨j,hj⟩:=List.getElem?_of_mem hn
 have hlt:=(List.getElem?_eq_some_iff.1 hj).1
 have h1:=un_stable h l.length j n p hj hlt
 have h2:U l n=un l l.length n:=by unfold U;rw [if_pos (mem_nums.2 ⟨p,hn⟩)]
 rw [h2,←h1]
 show n::(if par l n∈nums l then un l l.length (par l n) else [])=_
 rw [par_eq h hn]
 rfl
theorem U_mem {l:Fo}{a x:Int}(h:a∈U l x):x∈nums l:=Classical.byContradiction fun hx=>by rw [U_out hx] at h;cases h
def cuts (l:Fo)(A:List Int):Fo:=l.filter (fun x=>decide (x.1∉A))
theorem nums_cuts {l:Fo}{A:List Int}{k:Int}:k∈nums (cuts l A)↔k∈nums l∧k∉A:=by
 rw [mem_nums,mem_nums]
 constructor
 ·rintro ⟨p,hp⟩
  have:=List.mem_filter.1 hp
  exact⟨⟨p,this.1⟩,by simpa using this.2⟩
 ·rintro ⟨⟨p,hp⟩,hn⟩
  exact⟨p,List.mem_filter.2 ⟨hp,by simpa using hn⟩⟩
end Go.Proofs.YtffmodpgddecnaaGreat
namespace Go.Proofs.YtffmodpgddecnaaGreat.H
open Go.RowKit
def B64:Nat:=18446744073709551616
def KF:Nat:=11400714819323198485
def mulN (h:Nat):Nat:=h*KF%B64
def foldN (h:Nat):Nat:=h ^^^ (h / 2 ^ 29)
def stepN (h v:Nat):Nat:=foldN (mulN (h ^^^ v))
def hashN (o a b:Nat):Nat:=stepN (stepN (stepN 5903417616801668165 o) a) b
def lowN (h:Nat)(k:Int):Nat:=if k≤0 then 0 else if 64≤k then h else h%2 ^ k.toNat
end Go.Proofs.YtffmodpgddecnaaGreat.H
namespace Go.Proofs.YtffmodpgddecnaaGreat.H
abbrev Cp:=Int×Nat×Nat
structure Pl (V:Type) where
 k:Int
 c:Cp
 v:V
variable {V:Type}
def ent (p:Pl V):Option (Cp×V):=if p.k=1∨p.k=3 then some (p.c,p.v) else none
def ents (L:List (Pl V)):List (Cp×V):=L.filterMap ent
def Way (h:Cp→Nat)(good:Int→Prop)(L:List (Pl V)):Prop :=
 ∀(i:Nat) (p:Pl V),L[i]?=some p→p.k=1→∃d,d<L.length∧i=(h p.c+d)%L.length∧∀e,e<d→∀(q:Pl V),L[(h p.c+e)%L.length]?=some q→good q.k
theorem get_set {L:List (Pl V)}{i j:Nat}{x p:Pl V}(h:(L.set i x)[j]?=some p):(j=i∧p=x)∨(j≠i∧L[j]?=some p):=by
 rw [List.getElem?_set] at h
 split at h
 ·split at h
  ·next h1 h2=>exact .inl ⟨h1.symm,(Option.some.inj h).symm⟩
  ·cases h
 ·next h1=>exact .inr ⟨fun e=>h1 e.symm,h⟩
theorem get_some {L:List (Pl V)}{i:Nat}(h:i<L.length):∃p:Pl V,L[i]?=some p:=⟨_,List.getElem?_eq_getElem h⟩
theorem get_lt {L:List (Pl V)}{i:Nat}{p:Pl V}(h:L[i]?=some p):i<L.length:=(List.getElem?_eq_some_iff.1 h).1
theorem Way.set {h:Cp→Nat}{good:Int→Prop}{L:List (Pl V)}{i:Nat}{x:Pl V}(hw:Way h good L)(hold:∀(q:Pl V),L[i]?=some q→good q.k→good x.k)
  (hx:x.k=1→∃d,d<L.length∧i=(h x.c+d)%L.length∧∀e,e<d→∀(q:Pl V),L[(h x.c+e)%L.length]?=some q→good q.k):Way h good (L.set i x):=by
 have key:∀(m:Nat) (q':Pl V),(L.set i x)[m]?=some q'→(∀(q:Pl V),L[m]?=some q→good q.k)→good q'.k:=by
  intro m q' h1 h2
  rcases get_set h1 with ⟨rfl,rfl⟩|⟨_,h3⟩
  ·have hm:=get_lt h1
   rw [List.length_set] at hm
   obtain⟨q,hq⟩:=get_some hm
   exact hold q hq (h2 q hq)
  ·exact h2 q' h3
 intro j p hp hk
 rw [List.length_set]
 rcases get_set hp with ⟨rfl,rfl⟩|⟨_,h3⟩
 ·obtain⟨d,h1,h2,h3⟩:=hx hk
  exact⟨d,h1,h2,fun e he q hq=>key _ _ hq (h3 e he)⟩
 ·obtain⟨d,h1,h2,h4⟩:=hw j p h3 hk
  exact⟨d,h1,h2,fun e he q hq=>key _ _ hq (h4 e he)⟩
theorem Way.none {h:Cp→Nat}{L:List (Pl V)}(hw:Way h (·≠0) L){c:Cp}{d:Nat}{q:Pl V}(hb:∀e,e<d→∀(p:Pl V),L[(h c+e)%L.length]?=some p→p.k=1→p.c≠c)(hq:L[(h c+d)%L.length]?=some q)(h0:q.k=0) :
  ∀(i:Nat) (p:Pl V),L[i]?=some p→p.k=1→p.c≠c:=by
 intro i p hp hk hc
 obtain⟨d',h1,h2,h3⟩:=hw i p hp hk
 rw [hc] at h2 h3
 rcases Nat.lt_trichotomy d' d with h4|h4|h4
 ·exact hb d' h4 p (by rw [←h2];exact hp) hk hc
 ·subst h4
  rw [←h2,hp] at hq
  cases hq
  omega
 ·exact h3 d h4 q hq h0
theorem ents_add {L:List (Pl V)}{i:Nat}{q x:Pl V}{y:Cp×V}(h:L[i]?=some q)(hq:ent q=none)(hx:ent x=some y):(ents (L.set i x)).Perm (y::ents L):=by
 induction L generalizing i with
 | nil=>cases h
 | cons a r ih =>
  cases i with
  | zero =>
   simp only [List.getElem?_cons_zero,Option.some.injEq] at h
   subst h
   simp [ents,hq,hx]
  | succ i =>
   simp only [List.getElem?_cons_succ] at h
   have:=ih h
   unfold ents at this ⊢
   rw [List.set_cons_succ,List.filterMap_cons,List.filterMap_cons]
   cases ent a with
   | none=>exact this
   | some z=>exact (this.cons z).trans (List.Perm.swap _ _ _)
theorem ents_del {L:List (Pl V)}{i:Nat}{q x:Pl V}{y:Cp×V}(h:L[i]?=some q)(hq:ent q=some y)(hx:ent x=none):(ents L).Perm (y::ents (L.set i x)):=by
 have h2:(L.set i x)[i]?=some x:=by rw [List.getElem?_set];simp [get_lt h]
 have:=ents_add (L:=L.set i x) (i:=i) (x:=q) h2 hx hq
 rw [List.set_set] at this
 have e:L.set i q=L:=by
  apply List.ext_getElem?
  intro j
  rw [List.getElem?_set]
  split
  ·next hj=>subst hj;rw [if_pos (get_lt h),h]
  ·rfl
 rwa [e] at this
theorem mem_ents {L:List (Pl V)}{y:Cp×V}(h:y∈ents L)(hk:∀(i:Nat) (p:Pl V),L[i]?=some p→p.k=0∨p.k=1∨p.k=2):∃(i:Nat) (p:Pl V),L[i]?=some p∧p.k=1∧y=(p.c,p.v):=by
 obtain⟨p,hp,he⟩:=List.mem_filterMap.1 h
 obtain⟨i,hi⟩:=List.getElem?_of_mem hp
 unfold ent at he
 split at he
 ·next h1 =>
  refine⟨i,p,hi,?_,(Option.some.inj he).symm⟩
  rcases hk i p hi with h2|h2|h2<;>omega
 ·cases he
def fre (L:List (Pl V)):Nat:=L.countP (fun p=>decide (p.k=0))
theorem fre_same {L:List (Pl V)}{i:Nat}{q x:Pl V}(h:L[i]?=some q)(hq:q.k≠0)(hx:x.k≠0):fre (L.set i x)=fre L:=by
 induction L generalizing i with
 | nil=>cases h
 | cons a r ih =>
  cases i with
  | zero =>
   simp only [List.getElem?_cons_zero,Option.some.injEq] at h
   subst h
   simp [fre,hq,hx]
  | succ i =>
   simp only [List.getElem?_cons_succ] at h
   have:=ih h
   unfold fre at this ⊢
   rw [List.set_cons_succ,List.countP_cons,List.countP_cons,this]
end Go.Proofs.YtffmodpgddecnaaGreat.H
namespace Go.Proofs.YtffmodpgddecnaaGreat
open H
abbrev Tk:=Cp×Int
def tz:Tk:=((0,0,0),0)
def tk (X:List Tk)(n:Int):Tk:=(X[n.toNat]?).getD tz
def ob (X:List Tk)(n:Int):Int:=(tk X n).1.1
def rg (X:List Tk)(n:Int):Int:=(tk X n).2
def validB (r:Int):Bool:=decide (1≤r∧r≤31)
def partB (a b:Int):Bool:=validB a&&validB b&&decide (a.toNat &&& b.toNat=a.toNat)
theorem validB_iff {r:Int}:validB r=true↔1≤r∧r≤31:=by unfold validB;exact decide_eq_true_iff
structure Inv (m:Nat)(X:List Tk)(l:Fo):Prop where
 ok:Ok m l
 len:X.length=m
 one:∀a∈nums l,∀b∈nums l,(tk X a).1=(tk X b).1→a=b
 val:∀a∈nums l,validB (rg X a)=true
 up:∀n p,(n,p)∈l→p≠-1→ob X n=ob X p∧partB (rg X n) (rg X p)=true
 root:∀a b,(a,-1)∈l→(b,-1)∈l→ob X a=ob X b→a=b
 wide:∀a∈nums l,(tk X a).1.2.1<B64∧(tk X a).1.2.2<B64
theorem nd_sub:∀{A B:List Int},A.Nodup→(∀x∈A,x∈B)→A.length≤B.length
 | [],B,_,_=>Nat.zero_le _
 | a::A,B,hn,h=>by
  rw [List.nodup_cons] at hn
  have h1:=nd_sub (A:=A) (B:=B.erase a) hn.2 (fun x hx=>by
   have hne:x≠a:=fun e=>hn.1 (e ▸ hx)
   exact (List.mem_erase_of_ne hne).2 (h x (List.mem_cons_of_mem _ hx)))
  have h2:=List.length_erase_of_mem (h a (List.mem_cons_self ..))
  have h3:=List.length_pos_of_mem (h a (List.mem_cons_self ..))
  rw [List.length_cons]
  omega
def firsts (k:Nat):List Int:=(List.range k).map (fun (i:Nat)=>(i:Int))
theorem firsts_len (k:Nat):(firsts k).length=k:=by simp [firsts]
theorem mem_firsts {k:Nat}{x:Int}:x∈firsts k↔0≤x∧x<(k:Int):=by
 unfold firsts
 simp only [List.mem_map,List.mem_range]
 constructor
 ·rintro ⟨i,hi,rfl⟩;omega
 ·rintro ⟨h0,h1⟩;exact⟨x.toNat,by omega,by omega⟩
theorem firsts_nodup (k:Nat):(firsts k).Nodup:=by
 unfold firsts
 rw [List.Nodup,List.pairwise_map]
 exact List.nodup_range.imp (fun h e=>h (by exact_mod_cast e))
def lowF (l:Fo):Nat→Nat→Nat
 | k,0=>k
 | k,f+1=>if (k:Int)∈nums l then lowF l (k+1) f else k
def low (l:Fo):Nat:=lowF l 0 (l.length+1)
theorem lowF_eq {l:Fo}{k:Nat}(h:(k:Int)∉nums l)(hb:∀j:Nat,j<k→(j:Int)∈nums l):∀(f j:Nat),j≤k→k<j+f→lowF l j f=k
 | 0,j,h1,h2=>by omega
 | f+1,j,h1,h2=>by
  unfold lowF
  by_cases e:j=k
  ·subst e;rw [if_neg h]
  ·rw [if_pos (hb j (by omega))]
   exact lowF_eq h hb f (j+1) (by omega) (by omega)
theorem nums_len (l:Fo):(nums l).length=l.length:=by simp [nums]
theorem low_bound {l:Fo}{k:Nat}(hb:∀j:Nat,j<k→(j:Int)∈nums l):k≤l.length:=by
 have:=nd_sub (firsts_nodup k) (B:=nums l) (fun x hx=>by
  have:=mem_firsts.1 hx
  have e:x=(x.toNat:Int):=by omega
  rw [e];exact hb _ (by omega))
 rw [firsts_len,nums_len] at this
 exact this
theorem low_eq {l:Fo}{k:Nat}(h:(k:Int)∉nums l)(hb:∀j:Nat,j<k→(j:Int)∈nums l):low l=k:=by
 have:=low_bound hb
 exact lowF_eq h hb _ 0 (Nat.zero_le _) (by omega)
theorem low_ex (l:Fo):∃k:Nat,(k:Int)∉nums l∧∀j:Nat,j<k→(j:Int)∈nums l:=by
 have:∀n:Nat,(∃k:Nat,(k:Int)∉nums l∧∀j:Nat,j<k→(j:Int)∈nums l)∨∀j:Nat,j<n→(j:Int)∈nums l:=by
  intro n
  induction n with
  | zero=>exact .inr (fun j h=>by omega)
  | succ n ih =>
   rcases ih with h|h
   ·exact .inl h
   ·by_cases hn:(n:Int)∈nums l
    ·refine .inr (fun j hj=>?_)
     by_cases e:j=n
     ·rw [e];exact hn
     ·exact h j (by omega)
    ·exact .inl ⟨n,hn,h⟩
 rcases this (l.length+1) with h|h
 ·exact h
 ·have:=low_bound h;omega
theorem low_not (l:Fo):(low l:Int)∉nums l:=by
 obtain⟨k,h1,h2⟩:=low_ex l
 rw [low_eq h1 h2];exact h1
theorem low_ahead {l:Fo}{j:Nat}(h:j<low l):(j:Int)∈nums l:=by
 obtain⟨k,h1,h2⟩:=low_ex l
 rw [low_eq h1 h2] at h;exact h2 j h
theorem low_lt {m:Nat}{l:Fo}(h:Ok m l)(hl:l.length<m):low l<m:=by
 have:=low_bound (l:=l) (k:=low l) (fun j hj=>low_ahead hj)
 omega
theorem tk_set_same {X:List Tk}{k:Nat}(x:Tk)(h:k<X.length):tk (X.set k x) (k:Int)=x:=by
 unfold tk;simp [h]
theorem tk_set_other {X:List Tk}{k:Nat}(x:Tk){n:Int}(h0:0≤n)(h:n≠(k:Int)):tk (X.set k x) n=tk X n:=by
 unfold tk;rw [List.getElem?_set_ne (by omega)]
def zer (X:List Tk):List Int→List Tk
 | []=>X
 | a::A=>zer (X.set a.toNat tz) A
theorem zer_tk:∀(A:List Int) (X:List Tk) (n:Int),0≤n→(∀a∈A,0≤a)→n∉A→tk (zer X A) n=tk X n
 | [],X,n,_,_,_=>rfl
 | a::A,X,n,h0,hA,hn=>by
  unfold zer
  rw [zer_tk A _ n h0 (fun x hx=>hA x (List.mem_cons_of_mem _ hx)) (fun h=>hn (List.mem_cons_of_mem _ h))]
  have ha:=hA a (List.mem_cons_self ..)
  have:(a.toNat:Int)=a:=by omega
  exact tk_set_other tz h0 (fun e=>hn (by rw [e,this];exact List.mem_cons_self ..))
theorem nums_nn {m:Nat}{l:Fo}(h:Ok m l){k:Int}(hk:k∈nums l):0≤k:=(h.range k hk).1
theorem Inv.ext {m:Nat}{X Y:List Tk}{l:Fo}(h:Inv m X l)(hl:Y.length=m)(he:∀a∈nums l,tk Y a=tk X a):Inv m Y l:=by
 have ho:∀a∈nums l,ob Y a=ob X a:=fun a ha=>by unfold ob;rw [he a ha]
 have hr:∀a∈nums l,rg Y a=rg X a:=fun a ha=>by unfold rg;rw [he a ha]
 refine⟨h.ok,hl,fun a ha b hb e=>h.one a ha b hb (by rw [←he a ha,←he b hb];exact e),fun a ha=>by rw [hr a ha];exact h.val a ha,fun n p hp h1=>?_,fun a b ha hb e=>?_,fun a ha=>by rw [he a ha];exact h.wide a ha⟩
 ·have hn:=mem_nums.2 ⟨p,hp⟩
  have hp2:p∈nums l:=(h.ok.up hp).resolve_left h1
  rw [ho n hn,ho p hp2,hr n hn,hr p hp2]
  exact h.up n p hp h1
 ·rw [ho a (mem_nums.2 ⟨_,ha⟩),ho b (mem_nums.2 ⟨_,hb⟩)] at e
  exact h.root a b ha hb e
def hasO (X:List Tk)(l:Fo)(o:Int):Bool:=(nums l).any (fun n=>decide (ob X n=o))
def hasC (X:List Tk)(l:Fo)(c:Cp):Bool:=(nums l).any (fun n=>decide ((tk X n).1=c))
theorem hasO_iff {X:List Tk}{l:Fo}{o:Int}:hasO X l o=true↔∃n∈nums l,ob X n=o:=by unfold hasO;simp
theorem hasC_iff {X:List Tk}{l:Fo}{c:Cp}:hasC X l c=true↔∃n∈nums l,(tk X n).1=c:=by unfold hasC;simp
theorem hasO_of_hasC {X:List Tk}{l:Fo}{c:Cp}(h:hasC X l c=true):hasO X l c.1=true:=by
 obtain⟨n,hn,e⟩:=hasC_iff.1 h
 exact hasO_iff.2 ⟨n,hn,by unfold ob;rw [e]⟩
theorem Inv.add {m:Nat}{X:List Tk}{l:Fo}(h:Inv m X l){k:Nat}{p:Int}{c:Cp}{r:Int}(hk:k<m)(hn:(k:Int)∉nums l)(hc:hasC X l c=false)(hw:c.2.1<B64∧c.2.2<B64)(hv:validB r=true)
  (hp:(p=-1∧hasO X l c.1=false)∨(p∈nums l∧ob X p=c.1∧partB r (rg X p)=true)):Inv m (X.set k (c,r)) (l++[((k:Int),p)]):=by
 have hlen:k<X.length:=by rw [h.len];exact hk
 have hs:=tk_set_same (X:=X) (c,r) hlen
 have ho:∀a∈nums l,tk (X.set k (c,r)) a=tk X a:=fun a ha=>tk_set_other _ (nums_nn h.ok ha) (fun e=>hn (e ▸ ha))
 have hN:∀a,a∈nums (l++[((k:Int),p)])↔a∈nums l∨a=(k:Int):=fun a=>by rw [nums_app,List.mem_append,List.mem_singleton]
 have hC:∀a∈nums l,(tk X a).1≠c:=fun a ha e=>by
  have:=hasC_iff.2 ⟨a,ha,e⟩;rw [hc] at this;cases this
 have hpn:p≠(k:Int):=by
  rcases hp with ⟨rfl,_⟩|⟨hp,_⟩
  ·omega
  ·exact fun e=>hn (e ▸ hp)
 have hob:∀a∈nums l,ob (X.set k (c,r)) a=ob X a:=fun a ha=>by unfold ob;rw [ho a ha]
 have hrg:∀a∈nums l,rg (X.set k (c,r)) a=rg X a:=fun a ha=>by unfold rg;rw [ho a ha]
 have hobk:ob (X.set k (c,r)) (k:Int)=c.1:=by unfold ob;rw [hs]
 have hrgk:rg (X.set k (c,r)) (k:Int)=r:=by unfold rg;rw [hs]
 refine⟨h.ok.add (by omega) (by omega) hn (hp.imp (·.1) (·.1)),by rw [List.length_set];exact h.len,?_,?_,?_,?_,?_⟩
 ·intro a ha b hb e
  rcases (hN a).1 ha with ha|rfl<;>rcases (hN b).1 hb with hb|rfl
  ·rw [ho a ha,ho b hb] at e;exact h.one a ha b hb e
  ·rw [ho a ha,hs] at e;exact absurd e (hC a ha)
  ·rw [ho b hb,hs] at e;exact absurd e.symm (hC b hb)
  ·rfl
 ·intro a ha
  rcases (hN a).1 ha with ha|rfl
  ·rw [hrg a ha];exact h.val a ha
  ·rw [hrgk];exact hv
 ·intro n q hq h1
  rw [List.mem_append,List.mem_singleton,Prod.mk.injEq] at hq
  rcases hq with hq|⟨rfl,rfl⟩
  ·have hn1:=mem_nums.2 ⟨q,hq⟩
   have hq1:q∈nums l:=(h.ok.up hq).resolve_left h1
   rw [hob n hn1,hob q hq1,hrg n hn1,hrg q hq1]
   exact h.up n q hq h1
  ·rcases hp with ⟨h2,_⟩|⟨hp1,hp2,hp3⟩
   ·exact absurd h2 h1
   ·rw [hobk,hrgk,hob _ hp1,hrg _ hp1]
    exact⟨hp2.symm,hp3⟩
 ·intro a b ha hb e
  rw [List.mem_append,List.mem_singleton,Prod.mk.injEq] at ha hb
  rcases ha with ha|⟨rfl,hpa⟩<;>rcases hb with hb|⟨rfl,hpb⟩
  ·rw [hob a (mem_nums.2 ⟨_,ha⟩),hob b (mem_nums.2 ⟨_,hb⟩)] at e
   exact h.root a b ha hb e
  ·rcases hp with ⟨_,hf⟩|⟨hp1,_⟩
   ·rw [hobk,hob a (mem_nums.2 ⟨_,ha⟩)] at e
    have:=hasO_iff.2 ⟨a,mem_nums.2 ⟨_,ha⟩,e⟩
    rw [hf] at this;cases this
   ·have:=nums_nn h.ok hp1;omega
  ·rcases hp with ⟨_,hf⟩|⟨hp1,_⟩
   ·rw [hobk,hob b (mem_nums.2 ⟨_,hb⟩)] at e
    have:=hasO_iff.2 ⟨b,mem_nums.2 ⟨_,hb⟩,e.symm⟩
    rw [hf] at this;cases this
   ·have:=nums_nn h.ok hp1;omega
  ·rfl
 ·intro a ha
  rcases (hN a).1 ha with ha|rfl
  ·rw [ho a ha];exact h.wide a ha
  ·rw [hs];exact hw
theorem Inv.same {m:Nat}{X:List Tk}{l:Fo}(h:Inv m X l):∀n∈nums l,∀a∈U l n,ob X a=ob X n:=by
 refine up_ind h.ok (P:=fun n=>∀a∈U l n,ob X a=ob X n) (fun n p hn ih=>?_)
 intro a ha
 rw [U_eq h.ok hn] at ha
 rcases List.mem_cons.1 ha with rfl|ha
 ·rfl
 ·have hp:=U_mem ha
  rw [ih hp a ha,(h.up n p hn (fun e=>by have:=nums_nn h.ok hp;omega)).1]
end Go.Proofs.YtffmodpgddecnaaGreat
namespace Go.Proofs.YtffmodpgddecnaaGreat
open Go.RowKit
theorem hid {p:Prop}(h:p):Hid p:=h
theorem ret_int {k:IntKind}{a b:Int}(h:a=b):Ending.returned (.int k a)=.returned (.int k b):=by rw [h]
theorem ret_bool {a b:Bool}(h:a=b):Ending.returned (.bool a)=.returned (.bool b):=by rw [h]
theorem below1 (w:World)(o:Obj):Below w.heap.size w (w.alloc o):=(Below.refl _ _).alloc (Nat.le_refl _) _
theorem below2 (w:World)(o p:Obj):Below w.heap.size w ((w.alloc o).alloc p):=(below1 _ _).alloc (by simp) _
theorem below_call {w W w1:World}(h:Below w.heap.size w W)(hb:Below W.heap.size W w1):Below w.heap.size w w1:=h.trans (hb.mono h.size)
theorem below_grown {w w1 w2:World}{row:Option Nat}(h:Below w.heap.size w w1)(hgr:w1.grownBy w2 row)(hg:∀k,row=some k→w.heap.size≤k):Below w.heap.size w w2 :=
 h.grown hgr h.size hg
theorem addr_add0 (g i:Nat):(⟨g,0,none⟩:Addr).add i=⟨g,i,none⟩:=by unfold Addr.add;split<;>simp_all
theorem addr_add (g o i:Nat):(⟨g,o,none⟩:Addr).add i=⟨g,o+i,none⟩:=by unfold Addr.add;split<;>simp_all
theorem info3:(Tryz.prog.info? 3).map (fun i=>(i.zero,i.size,i.bytes))=some (some (.int .i64 0),1,8):=by kernel_rfl
def Lies (w:World)(p:Addr)(v:Value):Prop:=w.cell? p=some v∧w.frozen? p=false
theorem Lies.later {W w1:World}{p:Addr}{v:Value}(hb:Below W.heap.size W w1)(h:Lies W p v):Lies w1 p v :=
 ⟨cell_later hb h.1,by rw [hb.frozen (World.block_lt_of_cell? _ _ h.1)];exact h.2⟩
theorem Lies.alloc {w:World}{p:Addr}{v:Value}(h:Lies w p v)(o:Obj):Lies (w.alloc o) p v:=h.later (below1 _ _)
def ints (l:List Int):List Value:=l.map fun (n:Int)=>Value.int .i64 n
theorem ints_one (l:List Int):∀u∈ints l,u.oneCell'=true:=by
 intro u hu
 simp only [ints,List.mem_map] at hu
 obtain⟨n,_,rfl⟩:=hu
 rfl
structure But (S:Nat→Prop)(w w':World):Prop where
 os:w'.os=w.os
 tape:w'.tape=w.tape
 output:w'.output=w.output
 size:w.heap.size≤w'.heap.size
 block:∀k,k<w.heap.size→¬S k→w'.heap[k]?=w.heap[k]?
theorem But.refl (S:Nat→Prop)(w:World):But S w w:=⟨rfl,rfl,rfl,Nat.le_refl _,fun _ _ _=>rfl⟩
theorem But.trans {S:Nat→Prop}{a b c:World}(h:But S a b)(k:But S b c):But S a c :=
 ⟨k.os.trans h.os,k.tape.trans h.tape,k.output.trans h.output,Nat.le_trans h.size k.size,fun i hi hn=>(k.block i (Nat.lt_of_lt_of_le hi h.size) hn).trans (h.block i hi hn)⟩
theorem But.of {S:Nat→Prop}{w w':World}(h:Below w.heap.size w w'):But S w w':=⟨h.os,h.tape,h.output,h.size,fun k hk _=>h.block k hk⟩
theorem But.call {S:Nat→Prop}{w W w':World}(h:But S w W)(hb:Below W.heap.size W w'):But S w w':=h.trans (But.of hb)
theorem But.below {S:Nat→Prop}{w W w':World}(h:Below w.heap.size w W)(hb:But S W w')(hS:∀k,S k→w.heap.size≤k):Below w.heap.size w w' :=
 ⟨hb.os.trans h.os,hb.tape.trans h.tape,hb.output.trans h.output,Nat.le_trans h.size hb.size,fun k hk=>(hb.block k (Nat.lt_of_lt_of_le hk h.size) (fun hs=>by have:=hS k hs;omega)).trans (h.block k hk)⟩
theorem But.mono {S T:Nat→Prop}{w w':World}(h:But S w w')(hS:∀k,S k→T k):But T w w':=⟨h.os,h.tape,h.output,h.size,fun k hk hn=>h.block k hk (fun hs=>hn (hS k hs))⟩
theorem But.setCell {S:Nat→Prop}{a w:World}(h:But S a w){p:Addr}(hp:S p.block)(u:Value):But S a (w.setCell p u) :=
 h.trans ⟨rfl,rfl,rfl,by simp [World.setCell],fun k hk hn=>Below.heap_setCell _ _ _ _ (fun e=>hn (e ▸ hp))⟩
theorem But.alloc {S:Nat→Prop}{a w:World}(h:But S a w)(o:Obj):But S a (w.alloc o):=h.call (below1 _ _)
theorem But.put {S:Nat→Prop}{a w:World}(h:But S a w){p:Addr}(hp:a.heap.size≤p.block)(u:Value):But S a (w.setCell p u) :=
 ⟨h.os,h.tape,h.output,by simpa using h.size,fun k hk hn=>by rw [Below.heap_setCell _ _ _ _ (by omega)];exact h.block k hk hn⟩
theorem But.setCells {S:Nat→Prop}{b:Nat}(hp:S b):∀(vs:List Value) (o:Nat) {a w:World},But S a w→But S a (w.setCells b o vs)
 | [],_,_,_,h=>h
 | v::r,o,_,_,h=>But.setCells hp r (o+1) (h.setCell (p:=⟨b,o,none⟩) hp v)
theorem Lies.but {S:Nat→Prop}{w w':World}{p:Addr}{v:Value}(hb:But S w w')(h:Lies w p v)(hn:¬S p.block):Lies w' p v:=by
 have hk:=hb.block p.block (World.block_lt_of_cell? _ _ h.1) hn
 exact⟨by rw [World.cell?_of_block hk];exact h.1,by rw [World.frozen?_of_block hk];exact h.2⟩
theorem Lies.put {w:World}{p:Addr}{v u:Value}(h:Lies w p v):Lies (w.setCell p u) p u :=
 ⟨World.cell?_setCell_same _ _ _ h.1,by have:=h.2;simpa using this⟩
theorem Lies.other {w:World}{p q:Addr}{v u:Value}(h:Lies w p v)(hne:q≠p):Lies (w.setCell q u) p v :=
 ⟨by rw [World.cell?_setCell_other _ _ _ _ hne];exact h.1,by have:=h.2;simpa using this⟩
theorem cell_but {S:Nat→Prop}{w w':World}{p:Addr}{v:Value}(hb:But S w w')(h:w.cell? p=some v)(hn:¬S p.block):w'.cell? p=some v:=by
 rw [World.cell?_of_block (hb.block p.block (World.block_lt_of_cell? _ _ h) hn)];exact h
theorem But.comp {S T:Nat→Prop}{a b c:World}(h:But S a b)(k:But T b c)(hT:∀i,T i→S i∨a.heap.size≤i):But S a c :=
 ⟨k.os.trans h.os,k.tape.trans h.tape,k.output.trans h.output,Nat.le_trans h.size k.size,fun i hi hn=>(k.block i (Nat.lt_of_lt_of_le hi h.size) (fun ht=>by rcases hT i ht with h1|h1;exact hn h1;omega)).trans (h.block i hi hn)⟩
structure Row (w:World)(a:Option Addr)(n cap:Nat)(L:List Value):Prop where
 len:L.length=n
 cap_:n≤cap
 none_:a=none→n=0∧cap=0
 cells:∀x,a=some x→∀j u,L[j]?=some u→w.cell? (x.add j)=some u
 one:∀u∈L,u.oneCell'=true
theorem Row.later {W w1:World}{a:Option Addr}{n cap:Nat}{L:List Value}(hb:Below W.heap.size W w1)(h:Row W a n cap L):Row w1 a n cap L :=
 ⟨h.len,h.cap_,h.none_,fun x hx j u hu=>cell_later hb (h.cells x hx j u hu),h.one⟩
theorem Row.alloc {w:World}{a:Option Addr}{n cap:Nat}{L:List Value}(h:Row w a n cap L)(o:Obj):Row (w.alloc o) a n cap L:=h.later (below1 _ _)
theorem row_nil (w:World):Row w none 0 0 []:=⟨rfl,Nat.le_refl _,fun _=>⟨rfl,rfl⟩,fun _ h=>(by cases h),fun _ h=>(by cases h)⟩
def Blk (a:Option Addr)(k:Nat):Prop:=∃x,a=some x∧x.block=k
theorem add_block (x:Addr)(j:Nat):(x.add j).block=x.block:=by unfold Addr.add;split<;>rfl
theorem Row.but {S:Nat→Prop}{w w':World}{a:Option Addr}{n cap:Nat}{L:List Value}(hb:But S w w')(h:Row w a n cap L)(hn:∀k,Blk a k→¬S k):Row w' a n cap L :=
 ⟨h.len,h.cap_,h.none_,fun x hx j u hu=>cell_but hb (h.cells x hx j u hu) (by rw [add_block];exact hn _ ⟨x,hx,rfl⟩),h.one⟩
theorem Row.plain {w:World}{a:Option Addr}{n cap:Nat}{L:List Value}(h:Row w a n cap L)(hl:0<n):∃b o,a=some ⟨b,o,none⟩∧∀i v,L[i]?=some v→w.cell? ⟨b,o+i,none⟩=some v:=by
 cases a with
 | none=>have:=h.none_ rfl;omega
 | some x =>
  obtain⟨b,o,spot⟩:=x
  have hlen:=h.len
  have h0:=h.cells _ rfl 0 _ (List.getElem?_eq_getElem (by omega))
  have hs:spot=none:=by simpa [Addr.add] using World.cell?_spot h0
  subst hs
  refine⟨b,o,rfl,fun i v hi=>?_⟩
  have:=h.cells _ rfl i _ hi
  rw [addr_add] at this
  exact this
theorem Row.at {w:World}{b o n cap:Nat}{L:List Value}(hl:L.length=n)(hc:n≤cap)(hs:∀x∈L,x.oneCell'=true)(h:∀i v,L[i]?=some v→w.cell? ⟨b,o+i,none⟩=some v):Row w (some ⟨b,o,none⟩) n cap L:=by
 refine⟨hl,hc,fun h=>(by cases h),fun x hx j u hu=>?_,hs⟩
 cases hx
 rw [addr_add]
 exact h j u hu
structure Own (w:World)(base:Nat)(e:TypeId)(a:Option Addr)(n cap:Nat)(L:List Value):Prop where
 row:w.ownsRow base e 1 (.slice a n cap) n L
 one:∀u∈L,u.oneCell'=true
theorem Own.len {w:World}{base:Nat}{e:TypeId}{a:Option Addr}{n cap:Nat}{L:List Value}(h:Own w base e a n cap L):L.length=n:=by
 have:=h.row.1
 rw [Nat.mul_one] at this
 exact this
theorem Own.read {w:World}{base:Nat}{e:TypeId}{a:Option Addr}{n cap:Nat}{L:List Value}(h:Own w base e a n cap L):Row w a n cap L:=by
 refine⟨h.len,?_,?_,?_,h.one⟩
 ·rcases h.row.2 with ⟨h,hn⟩|⟨g,c,cur,hv,_,_,hc,_⟩
  ·omega
  ·simp only [Value.slice.injEq] at hv;omega
 ·intro ha
  rcases h.row.2 with ⟨h,hn⟩|⟨g,c,cur,hv,_,_,hc,_⟩
  ·simp only [Value.slice.injEq] at h;omega
  ·subst ha;simp at hv
 ·intro x hx j u hu
  rcases h.row.2 with ⟨h,hn⟩|⟨g,c,cur,hv,_,_,hc,_⟩
  ·subst hx;simp at h
  ·subst hx
   simp only [Value.slice.injEq,Option.some.injEq] at hv
   obtain⟨rfl,_,rfl⟩:=hv
   exact h.row.cells (g:=g) rfl j u hu
theorem own_but {S:Nat→Prop}{W w1:World}{base:Nat}{e:TypeId}{size:Nat}{v:Value}{n:Nat}{xs:List Value}(hb:But S W w1)(h:W.ownsRow base e size v n xs)(hn:∀k,v.ownBlock=some k→¬S k):w1.ownsRow base e size v n xs:=by
 refine⟨h.1,?_⟩
 rcases h.2 with h|⟨g,cap,cur,hv,hg,hh,r⟩
 ·exact .inl h
 ·have hlt:g<W.heap.size:=by
   rcases Nat.lt_or_ge g W.heap.size with h1|h1
   ·exact h1
   ·rw [Array.getElem?_eq_none h1] at hh;cases hh
  exact .inr ⟨g,cap,cur,hv,hg,by rw [hb.block g hlt (hn g (by rw [hv];simp [Value.ownBlock]))];exact hh,r⟩
theorem own_mono {w:World}{b b':Nat}{e:TypeId}{size:Nat}{v:Value}{n:Nat}{xs:List Value}(h:w.ownsRow b e size v n xs)(hb:b'≤b):w.ownsRow b' e size v n xs:=by
 refine⟨h.1,?_⟩
 rcases h.2 with h|⟨g,cap,cur,hv,hg,r⟩
 ·exact .inl h
 ·exact .inr ⟨g,cap,cur,hv,Nat.le_trans hb hg,r⟩
theorem own_block {w:World}{base:Nat}{e:TypeId}{size:Nat}{v:Value}{n:Nat}{xs:List Value}(h:w.ownsRow base e size v n xs):∀k,v.ownBlock=some k→base≤k∧k<w.heap.size:=by
 intro k hk
 rcases h.2 with ⟨rfl,_⟩|⟨g,cap,cur,rfl,hg,hh,_⟩
 ·cases hk
 ·simp [Value.ownBlock] at hk
  subst hk
  exact⟨hg,(Array.getElem?_eq_some_iff.1 hh).1⟩
theorem Blk.of {a:Option Addr}{n cap k:Nat}:(Value.slice a n cap).ownBlock=some k↔Blk a k:=by
 cases a with
 | none=>simp [Value.ownBlock,Blk]
 | some x=>simp [Value.ownBlock,Blk]
theorem Own.but {S:Nat→Prop}{W w1:World}{base:Nat}{e:TypeId}{a:Option Addr}{n cap:Nat}{L:List Value}(hb:But S W w1)(h:Own W base e a n cap L)(hn:∀k,Blk a k→¬S k):Own w1 base e a n cap L :=
 ⟨own_but hb h.row (fun k hk=>hn k (Blk.of.1 hk)),h.one⟩
theorem Own.later {W w1:World}{base:Nat}{e:TypeId}{a:Option Addr}{n cap:Nat}{L:List Value}(hb:Below W.heap.size W w1)(h:Own W base e a n cap L):Own w1 base e a n cap L :=
 h.but (S:=fun _=>False) (But.of hb) (fun _ _ h=>h)
theorem Own.alloc {w:World}{base:Nat}{e:TypeId}{a:Option Addr}{n cap:Nat}{L:List Value}(h:Own w base e a n cap L)(o:Obj):Own (w.alloc o) base e a n cap L:=h.later (below1 _ _)
theorem Own.mono {w:World}{base b:Nat}{e:TypeId}{a:Option Addr}{n cap:Nat}{L:List Value}(h:Own w base e a n cap L)(hb:b≤base):Own w b e a n cap L:=⟨own_mono h.row hb,h.one⟩
theorem Own.nil (w:World)(base:Nat)(e:TypeId):Own w base e .none 0 0 []:=⟨⟨rfl,.inl ⟨rfl,rfl⟩⟩,fun _ h=>(by cases h)⟩
theorem Own.blk {w:World}{base:Nat}{e:TypeId}{a:Option Addr}{n cap:Nat}{L:List Value}(h:Own w base e a n cap L):∀k,Blk a k→base≤k:=fun k hk=>(own_block h.row k (Blk.of.2 hk)).1
theorem Own.lt {w:World}{base:Nat}{e:TypeId}{a:Option Addr}{n cap:Nat}{L:List Value}(h:Own w base e a n cap L):∀k,Blk a k→k<w.heap.size:=fun k hk=>(own_block h.row k (Blk.of.2 hk)).2
structure Gr (a a':Option Addr)(w w':World):Prop where
 but:But (Blk a) w w'
 on:∀k,Blk a' k→Blk a k∨w.heap.size≤k
theorem Gr.refl (a:Option Addr)(w:World):Gr a a w w:=⟨But.refl _ _,fun _ h=>.inl h⟩
theorem Gr.trans {a a' a'':Option Addr}{w w' w'':World}(h:Gr a a' w w')(k:Gr a' a'' w' w''):Gr a a'' w w'' :=
 ⟨h.but.comp k.but h.on,fun i hi=>by
  rcases k.on i hi with h1|h1
  ·exact h.on i h1
  ·exact .inr (Nat.le_trans h.but.size h1)⟩
theorem Gr.pre {a a':Option Addr}{w W w':World}(h:Below w.heap.size w W)(k:Gr a a' W w'):Gr a a' w w' :=
 ⟨(But.of h).trans k.but,fun i hi=>by
  rcases k.on i hi with h1|h1
  ·exact .inl h1
  ·exact .inr (Nat.le_trans h.size h1)⟩
theorem Gr.below {w w':World}{base:Nat}{e:TypeId}{a a':Option Addr}{n cap:Nat}{L:List Value}(h:Own w base e a n cap L)(g:Gr a a' w w')(hb:base≤w.heap.size):Below base w w' :=
 ⟨g.but.os,g.but.tape,g.but.output,g.but.size,fun k hk=>g.but.block k (by omega) (fun hs=>by have:=h.blk k hs;omega)⟩
theorem append_gen (t e:TypeId)(z:Value)(by_:Nat)(ht:Tryz.prog.underlying t=some (.slice e))(hinf:(Tryz.prog.info? e).map (fun i=>(i.zero,i.size,i.bytes))=some (some z,1,by_))(hzs:z.cells.size=1)
  {w:World} {base:Nat} {a:Option Addr} {n cap:Nat} {L:List Value} {b:Option Addr} {m c:Nat} {M:List Value} (h:Own w base e a n cap L) (k:Row w b m c M) (hb:base≤w.heap.size) (hr:(n+m)*by_≤140737488355328) (hr2:n+m≤140737488355328) :
  ∃a' cap' w',(Builtin.append_ #[t,t] t #[.slice a n cap,.slice b m c]).run Tryz.prog w=.ok (.slice a' (n+m) cap') w'∧Own w' base e a' (n+m) cap' (L++M)∧Gr a a' w w':=by
 obtain⟨i,hi,hz0,hz1,hz2⟩:=info_parts hinf
 have hsm:∀x∈L++M,x.oneCell'=true:=fun x hx=>by
  rcases List.mem_append.1 hx with h1|h1
  ·exact h.one x h1
  ·exact k.one x h1
 cases b with
 | none =>
  obtain⟨rfl,rfl⟩:=k.none_ rfl
  have hM:M=[]:=List.eq_nil_of_length_eq_zero k.len
  subst hM
  have hr:=run_append_owned_none (P:=Tryz.prog) (w:=w) base t t e i 1 ht hi _ n _ h.row
  exact⟨a,cap,w,hr,⟨by simpa using h.row,hsm⟩,Gr.refl _ _⟩
 | some x =>
  obtain⟨v',w',hr,h2,h3,_,h5⟩:=run_append_own_at (P:=Tryz.prog) w base t t e i _ 1 by_ ht hi hz0 hz1 hz2 hzs (by decide) _ n _ h.row x m c M (by rw [k.len,Nat.mul_one]) (k.cells x rfl) k.one (by unfold maxLen;omega) hr hb
  obtain⟨a',cap',rfl⟩:∃a' cap',v'=.slice a' (n+m) cap':=by
   rcases h2.2 with ⟨h,h'⟩|⟨g',cap',_,h,_⟩
   ·exact⟨.none,0,by rw [h,h']⟩
   ·exact⟨_,cap',h⟩
  refine⟨a',cap',w',hr,⟨h2,hsm⟩,⟨h3.os,h3.tape,h3.output,h3.size,fun j hj hn=>h3.block j hj (fun e=>hn (Blk.of.1 e.symm))⟩,fun j hj=>?_⟩
  rcases h5 with h5|h5
  ·rw [Blk.of.2 hj] at h5
   exact .inl (Blk.of.1 h5.symm)
  ·rw [Blk.of.2 hj] at h5
   right
   simp at h5
   omega
theorem wpList_append_known {P:Program}{w:World}{ops:Array Oper}{rest:List Oper}{o:Oper}{a:Act}{Q:Exit→Act→World→Prop}(hgd:o.guard=none)(s x:Operand)(t:TypeId)
  (ho:o.op=.call { callee:=.builtin .append,args:=#[s,x],argTypes:=#[t,t] }) (vs vx:Value) (hs:a.eval s=vs) (hx:a.eval x=vx) (v':Value) (w':World)
  (hr:(Builtin.append_ #[t,t] o.type #[vs,vx]).run P w=.ok v' w') (h:wpList P ops Q rest (a.put o.dst v') w'):wpList P ops Q (o::rest) a w:=by
 refine wpList_plain hgd fun K hK=>?_
 unfold Oper.wp execOp
 simp only [ho,resolve,invoke,builtin,Sem.run_bind,Sem.run_pure,Result.andThen_ok,List.map_toArray,List.map_cons,List.map_nil,hs,hx,hr]
 exact hK _ _ h
end Go.Proofs.YtffmodpgddecnaaGreat
namespace Go.Proofs.YtffmodpgddecnaaGreat
theorem nx_app_left {a b:List Int}{i:Nat}(h:i<a.length):nx (a++b) i=nx a i:=by unfold nx;rw [List.getElem?_append_left h]
theorem nx_app_right {a b:List Int}{i:Nat}(h:a.length≤i):nx (a++b) i=nx b (i - a.length):=by
 unfold nx;rw [List.getElem?_append_right h]
theorem nx_cons (a:Int)(b:List Int)(i:Nat):nx (a::b) (i+1)=nx b i:=by simp [nx]
theorem lk_at {m:Nat}{l:Fo}{N:List Nd}(h:Rep m l N){p:Nat}{i:Nat}(hi:0<i)(hil:i≤(ch l p).length):(ch l p)[i - 1]?=some ((lkN p (ch l p) i:Nat):Int):=by
 cases i with
 | zero=>omega
 | succ j =>
  have hr:=h.ok.range _ (ch_mem (List.getElem_mem (l:=ch l p) (n:=j) (by omega)))
  rw [show j+1 - 1=j by omega,List.getElem?_eq_getElem (by omega)]
  show _=some (((nx (ch l p) j).toNat:Nat):Int)
  rw [nx_lt (by omega)]
  congr 1
  omega
theorem Rep.cut {m:Nat}{l:Fo}{N:List Nd}(h:Rep m l N){n p i:Nat}(hi:(ch l p)[i]?=some (n:Int))(hp0:(p:Int)∈nums l)(hc:ch l n=[]) :
  Rep m (cut l n) ((putL N p (ch l p) i (nx (ch l p) (i+1))).set n nd0):=by
 have hn:=mem_ch.1 (List.mem_of_getElem? hi)
 have hcn:=h.ok.chNodup (p:Int)
 have hlk:=@lk_at _ _ _ h p i
 obtain⟨c,hcc⟩:∃c,c=ch l p:=⟨_,rfl⟩
 rw [←hcc] at hi hcn hlk ⊢
 have hil:=(List.getElem?_eq_some_iff.1 hi).1
 obtain⟨c1,c2,hsp,hl1⟩:∃c1 c2,c=c1++(n:Int)::c2∧c1.length=i:=by
  refine⟨c.take i,c.drop (i+1),?_,by rw [List.length_take];omega⟩
  have h1:=List.getElem?_eq_some_iff.1 hi
  obtain⟨h2,h3⟩:=h1
  rw [←h3,List.getElem_cons_drop,List.take_append_drop]
 have hpn:p≠n:=by
  intro e
  subst e
  rw [←hcc] at hc
  rw [hc] at hil
  exact absurd hil (Nat.not_lt_zero _)
 have hch:∀q:Int,q≠p→ch (Go.Proofs.YtffmodpgddecnaaGreat.cut l n) q=ch l q:=fun q hq=>by
  rw [ch_cut]
  apply filter_out
  intro hk
  exact hq (h.ok.uniq (mem_ch.1 hk) hn)
 have hchp:ch (Go.Proofs.YtffmodpgddecnaaGreat.cut l n) p=c1++c2:=by
  rw [ch_cut,←hcc,hsp]
  rw [hsp] at hcn
  exact filter_in hcn
 refine⟨by rw [List.length_set,putL_len];exact h.len,h.ok.cut n hc,fun k x hx hk=>?_,fun k x q hx hq=>?_,fun k x hx hk=>?_,fun q hq j k x hj hx=>?_⟩
 ·rcases get_set hx with ⟨_,rfl⟩|⟨hne,hx⟩
  ·rfl
  ·have hkl:(k:Int)∉nums l:=fun hk2=>hk (nums_cut.2 ⟨hk2,by omega⟩)
   obtain⟨y,hy,h1,h2,h3,h4⟩:=put_get hx
   rw [if_neg (fun e=>hkl (by rw [e.2];exact hp0))] at h3
   rw [if_neg (fun e=>hkl (by rw [e.2];have:=List.mem_of_getElem? (hlk e.1 (by omega));rw [hcc] at this;rw [hcc];exact ch_mem this))] at h4
   have:=h.out k y hy hkl
   subst this
   obtain⟨a,b,c,d⟩:=x
   simp only at h1 h2 h3 h4
   subst h1 h2 h3 h4
   rfl
 ·obtain⟨hp1,hp2⟩:=mem_cut.1 hq
  simp only at hp2
  rcases get_set hx with ⟨rfl,rfl⟩|⟨hne,hx⟩
  ·exact absurd rfl hp2
  ·obtain⟨y,hy,h1,h2,_,_⟩:=put_get hx
   rw [h1,h2]
   exact h.inn k y q hy hp1
 ·obtain⟨hk1,hk2⟩:=nums_cut.1 hk
  rcases get_set hx with ⟨rfl,rfl⟩|⟨hne,hx⟩
  ·exact absurd rfl hk2
  ·obtain⟨y,hy,_,_,h3,_⟩:=put_get hx
   rw [h3]
   by_cases hkp:k=p
   ·subst hkp
    rw [hchp]
    by_cases hi0:i=0
    ·have hc1:c1=[]:=List.eq_nil_of_length_eq_zero (by omega)
     rw [if_pos ⟨hi0,rfl⟩,hi0,hsp,hc1]
     rfl
    ·rw [if_neg (fun e=>hi0 e.1),h.fi k y hy hp0,←hcc,hsp,nx_app_left (by omega),nx_app_left (by omega)]
   ·rw [if_neg (fun e=>hkp e.2),hch _ (by omega)]
    exact h.fi k y hy hk1
 ·have hkn:=(nums_cut.1 (ch_mem (List.mem_of_getElem? hj))).2
  rcases get_set hx with ⟨rfl,rfl⟩|⟨hne,hx⟩
  ·exact absurd rfl hkn
  ·obtain⟨y,hy,_,_,_,h4⟩:=put_get hx
   rw [h4]
   by_cases hqp:q=p
   ·subst hqp
    rw [hchp] at hj ⊢
    by_cases hj1:j<c1.length
    ·rw [List.getElem?_append_left hj1] at hj
     have hjc:c[j]?=some (k:Int):=by rw [hsp,List.getElem?_append_left hj1];exact hj
     by_cases hj2:j+1=i
     ·have hk3:=hlk (by omega) (by omega)
      rw [←hj2] at hk3
      rw [show j+1 - 1=j by omega,hjc] at hk3
      have hk4:=Option.some.inj hk3
      rw [if_pos ⟨by omega,by rw [←hj2];omega⟩,nx_app_right (by omega),hsp,nx_app_right (by omega),show i+1 - c1.length=0+1 by omega,nx_cons,show j+1 - c1.length=0 by omega]
     ·rw [if_neg,h.be p (by omega) j k y (hcc ▸ hjc) hy,←hcc,hsp,nx_app_left (by omega),nx_app_left (by omega)]
      rintro ⟨h5,h6⟩
      have:=hlk h5 (by omega)
      rw [←h6] at this
      have:=nd_idx hcn hjc this
      omega
    ·rw [List.getElem?_append_right (by omega)] at hj
     have hjc:c[j+1]?=some (k:Int):=by
      rw [hsp,List.getElem?_append_right (by omega),show j+1 - c1.length=(j - c1.length)+1 by omega]
      exact hj
     rw [if_neg,h.be p (by omega) (j+1) k y (hcc ▸ hjc) hy,←hcc,hsp,nx_app_right (by omega),nx_app_right (by omega),show j+1+1 - c1.length=(j+1 - c1.length)+1 by omega,nx_cons]
     rintro ⟨h5,h6⟩
     have:=hlk h5 (by omega)
     rw [←h6] at this
     have:=nd_idx hcn hjc this
     omega
   ·rw [hch q hqp] at hj ⊢
    rw [if_neg]
    ·exact h.be q hq j k y hj hy
    ·rintro ⟨h5,h6⟩
     have:=List.mem_of_getElem? (hlk h5 (by omega))
     rw [←h6,hcc] at this
     exact hqp (h.ok.uniq (mem_ch.1 (List.mem_of_getElem? hj)) (mem_ch.1 this))
end Go.Proofs.YtffmodpgddecnaaGreat
namespace Go.Proofs.YtffmodpgddecnaaGreat
open Go.RowKit
structure Pn (w:World)(b o:Nat)(x:Nd):Prop where
 c0:w.cell? ⟨b,o,none⟩=some (.bool x.th)
 c1:w.cell? ⟨b,o+1,none⟩=some (.int .i64 x.pa)
 c2:w.cell? ⟨b,o+2,none⟩=some (.int .i64 x.fi)
 c3:w.cell? ⟨b,o+3,none⟩=some (.int .i64 x.be)
theorem Pn.but {S:Nat→Prop}{w w':World}{b o:Nat}{x:Nd}(hb:But S w w')(h:Pn w b o x)(hn:¬S b):Pn w' b o x :=
 ⟨cell_but hb h.c0 hn,cell_but hb h.c1 hn,cell_but hb h.c2 hn,cell_but hb h.c3 hn⟩
structure Tm (w:World)(g gb m:Nat)(N:List Nd):Prop where
 a0:w.cell? ⟨g,0,none⟩=some (.slice (some ⟨gb,0,none⟩) m m)
 fr:∀j,w.frozen? ⟨gb,j,none⟩=false
 at_:∀(i:Nat) (x:Nd),N[i]?=some x→Pn w gb (i*4) x
 ne:g≠gb
 lt2:gb<w.heap.size
 len:N.length=m
 big:m≤1024
theorem Tm.lt {w:World}{g gb m:Nat}{N:List Nd}(h:Tm w g gb m N):g<w.heap.size:=World.block_lt_of_cell? _ _ h.a0
theorem Tm.but {S:Nat→Prop}{w w':World}{g gb m:Nat}{N:List Nd}(hb:But S w w')(h:Tm w g gb m N)(h1:¬S g)(h2:¬S gb):Tm w' g gb m N :=
 ⟨cell_but hb h.a0 h1,fun j=>by rw [World.frozen?_of_block (w:=w) (hb.block gb h.lt2 h2)];exact h.fr j,fun i p hp=>(h.at_ i p hp).but hb h2,h.ne,Nat.lt_of_lt_of_le h.lt2 hb.size,h.len,h.big⟩
theorem Tm.later {w w':World}{g gb m:Nat}{N:List Nd}(hb:Below w.heap.size w w')(h:Tm w g gb m N):Tm w' g gb m N:=h.but (S:=fun _=>False) (But.of hb) (fun h=>h) (fun h=>h)
theorem cell_ne {w:World}{b o o':Nat}{u v:Value}(h:w.cell? ⟨b,o,none⟩=some v)(hne:o≠o'):(w.setCell ⟨b,o',none⟩ u).cell? ⟨b,o,none⟩=some v:=by
 rw [World.cell?_setCell_other _ _ _ _ (fun e=>hne (by cases e;rfl))];exact h
theorem cell_nb {w:World}{b b' o o':Nat}{u v:Value}(h:w.cell? ⟨b,o,none⟩=some v)(hne:b≠b'):(w.setCell ⟨b',o',none⟩ u).cell? ⟨b,o,none⟩=some v:=by
 rw [World.cell?_setCell_other _ _ _ _ (fun e=>hne (by cases e;rfl))];exact h
def Ki (w:World)(g gb m:Nat)(l:Fo):Prop:=∃N,Tm w g gb m N∧Rep m l N
theorem Ki.later {w w':World}{g gb m:Nat}{l:Fo}(hb:Below w.heap.size w w')(h:Ki w g gb m l):Ki w' g gb m l:=by
 obtain⟨N,h1,h2⟩:=h
 exact⟨N,h1.later hb,h2⟩
theorem Ki.but {S:Nat→Prop}{w w':World}{g gb m:Nat}{l:Fo}(hb:But S w w')(h:Ki w g gb m l)(hg:¬S g)(hgb:¬S gb):Ki w' g gb m l:=by
 obtain⟨N,h1,h2⟩:=h
 exact⟨N,h1.but hb hg hgb,h2⟩
theorem Ki.ok {w:World}{g gb m:Nat}{l:Fo}(h:Ki w g gb m l):Ok m l:=by
 obtain⟨N,h1,h2⟩:=h
 exact h2.ok
end Go.Proofs.YtffmodpgddecnaaGreat
namespace Go.Proofs.YtffmodpgddecnaaGreat
open Go.RowKit
theorem append_ints {w:World}{base:Nat}{a:Option Addr}{n cap:Nat}{L:List Value}{b:Option Addr}{m c:Nat}{M:List Value}(h:Own w base 3 a n cap L)(k:Row w b m c M)(hb:base≤w.heap.size)(hr:(n+m)*8≤140737488355328) :
  ∃a' cap' w',(Builtin.append_ #[43,43] 43 #[.slice a n cap,.slice b m c]).run Tryz.prog w=.ok (.slice a' (n+m) cap') w'∧Own w' base 3 a' (n+m) cap' (L++M)∧Gr a a' w w' :=
 append_gen 43 3 _ 8 Tryz.underlying43 info3 rfl h k hb hr (by omega)
end Go.Proofs.YtffmodpgddecnaaGreat
