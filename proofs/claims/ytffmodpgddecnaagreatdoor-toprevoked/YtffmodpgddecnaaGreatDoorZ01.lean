import Derived.Test.YtffmodpgddecnaaGreatDoorRows
import Derived.WalkLawsBesides
import Derived.WalkMore
import Derived.Deep.RegionHeld3
import Derived.Deep.MidRow
import Derived.Deep.QuietTactic
import Derived.Deep.DeepCutAuto
import Derived.BigQuiet
import Derived.Maps.AppendAt
import Derived.Laws.AppendOwnNone
import Derived.Laws.OwnMore
import Derived.Laws.CopyRow
import Derived.Laws.IdiomCopy
import Derived.Deep.LoopGhost
import Derived.Test.YtffmodpgddecnaaGreatDoorZ00
set_option linter.unusedVariables false
set_option linter.unusedSimpArgs false
set_option maxRecDepth 100000
set_option maxHeartbeats 1000000
namespace Go.Proofs.YtffmodpgddecnaaGreatDoor
open H
abbrev Tk:=Cp×Int
def tz:Tk:=((0,0,0),0)
def tk (X:List Tk)(n:Int):Tk:=(X[n.toNat]?).getD tz
def ob (X:List Tk)(n:Int):Int:=(tk X n).1.1
def rg (X:List Tk)(n:Int):Int:=(tk X n).2
def bq (r:Int):Bool:=decide (1<=r/\r<=31)
def aE (a b:Int):Bool:=bq a&&bq b&&decide (a.toNat &&& b.toNat=a.toNat)
theorem kU {r:Int}:bq r=true↔1<=r/\r<=31:=by unfold bq;exact decide_eq_true_iff
theorem kd {a b:Int}(h:aE a b=true):bq a=true:=by
 unfold aE at h;simp only [Bool.and_eq_true] at h;exact h.1.1
structure Inv (m:Nat)(X:List Tk)(l:Fo):Prop where
 ok:Ok m l
 len:X.length=m
 one:∀a∈aj l,∀b∈aj l,(tk X a).1=(tk X b).1->a=b
 val:∀a∈aj l,bq (rg X a)=true
 up:∀n p,(n,p)∈l->p≠-1->ob X n=ob X p/\aE (rg X n) (rg X p)=true
 root:∀a b,(a,-1)∈l->(b,-1)∈l->ob X a=ob X b->a=b
 wide:∀a∈aj l,(tk X a).1.2.1<aq/\(tk X a).1.2.2<aq
theorem oH:∀{A B:List Int},A.Nodup->(∀x∈A,x∈B)->A.length<=B.length
 | [],B,_,_=>Nat.zero_le _
 | a::A,B,hn,h=>by
  rw [List.nodup_cons] at hn;have h1:=oH (A:=A) (B:=B.erase a) hn.2 (λx hx=>by
   have hne:x≠a:=λe=>hn.1 (e ▸ hx)
   exact (List.mem_erase_of_ne hne).2 (h x (List.mem_cons_of_mem _ hx)))
  have h2:=List.length_erase_of_mem (h a (List.mem_cons_self ..))
  have h3:=List.length_pos_of_mem (h a (List.mem_cons_self ..))
  rw [List.length_cons];omega
def ek (k:Nat):List Int:=(List.range k).map (λ(i:Nat)=>(i:Int))
theorem kZ (k:Nat):(ek k).length=k:=by simp [ek]
theorem k_ {k:Nat}{x:Int}:x∈ek k↔0<=x/\x<(k:Int):=by
 unfold ek;simp only [List.mem_map,List.mem_range];constructor
 ·rintro ⟨i,hi,rfl⟩;omega
 ·rintro ⟨h0,h1⟩;exact⟨x.toNat,by omega,by omega⟩
theorem ju (k:Nat):(ek k).Nodup:=by
 unfold ek;rw [List.Nodup,List.pairwise_map];exact List.nodup_range.imp (λh e=>h (by exact_mod_cast e))
def Da (l:Fo):Nat->Nat->Nat
 | k,0=>k
 | k,f+1=>if (k:Int)∈aj l then Da l (k+1) f else k
def low (l:Fo):Nat:=Da l 0 (l.length+1)
theorem uP {l:Fo}{k:Nat}(h:(k:Int)∉aj l)(hb:∀j:Nat,j<k->(j:Int)∈aj l):∀(f j:Nat),j<=k->k<j+f->Da l j f=k
 | 0,j,h1,h2=>by omega
 | f+1,j,h1,h2=>by
  unfold Da;by_cases e:j=k
  ·subst e;rw [if_neg h]
  ·rw [if_pos (hb j (by omega))]
   exact uP h hb f (j+1) (by omega) (by omega)
theorem mL (l:Fo):(aj l).length=l.length:=by simp [aj]
theorem h_ {l:Fo}{k:Nat}(hb:∀j:Nat,j<k->(j:Int)∈aj l):k<=l.length:=by
 have:=oH (ju k) (B:=aj l) (λx hx=>by
  have:=k_.1 hx
  have e:x=(x.toNat:Int):=by omega
  rw [e];exact hb _ (by omega))
 rw [kZ,mL] at this;exact this
theorem tS {l:Fo}{k:Nat}(h:(k:Int)∉aj l)(hb:∀j:Nat,j<k->(j:Int)∈aj l):low l=k:=by
 have:=h_ hb
 exact uP h hb _ 0 (Nat.zero_le _) (by omega)
theorem xU (l:Fo):∃k:Nat,(k:Int)∉aj l/\∀j:Nat,j<k->(j:Int)∈aj l:=by
 have:∀n:Nat,(∃k:Nat,(k:Int)∉aj l/\∀j:Nat,j<k->(j:Int)∈aj l)\/∀j:Nat,j<n->(j:Int)∈aj l:=by
  intro n;induction n with
  | zero=>exact .inr (λj h=>by omega)
  | succ n ih =>
   rcases ih with h|h
   ·exact .inl h
   ·by_cases hn:(n:Int)∈aj l
    ·refine .inr (λj hj=>?_)
     by_cases e:j=n
     ·rw [e];exact hn
     ·exact h j (by omega)
    ·exact .inl ⟨n,hn,h⟩
 rcases this (l.length+1) with h|h
 ·exact h
 ·have:=h_ h;omega
theorem eK (l:Fo):(low l:Int)∉aj l:=by
 obtain⟨k,h1,h2⟩:=xU l
 rw [tS h1 h2];exact h1
theorem vJ {l:Fo}{j:Nat}(h:j<low l):(j:Int)∈aj l:=by
 obtain⟨k,h1,h2⟩:=xU l
 rw [tS h1 h2] at h;exact h2 j h
theorem oA {m:Nat}{l:Fo}(h:Ok m l)(hl:l.length<m):low l<m:=by
 have:=h_ (l:=l) (k:=low l) (λj hj=>vJ hj)
 omega
theorem dz {X:List Tk}{k:Nat}(x:Tk)(h:k<X.length):tk (X.set k x) (k:Int)=x:=by
 unfold tk;simp [h]
theorem bN {X:List Tk}{k:Nat}(x:Tk){n:Int}(h0:0<=n)(h:n≠(k:Int)):tk (X.set k x) n=tk X n:=by
 unfold tk;rw [List.getElem?_set_ne (by omega)]
def fQ (X:List Tk):List Int->List Tk
 | []=>X
 | a::A=>fQ (X.set a.toNat tz) A
theorem vl:∀(A:List Int) (X:List Tk),(fQ X A).length=X.length
 | [],X=>rfl
 | a::A,X=>by unfold fQ;rw [vl,List.length_set]
theorem qF:∀(A:List Int) (X:List Tk) (a:Int),fQ X (A++[a])=(fQ X A).set a.toNat tz
 | [],X,a=>rfl
 | b::A,X,a=>by show fQ (X.set b.toNat tz) (A++[a])=_;rw [qF];rfl
theorem iA:∀(A:List Int) (X:List Tk) (n:Int),0<=n->(∀a∈A,0<=a)->n∉A->tk (fQ X A) n=tk X n
 | [],X,n,_,_,_=>rfl
 | a::A,X,n,h0,hA,hn=>by
  unfold fQ;rw [iA A _ n h0 (λx hx=>hA x (List.mem_cons_of_mem _ hx)) (λh=>hn (List.mem_cons_of_mem _ h))];have ha:=hA a (List.mem_cons_self ..)
  have:(a.toNat:Int)=a:=by omega
  exact bN tz h0 (λe=>hn (by rw [e,this];exact List.mem_cons_self ..))
theorem bd {m:Nat}{l:Fo}(h:Ok m l){k:Int}(hk:k∈aj l):0<=k:=(h.range k hk).1
theorem Inv.ext {m:Nat}{X Y:List Tk}{l:Fo}(h:Inv m X l)(hl:Y.length=m)(he:∀a∈aj l,tk Y a=tk X a):Inv m Y l:=by
 have ho:∀a∈aj l,ob Y a=ob X a:=λa ha=>by unfold ob;rw [he a ha]
 have hr:∀a∈aj l,rg Y a=rg X a:=λa ha=>by unfold rg;rw [he a ha]
 refine⟨h.ok,hl,λa ha b hb e=>h.one a ha b hb (by rw [<-he a ha,<-he b hb];exact e),λa ha=>by rw [hr a ha];exact h.val a ha,λn p hp h1=>?_,λa b ha hb e=>?_,λa ha=>by rw [he a ha];exact h.wide a ha⟩
 ·have hn:=av.2 ⟨p,hp⟩
  have hp2:p∈aj l:=(h.ok.up hp).resolve_left h1
  rw [ho n hn,ho p hp2,hr n hn,hr p hp2];exact h.up n p hp h1
 ·rw [ho a (av.2 ⟨_,ha⟩),ho b (av.2 ⟨_,hb⟩)] at e
  exact h.root a b ha hb e
theorem ja {l:Fo}{A:List Int}{x:Int×Int}:x∈bh l A↔x∈l/\x.1∉A:=by unfold bh;rw [List.mem_filter,decide_eq_true_eq]
theorem Inv.bh {m:Nat}{X:List Tk}{l:Fo}(h:Inv m X l)(A:List Int)(hk:Ok m (bh l A)):Inv m X (bh l A):=by
 have hs:∀a∈aj (Go.Proofs.YtffmodpgddecnaaGreatDoor.bh l A),a∈aj l:=λa ha=>(bz.1 ha).1
 exact⟨hk,h.len,λa ha b hb e=>h.one a (hs a ha) b (hs b hb) e,λa ha=>h.val a (hs a ha),λn p hp h1=>h.up n p (ja.1 hp).1 h1,λa b ha hb e=>h.root a b (ja.1 ha).1 (ja.1 hb).1 e,λa ha=>h.wide a (hs a ha)⟩
def dR (X:List Tk)(l:Fo)(o:Int):Bool:=(aj l).any (λn=>decide (ob X n=o))
def aR (X:List Tk)(l:Fo)(c:Cp):Bool:=(aj l).any (λn=>decide ((tk X n).1=c))
theorem ed {X:List Tk}{l:Fo}{o:Int}:dR X l o=true↔∃n∈aj l,ob X n=o:=by unfold dR;simp
theorem bj {X:List Tk}{l:Fo}{c:Cp}:aR X l c=true↔∃n∈aj l,(tk X n).1=c:=by unfold aR;simp
theorem fI {X:List Tk}{l:Fo}{c:Cp}(h:aR X l c=true):dR X l c.1=true:=by
 obtain⟨n,hn,e⟩:=bj.1 h
 exact ed.2 ⟨n,hn,by unfold ob;rw [e]⟩
theorem Inv.add {m:Nat}{X:List Tk}{l:Fo}(h:Inv m X l){k:Nat}{p:Int}{c:Cp}{r:Int}(hk:k<m)(hn:(k:Int)∉aj l)(hc:aR X l c=false)(hw:c.2.1<aq/\c.2.2<aq)(hv:bq r=true)
  (hp:(p=-1/\dR X l c.1=false)\/(p∈aj l/\ob X p=c.1/\aE r (rg X p)=true)):Inv m (X.set k (c,r)) (l++[((k:Int),p)]):=by
 have hlen:k<X.length:=by rw [h.len];exact hk
 have hs:=dz (X:=X) (c,r) hlen
 have ho:∀a∈aj l,tk (X.set k (c,r)) a=tk X a:=λa ha=>bN _ (bd h.ok ha) (λe=>hn (e ▸ ha))
 have hN:∀a,a∈aj (l++[((k:Int),p)])↔a∈aj l\/a=(k:Int):=λa=>by rw [cJ,List.mem_append,List.mem_singleton]
 have hC:∀a∈aj l,(tk X a).1≠c:=λa ha e=>by
  have:=bj.2 ⟨a,ha,e⟩;rw [hc] at this;cases this
 have hpn:p≠(k:Int):=by
  rcases hp with ⟨rfl,_⟩|⟨hp,_⟩
  ·omega
  ·exact λe=>hn (e ▸ hp)
 have hob:∀a∈aj l,ob (X.set k (c,r)) a=ob X a:=λa ha=>by unfold ob;rw [ho a ha]
 have hrg:∀a∈aj l,rg (X.set k (c,r)) a=rg X a:=λa ha=>by unfold rg;rw [ho a ha]
 have hobk:ob (X.set k (c,r)) (k:Int)=c.1:=by unfold ob;rw [hs]
 have hrgk:rg (X.set k (c,r)) (k:Int)=r:=by unfold rg;rw [hs]
 refine⟨h.ok.add (by omega) (by omega) hn (hp.imp (·.1) (·.1)),by rw [List.length_set];exact h.len,?_,?_,?_,?_,?_⟩
 ·intro a ha b hb e
  rcases (hN a).1 ha with ha|rfl<;>rcases (hN b).1 hb with hb|rfl
  ·rw [ho a ha,ho b hb] at e;exact h.one a ha b hb e
  ·rw [ho a ha,hs] at e;exact absurd e (hC a ha)
  ·rw [ho b hb,hs] at e;exact absurd e.symm (hC b hb)
  ·rfl
 ·intro a ha
  rcases (hN a).1 ha with ha|rfl
  ·rw [hrg a ha];exact h.val a ha
  ·rw [hrgk];exact hv
 ·intro n q hq h1
  rw [List.mem_append,List.mem_singleton,Prod.mk.injEq] at hq;rcases hq with hq|⟨rfl,rfl⟩
  ·have hn1:=av.2 ⟨q,hq⟩
   have hq1:q∈aj l:=(h.ok.up hq).resolve_left h1
   rw [hob n hn1,hob q hq1,hrg n hn1,hrg q hq1];exact h.up n q hq h1
  ·rcases hp with ⟨h2,_⟩|⟨hp1,hp2,hp3⟩
   ·exact absurd h2 h1
   ·rw [hobk,hrgk,hob _ hp1,hrg _ hp1]
    exact⟨hp2.symm,hp3⟩
 ·intro a b ha hb e
  rw [List.mem_append,List.mem_singleton,Prod.mk.injEq] at ha hb;rcases ha with ha|⟨rfl,hpa⟩<;>rcases hb with hb|⟨rfl,hpb⟩
  ·rw [hob a (av.2 ⟨_,ha⟩),hob b (av.2 ⟨_,hb⟩)] at e
   exact h.root a b ha hb e
  ·rcases hp with ⟨_,hf⟩|⟨hp1,_⟩
   ·rw [hobk,hob a (av.2 ⟨_,ha⟩)] at e
    have:=ed.2 ⟨a,av.2 ⟨_,ha⟩,e⟩
    rw [hf] at this;cases this
   ·have:=bd h.ok hp1;omega
  ·rcases hp with ⟨_,hf⟩|⟨hp1,_⟩
   ·rw [hobk,hob b (av.2 ⟨_,hb⟩)] at e
    have:=ed.2 ⟨b,av.2 ⟨_,hb⟩,e.symm⟩
    rw [hf] at this;cases this
   ·have:=bd h.ok hp1;omega
  ·rfl
 ·intro a ha
  rcases (hN a).1 ha with ha|rfl
  ·rw [ho a ha];exact h.wide a ha
  ·rw [hs];exact hw
theorem Inv.init (m:Nat):Inv m (List.replicate m tz) []:=by
 refine⟨Ok.nil,by simp,?_,?_,?_,?_,?_⟩
 ·intro a ha;cases ha
 ·intro a ha;cases ha
 ·intro n p hp;cases hp
 ·intro a b ha;cases ha
 ·intro a ha;cases ha
theorem Inv.l_ {m:Nat}{X:List Tk}{l:Fo}(h:Inv m X l):∀n∈aj l,∃r,(r,-1)∈l/\ob X r=ob X n/\n∈G true l r:=by
 refine jY h.ok (P:=λn=>∃r,(r,-1)∈l/\ob X r=ob X n/\n∈G true l r) (λn p hn ih=>?_)
 by_cases hp:p=-1
 ·subst hp
  exact⟨n,hn,rfl,oy h.ok (av.2 ⟨_,hn⟩)⟩
 ·have hp1:p∈aj l:=(h.ok.up hn).resolve_left hp
  obtain⟨r,hr,ho,hG⟩:=ih hp1
  exact⟨r,hr,by rw [ho,(h.up n p hn hp).1],zb h.ok hn r (av.2 ⟨_,hr⟩) hG⟩
theorem Inv.same {m:Nat}{X:List Tk}{l:Fo}(h:Inv m X l):∀n∈aj l,∀a∈U l n,ob X a=ob X n:=by
 refine jY h.ok (P:=λn=>∀a∈U l n,ob X a=ob X n) (λn p hn ih=>?_)
 intro a ha;rw [ri h.ok hn] at ha;rcases List.mem_cons.1 ha with rfl|ha
 ·rfl
 ·have hp:=fO ha
  rw [ih hp a ha,(h.up n p hn (λe=>by have:=bd h.ok hp;omega)).1]
theorem Inv.pY {m:Nat}{X:List Tk}{l:Fo}(h:Inv m X l){r:Int}(hr:(r,-1)∈l){n:Int}:n∈G true l r↔n∈aj l/\ob X n=ob X r:=by
 constructor
 ·intro hn
  have h1:=(cE h.ok).1 hn
  have h2:=fO h1
  exact⟨h2,(h.same n h2 r h1).symm⟩
 ·rintro ⟨hn,ho⟩
  obtain⟨s,hs,hso,hG⟩:=h.l_ n hn
  rw [h.root r s hr hs (by rw [hso,ho])]
  exact hG
end Go.Proofs.YtffmodpgddecnaaGreatDoor
namespace Go.Proofs.YtffmodpgddecnaaGreatDoor
open Go.RowKit
theorem ab {p:Prop}(h:p):Hid p:=h
theorem aT {k:IntKind}{a b:Int}(h:a=b):Ending.returned (.int k a)=.returned (.int k b):=by rw [h]
theorem au {a b:Bool}(h:a=b):Ending.returned (.bool a)=.returned (.bool b):=by rw [h]
theorem ae (w:World)(o:Obj):Below w.heap.size w (w.alloc o):=(Below.refl _ _).alloc (Nat.le_refl _) _
theorem aC (w:World)(o p:Obj):Below w.heap.size w ((w.alloc o).alloc p):=(ae _ _).alloc (by simp) _
theorem aa {w W w1:World}(h:Below w.heap.size w W)(hb:Below W.heap.size W w1):Below w.heap.size w w1:=h.trans (hb.mono h.size)
theorem qV {w w1 w2:World}{row:Option Nat}(h:Below w.heap.size w w1)(hgr:w1.grownBy w2 row)(hg:∀k,row=some k->w.heap.size<=k):Below w.heap.size w w2 :=
 h.grown hgr h.size hg
theorem aQ (g i:Nat):(⟨g,0,none⟩:Addr).add i=⟨g,i,none⟩:=by unfold Addr.add;split<;>simp_all
theorem bB (g o i:Nat):(⟨g,o,none⟩:Addr).add i=⟨g,o+i,none⟩:=by unfold Addr.add;split<;>simp_all
theorem qR:(Tryz.prog.info? 3).map (λi=>(i.zero,i.size,i.bytes))=some (some (.int .i64 0),1,8):=by kernel_rfl
def az (w:World)(p:Addr)(v:Value):Prop:=w.cell? p=some v/\w.frozen? p=false
theorem az.later {W w1:World}{p:Addr}{v:Value}(hb:Below W.heap.size W w1)(h:az W p v):az w1 p v :=
 ⟨cell_later hb h.1,by rw [hb.frozen (World.block_lt_of_cell? _ _ h.1)];exact h.2⟩
theorem az.alloc {w:World}{p:Addr}{v:Value}(h:az w p v)(o:Obj):az (w.alloc o) p v:=h.later (ae _ _)
def ints (l:List Int):List Value:=l.map λ(n:Int)=>Value.int .i64 n
theorem aL (l:List Int):(ints l).length=l.length:=by simp [ints]
theorem bA (l m:List Int):ints (l++m)=ints l++ints m:=by simp [ints]
theorem ef (l:List Int)(i:Nat)(h:i<l.length):(ints l)[i]?=some (.int .i64 l[i]):=by simp [ints,h]
theorem ep (l:List Int):∀u∈ints l,u.oneCell'=true:=by
 intro u hu;simp only [ints,List.mem_map] at hu;obtain⟨n,_,rfl⟩:=hu
 rfl
structure ah (S:Nat->Prop)(w w':World):Prop where
 os:w'.os=w.os
 tape:w'.tape=w.tape
 output:w'.output=w.output
 size:w.heap.size<=w'.heap.size
 block:∀k,k<w.heap.size->¬S k->w'.heap[k]?=w.heap[k]?
theorem ah.refl (S:Nat->Prop)(w:World):ah S w w:=⟨rfl,rfl,rfl,Nat.le_refl _,λ_ _ _=>rfl⟩
theorem ah.trans {S:Nat->Prop}{a b c:World}(h:ah S a b)(k:ah S b c):ah S a c :=
 ⟨k.os.trans h.os,k.tape.trans h.tape,k.output.trans h.output,Nat.le_trans h.size k.size,λi hi hn=>(k.block i (Nat.lt_of_lt_of_le hi h.size) hn).trans (h.block i hi hn)⟩
theorem ah.of {S:Nat->Prop}{w w':World}(h:Below w.heap.size w w'):ah S w w':=⟨h.os,h.tape,h.output,h.size,λk hk _=>h.block k hk⟩
theorem ah.call {S:Nat->Prop}{w W w':World}(h:ah S w W)(hb:Below W.heap.size W w'):ah S w w':=h.trans (ah.of hb)
theorem ah.below {S:Nat->Prop}{w W w':World}(h:Below w.heap.size w W)(hb:ah S W w')(hS:∀k,S k->w.heap.size<=k):Below w.heap.size w w' :=
 ⟨hb.os.trans h.os,hb.tape.trans h.tape,hb.output.trans h.output,Nat.le_trans h.size hb.size,λk hk=>(hb.block k (Nat.lt_of_lt_of_le hk h.size) (λhs=>by have:=hS k hs;omega)).trans (h.block k hk)⟩
theorem ah.mono {S T:Nat->Prop}{w w':World}(h:ah S w w')(hS:∀k,S k->T k):ah T w w':=⟨h.os,h.tape,h.output,h.size,λk hk hn=>h.block k hk (λhs=>hn (hS k hs))⟩
theorem ah.setCell {S:Nat->Prop}{a w:World}(h:ah S a w){p:Addr}(hp:S p.block)(u:Value):ah S a (w.setCell p u) :=
 h.trans ⟨rfl,rfl,rfl,by simp [World.setCell],λk hk hn=>Below.heap_setCell _ _ _ _ (λe=>hn (e ▸ hp))⟩
theorem ah.alloc {S:Nat->Prop}{a w:World}(h:ah S a w)(o:Obj):ah S a (w.alloc o):=h.call (ae _ _)
theorem ah.put {S:Nat->Prop}{a w:World}(h:ah S a w){p:Addr}(hp:a.heap.size<=p.block)(u:Value):ah S a (w.setCell p u) :=
 ⟨h.os,h.tape,h.output,by simpa using h.size,λk hk hn=>by rw [Below.heap_setCell _ _ _ _ (by omega)];exact h.block k hk hn⟩
theorem ah.setCells {S:Nat->Prop}{b:Nat}(hp:S b):∀(vs:List Value) (o:Nat) {a w:World},ah S a w->ah S a (w.setCells b o vs)
 | [],_,_,_,h=>h
 | v::r,o,_,_,h=>ah.setCells hp r (o+1) (h.setCell (p:=⟨b,o,none⟩) hp v)
theorem cO (b:Nat):∀(vs:List Value) (o:Nat) (w:World),(w.setCells b o vs).heap.size=w.heap.size
 | [],_,_=>rfl
 | v::r,o,w=>by rw [World.setCells,cO b r];simp [World.setCell]
theorem az.but {S:Nat->Prop}{w w':World}{p:Addr}{v:Value}(hb:ah S w w')(h:az w p v)(hn:¬S p.block):az w' p v:=by
 have hk:=hb.block p.block (World.block_lt_of_cell? _ _ h.1) hn
 exact⟨by rw [World.cell?_of_block hk];exact h.1,by rw [World.frozen?_of_block hk];exact h.2⟩
theorem az.put {w:World}{p:Addr}{v u:Value}(h:az w p v):az (w.setCell p u) p u :=
 ⟨World.cell?_setCell_same _ _ _ h.1,by have:=h.2;simpa using this⟩
theorem az.other {w:World}{p q:Addr}{v u:Value}(h:az w p v)(hne:q≠p):az (w.setCell q u) p v :=
 ⟨by rw [World.cell?_setCell_other _ _ _ _ hne];exact h.1,by have:=h.2;simpa using this⟩
theorem ag {S:Nat->Prop}{w w':World}{p:Addr}{v:Value}(hb:ah S w w')(h:w.cell? p=some v)(hn:¬S p.block):w'.cell? p=some v:=by
 rw [World.cell?_of_block (hb.block p.block (World.block_lt_of_cell? _ _ h) hn)];exact h
theorem ah.comp {S T:Nat->Prop}{a b c:World}(h:ah S a b)(k:ah T b c)(hT:∀i,T i->S i\/a.heap.size<=i):ah S a c :=
 ⟨k.os.trans h.os,k.tape.trans h.tape,k.output.trans h.output,Nat.le_trans h.size k.size,λi hi hn=>(k.block i (Nat.lt_of_lt_of_le hi h.size) (λht=>by rcases hT i ht with h1|h1;exact hn h1;omega)).trans (h.block i hi hn)⟩
structure Row (w:World)(a:Option Addr)(n cap:Nat)(L:List Value):Prop where
 len:L.length=n
 cap_:n<=cap
 none_:a=none->n=0/\cap=0
 cells:∀x,a=some x->∀j u,L[j]?=some u->w.cell? (x.add j)=some u
 one:∀u∈L,u.oneCell'=true
theorem Row.later {W w1:World}{a:Option Addr}{n cap:Nat}{L:List Value}(hb:Below W.heap.size W w1)(h:Row W a n cap L):Row w1 a n cap L :=
 ⟨h.len,h.cap_,h.none_,λx hx j u hu=>cell_later hb (h.cells x hx j u hu),h.one⟩
theorem Row.alloc {w:World}{a:Option Addr}{n cap:Nat}{L:List Value}(h:Row w a n cap L)(o:Obj):Row (w.alloc o) a n cap L:=h.later (ae _ _)
theorem dS (w:World):Row w none 0 0 []:=⟨rfl,Nat.le_refl _,λ_=>⟨rfl,rfl⟩,λ_ h=>(by cases h),λ_ h=>(by cases h)⟩
def aJ (a:Option Addr)(k:Nat):Prop:=∃x,a=some x/\x.block=k
theorem nS (x:Addr)(j:Nat):(x.add j).block=x.block:=by unfold Addr.add;split<;>rfl
theorem Row.but {S:Nat->Prop}{w w':World}{a:Option Addr}{n cap:Nat}{L:List Value}(hb:ah S w w')(h:Row w a n cap L)(hn:∀k,aJ a k->¬S k):Row w' a n cap L :=
 ⟨h.len,h.cap_,h.none_,λx hx j u hu=>ag hb (h.cells x hx j u hu) (by rw [nS];exact hn _ ⟨x,hx,rfl⟩),h.one⟩
theorem Row.plain {w:World}{a:Option Addr}{n cap:Nat}{L:List Value}(h:Row w a n cap L)(hl:0<n):∃b o,a=some ⟨b,o,none⟩/\∀i v,L[i]?=some v->w.cell? ⟨b,o+i,none⟩=some v:=by
 cases a with
 | none=>have:=h.none_ rfl;omega
 | some x =>
  obtain⟨b,o,spot⟩:=x
  have hlen:=h.len
  have h0:=h.cells _ rfl 0 _ (List.getElem?_eq_getElem (by omega))
  have hs:spot=none:=by simpa [Addr.add] using World.cell?_spot h0
  subst hs;refine⟨b,o,rfl,λi v hi=>?_⟩
  have:=h.cells _ rfl i _ hi
  rw [bB] at this;exact this
theorem Row.at {w:World}{b o n cap:Nat}{L:List Value}(hl:L.length=n)(hc:n<=cap)(hs:∀x∈L,x.oneCell'=true)(h:∀i v,L[i]?=some v->w.cell? ⟨b,o+i,none⟩=some v):Row w (some ⟨b,o,none⟩) n cap L:=by
 refine⟨hl,hc,λh=>(by cases h),λx hx j u hu=>?_,hs⟩
 cases hx
 rw [bB];exact h j u hu
theorem Row.sub {w:World}{a:Option Addr}{n cap m c:Nat}{L:List Value}(h:Row w a n cap L)(hm:m<=n)(hc:m<=c)(h0:a=none->c=0):Row w a m c (L.take m) :=
 ⟨by rw [List.length_take,h.len];omega,hc,λe=>⟨by have:=h.none_ e;omega,h0 e⟩,λx hx j u hu=>h.cells x hx j u (by
  rw [List.getElem?_take] at hu;split at hu
  ·exact hu
  ·cases hu),λu hu=>h.one u (List.mem_of_mem_take hu)⟩
structure Own (w:World)(base:Nat)(e:TypeId)(a:Option Addr)(n cap:Nat)(L:List Value):Prop where
 row:w.ownsRow base e 1 (.slice a n cap) n L
 one:∀u∈L,u.oneCell'=true
theorem Own.len {w:World}{base:Nat}{e:TypeId}{a:Option Addr}{n cap:Nat}{L:List Value}(h:Own w base e a n cap L):L.length=n:=by
 have:=h.row.1
 rw [Nat.mul_one] at this;exact this
theorem Own.read {w:World}{base:Nat}{e:TypeId}{a:Option Addr}{n cap:Nat}{L:List Value}(h:Own w base e a n cap L):Row w a n cap L:=by
 refine⟨h.len,?_,?_,?_,h.one⟩
 ·rcases h.row.2 with ⟨h,hn⟩|⟨g,c,cur,hv,_,_,hc,_⟩
  ·omega
  ·simp only [Value.slice.injEq] at hv;omega
 ·intro ha
  rcases h.row.2 with ⟨h,hn⟩|⟨g,c,cur,hv,_,_,hc,_⟩
  ·simp only [Value.slice.injEq] at h;omega
  ·subst ha;simp at hv
 ·intro x hx j u hu
  rcases h.row.2 with ⟨h,hn⟩|⟨g,c,cur,hv,_,_,hc,_⟩
  ·subst hx;simp at h
  ·subst hx
   simp only [Value.slice.injEq,Option.some.injEq] at hv;obtain⟨rfl,_,rfl⟩:=hv
   exact h.row.cells (g:=g) rfl j u hu
theorem pt {S:Nat->Prop}{W w1:World}{base:Nat}{e:TypeId}{size:Nat}{v:Value}{n:Nat}{xs:List Value}(hb:ah S W w1)(h:W.ownsRow base e size v n xs)(hn:∀k,v.ownBlock=some k->¬S k):w1.ownsRow base e size v n xs:=by
 refine⟨h.1,?_⟩
 rcases h.2 with h|⟨g,cap,cur,hv,hg,hh,r⟩
 ·exact .inl h
 ·have hlt:g<W.heap.size:=by
   rcases Nat.lt_or_ge g W.heap.size with h1|h1
   ·exact h1
   ·rw [Array.getElem?_eq_none h1] at hh;cases hh
  exact .inr ⟨g,cap,cur,hv,hg,by rw [hb.block g hlt (hn g (by rw [hv];simp [Value.ownBlock]))];exact hh,r⟩
theorem gr {w:World}{b b':Nat}{e:TypeId}{size:Nat}{v:Value}{n:Nat}{xs:List Value}(h:w.ownsRow b e size v n xs)(hb:b'<=b):w.ownsRow b' e size v n xs:=by
 refine⟨h.1,?_⟩
 rcases h.2 with h|⟨g,cap,cur,hv,hg,r⟩
 ·exact .inl h
 ·exact .inr ⟨g,cap,cur,hv,Nat.le_trans hb hg,r⟩
theorem bu {w:World}{base:Nat}{e:TypeId}{size:Nat}{v:Value}{n:Nat}{xs:List Value}(h:w.ownsRow base e size v n xs):∀k,v.ownBlock=some k->base<=k/\k<w.heap.size:=by
 intro k hk;rcases h.2 with ⟨rfl,_⟩|⟨g,cap,cur,rfl,hg,hh,_⟩
 ·cases hk
 ·simp [Value.ownBlock] at hk
  subst hk;exact⟨hg,(Array.getElem?_eq_some_iff.1 hh).1⟩
theorem aJ.of {a:Option Addr}{n cap k:Nat}:(Value.slice a n cap).ownBlock=some k↔aJ a k:=by
 cases a with
 | none=>simp [Value.ownBlock,aJ]
 | some x=>simp [Value.ownBlock,aJ]
theorem Own.but {S:Nat->Prop}{W w1:World}{base:Nat}{e:TypeId}{a:Option Addr}{n cap:Nat}{L:List Value}(hb:ah S W w1)(h:Own W base e a n cap L)(hn:∀k,aJ a k->¬S k):Own w1 base e a n cap L :=
 ⟨pt hb h.row (λk hk=>hn k (aJ.of.1 hk)),h.one⟩
theorem Own.later {W w1:World}{base:Nat}{e:TypeId}{a:Option Addr}{n cap:Nat}{L:List Value}(hb:Below W.heap.size W w1)(h:Own W base e a n cap L):Own w1 base e a n cap L :=
 h.but (S:=λ_=>False) (ah.of hb) (λ_ _ h=>h)
theorem Own.alloc {w:World}{base:Nat}{e:TypeId}{a:Option Addr}{n cap:Nat}{L:List Value}(h:Own w base e a n cap L)(o:Obj):Own (w.alloc o) base e a n cap L:=h.later (ae _ _)
theorem Own.mono {w:World}{base b:Nat}{e:TypeId}{a:Option Addr}{n cap:Nat}{L:List Value}(h:Own w base e a n cap L)(hb:b<=base):Own w b e a n cap L:=⟨gr h.row hb,h.one⟩
theorem Own.nil (w:World)(base:Nat)(e:TypeId):Own w base e .none 0 0 []:=⟨⟨rfl,.inl ⟨rfl,rfl⟩⟩,λ_ h=>(by cases h)⟩
theorem Own.bT {w:World}{base:Nat}{e:TypeId}{a:Option Addr}{n cap:Nat}{L:List Value}(h:Own w base e a n cap L):∀k,aJ a k->base<=k:=λk hk=>(bu h.row k (aJ.of.2 hk)).1
theorem Own.lt {w:World}{base:Nat}{e:TypeId}{a:Option Addr}{n cap:Nat}{L:List Value}(h:Own w base e a n cap L):∀k,aJ a k->k<w.heap.size:=λk hk=>(bu h.row k (aJ.of.2 hk)).2
theorem Own.rI {w:World}{base:Nat}{e:TypeId}{a:Option Addr}{n cap:Nat}{L:List Value}(h:Own w base e a n cap L){x:Addr}(hx:a=some x){j:Nat}{u:Value}(hu:L[j]?=some u):∃g,x=⟨g,0,none⟩/\az w ⟨g,j,none⟩ u:=by
 rcases h.row.2 with ⟨h1,hn⟩|⟨g,c,cur,hv,_,hh,hc,_⟩
 ·subst hx;simp at h1
 ·subst hx
  simp only [Value.slice.injEq,Option.some.injEq] at hv;obtain⟨rfl,_,rfl⟩:=hv
  refine⟨g,rfl,?_,by simp [World.frozen?,hh]⟩
  have:=h.read.cells _ rfl j u hu
  rwa [aQ] at this
structure Gr (a a':Option Addr)(w w':World):Prop where
 but:ah (aJ a) w w'
 on:∀k,aJ a' k->aJ a k\/w.heap.size<=k
theorem Gr.refl (a:Option Addr)(w:World):Gr a a w w:=⟨ah.refl _ _,λ_ h=>.inl h⟩
theorem Gr.trans {a a' a'':Option Addr}{w w' w'':World}(h:Gr a a' w w')(k:Gr a' a'' w' w''):Gr a a'' w w'' :=
 ⟨h.but.comp k.but h.on,λi hi=>by
  rcases k.on i hi with h1|h1
  ·exact h.on i h1
  ·exact .inr (Nat.le_trans h.but.size h1)⟩
theorem Gr.pre {a a':Option Addr}{w W w':World}(h:Below w.heap.size w W)(k:Gr a a' W w'):Gr a a' w w' :=
 ⟨(ah.of h).trans k.but,λi hi=>by
  rcases k.on i hi with h1|h1
  ·exact .inl h1
  ·exact .inr (Nat.le_trans h.size h1)⟩
theorem Gr.below {w w':World}{base:Nat}{e:TypeId}{a a':Option Addr}{n cap:Nat}{L:List Value}(h:Own w base e a n cap L)(g:Gr a a' w w')(hb:base<=w.heap.size):Below base w w' :=
 ⟨g.but.os,g.but.tape,g.but.output,g.but.size,λk hk=>g.but.block k (by omega) (λhs=>by have:=h.bT k hs;omega)⟩
theorem mC (t e:TypeId)(z:Value)(aB:Nat)(ht:Tryz.prog.underlying t=some (.slice e))(hinf:(Tryz.prog.info? e).map (λi=>(i.zero,i.size,i.bytes))=some (some z,1,aB))(hzs:z.cells.size=1)
  {w:World} {base:Nat} {a:Option Addr} {n cap:Nat} {L:List Value} {b:Option Addr} {m c:Nat} {M:List Value} (h:Own w base e a n cap L) (k:Row w b m c M) (hb:base<=w.heap.size) (hr:(n+m)*aB<=140737488355328) (hr2:n+m<=140737488355328) :
  ∃a' cap' w',(Builtin.append_ #[t,t] t #[.slice a n cap,.slice b m c]).run Tryz.prog w=.ok (.slice a' (n+m) cap') w'/\Own w' base e a' (n+m) cap' (L++M)/\Gr a a' w w':=by
 obtain⟨i,hi,hz0,hz1,hz2⟩:=info_parts hinf
 have hsm:∀x∈L++M,x.oneCell'=true:=λx hx=>by
  rcases List.mem_append.1 hx with h1|h1
  ·exact h.one x h1
  ·exact k.one x h1
 cases b with
 | none =>
  obtain⟨rfl,rfl⟩:=k.none_ rfl
  have hM:M=[]:=List.eq_nil_of_length_eq_zero k.len
  subst hM;have hr:=run_append_owned_none (P:=Tryz.prog) (w:=w) base t t e i 1 ht hi _ n _ h.row
  exact⟨a,cap,w,hr,⟨by simpa using h.row,hsm⟩,Gr.refl _ _⟩
 | some x =>
  obtain⟨v',w',hr,h2,h3,_,h5⟩:=run_append_own_at (P:=Tryz.prog) w base t t e i _ 1 aB ht hi hz0 hz1 hz2 hzs (by decide) _ n _ h.row x m c M (by rw [k.len,Nat.mul_one]) (k.cells x rfl) k.one (by unfold maxLen;omega) hr hb
  obtain⟨a',cap',rfl⟩:∃a' cap',v'=.slice a' (n+m) cap':=by
   rcases h2.2 with ⟨h,h'⟩|⟨g',cap',_,h,_⟩
   ·exact⟨.none,0,by rw [h,h']⟩
   ·exact⟨_,cap',h⟩
  refine⟨a',cap',w',hr,⟨h2,hsm⟩,⟨h3.os,h3.tape,h3.output,h3.size,λj hj hn=>h3.block j hj (λe=>hn (aJ.of.1 e.symm))⟩,λj hj=>?_⟩
  rcases h5 with h5|h5
  ·rw [aJ.of.2 hj] at h5
   exact .inl (aJ.of.1 h5.symm)
  ·rw [aJ.of.2 hj] at h5
   right
   simp at h5
   omega
theorem kz (t e:TypeId)(z:Value)(aB:Nat)(ht:Tryz.prog.underlying t=some (.slice e))(hinf:(Tryz.prog.info? e).map (λi=>(i.zero,i.size,i.bytes))=some (some z,1,aB))(hzs:z.cells.size=1)
  {w:World} {p:Addr} {n:Nat} {L:List Value} {x:Addr} {m c:Nat} {M:List Value} (h:Row w (some p) n n L) (k:Row w (some x) m c M) (hm:0<m) (hr:(n+m)*aB<=140737488355328) (hr2:n+m<=140737488355328) :
  ∃g' cap' w',(Builtin.append_ #[t,t] t #[.slice (some p) n n,.slice (some x) m c]).run Tryz.prog w=.ok (.slice (some ⟨g',0,none⟩) (n+m) cap') w'/\Own w' w.heap.size e (some ⟨g',0,none⟩) (n+m) cap' (L++M)/\Below w.heap.size w w':=by
 obtain⟨i,hi,hz0,hz1,hz2⟩:=info_parts hinf
 have hl:=h.len
 have hlm:=k.len
 have hrun:=run_append_grow (P:=Tryz.prog) w t t e i z ht hi hz0 p n n L (by rw [hz1,Nat.mul_one];exact hl) (h.cells p rfl) x m c M (by rw [hz1,Nat.mul_one];exact hlm) (k.cells x rfl) (by omega) (by omega) (growslice_fits (by omega) (by rw [hz2];omega))
 refine⟨_,_,_,hrun,⟨⟨by simp [hl,hlm],.inr ⟨w.heap.size,_,_,rfl,Nat.le_refl _,heap_alloc_new w.drew _,grownCap_ge _ _ _ _,grownCap_le_maxLen _ _ _ _ (by unfold maxLen;omega),?_,?_⟩⟩,λu hu=>?_⟩,((Below.refl _ _).drew).alloc (by simp) _⟩
 ·have:=grownCap_ge w (n+m) n e
  simp only [Array.size_append,List.size_toArray,size_zeroCells,hzs,hl,hlm];omega
 ·rw [Nat.mul_one,Array.toList_append,Array.toList_append]
  exact List.take_left' (by simp [hl,hlm])
 ·rcases List.mem_append.1 hu with h1|h1
  ·exact h.one u h1
  ·exact k.one u h1
theorem al {P:Program}{w:World}{ops:Array Oper}{rest:List Oper}{o:Oper}{a:Act}{Q:Exit->Act->World->Prop}(hgd:o.guard=none)(s x:Operand)(t:TypeId)
  (ho:o.op=.call { callee:=.builtin .append,args:=#[s,x],argTypes:=#[t,t] }) (vs vx:Value) (hs:a.eval s=vs) (hx:a.eval x=vx) (v':Value) (w':World)
  (hr:(Builtin.append_ #[t,t] o.type #[vs,vx]).run P w=.ok v' w') (h:wpList P ops Q rest (a.put o.dst v') w'):wpList P ops Q (o::rest) a w:=by
 refine wpList_plain hgd λK hK=>?_
 unfold Oper.wp execOp;simp only [ho,resolve,invoke,builtin,Sem.run_bind,Sem.run_pure,Result.andThen_ok,List.map_toArray,List.map_cons,List.map_nil,hs,hx,hr];exact hK _ _ h
theorem Row.single (w:World)(e:TypeId)(v:Value)(hv:v.oneCell'=true):Row (w.alloc (Obj.cells #[v] e)) (some ⟨w.heap.size,0,.none⟩) 1 1 [v] :=
 Row.at (L:=[v]) rfl (Nat.le_refl _) (λx hx=>by simp at hx;subst hx;exact hv) (λi u hu=>by
  cases i with
  | zero=>simp at hu;subst hu;simp [go_sem]
  | succ i=>simp at hu)
end Go.Proofs.YtffmodpgddecnaaGreatDoor
namespace Go.Proofs.YtffmodpgddecnaaGreatDoor
theorem eQ {a b:List Int}{i:Nat}(h:i<a.length):nx (a++b) i=nx a i:=by unfold nx;rw [List.getElem?_append_left h]
theorem dU {a b:List Int}{i:Nat}(h:a.length<=i):nx (a++b) i=nx b (i - a.length):=by
 unfold nx;rw [List.getElem?_append_right h]
theorem vk (a:Int)(b:List Int)(i:Nat):nx (a::b) (i+1)=nx b i:=by simp [nx]
theorem IC {m:Nat}{l:Fo}{N:List Nd}(h:dk m l N){p:Nat}{i:Nat}(hi:0<i)(hil:i<=(ch l p).length):(ch l p)[i - 1]?=some ((j_ p (ch l p) i:Nat):Int):=by
 cases i with
 | zero=>omega
 | succ j =>
  have hr:=h.ok.range _ (cG (List.getElem_mem (l:=ch l p) (n:=j) (by omega)))
  rw [show j+1 - 1=j by omega,List.getElem?_eq_getElem (by omega)];show _=some (((nx (ch l p) j).toNat:Nat):Int)
  rw [eO (by omega)];congr 1
  omega
theorem dk.CN {m:Nat}{l:Fo}{N:List Nd}(h:dk m l N){n:Nat}(hn:((n:Int),-1)∈l)(hc:ch l n=[]):dk m (cut l n) (N.set n xO):=by
 have hch:∀q:Int,0<=q->ch (cut l n) q=ch l q:=λq hq=>by
  rw [tG];apply fz
  intro hk;have:=h.ok.uniq (bJ.1 hk) hn
  omega
 refine⟨by rw [List.length_set];exact h.len,h.ok.cut n hc,λk x hx hk=>?_,λk x p hx hp=>?_,λk x hx hk=>?_,λp hp i k x hi hx=>?_⟩
 ·rcases aD hx with ⟨_,rfl⟩|⟨hne,hx⟩
  ·rfl
  ·exact h.out k x hx (λhk2=>hk (dB.2 ⟨hk2,by omega⟩))
 ·obtain⟨hp1,hp2⟩:=kF.1 hp
  simp only at hp2;rcases aD hx with ⟨rfl,rfl⟩|⟨hne,hx⟩
  ·exact absurd rfl hp2
  ·exact h.vT k x p hx hp1
 ·obtain⟨hk1,hk2⟩:=dB.1 hk
  rcases aD hx with ⟨rfl,rfl⟩|⟨hne,hx⟩
  ·exact absurd rfl hk2
  ·rw [hch _ (by omega)]
   exact h.fi k x hx hk1
 ·have hk:=(dB.1 (cG (List.mem_of_getElem? hi))).2
  rw [hch _ hp] at hi ⊢
  rcases aD hx with ⟨rfl,rfl⟩|⟨hne,hx⟩
  ·exact absurd rfl hk
  ·exact h.be p hp i k x hi hx
theorem dk.cut {m:Nat}{l:Fo}{N:List Nd}(h:dk m l N){n p i:Nat}(hi:(ch l p)[i]?=some (n:Int))(hp0:(p:Int)∈aj l)(hc:ch l n=[]) :
  dk m (cut l n) ((gJ N p (ch l p) i (nx (ch l p) (i+1))).set n xO):=by
 have hn:=bJ.1 (List.mem_of_getElem? hi)
 have hcn:=h.ok.kD (p:Int)
 have hlk:=@IC _ _ _ h p i
 obtain⟨c,hcc⟩:∃c,c=ch l p:=⟨_,rfl⟩
 rw [<-hcc] at hi hcn hlk ⊢
 have hil:=(List.getElem?_eq_some_iff.1 hi).1
 obtain⟨c1,c2,hsp,hl1⟩:∃c1 c2,c=c1++(n:Int)::c2/\c1.length=i:=by
  refine⟨c.take i,c.drop (i+1),?_,by rw [List.length_take];omega⟩
  have h1:=List.getElem?_eq_some_iff.1 hi
  obtain⟨h2,h3⟩:=h1
  rw [<-h3,List.getElem_cons_drop,List.take_append_drop]
 have hpn:p≠n:=by
  intro e;subst e;rw [<-hcc] at hc;rw [hc] at hil;exact absurd hil (Nat.not_lt_zero _)
 have hch:∀q:Int,q≠p->ch (Go.Proofs.YtffmodpgddecnaaGreatDoor.cut l n) q=ch l q:=λq hq=>by
  rw [tG];apply fz
  intro hk;exact hq (h.ok.uniq (bJ.1 hk) hn)
 have hchp:ch (Go.Proofs.YtffmodpgddecnaaGreatDoor.cut l n) p=c1++c2:=by
  rw [tG,<-hcc,hsp];rw [hsp] at hcn;exact wE hcn
 refine⟨by rw [List.length_set,rM];exact h.len,h.ok.cut n hc,λk x hx hk=>?_,λk x q hx hq=>?_,λk x hx hk=>?_,λq hq j k x hj hx=>?_⟩
 ·rcases aD hx with ⟨_,rfl⟩|⟨hne,hx⟩
  ·rfl
  ·have hkl:(k:Int)∉aj l:=λhk2=>hk (dB.2 ⟨hk2,by omega⟩)
   obtain⟨y,hy,h1,h2,h3,h4⟩:=eP hx
   rw [if_neg (λe=>hkl (by rw [e.2];exact hp0))] at h3
   rw [if_neg (λe=>hkl (by rw [e.2];have:=List.mem_of_getElem? (hlk e.1 (by omega));rw [hcc] at this;rw [hcc];exact cG this))] at h4
   have:=h.out k y hy hkl
   subst this;obtain⟨a,b,c,d⟩:=x
   simp only at h1 h2 h3 h4;subst h1 h2 h3 h4
   rfl
 ·obtain⟨hp1,hp2⟩:=kF.1 hq
  simp only at hp2;rcases aD hx with ⟨rfl,rfl⟩|⟨hne,hx⟩
  ·exact absurd rfl hp2
  ·obtain⟨y,hy,h1,h2,_,_⟩:=eP hx
   rw [h1,h2];exact h.vT k y q hy hp1
 ·obtain⟨hk1,hk2⟩:=dB.1 hk
  rcases aD hx with ⟨rfl,rfl⟩|⟨hne,hx⟩
  ·exact absurd rfl hk2
  ·obtain⟨y,hy,_,_,h3,_⟩:=eP hx
   rw [h3];by_cases hkp:k=p
   ·subst hkp
    rw [hchp];by_cases hi0:i=0
    ·have hc1:c1=[]:=List.eq_nil_of_length_eq_zero (by omega)
     rw [if_pos ⟨hi0,rfl⟩,hi0,hsp,hc1];rfl
    ·rw [if_neg (λe=>hi0 e.1),h.fi k y hy hp0,<-hcc,hsp,eQ (by omega),eQ (by omega)]
   ·rw [if_neg (λe=>hkp e.2),hch _ (by omega)]
    exact h.fi k y hy hk1
 ·have hkn:=(dB.1 (cG (List.mem_of_getElem? hj))).2
  rcases aD hx with ⟨rfl,rfl⟩|⟨hne,hx⟩
  ·exact absurd rfl hkn
  ·obtain⟨y,hy,_,_,_,h4⟩:=eP hx
   rw [h4];by_cases hqp:q=p
   ·subst hqp
    rw [hchp] at hj ⊢
    by_cases hj1:j<c1.length
    ·rw [List.getElem?_append_left hj1] at hj
     have hjc:c[j]?=some (k:Int):=by rw [hsp,List.getElem?_append_left hj1];exact hj
     by_cases hj2:j+1=i
     ·have hk3:=hlk (by omega) (by omega)
      rw [<-hj2] at hk3;rw [show j+1 - 1=j by omega,hjc] at hk3;have hk4:=Option.some.inj hk3
      rw [if_pos ⟨by omega,by rw [<-hj2];omega⟩,dU (by omega),hsp,dU (by omega),show i+1 - c1.length=0+1 by omega,vk,show j+1 - c1.length=0 by omega]
     ·rw [if_neg,h.be p (by omega) j k y (hcc ▸ hjc) hy,<-hcc,hsp,eQ (by omega),eQ (by omega)]
      rintro ⟨h5,h6⟩
      have:=hlk h5 (by omega)
      rw [<-h6] at this;have:=gi hcn hjc this
      omega
    ·rw [List.getElem?_append_right (by omega)] at hj
     have hjc:c[j+1]?=some (k:Int):=by
      rw [hsp,List.getElem?_append_right (by omega),show j+1 - c1.length=(j - c1.length)+1 by omega];exact hj
     rw [if_neg,h.be p (by omega) (j+1) k y (hcc ▸ hjc) hy,<-hcc,hsp,dU (by omega),dU (by omega),show j+1+1 - c1.length=(j+1 - c1.length)+1 by omega,vk];rintro ⟨h5,h6⟩
     have:=hlk h5 (by omega)
     rw [<-h6] at this;have:=gi hcn hjc this
     omega
   ·rw [hch q hqp] at hj ⊢
    rw [if_neg]
    ·exact h.be q hq j k y hj hy
    ·rintro ⟨h5,h6⟩
     have:=List.mem_of_getElem? (hlk h5 (by omega))
     rw [<-h6,hcc] at this;exact hqp (h.ok.uniq (bJ.1 (List.mem_of_getElem? hj)) (bJ.1 this))
end Go.Proofs.YtffmodpgddecnaaGreatDoor
namespace Go.Proofs.YtffmodpgddecnaaGreatDoor
open Go.RowKit
structure Pn (w:World)(b o:Nat)(x:Nd):Prop where
 c0:w.cell? ⟨b,o,none⟩=some (.bool x.th)
 c1:w.cell? ⟨b,o+1,none⟩=some (.int .i64 x.pa)
 c2:w.cell? ⟨b,o+2,none⟩=some (.int .i64 x.fi)
 c3:w.cell? ⟨b,o+3,none⟩=some (.int .i64 x.be)
theorem Pn.but {S:Nat->Prop}{w w':World}{b o:Nat}{x:Nd}(hb:ah S w w')(h:Pn w b o x)(hn:¬S b):Pn w' b o x :=
 ⟨ag hb h.c0 hn,ag hb h.c1 hn,ag hb h.c2 hn,ag hb h.c3 hn⟩
structure Tm (w:World)(g gb m:Nat)(N:List Nd):Prop where
 a0:w.cell? ⟨g,0,none⟩=some (.slice (some ⟨gb,0,none⟩) m m)
 fr:∀j,w.frozen? ⟨gb,j,none⟩=false
 at_:∀(i:Nat) (x:Nd),N[i]?=some x->Pn w gb (i*4) x
 ne:g≠gb
 po:gb<w.heap.size
 len:N.length=m
 eI:m<=1024
theorem Tm.lt {w:World}{g gb m:Nat}{N:List Nd}(h:Tm w g gb m N):g<w.heap.size:=World.block_lt_of_cell? _ _ h.a0
theorem Tm.but {S:Nat->Prop}{w w':World}{g gb m:Nat}{N:List Nd}(hb:ah S w w')(h:Tm w g gb m N)(h1:¬S g)(h2:¬S gb):Tm w' g gb m N :=
 ⟨ag hb h.a0 h1,λj=>by rw [World.frozen?_of_block (w:=w) (hb.block gb h.po h2)];exact h.fr j,λi p hp=>(h.at_ i p hp).but hb h2,h.ne,Nat.lt_of_lt_of_le h.po hb.size,h.len,h.eI⟩
theorem Tm.later {w w':World}{g gb m:Nat}{N:List Nd}(hb:Below w.heap.size w w')(h:Tm w g gb m N):Tm w' g gb m N:=h.but (S:=λ_=>False) (ah.of hb) (λh=>h) (λh=>h)
theorem ak {w:World}{b o o':Nat}{u v:Value}(h:w.cell? ⟨b,o,none⟩=some v)(hne:o≠o'):(w.setCell ⟨b,o',none⟩ u).cell? ⟨b,o,none⟩=some v:=by
 rw [World.cell?_setCell_other _ _ _ _ (λe=>hne (by cases e;rfl))];exact h
theorem bO {w:World}{b b' o o':Nat}{u v:Value}(h:w.cell? ⟨b,o,none⟩=some v)(hne:b≠b'):(w.setCell ⟨b',o',none⟩ u).cell? ⟨b,o,none⟩=some v:=by
 rw [World.cell?_setCell_other _ _ _ _ (λe=>hne (by cases e;rfl))];exact h
theorem eJ {w:World}{g gb m:Nat}{N:List Nd}(h:Tm w g gb m N)(n:Nat)(hn:n<m) :
  Calls Tryz.prog 373 #[.pointer (some ⟨g,0,none⟩),.int .i64 (n:Int)] w λe w'=>e=.returned (.pointer (some ⟨gb,n*4,none⟩))/\w'=w:=by
 have x:=h.a0
 have hb:=h.eI
 clear h;have h1:¬(n:Int)<0:=by omega
 have h2:¬(m:Int)<=(n:Int):=by omega
 go_enter Tryz.func373,Tryz.ntmps373
 go_wp2;go_ret;exact⟨by simp,rfl⟩
theorem oV {w:World}{g gb m:Nat}{N:List Nd}(h:Tm w g gb m N)(n:Int)(hn:n<0\/(m:Int)<=n) :
  Calls Tryz.prog 373 #[.pointer (some ⟨g,0,none⟩),.int .i64 n] w λe w'=>e=.returned (.pointer none)/\w'=w:=by
 have x:=h.a0
 have hb:=h.eI
 clear h;by_cases h1:n<0
 ·clear hn
  go_enter Tryz.func373,Tryz.ntmps373
  go_wp2;go_ret;exact⟨rfl,rfl⟩
 ·have h2:(m:Int)<=n:=by omega
  clear hn;go_enter Tryz.func373,Tryz.ntmps373
  go_wp2;go_ret;exact⟨rfl,rfl⟩
def Ki (w:World)(g gb m:Nat)(l:Fo):Prop:=∃N,Tm w g gb m N/\dk m l N
theorem Ki.later {w w':World}{g gb m:Nat}{l:Fo}(hb:Below w.heap.size w w')(h:Ki w g gb m l):Ki w' g gb m l:=by
 obtain⟨N,h1,h2⟩:=h
 exact⟨N,h1.later hb,h2⟩
theorem Ki.but {S:Nat->Prop}{w w':World}{g gb m:Nat}{l:Fo}(hb:ah S w w')(h:Ki w g gb m l)(hg:¬S g)(hgb:¬S gb):Ki w' g gb m l:=by
 obtain⟨N,h1,h2⟩:=h
 exact⟨N,h1.but hb hg hgb,h2⟩
theorem Ki.ok {w:World}{g gb m:Nat}{l:Fo}(h:Ki w g gb m l):Ok m l:=by
 obtain⟨N,h1,h2⟩:=h
 exact h2.ok
theorem aX {w:World}{g gb m:Nat}{l:Fo}(h:Ki w g gb m l)(n:Int) :
  Calls Tryz.prog 331 #[.pointer (some ⟨g,0,none⟩),.int .i64 n] w λe w'=>e=.returned (.bool (decide (n∈aj l)))/\w'=w:=by
 obtain⟨N,hT,hR⟩:=h
 by_cases hn:n<0\/(m:Int)<=n
 ·have hf:decide (n∈aj l)=false:=decide_eq_false (λhk=>by have:=hR.ok.range n hk;omega)
  rw [hf];have hc:=oV hT n hn
  clear hT hR hn;go_enter Tryz.func331,Tryz.ntmps331
  go_wp2_with (go_at_call 373;refine hc.mono ?_;rintro e w1 ⟨rfl,rfl⟩)
  go_ret;exact⟨rfl,rfl⟩
 ·obtain⟨k,rfl⟩:∃k:Nat,n=(k:Int):=⟨n.toNat,by omega⟩
  obtain⟨x,hx⟩:=get_some (L:=N) (i:=k) (by rw [hT.len];omega)
  rw [<-hR.there hx];have hc:=eJ hT k (by omega)
  have c0:=(hT.at_ k x hx).c0
  clear hT hR hn;go_enter Tryz.func331,Tryz.ntmps331
  go_wp2_with (go_at_call 373;refine hc.mono ?_;rintro e w1 ⟨rfl,rfl⟩)
  go_ret;exact⟨rfl,rfl⟩
abbrev xS (g:Nat):Value:=.func (.func 373) #[.pointer (some ⟨g,0,none⟩)] #[]
theorem wh {w:World}{g gb m:Nat}{l:Fo}(h:Ki w g gb m l)(n p:Int)(hn:(n,p)∈l) :
  Calls Tryz.prog 332 #[.pointer (some ⟨g,0,none⟩),.int .i64 n] w λe w'=>e=.returned (.tuple #[.int .i64 p,.bool true])/\w'=w:=by
 have hm:=av.2 ⟨p,hn⟩
 have hh:=aX h n
 rw [decide_eq_true hm] at hh;obtain⟨N,hT,hR⟩:=h
 obtain⟨k,x,rfl,hk,hx⟩:=hR.get hm
 have hc:=eJ hT k hk
 have c1:=(hT.at_ k x hx).c1
 rw [(hR.vT k x p hx hn).2] at c1;clear hT hR hn hm;go_enter Tryz.func332,Tryz.ntmps332
 go_wp2_with (first|(go_at_call 331;refine hh.mono ?_;rintro e w1 ⟨rfl,rfl⟩)|(go_at_call 373;refine hc.mono ?_;rintro e w1 ⟨rfl,rfl⟩))
 exact bodyPost_ret (v:=.tuple #[.int .i64 p,.bool true]) (by simp [results,Tryz.results332,go_sem]) rfl ⟨rfl,rfl⟩
def Eu (gb p:Nat)(c:List Int)(i:Nat):Value:=.pointer (some ⟨gb,j_ p c i*4+mN i,none⟩)
def Co (gb p:Nat)(c:List Int)(s:Nat)(w:World)(k:Nat)(t:Value)(w':World):Prop:=∃i,i+k=s/\t=Eu gb p c i/\w'=w
theorem dy.cell {w:World}{g gb m:Nat}{N:List Nd}(h:Tm w g gb m N){p:Nat}{c:List Int}(hc:dy N p c){i:Nat}(hi:i<=c.length) :
  j_ p c i<m/\w.cell? ⟨gb,j_ p c i*4+mN i,none⟩=some (.int .i64 (nx c i)):=by
 cases i with
 | zero =>
  obtain⟨x,hx,hx2⟩:=hc.top
  have:=(List.getElem?_eq_some_iff.1 hx).1
  rw [<-hx2];exact⟨by rw [<-h.len];exact this,(h.at_ p x hx).c2⟩
 | succ j =>
  obtain⟨k,x,hk,hx,hx2⟩:=hc.Ky j _ (List.getElem?_eq_getElem (by omega))
  have:=(List.getElem?_eq_some_iff.1 hx).1
  have e:j_ p c (j+1)=k:=by
   show (nx c j).toNat=k
   rw [eO (by omega)];omega
  rw [e,<-hx2];exact⟨by rw [<-h.len];exact this,(h.at_ k x hx).c3⟩
theorem dy.num {N:List Nd}{p:Nat}{c:List Int}(hc:dy N p c){m:Nat}(hm:N.length=m){i:Nat}(hi:i<c.length):∃k:Nat,nx c i=(k:Int)/\k<m/\j_ p c (i+1)=k:=by
 obtain⟨k,x,hk,hx,hx2⟩:=hc.Ky i _ (List.getElem?_eq_getElem hi)
 have:=(List.getElem?_eq_some_iff.1 hx).1
 refine⟨k,by rw [eO hi];exact hk,by omega,?_⟩
 show (nx c i).toNat=k
 rw [eO hi];omega
theorem lD {w:World}{g gb m:Nat}{N:List Nd}(h:Tm w g gb m N){p:Nat}{c:List Int}(hc:dy N p c)(v:Int)(s:Nat)(hs:s<=c.length)(hv:nx c s=v)(hn:∀i,i<s->nx c i≠v) :
  Calls Tryz.prog 399 #[xS g,.int .i64 (p:Int),.int .i64 v] w λe w'=>e=.returned (Eu gb p c s)/\w'=w:=by
 have HT:=ab h
 have HC:=ab hc
 have HN:=ab hn
 have HV:=ab hv
 have hp:=(dy.cell h hc (Nat.zero_le _)).1
 have HM:=ab h.len
 clear h hc hn hv;go_enter Tryz.func399,Tryz.ntmps399
 go_upto_region 2 with (first|(go_at_call 373;refine (eJ HT.out p hp).mono ?_;rintro e w1 ⟨rfl,rfl⟩))
 go_loopg [7] s (Co gb p c s w1)
 case atStart=>exact⟨0,by omega,by simp [Eu,j_,mN],rfl⟩
 case round =>
  obtain⟨i,hi,rfl,rfl⟩:=hrel
  obtain⟨h1,h2⟩:=dy.cell HT.out HC.out (i:=i) (by omega)
  by_cases hlt:i<s
  ·have hne:=HN.out i hlt
   obtain⟨k,hk,hk2,hk3⟩:=HC.out.num HM.out (i:=i) (by omega)
   have hK3:=ab hk3
   rw [hk] at h2 hne;clear h1 hk hk3;unfold Eu;have hne2:((k:Int)==v)=false:=by simpa using hne
   go_wp2_with (first|(go_at_call 373;refine (eJ HT.out k hk2).mono ?_;rintro e w1 ⟨rfl,rfl⟩))
   go_roundg (gk - 1)
   case measure=>omega
   case rel=>exact⟨i+1,by omega,by simp [Eu,mN,hK3.out],rfl⟩
  ·obtain rfl:i=s:=by omega
   rw [HV.out] at h2;unfold Eu;go_wp2;go_ret;exact⟨rfl,rfl⟩
theorem dA {w:World}{base:Nat}{a:Option Addr}{n cap:Nat}{L:List Value}{b:Option Addr}{m c:Nat}{M:List Value}(h:Own w base 3 a n cap L)(k:Row w b m c M)(hb:base<=w.heap.size)(hr:(n+m)*8<=140737488355328) :
  ∃a' cap' w',(Builtin.append_ #[42,42] 42 #[.slice a n cap,.slice b m c]).run Tryz.prog w=.ok (.slice a' (n+m) cap') w'/\Own w' base 3 a' (n+m) cap' (L++M)/\Gr a a' w w' :=
 mC 42 3 _ 8 Tryz.underlying42 qR rfl h k hb hr (by omega)
theorem dq (A:List Int)(i:Nat)(h:i<A.length):A.take (i+1)=A.take i++[A[i]]:=by
 rw [List.take_succ_eq_append_getElem h]
def GP (w:World)(c:List Int)(k:Nat)(v t:Value)(w':World):Prop :=
 ∃(i:Nat) (a:Option Addr) (cap:Nat),i+k=c.length/\v=.slice a i cap/\t=.int .i64 (nx c i)/\Own w' w.heap.size 3 a i cap (ints (c.take i))/\Below w.heap.size w w'
theorem kG {w:World}{g gb m:Nat}{N:List Nd}(h:Tm w g gb m N){p:Nat}{c:List Int}(hc:dy N p c)(hl:c.length<=1024)(hpos:∀x∈c,0<=x) :
  Calls Tryz.prog 394 #[xS g,.int .i64 (p:Int)] w λe w'=>∃a n cap,e=.returned (.slice a n cap)/\Own w' w.heap.size 3 a n cap (ints c)/\Below w.heap.size w w':=by
 have HT:=ab h
 have HC:=ab hc
 obtain⟨hp,hp0⟩:=dy.cell h hc (Nat.zero_le _)
 have hp1:w.cell? ⟨gb,p*4+2,none⟩=some (.int .i64 (nx c 0)):=hp0
 have HM:=ab h.len
 have HP:=ab hpos
 clear h hc hp0 hpos;go_enter Tryz.func394,Tryz.ntmps394
 go_upto_region 3 with (first|(go_at_call 373;refine (eJ HT.out p hp).mono ?_;rintro e w1 ⟨rfl,rfl⟩))
 go_loopg [5,6] c.length (GP w1 c)
 case atStart=>exact⟨0,none,0,by omega,rfl,rfl,Own.nil _ _ _,Below.refl _ _⟩
 case round =>
  obtain⟨i,a,cap,hi,rfl,rfl,hO,hB⟩:=hrel
  have HO:=ab hO
  have HB:=ab hB
  clear hO hB;by_cases hlt:i<c.length
  ·obtain⟨k,hk,hk2,hk3⟩:=HC.out.num HM.out hlt
   have hne2:((k:Int)==-1)=false:=by simp
   obtain⟨a',cap',w2,hrun,hO2,hG⟩:=dA (HO.out.alloc (Obj.cells #[Value.int .i64 (k:Int)] 3)) (Row.single wr 3 (.int .i64 (k:Int)) rfl) (by have:=HB.out.size;simp;omega) (by omega)
   have hB2:Below w1.heap.size w1 w2:=(HB.out.alloc HB.out.size _).trans (Gr.below (HO.out.alloc _) hG (by have:=HB.out.size;simp;omega))
   have hT2:=HT.out.later hB2
   obtain⟨_,h2⟩:=dy.cell hT2 HC.out (i:=i+1) (by omega)
   have h3:w2.cell? ⟨gb,k*4+3,none⟩=some (.int .i64 (nx c (i+1))):=by rw [<-hk3];exact h2
   have PD:=ab hrun
   have PS:Hid (Own w2 w1.heap.size 3 a' (i+1) cap' (ints (c.take (i+1)))):=by
    rw [dq c i hlt,bA,<-eO hlt,hk];exact hO2
   have PB:=ab hB2
   have PQ:=ab hT2
   rw [hk];clear hrun hO2 hG hB2 hT2 h2 hk hk3 hp1;go_wp2_with (first|(at_builtin;refine al rfl _ _ 42 rfl _ _ rfl rfl _ w2 PD.out ?_)|(go_at_call 373;refine (eJ PQ.out k hk2).mono ?_;rintro e w1 ⟨rfl,rfl⟩))
   go_roundg (gk - 1)
   case measure=>omega
   case rel=>exact⟨i+1,a',cap',by omega,rfl,rfl,PS.out,PB.out⟩
  ·obtain rfl:i=c.length:=by omega
   have hk:nx c c.length=-1:=AQ (Nat.le_refl _)
   rw [hk];clear hk hp1;go_wp2;go_ret;exact⟨a,_,cap,rfl,by have:=HO.out;rwa [List.take_length] at this,HB.out⟩
theorem zS (l:Fo)(p:Int):(ch l p).length<=l.length:=by
 have:=(sH l p).length_le
 simpa [aj] using this
theorem Bj {m:Nat}{l:Fo}(h:Ok m l){n:Int}(hn:n∉aj l):kids l n=[]:=by
 unfold kids;split
 ·next h0=>exact h.none h0 hn
 ·rfl
theorem vt {m:Nat}{l:Fo}(h:Ok m l){n:Int}(hn:n∈aj l):kids l n=ch l n:=by
 unfold kids;rw [if_pos (h.range n hn).1]
theorem zJ {m:Nat}{l:Fo}(h:Ok m l)(n:Int):(kids l n).length<=m:=by
 unfold kids;split
 ·exact Nat.le_trans (zS l n) h.len
 ·simp
theorem oN {w:World}{g gb m:Nat}{l:Fo}(h:Ki w g gb m l)(n:Int) :
  Calls Tryz.prog 375 #[.pointer (some ⟨g,0,none⟩),.int .i64 n] w λe w'=>∃a k cap,e=.returned (.slice a k cap)/\Own w' w.heap.size 3 a k cap (ints (kids l n))/\Below w.heap.size w w':=by
 have hh:=aX h n
 by_cases hn:n∈aj l
 ·rw [decide_eq_true hn] at hh
  rw [vt h.ok hn];obtain⟨N,hT,hR⟩:=h
  obtain⟨k,x,rfl,hk,hx⟩:=hR.get hn
  have hr:=kG hT (hR.chain hn) (Nat.le_trans (zS l k) (Nat.le_trans hR.ok.len hT.eI)) (λx hx=>(hR.ok.range x (cG hx)).1)
  have HR:=ab hr
  clear hT hR hn hr;go_enter Tryz.func375,Tryz.ntmps375
  go_wp2_with (first|(go_at_call 331;refine hh.mono ?_;rintro e w1 ⟨rfl,rfl⟩)|(go_at_call 394;refine HR.out.mono ?_;rintro e w2 ⟨a,n,cap,rfl,O,hb⟩;have HO:=ab O;have HB:=ab hb;clear O hb))
  go_ret;exact⟨a,n,cap,rfl,HO.out,HB.out⟩
 ·rw [decide_eq_false hn] at hh
  rw [Bj h.ok hn];clear h hn;go_enter Tryz.func375,Tryz.ntmps375
  go_wp2_with (first|(go_at_call 331;refine hh.mono ?_;rintro e w1 ⟨rfl,rfl⟩))
  go_ret;exact⟨none,0,0,rfl,Own.nil _ _ _,Below.refl _ _⟩
end Go.Proofs.YtffmodpgddecnaaGreatDoor
