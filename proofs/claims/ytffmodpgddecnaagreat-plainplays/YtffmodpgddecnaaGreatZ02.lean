import Derived.Shelf.Slices.SearchI
import Derived.Shelf.Slices.Clone
import Derived.Shelf.Slices.Delete
import Derived.Sort.OwnSortedInts
import Derived.Stop.BytesEq
import Derived.Lib.SliceRun
import Derived.Test.YtffmodpgddecnaaGreatZ01
set_option linter.unusedVariables false
set_option linter.unusedSimpArgs false
namespace Go.Proofs.YtffmodpgddecnaaGreat.D
open Go.RowKit
open Go.Proofs.YtffmodpgddecnaaGreat.H (B64)
theorem Dr.lt2 {w:World}{g gb n:Nat}{c:Nat→Nat}{t:Nat}(h:Dr w g gb n c t)(h0:0<n):gb<w.heap.size:=World.block_lt_of_cell? _ _ (h.ar 0 h0).1
end Go.Proofs.YtffmodpgddecnaaGreat.D
namespace Go.Proofs.YtffmodpgddecnaaGreat
open Go.RowKit Go.Shelf H
theorem Ow.form {w:World}{base:Nat}{e:TypeId}{k:Nat}{a:Option Addr}{n cap:Nat}{L:List Value}(h:Ow w base e k a n cap L):(a=none∧n=0∧cap=0)∨∃g,a=some ⟨g,0,none⟩∧(∀j,w.frozen? ⟨g,j,none⟩=false)∧n≤cap:=by
 rcases h.2 with ⟨h1,h2⟩|⟨g,c,cur,hv,_,hh,hc,_⟩
 ·simp only [Value.slice.injEq] at h1
  exact .inl ⟨h1.1,h2,h1.2.2⟩
 ·simp only [Value.slice.injEq] at hv
  obtain⟨rfl,_,rfl⟩:=hv
  exact .inr ⟨g,rfl,fun j=>by simp [World.frozen?,hh],hc⟩
theorem Ow.set1 {w:World}{base:Nat}{e:TypeId}{k g n cap:Nat}{L:List Value}(h:Ow w base e k (some ⟨g,0,none⟩) n cap L)(j:Nat)(u:Value):Ow (w.setCell ⟨g,j,none⟩ u) base e k (some ⟨g,0,none⟩) n cap (L.set j u):=(World.ownsRow.stored h j u).1
def Rv (w:World)(a:Option Addr)(L:List Value):Prop:=∀g,a=some ⟨g,0,none⟩→∀j u,L[j]?=some u→w.cell? ⟨g,j,none⟩=some u
theorem Rv.but {S:Nat→Prop}{w w':World}{a:Option Addr}{L:List Value}(h:Rv w a L)(hb:But S w w')(hn:∀j,Blk a j→¬S j):Rv w' a L:=fun g e j u hu=>cell_but hb (h g e j u hu) (hn g ⟨_,e,rfl⟩)
theorem Rv.later {w w':World}{a:Option Addr}{L:List Value}(h:Rv w a L)(hb:Below w.heap.size w w'):Rv w' a L:=h.but (S:=fun _=>False) (But.of hb) (fun _ _ h=>h)
theorem Ow.rv {w:World}{base:Nat}{e:TypeId}{k:Nat}{a:Option Addr}{n cap:Nat}{L:List Value}(h:Ow w base e k a n cap L):Rv w a L:=fun g e j u hu=>by
 by_cases hn:0<n
 ·obtain⟨b,hb,hc⟩:=h.at_ hn
  rw [hb] at e
  cases e
  exact hc j u hu
 ·have hl:=h.1
  have h0:n=0:=by omega
  rw [h0,Nat.zero_mul] at hl
  rw [List.eq_nil_of_length_eq_zero hl] at hu
  cases hu
theorem Rv.pre {w:World}{a:Option Addr}{L T:List Value}(h:Rv w a (L++T)):Rv w a L:=fun g e j u hu=>h g e j u (by rw [List.getElem?_append_left (List.getElem?_eq_some_iff.1 hu).1];exact hu)
structure Lz (w0 w:World)(base:Nat)(e:TypeId)(k:Nat)(a0:Option Addr)(c0:Nat)(L0:List Value)(b:Option Addr)(c n:Nat)(L:List Value):Prop where
 ow:Ow w base e k b n c L
 sh:(b=a0∧c=c0)∨∀j,Blk b j→w0.heap.size≤j
 rv:Rv w a0 L0
 pre:∃T,L=L0++T
 gr:Gr a0 b w0 w
 lt:∀j,Blk a0 j→j<w0.heap.size
theorem Lz.start {w:World}{base:Nat}{e:TypeId}{k:Nat}{a:Option Addr}{c n:Nat}{L:List Value}(h:Ow w base e k a n c L):Lz w w base e k a c L a c n L :=
 ⟨h,.inl ⟨rfl,rfl⟩,h.rv,⟨[],by simp⟩,Gr.refl _ _,fun j hj=>(h.blk j hj).2⟩
theorem toks_set:∀(K:List Tok) (i:Nat) (c:Tok),toks (K.set i c)=(((((toks K).set (i*5) (.int .i64 c.1.1)).set (i*5+1) (.int .u64 (c.1.2.1:Int))).set (i*5+2) (.int .u64 (c.1.2.2:Int))).set (i*5+3) (.int .i64 c.2.1)).set (i*5+4) (.int .i64 c.2.2)
 | [],i,c=>by simp [toks]
 | x::K,0,c=>by simp [toks,encT]
 | x::K,i+1,c=>by
  have ih:=toks_set K i c
  have e:(i+1)*5=i*5+1+1+1+1+1:=by omega
  unfold toks at ih ⊢
  simp only [List.set_cons_succ,List.flatMap_cons,encT,List.cons_append,List.nil_append,e]
  rw [ih]
theorem Ow.setT {w:World}{base g n cap:Nat}{K:List Tok}(h:Ow w base 57 5 (some ⟨g,0,none⟩) n cap (toks K))(i:Nat)(c:Tok):Ow (set5o w g (i*5) c) base 57 5 (some ⟨g,0,none⟩) n cap (toks (K.set i c)):=by
 rw [toks_set]
 exact ((((h.set1 _ _).set1 _ _).set1 _ _).set1 _ _).set1 _ _
end Go.Proofs.YtffmodpgddecnaaGreat
namespace Go.Proofs.YtffmodpgddecnaaGreat.D
open Go.RowKit
open Go.Proofs.YtffmodpgddecnaaGreat.H (B64)
theorem half_lt {N:Nat}(h:N<B64*B64):N / B64<B64∧N%B64<B64:=⟨Nat.div_lt_of_lt_mul h,Nat.mod_lt _ (by decide)⟩
end Go.Proofs.YtffmodpgddecnaaGreat.D
namespace Go.Proofs.YtffmodpgddecnaaGreat.D
open Go.RowKit
open Go.Proofs.YtffmodpgddecnaaGreat.H (B64 Cp)
structure Sta where
 X:List Tk
 l:Fo
 L:List Int
 t:Nat
structure Par where
 mo:Nat
 e:Int
 a:Int
 n:Nat
 c:Nat→Nat
structure Fit (P:Par)(s:Sta):Prop where
 inv:Inv P.mo s.X s.l
 cnt:∀o,s.L.count o=inN s.X s.l o
 len:s.L.length=s.l.length
 top:P.a≤(P.mo:Int)
 le:s.t≤P.n
 cs:∀i,i<P.n→P.c i<B64*B64
theorem inN_add {m:Nat}{X:List Tk}{l:Fo}(h:Inv m X l){k:Nat}(p:Int)(c:Cp)(r:Int)(hk:k<m)(hn:(k:Int)∉nums l)(o:Int) :
  inN (X.set k (c,r)) (l++[((k:Int),p)]) o=inN X l o+if c.1=o then 1 else 0:=by
 unfold inN
 rw [nums_app,List.filter_append,List.length_append]
 congr 1
 ·congr 1
  refine List.filter_congr (fun x hx=>?_)
  unfold ob
  rw [tk_set_other _ (nums_nn h.ok hx) (fun e=>hn (e ▸ hx))]
 ·have hs:ob (X.set k (c,r)) (k:Int)=c.1:=by unfold ob;rw [tk_set_same _ (by rw [h.len];exact hk)]
  by_cases e:c.1=o
  ·rw [if_pos e,List.filter_cons_of_pos (by simp [hs,e])];rfl
  ·rw [if_neg e,List.filter_cons_of_neg (by simp [hs,e])];rfl
theorem hasO_inN {X:List Tk}{l:Fo}{o:Int}:hasO X l o=true↔0<inN X l o:=by
 rw [hasO_iff]
 unfold inN
 rw [List.length_pos_iff_exists_mem]
 constructor
 ·rintro ⟨n,hn,e⟩;exact⟨n,List.mem_filter.2 ⟨hn,decide_eq_true e⟩⟩
 ·rintro ⟨n,hn⟩;exact⟨n,(List.mem_filter.1 hn).1,of_decide_eq_true (List.mem_filter.1 hn).2⟩
theorem Fit.room {P:Par}{s:Sta}(h:Fit P s){o:Int}(hm:Q.may P.e P.a s.L o=0):s.l.length<P.mo:=by
 have:=(Q.may_zero hm).2
 have:=h.len
 have:=h.top
 omega
def cap (o:Int)(N:Nat):Cp:=(o,N / B64,N%B64)
structure Ans where
 c:Cp
 code:Int
 s:Sta
def no (s:Sta)(c:Int):Ans:=⟨(0,0,0),c,s⟩
def addS (s:Sta)(o:Int)(N:Nat)(p r:Int)(t:Nat):Sta:=⟨s.X.set (low s.l) (cap o N,r),s.l++[((low s.l:Int),p)],s.L++[o],t⟩
def tokR (P:Par)(s:Sta)(o:Int)(D:Nat×Int×Nat)(p r:Int):Ans :=
 if Q.may P.e P.a s.L o≠0 then no s (Q.may P.e P.a s.L o) else if D.2.1≠0 then no { s with t:=D.2.2 } D.2.1 else ⟨cap o D.1,0,addS s o D.1 p r D.2.2⟩
def drawD (P:Par)(t:Nat):Nat×Int×Nat:=if t<P.n then (P.c t,0,t+1) else (0,11,t)
def rootA (P:Par)(s:Sta)(o:Int):Ans:=if 0<inN s.X s.l o then no s 19 else tokR P s o (drawD P s.t) (-1) 31
def rgt (s:Sta)(c:Cp):Int:=rg s.X (findN s.X s.l c)
structure May (P:Par)(s:Sta)(c:Cp)(p r:Int):Prop where
 new:hasC s.X s.l c=false
 wide:c.2.1<B64∧c.2.2<B64
 val:validB r=true
 at_:(p=-1∧hasO s.X s.l c.1=false)∨(p∈nums s.l∧ob s.X p=c.1∧partB r (rg s.X p)=true)
theorem Fit.add {P:Par}{s:Sta}(h:Fit P s){o:Int}{N:Nat}{p r:Int}{t:Nat}(hm:Q.may P.e P.a s.L o=0)(hy:May P s (cap o N) p r)(ht:t≤P.n):Fit P (addS s o N p r t):=by
 have hr:=h.room hm
 have hlo:=low_lt h.inv.ok hr
 refine⟨h.inv.add hlo (low_not s.l) hy.new hy.wide hy.val hy.at_,fun x=>?_,by simp [addS,h.len],h.top,ht,h.cs⟩
 show (s.L++[o]).count x=inN (s.X.set (low s.l) (cap o N,r)) (s.l++[((low s.l:Int),p)]) x
 rw [inN_add h.inv p (cap o N) r hlo (low_not s.l) x,List.count_append,h.cnt x]
 congr 1
 rw [List.count_singleton]
 by_cases e:o=x
 ·simp [cap,e]
 ·simp [cap,e]
theorem Fit.took {P:Par}{s:Sta}(h:Fit P s){t:Nat}(ht:t≤P.n):Fit P { s with t:=t }:=⟨h.inv,h.cnt,h.len,h.top,ht,h.cs⟩
theorem Fit.tok {P:Par}{s:Sta}(h:Fit P s){o:Int}{D:Nat×Int×Nat}{p r:Int}(ht:D.2.2≤P.n)(hy:Q.may P.e P.a s.L o=0→D.2.1=0→May P s (cap o D.1) p r):Fit P (tokR P s o D p r).s:=by
 unfold tokR
 by_cases hm:Q.may P.e P.a s.L o=0
 ·rw [if_neg (by simp [hm])]
  by_cases hd:D.2.1=0
  ·rw [if_neg (by simp [hd])]
   exact h.add hm (hy hm hd) ht
  ·rw [if_pos hd]
   exact h.took ht
 ·rw [if_pos hm]
  exact h
theorem drawD_le {P:Par}{t:Nat}(h:t≤P.n):(drawD P t).2.2≤P.n:=by unfold drawD;split<;>simp<;>omega
theorem drawD_small {P:Par}{s:Sta}(h:Fit P s)(t:Nat):(drawD P t).1<B64*B64:=by
 unfold drawD
 split
 ·next ht=>exact h.cs t ht
 ·show (0:Nat)<B64*B64;decide
theorem rootMay {P:Par}{s:Sta}(h:Fit P s){o:Int}(ho:¬0<inN s.X s.l o){N:Nat}(hN:N<B64*B64):May P s (cap o N) (-1) 31:=by
 have hO:hasO s.X s.l o=false:=by
  cases hc:hasO s.X s.l o with
  | false=>rfl
  | true=>exact absurd (hasO_inN.1 hc) ho
 refine⟨?_,half_lt hN,by decide,.inl ⟨rfl,hO⟩⟩
 cases hc:hasC s.X s.l (cap o N) with
 | false=>rfl
 | true=>exact absurd (hasO_of_hasC hc) (by show ¬hasO s.X s.l o=true;rw [hO];decide)
theorem Fit.root {P:Par}{s:Sta}(h:Fit P s)(o:Int):Fit P (rootA P s o).s:=by
 unfold rootA
 by_cases ho:0<inN s.X s.l o
 ·rw [if_pos ho];exact h
 ·rw [if_neg ho]
  exact h.tok (drawD_le h.le) (fun _ _=>rootMay h ho (drawD_small h s.t))
end Go.Proofs.YtffmodpgddecnaaGreat.D
namespace Go.Proofs.YtffmodpgddecnaaGreat.V
open Go.RowKit
open Go.Proofs.YtffmodpgddecnaaGreat.H (B64 Cp)
structure Sta where
 X:List Tk
 l:Fo
 L:List Int
 nx:Int
 V:List (Int×List Nat)
 t:Nat
 px:Int
 P:List Int
 ks:List Int
 D:Int→List Cp
structure Fit (mo:Nat)(s:Sta):Prop where
 inv:Inv mo s.X s.l
 cnt:∀o,s.L.count o=inN s.X s.l o
 len:s.L.length=s.l.length
 obj:∀o,(∃p∈s.V,p.1=o)↔hasO s.X s.l o=true
 ids:∀p∈s.V,1≤p.1∧p.1<s.nx
open Go.Proofs.YtffmodpgddecnaaGreat.D (hasO_inN)
def noV (V:List (Int×List Nat))(o:Int):List (Int×List Nat):=V.filter (fun p=>decide (p.1≠o))
structure Ans where
 K:List Cp
 code:Int
 s:Sta
def needB (all:Bool):Int:=if all then 16 else 8
end Go.Proofs.YtffmodpgddecnaaGreat.V
namespace Go.Proofs.YtffmodpgddecnaaGreat.K
open Go.RowKit
abbrev Cp:=Int×Nat×Nat
def cEq (a b c d e f:Int):Bool:=decide (a=d∧b=e∧c=f)
theorem eqlC (a b c d e f:Int)(w:World):(binOp .eql 38 (.agg #[.int .i64 a,.int .u64 b,.int .u64 c]) (.agg #[.int .i64 d,.int .u64 e,.int .u64 f])).run Tryz.prog w=.ok (.bool (cEq a b c d e f)) w:=by
 unfold cEq
 by_cases h1:a=d
 ·subst h1
  by_cases h2:b=e
  ·subst h2
   by_cases h3:c=f
   ·subst h3;simp [go_sem]
   ·simp [go_sem,h3]
  ·simp [go_sem,h2]
 ·simp [go_sem,h1]
end Go.Proofs.YtffmodpgddecnaaGreat.K
namespace Go.Proofs.YtffmodpgddecnaaGreat.K
open Go.RowKit
def B64:Nat:=18446744073709551616
def KF:Nat:=11400714819323198485
def mulN (h:Nat):Nat:=h*KF%B64
def foldN (h:Nat):Nat:=h ^^^ (h / 2 ^ 29)
def stepN (h v:Nat):Nat:=foldN (mulN (h ^^^ v))
def hashN (o a b:Nat):Nat:=stepN (stepN (stepN 5903417616801668165 o) a) b
def lowN (h:Nat)(k:Int):Nat:=if k≤0 then 0 else if 64≤k then h else h%2 ^ k.toNat
end Go.Proofs.YtffmodpgddecnaaGreat.K
namespace Go.Proofs.YtffmodpgddecnaaGreat.K
open Go.RowKit
def objN (o:Int):Nat:=(o%18446744073709551616).toNat
end Go.Proofs.YtffmodpgddecnaaGreat.K
namespace Go.Proofs.YtffmodpgddecnaaGreat.K
open Go.RowKit
abbrev Pl:=Bool×Cp×Int
def encP (p:Pl):List Value:=[.bool p.1,.int .i64 p.2.1.1,.int .u64 (p.2.1.2.1:Int),.int .u64 (p.2.1.2.2:Int),.int .i64 p.2.2]
def plc (P:List Pl):List Value:=P.flatMap encP
def hasP (c:Cp)(p:Pl):Bool:=p.1&&decide (p.2.1=c)
theorem cEq_iff (x c:Cp):cEq x.1 (x.2.1:Int) (x.2.2:Int) c.1 (c.2.1:Int) (c.2.2:Int)=decide (x=c):=by
 unfold cEq
 by_cases h:x=c
 ·subst h;simp
 ·rw [decide_eq_false h]
  refine decide_eq_false fun hq=>h ?_
  obtain⟨q1,q2,q3⟩:=hq
  exact Prod.ext q1 (Prod.ext (Int.ofNat.inj q2) (Int.ofNat.inj q3))
theorem eqlCp (x c:Cp)(w:World):(binOp .eql 38 (.agg #[.int .i64 x.1,.int .u64 (x.2.1:Int),.int .u64 (x.2.2:Int)]) (.agg #[.int .i64 c.1,.int .u64 (c.2.1:Int),.int .u64 (c.2.2:Int)])).run Tryz.prog w=.ok (.bool (decide (x=c))) w:=by
 rw [eqlC,cEq_iff]
def spotP (P:List Pl)(c:Cp)(n:Nat):Nat:=min ((P.take n).findIdx (hasP c)) (n - 1)
theorem spot_at {P:List Pl}{c:Cp}{n i:Nat}{p:Pl}(hi:i<n)(hp:P[i]?=some p)(hh:hasP c p=true)(hn:∀j q,j<i→P[j]?=some q→hasP c q=false):spotP P c n=i:=by
 unfold spotP
 have hl:i<P.length:=(List.getElem?_eq_some_iff.1 hp).1
 have e:(P.take n).findIdx (hasP c)=i:=by
  rw [List.findIdx_eq (by rw [List.length_take];omega)]
  refine⟨?_,fun j hj=>?_⟩
  ·rw [List.getElem_take]
   rw [List.getElem?_eq_getElem hl] at hp
   cases hp
   exact hh
  ·have hj2:j<P.length:=by omega
   have:=hn j _ hj (List.getElem?_eq_getElem hj2)
   rw [List.getElem_take,this]
 rw [e]
 omega
theorem spot_none {P:List Pl}{c:Cp}{n:Nat}(hn:∀j q,j<n→P[j]?=some q→hasP c q=false)(hl:n≤P.length):spotP P c n=n - 1:=by
 unfold spotP
 have e:(P.take n).findIdx (hasP c)=(P.take n).length:=by
  rw [List.findIdx_eq_length]
  intro x hx
  obtain⟨j,hj,rfl⟩:=List.mem_iff_getElem.1 hx
  rw [List.length_take] at hj
  rw [List.getElem_take]
  exact hn j _ (by omega) (List.getElem?_eq_getElem (by omega))
 rw [e,List.length_take]
 omega
theorem range_but {S:Nat→Prop}{w w':World}{b o:Nat}{cs:List Value}(h:w.rangeAt b o cs)(hb:But S w w')(hn:¬S b):w'.rangeAt b o cs:=fun j v hv=>cell_but hb (h j v hv) hn
end Go.Proofs.YtffmodpgddecnaaGreat.K
namespace Go.Proofs.YtffmodpgddecnaaGreat.K
open Go.RowKit
def fr:Pl:=(false,(0,0,0),0)
theorem there_but {S:Nat→Prop}{w w':World}{b o n:Nat}(h:w.there b o n)(hb:But S w w')(hn:¬S b):w'.there b o n:=fun j hj=>by
 obtain⟨h1,h2⟩:=h j hj
 obtain⟨u,hu⟩:=Option.isSome_iff_exists.1 h1
 have:=(Lies.but hb ⟨hu,h2⟩ hn)
 exact⟨by rw [this.1];rfl,this.2⟩
end Go.Proofs.YtffmodpgddecnaaGreat.K
namespace Go.Proofs.YtffmodpgddecnaaGreat.K
open Go.RowKit
structure Ca (w:World)(g s n k:Nat)(R:Nat→List Pl)(e hi mi:Int):Prop where
 c0:w.cell? ⟨g,0,none⟩=some (.int .i64 (s:Int))
 c1:w.cell? ⟨g,1,none⟩=some (.int .i64 (n:Int))
 c2:w.cell? ⟨g,2,none⟩=some (.int .i64 (k:Int))
 at_:∀r,r<16→w.rangeAt g (3+r*20) (plc (R r))
 th:w.there g 3 320
 len:∀r,(R r).length=4
 ce:Lies w ⟨g,323,none⟩ (.int .i64 e)
 ch:Lies w ⟨g,324,none⟩ (.int .i64 hi)
 cm:Lies w ⟨g,325,none⟩ (.int .i64 mi)
 ls:s≤16
 n1:1≤n
 n4:n≤4
 lk:k≤64
variable {w w':World}{g s n k:Nat}{R:Nat→List Pl}{e hi mi:Int}
theorem Ca.lt (h:Ca w g s n k R e hi mi):g<w.heap.size:=World.block_lt_of_cell? _ _ h.c0
theorem Ca.but {S:Nat→Prop}(h:Ca w g s n k R e hi mi)(hb:But S w w')(h1:¬S g):Ca w' g s n k R e hi mi :=
 ⟨cell_but hb h.c0 h1,cell_but hb h.c1 h1,cell_but hb h.c2 h1,fun r hr=>range_but (h.at_ r hr) hb h1,there_but h.th hb h1,h.len,h.ce.but hb h1,h.ch.but hb h1,h.cm.but hb h1,h.ls,h.n1,h.n4,h.lk⟩
theorem Ca.later (h:Ca w g s n k R e hi mi)(hb:Below w.heap.size w w'):Ca w' g s n k R e hi mi:=h.but (S:=fun _=>False) (But.of hb) (fun h=>h)
def R0:Nat→List Pl:=fun _=>List.replicate 4 fr
end Go.Proofs.YtffmodpgddecnaaGreat.K
namespace Go.Proofs.YtffmodpgddecnaaGreat.K
open Go.RowKit
variable {w w':World}{g s n k:Nat}{R:Nat→List Pl}{e hi mi:Int}
def rowN (k s:Nat)(c:Cp):Nat:=lowN (hashN (objN c.1) c.2.1 c.2.2) (k:Int)%s
end Go.Proofs.YtffmodpgddecnaaGreat.K
namespace Go.Proofs.YtffmodpgddecnaaGreat.K
open Go.RowKit
variable {w w':World}{g s n k:Nat}{R:Nat→List Pl}{e hi mi:Int}
def upd (R:Nat→List Pl)(r:Nat)(Q:List Pl):Nat→List Pl:=fun x=>if x=r then Q else R x
def putR (s n k:Nat)(R:Nat→List Pl)(c:Cp)(m:Int):Nat→List Pl :=
 if s=0 then R else upd R (rowN k s c) ((true,c,m)::(R (rowN k s c)).eraseIdx (spotP (R (rowN k s c)) c n))
end Go.Proofs.YtffmodpgddecnaaGreat.K
namespace Go.Proofs.YtffmodpgddecnaaGreat.K
open Go.RowKit
abbrev Pu:=Cp×Int
def mk (x:Pu):Pl:=(true,x.1,x.2)
def pls (S:List Pu):List Pl:=S.map mk++List.replicate (4 - S.length) fr
def putS (n:Nat)(S:List Pu)(c:Cp)(m:Int):List Pu:=((c,m)::S.filter (fun x=>x.1≠c)).take n
theorem pls_in {S:List Pu}{i:Nat}(h:i<S.length):(pls S)[i]?=some (mk S[i]):=by
 unfold pls
 rw [List.getElem?_append_left (by simpa using h)]
 simp [h]
theorem pls_out {S:List Pu}{i:Nat}(h:S.length≤i)(h4:i<4):(pls S)[i]?=some fr:=by
 unfold pls
 rw [List.getElem?_append_right (by simpa using h),List.getElem?_replicate,if_pos (by simp;omega)]
theorem pls_length {S:List Pu}(h:S.length≤4):(pls S).length=4:=by simp [pls];omega
theorem map_er:∀(S:List Pu) (i:Nat),(S.eraseIdx i).map mk=(S.map mk).eraseIdx i
 | [],_=>rfl
 | a::r,0=>rfl
 | a::r,i+1=>by simp only [List.eraseIdx_cons_succ,List.map_cons,map_er r i]
theorem hasP_mk (c:Cp)(x:Pu):hasP c (mk x)=decide (x.1=c):=rfl
theorem filter_keep {S:List Pu}{c:Cp}(h:∀x∈S,x.1≠c):S.filter (fun x=>x.1≠c)=S:=List.filter_eq_self.2 (fun x hx=>by simpa using h x hx)
theorem filter_erase:∀{S:List Pu} (hn:(S.map (·.1)).Nodup) (i:Nat) (h:i<S.length),S.filter (fun x=>x.1≠S[i].1)=S.eraseIdx i
 | [],_,i,h=>by simp at h
 | a::r,hn,0,h=>by
  simp only [List.map_cons,List.nodup_cons] at hn
  rw [List.filter_cons_of_neg (by simp)]
  simp only [List.getElem_cons_zero,List.eraseIdx_zero,List.tail_cons]
  exact filter_keep (fun x hx e=>hn.1 (List.mem_map.2 ⟨x,hx,e⟩))
 | a::r,hn,i+1,h=>by
  simp only [List.map_cons,List.nodup_cons] at hn
  have hi:i<r.length:=by simpa using h
  have hne:a.1≠(a::r)[i+1].1:=fun e=>hn.1 (List.mem_map.2 ⟨r[i],List.getElem_mem hi,by simpa using e.symm⟩)
  rw [List.filter_cons_of_pos (by simpa using hne),List.eraseIdx_cons_succ]
  simp only [List.getElem_cons_succ]
  rw [filter_erase hn.2 i hi]
theorem spot_pls {S:List Pu}{c:Cp}{n:Nat}(hl:S.length≤n)(h1:1≤n)(h4:n≤4) :
  (∃(i:Nat) (h:i<S.length),S[i].1=c∧S.find? (fun x=>x.1=c)=some S[i]∧spotP (pls S) c n=i)∨((∀x∈S,x.1≠c)∧S.find? (fun x=>x.1=c)=none∧spotP (pls S) c n=n - 1):=by
 cases hf:S.find? (fun x=>x.1=c) with
 | some x =>
  obtain⟨hx,i,hi,rfl,hj⟩:=List.find?_eq_some_iff_getElem.1 hf
  have hx2:S[i].1=c:=by simpa using hx
  refine .inl ⟨i,hi,hx2,rfl,spot_at (p:=mk S[i]) (by omega) (pls_in hi) (by rw [hasP_mk];simpa using hx2) (fun j q hji hq=>?_)⟩
  have:=hj j hji
  rw [pls_in (by omega)] at hq
  cases hq
  rw [hasP_mk]
  simpa using this
 | none =>
  have hn:∀x∈S,x.1≠c:=fun x hx=>by simpa using List.find?_eq_none.1 hf x hx
  refine .inr ⟨hn,rfl,spot_none (fun j q hj hq=>?_) (by rw [pls_length (by omega)];exact h4)⟩
  by_cases e:j<S.length
  ·rw [pls_in e] at hq
   cases hq
   rw [hasP_mk]
   simpa using hn _ (List.getElem_mem e)
  ·rw [pls_out (by omega) (by omega)] at hq
   cases hq
   rfl
theorem putS_len {n:Nat}(S:List Pu)(c:Cp)(m:Int):(putS n S c m).length≤n:=by unfold putS;rw [List.length_take];omega
theorem putS_nodup {n:Nat}{S:List Pu}(c:Cp)(m:Int)(h:(S.map (·.1)).Nodup):((putS n S c m).map (·.1)).Nodup:=by
 unfold putS
 rw [List.map_take]
 refine List.Nodup.sublist (List.take_sublist _ _) ?_
 rw [List.map_cons,List.nodup_cons]
 refine⟨fun e=>?_,List.Nodup.sublist (List.Sublist.map _ List.filter_sublist) h⟩
 obtain⟨x,hx,e2⟩:=List.mem_map.1 e
 simpa [e2] using (List.mem_filter.1 hx).2
theorem lead_pls {S:List Pu}{c:Cp}{n:Nat}(m:Int)(hl:S.length≤n)(h1:1≤n)(h4:n≤4)(hn:(S.map (·.1)).Nodup) :
  (true,c,m)::(pls S).eraseIdx (spotP (pls S) c n)=pls (putS n S c m):=by
 rcases spot_pls (c:=c) hl h1 h4 with ⟨i,hi,hc,_,hs⟩|⟨hno,_,hs⟩
 ·rw [hs]
  have e:putS n S c m=(c,m)::S.eraseIdx i:=by
   unfold putS
   rw [←hc,filter_erase hn i hi,List.take_of_length_le (by simp [List.length_eraseIdx,hi];omega)]
  rw [e]
  unfold pls
  rw [List.eraseIdx_append_of_lt_length (by simpa using hi)]
  simp only [List.map_cons,List.cons_append,List.length_cons,List.length_eraseIdx,if_pos hi]
  rw [show S.length - 1+1=S.length by omega,←map_er]
  rfl
 ·rw [hs]
  unfold putS
  rw [filter_keep hno]
  by_cases e:S.length<n
  ·rw [List.take_of_length_le (by simp;omega)]
   unfold pls
   rw [List.eraseIdx_append_of_length_le (by simp;omega),List.eraseIdx_replicate,if_pos (by simp;omega)]
   simp only [List.map_cons,List.cons_append,List.length_cons]
   rw [show 4 - S.length - 1=4 - (S.length+1) by omega]
   rfl
  ·have e2:S.length=n:=by omega
   obtain⟨v,rfl⟩:∃v,n=v+1:=⟨n - 1,by omega⟩
   rw [List.take_succ_cons]
   unfold pls
   rw [List.eraseIdx_append_of_lt_length (by simp;omega)]
   simp only [List.map_cons,List.cons_append,List.length_cons,List.length_take,e2]
   rw [show min v (v+1)+1=v+1 by omega]
   congr 2
   rw [List.map_take,List.eraseIdx_eq_take_drop_succ,List.drop_eq_nil_of_le (by simp;omega),List.append_nil]
   rfl
structure Fit (n:Nat)(T:Nat→List Pu)(R:Nat→List Pl):Prop where
 eq:∀r,R r=pls (T r)
 len:∀r,(T r).length≤n
 nd:∀r,((T r).map (·.1)).Nodup
def putT (s n k:Nat)(T:Nat→List Pu)(c:Cp)(m:Int):Nat→List Pu:=if s=0 then T else fun x=>if x=rowN k s c then putS n (T (rowN k s c)) c m else T x
variable {s n k:Nat}{T:Nat→List Pu}{R:Nat→List Pl}
theorem Fit.zero (n:Nat):Fit n (fun _=>[]) R0:=⟨fun _=>rfl,fun _=>Nat.zero_le _,fun _=>List.nodup_nil⟩
theorem Fit.put (h:Fit n T R)(h1:1≤n)(h4:n≤4)(c:Cp)(m:Int):Fit n (putT s n k T c m) (putR s n k R c m):=by
 unfold putT putR
 by_cases hs:s=0
 ·rw [if_pos hs,if_pos hs];exact h
 ·rw [if_neg hs,if_neg hs]
  refine⟨fun r=>?_,fun r=>?_,fun r=>?_⟩
  ·unfold upd
   by_cases e:r=rowN k s c
   ·rw [if_pos e]
    rw [if_pos e,h.eq]
    exact lead_pls m (h.len _) h1 h4 (h.nd _)
   ·rw [if_neg e]
    rw [if_neg e]
    exact h.eq r
  ·split
   ·exact putS_len _ _ _
   ·exact h.len r
  ·split
   ·exact putS_nodup _ _ (h.nd _)
   ·exact h.nd r
end Go.Proofs.YtffmodpgddecnaaGreat.K
namespace Go.Proofs.YtffmodpgddecnaaGreat.K
open Go.RowKit
def Kc (w:World)(g s n k:Nat)(T:Nat→List Pu)(E:Nat)(hi mi:Int):Prop:=E<256∧∃R,Ca w g s n k R (E:Int) hi mi∧Fit n T R
def T0:Nat→List Pu:=fun _=>[]
variable {w w':World}{g s n k E:Nat}{T:Nat→List Pu}{hi mi:Int}
theorem Kc.but {S:Nat→Prop}(h:Kc w g s n k T E hi mi)(hb:But S w w')(h1:¬S g):Kc w' g s n k T E hi mi:=by
 obtain⟨hE,R,hc,hf⟩:=h
 exact⟨hE,R,hc.but hb h1,hf⟩
theorem Kc.later (h:Kc w g s n k T E hi mi)(hb:Below w.heap.size w w'):Kc w' g s n k T E hi mi:=h.but (S:=fun _=>False) (But.of hb) (fun h=>h)
theorem Kc.lt (h:Kc w g s n k T E hi mi):g<w.heap.size:=by
 obtain⟨_,R,hc,hf⟩:=h
 exact hc.lt
end Go.Proofs.YtffmodpgddecnaaGreat.K
namespace Go.Proofs.YtffmodpgddecnaaGreat.L
open Go.RowKit H
def rgt (X:List Tk)(l:Fo)(c:Cp):Int:=rg X (findN X l c)
def namG (g:Cp→Int)(o:Int):List Cp→Int→Cp×Int
 | [],e=>((0,0,0),e)
 | c::r,e=>if c.1≠o then namG g o r e else if g c=0 then (c,0) else if g c=4 then namG g o r 4 else namG g o r e
theorem namG_step {g:Cp→Int}{o:Int}{K:List Cp}{i:Nat}{c:Cp}(h:K[i]?=some c)(e:Int) :
  namG g o (K.drop i) e=if c.1≠o then namG g o (K.drop (i+1)) e else if g c=0 then (c,0) else if g c=4 then namG g o (K.drop (i+1)) 4 else namG g o (K.drop (i+1)) e:=by
 obtain⟨hi,rfl⟩:=List.getElem?_eq_some_iff.1 h
 rw [List.drop_eq_getElem_cons hi]
 rfl
def Tr (X:List Tk)(l:Fo)(T:Nat→List K.Pu):Prop:=∀r x,x∈T r→hasC X l x.1=true∧rgt X l x.1=x.2
variable {X:List Tk}{l:Fo}{T:Nat→List K.Pu}{s n k:Nat}
theorem Tr.zero (X:List Tk)(l:Fo):Tr X l K.T0:=fun r x hx=>by cases hx
theorem Tr.put (h:Tr X l T){c:Cp}(hc:hasC X l c=true):Tr X l (K.putT s n k T c (rgt X l c)):=fun r x hx=>by
 unfold K.putT at hx
 split at hx
 ·exact h r x hx
 ·simp only at hx
  split at hx
  ·unfold K.putS at hx
   rcases List.mem_cons.1 (List.mem_of_mem_take hx) with rfl|h1
   ·exact⟨hc,rfl⟩
   ·exact h _ x (List.mem_filter.1 h1).1
  ·exact h r x hx
theorem tk_add {m:Nat}(h:Inv m X l){j:Nat}(x:Tk)(hj:(j:Int)∉nums l){a:Int}(ha:a∈nums l):tk (X.set j x) a=tk X a:=tk_set_other _ (nums_nn h.ok ha) (fun e=>hj (e ▸ ha))
theorem Tr.add {m:Nat}(h:Tr X l T)(hv:Inv m X l)(p:Int)(c:Cp)(r:Int)(hv2:Inv m (addR m X l p c r).X (addR m X l p c r).l):Tr (addR m X l p c r).X (addR m X l p c r).l T:=by
 revert hv2
 unfold addR
 by_cases h1:hasC X l c=true
 ·rw [if_pos h1];exact fun _=>h
 ·rw [if_neg h1]
  by_cases h2:l.length=m
  ·rw [if_pos h2];exact fun _=>h
  ·rw [if_neg h2]
   intro hv2
   have hv2:Inv m (X.set (low l) (c,r)) (l++[((low l:Int),p)]):=hv2
   intro q x hx
   obtain⟨h3,h4⟩:=h q x hx
   obtain⟨a,ha,e⟩:=hasC_iff.1 h3
   have ht:=tk_add hv (c,r) (low_not l) ha
   have ha2:a∈nums (l++[((low l:Int),p)]):=by rw [nums_app];exact List.mem_append_left _ ha
   have h5:findN (X.set (low l) (c,r)) (l++[((low l:Int),p)]) x.1=a:=by
    have:=findN_in hv2 ha2
    rw [ht,e] at this
    exact this
   have h6:findN X l x.1=a:=by rw [←e];exact findN_in hv ha
   refine⟨hasC_iff.2 ⟨a,ha2,by rw [ht];exact e⟩,?_⟩
   show rg (X.set (low l) (c,r)) (findN (X.set (low l) (c,r)) (l++[((low l:Int),p)]) x.1)=x.2
   rw [←h4]
   unfold rgt
   rw [h5,h6]
   unfold rg
   rw [ht]
theorem Tr.root {m:Nat}(h:Tr X l T)(hv:Inv m X l)(c:Cp)(r:Int)(hv2:Inv m (rootR m X l c r).X (rootR m X l c r).l):Tr (rootR m X l c r).X (rootR m X l c r).l T:=by
 revert hv2
 unfold rootR
 split
 ·exact fun _=>h
 ·split
  ·exact fun _=>h
  ·exact fun h2=>h.add hv _ _ _ h2
end Go.Proofs.YtffmodpgddecnaaGreat.L
namespace Go.Proofs.YtffmodpgddecnaaGreat.M
open Go.RowKit
abbrev Cp:=Int×Nat×Nat
end Go.Proofs.YtffmodpgddecnaaGreat.M
namespace Go.Proofs.YtffmodpgddecnaaGreat.M
open Go.RowKit
def setL (L:List Value):Nat→List Value→List Value
 | _,[]=>L
 | o,v::r=>setL (L.set o v) (o+1) r
theorem _root_.Go.Proofs.YtffmodpgddecnaaGreat.Ow.setCells {base:Nat}{e:TypeId}{k g n cap:Nat}:∀(vs:List Value) (o:Nat) (w:World) (L:List Value),Ow w base e k (some ⟨g,0,none⟩) n cap L→Ow (w.setCells g o vs) base e k (some ⟨g,0,none⟩) n cap (setL L o vs)
 | [],_,_,_,h=>h
 | v::r,o,w,L,h=>Ow.setCells r (o+1) _ _ (h.set1 o v)
theorem _root_.Go.Proofs.YtffmodpgddecnaaGreat.Ow.fr {w:World}{base:Nat}{e:TypeId}{k g n cap:Nat}{L:List Value}(h:Ow w base e k (some ⟨g,0,none⟩) n cap L)(j:Nat):w.frozen? ⟨g,j,none⟩=false:=by
 rcases h.form with ⟨h1,_⟩|⟨g',h1,h2,_⟩
 ·cases h1
 ·cases h1;exact h2 j
end Go.Proofs.YtffmodpgddecnaaGreat.M
namespace Go.Proofs.YtffmodpgddecnaaGreat.M
open Go.RowKit
structure Dm (w:World)(base g:Nat)(m:Int)(pa:Option Addr)(cap:Nat)(K:List Cp):Prop where
 c0:w.cell? ⟨g,0,none⟩=some (.int .i64 m)
 c1:Lies w ⟨g,1,none⟩ (.slice pa K.length cap)
 own:Ow w base 38 3 pa K.length cap (caps K)
 ap:∀k,Blk pa k→k≠g
 lo:base≤g
variable {w w':World}{base g:Nat}{m:Int}{pa:Option Addr}{cap:Nat}{K:List Cp}
theorem Dm.lt (h:Dm w base g m pa cap K):g<w.heap.size:=World.block_lt_of_cell? _ _ h.c0
theorem Dm.but {S:Nat→Prop}(h:Dm w base g m pa cap K)(hb:But S w w')(h1:¬S g)(h2:∀k,Blk pa k→¬S k):Dm w' base g m pa cap K :=
 ⟨cell_but hb h.c0 h1,h.c1.but hb h1,h.own.but hb h2,h.ap,h.lo⟩
theorem Dm.later (h:Dm w base g m pa cap K)(hb:Below w.heap.size w w'):Dm w' base g m pa cap K:=h.but (S:=fun _=>False) (But.of hb) (fun h=>h) (fun _ _ h=>h)
theorem Dm.hb (h:Dm w base g m pa cap K):base≤w.heap.size:=by have:=h.lo;have:=h.lt;omega
theorem Dm.mono {b:Nat}(h:Dm w base g m pa cap K)(hb:b≤base):Dm w b g m pa cap K:=⟨h.c0,h.c1,h.own.mono hb,h.ap,Nat.le_trans hb h.lo⟩
structure Wr (w w':World)(g:Nat)(pa pa':Option Addr):Prop where
 but:But (fun k=>k=g∨Blk pa k) w w'
 on:∀k,Blk pa' k→Blk pa k∨w.heap.size≤k
theorem Wr.refl (g:Nat)(pa:Option Addr)(h:Below w.heap.size w w'):Wr w w' g pa pa:=⟨But.of h,fun _ h=>.inl h⟩
theorem Wr.below {pa':Option Addr}{u:World}(h:Wr w w' g pa pa')(ho:Dm w base g m pa cap K)(hb:Below base u w):Below base u w' :=
 ⟨h.but.os.trans hb.os,h.but.tape.trans hb.tape,h.but.output.trans hb.output,Nat.le_trans hb.size h.but.size,fun k hk=>(h.but.block k (by have:=ho.hb;omega) (fun e=>by
  rcases e with e|e
  ·have:=ho.lo;omega
  ·have:=(ho.own.blk k e).1;omega)).trans (hb.block k hk)⟩
theorem Wr.pre {W:World}{pa':Option Addr}(hb:Below w.heap.size w W)(h:Wr W w' g pa pa'):Wr w w' g pa pa' :=
 ⟨(But.of hb).trans h.but,fun k hk=>by
  rcases h.on k hk with e|e
  ·exact .inl e
  ·exact .inr (Nat.le_trans hb.size e)⟩
theorem Dm.put {pb:Option Addr}{c:Nat}{M:List Cp}(h:Dm w base g m pa cap K)(hG:Gr pa pb w w')(ho:Ow w' base 38 3 pb M.length c (caps M)):Dm (w'.setCell ⟨g,1,none⟩ (.slice pb M.length c)) base g m pb c M∧Wr w (w'.setCell ⟨g,1,none⟩ (.slice pb M.length c)) g pa pb:=by
 have hn:¬Blk pa g:=fun e=>h.ap g e rfl
 have hap:∀k,Blk pb k→k≠g:=fun k hk=>by
  rcases hG.on k hk with e|e
  ·exact h.ap k e
  ·have:=h.lt;omega
 exact⟨⟨by rw [World.cell?_setCell_other _ _ _ _ (by simp)];exact cell_but hG.but h.c0 hn,(h.c1.but hG.but hn).put,ho.but ((But.refl (fun k=>k=g) w').setCell (p:=⟨g,1,none⟩) rfl _) hap,hap,h.lo⟩,
  (hG.but.mono (fun k hk=>.inr hk)).setCell (.inl rfl) _,fun k hk=>hG.on k hk⟩
def okI (K:List Cp)(i:Int):Bool:=decide (0≤i∧i<(K.length:Int))
theorem Dm.new (w:World)(m:Int)(t:TypeId):Dm (w.alloc (.cells #[.int .i64 m,.slice none 0 0] t)) w.heap.size w.heap.size m none 0 [] :=
 ⟨by simp [go_sem],⟨by simp [go_sem],by simp [go_sem]⟩,Ow.nil _ _ _ _,fun k hk=>(by obtain⟨_,e,_⟩:=hk;cases e),Nat.le_refl _⟩
end Go.Proofs.YtffmodpgddecnaaGreat.M
namespace Go.Proofs.YtffmodpgddecnaaGreat
open Go.RowKit
section
variable {P:Program}{md:Region.Mode}{ops:Array Oper}{Q:Exit→Act→World→Prop}{S:World→Prop}{fuel:Nat}{listed:Array Bool}{a:Act}{w:World}
def qd (k m:Nat):Array Bool:=((List.range k).map (fun i=>m.testBit i)).toArray
theorem zz:(∀{α:Type} {l:List α} {i:Nat} (h:i<l.toArray.size),l.toArray[i]=l[i]'(by simpa using h))∧(∀{α:Type} {a:α} {l:List α} {i:Nat} (h:i+1<(a::l).length),(a::l)[i+1]=l[i]'(by simpa using h))∧(∀{α:Type} {a:α} {l:List α} (h:0<(a::l).length),(a::l)[0]=a)∧(∀{a:Act} {d:Tmp} {v:Value},a.put (some d) v={ a with tmps:=a.tmps.setIfInBounds d v })∧(∀{a:Act} {v:Value},a.put none v=a)∧(∀{α:Type} {l:List α} {i:Nat} {a:α},l.toArray.setIfInBounds i a=(l.set i a).toArray)∧(∀{α:Type} {a b:α} {l:List α},(a::l).set 0 b=b::l)∧(∀{α:Type} {a b:α} {l:List α} {i:Nat},(a::l).set (i+1) b=a::l.set i b) :=
 ⟨fun _=>rfl,fun _=>rfl,fun _=>rfl,rfl,rfl,by simp,rfl,rfl⟩
theorem nm (k m f2:Nat)(h:wpAnyH P md ops Q S f2 (qd k m) a w)(hl:listed=qd k m:=by kernel_rfl)(hf:fuel=f2:=by kernel_rfl):wpAnyH P md ops Q S fuel listed a w:=by
 subst hl hf
 exact h
theorem tn (i k m f2:Nat){oi:Oper}{v:Value}(h:wpAnyH P md ops Q S f2 (qd k m) (a.put oi.dst v) w)(hi:ops[i]?=some oi:=by exact rfl)(hs:Region.noSelect ops=true:=by kernel_rfl)(hf:Region.free md ops listed i=true:=by kernel_rfl)(hr:(Region.ready md ops listed).contains i=true:=by kernel_rfl)(hw:Region.wanted oi (yielded ops a.tmps)=true:=by rfl)(hy:∀w,S w→(execOp a.eval oi).run P w=.ok (.value v) w:=by intro w hSw;(try dsimp only at hSw);go_simp;try with_reducible rfl)(hQ:∀c a w,Q (.panic c) (a.put oi.dst v) w→Q (.panic c) a w:=by exact fun _ _ _ h=>h)(hS:S w:=by assumption)(hl:listed.setIfInBounds i true=qd k m:=by kernel_rfl)(hz:fuel=f2+1:=by kernel_rfl):wpAnyH P md ops Q S fuel listed a w:=by
 subst hz
 rw [←hl] at h
 exact wpAnyH_take hi hs hf hr hQ (Or.inl ⟨hw,hy⟩) hS h
theorem tv (i:Nat){oi:Oper}{v:Value}(hy:∀w,S w→(execOp a.eval oi).run P w=.ok (.value v) w)(h:wpAnyH P md ops Q S fuel (listed.setIfInBounds i true) (a.put oi.dst v) w)(hi:ops[i]?=some oi:=by exact rfl)(hs:Region.noSelect ops=true:=by kernel_rfl)(hf:Region.free md ops listed i=true:=by kernel_rfl)(hr:(Region.ready md ops listed).contains i=true:=by kernel_rfl)(hw:Region.wanted oi (yielded ops a.tmps)=true:=by rfl)(hQ:∀c a w,Q (.panic c) (a.put oi.dst v) w→Q (.panic c) a w:=by exact fun _ _ _ h=>h)(hS:S w:=by assumption):wpAnyH P md ops Q S (fuel+1) listed a w :=
 wpAnyH_take hi hs hf hr hQ (Or.inl ⟨hw,hy⟩) hS h
theorem zr (i:Nat){o:Oper}(h:∀K':Act→World→Prop,Shut (∀a w,S w→(S w→wpAnyH P md ops Q S fuel (listed.setIfInBounds i true) a w)→K' a w)→if Region.wanted o (yielded ops a.tmps)=true then Oper.wp P o a w K' Q else K' (a.put o.dst undef) w)(ho:ops[i]?=some o:=by exact rfl)(hr:Region.ready md ops listed=[i]:=by kernel_rfl):wpAnyH P md ops Q S (fuel+1) listed a w :=
 wpAnyH_ready hr (by simp) (AllReadyH.cons ho h AllReadyH.nil)
theorem zk {K:Act→World→Prop}(hK:Shut (∀a w,S w→(S w→wpAnyH P md ops Q S fuel listed a w)→K a w))(k m f2:Nat)(hS:S w)(h:S w→wpAnyH P md ops Q S f2 (qd k m) a w)(hl:listed=qd k m:=by kernel_rfl)(hf:fuel=f2:=by kernel_rfl):K a w :=
 hK.out a w hS fun hs=>nm k m f2 (h hs) hl hf
theorem zn (h:Q .normal a w)(fuel:Nat)(hr:Region.ready md ops listed=[]:=by kernel_rfl):wpAnyH P md ops Q S fuel listed a w:=wpAnyH_done hr h fuel
end
end Go.Proofs.YtffmodpgddecnaaGreat
namespace Go.Proofs.YtffmodpgddecnaaGreat.M
open Go.RowKit
variable {w w':World}{base g:Nat}{m:Int}{pa:Option Addr}{cap:Nat}{K:List Cp}
def atC (K:List Cp)(i:Int):Cp:=(K[i.toNat]?).getD (0,0,0)
def pickE (m:Int)(K:List Cp)(P:List Int):Int:=if P.all (okI K)=true then (if m<(P.length:Int) then 14 else 0) else 15
def pickL (m:Int)(K:List Cp)(P:List Int):List Cp:=if pickE m K P=0 then P.map (atC K) else []
end Go.Proofs.YtffmodpgddecnaaGreat.M
namespace Go.Proofs.YtffmodpgddecnaaGreat.P
open Go.Shelf Go.RowKit Go.Sort
theorem _root_.Go.Proofs.YtffmodpgddecnaaGreat.Own.cut {w:World}{base:Nat}{e:TypeId}{g n cap m:Nat}{L:List Value}(h:Own w base e (some ⟨g,0,none⟩) n cap L)(hm:m≤n):Own w base e (some ⟨g,0,none⟩) m cap (L.take m):=by
 have hl:=h.len
 refine⟨⟨by rw [List.length_take];omega,?_⟩,fun u hu=>h.one u (List.mem_of_mem_take hu)⟩
 rcases h.row.2 with ⟨h1,h2⟩|⟨g',c,cur,hv,h1,h2,h3,h4,h5,h6⟩
 ·simp at h1
 ·simp only [Value.slice.injEq] at hv
  obtain⟨hg,_,rfl⟩:=hv
  refine .inr ⟨g',cap,cur,by rw [hg],h1,h2,by omega,h4,h5,?_⟩
  rw [←h6,List.take_take]
  congr 1
  omega
end Go.Proofs.YtffmodpgddecnaaGreat.P
namespace Go.Proofs.YtffmodpgddecnaaGreat.P
open Go.RowKit
def Rise (L:List Int):Prop:=L.Pairwise (·<·)
theorem Rise.le {L:List Int}(h:Rise L):L.Pairwise (·≤·):=List.Pairwise.imp (fun h=>Int.le_of_lt h) h
def out (L:List Int)(n:Int):List Int:=L.filter (fun y=>y != n)
def under (L:List Int)(v:Int):Bool:=decide (∀y∈L,y<v)
structure Iv (m x:Int)(L:List Int):Prop where
 m1:1≤m
 m2:m≤32
 len:(L.length:Int)≤m
 rise:Rise L
 lo:∀y∈L,0≤y
 hi:∀y∈L,y<x
 x1:0≤x
 x2:x≤65536
def okN (L:List Int)(n:Int):Bool:=decide (0≤n∧n≤65536)&&under L n
def snX (x:Int)(L:List Int)(n:Int):Int:=if okN L n then n else x
theorem Iv.next {m x:Int}{L:List Int}(h:Iv m x L)(n:Int):Iv m (snX x L n) L:=by
 unfold snX
 by_cases ho:okN L n=true
 ·rw [if_pos ho]
  unfold okN under at ho
  rw [Bool.and_eq_true,decide_eq_true_eq,decide_eq_true_eq] at ho
  exact⟨h.m1,h.m2,h.len,h.rise,h.lo,ho.2,ho.1.1,ho.1.2⟩
 ·rw [if_neg ho];exact h
theorem Iv.start {m:Int}(h1:1≤m)(h2:m≤32):Iv m 1 [0]:=⟨h1,h2,by simp;omega,List.pairwise_singleton _ _,by simp,by simp,by omega,by omega⟩
end Go.Proofs.YtffmodpgddecnaaGreat.P
namespace Go.Proofs.YtffmodpgddecnaaGreat.P
open Go.RowKit
structure Ob (w:World)(base g:Nat)(m x:Int)(pa:Option Addr)(cap:Nat)(L:List Int):Prop where
 c0:w.cell? ⟨g,0,none⟩=some (.int .i64 m)
 c1:Lies w ⟨g,1,none⟩ (.int .i64 x)
 c2:Lies w ⟨g,2,none⟩ (.slice pa L.length cap)
 own:Own w base 3 pa L.length cap (ints L)
 ap:∀k,Blk pa k→k≠g
 lo:base≤g
variable {w w':World}{base g:Nat}{m x:Int}{pa:Option Addr}{cap:Nat}{L:List Int}
theorem Ob.lt (h:Ob w base g m x pa cap L):g<w.heap.size:=World.block_lt_of_cell? _ _ h.c0
theorem Ob.but {S:Nat→Prop}(h:Ob w base g m x pa cap L)(hb:But S w w')(h1:¬S g)(h2:∀k,Blk pa k→¬S k):Ob w' base g m x pa cap L :=
 ⟨cell_but hb h.c0 h1,h.c1.but hb h1,h.c2.but hb h1,h.own.but hb h2,h.ap,h.lo⟩
theorem Ob.later (h:Ob w base g m x pa cap L)(hb:Below w.heap.size w w'):Ob w' base g m x pa cap L:=h.but (S:=fun _=>False) (But.of hb) (fun h=>h) (fun _ _ h=>h)
theorem Ob.hb (h:Ob w base g m x pa cap L):base≤w.heap.size:=by have:=h.lo;have:=h.lt;omega
structure Rd (w w':World)(g:Nat)(pa pa':Option Addr):Prop where
 but:But (fun k=>k=g∨Blk pa k) w w'
 on:∀k,Blk pa' k→Blk pa k∨w.heap.size≤k
theorem Rd.refl (g:Nat)(pa:Option Addr)(h:Below w.heap.size w w'):Rd w w' g pa pa:=⟨But.of h,fun _ h=>.inl h⟩
theorem Rd.below {pa':Option Addr}{u:World}(h:Rd w w' g pa pa')(ho:Ob w base g m x pa cap L)(hb:Below base u w):Below base u w' :=
 ⟨h.but.os.trans hb.os,h.but.tape.trans hb.tape,h.but.output.trans hb.output,Nat.le_trans hb.size h.but.size,fun k hk=>(h.but.block k (by have:=ho.hb;omega) (fun e=>by
  rcases e with e|e
  ·have:=ho.lo;omega
  ·have:=ho.own.blk k e;omega)).trans (hb.block k hk)⟩
theorem Ob.put {pb:Option Addr}{c:Nat}{M:List Int}(h:Ob w base g m x pa cap L)(hG:Gr pa pb w w')(ho:Own w' base 3 pb M.length c (ints M)):Ob (w'.setCell ⟨g,2,none⟩ (.slice pb M.length c)) base g m x pb c M∧Rd w (w'.setCell ⟨g,2,none⟩ (.slice pb M.length c)) g pa pb:=by
 have hn:¬Blk pa g:=fun e=>h.ap g e rfl
 have hap:∀k,Blk pb k→k≠g:=fun k hk=>by
  rcases hG.on k hk with e|e
  ·exact h.ap k e
  ·have:=h.lt;omega
 exact⟨⟨by rw [World.cell?_setCell_other _ _ _ _ (by simp)];exact cell_but hG.but h.c0 hn,(h.c1.but hG.but hn).other (by simp),(h.c2.but hG.but hn).put,ho.but ((But.refl (fun k=>k=g) w').setCell (p:=⟨g,2,none⟩) rfl _) hap,hap,h.lo⟩,
  (hG.but.mono (fun k hk=>.inr hk)).setCell (.inl rfl) _,fun k hk=>hG.on k hk⟩
theorem Ob.setX (h:Ob w base g m x pa cap L)(y:Int):Ob (w.setCell ⟨g,1,none⟩ (.int .i64 y)) base g m y pa cap L∧But (fun k=>k=g) w (w.setCell ⟨g,1,none⟩ (.int .i64 y)):=by
 have hb:But (fun k=>k=g) w (w.setCell ⟨g,1,none⟩ (.int .i64 y)):=(But.refl (fun k=>k=g) w).setCell (p:=⟨g,1,none⟩) rfl _
 exact⟨⟨by rw [World.cell?_setCell_other _ _ _ _ (by simp)];exact h.c0,h.c1.put,h.c2.other (by simp),h.own.but hb h.ap,h.ap,h.lo⟩,hb⟩
end Go.Proofs.YtffmodpgddecnaaGreat.P
namespace Go.Proofs.YtffmodpgddecnaaGreat.S
open Go.RowKit
theorem info5:(Tryz.prog.info? 5).map (fun i=>(i.zero,i.size,i.bytes))=some (some (.int .u8 0),1,1):=by kernel_rfl
def u8s (l:List Nat):List Value:=l.map fun (n:Nat)=>Value.int .u8 (n:Int)
theorem u8s_length (l:List Nat):(u8s l).length=l.length:=by simp [u8s]
theorem u8s_one (l:List Nat):∀u∈u8s l,u.oneCell'=true:=by
 intro u hu
 simp only [u8s,List.mem_map] at hu
 obtain⟨n,_,rfl⟩:=hu
 rfl
theorem append_bytes {w:World}{base:Nat}{a:Option Addr}{n cap:Nat}{L:List Value}{b:Option Addr}{m c:Nat}{M:List Value}(h:Own w base 5 a n cap L)(k:Row w b m c M)(hb:base≤w.heap.size)(hr:n+m≤140737488355328) :
  ∃a' cap' w',(Builtin.append_ #[39,39] 39 #[.slice a n cap,.slice b m c]).run Tryz.prog w=.ok (.slice a' (n+m) cap') w'∧Own w' base 5 a' (n+m) cap' (L++M)∧Gr a a' w w' :=
 append_gen 39 5 _ 1 Tryz.underlying39 info5 rfl h k hb (by omega) hr
end Go.Proofs.YtffmodpgddecnaaGreat.S
namespace Go.Proofs.YtffmodpgddecnaaGreat.S
open Go.RowKit
structure Arn (w:World)(g pb n:Nat)(t:Nat→Bool)(B:Nat→Nat→Nat):Prop where
 ne:g≠pb
 le:n≤256
 head:w.cell? ⟨g,0,none⟩=some (.slice (some ⟨pb,0,none⟩) n n)
 mark:∀i,i<256→Lies w ⟨g,1+i,none⟩ (.bool (t i))
 page:∀i j,i<n→j<64→Lies w ⟨pb,i*64+j,none⟩ (.int .u8 ((B i j:Nat):Int))
 lt:pb<w.heap.size
 only:∀i,t i=true→i<n
 zero:∀i j,t i=false→B i j=0
 small:∀i j,B i j<256
theorem Arn.but {S:Nat→Prop}{w w':World}{g pb n:Nat}{t:Nat→Bool}{B:Nat→Nat→Nat}(hb:But S w w')(h:Arn w g pb n t B)(h1:¬S g)(h2:¬S pb):Arn w' g pb n t B :=
 ⟨h.ne,h.le,cell_but hb h.head h1,fun i hi=>(h.mark i hi).but hb h1,fun i j hi hj=>(h.page i j hi hj).but hb h2,Nat.lt_of_lt_of_le h.lt hb.size,h.only,h.zero,h.small⟩
theorem Arn.later {w w':World}{g pb n:Nat}{t:Nat→Bool}{B:Nat→Nat→Nat}(hb:Below w.heap.size w w')(h:Arn w g pb n t B):Arn w' g pb n t B :=
 h.but (S:=fun _=>False) (But.of hb) (fun h=>h) (fun h=>h)
theorem Arn.alloc {w:World}{g pb n:Nat}{t:Nat→Bool}{B:Nat→Nat→Nat}(h:Arn w g pb n t B)(o:Obj):Arn (w.alloc o) g pb n t B:=h.later (below1 _ _)
theorem Arn.glt {w:World}{g pb n:Nat}{t:Nat→Bool}{B:Nat→Nat→Nat}(h:Arn w g pb n t B):g<w.heap.size:=World.block_lt_of_cell? _ _ h.head
end Go.Proofs.YtffmodpgddecnaaGreat.S
namespace Go.Proofs.YtffmodpgddecnaaGreat.S
open Go.RowKit
def lst (n:Nat)(t:Nat→Bool)(b:Bool):List Nat:=(List.range n).filter fun i=>t i==b
def nats (l:List Nat):List Int:=l.map fun (k:Nat)=>(k:Int)
theorem lst_succ (n:Nat)(t:Nat→Bool)(b:Bool):lst (n+1) t b=lst n t b++(if t n==b then [n] else []):=by
 simp only [lst,List.range_succ,List.filter_append]
 congr 1
 by_cases h:t n==b<;>simp [h]
theorem mem_lst {n:Nat}{t:Nat→Bool}{b:Bool}{i:Nat}:i∈lst n t b↔i<n∧t i=b:=by simp [lst]
end Go.Proofs.YtffmodpgddecnaaGreat.S
namespace Go.Proofs.YtffmodpgddecnaaGreat.S
open Go.RowKit
def pgL (B:Nat→Nat→Nat)(p off m:Nat):List Nat:=(List.range m).map fun k=>B p (off+k)
theorem pgL_length (B:Nat→Nat→Nat)(p off m:Nat):(pgL B p off m).length=m:=by simp [pgL]
theorem pgL_get (B:Nat→Nat→Nat)(p off m k:Nat)(h:k<m):(u8s (pgL B p off m))[k]?=some (.int .u8 ((B p (off+k):Nat):Int)):=by simp [u8s,pgL,h]
theorem Arn.range {w:World}{g pb n:Nat}{t:Nat→Bool}{B:Nat→Nat→Nat}(h:Arn w g pb n t B){p:Nat}(hp:p<n):w.rangeAt pb (p*64) (u8s (pgL B p 0 64)):=fun j v hv=>by
 have hj:j<64:=by have:=(List.getElem?_eq_some_iff.1 hv).1;rwa [u8s_length,pgL_length] at this
 rw [pgL_get _ _ _ _ _ hj,Nat.zero_add] at hv
 cases hv
 exact (h.page p j hp hj).1
end Go.Proofs.YtffmodpgddecnaaGreat.S
namespace Go.Proofs.YtffmodpgddecnaaGreat.S
open Go.RowKit
theorem Arn.ext {w:World}{g pb n:Nat}{t:Nat→Bool}{B C:Nat→Nat→Nat}(h:Arn w g pb n t B)(e:∀i j,i<n→j<64→C i j=B i j)(hz:∀i j,t i=false→C i j=0)(hs:∀i j,C i j<256):Arn w g pb n t C :=
 ⟨h.ne,h.le,h.head,h.mark,fun i j hi hj=>by rw [e i j hi hj];exact h.page i j hi hj,h.lt,h.only,hz,hs⟩
end Go.Proofs.YtffmodpgddecnaaGreat.S
namespace Go.Proofs.YtffmodpgddecnaaGreat.R
structure Cl where
 op:Int
 by_:Int
 size:Int
 obj:Int
 hi:Nat
 lo:Nat
 given:Bool
 rights:Int
 off:Int
 n:Int
 data:List Nat
 index:Int
 gifts:List Int
def clz (op by_:Int):Cl:=⟨op,by_,0,0,0,0,false,0,0,0,[],0,[]⟩
def wi (n a b:Int):Bool:=decide (a≤n)&&decide (n≤b)
def sgB (n:Int):Bool:=wi n (-2147483648) 2147483647
def gfB (l:List Int):Bool:=decide (l.length≤255)&&l.all (fun g=>wi g 0 65535)
def inB (c:Cl):Bool:=wi c.by_ 0 65535&&sgB c.size&&sgB c.off&&sgB c.n&&wi c.obj 0 4611686018427387904&&wi c.rights 0 255&&wi c.index 0 65535&&decide (c.data.length≤1025)&&gfB c.gifts
def wmB (c:Cl):Bool:=if c.op=5∨c.op=6 then c.given||decide (c.hi=0∧c.lo=0) else true
def partsL (op:Int):List Nat :=
 if op=1 then [0] else if op=2∨op=4∨op=7 then [1,2] else if op=3 then [1,2,4] else if op=5 then [1,3,2,5,6] else if op=6 then [1,3,2,5,7] else if op=8 then [8] else if op=9 then [9] else []
def mv (p:Nat)(c d:Cl):Cl :=
 if p=0 then { c with size:=d.size } else if p=1 then { c with obj:=d.obj } else if p=2 then { c with hi:=d.hi,lo:=d.lo } else if p=3 then { c with given:=d.given } else if p=4 then { c with rights:=d.rights }
 else if p=5 then { c with off:=d.off } else if p=6 then { c with n:=d.n } else if p=7 then { c with data:=d.data } else if p=8 then { c with index:=d.index } else if p=9 then { c with gifts:=d.gifts } else c
def wo (c:Cl)(p:Nat):Cl:=mv p c (clz 0 0)
def unu (c:Cl):Cl:=(partsL c.op).foldl wo c
def blB (c:Cl):Bool:=decide (c.size=0)&&decide (c.obj=0∧c.hi=0∧c.lo=0)&&!c.given&&decide (c.rights=0)&&decide (c.off=0)&&decide (c.n=0)&&decide (c.data.length=0)&&decide (c.index=0)&&decide (c.gifts.length=0)
def fm (c:Cl):Bool:=wi c.op 1 10&&inB c&&wmB c&&blB (unu c)
end Go.Proofs.YtffmodpgddecnaaGreat.R
namespace Go.Proofs.YtffmodpgddecnaaGreat.R
end Go.Proofs.YtffmodpgddecnaaGreat.R
namespace Go.Proofs.YtffmodpgddecnaaGreat.R
open Go.RowKit
def u8s (l:List Nat):List Value:=l.map fun (n:Nat)=>Value.int .u8 (n:Int)
theorem u8s_length (l:List Nat):(u8s l).length=l.length:=by simp [u8s]
theorem u8s_get (l:List Nat)(i:Nat)(h:i<l.length):(u8s l)[i]?=some (.int .u8 ((l[i]:Nat):Int)):=by simp [u8s,h]
structure Row (w:World)(a:Option Addr)(n cap:Nat)(L:List Nat):Prop where
 len:L.length=n
 cap_:n≤cap
 none_:a=none→n=0∧cap=0
 cells:∀x,a=some x→∀j u,(u8s L)[j]?=some u→w.cell? (x.add j)=some u
 small:∀x∈L,x<256
theorem Row.later {W w1:World}{a:Option Addr}{n cap:Nat}{L:List Nat}(hb:Below W.heap.size W w1)(h:Row W a n cap L):Row w1 a n cap L :=
 ⟨h.len,h.cap_,h.none_,fun x hx j u hu=>cell_later hb (h.cells x hx j u hu),h.small⟩
theorem Row.alloc {w:World}{a:Option Addr}{n cap:Nat}{L:List Nat}(h:Row w a n cap L)(o:Obj):Row (w.alloc o) a n cap L:=h.later (below1 _ _)
theorem row_nil (w:World):Row w none 0 0 []:=⟨rfl,Nat.le_refl _,fun _=>⟨rfl,rfl⟩,fun _ h=>(by cases h),fun _ h=>(by cases h)⟩
theorem Row.plain {w:World}{a:Option Addr}{n cap:Nat}{L:List Nat}(h:Row w a n cap L)(hl:0<n):∃b o,a=some ⟨b,o,none⟩∧∀i (hi:i<L.length),w.cell? ⟨b,o+i,none⟩=some (.int .u8 ((L[i]:Nat):Int)):=by
 cases a with
 | none=>have:=h.none_ rfl;omega
 | some x =>
  obtain⟨b,o,spot⟩:=x
  have hlen:=h.len
  have h0:=h.cells _ rfl 0 _ (u8s_get L 0 (by omega))
  have hs:spot=none:=by simpa [Addr.add] using World.cell?_spot h0
  subst hs
  refine⟨b,o,rfl,fun i hi=>?_⟩
  have:=h.cells _ rfl i _ (u8s_get L i hi)
  rw [addr_add] at this
  exact this
theorem Row.at {w:World}{b o n cap:Nat}{L:List Nat}(hl:L.length=n)(hc:n≤cap)(hs:∀x∈L,x<256)(h:∀i (hi:i<L.length),w.cell? ⟨b,o+i,none⟩=some (.int .u8 ((L[i]:Nat):Int))):Row w (some ⟨b,o,none⟩) n cap L:=by
 refine⟨hl,hc,fun h=>(by cases h),fun x hx j u hu=>?_,hs⟩
 cases hx
 rw [addr_add]
 have hj:j<L.length:=by have:=(List.getElem?_eq_some_iff.1 hu).1;rwa [u8s_length] at this
 rw [u8s_get L j hj] at hu
 cases hu
 exact h j hj
structure Own (w:World)(base:Nat)(a:Option Addr)(n cap:Nat)(L:List Nat):Prop where
 row:w.ownsRow base 5 1 (.slice a n cap) n (u8s L)
 small:∀x∈L,x<256
theorem Own.len {w:World}{base:Nat}{a:Option Addr}{n cap:Nat}{L:List Nat}(h:Own w base a n cap L):L.length=n:=by
 have:=h.row.1
 rw [u8s_length,Nat.mul_one] at this
 exact this
theorem Own.read {w:World}{base:Nat}{a:Option Addr}{n cap:Nat}{L:List Nat}(h:Own w base a n cap L):Row w a n cap L:=by
 refine⟨h.len,?_,?_,?_,h.small⟩
 ·rcases h.row.2 with ⟨h,hn⟩|⟨g,c,cur,hv,_,_,hc,_⟩
  ·omega
  ·simp only [Value.slice.injEq] at hv;omega
 ·intro ha
  rcases h.row.2 with ⟨h,hn⟩|⟨g,c,cur,hv,_,_,hc,_⟩
  ·simp only [Value.slice.injEq] at h;omega
  ·subst ha;simp at hv
 ·intro x hx j u hu
  rcases h.row.2 with ⟨h,hn⟩|⟨g,c,cur,hv,_,_,hc,_⟩
  ·subst hx;simp at h
  ·subst hx
   simp only [Value.slice.injEq,Option.some.injEq] at hv
   obtain⟨rfl,_,rfl⟩:=hv
   exact h.row.cells (g:=g) rfl j u hu
theorem own_later {W w1:World}{base:Nat}{e:TypeId}{size:Nat}{v:Value}{n:Nat}{xs:List Value}(hb:Below W.heap.size W w1)(h:W.ownsRow base e size v n xs):w1.ownsRow base e size v n xs:=by
 refine⟨h.1,?_⟩
 rcases h.2 with h|⟨g,cap,cur,hv,hg,hh,r⟩
 ·exact .inl h
 ·have hlt:g<W.heap.size:=by
   rcases Nat.lt_or_ge g W.heap.size with h1|h1
   ·exact h1
   ·rw [Array.getElem?_eq_none h1] at hh;cases hh
  exact .inr ⟨g,cap,cur,hv,hg,by rw [hb.block g hlt];exact hh,r⟩
theorem own_block {w:World}{base:Nat}{e:TypeId}{size:Nat}{v:Value}{n:Nat}{xs:List Value}(h:w.ownsRow base e size v n xs):∀k,v.ownBlock=some k→base≤k:=by
 intro k hk
 rcases h.2 with ⟨rfl,_⟩|⟨g,cap,cur,rfl,hg,_⟩
 ·cases hk
 ·simp [Value.ownBlock] at hk;omega
theorem Own.later {W w1:World}{base:Nat}{a:Option Addr}{n cap:Nat}{L:List Nat}(hb:Below W.heap.size W w1)(h:Own W base a n cap L):Own w1 base a n cap L:=⟨own_later hb h.row,h.small⟩
theorem Own.alloc {w:World}{base:Nat}{a:Option Addr}{n cap:Nat}{L:List Nat}(h:Own w base a n cap L)(o:Obj):Own (w.alloc o) base a n cap L:=h.later (below1 _ _)
theorem Own.mono {w:World}{base b:Nat}{a:Option Addr}{n cap:Nat}{L:List Nat}(h:Own w base a n cap L)(hb:b≤base):Own w b a n cap L:=⟨own_mono h.row hb,h.small⟩
theorem Own.nil (w:World)(base:Nat):Own w base .none 0 0 []:=⟨⟨rfl,.inl ⟨rfl,rfl⟩⟩,fun _ h=>(by cases h)⟩
theorem Own.blk {w:World}{base:Nat}{a:Option Addr}{n cap:Nat}{L:List Nat}(h:Own w base a n cap L):∀k,Blk a k→base≤k:=fun k hk=>own_block h.row k (Blk.of.2 hk)
theorem Gr.below {w w':World}{base:Nat}{a a':Option Addr}{n cap:Nat}{L:List Nat}(h:Own w base a n cap L)(g:Gr a a' w w')(hb:base≤w.heap.size):Below base w w' :=
 ⟨g.but.os,g.but.tape,g.but.output,g.but.size,fun k hk=>g.but.block k (by omega) (fun hs=>by have:=h.blk k hs;omega)⟩
theorem Row.one (w:World)(b:Nat)(hb:b<256):Row (w.alloc (Obj.cells #[Value.int .u8 (b:Int)] 5)) (some ⟨w.heap.size,0,.none⟩) 1 1 [b] :=
 Row.at (L:=[b]) rfl (Nat.le_refl _) (fun x hx=>by simp at hx;omega) (fun i hi=>by
  have:i=0:=by simp at hi;omega
  subst this
  simp [go_sem])
end Go.Proofs.YtffmodpgddecnaaGreat.R
namespace Go.Proofs.YtffmodpgddecnaaGreat.R
open Go.RowKit
theorem own_but {S:Nat→Prop}{w w':World}{base:Nat}{e:TypeId}{size:Nat}{v:Value}{n:Nat}{xs:List Value}(hb:But S w w')(h:w.ownsRow base e size v n xs)(hS:∀k,base≤k→¬S k):w'.ownsRow base e size v n xs:=by
 refine⟨h.1,?_⟩
 rcases h.2 with h|⟨g,cap,cur,hv,hg,hh,r⟩
 ·exact .inl h
 ·exact .inr ⟨g,cap,cur,hv,hg,by rw [hb.block g (Array.getElem?_eq_some_iff.1 hh).1 (hS g hg)];exact hh,r⟩
theorem Own.but {S:Nat→Prop}{w w':World}{base:Nat}{a:Option Addr}{n cap:Nat}{L:List Nat}(hb:But S w w')(h:Own w base a n cap L)(hS:∀k,base≤k→¬S k):Own w' base a n cap L:=⟨own_but hb h.row hS,h.small⟩
end Go.Proofs.YtffmodpgddecnaaGreat.R
namespace Go.Proofs.YtffmodpgddecnaaGreat.R
open Go.RowKit
theorem Own.drew {w:World}{base:Nat}{a:Option Addr}{n cap:Nat}{L:List Nat}(h:Own w base a n cap L):Own w.drew base a n cap L:=h.later (Below.refl _ _).drew
theorem Own.lt {w:World}{base:Nat}{a:Option Addr}{n cap:Nat}{L:List Nat}(h:Own w base a n cap L):∀k,Blk a k→k<w.heap.size:=by
 intro k ⟨x,hx,hk⟩
 subst hx
 rcases h.row.2 with ⟨h,_⟩|⟨g',c,cur,hv,_,hh,_⟩
 ·simp at h
 ·simp only [Value.slice.injEq,Option.some.injEq] at hv
  obtain⟨rfl,_⟩:=hv
  subst hk
  exact (Array.getElem?_eq_some_iff.1 hh).1
end Go.Proofs.YtffmodpgddecnaaGreat.R
namespace Go.Proofs.YtffmodpgddecnaaGreat.R
open Go.RowKit
end Go.Proofs.YtffmodpgddecnaaGreat.R
