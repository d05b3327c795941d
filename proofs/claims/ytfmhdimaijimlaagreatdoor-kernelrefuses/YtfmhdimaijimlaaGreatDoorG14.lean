import Derived.Test.YtfmhdimaijimlaaGreatDoorG13
import Derived.Test.YtfmhdimaijimlaaGreatDoorG08
import Derived.LaidEql
import Derived.Stop.Asserts
import Derived.RowKitTokens
set_option linter.unusedVariables false
set_option linter.unusedSimpArgs false
set_option maxRecDepth 1000000
set_option maxHeartbeats 8000000
namespace Go.Proofs.YtfmhdimaijimlaaGreatDoor.D
open Go.RowKit
open Go.Proofs.YtfmhdimaijimlaaGreatDoor.H (B64)
def Spec (P:Nat→Bool)(c:Nat→Nat)(n k t:Nat)(R:Nat×Int×Nat):Prop :=
 ∃q:Nat,R.2.2=t+q∧q≤k∧t+q≤n ∧
  ((R.2.1=0∧0<q∧R.1=c (t+q - 1)∧P R.1=false∧∀j,j<q - 1→P (c (t+j))=true) ∨
  (R.2.1=11∧R.1=0∧t+q=n∧q<k∧∀j,j<q→P (c (t+j))=true) ∨
  (R.2.1=12∧R.1=0∧q=k∧∀j,j<q→P (c (t+j))=true))
theorem drawR_spec {P:Nat→Bool}{c:Nat→Nat}{n:Nat}:∀{k t:Nat},t≤n→Spec P c n k t (drawR P c n k t)
 | 0,t,h=>⟨0,rfl,Nat.le_refl _,h,.inr (.inr ⟨rfl,rfl,rfl,fun j hj=>by omega⟩)⟩
 | k+1,t,h=>by
  by_cases ht:t<n
  ·cases hp:P (c t) with
   | false =>
    rw [drawR_new ht hp]
    exact⟨1,rfl,by omega,by omega,.inl ⟨rfl,by omega,rfl,hp,fun j hj=>by omega⟩⟩
   | true =>
    rw [drawR_old ht hp]
    obtain⟨q,h1,h2,h3,hc⟩:=drawR_spec (P:=P) (c:=c) (n:=n) (k:=k) (t:=t+1) (by omega)
    have hall:∀s,(∀j,j<s→P (c (t+1+j))=true)→∀j,j<s+1→P (c (t+j))=true:=fun s hs j hj=>by
     cases j with
     | zero=>exact hp
     | succ j =>
      have:=hs j (by omega)
      rwa [show t+1+j=t+(j+1) by omega] at this
    refine⟨q+1,by rw [h1];omega,by omega,by omega,?_⟩
    rcases hc with ⟨e1,e2,e3,e4,e5⟩|⟨e1,e2,e3,e4,e5⟩|⟨e1,e2,e3,e5⟩
    ·refine .inl ⟨e1,by omega,by rw [e3];congr 1;omega,e4,?_⟩
     have:=hall (q - 1) e5
     rwa [show q - 1+1=q+1 - 1 by omega] at this
    ·exact .inr (.inl ⟨e1,e2,by omega,by omega,hall q e5⟩)
    ·exact .inr (.inr ⟨e1,e2,by omega,hall q e5⟩)
  ·rw [drawR_end ht]
   exact⟨0,rfl,by omega,by omega,.inr (.inl ⟨rfl,rfl,by omega,by omega,fun j hj=>by omega⟩)⟩
def ofP (X:List Tk)(l:Fo)(o:Int)(N:Nat):Bool:=hasC X l (o,N / B64,N%B64)
theorem half_lt {N:Nat}(h:N<B64*B64):N / B64<B64∧N%B64<B64:=⟨Nat.div_lt_of_lt_mul h,Nat.mod_lt _ (by decide)⟩
theorem isOf_any {w:World}{k1 k2:Nat}{A:Ad}{kn mo:Nat}{X:List Tk}{l:Fo}{o:Int}(h1:w.cell? ⟨k1,0,none⟩=some (.pointer (some ⟨A.g,0,none⟩)))(h2:w.cell? ⟨k2,0,none⟩=some (.int .i64 o))(h:Cat w A kn mo X l){N:Nat}(hN:N<B64*B64) :
  Calls Tryz.prog 235 #[.agg #[.int .u64 (hiI N),.int .u64 (loI N)],.pointer (some ⟨k1,0,none⟩),.pointer (some ⟨k2,0,none⟩)] w fun e w'=>e=.returned (.bool (ofP X l o N))∧Below w.heap.size w w':=by
 have hb:=below1 w (Obj.cells #[.int .u64 (hiI N),.int .u64 (loI N)] 31)
 have hc:Hid (Calls Tryz.prog 196 #[.pointer (some ⟨A.g,0,none⟩),.agg #[.int .i64 o,.int .u64 (hiI N),.int .u64 (loI N)]] (w.alloc (Obj.cells #[.int .u64 (hiI N),.int .u64 (loI N)] 31)) fun e w'=>e=.returned (.tuple #[.int .i64 (findN X l (o,N / B64,N%B64)),.bool (ofP X l o N)])∧Below (w.alloc (Obj.cells #[.int .u64 (hiI N),.int .u64 (loI N)] 31)).heap.size (w.alloc (Obj.cells #[.int .u64 (hiI N),.int .u64 (loI N)] 31)) w'):=cfind_any (h.later hb) (o,N / B64,N%B64) (half_lt hN)
 have y1:=cell_later hb h1
 have y2:=cell_later hb h2
 generalize findN X l (o,N / B64,N%B64)=q at *
 generalize ofP X l o N=P at *
 clear h h1 h2 hb
 go_enter Tryz.func235,Tryz.ntmps235
 go_wp2_with (first|(go_at_call 196;refine hc.out.mono ?_;rintro e w1 ⟨rfl,hB⟩;have HB:=hid hB;clear hB))
 go_ret
 exact⟨rfl,bc (below1 _ _) HB.out⟩
theorem iof_any {w:World}{g gb n:Nat}{c:Nat→Nat}{t:Nat}(h:Dr w g gb n c t)(hcs:∀i,i<n→c i<B64*B64){A:Ad}{kn mo:Nat}{X:List Tk}{l:Fo}(hc:Cat w A kn mo X l)(hn:∀k,A.All k→k≠g)(o:Int) :
  Calls Tryz.prog 204 #[.pointer (some ⟨g,0,none⟩),.pointer (some ⟨A.g,0,none⟩),.int .i64 o] w (Drawn w g gb n c t (ofP X l o)):=by
 obtain⟨w1,hw1⟩:∃w1,w1=((w.alloc (Obj.cells #[.pointer (some ⟨A.g,0,none⟩)] 82)).alloc (Obj.cells #[.int .i64 o] 3)).alloc (Obj.cells #[.int .u64 0,.int .u64 0] 31):=⟨_,rfl⟩
 have hB1:Below w.heap.size w w1:=by rw [hw1];exact (below2 _ _ _).alloc (by simp;omega) _
 have x0:w1.cell? ⟨w.heap.size,0,none⟩=some (.pointer (some ⟨A.g,0,none⟩)):=by rw [hw1];simp [go_sem]
 have x1:w1.cell? ⟨w.heap.size+1,0,none⟩=some (.int .i64 o):=by rw [hw1];simp [go_sem]
 have l0:Lies w1 ⟨w.heap.size+1+1,0,none⟩ (.int .u64 0):=by rw [hw1];exact⟨by simp [go_sem],by simp [go_sem]⟩
 have l1:Lies w1 ⟨w.heap.size+1+1,1,none⟩ (.int .u64 0):=by rw [hw1];exact⟨by simp [go_sem],by simp [go_sem]⟩
 have hg:=h.lt
 have HG:=hid h.lt2
 have hcc:=hid (fresh50 (h.later hB1) hcs (ofP X l o) w.heap.size (w.heap.size+1) (fun W hW N hN=>isOf_any (cb_ hW x0 (by show ¬(w.heap.size=g);omega)) (cb_ hW x1 (by show ¬(w.heap.size+1=g);omega)) ((hc.later hB1).but hW (fun k hk=>hn k hk)) hN))
 have HB1:Hid (But (·=g) w w1):=But.of hB1
 have HL:=hid (And.intro l0 l1)
 clear h hc hB1 x0 x1 l0 l1 hn
 go_enter Tryz.func204,Tryz.ntmps204
 go_upto_region 1 with fail
 rw [←hw1]
 clear hw1
 obtain⟨R,hR⟩:∃R,R=drawR (ofP X l o) c n 9 t:=⟨_,rfl⟩
 unfold Drawn at hcc
 rw [←hR] at hcc
 have HR:=hid hR
 clear hR
 go_upto_region 2 with (first|(go_at_call 234;refine hcc.out.mono ?_;rintro e w2 ⟨rfl,hD,hB⟩;have HD:=hid hD;have HB:=hid (HB1.out.trans hB);have HL2:Hid (Lies w2 ⟨w.heap.size+1+1,0,none⟩ (.int .u64 0)∧Lies w2 ⟨w.heap.size+1+1,1,none⟩ (.int .u64 0)):=⟨HL.out.1.but hB (by show ¬(w.heap.size+1+1=g);omega),HL.out.2.but hB (by show ¬(w.heap.size+1+1=g);omega)⟩;clear hD hB;have x0:=HL2.out.1.1;have x1:=HL2.out.2.1;have f0:=HL2.out.1.2;have f1:=HL2.out.2.2))
 have HQ:=hid (two_set x0 x1 (.int .u64 (hiI R.1)) (.int .u64 (loI R.1)))
 refine bodyPost_ret (v:=.tuple #[.agg #[.int .u64 (hiI R.1),.int .u64 (loI R.1)],.int .i64 R.2.1]) (by simp [results,Tryz.results204,go_sem,HQ.out.1,HQ.out.2]) rfl ?_
 show Drawn _ _ _ _ _ _ _ _ _
 unfold Drawn
 rw [←HR.out]
 refine⟨rfl,?_,?_⟩
 ·exact (HD.out.freshN (b:=w.heap.size+1+1) (by omega) (fun h0=>by have:=HG.out h0;omega) 0 _).freshN (b:=w.heap.size+1+1) (by omega) (fun h0=>by have:=HG.out h0;omega) 1 _
 ·exact (HB.out.put (p:=⟨w.heap.size+1+1,0,none⟩) (by show _≤w.heap.size+1+1;omega) _).put (p:=⟨w.heap.size+1+1,1,none⟩) (by show _≤w.heap.size+1+1;omega) _
open Go.Proofs.YtfmhdimaijimlaaGreatDoor.H (B64 Cp)
structure Sta where
 X:List Tk
 l:Fo
 L:List Int
 t:Nat
structure Par where
 mo:Nat
 e:Int
 a:Int
 n:Nat
 c:Nat→Nat
structure Fit (P:Par)(s:Sta):Prop where
 inv:Inv P.mo s.X s.l
 cnt:∀o,s.L.count o=inN s.X s.l o
 len:s.L.length=s.l.length
 top:P.a≤(P.mo:Int)
 le:s.t≤P.n
 cs:∀i,i<P.n→P.c i<B64*B64
theorem inN_add {m:Nat}{X:List Tk}{l:Fo}(h:Inv m X l){k:Nat}(p:Int)(c:Cp)(r:Int)(hk:k<m)(hn:(k:Int)∉nums l)(o:Int) :
  inN (X.set k (c,r)) (l++[((k:Int),p)]) o=inN X l o+if c.1=o then 1 else 0:=by
 unfold inN
 rw [nums_app,List.filter_append,List.length_append]
 congr 1
 ·congr 1
  refine List.filter_congr (fun x hx=>?_)
  unfold ob
  rw [tk_set_other _ (nums_nn h.ok hx) (fun e=>hn (e ▸ hx))]
 ·have hs:ob (X.set k (c,r)) (k:Int)=c.1:=by unfold ob;rw [tk_set_same _ (by rw [h.len];exact hk)]
  by_cases e:c.1=o
  ·rw [if_pos e,List.filter_cons_of_pos (by simp [hs,e])];rfl
  ·rw [if_neg e,List.filter_cons_of_neg (by simp [hs,e])];rfl
theorem hasO_inN {X:List Tk}{l:Fo}{o:Int}:hasO X l o=true↔0<inN X l o:=by
 rw [hasO_iff]
 unfold inN
 rw [List.length_pos_iff_exists_mem]
 constructor
 ·rintro ⟨n,hn,e⟩;exact⟨n,List.mem_filter.2 ⟨hn,decide_eq_true e⟩⟩
 ·rintro ⟨n,hn⟩;exact⟨n,(List.mem_filter.1 hn).1,of_decide_eq_true (List.mem_filter.1 hn).2⟩
theorem Fit.room {P:Par}{s:Sta}(h:Fit P s){o:Int}(hm:Q.may P.e P.a s.L o=0):s.l.length<P.mo:=by
 have:=(Q.may_zero hm).2
 have:=h.len
 have:=h.top
 omega
def cap (o:Int)(N:Nat):Cp:=(o,N / B64,N%B64)
structure Ans where
 c:Cp
 code:Int
 s:Sta
def no (s:Sta)(c:Int):Ans:=⟨(0,0,0),c,s⟩
def addS (s:Sta)(o:Int)(N:Nat)(p r:Int)(t:Nat):Sta:=⟨s.X.set (low s.l) (cap o N,r),s.l++[((low s.l:Int),p)],s.L++[o],t⟩
def tokR (P:Par)(s:Sta)(o:Int)(D:Nat×Int×Nat)(p r:Int):Ans :=
 if Q.may P.e P.a s.L o≠0 then no s (Q.may P.e P.a s.L o) else if D.2.1≠0 then no { s with t:=D.2.2 } D.2.1 else ⟨cap o D.1,0,addS s o D.1 p r D.2.2⟩
def drawD (P:Par)(t:Nat):Nat×Int×Nat:=if t<P.n then (P.c t,0,t+1) else (0,11,t)
def childD (P:Par)(s:Sta)(o:Int):Nat×Int×Nat:=drawR (ofP s.X s.l o) P.c P.n 9 s.t
def rootA (P:Par)(s:Sta)(o:Int):Ans:=if 0<inN s.X s.l o then no s 19 else tokR P s o (drawD P s.t) (-1) 31
def rgt (s:Sta)(c:Cp):Int:=rg s.X (findN s.X s.l c)
def childA (P:Par)(s:Sta)(c:Cp)(r:Int):Ans :=
 if hasC s.X s.l c=false then no s 3 else if partB 4 (rgt s c)=false∨partB r (rgt s c)=false then no s 4 else tokR P s c.1 (childD P s c.1) (findN s.X s.l c) r
structure May (P:Par)(s:Sta)(c:Cp)(p r:Int):Prop where
 new:hasC s.X s.l c=false
 wide:c.2.1<B64∧c.2.2<B64
 val:validB r=true
 at_:(p=-1∧hasO s.X s.l c.1=false)∨(p∈nums s.l∧ob s.X p=c.1∧partB r (rg s.X p)=true)
theorem addR_ok {P:Par}{s:Sta}(h:Fit P s){o:Int}{N:Nat}{p r:Int}(hm:Q.may P.e P.a s.L o=0)(hc:hasC s.X s.l (cap o N)=false) :
  addR P.mo s.X s.l p (cap o N) r=⟨(low s.l:Int),0,s.X.set (low s.l) (cap o N,r),s.l++[((low s.l:Int),p)]⟩:=by
 have:=h.room hm
 unfold addR
 rw [if_neg (by rw [hc];decide),if_neg (by omega)]
theorem rootR_ok {P:Par}{s:Sta}(h:Fit P s){o:Int}{N:Nat}(hm:Q.may P.e P.a s.L o=0)(ho:¬0<inN s.X s.l o) :
  rootR P.mo s.X s.l (cap o N) 31=⟨(low s.l:Int),0,s.X.set (low s.l) (cap o N,31),s.l++[((low s.l:Int),-1)]⟩:=by
 have hO:¬hasO s.X s.l o=true:=fun e=>ho (hasO_inN.1 e)
 have hC:hasC s.X s.l (cap o N)=false:=by
  cases hc:hasC s.X s.l (cap o N) with
  | false=>rfl
  | true=>exact absurd (hasO_of_hasC hc) hO
 unfold rootR
 rw [if_neg (by decide),if_neg (show ¬hasO s.X s.l (cap o N).1=true from hO)]
 exact addR_ok h hm hC
theorem childR_ok {P:Par}{s:Sta}(h:Fit P s){o:Int}{N:Nat}{p r:Int}(hm:Q.may P.e P.a s.L o=0)(hc:hasC s.X s.l (cap o N)=false)(hp:p∈nums s.l)(ho:ob s.X p=o)(hr:partB r (rg s.X p)=true) :
  childR P.mo s.X s.l p (cap o N) r=⟨(low s.l:Int),0,s.X.set (low s.l) (cap o N,r),s.l++[((low s.l:Int),p)]⟩:=by
 unfold childR
 rw [if_neg (by simp [hp]),if_neg (by simp [ho,cap]),if_neg (by rw [hr];decide)]
 exact addR_ok h hm hc
theorem Fit.add {P:Par}{s:Sta}(h:Fit P s){o:Int}{N:Nat}{p r:Int}{t:Nat}(hm:Q.may P.e P.a s.L o=0)(hy:May P s (cap o N) p r)(ht:t≤P.n):Fit P (addS s o N p r t):=by
 have hr:=h.room hm
 have hlo:=low_lt h.inv.ok hr
 refine⟨h.inv.add hlo (low_not s.l) hy.new hy.wide hy.val hy.at_,fun x=>?_,by simp [addS,h.len],h.top,ht,h.cs⟩
 show (s.L++[o]).count x=inN (s.X.set (low s.l) (cap o N,r)) (s.l++[((low s.l:Int),p)]) x
 rw [inN_add h.inv p (cap o N) r hlo (low_not s.l) x,List.count_append,h.cnt x]
 congr 1
 rw [List.count_singleton]
 by_cases e:o=x
 ·simp [cap,e]
 ·simp [cap,e]
theorem Fit.took {P:Par}{s:Sta}(h:Fit P s){t:Nat}(ht:t≤P.n):Fit P { s with t:=t }:=⟨h.inv,h.cnt,h.len,h.top,ht,h.cs⟩
theorem Fit.tok {P:Par}{s:Sta}(h:Fit P s){o:Int}{D:Nat×Int×Nat}{p r:Int}(ht:D.2.2≤P.n)(hy:Q.may P.e P.a s.L o=0→D.2.1=0→May P s (cap o D.1) p r):Fit P (tokR P s o D p r).s:=by
 unfold tokR
 by_cases hm:Q.may P.e P.a s.L o=0
 ·rw [if_neg (by simp [hm])]
  by_cases hd:D.2.1=0
  ·rw [if_neg (by simp [hd])]
   exact h.add hm (hy hm hd) ht
  ·rw [if_pos hd]
   exact h.took ht
 ·rw [if_pos hm]
  exact h
theorem drawD_le {P:Par}{t:Nat}(h:t≤P.n):(drawD P t).2.2≤P.n:=by unfold drawD;split<;>simp<;>omega
theorem drawD_small {P:Par}{s:Sta}(h:Fit P s)(t:Nat):(drawD P t).1<B64*B64:=by
 unfold drawD
 split
 ·next ht=>exact h.cs t ht
 ·show (0:Nat)<B64*B64;decide
theorem rootMay {P:Par}{s:Sta}(h:Fit P s){o:Int}(ho:¬0<inN s.X s.l o){N:Nat}(hN:N<B64*B64):May P s (cap o N) (-1) 31:=by
 have hO:hasO s.X s.l o=false:=by
  cases hc:hasO s.X s.l o with
  | false=>rfl
  | true=>exact absurd (hasO_inN.1 hc) ho
 refine⟨?_,half_lt hN,by decide,.inl ⟨rfl,hO⟩⟩
 cases hc:hasC s.X s.l (cap o N) with
 | false=>rfl
 | true=>exact absurd (hasO_of_hasC hc) (by show ¬hasO s.X s.l o=true;rw [hO];decide)
theorem Fit.root {P:Par}{s:Sta}(h:Fit P s)(o:Int):Fit P (rootA P s o).s:=by
 unfold rootA
 by_cases ho:0<inN s.X s.l o
 ·rw [if_pos ho];exact h
 ·rw [if_neg ho]
  exact h.tok (drawD_le h.le) (fun _ _=>rootMay h ho (drawD_small h s.t))
theorem childD_spec {P:Par}{s:Sta}(h:Fit P s)(o:Int):Spec (ofP s.X s.l o) P.c P.n 9 s.t (childD P s o):=drawR_spec h.le
theorem childD_new {P:Par}{s:Sta}(h:Fit P s){o:Int}(hd:(childD P s o).2.1=0):hasC s.X s.l (cap o (childD P s o).1)=false:=by
 obtain⟨q,h1,h2,h3,hc⟩:=childD_spec h o
 rcases hc with ⟨e1,e2,e3,e4,e5⟩|⟨e1,_⟩|⟨e1,_⟩
 ·exact e4
 ·rw [hd] at e1;cases e1
 ·rw [hd] at e1;cases e1
theorem found {m:Nat}{X:List Tk}{l:Fo}(h:Inv m X l){c:Cp}(hc:hasC X l c=true):findN X l c∈nums l∧(tk X (findN X l c)).1=c:=by
 obtain⟨n,hn,rfl⟩:=hasC_iff.1 hc
 rw [findN_in h hn]
 exact⟨hn,rfl⟩
theorem childMay {P:Par}{s:Sta}(h:Fit P s){c:Cp}{r:Int}(hc:hasC s.X s.l c=true)(hp:partB r (rgt s c)=true)(hd:(childD P s c.1).2.1=0):May P s (cap c.1 (childD P s c.1).1) (findN s.X s.l c) r:=by
 obtain⟨h1,h2⟩:=found h.inv hc
 exact⟨childD_new h hd,half_lt (drawR_small h.cs),partB_valid hp,.inr ⟨h1,by unfold ob;rw [h2];rfl,hp⟩⟩
theorem Fit.child {P:Par}{s:Sta}(h:Fit P s)(c:Cp)(r:Int):Fit P (childA P s c r).s:=by
 unfold childA
 by_cases hc:hasC s.X s.l c=true
 ·rw [if_neg (by rw [hc];decide)]
  by_cases hp:partB 4 (rgt s c)=false∨partB r (rgt s c)=false
  ·rw [if_pos hp];exact h
  ·rw [if_neg hp]
   have hp2:partB r (rgt s c)=true:=by
    cases hq:partB r (rgt s c) with
    | true=>rfl
    | false=>exact absurd (.inr hq) hp
   exact h.tok (drawR_le h.le) (fun _ hd=>childMay h hc hp2 hd)
 ·rw [if_pos (by simpa using hc)];exact h
end Go.Proofs.YtfmhdimaijimlaaGreatDoor.D
namespace Go.Proofs.YtfmhdimaijimlaaGreatDoor.V
open Go.RowKit
open Go.Proofs.YtfmhdimaijimlaaGreatDoor.H (B64 Cp)
structure Sta where
 X:List Tk
 l:Fo
 L:List Int
 nx:Int
 V:List (Int×List Nat)
 t:Nat
 px:Int
 P:List Int
 ks:List Int
 D:Int→List Cp
structure Fit (mo:Nat)(s:Sta):Prop where
 inv:Inv mo s.X s.l
 cnt:∀o,s.L.count o=inN s.X s.l o
 len:s.L.length=s.l.length
 obj:∀o,(∃p∈s.V,p.1=o)↔hasO s.X s.l o=true
 ids:∀p∈s.V,1≤p.1∧p.1<s.nx
open Go.Proofs.YtfmhdimaijimlaaGreatDoor.D (hasO_inN)
theorem nd_app {A B:List Int}(hA:A.Nodup)(hB:B.Nodup)(h:∀x∈A,x∉B):(A++B).Nodup:=List.nodup_append.2 ⟨hA,hB,fun a ha b hb e=>h a ha (e ▸ hb)⟩
theorem nums_cuts_nd {m:Nat}{l:Fo}(h:Ok m l)(A:List Int):(nums (cuts l A)).Nodup:=by
 have h1:(nums (cuts l A)).Sublist (nums l):=by
  unfold nums cuts
  exact List.Sublist.map _ List.filter_sublist
 exact h1.nodup h.nodup
theorem G_obj {m:Nat}{X:List Tk}{l:Fo}(h:Inv m X l){n k:Int}(hk:k∈G true l n):ob X k=ob X n:=by
 have h1:=(mem_G_iff h.ok).1 hk
 exact (h.same k (U_mem h1) n h1).symm
theorem inN_drop {m:Nat}{X:List Tk}{l:Fo}(h:Inv m X l)(n o:Int):inN (zer X (G true l n)) (cuts l (G true l n)) o+(if ob X n=o then (G true l n).length else 0)=inN X l o:=by
 have hob:∀k∈nums (cuts l (G true l n)),ob (zer X (G true l n)) k=ob X k:=fun k hk=>by
  unfold ob
  rw [zer_tk _ _ _ (nums_nn h.ok (nums_cuts.1 hk).1) (fun a ha=>nums_nn h.ok (G_nums h.ok ha)) (nums_cuts.1 hk).2]
 have hmem:∀k,k∈(nums (cuts l (G true l n))).filter (fun k=>decide (ob (zer X (G true l n)) k=o))↔k∈nums l∧k∉G true l n∧ob X k=o:=fun k=>by
  rw [List.mem_filter,decide_eq_true_eq]
  constructor
  ·rintro ⟨h1,h2⟩
   rw [hob k h1] at h2
   exact⟨(nums_cuts.1 h1).1,(nums_cuts.1 h1).2,h2⟩
  ·rintro ⟨h1,h2,h3⟩
   have h4:=nums_cuts.2 ⟨h1,h2⟩
   exact⟨h4,by rw [hob k h4];exact h3⟩
 have hnd:((nums (cuts l (G true l n))).filter (fun k=>decide (ob (zer X (G true l n)) k=o))).Nodup:=List.Nodup.sublist List.filter_sublist (nums_cuts_nd h.ok _)
 have hnd2:((nums l).filter (fun k=>decide (ob X k=o))).Nodup:=List.Nodup.sublist List.filter_sublist h.ok.nodup
 unfold inN
 by_cases e:ob X n=o
 ·rw [if_pos e,←List.length_append]
  refine same_len (nd_app hnd (G_nodup h.ok true n) (fun x hx=>((hmem x).1 hx).2.1)) hnd2 (fun x=>?_)
  rw [List.mem_append,hmem,List.mem_filter,decide_eq_true_eq]
  constructor
  ·rintro (⟨h1,_,h3⟩|h1)
   ·exact⟨h1,h3⟩
   ·exact⟨G_nums h.ok h1,by rw [G_obj h h1];exact e⟩
  ·rintro ⟨h1,h2⟩
   by_cases hg:x∈G true l n
   ·exact .inr hg
   ·exact .inl ⟨h1,hg,h2⟩
 ·rw [if_neg e,Nat.add_zero]
  refine same_len hnd hnd2 (fun x=>?_)
  rw [hmem,List.mem_filter,decide_eq_true_eq]
  constructor
  ·rintro ⟨h1,_,h3⟩
   exact⟨h1,h3⟩
  ·rintro ⟨h1,h2⟩
   exact⟨h1,fun hg=>e (by rw [←G_obj h hg];exact h2),h2⟩
theorem cuts_len {m:Nat}{X:List Tk}{l:Fo}(h:Inv m X l)(n:Int):(cuts l (G true l n)).length+(G true l n).length=l.length:=by
 rw [←nums_len,←nums_len l,←List.length_append]
 refine same_len (nd_app (nums_cuts_nd h.ok _) (G_nodup h.ok true n) (fun x hx=>(nums_cuts.1 hx).2)) h.ok.nodup (fun x=>?_)
 rw [List.mem_append,nums_cuts]
 constructor
 ·rintro (⟨h1,_⟩|h1)
  ·exact h1
  ·exact G_nums h.ok h1
 ·intro h1
  by_cases hg:x∈G true l n
  ·exact .inr hg
  ·exact .inl ⟨h1,hg⟩
def noV (V:List (Int×List Nat))(o:Int):List (Int×List Nat):=V.filter (fun p=>decide (p.1≠o))
theorem mem_noV {V:List (Int×List Nat)}{o:Int}{p:Int×List Nat}:p∈noV V o↔p∈V∧p.1≠o:=by unfold noV;simp
def felled (s:Sta)(m o:Int):Sta:={ s with X:=zer s.X (G true s.l m),l:=cuts s.l (G true s.l m),L:=Q.subS s.L o ((G true s.l m).length:Int),V:=if par s.l m=-1 then noV s.V o else s.V }
def topOf (X:List Tk)(l:Fo)(o:Int):Int:=(rootOf X l o).getD 0
structure Ans where
 K:List Cp
 code:Int
 s:Sta
def whom (all:Bool)(s:Sta)(c:Cp):Int:=if all then topOf s.X s.l c.1 else findN s.X s.l c
def needB (all:Bool):Int:=if all then 16 else 8
def revA (all:Bool)(s:Sta)(c:Cp):Ans :=
 if hasC s.X s.l c=false then ⟨[],3,s⟩ else if partB (needB all) (rg s.X (findN s.X s.l c))=false then ⟨[],4,s⟩ else
  ⟨(G true s.l (whom all s c)).map (fun k=>(tk s.X k).1),0,felled s (whom all s c) c.1⟩
theorem findN_of {m:Nat}{X:List Tk}{l:Fo}(h:Inv m X l){c:Cp}(hc:hasC X l c=true):findN X l c∈nums l∧(tk X (findN X l c)).1=c:=by
 obtain⟨n,hn,e⟩:=hasC_iff.1 hc
 have:=findN_in h hn
 rw [e] at this
 rw [this]
 exact⟨hn,e⟩
theorem topOf_eq {m:Nat}{X:List Tk}{l:Fo}(h:Inv m X l){r:Int}(hr:(r,-1)∈l):topOf X l (ob X r)=r:=by unfold topOf;rw [rootOf_some h hr];rfl
theorem whom_in {m:Nat}{s:Sta}(h:Inv m s.X s.l){c:Cp}(hc:hasC s.X s.l c=true)(all:Bool):whom all s c∈nums s.l∧ob s.X (whom all s c)=c.1∧(all=true→(whom all s c,-1)∈s.l):=by
 obtain⟨h1,h2⟩:=findN_of h hc
 have h3:ob s.X (findN s.X s.l c)=c.1:=by unfold ob;rw [h2]
 cases all with
 | false=>exact⟨h1,h3,fun e=>by cases e⟩
 | true =>
  obtain⟨r,hr,ho,_⟩:=h.toRoot _ h1
  have e:whom true s c=r:=by
   show topOf s.X s.l c.1=r
   rw [←h3,←ho,topOf_eq h hr]
  rw [e]
  exact⟨mn_.2 ⟨_,hr⟩,by rw [ho,h3],fun _=>hr⟩
theorem root_G_len {m:Nat}{X:List Tk}{l:Fo}(h:Inv m X l){r:Int}(hr:(r,-1)∈l):(G true l r).length=inN X l (ob X r):=by
 unfold inN
 refine same_len (G_nodup h.ok true r) (List.Nodup.sublist List.filter_sublist h.ok.nodup) (fun x=>?_)
 rw [h.mem_root hr,List.mem_filter,decide_eq_true_eq]
theorem root_not {m:Nat}{X:List Tk}{l:Fo}(h:Inv m X l){n r:Int}(hr:(r,-1)∈l)(hne:n≠r):r∉G true l n:=fun e=>by
 have h1:=(mem_G_iff h.ok).1 e
 rw [U_eq h.ok hr] at h1
 rcases List.mem_cons.1 h1 with h2|h2
 ·exact hne h2
 ·rw [U_out (fun h3=>by have:=nums_nn h.ok h3;omega)] at h2
  cases h2
theorem felled_fit {mo:Nat}{s:Sta}(h:Fit mo s){n x:Int}(hn:n∈nums s.l)(hx:ob s.X n=x)(hi:Inv mo (zer s.X (G true s.l n)) (cuts s.l (G true s.l n))):Fit mo (felled s n x)∧Q.subO s.L x ((G true s.l n).length:Int)=0:=by
 have hin:=inN_drop h.inv n
 have hxx:=hin x
 rw [if_pos hx,←h.cnt x] at hxx
 have hno:¬(((G true s.l n).length:Int)<0∨(s.L.count x:Int)<((G true s.l n).length:Int)):=by omega
 have hL:Q.subS s.L x ((G true s.l n).length:Int)=Q.subL x (G true s.l n).length s.L:=by
  unfold Q.subS
  rw [if_neg hno];simp
 refine⟨⟨hi,fun o=>?_,?_,fun o=>?_,fun p hp=>?_⟩,by unfold Q.subO;rw [if_neg hno]⟩
 ·show (Q.subS s.L x _).count o=inN (zer s.X _) (cuts s.l _) o
  have:=hin o
  rw [←h.cnt o] at this
  rw [hL]
  by_cases e:o=x
  ·subst e
   rw [Q.subL_count]
   rw [if_pos hx] at this
   omega
  ·rw [Q.subL_other _ _ _ _ e]
   rw [if_neg (fun h=>e (by rw [←h];exact hx))] at this
   omega
 ·show (Q.subS s.L x _).length=(cuts s.l _).length
  rw [hL]
  have h1:=Q.subL_len x (G true s.l n).length s.L (by omega)
  have h2:=cuts_len h.inv n
  have h3:=h.len
  omega
 ·show (∃p∈(if par s.l n=-1 then noV s.V x else s.V),p.1=o)↔hasO (zer s.X _) (cuts s.l _) o=true
  have h0:=h.obj o
  rw [hasO_inN] at h0 ⊢
  have:=hin o
  obtain⟨p,hp⟩:=mn_.1 hn
  have hpar:=par_eq h.inv.ok hp
  by_cases e:o=x
  ·subst e
   rw [if_pos hx] at this
   by_cases hroot:par s.l n=-1
   ·rw [if_pos hroot]
    rw [hpar] at hroot
    subst hroot
    have h1:=root_G_len h.inv hp
    rw [hx] at h1
    constructor
    ·rintro ⟨q,hq,e⟩;exact absurd e (mem_noV.1 hq).2
    ·intro h2;omega
   ·rw [if_neg hroot,h0]
    obtain⟨r,hr,ho,_⟩:=h.inv.toRoot n hn
    have hne:n≠r:=fun e=>hroot (by rw [e];exact par_eq h.inv.ok hr)
    have h1:=root_not h.inv hr hne
    have h2:(r:Int)∈nums (cuts s.l (G true s.l n)):=nums_cuts.2 ⟨mn_.2 ⟨_,hr⟩,h1⟩
    have h3:hasO (zer s.X (G true s.l n)) (cuts s.l (G true s.l n)) o=true:=hasO_iff.2 ⟨r,h2,by
     unfold ob
     rw [zer_tk _ _ _ (nums_nn h.inv.ok (mn_.2 ⟨_,hr⟩)) (fun a ha=>nums_nn h.inv.ok (G_nums h.inv.ok ha)) h1]
     exact ho.trans hx⟩
    have h4:=hasO_inN.1 h3
    omega
  ·rw [if_neg (fun h=>e (by rw [←h];exact hx))] at this
   rw [Nat.add_zero] at this
   rw [this,←h0]
   split
   ·constructor
    ·rintro ⟨q,hq,e⟩;exact⟨q,(mem_noV.1 hq).1,e⟩
    ·rintro ⟨q,hq,e2⟩;exact⟨q,mem_noV.2 ⟨hq,by rw [e2];exact e⟩,e2⟩
   ·exact Iff.rfl
 ·have hp':p∈(if par s.l n=-1 then noV s.V x else s.V):=hp
  split at hp'
  ·exact h.ids p (mem_noV.1 hp').1
  ·exact h.ids p hp'
structure Tp (w:World)(b:Nat)(x y z:Nat):Prop where
 c0:w.cell? ⟨b,0,none⟩=some (.pointer (some ⟨x,0,none⟩))
 c1:w.cell? ⟨b,1,none⟩=some (.pointer (some ⟨y,0,none⟩))
 c2:w.cell? ⟨b,2,none⟩=some (.pointer (some ⟨z,0,none⟩))
theorem Tp.but {S:Nat→Prop}{w w':World}{b x y z:Nat}(h:Tp w b x y z)(hb:But S w w')(hn:¬S b):Tp w' b x y z:=⟨cb_ hb h.c0 hn,cb_ hb h.c1 hn,cb_ hb h.c2 hn⟩
theorem Tp.later {w w':World}{b x y z:Nat}(h:Tp w b x y z)(hb:Below w.heap.size w w'):Tp w' b x y z:=h.but (S:=fun _=>False) (But.of hb) (fun h=>h)
end Go.Proofs.YtfmhdimaijimlaaGreatDoor.V
namespace Go.Proofs.YtfmhdimaijimlaaGreatDoor.D
open Go.RowKit Go.Extern.Stop Go.Stop Go.Extern
theorem as_nil (t:Value)(w:World) :
  Calls Tryz.prog 194 #[.nilIface,t] w fun e w'=>e=.returned (.bool false)∧w'=w:=by
 go_enter Tryz.func194,Tryz.ntmps194
 go_wp2
 go_ret
 exact⟨rfl,rfl⟩
theorem valueOf141 (t:Addr)(w:World):(ReflectliteValue.unpack (.iface 287 (.pointer (some t)))).run Tryz.prog w
  = .ok (.agg #[.pointer (some ⟨1,287,none⟩),.pointer (some ⟨w.heap.size,0,none⟩),.int .u64 150]) (w.alloc (.cells #[.pointer (some t)] 287)):=by kernel_rfl
theorem type141 (a:Addr)(w:World):(ReflectliteValue.methodAny (ReflectliteValue.valueError "reflectlite.Value.Type" 0) (fun t _ _ _=>ReflectliteType.toType t) #[.agg #[.pointer (some ⟨1,287,none⟩),.pointer (some a),.int .u64 150]]).run Tryz.prog w
  = .ok (.iface 340 (.agg #[.pointer (some ⟨1,287,none⟩)])) w:=by kernel_rfl
theorem methodKind (h:Value)(w:World):(Go.method 505 340 (.agg #[h]) "Kind").run Tryz.prog w=.ok (300,h) w:=by kernel_rfl
theorem methodElem (h:Value)(w:World):(Go.method 505 340 (.agg #[h]) "Elem").run Tryz.prog w=.ok (320,.agg #[h]) w:=by kernel_rfl
theorem methodImplements (h:Value)(w:World):(Go.method 505 340 (.agg #[h]) "Implements").run Tryz.prog w=.ok (321,.agg #[h]) w:=by kernel_rfl
theorem methodAssignableTo (h:Value)(w:World):(Go.method 505 340 (.agg #[h]) "AssignableTo").run Tryz.prog w=.ok (318,.agg #[h]) w:=by kernel_rfl
theorem methodUnwrap (v:Value)(w:World):(Go.method 505 307 v "Unwrap").run Tryz.prog w=.ok (312,v) w:=by kernel_rfl
theorem kind141 (w:World):((ReflectliteType.abiMethod fun t=>(fun a:Nat=>Value.int IntKind.u8 (a:Int)) <$> Rtype.kind t) #[.pointer (some ⟨1,287,none⟩)]).run Tryz.prog w=.ok (.int .u8 22) w:=by kernel_rfl
theorem kind139 (w:World):((ReflectliteType.abiMethod fun t=>(fun a:Nat=>Value.int IntKind.u8 (a:Int)) <$> Rtype.kind t) #[.pointer (some ⟨1,285,none⟩)]).run Tryz.prog w=.ok (.int .u8 25) w:=by kernel_rfl
theorem rlm (z:Sem Value)(f:TypeId→Addr→Nat→Nat→Sem Value)(v:Value) :
  ReflectliteValue.method z f #[v]=(do match ←ReflectliteValue.parts v with|none=>z|some (t,a,fl)=>f t a fl (fl%32)):=rfl
theorem parts141 (a:Addr)(w:World):(ReflectliteValue.parts (.agg #[.pointer (some ⟨1,287,none⟩),.pointer (some a),.int .u64 150])).run Tryz.prog w=.ok (some (287,a,150)) w:=by kernel_rfl
theorem isNil141 (a p:Addr)(W:World)(ha:W.cell? a=some (.pointer (some p))) :
  (ReflectliteValue.method (ReflectliteValue.valueError "reflectlite.Value.IsNil" 0) ReflectliteValue.isNil #[.agg #[.pointer (some ⟨1,287,none⟩),.pointer (some a),.int .u64 150]]).run Tryz.prog W=.ok (.bool false) W:=by
 rw [rlm]
 simp only [Sem.run_bind,parts141,Result.andThen]
 simp [ReflectliteValue.isNil,loadVar,isAgg,underlying,Tryz.underlying287,ha,Result.andThen]
theorem elem141 (w:World):(ReflectliteType.method ReflectliteType.elem #[.agg #[.pointer (some ⟨1,287,none⟩)]]).run Tryz.prog w=.ok (.iface 340 (.agg #[.pointer (some ⟨1,285,none⟩)])) w:=by kernel_rfl
theorem implements139 (w:World):(ReflectliteType.relation "Implements" ReflectliteType.implements_ #[.agg #[.pointer (some ⟨1,285,none⟩)],.iface 340 (.agg #[.pointer (some ⟨1,247,none⟩)])]).run Tryz.prog w=.ok (.bool true) w:=by kernel_rfl
theorem typeOf171 (v:Value)(w:World):(ReflectliteType.typeOf #[.iface 307 v]).run Tryz.prog w=.ok (.iface 340 (.agg #[.pointer (some ⟨1,307,none⟩)])) w:=by kernel_rfl
theorem typeOf139 (v:Value)(w:World):(ReflectliteType.typeOf #[.iface 285 v]).run Tryz.prog w=.ok (.iface 340 (.agg #[.pointer (some ⟨1,285,none⟩)])) w:=by kernel_rfl
theorem assignable171 (w:World):(ReflectliteType.relation "AssignableTo" ReflectliteType.assignableTo #[.agg #[.pointer (some ⟨1,307,none⟩)],.iface 340 (.agg #[.pointer (some ⟨1,285,none⟩)])]).run Tryz.prog w=.ok (.bool false) w:=by kernel_rfl
theorem assignable139 (w:World):(ReflectliteType.relation "AssignableTo" ReflectliteType.assignableTo #[.agg #[.pointer (some ⟨1,285,none⟩)],.iface 340 (.agg #[.pointer (some ⟨1,285,none⟩)])]).run Tryz.prog w=.ok (.bool true) w:=by kernel_rfl
theorem noAs171 (v:Value)(xT:TypeId)(w:World):(Instr.typeAssert (.iface 307 v) xT 345 true).run Tryz.prog w=.ok (.tuple #[.nilIface,.bool false]) w:=run_typeAssert_lacksB Tryz.underlying345 (by kernel_rfl) (by kernel_rfl) v xT w
theorem hasUnwrap171 (v:Value)(xT:TypeId)(w:World):(Instr.typeAssert (.iface 307 v) xT 348 true).run Tryz.prog w=.ok (.tuple #[.iface 307 v,.bool true]) w:=run_typeAssert_hasB Tryz.underlying348 (by kernel_rfl) v xT w
theorem valueOf139 (c:Int)(w:World):(ReflectliteValue.unpack (.iface 285 (.agg #[.int .i64 c]))).run Tryz.prog w
  = .ok (.agg #[.pointer (some ⟨1,285,none⟩),.pointer (some ⟨w.heap.size,0,none⟩),.int .u64 153]) (w.alloc (.cells #[.int .i64 c] 285)):=by kernel_rfl
theorem elemOf141 (w:World):(Rtype.elem? 287).run Tryz.prog w=.ok (some 285) w:=by kernel_rfl
theorem mk139 (p:Addr)(w:World):(ReflectliteValue.mk 285 p ReflectliteValue.flagAddr).run Tryz.prog w=.ok (.agg #[.pointer (some ⟨1,285,none⟩),.pointer (some p),.int .u64 409]) w:=by kernel_rfl
theorem elemV141 (a p:Addr)(W:World)(ha:W.cell? a=some (.pointer (some p))) :
  (ReflectliteValue.method (ReflectliteValue.valueError "reflectlite.Value.Elem" 0) ReflectliteValue.elem #[.agg #[.pointer (some ⟨1,287,none⟩),.pointer (some a),.int .u64 150]]).run Tryz.prog W
   = .ok (.agg #[.pointer (some ⟨1,285,none⟩),.pointer (some p),.int .u64 409]) W:=by
 rw [rlm]
 simp only [Sem.run_bind,parts141,Result.andThen]
 simp [ReflectliteValue.elem,loadVar,isAgg,underlying,Tryz.underlying287,ha,Result.andThen,elemOf141,mk139]
theorem rls (v x:Value):ReflectliteValue.set #[v,x]=(do
  let (some (dst,a,fl),some (src,b,_)):=(←ReflectliteValue.parts v,←ReflectliteValue.parts x)
   | unsupported (.noEntry "extern/(internal/reflectlite.Value).Set.zeroValue")
  if fl / ReflectliteValue.flagAddr%2==0 then unsupported (.noEntry "extern/(internal/reflectlite.Value).Set.unaddressable")
  let val ←loadVar src b
  if ←Rtype.directlyAssignable dst src then storeVar dst a val
  else if ←Rtype.implements dst src then
   if (←Rtype.kind src)==20 then
    match val with
    | .nilIface=>unsupported (.noEntry "extern/reflectlite: a nil value of one interface type handed on as a value of another")
    | _=>storeVar dst a val
   else storeVar dst a (.iface src val)
  else panicString ("reflectlite.Set: value of type "++(←Rtype.spelt src)++ " is not assignable to type "++(←Rtype.spelt dst))
  pure (.tuple #[])):=rfl
theorem parts139a (a:Addr)(w:World):(ReflectliteValue.parts (.agg #[.pointer (some ⟨1,285,none⟩),.pointer (some a),.int .u64 409])).run Tryz.prog w=.ok (some (285,a,409)) w:=by kernel_rfl
theorem parts139 (a:Addr)(w:World):(ReflectliteValue.parts (.agg #[.pointer (some ⟨1,285,none⟩),.pointer (some a),.int .u64 153])).run Tryz.prog w=.ok (some (285,a,153)) w:=by kernel_rfl
theorem direct139 (w:World):(Rtype.directlyAssignable 285 285).run Tryz.prog w=.ok true w:=by kernel_rfl
theorem set139 (tb bb:Nat)(c:Int)(old:Value)(W:World)(hb:W.cell? ⟨bb,0,none⟩=some (.int .i64 c))(ht:W.cell? ⟨tb,0,none⟩=some old)(hf:W.frozen? ⟨tb,0,none⟩=false) :
  (ReflectliteValue.set #[.agg #[.pointer (some ⟨1,285,none⟩),.pointer (some ⟨tb,0,none⟩),.int .u64 409],.agg #[.pointer (some ⟨1,285,none⟩),.pointer (some ⟨bb,0,none⟩),.int .u64 153]]).run Tryz.prog W
   = .ok (.tuple #[]) (W.setCell ⟨tb,0,none⟩ (.int .i64 c)):=by
 rw [rls]
 simp only [Sem.run_bind,parts139a,parts139,Result.andThen]
 have hl:(loadVar 285 ⟨bb,0,none⟩).run Tryz.prog W=.ok (.agg #[.int .i64 c]) W:=by
  simp [loadVar,isAgg,underlying,Tryz.underlying285,hb,Result.andThen,go_sem]
 simp [ReflectliteValue.flagAddr,hl,Result.andThen,direct139,storeVar,Value.cells,storeCells,Addr.add]
 rw [run_store Tryz.prog W ⟨tb,0,none⟩ _ _ (by rfl)]
 simp [ht,hf]
end Go.Proofs.YtfmhdimaijimlaaGreatDoor.D
