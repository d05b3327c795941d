import Derived.Test.YtfmhdimaijimlaaGreatDoorG01
set_option linter.unusedVariables false
set_option linter.unusedSimpArgs false
set_option maxRecDepth 1000000
set_option maxHeartbeats 8000000
namespace Go.Proofs.YtfmhdimaijimlaaGreatDoor
open Go.RowKit
theorem append_ints {w:World}{base:Nat}{a:Option Addr}{n cap:Nat}{L:List Value}{b:Option Addr}{m c:Nat}{M:List Value}(h:Own w base 3 a n cap L)(k:Row w b m c M)(hb:base≤w.heap.size)(hr:(n+m)*8≤140737488355328) :
  ∃a' cap' w',(Builtin.append_ #[43,43] 43 #[.slice a n cap,.slice b m c]).run Tryz.prog w=.ok (.slice a' (n+m) cap') w'∧Own w' base 3 a' (n+m) cap' (L++M)∧Gr a a' w w' :=
 append_gen 43 3 _ 8 Tryz.underlying43 info3 rfl h k hb hr (by omega)
theorem take_step (A:List Int)(i:Nat)(h:i<A.length):A.take (i+1)=A.take i++[A[i]]:=by
 rw [List.take_succ_eq_append_getElem h]
def RowRel (w:World)(c:List Int)(k:Nat)(v t:Value)(w':World):Prop :=
 ∃(i:Nat) (a:Option Addr) (cap:Nat),i+k=c.length∧v=.slice a i cap∧t=.int .i64 (nx c i)∧Own w' w.heap.size 3 a i cap (ints (c.take i))∧Below w.heap.size w w'
theorem row_any {w:World}{g gb m:Nat}{N:List Nd}(h:Tm w g gb m N){p:Nat}{c:List Int}(hc:Chain N p c)(hl:c.length≤1024)(hpos:∀x∈c,0≤x) :
  Calls Tryz.prog 269 #[atV g,.int .i64 (p:Int)] w fun e w'=>∃a n cap,e=.returned (.slice a n cap)∧Own w' w.heap.size 3 a n cap (ints c)∧Below w.heap.size w w':=by
 have HT:=hid h
 have HC:=hid hc
 obtain⟨hp,hp0⟩:=Chain.cell h hc (Nat.zero_le _)
 have hp1:w.cell? ⟨gb,p*4+2,none⟩=some (.int .i64 (nx c 0)):=hp0
 have HM:=hid h.len
 have HP:=hid hpos
 clear h hc hp0 hpos
 go_enter Tryz.func269,Tryz.ntmps269
 go_upto_region 3 with (first|(go_at_call 248;refine (at_ok HT.out p hp).mono ?_;rintro e w1 ⟨rfl,rfl⟩))
 go_loopg [5,6] c.length (RowRel w1 c)
 case atStart=>exact⟨0,none,0,by omega,rfl,rfl,Own.nil _ _ _,Below.refl _ _⟩
 case round =>
  obtain⟨i,a,cap,hi,rfl,rfl,hO,hB⟩:=hrel
  have HO:=hid hO
  have HB:=hid hB
  clear hO hB
  by_cases hlt:i<c.length
  ·obtain⟨k,hk,hk2,hk3⟩:=HC.out.num HM.out hlt
   have hne2:((k:Int)==-1)=false:=by simp
   obtain⟨a',cap',w2,hrun,hO2,hG⟩:=append_ints (HO.out.alloc (Obj.cells #[Value.int .i64 (k:Int)] 3)) (Row.single wr 3 (.int .i64 (k:Int)) rfl) (by have:=HB.out.size;simp;omega) (by omega)
   have hB2:Below w1.heap.size w1 w2:=(HB.out.alloc HB.out.size _).trans (Gr.below (HO.out.alloc _) hG (by have:=HB.out.size;simp;omega))
   have hT2:=HT.out.later hB2
   obtain⟨_,h2⟩:=Chain.cell hT2 HC.out (i:=i+1) (by omega)
   have h3:w2.cell? ⟨gb,k*4+3,none⟩=some (.int .i64 (nx c (i+1))):=by rw [←hk3];exact h2
   have HRUN:=hid hrun
   have HO2:Hid (Own w2 w1.heap.size 3 a' (i+1) cap' (ints (c.take (i+1)))):=by
    rw [take_step c i hlt,ints_append,←nx_lt hlt,hk]
    exact hO2
   have HB2:=hid hB2
   have HT2:=hid hT2
   rw [hk]
   clear hrun hO2 hG hB2 hT2 h2 hk hk3 hp1
   go_wp2_with (first|(at_builtin;refine wk_ rfl _ _ 43 rfl _ _ rfl rfl _ w2 HRUN.out ?_)|(go_at_call 248;refine (at_ok HT2.out k hk2).mono ?_;rintro e w1 ⟨rfl,rfl⟩))
   go_roundg (gk - 1)
   case measure=>omega
   case rel=>exact⟨i+1,a',cap',by omega,rfl,rfl,HO2.out,HB2.out⟩
  ·obtain rfl:i=c.length:=by omega
   have hk:nx c c.length=-1:=nx_ge (Nat.le_refl _)
   rw [hk]
   clear hk hp1
   go_wp2
   go_ret
   exact⟨a,_,cap,rfl,by have:=HO.out;rwa [List.take_length] at this,HB.out⟩
theorem ch_len (l:Fo)(p:Int):(ch l p).length≤l.length:=by
 have:=(ch_sub l p).length_le
 simpa [nums] using this
theorem kids_out {m:Nat}{l:Fo}(h:Ok m l){n:Int}(hn:n∉nums l):kids l n=[]:=by
 unfold kids
 split
 ·next h0=>exact h.none h0 hn
 ·rfl
theorem kids_in {m:Nat}{l:Fo}(h:Ok m l){n:Int}(hn:n∈nums l):kids l n=ch l n:=by
 unfold kids
 rw [if_pos (h.range n hn).1]
theorem kids_len {m:Nat}{l:Fo}(h:Ok m l)(n:Int):(kids l n).length≤m:=by
 unfold kids
 split
 ·exact Nat.le_trans (ch_len l n) h.len
 ·simp
theorem children_any {w:World}{g gb m:Nat}{l:Fo}(h:Ki w g gb m l)(n:Int) :
  Calls Tryz.prog 250 #[.pointer (some ⟨g,0,none⟩),.int .i64 n] w fun e w'=>∃a k cap,e=.returned (.slice a k cap)∧Own w' w.heap.size 3 a k cap (ints (kids l n))∧Below w.heap.size w w':=by
 have hh:=has_any h n
 by_cases hn:n∈nums l
 ·rw [decide_eq_true hn] at hh
  rw [kids_in h.ok hn]
  obtain⟨N,hT,hR⟩:=h
  obtain⟨k,x,rfl,hk,hx⟩:=hR.get hn
  have hr:=row_any hT (hR.chain hn) (Nat.le_trans (ch_len l k) (Nat.le_trans hR.ok.len hT.big)) (fun x hx=>(hR.ok.range x (ch_mem hx)).1)
  have HR:=hid hr
  clear hT hR hn hr
  go_enter Tryz.func250,Tryz.ntmps250
  go_wp2_with (first|(go_at_call 211;refine hh.mono ?_;rintro e w1 ⟨rfl,rfl⟩)|(go_at_call 269;refine HR.out.mono ?_;rintro e w2 ⟨a,n,cap,rfl,O,hb⟩;have HO:=hid O;have HB:=hid hb;clear O hb))
  go_ret
  exact⟨a,n,cap,rfl,HO.out,HB.out⟩
 ·rw [decide_eq_false hn] at hh
  rw [kids_out h.ok hn]
  clear h hn
  go_enter Tryz.func250,Tryz.ntmps250
  go_wp2_with (first|(go_at_call 211;refine hh.mono ?_;rintro e w1 ⟨rfl,rfl⟩))
  go_ret
  exact⟨none,0,0,rfl,Own.nil _ _ _,Below.refl _ _⟩
theorem Tm.cell {w:World}{g gb m:Nat}{N N':List Nd}{o:Nat}{u:Value}(h:Tm w g gb m N)(hl:N'.length=m)
  (hat:∀(i:Nat) (x:Nd),N'[i]?=some x→Pn (w.setCell ⟨gb,o,none⟩ u) gb (i*4) x):Tm (w.setCell ⟨gb,o,none⟩ u) g gb m N' :=
 ⟨cell_nb h.a0 h.ne,fun j=>by simpa using h.fr j,hat,h.ne,by simpa [World.setCell] using h.lt2,hl,h.big⟩
theorem Pn.off {w:World}{b o o':Nat}{x:Nd}{u:Value}(h:Pn w b o x)(hne:o'<o∨o+4≤o'):Pn (w.setCell ⟨b,o',none⟩ u) b o x :=
 ⟨cell_ne h.c0 (by omega),cell_ne h.c1 (by omega),cell_ne h.c2 (by omega),cell_ne h.c3 (by omega)⟩
theorem Tm.setPa {w:World}{g gb m:Nat}{N:List Nd}{i:Nat}{x:Nd}(h:Tm w g gb m N)(hx:N[i]?=some x)(v:Int):Tm (w.setCell ⟨gb,i*4+1,none⟩ (.int .i64 v)) g gb m (N.set i ⟨x.th,v,x.fi,x.be⟩):=by
 refine h.cell (by rw [List.length_set];exact h.len) (fun j q hq=>?_)
 rcases get_set hq with ⟨rfl,rfl⟩|⟨hne,h3⟩
 ·have hP:=h.at_ _ _ hx
  exact⟨cell_ne hP.c0 (by omega),World.cell?_setCell_same _ _ _ hP.c1,cell_ne hP.c2 (by omega),cell_ne hP.c3 (by omega)⟩
 ·exact (h.at_ _ _ h3).off (by omega)
theorem Tm.setLk {w:World}{g gb m:Nat}{N:List Nd}(h:Tm w g gb m N){p:Nat}{c:List Int}(hc:Chain N p c){i:Nat}(hi:i≤c.length)(v:Int) :
  Tm (w.setCell ⟨gb,lkN p c i*4+lkF i,none⟩ (.int .i64 v)) g gb m (putL N p c i v):=by
 obtain⟨h1,h2⟩:=Chain.cell h hc hi
 obtain⟨x,hx⟩:=get_some (L:=N) (i:=lkN p c i) (by rw [h.len];exact h1)
 unfold putL
 rw [hx]
 generalize lkN p c i=k at *
 refine h.cell (by rw [List.length_set];exact h.len) (fun j q hq=>?_)
 rcases get_set hq with ⟨rfl,rfl⟩|⟨hne,h3⟩
 ·have hP:=h.at_ _ _ hx
  cases i with
  | zero=>exact⟨cell_ne hP.c0 (by simp [lkF]),cell_ne hP.c1 (by simp [lkF]),World.cell?_setCell_same _ _ _ hP.c2,cell_ne hP.c3 (by simp [lkF])⟩
  | succ i=>exact⟨cell_ne hP.c0 (by simp [lkF]),cell_ne hP.c1 (by simp [lkF]),cell_ne hP.c2 (by simp [lkF]),World.cell?_setCell_same _ _ _ hP.c3⟩
 ·have:lkF i<4:=by cases i<;>simp [lkF]
  exact (h.at_ _ _ h3).off (by omega)
def setN (w:World)(b o:Nat)(x:Nd):World :=
 (((w.setCell ⟨b,o,none⟩ (.bool x.th)).setCell ⟨b,o+1,none⟩ (.int .i64 x.pa)).setCell ⟨b,o+2,none⟩ (.int .i64 x.fi)).setCell ⟨b,o+3,none⟩ (.int .i64 x.be)
theorem setN_but {S:Nat→Prop}{a w:World}(h:But S a w){b:Nat}(hb:S b)(o:Nat)(x:Nd):But S a (setN w b o x) :=
 (((h.setCell (p:=⟨b,o,none⟩) hb _).setCell (p:=⟨b,o+1,none⟩) hb _).setCell (p:=⟨b,o+2,none⟩) hb _).setCell (p:=⟨b,o+3,none⟩) hb _
theorem Pn.set {w:World}{b o:Nat}{y:Nd}(h:Pn w b o y)(x:Nd):Pn (setN w b o x) b o x:=by
 have s0:=World.cell?_setCell_same w ⟨b,o,none⟩ (.bool x.th) h.c0
 have s1:=World.cell?_setCell_same (w.setCell ⟨b,o,none⟩ (.bool x.th)) ⟨b,o+1,none⟩ (.int .i64 x.pa) (cell_ne h.c1 (by omega))
 have s2:=World.cell?_setCell_same ((w.setCell ⟨b,o,none⟩ (.bool x.th)).setCell ⟨b,o+1,none⟩ (.int .i64 x.pa)) ⟨b,o+2,none⟩ (.int .i64 x.fi) (cell_ne (cell_ne h.c2 (by omega)) (by omega))
 unfold setN
 exact⟨cell_ne (cell_ne (cell_ne s0 (by omega)) (by omega)) (by omega),cell_ne (cell_ne s1 (by omega)) (by omega),cell_ne s2 (by omega),World.cell?_setCell_same _ _ _ (cell_ne (cell_ne (cell_ne h.c3 (by omega)) (by omega)) (by omega))⟩
theorem Pn.setOff {w:World}{b o o':Nat}{y:Nd}(h:Pn w b o y)(x:Nd)(hne:o'+4≤o∨o+4≤o'):Pn (setN w b o' x) b o y:=by
 unfold setN
 exact (((h.off (by omega)).off (by omega)).off (by omega)).off (by omega)
theorem Tm.set {w:World}{g gb m:Nat}{N:List Nd}{i:Nat}{y:Nd}(h:Tm w g gb m N)(hy:N[i]?=some y)(x:Nd):Tm (setN w gb (i*4) x) g gb m (N.set i x):=by
 have hb:But (·=gb) w (setN w gb (i*4) x):=setN_but (S:=(·=gb)) (But.refl _ _) (b:=gb) (by rfl) _ _
 refine⟨cb_ hb h.a0 h.ne,fun j=>by have:=h.fr j;unfold setN;simpa using this,fun j q hq=>?_,h.ne,Nat.lt_of_lt_of_le h.lt2 hb.size,by rw [List.length_set];exact h.len,h.big⟩
 rcases get_set hq with ⟨rfl,rfl⟩|⟨hne,h3⟩
 ·exact (h.at_ _ _ hy).set _
 ·exact (h.at_ _ _ h3).setOff _ (by omega)
def rootE (m:Nat)(l:Fo)(n:Int):Int:=if 0≤n∧n<m then (if n∈nums l then 19 else 0) else 20
def rootL (m:Nat)(l:Fo)(n:Int):Fo:=if (0≤n∧n<m)∧n∉nums l then l++[(n,-1)] else l
theorem root_mem {w:World}{g gb m:Nat}{N:List Nd}{l:Fo}(hT:Tm w g gb m N)(hR:Rep m l N)(k:Nat)(hk:k<m)(hn:(k:Int)∉nums l) :
  Calls Tryz.prog 253 #[.pointer (some ⟨g,0,none⟩),.int .i64 (k:Int)] w fun e w'=>e=.returned (.int .i64 0)∧Tm w' g gb m (N.set k ⟨true,-1,-1,-1⟩)∧But (·=gb) w w':=by
 obtain⟨x,hx⟩:=get_some (L:=N) (i:=k) (by rw [hT.len];exact hk)
 have hc:=at_ok hT k hk
 have hP:=hT.at_ k x hx
 have c0:=hP.c0
 have c1:=hP.c1
 have c2:=hP.c2
 have c3:=hP.c3
 rw [hR.there hx,decide_eq_false hn] at c0
 have f0:=hT.fr (k*4)
 have f1:=hT.fr (k*4+1)
 have f2:=hT.fr (k*4+2)
 have f3:=hT.fr (k*4+3)
 have HT:=hid (hT.set hx ⟨true,-1,-1,-1⟩)
 have HB:Hid (But (·=gb) w (setN w gb (k*4) ⟨true,-1,-1,-1⟩)):=setN_but (S:=(·=gb)) (But.refl _ _) (b:=gb) (by rfl) _ _
 unfold setN at HT HB
 clear hT hR hn hP hx
 go_enter Tryz.func253,Tryz.ntmps253
 go_wp2_with (first|(go_at_call 248;refine hc.mono ?_;rintro e w1 ⟨rfl,rfl⟩))
 go_ret
 exact⟨rfl,HT.out,HB.out⟩
theorem root_no {w:World}{g gb m:Nat}{l:Fo}(h:Ki w g gb m l)(n:Int)(hn:(n<0∨(m:Int)≤n)∨n∈nums l) :
  Calls Tryz.prog 253 #[.pointer (some ⟨g,0,none⟩),.int .i64 n] w fun e w'=>e=.returned (.int .i64 (rootE m l n))∧w'=w:=by
 obtain⟨N,hT,hR⟩:=h
 by_cases h1:n<0∨(m:Int)≤n
 ·rw [show rootE m l n=20 by unfold rootE;rw [if_neg (by omega)]]
  have hc:=at_bad hT n h1
  clear hT hR hn h1
  go_enter Tryz.func253,Tryz.ntmps253
  go_wp2_with (first|(go_at_call 248;refine hc.mono ?_;rintro e w1 ⟨rfl,rfl⟩))
  go_ret
  exact⟨rfl,rfl⟩
 ·have h2:n∈nums l:=by
   rcases hn with hn|hn
   ·exact absurd hn h1
   ·exact hn
  rw [show rootE m l n=19 by unfold rootE;rw [if_pos (by omega),if_pos h2]]
  obtain⟨k,x,rfl,hk,hx⟩:=hR.get h2
  have hc:=at_ok hT k hk
  have c0:=(hT.at_ k x hx).c0
  rw [hR.there hx,decide_eq_true h2] at c0
  clear hT hR hn h1 h2 hx
  go_enter Tryz.func253,Tryz.ntmps253
  go_wp2_with (first|(go_at_call 248;refine hc.mono ?_;rintro e w1 ⟨rfl,rfl⟩))
  go_ret
  exact⟨rfl,rfl⟩
def Did (w:World)(g gb m:Nat)(c:Int)(l:Fo)(e:Ending)(w':World):Prop:=e=.returned (.int .i64 c)∧Ki w' g gb m l∧But (·=gb) w w'
theorem root_any {w:World}{g gb m:Nat}{l:Fo}(h:Ki w g gb m l)(n:Int) :
  Calls Tryz.prog 253 #[.pointer (some ⟨g,0,none⟩),.int .i64 n] w (Did w g gb m (rootE m l n) (rootL m l n)):=by
 by_cases hn:(0≤n∧n<m)∧n∉nums l
 ·obtain⟨k,rfl⟩:∃k:Nat,n=(k:Int):=⟨n.toNat,by omega⟩
  obtain⟨N,hT,hR⟩:=h
  refine (root_mem hT hR k (by omega) hn.2).mono ?_
  rintro e w' ⟨rfl,h1,h2⟩
  refine⟨by unfold rootE;rw [if_pos hn.1,if_neg hn.2],⟨_,h1,?_⟩,h2⟩
  unfold rootL
  rw [if_pos hn]
  exact hR.root (by omega) hn.2
 ·refine (root_no h n (by
   by_cases h1:n∈nums l
   ·exact .inr h1
   ·left
    have:¬(0≤n∧n<m):=fun h2=>hn ⟨h2,h1⟩
    omega)).mono ?_
  rintro e w' ⟨rfl,rfl⟩
  refine⟨rfl,?_,But.refl _ _⟩
  unfold rootL
  rw [if_neg hn]
  exact h
def childE (m:Nat)(l:Fo)(p n:Int):Int:=if p∈nums l then rootE m l n else 20
def childL (m:Nat)(l:Fo)(p n:Int):Fo:=if p∈nums l∧((0≤n∧n<m)∧n∉nums l) then l++[(n,p)] else l
theorem child_ok {w:World}{g gb m:Nat}{l:Fo}(h:Ki w g gb m l)(p k:Nat)(hp:(p:Int)∈nums l)(hk:k<m)(hn:(k:Int)∉nums l) :
  Calls Tryz.prog 254 #[.pointer (some ⟨g,0,none⟩),.int .i64 (p:Int),.int .i64 (k:Int)] w (Did w g gb m 0 (l++[((k:Int),(p:Int))])):=by
 have hh:=has_any h (p:Int)
 rw [decide_eq_true hp] at hh
 obtain⟨N,hT,hR⟩:=h
 have HR:=hid hR
 have hroot:=hid (root_mem hT hR k hk hn)
 obtain⟨y,hy⟩:=get_some (L:=N.set k ⟨true,-1,-1,-1⟩) (i:=k) (by rw [List.length_set,hT.len];exact hk)
 have HY:=hid hy
 have hy2:y=⟨true,-1,-1,-1⟩:=by
  rcases get_set hy with ⟨_,h⟩|⟨h,_⟩
  ·exact h
  ·exact absurd rfl h
 have HY2:=hid hy2
 have HC:Hid (Chain ((N.set k ⟨true,-1,-1,-1⟩).set k ⟨y.th,(p:Int),y.fi,y.be⟩) p (ch l p)):=by
  rw [hy2,List.set_set]
  exact hR.chainNew hp hn _
 have HP:=hid hp
 have HN:=hid hn
 have hcl:=hid (fun i (hi:i<(ch l p).length)=>show nx (ch l p) i≠-1 from by
  rw [nx_lt hi]
  have:=hR.ok.range _ (ch_mem (List.getElem_mem hi))
  omega)
 have HZ:Hid (Rep m (l++[((k:Int),(p:Int))]) (putL ((N.set k ⟨true,-1,-1,-1⟩).set k ⟨y.th,(p:Int),y.fi,y.be⟩) p (ch l p) (ch l p).length (k:Int))):=by
  rw [hy2,List.set_set]
  exact hR.child hk hp hn
 clear hT hR hn hy hy2 hp
 go_enter Tryz.func254,Tryz.ntmps254
 go_upto_region 6 with (first|(go_at_call 211;refine hh.mono ?_;rintro e wA ⟨rfl,rfl⟩)|(go_at_call 253;refine hroot.out.mono ?_;rintro e w2 ⟨rfl,hT2,hB2⟩;have HT2:=hid hT2;have HB2:=hid hB2;clear hT2 hB2))
 have hP:=HT2.out.at_ k y HY.out
 have c1:=hP.c1
 have f1:=HT2.out.fr (k*4+1)
 have HT3:=hid (HT2.out.setPa HY.out (p:Int))
 have hc2:=at_ok HT2.out k hk
 clear hP
 go_upto_region 7 with (first|(go_at_call 248;refine hc2.mono ?_;rintro e wB ⟨rfl,rfl⟩))
 obtain⟨w3,hw3⟩:∃w3:World,w3=wB.setCell ⟨gb,k*4+1,none⟩ (.int .i64 (p:Int)):=⟨_,rfl⟩
 rw [←hw3] at HT3 ⊢
 have HB3:Hid (But (·=gb) wA w3):=by rw [hw3];exact HB2.out.setCell (S:=(·=gb)) (p:=⟨gb,k*4+1,none⟩) (show gb=gb from rfl) _
 have hlk:=linkTo_any HT3.out HC.out (-1) (ch l p).length (Nat.le_refl _) (nx_ge (Nat.le_refl _)) hcl.out
 obtain⟨_,hcell⟩:=Chain.cell HT3.out HC.out (i:=(ch l p).length) (Nat.le_refl _)
 have ff:=HT3.out.fr (lkN p (ch l p) (ch l p).length*4+lkF (ch l p).length)
 have HT4:=hid (HT3.out.setLk HC.out (Nat.le_refl _) (k:Int))
 unfold lkA at hlk
 have HB4:Hid (But (·=gb) wA (w3.setCell ⟨gb,lkN p (ch l p) (ch l p).length*4+lkF (ch l p).length,none⟩ (.int .i64 (k:Int)))):=HB3.out.setCell (S:=(·=gb)) (p:=⟨gb,_,none⟩) (show gb=gb from rfl) _
 generalize lkN p (ch l p) (ch l p).length*4+lkF (ch l p).length=o at *
 clear hw3 f1 c1 hc2 hh
 go_wp2_with (first|(go_at_call 274;refine hlk.mono ?_;rintro e w5 ⟨rfl,rfl⟩))
 go_ret
 exact⟨rfl,⟨_,HT4.out,HZ.out⟩,HB4.out⟩
theorem child_no {w:World}{g gb m:Nat}{l:Fo}(h:Ki w g gb m l)(p n:Int)(hn:p∉nums l∨(n<0∨(m:Int)≤n)∨n∈nums l) :
  Calls Tryz.prog 254 #[.pointer (some ⟨g,0,none⟩),.int .i64 p,.int .i64 n] w fun e w'=>e=.returned (.int .i64 (childE m l p n))∧w'=w:=by
 have hh:=has_any h p
 by_cases hp:p∈nums l
 ·rw [decide_eq_true hp] at hh
  unfold childE
  rw [if_pos hp]
  have hn2:(n<0∨(m:Int)≤n)∨n∈nums l:=by
   rcases hn with hn|hn
   ·exact absurd hp hn
   ·exact hn
  have hr:=root_no h n hn2
  have hE:rootE m l n=19∨rootE m l n=20:=by
   unfold rootE
   split
   ·split
    ·exact .inl rfl
    ·next h1 h2=>rcases hn2 with h3|h3;omega;exact absurd h3 h2
   ·exact .inr rfl
  clear h hn hp hn2
  rcases hE with hE|hE
  ·rw [hE] at hr ⊢
   go_enter Tryz.func254,Tryz.ntmps254
   go_wp2_with (first|(go_at_call 211;refine hh.mono ?_;rintro e w1 ⟨rfl,rfl⟩)|(go_at_call 253;refine hr.mono ?_;rintro e w1 ⟨rfl,rfl⟩))
   go_ret
   exact⟨rfl,rfl⟩
  ·rw [hE] at hr ⊢
   go_enter Tryz.func254,Tryz.ntmps254
   go_wp2_with (first|(go_at_call 211;refine hh.mono ?_;rintro e w1 ⟨rfl,rfl⟩)|(go_at_call 253;refine hr.mono ?_;rintro e w1 ⟨rfl,rfl⟩))
   go_ret
   exact⟨rfl,rfl⟩
 ·rw [decide_eq_false hp] at hh
  unfold childE
  rw [if_neg hp]
  clear h hn hp
  go_enter Tryz.func254,Tryz.ntmps254
  go_wp2_with (first|(go_at_call 211;refine hh.mono ?_;rintro e w1 ⟨rfl,rfl⟩))
  go_ret
  exact⟨rfl,rfl⟩
theorem child_any {w:World}{g gb m:Nat}{l:Fo}(h:Ki w g gb m l)(p n:Int) :
  Calls Tryz.prog 254 #[.pointer (some ⟨g,0,none⟩),.int .i64 p,.int .i64 n] w (Did w g gb m (childE m l p n) (childL m l p n)):=by
 by_cases hn:p∈nums l∧((0≤n∧n<m)∧n∉nums l)
 ·have hp2:=h.ok.range p hn.1
  obtain⟨k,rfl⟩:∃k:Nat,n=(k:Int):=⟨n.toNat,by omega⟩
  obtain⟨p,rfl⟩:∃k:Nat,p=(k:Int):=⟨p.toNat,by omega⟩
  unfold childE childL
  rw [if_pos hn,if_pos hn.1]
  rw [show rootE m l (k:Int)=0 by unfold rootE;rw [if_pos hn.2.1,if_neg hn.2.2]]
  exact child_ok h p k hn.1 (by omega) hn.2.2
 ·refine (child_no h p n (by
   by_cases h0:p∈nums l
   ·right
    by_cases h1:n∈nums l
    ·exact .inr h1
    ·left
     have:¬(0≤n∧n<m):=fun h2=>hn ⟨h0,h2,h1⟩
     omega
   ·exact .inl h0)).mono ?_
  rintro e w' ⟨rfl,rfl⟩
  refine⟨rfl,?_,But.refl _ _⟩
  unfold childL
  rw [if_neg hn]
  exact h
def cutE (l:Fo)(n:Int):Int:=if n∈nums l then (if ch l n=[] then 0 else 19) else 20
def cutL (l:Fo)(n:Int):Fo:=if n∈nums l∧ch l n=[] then cut l n else l
theorem cut_no {w:World}{g gb m:Nat}{l:Fo}(h:Ki w g gb m l)(n:Int)(hn:n∉nums l∨ch l n≠[]) :
  Calls Tryz.prog 262 #[.pointer (some ⟨g,0,none⟩),.int .i64 n] w fun e w'=>e=.returned (.int .i64 (cutE l n))∧w'=w:=by
 have hh:=has_any h n
 by_cases h1:n∈nums l
 ·have h2:ch l n≠[]:=by
   rcases hn with hn|hn
   ·exact absurd h1 hn
   ·exact hn
  rw [show cutE l n=19 by unfold cutE;rw [if_pos h1,if_neg h2]]
  rw [decide_eq_true h1] at hh
  obtain⟨N,hT,hR⟩:=h
  obtain⟨k,x,rfl,hk,hx⟩:=hR.get h1
  have hc:=at_ok hT k hk
  have c2:=(hT.at_ k x hx).c2
  have hf:=hR.fi k x hx h1
  have hpos:0<(ch l k).length:=List.length_pos_iff.2 h2
  rw [nx_lt hpos] at hf
  have hr:=hR.ok.range _ (ch_mem (List.getElem_mem hpos))
  rw [←hf] at hr
  have hne:(x.fi==-1)=false:=by simp;omega
  clear hT hR hn h1 h2 hx hpos hf
  go_enter Tryz.func262,Tryz.ntmps262
  go_wp2_with (first|(go_at_call 211;refine hh.mono ?_;rintro e w1 ⟨rfl,rfl⟩)|(go_at_call 248;refine hc.mono ?_;rintro e w1 ⟨rfl,rfl⟩))
  go_ret
  exact⟨rfl,rfl⟩
 ·rw [decide_eq_false h1] at hh
  rw [show cutE l n=20 by unfold cutE;rw [if_neg h1]]
  clear h hn h1
  go_enter Tryz.func262,Tryz.ntmps262
  go_wp2_with (first|(go_at_call 211;refine hh.mono ?_;rintro e w1 ⟨rfl,rfl⟩))
  go_ret
  exact⟨rfl,rfl⟩
theorem cut_root {w:World}{g gb m:Nat}{l:Fo}(h:Ki w g gb m l)(k:Nat)(hn:((k:Int),-1)∈l)(hc:ch l k=[]) :
  Calls Tryz.prog 262 #[.pointer (some ⟨g,0,none⟩),.int .i64 (k:Int)] w (Did w g gb m 0 (cut l k)):=by
 have h1:=mn_.2 ⟨_,hn⟩
 have hh:=has_any h (k:Int)
 rw [decide_eq_true h1] at hh
 obtain⟨N,hT,hR⟩:=h
 obtain⟨k',x,hk',hk,hx⟩:=hR.get h1
 obtain rfl:k=k':=by omega
 have ha:=at_ok hT k hk
 have hP:=hT.at_ k x hx
 have c0:=hP.c0
 have c1:=hP.c1
 have c2:=hP.c2
 have c3:=hP.c3
 rw [hR.fi k x hx h1,hc] at c2
 rw [(hR.inn k x _ hx hn).2] at c1
 have c2':w.cell? ⟨gb,k*4+2,none⟩=some (.int .i64 (-1)):=c2
 have f0:=hT.fr (k*4)
 have f1:=hT.fr (k*4+1)
 have f2:=hT.fr (k*4+2)
 have f3:=hT.fr (k*4+3)
 have HT:=hid (hT.set hx nd0)
 have HB:Hid (But (·=gb) w (setN w gb (k*4) nd0)):=setN_but (S:=(·=gb)) (But.refl _ _) (b:=gb) (by rfl) _ _
 unfold setN at HT HB
 simp only [nd0] at HT HB
 have HR:=hid (hR.cutRoot hn hc)
 clear hT hR hn hP hx h1 c2 hk' hc
 go_enter Tryz.func262,Tryz.ntmps262
 go_wp2_with (first|(go_at_call 211;refine hh.mono ?_;rintro e w1 ⟨rfl,rfl⟩)|(go_at_call 248;refine ha.mono ?_;rintro e w1 ⟨rfl,rfl⟩))
 go_ret
 exact⟨rfl,⟨_,HT.out,HR.out⟩,HB.out⟩
theorem cut_child {w:World}{g gb m:Nat}{l:Fo}(h:Ki w g gb m l)(k p:Nat)(hn:((k:Int),(p:Int))∈l)(hc:ch l k=[]) :
  Calls Tryz.prog 262 #[.pointer (some ⟨g,0,none⟩),.int .i64 (k:Int)] w (Did w g gb m 0 (cut l k)):=by
 have h1:=mn_.2 ⟨_,hn⟩
 have hh:=has_any h (k:Int)
 rw [decide_eq_true h1] at hh
 obtain⟨N,hT,hR⟩:=h
 obtain⟨k',x,hk',hk,hx⟩:=hR.get h1
 obtain rfl:k=k':=by omega
 have hp:(p:Int)∈nums l:=by
  rcases hR.ok.up hn with h|h
  ·omega
  ·exact h
 obtain⟨i,hi⟩:=List.getElem?_of_mem (mem_ch.2 hn)
 have hil:=(List.getElem?_eq_some_iff.1 hi).1
 have ha:=at_ok hT k hk
 have hP:=hT.at_ k x hx
 have c1:=hP.c1
 have c2:=hP.c2
 have c3:=hP.c3
 rw [hR.fi k x hx h1,hc] at c2
 rw [(hR.inn k x _ hx hn).2] at c1
 rw [hR.be p (by omega) i k x hi hx] at c3
 have c2':w.cell? ⟨gb,k*4+2,none⟩=some (.int .i64 (-1)):=c2
 have hC:=hR.chain hp
 have hlk:=hid (fun (W:World) (hW:Below w.heap.size w W)=>linkTo_any (hT.later hW) hC (k:Int) i (by omega) (by rw [nx,hi];rfl) (fun j hj e=>by
  have:(ch l p)[j]?=some (k:Int):=by
   rw [nx_lt (by omega)] at e
   rw [←e]
   exact List.getElem?_eq_getElem (by omega)
  have:=nd_idx (hR.ok.chNodup p) this hi
  omega))
 obtain⟨_,hcell⟩:=Chain.cell hT hC (i:=i) (by omega)
 have ff:=hT.fr (lkN p (ch l p) i*4+lkF i)
 have hT2:=hT.setLk hC (Nat.le_of_lt hil) (nx (ch l p) (i+1))
 unfold lkA at hlk
 have hB2:But (·=gb) w (w.setCell ⟨gb,lkN p (ch l p) i*4+lkF i,none⟩ (.int .i64 (nx (ch l p) (i+1)))):=(But.refl (·=gb) w).setCell (p:=⟨gb,_,none⟩) (show gb=gb from rfl) _
 have HR:=hid (hR.cut hi hp hc)
 have hl2:=hT2.len
 generalize putL N p (ch l p) i (nx (ch l p) (i+1))=N2 at *
 generalize lkN p (ch l p) i*4+lkF i=o at *
 generalize nx (ch l p) (i+1)=v at *
 have HT2:=hid hT2
 have HB2:=hid hB2
 clear hT hR hn hP hx h1 c2 hk' hc hC hi hil hp hT2 hB2
 go_enter Tryz.func262,Tryz.ntmps262
 go_upto_region 7 with (first|(go_at_call 211;refine hh.mono ?_;rintro e w1 ⟨rfl,rfl⟩)|(go_at_call 248;refine ha.mono ?_;rintro e w1 ⟨rfl,rfl⟩))
 go_cut [] (fun W=>Tm W g gb m N2∧But (·=gb) w1 W)
 case first =>
  go_region_with (first|(go_at_call 274;refine (hlk.out _ (by first|exact Below.refl _ _|exact (Below.refl _ _).drew|exact below_drewN (Below.refl _ _) _)).mono ?_;rintro e w3 ⟨rfl,rfl⟩))
  all_goals (go_wp2_with fail)
  all_goals go_meet
  all_goals exact⟨HT2.out.later (Below.refl _ _).drew,HB2.out.call (Below.refl _ _).drew⟩
 case rest =>
  obtain⟨hT3,hB3⟩:=hcut
  obtain⟨y,hy⟩:=get_some (L:=N2) (i:=k) (by rw [hl2];exact hk)
  have hP:=hT3.at_ k y hy
  have d0:=hP.c0
  have d1:=hP.c1
  have d2:=hP.c2
  have d3:=hP.c3
  have f0:=hT3.fr (k*4)
  have f1:=hT3.fr (k*4+1)
  have f2:=hT3.fr (k*4+2)
  have f3:=hT3.fr (k*4+3)
  have HT:=hid (hT3.set hy nd0)
  have HB:Hid (But (·=gb) w1 (setN wc gb (k*4) nd0)):=setN_but (S:=(·=gb)) hB3 (b:=gb) (by rfl) _ _
  unfold setN at HT HB
  simp only [nd0] at HT HB
  clear hT3 hB3 hP hy
  go_wp2
  go_ret
  exact⟨rfl,⟨_,HT.out,HR.out⟩,HB.out⟩
theorem cut_any {w:World}{g gb m:Nat}{l:Fo}(h:Ki w g gb m l)(n:Int) :
  Calls Tryz.prog 262 #[.pointer (some ⟨g,0,none⟩),.int .i64 n] w (Did w g gb m (cutE l n) (cutL l n)):=by
 by_cases hn:n∈nums l∧ch l n=[]
 ·unfold cutE cutL
  rw [if_pos hn,if_pos hn.1,if_pos hn.2]
  have hr:=h.ok.range n hn.1
  obtain⟨k,rfl⟩:∃k:Nat,n=(k:Int):=⟨n.toNat,by omega⟩
  obtain⟨p,hp⟩:=mn_.1 hn.1
  rcases h.ok.up hp with rfl|h2
  ·exact cut_root h k hp hn.2
  ·have hr2:=h.ok.range p h2
   obtain⟨p,rfl⟩:∃k:Nat,p=(k:Int):=⟨p.toNat,by omega⟩
   exact cut_child h k p hp hn.2
 ·refine (cut_no h n (by
   by_cases h0:n∈nums l
   ·exact .inr (fun h1=>hn ⟨h0,h1⟩)
   ·exact .inl h0)).mono ?_
  rintro e w' ⟨rfl,rfl⟩
  refine⟨rfl,?_,But.refl _ _⟩
  unfold cutL
  rw [if_neg hn]
  exact h
theorem info336:(Tryz.prog.info? 336).map (fun i=>(i.zero,i.size,i.bytes))=some (some (.agg #[.bool false,.int .i64 0,.int .i64 0,.int .i64 0]),4,32):=by kernel_rfl
theorem make_run (w:World)(n:Nat)(hn:n≤1024) :
  ∃w',(Instr.makeSlice 234 (.int .i64 (n:Int)) (.int .i64 (n:Int))).run Tryz.prog w=.ok (.slice (some ⟨w.heap.size,0,none⟩) n n) w'∧(∀(i:Nat) (p:Nd),(List.replicate n nd0)[i]?=some p→Pn w' w.heap.size (i*4) p)∧(∀j,w'.frozen? ⟨w.heap.size,j,none⟩=false)∧w.heap.size<w'.heap.size∧Below w.heap.size w w':=by
 obtain⟨i,hi,hz0,hz1,hz2⟩:=info_parts info336
 obtain⟨w',hr,ho,hg⟩:=run_make_full (P:=Tryz.prog) w w.heap.size 234 336 i _ 4 Tryz.underlying234 hi hz0 hz1 .i64 .i64 n (by rw [hz2];omega) (by unfold maxLen;omega) (Nat.le_refl _)
 have hcell:∀j c u,j<n→c<4→(#[.bool false,.int .i64 0,.int .i64 0,.int .i64 0]:Array Value)[c]! = u→w'.cell? ⟨w.heap.size,j*4+c,none⟩=some u:=by
  intro j c u hj hc hu
  have hm:(j*4+c)%4=c:=by omega
  have:=ho.cells (g:=w.heap.size) rfl (j*4+c) u (by
   rw [Array.getElem?_toList]
   simp only [madeCells,Value.cells,Array.getElem?_map,Array.getElem?_range]
   rw [if_pos (by omega)]
   simp only [Option.map_some,Option.some.injEq,Array.size,List.length,hm]
   exact hu)
  rw [aa_] at this
  exact this
 refine⟨w',hr,fun j p hp=>?_,fun j=>?_,?_,(Below.refl _ _).grown hg (Nat.le_refl _) (fun k hk=>by cases hk)⟩
 ·rw [List.getElem?_replicate] at hp
  split at hp
  ·next hj =>
   have:=(Option.some.inj hp).symm
   subst this
   exact⟨hcell j 0 _ hj (by omega) rfl,hcell j 1 _ hj (by omega) rfl,hcell j 2 _ hj (by omega) rfl,hcell j 3 _ hj (by omega) rfl⟩
  ·cases hp
 ·rcases ho.2 with ⟨h0,_⟩|⟨g,c,cur,hv,_,hh,hc,_⟩
  ·simp at h0
  ·simp only [Value.slice.injEq,Option.some.injEq,Addr.mk.injEq] at hv
   obtain⟨⟨rfl,_⟩,_,rfl⟩:=hv
   simp [World.frozen?,hh]
 ·exact (own_block ho _ rfl).2
def Fresh (w:World)(m:Nat)(e:Ending)(w':World):Prop :=
 ∃g gb:Nat,e=.returned (.tuple #[.pointer (some ⟨g,0,none⟩),.int .i64 0])∧Ki w' g gb m []∧w.heap.size≤g∧w.heap.size≤gb∧Below w.heap.size w w'
theorem new_ok (w:World)(m:Nat)(h1:m≤1024):Calls Tryz.prog 86 #[.int .i64 (m:Int)] w (Fresh w m):=by
 have hk1:¬(m:Int)<0:=by omega
 have hk2:¬(1024:Int)<(m:Int):=by omega
 obtain⟨w2,hr,hA,hF,hsz,hb⟩:=make_run w m h1
 have HA:=hid hA
 have HFr:=hid hF
 have HB:=hid hb
 clear hA hF hb
 go_enter Tryz.func86,Tryz.ntmps86
 go_wp2
 refine bodyPost_ret (v:=.tuple #[.pointer (some ⟨w2.heap.size,0,none⟩),.int .i64 0]) (by simp [results,Tryz.results86,go_sem]) rfl ⟨w2.heap.size,w.heap.size,rfl,?_,HB.out.size,Nat.le_refl _,HB.out.alloc HB.out.size _⟩
 have hsh:But (fun _=>False) w2 (w2.alloc (Obj.cells #[.slice (some ⟨w.heap.size,0,none⟩) m m] 236)):=But.of (below1 _ _)
 refine⟨List.replicate m nd0,⟨by simp [go_sem],fun j=>?_,fun i p hp=>(HA.out i p hp).but hsh (fun h=>h),by omega,by simp;omega,by simp,h1⟩,Rep.init m⟩
 rw [World.frozen?_of_block (w:=w2) (hsh.block w.heap.size hsz (fun h=>h))]
 exact HFr.out j
end Go.Proofs.YtfmhdimaijimlaaGreatDoor
