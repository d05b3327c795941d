import Derived.BigRegion
import Derived.Laws.Bits128
import Derived.RangeFuncNested
import Derived.RangeFuncBound
import Derived.RangeFuncCalls
import Derived.RangeFuncLeaves
import Derived.Shelf.Abstract
import Derived.Shelf.RegionOpen
import Derived.OwnWalkIn
import Derived.TacticsInMore
import Derived.LoopNIn
import Derived.LoopIn
import Derived.Maps.OwnIn
import Derived.Sort.CutIn
import Derived.Maps.RangeWalk
import Derived.Sort.KeysCollected
import Derived.Test.YtffmodpgddecnaaGreatZ00
set_option linter.unusedVariables false
namespace Go.Proofs.YtffmodpgddecnaaGreat
open Go.RowKit
theorem Tm.cell {w:World}{g gb m:Nat}{N N':List Nd}{o:Nat}{u:Value}(h:Tm w g gb m N)(hl:N'.length=m)
  (hat:∀(i:Nat) (x:Nd),N'[i]?=some x→Pn (w.setCell ⟨gb,o,none⟩ u) gb (i*4) x):Tm (w.setCell ⟨gb,o,none⟩ u) g gb m N' :=
 ⟨cell_nb h.a0 h.ne,fun j=>by simpa using h.fr j,hat,h.ne,by simpa [World.setCell] using h.lt2,hl,h.big⟩
theorem Pn.off {w:World}{b o o':Nat}{x:Nd}{u:Value}(h:Pn w b o x)(hne:o'<o∨o+4≤o'):Pn (w.setCell ⟨b,o',none⟩ u) b o x :=
 ⟨cell_ne h.c0 (by omega),cell_ne h.c1 (by omega),cell_ne h.c2 (by omega),cell_ne h.c3 (by omega)⟩
def setN (w:World)(b o:Nat)(x:Nd):World :=
 (((w.setCell ⟨b,o,none⟩ (.bool x.th)).setCell ⟨b,o+1,none⟩ (.int .i64 x.pa)).setCell ⟨b,o+2,none⟩ (.int .i64 x.fi)).setCell ⟨b,o+3,none⟩ (.int .i64 x.be)
theorem setN_but {S:Nat→Prop}{a w:World}(h:But S a w){b:Nat}(hb:S b)(o:Nat)(x:Nd):But S a (setN w b o x) :=
 (((h.setCell (p:=⟨b,o,none⟩) hb _).setCell (p:=⟨b,o+1,none⟩) hb _).setCell (p:=⟨b,o+2,none⟩) hb _).setCell (p:=⟨b,o+3,none⟩) hb _
theorem Pn.set {w:World}{b o:Nat}{y:Nd}(h:Pn w b o y)(x:Nd):Pn (setN w b o x) b o x:=by
 have s0:=World.cell?_setCell_same w ⟨b,o,none⟩ (.bool x.th) h.c0
 have s1:=World.cell?_setCell_same (w.setCell ⟨b,o,none⟩ (.bool x.th)) ⟨b,o+1,none⟩ (.int .i64 x.pa) (cell_ne h.c1 (by omega))
 have s2:=World.cell?_setCell_same ((w.setCell ⟨b,o,none⟩ (.bool x.th)).setCell ⟨b,o+1,none⟩ (.int .i64 x.pa)) ⟨b,o+2,none⟩ (.int .i64 x.fi) (cell_ne (cell_ne h.c2 (by omega)) (by omega))
 unfold setN
 exact⟨cell_ne (cell_ne (cell_ne s0 (by omega)) (by omega)) (by omega),cell_ne (cell_ne s1 (by omega)) (by omega),cell_ne s2 (by omega),World.cell?_setCell_same _ _ _ (cell_ne (cell_ne (cell_ne h.c3 (by omega)) (by omega)) (by omega))⟩
theorem Pn.setOff {w:World}{b o o':Nat}{y:Nd}(h:Pn w b o y)(x:Nd)(hne:o'+4≤o∨o+4≤o'):Pn (setN w b o' x) b o y:=by
 unfold setN
 exact (((h.off (by omega)).off (by omega)).off (by omega)).off (by omega)
theorem Tm.set {w:World}{g gb m:Nat}{N:List Nd}{i:Nat}{y:Nd}(h:Tm w g gb m N)(hy:N[i]?=some y)(x:Nd):Tm (setN w gb (i*4) x) g gb m (N.set i x):=by
 have hb:But (·=gb) w (setN w gb (i*4) x):=setN_but (S:=(·=gb)) (But.refl _ _) (b:=gb) (by rfl) _ _
 refine⟨cell_but hb h.a0 h.ne,fun j=>by have:=h.fr j;unfold setN;simpa using this,fun j q hq=>?_,h.ne,Nat.lt_of_lt_of_le h.lt2 hb.size,by rw [List.length_set];exact h.len,h.big⟩
 rcases get_set hq with ⟨rfl,rfl⟩|⟨hne,h3⟩
 ·exact (h.at_ _ _ hy).set _
 ·exact (h.at_ _ _ h3).setOff _ (by omega)
end Go.Proofs.YtffmodpgddecnaaGreat
namespace Go.Proofs.YtffmodpgddecnaaGreat.H
open Go.RowKit
def objN (o:Int):Nat:=(o%18446744073709551616).toNat
end Go.Proofs.YtffmodpgddecnaaGreat.H
namespace Go.Proofs.YtffmodpgddecnaaGreat.H.I
open Go.RowKit
abbrev Q:=Pl Int
structure Pa (w:World)(b o:Nat)(p:Q):Prop where
 c0:w.cell? ⟨b,o,none⟩=some (.int .i64 p.k)
 c1:w.cell? ⟨b,o+1,none⟩=some (.int .i64 p.c.1)
 c2:w.cell? ⟨b,o+2,none⟩=some (.int .u64 (p.c.2.1:Int))
 c3:w.cell? ⟨b,o+3,none⟩=some (.int .u64 (p.c.2.2:Int))
 c4:w.cell? ⟨b,o+4,none⟩=some (.int .i64 p.v)
theorem Pa.but {S:Nat→Prop}{w w':World}{b o:Nat}{p:Q}(hb:But S w w')(h:Pa w b o p)(hn:¬S b):Pa w' b o p :=
 ⟨cell_but hb h.c0 hn,cell_but hb h.c1 hn,cell_but hb h.c2 hn,cell_but hb h.c3 hn,cell_but hb h.c4 hn⟩
structure Tm (w:World)(g gb:Nat)(kn mo:Nat)(li sp:Int)(N:Nat)(L:List Q):Prop where
 a0:w.cell? ⟨g,0,none⟩=some (.slice (some ⟨gb,0,none⟩) N N)
 a1:w.cell? ⟨g,1,none⟩=some (.int .i64 (kn:Int))
 a2:w.cell? ⟨g,2,none⟩=some (.int .i64 (mo:Int))
 a3:Lies w ⟨g,3,none⟩ (.int .i64 li)
 a4:Lies w ⟨g,4,none⟩ (.int .i64 sp)
 fr:∀j,w.frozen? ⟨gb,j,none⟩=false
 at_:∀(i:Nat) (p:Q),L[i]?=some p→Pa w gb (i*5) p
 ne:g≠gb
 len:L.length=N
 pos:0<N
 big:N≤1024
 ok:∀(i:Nat) (p:Q),L[i]?=some p→p.c.2.1<B64∧p.c.2.2<B64
theorem Tm.lt {w:World}{g gb kn mo:Nat}{li sp:Int}{N:Nat}{L:List Q}(h:Tm w g gb kn mo li sp N L):g<w.heap.size:=World.block_lt_of_cell? _ _ h.a1
theorem Tm.lt2 {w:World}{g gb kn mo:Nat}{li sp:Int}{N:Nat}{L:List Q}(h:Tm w g gb kn mo li sp N L):gb<w.heap.size:=by
 obtain⟨p,hp⟩:=get_some (L:=L) (i:=0) (by rw [h.len];exact h.pos)
 exact World.block_lt_of_cell? _ _ (h.at_ 0 p hp).c0
theorem Tm.but {S:Nat→Prop}{w w':World}{g gb kn mo:Nat}{li sp:Int}{N:Nat}{L:List Q}(hb:But S w w')(h:Tm w g gb kn mo li sp N L)(h1:¬S g)(h2:¬S gb):Tm w' g gb kn mo li sp N L :=
 ⟨cell_but hb h.a0 h1,cell_but hb h.a1 h1,cell_but hb h.a2 h1,h.a3.but hb h1,h.a4.but hb h1,fun j=>by rw [World.frozen?_of_block (w:=w) (hb.block gb h.lt2 h2)];exact h.fr j,fun i p hp=>(h.at_ i p hp).but hb h2,h.ne,h.len,h.pos,h.big,h.ok⟩
theorem Tm.later {w w':World}{g gb kn mo:Nat}{li sp:Int}{N:Nat}{L:List Q}(hb:Below w.heap.size w w')(h:Tm w g gb kn mo li sp N L):Tm w' g gb kn mo li sp N L:=h.but (S:=fun _=>False) (But.of hb) (fun h=>h) (fun h=>h)
theorem Tm.alloc {w:World}{g gb kn mo:Nat}{li sp:Int}{N:Nat}{L:List Q}(h:Tm w g gb kn mo li sp N L)(o:Obj):Tm (w.alloc o) g gb kn mo li sp N L:=h.later (below1 _ _)
def hm (kn N:Nat)(c:Cp):Nat:=lowN (hashN (objN c.1) c.2.1 c.2.2) (kn:Int)%N
end Go.Proofs.YtffmodpgddecnaaGreat.H.I
namespace Go.Proofs.YtffmodpgddecnaaGreat.H.I
open Go.RowKit
theorem cell_ne {w:World}{b o o':Nat}{u v:Value}(h:w.cell? ⟨b,o,none⟩=some v)(hne:o≠o'):(w.setCell ⟨b,o',none⟩ u).cell? ⟨b,o,none⟩=some v:=by
 rw [World.cell?_setCell_other _ _ _ _ (fun e=>hne (by cases e;rfl))];exact h
theorem cell_nb {w:World}{b b' o o':Nat}{u v:Value}(h:w.cell? ⟨b,o,none⟩=some v)(hne:b≠b'):(w.setCell ⟨b',o',none⟩ u).cell? ⟨b,o,none⟩=some v:=by
 rw [World.cell?_setCell_other _ _ _ _ (fun e=>hne (by cases e;rfl))];exact h
theorem Tm.cell {w:World}{g gb kn mo:Nat}{li sp:Int}{N:Nat}{L L':List Q}{o:Nat}{u:Value}(h:Tm w g gb kn mo li sp N L)(hl:L'.length=N)(hok:∀(i:Nat) (p:Q),L'[i]?=some p→p.c.2.1<B64∧p.c.2.2<B64)
  (hat:∀(i:Nat) (p:Q),L'[i]?=some p→Pa (w.setCell ⟨gb,o,none⟩ u) gb (i*5) p):Tm (w.setCell ⟨gb,o,none⟩ u) g gb kn mo li sp N L' :=
 ⟨cell_nb h.a0 h.ne,cell_nb h.a1 h.ne,cell_nb h.a2 h.ne,h.a3.other (fun e=>h.ne (by cases e;rfl)),h.a4.other (fun e=>h.ne (by cases e;rfl)),fun j=>by simpa using h.fr j,hat,h.ne,hl,h.pos,h.big,hok⟩
theorem Pa.off {w:World}{b o o':Nat}{p:Q}{u:Value}(h:Pa w b o p)(hne:o'<o∨o+5≤o'):Pa (w.setCell ⟨b,o',none⟩ u) b o p :=
 ⟨cell_ne h.c0 (by omega),cell_ne h.c1 (by omega),cell_ne h.c2 (by omega),cell_ne h.c3 (by omega),cell_ne h.c4 (by omega)⟩
def setP (w:World)(b o:Nat)(x:Q):World :=
 ((((w.setCell ⟨b,o,none⟩ (.int .i64 x.k)).setCell ⟨b,o+1,none⟩ (.int .i64 x.c.1)).setCell ⟨b,o+2,none⟩ (.int .u64 (x.c.2.1:Int))).setCell ⟨b,o+3,none⟩ (.int .u64 (x.c.2.2:Int))).setCell ⟨b,o+4,none⟩ (.int .i64 x.v)
theorem setP_but {S:Nat→Prop}{a w:World}(h:But S a w){b:Nat}(hb:S b)(o:Nat)(x:Q):But S a (setP w b o x) :=
 ((((h.setCell (p:=⟨b,o,none⟩) hb _).setCell (p:=⟨b,o+1,none⟩) hb _).setCell (p:=⟨b,o+2,none⟩) hb _).setCell (p:=⟨b,o+3,none⟩) hb _).setCell (p:=⟨b,o+4,none⟩) hb _
theorem Pa.set {w:World}{b o:Nat}{p:Q}(h:Pa w b o p)(x:Q):Pa (setP w b o x) b o x:=by
 have s0:=World.cell?_setCell_same w ⟨b,o,none⟩ (.int .i64 x.k) h.c0
 have s1:=World.cell?_setCell_same (w.setCell ⟨b,o,none⟩ (.int .i64 x.k)) ⟨b,o+1,none⟩ (.int .i64 x.c.1) (cell_ne h.c1 (by omega))
 have s2:=World.cell?_setCell_same ((w.setCell ⟨b,o,none⟩ (.int .i64 x.k)).setCell ⟨b,o+1,none⟩ (.int .i64 x.c.1)) ⟨b,o+2,none⟩ (.int .u64 (x.c.2.1:Int)) (cell_ne (cell_ne h.c2 (by omega)) (by omega))
 have s3:=World.cell?_setCell_same (((w.setCell ⟨b,o,none⟩ (.int .i64 x.k)).setCell ⟨b,o+1,none⟩ (.int .i64 x.c.1)).setCell ⟨b,o+2,none⟩ (.int .u64 (x.c.2.1:Int))) ⟨b,o+3,none⟩ (.int .u64 (x.c.2.2:Int)) (cell_ne (cell_ne (cell_ne h.c3 (by omega)) (by omega)) (by omega))
 unfold setP
 exact⟨cell_ne (cell_ne (cell_ne (cell_ne s0 (by omega)) (by omega)) (by omega)) (by omega),cell_ne (cell_ne (cell_ne s1 (by omega)) (by omega)) (by omega),cell_ne (cell_ne s2 (by omega)) (by omega),cell_ne s3 (by omega),World.cell?_setCell_same _ _ _ (cell_ne (cell_ne (cell_ne (cell_ne h.c4 (by omega)) (by omega)) (by omega)) (by omega))⟩
theorem Pa.setOff {w:World}{b o o':Nat}{p:Q}(h:Pa w b o p)(x:Q)(hne:o'+5≤o∨o+5≤o'):Pa (setP w b o' x) b o p:=by
 unfold setP
 exact ((((h.off (by omega)).off (by omega)).off (by omega)).off (by omega)).off (by omega)
theorem Tm.set {w:World}{g gb kn mo:Nat}{li sp:Int}{N:Nat}{L:List Q}{i:Nat}{p:Q}(h:Tm w g gb kn mo li sp N L)(hp:L[i]?=some p)(x:Q)(hx:x.c.2.1<B64∧x.c.2.2<B64):Tm (setP w gb (i*5) x) g gb kn mo li sp N (L.set i x):=by
 have hb:But (·=gb) w (setP w gb (i*5) x):=setP_but (S:=(·=gb)) (But.refl _ _) (b:=gb) (by rfl) _ _
 refine⟨cell_but hb h.a0 h.ne,cell_but hb h.a1 h.ne,cell_but hb h.a2 h.ne,h.a3.but hb h.ne,h.a4.but hb h.ne,fun j=>by have:=h.fr j;unfold setP;simpa using this,fun j q hq=>?_,h.ne,by rw [List.length_set];exact h.len,h.pos,h.big,fun j q hq=>?_⟩
 ·rcases get_set hq with ⟨rfl,rfl⟩|⟨hne,h3⟩
  ·exact (h.at_ _ _ hp).set _
  ·exact (h.at_ _ _ h3).setOff _ (by omega)
 ·rcases get_set hq with ⟨rfl,rfl⟩|⟨_,h3⟩
  ·exact hx
  ·exact h.ok _ _ h3
theorem Tm.live {w:World}{g gb kn mo:Nat}{li sp:Int}{N:Nat}{L:List Q}(h:Tm w g gb kn mo li sp N L)(v:Int):Tm (w.setCell ⟨g,3,none⟩ (.int .i64 v)) g gb kn mo v sp N L:=by
 have hb:But (·=g) w (w.setCell ⟨g,3,none⟩ (.int .i64 v)):=(But.refl (·=g) _).setCell (p:=⟨g,3,none⟩) (show g=g from rfl) _
 have hne:¬gb=g:=fun e=>h.ne e.symm
 exact⟨cell_ne h.a0 (by omega),cell_ne h.a1 (by omega),cell_ne h.a2 (by omega),h.a3.put,h.a4.other (fun e=>by cases e),fun j=>by simpa using h.fr j,fun i p hp=>(h.at_ i p hp).but hb hne,h.ne,h.len,h.pos,h.big,h.ok⟩
def In (g gb:Nat)(k:Nat):Prop:=k=g∨k=gb
end Go.Proofs.YtffmodpgddecnaaGreat.H.I
namespace Go.Proofs.YtffmodpgddecnaaGreat.H.I
open Go.RowKit
structure Sl (w:World)(g gb kn mo N:Nat)(L:List Q)(sp:Nat)(E:List (Cp×Int)):Prop where
 tm:Tm w g gb kn mo (E.length:Int) (sp:Int) N L
 kinds:∀(i:Nat) (p:Q),L[i]?=some p→p.k=0∨p.k=1∨p.k=2
 way:Way (hm kn N) (·≠0) L
 perm:(ents L).Perm E
 nodup:(E.map Prod.fst).Nodup
 free:fre L=sp
 most:E.length≤mo
 m1:1≤mo
 m2:2*mo≤N
def Tb (w:World)(g gb kn mo N:Nat)(E:List (Cp×Int)):Prop:=∃L sp,Sl w g gb kn mo N L sp E
theorem Sl.but {S:Nat→Prop}{w w':World}{g gb kn mo N:Nat}{L:List Q}{sp:Nat}{E:List (Cp×Int)}(hb:But S w w')(h:Sl w g gb kn mo N L sp E)(h1:¬S g)(h2:¬S gb):Sl w' g gb kn mo N L sp E :=
 ⟨h.tm.but hb h1 h2,h.kinds,h.way,h.perm,h.nodup,h.free,h.most,h.m1,h.m2⟩
theorem Sl.later {w w':World}{g gb kn mo N:Nat}{L:List Q}{sp:Nat}{E:List (Cp×Int)}(hb:Below w.heap.size w w')(h:Sl w g gb kn mo N L sp E):Sl w' g gb kn mo N L sp E:=h.but (S:=fun _=>False) (But.of hb) (fun h=>h) (fun h=>h)
theorem Sl.alloc {w:World}{g gb kn mo N:Nat}{L:List Q}{sp:Nat}{E:List (Cp×Int)}(h:Sl w g gb kn mo N L sp E)(o:Obj):Sl (w.alloc o) g gb kn mo N L sp E:=h.later (below1 _ _)
theorem Tb.but {S:Nat→Prop}{w w':World}{g gb kn mo N:Nat}{E:List (Cp×Int)}(hb:But S w w')(h:Tb w g gb kn mo N E)(h1:¬S g)(h2:¬S gb):Tb w' g gb kn mo N E:=by
 obtain⟨L,sp,h⟩:=h;exact⟨L,sp,h.but hb h1 h2⟩
theorem Tb.later {w w':World}{g gb kn mo N:Nat}{E:List (Cp×Int)}(hb:Below w.heap.size w w')(h:Tb w g gb kn mo N E):Tb w' g gb kn mo N E:=by
 obtain⟨L,sp,h⟩:=h;exact⟨L,sp,h.later hb⟩
theorem Tb.alloc {w:World}{g gb kn mo N:Nat}{E:List (Cp×Int)}(h:Tb w g gb kn mo N E)(o:Obj):Tb (w.alloc o) g gb kn mo N E:=h.later (below1 _ _)
theorem Tb.lt {w:World}{g gb kn mo N:Nat}{E:List (Cp×Int)}(h:Tb w g gb kn mo N E):g<w.heap.size:=by obtain⟨L,sp,h⟩:=h;exact h.tm.lt
theorem Tb.lt2 {w:World}{g gb kn mo N:Nat}{E:List (Cp×Int)}(h:Tb w g gb kn mo N E):gb<w.heap.size:=by obtain⟨L,sp,h⟩:=h;exact h.tm.lt2
theorem Tb.nodup {w:World}{g gb kn mo N:Nat}{E:List (Cp×Int)}(h:Tb w g gb kn mo N E):(E.map Prod.fst).Nodup:=by obtain⟨L,sp,h⟩:=h;exact h.nodup
theorem Tb.most {w:World}{g gb kn mo N:Nat}{E:List (Cp×Int)}(h:Tb w g gb kn mo N E):E.length≤mo:=by obtain⟨L,sp,h⟩:=h;exact h.most
theorem Tb.small {w:World}{g gb kn mo N:Nat}{E:List (Cp×Int)}(h:Tb w g gb kn mo N E):mo≤512:=by obtain⟨L,sp,h⟩:=h;have:=h.tm.big;have:=h.m2;omega
theorem Tb.ok {w:World}{g gb kn mo N:Nat}{E:List (Cp×Int)}(h:Tb w g gb kn mo N E){c:Cp}(hc:c∈E.map Prod.fst):c.2.1<B64∧c.2.2<B64:=by
 obtain⟨L,sp,h⟩:=h
 obtain⟨y,hy,rfl⟩:=List.mem_map.1 hc
 obtain⟨i,p,hp,hk,rfl⟩:=mem_ents ((h.perm.mem_iff).2 hy) h.kinds
 exact h.tm.ok i p hp
theorem Tb.perm {w:World}{g gb kn mo N:Nat}{E E':List (Cp×Int)}(h:Tb w g gb kn mo N E)(hp:E.Perm E'):Tb w g gb kn mo N E':=by
 obtain⟨L,sp,h⟩:=h
 have hl:=hp.length_eq
 exact⟨L,sp,by rw [←hl];exact h.tm,h.kinds,h.way,h.perm.trans hp,(hp.map _).nodup_iff.1 h.nodup,h.free,by rw [←hl];exact h.most,h.m1,h.m2⟩
theorem Sl.there {w:World}{g gb kn mo N:Nat}{L:List Q}{sp:Nat}{E:List (Cp×Int)}(h:Sl w g gb kn mo N L sp E){c:Cp}(hc:c∈E.map Prod.fst):∃(i:Nat) (p:Q),L[i]?=some p∧p.k=1∧p.c=c:=by
 obtain⟨y,hy,rfl⟩:=List.mem_map.1 hc
 obtain⟨i,p,hp,hk,rfl⟩:=mem_ents (h.perm.mem_iff.2 hy) h.kinds
 exact⟨i,p,hp,hk,rfl⟩
theorem Sl.drop {w:World}{g gb kn mo N:Nat}{L:List Q}{sp:Nat}{E E':List (Cp×Int)}(h:Sl w g gb kn mo N L sp E){i:Nat}{c:Cp}{v:Int}(hp:L[i]?=some ⟨1,c,v⟩)(z:Int){n:Int}(hn:n=(E.length:Int) - 1)(hE:E.Perm ((c,v)::E')) :
  Sl ((setP w gb (i*5) ⟨2,(0,0,0),z⟩).setCell ⟨g,3,none⟩ (.int .i64 n)) g gb kn mo N (L.set i ⟨2,(0,0,0),z⟩) sp E':=by
 have hl:=hE.length_eq
 rw [List.length_cons] at hl
 have hn':n=(E'.length:Int):=by omega
 have hnd:=(hE.map Prod.fst).nodup_iff.1 h.nodup
 rw [List.map_cons,List.nodup_cons] at hnd
 have hm:=h.most
 refine⟨?_,?_,?_,?_,hnd.2,?_,by omega,h.m1,h.m2⟩
 ·have t:=(h.tm.set hp ⟨2,(0,0,0),z⟩ ⟨show (0:Nat)<B64 by decide,show (0:Nat)<B64 by decide⟩).live n
  rw [←hn']
  exact t
 ·intro j x hx
  rcases get_set hx with ⟨rfl,rfl⟩|⟨_,h3⟩
  ·exact .inr (.inr rfl)
  ·exact h.kinds _ _ h3
 ·exact h.way.set (fun _ _ _=>show (2:Int)≠0 by decide) (fun hx=>absurd hx (show ¬(2:Int)=1 by decide))
 ·have hd:=ents_del (x:=(⟨2,(0,0,0),z⟩:Q)) (y:=(c,v)) hp (by simp [ent]) (by simp [ent])
  exact (hd.symm.trans (h.perm.trans hE)).cons_inv
 ·rw [fre_same hp (show (1:Int)≠0 by decide) (show (2:Int)≠0 by decide)]
  exact h.free
end Go.Proofs.YtffmodpgddecnaaGreat.H.I
namespace Go.Proofs.YtffmodpgddecnaaGreat
open Go.RowKit H
theorem i64_and_nat (a b:Nat)(ha:a<32)(hb:b<32):bits .and .i64 (a:Int) (b:Int)=((a &&& b:Nat):Int):=by
 have hx:a &&& b<2 ^ 5:=Nat.and_lt_two_pow _ (by omega)
 show IntKind.i64.wrap ((BitVec.ofInt 64 (a:Int) &&& BitVec.ofInt 64 (b:Int)).toNat:Int)=_
 rw [BitVec.toNat_and,BitVec.ofInt_natCast,BitVec.ofInt_natCast,BitVec.toNat_ofNat,BitVec.toNat_ofNat,Nat.mod_eq_of_lt (a:=a) (by omega),Nat.mod_eq_of_lt (a:=b) (by omega),IntKind.wrap_i64]
 omega
theorem valid_nat {r:Int}(h:validB r=true):∃n:Nat,r=(n:Int)∧1≤n∧n<32:=by
 have:=validB_iff.1 h
 exact⟨r.toNat,by omega,by omega,by omega⟩
theorem beq_nat (x y:Nat):((x:Int)==(y:Int))=decide (x=y):=by
 by_cases h:x=y
 ·subst h;simp
 ·rw [decide_eq_false h]
  simp
  omega
theorem valid_any (r:Int)(w:World) :
  Calls Tryz.prog 100 #[.int .i64 r] w fun e w'=>e=.returned (.bool (validB r))∧w'=w:=by
 by_cases h1:0<r
 ·by_cases h2:r≤31
  ·have hz:validB r=true:=decide_eq_true (by omega)
   rw [hz];clear hz
   go_enter Tryz.func100,Tryz.ntmps100
   go_wp2
   go_ret
   exact⟨rfl,rfl⟩
  ·have hz:validB r=false:=decide_eq_false (by omega)
   rw [hz];clear hz
   go_enter Tryz.func100,Tryz.ntmps100
   go_wp2
   go_ret
   exact⟨rfl,rfl⟩
 ·have hz:validB r=false:=decide_eq_false (by omega)
  rw [hz];clear hz
  go_enter Tryz.func100,Tryz.ntmps100
  go_wp2
  go_ret
  exact⟨rfl,rfl⟩
theorem part_any (a b:Int)(w:World) :
  Calls Tryz.prog 91 #[.int .i64 a,.int .i64 b] w fun e w'=>e=.returned (.bool (partB a b))∧w'=w:=by
 by_cases h1:validB a=true
 ·by_cases h2:validB b=true
  ·obtain⟨n,rfl,_,hn⟩:=valid_nat h1
   obtain⟨m,rfl,_,hm⟩:=valid_nat h2
   have hb:=i64_and_nat n m hn hm
   have HP:Hid (partB (n:Int) (m:Int)=decide (n &&& m=n)):=by unfold Hid partB;rw [h1,h2];simp
   go_enter Tryz.func91,Tryz.ntmps91
   go_wp2_with (first|(go_at_call 100;refine (valid_any _ _).mono ?_;rintro e w1 ⟨rfl,rfl⟩))
   go_ret
   refine⟨?_,rfl⟩
   rw [HP.out]
   apply ret_bool
   exact beq_nat _ _
  ·have h2:validB b=false:=by simpa using h2
   have hz:partB a b=false:=by unfold partB;rw [h2];simp
   rw [hz];clear hz
   go_enter Tryz.func91,Tryz.ntmps91
   go_wp2_with (first|(go_at_call 100;refine (valid_any _ _).mono ?_;rintro e w1 ⟨rfl,rfl⟩))
   go_ret
   exact⟨rfl,rfl⟩
 ·have h1:validB a=false:=by simpa using h1
  have hz:partB a b=false:=by unfold partB;rw [h1];simp
  rw [hz];clear hz
  go_enter Tryz.func91,Tryz.ntmps91
  go_wp2_with (first|(go_at_call 100;refine (valid_any _ _).mono ?_;rintro e w1 ⟨rfl,rfl⟩))
  go_ret
  exact⟨rfl,rfl⟩
structure Ad where
 g:Nat
 tg:Nat
 tb:Nat
 eb:Nat
 kg:Nat
 kb:Nat
 N:Nat
def Ad.Wr (A:Ad)(k:Nat):Prop:=k=A.tg∨k=A.tb∨k=A.eb∨k=A.kb
def Ad.All (A:Ad)(k:Nat):Prop:=k=A.g∨k=A.kg∨A.Wr k
structure Ad.Dis (A:Ad):Prop where
 d1:A.tg≠A.g
 d2:A.tb≠A.g
 d3:A.eb≠A.g
 d4:A.kb≠A.g
 d5:A.tg≠A.eb
 d6:A.tb≠A.eb
 d7:A.tg≠A.kg
 d8:A.tb≠A.kg
 d9:A.tg≠A.kb
 da:A.tb≠A.kb
 db:A.eb≠A.kg
 dc:A.eb≠A.kb
structure Pe (w:World)(b o:Nat)(x:Tk):Prop where
 c0:w.cell? ⟨b,o,none⟩=some (.int .i64 x.1.1)
 c1:w.cell? ⟨b,o+1,none⟩=some (.int .u64 (x.1.2.1:Int))
 c2:w.cell? ⟨b,o+2,none⟩=some (.int .u64 (x.1.2.2:Int))
 c3:w.cell? ⟨b,o+3,none⟩=some (.int .i64 x.2)
theorem Pe.but {S:Nat→Prop}{w w':World}{b o:Nat}{x:Tk}(hb:But S w w')(h:Pe w b o x)(hn:¬S b):Pe w' b o x :=
 ⟨cell_but hb h.c0 hn,cell_but hb h.c1 hn,cell_but hb h.c2 hn,cell_but hb h.c3 hn⟩
theorem Pe.later {w w':World}{b o:Nat}{x:Tk}(hb:Below w.heap.size w w')(h:Pe w b o x):Pe w' b o x:=h.but (S:=fun _=>False) (But.of hb) (fun h=>h)
theorem Pe.off {w:World}{b o o':Nat}{x:Tk}{u:Value}(h:Pe w b o x)(hne:o'<o∨o+4≤o'):Pe (w.setCell ⟨b,o',none⟩ u) b o x :=
 ⟨cell_ne h.c0 (by omega),cell_ne h.c1 (by omega),cell_ne h.c2 (by omega),cell_ne h.c3 (by omega)⟩
def setE (w:World)(b o:Nat)(x:Tk):World :=
 (((w.setCell ⟨b,o,none⟩ (.int .i64 x.1.1)).setCell ⟨b,o+1,none⟩ (.int .u64 (x.1.2.1:Int))).setCell ⟨b,o+2,none⟩ (.int .u64 (x.1.2.2:Int))).setCell ⟨b,o+3,none⟩ (.int .i64 x.2)
theorem setE_but {S:Nat→Prop}{a w:World}(h:But S a w){b:Nat}(hb:S b)(o:Nat)(x:Tk):But S a (setE w b o x) :=
 (((h.setCell (p:=⟨b,o,none⟩) hb _).setCell (p:=⟨b,o+1,none⟩) hb _).setCell (p:=⟨b,o+2,none⟩) hb _).setCell (p:=⟨b,o+3,none⟩) hb _
theorem Pe.set {w:World}{b o:Nat}{y:Tk}(h:Pe w b o y)(x:Tk):Pe (setE w b o x) b o x:=by
 unfold setE
 refine⟨?_,?_,?_,?_⟩
 ·exact cell_ne (cell_ne (cell_ne (World.cell?_setCell_same _ _ _ h.c0) (by omega)) (by omega)) (by omega)
 ·exact cell_ne (cell_ne (World.cell?_setCell_same _ _ _ (cell_ne h.c1 (by omega))) (by omega)) (by omega)
 ·exact cell_ne (World.cell?_setCell_same _ _ _ (cell_ne (cell_ne h.c2 (by omega)) (by omega))) (by omega)
 ·exact World.cell?_setCell_same _ _ _ (cell_ne (cell_ne (cell_ne h.c3 (by omega)) (by omega)) (by omega))
theorem Pe.setOff {w:World}{b o o':Nat}{y:Tk}(h:Pe w b o y)(x:Tk)(hne:o'+4≤o∨o+4≤o'):Pe (setE w b o' x) b o y:=by
 unfold setE
 exact (((h.off (by omega)).off (by omega)).off (by omega)).off (by omega)
structure Cm (w:World)(A:Ad)(kn mo:Nat)(T:List (Cp×Int))(X:List Tk)(l:Fo):Prop where
 c0:w.cell? ⟨A.g,0,none⟩=some (.pointer (some ⟨A.tg,0,none⟩))
 c1:w.cell? ⟨A.g,1,none⟩=some (.slice (some ⟨A.eb,0,none⟩) mo mo)
 c2:w.cell? ⟨A.g,2,none⟩=some (.pointer (some ⟨A.kg,0,none⟩))
 tab:I.Tb w A.tg A.tb kn mo A.N T
 kin:Ki w A.kg A.kb mo l
 ent:∀(i:Nat) (x:Tk),X[i]?=some x→Pe w A.eb (i*4) x
 fr:∀j,w.frozen? ⟨A.eb,j,none⟩=false
 lte:A.eb<w.heap.size
 len:X.length=mo
 dis:A.Dis
theorem Cm.but {S:Nat→Prop}{w w':World}{A:Ad}{kn mo:Nat}{T:List (Cp×Int)}{X:List Tk}{l:Fo}(hb:But S w w')(h:Cm w A kn mo T X l)(hS:∀k,A.All k→¬S k):Cm w' A kn mo T X l :=
 ⟨cell_but hb h.c0 (hS _ (.inl rfl)),cell_but hb h.c1 (hS _ (.inl rfl)),cell_but hb h.c2 (hS _ (.inl rfl)),h.tab.but hb (hS _ (.inr (.inr (.inl rfl)))) (hS _ (.inr (.inr (.inr (.inl rfl))))),h.kin.but hb (hS _ (.inr (.inl rfl))) (hS _ (.inr (.inr (.inr (.inr (.inr rfl)))))),
  fun i x hx=>(h.ent i x hx).but hb (hS _ (.inr (.inr (.inr (.inr (.inl rfl)))))),fun j=>by rw [World.frozen?_of_block (w:=w) (hb.block A.eb h.lte (hS _ (.inr (.inr (.inr (.inr (.inl rfl)))))))];exact h.fr j,Nat.lt_of_lt_of_le h.lte hb.size,h.len,h.dis⟩
theorem Cm.later {w w':World}{A:Ad}{kn mo:Nat}{T:List (Cp×Int)}{X:List Tk}{l:Fo}(hb:Below w.heap.size w w')(h:Cm w A kn mo T X l):Cm w' A kn mo T X l:=h.but (S:=fun _=>False) (But.of hb) (fun _ _ h=>h)
theorem Ki.lt1 {w:World}{g gb m:Nat}{l:Fo}(h:Ki w g gb m l):g<w.heap.size∧gb<w.heap.size:=by
 obtain⟨N,h1,h2⟩:=h
 exact⟨h1.lt,h1.lt2⟩
theorem Cm.lt {w:World}{A:Ad}{kn mo:Nat}{T:List (Cp×Int)}{X:List Tk}{l:Fo}(h:Cm w A kn mo T X l):∀k,A.All k→k<w.heap.size:=by
 rintro k (rfl|rfl|rfl|rfl|rfl|rfl)
 ·exact World.block_lt_of_cell? _ _ h.c0
 ·exact h.kin.lt1.1
 ·exact h.tab.lt
 ·exact h.tab.lt2
 ·exact h.lte
 ·exact h.kin.lt1.2
theorem Cm.small {w:World}{A:Ad}{kn mo:Nat}{T:List (Cp×Int)}{X:List Tk}{l:Fo}(h:Cm w A kn mo T X l):mo≤512:=h.tab.small
theorem Cm.setT {w w':World}{A:Ad}{kn mo:Nat}{T T':List (Cp×Int)}{X:List Tk}{l:Fo}(h:Cm w A kn mo T X l)(hb:But (I.In A.tg A.tb) w w')(ht:I.Tb w' A.tg A.tb kn mo A.N T'):Cm w' A kn mo T' X l:=by
 have d:=h.dis
 have n1:¬I.In A.tg A.tb A.g:=by rintro (e|e);exact d.d1 e.symm;exact d.d2 e.symm
 have n2:¬I.In A.tg A.tb A.eb:=by rintro (e|e);exact d.d5 e.symm;exact d.d6 e.symm
 exact⟨cell_but hb h.c0 n1,cell_but hb h.c1 n1,cell_but hb h.c2 n1,ht,h.kin.but hb (by rintro (e|e);exact d.d7 e.symm;exact d.d8 e.symm) (by rintro (e|e);exact d.d9 e.symm;exact d.da e.symm),
  fun i x hx=>(h.ent i x hx).but hb n2,fun j=>by rw [World.frozen?_of_block (w:=w) (hb.block A.eb h.lte n2)];exact h.fr j,Nat.lt_of_lt_of_le h.lte hb.size,h.len,d⟩
theorem Cm.setX {w:World}{A:Ad}{kn mo:Nat}{T:List (Cp×Int)}{X:List Tk}{l:Fo}(h:Cm w A kn mo T X l){i:Nat}(hi:i<mo)(x:Tk):Cm (setE w A.eb (i*4) x) A kn mo T (X.set i x) l:=by
 have d:=h.dis
 have hb:But (·=A.eb) w (setE w A.eb (i*4) x):=setE_but (S:=(·=A.eb)) (But.refl _ _) rfl _ _
 obtain⟨y,hy⟩:=get_some (L:=X) (i:=i) (by rw [h.len];exact hi)
 refine⟨cell_but hb h.c0 (fun e=>d.d3 e.symm),cell_but hb h.c1 (fun e=>d.d3 e.symm),cell_but hb h.c2 (fun e=>d.d3 e.symm),h.tab.but hb d.d5 d.d6,h.kin.but hb (fun e=>d.db e.symm) (fun e=>d.dc e.symm),fun j z hz=>?_,fun j=>by simpa [setE] using h.fr j,Nat.lt_of_lt_of_le h.lte hb.size,by rw [List.length_set];exact h.len,d⟩
 rcases Go.Proofs.YtffmodpgddecnaaGreat.get_set hz with ⟨rfl,rfl⟩|⟨hne,h3⟩
 ·exact (h.ent _ y hy).set _
 ·exact (h.ent _ _ h3).setOff _ (by omega)
theorem Cm.at_ {w:World}{A:Ad}{kn mo:Nat}{T:List (Cp×Int)}{X:List Tk}{l:Fo}(h:Cm w A kn mo T X l){i:Nat}(hi:i<mo):Pe w A.eb (i*4) (tk X (i:Int)):=by
 obtain⟨y,hy⟩:=get_some (L:=X) (i:=i) (by rw [h.len];exact hi)
 have:tk X (i:Int)=y:=by unfold tk;simp [hy]
 rw [this]
 exact h.ent i y hy
end Go.Proofs.YtffmodpgddecnaaGreat
namespace Go.Proofs.YtffmodpgddecnaaGreat
open Go.RowKit H
def pairs (X:List Tk)(l:Fo):List (Cp×Int):=l.map (fun x=>((tk X x.1).1,x.1))
structure Cat (w:World)(A:Ad)(kn mo:Nat)(X:List Tk)(l:Fo):Prop where
 cm:Cm w A kn mo (pairs X l) X l
 inv:Inv mo X l
theorem Cat.but {S:Nat→Prop}{w w':World}{A:Ad}{kn mo:Nat}{X:List Tk}{l:Fo}(h:Cat w A kn mo X l)(hb:But S w w')(hS:∀k,A.All k→¬S k):Cat w' A kn mo X l:=⟨h.cm.but hb hS,h.inv⟩
theorem Cat.later {w w':World}{A:Ad}{kn mo:Nat}{X:List Tk}{l:Fo}(h:Cat w A kn mo X l)(hb:Below w.heap.size w w'):Cat w' A kn mo X l:=⟨h.cm.later hb,h.inv⟩
theorem Cat.lt {w:World}{A:Ad}{kn mo:Nat}{X:List Tk}{l:Fo}(h:Cat w A kn mo X l):∀k,A.All k→k<w.heap.size:=h.cm.lt
def findN (X:List Tk)(l:Fo)(c:Cp):Int:=((nums l).find? (fun n=>decide ((tk X n).1=c))).getD 0
theorem findN_in {m:Nat}{X:List Tk}{l:Fo}(h:Inv m X l){n:Int}(hn:n∈nums l):findN X l (tk X n).1=n:=by
 unfold findN
 cases hf:(nums l).find? (fun k=>decide ((tk X k).1=(tk X n).1)) with
 | none=>have:=List.find?_eq_none.1 hf n hn;simp at this
 | some k =>
  have h1:=List.find?_some hf
  have h2:=List.mem_of_find?_eq_some hf
  simp only [decide_eq_true_eq] at h1
  exact h.one k h2 n hn h1
def inN (X:List Tk)(l:Fo)(o:Int):Nat:=((nums l).filter (fun n=>decide (ob X n=o))).length
end Go.Proofs.YtffmodpgddecnaaGreat
namespace Go.Proofs.YtffmodpgddecnaaGreat
open Go.RowKit H
structure Res where
 num:Int
 code:Int
 X:List Tk
 l:Fo
def addR (mo:Nat)(X:List Tk)(l:Fo)(p:Int)(c:Cp)(r:Int):Res :=
 if hasC X l c=true then ⟨0,19,X,l⟩ else if l.length=mo then ⟨0,10,X,l⟩ else ⟨(low l:Int),0,X.set (low l) (c,r),l++[((low l:Int),p)]⟩
def rootR (mo:Nat)(X:List Tk)(l:Fo)(c:Cp)(r:Int):Res :=
 if validB r=false then ⟨0,4,X,l⟩ else if hasO X l c.1=true then ⟨0,19,X,l⟩ else addR mo X l (-1) c r
end Go.Proofs.YtffmodpgddecnaaGreat
namespace Go.Proofs.YtffmodpgddecnaaGreat
open Go.RowKit
theorem ints_set (L:List Int)(j:Nat)(v:Int):(ints L).set j (.int .i64 v)=ints (L.set j v):=by simp [ints,List.map_set]
theorem Own.set {w:World}{base g n c j:Nat}{L:List Int}{v:Int}(h:Own w base 3 (some ⟨g,0,none⟩) n c (ints L)):Own (w.setCell ⟨g,j,none⟩ (.int .i64 v)) base 3 (some ⟨g,0,none⟩) n c (ints (L.set j v)) :=
 ⟨by rw [←ints_set];exact (h.row.stored j _).1,ints_one _⟩
theorem Own.form {w:World}{base:Nat}{e:TypeId}{a:Option Addr}{n cap:Nat}{L:List Value}(h:Own w base e a n cap L)(hn:0<n):∃g,a=some ⟨g,0,none⟩:=by
 rcases h.row.2 with ⟨_,h1⟩|⟨g,c,cur,hv,_⟩
 ·omega
 ·simp only [Value.slice.injEq] at hv
  exact⟨g,hv.1⟩
end Go.Proofs.YtffmodpgddecnaaGreat
namespace Go.Proofs.YtffmodpgddecnaaGreat
open Go.RowKit
theorem Ki.big {w:World}{g gb m:Nat}{l:Fo}(h:Ki w g gb m l):m≤1024:=by
 obtain⟨N,h1,_⟩:=h
 exact h1.big
theorem Ki.lt {w:World}{g gb m:Nat}{l:Fo}(h:Ki w g gb m l):g<w.heap.size∧gb<w.heap.size:=by
 obtain⟨N,h1,_⟩:=h
 exact⟨h1.lt,h1.lt2⟩
end Go.Proofs.YtffmodpgddecnaaGreat
namespace Go.Proofs.YtffmodpgddecnaaGreat
open Go.RowKit Go.Shelf H
structure Cr (w:World)(k:Nat)(b:Option Addr)(m c:Nat)(M:List Value):Prop where
 len:M.length=m*k
 none_:b=none→m=0∧c=0
 cells:∀x,b=some x→∀j u,M[j]?=some u→w.cell? (x.add j)=some u
 one:∀u∈M,u.oneCell'=true
theorem append_k (t e:TypeId)(z:Value)(k by_:Nat)(ht:Tryz.prog.underlying t=some (.slice e))(hinf:(Tryz.prog.info? e).map (fun i=>(i.zero,i.size,i.bytes))=some (some z,k,by_))(hzs:z.cells.size=k)(hk:0<k)(hby:0<by_)
  {w:World} {base:Nat} {a:Option Addr} {n cap:Nat} {L:List Value} {b:Option Addr} {m c:Nat} {M:List Value} (h:w.ownsRow base e k (.slice a n cap) n L) (r:Cr w k b m c M) (hb:base≤w.heap.size) (hr:(n+m)*by_≤140737488355328) :
  ∃a' cap' w',(Builtin.append_ #[t,t] t #[.slice a n cap,.slice b m c]).run Tryz.prog w=.ok (.slice a' (n+m) cap') w'∧w'.ownsRow base e k (.slice a' (n+m) cap') (n+m) (L++M)∧Gr a a' w w':=by
 obtain⟨i,hi,hz0,hz1,hz2⟩:=info_parts hinf
 have hnm:n+m≤140737488355328:=Nat.le_trans (Nat.le_mul_of_pos_right _ hby) hr
 cases b with
 | none =>
  obtain⟨rfl,rfl⟩:=r.none_ rfl
  have hM:M=[]:=List.eq_nil_of_length_eq_zero (by have:=r.len;omega)
  subst hM
  have hr:=run_append_owned_none (P:=Tryz.prog) (w:=w) base t t e i k ht hi _ n _ h
  exact⟨a,cap,w,hr,by simpa using h,Gr.refl _ _⟩
 | some x =>
  obtain⟨v',w',hr,h2,h3,_,h5⟩:=run_append_own_at (P:=Tryz.prog) w base t t e i _ k by_ ht hi hz0 hz1 hz2 hzs hk _ n _ h x m c M r.len (r.cells x rfl) r.one (by unfold maxLen;omega) hr hb
  obtain⟨a',cap',rfl⟩:∃a' cap',v'=.slice a' (n+m) cap':=by
   rcases h2.2 with ⟨h,h'⟩|⟨g',cap',_,h,_⟩
   ·exact⟨.none,0,by rw [h,h']⟩
   ·exact⟨_,cap',h⟩
  refine⟨a',cap',w',hr,h2,⟨h3.os,h3.tape,h3.output,h3.size,fun j hj hn=>h3.block j hj (fun e=>hn (Blk.of.1 e.symm))⟩,fun j hj=>?_⟩
  rcases h5 with h5|h5
  ·rw [Blk.of.2 hj] at h5
   exact .inl (Blk.of.1 h5.symm)
  ·rw [Blk.of.2 hj] at h5
   right
   simp at h5
   omega
theorem Cr.lit (w:World)(e:TypeId)(M:List Value)(h1:∀u∈M,u.oneCell'=true):Cr (w.alloc (Obj.cells M.toArray e)) M.length (some ⟨w.heap.size,0,none⟩) 1 1 M :=
 ⟨by simp,fun h=>(by cases h),fun x hx j u hu=>by
  cases hx
  rw [addr_add0]
  simp only [World.cell?,World.alloc,Array.getElem?_push_size]
  simpa using hu,h1⟩
def Ow (w:World)(base:Nat)(e:TypeId)(k:Nat)(a:Option Addr)(n cap:Nat)(L:List Value):Prop:=w.ownsRow base e k (.slice a n cap) n L
theorem Ow.but {S:Nat→Prop}{w w':World}{base:Nat}{e:TypeId}{k:Nat}{a:Option Addr}{n cap:Nat}{L:List Value}(h:Ow w base e k a n cap L)(hb:But S w w')(hn:∀j,Blk a j→¬S j):Ow w' base e k a n cap L:=own_but hb h (fun j hj=>hn j (Blk.of.1 hj))
theorem Ow.later {w w':World}{base:Nat}{e:TypeId}{k:Nat}{a:Option Addr}{n cap:Nat}{L:List Value}(h:Ow w base e k a n cap L)(hb:Below w.heap.size w w'):Ow w' base e k a n cap L:=h.but (S:=fun _=>False) (But.of hb) (fun _ _ h=>h)
theorem Ow.mono {w:World}{base b:Nat}{e:TypeId}{k:Nat}{a:Option Addr}{n cap:Nat}{L:List Value}(h:Ow w base e k a n cap L)(hb:b≤base):Ow w b e k a n cap L:=own_mono h hb
theorem Ow.blk {w:World}{base:Nat}{e:TypeId}{k:Nat}{a:Option Addr}{n cap:Nat}{L:List Value}(h:Ow w base e k a n cap L):∀j,Blk a j→base≤j∧j<w.heap.size:=fun j hj=>own_block h j (Blk.of.2 hj)
theorem Ow.nil (w:World)(base:Nat)(e:TypeId)(k:Nat):Ow w base e k none 0 0 []:=⟨by simp,.inl ⟨rfl,rfl⟩⟩
theorem Ow.cells {w:World}{base:Nat}{e:TypeId}{k:Nat}{a:Option Addr}{n cap:Nat}{L:List Value}(h:Ow w base e k a n cap L){j:Nat}(hj:Blk a j):∃cs t z,w.heap[j]?=some (.cells cs t z):=by
 rcases h.2 with ⟨h1,_⟩|⟨g,c,cur,hv,hg,hh,r⟩
 ·simp only [Value.slice.injEq] at h1
  obtain⟨x,hx,_⟩:=hj
  rw [h1.1] at hx
  cases hx
 ·simp only [Value.slice.injEq] at hv
  obtain⟨x,hx,rfl⟩:=hj
  rw [hv.1] at hx
  cases hx
  exact⟨_,_,_,hh⟩
theorem Ow.put {w:World}{base:Nat}{e:TypeId}{k:Nat}{a:Option Addr}{n cap:Nat}{L:List Value}(h:Ow w base e k a n cap L){D:Nat}{ds:List Deferred}(hK:w.heap[D]?=some (.deferred (some ds))):Ow (w.putObj D (.deferred none)) base e k a n cap L:=ownsRow_putObj h _ hK rfl
def encC (x:Cp):List Value:=[.int .i64 x.1,.int .u64 (x.2.1:Int),.int .u64 (x.2.2:Int)]
def caps (K:List Cp):List Value:=K.flatMap encC
abbrev Tok:=Cp×Int×Int
def encT (x:Tok):List Value:=[.int .i64 x.1.1,.int .u64 (x.1.2.1:Int),.int .u64 (x.1.2.2:Int),.int .i64 x.2.1,.int .i64 x.2.2]
def toks (K:List Tok):List Value:=K.flatMap encT
end Go.Proofs.YtffmodpgddecnaaGreat
namespace Go.Proofs.YtffmodpgddecnaaGreat
open Go.RowKit Go.Shelf H
attribute [local go_sem] Oper.semAt_some
end Go.Proofs.YtffmodpgddecnaaGreat
namespace Go.Proofs.YtffmodpgddecnaaGreat
open Go.RowKit Go.Shelf H
theorem Ow.at_ {w:World}{base:Nat}{e:TypeId}{k:Nat}{a:Option Addr}{n cap:Nat}{L:List Value}(h:Ow w base e k a n cap L)(hn:0<n):∃b,a=some ⟨b,0,none⟩∧∀j u,L[j]?=some u→w.cell? ⟨b,j,none⟩=some u:=by
 rcases h.2 with ⟨_,h1⟩|⟨g,c,cur,hv,_⟩
 ·omega
 ·simp only [Value.slice.injEq] at hv
  refine⟨g,hv.1,fun j u hu=>?_⟩
  have h':=h
  rw [Ow,hv.1] at h'
  have:=World.ownsRow.cells (g:=g) h' rfl j u hu
  rwa [addr_add0] at this
def rootOf (X:List Tk)(l:Fo)(o:Int):Option Int:=(nums l).find? (fun n=>decide ((n,-1)∈l∧ob X n=o))
end Go.Proofs.YtffmodpgddecnaaGreat
namespace Go.Proofs.YtffmodpgddecnaaGreat
open Go.RowKit Go.Shelf H
def set5o (w:World)(b o:Nat)(c:Tok):World :=
 ((((w.setCell ⟨b,o,none⟩ (.int .i64 c.1.1)).setCell ⟨b,o+1,none⟩ (.int .u64 (c.1.2.1:Int))).setCell ⟨b,o+2,none⟩ (.int .u64 (c.1.2.2:Int))).setCell ⟨b,o+3,none⟩ (.int .i64 c.2.1)).setCell ⟨b,o+4,none⟩ (.int .i64 c.2.2)
end Go.Proofs.YtffmodpgddecnaaGreat
namespace Go.Proofs.YtffmodpgddecnaaGreat.Q
open Go.RowKit Go.Maps
def may (e a:Int)(L:List Int)(x:Int):Int:=if e≤(L.count x:Int) then 9 else if a≤(L.length:Int) then 10 else 0
def addL (e a:Int)(L:List Int)(x:Int):List Int:=if may e a L x=0 then L++[x] else L
structure Sz (e a:Int)(L:List Int):Prop where
 e1:1≤e
 e2:e≤256
 a1:1≤a
 a2:a≤256
 len:(L.length:Int)≤a
 cnt:∀x,(L.count x:Int)≤e
theorem may_zero {e a:Int}{L:List Int}{x:Int}(h:may e a L x=0):(L.count x:Int)<e∧(L.length:Int)<a:=by
 unfold may at h
 split at h
 ·cases h
 ·split at h
  ·cases h
  ·omega
theorem Sz.add {e a:Int}{L:List Int}(h:Sz e a L)(x:Int):Sz e a (addL e a L x):=by
 unfold addL
 split
 ·rename_i hm
  obtain⟨h1,h2⟩:=may_zero hm
  refine⟨h.e1,h.e2,h.a1,h.a2,by simp;omega,fun y=>?_⟩
  by_cases e:y=x
  ·subst e;simp;omega
  ·have:=h.cnt y
   have e2:(L++[x]).count y=L.count y:=by simp [List.count_append,Ne.symm e]
   rw [e2];exact this
 ·exact h
end Go.Proofs.YtffmodpgddecnaaGreat.Q
namespace Go.Proofs.YtffmodpgddecnaaGreat.Q
open Go.RowKit Go.Maps
theorem law:Keyed Tryz.prog 3:=int_keyed Tryz.underlying3
abbrev ky (x:Int):Lit:=.int .i64 x
abbrev nu (x:Int):DataW Unit:=.lit (.int .i64 x)
theorem ky_ne {x y:Int}(h:x≠y):ky x≠ky y:=fun e=>h (by simpa [ky] using e)
theorem ky_lit {x:Int}(h:(Lit.int .i64 x).wf=true):WideAt.IsKeyLit (ky x):=law.key (keyOf_int_mk Tryz.underlying3 h)
structure Cn (D:DataW Unit)(L:List Int):Prop where
 at_:∀x,D.atKey (ky x) (nu 0)=nu (L.count x:Int)
 has:∀x,Maps.has D (ky x)=decide (x∈L)
 map:IsMap D
theorem Cn.start:Cn (.map []) []:=⟨fun x=>rfl,fun x=>by simp [Maps.has],isMap_empty⟩
theorem Cn.put {D:DataW Unit}{L M:List Int}(h:Cn D L){x c:Int}(hx:(Lit.int .i64 x).wf=true)(ho:∀y,y≠x→M.count y=L.count y)(hc:(M.count x:Int)=c)(h0:0<c):Cn (D.put (ky x) (nu c)) M:=by
 refine⟨fun y=>?_,fun y=>?_,h.map.put _ _⟩
 ·by_cases e:y=x
  ·subst e;rw [atKey_put_same h.map (ky_lit hx),hc]
  ·rw [atKey_put_other (ky_ne e),h.at_ y,ho y e]
 ·by_cases e:y=x
  ·subst e
   rw [has_put_same h.map (ky_lit hx)]
   exact (decide_eq_true (List.count_pos_iff.1 (by omega))).symm
  ·rw [has_put_other (ky_ne e),h.has y]
   have h1:=ho y e
   congr 1
   rw [←List.count_pos_iff,←List.count_pos_iff,h1]
theorem Cn.del {D:DataW Unit}{L M:List Int}(h:Cn D L){x:Int}(ho:∀y,y≠x→M.count y=L.count y)(hc:M.count x=0):Cn (D.del (ky x)) M:=by
 refine⟨fun y=>?_,fun y=>?_,h.map.del _⟩
 ·by_cases e:y=x
  ·subst e;rw [atKey_del_same,hc];rfl
  ·rw [atKey_del_other (ky_ne e),h.at_ y,ho y e]
 ·by_cases e:y=x
  ·subst e
   rw [has_del_same]
   exact (decide_eq_false (fun hm=>by have:=List.count_pos_iff.2 hm;omega)).symm
  ·rw [has_del_other (ky_ne e),h.has y]
   have h1:=ho y e
   congr 1
   rw [←List.count_pos_iff,←List.count_pos_iff,h1]
abbrev owns (w:World)(b n:Nat)(D:DataW Unit):Prop:=w.ownsMap Tryz.prog 3 (plainElem Tryz.prog 3) b n D
def Mp (w:World)(b:Nat)(L:List Int):Prop:=∃D,owns w b L.length D∧Cn D L
theorem owns_but {S:Nat→Prop}{w w':World}{b n:Nat}{D:DataW Unit}(hb:But S w w')(h:owns w b n D)(hn:¬S b):owns w' b n D:=by
 have hlt:=h.lt
 obtain⟨es,clock,hh,r⟩:=h
 exact⟨es,clock,(hb.block b hlt hn).trans hh,r⟩
theorem Mp.but {S:Nat→Prop}{w w':World}{b:Nat}{L:List Int}(h:Mp w b L)(hb:But S w w')(hn:¬S b):Mp w' b L:=by
 obtain⟨D,h1,h2⟩:=h
 exact⟨D,owns_but hb h1 hn,h2⟩
theorem Mp.lt {w:World}{b:Nat}{L:List Int}(h:Mp w b L):b<w.heap.size:=by
 obtain⟨D,h1,_⟩:=h
 exact h1.lt
structure Qu (w:World)(g b:Nat)(e a:Int)(L:List Int):Prop where
 c0:w.cell? ⟨g,0,none⟩=some (.int .i64 e)
 c1:w.cell? ⟨g,1,none⟩=some (.int .i64 a)
 c2:w.cell? ⟨g,2,none⟩=some (.map (some b))
 mp:Mp w b L
 sz:Sz e a L
theorem Qu.but {S:Nat→Prop}{w w':World}{g b:Nat}{e a:Int}{L:List Int}(h:Qu w g b e a L)(hb:But S w w')(hg:¬S g)(hn:¬S b):Qu w' g b e a L :=
 ⟨cell_but hb h.c0 hg,cell_but hb h.c1 hg,cell_but hb h.c2 hg,h.mp.but hb hn,h.sz⟩
theorem Qu.later {w w':World}{g b:Nat}{e a:Int}{L:List Int}(h:Qu w g b e a L)(hb:Below w.heap.size w w'):Qu w' g b e a L:=h.but (S:=fun _=>False) (But.of hb) (fun h=>h) (fun h=>h)
theorem Qu.gb {w:World}{g b:Nat}{e a:Int}{L:List Int}(h:Qu w g b e a L):g≠b:=fun eq=>by
 obtain⟨D,⟨es,clock,hh,_⟩,_⟩:=h.mp
 have:=h.c0
 rw [eq] at this
 simp [World.cell?,hh] at this
theorem Qu.glt {w:World}{g b:Nat}{e a:Int}{L:List Int}(h:Qu w g b e a L):g<w.heap.size:=World.block_lt_of_cell? _ _ h.c0
theorem Qu.blt {w:World}{g b:Nat}{e a:Int}{L:List Int}(h:Qu w g b e a L):b<w.heap.size:=h.mp.lt
end Go.Proofs.YtffmodpgddecnaaGreat.Q
namespace Go.Proofs.YtffmodpgddecnaaGreat.D
open Go.Proofs.YtffmodpgddecnaaGreat.H (B64)
open Go.RowKit
theorem B64_eq:B64=2 ^ 64:=rfl
structure IsW (a b N:Nat):Prop where
 ha:a<B64
 hb:b<B64
 hn:N=a*B64+b
theorem IsW.lt {a b N:Nat}(h:IsW a b N):N<B64*B64:=by
 obtain⟨ha,hb,rfl⟩:=h
 calc a*B64+b<a*B64+B64:=by omega
  _=(a+1)*B64:=by rw [Nat.add_mul,Nat.one_mul]
  _≤B64*B64:=Nat.mul_le_mul_right _ ha
theorem IsW.of {N:Nat}(h:N<B64*B64):IsW (N / B64) (N%B64) N :=
 ⟨Nat.div_lt_of_lt_mul h,Nat.mod_lt _ (by decide),by rw [Nat.mul_comm];exact (Nat.div_add_mod N B64).symm⟩
theorem IsW.inj {a b c d N:Nat}(h:IsW a b N)(k:IsW c d N):a=c∧b=d:=by
 obtain⟨ha,hb,hn⟩:=h
 obtain⟨hc,hd,hm⟩:=k
 unfold B64 at *
 omega
theorem IsW.inj' {a b N M:Nat}(h:IsW a b N)(k:IsW a b M):N=M:=by rw [h.hn,k.hn]
theorem IsW.zero:IsW 0 0 0:=⟨by decide,by decide,rfl⟩
theorem IsW.eq_iff {a b c d N M:Nat}(h:IsW a b N)(k:IsW c d M):N=M↔a=c∧b=d:=by
 constructor
 ·rintro rfl;exact h.inj k
 ·rintro ⟨rfl,rfl⟩;exact h.inj' k
def cutN (N:Nat)(width:Int):Nat:=N%2 ^ width.toNat
theorem u64_low (h n:Nat)(hh:h<B64)(hn:n≤63) :
  bits .and .u64 (h:Int) (IntKind.u64.wrap (IntKind.u64.wrap (2 ^ n) - 1))=((h%2 ^ n:Nat):Int):=by
 have h2:(2:Nat) ^ n≤2 ^ 63:=Nat.pow_le_pow_right (by omega) hn
 have hp:0<(2:Nat) ^ n:=Nat.two_pow_pos n
 have e1:((2:Int) ^ n)=((2 ^ n:Nat):Int):=by simp
 have e2:IntKind.u64.wrap (IntKind.u64.wrap (2 ^ n) - 1)=((2 ^ n - 1:Nat):Int):=by
  rw [e1,IntKind.wrap_u64,IntKind.wrap_u64]
  omega
 rw [e2,u64_and_nat _ _ hh (by omega),Nat.and_two_pow_sub_one_eq_mod]
theorem cut_none {N:Nat}{width:Int}(h:width<1):cutN N width=0:=by
 unfold cutN
 have:width.toNat=0:=by omega
 rw [this];simp [Nat.mod_one]
theorem pow_big:(2:Nat) ^ 128=B64*B64:=by decide
theorem cut_all {a b N:Nat}{width:Int}(h:IsW a b N)(hw:128≤width):IsW a b (cutN N width):=by
 have hl:=h.lt
 have:cutN N width=N:=by
  unfold cutN
  apply Nat.mod_eq_of_lt
  calc N<B64*B64:=hl
   _=2 ^ 128:=pow_big.symm
   _≤_:=Nat.pow_le_pow_right (by omega) (by omega)
 rw [this];exact h
theorem cut_hi {a b N:Nat}{width:Int}(h:IsW a b N)(h1:64≤width)(_h2:width<128):IsW (a%2 ^ (width - 64).toNat) b (cutN N width):=by
 obtain⟨k,hk⟩:∃k:Nat,width=64+k:=⟨(width - 64).toNat,by omega⟩
 have e1:(width - 64).toNat=k:=by omega
 have e2:width.toNat=k+64:=by omega
 rw [e1]
 refine⟨Nat.lt_of_le_of_lt (Nat.mod_le _ _) h.ha,h.hb,?_⟩
 unfold cutN
 rw [e2,h.hn,Nat.pow_add,←B64_eq,Nat.mul_comm (2 ^ k) B64,Nat.mod_mul]
 have hb:=h.hb
 have e3:(a*B64+b)%B64=b:=by rw [Nat.add_comm,Nat.add_mul_mod_self_right,Nat.mod_eq_of_lt hb]
 have e4:(a*B64+b) / B64=a:=by
  rw [Nat.add_comm,Nat.add_mul_div_right _ _ (by decide),Nat.div_eq_of_lt hb,Nat.zero_add]
 rw [e3,e4,Nat.mul_comm,Nat.add_comm]
theorem cut_lo {a b N:Nat}{width:Int}(h:IsW a b N)(h1:1≤width)(h2:width<64):IsW 0 (b%2 ^ width.toNat) (cutN N width):=by
 have hk:width.toNat≤64:=by omega
 refine⟨by decide,Nat.lt_of_le_of_lt (Nat.mod_le _ _) h.hb,?_⟩
 unfold cutN
 rw [h.hn,Nat.zero_mul,Nat.zero_add]
 have:B64=2 ^ width.toNat*2 ^ (64 - width.toNat):=by rw [←Nat.pow_add,B64_eq];congr 1;omega
 rw [this,←Nat.mul_assoc,Nat.mul_comm a,Nat.mul_assoc,Nat.add_comm,Nat.add_mul_mod_self_left]
structure IsV (a b:Int)(N:Nat):Prop where
 ex:∃x y:Nat,a=x∧b=y∧IsW x y N
theorem IsV.of {a b N:Nat}(h:IsW a b N):IsV a b N:=⟨a,b,rfl,rfl,h⟩
theorem IsV.zero:IsV 0 0 0:=⟨0,0,rfl,rfl,IsW.zero⟩
theorem IsV.lt {a b:Int}{N:Nat}(h:IsV a b N):N<B64*B64:=by
 obtain⟨x,y,rfl,rfl,h⟩:=h
 exact h.lt
def wEq (a b c d:Int):Bool:=decide (a=c)&&decide (b=d)
theorem wEq_of {a b c d:Int}{N M:Nat}(h:IsV a b N)(k:IsV c d M):wEq a b c d=decide (N=M):=by
 obtain⟨x,y,rfl,rfl,h⟩:=h
 obtain⟨z,u,rfl,rfl,k⟩:=k
 unfold wEq
 rw [←Bool.decide_and,decide_eq_decide]
 have:=h.eq_iff k
 omega
theorem IsV.inj {a b c d:Int}{N:Nat}(h:IsV a b N)(k:IsV c d N):a=c∧b=d:=by
 have:=wEq_of h k
 simp only [wEq,decide_true,Bool.and_eq_true,decide_eq_true_eq] at this
 exact this
def hiI (N:Nat):Int:=((N / B64:Nat):Int)
def loI (N:Nat):Int:=((N%B64:Nat):Int)
theorem isV {N:Nat}(h:N<B64*B64):IsV (hiI N) (loI N) N:=IsV.of (IsW.of h)
theorem IsV.hi {a b:Int}{N:Nat}(h:IsV a b N):a=hiI N:=(h.inj (isV h.lt)).1
theorem IsV.lo {a b:Int}{N:Nat}(h:IsV a b N):b=loI N:=(h.inj (isV h.lt)).2
end Go.Proofs.YtffmodpgddecnaaGreat.D
namespace Go.Proofs.YtffmodpgddecnaaGreat.D
open Go.Proofs.YtffmodpgddecnaaGreat.H (B64)
open Go.RowKit
theorem cell_set_ne {w:World}{b o o':Nat}{v u:Value}(h:w.cell? ⟨b,o,none⟩=some v)(hne:o'≠o):(w.setCell ⟨b,o',none⟩ u).cell? ⟨b,o,none⟩=some v:=by
 rw [World.cell?_setCell_other _ _ _ _ (fun e=>hne (by simpa using congrArg Addr.off e))]
 exact h
def Wd (w:World)(b o N:Nat):Prop:=w.cell? ⟨b,o,none⟩=some (.int .u64 (hiI N))∧w.cell? ⟨b,o+1,none⟩=some (.int .u64 (loI N))
theorem Wd.but {S:Nat→Prop}{w w':World}{b o N:Nat}(hb:But S w w')(h:Wd w b o N)(hn:¬S b):Wd w' b o N:=⟨cell_but hb h.1 hn,cell_but hb h.2 hn⟩
theorem Wd.later {w w':World}{b o N:Nat}(hb:Below w.heap.size w w')(h:Wd w b o N):Wd w' b o N:=⟨cell_later hb h.1,cell_later hb h.2⟩
def wcs (N:Nat):List Value:=[.int .u64 (hiI N),.int .u64 (loI N)]
def wvs (f:Nat→Nat)(k:Nat):List Value:=(List.range k).flatMap fun i=>wcs (f i)
theorem wvs_succ (f:Nat→Nat)(k:Nat):wvs f (k+1)=wvs f k++wcs (f k):=by simp [wvs,List.range_succ]
theorem wvs_length (f:Nat→Nat)(k:Nat):(wvs f k).length=k*2:=by
 induction k with
 | zero=>rfl
 | succ k ih=>rw [wvs_succ,List.length_append,ih,Nat.succ_mul];rfl
theorem wvs_get (f:Nat→Nat)(k i c:Nat)(hi:i<k)(hc:c<2):(wvs f k)[i*2+c]?=(wcs (f i))[c]?:=by
 induction k with
 | zero=>omega
 | succ k ih =>
  rw [wvs_succ]
  by_cases h:i<k
  ·rw [List.getElem?_append_left (by rw [wvs_length];omega)]
   exact ih h
  ·obtain rfl:i=k:=by omega
   rw [List.getElem?_append_right (by rw [wvs_length];omega),wvs_length]
   congr 1
   omega
structure Ws (w:World)(a:Option Addr)(n cap:Nat)(f:Nat→Nat):Prop where
 cap_:n≤cap
 none_:a=none→n=0∧cap=0
 cells:∀x,a=some x→∀j u,(wvs f n)[j]?=some u→w.cell? (x.add j)=some u
 small:∀i,f i<B64*B64
theorem Ws.later {W w1:World}{a:Option Addr}{n cap:Nat}{f:Nat→Nat}(hb:Below W.heap.size W w1)(h:Ws W a n cap f):Ws w1 a n cap f :=
 ⟨h.cap_,h.none_,fun x hx j u hu=>cell_later hb (h.cells x hx j u hu),h.small⟩
theorem Ws.alloc {w:World}{a:Option Addr}{n cap:Nat}{f:Nat→Nat}(h:Ws w a n cap f)(o:Obj):Ws (w.alloc o) a n cap f:=h.later (below1 _ _)
theorem Ws.plain {w:World}{a:Option Addr}{n cap:Nat}{f:Nat→Nat}(h:Ws w a n cap f)(hl:0<n):∃b o,a=some ⟨b,o,none⟩∧∀i,i<n→Wd w b (o+i*2) (f i):=by
 cases a with
 | none=>have:=h.none_ rfl;omega
 | some x =>
  obtain⟨b,o,spot⟩:=x
  have h0:=h.cells _ rfl (0*2+0) _ (wvs_get f n 0 0 hl (by omega))
  have hs:spot=none:=by simpa [Addr.add] using World.cell?_spot h0
  subst hs
  refine⟨b,o,rfl,fun i hi=>⟨?_,?_⟩⟩
  ·have:=h.cells _ rfl (i*2+0) _ (wvs_get f n i 0 hi (by omega))
   rw [addr_add] at this
   exact this
  ·have:=h.cells _ rfl (i*2+1) _ (wvs_get f n i 1 hi (by omega))
   rw [addr_add] at this
   exact this
theorem Ws.at {w:World}{b o n cap:Nat}{f:Nat→Nat}(hc:n≤cap)(hs:∀i,f i<B64*B64)(h:∀i,i<n→Wd w b (o+i*2) (f i)):Ws w (some ⟨b,o,none⟩) n cap f:=by
 refine⟨hc,fun h=>(by cases h),fun x hx j u hu=>?_,hs⟩
 cases hx
 rw [addr_add]
 have hj:j<n*2:=by have:=(List.getElem?_eq_some_iff.1 hu).1;rwa [wvs_length] at this
 have hq:=wvs_get f n (j / 2) (j%2) (by omega) (by omega)
 have hjj:j / 2*2+j%2=j:=by omega
 rw [hjj] at hq
 rw [hq] at hu
 have hw:=h (j / 2) (by omega)
 rcases Nat.mod_two_eq_zero_or_one j with e|e
 ·rw [e] at hu
  simp only [wcs,List.getElem?_cons_zero,Option.some.injEq] at hu
  subst hu
  have:=hw.1
  have e2:o+j / 2*2=o+j:=by omega
  rwa [e2] at this
 ·rw [e] at hu
  simp only [wcs,List.getElem?_cons_succ,List.getElem?_cons_zero,Option.some.injEq] at hu
  subst hu
  have:=hw.2
  have e2:o+j / 2*2+1=o+j:=by omega
  rwa [e2] at this
theorem Ws.take {w:World}{a:Option Addr}{n cap:Nat}{f:Nat→Nat}(h:Ws w a n cap f){m:Nat}(hm:m≤n)(h0:0<m):Ws w a m cap f:=by
 obtain⟨b,o,rfl,hw⟩:=h.plain (by omega)
 exact Ws.at (by have:=h.cap_;omega) h.small (fun i hi=>hw i (by omega))
end Go.Proofs.YtffmodpgddecnaaGreat.D
namespace Go.Proofs.YtffmodpgddecnaaGreat.D
open Go.Proofs.YtffmodpgddecnaaGreat.H (B64)
open Go.RowKit
theorem low_any (h:Nat)(n:Int)(w:World)(hh:h<B64)(h0:0≤n)(h1:n≤63) :
  Calls Tryz.prog 99 #[.int .u64 (h:Int),.int .i64 n] w fun e w'=>e=.returned (.int .u64 ((h%2 ^ n.toNat:Nat):Int))∧w'=w:=by
 have hl:=u64_low h n.toNat hh (by omega)
 have HL:Hid (bits .and .u64 (h:Int) (IntKind.u64.wrap (IntKind.u64.wrap (2 ^ n.toNat) - 1))=((h%2 ^ n.toNat:Nat):Int)):=hl
 clear hl
 go_enter Tryz.func99,Tryz.ntmps99
 go_wp2
 go_ret
 exact⟨ret_int HL.out,rfl⟩
set_option maxHeartbeats 400000 in
theorem cut_any (a b:Int)(N:Nat)(width:Int)(w:World)(h:IsV a b N) :
  Calls Tryz.prog 88 #[.agg #[.int .u64 a,.int .u64 b],.int .i64 width] w fun e w'=>∃c d:Int,e=.returned (.agg #[.int .u64 c,.int .u64 d])∧IsV c d (cutN N width)∧Below w.heap.size w w':=by
 obtain⟨a,b,rfl,rfl,h⟩:=h
 by_cases h1:width<1
 ·have hz:cutN N width=0:=cut_none h1
  rw [hz];clear hz
  go_enter Tryz.func88,Tryz.ntmps88
  go_wp2
  exact bodyPost_ret (v:=.agg #[.int .u64 0,.int .u64 0]) (by simp [results,Tryz.results88,go_sem]) rfl ⟨0,0,rfl,IsV.zero,below2 _ _ _⟩
 ·by_cases h2:128≤width
  ·have hz:=IsV.of (cut_all h h2)
   clear h
   go_enter Tryz.func88,Tryz.ntmps88
   go_wp2
   exact bodyPost_ret (v:=.agg #[.int .u64 a,.int .u64 b]) (by simp [results,Tryz.results88,go_sem]) rfl ⟨a,b,rfl,hz,below2 _ _ _⟩
  ·by_cases h3:64≤width
   ·have hz:=IsV.of (cut_hi h h3 (by omega))
    have hh:=h.ha
    have hw:IntKind.i64.wrap (width - 64)=width - 64:=by rw [IntKind.wrap_i64];omega
    clear h
    go_enter Tryz.func88,Tryz.ntmps88
    go_wp2
    go_region_with (first|(go_at_call 99;refine (low_any _ _ _ hh (by omega) (by omega)).mono ?_;rintro e w' ⟨rfl,rfl⟩))
    all_goals go_wp2
    all_goals exact bodyPost_ret (v:=.agg #[.int .u64 ((a%2 ^ (width - 64).toNat:Nat):Int),.int .u64 b]) (by simp [results,Tryz.results88,go_sem]) rfl ⟨_,b,rfl,hz,(below2 _ _ _).drew⟩
   ·have hz:=IsV.of (cut_lo (width:=width) h (by omega) (by omega))
    have hh:=h.hb
    have h4:width≤63:=by omega
    clear h
    go_enter Tryz.func88,Tryz.ntmps88
    go_wp2_with (first|(go_at_call 99;refine (low_any b width _ hh (by omega) h4).mono ?_;rintro e w' ⟨rfl,rfl⟩))
    exact bodyPost_ret (v:=.agg #[.int .u64 0,.int .u64 ((b%2 ^ width.toNat:Nat):Int)]) (by simp [results,Tryz.results88,go_sem]) rfl ⟨0,_,rfl,hz,(below2 _ _ _)⟩
theorem addr_ne {b o b' o':Nat}(h:b≠b'∨o≠o'):(⟨b,o,none⟩:Addr)≠⟨b',o',none⟩:=by
 intro e
 simp only [Addr.mk.injEq,and_true] at e
 omega
end Go.Proofs.YtffmodpgddecnaaGreat.D
namespace Go.Proofs.YtffmodpgddecnaaGreat.D
open Go.Proofs.YtffmodpgddecnaaGreat.H (B64)
open Go.RowKit
structure Dr (w:World)(g gb n:Nat)(c:Nat→Nat)(t:Nat):Prop where
 all:w.cell? ⟨g,0,none⟩=some (.slice (some ⟨gb,0,none⟩) n n)
 tk:Lies w ⟨g,1,none⟩ (.int .i64 (t:Int))
 ar:∀i,i<n→Wd w gb (i*2) (c i)
 ne:g≠gb
 le:t≤n
 big:n≤4096
theorem Dr.but {S:Nat→Prop}{w w':World}{g gb n:Nat}{c:Nat→Nat}{t:Nat}(hb:But S w w')(h:Dr w g gb n c t)(h1:¬S g)(h2:¬S gb):Dr w' g gb n c t :=
 ⟨cell_but hb h.all h1,h.tk.but hb h1,fun i hi=>(h.ar i hi).but hb h2,h.ne,h.le,h.big⟩
theorem Dr.later {w w':World}{g gb n:Nat}{c:Nat→Nat}{t:Nat}(hb:Below w.heap.size w w')(h:Dr w g gb n c t):Dr w' g gb n c t:=h.but (S:=fun _=>False) (But.of hb) (fun h=>h) (fun h=>h)
theorem Dr.alloc {w:World}{g gb n:Nat}{c:Nat→Nat}{t:Nat}(h:Dr w g gb n c t)(o:Obj):Dr (w.alloc o) g gb n c t:=h.later (below1 _ _)
theorem Dr.drew {w:World}{g gb n:Nat}{c:Nat→Nat}{t:Nat}(h:Dr w g gb n c t):Dr w.drew g gb n c t:=h.later (Below.refl _ _).drew
theorem Dr.lt {w:World}{g gb n:Nat}{c:Nat→Nat}{t:Nat}(h:Dr w g gb n c t):g<w.heap.size:=World.block_lt_of_cell? _ _ h.all
theorem Dr.put {w:World}{g gb n:Nat}{c:Nat→Nat}{t:Nat}(h:Dr w g gb n c t){t':Nat}(ht:t'≤n):Dr (w.setCell ⟨g,1,none⟩ (.int .i64 (t':Int))) g gb n c t' :=
 ⟨cell_set_ne h.all (by omega),h.tk.put,fun i hi=>by
  obtain⟨h1,h2⟩:=h.ar i hi
  have hne:=h.ne
  exact⟨by rw [World.cell?_setCell_other _ _ _ _ (addr_ne (.inl hne))];exact h1,by rw [World.cell?_setCell_other _ _ _ _ (addr_ne (.inl hne))];exact h2⟩,h.ne,ht,h.big⟩
end Go.Proofs.YtffmodpgddecnaaGreat.D
namespace Go.Proofs.YtffmodpgddecnaaGreat.D
open Go.Proofs.YtffmodpgddecnaaGreat.H (B64)
open Go.RowKit
theorem _root_.Go.Proofs.YtffmodpgddecnaaGreat.But.own {a w:World}{g:Nat}(h:But (·=g) a w)(o:Nat)(u:Value):But (·=g) a (w.setCell ⟨g,o,none⟩ u):=h.setCell (p:=⟨g,o,none⟩) (show g=g from rfl) u
theorem Dr.drewN {w:World}{g gb n:Nat}{c:Nat→Nat}{t:Nat}(h:Dr w g gb n c t)(k:Nat):Dr (w.drewN k) g gb n c t:=h.later (below_drewN (Below.refl _ _) _)
end Go.Proofs.YtffmodpgddecnaaGreat.D
namespace Go.Proofs.YtffmodpgddecnaaGreat.D
open Go.Proofs.YtffmodpgddecnaaGreat.H (B64)
open Go.RowKit
end Go.Proofs.YtffmodpgddecnaaGreat.D
namespace Go.Proofs.YtffmodpgddecnaaGreat.D
open Go.Proofs.YtffmodpgddecnaaGreat.H (B64)
open Go.RowKit
end Go.Proofs.YtffmodpgddecnaaGreat.D
namespace Go.Proofs.YtffmodpgddecnaaGreat.D
open Go.Proofs.YtffmodpgddecnaaGreat.H (B64)
open Go.RowKit
end Go.Proofs.YtffmodpgddecnaaGreat.D
namespace Go.Proofs.YtffmodpgddecnaaGreat.D
open Go.Proofs.YtffmodpgddecnaaGreat.H (B64)
open Go.RowKit
end Go.Proofs.YtffmodpgddecnaaGreat.D
namespace Go.Proofs.YtffmodpgddecnaaGreat.D
open Go.Proofs.YtffmodpgddecnaaGreat.H (B64)
open Go.RowKit
end Go.Proofs.YtffmodpgddecnaaGreat.D
namespace Go.Proofs.YtffmodpgddecnaaGreat.D
open Go.RowKit
open Go.Proofs.YtffmodpgddecnaaGreat.H (B64)
def drawR (P:Nat→Bool)(c:Nat→Nat)(n:Nat):Nat→Nat→Nat×Int×Nat
 | 0,t=>(0,12,t)
 | k+1,t=>if t<n then (if P (c t)=true then drawR P c n k (t+1) else (c t,0,t+1)) else (0,11,t)
end Go.Proofs.YtffmodpgddecnaaGreat.D
