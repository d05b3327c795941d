import Derived.Shelf.SlIterI.Nil
import Derived.Shelf.SortM.Plain
import Derived.Shelf.SortM.SortNone
import Derived.LaidEql
import Derived.Stop.Asserts
import Derived.RowKitTokens
import Derived.Defers
import Derived.Test.YtffmodpgddecnaaGreatZ04
import Derived.Test.YtffmodpgddecnaaGreatZ03
set_option linter.unusedVariables false
set_option linter.unusedSimpArgs false
namespace Go.Proofs.YtffmodpgddecnaaGreat.S
open Go.RowKit Go.Maps Go.Sort Go.Shelf
def sortedA_ren:Go.Shelf.Ren:=⟨fun|6=>60|8=>81|9=>82|11=>96|13=>98|12=>97|23=>111|24=>112|14=>102|15=>103|16=>104|17=>105|18=>106|19=>107|20=>108|21=>109|22=>110|25=>113|26=>114|27=>115|28=>116|29=>117|30=>118|31=>119|n=>n,fun|26=>3|28=>110|24=>43|0=>0|3=>3|37=>100|48=>155|50=>34|4=>4|40=>148|39=>147|45=>152|5=>5|9=>9|51=>157|55=>161|57=>163|58=>164|33=>93|n=>n,fun|n=>n⟩
theorem sortedA:SlLaysZI.n6 Tryz.prog sortedA_ren where
 mixed:=by kernel_rfl
 f6:=⟨ "slices.Sorted[int]",by decide,Tryz.func60.trans (congrArg some (by kernel_rfl))⟩
 f8:=⟨ "slices.Collect[int]",by decide,Tryz.func81.trans (congrArg some (by kernel_rfl))⟩
 f11:=⟨ "slices.AppendSeq[[]int,int]",by decide,Tryz.func96.trans (congrArg some (by kernel_rfl))⟩
 t0:=Tryz.underlying0
 a0:=Tryz.isAgg0
 z0:=Tryz.sizeOf0
 v0:=Tryz.zeroValue0
 t24:=Tryz.underlying43
 a24:=Tryz.isAgg43
 z24:=Tryz.sizeOf43
 v24:=Tryz.zeroValue43
 t26:=Tryz.underlying3
 a26:=Tryz.isAgg3
 z26:=Tryz.sizeOf3
 v26:=Tryz.zeroValue3
 t28:=Tryz.underlying110
 a28:=Tryz.isAgg110
 z28:=Tryz.sizeOf110
 v28:=Tryz.zeroValue110
 i26:=by kernel_rfl
def sortA_ren:Go.Shelf.Ren:=⟨fun|5=>82|8=>98|7=>97|19=>111|20=>112|10=>102|11=>103|12=>104|13=>105|14=>106|15=>107|16=>108|17=>109|18=>110|30=>113|31=>114|32=>115|33=>116|34=>117|35=>118|40=>119|n=>n,fun|23=>43|25=>3|3=>3|32=>100|22=>43|0=>0|44=>155|46=>34|4=>4|36=>148|35=>147|41=>152|5=>5|9=>9|53=>157|57=>161|63=>163|64=>164|n=>n,fun|n=>n⟩
theorem sortA:SlLaysM.n5 Tryz.prog sortA_ren where
 mixed:=by kernel_rfl
 f5:=⟨ "slices.Sort[[]int,int]",by decide,Tryz.func82.trans (congrArg some (by kernel_rfl))⟩
 f7:=⟨ "slices.pdqsortOrdered[int]",by decide,Tryz.func97.trans (congrArg some (by kernel_rfl))⟩
 f8:=Tryz.func98.trans (congrArg some (by kernel_rfl))
 f10:=⟨ "slices.insertionSortOrdered[int]",by decide,Tryz.func102.trans (congrArg some (by kernel_rfl))⟩
 f11:=⟨ "slices.heapSortOrdered[int]",by decide,Tryz.func103.trans (congrArg some (by kernel_rfl))⟩
 f12:=⟨ "slices.breakPatternsOrdered[int]",by decide,Tryz.func104.trans (congrArg some (by kernel_rfl))⟩
 f13:=⟨ "slices.choosePivotOrdered[int]",by decide,Tryz.func105.trans (congrArg some (by kernel_rfl))⟩
 f14:=⟨ "slices.reverseRangeOrdered[int]",by decide,Tryz.func106.trans (congrArg some (by kernel_rfl))⟩
 f15:=⟨ "slices.partialInsertionSortOrdered[int]",by decide,Tryz.func107.trans (congrArg some (by kernel_rfl))⟩
 f16:=⟨ "cmp.Less[int]",by decide,Tryz.func108.trans (congrArg some (by kernel_rfl))⟩
 f17:=⟨ "slices.partitionEqualOrdered[int]",by decide,Tryz.func109.trans (congrArg some (by kernel_rfl))⟩
 f18:=⟨ "slices.partitionOrdered[int]",by decide,Tryz.func110.trans (congrArg some (by kernel_rfl))⟩
 f19:=Tryz.func111.trans (congrArg some (by kernel_rfl))
 f20:=Tryz.func112.trans (congrArg some (by kernel_rfl))
 f30:=⟨ "slices.siftDownOrdered[int]",by decide,Tryz.func113.trans (congrArg some (by kernel_rfl))⟩
 f31:=Tryz.func114.trans (congrArg some (by kernel_rfl))
 f32:=Tryz.func115.trans (congrArg some (by kernel_rfl))
 f33:=⟨ "slices.medianAdjacentOrdered[int]",by decide,Tryz.func116.trans (congrArg some (by kernel_rfl))⟩
 f34:=⟨ "slices.medianOrdered[int]",by decide,Tryz.func117.trans (congrArg some (by kernel_rfl))⟩
 f35:=⟨ "cmp.isNaN[int]",by decide,Tryz.func118.trans (congrArg some (by kernel_rfl))⟩
 f40:=⟨ "slices.order2Ordered[int]",by decide,Tryz.func119.trans (congrArg some (by kernel_rfl))⟩
 t0:=Tryz.underlying0
 a0:=Tryz.isAgg0
 z0:=Tryz.sizeOf0
 v0:=Tryz.zeroValue0
 t3:=Tryz.underlying3
 a3:=Tryz.isAgg3
 z3:=Tryz.sizeOf3
 v3:=Tryz.zeroValue3
 t4:=Tryz.underlying4
 a4:=Tryz.isAgg4
 z4:=Tryz.sizeOf4
 v4:=Tryz.zeroValue4
 t5:=Tryz.underlying5
 a5:=Tryz.isAgg5
 z5:=Tryz.sizeOf5
 v5:=Tryz.zeroValue5
 t9:=Tryz.underlying9
 a9:=Tryz.isAgg9
 z9:=Tryz.sizeOf9
 v9:=Tryz.zeroValue9
 t22:=Tryz.underlying43
 a22:=Tryz.isAgg43
 z22:=Tryz.sizeOf43
 v22:=Tryz.zeroValue43
 t23:=Tryz.underlying43
 a23:=Tryz.isAgg43
 z23:=Tryz.sizeOf43
 v23:=Tryz.zeroValue43
 t25:=Tryz.underlying3
 a25:=Tryz.isAgg3
 z25:=Tryz.sizeOf3
 v25:=Tryz.zeroValue3
 t32:=Tryz.underlying100
 a32:=Tryz.isAgg100
 z32:=Tryz.sizeOf100
 v32:=Tryz.zeroValue100
 t35:=Tryz.underlying147
 a35:=Tryz.isAgg147
 z35:=Tryz.sizeOf147
 v35:=Tryz.zeroValue147
 t36:=Tryz.underlying148
 a36:=Tryz.isAgg148
 z36:=Tryz.sizeOf148
 v36:=Tryz.zeroValue148
 t41:=Tryz.underlying152
 a41:=Tryz.isAgg152
 z41:=Tryz.sizeOf152
 v41:=Tryz.zeroValue152
 t44:=Tryz.underlying155
 a44:=Tryz.isAgg155
 z44:=Tryz.sizeOf155
 v44:=Tryz.zeroValue155
 t46:=Tryz.underlying34
 a46:=Tryz.isAgg34
 z46:=Tryz.sizeOf34
 v46:=Tryz.zeroValue34
 t53:=Tryz.underlying157
 a53:=Tryz.isAgg157
 z53:=Tryz.sizeOf157
 v53:=Tryz.zeroValue157
 t57:=Tryz.underlying161
 a57:=Tryz.isAgg161
 z57:=Tryz.sizeOf161
 v57:=Tryz.zeroValue161
 t63:=Tryz.underlying163
 a63:=Tryz.isAgg163
 z63:=Tryz.sizeOf163
 v63:=Tryz.zeroValue163
 t64:=Tryz.underlying164
 a64:=Tryz.isAgg164
 z64:=Tryz.sizeOf164
 v64:=Tryz.zeroValue164
theorem sortsA (m:Nat):AnyZI.SortsIn Tryz.prog sortedA_ren Fence.wide m :=
 ⟨fun blk off cap ss W hH hblk hsz=>callsIn_wide.2 (AnyM.slices_Sort_int sortA blk off cap ss W hH hblk hsz),
 fun p cap W=>callsIn_wide.2 (AnyM.slices_Sort_int_none sortA p cap W)⟩
end Go.Proofs.YtffmodpgddecnaaGreat.S
namespace Go.Proofs.YtffmodpgddecnaaGreat.S
open Go.RowKit
def nxOk (Os:List Ob)(v:Int):Prop:=1≤v∧v≤4611686018427387905∧∀o∈Os,o.id<v
theorem Sto.next {w:World}{s g pb m n room:Nat}{nx:Int}{t:Nat→Bool}{B:Nat→Nat→Nat}{Os:List Ob}(h:Sto w s g pb m n room nx t B Os)(v:Int)(hv:nxOk Os v):Sto (w.setCell ⟨s,3,none⟩ (.int .i64 v)) s g pb m n room v t B Os:=by
 have b4:But (·=s) w (w.setCell ⟨s,3,none⟩ (.int .i64 v)):=But.setCell (S:=(·=s)) (But.refl _ _) (p:=⟨s,3,none⟩) (show s=s from rfl) _
 exact { h with
  arn:=h.arn.but b4 (Ne.symm h.sg) (Ne.symm h.sp)
  c0:=h.c0.other (by simp)
  c1:=h.c1.other (by simp)
  c2:=h.c2.other (by simp)
  c3:=h.c3.put
  map:=h.map.setCell (a:=⟨s,3,none⟩) (Ne.symm h.sm) _
  rows:=fun o ho=>(h.rows o ho).but b4 (fun k hk e=>(h.off o ho k hk).1 e)
  off:=fun o ho k hk=>by
   obtain⟨a1,a2,a3,a4,a5⟩:=h.off o ho k hk
   exact⟨a1,a2,a3,a4,Nat.lt_of_lt_of_le a5 b4.size⟩
  ids:=fun o ho=>⟨(h.ids o ho).1,hv.2.2 o ho⟩
  nx1:=⟨hv.1,hv.2.1⟩ }
end Go.Proofs.YtffmodpgddecnaaGreat.S
namespace Go.Proofs.YtffmodpgddecnaaGreat.S
open Go.RowKit
structure Sid where
 s:Nat
 g:Nat
 pb:Nat
 m:Nat
 n:Nat
 room:Nat
def St (w:World)(z:Sid)(nx:Int)(Os:List Ob):Prop:=∃t B,Sto w z.s z.g z.pb z.m z.n z.room nx t B Os
def Zb (z:Sid)(k:Nat):Prop:=Sb z.s z.g z.pb z.m k
def i64ok (x:Int):Prop:=-9223372036854775808≤x∧x<9223372036854775808
theorem St.but {S:Nat→Prop}{w w':World}{z:Sid}{nx:Int}{Os:List Ob}(hb:But S w w')(h:St w z nx Os)(h1:∀k,Zb z k→¬S k)(h2:∀k,Rb Os k→¬S k):St w' z nx Os:=by
 obtain⟨t,B,h⟩:=h
 exact⟨t,B,h.but hb h1 h2⟩
theorem St.later {w w':World}{z:Sid}{nx:Int}{Os:List Ob}(hb:Below w.heap.size w w')(h:St w z nx Os):St w' z nx Os:=by
 obtain⟨t,B,h⟩:=h
 exact⟨t,B,h.later hb⟩
end Go.Proofs.YtffmodpgddecnaaGreat.S
namespace Go.Proofs.YtffmodpgddecnaaGreat.S
open Go.RowKit
theorem St.rise {w:World}{z:Sid}{nx:Int}{Os:List Ob}(h:St w z nx Os):Os.Pairwise (fun a b=>a.id<b.id):=by
 obtain⟨t,B,h⟩:=h
 exact h.rise
theorem St.ids {w:World}{z:Sid}{nx:Int}{Os:List Ob}(h:St w z nx Os):∀o∈Os,1≤o.id∧o.id<nx:=by
 obtain⟨t,B,h⟩:=h
 exact h.ids
theorem St.rm {w:World}{z:Sid}{nx:Int}{Os:List Ob}(h:St w z nx Os):Os.length≤z.room:=by
 obtain⟨t,B,h⟩:=h
 exact h.rm.1
theorem St.nx1 {w:World}{z:Sid}{nx:Int}{Os:List Ob}(h:St w z nx Os):1≤nx∧nx≤4611686018427387905:=by
 obtain⟨t,B,h⟩:=h
 exact h.nx1
theorem St.small {w:World}{z:Sid}{nx:Int}{Os:List Ob}(h:St w z nx Os):∀o∈Os,∀x∈o.data,x<256:=by
 obtain⟨t,B,h⟩:=h
 exact fun o ho=>h.small ho
end Go.Proofs.YtffmodpgddecnaaGreat.S
namespace Go.Proofs.YtffmodpgddecnaaGreat.S
open Go.RowKit
def usedV (V:List (Int×List Nat)):Nat:=(V.map fun p=>needN p.2.length).sum
end Go.Proofs.YtffmodpgddecnaaGreat.S
namespace Go.Proofs.YtffmodpgddecnaaGreat.S
open Go.RowKit
def atV (V:List (Int×List Nat))(id:Int):Option (List Nat):=(V.find? fun p=>decide (p.1=id)).map Prod.snd
def mayV (room n:Nat)(nx:Int)(V:List (Int×List Nat))(size:Int):Int :=
 if size<0∨4096<size then 6 else if room≤V.length∨4611686018427387904<nx then 7 else if (n:Int) - (usedV V:Int)<(needN size.toNat:Int) then 8 else 0
def rvE (V:List (Int×List Nat))(id off k:Int):Int:=match atV V id with
 | none=>20
 | some l=>if 0≤off∧0≤k∧k≤1024∧off+k≤(l.length:Int) then 0 else 5
def rvL (V:List (Int×List Nat))(id off k:Int):List Nat:=match atV V id with
 | none=>[]
 | some l=>if 0≤off∧0≤k∧k≤1024∧off+k≤(l.length:Int) then (l.drop off.toNat).take k.toNat else []
end Go.Proofs.YtffmodpgddecnaaGreat.S
namespace Go.Proofs.YtffmodpgddecnaaGreat.S
open Go.RowKit
def setV (id:Int)(off:Nat)(D:List Nat)(p:Int×List Nat):Int×List Nat:=if p.1=id then (p.1,putL p.2 D off) else p
def wrV (V:List (Int×List Nat))(id off:Int)(D:List Nat):List (Int×List Nat):=if rvE V id off (D.length:Int)=0 then V.map (setV id off.toNat D) else V
end Go.Proofs.YtffmodpgddecnaaGreat.S
namespace Go.Proofs.YtffmodpgddecnaaGreat.S
open Go.RowKit
end Go.Proofs.YtffmodpgddecnaaGreat.S
namespace Go.Proofs.YtffmodpgddecnaaGreat.V
open Go.RowKit
open Go.Proofs.YtffmodpgddecnaaGreat.H (B64 Cp)
structure Hd where
 A:Ad
 kn:Nat
 mo:Nat
 qg:Nat
 qb:Nat
 e:Int
 z:S.Sid
 g:Nat
 gb:Nat
 n:Nat
 c:Nat→Nat
 pg:Nat
 pm:Int
 lg:Nat
 lm:Int
 cg:Nat
 cs:Nat
 cw:Nat
 v:Nat
 kb:Nat
 W:Int
 base:Nat
def Hd.cf (H:Hd):List Value:=[.int .i64 H.W,.int .i64 (H.z.room:Int),.int .i64 (H.z.n:Int),.int .i64 (H.mo:Int),.int .i64 H.e,.int .i64 H.pm,.int .i64 H.lm,.int .i64 (H.cs:Int),.int .i64 (H.cw:Int),.int .i64 (H.kn:Int)]
def Hd.kc (H:Hd):List Value:=H.cf++[.pointer (some ⟨H.g,0,none⟩),.pointer (some ⟨H.z.s,0,none⟩),.pointer (some ⟨H.A.g,0,none⟩),.pointer (some ⟨H.qg,0,none⟩),.pointer (some ⟨H.pg,0,none⟩),.map (some H.lg),.pointer (some ⟨H.v,0,none⟩)]
def Kb (w:World)(H:Hd):Prop:=∀j v,H.kc[j]?=some v→w.cell? ⟨H.kb,j,none⟩=some v
theorem Kb.but {S:Nat→Prop}{w w':World}{H:Hd}(h:Kb w H)(hb:But S w w')(hn:¬S H.kb):Kb w' H:=fun j v hv=>cell_but hb (h j v hv) hn
theorem Kb.lt {w:World}{H:Hd}(h:Kb w H):H.kb<w.heap.size:=World.block_lt_of_cell? _ _ (h 0 _ rfl)
def mapP (L:List Int)(G:Int→Nat):DataW Value:=.map (L.map (fun i=>(.int .i64 i,.held (.pointer (some ⟨G i,0,none⟩)))))
structure Li (w:World)(H:Hd)(Pr:List Int)(D:Int→List Cp)(G:Int→Nat)(pa:Int→Option Addr)(cap:Int→Nat)(col:Nat→Int):Prop where
 map:w.ownsMap Tryz.prog 3 S.hr H.lg Pr.length (mapP Pr G)
 each:∀i∈Pr,M.Dm w H.base (G i) H.lm (pa i) (cap i) (D i)
 col:∀i∈Pr,∀k,k=G i∨Blk (pa i) k→col k=i∧k≠H.lg
def LiB (Pr:List Int)(G:Int→Nat)(pa:Int→Option Addr)(lg:Nat)(k:Nat):Prop:=k=lg∨∃i∈Pr,k=G i∨Blk (pa i) k
theorem Li.but {B:Nat→Prop}{w w':World}{H:Hd}{Pr:List Int}{D:Int→List Cp}{G:Int→Nat}{pa:Int→Option Addr}{cap:Int→Nat}{col:Nat→Int}(h:Li w H Pr D G pa cap col)(hb:But B w w')(hS:∀k,LiB Pr G pa H.lg k→¬B k):Li w' H Pr D G pa cap col :=
 ⟨S.owns_but hb h.map (hS _ (.inl rfl)),fun i hi=>(h.each i hi).but hb (hS _ (.inr ⟨i,hi,.inl rfl⟩)) (fun k hk=>hS k (.inr ⟨i,hi,.inr hk⟩)),h.col⟩
def Went (w:World)(N:Nat→Prop)(w':World)(N':Nat→Prop):Prop:=(∀k,N' k→N k∨w.heap.size≤k)∧But N w w'
theorem Went.refl (w:World)(N:Nat→Prop):Went w N w N:=⟨fun k h=>.inl h,But.refl _ _⟩
theorem Went.later {w w':World}{N:Nat→Prop}(hb:Below w.heap.size w w'):Went w N w' N:=⟨fun k h=>.inl h,But.of hb⟩
theorem Went.trans {w w1 w2:World}{N N1 N2:Nat→Prop}(h:Went w N w1 N1)(k:Went w1 N1 w2 N2):Went w N w2 N2:=by
 refine⟨fun j hj=>?_,⟨k.2.os.trans h.2.os,k.2.tape.trans h.2.tape,k.2.output.trans h.2.output,Nat.le_trans h.2.size k.2.size,fun j hj hn=>?_⟩⟩
 ·rcases k.1 j hj with h1|h1
  ·exact h.1 j h1
  ·exact .inr (Nat.le_trans h.2.size h1)
 ·refine (k.2.block j (Nat.lt_of_lt_of_le hj h.2.size) (fun h1=>?_)).trans (h.2.block j hj hn)
  rcases h.1 j h1 with h2|h2
  ·exact hn h2
  ·omega
theorem Went.out {w w':World}{N N':Nat→Prop}(h:Went w N w' N'){b:Nat}(hb:b<w.heap.size)(hn:¬N b):¬N' b:=fun e=>by
 rcases h.1 b e with h1|h1
 ·exact hn h1
 ·omega
theorem Went.size {w w':World}{N N':Nat→Prop}(h:Went w N w' N'):w.heap.size≤w'.heap.size:=h.2.size
theorem Went.cell {w w':World}{N N':Nat→Prop}(h:Went w N w' N'){p:Addr}{v:Value}(hc:w.cell? p=some v)(hn:¬N p.block):w'.cell? p=some v:=cell_but h.2 hc hn
section
variable {w w':World}{H:Hd}{s s':Sta}{d d':Nat→List K.Pu}{M:Nat→Nat→Prop}{N:Nat→Prop}
end
end Go.Proofs.YtffmodpgddecnaaGreat.V
namespace Go.Proofs.YtffmodpgddecnaaGreat.V
open Go.RowKit
open Go.Proofs.YtffmodpgddecnaaGreat.H (B64 Cp)
structure Pm where
 mo:Nat
 e:Int
 n:Nat
 c:Nat→Nat
 room:Nat
 pgs:Nat
 pm:Int
 lm:Int
 W:Int
def Hd.p (H:Hd):Pm:=⟨H.mo,H.e,H.n,H.c,H.z.room,H.z.n,H.pm,H.lm,H.W⟩
structure KF (p:Pm)(s:Sta):Prop where
 fit:Fit p.mo s
 le:s.t≤p.n
 cs:∀i,i<p.n→p.c i<B64*B64
 iv:P.Iv p.pm s.px s.P
 ln:∀i∈s.P,((s.D i).length:Int)≤p.lm
 wd:∀i∈s.P,∀c∈s.D i,c.2.1<B64∧c.2.2<B64
 lm:1≤p.lm∧p.lm≤32
 ks:s.ks=s.P
 nx:1≤s.nx∧s.nx≤4611686018427387905
structure Rep where
 code:Int
 cap:Cp
 data:List Nat
 num:Int
def rep (c:Int):Rep:=⟨c,(0,0,0),[],0⟩
def Pm.d (p:Pm):D.Par:=⟨p.mo,p.e,(p.mo:Int),p.n,p.c⟩
def Sta.d (s:Sta):D.Sta:=⟨s.X,s.l,s.L,s.t⟩
def putD (s:Sta)(a:D.Sta):Sta:={ s with X:=a.X,l:=a.l,L:=a.L,t:=a.t }
def fitB (W:Int)(c:Cp):Bool:=decide (1≤W)&&decide (D.cutN (c.2.1*B64+c.2.2) W=c.2.1*B64+c.2.2)
def upd (D:Int→List Cp)(i:Int)(K:List Cp):Int→List Cp:=fun j=>if j=i then K else D j
def addA (p:Pm)(s:Sta)(by_:Int)(c:Cp):Rep×Sta :=
 if fitB p.W c=false then (rep 18,s) else if p.lm≤((s.D by_).length:Int) then (rep 14,s) else (rep 0,{ s with D:=upd s.D by_ (s.D by_++[c]) })
def cpO (c:R.Cl):Cp:=(c.obj,c.hi,c.lo)
end Go.Proofs.YtffmodpgddecnaaGreat.V
namespace Go.Proofs.YtffmodpgddecnaaGreat.V
open Go.RowKit
open Go.Proofs.YtffmodpgddecnaaGreat.H (B64 Cp)
abbrev rpV (r:Rep)(a:Option Addr)(n c:Nat):Value:=.agg #[.int .i64 r.code,.int .i64 r.cap.1,.int .u64 (r.cap.2.1:Int),.int .u64 (r.cap.2.2:Int),.slice a n c,.int .i64 r.num]
def rpL (r:Rep)(a:Option Addr)(n c:Nat):List Value:=[.int .i64 r.code,.int .i64 r.cap.1,.int .u64 (r.cap.2.1:Int),.int .u64 (r.cap.2.2:Int),.slice a n c,.int .i64 r.num]
abbrev z6:Obj:=.cells #[.int .i64 0,.int .i64 0,.int .u64 0,.int .u64 0,.slice none 0 0,.int .i64 0] 41
theorem st_arm {P:Program}{w w':World}{ops:Array Oper}{rest:List Oper}{a:Act}{Q:Exit→Act→World→Prop}{tt:TypeId}{ps:String}{af}{ty:TypeId}{x y:Operand}{p v:Value}
  (hr:(Instr.storeAt ty p v).run P w=.ok () w') (hx:a.eval x=p) (hy:a.eval y=v) (h:wpList P ops Q rest a w') :
  wpList P ops Q ({ dst:=none,op:=.store ty x y,type:=tt,pos:=ps,after:=af,guard:=none }::rest) a w:=by
 refine wpList_plain rfl fun K hK=>?_
 unfold Oper.wp execOp
 simp only [hx,hy,hr,Sem.run_bind,Sem.run_pure,Result.andThen_ok]
 exact hK _ _ h
theorem info6:(Tryz.prog.info? 41).map (·.size)=some 6:=by kernel_rfl
section
variable {w w':World}{H:Hd}{s s':Sta}{d d':Nat→List K.Pu}{O:Nat→Nat→Prop}{N:Nat→Prop}
def Zr (w:World)(b:Nat):Prop:=w.there b 0 6
theorem Zr.new (w:World):Zr (w.alloc z6) w.heap.size:=(R.Bx.new w [.int .i64 0,.int .i64 0,.int .u64 0,.int .u64 0,.slice none 0 0,.int .i64 0] 41).there
theorem Zr.but {B:Nat→Prop}{b:Nat}(h:Zr w b)(hb:But B w w')(hn:¬B b):Zr w' b:=fun j hj=>by
 obtain⟨h1,h2⟩:=h j hj
 obtain⟨v,hv⟩:=Option.isSome_iff_exists.1 h1
 have hk:=hb.block b (World.block_lt_of_cell? _ _ hv) hn
 exact⟨by rw [World.cell?_of_block hk];exact h1,by rw [World.frozen?_of_block hk];exact h2⟩
theorem Zr.later {b:Nat}(h:Zr w b)(hb:Below w.heap.size w w'):Zr w' b:=h.but (B:=fun _=>False) (But.of hb) (fun h=>h)
theorem Zr.lt {b:Nat}(h:Zr w b):b<w.heap.size:=by
 obtain⟨h1,_⟩:=h 0 (by decide)
 obtain⟨v,hv⟩:=Option.isSome_iff_exists.1 h1
 exact World.block_lt_of_cell? _ _ hv
theorem rpL_one (r:Rep)(a:Option Addr)(n c:Nat):∀v∈rpL r a n c,v.oneCell'=true:=by simp [rpL,Value.oneCell']
theorem Zr.stL {b:Nat}{M:List Value}(h:Zr w b)(hl:M.length=6)(h1:∀v∈M,v.oneCell'=true):(Instr.storeAt 41 (.pointer (some ⟨b,0,none⟩)) (.agg M.toArray)).run Tryz.prog w=.ok () (w.setCells b 0 M):=by
 have:=R.stc h hl h1
 simp [Instr.storeAt,storeVar,Instr.sureAddr,Value.cells,hl,this,Result.andThen]
theorem Zr.st {b:Nat}(h:Zr w b)(r:Rep)(a:Option Addr)(n c:Nat):(Instr.storeAt 41 (.pointer (some ⟨b,0,none⟩)) (rpV r a n c)).run Tryz.prog w=.ok () (w.setCells b 0 (rpL r a n c)):=h.stL (M:=rpL r a n c) rfl (rpL_one r a n c)
theorem Zr.lv {b:Nat}(h:Zr w b)(r:Rep)(a:Option Addr)(n c:Nat):(loadVar 41 ⟨b,0,none⟩).run Tryz.prog (w.setCells b 0 (rpL r a n c))=.ok (rpV r a n c) (w.setCells b 0 (rpL r a n c)) :=
 run_loadVar_mid (P:=Tryz.prog) _ b 0 41 (rpL r a n c) _ (World.rangeAt_setCells_same _ _ _ _ h) Tryz.underlying41 rfl (by rw [info6];rfl)
end
end Go.Proofs.YtffmodpgddecnaaGreat.V
namespace Go.Proofs.YtffmodpgddecnaaGreat.V
open Go.RowKit
open Go.Proofs.YtffmodpgddecnaaGreat.H (B64 Cp)
section
variable {w w':World}{H:Hd}{s s':Sta}{d d':Nat→List K.Pu}{O:Nat→Nat→Prop}{N:Nat→Prop}{c:R.Cl}{dd gg:R.Sl}{b:Nat}
end
end Go.Proofs.YtffmodpgddecnaaGreat.V
namespace Go.Proofs.YtffmodpgddecnaaGreat.V
open Go.RowKit
open Go.Proofs.YtffmodpgddecnaaGreat.H (B64 Cp)
section
variable {w w':World}{H:Hd}{s s':Sta}{d d':Nat→List K.Pu}{O:Nat→Nat→Prop}{N:Nat→Prop}{c:R.Cl}{dd gg:R.Sl}{b:Nat}
theorem ldC (h:R.Bx w b (R.cC c dd gg)):(Instr.loadAt 45 (.pointer (some ⟨b,0,none⟩))).run Tryz.prog w=.ok (.agg (R.cC c dd gg).toArray) w:=by
 have:=R.lv41 h.range (by rfl)
 simp [Instr.loadAt,Instr.sureAddr,this]
end
end Go.Proofs.YtffmodpgddecnaaGreat.V
namespace Go.Proofs.YtffmodpgddecnaaGreat.V
open Go.RowKit
open Go.Proofs.YtffmodpgddecnaaGreat.H (B64 Cp)
section
variable {w w':World}{H:Hd}{s s':Sta}{d d':Nat→List K.Pu}{O:Nat→Nat→Prop}{N:Nat→Prop}{c:R.Cl}{dd gg:R.Sl}{b:Nat}
theorem isV {hi lo:Nat}(h:hi<B64∧lo<B64):D.IsV (hi:Int) (lo:Int) (hi*B64+lo):=D.IsV.of ⟨h.1,h.2,rfl⟩
set_option maxRecDepth 100000 in
set_option maxHeartbeats 2000000 in
theorem wfits_any (hi lo:Nat)(hw:hi<B64∧lo<B64)(W:Int)(hW:1≤W)(w:World):Calls Tryz.prog 78 #[.agg #[.int .u64 (hi:Int),.int .u64 (lo:Int)],.int .i64 W] w fun e w'=>e=.returned (.bool (decide (D.cutN (hi*B64+lo) W=hi*B64+lo)))∧Below w.heap.size w w':=by
 have hB:=below1 w (Obj.cells #[.int .u64 (hi:Int),.int .u64 (lo:Int)] 36)
 have HC:=hid (fun U=>D.cut_any (hi:Int) (lo:Int) (hi*B64+lo) W U (isV hw))
 have HV:=hid (isV hw)
 have HE:=hid R.eqlW
 have hd:decide (1≤W)=true:=by simpa using hW
 have H0:Hid (∀U,Below (w.alloc (Obj.cells #[.int .u64 (hi:Int),.int .u64 (lo:Int)] 36)).heap.size (w.alloc (Obj.cells #[.int .u64 (hi:Int),.int .u64 (lo:Int)] 36)) U→U.cell? ⟨w.heap.size,0,none⟩=some (.int .u64 (hi:Int))∧U.cell? ⟨w.heap.size,1,none⟩=some (.int .u64 (lo:Int))):=fun U hU=>⟨cell_later hU (by simp [go_sem]),cell_later hU (by simp [go_sem])⟩
 have HB:=hid hB
 clear hB
 go_enter Tryz.func78,Tryz.ntmps78
 go_upto_region 1 with fail
 have heq:=HE.out
 go_region_held3 (fun U=>U.cell? ⟨w.heap.size,0,none⟩=some (.int .u64 (hi:Int))∧U.cell? ⟨w.heap.size,1,none⟩=some (.int .u64 (lo:Int))) (first|exact H0.out _ (Below.refl _ _).drew|exact HE1.out) (first
  | (go_at_call 88;refine (HC.out _).mono ?_;rintro e w2 ⟨c1,d1,rfl,hv2,hb2⟩;have HV2:=hid hv2;have HB2:=hid (below_call ((below_call HB.out (Below.refl _ _).drew)) hb2);have HE1:=hid (H0.out w2 (below_call (Below.refl _ _).drew hb2));clear hv2 hb2))
 go_wp2
 go_ret
 refine⟨?_,HB2.out⟩
 have h1:=D.wEq_of HV2.out HV.out
 have h2:R.wEq c1 d1 (hi:Int) (lo:Int)=D.wEq c1 d1 (hi:Int) (lo:Int):=by unfold R.wEq D.wEq;simp
 rw [←h1,←h2]
 rfl
end
end Go.Proofs.YtffmodpgddecnaaGreat.V
namespace Go.Proofs.YtffmodpgddecnaaGreat.V
open Go.RowKit
open Go.Proofs.YtffmodpgddecnaaGreat.H (B64 Cp)
theorem has_any (a b:Int)(w:World):Calls Tryz.prog 90 #[.int .i64 a,.int .i64 b] w fun e w'=>e=.returned (.bool (partB b a))∧w'=w:=by
 have hp:=hid (part_any b a)
 go_enter Tryz.func90,Tryz.ntmps90
 go_wp2_with (first|(go_at_call 91;refine (hp.out _).mono ?_;rintro e w9 ⟨rfl,hw9⟩;obtain rfl:=hw9.symm;clear hw9))
 go_ret
 exact⟨rfl,rfl⟩
end Go.Proofs.YtffmodpgddecnaaGreat.V
namespace Go.Proofs.YtffmodpgddecnaaGreat.V
open Go.RowKit
open Go.Proofs.YtffmodpgddecnaaGreat.H (B64 Cp)
end Go.Proofs.YtffmodpgddecnaaGreat.V
namespace Go.Proofs.YtffmodpgddecnaaGreat.V
open Go.RowKit
open Go.Proofs.YtffmodpgddecnaaGreat.H (B64 Cp)
section
variable {p:Pm}{s:Sta}{d:Nat→List K.Pu}
theorem KF.put (h:KF p s){a:D.Sta}(hf:D.Fit p.d a)(ho:∀o,hasO a.X a.l o=true↔hasO s.X s.l o=true):KF p (putD s a) :=
 ⟨⟨hf.inv,hf.cnt,hf.len,fun o=>(h.fit.obj o).trans (ho o).symm,h.fit.ids⟩,hf.le,h.cs,h.iv,h.ln,h.wd,h.lm,h.ks,h.nx⟩
end
end Go.Proofs.YtffmodpgddecnaaGreat.V
namespace Go.Proofs.YtffmodpgddecnaaGreat.V
open Go.RowKit
open Go.Proofs.YtffmodpgddecnaaGreat.H (B64 Cp)
section
variable {w w':World}{H:Hd}{s s':Sta}{d d':Nat→List K.Pu}{N:Nat→Prop}
structure Ev where
 id:Int
 vs:List Value
 len:Nat
 a:Option Addr
 cap:Nat
def Ev.c (o:Ev):List Value:=[.int .i64 o.id,.slice o.a o.len o.cap]
def evs (Q:List Ev):List Value:=Q.flatMap Ev.c
structure Two (w:World)(base:Nat)(E ty k:Nat)(a:Option Addr)(n cap:Nat)(Q:List Ev):Prop where
 row:Ow w base E 2 a n cap (evs Q)
 len:Q.length=n
 each:∀o∈Q,Ow w base ty k o.a o.len o.cap o.vs
 ap:Q.Pairwise (fun o p=>∀j,Blk o.a j→¬Blk p.a j)
 top:∀o∈Q,∀j,Blk o.a j→¬Blk a j
variable {base E ty k:Nat}{a:Option Addr}{n cap:Nat}{Q:List Ev}
def Two.B (a:Option Addr)(Q:List Ev)(j:Nat):Prop:=Blk a j∨∃o∈Q,Blk o.a j
theorem Two.nil (w:World)(base E ty k:Nat):Two w base E ty k none 0 0 []:=⟨Ow.nil _ _ _ _,rfl,fun o h=>(by cases h),List.Pairwise.nil,fun o h=>(by cases h)⟩
theorem Two.but {S:Nat→Prop}(h:Two w base E ty k a n cap Q)(hb:But S w w')(hn:∀j,Two.B a Q j→¬S j):Two w' base E ty k a n cap Q :=
 ⟨h.row.but hb (fun j hj=>hn j (.inl hj)),h.len,fun o ho=>(h.each o ho).but hb (fun j hj=>hn j (.inr ⟨o,ho,hj⟩)),h.ap,h.top⟩
theorem Two.later (h:Two w base E ty k a n cap Q)(hb:Below w.heap.size w w'):Two w' base E ty k a n cap Q:=h.but (S:=fun _=>False) (But.of hb) (fun _ _ h=>h)
theorem Two.mono (h:Two w base E ty k a n cap Q){b:Nat}(hb:b≤base):Two w b E ty k a n cap Q:=⟨h.row.mono hb,h.len,fun o ho=>(h.each o ho).mono hb,h.ap,h.top⟩
theorem Two.blk (h:Two w base E ty k a n cap Q):∀j,Two.B a Q j→base≤j∧j<w.heap.size:=fun j hj=>by
 rcases hj with hj|⟨o,ho,hj⟩
 ·exact h.row.blk j hj
 ·exact (h.each o ho).blk j hj
theorem Two.snoc (t:TypeId)(z:Value)(by_:Nat)(ht:Tryz.prog.underlying t=some (.slice E))(hinf:(Tryz.prog.info? E).map (fun i=>(i.zero,i.size,i.bytes))=some (some z,2,by_))(hzs:z.cells.size=2)(hby:0<by_)(hby2:by_≤1024)
  {U U':World} (h:Two U base E ty k a n cap Q) (hb:base≤U.heap.size) (hU:Below U.heap.size U U') (o:Ev) (ho:Ow U' U.heap.size ty k o.a o.len o.cap o.vs) (hn:n≤2048) :
  ∃a' c' w3,(Builtin.append_ #[t,t] t #[.slice a n cap,.slice (some ⟨U'.heap.size,0,none⟩) 1 1]).run Tryz.prog (U'.alloc (Obj.cells o.c.toArray E))=.ok (.slice a' (n+1) c') w3∧Two w3 base E ty k a' (n+1) c' (Q++[o])∧But (Blk a) U w3:=by
 have h':=h.later hU
 have hcr:=Cr.lit U' E o.c (fun u hu=>by simp only [Ev.c,List.mem_cons,List.not_mem_nil,or_false] at hu;rcases hu with rfl|rfl<;>rfl)
 obtain⟨a',c',w3,hrun,hO3,hG0⟩:=append_k t E z 2 by_ ht hinf hzs (by omega) hby (h'.row.later (below1 U' (Obj.cells o.c.toArray E))) hcr (by have:=hU.size;simp;omega) (by
  have:(n+1)*by_≤2049*1024:=Nat.mul_le_mul (by omega) hby2
  omega)
 have hG:=hG0.pre (below1 U' (Obj.cells o.c.toArray E))
 have hob:=fun j hj=>ho.blk j hj
 have hna:∀j,Blk a j→¬Blk o.a j:=fun j h1 h2=>by have:=(h.row.blk j h1).2;have:=(hob j h2).1;omega
 refine⟨a',c',w3,hrun,⟨?_,by simp [h.len],?_,?_,?_⟩,(But.of hU).trans hG.but⟩
 ·have e:evs (Q++[o])=evs Q++o.c:=by simp [evs]
  rw [e]
  exact hO3
 ·intro p hp
  rcases List.mem_append.1 hp with hp|hp
  ·exact (h'.each p hp).but hG.but (fun j hj hj2=>h.top p hp j hj hj2)
  ·rw [List.mem_singleton.1 hp]
   exact (ho.mono hb).but hG.but (fun j hj hj2=>hna j hj2 hj)
 ·rw [List.pairwise_append]
  refine⟨h.ap,List.pairwise_singleton _ _,fun p hp q hq j h1 h2=>?_⟩
  rw [List.mem_singleton.1 hq] at h2
  have:=((h.each p hp).blk j h1).2
  have:=(hob j h2).1
  omega
 ·intro p hp j h1 h2
  rcases hG.on j h2 with h3|h3
  ·rcases List.mem_append.1 hp with hp|hp
   ·exact h.top p hp j h1 h3
   ·rw [List.mem_singleton.1 hp] at h1
    exact hna j h3 h1
  ·rcases List.mem_append.1 hp with hp|hp
   ·have:=((h.each p hp).blk j h1).2
    have:=hU.size
    omega
   ·rw [List.mem_singleton.1 hp] at h1
    have:=(hob j h1).2
    omega
theorem info63:(Tryz.prog.info? 80).map (fun i=>(i.zero,i.size,i.bytes))=some (some (.agg #[.int .i64 0,.slice none 0 0]),2,32):=by kernel_rfl
theorem info59:(Tryz.prog.info? 65).map (fun i=>(i.zero,i.size,i.bytes))=some (some (.agg #[.int .i64 0,.slice none 0 0]),2,32):=by kernel_rfl
end
end Go.Proofs.YtffmodpgddecnaaGreat.V
namespace Go.Proofs.YtffmodpgddecnaaGreat.V
open Go.RowKit
open Go.Proofs.YtffmodpgddecnaaGreat.H (B64 Cp)
section
variable {w w':World}{H:Hd}{s s':Sta}{d d':Nat→List K.Pu}{N:Nat→Prop}
def Ev.key (o:Ev):Int×List Value×Nat:=(o.id,o.vs,o.len)
def obK (v:Int×List Nat):Int×List Value×Nat:=(v.1,S.u8s v.2,v.2.length)
end
end Go.Proofs.YtffmodpgddecnaaGreat.V
namespace Go.Proofs.YtffmodpgddecnaaGreat.V
open Go.RowKit
open Go.Proofs.YtffmodpgddecnaaGreat.H (B64 Cp)
section
variable {w w':World}{H:Hd}{s s':Sta}{d d':Nat→List K.Pu}{N:Nat→Prop}
theorem toks_at:∀(M:List Tok) (j:Nat) (t:Tok),M[j]?=some t→∀k,k<5→(toks M)[j*5+k]?=(encT t)[k]?
 | [],j,t,h,k,hk=>by simp at h
 | x::M,0,t,h,k,hk=>by
  simp only [List.getElem?_cons_zero,Option.some.injEq] at h
  subst h
  simp only [toks,List.flatMap_cons]
  rw [List.getElem?_append_left (by simp [encT];omega)]
  simp
 | x::M,j+1,t,h,k,hk=>by
  rw [List.getElem?_cons_succ] at h
  have:=toks_at M j t h k hk
  simp only [toks,List.flatMap_cons] at this ⊢
  rw [List.getElem?_append_right (by simp [encT];omega),←this]
  congr 1
  simp [encT]
  omega
end
end Go.Proofs.YtffmodpgddecnaaGreat.V
namespace Go.Proofs.YtffmodpgddecnaaGreat.V
open Go.RowKit
open Go.Proofs.YtffmodpgddecnaaGreat.H (B64 Cp)
section
variable {w w':World}{H:Hd}{s s':Sta}{d d':Nat→List K.Pu}{N:Nat→Prop}
structure Ps where
 O:List (Int×List Nat)
 T:List Tok
 P:List (Int×List Cp)
 nx:Int
 px:Int
 t:Int
def plK (x:Int×List Cp):Int×List Value×Nat:=(x.1,caps x.2,x.2.length)
abbrev stV (a1:Option Addr)(n1 c1:Nat)(a2:Option Addr)(n2 c2:Nat)(a3:Option Addr)(n3 c3:Nat)(x y z:Int):Value:=.agg #[.slice a1 n1 c1,.slice a2 n2 c2,.slice a3 n3 c3,.int .i64 x,.int .i64 y,.int .i64 z]
def stM (a1:Option Addr)(n1 c1:Nat)(a2:Option Addr)(n2 c2:Nat)(a3:Option Addr)(n3 c3:Nat)(x y z:Int):List Value:=[.slice a1 n1 c1,.slice a2 n2 c2,.slice a3 n3 c3,.int .i64 x,.int .i64 y,.int .i64 z]
structure Tells (w:World)(base:Nat)(p:Ps)(a1:Option Addr)(c1:Nat)(Q1:List Ev)(a2:Option Addr)(c2:Nat)(a3:Option Addr)(c3:Nat)(Q3:List Ev):Prop where
 os:Two w base 80 5 1 a1 p.O.length c1 Q1
 ok:Q1.map Ev.key=p.O.map obK
 ts:Ow w base 57 5 a2 p.T.length c2 (toks p.T)
 ps:Two w base 65 38 3 a3 p.P.length c3 Q3
 pk:Q3.map Ev.key=p.P.map plK
 s12:∀j,Two.B a1 Q1 j→¬Blk a2 j
 s13:∀j,Two.B a1 Q1 j→¬Two.B a3 Q3 j
 s23:∀j,Blk a2 j→¬Two.B a3 Q3 j
abbrev z53:Obj:=.cells #[.slice none 0 0,.slice none 0 0,.slice none 0 0,.int .i64 0,.int .i64 0,.int .i64 0] 53
theorem info53:(Tryz.prog.info? 53).map (·.size)=some 6:=by kernel_rfl
theorem Zr.new53 (w:World):Zr (w.alloc z53) w.heap.size:=(R.Bx.new w [.slice none 0 0,.slice none 0 0,.slice none 0 0,.int .i64 0,.int .i64 0,.int .i64 0] 53).there
theorem Zr.stT {b:Nat}{M:List Value}(h:Zr w b)(hl:M.length=6)(h1:∀v∈M,v.oneCell'=true):(Instr.storeAt 53 (.pointer (some ⟨b,0,none⟩)) (.agg M.toArray)).run Tryz.prog w=.ok () (w.setCells b 0 M):=by
 have:=R.stc h hl h1
 simp [Instr.storeAt,storeVar,Instr.sureAddr,Value.cells,hl,this,Result.andThen]
theorem Zr.st53 {b:Nat}(h:Zr w b)(a1:Option Addr)(n1 c1:Nat)(a2:Option Addr)(n2 c2:Nat)(a3:Option Addr)(n3 c3:Nat)(x y z:Int):(Instr.storeAt 53 (.pointer (some ⟨b,0,none⟩)) (stV a1 n1 c1 a2 n2 c2 a3 n3 c3 x y z)).run Tryz.prog w=.ok () (w.setCells b 0 (stM a1 n1 c1 a2 n2 c2 a3 n3 c3 x y z)):=h.stT (M:=stM a1 n1 c1 a2 n2 c2 a3 n3 c3 x y z) rfl (by simp [stM,Value.oneCell'])
theorem Zr.lv53 {b:Nat}(h:Zr w b)(a1:Option Addr)(n1 c1:Nat)(a2:Option Addr)(n2 c2:Nat)(a3:Option Addr)(n3 c3:Nat)(x y z:Int):(loadVar 53 ⟨b,0,none⟩).run Tryz.prog (w.setCells b 0 (stM a1 n1 c1 a2 n2 c2 a3 n3 c3 x y z))=.ok (stV a1 n1 c1 a2 n2 c2 a3 n3 c3 x y z) (w.setCells b 0 (stM a1 n1 c1 a2 n2 c2 a3 n3 c3 x y z)) :=
 run_loadVar_mid (P:=Tryz.prog) _ b 0 53 (stM a1 n1 c1 a2 n2 c2 a3 n3 c3 x y z) _ (World.rangeAt_setCells_same _ _ _ _ h) Tryz.underlying53 rfl (by rw [info53];rfl)
theorem Tells.but {S:Nat→Prop}{base:Nat}{p:Ps}{a1 c1 Q1 a2 c2 a3 c3 Q3}(h:Tells w base p a1 c1 Q1 a2 c2 a3 c3 Q3)(hb:But S w w')(hS:∀j,base≤j→j<w.heap.size→¬S j):Tells w' base p a1 c1 Q1 a2 c2 a3 c3 Q3 :=
 ⟨h.os.but hb (fun j hj=>hS j (h.os.blk j hj).1 (h.os.blk j hj).2),h.ok,h.ts.but hb (fun j hj=>hS j (h.ts.blk j hj).1 (h.ts.blk j hj).2),h.ps.but hb (fun j hj=>hS j (h.ps.blk j hj).1 (h.ps.blk j hj).2),h.pk,h.s12,h.s13,h.s23⟩
theorem Tells.later {base:Nat}{p:Ps}{a1 c1 Q1 a2 c2 a3 c3 Q3}(h:Tells w base p a1 c1 Q1 a2 c2 a3 c3 Q3)(hb:Below w.heap.size w w'):Tells w' base p a1 c1 Q1 a2 c2 a3 c3 Q3:=h.but (S:=fun _=>False) (But.of hb) (fun _ _ _ h=>h)
theorem Tells.mono {base b:Nat}{p:Ps}{a1 c1 Q1 a2 c2 a3 c3 Q3}(h:Tells w base p a1 c1 Q1 a2 c2 a3 c3 Q3)(hb:b≤base):Tells w b p a1 c1 Q1 a2 c2 a3 c3 Q3:=⟨h.os.mono hb,h.ok,h.ts.mono hb,h.ps.mono hb,h.pk,h.s12,h.s13,h.s23⟩
def StRets (w:World)(p:Ps)(e:Ending)(w':World):Prop :=
 ∃a1 c1 Q1 a2 c2 a3 c3 Q3,e=.returned (stV a1 p.O.length c1 a2 p.T.length c2 a3 p.P.length c3 p.nx p.px p.t)∧Tells w' w.heap.size p a1 c1 Q1 a2 c2 a3 c3 Q3∧Below w.heap.size w w'
end
end Go.Proofs.YtffmodpgddecnaaGreat.V
namespace Go.Proofs.YtffmodpgddecnaaGreat.V
open Go.RowKit
open Go.Proofs.YtffmodpgddecnaaGreat.H (B64 Cp)
section
variable {p:Pm}{s:Sta}{m:Nat}{X:List Tk}{l:Fo}
def ndO (X:List Tk)(l:Fo)(o:Int):List Int:=match rootOf X l o with
 | some r=>G true l r
 | none=>[]
def nl (X:List Tk)(l:Fo)(ids:List Int):List Int:=ids.flatMap (ndO X l)
end
end Go.Proofs.YtffmodpgddecnaaGreat.V
namespace Go.Proofs.YtffmodpgddecnaaGreat.V
open Go.RowKit
open Go.Proofs.YtffmodpgddecnaaGreat.H (B64 Cp)
structure Hl where
 no:Int
 up:Int
 c:Cp
 r:Int
structure Rm where
 t:Nat
 V:List (Int×List Nat)
 T:List Hl
 P:List (Int×List Cp)
 nx:Int
 px:Int
 nn:Int
def liv (T:List Hl)(c:Cp):Option Hl:=T.find? (fun h=>decide (h.c=c))
def rCre (p:Pm)(r:Rm)(size:Int):Rep×Rm :=
 if S.mayV p.room p.pgs r.nx r.V size≠0 then (rep (S.mayV p.room p.pgs r.nx r.V size),r) else
 if p.mo≤r.T.length then (rep 10,r) else if p.n≤r.t then (rep 11,r) else
 (⟨0,D.cap r.nx (p.c r.t),[],0⟩,{ r with t:=r.t+1,V:=r.V++[(r.nx,List.replicate size.toNat 0)],T:=r.T++[⟨r.nn,0,D.cap r.nx (p.c r.t),31⟩],nx:=r.nx+1,nn:=r.nn+1 })
def rDrw (p:Pm)(r:Rm)(o:Int):Nat×Int×Nat:=D.drawR (fun N=>(liv r.T (D.cap o N)).isSome) p.c p.n 9 r.t
def cntN (T:List Hl)(o:Int):Nat:=(T.filter (fun x=>decide (x.c.1=o))).length
def rDer (p:Pm)(r:Rm)(c:Cp)(rt:Int):Rep×Rm:=match liv r.T c with
 | none=>(rep 3,r)
 | some h=>if partB 4 h.r=false∨partB rt h.r=false then (rep 4,r) else
  if p.e≤(cntN r.T c.1:Int) then (rep 9,r) else if p.mo≤r.T.length then (rep 10,r) else
  if (rDrw p r c.1).2.1≠0 then (rep (rDrw p r c.1).2.1,{ r with t:=(rDrw p r c.1).2.2 }) else
  (⟨0,D.cap c.1 (rDrw p r c.1).1,[],0⟩,{ r with t:=(rDrw p r c.1).2.2,T:=r.T++[⟨r.nn,h.no,D.cap c.1 (rDrw p r c.1).1,rt⟩],nn:=r.nn+1 })
def gon:List Hl→List Int→List Int
 | [],g=>g
 | x::T,g=>gon T (if x.up∈g then g++[x.no] else g)
def rAway (all:Bool)(r:Rm)(c:Cp):Rep×Rm:=match liv r.T c with
 | none=>(rep 3,r)
 | some h=>if partB (needB all) h.r=false then (rep 4,r) else
  if all=true∨h.up=0 then (rep 0,{ r with V:=noV r.V c.1,T:=r.T.filter (fun x=>decide (x.c.1≠c.1)) }) else
  (rep 0,{ r with T:=r.T.filter (fun x=>decide (x.no∉gon r.T [h.no])) })
def rGiv (T:List Hl)(need:Int)(c:Cp):Int:=match liv T c with
 | none=>3
 | some h=>if partB need h.r=false then 4 else 0
def rMay (T:List Hl)(given:Bool)(K:List Cp)(c:Cp)(need:Int):Int:=if given then rGiv T need c else (L.namG (rGiv T need) c.1 K 3).2
def lstN (P:List (Int×List Cp))(b:Int):List Cp:=((P.find? (fun q=>decide (q.1=b))).map Prod.snd).getD []
def setN (P:List (Int×List Cp))(b:Int)(K:List Cp):List (Int×List Cp):=P.map (fun q=>if q.1=b then (q.1,K) else q)
def rRead (r:Rm)(given:Bool)(by_:Int)(c:Cp)(off n:Int):Rep×Rm :=
 if rMay r.T given (lstN r.P by_) c 1≠0 then (rep (rMay r.T given (lstN r.P by_) c 1),r) else (⟨S.rvE r.V c.1 off n,(0,0,0),S.rvL r.V c.1 off n,0⟩,r)
def rWrite (r:Rm)(given:Bool)(by_:Int)(c:Cp)(off:Int)(D:List Nat):Rep×Rm :=
 if rMay r.T given (lstN r.P by_) c 2≠0 then (rep (rMay r.T given (lstN r.P by_) c 2),r) else (rep (S.rvE r.V c.1 off (D.length:Int)),{ r with V:=S.wrV r.V c.1 off D })
def rAdd (p:Pm)(r:Rm)(by_:Int)(c:Cp):Rep×Rm :=
 if fitB p.W c=false then (rep 18,r) else if p.lm≤((lstN r.P by_).length:Int) then (rep 14,r) else (rep 0,{ r with P:=setN r.P by_ (lstN r.P by_++[c]) })
def rRem (r:Rm)(by_:Int)(i:Int):Rep×Rm :=
 if M.okI (lstN r.P by_) i=false then (rep 15,r) else (rep 0,{ r with P:=setN r.P by_ ((lstN r.P by_).take i.toNat++(lstN r.P by_).drop (i.toNat+1)) })
def rSpa (p:Pm)(r:Rm)(by_:Int)(G:List Int):Rep×Rm :=
 if M.pickE p.lm (lstN r.P by_) G≠0 then (rep (M.pickE p.lm (lstN r.P by_) G),r) else
 if p.pm≤(r.P.length:Int)∨65535<r.px then (rep 13,r) else (⟨0,(0,0,0),[],r.px⟩,{ r with px:=r.px+1,P:=r.P++[(r.px,M.pickL p.lm (lstN r.P by_) G)] })
def rExi (r:Rm)(by_:Int):Rep×Rm:=(rep 0,{ r with P:=r.P.filter (fun q=>decide (q.1≠by_)) })
def rDeed (p:Pm)(r:Rm)(c:R.Cl):Rep×Rm :=
 if c.op=1 then rCre p r c.size else if c.op=2 then rAway true r (cpO c) else if c.op=3 then rDer p r (cpO c) c.rights else if c.op=4 then rAway false r (cpO c)
 else if c.op=5 then rRead r c.given c.by_ (cpO c) c.off c.n else if c.op=6 then rWrite r c.given c.by_ (cpO c) c.off c.data else if c.op=7 then rAdd p r c.by_ (cpO c)
 else if c.op=8 then rRem r c.by_ c.index else if c.op=9 then rSpa p r c.by_ c.gifts else rExi r c.by_
def hasP (P:List (Int×List Cp))(b:Int):Bool:=P.any (fun q=>decide (q.1=b))
def rDo (p:Pm)(r:Rm)(c:R.Cl):Rep×Rm :=
 if R.fm c=false then (rep 1,r) else if hasP r.P c.by_=false then (rep 2,r) else rDeed p r c
def hlF (f:Int→Int)(X:List Tk)(q:Int×Int):Hl:=⟨f q.1,if q.2=-1 then 0 else f q.2,(tk X q.1).1,rg X q.1⟩
def prF (D:Int→List Cp)(i:Int):Int×List Cp:=(i,D i)
structure Sim (s:Sta)(f:Int→Int)(r:Rm):Prop where
 t:r.t=s.t
 V:r.V=s.V
 T:r.T=s.l.map (hlF f s.X)
 P:r.P=s.P.map (prF s.D)
 nx:r.nx=s.nx
 px:r.px=s.px
 inj:∀a∈nums s.l,∀b∈nums s.l,f a=f b→a=b
 rng:∀a∈nums s.l,1≤f a∧f a<r.nn
 nn:1≤r.nn
section
variable {p:Pm}{s:Sta}{r:Rm}{f:Int→Int}{m:Nat}
theorem Ok.pr {l:Fo}(h:Ok m l){n q:Int}(hn:(n,q)∈l):q=-1∨q∈nums l:=by
 obtain⟨i,hi⟩:=List.getElem?_of_mem hn
 rcases h.par i n q hi with e|⟨j,x,_,hx⟩
 ·exact .inl e
 ·exact .inr (mem_nums.2 ⟨x,List.mem_of_getElem? hx⟩)
theorem Sim.len (h:Sim s f r):r.T.length=s.l.length:=by rw [h.T,List.length_map]
theorem hlF_low (h:Inv m s.X s.l)(f:Int→Int)(x:Tk)(v:Int){q:Int×Int}(hq:q∈s.l):hlF (fun k=>if k=(low s.l:Int) then v else f k) (s.X.set (low s.l) x) q=hlF f s.X q:=by
 obtain⟨a,b⟩:=q
 have ha:=mem_nums.2 ⟨b,hq⟩
 have hl:=low_not s.l
 have h1:a≠(low s.l:Int):=fun e=>hl (e ▸ ha)
 unfold hlF rg
 simp only [tk_set_other x (nums_nn h.ok ha) h1,if_neg h1]
 rcases Ok.pr h.ok hq with e|e
 ·rw [if_pos e,if_pos e]
 ·have h2:b≠(low s.l:Int):=fun e'=>hl (e' ▸ e)
  rw [if_neg h2]
theorem Sim.add (h:Sim s f r)(hi:Inv p.mo s.X s.l)(hl:s.l.length<p.mo){c:Cp}{q rt:Int}(hq:q=-1∨q∈nums s.l){t:Nat}{s':Sta}{r':Rm}(e1:s'.X=s.X.set (low s.l) (c,rt))(e2:s'.l=s.l++[((low s.l:Int),q)])(e3:r'.T=r.T++[⟨r.nn,if q=-1 then 0 else f q,c,rt⟩])(e4:r'.nn=r.nn+1)
  (g1:r'.t=s'.t) (g2:r'.V=s'.V) (g3:r'.P=s'.P.map (prF s'.D)) (g4:r'.nx=s'.nx) (g5:r'.px=s'.px):Sim s' (fun k=>if k=(low s.l:Int) then r.nn else f k) r':=by
 have hn:=low_not s.l
 have hlt:=low_lt hi.ok hl
 refine⟨g1,g2,?_,g3,g4,g5,?_,?_,by rw [e4];have:=h.nn;omega⟩
 ·rw [e3,e2,e1,List.map_append,h.T]
  congr 1
  ·exact List.map_congr_left (fun x hx=>(hlF_low hi f (c,rt) r.nn hx).symm)
  ·simp only [List.map_cons,List.map_nil,hlF,if_true,rg,tk_set_same (c,rt) (by rw [hi.len];exact hlt:low s.l<s.X.length)]
   congr 2
   by_cases e:q=-1
   ·rw [if_pos e,if_pos e]
   ·rw [if_neg e,if_neg e]
    rcases hq with g|g
    ·exact absurd g e
    ·rw [if_neg (show ¬q=(low s.l:Int) from fun e'=>hn (e' ▸ g))]
 ·rw [e2]
  intro a ha b hb e
  rw [nums_app] at ha hb
  have key:∀x∈nums s.l,(if x=(low s.l:Int) then r.nn else f x)=f x:=fun x hx=>if_neg (show ¬x=(low s.l:Int) from fun e=>hn (e ▸ hx))
  rcases List.mem_append.1 ha with ha|ha<;>rcases List.mem_append.1 hb with hb|hb
  ·rw [key a ha,key b hb] at e
   exact h.inj a ha b hb e
  ·rw [List.mem_singleton.1 hb] at e ⊢
   rw [key a ha,if_pos rfl] at e
   have:=(h.rng a ha).2
   omega
  ·rw [List.mem_singleton.1 ha] at e ⊢
   rw [key b hb,if_pos rfl] at e
   have:=(h.rng b hb).2
   omega
  ·rw [List.mem_singleton.1 ha,List.mem_singleton.1 hb]
 ·rw [e2,e4]
  intro a ha
  rw [nums_app] at ha
  have:=h.nn
  rcases List.mem_append.1 ha with ha|ha
  ·rw [if_neg (show ¬a=(low s.l:Int) from fun e=>hn (e ▸ ha))]
   have:=h.rng a ha
   omega
  ·rw [List.mem_singleton.1 ha,if_pos rfl]
   omega
theorem Sim.cut (h:Sim s f r)(hi:Inv m s.X s.l){A:List Int}(hA:∀a∈A,a∈nums s.l)(hup:∀n q,(n,q)∈s.l→n∉A→q∉A){g:Hl→Bool}(hg:∀q∈s.l,g (hlF f s.X q)=decide (q.1∉A)){s':Sta}{r':Rm}(e1:s'.X=zer s.X A)(e2:s'.l=cuts s.l A)(e3:r'.T=r.T.filter g)(e4:r'.nn=r.nn)
  (g1:r'.t=s'.t) (g2:r'.V=s'.V) (g3:r'.P=s'.P.map (prF s'.D)) (g4:r'.nx=s'.nx) (g5:r'.px=s'.px):Sim s' f r':=by
 have hsub:∀a∈nums (cuts s.l A),a∈nums s.l:=fun a ha=>(nums_cuts.1 ha).1
 refine⟨g1,g2,?_,g3,g4,g5,?_,?_,by rw [e4];exact h.nn⟩
 ·rw [e3,e2,e1,h.T,List.filter_map]
  unfold cuts
  have e:s.l.filter (g ∘ hlF f s.X)=s.l.filter (fun x=>decide (x.1∉A)):=List.filter_congr (fun x hx=>hg x hx)
  rw [e]
  refine List.map_congr_left (fun x hx=>?_)
  obtain⟨h1,h2⟩:=List.mem_filter.1 hx
  have h3:x.1∉A:=of_decide_eq_true h2
  have h4:=mem_nums.2 ⟨x.2,h1⟩
  unfold hlF rg
  rw [zer_tk _ _ _ (nums_nn hi.ok h4) (fun a ha=>nums_nn hi.ok (hA a ha)) h3]
 ·rw [e2]
  exact fun a ha b hb e=>h.inj a (hsub a ha) b (hsub b hb) e
 ·rw [e2,e4]
  exact fun a ha=>h.rng a (hsub a ha)
theorem Sim.same (h:Sim s f r){s':Sta}{r':Rm}(e1:s'.X=s.X)(e2:s'.l=s.l)(e3:r'.T=r.T)(e4:r'.nn=r.nn)(g1:r'.t=s'.t)(g2:r'.V=s'.V)(g3:r'.P=s'.P.map (prF s'.D))(g4:r'.nx=s'.nx)(g5:r'.px=s'.px):Sim s' f r' :=
 ⟨g1,g2,by rw [e3,e2,e1];exact h.T,g3,g4,g5,by rw [e2];exact h.inj,by rw [e2,e4];exact h.rng,by rw [e4];exact h.nn⟩
end
end Go.Proofs.YtffmodpgddecnaaGreat.V
namespace Go.Proofs.YtffmodpgddecnaaGreat.V
open Go.RowKit
open Go.Proofs.YtffmodpgddecnaaGreat.H (B64 Cp)
section
variable {w w':World}
def Fl (w:World)(a:Option Addr)(L:List Value):Prop:=0<L.length→∃g,a=some ⟨g,0,none⟩∧∀j v,L[j]?=some v→w.cell? ⟨g,j,none⟩=some v
theorem Fl.later {a:Option Addr}{L:List Value}(h:Fl w a L)(hb:Below w.heap.size w w'):Fl w' a L:=fun h0=>by
 obtain⟨g,e,hc⟩:=h h0
 exact⟨g,e,fun j v hv=>cell_later hb (hc j v hv)⟩
theorem Fl.of {base:Nat}{e:TypeId}{k:Nat}{a:Option Addr}{n cap:Nat}{L:List Value}(h:Ow w base e k a n cap L)(hk:L.length=n*k):Fl w a L:=fun h0=>by
 have hn:0<n:=Nat.pos_of_ne_zero (fun e=>by rw [e,Nat.zero_mul] at hk;omega)
 obtain⟨b,h1,h2⟩:=Ow.at_ h hn
 exact⟨b,h1,h2⟩
theorem Fl.own {base:Nat}{e:TypeId}{a:Option Addr}{n cap:Nat}{L:List Value}(h:Own w base e a n cap L):Fl w a L:=Fl.of h.row (by rw [h.len,Nat.mul_one])
set_option maxRecDepth 100000 in
set_option maxHeartbeats 2000000 in
theorem sameBytes_eq (L:List Nat){a b:Option Addr}{ca cb:Nat}(h:Fl w a (S.u8s L))(k:Fl w b (S.u8s L))(hn:L.length≤140737488355328) :
  Calls Tryz.prog 26 #[.slice a L.length ca,.slice b L.length cb] w fun e w'=>e=.returned (.bool true)∧Below w.heap.size w w':=by
 obtain⟨n,hnn⟩:∃n,n=L.length:=⟨_,rfl⟩
 have HL:=hid hnn
 have H:=hid h
 have HK:=hid k
 rw [←hnn] at hn ⊢
 clear h k hnn
 go_enter Tryz.func26,Tryz.ntmps26
 go_upto_region 4 with fail
 go_loopw [5] (fun v U=>∃i:Nat,v=.int .i64 (i:Int)∧i≤n∧Below w.heap.size w U) (fun v _=>n - S.ivN v)
 case atStart=>exact⟨0,rfl,Nat.zero_le _,Below.refl _ _⟩
 case round =>
  obtain⟨i,rfl,hi,hB⟩:=hrel
  have HIn:=hid hi
  have HB:=hid hB
  clear hi hB
  by_cases hlt:i<n
  ·have hd:decide ((i:Int)<(n:Int))=true:=decide_eq_true (by omega)
   obtain⟨x,hx⟩:∃x,L[i]?=some x:=⟨_,List.getElem?_eq_getElem (by have:=HL.out;omega)⟩
   have h0:0<(S.u8s L).length:=by rw [S.u8s_length];have:=HL.out;omega
   obtain⟨ga,rfl,hca⟩:=H.out h0
   obtain⟨gb,rfl,hcb⟩:=HK.out h0
   skip
   have HS:Hid (∀U,Below wr.heap.size wr U→U.cell? ⟨ga,i,none⟩=some (.int .u8 (x:Int))∧U.cell? ⟨gb,i,none⟩=some (.int .u8 (x:Int))):=fun U hU=>by
    have hU2:=below_call HB.out hU
    exact⟨cell_later hU2 (hca _ _ (by simp [S.u8s,hx])),cell_later hU2 (hcb _ _ (by simp [S.u8s,hx]))⟩
   clear hca hcb hx h0
   go_upto_region 6 with fail
   go_region_held3 (fun U=>U.cell? ⟨ga,i,none⟩=some (.int .u8 (x:Int))∧U.cell? ⟨gb,i,none⟩=some (.int .u8 (x:Int))) (first|exact HS.out _ (Below.refl _ _).drew|exact HS.out _ (Below.refl _ _)) (first|fail)
   all_goals (try go_wp2)
   all_goals exact⟨⟨i+1,rfl,by omega,(HB.out.drew)⟩,by simp [S.ivN];omega⟩
  ·obtain rfl:i=n:=by have:=HIn.out;omega
   have hd:decide ((i:Int)<(i:Int))=false:=by simp
   go_wp2
   go_ret
   exact⟨ret_bool rfl,HB.out⟩
theorem caps_at:∀(M:List Cp) (j:Nat) (t:Cp),M[j]?=some t→∀k,k<3→(caps M)[j*3+k]?=(encC t)[k]?
 | [],j,t,h,k,hk=>by simp at h
 | x::M,0,t,h,k,hk=>by
  simp only [List.getElem?_cons_zero,Option.some.injEq] at h
  subst h
  simp only [caps,List.flatMap_cons]
  rw [List.getElem?_append_left (by simp [encC];omega)]
  simp
 | x::M,j+1,t,h,k,hk=>by
  rw [List.getElem?_cons_succ] at h
  have:=caps_at M j t h k hk
  simp only [caps,List.flatMap_cons] at this ⊢
  rw [List.getElem?_append_right (by simp [encC];omega),←this]
  congr 1
  simp [encC]
  omega
theorem caps_len3 (M:List Cp):(caps M).length=M.length*3:=by
 induction M with
 | nil=>rfl
 | cons x M ih=>simp only [caps,List.flatMap_cons,List.length_append,List.length_cons] at ih ⊢;rw [ih];simp [encC];omega
set_option maxRecDepth 100000 in
set_option maxHeartbeats 2000000 in
theorem sameCaps_eq (L:List Cp){a b:Option Addr}{ca cb:Nat}(h:Fl w a (caps L))(k:Fl w b (caps L))(hn:L.length≤140737488355328) :
  Calls Tryz.prog 31 #[.slice a L.length ca,.slice b L.length cb] w fun e w'=>e=.returned (.bool true)∧Below w.heap.size w w':=by
 obtain⟨n,hnn⟩:∃n,n=L.length:=⟨_,rfl⟩
 have HL:=hid hnn
 have H:=hid h
 have HK:=hid k
 rw [←hnn] at hn ⊢
 clear h k hnn
 go_enter Tryz.func31,Tryz.ntmps31
 go_upto_region 4 with fail
 go_loopw [5] (fun v U=>∃i:Nat,v=.int .i64 (i:Int)∧i≤n∧Below w.heap.size w U) (fun v _=>n - S.ivN v)
 case atStart=>exact⟨0,rfl,Nat.zero_le _,Below.refl _ _⟩
 case round =>
  obtain⟨i,rfl,hi,hB⟩:=hrel
  have HIn:=hid hi
  have HB:=hid hB
  clear hi hB
  by_cases hlt:i<n
  ·have hd:decide ((i:Int)<(n:Int))=true:=decide_eq_true (by omega)
   obtain⟨x,hx⟩:∃x,L[i]?=some x:=⟨_,List.getElem?_eq_getElem (by have:=HL.out;omega)⟩
   have h0:0<(caps L).length:=by rw [caps_len3];have:=HL.out;omega
   obtain⟨ga,rfl,hca⟩:=H.out h0
   obtain⟨gb,rfl,hcb⟩:=HK.out h0
   obtain⟨xo,xh,xl⟩:=x
   have HS:Hid (∀U,Below wr.heap.size wr U→U.cell? ⟨ga,i*3,none⟩=some (.int .i64 xo)∧U.cell? ⟨ga,i*3+1,none⟩=some (.int .u64 (xh:Int))∧U.cell? ⟨ga,i*3+2,none⟩=some (.int .u64 (xl:Int))∧U.cell? ⟨gb,i*3,none⟩=some (.int .i64 xo)∧U.cell? ⟨gb,i*3+1,none⟩=some (.int .u64 (xh:Int))∧U.cell? ⟨gb,i*3+2,none⟩=some (.int .u64 (xl:Int))):=fun U hU=>by
    have hU2:=below_call HB.out hU
    exact⟨cell_later hU2 (hca _ _ (caps_at L i _ hx 0 (by omega))),cell_later hU2 (hca _ _ (caps_at L i _ hx 1 (by omega))),cell_later hU2 (hca _ _ (caps_at L i _ hx 2 (by omega))),cell_later hU2 (hcb _ _ (caps_at L i _ hx 0 (by omega))),cell_later hU2 (hcb _ _ (caps_at L i _ hx 1 (by omega))),cell_later hU2 (hcb _ _ (caps_at L i _ hx 2 (by omega)))⟩
   clear hca hcb hx h0
   go_upto_region 6 with fail
   go_region_held3 (fun U=>U.cell? ⟨ga,i*3,none⟩=some (.int .i64 xo)∧U.cell? ⟨ga,i*3+1,none⟩=some (.int .u64 (xh:Int))∧U.cell? ⟨ga,i*3+2,none⟩=some (.int .u64 (xl:Int))∧U.cell? ⟨gb,i*3,none⟩=some (.int .i64 xo)∧U.cell? ⟨gb,i*3+1,none⟩=some (.int .u64 (xh:Int))∧U.cell? ⟨gb,i*3+2,none⟩=some (.int .u64 (xl:Int))) (first|exact HS.out _ (Below.refl _ _).drew|exact HS.out _ (Below.refl _ _)) (first|fail)
   all_goals (try go_wp2)
   all_goals exact⟨⟨i+1,rfl,by omega,(HB.out.drew)⟩,by simp [S.ivN];omega⟩
  ·obtain rfl:i=n:=by have:=HIn.out;omega
   have hd:decide ((i:Int)<(i:Int))=false:=by simp
   go_wp2
   go_ret
   exact⟨ret_bool rfl,HB.out⟩
end
end Go.Proofs.YtffmodpgddecnaaGreat.V
namespace Go.Proofs.YtffmodpgddecnaaGreat.V
open Go.RowKit
open Go.Proofs.YtffmodpgddecnaaGreat.H (B64 Cp)
section
variable {w w':World}
set_option maxRecDepth 100000 in
set_option maxHeartbeats 2000000 in
theorem sameReply_eq (r:Rep){a b:Option Addr}{n ca cb:Nat}(h:Fl w a (S.u8s r.data))(k:Fl w b (S.u8s r.data))(hn:r.data.length=n)(hb:n≤140737488355328) :
  Calls Tryz.prog 10 #[rpV r a n ca,rpV r b n cb] w fun e w'=>e=.returned (.bool true)∧Below w.heap.size w w':=by
 obtain⟨code,⟨co,ch,cl⟩,data,num⟩:=r
 simp only [] at h k hn
 subst hn
 have HSb:Hid (∀U,Below w.heap.size w U→Calls Tryz.prog 26 #[.slice a data.length ca,.slice b data.length cb] U fun e w'=>e=.returned (.bool true)∧Below U.heap.size U w'):=fun U hU=>sameBytes_eq data (h.later hU) (k.later hU) hb
 obtain⟨W,hW⟩:∃W,W=(w.alloc (Obj.cells (rpL ⟨code,(co,ch,cl),data,num⟩ a data.length ca).toArray 41)).alloc (Obj.cells (rpL ⟨code,(co,ch,cl),data,num⟩ b data.length cb).toArray 41):=⟨_,rfl⟩
 have HB:Hid (Below w.heap.size w W):=by rw [hW];exact below2 _ _ _
 have hX1:R.Bx W w.heap.size (rpL ⟨code,(co,ch,cl),data,num⟩ a data.length ca):=by rw [hW];exact R.Bx.later (below1 _ _) (R.Bx.new w _ _)
 have hX2:R.Bx W (w.heap.size+1) (rpL ⟨code,(co,ch,cl),data,num⟩ b data.length cb):=by
  rw [hW]
  have:=R.Bx.new (w.alloc (Obj.cells (rpL ⟨code,(co,ch,cl),data,num⟩ a data.length ca).toArray 41)) (rpL ⟨code,(co,ch,cl),data,num⟩ b data.length cb) 41
  rwa [World.size_alloc] at this
 have x0:=hX1.cell 0 rfl
 have x1:=hX1.cell 1 rfl
 have x2:=hX1.cell 2 rfl
 have x3:=hX1.cell 3 rfl
 have x4:=hX1.cell 4 rfl
 have x5:=hX1.cell 5 rfl
 have y0:=hX2.cell 0 rfl
 have y1:=hX2.cell 1 rfl
 have y2:=hX2.cell 2 rfl
 have y3:=hX2.cell 3 rfl
 have y4:=hX2.cell 4 rfl
 have y5:=hX2.cell 5 rfl
 have HW:=hid hW
 clear h k hX1 hX2 hW hb
 generalize data.length=m at *
 go_enter Tryz.func10,Tryz.ntmps10
 go_upto_region 1 with fail
 have hW:=HW.out
 simp only [rpL] at hW
 rw [←hW]
 clear hW
 go_wp2_with (first|(go_at_call 26;refine (HSb.out W HB.out).mono ?_;rintro e w1 ⟨rfl,hb1⟩;have HB1:=hid hb1;clear hb1))
 go_ret
 exact⟨ret_bool (by simp),below_call HB.out HB1.out⟩
end
end Go.Proofs.YtffmodpgddecnaaGreat.V
