import Derived.Shelf.SlIterI.Nil
import Derived.Shelf.SortM.Plain
import Derived.Shelf.SortM.SortNone
import Derived.Test.YtffmodpgddecnaaGreatDoorZ24
import Derived.Test.YtffmodpgddecnaaGreatDoorZ16
import Derived.Test.YtffmodpgddecnaaGreatDoorZ17
set_option linter.unusedVariables false
set_option linter.unusedSimpArgs false
set_option maxRecDepth 100000
set_option maxHeartbeats 1000000
namespace Go.Proofs.YtffmodpgddecnaaGreatDoor.S
open Go.RowKit Go.Maps Go.Sort Go.Shelf
def nE:Go.Shelf.Ren:=⟨fun|7=>193|10=>273|n=>n,fun|23=>180|26=>3|3=>276|28=>201|0=>0|27=>200|33=>101|4=>4|n=>n,fun|n=>n⟩
theorem EX:SlLaysZI.n7 Tryz.prog nE where
 mixed:=by kernel_rfl
 f7:=⟨ "maps.Keys[map[int]sesame/store.object,int,sesame/store.object]",by decide,Tryz.func193.trans (congrArg some (by kernel_rfl))⟩
 f10:=⟨ "maps.Keys[map[int]sesame/store.object,int,sesame/store.object]$1",by decide,Tryz.func273.trans (congrArg some (by kernel_rfl))⟩
 t0:=Tryz.underlying0
 a0:=Tryz.isAgg0
 z0:=Tryz.sizeOf0
 v0:=Tryz.zeroValue0
 t4:=Tryz.underlying4
 a4:=Tryz.isAgg4
 z4:=Tryz.sizeOf4
 v4:=Tryz.zeroValue4
 t23:=Tryz.underlying180
 a23:=Tryz.isAgg180
 z23:=Tryz.sizeOf180
 v23:=Tryz.zeroValue180
 t26:=Tryz.underlying3
 a26:=Tryz.isAgg3
 z26:=Tryz.sizeOf3
 v26:=Tryz.zeroValue3
 t27:=Tryz.underlying200
 a27:=Tryz.isAgg200
 z27:=Tryz.sizeOf200
 v27:=Tryz.zeroValue200
 t28:=Tryz.underlying201
 a28:=Tryz.isAgg201
 z28:=Tryz.sizeOf201
 v28:=Tryz.zeroValue201
 t33:=Tryz.underlying101
 a33:=Tryz.isAgg101
 z33:=Tryz.sizeOf101
 v33:=Tryz.zeroValue101
def kj:Go.Shelf.Ren:=⟨fun|6=>149|8=>224|9=>225|11=>292|13=>294|12=>293|23=>351|24=>352|14=>343|15=>344|16=>345|17=>346|18=>347|19=>348|20=>252|21=>349|22=>350|25=>380|26=>381|27=>382|28=>383|29=>384|30=>312|31=>400|n=>n,fun|26=>3|28=>201|24=>42|0=>0|3=>3|37=>62|48=>361|50=>28|4=>4|40=>396|39=>395|45=>259|5=>5|9=>9|51=>433|55=>437|57=>461|58=>462|33=>101|n=>n,fun|n=>n⟩
theorem Cx:SlLaysZI.n6 Tryz.prog kj where
 mixed:=by kernel_rfl
 f6:=⟨ "slices.Sorted[int]",by decide,Tryz.func149.trans (congrArg some (by kernel_rfl))⟩
 f8:=⟨ "slices.Collect[int]",by decide,Tryz.func224.trans (congrArg some (by kernel_rfl))⟩
 f11:=⟨ "slices.AppendSeq[[]int,int]",by decide,Tryz.func292.trans (congrArg some (by kernel_rfl))⟩
 t0:=Tryz.underlying0
 a0:=Tryz.isAgg0
 z0:=Tryz.sizeOf0
 v0:=Tryz.zeroValue0
 t24:=Tryz.underlying42
 a24:=Tryz.isAgg42
 z24:=Tryz.sizeOf42
 v24:=Tryz.zeroValue42
 t26:=Tryz.underlying3
 a26:=Tryz.isAgg3
 z26:=Tryz.sizeOf3
 v26:=Tryz.zeroValue3
 t28:=Tryz.underlying201
 a28:=Tryz.isAgg201
 z28:=Tryz.sizeOf201
 v28:=Tryz.zeroValue201
 i26:=by kernel_rfl
def vO:Go.Shelf.Ren:=⟨fun|5=>225|8=>294|7=>293|19=>351|20=>352|10=>343|11=>344|12=>345|13=>346|14=>347|15=>348|16=>252|17=>349|18=>350|30=>380|31=>381|32=>382|33=>383|34=>384|35=>312|40=>400|n=>n,fun|23=>42|25=>3|3=>3|32=>62|22=>42|0=>0|44=>361|46=>28|4=>4|36=>396|35=>395|41=>259|5=>5|9=>9|53=>433|57=>437|63=>461|64=>462|n=>n,fun|n=>n⟩
theorem EC:SlLaysM.n5 Tryz.prog vO where
 mixed:=by kernel_rfl
 f5:=⟨ "slices.Sort[[]int,int]",by decide,Tryz.func225.trans (congrArg some (by kernel_rfl))⟩
 f7:=⟨ "slices.pdqsortOrdered[int]",by decide,Tryz.func293.trans (congrArg some (by kernel_rfl))⟩
 f8:=Tryz.func294.trans (congrArg some (by kernel_rfl))
 f10:=⟨ "slices.insertionSortOrdered[int]",by decide,Tryz.func343.trans (congrArg some (by kernel_rfl))⟩
 f11:=⟨ "slices.heapSortOrdered[int]",by decide,Tryz.func344.trans (congrArg some (by kernel_rfl))⟩
 f12:=⟨ "slices.breakPatternsOrdered[int]",by decide,Tryz.func345.trans (congrArg some (by kernel_rfl))⟩
 f13:=⟨ "slices.choosePivotOrdered[int]",by decide,Tryz.func346.trans (congrArg some (by kernel_rfl))⟩
 f14:=⟨ "slices.reverseRangeOrdered[int]",by decide,Tryz.func347.trans (congrArg some (by kernel_rfl))⟩
 f15:=⟨ "slices.partialInsertionSortOrdered[int]",by decide,Tryz.func348.trans (congrArg some (by kernel_rfl))⟩
 f16:=⟨ "cmp.Less[int]",by decide,Tryz.func252.trans (congrArg some (by kernel_rfl))⟩
 f17:=⟨ "slices.partitionEqualOrdered[int]",by decide,Tryz.func349.trans (congrArg some (by kernel_rfl))⟩
 f18:=⟨ "slices.partitionOrdered[int]",by decide,Tryz.func350.trans (congrArg some (by kernel_rfl))⟩
 f19:=Tryz.func351.trans (congrArg some (by kernel_rfl))
 f20:=Tryz.func352.trans (congrArg some (by kernel_rfl))
 f30:=⟨ "slices.siftDownOrdered[int]",by decide,Tryz.func380.trans (congrArg some (by kernel_rfl))⟩
 f31:=Tryz.func381.trans (congrArg some (by kernel_rfl))
 f32:=Tryz.func382.trans (congrArg some (by kernel_rfl))
 f33:=⟨ "slices.medianAdjacentOrdered[int]",by decide,Tryz.func383.trans (congrArg some (by kernel_rfl))⟩
 f34:=⟨ "slices.medianOrdered[int]",by decide,Tryz.func384.trans (congrArg some (by kernel_rfl))⟩
 f35:=⟨ "cmp.isNaN[int]",by decide,Tryz.func312.trans (congrArg some (by kernel_rfl))⟩
 f40:=⟨ "slices.order2Ordered[int]",by decide,Tryz.func400.trans (congrArg some (by kernel_rfl))⟩
 t0:=Tryz.underlying0
 a0:=Tryz.isAgg0
 z0:=Tryz.sizeOf0
 v0:=Tryz.zeroValue0
 t3:=Tryz.underlying3
 a3:=Tryz.isAgg3
 z3:=Tryz.sizeOf3
 v3:=Tryz.zeroValue3
 t4:=Tryz.underlying4
 a4:=Tryz.isAgg4
 z4:=Tryz.sizeOf4
 v4:=Tryz.zeroValue4
 t5:=Tryz.underlying5
 a5:=Tryz.isAgg5
 z5:=Tryz.sizeOf5
 v5:=Tryz.zeroValue5
 t9:=Tryz.underlying9
 a9:=Tryz.isAgg9
 z9:=Tryz.sizeOf9
 v9:=Tryz.zeroValue9
 t22:=Tryz.underlying42
 a22:=Tryz.isAgg42
 z22:=Tryz.sizeOf42
 v22:=Tryz.zeroValue42
 t23:=Tryz.underlying42
 a23:=Tryz.isAgg42
 z23:=Tryz.sizeOf42
 v23:=Tryz.zeroValue42
 t25:=Tryz.underlying3
 a25:=Tryz.isAgg3
 z25:=Tryz.sizeOf3
 v25:=Tryz.zeroValue3
 t32:=Tryz.underlying62
 a32:=Tryz.isAgg62
 z32:=Tryz.sizeOf62
 v32:=Tryz.zeroValue62
 t35:=Tryz.underlying395
 a35:=Tryz.isAgg395
 z35:=Tryz.sizeOf395
 v35:=Tryz.zeroValue395
 t36:=Tryz.underlying396
 a36:=Tryz.isAgg396
 z36:=Tryz.sizeOf396
 v36:=Tryz.zeroValue396
 t41:=Tryz.underlying259
 a41:=Tryz.isAgg259
 z41:=Tryz.sizeOf259
 v41:=Tryz.zeroValue259
 t44:=Tryz.underlying361
 a44:=Tryz.isAgg361
 z44:=Tryz.sizeOf361
 v44:=Tryz.zeroValue361
 t46:=Tryz.underlying28
 a46:=Tryz.isAgg28
 z46:=Tryz.sizeOf28
 v46:=Tryz.zeroValue28
 t53:=Tryz.underlying433
 a53:=Tryz.isAgg433
 z53:=Tryz.sizeOf433
 v53:=Tryz.zeroValue433
 t57:=Tryz.underlying437
 a57:=Tryz.isAgg437
 z57:=Tryz.sizeOf437
 v57:=Tryz.zeroValue437
 t63:=Tryz.underlying461
 a63:=Tryz.isAgg461
 z63:=Tryz.sizeOf461
 v63:=Tryz.zeroValue461
 t64:=Tryz.underlying462
 a64:=Tryz.isAgg462
 z64:=Tryz.sizeOf462
 v64:=Tryz.zeroValue462
theorem GC (m:Nat):AnyZI.SortsIn Tryz.prog kj Fence.wide m :=
 ⟨λbT off cap ss W hH hblk hsz=>callsIn_wide.2 (AnyM.slices_Sort_int EC bT off cap ss W hH hblk hsz),
 λp cap W=>callsIn_wide.2 (AnyM.slices_Sort_int_none EC p cap W)⟩
theorem CF (s b nn:Nat)(D0:DataW Value)(w:World)(x:w.cell? ⟨s,1,none⟩=some (.map (some b)))(hown:w.ownsMap Tryz.prog 3 hr b nn D0)(hmax:Maps.size D0<=maxLen)(hbytes:Maps.size D0*8<=140737488355328) :
  Calls Tryz.prog 111 #[.pointer (some ⟨s,0,none⟩)] w λe w'=>∃(v:Value) (ss:List Int),e=.returned v/\ss.Perm (intKeys D0) /\
   w'.ownsRow w.heap.size 3 1 v ss.length ((ss.mergeSort leI).map encZ)/\(v=.slice none 0 0↔ss=[])/\Below w.heap.size w w':=by
 refine (callsIn_wide (n:=6)).1 ?_
 have hbl:=hown.lt
 have hseq:SeqGives Fence.wide 2 Tryz.prog 273 #[.pointer (some ⟨w.heap.size,0,none⟩)] encZ (λss=>ss.Perm (intKeys D0)) (Maps.size D0) (w.alloc (.cells #[.map (some b)] 180)) :=
  AnyZI.keys_gives (ρ:=nE) { EX with } Fence.wide _ trivial rfl (by omega) w.heap.size b nn D0 _ (by simp) (by simp) (by
   obtain⟨es,clock,hb,Ft,hs,hD⟩:=hown
   exact⟨es,clock,(Below.heap_alloc _ _ b hbl).trans hb,Ft,hs,hD⟩)
 have cK:∀mb W,CallsIn Fence.wide 5 Tryz.prog 193 #[.map mb] W λe w'=>e=.returned (.func (.func 273) #[] #[.pointer (some ⟨W.heap.size,0,none⟩)])/\w'=W.alloc (.cells #[.map mb] 180):=λmb W=>AnyZI.keys_in EX Fence.wide 5 trivial rfl mb W
 have cS:=AnyZI.sorted_in Cx Fence.wide 5 trivial trivial trivial trivial rfl (by omega) (GC _) (enters_of Tryz.func225 (by kernel_rfl) rfl) 273 #[.pointer (some ⟨w.heap.size,0,none⟩)] trivial (enters_of Tryz.func273 (by kernel_rfl) rfl) _ _ hmax hbytes _ hseq
 change CallsIn _ _ Tryz.prog 149 _ _ _ at cS
 have hfK:Fence.wide.fn 193:=trivial
 have hfS:Fence.wide.fn 149:=trivial
 clear hseq hown;refine callsIn_of_wp Tryz.func111 rfl trivial ?_ rfl
 simp only [Tryz.ntmps111,List.size_toArray,List.length_cons,List.length_nil,Nat.reduceAdd,Nat.reduceSub,Array.replicate_succ,Array.replicate_zero,List.push_toArray,List.append_toArray,List.nil_append,List.cons_append];gi_wp2_with (first
  | (gi_at_call 193;refine (cK _ _).mono ?_;rintro e w' ⟨rfl,rfl⟩)
  | (gi_at_call 149;refine cS.mono ?_;rintro e w' ⟨v,ss,rfl,hS,hrow,hnil,hb⟩))
 go_ret;exact⟨v,ss,rfl,hS,gr hrow (by simp),hnil,((Below.refl _ w).alloc (Nat.le_refl _) _).trans (hb.mono (by simp))⟩
theorem DC (s g pb m n room:Nat)(nx:Int)(t:Nat->Bool)(B:Nat->Nat->Nat)(Os:List Ob)(w:World)(h:eD w s g pb m n room nx t B Os) :
  Calls Tryz.prog 111 #[.pointer (some ⟨s,0,none⟩)] w λe w'=>∃a cap,e=.returned (.slice a Os.length cap)/\Own w' w.heap.size 3 a Os.length cap (ints (Os.map Ob.id))/\Below w.heap.size w w':=by
 have hrm:=h.rm
 refine (CF s m Os.length (dV Os) w h.c1.1 h.map (by rw [gU];unfold maxLen;omega) (by rw [gU];omega)).mono ?_
 rintro e w' ⟨v,ss,rfl,hS,hrow,hnil,hb⟩
 rw [vM] at hS;have hl:ss.length=Os.length:=by rw [hS.length_eq];simp
 have hsort:ss.mergeSort leI=Os.map Ob.id:=by
  rw [mergeSort_of_perm_i hS];refine rE ?_
  rw [List.pairwise_map];exact h.iE
 rw [hsort,hl] at hrow;obtain⟨a,cap,rfl⟩:∃a cap,v=.slice a Os.length cap:=by
  rcases hrow.2 with ⟨h1,h2⟩|⟨g',cap',_,h1,_⟩
  ·exact⟨none,0,by rw [h1,h2]⟩
  ·exact⟨_,cap',h1⟩
 exact⟨a,cap,rfl,⟨hrow,ep _⟩,hb⟩
end Go.Proofs.YtffmodpgddecnaaGreatDoor.S
namespace Go.Proofs.YtffmodpgddecnaaGreatDoor.S
open Go.RowKit
structure pM where
 s:Nat
 g:Nat
 pb:Nat
 m:Nat
 n:Nat
 room:Nat
def St (w:World)(z:pM)(nx:Int)(Os:List Ob):Prop:=∃t B,eD w z.s z.g z.pb z.m z.n z.room nx t B Os
def Zb (z:pM)(k:Nat):Prop:=Sb z.s z.g z.pb z.m k
def bp (x:Int):Prop:=-9223372036854775808<=x/\x<9223372036854775808
theorem St.but {S:Nat->Prop}{w w':World}{z:pM}{nx:Int}{Os:List Ob}(hb:ah S w w')(h:St w z nx Os)(h1:∀k,Zb z k->¬S k)(h2:∀k,Rb Os k->¬S k):St w' z nx Os:=by
 obtain⟨t,B,h⟩:=h
 exact⟨t,B,h.but hb h1 h2⟩
theorem St.later {w w':World}{z:pM}{nx:Int}{Os:List Ob}(hb:Below w.heap.size w w')(h:St w z nx Os):St w' z nx Os:=by
 obtain⟨t,B,h⟩:=h
 exact⟨t,B,h.later hb⟩
theorem St.used {w:World}{z:pM}{nx:Int}{Os:List Ob}(h:St w z nx Os):fN Os<=z.n/\z.n<=256:=by
 obtain⟨t,B,h⟩:=h
 have:=h.count
 have:=h.pD.le
 omega
theorem Fh (room n:Nat)(w:World)(h1:1<=room/\room<=64)(h2:1<=n/\n<=256) :
  Calls Tryz.prog 92 #[.int .i64 (room:Int),.int .i64 (n:Int)] w λe w'=>∃z:pM,z.n=n/\z.room=room/\e=.returned (.tuple #[.pointer (some ⟨z.s,0,none⟩),.int .i64 0])/\St w' z 1 []/\(∀k,Zb z k->w.heap.size<=k/\k<w'.heap.size)/\Below w.heap.size w w':=by
 refine (DF room n w h1 h2).mono ?_
 rintro e w' ⟨s,g,pb,m,rfl,hS,hk,hb⟩
 exact⟨⟨s,g,pb,m,n,room⟩,rfl,rfl,rfl,⟨_,_,hS⟩,hk,hb⟩
theorem Cy (z:pM)(nx:Int)(Os:List Ob)(w:World)(h:St w z nx Os) :
  Calls Tryz.prog 53 #[.pointer (some ⟨z.s,0,none⟩)] w λe w'=>e=.returned (.int .i64 nx)/\w'=w:=by
 obtain⟨t,B,h⟩:=h
 exact xz _ _ _ _ _ _ _ _ _ _ _ h
theorem Hb (z:pM)(nx:Int)(Os:List Ob)(size:Int)(w:World)(h:St w z nx Os) :
  Calls Tryz.prog 179 #[.pointer (some ⟨z.s,0,none⟩),.int .i64 size] w λe w'=>e=.returned (.int .i64 (jL z.room z.n nx Os size))/\Below w.heap.size w w':=by
 obtain⟨t,B,h⟩:=h
 exact g_ _ _ _ _ _ _ _ _ _ _ _ _ h
theorem GB (z:pM)(nx:Int)(Os:List Ob)(w:World)(h:St w z nx Os) :
  Calls Tryz.prog 111 #[.pointer (some ⟨z.s,0,none⟩)] w λe w'=>∃a cap,e=.returned (.slice a Os.length cap)/\Own w' w.heap.size 3 a Os.length cap (ints (Os.map Ob.id))/\Below w.heap.size w w':=by
 obtain⟨t,B,h⟩:=h
 exact DC _ _ _ _ _ _ _ _ _ _ _ h
theorem Ep (z:pM)(nx:Int)(Os:List Ob)(id:Int)(w:World)(h:St w z nx Os)(hi:bp id) :
  Calls Tryz.prog 194 #[.pointer (some ⟨z.s,0,none⟩),.int .i64 id] w λe w'=>e=.returned (match fq Os id with|some o=>.tuple #[.int .i64 (o.data.length:Int),.bool true]|none=>.tuple #[.int .i64 0,.bool false])/\Below w.heap.size w w':=by
 obtain⟨t,B,h⟩:=h
 cases ho:fq Os id with
 | none=>exact xK _ _ _ _ _ _ _ _ _ _ _ _ h hi ho
 | some o=>exact xL _ _ _ _ _ _ _ _ _ _ _ _ _ h hi ho
theorem oL (z:pM)(nx:Int)(Os:List Ob)(k:Nat)(w:World)(h:St w z nx Os)(hE:jL z.room z.n nx Os (k:Int)=0) :
  Calls Tryz.prog 181 #[.pointer (some ⟨z.s,0,none⟩),.int .i64 (k:Int)] w λe w'=>∃P a,e=.returned (.tuple #[.int .i64 nx,.int .i64 0])/\(∀j,aJ a j->w.heap.size<=j/\j<w'.heap.size)/\St w' z (nx+1) (Os++[⟨nx,List.replicate k 0,P,a⟩])/\ah (Zb z) w w':=by
 obtain⟨t,B,h⟩:=h
 refine (jR _ _ _ _ _ _ _ _ _ _ k w h hE).mono ?_
 rintro e w' ⟨a,t',rfl,hb,hS,hB⟩
 exact⟨_,a,rfl,hb,⟨t',B,hS⟩,hB⟩
theorem mY (z:pM)(nx:Int)(Os:List Ob)(id:Int)(o:Ob)(w:World)(h:St w z nx Os)(hi:bp id)(ho:fq Os id=some o) :
  Calls Tryz.prog 323 #[.pointer (some ⟨z.s,0,none⟩),.int .i64 id] w λe w'=>e=.returned (.int .i64 0)/\St w' z nx (bX id Os)/\ah (Zb z) w w':=by
 obtain⟨t,B,h⟩:=h
 refine (tL _ _ _ _ _ _ _ _ _ _ id o w h hi ho).mono ?_
 rintro e w' ⟨t',B',rfl,hS,hB⟩
 exact⟨rfl,⟨t',B',hS⟩,hB⟩
theorem kx (z:pM)(nx:Int)(Os:List Ob)(id:Int)(w:World)(h:St w z nx Os)(hi:bp id)(ho:fq Os id=none) :
  Calls Tryz.prog 323 #[.pointer (some ⟨z.s,0,none⟩),.int .i64 id] w λe w'=>e=.returned (.int .i64 20)/\Below w.heap.size w w':=by
 obtain⟨t,B,h⟩:=h
 exact pE _ _ _ _ _ _ _ _ _ _ id w h hi ho
def rp (Os:List Ob)(id off k:Int):Int:=match fq Os id with
 | none=>20
 | some o=>if 0<=off/\0<=k/\k<=1024/\off+k<=(o.data.length:Int) then 0 else 5
def za (Os:List Ob)(id off k:Int):List Nat:=match fq Os id with
 | none=>[]
 | some o=>if 0<=off/\0<=k/\k<=1024/\off+k<=(o.data.length:Int) then (o.data.drop off.toNat).take k.toNat else []
theorem DY (z:pM)(nx:Int)(Os:List Ob)(id off k:Int)(w:World)(h:St w z nx Os)(hi:bp id) :
  Calls Tryz.prog 187 #[.pointer (some ⟨z.s,0,none⟩),.int .i64 id,.int .i64 off,.int .i64 k] w λe w'=>∃a cap,e=.returned (.tuple #[.slice a (za Os id off k).length cap,.int .i64 (rp Os id off k)])/\Own w' w.heap.size 5 a (za Os id off k).length cap (bG (za Os id off k))/\Below w.heap.size w w':=by
 obtain⟨t,B,h⟩:=h
 cases ho:fq Os id with
 | none =>
  have e1:za Os id off k=[]:=by simp [za,ho]
  have e2:rp Os id off k=20:=by simp [rp,ho]
  rw [e1,e2];refine (sS _ _ _ _ _ _ _ _ _ _ id off k w h hi ho).mono ?_
  rintro e w' ⟨rfl,hb⟩
  exact⟨none,0,rfl,Own.nil _ _ _,hb⟩
 | some o =>
  by_cases hr:kA o off k
  ·have hr2:0<=off/\0<=k/\k<=1024/\off+k<=(o.data.length:Int):=hr
   have e1:za Os id off k=(o.data.drop off.toNat).take k.toNat:=by simp [za,ho,hr2]
   have e2:rp Os id off k=0:=by simp [rp,ho,hr2]
   obtain⟨off',rfl⟩:∃q:Nat,off=(q:Int):=⟨off.toNat,by omega⟩
   obtain⟨k',rfl⟩:∃q:Nat,k=(q:Int):=⟨k.toNat,by omega⟩
   have e3:((o.data.drop off').take k').length=k':=by rw [List.length_take,List.length_drop];omega
   rw [e1,e2,Int.toNat_natCast,Int.toNat_natCast,e3];refine (Am _ _ _ _ _ _ _ _ _ _ id off' k' o w h hi ho (by omega) (by omega)).mono ?_
   rintro e w' ⟨a,cap,rfl,hO,hb⟩
   exact⟨a,cap,rfl,hO,hb⟩
  ·have hr2:¬(0<=off/\0<=k/\k<=1024/\off+k<=(o.data.length:Int)):=hr
   have e1:za Os id off k=[]:=by simp only [za,ho,if_neg hr2]
   have e2:rp Os id off k=5:=by simp only [rp,ho,if_neg hr2]
   rw [e1,e2];refine (vY _ _ _ _ _ _ _ _ _ _ id off k o w h hi ho hr).mono ?_
   rintro e w' ⟨rfl,hb⟩
   exact⟨none,0,rfl,Own.nil _ _ _,hb⟩
def Hw (Os:List Ob)(id off:Int)(D:List Nat):List Ob:=if rp Os id off (D.length:Int)=0 then Os.map (dX id off.toNat D) else Os
theorem CP {Os:List Ob}{id:Int}{off:Nat}{D:List Nat}{k:Nat}(h:Rb (Os.map (dX id off D)) k):Rb Os k:=by
 obtain⟨o,ho,hk⟩:=h
 obtain⟨p,hp,rfl⟩:=List.mem_map.1 ho
 rw [jB] at hk;exact⟨p,hp,hk⟩
theorem G8 {Os:List Ob}{id off:Int}{D:List Nat}{k:Nat}(h:Rb (Hw Os id off D) k):Rb Os k:=by
 unfold Hw at h;split at h
 ·exact CP h
 ·exact h
theorem tT {Os:List Ob}{id:Int}{k:Nat}(h:Rb (bX id Os) k):Rb Os k:=by
 obtain⟨o,ho,hk⟩:=h
 exact⟨o,(bF.1 ho).1,hk⟩
theorem zW (z:pM)(nx:Int)(Os:List Ob)(id off:Int)(da:Option Addr)(k cd:Nat)(D:List Nat)(w:World)(h:St w z nx Os)(hi:bp id)(hR:Row w da k cd (bG D))(hD:∀x∈D,x<256)(hap:0<k->∀j,aJ da j->¬Zb z j) :
  Calls Tryz.prog 188 #[.pointer (some ⟨z.s,0,none⟩),.int .i64 id,.int .i64 off,.slice da k cd] w λe w'=>e=.returned (.int .i64 (rp Os id off (k:Int)))/\St w' z nx (Hw Os id off D)/\ah (Zb z) w w':=by
 obtain⟨t,B,h⟩:=h
 have hk:D.length=k:=by have:=hR.len;rwa [aM] at this
 unfold Hw;rw [hk];cases ho:fq Os id with
 | none =>
  have e2:rp Os id off (k:Int)=20:=by simp [rp,ho]
  rw [e2,if_neg (by decide)];refine (rl _ _ _ _ _ _ _ _ _ _ id off da k cd w h hi ho).mono ?_
  rintro e w' ⟨rfl,hb⟩
  exact⟨rfl,⟨t,B,h.later hb⟩,ah.of hb⟩
 | some o =>
  by_cases hr:kA o off (k:Int)
  ·have hr2:0<=off/\0<=(k:Int)/\(k:Int)<=1024/\off+(k:Int)<=(o.data.length:Int):=hr
   have e2:rp Os id off (k:Int)=0:=by simp only [rp,ho,if_pos hr2]
   obtain⟨off',rfl⟩:∃q:Nat,off=(q:Int):=⟨off.toNat,by omega⟩
   rw [e2,if_pos rfl,Int.toNat_natCast];refine (xi _ _ _ _ _ _ _ _ _ _ id off' o da k cd D w h hi ho (by omega) (by omega) hR hD (λh0 j hj e=>hap h0 j hj (.inr (.inr (.inl e))))).mono ?_
   rintro e w' ⟨B',rfl,hS,hb⟩
   exact⟨rfl,⟨t,B',hS⟩,hb.mono (λ_ e=>.inr (.inr (.inl e)))⟩
  ·have hr2:¬(0<=off/\0<=(k:Int)/\(k:Int)<=1024/\off+(k:Int)<=(o.data.length:Int)):=hr
   have e2:rp Os id off (k:Int)=5:=by simp only [rp,ho,if_neg hr2]
   rw [e2,if_neg (by decide)];refine (ti _ _ _ _ _ _ _ _ _ _ id off o da k cd w h hi ho hr).mono ?_
   rintro e w' ⟨rfl,hb⟩
   exact⟨rfl,⟨t,B,h.later hb⟩,ah.of hb⟩
def BE (V:List (Int×List Nat)):Nat:=(V.map λp=>aU p.2.length).sum
def xS (V:List (Int×List Nat))(id:Int):Option (List Nat):=(V.find? λp=>decide (p.1=id)).map Prod.snd
def fv (room n:Nat)(nx:Int)(V:List (Int×List Nat))(size:Int):Int :=
 if size<0\/4096<size then 6 else if room<=V.length\/4611686018427387904<nx then 7 else if (n:Int) - (BE V:Int)<(aU size.toNat:Int) then 8 else 0
def wP (V:List (Int×List Nat))(id off k:Int):Int:=match xS V id with
 | none=>20
 | some l=>if 0<=off/\0<=k/\k<=1024/\off+k<=(l.length:Int) then 0 else 5
def A4 (V:List (Int×List Nat))(id off k:Int):List Nat:=match xS V id with
 | none=>[]
 | some l=>if 0<=off/\0<=k/\k<=1024/\off+k<=(l.length:Int) then (l.drop off.toNat).take k.toNat else []
def DZ (id:Int)(off:Nat)(D:List Nat)(p:Int×List Nat):Int×List Nat:=if p.1=id then (p.1,gJ p.2 D off) else p
def B6 (V:List (Int×List Nat))(id off:Int)(D:List Nat):List (Int×List Nat):=if wP V id off (D.length:Int)=0 then V.map (DZ id off.toNat D) else V
def vw (Os:List Ob):List (Int×List Nat):=Os.map λo=>(o.id,o.data)
theorem j4 (Os:List Ob):(vw Os).length=Os.length:=by simp [vw]
theorem CS (Os:List Ob):BE (vw Os)=fN Os:=by simp [BE,fN,vw,Function.comp_def]
theorem uW (Os:List Ob)(id:Int):xS (vw Os) id=(fq Os id).map Ob.data:=by
 unfold xS fq vw
 rw [List.find?_map];simp [Function.comp_def]
theorem tu (Os:List Ob)(id off k:Int):wP (vw Os) id off k=rp Os id off k:=by
 unfold wP rp;rw [uW];cases fq Os id<;>rfl
theorem Ff (Os:List Ob)(id off k:Int):A4 (vw Os) id off k=za Os id off k:=by
 unfold A4 za;rw [uW];cases fq Os id<;>rfl
theorem wW (Os:List Ob)(o:Ob):vw (Os++[o])=vw Os++[(o.id,o.data)]:=by simp [vw]
theorem CT (Os:List Ob)(id:Int)(off:Nat)(D:List Nat):vw (Os.map (dX id off D))=(vw Os).map (DZ id off D):=by
 unfold vw;rw [List.map_map,List.map_map];refine List.map_congr_left λo _=>?_
 simp only [Function.comp,dX,DZ];split<;>rfl
theorem FM (Os:List Ob)(id off:Int)(D:List Nat):vw (Hw Os id off D)=B6 (vw Os) id off D:=by
 unfold Hw B6;rw [tu];split
 ·exact CT _ _ _ _
 ·rfl
theorem yB {w:World}{z:pM}{nx:Int}{Os:List Ob}(h:St w z nx Os)(size:Int):fv z.room z.n nx (vw Os) size=jL z.room z.n nx Os size:=by
 have hu:=h.used
 unfold fv jL;rw [j4,CS];by_cases h1:size<0\/4096<size
 ·rw [if_pos h1,if_pos h1]
 ·rw [if_neg h1,if_neg h1]
  by_cases h2:z.room<=Os.length\/4611686018427387904<nx
  ·rw [if_pos h2,if_pos h2]
  ·rw [if_neg h2,if_neg h2]
   by_cases h3:z.n - fN Os<aU size.toNat
   ·rw [if_pos h3,if_pos (by omega)]
   ·rw [if_neg h3,if_neg (by omega)]
theorem D_ {Os:List Ob}{id:Int}:(∀p∈vw Os,p.1≠id)↔fq Os id=none:=by
 unfold vw fq
 rw [List.find?_eq_none];simp
theorem xM {Os:List Ob}{o:Ob}{k:Nat}(h:Rb (Os++[o]) k):Rb Os k\/aJ o.jU k:=by
 obtain⟨p,hp,hk⟩:=h
 rcases List.mem_append.1 hp with h1|h1
 ·exact .inl ⟨p,h1,hk⟩
 ·simp only [List.mem_singleton] at h1
  subst h1;exact .inr hk
end Go.Proofs.YtffmodpgddecnaaGreatDoor.S
namespace Go.Proofs.YtffmodpgddecnaaGreatDoor.V
open Go.RowKit
open Go.Proofs.YtffmodpgddecnaaGreatDoor.H (aq Cp)
structure Hd where
 A:Ad
 kn:Nat
 mo:Nat
 qg:Nat
 qb:Nat
 e:Int
 z:S.pM
 g:Nat
 gb:Nat
 n:Nat
 c:Nat->Nat
 pg:Nat
 pm:Int
 lg:Nat
 lm:Int
 cg:Nat
 cs:Nat
 cw:Nat
 v:Nat
 kb:Nat
 W:Int
 base:Nat
def Hd.cf (H:Hd):List Value:=[.int .i64 H.W,.int .i64 (H.z.room:Int),.int .i64 (H.z.n:Int),.int .i64 (H.mo:Int),.int .i64 H.e,.int .i64 H.pm,.int .i64 H.lm,.int .i64 (H.cs:Int),.int .i64 (H.cw:Int),.int .i64 (H.kn:Int)]
def Hd.kc (H:Hd):List Value:=H.cf++[.pointer (some ⟨H.g,0,none⟩),.pointer (some ⟨H.z.s,0,none⟩),.pointer (some ⟨H.A.g,0,none⟩),.pointer (some ⟨H.qg,0,none⟩),.pointer (some ⟨H.pg,0,none⟩),.map (some H.lg),.pointer (some ⟨H.v,0,none⟩)]
def Kb (w:World)(H:Hd):Prop:=∀j v,H.kc[j]?=some v->w.cell? ⟨H.kb,j,none⟩=some v
theorem Kb.but {S:Nat->Prop}{w w':World}{H:Hd}(h:Kb w H)(hb:ah S w w')(hn:¬S H.kb):Kb w' H:=λj v hv=>ag hb (h j v hv) hn
def ic (L:List Int)(G:Int->Nat):DataW Value:=.map (L.map (λi=>(.int .i64 i,.held (.pointer (some ⟨G i,0,none⟩)))))
structure Li (w:World)(H:Hd)(Pr:List Int)(D:Int->List Cp)(G:Int->Nat)(pa:Int->Option Addr)(cap:Int->Nat)(df:Nat->Int):Prop where
 map:w.ownsMap Tryz.prog 3 S.hr H.lg Pr.length (ic Pr G)
 each:∀i∈Pr,M.Dm w H.base (G i) H.lm (pa i) (cap i) (D i)
 df:∀i∈Pr,∀k,k=G i\/aJ (pa i) k->df k=i/\k≠H.lg
def Cd (Pr:List Int)(G:Int->Nat)(pa:Int->Option Addr)(lg:Nat)(k:Nat):Prop:=k=lg\/∃i∈Pr,k=G i\/aJ (pa i) k
def Part (w:World)(H:Hd)(s:aP)(d:Nat->List K.Pu)(m:Nat->Prop):Nat->Prop
 | 0=>ie w H.A H.kn H.mo s.X s.l/\∀k,H.A.jD k->m k
 | 1=>Q.Qu w H.qg H.qb H.e (H.mo:Int) s.L/\∀k,k=H.qg\/k=H.qb->m k
 | 2=>∃Os,S.St w H.z s.nx Os/\S.vw Os=s.V/\∀k,S.Zb H.z k\/S.Rb Os k->m k
 | 3=>D.Dr w H.g H.gb H.n H.c s.t/\∀k,k=H.g\/(0<H.n/\k=H.gb)->m k
 | 4=>∃pa cap,P.Ob w H.base H.pg H.pm s.px pa cap s.P/\∀k,k=H.pg\/aJ pa k->m k
 | 5=>∃G pa cap df,Li w H s.ks s.D G pa cap df/\∀k,Cd s.ks G pa H.lg k->m k
 | 6=>(∃E hi mi,K.Kc w H.cg H.cs H.cw H.kn d E hi mi)/\L.Va w H.v H.cg H.A.g/\m H.cg/\m H.v/\H.v≠H.cg
 | 7=>Kb w H/\m H.kb
 | _=>True
theorem Li.but {B:Nat->Prop}{w w':World}{H:Hd}{Pr:List Int}{D:Int->List Cp}{G:Int->Nat}{pa:Int->Option Addr}{cap:Int->Nat}{df:Nat->Int}(h:Li w H Pr D G pa cap df)(hb:ah B w w')(hS:∀k,Cd Pr G pa H.lg k->¬B k):Li w' H Pr D G pa cap df :=
 ⟨S.bC hb h.map (hS _ (.inl rfl)),λi hi=>(h.each i hi).but hb (hS _ (.inr ⟨i,hi,.inl rfl⟩)) (λk hk=>hS k (.inr ⟨i,hi,.inr hk⟩)),h.df⟩
theorem Part.but {B:Nat->Prop}{w w':World}{H:Hd}{s:aP}{d:Nat->List K.Pu}{m:Nat->Prop}(hb:ah B w w')(hS:∀k,m k->¬B k):∀i,Part w H s d m i->Part w' H s d m i
 | 0,⟨h,h2⟩=>⟨h.but hb (λk hk=>hS k (h2 k hk)),h2⟩
 | 1,⟨h,h2⟩=>⟨h.but hb (hS _ (h2 _ (.inl rfl))) (hS _ (h2 _ (.inr rfl))),h2⟩
 | 2,⟨Os,h,e,h2⟩=>⟨Os,h.but hb (λk hk=>hS k (h2 k (.inl hk))) (λk hk=>hS k (h2 k (.inr hk))),e,h2⟩
 | 3,⟨h,h2⟩=>⟨h.vW hb (hS _ (h2 _ (.inl rfl))) (λh0=>hS _ (h2 _ (.inr ⟨h0,rfl⟩))),h2⟩
 | 4,⟨pa,cap,h,h2⟩=>⟨pa,cap,h.but hb (hS _ (h2 _ (.inl rfl))) (λk hk=>hS k (h2 k (.inr hk))),h2⟩
 | 5,⟨G,pa,cap,df,h,h2⟩=>⟨G,pa,cap,df,h.but hb (λk hk=>hS k (h2 k hk)),h2⟩
 | 6,⟨⟨E,hi,mi,h⟩,hv,h1,h2,h3⟩=>⟨⟨E,hi,mi,h.but hb (hS _ h1)⟩,hv.but hb (hS _ h2),h1,h2,h3⟩
 | 7,⟨h,h2⟩=>⟨h.but hb (hS _ h2),h2⟩
 | _+8,_=>trivial
structure Lay (w:World)(H:Hd)(s:aP)(d:Nat->List K.Pu)(M:Nat->Nat->Prop)(N:Nat->Prop):Prop where
 part:∀i,Part w H s d (M i) i
 ap:∀i j k,M i k->M j k->i=j
 sub:∀i k,M i k->N k
 pd:∀k,N k->H.base<=k/\k<w.heap.size
 mM:1<=H.mo/\H.mo<=256
 laid:D.Laid w
 b0:0<H.base/\H.base<=w.heap.size
def aI (w:World)(H:Hd)(s:aP)(d:Nat->List K.Pu)(N:Nat->Prop):Prop:=∃M,Lay w H s d M N
def aK (w:World)(N:Nat->Prop)(w':World)(N':Nat->Prop):Prop:=(∀k,N' k->N k\/w.heap.size<=k)/\ah N w w'
theorem aK.later {w w':World}{N:Nat->Prop}(hb:Below w.heap.size w w'):aK w N w' N:=⟨λk h=>.inl h,ah.of hb⟩
theorem aK.stay {w w':World}{N:Nat->Prop}(hb:ah N w w'):aK w N w' N:=⟨λk h=>.inl h,hb⟩
theorem aK.trans {w w1 w2:World}{N N1 N2:Nat->Prop}(h:aK w N w1 N1)(k:aK w1 N1 w2 N2):aK w N w2 N2:=by
 refine⟨λj hj=>?_,⟨k.2.os.trans h.2.os,k.2.tape.trans h.2.tape,k.2.output.trans h.2.output,Nat.le_trans h.2.size k.2.size,λj hj hn=>?_⟩⟩
 ·rcases k.1 j hj with h1|h1
  ·exact h.1 j h1
  ·exact .inr (Nat.le_trans h.2.size h1)
 ·refine (k.2.block j (Nat.lt_of_lt_of_le hj h.2.size) (λh1=>?_)).trans (h.2.block j hj hn)
  rcases h.1 j h1 with h2|h2
  ·exact hn h2
  ·omega
theorem aK.out {w w':World}{N N':Nat->Prop}(h:aK w N w' N'){b:Nat}(hb:b<w.heap.size)(hn:¬N b):¬N' b:=λe=>by
 rcases h.1 b e with h1|h1
 ·exact hn h1
 ·omega
theorem aK.size {w w':World}{N N':Nat->Prop}(h:aK w N w' N'):w.heap.size<=w'.heap.size:=h.2.size
theorem aK.cell {w w':World}{N N':Nat->Prop}(h:aK w N w' N'){p:Addr}{v:Value}(hc:w.cell? p=some v)(hn:¬N p.block):w'.cell? p=some v:=ag h.2 hc hn
section
variable {w w':World}{H:Hd}{s s':aP}{d d':Nat->List K.Pu}{M:Nat->Nat->Prop}{N:Nat->Prop}
theorem Lay.n0 (h:Lay w H s d M N):¬N 0:=λe=>by have:=(h.pd 0 e).1;have:=h.b0;omega
theorem Lay.steps {C:Nat->Prop}{m':Nat->Nat->Prop}(h:Lay w H s d M N)(hb:ah (λk=>∃i,C i/\M i k) w w')(hp:∀i,C i->Part w' H s' d' (m' i) i)
  (hm:∀i,C i->∀k,m' i k->M i k\/(w.heap.size<=k/\k<w'.heap.size)) (hx:∀i j,C i->C j->∀k,w.heap.size<=k->m' i k->m' j k->i=j)
  (same:∀j,¬C j->∀u m,Part u H s d m j->Part u H s' d' m j):∃N',aI w' H s' d' N'/\aK w N w' N'/\∀k,N' k->N k\/∃i,C i/\m' i k:=by
 classical
 have hN:ah N w w':=hb.mono (λk hk=>by obtain⟨i,_,hk⟩:=hk;exact h.sub i k hk)
 have hsz:=hb.size
 have key:∀x i,¬C x->C i->∀k,M x k->m' i k->False:=λx i hx hi k h1 h2=>by
  rcases hm i hi k h2 with h3|h3
  ·exact hx (by rw [h.ap x i k h1 h3];exact hi)
  ·have:=(h.pd k (h.sub x k h1)).2;omega
 refine⟨λk=>N k\/∃i,C i/\m' i k,⟨λj=>if C j then m' j else M j,λj=>?_,λa b k ha hb'=>?_,λj k hk=>?_,λk hk=>?_,h.mM,h.laid.but hN h.n0,h.b0.1,by have:=h.b0.2;omega⟩,⟨λk hk=>?_,hN⟩,λk hk=>hk⟩
 ·by_cases e:C j
  ·rw [if_pos e];exact hp j e
  ·rw [if_neg e]
   exact same j e w' (M j) (Part.but hb (λk hk e2=>by obtain⟨i,hi,e2⟩:=e2;exact e (by rw [h.ap j i k hk e2];exact hi)) j (h.part j))
 ·by_cases ea:C a
  ·rw [if_pos ea] at ha
   by_cases eb:C b
   ·rw [if_pos eb] at hb'
    rcases hm a ea k ha with h1|h1
    ·rcases hm b eb k hb' with h2|h2
     ·exact h.ap a b k h1 h2
     ·have:=(h.pd k (h.sub a k h1)).2;omega
    ·exact hx a b ea eb k h1.1 ha hb'
   ·rw [if_neg eb] at hb'
    exact (key b a eb ea k hb' ha).elim
  ·rw [if_neg ea] at ha
   by_cases eb:C b
   ·rw [if_pos eb] at hb'
    exact (key a b ea eb k ha hb').elim
   ·rw [if_neg eb] at hb'
    exact h.ap a b k ha hb'
 ·by_cases e:C j
  ·rw [if_pos e] at hk;exact .inr ⟨j,e,hk⟩
  ·rw [if_neg e] at hk;exact .inl (h.sub j k hk)
 ·have sj:N k->H.base<=k/\k<w'.heap.size:=λh1=>by
   have:=h.pd k h1
   exact⟨this.1,by omega⟩
  rcases hk with h1|⟨i,hi,h1⟩
  ·exact sj h1
  ·rcases hm i hi k h1 with h2|h2
   ·exact sj (h.sub i k h2)
   ·have:=h.b0.2;exact⟨by omega,h2.2⟩
 ·rcases hk with h1|⟨i,hi,h1⟩
  ·exact .inl h1
  ·rcases hm i hi k h1 with h2|h2
   ·exact .inl (h.sub i k h2)
   ·exact .inr h2.1
theorem Lay.step {i:Nat}{m':Nat->Prop}(h:Lay w H s d M N)(hb:ah (M i) w w')(hp:Part w' H s' d' m' i)
  (hm:∀k,m' k->M i k\/(w.heap.size<=k/\k<w'.heap.size)) (same:∀j,j≠i->∀u m,Part u H s d m j->Part u H s' d' m j) :
  ∃N',aI w' H s' d' N'/\aK w N w' N':=by
 obtain⟨N',h1,h2,_⟩:=h.steps (C:=(·=i)) (m':=λ_=>m') (hb.mono (λk hk=>⟨i,rfl,hk⟩)) (λj e=>by rw [e];exact hp) (λj e k hk=>by rw [e];exact hm k hk) (λa b ea eb k _ _ _=>by rw [ea,eb]) (λj hj=>same j hj)
 exact⟨N',h1,h2⟩
theorem Lay.stays {C:Nat->Prop}(h:Lay w H s d M N)(hb:ah (λk=>∃i,C i/\M i k) w w')(hp:∀i,C i->Part w' H s' d' (M i) i)
  (same:∀j,¬C j->∀u m,Part u H s d m j->Part u H s' d' m j):aI w' H s' d' N/\ah N w w':=by
 have hN:ah N w w':=hb.mono (λk hk=>by obtain⟨i,_,hk⟩:=hk;exact h.sub i k hk)
 refine⟨⟨M,λj=>?_,h.ap,h.sub,λk hk=>?_,h.mM,h.laid.but hN h.n0,h.b0.1,by have:=h.b0.2;have:=hb.size;omega⟩,hN⟩
 ·by_cases e:C j
  ·exact hp j e
  ·exact same j e w' (M j) (Part.but hb (λk hk e2=>by obtain⟨i,hi,e2⟩:=e2;exact e (by rw [h.ap j i k hk e2];exact hi)) j (h.part j))
 ·have:=h.pd k hk
  have hs:=hb.size
  exact⟨this.1,by omega⟩
theorem Lay.stay {i:Nat}(h:Lay w H s d M N)(hb:ah (M i) w w')(hp:Part w' H s' d' (M i) i)
  (same:∀j,j≠i->∀u m,Part u H s d m j->Part u H s' d' m j):aI w' H s' d' N/\ah N w w' :=
 h.stays (C:=(·=i)) (hb.mono (λk hk=>⟨i,rfl,hk⟩)) (λj e=>by rw [e];exact hp) (λj hj=>same j hj)
theorem aI.but {B:Nat->Prop}(h:aI w H s d N)(hb:ah B w w')(hS:∀k,N k->¬B k)(h0:¬B 0):aI w' H s d N:=by
 obtain⟨M,h⟩:=h
 have hs:=hb.size
 exact⟨M,λi=>Part.but hb (λk hk=>hS k (h.sub i k hk)) i (h.part i),h.ap,h.sub,λk hk=>by have:=h.pd k hk;exact⟨this.1,by omega⟩,h.mM,h.laid.but hb h0,h.b0.1,by have:=h.b0.2;omega⟩
theorem aI.later (h:aI w H s d N)(hb:Below w.heap.size w w'):aI w' H s d N:=h.but (B:=λ_=>False) (ah.of hb) (λ_ _ h=>h) (λh=>h)
theorem aI.cat (h:aI w H s d N):ie w H.A H.kn H.mo s.X s.l:=by obtain⟨M,h⟩:=h;exact (h.part 0).1
theorem aI.st (h:aI w H s d N):∃Os,S.St w H.z s.nx Os/\S.vw Os=s.V:=by obtain⟨M,h⟩:=h;obtain⟨Os,h1,h2,_⟩:=h.part 2;exact⟨Os,h1,h2⟩
theorem aI.dr (h:aI w H s d N):D.Dr w H.g H.gb H.n H.c s.t:=by obtain⟨M,h⟩:=h;exact (h.part 3).1
theorem aI.pr (h:aI w H s d N):∃pa cap,P.Ob w H.base H.pg H.pm s.px pa cap s.P:=by obtain⟨M,h⟩:=h;obtain⟨pa,cap,h1,_⟩:=h.part 4;exact⟨pa,cap,h1⟩
theorem aI.kb (h:aI w H s d N):Kb w H:=by obtain⟨M,h⟩:=h;exact (h.part 7).1
theorem aI.inv (h:aI w H s d N):Inv H.mo s.X s.l:=h.cat.inv
theorem aI.pd (h:aI w H s d N):∀k,N k->H.base<=k/\k<w.heap.size:=by obtain⟨M,h⟩:=h;exact h.pd
theorem aI.mM (h:aI w H s d N):1<=H.mo/\H.mo<=256:=by obtain⟨M,h⟩:=h;exact h.mM
theorem aI.b0 (h:aI w H s d N):0<H.base/\H.base<=w.heap.size:=by obtain⟨M,h⟩:=h;exact h.b0
theorem Jw {X:List Tk}{l:Fo}:∀j,j≠0->∀u m,Part u H s d m j->Part u H { s with X:=X,l:=l } d m j:=λj hj u m hp=>by
 rcases j with _|_|_|_|_|_|_|_|j
 ·exact absurd rfl hj
 all_goals exact hp
theorem H6 {L:List Int}:∀j,j≠1->∀u m,Part u H s d m j->Part u H { s with L:=L } d m j:=λj hj u m hp=>by
 rcases j with _|_|_|_|_|_|_|_|j
 ·exact hp
 ·exact absurd rfl hj
 all_goals exact hp
theorem zm {nx:Int}{V:List (Int×List Nat)}:∀j,j≠2->∀u m,Part u H s d m j->Part u H { s with nx:=nx,V:=V } d m j:=λj hj u m hp=>by
 rcases j with _|_|_|_|_|_|_|_|j
 ·exact hp
 ·exact hp
 ·exact absurd rfl hj
 all_goals exact hp
theorem ET (h:aI w H s d N)(n:Int)(hn:n∈aj s.l) :
  Calls Tryz.prog 324 #[.pointer (some ⟨H.A.g,0,none⟩),.int .i64 n] w λe w'=>∃a c,e=.returned (.tuple #[.slice a (G true s.l n).length c,.int .i64 0])/\Ow w' w.heap.size 37 3 a (G true s.l n).length c (aF ((G true s.l n).map (λk=>(tk s.X k).1)))/\aI w' H { s with X:=fQ s.X (G true s.l n),l:=bh s.l (G true s.l n) } d N/\ah N w w':=by
 obtain⟨M,h⟩:=h
 obtain⟨hc,hm⟩:=h.part 0
 refine (Go.Proofs.YtffmodpgddecnaaGreatDoor.pH hc n hn).mono ?_
 rintro e w' ⟨a,c,rfl,hO,hc',hb⟩
 exact⟨a,c,rfl,hO,h.stay (i:=0) (hb.mono (λk hk=>hm k (.inr (.inr hk)))) ⟨hc',hm⟩ Jw⟩
theorem JL (h:aI w H s d N)(x n:Int)(hx:(Lit.int .i64 x).wf=true) :
  Calls Tryz.prog 322 #[.pointer (some ⟨H.qg,0,none⟩),.int .i64 x,.int .i64 n] w λe w'=>e=.returned (.int .i64 (Q.rL s.L x n))/\aI w' H { s with L:=Q.jc s.L x n } d N/\ah N w w':=by
 obtain⟨M,h⟩:=h
 obtain⟨hc,hm⟩:=h.part 1
 refine (Q.CR hc x n hx).mono ?_
 rintro e w' ⟨rfl,hc',hb⟩
 exact⟨rfl,h.stay (i:=1) (hb.mono (λk hk=>hm k (.inr hk))) ⟨hc',hm⟩ H6⟩
theorem Gm {Os:List S.Ob}{id:Int}:S.vw (S.bX id Os)=sF (S.vw Os) id:=by
 unfold S.vw S.bX sF;rw [List.filter_map];rfl
theorem zN {V:List (Int×List Nat)}{id:Int}(h:∀p∈V,p.1≠id):sF V id=V:=by
 unfold sF;rw [List.filter_eq_self];intro a ha;simpa using h a ha
theorem Ab (h:aI w H s d N)(id:Int)(hi:S.bp id) :
  Calls Tryz.prog 323 #[.pointer (some ⟨H.z.s,0,none⟩),.int .i64 id] w λe w'=>∃x,e=.returned (.int .i64 x)/\aI w' H { s with V:=sF s.V id } d N/\ah N w w':=by
 obtain⟨M,h⟩:=h
 obtain⟨Os,hc,hv,hm⟩:=h.part 2
 cases ho:S.fq Os id with
 | none =>
  refine (S.kx H.z s.nx Os id w hc hi ho).mono ?_
  rintro e w' ⟨rfl,hb⟩
  have hn:sF s.V id=s.V:=zN (by rw [<-hv];exact S.D_.2 ho)
  refine⟨20,rfl,?_⟩
  rw [hn];exact⟨(show aI w H s d N from ⟨M,h⟩).later hb,ah.of hb⟩
 | some o =>
  refine (S.mY H.z s.nx Os id o w hc hi ho).mono ?_
  rintro e w' ⟨rfl,hc',hb⟩
  refine⟨0,rfl,h.stay (i:=2) (hb.mono (λk hk=>hm k (.inl hk))) ⟨_,hc',by rw [Gm,hv],λj hj=>?_⟩ zm⟩
  rcases hj with h1|h1
  ·exact hm j (.inl h1)
  ·exact hm j (.inr (S.tT h1))
end
structure Pm where
 mo:Nat
 e:Int
 n:Nat
 c:Nat->Nat
 room:Nat
 rZ:Nat
 pm:Int
 lm:Int
 W:Int
def Hd.p (H:Hd):Pm:=⟨H.mo,H.e,H.n,H.c,H.z.room,H.z.n,H.pm,H.lm,H.W⟩
structure KF (p:Pm)(s:aP):Prop where
 fit:Fit p.mo s
 le:s.t<=p.n
 cs:∀i,i<p.n->p.c i<aq*aq
 iv:P.Iv p.pm s.px s.P
 ln:∀i∈s.P,((s.D i).length:Int)<=p.lm
 wd:∀i∈s.P,∀c∈s.D i,c.2.1<aq/\c.2.2<aq
 lm:1<=p.lm/\p.lm<=32
 ks:s.ks=s.P
 nx:1<=s.nx/\s.nx<=4611686018427387905
structure dk where
 code:Int
 cap:Cp
 data:List Nat
 num:Int
def rep (c:Int):dk:=⟨c,(0,0,0),[],0⟩
def Pm.d (p:Pm):D.Par:=⟨p.mo,p.e,(p.mo:Int),p.n,p.c⟩
def aP.d (s:aP):D.aP:=⟨s.X,s.l,s.L,s.t⟩
def iP (s:aP)(a:D.aP):aP:={ s with X:=a.X,l:=a.l,L:=a.L,t:=a.t }
def rR (p:Pm)(s:aP)(size:Int):dk×aP :=
 if S.fv p.room p.rZ s.nx s.V size≠0 then (rep (S.fv p.room p.rZ s.nx s.V size),s) else
 if (D.bD p.d s.d s.nx).code≠0 then (rep (D.bD p.d s.d s.nx).code,iP s (D.bD p.d s.d s.nx).s) else
 (⟨0,(D.bD p.d s.d s.nx).c,[],0⟩,{ iP s (D.bD p.d s.d s.nx).s with nx:=s.nx+1,V:=s.V++[(s.nx,List.replicate size.toNat 0)] })
def rN (p:Pm)(s:aP)(c:Cp)(r:Int):dk×aP:=(⟨(D.bs p.d s.d c r).code,(D.bs p.d s.d c r).c,[],0⟩,iP s (D.bs p.d s.d c r).s)
def cN (all:Bool)(s:aP)(c:Cp):dk×aP:=(rep (eC all s c).code,(eC all s c).s)
def dQ (s:aP)(given:Bool)(aB:Int)(c:Cp)(need:Int):Int:=if given then L.cQ s.X s.l need c else (L.dg (L.cQ s.X s.l need) c.1 (s.D aB) 3).2
def qq (s:aP)(given:Bool)(aB:Int)(c:Cp)(off n:Int):dk×aP :=
 if dQ s given aB c 1≠0 then (rep (dQ s given aB c 1),s) else (⟨S.wP s.V c.1 off n,(0,0,0),S.A4 s.V c.1 off n,0⟩,s)
def lq (s:aP)(given:Bool)(aB:Int)(c:Cp)(off:Int)(D:List Nat):dk×aP :=
 if dQ s given aB c 2≠0 then (rep (dQ s given aB c 2),s) else (rep (S.wP s.V c.1 off (D.length:Int)),{ s with V:=S.B6 s.V c.1 off D })
def rQ (W:Int)(c:Cp):Bool:=decide (1<=W)&&decide (D.aY (c.2.1*aq+c.2.2) W=c.2.1*aq+c.2.2)
def fW (D:Int->List Cp)(i:Int)(K:List Cp):Int->List Cp:=λj=>if j=i then K else D j
def zY (p:Pm)(s:aP)(aB:Int)(c:Cp):dk×aP :=
 if rQ p.W c=false then (rep 18,s) else if p.lm<=((s.D aB).length:Int) then (rep 14,s) else (rep 0,{ s with D:=fW s.D aB (s.D aB++[c]) })
def fU (s:aP)(aB:Int)(i:Int):dk×aP :=
 if M.jg (s.D aB) i=false then (rep 15,s) else (rep 0,{ s with D:=fW s.D aB ((s.D aB).take i.toNat++(s.D aB).drop (i.toNat+1)) })
def AO (p:Pm)(s:aP)(aB:Int)(G:List Int):dk×aP :=
 if M.bL p.lm (s.D aB) G≠0 then (rep (M.bL p.lm (s.D aB) G),s) else
 if P.dF p.pm s.px s.P=true then (rep 13,s) else (⟨0,(0,0,0),[],s.px⟩,{ s with px:=s.px+1,P:=s.P++[s.px],ks:=s.ks++[s.px],D:=fW s.D s.px (M.cM p.lm (s.D aB) G) })
def Er (s:aP)(aB:Int):dk×aP:=(rep 0,{ s with P:=P.out s.P aB,ks:=P.out s.ks aB })
def bZ (c:R.Cl):Cp:=(c.obj,c.hi,c.lo)
def ir (p:Pm)(s:aP)(c:R.Cl):dk×aP :=
 if c.op=1 then rR p s c.size else if c.op=2 then cN true s (bZ c) else if c.op=3 then rN p s (bZ c) c.aA else if c.op=4 then cN false s (bZ c)
 else if c.op=5 then qq s c.given c.aB (bZ c) c.off c.n else if c.op=6 then lq s c.given c.aB (bZ c) c.off c.data else if c.op=7 then zY p s c.aB (bZ c)
 else if c.op=8 then fU s c.aB c.index else if c.op=9 then AO p s c.aB c.ax else Er s c.aB
def eZ (p:Pm)(s:aP)(c:R.Cl):dk×aP :=
 if R.fm c=false then (rep 1,s) else if s.P.contains c.aB=false then (rep 2,s) else ir p s c
end Go.Proofs.YtffmodpgddecnaaGreatDoor.V
