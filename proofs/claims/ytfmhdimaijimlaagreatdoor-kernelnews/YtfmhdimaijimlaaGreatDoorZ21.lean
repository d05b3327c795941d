import Derived.Test.YtfmhdimaijimlaaGreatDoorZ20
import Derived.Shelf.SlIterI.Nil
import Derived.Shelf.SortM.Plain
import Derived.Shelf.SortM.SortNone
set_option linter.all false
set_option maxRecDepth 1000000
set_option maxHeartbeats 8000000
open Go.Proofs.Tryz
variable {w w' w1 w2:Go.World}{n m k i j b g base kn:Nat}{a:Option Go.Addr}
namespace Go.Proofs.YtfmhdimaijimlaaGreatDoor.S
open Go.RowKit Go.Maps Go.Sort Go.Shelf
def nv:Go.Shelf.Ren:=⟨fun|7=>118|10=>172|n=>n,fun|23=>137|26=>3|3=>214|28=>211|0=>0|27=>210|33=>89|4=>4|n=>n,fun|n=>n⟩
theorem EX:SlLaysZI.n7 prog nv where
 mixed:=by kernel_rfl
 f7:=⟨ "maps.Keys[map[int]sesame/store.object,int,sesame/store.object]",by decide,func118.trans (congrArg some (by kernel_rfl))⟩
 f10:=⟨ "maps.Keys[map[int]sesame/store.object,int,sesame/store.object]$1",by decide,func172.trans (congrArg some (by kernel_rfl))⟩
 t0:=underlying0
 a0:=isAgg0
 z0:=sizeOf0
 v0:=zeroValue0
 t4:=underlying4
 a4:=isAgg4
 z4:=sizeOf4
 v4:=zeroValue4
 t23:=underlying137
 a23:=isAgg137
 z23:=sizeOf137
 v23:=zeroValue137
 t26:=underlying3
 a26:=isAgg3
 z26:=sizeOf3
 v26:=zeroValue3
 t27:=underlying210
 a27:=isAgg210
 z27:=sizeOf210
 v27:=zeroValue210
 t28:=underlying211
 a28:=isAgg211
 z28:=sizeOf211
 v28:=zeroValue211
 t33:=underlying89
 a33:=isAgg89
 z33:=sizeOf89
 v33:=zeroValue89
def ko:Go.Shelf.Ren:=⟨fun|6=>117|8=>170|9=>171|11=>208|13=>210|12=>209|23=>246|24=>247|14=>238|15=>239|16=>240|17=>241|18=>242|19=>243|20=>148|21=>244|22=>245|25=>264|26=>265|27=>266|28=>267|29=>268|30=>188|31=>278|n=>n,fun|26=>3|28=>211|24=>43|0=>0|3=>3|37=>245|48=>278|50=>29|4=>4|40=>326|39=>325|45=>193|5=>5|9=>9|51=>356|55=>360|57=>371|58=>372|33=>89|n=>n,fun|n=>n⟩
theorem DV:SlLaysZI.n6 prog ko where
 mixed:=by kernel_rfl
 f6:=⟨ "slices.Sorted[int]",by decide,func117.trans (congrArg some (by kernel_rfl))⟩
 f8:=⟨ "slices.Collect[int]",by decide,func170.trans (congrArg some (by kernel_rfl))⟩
 f11:=⟨ "slices.AppendSeq[[]int,int]",by decide,func208.trans (congrArg some (by kernel_rfl))⟩
 t0:=underlying0
 a0:=isAgg0
 z0:=sizeOf0
 v0:=zeroValue0
 t24:=underlying43
 a24:=isAgg43
 z24:=sizeOf43
 v24:=zeroValue43
 t26:=underlying3
 a26:=isAgg3
 z26:=sizeOf3
 v26:=zeroValue3
 t28:=underlying211
 a28:=isAgg211
 z28:=sizeOf211
 v28:=zeroValue211
 i26:=by kernel_rfl
def wY:Go.Shelf.Ren:=⟨fun|5=>171|8=>210|7=>209|19=>246|20=>247|10=>238|11=>239|12=>240|13=>241|14=>242|15=>243|16=>148|17=>244|18=>245|30=>264|31=>265|32=>266|33=>267|34=>268|35=>188|40=>278|n=>n,fun|23=>43|25=>3|3=>3|32=>245|22=>43|0=>0|44=>278|46=>29|4=>4|36=>326|35=>325|41=>193|5=>5|9=>9|53=>356|57=>360|63=>371|64=>372|n=>n,fun|n=>n⟩
theorem Fm:SlLaysM.n5 prog wY where
 mixed:=by kernel_rfl
 f5:=⟨ "slices.Sort[[]int,int]",by decide,func171.trans (congrArg some (by kernel_rfl))⟩
 f7:=⟨ "slices.pdqsortOrdered[int]",by decide,func209.trans (congrArg some (by kernel_rfl))⟩
 f8:=func210.trans (congrArg some (by kernel_rfl))
 f10:=⟨ "slices.insertionSortOrdered[int]",by decide,func238.trans (congrArg some (by kernel_rfl))⟩
 f11:=⟨ "slices.heapSortOrdered[int]",by decide,func239.trans (congrArg some (by kernel_rfl))⟩
 f12:=⟨ "slices.breakPatternsOrdered[int]",by decide,func240.trans (congrArg some (by kernel_rfl))⟩
 f13:=⟨ "slices.choosePivotOrdered[int]",by decide,func241.trans (congrArg some (by kernel_rfl))⟩
 f14:=⟨ "slices.reverseRangeOrdered[int]",by decide,func242.trans (congrArg some (by kernel_rfl))⟩
 f15:=⟨ "slices.partialInsertionSortOrdered[int]",by decide,func243.trans (congrArg some (by kernel_rfl))⟩
 f16:=⟨ "cmp.Less[int]",by decide,func148.trans (congrArg some (by kernel_rfl))⟩
 f17:=⟨ "slices.partitionEqualOrdered[int]",by decide,func244.trans (congrArg some (by kernel_rfl))⟩
 f18:=⟨ "slices.partitionOrdered[int]",by decide,func245.trans (congrArg some (by kernel_rfl))⟩
 f19:=func246.trans (congrArg some (by kernel_rfl))
 f20:=func247.trans (congrArg some (by kernel_rfl))
 f30:=⟨ "slices.siftDownOrdered[int]",by decide,func264.trans (congrArg some (by kernel_rfl))⟩
 f31:=func265.trans (congrArg some (by kernel_rfl))
 f32:=func266.trans (congrArg some (by kernel_rfl))
 f33:=⟨ "slices.medianAdjacentOrdered[int]",by decide,func267.trans (congrArg some (by kernel_rfl))⟩
 f34:=⟨ "slices.medianOrdered[int]",by decide,func268.trans (congrArg some (by kernel_rfl))⟩
 f35:=⟨ "cmp.isNaN[int]",by decide,func188.trans (congrArg some (by kernel_rfl))⟩
 f40:=⟨ "slices.order2Ordered[int]",by decide,func278.trans (congrArg some (by kernel_rfl))⟩
 t0:=underlying0
 a0:=isAgg0
 z0:=sizeOf0
 v0:=zeroValue0
 t3:=underlying3
 a3:=isAgg3
 z3:=sizeOf3
 v3:=zeroValue3
 t4:=underlying4
 a4:=isAgg4
 z4:=sizeOf4
 v4:=zeroValue4
 t5:=underlying5
 a5:=isAgg5
 z5:=sizeOf5
 v5:=zeroValue5
 t9:=underlying9
 a9:=isAgg9
 z9:=sizeOf9
 v9:=zeroValue9
 t22:=underlying43
 a22:=isAgg43
 z22:=sizeOf43
 v22:=zeroValue43
 t23:=underlying43
 a23:=isAgg43
 z23:=sizeOf43
 v23:=zeroValue43
 t25:=underlying3
 a25:=isAgg3
 z25:=sizeOf3
 v25:=zeroValue3
 t32:=underlying245
 a32:=isAgg245
 z32:=sizeOf245
 v32:=zeroValue245
 t35:=underlying325
 a35:=isAgg325
 z35:=sizeOf325
 v35:=zeroValue325
 t36:=underlying326
 a36:=isAgg326
 z36:=sizeOf326
 v36:=zeroValue326
 t41:=underlying193
 a41:=isAgg193
 z41:=sizeOf193
 v41:=zeroValue193
 t44:=underlying278
 a44:=isAgg278
 z44:=sizeOf278
 v44:=zeroValue278
 t46:=underlying29
 a46:=isAgg29
 z46:=sizeOf29
 v46:=zeroValue29
 t53:=underlying356
 a53:=isAgg356
 z53:=sizeOf356
 v53:=zeroValue356
 t57:=underlying360
 a57:=isAgg360
 z57:=sizeOf360
 v57:=zeroValue360
 t63:=underlying371
 a63:=isAgg371
 z63:=sizeOf371
 v63:=zeroValue371
 t64:=underlying372
 a64:=isAgg372
 z64:=sizeOf372
 v64:=zeroValue372
theorem GQ (m:Nat):AnyZI.SortsIn prog ko Fence.wide m :=
 ⟨λbD off cap ss W hH hblk hsz=>callsIn_wide.2 (AnyM.slices_Sort_int Fm bD off cap ss W hH hblk hsz),
 λp cap W=>callsIn_wide.2 (AnyM.slices_Sort_int_none Fm p cap W)⟩
theorem C3 (s b nn:Nat)(D0:DataW Value)(w:World)(x:w.cell? ⟨s,1,none⟩=some (.map (some b)))(hown:w.ownsMap prog 3 hr b nn D0)(hmax:Maps.size D0<=maxLen)(hbytes:Maps.size D0*8<=140737488355328) :
  Calls prog 69 #[.pointer (some ⟨s,0,none⟩)] w λe w'=>∃(v:Value) (ss:List Int),e=.returned v/\ss.Perm (intKeys D0) /\
   w'.ownsRow w.heap.size 3 1 v ss.length ((ss.mergeSort leI).map encZ)/\(v=.slice none 0 0↔ss=[])/\Below w.heap.size w w':=by
 refine (callsIn_wide (n:=6)).1 ?_
 have hbl:=hown.lt
 have hseq:SeqGives Fence.wide 2 prog 172 #[.pointer (some ⟨w.heap.size,0,none⟩)] encZ (λss=>ss.Perm (intKeys D0)) (Maps.size D0) (w.alloc (.cells #[.map (some b)] 137)) :=
  AnyZI.keys_gives (ρ:=nv) { EX with } Fence.wide _ trivial rfl (by omega) w.heap.size b nn D0 _ (by simp) (by simp) (by
   obtain⟨es,clock,hb,Ft,hs,hD⟩:=hown
   exact⟨es,clock,(Below.heap_alloc _ _ b hbl).trans hb,Ft,hs,hD⟩)
 have cK:∀mb W,CallsIn Fence.wide 5 prog 118 #[.map mb] W λe w'=>e=.returned (.func (.func 172) #[] #[.pointer (some ⟨W.heap.size,0,none⟩)])/\w'=W.alloc (.cells #[.map mb] 137):=λmb W=>AnyZI.keys_in EX Fence.wide 5 trivial rfl mb W
 have cS:=AnyZI.sorted_in DV Fence.wide 5 trivial trivial trivial trivial rfl (by omega) (GQ _) (enters_of func171 (by kernel_rfl) rfl) 172 #[.pointer (some ⟨w.heap.size,0,none⟩)] trivial (enters_of func172 (by kernel_rfl) rfl) _ _ hmax hbytes _ hseq
 change CallsIn _ _ prog 117 _ _ _ at cS
 have hfK:Fence.wide.fn 118:=trivial
 have hfS:Fence.wide.fn 117:=trivial
 clear hseq hown
 refine callsIn_of_wp func69 rfl trivial ?_ rfl
 simp only [ntmps69,List.size_toArray,List.length_cons,List.length_nil,Nat.reduceAdd,Nat.reduceSub,Array.replicate_succ,Array.replicate_zero,List.push_toArray,List.append_toArray,List.nil_append,List.cons_append]
 gi_wp2_with (first
  | (gi_at_call 118;refine (cK _ _).mono ?_;rintro e w' ⟨rfl,rfl⟩)
  | (gi_at_call 117;refine cS.mono ?_;rintro e w' ⟨v,ss,rfl,hS,hrow,hnil,hb⟩))
 go_ret
 exact⟨v,ss,rfl,hS,gw hrow (by simp),hnil,((Below.refl _ w).alloc (Nat.le_refl _) _).trans (hb.mono (by simp))⟩
theorem Dl (s g pb m n room:Nat)(nx:Int)(t:Nat->Bool)(B:Nat->Nat->Nat)(Os:List Ob)(w:World)(h:eD w s g pb m n room nx t B Os) :
  Calls prog 69 #[.pointer (some ⟨s,0,none⟩)] w λe w'=>∃a cap,e=.returned (.slice a Os.length cap)/\Own w' w.heap.size 3 a Os.length cap (ints (Os.map Ob.id))/\Below w.heap.size w w':=by
 have hrm:=h.rm
 refine (C3 s m Os.length (dZ Os) w h.c1.1 h.map (by rw [h_];unfold maxLen;omega) (by rw [h_];omega)).mono ?_
 rintro e w' ⟨v,ss,rfl,hS,hrow,hnil,hb⟩
 rw [xf] at hS
 have hl:ss.length=Os.length:=by rw [hS.length_eq];simp
 have hsort:ss.mergeSort leI=Os.map Ob.id:=by
  rw [mergeSort_of_perm_i hS]
  refine rp ?_
  rw [List.pairwise_map]
  exact h.iD
 rw [hsort,hl] at hrow
 obtain⟨a,cap,rfl⟩:∃a cap,v=.slice a Os.length cap:=by
  rcases hrow.2 with ⟨h1,h2⟩|⟨g',cap',_,h1,_⟩
  ·exact⟨none,0,by rw [h1,h2]⟩
  ·exact⟨_,cap',h1⟩
 exact⟨a,cap,rfl,⟨hrow,eC _⟩,hb⟩
open Go.RowKit
structure p7 where
 s:Nat
 g:Nat
 pb:Nat
 m:Nat
 n:Nat
 room:Nat
def St (w:World)(z:p7)(nx:Int)(Os:List Ob):Prop:=∃t B,eD w z.s z.g z.pb z.m z.n z.room nx t B Os
def Zb (z:p7)(k:Nat):Prop:=Sb z.s z.g z.pb z.m k
def aW (x:Int):Prop:=-9223372036854775808<=x/\x<9223372036854775808
theorem St.but {S:Nat->Prop}{z:p7}{nx:Int}{Os:List Ob}(hb:ae S w w')(h:St w z nx Os)(h1:∀k,Zb z k->¬S k)(h2:∀k,Rb Os k->¬S k):St w' z nx Os:=by
 obtain⟨t,B,h⟩:=h
 exact⟨t,B,h.but hb h1 h2⟩
theorem St.later {z:p7}{nx:Int}{Os:List Ob}(hb:Below w.heap.size w w')(h:St w z nx Os):St w' z nx Os:=by
 obtain⟨t,B,h⟩:=h
 exact⟨t,B,h.later hb⟩
theorem St.used {z:p7}{nx:Int}{Os:List Ob}(h:St w z nx Os):fL Os<=z.n/\z.n<=256:=by
 obtain⟨t,B,h⟩:=h
 have:=h.count
 have:=h.ph.le
 omega
theorem GA (room n:Nat)(w:World)(h1:1<=room/\room<=64)(h2:1<=n/\n<=256) :
  Calls prog 49 #[.int .i64 (room:Int),.int .i64 (n:Int)] w λe w'=>∃z:p7,z.n=n/\z.room=room/\e=.returned (.tuple #[.pointer (some ⟨z.s,0,none⟩),.int .i64 0])/\St w' z 1 []/\(∀k,Zb z k->w.heap.size<=k/\k<w'.heap.size)/\Below w.heap.size w w':=by
 refine (DN room n w h1 h2).mono ?_
 rintro e w' ⟨s,g,pb,m,rfl,hS,hk,hb⟩
 exact⟨⟨s,g,pb,m,n,room⟩,rfl,rfl,rfl,⟨_,_,hS⟩,hk,hb⟩
theorem EP (z:p7)(nx:Int)(Os:List Ob)(w:World)(h:St w z nx Os) :
  Calls prog 38 #[.pointer (some ⟨z.s,0,none⟩)] w λe w'=>e=.returned (.int .i64 nx)/\w'=w:=by
 obtain⟨t,B,h⟩:=h
 exact xz _ _ _ _ _ _ _ _ _ _ _ h
theorem G5 (z:p7)(nx:Int)(Os:List Ob)(size:Int)(w:World)(h:St w z nx Os) :
  Calls prog 103 #[.pointer (some ⟨z.s,0,none⟩),.int .i64 size] w λe w'=>e=.returned (.int .i64 (jV z.room z.n nx Os size))/\Below w.heap.size w w':=by
 obtain⟨t,B,h⟩:=h
 exact g8 _ _ _ _ _ _ _ _ _ _ _ _ h
theorem FX (z:p7)(nx:Int)(Os:List Ob)(w:World)(h:St w z nx Os) :
  Calls prog 69 #[.pointer (some ⟨z.s,0,none⟩)] w λe w'=>∃a cap,e=.returned (.slice a Os.length cap)/\Own w' w.heap.size 3 a Os.length cap (ints (Os.map Ob.id))/\Below w.heap.size w w':=by
 obtain⟨t,B,h⟩:=h
 exact Dl _ _ _ _ _ _ _ _ _ _ _ h
theorem Eo (z:p7)(nx:Int)(Os:List Ob)(id:Int)(w:World)(h:St w z nx Os)(hi:aW id) :
  Calls prog 119 #[.pointer (some ⟨z.s,0,none⟩),.int .i64 id] w λe w'=>e=.returned (match fj Os id with|some o=>.tuple #[.int .i64 (o.data.length:Int),.bool true]|none=>.tuple #[.int .i64 0,.bool false])/\Below w.heap.size w w':=by
 obtain⟨t,B,h⟩:=h
 cases ho:fj Os id with
 | none=>exact xH _ _ _ _ _ _ _ _ _ _ _ _ h hi ho
 | some o=>exact wk _ _ _ _ _ _ _ _ _ _ _ _ _ h hi ho
theorem pM (z:p7)(nx:Int)(Os:List Ob)(k:Nat)(w:World)(h:St w z nx Os)(hE:jV z.room z.n nx Os (k:Int)=0) :
  Calls prog 105 #[.pointer (some ⟨z.s,0,none⟩),.int .i64 (k:Int)] w λe w'=>∃P a,e=.returned (.tuple #[.int .i64 nx,.int .i64 0])/\(∀j,aD a j->w.heap.size<=j/\j<w'.heap.size)/\St w' z (nx+1) (Os++[⟨nx,List.replicate k 0,P,a⟩])/\ae (Zb z) w w':=by
 obtain⟨t,B,h⟩:=h
 refine (jY _ _ _ _ _ _ _ _ _ _ k w h hE).mono ?_
 rintro e w' ⟨a,t',rfl,hb,hS,hB⟩
 exact⟨_,a,rfl,hb,⟨t',B,hS⟩,hB⟩
theorem na (z:p7)(nx:Int)(Os:List Ob)(id:Int)(o:Ob)(w:World)(h:St w z nx Os)(hi:aW id)(ho:fj Os id=some o) :
  Calls prog 200 #[.pointer (some ⟨z.s,0,none⟩),.int .i64 id] w λe w'=>e=.returned (.int .i64 0)/\St w' z nx (bH id Os)/\ae (Zb z) w w':=by
 obtain⟨t,B,h⟩:=h
 refine (sO _ _ _ _ _ _ _ _ _ _ id o w h hi ho).mono ?_
 rintro e w' ⟨t',B',rfl,hS,hB⟩
 exact⟨rfl,⟨t',B',hS⟩,hB⟩
theorem kE (z:p7)(nx:Int)(Os:List Ob)(id:Int)(w:World)(h:St w z nx Os)(hi:aW id)(ho:fj Os id=none) :
  Calls prog 200 #[.pointer (some ⟨z.s,0,none⟩),.int .i64 id] w λe w'=>e=.returned (.int .i64 20)/\Below w.heap.size w w':=by
 obtain⟨t,B,h⟩:=h
 exact oZ _ _ _ _ _ _ _ _ _ _ id w h hi ho
def rM (Os:List Ob)(id off k:Int):Int:=match fj Os id with
 | none=>20
 | some o=>if 0<=off/\0<=k/\k<=1024/\off+k<=(o.data.length:Int) then 0 else 5
def yW (Os:List Ob)(id off k:Int):List Nat:=match fj Os id with
 | none=>[]
 | some o=>if 0<=off/\0<=k/\k<=1024/\off+k<=(o.data.length:Int) then (o.data.drop off.toNat).take k.toNat else []
theorem Es (z:p7)(nx:Int)(Os:List Ob)(id off k:Int)(w:World)(h:St w z nx Os)(hi:aW id) :
  Calls prog 111 #[.pointer (some ⟨z.s,0,none⟩),.int .i64 id,.int .i64 off,.int .i64 k] w λe w'=>∃a cap,e=.returned (.tuple #[.slice a (yW Os id off k).length cap,.int .i64 (rM Os id off k)])/\Own w' w.heap.size 5 a (yW Os id off k).length cap (aM (yW Os id off k))/\Below w.heap.size w w':=by
 obtain⟨t,B,h⟩:=h
 cases ho:fj Os id with
 | none =>
  have e1:yW Os id off k=[]:=by simp [yW,ho]
  have e2:rM Os id off k=20:=by simp [rM,ho]
  rw [e1,e2]
  refine (uu _ _ _ _ _ _ _ _ _ _ id off k w h hi ho).mono ?_
  rintro e w' ⟨rfl,hb⟩
  exact⟨none,0,rfl,Own.nil _ _ _,hb⟩
 | some o =>
  by_cases hr:kI o off k
  ·have hr2:0<=off/\0<=k/\k<=1024/\off+k<=(o.data.length:Int):=hr
   have e1:yW Os id off k=(o.data.drop off.toNat).take k.toNat:=by simp [yW,ho,hr2]
   have e2:rM Os id off k=0:=by simp [rM,ho,hr2]
   obtain⟨off',rfl⟩:∃q:Nat,off=(q:Int):=⟨off.toNat,by omega⟩
   obtain⟨k',rfl⟩:∃q:Nat,k=(q:Int):=⟨k.toNat,by omega⟩
   have e3:((o.data.drop off').take k').length=k':=by rw [List.length_take,List.length_drop];omega
   rw [e1,e2,Int.toNat_natCast,Int.toNat_natCast,e3]
   refine (Ch _ _ _ _ _ _ _ _ _ _ id off' k' o w h hi ho (by omega) (by omega)).mono ?_
   rintro e w' ⟨a,cap,rfl,hO,hb⟩
   exact⟨a,cap,rfl,hO,hb⟩
  ·have hr2:¬(0<=off/\0<=k/\k<=1024/\off+k<=(o.data.length:Int)):=hr
   have e1:yW Os id off k=[]:=by simp only [yW,ho,if_neg hr2]
   have e2:rM Os id off k=5:=by simp only [rM,ho,if_neg hr2]
   rw [e1,e2]
   refine (xB _ _ _ _ _ _ _ _ _ _ id off k o w h hi ho hr).mono ?_
   rintro e w' ⟨rfl,hb⟩
   exact⟨none,0,rfl,Own.nil _ _ _,hb⟩
def Hh (Os:List Ob)(id off:Int)(D:List Nat):List Ob:=if rM Os id off (D.length:Int)=0 then Os.map (dW id off.toNat D) else Os
theorem DQ {Os:List Ob}{id:Int}{off:Nat}{D:List Nat}(h:Rb (Os.map (dW id off D)) k):Rb Os k:=by
 obtain⟨o,ho,hk⟩:=h
 obtain⟨p,hp,rfl⟩:=List.mem_map.1 ho
 rw [iM] at hk
 exact⟨p,hp,hk⟩
theorem FL {Os:List Ob}{id off:Int}{D:List Nat}(h:Rb (Hh Os id off D) k):Rb Os k:=by
 unfold Hh at h
 split at h
 ·exact DQ h
 ·exact h
theorem sH {Os:List Ob}{id:Int}(h:Rb (bH id Os) k):Rb Os k:=by
 obtain⟨o,ho,hk⟩:=h
 exact⟨o,(a8.1 ho).1,hk⟩
theorem AB (z:p7)(nx:Int)(Os:List Ob)(id off:Int)(da:Option Addr)(k cd:Nat)(D:List Nat)(w:World)(h:St w z nx Os)(hi:aW id)(hR:Row w da k cd (aM D))(hD:∀x∈D,x<256)(hap:0<k->∀j,aD da j->¬Zb z j) :
  Calls prog 112 #[.pointer (some ⟨z.s,0,none⟩),.int .i64 id,.int .i64 off,.slice da k cd] w λe w'=>e=.returned (.int .i64 (rM Os id off (k:Int)))/\St w' z nx (Hh Os id off D)/\ae (Zb z) w w':=by
 obtain⟨t,B,h⟩:=h
 have hk:D.length=k:=by have:=hR.len;rwa [ax] at this
 unfold Hh
 rw [hk]
 cases ho:fj Os id with
 | none =>
  have e2:rM Os id off (k:Int)=20:=by simp [rM,ho]
  rw [e2,if_neg (by decide)]
  refine (rG _ _ _ _ _ _ _ _ _ _ id off da k cd w h hi ho).mono ?_
  rintro e w' ⟨rfl,hb⟩
  exact⟨rfl,⟨t,B,h.later hb⟩,ae.of hb⟩
 | some o =>
  by_cases hr:kI o off (k:Int)
  ·have hr2:0<=off/\0<=(k:Int)/\(k:Int)<=1024/\off+(k:Int)<=(o.data.length:Int):=hr
   have e2:rM Os id off (k:Int)=0:=by simp only [rM,ho,if_pos hr2]
   obtain⟨off',rfl⟩:∃q:Nat,off=(q:Int):=⟨off.toNat,by omega⟩
   rw [e2,if_pos rfl,Int.toNat_natCast]
   refine (wD _ _ _ _ _ _ _ _ _ _ id off' o da k cd D w h hi ho (by omega) (by omega) hR hD (λh0 j hj e=>hap h0 j hj (.inr (.inr (.inl e))))).mono ?_
   rintro e w' ⟨B',rfl,hS,hb⟩
   exact⟨rfl,⟨t,B',hS⟩,hb.mono (λ_ e=>.inr (.inr (.inl e)))⟩
  ·have hr2:¬(0<=off/\0<=(k:Int)/\(k:Int)<=1024/\off+(k:Int)<=(o.data.length:Int)):=hr
   have e2:rM Os id off (k:Int)=5:=by simp only [rM,ho,if_neg hr2]
   rw [e2,if_neg (by decide)]
   refine (uf _ _ _ _ _ _ _ _ _ _ id off o da k cd w h hi ho hr).mono ?_
   rintro e w' ⟨rfl,hb⟩
   exact⟨rfl,⟨t,B,h.later hb⟩,ae.of hb⟩
def CC (V:List (Int×List Nat)):Nat:=(V.map λp=>aO p.2.length).sum
def kO (V:List (Int×List Nat))(id:Int):Option (List Nat):=(V.find? λp=>decide (p.1=id)).map Prod.snd
def fF (room n:Nat)(nx:Int)(V:List (Int×List Nat))(size:Int):Int :=
 if size<0\/4096<size then 6 else if room<=V.length\/4611686018427387904<nx then 7 else if (n:Int) - (CC V:Int)<(aO size.toNat:Int) then 8 else 0
def sl (V:List (Int×List Nat))(id off k:Int):Int:=match kO V id with
 | none=>20
 | some l=>if 0<=off/\0<=k/\k<=1024/\off+k<=(l.length:Int) then 0 else 5
def xj (V:List (Int×List Nat))(id off k:Int):List Nat:=match kO V id with
 | none=>[]
 | some l=>if 0<=off/\0<=k/\k<=1024/\off+k<=(l.length:Int) then (l.drop off.toNat).take k.toNat else []
def iH (id:Int)(off:Nat)(D:List Nat)(p:Int×List Nat):Int×List Nat:=if p.1=id then (p.1,bR p.2 D off) else p
def yu (V:List (Int×List Nat))(id off:Int)(D:List Nat):List (Int×List Nat):=if sl V id off (D.length:Int)=0 then V.map (iH id off.toNat D) else V
def vw (Os:List Ob):List (Int×List Nat):=Os.map λo=>(o.id,o.data)
theorem jL (Os:List Ob):(vw Os).length=Os.length:=by simp [vw]
theorem DK (Os:List Ob):CC (vw Os)=fL Os:=by simp [CC,fL,vw,Function.comp_def]
theorem uF (Os:List Ob)(id:Int):kO (vw Os) id=(fj Os id).map Ob.data:=by
 unfold kO fj vw
 rw [List.find?_map]
 simp [Function.comp_def]
theorem tf (Os:List Ob)(id off k:Int):sl (vw Os) id off k=rM Os id off k:=by
 unfold sl rM
 rw [uF]
 cases fj Os id<;>rfl
theorem Gi (Os:List Ob)(id off k:Int):xj (vw Os) id off k=yW Os id off k:=by
 unfold xj yW
 rw [uF]
 cases fj Os id<;>rfl
theorem wX (Os:List Ob)(o:Ob):vw (Os++[o])=vw Os++[(o.id,o.data)]:=by simp [vw]
theorem Dy (Os:List Ob)(id:Int)(off:Nat)(D:List Nat):vw (Os.map (dW id off D))=(vw Os).map (iH id off D):=by
 unfold vw
 rw [List.map_map,List.map_map]
 refine List.map_congr_left λo _=>?_
 simp only [Function.comp,dW,iH]
 split<;>rfl
theorem G4 (Os:List Ob)(id off:Int)(D:List Nat):vw (Hh Os id off D)=yu (vw Os) id off D:=by
 unfold Hh yu
 rw [tf]
 split
 ·exact Dy _ _ _ _
 ·rfl
theorem An {z:p7}{nx:Int}{Os:List Ob}(h:St w z nx Os)(size:Int):fF z.room z.n nx (vw Os) size=jV z.room z.n nx Os size:=by
 have hu:=h.used
 unfold fF jV
 rw [jL,DK]
 by_cases h1:size<0\/4096<size
 ·rw [if_pos h1,if_pos h1]
 ·rw [if_neg h1,if_neg h1]
  by_cases h2:z.room<=Os.length\/4611686018427387904<nx
  ·rw [if_pos h2,if_pos h2]
  ·rw [if_neg h2,if_neg h2]
   by_cases h3:z.n - fL Os<aO size.toNat
   ·rw [if_pos h3,if_pos (by omega)]
   ·rw [if_neg h3,if_neg (by omega)]
theorem Dh {Os:List Ob}{id:Int}:(∀p∈vw Os,p.1≠id)↔fj Os id=none:=by
 unfold vw fj
 rw [List.find?_eq_none]
 simp
theorem wW {Os:List Ob}{o:Ob}(h:Rb (Os++[o]) k):Rb Os k\/aD o.jU k:=by
 obtain⟨p,hp,hk⟩:=h
 rcases List.mem_append.1 hp with h1|h1
 ·exact .inl ⟨p,h1,hk⟩
 ·simp only [List.mem_singleton] at h1
  subst h1
  exact .inr hk
end Go.Proofs.YtfmhdimaijimlaaGreatDoor.S
