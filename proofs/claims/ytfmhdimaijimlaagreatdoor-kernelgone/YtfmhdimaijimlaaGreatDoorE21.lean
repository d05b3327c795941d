import Derived.Test.YtfmhdimaijimlaaGreatDoorE20
import Derived.Shelf.SlIterI.Nil
import Derived.Shelf.SortM.Plain
import Derived.Shelf.SortM.SortNone
set_option linter.all false
set_option maxRecDepth 1000000
set_option maxHeartbeats 8000000
open Go.Proofs.Tryz
variable {w w' w1 w2:Go.World}{n m k i j b g base kn:Nat}{a:Option Go.Addr}
namespace Go.Proofs.YtfmhdimaijimlaaGreatDoor.S
open Go.RowKit Go.Maps Go.Sort Go.Shelf
def keysA_ren:Go.Shelf.Ren:=⟨fun|7=>118|10=>172|n=>n,fun|23=>137|26=>3|3=>214|28=>211|0=>0|27=>210|33=>89|4=>4|n=>n,fun|n=>n⟩
theorem keysA:SlLaysZI.n7 prog keysA_ren where
 mixed:=by kernel_rfl
 f7:=⟨ "maps.Keys[map[int]sesame/store.object,int,sesame/store.object]",by decide,func118.trans (congrArg some (by kernel_rfl))⟩
 f10:=⟨ "maps.Keys[map[int]sesame/store.object,int,sesame/store.object]$1",by decide,func172.trans (congrArg some (by kernel_rfl))⟩
 t0:=underlying0
 a0:=isAgg0
 z0:=sizeOf0
 v0:=zeroValue0
 t4:=underlying4
 a4:=isAgg4
 z4:=sizeOf4
 v4:=zeroValue4
 t23:=underlying137
 a23:=isAgg137
 z23:=sizeOf137
 v23:=zeroValue137
 t26:=underlying3
 a26:=isAgg3
 z26:=sizeOf3
 v26:=zeroValue3
 t27:=underlying210
 a27:=isAgg210
 z27:=sizeOf210
 v27:=zeroValue210
 t28:=underlying211
 a28:=isAgg211
 z28:=sizeOf211
 v28:=zeroValue211
 t33:=underlying89
 a33:=isAgg89
 z33:=sizeOf89
 v33:=zeroValue89
def sortedA_ren:Go.Shelf.Ren:=⟨fun|6=>117|8=>170|9=>171|11=>208|13=>210|12=>209|23=>246|24=>247|14=>238|15=>239|16=>240|17=>241|18=>242|19=>243|20=>148|21=>244|22=>245|25=>264|26=>265|27=>266|28=>267|29=>268|30=>188|31=>278|n=>n,fun|26=>3|28=>211|24=>43|0=>0|3=>3|37=>245|48=>278|50=>29|4=>4|40=>326|39=>325|45=>193|5=>5|9=>9|51=>356|55=>360|57=>371|58=>372|33=>89|n=>n,fun|n=>n⟩
theorem sortedA:SlLaysZI.n6 prog sortedA_ren where
 mixed:=by kernel_rfl
 f6:=⟨ "slices.Sorted[int]",by decide,func117.trans (congrArg some (by kernel_rfl))⟩
 f8:=⟨ "slices.Collect[int]",by decide,func170.trans (congrArg some (by kernel_rfl))⟩
 f11:=⟨ "slices.AppendSeq[[]int,int]",by decide,func208.trans (congrArg some (by kernel_rfl))⟩
 t0:=underlying0
 a0:=isAgg0
 z0:=sizeOf0
 v0:=zeroValue0
 t24:=underlying43
 a24:=isAgg43
 z24:=sizeOf43
 v24:=zeroValue43
 t26:=underlying3
 a26:=isAgg3
 z26:=sizeOf3
 v26:=zeroValue3
 t28:=underlying211
 a28:=isAgg211
 z28:=sizeOf211
 v28:=zeroValue211
 i26:=by kernel_rfl
def sortA_ren:Go.Shelf.Ren:=⟨fun|5=>171|8=>210|7=>209|19=>246|20=>247|10=>238|11=>239|12=>240|13=>241|14=>242|15=>243|16=>148|17=>244|18=>245|30=>264|31=>265|32=>266|33=>267|34=>268|35=>188|40=>278|n=>n,fun|23=>43|25=>3|3=>3|32=>245|22=>43|0=>0|44=>278|46=>29|4=>4|36=>326|35=>325|41=>193|5=>5|9=>9|53=>356|57=>360|63=>371|64=>372|n=>n,fun|n=>n⟩
theorem sortA:SlLaysM.n5 prog sortA_ren where
 mixed:=by kernel_rfl
 f5:=⟨ "slices.Sort[[]int,int]",by decide,func171.trans (congrArg some (by kernel_rfl))⟩
 f7:=⟨ "slices.pdqsortOrdered[int]",by decide,func209.trans (congrArg some (by kernel_rfl))⟩
 f8:=func210.trans (congrArg some (by kernel_rfl))
 f10:=⟨ "slices.insertionSortOrdered[int]",by decide,func238.trans (congrArg some (by kernel_rfl))⟩
 f11:=⟨ "slices.heapSortOrdered[int]",by decide,func239.trans (congrArg some (by kernel_rfl))⟩
 f12:=⟨ "slices.breakPatternsOrdered[int]",by decide,func240.trans (congrArg some (by kernel_rfl))⟩
 f13:=⟨ "slices.choosePivotOrdered[int]",by decide,func241.trans (congrArg some (by kernel_rfl))⟩
 f14:=⟨ "slices.reverseRangeOrdered[int]",by decide,func242.trans (congrArg some (by kernel_rfl))⟩
 f15:=⟨ "slices.partialInsertionSortOrdered[int]",by decide,func243.trans (congrArg some (by kernel_rfl))⟩
 f16:=⟨ "cmp.Less[int]",by decide,func148.trans (congrArg some (by kernel_rfl))⟩
 f17:=⟨ "slices.partitionEqualOrdered[int]",by decide,func244.trans (congrArg some (by kernel_rfl))⟩
 f18:=⟨ "slices.partitionOrdered[int]",by decide,func245.trans (congrArg some (by kernel_rfl))⟩
 f19:=func246.trans (congrArg some (by kernel_rfl))
 f20:=func247.trans (congrArg some (by kernel_rfl))
 f30:=⟨ "slices.siftDownOrdered[int]",by decide,func264.trans (congrArg some (by kernel_rfl))⟩
 f31:=func265.trans (congrArg some (by kernel_rfl))
 f32:=func266.trans (congrArg some (by kernel_rfl))
 f33:=⟨ "slices.medianAdjacentOrdered[int]",by decide,func267.trans (congrArg some (by kernel_rfl))⟩
 f34:=⟨ "slices.medianOrdered[int]",by decide,func268.trans (congrArg some (by kernel_rfl))⟩
 f35:=⟨ "cmp.isNaN[int]",by decide,func188.trans (congrArg some (by kernel_rfl))⟩
 f40:=⟨ "slices.order2Ordered[int]",by decide,func278.trans (congrArg some (by kernel_rfl))⟩
 t0:=underlying0
 a0:=isAgg0
 z0:=sizeOf0
 v0:=zeroValue0
 t3:=underlying3
 a3:=isAgg3
 z3:=sizeOf3
 v3:=zeroValue3
 t4:=underlying4
 a4:=isAgg4
 z4:=sizeOf4
 v4:=zeroValue4
 t5:=underlying5
 a5:=isAgg5
 z5:=sizeOf5
 v5:=zeroValue5
 t9:=underlying9
 a9:=isAgg9
 z9:=sizeOf9
 v9:=zeroValue9
 t22:=underlying43
 a22:=isAgg43
 z22:=sizeOf43
 v22:=zeroValue43
 t23:=underlying43
 a23:=isAgg43
 z23:=sizeOf43
 v23:=zeroValue43
 t25:=underlying3
 a25:=isAgg3
 z25:=sizeOf3
 v25:=zeroValue3
 t32:=underlying245
 a32:=isAgg245
 z32:=sizeOf245
 v32:=zeroValue245
 t35:=underlying325
 a35:=isAgg325
 z35:=sizeOf325
 v35:=zeroValue325
 t36:=underlying326
 a36:=isAgg326
 z36:=sizeOf326
 v36:=zeroValue326
 t41:=underlying193
 a41:=isAgg193
 z41:=sizeOf193
 v41:=zeroValue193
 t44:=underlying278
 a44:=isAgg278
 z44:=sizeOf278
 v44:=zeroValue278
 t46:=underlying29
 a46:=isAgg29
 z46:=sizeOf29
 v46:=zeroValue29
 t53:=underlying356
 a53:=isAgg356
 z53:=sizeOf356
 v53:=zeroValue356
 t57:=underlying360
 a57:=isAgg360
 z57:=sizeOf360
 v57:=zeroValue360
 t63:=underlying371
 a63:=isAgg371
 z63:=sizeOf371
 v63:=zeroValue371
 t64:=underlying372
 a64:=isAgg372
 z64:=sizeOf372
 v64:=zeroValue372
theorem sortsA (m:Nat):AnyZI.SortsIn prog sortedA_ren Fence.wide m :=
 ⟨λblk off cap ss W hH hblk hsz=>callsIn_wide.2 (AnyM.slices_Sort_int sortA blk off cap ss W hH hblk hsz),
 λp cap W=>callsIn_wide.2 (AnyM.slices_Sort_int_none sortA p cap W)⟩
theorem ids_raw (s b nn:Nat)(D0:DataW Value)(w:World)(x:w.cell? ⟨s,1,none⟩=some (.map (some b)))(hown:w.ownsMap prog 3 hr b nn D0)(hmax:Maps.size D0≤maxLen)(hbytes:Maps.size D0*8≤140737488355328) :
  Calls prog 69 #[.pointer (some ⟨s,0,none⟩)] w λe w'=>∃(v:Value) (ss:List Int),e=.returned v∧ss.Perm (intKeys D0) ∧
   w'.ownsRow w.heap.size 3 1 v ss.length ((ss.mergeSort leI).map encZ)∧(v=.slice none 0 0↔ss=[])∧Below w.heap.size w w':=by
 refine (callsIn_wide (n:=6)).1 ?_
 have hbl:=hown.lt
 have hseq:SeqGives Fence.wide 2 prog 172 #[.pointer (some ⟨w.heap.size,0,none⟩)] encZ (λss=>ss.Perm (intKeys D0)) (Maps.size D0) (w.alloc (.cells #[.map (some b)] 137)) :=
  AnyZI.keys_gives (ρ:=keysA_ren) { keysA with } Fence.wide _ trivial rfl (by omega) w.heap.size b nn D0 _ (by simp) (by simp) (by
   obtain⟨es,clock,hb,Ft,hs,hD⟩:=hown
   exact⟨es,clock,(Below.heap_alloc _ _ b hbl).trans hb,Ft,hs,hD⟩)
 have cK:∀mb W,CallsIn Fence.wide 5 prog 118 #[.map mb] W λe w'=>e=.returned (.func (.func 172) #[] #[.pointer (some ⟨W.heap.size,0,none⟩)])∧w'=W.alloc (.cells #[.map mb] 137):=λmb W=>AnyZI.keys_in keysA Fence.wide 5 trivial rfl mb W
 have cS:=AnyZI.sorted_in sortedA Fence.wide 5 trivial trivial trivial trivial rfl (by omega) (sortsA _) (enters_of func171 (by kernel_rfl) rfl) 172 #[.pointer (some ⟨w.heap.size,0,none⟩)] trivial (enters_of func172 (by kernel_rfl) rfl) _ _ hmax hbytes _ hseq
 change CallsIn _ _ prog 117 _ _ _ at cS
 have hfK:Fence.wide.fn 118:=trivial
 have hfS:Fence.wide.fn 117:=trivial
 clear hseq hown
 refine callsIn_of_wp func69 rfl trivial ?_ rfl
 simp only [ntmps69,List.size_toArray,List.length_cons,List.length_nil,Nat.reduceAdd,Nat.reduceSub,Array.replicate_succ,Array.replicate_zero,List.push_toArray,List.append_toArray,List.nil_append,List.cons_append]
 gi_wp2_with (first
  | (gi_at_call 118;refine (cK _ _).mono ?_;rintro e w' ⟨rfl,rfl⟩)
  | (gi_at_call 117;refine cS.mono ?_;rintro e w' ⟨v,ss,rfl,hS,hrow,hnil,hb⟩))
 go_ret
 exact⟨v,ss,rfl,hS,own_mono hrow (by simp),hnil,((Below.refl _ w).alloc (Nat.le_refl _) _).trans (hb.mono (by simp))⟩
theorem ids_any (s g pb m n room:Nat)(nx:Int)(t:Nat→Bool)(B:Nat→Nat→Nat)(Os:List Ob)(w:World)(h:Sto w s g pb m n room nx t B Os) :
  Calls prog 69 #[.pointer (some ⟨s,0,none⟩)] w λe w'=>∃a cap,e=.returned (.slice a Os.length cap)∧Own w' w.heap.size 3 a Os.length cap (ints (Os.map Ob.id))∧Below w.heap.size w w':=by
 have hrm:=h.rm
 refine (ids_raw s m Os.length (mapD Os) w h.c1.1 h.map (by rw [size_mapD];unfold maxLen;omega) (by rw [size_mapD];omega)).mono ?_
 rintro e w' ⟨v,ss,rfl,hS,hrow,hnil,hb⟩
 rw [keys_mapD] at hS
 have hl:ss.length=Os.length:=by rw [hS.length_eq];simp
 have hsort:ss.mergeSort leI=Os.map Ob.id:=by
  rw [mergeSort_of_perm_i hS]
  refine sorted_keys ?_
  rw [List.pairwise_map]
  exact h.rise
 rw [hsort,hl] at hrow
 obtain⟨a,cap,rfl⟩:∃a cap,v=.slice a Os.length cap:=by
  rcases hrow.2 with ⟨h1,h2⟩|⟨g',cap',_,h1,_⟩
  ·exact⟨none,0,by rw [h1,h2]⟩
  ·exact⟨_,cap',h1⟩
 exact⟨a,cap,rfl,⟨hrow,ints_one _⟩,hb⟩
open Go.RowKit
structure Sid where
 s:Nat
 g:Nat
 pb:Nat
 m:Nat
 n:Nat
 room:Nat
def St (w:World)(z:Sid)(nx:Int)(Os:List Ob):Prop:=∃t B,Sto w z.s z.g z.pb z.m z.n z.room nx t B Os
def Zb (z:Sid)(k:Nat):Prop:=Sb z.s z.g z.pb z.m k
def i64ok (x:Int):Prop:=-9223372036854775808≤x∧x<9223372036854775808
theorem St.but {S:Nat→Prop}{z:Sid}{nx:Int}{Os:List Ob}(hb:But S w w')(h:St w z nx Os)(h1:∀k,Zb z k→¬S k)(h2:∀k,Rb Os k→¬S k):St w' z nx Os:=by
 obtain⟨t,B,h⟩:=h
 exact⟨t,B,h.but hb h1 h2⟩
theorem St.later {z:Sid}{nx:Int}{Os:List Ob}(hb:Below w.heap.size w w')(h:St w z nx Os):St w' z nx Os:=by
 obtain⟨t,B,h⟩:=h
 exact⟨t,B,h.later hb⟩
theorem St.used {z:Sid}{nx:Int}{Os:List Ob}(h:St w z nx Os):usedN Os≤z.n∧z.n≤256:=by
 obtain⟨t,B,h⟩:=h
 have:=h.count
 have:=h.arn.le
 omega
theorem st_new (room n:Nat)(w:World)(h1:1≤room∧room≤64)(h2:1≤n∧n≤256) :
  Calls prog 49 #[.int .i64 (room:Int),.int .i64 (n:Int)] w λe w'=>∃z:Sid,z.n=n∧z.room=room∧e=.returned (.tuple #[.pointer (some ⟨z.s,0,none⟩),.int .i64 0])∧St w' z 1 []∧(∀k,Zb z k→w.heap.size≤k∧k<w'.heap.size)∧Below w.heap.size w w':=by
 refine (snew_ok room n w h1 h2).mono ?_
 rintro e w' ⟨s,g,pb,m,rfl,hS,hk,hb⟩
 exact⟨⟨s,g,pb,m,n,room⟩,rfl,rfl,rfl,⟨_,_,hS⟩,hk,hb⟩
theorem st_next (z:Sid)(nx:Int)(Os:List Ob)(w:World)(h:St w z nx Os) :
  Calls prog 38 #[.pointer (some ⟨z.s,0,none⟩)] w λe w'=>e=.returned (.int .i64 nx)∧w'=w:=by
 obtain⟨t,B,h⟩:=h
 exact snext_any _ _ _ _ _ _ _ _ _ _ _ h
theorem st_may (z:Sid)(nx:Int)(Os:List Ob)(size:Int)(w:World)(h:St w z nx Os) :
  Calls prog 103 #[.pointer (some ⟨z.s,0,none⟩),.int .i64 size] w λe w'=>e=.returned (.int .i64 (mayE z.room z.n nx Os size))∧Below w.heap.size w w':=by
 obtain⟨t,B,h⟩:=h
 exact may_any _ _ _ _ _ _ _ _ _ _ _ _ h
theorem st_ids (z:Sid)(nx:Int)(Os:List Ob)(w:World)(h:St w z nx Os) :
  Calls prog 69 #[.pointer (some ⟨z.s,0,none⟩)] w λe w'=>∃a cap,e=.returned (.slice a Os.length cap)∧Own w' w.heap.size 3 a Os.length cap (ints (Os.map Ob.id))∧Below w.heap.size w w':=by
 obtain⟨t,B,h⟩:=h
 exact ids_any _ _ _ _ _ _ _ _ _ _ _ h
theorem st_size (z:Sid)(nx:Int)(Os:List Ob)(id:Int)(w:World)(h:St w z nx Os)(hi:i64ok id) :
  Calls prog 119 #[.pointer (some ⟨z.s,0,none⟩),.int .i64 id] w λe w'=>e=.returned (match at? Os id with|some o=>.tuple #[.int .i64 (o.data.length:Int),.bool true]|none=>.tuple #[.int .i64 0,.bool false])∧Below w.heap.size w w':=by
 obtain⟨t,B,h⟩:=h
 cases ho:at? Os id with
 | none=>exact size_none _ _ _ _ _ _ _ _ _ _ _ _ h hi ho
 | some o=>exact size_some _ _ _ _ _ _ _ _ _ _ _ _ _ h hi ho
theorem st_create_ok (z:Sid)(nx:Int)(Os:List Ob)(k:Nat)(w:World)(h:St w z nx Os)(hE:mayE z.room z.n nx Os (k:Int)=0) :
  Calls prog 105 #[.pointer (some ⟨z.s,0,none⟩),.int .i64 (k:Int)] w λe w'=>∃P a,e=.returned (.tuple #[.int .i64 nx,.int .i64 0])∧(∀j,Blk a j→w.heap.size≤j∧j<w'.heap.size)∧St w' z (nx+1) (Os++[⟨nx,List.replicate k 0,P,a⟩])∧But (Zb z) w w':=by
 obtain⟨t,B,h⟩:=h
 refine (create_ok _ _ _ _ _ _ _ _ _ _ k w h hE).mono ?_
 rintro e w' ⟨a,t',rfl,hb,hS,hB⟩
 exact⟨_,a,rfl,hb,⟨t',B,hS⟩,hB⟩
theorem st_destroy_ok (z:Sid)(nx:Int)(Os:List Ob)(id:Int)(o:Ob)(w:World)(h:St w z nx Os)(hi:i64ok id)(ho:at? Os id=some o) :
  Calls prog 200 #[.pointer (some ⟨z.s,0,none⟩),.int .i64 id] w λe w'=>e=.returned (.int .i64 0)∧St w' z nx (without id Os)∧But (Zb z) w w':=by
 obtain⟨t,B,h⟩:=h
 refine (destroy_ok _ _ _ _ _ _ _ _ _ _ id o w h hi ho).mono ?_
 rintro e w' ⟨t',B',rfl,hS,hB⟩
 exact⟨rfl,⟨t',B',hS⟩,hB⟩
theorem st_destroy_none (z:Sid)(nx:Int)(Os:List Ob)(id:Int)(w:World)(h:St w z nx Os)(hi:i64ok id)(ho:at? Os id=none) :
  Calls prog 200 #[.pointer (some ⟨z.s,0,none⟩),.int .i64 id] w λe w'=>e=.returned (.int .i64 20)∧Below w.heap.size w w':=by
 obtain⟨t,B,h⟩:=h
 exact destroy_none _ _ _ _ _ _ _ _ _ _ id w h hi ho
def rdE (Os:List Ob)(id off k:Int):Int:=match at? Os id with
 | none=>20
 | some o=>if 0≤off∧0≤k∧k≤1024∧off+k≤(o.data.length:Int) then 0 else 5
def rdL (Os:List Ob)(id off k:Int):List Nat:=match at? Os id with
 | none=>[]
 | some o=>if 0≤off∧0≤k∧k≤1024∧off+k≤(o.data.length:Int) then (o.data.drop off.toNat).take k.toNat else []
theorem st_read (z:Sid)(nx:Int)(Os:List Ob)(id off k:Int)(w:World)(h:St w z nx Os)(hi:i64ok id) :
  Calls prog 111 #[.pointer (some ⟨z.s,0,none⟩),.int .i64 id,.int .i64 off,.int .i64 k] w λe w'=>∃a cap,e=.returned (.tuple #[.slice a (rdL Os id off k).length cap,.int .i64 (rdE Os id off k)])∧Own w' w.heap.size 5 a (rdL Os id off k).length cap (u8s (rdL Os id off k))∧Below w.heap.size w w':=by
 obtain⟨t,B,h⟩:=h
 cases ho:at? Os id with
 | none =>
  have e1:rdL Os id off k=[]:=by simp [rdL,ho]
  have e2:rdE Os id off k=20:=by simp [rdE,ho]
  rw [e1,e2]
  refine (sread_none _ _ _ _ _ _ _ _ _ _ id off k w h hi ho).mono ?_
  rintro e w' ⟨rfl,hb⟩
  exact⟨none,0,rfl,Own.nil _ _ _,hb⟩
 | some o =>
  by_cases hr:rdOk o off k
  ·have hr2:0≤off∧0≤k∧k≤1024∧off+k≤(o.data.length:Int):=hr
   have e1:rdL Os id off k=(o.data.drop off.toNat).take k.toNat:=by simp [rdL,ho,hr2]
   have e2:rdE Os id off k=0:=by simp [rdE,ho,hr2]
   obtain⟨off',rfl⟩:∃q:Nat,off=(q:Int):=⟨off.toNat,by omega⟩
   obtain⟨k',rfl⟩:∃q:Nat,k=(q:Int):=⟨k.toNat,by omega⟩
   have e3:((o.data.drop off').take k').length=k':=by rw [List.length_take,List.length_drop];omega
   rw [e1,e2,Int.toNat_natCast,Int.toNat_natCast,e3]
   refine (sread_ok _ _ _ _ _ _ _ _ _ _ id off' k' o w h hi ho (by omega) (by omega)).mono ?_
   rintro e w' ⟨a,cap,rfl,hO,hb⟩
   exact⟨a,cap,rfl,hO,hb⟩
  ·have hr2:¬(0≤off∧0≤k∧k≤1024∧off+k≤(o.data.length:Int)):=hr
   have e1:rdL Os id off k=[]:=by simp only [rdL,ho,if_neg hr2]
   have e2:rdE Os id off k=5:=by simp only [rdE,ho,if_neg hr2]
   rw [e1,e2]
   refine (sread_bad _ _ _ _ _ _ _ _ _ _ id off k o w h hi ho hr).mono ?_
   rintro e w' ⟨rfl,hb⟩
   exact⟨none,0,rfl,Own.nil _ _ _,hb⟩
def wrO (Os:List Ob)(id off:Int)(D:List Nat):List Ob:=if rdE Os id off (D.length:Int)=0 then Os.map (setO id off.toNat D) else Os
theorem rb_setO {Os:List Ob}{id:Int}{off:Nat}{D:List Nat}(h:Rb (Os.map (setO id off D)) k):Rb Os k:=by
 obtain⟨o,ho,hk⟩:=h
 obtain⟨p,hp,rfl⟩:=List.mem_map.1 ho
 rw [setO_adr] at hk
 exact⟨p,hp,hk⟩
theorem rb_wrO {Os:List Ob}{id off:Int}{D:List Nat}(h:Rb (wrO Os id off D) k):Rb Os k:=by
 unfold wrO at h
 split at h
 ·exact rb_setO h
 ·exact h
theorem rb_without {Os:List Ob}{id:Int}(h:Rb (without id Os) k):Rb Os k:=by
 obtain⟨o,ho,hk⟩:=h
 exact⟨o,(mem_without.1 ho).1,hk⟩
theorem st_write (z:Sid)(nx:Int)(Os:List Ob)(id off:Int)(da:Option Addr)(k cd:Nat)(D:List Nat)(w:World)(h:St w z nx Os)(hi:i64ok id)(hR:Row w da k cd (u8s D))(hD:∀x∈D,x<256)(hap:0<k→∀j,Blk da j→¬Zb z j) :
  Calls prog 112 #[.pointer (some ⟨z.s,0,none⟩),.int .i64 id,.int .i64 off,.slice da k cd] w λe w'=>e=.returned (.int .i64 (rdE Os id off (k:Int)))∧St w' z nx (wrO Os id off D)∧But (Zb z) w w':=by
 obtain⟨t,B,h⟩:=h
 have hk:D.length=k:=by have:=hR.len;rwa [u8s_length] at this
 unfold wrO
 rw [hk]
 cases ho:at? Os id with
 | none =>
  have e2:rdE Os id off (k:Int)=20:=by simp [rdE,ho]
  rw [e2,if_neg (by decide)]
  refine (swrite_none _ _ _ _ _ _ _ _ _ _ id off da k cd w h hi ho).mono ?_
  rintro e w' ⟨rfl,hb⟩
  exact⟨rfl,⟨t,B,h.later hb⟩,But.of hb⟩
 | some o =>
  by_cases hr:rdOk o off (k:Int)
  ·have hr2:0≤off∧0≤(k:Int)∧(k:Int)≤1024∧off+(k:Int)≤(o.data.length:Int):=hr
   have e2:rdE Os id off (k:Int)=0:=by simp only [rdE,ho,if_pos hr2]
   obtain⟨off',rfl⟩:∃q:Nat,off=(q:Int):=⟨off.toNat,by omega⟩
   rw [e2,if_pos rfl,Int.toNat_natCast]
   refine (swrite_ok _ _ _ _ _ _ _ _ _ _ id off' o da k cd D w h hi ho (by omega) (by omega) hR hD (λh0 j hj e=>hap h0 j hj (.inr (.inr (.inl e))))).mono ?_
   rintro e w' ⟨B',rfl,hS,hb⟩
   exact⟨rfl,⟨t,B',hS⟩,hb.mono (λ_ e=>.inr (.inr (.inl e)))⟩
  ·have hr2:¬(0≤off∧0≤(k:Int)∧(k:Int)≤1024∧off+(k:Int)≤(o.data.length:Int)):=hr
   have e2:rdE Os id off (k:Int)=5:=by simp only [rdE,ho,if_neg hr2]
   rw [e2,if_neg (by decide)]
   refine (swrite_bad _ _ _ _ _ _ _ _ _ _ id off o da k cd w h hi ho hr).mono ?_
   rintro e w' ⟨rfl,hb⟩
   exact⟨rfl,⟨t,B,h.later hb⟩,But.of hb⟩
def usedV (V:List (Int×List Nat)):Nat:=(V.map λp=>needN p.2.length).sum
def atV (V:List (Int×List Nat))(id:Int):Option (List Nat):=(V.find? λp=>decide (p.1=id)).map Prod.snd
def mayV (room n:Nat)(nx:Int)(V:List (Int×List Nat))(size:Int):Int :=
 if size<0∨4096<size then 6 else if room≤V.length∨4611686018427387904<nx then 7 else if (n:Int) - (usedV V:Int)<(needN size.toNat:Int) then 8 else 0
def rvE (V:List (Int×List Nat))(id off k:Int):Int:=match atV V id with
 | none=>20
 | some l=>if 0≤off∧0≤k∧k≤1024∧off+k≤(l.length:Int) then 0 else 5
def rvL (V:List (Int×List Nat))(id off k:Int):List Nat:=match atV V id with
 | none=>[]
 | some l=>if 0≤off∧0≤k∧k≤1024∧off+k≤(l.length:Int) then (l.drop off.toNat).take k.toNat else []
def setV (id:Int)(off:Nat)(D:List Nat)(p:Int×List Nat):Int×List Nat:=if p.1=id then (p.1,putL p.2 D off) else p
def wrV (V:List (Int×List Nat))(id off:Int)(D:List Nat):List (Int×List Nat):=if rvE V id off (D.length:Int)=0 then V.map (setV id off.toNat D) else V
def vw (Os:List Ob):List (Int×List Nat):=Os.map λo=>(o.id,o.data)
theorem vw_length (Os:List Ob):(vw Os).length=Os.length:=by simp [vw]
theorem vw_used (Os:List Ob):usedV (vw Os)=usedN Os:=by simp [usedV,usedN,vw,Function.comp_def]
theorem vw_at (Os:List Ob)(id:Int):atV (vw Os) id=(at? Os id).map Ob.data:=by
 unfold atV at? vw
 rw [List.find?_map]
 simp [Function.comp_def]
theorem vw_rdE (Os:List Ob)(id off k:Int):rvE (vw Os) id off k=rdE Os id off k:=by
 unfold rvE rdE
 rw [vw_at]
 cases at? Os id<;>rfl
theorem vw_rdL (Os:List Ob)(id off k:Int):rvL (vw Os) id off k=rdL Os id off k:=by
 unfold rvL rdL
 rw [vw_at]
 cases at? Os id<;>rfl
theorem vw_append (Os:List Ob)(o:Ob):vw (Os++[o])=vw Os++[(o.id,o.data)]:=by simp [vw]
theorem vw_setO (Os:List Ob)(id:Int)(off:Nat)(D:List Nat):vw (Os.map (setO id off D))=(vw Os).map (setV id off D):=by
 unfold vw
 rw [List.map_map,List.map_map]
 refine List.map_congr_left λo _=>?_
 simp only [Function.comp,setO,setV]
 split<;>rfl
theorem vw_wrO (Os:List Ob)(id off:Int)(D:List Nat):vw (wrO Os id off D)=wrV (vw Os) id off D:=by
 unfold wrO wrV
 rw [vw_rdE]
 split
 ·exact vw_setO _ _ _ _
 ·rfl
theorem vw_may {z:Sid}{nx:Int}{Os:List Ob}(h:St w z nx Os)(size:Int):mayV z.room z.n nx (vw Os) size=mayE z.room z.n nx Os size:=by
 have hu:=h.used
 unfold mayV mayE
 rw [vw_length,vw_used]
 by_cases h1:size<0∨4096<size
 ·rw [if_pos h1,if_pos h1]
 ·rw [if_neg h1,if_neg h1]
  by_cases h2:z.room≤Os.length∨4611686018427387904<nx
  ·rw [if_pos h2,if_pos h2]
  ·rw [if_neg h2,if_neg h2]
   by_cases h3:z.n - usedN Os<needN size.toNat
   ·rw [if_pos h3,if_pos (by omega)]
   ·rw [if_neg h3,if_neg (by omega)]
theorem vw_none {Os:List Ob}{id:Int}:(∀p∈vw Os,p.1≠id)↔at? Os id=none:=by
 unfold vw at?
 rw [List.find?_eq_none]
 simp
theorem rb_append {Os:List Ob}{o:Ob}(h:Rb (Os++[o]) k):Rb Os k∨Blk o.adr k:=by
 obtain⟨p,hp,hk⟩:=h
 rcases List.mem_append.1 hp with h1|h1
 ·exact .inl ⟨p,h1,hk⟩
 ·simp only [List.mem_singleton] at h1
  subst h1
  exact .inr hk
end Go.Proofs.YtfmhdimaijimlaaGreatDoor.S
