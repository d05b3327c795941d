import Derived.Test.YtfmhdimaijimlaaGreatDoorE18
import Derived.Maps.OwnSet
import Derived.Lib.SlKeysI
set_option linter.all false
set_option maxRecDepth 1000000
set_option maxHeartbeats 8000000
open Go.Proofs.Tryz
variable {w w' w1 w2:Go.World}{n m k i j b g base kn:Nat}{a:Option Go.Addr}
namespace Go.Proofs.YtfmhdimaijimlaaGreatDoor.S
open Go.RowKit
structure Ob where
 id:Int
 data:List Nat
 pages:List Nat
 adr:Option Addr
def Ob.val (o:Ob):Value:=.agg #[.int .i64 (o.data.length:Int),.slice o.adr o.pages.length o.pages.length]
def hr:Value→Option (DataW Value×List MemPlace):=λv=>some (.held v,[])
def ent (o:Ob):Lit×DataW Value:=(.int .i64 o.id,.held o.val)
def mapD (Os:List Ob):DataW Value:=.map (Os.map ent)
theorem ent_same (o:Ob)(id:Int):(ent o).1.sameKey (.int .i64 id)=decide (o.id=id):=by simp [ent,Lit.sameKey]
theorem has_mapD (Os:List Ob)(id:Int):Maps.has (mapD Os) (.int .i64 id)=Os.any (λo=>decide (o.id=id)):=by
 rw [mapD,Maps.has_eq,List.any_map]
 congr 1
 funext o
 exact ent_same o id
theorem atKey_mapD (Os:List Ob)(id:Int)(z:DataW Value):(mapD Os).atKey (.int .i64 id) z=match Os.find? (λo=>decide (o.id=id)) with|some o=>.held o.val|none=>z:=by
 unfold mapD DataW.atKey
 simp only [List.find?_map]
 have e:((λp:Lit×DataW Value=>p.1.sameKey (.int .i64 id)) ∘ ent)=λo=>decide (o.id=id):=by funext o;exact ent_same o id
 rw [e]
 cases Os.find? (λo=>decide (o.id=id))<;>rfl
theorem insert_last (x:Lit×DataW Value):∀l:List (Lit×DataW Value),(∀p∈l,x.1.before p.1=false)→DataW.insert x l=l++[x]
 | [],_=>rfl
 | y::r,h=>by
  rw [DataW.insert,if_neg (by rw [h y (by simp)];simp),insert_last x r (λp hp=>h p (by simp [hp]))]
  rfl
theorem put_mapD (Os:List Ob)(o:Ob)(h:∀p∈Os,p.id<o.id):(mapD Os).put (.int .i64 o.id) (.held o.val)=mapD (Os++[o]):=by
 unfold mapD DataW.put
 simp only
 rw [List.filter_eq_self.2 (λp hp=>?_),insert_last,List.map_append]
 ·rfl
 ·intro p hp
  obtain⟨q,hq,rfl⟩:=List.mem_map.1 hp
  have:=h q hq
  simp [ent,Lit.before]
  omega
 ·obtain⟨q,hq,rfl⟩:=List.mem_map.1 hp
  have:=h q hq
  rw [ent_same]
  simp
  omega
def without (id:Int)(Os:List Ob):List Ob:=Os.filter λo=>decide (o.id≠id)
theorem del_mapD (Os:List Ob)(id:Int):(mapD Os).del (.int .i64 id)=mapD (without id Os):=by
 unfold mapD DataW.del without
 simp only [List.filter_map]
 congr 2
 refine List.filter_congr λo _=>?_
 simp only [Function.comp,ent_same]
 simp
theorem size_mapD (Os:List Ob):Maps.size (mapD Os)=Os.length:=by simp [mapD,Maps.size]
theorem keys_mapD (Os:List Ob):intKeys (mapD Os)=Os.map Ob.id:=by
 simp [mapD,intKeys,ent,Function.comp_def,Go.intOf]
theorem sorted_keys {l:List Int}(h:l.Pairwise (·<·)):l.mergeSort leI=l:=by
 refine List.mergeSort_of_pairwise ?_
 rw [List.pairwise_iff_getElem] at h ⊢
 intro i j hi hj hij
 have:=h i j hi hj hij
 simp only [leI,decide_eq_true_eq]
 omega
theorem owns_tight {k:TypeId}{R:Value→Option (DataW Value×List MemPlace)}{Os:List Ob}(h:w.ownsMap prog k R b n (mapD Os)):w.ownsMap prog k R b Os.length (mapD Os):=by
 obtain⟨es,clock,hb,F,hs,hD⟩:=h
 refine⟨es,clock,hb,F,?_,hD⟩
 have:=congrArg Maps.size hD
 rw [size_mapD] at this
 rw [this]
 simp [Maps.size,length_sorted]
theorem owns_but {S:Nat→Prop}{k:TypeId}{R:Value→Option (DataW Value×List MemPlace)}{D:DataW Value}(hb:But S w w')(h:w.ownsMap prog k R b n D)(hn:¬S b):w'.ownsMap prog k R b n D:=by
 have hl:=h.lt
 obtain⟨es,clock,hh,r⟩:=h
 exact⟨es,clock,by rw [hb.block b hl hn];exact hh,r⟩
theorem turned_but (h:w.mapTurned w' b):But (·=b) w w':=by
 have hg:=h.grown
 exact⟨hg.os,hg.tape,hg.output,hg.size,λk hk hn=>hg.block k hk (λe=>hn (by cases e;rfl))⟩
def allP (Os:List Ob):List Nat:=Os.flatMap Ob.pages
theorem lst_both (n:Nat)(t:Nat→Bool):(lst n t false).length+(lst n t true).length=n:=by
 induction n with
 | zero=>simp [lst]
 | succ n ih =>
  rw [lst_succ,lst_succ]
  cases t n<;>simp<;>omega
theorem lst_nodup (n:Nat)(t:Nat→Bool)(b:Bool):(lst n t b).Nodup:=List.Pairwise.filter _ List.nodup_range
theorem lst_count {t:Nat→Bool}{L:List Nat}(hL:L.Nodup)(hn:∀i∈L,i<n)(ht:∀i,t i=decide (i∈L)):(lst n t false).length+L.length=n:=by
 have h:=lst_both n t
 have hp:(lst n t true).Perm L:=(List.perm_ext_iff_of_nodup (lst_nodup _ _ _) hL).2 λi=>by
  rw [mem_lst,ht i]
  simp only [decide_eq_true_eq]
  exact⟨λh=>h.2,λh=>⟨hn i h,h⟩⟩
 rw [hp.length_eq] at h
 exact h
def needN (s:Nat):Nat:=(s+63) / 64
def usedN (Os:List Ob):Nat:=(Os.map λo=>needN o.data.length).sum
theorem allP_length (Os:List Ob)(h:∀o∈Os,o.pages.length=needN o.data.length):(allP Os).length=usedN Os:=by
 induction Os with
 | nil=>rfl
 | cons o r ih =>
  have h1:=h o (by simp)
  have h2:=ih (λp hp=>h p (by simp [hp]))
  simp only [allP,List.flatMap_cons,List.length_append,usedN,List.map_cons,List.sum_cons] at h1 h2 ⊢
  omega
structure Sto (w:World)(s g pb m n room:Nat)(nx:Int)(t:Nat→Bool)(B:Nat→Nat→Nat)(Os:List Ob):Prop where
 arn:Arn w g pb n t B
 c0:Lies w ⟨s,0,none⟩ (.pointer (some ⟨g,0,none⟩))
 c1:Lies w ⟨s,1,none⟩ (.map (some m))
 c2:Lies w ⟨s,2,none⟩ (.int .i64 (room:Int))
 c3:Lies w ⟨s,3,none⟩ (.int .i64 nx)
 map:w.ownsMap prog 3 hr m Os.length (mapD Os)
 sg:s≠g
 sp:s≠pb
 sm:s≠m
 gm:g≠m
 pm:pb≠m
 rows:∀o∈Os,Row w o.adr o.pages.length o.pages.length (ints (nats o.pages))
 off:∀o∈Os,∀k,Blk o.adr k→k≠s∧k≠g∧k≠pb∧k≠m∧k<w.heap.size
 len:∀o∈Os,o.pages.length=needN o.data.length
 nd:(allP Os).Nodup
 tks:∀i,t i=decide (i∈allP Os)
 bytes:∀o∈Os,∀j,j<o.data.length→B (o.pages.getD (j / 64) 0) (j%64)=o.data.getD j 0
 rise:Os.Pairwise (λa b=>a.id<b.id)
 ids:∀o∈Os,1≤o.id∧o.id<nx
 nx1:1≤nx∧nx≤4611686018427387905
 rm:Os.length≤room∧room≤64
 big:∀o∈Os,o.data.length≤4096
def Sb (s g pb m:Nat)(k:Nat):Prop:=k=s∨k=g∨k=pb∨k=m
def Rb (Os:List Ob)(k:Nat):Prop:=∃o∈Os,Blk o.adr k
theorem Sto.but {S:Nat→Prop}{s pb room:Nat}{nx:Int}{t:Nat→Bool}{B:Nat→Nat→Nat}{Os:List Ob}(hb:But S w w')(h:Sto w s g pb m n room nx t B Os)(h1:∀k,Sb s g pb m k→¬S k)(h2:∀k,Rb Os k→¬S k):Sto w' s g pb m n room nx t B Os :=
 {h with
  arn:=h.arn.but hb (h1 _ (.inr (.inl rfl))) (h1 _ (.inr (.inr (.inl rfl))))
  c0:=h.c0.but hb (h1 _ (.inl rfl))
  c1:=h.c1.but hb (h1 _ (.inl rfl))
  c2:=h.c2.but hb (h1 _ (.inl rfl))
  c3:=h.c3.but hb (h1 _ (.inl rfl))
  map:=owns_but hb h.map (h1 _ (.inr (.inr (.inr rfl))))
  rows:=λo ho=>(h.rows o ho).but hb (λk hk=>h2 k ⟨o,ho,hk⟩)
  off:=λo ho k hk=>by
   obtain⟨a,b,c,d,e⟩:=h.off o ho k hk
   exact⟨a,b,c,d,Nat.lt_of_lt_of_le e hb.size⟩ }
theorem Sto.later {s pb room:Nat}{nx:Int}{t:Nat→Bool}{B:Nat→Nat→Nat}{Os:List Ob}(hb:Below w.heap.size w w')(h:Sto w s g pb m n room nx t B Os):Sto w' s g pb m n room nx t B Os :=
 h.but (S:=λ_=>False) (But.of hb) (λ_ _ h=>h) (λ_ _ h=>h)
theorem Sto.mem {s pb room:Nat}{nx:Int}{t:Nat→Bool}{B:Nat→Nat→Nat}{Os:List Ob}(h:Sto w s g pb m n room nx t B Os){o:Ob}(ho:o∈Os){p:Nat}(hp:p∈o.pages):t p=true∧p<n:=by
 have h1:t p=true:=by
  rw [h.tks p]
  exact dT (List.mem_flatMap.2 ⟨o,ho,hp⟩)
 exact⟨h1,h.arn.only p h1⟩
theorem Sto.count {s pb room:Nat}{nx:Int}{t:Nat→Bool}{B:Nat→Nat→Nat}{Os:List Ob}(h:Sto w s g pb m n room nx t B Os):(lst n t false).length+usedN Os=n:=by
 rw [←allP_length Os h.len]
 refine lst_count h.nd (λi hi=>h.arn.only i ?_) h.tks
 rw [h.tks i]
 exact dT hi
theorem need_any (k:Nat)(w:World)(hk:k≤4096):Calls prog 151 #[.int .i64 (k:Int)] w λe w'=>e=.returned (.int .i64 ((needN k:Nat):Int))∧w'=w:=by
 have e:(((k:Int)+64 - 1).tdiv 64)=((needN k:Nat):Int):=by
  unfold needN
  rw [show (k:Int)+64 - 1=((k+63:Nat):Int) by omega]
  rfl
 go_enter func151,ntmps151
 go_wp2
 go_ret
 exact⟨ret_int (by
  have h:needN k≤64:=by unfold needN;omega
  unfold wrap64
  omega),rfl⟩
theorem sfree_any (s g pb m n room:Nat)(nx:Int)(t:Nat→Bool)(B:Nat→Nat→Nat)(Os:List Ob)(w:World)(h:Sto w s g pb m n room nx t B Os) :
  Calls prog 150 #[.pointer (some ⟨s,0,none⟩)] w λe w'=>e=.returned (.int .i64 ((n - usedN Os:Nat):Int))∧Below w.heap.size w w':=by
 have x:=h.c0.1
 have H:=hid h.arn
 have HC:=hid h.count
 clear h
 go_enter func150,ntmps150
 go_wp2_with (first|(go_at_call 189;refine (free_any g pb n t B _ H.o).mono ?_;rintro e w1 ⟨rfl,hb⟩))
 go_ret
 exact⟨ret_int (by have:=HC.o;omega),hb⟩
theorem snext_any (s g pb m n room:Nat)(nx:Int)(t:Nat→Bool)(B:Nat→Nat→Nat)(Os:List Ob)(w:World)(h:Sto w s g pb m n room nx t B Os) :
  Calls prog 38 #[.pointer (some ⟨s,0,none⟩)] w λe w'=>e=.returned (.int .i64 nx)∧w'=w:=by
 have x:=h.c3.1
 clear h
 go_enter func38,ntmps38
 go_wp2
 go_ret
 exact⟨rfl,rfl⟩
theorem lies_new (w:World)(cs:Array Value)(T:TypeId)(i:Nat)(v:Value)(h:cs[i]?=some v):Lies (w.alloc (.cells cs T)) ⟨w.heap.size,i,none⟩ v:=by
 have hh:=heap_alloc_new w (.cells cs T)
 exact⟨by rw [cell_of_row _ _ _ _ _ _ hh];exact h,by simp only [World.frozen?,hh];simp⟩
theorem info139:(prog.info? 139).map (λi=>(i.zero,i.size,i.bytes))=some (some (.agg #[.pointer none,.map none,.int .i64 0,.int .i64 0]),4,32):=by kernel_rfl
theorem info214:(prog.info? 214).map (λi=>(i.zero,i.size,i.bytes))=some (some (.agg #[.int .i64 0,.slice none 0 0]),2,32):=by kernel_rfl
theorem info266:(prog.info? 266).map (λi=>(i.zero,i.size,i.bytes))=some (some (.agg #[.int .i64 0,.int .i64 0,.int .i64 0]),3,24):=by kernel_rfl
theorem law3:Maps.Keyed prog 3:=Maps.int_keyed underlying3
theorem key3 {a:Int}(h:-9223372036854775808≤a∧a<9223372036854775808):keyOf prog 3 (.int .i64 a)=some (.int .i64 a):=Maps.keyOf_int_mk underlying3 (WalkArith.wf_i64 (by omega))
theorem snew_ok (room n:Nat)(w:World)(h1:1≤room∧room≤64)(h2:1≤n∧n≤256) :
  Calls prog 49 #[.int .i64 (room:Int),.int .i64 (n:Int)] w λe w'=>∃s g pb m,e=.returned (.tuple #[.pointer (some ⟨s,0,none⟩),.int .i64 0])∧Sto w' s g pb m n room 1 (λ_=>false) (λ_ _=>0) []∧(∀k,Sb s g pb m k→w.heap.size≤k∧k<w'.heap.size)∧Below w.heap.size w w':=by
 have hd1:decide ((room:Int)<1)=false:=dF (by omega)
 have hd2:decide ((room:Int)>64)=false:=dF (by omega)
 have hd3:decide ((n:Int)<1)=false:=dF (by omega)
 have hmm:=@run_makeMap prog
 have hz:=zero_of info139
 go_enter func49,ntmps49
 go_wp2_with (first|(go_at_call 84;refine (new_ok n _ (by omega)).mono ?_;rintro e w1 ⟨g,pb,rfl,A,G1,G2,hb⟩;have HA:=hid A;have HG1:=hid G1;have HG2:=hid G2;have HB:=hid hb;clear A G1 G2 hb))
 have hs:=HB.o.size
 have hb1:Below w1.heap.size w1 (w1.alloc (Obj.map #[] 0)):=below1 _ _
 have hA2:w1.heap.size+1=(w1.alloc (Obj.map #[] 0)).heap.size:=by simp
 rw [hA2]
 generalize hC:(#[Value.pointer (some ⟨g,0,none⟩),Value.map (some w1.heap.size),Value.int .i64 (room:Int),Value.int .i64 1]:Array Value)=C
 have hb2:=below2 w1 (Obj.map #[] 0) (.cells C 139)
 have hgl:=HA.o.glt
 have hpl:=HA.o.lt
 refine bodyPost_ret (v:=.tuple #[.pointer (some ⟨(w1.alloc (Obj.map #[] 0)).heap.size,0,none⟩),.int .i64 0]) (by simp [results,results49,go_sem]) rfl ⟨_,g,pb,w1.heap.size,rfl,⟨HA.o.later hb2,?_,?_,?_,?_,?_,by simp;omega,by simp;omega,by simp,by omega,by omega,λo ho=>(by cases ho),λo ho=>(by cases ho),λo ho=>(by cases ho),by simp [allP],λi=>by simp [allP],λo ho=>(by cases ho),List.Pairwise.nil,λo ho=>(by cases ho),by omega,⟨by simp,h1.2⟩,λo ho=>(by cases ho)⟩,?_,b_c HB.o hb2⟩
 ·exact lies_new _ _ _ 0 _ (by rw [←hC];rfl)
 ·exact lies_new _ _ _ 1 _ (by rw [←hC];rfl)
 ·exact lies_new _ _ _ 2 _ (by rw [←hC];rfl)
 ·exact lies_new _ _ _ 3 _ (by rw [←hC];rfl)
 ·exact (World.ownsMap_made w1 prog 3 hr).alloc _
 ·have h1:=HG1.o
  have h2:=HG2.o
  rintro k (rfl|rfl|rfl|rfl)<;>simp<;>omega
def mayE (room n:Nat)(nx:Int)(Os:List Ob)(size:Int):Int :=
 if size<0∨4096<size then 6 else if room≤Os.length∨4611686018427387904<nx then 7 else if n - usedN Os<needN size.toNat then 8 else 0
theorem may_any (s g pb m n room:Nat)(nx:Int)(t:Nat→Bool)(B:Nat→Nat→Nat)(Os:List Ob)(size:Int)(w:World)(h:Sto w s g pb m n room nx t B Os) :
  Calls prog 103 #[.pointer (some ⟨s,0,none⟩),.int .i64 size] w λe w'=>e=.returned (.int .i64 (mayE room n nx Os size))∧Below w.heap.size w w':=by
 obtain⟨E,hE⟩:∃E,E=mayE room n nx Os size:=⟨_,rfl⟩
 rw [←hE]
 have HE:=hid hE
 have H:=hid h
 clear hE
 by_cases h1:size<0
 ·have hd1:decide (size<0)=true:=dT h1
  clear h
  go_enter func103,ntmps103
  go_wp2
  go_ret
  exact⟨ret_int (by rw [HE.o,mayE,if_pos (.inl h1)]),Below.refl _ _⟩
 have hd1:decide (size<0)=false:=dF h1
 by_cases h2:size>4096
 ·have hd2:decide (size>4096)=true:=dT h2
  clear h
  go_enter func103,ntmps103
  go_wp2
  go_ret
  exact⟨ret_int (by rw [HE.o,mayE,if_pos (.inr h2)]),Below.refl _ _⟩
 have hd2:decide (size>4096)=false:=dF h2
 obtain⟨k,rfl⟩:∃k:Nat,size=(k:Int):=⟨size.toNat,by omega⟩
 have hk:k≤4096:=by omega
 have e1:mayE room n nx Os (k:Int)=if room≤Os.length∨4611686018427387904<nx then 7 else if n - usedN Os<needN k then 8 else 0:=by
  rw [mayE,if_neg (by omega),Int.toNat_natCast]
 rw [e1] at HE
 have x1:=h.c1.1
 have x2:=h.c2.1
 have x3:=h.c3.1
 have hlen:=λd:Nat=>(h.later (below_drewN (Below.refl _ _) d)).map.len underlying137 3
 simp only [size_mapD] at hlen
 obtain⟨len,hl⟩:∃len,len=Os.length:=⟨_,rfl⟩
 rw [←hl] at hlen
 have HL:=hid hl
 clear h e1 h1 h2 hl
 by_cases h3:(len:Int)≥(room:Int)
 ·have hd3:decide ((len:Int)≥(room:Int))=true:=dT h3
  go_enter func103,ntmps103
  go_wp2
  go_quiet (fail)
  go_wp2
  go_ret
  exact⟨ret_int (by rw [HE.o,if_pos (.inl (by have:=HL.o;omega))]),below_drewN (Below.refl _ _) _⟩
 have hd3:decide ((len:Int)≥(room:Int))=false:=dF h3
 have hd3b:decide (room≤len)=false:=dF (by omega)
 have hd3c:¬room≤len:=by omega
 by_cases h4:nx>4611686018427387904
 ·have hd4:decide (nx>4611686018427387904)=true:=dT h4
  go_enter func103,ntmps103
  go_wp2
  go_quiet (fail)
  go_wp2
  go_ret
  exact⟨ret_int (by rw [HE.o,if_pos (.inr h4)]),below_drewN (Below.refl _ _) _⟩
 have hd4:decide (nx>4611686018427387904)=false:=dF h4
 have e2:¬(room≤Os.length∨4611686018427387904<nx):=by
  have:=HL.o
  omega
 rw [if_neg e2] at HE
 clear e2
 have HF:Hid (∀d,Sto (w.drewN d) s g pb m n room nx t B Os):=hid (λd=>H.o.later (below_drewN (Below.refl _ _) d))
 obtain⟨fr,hfr⟩:∃fr,fr=n - usedN Os:=⟨_,rfl⟩
 rw [←hfr] at HE
 have HFR:=hid hfr
 clear hfr
 by_cases h5:(fr:Int)<((needN k:Nat):Int)
 ·have hd5:decide ((fr:Int)<((needN k:Nat):Int))=true:=dT h5
  go_enter func103,ntmps103
  go_wp2
  go_quiet (fail)
  go_wp2_with (first
   | (go_at_call 151;refine (need_any k _ hk).mono ?_;rintro e w2 ⟨rfl,hw⟩;obtain rfl:=hw.symm)
   | (go_at_call 150;refine (sfree_any s g pb m n room nx t B Os _ (HF.o _)).mono ?_;rintro e w1 ⟨rfl,hb⟩;rw [←HFR.o];have HB:=hid hb;clear hb))
  go_ret
  exact⟨ret_int (by rw [HE.o,if_pos (by omega)]),b_c (below_drewN (Below.refl _ _) nq) HB.o⟩
 ·have hd5:decide ((fr:Int)<((needN k:Nat):Int))=false:=dF h5
  go_enter func103,ntmps103
  go_wp2
  go_quiet (fail)
  go_wp2_with (first
   | (go_at_call 151;refine (need_any k _ hk).mono ?_;rintro e w2 ⟨rfl,hw⟩;obtain rfl:=hw.symm)
   | (go_at_call 150;refine (sfree_any s g pb m n room nx t B Os _ (HF.o _)).mono ?_;rintro e w1 ⟨rfl,hb⟩;rw [←HFR.o];have HB:=hid hb;clear hb))
  go_ret
  exact⟨ret_int (by rw [HE.o,if_neg (by omega)]),b_c (below_drewN (Below.refl _ _) nq) HB.o⟩
def at? (Os:List Ob)(id:Int):Option Ob:=Os.find? λo=>decide (o.id=id)
theorem at_mem {Os:List Ob}{id:Int}{o:Ob}(h:at? Os id=some o):o∈Os∧o.id=id:=⟨List.mem_of_find?_eq_some h,by simpa using List.find?_some h⟩
theorem look_run {s pb room:Nat}{nx:Int}{t:Nat→Bool}{B:Nat→Nat→Nat}{Os:List Ob}(h:Sto w s g pb m n room nx t B Os){id:Int}(hi:-9223372036854775808≤id∧id<9223372036854775808) :
  (Instr.lookup 137 (.map (some m)) (.int .i64 id) true).run prog w=.ok (match at? Os id with
   | some o=>.tuple #[.agg #[.int .i64 (o.data.length:Int),.slice o.adr o.pages.length o.pages.length],.bool true]
   | none=>.tuple #[.agg #[.int .i64 0,.slice none 0 0],.bool false]) w:=by
 obtain⟨v,ps,hrun,hv⟩:=h.map.look_ok law3 underlying137 (zero_of info214 w) (zd:=.held (.agg #[.int .i64 0,.slice none 0 0])) (zp:=[]) rfl (key3 hi)
 rw [hrun,has_mapD]
 rw [atKey_mapD] at hv
 simp only [hr,Option.some.injEq,Prod.mk.injEq] at hv
 have e:Os.any (λo=>decide (o.id=id))=(at? Os id).isSome:=by
  unfold at?
  rw [Bool.eq_iff_iff,List.any_eq_true,List.find?_isSome]
 rw [e]
 have hv1:=hv.1
 unfold at? at hv1 ⊢
 cases hf:Os.find? (λo=>decide (o.id=id)) with
 | none =>
  rw [hf] at hv1
  simp only [DataW.held.injEq] at hv1
  simp [hv1]
 | some o =>
  rw [hf] at hv1
  simp only [DataW.held.injEq] at hv1
  simp [hv1,Ob.val]
theorem look_some {s pb room:Nat}{nx:Int}{t:Nat→Bool}{B:Nat→Nat→Nat}{Os:List Ob}(h:Sto w s g pb m n room nx t B Os){id:Int}(hi:-9223372036854775808≤id∧id<9223372036854775808){o:Ob}(ho:at? Os id=some o) :
  (Instr.lookup 137 (.map (some m)) (.int .i64 id) true).run prog w=.ok (.tuple #[.agg #[.int .i64 (o.data.length:Int),.slice o.adr o.pages.length o.pages.length],.bool true]) w:=by
 rw [look_run h hi,ho]
theorem look_none {s pb room:Nat}{nx:Int}{t:Nat→Bool}{B:Nat→Nat→Nat}{Os:List Ob}(h:Sto w s g pb m n room nx t B Os){id:Int}(hi:-9223372036854775808≤id∧id<9223372036854775808)(ho:at? Os id=none) :
  (Instr.lookup 137 (.map (some m)) (.int .i64 id) true).run prog w=.ok (.tuple #[.agg #[.int .i64 0,.slice none 0 0],.bool false]) w:=by
 rw [look_run h hi,ho]
theorem size_some (s g pb m n room:Nat)(nx:Int)(t:Nat→Bool)(B:Nat→Nat→Nat)(Os:List Ob)(id:Int)(o:Ob)(w:World)(h:Sto w s g pb m n room nx t B Os)(hi:-9223372036854775808≤id∧id<9223372036854775808)(ho:at? Os id=some o) :
  Calls prog 119 #[.pointer (some ⟨s,0,none⟩),.int .i64 id] w λe w'=>e=.returned (.tuple #[.int .i64 (o.data.length:Int),.bool true])∧Below w.heap.size w w':=by
 have x:=h.c1.1
 have hl:=look_some h hi ho
 have hz:=zero_of info214
 clear h
 go_enter func119,ntmps119
 go_wp2
 exact bodyPost_ret (v:=.tuple #[.int .i64 (o.data.length:Int),.bool true]) (by simp [results,results119,go_sem]) rfl ⟨rfl,below1 _ _⟩
theorem size_none (s g pb m n room:Nat)(nx:Int)(t:Nat→Bool)(B:Nat→Nat→Nat)(Os:List Ob)(id:Int)(w:World)(h:Sto w s g pb m n room nx t B Os)(hi:-9223372036854775808≤id∧id<9223372036854775808)(ho:at? Os id=none) :
  Calls prog 119 #[.pointer (some ⟨s,0,none⟩),.int .i64 id] w λe w'=>e=.returned (.tuple #[.int .i64 0,.bool false])∧Below w.heap.size w w':=by
 have x:=h.c1.1
 have hl:=look_none h hi ho
 have hz:=zero_of info214
 clear h
 go_enter func119,ntmps119
 go_wp2
 exact bodyPost_ret (v:=.tuple #[.int .i64 0,.bool false]) (by simp [results,results119,go_sem]) rfl ⟨rfl,below1 _ _⟩
theorem slook_none (s g pb m n room:Nat)(nx:Int)(t:Nat→Bool)(B:Nat→Nat→Nat)(Os:List Ob)(id off k:Int)(w:World)(h:Sto w s g pb m n room nx t B Os)(hi:-9223372036854775808≤id∧id<9223372036854775808)(ho:at? Os id=none) :
  Calls prog 162 #[.pointer (some ⟨s,0,none⟩),.int .i64 id,.int .i64 off,.int .i64 k] w λe w'=>e=.returned (.tuple #[.agg #[.int .i64 0,.slice none 0 0],.int .i64 20])∧Below w.heap.size w w':=by
 have x:=h.c1.1
 have x1:=cell_later (below1 w (.cells #[.int .i64 0,.slice none 0 0] 214)) x
 have hl:=look_none (h.later (below1 w (.cells #[.int .i64 0,.slice none 0 0] 214))) hi ho
 have hz:=zero_of info214
 clear h
 go_enter func162,ntmps162
 go_wp2
 refine bodyPost_ret (v:=.tuple #[.agg #[.int .i64 0,.slice none 0 0],.int .i64 20]) ?_ rfl ⟨rfl,below2 _ _ _⟩
 simp [results,results162,go_sem]
def rdOk (o:Ob)(off k:Int):Prop:=0≤off∧0≤k∧k≤1024∧off+k≤(o.data.length:Int)
theorem slook_bad (s g pb m n room:Nat)(nx:Int)(t:Nat→Bool)(B:Nat→Nat→Nat)(Os:List Ob)(id off k:Int)(o:Ob)(w:World)(h:Sto w s g pb m n room nx t B Os)(hi:-9223372036854775808≤id∧id<9223372036854775808)(ho:at? Os id=some o)(hb:¬rdOk o off k) :
  Calls prog 162 #[.pointer (some ⟨s,0,none⟩),.int .i64 id,.int .i64 off,.int .i64 k] w λe w'=>e=.returned (.tuple #[.agg #[.int .i64 0,.slice none 0 0],.int .i64 5])∧Below w.heap.size w w':=by
 have x:=h.c1.1
 have x1:=cell_later (below1 w (.cells #[.int .i64 0,.slice none 0 0] 214)) x
 have hl:=look_some (h.later (below1 w (.cells #[.int .i64 0,.slice none 0 0] 214))) hi ho
 have hz:=zero_of info214
 have hbig:=h.big o (at_mem ho).1
 obtain⟨sz,hsz⟩:∃sz,sz=o.data.length:=⟨_,rfl⟩
 rw [←hsz] at hl hbig
 unfold rdOk at hb
 rw [←hsz] at hb
 have HB:=hid hb
 clear h hsz hb
 by_cases h1:off<0
 ·have hd1:decide (off<0)=true:=dT h1
  go_enter func162,ntmps162
  go_wp2
  refine bodyPost_ret (v:=.tuple #[.agg #[.int .i64 0,.slice none 0 0],.int .i64 5]) ?_ rfl ⟨rfl,below2 _ _ _⟩
  simp [results,results162,go_sem]
 have hd1:decide (off<0)=false:=dF h1
 by_cases h2:k<0
 ·have hd2:decide (k<0)=true:=dT h2
  go_enter func162,ntmps162
  go_wp2
  refine bodyPost_ret (v:=.tuple #[.agg #[.int .i64 0,.slice none 0 0],.int .i64 5]) ?_ rfl ⟨rfl,below2 _ _ _⟩
  simp [results,results162,go_sem]
 have hd2:decide (k<0)=false:=dF h2
 by_cases h3:k>1024
 ·have hd3:decide (k>1024)=true:=dT h3
  go_enter func162,ntmps162
  go_wp2
  refine bodyPost_ret (v:=.tuple #[.agg #[.int .i64 0,.slice none 0 0],.int .i64 5]) ?_ rfl ⟨rfl,below2 _ _ _⟩
  simp [results,results162,go_sem]
 have hd3:decide (k>1024)=false:=dF h3
 have hd4:decide (off>(sz:Int) - k)=true:=dT (by have:=HB.o;omega)
 go_enter func162,ntmps162
 go_wp2
 refine bodyPost_ret (v:=.tuple #[.agg #[.int .i64 0,.slice none 0 0],.int .i64 5]) ?_ rfl ⟨rfl,below2 _ _ _⟩
 simp [results,results162,go_sem]
theorem slook_ok (s g pb m n room:Nat)(nx:Int)(t:Nat→Bool)(B:Nat→Nat→Nat)(Os:List Ob)(id off k:Int)(o:Ob)(w:World)(h:Sto w s g pb m n room nx t B Os)(hi:-9223372036854775808≤id∧id<9223372036854775808)(ho:at? Os id=some o)(hb:rdOk o off k) :
  Calls prog 162 #[.pointer (some ⟨s,0,none⟩),.int .i64 id,.int .i64 off,.int .i64 k] w λe w'=>e=.returned (.tuple #[.agg #[.int .i64 (o.data.length:Int),.slice o.adr o.pages.length o.pages.length],.int .i64 0])∧Below w.heap.size w w':=by
 have x:=h.c1.1
 have x1:=cell_later (below1 w (.cells #[.int .i64 0,.slice none 0 0] 214)) x
 have hl:=look_some (h.later (below1 w (.cells #[.int .i64 0,.slice none 0 0] 214))) hi ho
 have hz:=zero_of info214
 have hbig:=h.big o (at_mem ho).1
 obtain⟨sz,hsz⟩:∃sz,sz=o.data.length:=⟨_,rfl⟩
 rw [←hsz] at hl hbig ⊢
 unfold rdOk at hb
 rw [←hsz] at hb
 clear h hsz
 have hd1:decide (off<0)=false:=dF (by omega)
 have hd2:decide (k<0)=false:=dF (by omega)
 have hd3:decide (k>1024)=false:=dF (by omega)
 have hd4:decide (off>(sz:Int) - k)=false:=dF (by omega)
 obtain⟨hb1,hb2,hb3,hb4⟩:=hb
 go_enter func162,ntmps162
 go_wp2
 refine bodyPost_ret (v:=.tuple #[.agg #[.int .i64 (sz:Int),.slice o.adr o.pages.length o.pages.length],.int .i64 0]) ?_ rfl ⟨rfl,?_⟩
 ·simp [results,results162,go_sem]
 ·exact below2 _ _ _
def pos (off k i:Nat):Nat:=if i=0 then off else min (off+k) ((off / 64+i)*64)
def pcN (off k:Nat):Nat:=if k=0 then 0 else (off+k - 1) / 64 - off / 64+1
theorem pos_zero (off k:Nat):pos off k 0=off:=by simp [pos]
theorem pos_more (off k i:Nat):i<pcN off k↔pos off k i<off+k:=by
 unfold pcN pos
 by_cases hk:k=0
 ·simp [hk]
  split<;>omega
 ·rw [if_neg hk]
  by_cases hi:i=0
  ·simp [hi];omega
  ·rw [if_neg hi]
   omega
theorem pos_end (off k:Nat):pos off k (pcN off k)=off+k:=by
 unfold pcN pos
 by_cases hk:k=0
 ·simp [hk]
 ·rw [if_neg hk,if_neg (by omega)]
  omega
theorem pos_le (off k i:Nat):off≤pos off k i∧pos off k i≤off+k:=by
 unfold pos
 split<;>omega
theorem pos_div {off k i:Nat}(h:pos off k i<off+k):pos off k i / 64=off / 64+i:=by
 unfold pos at h ⊢
 split<;>rename_i hi
 ·omega
 ·rw [if_neg hi] at h
  omega
theorem pos_next {off k i:Nat}(h:pos off k i<off+k):pos off k (i+1)=pos off k i+min (off+k - pos off k i) (64 - pos off k i%64):=by
 have h1:=pos_div h
 have h2:pos off k (i+1)=min (off+k) ((off / 64+(i+1))*64):=by simp [pos]
 rw [h2]
 omega
def pcV (pages:List Nat)(off k i:Nat):List Value:=[.int .i64 ((pages.getD (off / 64+i) 0:Nat):Int),.int .i64 ((pos off k i%64:Nat):Int),.int .i64 ((pos off k (i+1) - pos off k i:Nat):Int)]
def pcs (pages:List Nat)(off k:Nat):Nat→List Value
 | 0=>[]
 | c+1=>pcs pages off k c++pcV pages off k c
theorem pcs_length (pages:List Nat)(off k:Nat):∀c,(pcs pages off k c).length=3*c
 | 0=>rfl
 | c+1=>by rw [pcs,List.length_append,pcs_length pages off k c];simp [pcV];omega
theorem pcs_get (pages:List Nat)(off k:Nat)(j:Nat)(hj:j<3):∀c i,i<c→(pcs pages off k c)[3*i+j]?=(pcV pages off k i)[j]?
 | 0,i,h=>by omega
 | c+1,i,h=>by
  rw [pcs]
  by_cases e:i=c
  ·subst e
   rw [List.getElem?_append_right (by rw [pcs_length];omega),pcs_length]
   congr 1
   omega
  ·rw [List.getElem?_append_left (by rw [pcs_length];omega)]
   exact pcs_get pages off k j hj c i (by omega)
theorem own_below {e:TypeId}{size:Nat}{v:Value}{xs:List Value}(hb:Below w.heap.size w w1)(h:w.ownsRow base e size v n xs):w1.ownsRow base e size v n xs:=own_but (S:=λ_=>False) (But.of hb) h (λ_ _ h=>h)
theorem append_piece {cap:Nat}{L:List Value}(x y z:Int)(h:w.ownsRow base 266 3 (.slice a i cap) i L)(hb:base≤w.heap.size)(hi:i≤4096)(bk:Nat)(hbk:bk=w.heap.size) :
  ∃a' cap' w',(Builtin.append_ #[263,263] 263 #[.slice a i cap,.slice (some ⟨bk,0,none⟩) 1 1]).run prog (w.alloc (.cells #[.int .i64 x,.int .i64 y,.int .i64 z] 266))=.ok (.slice a' (i+1) cap') w'∧w'.ownsRow base 266 3 (.slice a' (i+1) cap') (i+1) (L++[.int .i64 x,.int .i64 y,.int .i64 z])∧Below base w w':=by
 subst hbk
 obtain⟨i0,hi0,hz0,hz1,hz2⟩:=info_parts info266
 have o1:=own_below (below1 w (.cells #[.int .i64 x,.int .i64 y,.int .i64 z] 266)) h
 have hnew:∀j u,[Value.int .i64 x,.int .i64 y,.int .i64 z][j]?=some u→(w.alloc (.cells #[.int .i64 x,.int .i64 y,.int .i64 z] 266)).cell? ((⟨w.heap.size,0,none⟩:Addr).add j)=some u:=by
  intro j u hu
  rw [aa_]
  have hj:j<3:=(gS.1 hu).1
  have:j=0∨j=1∨j=2:=by omega
  rcases this with rfl|rfl|rfl<;>(simp at hu;subst hu;simp [go_sem])
 obtain⟨v2,w2,hr2,o2,g2,_,_⟩:=run_append_own_at (P:=prog) (w.alloc (.cells #[.int .i64 x,.int .i64 y,.int .i64 z] 266)) base 263 263 266 i0 _ 3 24 underlying263 hi0 hz0 hz1 hz2 rfl (by decide) _ i _ o1 ⟨w.heap.size,0,none⟩ 1 1 [.int .i64 x,.int .i64 y,.int .i64 z] rfl hnew (λu hu=>by
  simp only [List.mem_cons,List.not_mem_nil,or_false] at hu
  rcases hu with rfl|rfl|rfl<;>rfl) (by unfold maxLen;omega) (by omega) (by simp;omega)
 obtain⟨a',cap',rfl⟩:∃a' cap',v2=.slice a' (i+1) cap':=by
  rcases o2.2 with ⟨h,h'⟩|⟨g',cap',_,h,_⟩
  ·omega
  ·exact⟨_,cap',h⟩
 exact⟨a',cap',w2,hr2,o2,((below1 w (.cells #[.int .i64 x,.int .i64 y,.int .i64 z] 266)).mono hb).grown g2 (by simp;omega) (λj hj=>(own_block o1 j hj).1)⟩
def ivN:Value→Nat
 | .int _ a=>a.toNat
 | _=>0
def PcRel (w:World)(pages:List Nat)(off k:Nat)(v1 v2 v7:Value)(w':World):Prop :=
 ∃(i p:Nat) (a:Option Addr) (cap:Nat),v1=.int .i64 (p:Int)∧v2=.int .i64 ((off+k - p:Nat):Int)∧v7=.slice a i cap∧p=pos off k i∧i≤pcN off k∧w'.ownsRow w.heap.size 266 3 (.slice a i cap) i (pcs pages off k i)∧Below w.heap.size w w'
theorem pc_next {W:World}{pages:List Nat}{off p r u st q pg f cap':Nat}{a':Option Addr}(hp:p=pos off k i)(hq:q<pages.length)(hE:off+k - p=r∧p%64=st∧64 - st=u∧q=off / 64+i∧pg=pages[q]∧pos off k (i+1)=p+min r u)(hi:i<pcN off k)(hf:f=min r u)
  (hO:w2.ownsRow W.heap.size 266 3 (.slice a' (i+1) cap') (i+1) (pcs pages off k i++[.int .i64 (pg:Int),.int .i64 (st:Int),.int .i64 (f:Int)])) (hB:Below W.heap.size W w2) :
  PcRel W pages off k (.int .i64 ((p:Int)+(f:Int))) (.int .i64 ((r:Int) - (f:Int))) (.slice a' (i+1) cap') w2:=by
 obtain⟨e1,e2,e3,e4,e5,e6⟩:=hE
 refine⟨i+1,p+f,a',cap',by rw [Int.natCast_add],?_,rfl,by rw [e6,hf],by omega,?_,hB⟩
 ·congr 1
  omega
 ·have e:pcV pages off k i=[.int .i64 (pg:Int),.int .i64 (st:Int),.int .i64 (f:Int)]:=by
   unfold pcV
   rw [←hp,e2,e6,←e4,e5,List.getD_eq_getElem?_getD,gE hq,hf,Nat.add_sub_cancel_left]
   rfl
  rw [pcs,e]
  exact hO
theorem pieces_any (sz:Int)(adr:Option Addr)(pages:List Nat)(off k:Nat)(w:World)(hR:Row w adr pages.length pages.length (ints (nats pages)))(ho:off+k≤64*pages.length)(hb:off+k≤4096) :
  Calls prog 163 #[.agg #[.int .i64 sz,.slice adr pages.length pages.length],.int .i64 (off:Int),.int .i64 (k:Int)] w λe w'=>∃a cap,e=.returned (.slice a (pcN off k) cap)∧w'.ownsRow w.heap.size 266 3 (.slice a (pcN off k) cap) (pcN off k) (pcs pages off k (pcN off k))∧Below w.heap.size w w':=by
 have HR:=hid hR
 obtain⟨W,hW⟩:∃W,W=w.alloc (.cells #[.int .i64 sz,.slice adr pages.length pages.length] 214):=⟨_,rfl⟩
 have HBW:Hid (Below w.heap.size w W):=hid (by rw [hW];exact below1 _ _)
 have HC:Hid (W.cell? ⟨w.heap.size,1,none⟩=some (.slice adr pages.length pages.length)):=hid (by rw [hW];exact (lies_new _ _ _ 1 _ rfl).1)
 have HWS:Hid (w.heap.size<W.heap.size):=hid (by rw [hW];simp)
 have HO:=hid ho
 clear hR ho
 go_enter func163,ntmps163
 go_upto_region 2 with fail
 rw [←hW]
 clear hW
 go_loopw [1,2,7] (PcRel W pages off k) (λ_ n _ _=>ivN n)
 case atStart=>exact⟨0,off,none,0,rfl,by rw [Nat.add_sub_cancel_left],rfl,(pos_zero _ _).symm,Nat.zero_le _,⟨rfl,.inl ⟨rfl,rfl⟩⟩,Below.refl _ _⟩
 case round =>
  obtain⟨i,p,a,cap,rfl,rfl,rfl,hp,hi,hO,hB⟩:=hrel
  have hpl:=pos_le off k i
  rw [←hp] at hpl
  have HP:=hid hp
  have HB:=hid hB
  have HOW:=hid hO
  clear hB hO
  by_cases hlt:p<off+k
  ·have h1:=pos_div (off:=off) (k:=k) (i:=i) (by omega)
   have h2:=pos_next (off:=off) (k:=k) (i:=i) (by omega)
   have hin:=(pos_more off k i).2 (by omega)
   rw [←hp] at h1 h2
   obtain⟨r,hr⟩:∃r,r=off+k - p:=⟨_,rfl⟩
   rw [←hr] at h2
   rw [←hr]
   obtain⟨st,hst⟩:∃st,st=p%64:=⟨_,rfl⟩
   rw [←hst] at h2
   have hst64:st<64:=by omega
   obtain⟨u,hu⟩:∃u,u=64 - st:=⟨_,rfl⟩
   obtain⟨q,hq⟩:∃q,q=off / 64+i:=⟨_,rfl⟩
   have hrem:(p:Int)%64=(st:Int):=by omega
   have hquo:(p:Int) / 64=(q:Int):=by omega
   have hqn:p / 64=q:=by omega
   have h64:(64:Int) - (st:Int)=(u:Int):=by omega
   have hr0:0<r:=by omega
   have hr1:r≤4096:=by omega
   have hp1:p≤4096:=by omega
   have hu1:u≤64:=by omega
   have hql:q<pages.length:=by have:=HO.o;omega
   obtain⟨pg,hpg⟩:∃pg,pg=pages[q]:=⟨_,rfl⟩
   obtain⟨bb,oo,rfl,hcell⟩:=HR.o.plain (by omega)
   have y0:=cell_later HB.o HC.o
   have y1:=cell_later HB.o (cell_later HBW.o (hcell q _ (ints_nats_get pages q hql)))
   rw [←hpg] at y1
   have HE:=hid (show (off+k - p=r∧p%64=st∧64 - st=u∧q=off / 64+i∧pg=pages[q]∧pos off k (i+1)=p+min r u) from ⟨hr.symm,hst.symm,hu.symm,hq,hpg,by rw [hu];exact h2⟩)
   have HI:=hid hin
   have HI0:=hid hi
   clear hcell hr hst hu hq hpg h1 h2 hp hlt hpl hin hi
   by_cases hm:r≤u
   ·have hm2:(r:Int)≤(u:Int):=by omega
    obtain⟨a',cap',w2,hrun,hO2,hB2⟩:=append_piece (pg:Int) (st:Int) (r:Int) HOW.o HB.o.size (by have:=HI.o;unfold pcN at this;split at this<;>omega) wr.heap.size rfl
    have HRUN:=hid hrun
    have HO2:=hid hO2
    have HB2:=hid (HB.o.trans hB2)
    clear hrun hO2 hB2
    go_wp2_with (first|(at_builtin;refine wk_ rfl _ _ 263 rfl _ _ rfl rfl _ w2 HRUN.o ?_))
    refine⟨?_,by simp [ivN];omega⟩
    have:=pc_next HP.o hql HE.o HI.o (f:=r) (by omega) HO2.o HB2.o
    simpa using this
   ·have hm1:u<r:=by omega
    have hm2:(u:Int)<(r:Int):=by omega
    obtain⟨a',cap',w2,hrun,hO2,hB2⟩:=append_piece (pg:Int) (st:Int) (u:Int) HOW.o HB.o.size (by have:=HI.o;unfold pcN at this;split at this<;>omega) wr.heap.size rfl
    have HRUN:=hid hrun
    have HO2:=hid hO2
    have HB2:=hid (HB.o.trans hB2)
    clear hrun hO2 hB2
    go_wp2_with (first|(at_builtin;refine wk_ rfl _ _ 263 rfl _ _ rfl rfl _ w2 HRUN.o ?_))
    exact⟨pc_next HP.o hql HE.o HI.o (by omega) HO2.o HB2.o,by simp [ivN];have:=HE.o;omega⟩
  ·obtain rfl:p=off+k:=by omega
   have hie:i=pcN off k:=by
    have h1:=pos_more off k i
    omega
   have HIE:=hid hie
   have e0:off+k - (off+k)=0:=by omega
   rw [e0]
   simp only [Int.cast_ofNat_Int]
   clear hie hp e0 hi hpl hlt
   go_wp2
   go_ret
   rw [HIE.o] at HOW
   refine⟨a,cap,by rw [HIE.o];rfl,?_,b_c HBW.o HB.o⟩
   exact own_mono HOW.o (Nat.le_of_lt HWS.o)
theorem take_range_map (l:List Nat)(p f:Nat)(h:p+f≤l.length):(l.drop p).take f=(List.range f).map λx=>l.getD (p+x) 0:=by
 refine List.ext_getElem (by simp;omega) λj h1 h2=>?_
 simp at h2
 simp [List.getElem_take,List.getElem_drop,List.getD_eq_getElem?_getD,gE (show p+j<l.length by omega)]
theorem rd_piece {B:Nat→Nat→Nat}{pages data:List Nat}{off:Nat}(hb:∀j,j<data.length→B (pages.getD (j / 64) 0) (j%64)=data.getD j 0)(hle:off+k≤data.length)(h:pos off k i<off+k) :
  (data.drop off).take (pos off k (i+1) - off)=(data.drop off).take (pos off k i - off)++pgL B (pages.getD (off / 64+i) 0) (pos off k i%64) (pos off k (i+1) - pos off k i):=by
 have h1:=pos_div h
 have h2:=pos_next h
 have h3:=pos_le off k i
 have e1:pos off k (i+1) - off=(pos off k i - off)+(pos off k (i+1) - pos off k i):=by omega
 rw [e1,List.take_add,List.drop_drop,show off+(pos off k i - off)=pos off k i by omega,take_range_map data (pos off k i) (pos off k (i+1) - pos off k i) (by omega)]
 congr 1
 refine List.map_congr_left λx hx=>?_
 have hx2:x<pos off k (i+1) - pos off k i:=by simpa using hx
 have:=hb (pos off k i+x) (by omega)
 rw [←this,←h1]
 congr 2
 ·omega
 ·omega
theorem pg_at {pages data:List Nat}{off:Nat}(hl:pages.length=needN data.length)(hle:off+k≤data.length)(h:pos off k i<off+k):off / 64+i<pages.length:=by
 have h1:=pos_div h
 have h2:=pos_le off k i
 unfold needN at hl
 omega
theorem pc_cells {cap c:Nat}{pages:List Nat}{off:Nat}(h:w.ownsRow base 266 3 (.slice a c cap) c (pcs pages off k c))(hi:i<c) :
  ∃gp,a=some ⟨gp,0,none⟩∧base≤gp∧gp<w.heap.size∧w.cell? ⟨gp,i*3,none⟩=some (.int .i64 ((pages.getD (off / 64+i) 0:Nat):Int))∧w.cell? ⟨gp,i*3+1,none⟩=some (.int .i64 ((pos off k i%64:Nat):Int))∧w.cell? ⟨gp,i*3+2,none⟩=some (.int .i64 ((pos off k (i+1) - pos off k i:Nat):Int)):=by
 rcases h.2 with ⟨h1,hn⟩|⟨g,cp,cur,hv,hg,hh,_⟩
 ·omega
 ·simp only [Value.slice.injEq] at hv
  obtain⟨rfl,_,rfl⟩:=hv
  have hc:∀j u,(pcs pages off k c)[j]?=some u→w.cell? ⟨g,j,none⟩=some u:=λj u hu=>by
   have:=h.cells (g:=g) rfl j u hu
   rwa [aa_] at this
  have e0:i*3=3*i:=by omega
  rw [e0]
  refine⟨g,rfl,hg,(Array.getElem?_eq_some_iff.1 hh).1,hc _ _ ?_,hc _ _ ?_,hc _ _ ?_⟩
  ·exact pcs_get pages off k 0 (by omega) c i hi
  ·exact pcs_get pages off k 1 (by omega) c i hi
  ·exact pcs_get pages off k 2 (by omega) c i hi
theorem sread_none (s g pb m n room:Nat)(nx:Int)(t:Nat→Bool)(B:Nat→Nat→Nat)(Os:List Ob)(id off k:Int)(w:World)(h:Sto w s g pb m n room nx t B Os)(hi:-9223372036854775808≤id∧id<9223372036854775808)(ho:at? Os id=none) :
  Calls prog 111 #[.pointer (some ⟨s,0,none⟩),.int .i64 id,.int .i64 off,.int .i64 k] w λe w'=>e=.returned (.tuple #[.slice none 0 0,.int .i64 20])∧Below w.heap.size w w':=by
 have hz:=zero_of info214
 have H:=hid h
 clear h
 go_enter func111,ntmps111
 go_wp2_with (first|(go_at_call 162;refine (slook_none s g pb m n room nx t B Os id off k _ H.o hi ho).mono ?_;rintro e w1 ⟨rfl,hb⟩;have HB:=hid hb;clear hb))
 exact bodyPost_ret (v:=.tuple #[.slice none 0 0,.int .i64 20]) (by simp [results,results111,go_sem]) rfl ⟨rfl,b_c HB.o (below1 _ _)⟩
theorem sread_bad (s g pb m n room:Nat)(nx:Int)(t:Nat→Bool)(B:Nat→Nat→Nat)(Os:List Ob)(id off k:Int)(o:Ob)(w:World)(h:Sto w s g pb m n room nx t B Os)(hi:-9223372036854775808≤id∧id<9223372036854775808)(ho:at? Os id=some o)(hb:¬rdOk o off k) :
  Calls prog 111 #[.pointer (some ⟨s,0,none⟩),.int .i64 id,.int .i64 off,.int .i64 k] w λe w'=>e=.returned (.tuple #[.slice none 0 0,.int .i64 5])∧Below w.heap.size w w':=by
 have hz:=zero_of info214
 have H:=hid h
 clear h
 go_enter func111,ntmps111
 go_wp2_with (first|(go_at_call 162;refine (slook_bad s g pb m n room nx t B Os id off k o _ H.o hi ho hb).mono ?_;rintro e w1 ⟨rfl,hb⟩;have HB:=hid hb;clear hb))
 exact bodyPost_ret (v:=.tuple #[.slice none 0 0,.int .i64 5]) (by simp [results,results111,go_sem]) rfl ⟨rfl,b_c HB.o (below1 _ _)⟩
theorem make_room (k:Nat)(hk:k≤140737488355328):∃Z:Array Value,Z.size=k∧∀W:World,(Instr.makeSlice 39 (.int .i64 0) (.int .i64 (k:Int))).run prog W=.ok (.slice (some ⟨W.heap.size,0,none⟩) 0 k) (W.alloc (.cells Z 5)):=by
 obtain⟨i,hi,hz0,hz1,hz2⟩:=info_parts info5
 refine⟨madeCells (Value.int .u8 0).cells k,size_madeCells _ _,λW=>?_⟩
 have hr:=run_make (P:=prog) W 39 5 i _ underlying39 hi hz0 .i64 .i64 0 (k:Int) (Int.le_refl _) (by omega) (by rw [hz2];omega) (by omega)
 simp only [Int.toNat_natCast,hz1,Nat.mul_one,Int.toNat_zero] at hr
 exact hr
theorem blk_at {o:Nat}(h:Blk (some ⟨b,o,none⟩) k):k=b:=by
 obtain⟨x,hx,rfl⟩:=h
 cases hx
 rfl
def RdRel (w4:World)(b0 off k:Nat)(data:List Nat)(v12 v35:Value)(w':World):Prop :=
 ∃(i m cap:Nat) (a:Option Addr),v12=.slice a m cap∧v35=.int .i64 (i:Int)∧m=pos off k i - off∧i≤pcN off k∧Own w' b0 5 a m cap (u8s ((data.drop off).take m))∧(∀j,Blk a j→j=b0∨w4.heap.size≤j)∧But (·=b0) w4 w'
theorem sread_ok (s g pb m n room:Nat)(nx:Int)(t:Nat→Bool)(B:Nat→Nat→Nat)(Os:List Ob)(id:Int)(off k:Nat)(o:Ob)(w:World)(h:Sto w s g pb m n room nx t B Os)(hi:-9223372036854775808≤id∧id<9223372036854775808)(ho:at? Os id=some o)(hle:off+k≤o.data.length)(hk:k≤1024) :
  Calls prog 111 #[.pointer (some ⟨s,0,none⟩),.int .i64 id,.int .i64 (off:Int),.int .i64 (k:Int)] w λe w'=>∃a cap,e=.returned (.tuple #[.slice a k cap,.int .i64 0])∧Own w' w.heap.size 5 a k cap (u8s ((o.data.drop off).take k))∧Below w.heap.size w w':=by
 have hz:=zero_of info214
 have hz75:=zero_of info266
 have hmem:=(at_mem ho).1
 have hbig:=h.big o hmem
 have HRow:=hid (h.rows o hmem)
 have HLen:=hid (h.len o hmem)
 have HByt:=hid (h.bytes o hmem)
 have HPg:Hid (∀p∈o.pages,t p=true):=hid (λp hp=>(h.mem hmem hp).1)
 have H:=hid h
 have HRK:Hid (rdOk o (off:Int) (k:Int)):=hid (by unfold rdOk;omega)
 have hsl:=World.block_lt_of_cell? _ _ h.c0.1
 have hgl:=h.arn.glt
 have hpl:=h.arn.lt
 obtain⟨sz,hsz⟩:∃sz,sz=o.data.length:=⟨_,rfl⟩
 obtain⟨PN,hPN⟩:∃PN,PN=o.pages.length:=⟨_,rfl⟩
 have hP64:off+k≤64*o.pages.length:=by have:=HLen.o;unfold needN at this;omega
 have HP64:=hid hP64
 obtain⟨Z,hZs,hmk⟩:=make_room k (by omega)
 have HZs:=hid hZs
 have HLE:=hid hle
 have hb4:off+k≤4096:=by omega
 clear h hP64 hZs hle
 go_enter func111,ntmps111
 go_upto_region 5 with (first|(go_at_call 162;refine (slook_ok s g pb m n room nx t B Os id (off:Int) (k:Int) o _ H.o hi ho HRK.o).mono ?_;rintro e w1 ⟨rfl,hb⟩;have HB:=hid hb;clear hb))
 have hw1:=HB.o.size
 obtain⟨w3,hw3⟩:∃w3,w3=(w1.alloc (Obj.cells #[Value.int .i64 (o.data.length:Int),Value.slice o.adr o.pages.length o.pages.length] 214)).alloc (Obj.cells Z 5):=⟨_,rfl⟩
 have HB3:Hid (Below w.heap.size w w3):=hid (by rw [hw3];exact b_c HB.o (below2 _ _ _))
 have HS3:Hid (w3.heap.size=w1.heap.size+2):=hid (by rw [hw3];simp)
 have HO0:Hid (Own w3 (w1.heap.size+1) 5 (some ⟨w1.heap.size+1,0,none⟩) 0 k []):=hid (by
  have:=World.ownsRow_made (base:=w1.heap.size+1) (size:=1) (e:=5) (w1.alloc (Obj.cells #[Value.int .i64 (o.data.length:Int),Value.slice o.adr o.pages.length o.pages.length] 214)) Z k (by simp) (by unfold maxLen;omega) (by rw [HZs.o];omega)
  rw [World.size_alloc] at this
  rw [hw3]
  exact⟨this,λ_ h=>(by cases h)⟩)
 have x10a:w3.cell? ⟨w1.heap.size,0,none⟩=some (.int .i64 (o.data.length:Int)):=by rw [hw3];exact cell_later (below1 _ _) (lies_new _ _ _ 0 _ rfl).1
 have x10b:w3.cell? ⟨w1.heap.size,1,none⟩=some (.slice o.adr o.pages.length o.pages.length):=by rw [hw3];exact cell_later (below1 _ _) (lies_new _ _ _ 1 _ rfl).1
 rw [←hw3]
 obtain⟨b0,hb0⟩:∃b0,b0=w1.heap.size+1:=⟨_,rfl⟩
 rw [←hb0] at HO0
 rw [←hb0]
 have HB0:=hid hb0
 clear hw3 hmk hb0 hz
 go_upto_region 6 with (first|(go_at_call 163;refine (pieces_any (o.data.length:Int) o.adr o.pages off k _ (HRow.o.later HB3.o) HP64.o hb4).mono ?_;rintro e w4 ⟨ap,capp,rfl,OP,hb⟩;have HOP:=hid OP;have HB4:=hid hb;clear OP hb))
 clear x10a x10b
 have HA4:=hid ((H.o.arn.later HB3.o).later HB4.o)
 have HC4:=hid (cell_later HB4.o (cell_later HB3.o H.o.c0.1))
 obtain⟨c,hc⟩:∃c,c=pcN off k:=⟨_,rfl⟩
 rw [←hc] at HOP
 rw [←hc]
 have HCN:=hid hc
 have hc64:c≤4096:=by rw [hc];unfold pcN;split<;>omega
 clear hc
 go_loopw [12,35] (RdRel w4 b0 off k o.data) (λ_ v _=>c - ivN v)
 case atStart =>
  refine⟨0,0,k,_,rfl,rfl,by rw [pos_zero];omega,Nat.zero_le _,HO0.o.later HB4.o,λj hj=>.inl (blk_at hj),But.refl _ _⟩
 case round =>
  obtain⟨i,l,cap,a,rfl,rfl,hl,hin,hO,hBl,hBt⟩:=hrel
  have HL:=hid hl
  have HO:=hid hO
  have HBl:=hid hBl
  have HBt:=hid hBt
  have HIN:=hid hin
  clear hl hO hBl hBt hin
  have hb0n:b0≠s∧b0≠g∧b0≠pb:=by have:=HB0.o;omega
  obtain⟨hn1,hn2,hn3⟩:=hb0n
  have HA:=hid (HA4.o.but HBt.o (Ne.symm hn2) (Ne.symm hn3))
  have xs:=cb_ HBt.o HC4.o (Ne.symm hn1)
  by_cases hlt:i<c
  ·have hd:decide ((i:Int)<(c:Int))=true:=dT (by omega)
   have hpi:pos off k i<off+k:=(pos_more off k i).1 (by have:=HCN.o;omega)
   obtain⟨gp,rfl,hg1,hg2,y0,y1,y2⟩:=pc_cells HOP.o hlt
   have hgb:gp≠b0:=by have:=HB0.o;have:=HS3.o;omega
   replace y0:=cb_ HBt.o y0 hgb
   replace y1:=cb_ HBt.o y1 hgb
   replace y2:=cb_ HBt.o y2 hgb
   have hql:=pg_at HLen.o HLE.o hpi
   have HNX:=hid (rd_piece HByt.o HLE.o hpi)
   have hnx:=pos_next hpi
   have hpl2:=pos_le off k i
   obtain⟨pg,hpg⟩:∃pg,pg=o.pages.getD (off / 64+i) 0:=⟨_,rfl⟩
   obtain⟨st,hst⟩:∃st,st=pos off k i%64:=⟨_,rfl⟩
   obtain⟨f,hf⟩:∃f,f=pos off k (i+1) - pos off k i:=⟨_,rfl⟩
   have HT:Hid (t pg=true):=hid (HPg.o pg (by rw [hpg,List.getD_eq_getElem?_getD,gE hql];exact List.getElem_mem _))
   have hsf:st+f≤64:=by omega
   rw [←hpg,←hst,←hf] at HNX
   rw [←hpg] at y0
   rw [←hst] at y1
   rw [←hf] at y2
   have HLF:Hid (pos off k (i+1) - off=l+f):=hid (by have:=HL.o;omega)
   have hlf:l+f≤4096:=by have:=HLF.o;have:=pos_le off k (i+1);omega
   clear hpg hst hf hnx hpl2 hpi hql
   go_upto_region 8 with fail
   obtain⟨w5,hw5⟩:∃w5,w5=wr.alloc (Obj.cells #[Value.int .i64 (pg:Int),Value.int .i64 (st:Int),Value.int .i64 (f:Int)] 266):=⟨_,rfl⟩
   have HB5:Hid (Below wr.heap.size wr w5):=hid (by rw [hw5];exact below1 _ _)
   have HS:Hid (∀W,Below w5.heap.size w5 W→(W.cell? ⟨s,0,none⟩=some (.pointer (some ⟨g,0,none⟩))∧W.cell? ⟨wr.heap.size,0,none⟩=some (.int .i64 (pg:Int))∧W.cell? ⟨wr.heap.size,1,none⟩=some (.int .i64 (st:Int))∧W.cell? ⟨wr.heap.size,2,none⟩=some (.int .i64 (f:Int)))∧Below w5.heap.size w5 W):=hid (by
    intro W hW
    refine⟨⟨cell_later hW (cell_later HB5.o xs),?_,?_,?_⟩,hW⟩<;>refine cell_later hW ?_<;>rw [hw5]
    ·exact (lies_new _ _ _ 0 _ rfl).1
    ·exact (lies_new _ _ _ 1 _ rfl).1
    ·exact (lies_new _ _ _ 2 _ rfl).1)
   rw [←hw5]
   have HA5:=hid (HA.o.later HB5.o)
   clear hw5 y0 y1 y2 xs
   go_region_held3 (λW=>(W.cell? ⟨s,0,none⟩=some (.pointer (some ⟨g,0,none⟩))∧W.cell? ⟨wr.heap.size,0,none⟩=some (.int .i64 (pg:Int))∧W.cell? ⟨wr.heap.size,1,none⟩=some (.int .i64 (st:Int))∧W.cell? ⟨wr.heap.size,2,none⟩=some (.int .i64 (f:Int)))∧Below w5.heap.size w5 W) (first|exact HS.o _ (Below.refl _ _).drew|exact HS.o _ hb2.out) (first|(go_at_call 164;refine (read_ok g pb n t B pg st f _ (HA5.o.later (Below.refl _ _).drew) HT.o hsf).mono ?_;rintro e w6 ⟨a6,rfl,A6,hb6⟩;have hb2:=hid (b_c (Below.refl w5.heap.size w5).drew hb6)))
   have HB6:=hid (b_c HB5.o hb2.out)
   obtain⟨a',cap',w7,hrun,hO7,hG⟩:=append_bytes (HO.o.later HB6.o) A6.row (by have:=HB6.o.size;have:=HBt.o.size;have:=HB4.o.size;have:=HS3.o;have:=HB0.o;omega) (by omega)
   have HRUN:=hid hrun
   have HO7:=hid hO7
   have HG:=hid hG
   clear hrun hO7 hG A6 hb6
   go_wp2_with (first|(at_builtin;refine wk_ rfl _ _ 39 rfl _ _ rfl rfl _ w7 HRUN.o ?_))
   have hBt6:=HBt.o.call HB6.o
   refine⟨⟨i+1,l+f,cap',a',rfl,rfl,HLF.o.symm,by have:=HCN.o;omega,?_,λj hj=>?_,hBt6.comp HG.o.but (λj hj=>?_)⟩,by simp [ivN];omega⟩
   ·have e:(o.data.drop off).take (l+f)=(o.data.drop off).take l++pgL B pg st f:=by
     have:=HNX.o
     rw [HLF.o,←HL.o] at this
     exact this
    rw [e,u8s_append]
    exact HO7.o
   ·rcases HG.o.on j hj with h1|h1
    ·exact HBl.o j h1
    ·exact .inr (Nat.le_trans hBt6.size h1)
   ·exact HBl.o j hj
  ·obtain rfl:i=c:=by have:=HIN.o;have:=HCN.o;omega
   have hd:decide ((i:Int)<(i:Int))=false:=by simp
   have HLK:Hid (l=k):=hid (by
    have h1:=HL.o
    rw [HCN.o,pos_end] at h1
    omega)
   clear xs
   go_wp2
   have hlk:=HLK.o
   subst hlk
   have hw:Below w.heap.size w wr:=But.below (S:=(·=b0)) (b_c HB3.o HB4.o) HBt.o (λj hj=>by have:=HB0.o;omega)
   refine bodyPost_ret (v:=.tuple #[.slice a l cap,.int .i64 0]) (by simp [results,results111,go_sem]) rfl ⟨a,cap,rfl,HO.o.mono (by have:=HB0.o;omega),hw⟩
theorem slice_from (t e:TypeId)(hu:prog.underlying t=some (.slice (prog.elem t)))(hs:∀W:World,(sizeOf (prog.elem t)).run prog W=.ok 1 W)(a:Option Addr)(r cap f:Nat)(hf:f≤r) :
  ∃a',(∀W:World,(Instr.sliceAt t (.slice a r cap) (some (.int .i64 (f:Int))) none none).run prog W=.ok (.slice a' (r - f) (cap - f)) W)∧(cap=f∧a'=a∨a'=a.map (·.add f)):=by
 have h:∀W:World,(Instr.sliceAt t (.slice a r cap) (some (.int .i64 (f:Int))) none none).run prog W=.ok (sliced a f r cap 1) W:=λW=>by
  rw [run_sliceAt_slice W t _ _ _ _ hu,run_slice_l W t a r cap hu .i64 (f:Int) (by omega) (by omega),hs]
  simp
 by_cases hc:cap=f
 ·exact⟨a,λW=>by rw [h W];simp [sliced,hc],.inl ⟨hc,rfl⟩⟩
 ·exact⟨a.map (·.add f),λW=>by rw [h W];simp [sliced,hc],.inr rfl⟩
theorem add_add (x:Addr)(i j:Nat):(x.add i).add j=x.add (i+j):=by
 unfold Addr.add
 by_cases hi:i=0
 ·subst hi
  simp
 ·by_cases hj:j=0
  ·subst hj
   simp
  ·rw [if_neg hi,if_neg hj,if_neg (by omega)]
   simp [Nat.add_assoc]
theorem _root_.Go.Proofs.YtfmhdimaijimlaaGreatDoor.Row.from {a':Option Addr}{r cap f:Nat}{L:List Value}(h:Row w a r cap L)(hf:f≤r)(ha:cap=f∧a'=a∨a'=a.map (·.add f)):Row w a' (r - f) (cap - f) (L.drop f)∧∀k,Blk a' k→Blk a k:=by
 have hc:=h.cap_
 rcases ha with ⟨e,rfl⟩|rfl
 ·have hrf:r=f:=by omega
  refine⟨⟨by rw [List.length_drop,h.len],by omega,λ_=>by omega,λx hx j u hu=>?_,λu hu=>h.one u (List.mem_of_mem_drop hu)⟩,λ_ h=>h⟩
  rw [List.drop_of_length_le (by rw [h.len];omega)] at hu
  cases hu
 ·refine⟨⟨by rw [List.length_drop,h.len],by omega,λe=>?_,λx hx j u hu=>?_,λu hu=>h.one u (List.mem_of_mem_drop hu)⟩,λk hk=>?_⟩
  ·cases a with
   | none=>have:=h.none_ rfl;omega
   | some x=>cases e
  ·cases a with
   | none=>cases hx
   | some y =>
    simp only [Option.map_some,Option.some.injEq] at hx
    subst hx
    rw [add_add]
    exact h.cells y rfl (f+j) u (by rw [←List.getElem?_drop];exact hu)
  ·obtain⟨x,hx,rfl⟩:=hk
   cases a with
   | none=>cases hx
   | some y =>
    simp only [Option.map_some,Option.some.injEq] at hx
    subst hx
    exact⟨y,rfl,(add_block y f).symm⟩
theorem u8s_drop (L:List Nat)(k:Nat):(u8s L).drop k=u8s (L.drop k):=by simp [u8s,List.map_drop]
theorem u8s_take (L:List Nat)(k:Nat):(u8s L).take k=u8s (L.take k):=by simp [u8s,List.map_take]
theorem und30:prog.underlying 39=some (.slice (prog.elem 39)):=by kernel_rfl
theorem size_el30 (W:World):(sizeOf (prog.elem 39)).run prog W=.ok 1 W:=by
 have e:prog.elem 39=5:=by kernel_rfl
 obtain⟨i,hi,hz0,hz1,hz2⟩:=info_parts info5
 rw [e]
 simp [sizeOf,typeInfo,hi,hz1]
def Wrote (pages:List Nat)(B B':Nat→Nat→Nat)(off p:Nat)(D:List Nat):Prop :=
 (∀j,j<64*pages.length→B' (pages.getD (j / 64) 0) (j%64)=if off≤j∧j<p then D.getD (j - off) 0 else B (pages.getD (j / 64) 0) (j%64))∧∀q x,¬q∈pages→B' q x=B q x
theorem wrote_start (pages:List Nat)(B:Nat→Nat→Nat)(off:Nat)(D:List Nat):Wrote pages B B off off D :=
 ⟨λj hj=>by rw [if_neg (by omega)],λ_ _ _=>rfl⟩
theorem getD_mem {l:List Nat}(h:i<l.length):l.getD i 0∈l:=by
 rw [List.getD_eq_getElem?_getD,gE h]
 exact List.getElem_mem _
theorem getD_inj {l:List Nat}(hn:l.Nodup)(hi:i<l.length)(hj:j<l.length)(h:l.getD i 0=l.getD j 0):i=j:=by
 rw [List.getD_eq_getElem?_getD,List.getD_eq_getElem?_getD,gE hi,gE hj] at h
 simp only [Option.getD_some] at h
 unfold List.Nodup at hn
 rw [List.pairwise_iff_getElem] at hn
 rcases Nat.lt_trichotomy i j with h1|h1|h1
 ·exact absurd h (hn i j hi hj h1)
 ·exact h1
 ·exact absurd h.symm (hn j i hj hi h1)
theorem wrote_next {pages:List Nat}{B B':Nat→Nat→Nat}{off:Nat}{D:List Nat}(hn:pages.Nodup)(hk:D.length=k)(hp:off+k≤64*pages.length)(h:pos off k i<off+k)(hw:Wrote pages B B' off (pos off k i) D) :
  Wrote pages B (wrB B' (pages.getD (off / 64+i) 0) (pos off k i%64) ((D.drop (pos off k i - off)).take (pos off k (i+1) - pos off k i))) off (pos off k (i+1)) D:=by
 have h1:=pos_div h
 have h2:=pos_next h
 have h3:=pos_le off k i
 have hl:((D.drop (pos off k i - off)).take (pos off k (i+1) - pos off k i)).length=pos off k (i+1) - pos off k i:=by
  rw [List.length_take,List.length_drop]
  omega
 generalize pos off k i=p at *
 generalize pos off k (i+1)=p2 at *
 rw [←h1]
 refine⟨λj hj=>?_,λq x hq=>?_⟩
 ·unfold wrB
  rw [hl]
  by_cases e:j / 64=p / 64
  ·rw [e]
   by_cases e2:p≤j∧j<p2
   ·rw [if_pos ⟨rfl,by omega,by omega⟩,if_pos (by omega)]
    rw [List.getD_eq_getElem?_getD,List.getElem?_take,if_pos (by omega),List.getElem?_drop,List.getD_eq_getElem?_getD]
    congr 2
    omega
   ·rw [if_neg (by omega)]
    have:=hw.1 j hj
    rw [e] at this
    rw [this]
    by_cases e3:off≤j∧j<p
    ·rw [if_pos e3,if_pos (by omega)]
    ·rw [if_neg e3,if_neg (by omega)]
  ·rw [if_neg (λe2=>e (getD_inj hn (by omega) (by omega) e2.1)),hw.1 j hj]
   by_cases e3:off≤j∧j<p
   ·rw [if_pos e3,if_pos (by omega)]
   ·rw [if_neg e3,if_neg (by omega)]
 ·unfold wrB
  rw [if_neg (λe=>hq (by rw [e.1];exact getD_mem (by omega)))]
  exact hw.2 q x hq
def putL (L D:List Nat)(off:Nat):List Nat:=L.take off++D++L.drop (off+D.length)
theorem putL_length {L D:List Nat}{off:Nat}(h:off+D.length≤L.length):(putL L D off).length=L.length:=by
 simp [putL]
 omega
theorem putL_get {L D:List Nat}{off:Nat}(h:off+D.length≤L.length)(j:Nat):(putL L D off).getD j 0=if off≤j∧j<off+D.length then D.getD (j - off) 0 else L.getD j 0:=by
 unfold putL
 simp only [List.getD_eq_getElem?_getD]
 have hl:(L.take off).length=off:=by rw [List.length_take];omega
 by_cases h1:j<off
 ·rw [if_neg (by omega),List.append_assoc,List.getElem?_append_left (by omega),List.getElem?_take,if_pos h1]
 ·by_cases h2:j<off+D.length
  ·rw [if_pos (by omega),List.append_assoc,List.getElem?_append_right (by omega),List.getElem?_append_left (by omega),hl]
  ·rw [if_neg (by omega),List.getElem?_append_right (by rw [List.length_append,hl];omega),List.getElem?_drop,List.length_append,hl]
   congr 2
   omega
def setO (id:Int)(off:Nat)(D:List Nat)(o:Ob):Ob:=if o.id=id then { o with data:=putL o.data D off } else o
theorem setO_id (id:Int)(off:Nat)(D:List Nat)(o:Ob):(setO id off D o).id=o.id:=by unfold setO;split<;>rfl
theorem setO_pages (id:Int)(off:Nat)(D:List Nat)(o:Ob):(setO id off D o).pages=o.pages:=by unfold setO;split<;>rfl
theorem setO_adr (id:Int)(off:Nat)(D:List Nat)(o:Ob):(setO id off D o).adr=o.adr:=by unfold setO;split<;>rfl
theorem allP_setO (id:Int)(off:Nat)(D:List Nat)(Os:List Ob):allP (Os.map (setO id off D))=allP Os:=by
 unfold allP
 rw [List.flatMap_map]
 congr 1
 funext o
 exact setO_pages id off D o
theorem at_uniq {Os:List Ob}{id:Int}{o p:Ob}(hr:Os.Pairwise (λa b=>a.id<b.id))(ho:at? Os id=some o)(hp:p∈Os)(e:p.id=id):p=o:=by
 have hom:=at_mem ho
 obtain⟨i,hi,rfl⟩:=List.getElem_of_mem hp
 obtain⟨j,hj,rfl⟩:=List.getElem_of_mem hom.1
 rw [List.pairwise_iff_getElem] at hr
 have hij:i=j:=by
  rcases Nat.lt_trichotomy i j with h|h|h
  ·have:=hr i j hi hj h;have:=hom.2;omega
  ·exact h
  ·have:=hr j i hj hi h;have:=hom.2;omega
 subst hij
 rfl
theorem nodup_flat:∀{Os:List Ob},(allP Os).Nodup→(∀o∈Os,o.pages.Nodup)∧∀o∈Os,∀p∈Os,o.id≠p.id→∀x,x∈o.pages→¬x∈p.pages
 | [],_=>⟨λ_ h=>(by cases h),λ_ h=>(by cases h)⟩
 | a::r,h=>by
  have h2:(a.pages++allP r).Nodup:=by simpa [allP] using h
  rw [List.nodup_append] at h2
  obtain⟨n1,n2,n3⟩:=h2
  obtain⟨i1,i2⟩:=nodup_flat n2
  refine⟨λo ho=>?_,λo ho p hp hne x hx hy=>?_⟩
  ·rcases List.mem_cons.1 ho with rfl|h
   ·exact n1
   ·exact i1 o h
  ·rcases List.mem_cons.1 ho with rfl|h1
   ·rcases List.mem_cons.1 hp with rfl|h2
    ·exact hne rfl
    ·exact n3 x hx x (List.mem_flatMap.2 ⟨p,h2,hy⟩) rfl
   ·rcases List.mem_cons.1 hp with rfl|h2
    ·exact n3 x hy x (List.mem_flatMap.2 ⟨o,h1,hx⟩) rfl
    ·exact i2 o h1 p h2 hne x hx hy
theorem mapD_setO {Os:List Ob}{id:Int}{off:Nat}{D:List Nat}(h:∀o∈Os,o.id=id→off+D.length≤o.data.length):mapD (Os.map (setO id off D))=mapD Os:=by
 unfold mapD
 rw [List.map_map]
 congr 1
 refine List.map_congr_left λo ho=>?_
 simp only [Function.comp,ent,setO_id]
 congr 2
 unfold Ob.val
 rw [setO_pages,setO_adr]
 have e:(setO id off D o).data.length=o.data.length:=by
  unfold setO
  split
  ·exact putL_length (h o ho (by assumption))
  ·rfl
 rw [e]
theorem rise_setO (id:Int)(off:Nat)(D:List Nat){Os:List Ob}(h:Os.Pairwise (λa b=>a.id<b.id)):Os.Pairwise (λa b=>(setO id off D a).id<(setO id off D b).id):=by
 simp only [setO_id]
 exact h
theorem Sto.write {s pb room:Nat}{nx:Int}{t:Nat→Bool}{B B':Nat→Nat→Nat}{Os:List Ob}{id:Int}{o:Ob}{off:Nat}{D:List Nat}(h:Sto w s g pb m n room nx t B Os)(ho:at? Os id=some o)(hle:off+D.length≤o.data.length)
  (hA:Arn w' g pb n t B') (hW:Wrote o.pages B B' off (off+D.length) D) (hb:But (·=pb) w w'):Sto w' s g pb m n room nx t B' (Os.map (setO id off D)):=by
 have hm:=at_mem ho
 have hall:∀p∈Os,p.id=id→off+D.length≤p.data.length:=λp hp e=>by rw [at_uniq h.rise ho hp e];exact hle
 obtain⟨n1,n2⟩:=nodup_flat h.nd
 have hmem:∀q∈Os.map (setO id off D),∃p∈Os,q=setO id off D p:=λq hq=>by
  obtain⟨p,hp,e⟩:=List.mem_map.1 hq
  exact⟨p,hp,e.symm⟩
 have hdl:∀p∈Os,(setO id off D p).data.length=p.data.length:=λp hp=>by
  unfold setO
  split
  ·exact putL_length (hall p hp (by assumption))
  ·rfl
 refine⟨hA,h.c0.but hb h.sp,h.c1.but hb h.sp,h.c2.but hb h.sp,h.c3.but hb h.sp,?_,h.sg,h.sp,h.sm,h.gm,h.pm,λq hq=>?_,λq hq k hk=>?_,λq hq=>?_,by rw [allP_setO];exact h.nd,λi=>by rw [allP_setO];exact h.tks i,λq hq j hj=>?_,?_,λq hq=>?_,h.nx1,by rw [List.length_map];exact h.rm,λq hq=>?_⟩
 ·rw [List.length_map,mapD_setO hall]
  exact owns_but hb h.map (λe=>h.pm e.symm)
 ·obtain⟨p,hp,rfl⟩:=hmem q hq
  rw [setO_adr,setO_pages]
  exact (h.rows p hp).but hb (λk hk=>(h.off p hp k hk).2.2.1)
 ·obtain⟨p,hp,rfl⟩:=hmem q hq
  rw [setO_adr] at hk
  obtain⟨a1,a2,a3,a4,a5⟩:=h.off p hp k hk
  exact⟨a1,a2,a3,a4,Nat.lt_of_lt_of_le a5 hb.size⟩
 ·obtain⟨p,hp,rfl⟩:=hmem q hq
  rw [setO_pages,hdl p hp]
  exact h.len p hp
 ·obtain⟨p,hp,rfl⟩:=hmem q hq
  rw [hdl p hp] at hj
  rw [setO_pages]
  have hlp:=h.len p hp
  have hq:j / 64<p.pages.length:=by unfold needN at hlp;omega
  by_cases e:p.id=id
  ·obtain rfl:=at_uniq h.rise ho hp e
   unfold setO
   rw [if_pos e,hW.1 j (by omega),putL_get hle j,h.bytes p hp j hj]
  ·rw [hW.2 _ _ (n2 p hp o hm.1 (by rw [hm.2];exact e) _ (getD_mem hq)),h.bytes p hp j hj]
   unfold setO
   rw [if_neg e]
 ·rw [List.pairwise_map]
  exact rise_setO id off D h.rise
 ·obtain⟨p,hp,rfl⟩:=hmem q hq
  rw [setO_id]
  exact h.ids p hp
 ·obtain⟨p,hp,rfl⟩:=hmem q hq
  rw [hdl p hp]
  exact h.big p hp
theorem swrite_none (s g pb m n room:Nat)(nx:Int)(t:Nat→Bool)(B:Nat→Nat→Nat)(Os:List Ob)(id off:Int)(da:Option Addr)(k cd:Nat)(w:World)(h:Sto w s g pb m n room nx t B Os)(hi:-9223372036854775808≤id∧id<9223372036854775808)(ho:at? Os id=none) :
  Calls prog 112 #[.pointer (some ⟨s,0,none⟩),.int .i64 id,.int .i64 off,.slice da k cd] w λe w'=>e=.returned (.int .i64 20)∧Below w.heap.size w w':=by
 have hz:=zero_of info214
 have H:=hid h
 clear h
 go_enter func112,ntmps112
 go_wp2_with (first|(go_at_call 162;refine (slook_none s g pb m n room nx t B Os id off (k:Int) _ H.o hi ho).mono ?_;rintro e w1 ⟨rfl,hb⟩;have HB:=hid hb;clear hb))
 go_ret
 exact⟨rfl,b_c HB.o (below1 _ _)⟩
theorem swrite_bad (s g pb m n room:Nat)(nx:Int)(t:Nat→Bool)(B:Nat→Nat→Nat)(Os:List Ob)(id off:Int)(o:Ob)(da:Option Addr)(k cd:Nat)(w:World)(h:Sto w s g pb m n room nx t B Os)(hi:-9223372036854775808≤id∧id<9223372036854775808)(ho:at? Os id=some o)(hb:¬rdOk o off (k:Int)) :
  Calls prog 112 #[.pointer (some ⟨s,0,none⟩),.int .i64 id,.int .i64 off,.slice da k cd] w λe w'=>e=.returned (.int .i64 5)∧Below w.heap.size w w':=by
 have hz:=zero_of info214
 have H:=hid h
 clear h
 go_enter func112,ntmps112
 go_wp2_with (first|(go_at_call 162;refine (slook_bad s g pb m n room nx t B Os id off (k:Int) o _ H.o hi ho hb).mono ?_;rintro e w1 ⟨rfl,hb⟩;have HB:=hid hb;clear hb))
 go_ret
 exact⟨rfl,b_c HB.o (below1 _ _)⟩
def WrRel (w4:World)(g pb n:Nat)(t:Nat→Bool)(B:Nat→Nat→Nat)(pages:List Nat)(off k:Nat)(da:Option Addr)(D:List Nat)(v3 v31:Value)(w':World):Prop :=
 ∃(i r cd:Nat) (ad:Option Addr) (B':Nat→Nat→Nat),v3=.slice ad r cd∧v31=.int .i64 (i:Int)∧r=off+k - pos off k i∧i≤pcN off k∧Row w' ad r cd (u8s (D.drop (pos off k i - off)))∧(∀j,Blk ad j→Blk da j)∧Arn w' g pb n t B'∧Wrote pages B B' off (pos off k i) D∧But (·=pb) w4 w'
theorem swrite_ok (s g pb m n room:Nat)(nx:Int)(t:Nat→Bool)(B:Nat→Nat→Nat)(Os:List Ob)(id:Int)(off:Nat)(o:Ob)(da:Option Addr)(k cd:Nat)(D:List Nat)(w:World)(h:Sto w s g pb m n room nx t B Os)(hi:-9223372036854775808≤id∧id<9223372036854775808)(ho:at? Os id=some o)(hle:off+k≤o.data.length)(hk:k≤1024)(hR:Row w da k cd (u8s D))(hD:∀x∈D,x<256)(hap:0<k→∀j,Blk da j→j≠pb) :
  Calls prog 112 #[.pointer (some ⟨s,0,none⟩),.int .i64 id,.int .i64 (off:Int),.slice da k cd] w λe w'=>∃B',e=.returned (.int .i64 0)∧Sto w' s g pb m n room nx t B' (Os.map (setO id off D))∧But (·=pb) w w':=by
 have hz:=zero_of info214
 have hz75:=zero_of info266
 have hmem:=(at_mem ho).1
 have hbig:=h.big o hmem
 have HRow:=hid (h.rows o hmem)
 have HLen:=hid (h.len o hmem)
 have HPg:Hid (∀p∈o.pages,t p=true):=hid (λp hp=>(h.mem hmem hp).1)
 have HND:=hid ((nodup_flat h.nd).1 o hmem)
 have H:=hid h
 have HRK:Hid (rdOk o (off:Int) (k:Int)):=hid (by unfold rdOk;omega)
 have hsl:=World.block_lt_of_cell? _ _ h.c0.1
 have hgl:=h.arn.glt
 have hpl:=h.arn.lt
 have hsp:=h.sp
 have hDl:D.length=k:=by have:=hR.len;rwa [u8s_length] at this
 have HDL:=hid hDl
 have hP64:off+k≤64*o.pages.length:=by have:=HLen.o;unfold needN at this;omega
 have HP64:=hid hP64
 have HLE:=hid hle
 have HR:=hid hR
 have HD:=hid hD
 have HAP:=hid hap
 have hb4:off+k≤4096:=by omega
 clear h hP64 hle hR hD hap hDl
 go_enter func112,ntmps112
 go_upto_region 4 with (first|(go_at_call 162;refine (slook_ok s g pb m n room nx t B Os id (off:Int) (k:Int) o _ H.o hi ho HRK.o).mono ?_;rintro e w1 ⟨rfl,hb⟩;have HB:=hid hb;clear hb))
 obtain⟨w3,hw3⟩:∃w3,w3=w1.alloc (Obj.cells #[Value.int .i64 (o.data.length:Int),Value.slice o.adr o.pages.length o.pages.length] 214):=⟨_,rfl⟩
 have HB3:Hid (Below w.heap.size w w3):=hid (by rw [hw3];exact b_c HB.o (below1 _ _))
 have x10a:w3.cell? ⟨w1.heap.size,0,none⟩=some (.int .i64 (o.data.length:Int)):=by rw [hw3];exact (lies_new _ _ _ 0 _ rfl).1
 have x10b:w3.cell? ⟨w1.heap.size,1,none⟩=some (.slice o.adr o.pages.length o.pages.length):=by rw [hw3];exact (lies_new _ _ _ 1 _ rfl).1
 rw [←hw3]
 clear hw3 hz
 go_upto_region 5 with (first|(go_at_call 163;refine (pieces_any (o.data.length:Int) o.adr o.pages off k _ (HRow.o.later HB3.o) HP64.o hb4).mono ?_;rintro e w4 ⟨ap,capp,rfl,OP,hb⟩;have HOP:=hid OP;have HB4:=hid hb;clear OP hb))
 clear x10a x10b
 have HH4:=hid ((H.o.later HB3.o).later HB4.o)
 have HR4:=hid ((HR.o.later HB3.o).later HB4.o)
 obtain⟨c,hc⟩:∃c,c=pcN off k:=⟨_,rfl⟩
 rw [←hc] at HOP
 rw [←hc]
 have HCN:=hid hc
 have hc64:c≤4096:=by rw [hc];unfold pcN;split<;>omega
 have hs3:=HB3.o.size
 clear hc
 go_loopw [3,31] (WrRel w4 g pb n t B o.pages off k da D) (λ_ v _=>c - ivN v)
 case atStart =>
  exact⟨0,k,cd,da,B,rfl,rfl,by rw [pos_zero];omega,Nat.zero_le _,by rw [pos_zero,Nat.sub_self];exact HR4.o,λ_ h=>h,HH4.o.arn,by rw [pos_zero];exact wrote_start _ _ _ _,But.refl _ _⟩
 case round =>
  obtain⟨i,r,cq,ad,B1,rfl,rfl,hr,hin,hRr,hBl,hA,hW,hBt⟩:=hrel
  have HRR:=hid hr
  have HRr:=hid hRr
  have HBl:=hid hBl
  have HA:=hid hA
  have HW:=hid hW
  have HBt:=hid hBt
  have HIN:=hid hin
  clear hr hRr hBl hA hW hBt hin
  have xs:=cb_ HBt.o HH4.o.c0.1 hsp
  by_cases hlt:i<c
  ·have hd:decide ((i:Int)<(c:Int))=true:=dT (by omega)
   have hpi:pos off k i<off+k:=(pos_more off k i).1 (by have:=HCN.o;omega)
   obtain⟨gp,rfl,hg1,hg2,y0,y1,y2⟩:=pc_cells HOP.o hlt
   have hgb:gp≠pb:=by omega
   replace y0:=cb_ HBt.o y0 hgb
   replace y1:=cb_ HBt.o y1 hgb
   replace y2:=cb_ HBt.o y2 hgb
   have hql:=pg_at HLen.o HLE.o hpi
   have HNX:=hid (wrote_next HND.o HDL.o HP64.o hpi HW.o)
   have hnx:=pos_next hpi
   have hpl2:=pos_le off k i
   obtain⟨pg,hpg⟩:∃pg,pg=o.pages.getD (off / 64+i) 0:=⟨_,rfl⟩
   obtain⟨st,hst⟩:∃st,st=pos off k i%64:=⟨_,rfl⟩
   obtain⟨f,hf⟩:∃f,f=pos off k (i+1) - pos off k i:=⟨_,rfl⟩
   have HT:Hid (t pg=true):=hid (HPg.o pg (by rw [hpg];exact getD_mem hql))
   have hsf:st+f≤64:=by omega
   have hfr:f≤r:=by have:=HRR.o;omega
   rw [←hpg,←hst,←hf] at HNX
   rw [←hpg] at y0
   rw [←hst] at y1
   rw [←hf] at y2
   have HLF:Hid (off+k - pos off k (i+1)=r - f∧pos off k (i+1) - off=pos off k i - off+f):=hid (by have:=HRR.o;omega)
   have hr4:r≤4096:=by have:=HRR.o;omega
   have hcq:=HRr.o.cap_
   obtain⟨a2,hcut,ha2⟩:=slice_from 39 5 und30 size_el30 ad r cq f hfr
   obtain⟨hR2,hBl2⟩:=HRr.o.from hfr ha2
   have HR2:=hid hR2
   have HBl2:=hid hBl2
   have hc0:(0:Int)≤(f:Int):=by omega
   have hc1:(f:Int)≤(cq:Int):=by omega
   have HRf:Hid (Row wr ad f cq (u8s ((D.drop (pos off k i - off)).take f))):=hid (by
    have:=HRr.o.sub (m:=f) (c:=cq) hfr (by omega) (λe=>(HRr.o.none_ e).2)
    rwa [u8s_take] at this)
   have HDs:Hid (∀x∈(D.drop (pos off k i - off)).take f,x<256):=hid (λx hx=>HD.o x (List.mem_of_mem_drop (List.mem_of_mem_take hx)))
   have HK0:Hid (0<k):=hid (by omega)
   clear hpg hst hf hnx hpl2 hpi hql hR2 hBl2 ha2
   go_upto_region 7 with fail
   obtain⟨w5,hw5⟩:∃w5,w5=wr.alloc (Obj.cells #[Value.int .i64 (pg:Int),Value.int .i64 (st:Int),Value.int .i64 (f:Int)] 266):=⟨_,rfl⟩
   have HB5:Hid (Below wr.heap.size wr w5):=hid (by rw [hw5];exact below1 _ _)
   have hwp:wr.heap.size≠pb:=by have:=HBt.o.size;omega
   have HS:Hid (∀W,But (·=pb) w5 W→(W.cell? ⟨s,0,none⟩=some (.pointer (some ⟨g,0,none⟩))∧W.cell? ⟨wr.heap.size,0,none⟩=some (.int .i64 (pg:Int))∧W.cell? ⟨wr.heap.size,1,none⟩=some (.int .i64 (st:Int))∧W.cell? ⟨wr.heap.size,2,none⟩=some (.int .i64 (f:Int)))∧But (·=pb) w5 W):=hid (by
    intro W hW
    refine⟨⟨cb_ hW (cell_later HB5.o xs) hsp,?_,?_,?_⟩,hW⟩<;>refine cb_ hW ?_ hwp<;>rw [hw5]
    ·exact (lies_new _ _ _ 0 _ rfl).1
    ·exact (lies_new _ _ _ 1 _ rfl).1
    ·exact (lies_new _ _ _ 2 _ rfl).1)
   rw [←hw5]
   have HA5:=hid (HA.o.later HB5.o)
   have HR5:=hid (HRf.o.later HB5.o)
   clear hw5 y0 y1 y2 xs
   have HCUT:=hid hcut
   clear hcut
   go_region_held3 (λW=>(W.cell? ⟨s,0,none⟩=some (.pointer (some ⟨g,0,none⟩))∧W.cell? ⟨wr.heap.size,0,none⟩=some (.int .i64 (pg:Int))∧W.cell? ⟨wr.heap.size,1,none⟩=some (.int .i64 (st:Int))∧W.cell? ⟨wr.heap.size,2,none⟩=some (.int .i64 (f:Int)))∧But (·=pb) w5 W) (first|exact HS.o _ (But.of (Below.refl _ _).drew)|exact HS.o _ hb2.out) (first|(go_at_call 165;refine (write_ok g pb n t B1 pg st _ f cq _ _ (HA5.o.later (Below.refl _ _).drew) HT.o hsf HDs.o (HR5.o.later (Below.refl _ _).drew)).mono ?_;rintro e w6 ⟨rfl,A6,hb6⟩;have hb2:=hid ((But.of (S:=(·=pb)) (Below.refl w5.heap.size w5).drew).trans hb6)))
   have z2:=(HS.o _ hb2.out).1.2.2.2
   have hcut:=HCUT.o w6
   have HA6:=hid A6
   have HBw:=hid (((HBt.o.call HB5.o).trans hb2.out))
   clear A6 hb6
   go_wp2
   refine⟨⟨i+1,r - f,cq - f,a2,_,rfl,rfl,HLF.o.1.symm,by have:=HCN.o;omega,?_,λj hj=>HBl.o j (HBl2.o j hj),HA6.o,HNX.o,HBw.o⟩,by simp [ivN];omega⟩
   have e:u8s (D.drop (pos off k (i+1) - off))=(u8s (D.drop (pos off k i - off))).drop f:=by rw [u8s_drop,List.drop_drop,HLF.o.2]
   rw [e]
   exact (HR2.o.later HB5.o).but hb2.out (λj hj=>HAP.o HK0.o j (HBl.o j (HBl2.o j hj)))
  ·obtain rfl:i=c:=by have:=HIN.o;have:=HCN.o;omega
   have hd:decide ((i:Int)<(i:Int))=false:=by simp
   have HPE:Hid (pos off k i=off+k):=hid (by rw [HCN.o];exact pos_end off k)
   clear xs
   go_wp2
   go_ret
   have hW:=HW.o
   rw [HPE.o,←HDL.o] at hW
   refine⟨B1,rfl,HH4.o.write ho (by rw [HDL.o];exact HLE.o) HA.o hW HBt.o,?_⟩
   exact (But.of (b_c HB3.o HB4.o)).trans HBt.o
end Go.Proofs.YtfmhdimaijimlaaGreatDoor.S
