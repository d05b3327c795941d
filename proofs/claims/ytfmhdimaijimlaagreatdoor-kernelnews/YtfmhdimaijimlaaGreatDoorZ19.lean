import Derived.Test.YtfmhdimaijimlaaGreatDoorZ18
import Derived.Maps.OwnSet
import Derived.Lib.SlKeysI
set_option linter.all false
set_option maxRecDepth 1000000
set_option maxHeartbeats 8000000
open Go.Proofs.Tryz
variable {w w' w1 w2:Go.World}{n m k i j b g base kn:Nat}{a:Option Go.Addr}
namespace Go.Proofs.YtfmhdimaijimlaaGreatDoor.S
open Go.RowKit
structure Ob where
 id:Int
 data:List Nat
 aj:List Nat
 jU:Option Addr
def Ob.val (o:Ob):Value:=.agg #[.int .i64 (o.data.length:Int),.slice o.jU o.aj.length o.aj.length]
def hr:Value->Option (DataW Value×List MemPlace):=λv=>some (.held v,[])
def eR (o:Ob):Lit×DataW Value:=(.int .i64 o.id,.held o.val)
def dZ (Os:List Ob):DataW Value:=.map (Os.map eR)
theorem iX (o:Ob)(id:Int):(eR o).1.sameKey (.int .i64 id)=decide (o.id=id):=by simp [eR,Lit.sameKey]
theorem yB (Os:List Ob)(id:Int):Maps.has (dZ Os) (.int .i64 id)=Os.any (λo=>decide (o.id=id)):=by
 rw [dZ,Maps.has_eq,List.any_map]
 congr 1
 funext o
 exact iX o id
theorem uC (Os:List Ob)(id:Int)(z:DataW Value):(dZ Os).atKey (.int .i64 id) z=match Os.find? (λo=>decide (o.id=id)) with|some o=>.held o.val|none=>z:=by
 unfold dZ DataW.atKey
 simp only [List.find?_map]
 have e:((λp:Lit×DataW Value=>p.1.sameKey (.int .i64 id)) ∘ eR)=λo=>decide (o.id=id):=by funext o;exact iX o id
 rw [e]
 cases Os.find? (λo=>decide (o.id=id))<;>rfl
theorem gN (x:Lit×DataW Value):∀l:List (Lit×DataW Value),(∀p∈l,x.1.before p.1=false)->DataW.insert x l=l++[x]
 | [],_=>rfl
 | y::r,h=>by
  rw [DataW.insert,if_neg (by rw [h y (by simp)];simp),gN x r (λp hp=>h p (by simp [hp]))]
  rfl
theorem zZ (Os:List Ob)(o:Ob)(h:∀p∈Os,p.id<o.id):(dZ Os).put (.int .i64 o.id) (.held o.val)=dZ (Os++[o]):=by
 unfold dZ DataW.put
 simp only
 rw [List.filter_eq_self.2 (λp hp=>?_),gN,List.map_append]
 ·rfl
 ·intro p hp
  obtain⟨q,hq,rfl⟩:=List.mem_map.1 hp
  have:=h q hq
  simp [eR,Lit.before]
  omega
 ·obtain⟨q,hq,rfl⟩:=List.mem_map.1 hp
  have:=h q hq
  rw [iX]
  simp
  omega
def bH (id:Int)(Os:List Ob):List Ob:=Os.filter λo=>decide (o.id≠id)
theorem Co (Os:List Ob)(id:Int):(dZ Os).del (.int .i64 id)=dZ (bH id Os):=by
 unfold dZ DataW.del bH
 simp only [List.filter_map]
 congr 2
 refine List.filter_congr λo _=>?_
 simp only [Function.comp,iX]
 simp
theorem h_ (Os:List Ob):Maps.size (dZ Os)=Os.length:=by simp [dZ,Maps.size]
theorem xf (Os:List Ob):intKeys (dZ Os)=Os.map Ob.id:=by
 simp [dZ,intKeys,eR,Function.comp_def,Go.intOf]
theorem rp {l:List Int}(h:l.Pairwise (·<·)):l.mergeSort leI=l:=by
 refine List.mergeSort_of_pairwise ?_
 rw [List.pairwise_iff_getElem] at h ⊢
 intro i j hi hj hij
 have:=h i j hi hj hij
 simp only [leI,decide_eq_true_eq]
 omega
theorem tD {k:TypeId}{R:Value->Option (DataW Value×List MemPlace)}{Os:List Ob}(h:w.ownsMap prog k R b n (dZ Os)):w.ownsMap prog k R b Os.length (dZ Os):=by
 obtain⟨es,clock,hb,F,hs,hD⟩:=h
 refine⟨es,clock,hb,F,?_,hD⟩
 have:=congrArg Maps.size hD
 rw [h_] at this
 rw [this]
 simp [Maps.size,length_sorted]
theorem bd {S:Nat->Prop}{k:TypeId}{R:Value->Option (DataW Value×List MemPlace)}{D:DataW Value}(hb:ae S w w')(h:w.ownsMap prog k R b n D)(hn:¬S b):w'.ownsMap prog k R b n D:=by
 have hl:=h.lt
 obtain⟨es,clock,hh,r⟩:=h
 exact⟨es,clock,by rw [hb.block b hl hn];exact hh,r⟩
theorem fC (h:w.mapTurned w' b):ae (·=b) w w':=by
 have hg:=h.grown
 exact⟨hg.os,hg.tape,hg.output,hg.size,λk hk hn=>hg.block k hk (λe=>hn (by cases e;rfl))⟩
def dX (Os:List Ob):List Nat:=Os.flatMap Ob.aj
theorem yV (n:Nat)(t:Nat->Bool):(fx n t false).length+(fx n t true).length=n:=by
 induction n with
 | zero=>simp [fx]
 | succ n ih =>
  rw [jk,jk]
  cases t n<;>simp<;>omega
theorem nI (n:Nat)(t:Nat->Bool)(b:Bool):(fx n t b).Nodup:=List.Pairwise.filter _ List.nodup_range
theorem wu {t:Nat->Bool}{L:List Nat}(hL:L.Nodup)(hn:∀i∈L,i<n)(ht:∀i,t i=decide (i∈L)):(fx n t false).length+L.length=n:=by
 have h:=yV n t
 have hp:(fx n t true).Perm L:=(List.perm_ext_iff_of_nodup (nI _ _ _) hL).2 λi=>by
  rw [oU,ht i]
  simp only [decide_eq_true_eq]
  exact⟨λh=>h.2,λh=>⟨hn i h,h⟩⟩
 rw [hp.length_eq] at h
 exact h
def aO (s:Nat):Nat:=(s+63) / 64
def fL (Os:List Ob):Nat:=(Os.map λo=>aO o.data.length).sum
theorem qe (Os:List Ob)(h:∀o∈Os,o.aj.length=aO o.data.length):(dX Os).length=fL Os:=by
 induction Os with
 | nil=>rfl
 | cons o r ih =>
  have h1:=h o (by simp)
  have h2:=ih (λp hp=>h p (by simp [hp]))
  simp only [dX,List.flatMap_cons,List.length_append,fL,List.map_cons,List.sum_cons] at h1 h2 ⊢
  omega
structure eD (w:World)(s g pb m n room:Nat)(nx:Int)(t:Nat->Bool)(B:Nat->Nat->Nat)(Os:List Ob):Prop where
 ph:cZ w g pb n t B
 c0:aq w ⟨s,0,none⟩ (.pointer (some ⟨g,0,none⟩))
 c1:aq w ⟨s,1,none⟩ (.map (some m))
 c2:aq w ⟨s,2,none⟩ (.int .i64 (room:Int))
 c3:aq w ⟨s,3,none⟩ (.int .i64 nx)
 map:w.ownsMap prog 3 hr m Os.length (dZ Os)
 sg:s≠g
 sp:s≠pb
 sm:s≠m
 gm:g≠m
 pm:pb≠m
 rows:∀o∈Os,Row w o.jU o.aj.length o.aj.length (ints (cX o.aj))
 off:∀o∈Os,∀k,aD o.jU k->k≠s/\k≠g/\k≠pb/\k≠m/\k<w.heap.size
 len:∀o∈Os,o.aj.length=aO o.data.length
 nd:(dX Os).Nodup
 FU:∀i,t i=decide (i∈dX Os)
 bytes:∀o∈Os,∀j,j<o.data.length->B (o.aj.getD (j / 64) 0) (j%64)=o.data.getD j 0
 iD:Os.Pairwise (λa b=>a.id<b.id)
 ids:∀o∈Os,1<=o.id/\o.id<nx
 Hn:1<=nx/\nx<=4611686018427387905
 rm:Os.length<=room/\room<=64
 eK:∀o∈Os,o.data.length<=4096
def Sb (s g pb m:Nat)(k:Nat):Prop:=k=s\/k=g\/k=pb\/k=m
def Rb (Os:List Ob)(k:Nat):Prop:=∃o∈Os,aD o.jU k
theorem eD.but {S:Nat->Prop}{s pb room:Nat}{nx:Int}{t:Nat->Bool}{B:Nat->Nat->Nat}{Os:List Ob}(hb:ae S w w')(h:eD w s g pb m n room nx t B Os)(h1:∀k,Sb s g pb m k->¬S k)(h2:∀k,Rb Os k->¬S k):eD w' s g pb m n room nx t B Os :=
 {h with
  ph:=h.ph.but hb (h1 _ (.inr (.inl rfl))) (h1 _ (.inr (.inr (.inl rfl))))
  c0:=h.c0.but hb (h1 _ (.inl rfl))
  c1:=h.c1.but hb (h1 _ (.inl rfl))
  c2:=h.c2.but hb (h1 _ (.inl rfl))
  c3:=h.c3.but hb (h1 _ (.inl rfl))
  map:=bd hb h.map (h1 _ (.inr (.inr (.inr rfl))))
  rows:=λo ho=>(h.rows o ho).but hb (λk hk=>h2 k ⟨o,ho,hk⟩)
  off:=λo ho k hk=>by
   obtain⟨a,b,c,d,e⟩:=h.off o ho k hk
   exact⟨a,b,c,d,Nat.lt_of_lt_of_le e hb.size⟩ }
theorem eD.later {s pb room:Nat}{nx:Int}{t:Nat->Bool}{B:Nat->Nat->Nat}{Os:List Ob}(hb:Below w.heap.size w w')(h:eD w s g pb m n room nx t B Os):eD w' s g pb m n room nx t B Os :=
 h.but (S:=λ_=>False) (ae.of hb) (λ_ _ h=>h) (λ_ _ h=>h)
theorem eD.mem {s pb room:Nat}{nx:Int}{t:Nat->Bool}{B:Nat->Nat->Nat}{Os:List Ob}(h:eD w s g pb m n room nx t B Os){o:Ob}(ho:o∈Os){p:Nat}(hp:p∈o.aj):t p=true/\p<n:=by
 have h1:t p=true:=by
  rw [h.FU p]
  exact dT (List.mem_flatMap.2 ⟨o,ho,hp⟩)
 exact⟨h1,h.ph.only p h1⟩
theorem eD.count {s pb room:Nat}{nx:Int}{t:Nat->Bool}{B:Nat->Nat->Nat}{Os:List Ob}(h:eD w s g pb m n room nx t B Os):(fx n t false).length+fL Os=n:=by
 rw [<-qe Os h.len]
 refine wu h.nd (λi hi=>h.ph.only i ?_) h.FU
 rw [h.FU i]
 exact dT hi
theorem mj (k:Nat)(w:World)(hk:k<=4096):Calls prog 151 #[.int .i64 (k:Int)] w λe w'=>e=.returned (.int .i64 ((aO k:Nat):Int))/\w'=w:=by
 have e:(((k:Int)+64 - 1).tdiv 64)=((aO k:Nat):Int):=by
  unfold aO
  rw [show (k:Int)+64 - 1=((k+63:Nat):Int) by omega]
  rfl
 go_enter func151,ntmps151
 go_wp2
 go_ret
 exact⟨aL (by
  have h:aO k<=64:=by unfold aO;omega
  unfold wrap64
  omega),rfl⟩
theorem nZ (s g pb m n room:Nat)(nx:Int)(t:Nat->Bool)(B:Nat->Nat->Nat)(Os:List Ob)(w:World)(h:eD w s g pb m n room nx t B Os) :
  Calls prog 150 #[.pointer (some ⟨s,0,none⟩)] w λe w'=>e=.returned (.int .i64 ((n - fL Os:Nat):Int))/\Below w.heap.size w w':=by
 have x:=h.c0.1
 have H:=aa h.ph
 have HC:=aa h.count
 clear h
 go_enter func150,ntmps150
 go_wp2_with (first|(go_at_call 189;refine (zq g pb n t B _ H.o).mono ?_;rintro e w1 ⟨rfl,hb⟩))
 go_ret
 exact⟨aL (by have:=HC.o;omega),hb⟩
theorem xz (s g pb m n room:Nat)(nx:Int)(t:Nat->Bool)(B:Nat->Nat->Nat)(Os:List Ob)(w:World)(h:eD w s g pb m n room nx t B Os) :
  Calls prog 38 #[.pointer (some ⟨s,0,none⟩)] w λe w'=>e=.returned (.int .i64 nx)/\w'=w:=by
 have x:=h.c3.1
 clear h
 go_enter func38,ntmps38
 go_wp2
 go_ret
 exact⟨rfl,rfl⟩
theorem aE (w:World)(cs:Array Value)(T:TypeId)(i:Nat)(v:Value)(h:cs[i]?=some v):aq (w.alloc (.cells cs T)) ⟨w.heap.size,i,none⟩ v:=by
 have hh:=heap_alloc_new w (.cells cs T)
 exact⟨by rw [cell_of_row _ _ _ _ _ _ hh];exact h,by simp only [World.frozen?,hh];simp⟩
theorem Ek:(prog.info? 139).map (λi=>(i.zero,i.size,i.bytes))=some (some (.agg #[.pointer none,.map none,.int .i64 0,.int .i64 0]),4,32):=by kernel_rfl
theorem bI:(prog.info? 214).map (λi=>(i.zero,i.size,i.bytes))=some (some (.agg #[.int .i64 0,.slice none 0 0]),2,32):=by kernel_rfl
theorem pE:(prog.info? 266).map (λi=>(i.zero,i.size,i.bytes))=some (some (.agg #[.int .i64 0,.int .i64 0,.int .i64 0]),3,24):=by kernel_rfl
theorem tY:Maps.Keyed prog 3:=Maps.int_keyed underlying3
theorem sR {a:Int}(h:-9223372036854775808<=a/\a<9223372036854775808):keyOf prog 3 (.int .i64 a)=some (.int .i64 a):=Maps.keyOf_int_mk underlying3 (WalkArith.wf_i64 (by omega))
theorem DN (room n:Nat)(w:World)(h1:1<=room/\room<=64)(h2:1<=n/\n<=256) :
  Calls prog 49 #[.int .i64 (room:Int),.int .i64 (n:Int)] w λe w'=>∃s g pb m,e=.returned (.tuple #[.pointer (some ⟨s,0,none⟩),.int .i64 0])/\eD w' s g pb m n room 1 (λ_=>false) (λ_ _=>0) []/\(∀k,Sb s g pb m k->w.heap.size<=k/\k<w'.heap.size)/\Below w.heap.size w w':=by
 have hd1:decide ((room:Int)<1)=false:=dF (by omega)
 have hd2:decide ((room:Int)>64)=false:=dF (by omega)
 have hd3:decide ((n:Int)<1)=false:=dF (by omega)
 have hmm:=@run_makeMap prog
 have hz:=aG Ek
 go_enter func49,ntmps49
 go_wp2_with (first|(go_at_call 84;refine (bE n _ (by omega)).mono ?_;rintro e w1 ⟨g,pb,rfl,A,G1,G2,hb⟩;have HA:=aa A;have HG1:=aa G1;have HG2:=aa G2;have HB:=aa hb;clear A G1 G2 hb))
 have hs:=HB.o.size
 have hb1:Below w1.heap.size w1 (w1.alloc (Obj.map #[] 0)):=ab _ _
 have hA2:w1.heap.size+1=(w1.alloc (Obj.map #[] 0)).heap.size:=by simp
 rw [hA2]
 generalize hC:(#[Value.pointer (some ⟨g,0,none⟩),Value.map (some w1.heap.size),Value.int .i64 (room:Int),Value.int .i64 1]:Array Value)=C
 have hb2:=aw w1 (Obj.map #[] 0) (.cells C 139)
 have hgl:=HA.o.CH
 have hpl:=HA.o.lt
 refine bodyPost_ret (v:=.tuple #[.pointer (some ⟨(w1.alloc (Obj.map #[] 0)).heap.size,0,none⟩),.int .i64 0]) (by simp [results,results49,go_sem]) rfl ⟨_,g,pb,w1.heap.size,rfl,⟨HA.o.later hb2,?_,?_,?_,?_,?_,by simp;omega,by simp;omega,by simp,by omega,by omega,λo ho=>(by cases ho),λo ho=>(by cases ho),λo ho=>(by cases ho),by simp [dX],λi=>by simp [dX],λo ho=>(by cases ho),List.Pairwise.nil,λo ho=>(by cases ho),by omega,⟨by simp,h1.2⟩,λo ho=>(by cases ho)⟩,?_,al HB.o hb2⟩
 ·exact aE _ _ _ 0 _ (by rw [<-hC];rfl)
 ·exact aE _ _ _ 1 _ (by rw [<-hC];rfl)
 ·exact aE _ _ _ 2 _ (by rw [<-hC];rfl)
 ·exact aE _ _ _ 3 _ (by rw [<-hC];rfl)
 ·exact (World.ownsMap_made w1 prog 3 hr).alloc _
 ·have h1:=HG1.o
  have h2:=HG2.o
  rintro k (rfl|rfl|rfl|rfl)<;>simp<;>omega
def jV (room n:Nat)(nx:Int)(Os:List Ob)(size:Int):Int :=
 if size<0\/4096<size then 6 else if room<=Os.length\/4611686018427387904<nx then 7 else if n - fL Os<aO size.toNat then 8 else 0
theorem g8 (s g pb m n room:Nat)(nx:Int)(t:Nat->Bool)(B:Nat->Nat->Nat)(Os:List Ob)(size:Int)(w:World)(h:eD w s g pb m n room nx t B Os) :
  Calls prog 103 #[.pointer (some ⟨s,0,none⟩),.int .i64 size] w λe w'=>e=.returned (.int .i64 (jV room n nx Os size))/\Below w.heap.size w w':=by
 obtain⟨E,hE⟩:∃E,E=jV room n nx Os size:=⟨_,rfl⟩
 rw [<-hE]
 have HE:=aa hE
 have H:=aa h
 clear hE
 by_cases h1:size<0
 ·have hd1:decide (size<0)=true:=dT h1
  clear h
  go_enter func103,ntmps103
  go_wp2
  go_ret
  exact⟨aL (by rw [HE.o,jV,if_pos (.inl h1)]),Below.refl _ _⟩
 have hd1:decide (size<0)=false:=dF h1
 by_cases h2:size>4096
 ·have hd2:decide (size>4096)=true:=dT h2
  clear h
  go_enter func103,ntmps103
  go_wp2
  go_ret
  exact⟨aL (by rw [HE.o,jV,if_pos (.inr h2)]),Below.refl _ _⟩
 have hd2:decide (size>4096)=false:=dF h2
 obtain⟨k,rfl⟩:∃k:Nat,size=(k:Int):=⟨size.toNat,by omega⟩
 have hk:k<=4096:=by omega
 have e1:jV room n nx Os (k:Int)=if room<=Os.length\/4611686018427387904<nx then 7 else if n - fL Os<aO k then 8 else 0:=by
  rw [jV,if_neg (by omega),Int.toNat_natCast]
 rw [e1] at HE
 have x1:=h.c1.1
 have x2:=h.c2.1
 have x3:=h.c3.1
 have hlen:=λd:Nat=>(h.later (below_drewN (Below.refl _ _) d)).map.len underlying137 3
 simp only [h_] at hlen
 obtain⟨len,hl⟩:∃len,len=Os.length:=⟨_,rfl⟩
 rw [<-hl] at hlen
 have HL:=aa hl
 clear h e1 h1 h2 hl
 by_cases h3:(len:Int)>=(room:Int)
 ·have hd3:decide ((len:Int)>=(room:Int))=true:=dT h3
  go_enter func103,ntmps103
  go_wp2
  go_quiet (fail)
  go_wp2
  go_ret
  exact⟨aL (by rw [HE.o,if_pos (.inl (by have:=HL.o;omega))]),below_drewN (Below.refl _ _) _⟩
 have hd3:decide ((len:Int)>=(room:Int))=false:=dF h3
 have hd3b:decide (room<=len)=false:=dF (by omega)
 have hd3c:¬room<=len:=by omega
 by_cases h4:nx>4611686018427387904
 ·have hd4:decide (nx>4611686018427387904)=true:=dT h4
  go_enter func103,ntmps103
  go_wp2
  go_quiet (fail)
  go_wp2
  go_ret
  exact⟨aL (by rw [HE.o,if_pos (.inr h4)]),below_drewN (Below.refl _ _) _⟩
 have hd4:decide (nx>4611686018427387904)=false:=dF h4
 have e2:¬(room<=Os.length\/4611686018427387904<nx):=by
  have:=HL.o
  omega
 rw [if_neg e2] at HE
 clear e2
 have HF:Hid (∀d,eD (w.drewN d) s g pb m n room nx t B Os):=aa (λd=>H.o.later (below_drewN (Below.refl _ _) d))
 obtain⟨fr,hfr⟩:∃fr,fr=n - fL Os:=⟨_,rfl⟩
 rw [<-hfr] at HE
 have HFR:=aa hfr
 clear hfr
 by_cases h5:(fr:Int)<((aO k:Nat):Int)
 ·have hd5:decide ((fr:Int)<((aO k:Nat):Int))=true:=dT h5
  go_enter func103,ntmps103
  go_wp2
  go_quiet (fail)
  go_wp2_with (first
   | (go_at_call 151;refine (mj k _ hk).mono ?_;rintro e w2 ⟨rfl,hw⟩;obtain rfl:=hw.symm)
   | (go_at_call 150;refine (nZ s g pb m n room nx t B Os _ (HF.o _)).mono ?_;rintro e w1 ⟨rfl,hb⟩;rw [<-HFR.o];have HB:=aa hb;clear hb))
  go_ret
  exact⟨aL (by rw [HE.o,if_pos (by omega)]),al (below_drewN (Below.refl _ _) nq) HB.o⟩
 ·have hd5:decide ((fr:Int)<((aO k:Nat):Int))=false:=dF h5
  go_enter func103,ntmps103
  go_wp2
  go_quiet (fail)
  go_wp2_with (first
   | (go_at_call 151;refine (mj k _ hk).mono ?_;rintro e w2 ⟨rfl,hw⟩;obtain rfl:=hw.symm)
   | (go_at_call 150;refine (nZ s g pb m n room nx t B Os _ (HF.o _)).mono ?_;rintro e w1 ⟨rfl,hb⟩;rw [<-HFR.o];have HB:=aa hb;clear hb))
  go_ret
  exact⟨aL (by rw [HE.o,if_neg (by omega)]),al (below_drewN (Below.refl _ _) nq) HB.o⟩
def fj (Os:List Ob)(id:Int):Option Ob:=Os.find? λo=>decide (o.id=id)
theorem at_mem {Os:List Ob}{id:Int}{o:Ob}(h:fj Os id=some o):o∈Os/\o.id=id:=⟨List.mem_of_find?_eq_some h,by simpa using List.find?_some h⟩
theorem sf {s pb room:Nat}{nx:Int}{t:Nat->Bool}{B:Nat->Nat->Nat}{Os:List Ob}(h:eD w s g pb m n room nx t B Os){id:Int}(hi:-9223372036854775808<=id/\id<9223372036854775808) :
  (Instr.lookup 137 (.map (some m)) (.int .i64 id) true).run prog w=.ok (match fj Os id with
   | some o=>.tuple #[.agg #[.int .i64 (o.data.length:Int),.slice o.jU o.aj.length o.aj.length],.bool true]
   | none=>.tuple #[.agg #[.int .i64 0,.slice none 0 0],.bool false]) w:=by
 obtain⟨v,ps,hrun,hv⟩:=h.map.look_ok tY underlying137 (aG bI w) (zd:=.held (.agg #[.int .i64 0,.slice none 0 0])) (zp:=[]) rfl (sR hi)
 rw [hrun,yB]
 rw [uC] at hv
 simp only [hr,Option.some.injEq,Prod.mk.injEq] at hv
 have e:Os.any (λo=>decide (o.id=id))=(fj Os id).isSome:=by
  unfold fj
  rw [Bool.eq_iff_iff,List.any_eq_true,List.find?_isSome]
 rw [e]
 have hv1:=hv.1
 unfold fj at hv1 ⊢
 cases hf:Os.find? (λo=>decide (o.id=id)) with
 | none =>
  rw [hf] at hv1
  simp only [DataW.held.injEq] at hv1
  simp [hv1]
 | some o =>
  rw [hf] at hv1
  simp only [DataW.held.injEq] at hv1
  simp [hv1,Ob.val]
theorem gR {s pb room:Nat}{nx:Int}{t:Nat->Bool}{B:Nat->Nat->Nat}{Os:List Ob}(h:eD w s g pb m n room nx t B Os){id:Int}(hi:-9223372036854775808<=id/\id<9223372036854775808){o:Ob}(ho:fj Os id=some o) :
  (Instr.lookup 137 (.map (some m)) (.int .i64 id) true).run prog w=.ok (.tuple #[.agg #[.int .i64 (o.data.length:Int),.slice o.jU o.aj.length o.aj.length],.bool true]) w:=by
 rw [sf h hi,ho]
theorem fc {s pb room:Nat}{nx:Int}{t:Nat->Bool}{B:Nat->Nat->Nat}{Os:List Ob}(h:eD w s g pb m n room nx t B Os){id:Int}(hi:-9223372036854775808<=id/\id<9223372036854775808)(ho:fj Os id=none) :
  (Instr.lookup 137 (.map (some m)) (.int .i64 id) true).run prog w=.ok (.tuple #[.agg #[.int .i64 0,.slice none 0 0],.bool false]) w:=by
 rw [sf h hi,ho]
theorem wk (s g pb m n room:Nat)(nx:Int)(t:Nat->Bool)(B:Nat->Nat->Nat)(Os:List Ob)(id:Int)(o:Ob)(w:World)(h:eD w s g pb m n room nx t B Os)(hi:-9223372036854775808<=id/\id<9223372036854775808)(ho:fj Os id=some o) :
  Calls prog 119 #[.pointer (some ⟨s,0,none⟩),.int .i64 id] w λe w'=>e=.returned (.tuple #[.int .i64 (o.data.length:Int),.bool true])/\Below w.heap.size w w':=by
 have x:=h.c1.1
 have hl:=gR h hi ho
 have hz:=aG bI
 clear h
 go_enter func119,ntmps119
 go_wp2
 exact bodyPost_ret (v:=.tuple #[.int .i64 (o.data.length:Int),.bool true]) (by simp [results,results119,go_sem]) rfl ⟨rfl,ab _ _⟩
theorem xH (s g pb m n room:Nat)(nx:Int)(t:Nat->Bool)(B:Nat->Nat->Nat)(Os:List Ob)(id:Int)(w:World)(h:eD w s g pb m n room nx t B Os)(hi:-9223372036854775808<=id/\id<9223372036854775808)(ho:fj Os id=none) :
  Calls prog 119 #[.pointer (some ⟨s,0,none⟩),.int .i64 id] w λe w'=>e=.returned (.tuple #[.int .i64 0,.bool false])/\Below w.heap.size w w':=by
 have x:=h.c1.1
 have hl:=fc h hi ho
 have hz:=aG bI
 clear h
 go_enter func119,ntmps119
 go_wp2
 exact bodyPost_ret (v:=.tuple #[.int .i64 0,.bool false]) (by simp [results,results119,go_sem]) rfl ⟨rfl,ab _ _⟩
theorem lG (s g pb m n room:Nat)(nx:Int)(t:Nat->Bool)(B:Nat->Nat->Nat)(Os:List Ob)(id off k:Int)(w:World)(h:eD w s g pb m n room nx t B Os)(hi:-9223372036854775808<=id/\id<9223372036854775808)(ho:fj Os id=none) :
  Calls prog 162 #[.pointer (some ⟨s,0,none⟩),.int .i64 id,.int .i64 off,.int .i64 k] w λe w'=>e=.returned (.tuple #[.agg #[.int .i64 0,.slice none 0 0],.int .i64 20])/\Below w.heap.size w w':=by
 have x:=h.c1.1
 have x1:=cell_later (ab w (.cells #[.int .i64 0,.slice none 0 0] 214)) x
 have hl:=fc (h.later (ab w (.cells #[.int .i64 0,.slice none 0 0] 214))) hi ho
 have hz:=aG bI
 clear h
 go_enter func162,ntmps162
 go_wp2
 refine bodyPost_ret (v:=.tuple #[.agg #[.int .i64 0,.slice none 0 0],.int .i64 20]) ?_ rfl ⟨rfl,aw _ _ _⟩
 simp [results,results162,go_sem]
def kI (o:Ob)(off k:Int):Prop:=0<=off/\0<=k/\k<=1024/\off+k<=(o.data.length:Int)
theorem ny (s g pb m n room:Nat)(nx:Int)(t:Nat->Bool)(B:Nat->Nat->Nat)(Os:List Ob)(id off k:Int)(o:Ob)(w:World)(h:eD w s g pb m n room nx t B Os)(hi:-9223372036854775808<=id/\id<9223372036854775808)(ho:fj Os id=some o)(hb:¬kI o off k) :
  Calls prog 162 #[.pointer (some ⟨s,0,none⟩),.int .i64 id,.int .i64 off,.int .i64 k] w λe w'=>e=.returned (.tuple #[.agg #[.int .i64 0,.slice none 0 0],.int .i64 5])/\Below w.heap.size w w':=by
 have x:=h.c1.1
 have x1:=cell_later (ab w (.cells #[.int .i64 0,.slice none 0 0] 214)) x
 have hl:=gR (h.later (ab w (.cells #[.int .i64 0,.slice none 0 0] 214))) hi ho
 have hz:=aG bI
 have hbig:=h.eK o (at_mem ho).1
 obtain⟨sz,hsz⟩:∃sz,sz=o.data.length:=⟨_,rfl⟩
 rw [<-hsz] at hl hbig
 unfold kI at hb
 rw [<-hsz] at hb
 have HB:=aa hb
 clear h hsz hb
 by_cases h1:off<0
 ·have hd1:decide (off<0)=true:=dT h1
  go_enter func162,ntmps162
  go_wp2
  refine bodyPost_ret (v:=.tuple #[.agg #[.int .i64 0,.slice none 0 0],.int .i64 5]) ?_ rfl ⟨rfl,aw _ _ _⟩
  simp [results,results162,go_sem]
 have hd1:decide (off<0)=false:=dF h1
 by_cases h2:k<0
 ·have hd2:decide (k<0)=true:=dT h2
  go_enter func162,ntmps162
  go_wp2
  refine bodyPost_ret (v:=.tuple #[.agg #[.int .i64 0,.slice none 0 0],.int .i64 5]) ?_ rfl ⟨rfl,aw _ _ _⟩
  simp [results,results162,go_sem]
 have hd2:decide (k<0)=false:=dF h2
 by_cases h3:k>1024
 ·have hd3:decide (k>1024)=true:=dT h3
  go_enter func162,ntmps162
  go_wp2
  refine bodyPost_ret (v:=.tuple #[.agg #[.int .i64 0,.slice none 0 0],.int .i64 5]) ?_ rfl ⟨rfl,aw _ _ _⟩
  simp [results,results162,go_sem]
 have hd3:decide (k>1024)=false:=dF h3
 have hd4:decide (off>(sz:Int) - k)=true:=dT (by have:=HB.o;omega)
 go_enter func162,ntmps162
 go_wp2
 refine bodyPost_ret (v:=.tuple #[.agg #[.int .i64 0,.slice none 0 0],.int .i64 5]) ?_ rfl ⟨rfl,aw _ _ _⟩
 simp [results,results162,go_sem]
theorem rP (s g pb m n room:Nat)(nx:Int)(t:Nat->Bool)(B:Nat->Nat->Nat)(Os:List Ob)(id off k:Int)(o:Ob)(w:World)(h:eD w s g pb m n room nx t B Os)(hi:-9223372036854775808<=id/\id<9223372036854775808)(ho:fj Os id=some o)(hb:kI o off k) :
  Calls prog 162 #[.pointer (some ⟨s,0,none⟩),.int .i64 id,.int .i64 off,.int .i64 k] w λe w'=>e=.returned (.tuple #[.agg #[.int .i64 (o.data.length:Int),.slice o.jU o.aj.length o.aj.length],.int .i64 0])/\Below w.heap.size w w':=by
 have x:=h.c1.1
 have x1:=cell_later (ab w (.cells #[.int .i64 0,.slice none 0 0] 214)) x
 have hl:=gR (h.later (ab w (.cells #[.int .i64 0,.slice none 0 0] 214))) hi ho
 have hz:=aG bI
 have hbig:=h.eK o (at_mem ho).1
 obtain⟨sz,hsz⟩:∃sz,sz=o.data.length:=⟨_,rfl⟩
 rw [<-hsz] at hl hbig ⊢
 unfold kI at hb
 rw [<-hsz] at hb
 clear h hsz
 have hd1:decide (off<0)=false:=dF (by omega)
 have hd2:decide (k<0)=false:=dF (by omega)
 have hd3:decide (k>1024)=false:=dF (by omega)
 have hd4:decide (off>(sz:Int) - k)=false:=dF (by omega)
 obtain⟨hb1,hb2,hb3,hb4⟩:=hb
 go_enter func162,ntmps162
 go_wp2
 refine bodyPost_ret (v:=.tuple #[.agg #[.int .i64 (sz:Int),.slice o.jU o.aj.length o.aj.length],.int .i64 0]) ?_ rfl ⟨rfl,?_⟩
 ·simp [results,results162,go_sem]
 ·exact aw _ _ _
def pos (off k i:Nat):Nat:=if i=0 then off else min (off+k) ((off / 64+i)*64)
def oQ (off k:Nat):Nat:=if k=0 then 0 else (off+k - 1) / 64 - off / 64+1
theorem gi (off k:Nat):pos off k 0=off:=by simp [pos]
theorem jr (off k i:Nat):i<oQ off k↔pos off k i<off+k:=by
 unfold oQ pos
 by_cases hk:k=0
 ·simp [hk]
  split<;>omega
 ·rw [if_neg hk]
  by_cases hi:i=0
  ·simp [hi];omega
  ·rw [if_neg hi]
   omega
theorem uP (off k:Nat):pos off k (oQ off k)=off+k:=by
 unfold oQ pos
 by_cases hk:k=0
 ·simp [hk]
 ·rw [if_neg hk,if_neg (by omega)]
  omega
theorem ix (off k i:Nat):off<=pos off k i/\pos off k i<=off+k:=by
 unfold pos
 split<;>omega
theorem jv {off k i:Nat}(h:pos off k i<off+k):pos off k i / 64=off / 64+i:=by
 unfold pos at h ⊢
 split<;>rename_i hi
 ·omega
 ·rw [if_neg hi] at h
  omega
theorem gL {off k i:Nat}(h:pos off k i<off+k):pos off k (i+1)=pos off k i+min (off+k - pos off k i) (64 - pos off k i%64):=by
 have h1:=jv h
 have h2:pos off k (i+1)=min (off+k) ((off / 64+(i+1))*64):=by simp [pos]
 rw [h2]
 omega
def Jh (aj:List Nat)(off k i:Nat):List Value:=[.int .i64 ((aj.getD (off / 64+i) 0:Nat):Int),.int .i64 ((pos off k i%64:Nat):Int),.int .i64 ((pos off k (i+1) - pos off k i:Nat):Int)]
def yz (aj:List Nat)(off k:Nat):Nat->List Value
 | 0=>[]
 | c+1=>yz aj off k c++Jh aj off k c
theorem fw (aj:List Nat)(off k:Nat):∀c,(yz aj off k c).length=3*c
 | 0=>rfl
 | c+1=>by rw [yz,List.length_append,fw aj off k c];simp [Jh];omega
theorem kW (aj:List Nat)(off k:Nat)(j:Nat)(hj:j<3):∀c i,i<c->(yz aj off k c)[3*i+j]?=(Jh aj off k i)[j]?
 | 0,i,h=>by omega
 | c+1,i,h=>by
  rw [yz]
  by_cases e:i=c
  ·subst e
   rw [List.getElem?_append_right (by rw [fw];omega),fw]
   congr 1
   omega
  ·rw [List.getElem?_append_left (by rw [fw];omega)]
   exact kW aj off k j hj c i (by omega)
theorem xA {e:TypeId}{size:Nat}{v:Value}{xs:List Value}(hb:Below w.heap.size w w1)(h:w.ownsRow base e size v n xs):w1.ownsRow base e size v n xs:=oY (S:=λ_=>False) (ae.of hb) h (λ_ _ h=>h)
theorem jt {cap:Nat}{L:List Value}(x y z:Int)(h:w.ownsRow base 266 3 (.slice a i cap) i L)(hb:base<=w.heap.size)(hi:i<=4096)(bk:Nat)(hbk:bk=w.heap.size) :
  ∃a' cap' w',(Builtin.append_ #[263,263] 263 #[.slice a i cap,.slice (some ⟨bk,0,none⟩) 1 1]).run prog (w.alloc (.cells #[.int .i64 x,.int .i64 y,.int .i64 z] 266))=.ok (.slice a' (i+1) cap') w'/\w'.ownsRow base 266 3 (.slice a' (i+1) cap') (i+1) (L++[.int .i64 x,.int .i64 y,.int .i64 z])/\Below base w w':=by
 subst hbk
 obtain⟨i0,hi0,hz0,hz1,hz2⟩:=info_parts pE
 have o1:=xA (ab w (.cells #[.int .i64 x,.int .i64 y,.int .i64 z] 266)) h
 have hnew:∀j u,[Value.int .i64 x,.int .i64 y,.int .i64 z][j]?=some u->(w.alloc (.cells #[.int .i64 x,.int .i64 y,.int .i64 z] 266)).cell? ((⟨w.heap.size,0,none⟩:Addr).add j)=some u:=by
  intro j u hu
  rw [nj]
  have hj:j<3:=(gS.1 hu).1
  have:j=0\/j=1\/j=2:=by omega
  rcases this with rfl|rfl|rfl<;>(simp at hu;subst hu;simp [go_sem])
 obtain⟨v2,w2,hr2,o2,g2,_,_⟩:=run_append_own_at (P:=prog) (w.alloc (.cells #[.int .i64 x,.int .i64 y,.int .i64 z] 266)) base 263 263 266 i0 _ 3 24 underlying263 hi0 hz0 hz1 hz2 rfl (by decide) _ i _ o1 ⟨w.heap.size,0,none⟩ 1 1 [.int .i64 x,.int .i64 y,.int .i64 z] rfl hnew (λu hu=>by
  simp only [List.mem_cons,List.not_mem_nil,or_false] at hu
  rcases hu with rfl|rfl|rfl<;>rfl) (by unfold maxLen;omega) (by omega) (by simp;omega)
 obtain⟨a',cap',rfl⟩:∃a' cap',v2=.slice a' (i+1) cap':=by
  rcases o2.2 with ⟨h,h'⟩|⟨g',cap',_,h,_⟩
  ·omega
  ·exact⟨_,cap',h⟩
 exact⟨a',cap',w2,hr2,o2,((ab w (.cells #[.int .i64 x,.int .i64 y,.int .i64 z] 266)).mono hb).grown g2 (by simp;omega) (λj hj=>(aZ o1 j hj).1)⟩
def ef:Value->Nat
 | .int _ a=>a.toNat
 | _=>0
def Ff (w:World)(aj:List Nat)(off k:Nat)(v1 v2 v7:Value)(w':World):Prop :=
 ∃(i p:Nat) (a:Option Addr) (cap:Nat),v1=.int .i64 (p:Int)/\v2=.int .i64 ((off+k - p:Nat):Int)/\v7=.slice a i cap/\p=pos off k i/\i<=oQ off k/\w'.ownsRow w.heap.size 266 3 (.slice a i cap) i (yz aj off k i)/\Below w.heap.size w w'
theorem uO {W:World}{aj:List Nat}{off p r u st q pg f cap':Nat}{a':Option Addr}(hp:p=pos off k i)(hq:q<aj.length)(hE:off+k - p=r/\p%64=st/\64 - st=u/\q=off / 64+i/\pg=aj[q]/\pos off k (i+1)=p+min r u)(hi:i<oQ off k)(hf:f=min r u)
  (hO:w2.ownsRow W.heap.size 266 3 (.slice a' (i+1) cap') (i+1) (yz aj off k i++[.int .i64 (pg:Int),.int .i64 (st:Int),.int .i64 (f:Int)])) (hB:Below W.heap.size W w2) :
  Ff W aj off k (.int .i64 ((p:Int)+(f:Int))) (.int .i64 ((r:Int) - (f:Int))) (.slice a' (i+1) cap') w2:=by
 obtain⟨e1,e2,e3,e4,e5,e6⟩:=hE
 refine⟨i+1,p+f,a',cap',by rw [Int.natCast_add],?_,rfl,by rw [e6,hf],by omega,?_,hB⟩
 ·congr 1
  omega
 ·have e:Jh aj off k i=[.int .i64 (pg:Int),.int .i64 (st:Int),.int .i64 (f:Int)]:=by
   unfold Jh
   rw [<-hp,e2,e6,<-e4,e5,List.getD_eq_getElem?_getD,gE hq,hf,Nat.add_sub_cancel_left]
   rfl
  rw [yz,e]
  exact hO
theorem lF (sz:Int)(jU:Option Addr)(aj:List Nat)(off k:Nat)(w:World)(hR:Row w jU aj.length aj.length (ints (cX aj)))(ho:off+k<=64*aj.length)(hb:off+k<=4096) :
  Calls prog 163 #[.agg #[.int .i64 sz,.slice jU aj.length aj.length],.int .i64 (off:Int),.int .i64 (k:Int)] w λe w'=>∃a cap,e=.returned (.slice a (oQ off k) cap)/\w'.ownsRow w.heap.size 266 3 (.slice a (oQ off k) cap) (oQ off k) (yz aj off k (oQ off k))/\Below w.heap.size w w':=by
 have HR:=aa hR
 obtain⟨W,hW⟩:∃W,W=w.alloc (.cells #[.int .i64 sz,.slice jU aj.length aj.length] 214):=⟨_,rfl⟩
 have HBW:Hid (Below w.heap.size w W):=aa (by rw [hW];exact ab _ _)
 have HC:Hid (W.cell? ⟨w.heap.size,1,none⟩=some (.slice jU aj.length aj.length)):=aa (by rw [hW];exact (aE _ _ _ 1 _ rfl).1)
 have HWS:Hid (w.heap.size<W.heap.size):=aa (by rw [hW];simp)
 have HO:=aa ho
 clear hR ho
 go_enter func163,ntmps163
 go_upto_region 2 with fail
 rw [<-hW]
 clear hW
 go_loopw [1,2,7] (Ff W aj off k) (λ_ n _ _=>ef n)
 case atStart=>exact⟨0,off,none,0,rfl,by rw [Nat.add_sub_cancel_left],rfl,(gi _ _).symm,Nat.zero_le _,⟨rfl,.inl ⟨rfl,rfl⟩⟩,Below.refl _ _⟩
 case round =>
  obtain⟨i,p,a,cap,rfl,rfl,rfl,hp,hi,hO,hB⟩:=hrel
  have hpl:=ix off k i
  rw [<-hp] at hpl
  have HP:=aa hp
  have HB:=aa hB
  have HOW:=aa hO
  clear hB hO
  by_cases hlt:p<off+k
  ·have h1:=jv (off:=off) (k:=k) (i:=i) (by omega)
   have h2:=gL (off:=off) (k:=k) (i:=i) (by omega)
   have hin:=(jr off k i).2 (by omega)
   rw [<-hp] at h1 h2
   obtain⟨r,hr⟩:∃r,r=off+k - p:=⟨_,rfl⟩
   rw [<-hr] at h2
   rw [<-hr]
   obtain⟨st,hst⟩:∃st,st=p%64:=⟨_,rfl⟩
   rw [<-hst] at h2
   have hst64:st<64:=by omega
   obtain⟨u,hu⟩:∃u,u=64 - st:=⟨_,rfl⟩
   obtain⟨q,hq⟩:∃q,q=off / 64+i:=⟨_,rfl⟩
   have hrem:(p:Int)%64=(st:Int):=by omega
   have hquo:(p:Int) / 64=(q:Int):=by omega
   have hqn:p / 64=q:=by omega
   have h64:(64:Int) - (st:Int)=(u:Int):=by omega
   have hr0:0<r:=by omega
   have hr1:r<=4096:=by omega
   have hp1:p<=4096:=by omega
   have hu1:u<=64:=by omega
   have hql:q<aj.length:=by have:=HO.o;omega
   obtain⟨pg,hpg⟩:∃pg,pg=aj[q]:=⟨_,rfl⟩
   obtain⟨bb,oo,rfl,hcell⟩:=HR.o.plain (by omega)
   have y0:=cell_later HB.o HC.o
   have y1:=cell_later HB.o (cell_later HBW.o (hcell q _ (iu aj q hql)))
   rw [<-hpg] at y1
   have HE:=aa (show (off+k - p=r/\p%64=st/\64 - st=u/\q=off / 64+i/\pg=aj[q]/\pos off k (i+1)=p+min r u) from ⟨hr.symm,hst.symm,hu.symm,hq,hpg,by rw [hu];exact h2⟩)
   have HI:=aa hin
   have HI0:=aa hi
   clear hcell hr hst hu hq hpg h1 h2 hp hlt hpl hin hi
   by_cases hm:r<=u
   ·have hm2:(r:Int)<=(u:Int):=by omega
    obtain⟨a',cap',w2,hrun,hO2,hB2⟩:=jt (pg:Int) (st:Int) (r:Int) HOW.o HB.o.size (by have:=HI.o;unfold oQ at this;split at this<;>omega) wr.heap.size rfl
    have HRUN:=aa hrun
    have HO2:=aa hO2
    have HB2:=aa (HB.o.trans hB2)
    clear hrun hO2 hB2
    go_wp2_with (first|(at_builtin;refine kt rfl _ _ 263 rfl _ _ rfl rfl _ w2 HRUN.o ?_))
    refine⟨?_,by simp [ef];omega⟩
    have:=uO HP.o hql HE.o HI.o (f:=r) (by omega) HO2.o HB2.o
    simpa using this
   ·have hm1:u<r:=by omega
    have hm2:(u:Int)<(r:Int):=by omega
    obtain⟨a',cap',w2,hrun,hO2,hB2⟩:=jt (pg:Int) (st:Int) (u:Int) HOW.o HB.o.size (by have:=HI.o;unfold oQ at this;split at this<;>omega) wr.heap.size rfl
    have HRUN:=aa hrun
    have HO2:=aa hO2
    have HB2:=aa (HB.o.trans hB2)
    clear hrun hO2 hB2
    go_wp2_with (first|(at_builtin;refine kt rfl _ _ 263 rfl _ _ rfl rfl _ w2 HRUN.o ?_))
    exact⟨uO HP.o hql HE.o HI.o (by omega) HO2.o HB2.o,by simp [ef];have:=HE.o;omega⟩
  ·obtain rfl:p=off+k:=by omega
   have hie:i=oQ off k:=by
    have h1:=jr off k i
    omega
   have HIE:=aa hie
   have e0:off+k - (off+k)=0:=by omega
   rw [e0]
   simp only [Int.cast_ofNat_Int]
   clear hie hp e0 hi hpl hlt
   go_wp2
   go_ret
   rw [HIE.o] at HOW
   refine⟨a,cap,by rw [HIE.o];rfl,?_,al HBW.o HB.o⟩
   exact gw HOW.o (Nat.le_of_lt HWS.o)
theorem mP (l:List Nat)(p f:Nat)(h:p+f<=l.length):(l.drop p).take f=(List.range f).map λx=>l.getD (p+x) 0:=by
 refine List.ext_getElem (by simp;omega) λj h1 h2=>?_
 simp at h2
 simp [List.getElem_take,List.getElem_drop,List.getD_eq_getElem?_getD,gE (show p+j<l.length by omega)]
theorem BI {B:Nat->Nat->Nat}{aj data:List Nat}{off:Nat}(hb:∀j,j<data.length->B (aj.getD (j / 64) 0) (j%64)=data.getD j 0)(hle:off+k<=data.length)(h:pos off k i<off+k) :
  (data.drop off).take (pos off k (i+1) - off)=(data.drop off).take (pos off k i - off)++oM B (aj.getD (off / 64+i) 0) (pos off k i%64) (pos off k (i+1) - pos off k i):=by
 have h1:=jv h
 have h2:=gL h
 have h3:=ix off k i
 have e1:pos off k (i+1) - off=(pos off k i - off)+(pos off k (i+1) - pos off k i):=by omega
 rw [e1,List.take_add,List.drop_drop,show off+(pos off k i - off)=pos off k i by omega,mP data (pos off k i) (pos off k (i+1) - pos off k i) (by omega)]
 congr 1
 refine List.map_congr_left λx hx=>?_
 have hx2:x<pos off k (i+1) - pos off k i:=by simpa using hx
 have:=hb (pos off k i+x) (by omega)
 rw [<-this,<-h1]
 congr 2
 ·omega
 ·omega
theorem E_ {aj data:List Nat}{off:Nat}(hl:aj.length=aO data.length)(hle:off+k<=data.length)(h:pos off k i<off+k):off / 64+i<aj.length:=by
 have h1:=jv h
 have h2:=ix off k i
 unfold aO at hl
 omega
theorem qp {cap c:Nat}{aj:List Nat}{off:Nat}(h:w.ownsRow base 266 3 (.slice a c cap) c (yz aj off k c))(hi:i<c) :
  ∃gp,a=some ⟨gp,0,none⟩/\base<=gp/\gp<w.heap.size/\w.cell? ⟨gp,i*3,none⟩=some (.int .i64 ((aj.getD (off / 64+i) 0:Nat):Int))/\w.cell? ⟨gp,i*3+1,none⟩=some (.int .i64 ((pos off k i%64:Nat):Int))/\w.cell? ⟨gp,i*3+2,none⟩=some (.int .i64 ((pos off k (i+1) - pos off k i:Nat):Int)):=by
 rcases h.2 with ⟨h1,hn⟩|⟨g,cp,cur,hv,hg,hh,_⟩
 ·omega
 ·simp only [Value.slice.injEq] at hv
  obtain⟨rfl,_,rfl⟩:=hv
  have hc:∀j u,(yz aj off k c)[j]?=some u->w.cell? ⟨g,j,none⟩=some u:=λj u hu=>by
   have:=h.cells (g:=g) rfl j u hu
   rwa [nj] at this
  have e0:i*3=3*i:=by omega
  rw [e0]
  refine⟨g,rfl,hg,(Array.getElem?_eq_some_iff.1 hh).1,hc _ _ ?_,hc _ _ ?_,hc _ _ ?_⟩
  ·exact kW aj off k 0 (by omega) c i hi
  ·exact kW aj off k 1 (by omega) c i hi
  ·exact kW aj off k 2 (by omega) c i hi
theorem uu (s g pb m n room:Nat)(nx:Int)(t:Nat->Bool)(B:Nat->Nat->Nat)(Os:List Ob)(id off k:Int)(w:World)(h:eD w s g pb m n room nx t B Os)(hi:-9223372036854775808<=id/\id<9223372036854775808)(ho:fj Os id=none) :
  Calls prog 111 #[.pointer (some ⟨s,0,none⟩),.int .i64 id,.int .i64 off,.int .i64 k] w λe w'=>e=.returned (.tuple #[.slice none 0 0,.int .i64 20])/\Below w.heap.size w w':=by
 have hz:=aG bI
 have H:=aa h
 clear h
 go_enter func111,ntmps111
 go_wp2_with (first|(go_at_call 162;refine (lG s g pb m n room nx t B Os id off k _ H.o hi ho).mono ?_;rintro e w1 ⟨rfl,hb⟩;have HB:=aa hb;clear hb))
 exact bodyPost_ret (v:=.tuple #[.slice none 0 0,.int .i64 20]) (by simp [results,results111,go_sem]) rfl ⟨rfl,al HB.o (ab _ _)⟩
theorem xB (s g pb m n room:Nat)(nx:Int)(t:Nat->Bool)(B:Nat->Nat->Nat)(Os:List Ob)(id off k:Int)(o:Ob)(w:World)(h:eD w s g pb m n room nx t B Os)(hi:-9223372036854775808<=id/\id<9223372036854775808)(ho:fj Os id=some o)(hb:¬kI o off k) :
  Calls prog 111 #[.pointer (some ⟨s,0,none⟩),.int .i64 id,.int .i64 off,.int .i64 k] w λe w'=>e=.returned (.tuple #[.slice none 0 0,.int .i64 5])/\Below w.heap.size w w':=by
 have hz:=aG bI
 have H:=aa h
 clear h
 go_enter func111,ntmps111
 go_wp2_with (first|(go_at_call 162;refine (ny s g pb m n room nx t B Os id off k o _ H.o hi ho hb).mono ?_;rintro e w1 ⟨rfl,hb⟩;have HB:=aa hb;clear hb))
 exact bodyPost_ret (v:=.tuple #[.slice none 0 0,.int .i64 5]) (by simp [results,results111,go_sem]) rfl ⟨rfl,al HB.o (ab _ _)⟩
theorem nY (k:Nat)(hk:k<=140737488355328):∃Z:Array Value,Z.size=k/\∀W:World,(Instr.makeSlice 39 (.int .i64 0) (.int .i64 (k:Int))).run prog W=.ok (.slice (some ⟨W.heap.size,0,none⟩) 0 k) (W.alloc (.cells Z 5)):=by
 obtain⟨i,hi,hz0,hz1,hz2⟩:=info_parts jb
 refine⟨madeCells (Value.int .u8 0).cells k,size_madeCells _ _,λW=>?_⟩
 have hr:=run_make (P:=prog) W 39 5 i _ underlying39 hi hz0 .i64 .i64 0 (k:Int) (Int.le_refl _) (by omega) (by rw [hz2];omega) (by omega)
 simp only [Int.toNat_natCast,hz1,Nat.mul_one,Int.toNat_zero] at hr
 exact hr
theorem sU {o:Nat}(h:aD (some ⟨b,o,none⟩) k):k=b:=by
 obtain⟨x,hx,rfl⟩:=h
 cases hx
 rfl
def IQ (w4:World)(b0 off k:Nat)(data:List Nat)(v12 v35:Value)(w':World):Prop :=
 ∃(i m cap:Nat) (a:Option Addr),v12=.slice a m cap/\v35=.int .i64 (i:Int)/\m=pos off k i - off/\i<=oQ off k/\Own w' b0 5 a m cap (aM ((data.drop off).take m))/\(∀j,aD a j->j=b0\/w4.heap.size<=j)/\ae (·=b0) w4 w'
theorem Ch (s g pb m n room:Nat)(nx:Int)(t:Nat->Bool)(B:Nat->Nat->Nat)(Os:List Ob)(id:Int)(off k:Nat)(o:Ob)(w:World)(h:eD w s g pb m n room nx t B Os)(hi:-9223372036854775808<=id/\id<9223372036854775808)(ho:fj Os id=some o)(hle:off+k<=o.data.length)(hk:k<=1024) :
  Calls prog 111 #[.pointer (some ⟨s,0,none⟩),.int .i64 id,.int .i64 (off:Int),.int .i64 (k:Int)] w λe w'=>∃a cap,e=.returned (.tuple #[.slice a k cap,.int .i64 0])/\Own w' w.heap.size 5 a k cap (aM ((o.data.drop off).take k))/\Below w.heap.size w w':=by
 have hz:=aG bI
 have hz75:=aG pE
 have hmem:=(at_mem ho).1
 have hbig:=h.eK o hmem
 have HRow:=aa (h.rows o hmem)
 have HLen:=aa (h.len o hmem)
 have HByt:=aa (h.bytes o hmem)
 have HPg:Hid (∀p∈o.aj,t p=true):=aa (λp hp=>(h.mem hmem hp).1)
 have H:=aa h
 have HRK:Hid (kI o (off:Int) (k:Int)):=aa (by unfold kI;omega)
 have hsl:=World.block_lt_of_cell? _ _ h.c0.1
 have hgl:=h.ph.CH
 have hpl:=h.ph.lt
 obtain⟨sz,hsz⟩:∃sz,sz=o.data.length:=⟨_,rfl⟩
 obtain⟨PN,hPN⟩:∃PN,PN=o.aj.length:=⟨_,rfl⟩
 have hP64:off+k<=64*o.aj.length:=by have:=HLen.o;unfold aO at this;omega
 have HP64:=aa hP64
 obtain⟨Z,hZs,hmk⟩:=nY k (by omega)
 have HZs:=aa hZs
 have HLE:=aa hle
 have hb4:off+k<=4096:=by omega
 clear h hP64 hZs hle
 go_enter func111,ntmps111
 go_upto_region 5 with (first|(go_at_call 162;refine (rP s g pb m n room nx t B Os id (off:Int) (k:Int) o _ H.o hi ho HRK.o).mono ?_;rintro e w1 ⟨rfl,hb⟩;have HB:=aa hb;clear hb))
 have hw1:=HB.o.size
 obtain⟨w3,hw3⟩:∃w3,w3=(w1.alloc (Obj.cells #[Value.int .i64 (o.data.length:Int),Value.slice o.jU o.aj.length o.aj.length] 214)).alloc (Obj.cells Z 5):=⟨_,rfl⟩
 have HB3:Hid (Below w.heap.size w w3):=aa (by rw [hw3];exact al HB.o (aw _ _ _))
 have HS3:Hid (w3.heap.size=w1.heap.size+2):=aa (by rw [hw3];simp)
 have HO0:Hid (Own w3 (w1.heap.size+1) 5 (some ⟨w1.heap.size+1,0,none⟩) 0 k []):=aa (by
  have:=World.ownsRow_made (base:=w1.heap.size+1) (size:=1) (e:=5) (w1.alloc (Obj.cells #[Value.int .i64 (o.data.length:Int),Value.slice o.jU o.aj.length o.aj.length] 214)) Z k (by simp) (by unfold maxLen;omega) (by rw [HZs.o];omega)
  rw [World.size_alloc] at this
  rw [hw3]
  exact⟨this,λ_ h=>(by cases h)⟩)
 have x10a:w3.cell? ⟨w1.heap.size,0,none⟩=some (.int .i64 (o.data.length:Int)):=by rw [hw3];exact cell_later (ab _ _) (aE _ _ _ 0 _ rfl).1
 have x10b:w3.cell? ⟨w1.heap.size,1,none⟩=some (.slice o.jU o.aj.length o.aj.length):=by rw [hw3];exact cell_later (ab _ _) (aE _ _ _ 1 _ rfl).1
 rw [<-hw3]
 obtain⟨b0,hb0⟩:∃b0,b0=w1.heap.size+1:=⟨_,rfl⟩
 rw [<-hb0] at HO0
 rw [<-hb0]
 have HB0:=aa hb0
 clear hw3 hmk hb0 hz
 go_upto_region 6 with (first|(go_at_call 163;refine (lF (o.data.length:Int) o.jU o.aj off k _ (HRow.o.later HB3.o) HP64.o hb4).mono ?_;rintro e w4 ⟨ap,capp,rfl,OP,hb⟩;have HOP:=aa OP;have HB4:=aa hb;clear OP hb))
 clear x10a x10b
 have HA4:=aa ((H.o.ph.later HB3.o).later HB4.o)
 have HC4:=aa (cell_later HB4.o (cell_later HB3.o H.o.c0.1))
 obtain⟨c,hc⟩:∃c,c=oQ off k:=⟨_,rfl⟩
 rw [<-hc] at HOP
 rw [<-hc]
 have HCN:=aa hc
 have hc64:c<=4096:=by rw [hc];unfold oQ;split<;>omega
 clear hc
 go_loopw [12,35] (IQ w4 b0 off k o.data) (λ_ v _=>c - ef v)
 case atStart =>
  refine⟨0,0,k,_,rfl,rfl,by rw [gi];omega,Nat.zero_le _,HO0.o.later HB4.o,λj hj=>.inl (sU hj),ae.refl _ _⟩
 case round =>
  obtain⟨i,l,cap,a,rfl,rfl,hl,hin,hO,hBl,hBt⟩:=hrel
  have HL:=aa hl
  have HO:=aa hO
  have HBl:=aa hBl
  have HBt:=aa hBt
  have HIN:=aa hin
  clear hl hO hBl hBt hin
  have hb0n:b0≠s/\b0≠g/\b0≠pb:=by have:=HB0.o;omega
  obtain⟨hn1,hn2,hn3⟩:=hb0n
  have HA:=aa (HA4.o.but HBt.o (Ne.symm hn2) (Ne.symm hn3))
  have xs:=aC HBt.o HC4.o (Ne.symm hn1)
  by_cases hlt:i<c
  ·have hd:decide ((i:Int)<(c:Int))=true:=dT (by omega)
   have hpi:pos off k i<off+k:=(jr off k i).1 (by have:=HCN.o;omega)
   obtain⟨gp,rfl,hg1,hg2,y0,y1,y2⟩:=qp HOP.o hlt
   have hgb:gp≠b0:=by have:=HB0.o;have:=HS3.o;omega
   replace y0:=aC HBt.o y0 hgb
   replace y1:=aC HBt.o y1 hgb
   replace y2:=aC HBt.o y2 hgb
   have hql:=E_ HLen.o HLE.o hpi
   have HNX:=aa (BI HByt.o HLE.o hpi)
   have hnx:=gL hpi
   have hpl2:=ix off k i
   obtain⟨pg,hpg⟩:∃pg,pg=o.aj.getD (off / 64+i) 0:=⟨_,rfl⟩
   obtain⟨st,hst⟩:∃st,st=pos off k i%64:=⟨_,rfl⟩
   obtain⟨f,hf⟩:∃f,f=pos off k (i+1) - pos off k i:=⟨_,rfl⟩
   have HT:Hid (t pg=true):=aa (HPg.o pg (by rw [hpg,List.getD_eq_getElem?_getD,gE hql];exact List.getElem_mem _))
   have hsf:st+f<=64:=by omega
   rw [<-hpg,<-hst,<-hf] at HNX
   rw [<-hpg] at y0
   rw [<-hst] at y1
   rw [<-hf] at y2
   have HLF:Hid (pos off k (i+1) - off=l+f):=aa (by have:=HL.o;omega)
   have hlf:l+f<=4096:=by have:=HLF.o;have:=ix off k (i+1);omega
   clear hpg hst hf hnx hpl2 hpi hql
   go_upto_region 8 with fail
   obtain⟨w5,hw5⟩:∃w5,w5=wr.alloc (Obj.cells #[Value.int .i64 (pg:Int),Value.int .i64 (st:Int),Value.int .i64 (f:Int)] 266):=⟨_,rfl⟩
   have HB5:Hid (Below wr.heap.size wr w5):=aa (by rw [hw5];exact ab _ _)
   have HS:Hid (∀W,Below w5.heap.size w5 W->(W.cell? ⟨s,0,none⟩=some (.pointer (some ⟨g,0,none⟩))/\W.cell? ⟨wr.heap.size,0,none⟩=some (.int .i64 (pg:Int))/\W.cell? ⟨wr.heap.size,1,none⟩=some (.int .i64 (st:Int))/\W.cell? ⟨wr.heap.size,2,none⟩=some (.int .i64 (f:Int)))/\Below w5.heap.size w5 W):=aa (by
    intro W hW
    refine⟨⟨cell_later hW (cell_later HB5.o xs),?_,?_,?_⟩,hW⟩<;>refine cell_later hW ?_<;>rw [hw5]
    ·exact (aE _ _ _ 0 _ rfl).1
    ·exact (aE _ _ _ 1 _ rfl).1
    ·exact (aE _ _ _ 2 _ rfl).1)
   rw [<-hw5]
   have HA5:=aa (HA.o.later HB5.o)
   clear hw5 y0 y1 y2 xs
   go_region_held3 (λW=>(W.cell? ⟨s,0,none⟩=some (.pointer (some ⟨g,0,none⟩))/\W.cell? ⟨wr.heap.size,0,none⟩=some (.int .i64 (pg:Int))/\W.cell? ⟨wr.heap.size,1,none⟩=some (.int .i64 (st:Int))/\W.cell? ⟨wr.heap.size,2,none⟩=some (.int .i64 (f:Int)))/\Below w5.heap.size w5 W) (first|exact HS.o _ (Below.refl _ _).drew|exact HS.o _ hb2.out) (first|(go_at_call 164;refine (pS g pb n t B pg st f _ (HA5.o.later (Below.refl _ _).drew) HT.o hsf).mono ?_;rintro e w6 ⟨a6,rfl,A6,hb6⟩;have hb2:=aa (al (Below.refl w5.heap.size w5).drew hb6)))
   have HB6:=aa (al HB5.o hb2.out)
   obtain⟨a',cap',w7,hrun,hO7,hG⟩:=fI (HO.o.later HB6.o) A6.row (by have:=HB6.o.size;have:=HBt.o.size;have:=HB4.o.size;have:=HS3.o;have:=HB0.o;omega) (by omega)
   have HRUN:=aa hrun
   have HO7:=aa hO7
   have HG:=aa hG
   clear hrun hO7 hG A6 hb6
   go_wp2_with (first|(at_builtin;refine kt rfl _ _ 39 rfl _ _ rfl rfl _ w7 HRUN.o ?_))
   have hBt6:=HBt.o.call HB6.o
   refine⟨⟨i+1,l+f,cap',a',rfl,rfl,HLF.o.symm,by have:=HCN.o;omega,?_,λj hj=>?_,hBt6.comp HG.o.but (λj hj=>?_)⟩,by simp [ef];omega⟩
   ·have e:(o.data.drop off).take (l+f)=(o.data.drop off).take l++oM B pg st f:=by
     have:=HNX.o
     rw [HLF.o,<-HL.o] at this
     exact this
    rw [e,fv]
    exact HO7.o
   ·rcases HG.o.on j hj with h1|h1
    ·exact HBl.o j h1
    ·exact .inr (Nat.le_trans hBt6.size h1)
   ·exact HBl.o j hj
  ·obtain rfl:i=c:=by have:=HIN.o;have:=HCN.o;omega
   have hd:decide ((i:Int)<(i:Int))=false:=by simp
   have HLK:Hid (l=k):=aa (by
    have h1:=HL.o
    rw [HCN.o,uP] at h1
    omega)
   clear xs
   go_wp2
   have hlk:=HLK.o
   subst hlk
   have hw:Below w.heap.size w wr:=ae.below (S:=(·=b0)) (al HB3.o HB4.o) HBt.o (λj hj=>by have:=HB0.o;omega)
   refine bodyPost_ret (v:=.tuple #[.slice a l cap,.int .i64 0]) (by simp [results,results111,go_sem]) rfl ⟨a,cap,rfl,HO.o.mono (by have:=HB0.o;omega),hw⟩
theorem tu (t e:TypeId)(hu:prog.underlying t=some (.slice (prog.elem t)))(hs:∀W:World,(sizeOf (prog.elem t)).run prog W=.ok 1 W)(a:Option Addr)(r cap f:Nat)(hf:f<=r) :
  ∃a',(∀W:World,(Instr.sliceAt t (.slice a r cap) (some (.int .i64 (f:Int))) none none).run prog W=.ok (.slice a' (r - f) (cap - f)) W)/\(cap=f/\a'=a\/a'=a.map (·.add f)):=by
 have h:∀W:World,(Instr.sliceAt t (.slice a r cap) (some (.int .i64 (f:Int))) none none).run prog W=.ok (sliced a f r cap 1) W:=λW=>by
  rw [run_sliceAt_slice W t _ _ _ _ hu,run_slice_l W t a r cap hu .i64 (f:Int) (by omega) (by omega),hs]
  simp
 by_cases hc:cap=f
 ·exact⟨a,λW=>by rw [h W];simp [sliced,hc],.inl ⟨hc,rfl⟩⟩
 ·exact⟨a.map (·.add f),λW=>by rw [h W];simp [sliced,hc],.inr rfl⟩
theorem add_add (x:Addr)(i j:Nat):(x.add i).add j=x.add (i+j):=by
 unfold Addr.add
 by_cases hi:i=0
 ·subst hi
  simp
 ·by_cases hj:j=0
  ·subst hj
   simp
  ·rw [if_neg hi,if_neg hj,if_neg (by omega)]
   simp [Nat.add_assoc]
theorem _root_.Go.Proofs.YtfmhdimaijimlaaGreatDoor.Row.from {a':Option Addr}{r cap f:Nat}{L:List Value}(h:Row w a r cap L)(hf:f<=r)(ha:cap=f/\a'=a\/a'=a.map (·.add f)):Row w a' (r - f) (cap - f) (L.drop f)/\∀k,aD a' k->aD a k:=by
 have hc:=h.cap_
 rcases ha with ⟨e,rfl⟩|rfl
 ·have hrf:r=f:=by omega
  refine⟨⟨by rw [List.length_drop,h.len],by omega,λ_=>by omega,λx hx j u hu=>?_,λu hu=>h.one u (List.mem_of_mem_drop hu)⟩,λ_ h=>h⟩
  rw [List.drop_of_length_le (by rw [h.len];omega)] at hu
  cases hu
 ·refine⟨⟨by rw [List.length_drop,h.len],by omega,λe=>?_,λx hx j u hu=>?_,λu hu=>h.one u (List.mem_of_mem_drop hu)⟩,λk hk=>?_⟩
  ·cases a with
   | none=>have:=h.none_ rfl;omega
   | some x=>cases e
  ·cases a with
   | none=>cases hx
   | some y =>
    simp only [Option.map_some,Option.some.injEq] at hx
    subst hx
    rw [add_add]
    exact h.cells y rfl (f+j) u (by rw [<-List.getElem?_drop];exact hu)
  ·obtain⟨x,hx,rfl⟩:=hk
   cases a with
   | none=>cases hx
   | some y =>
    simp only [Option.map_some,Option.some.injEq] at hx
    subst hx
    exact⟨y,rfl,(nU y f).symm⟩
theorem yE (L:List Nat)(k:Nat):(aM L).drop k=aM (L.drop k):=by simp [aM,List.map_drop]
theorem yx (L:List Nat)(k:Nat):(aM L).take k=aM (L.take k):=by simp [aM,List.map_take]
theorem IJ:prog.underlying 39=some (.slice (prog.elem 39)):=by kernel_rfl
theorem xr (W:World):(sizeOf (prog.elem 39)).run prog W=.ok 1 W:=by
 have e:prog.elem 39=5:=by kernel_rfl
 obtain⟨i,hi,hz0,hz1,hz2⟩:=info_parts jb
 rw [e]
 simp [sizeOf,typeInfo,hi,hz1]
def qa (aj:List Nat)(B B':Nat->Nat->Nat)(off p:Nat)(D:List Nat):Prop :=
 (∀j,j<64*aj.length->B' (aj.getD (j / 64) 0) (j%64)=if off<=j/\j<p then D.getD (j - off) 0 else B (aj.getD (j / 64) 0) (j%64))/\∀q x,¬q∈aj->B' q x=B q x
theorem qz (aj:List Nat)(B:Nat->Nat->Nat)(off:Nat)(D:List Nat):qa aj B B off off D :=
 ⟨λj hj=>by rw [if_neg (by omega)],λ_ _ _=>rfl⟩
theorem f_ {l:List Nat}(h:i<l.length):l.getD i 0∈l:=by
 rw [List.getD_eq_getElem?_getD,gE h]
 exact List.getElem_mem _
theorem getD_inj {l:List Nat}(hn:l.Nodup)(hi:i<l.length)(hj:j<l.length)(h:l.getD i 0=l.getD j 0):i=j:=by
 rw [List.getD_eq_getElem?_getD,List.getD_eq_getElem?_getD,gE hi,gE hj] at h
 simp only [Option.getD_some] at h
 unfold List.Nodup at hn
 rw [List.pairwise_iff_getElem] at hn
 rcases Nat.lt_trichotomy i j with h1|h1|h1
 ·exact absurd h (hn i j hi hj h1)
 ·exact h1
 ·exact absurd h.symm (hn j i hj hi h1)
theorem tV {aj:List Nat}{B B':Nat->Nat->Nat}{off:Nat}{D:List Nat}(hn:aj.Nodup)(hk:D.length=k)(hp:off+k<=64*aj.length)(h:pos off k i<off+k)(hw:qa aj B B' off (pos off k i) D) :
  qa aj B (zP B' (aj.getD (off / 64+i) 0) (pos off k i%64) ((D.drop (pos off k i - off)).take (pos off k (i+1) - pos off k i))) off (pos off k (i+1)) D:=by
 have h1:=jv h
 have h2:=gL h
 have h3:=ix off k i
 have hl:((D.drop (pos off k i - off)).take (pos off k (i+1) - pos off k i)).length=pos off k (i+1) - pos off k i:=by
  rw [List.length_take,List.length_drop]
  omega
 generalize pos off k i=p at *
 generalize pos off k (i+1)=p2 at *
 rw [<-h1]
 refine⟨λj hj=>?_,λq x hq=>?_⟩
 ·unfold zP
  rw [hl]
  by_cases e:j / 64=p / 64
  ·rw [e]
   by_cases e2:p<=j/\j<p2
   ·rw [if_pos ⟨rfl,by omega,by omega⟩,if_pos (by omega)]
    rw [List.getD_eq_getElem?_getD,List.getElem?_take,if_pos (by omega),List.getElem?_drop,List.getD_eq_getElem?_getD]
    congr 2
    omega
   ·rw [if_neg (by omega)]
    have:=hw.1 j hj
    rw [e] at this
    rw [this]
    by_cases e3:off<=j/\j<p
    ·rw [if_pos e3,if_pos (by omega)]
    ·rw [if_neg e3,if_neg (by omega)]
  ·rw [if_neg (λe2=>e (getD_inj hn (by omega) (by omega) e2.1)),hw.1 j hj]
   by_cases e3:off<=j/\j<p
   ·rw [if_pos e3,if_pos (by omega)]
   ·rw [if_neg e3,if_neg (by omega)]
 ·unfold zP
  rw [if_neg (λe=>hq (by rw [e.1];exact f_ (by omega)))]
  exact hw.2 q x hq
def bR (L D:List Nat)(off:Nat):List Nat:=L.take off++D++L.drop (off+D.length)
theorem dG {L D:List Nat}{off:Nat}(h:off+D.length<=L.length):(bR L D off).length=L.length:=by
 simp [bR]
 omega
theorem yy {L D:List Nat}{off:Nat}(h:off+D.length<=L.length)(j:Nat):(bR L D off).getD j 0=if off<=j/\j<off+D.length then D.getD (j - off) 0 else L.getD j 0:=by
 unfold bR
 simp only [List.getD_eq_getElem?_getD]
 have hl:(L.take off).length=off:=by rw [List.length_take];omega
 by_cases h1:j<off
 ·rw [if_neg (by omega),List.append_assoc,List.getElem?_append_left (by omega),List.getElem?_take,if_pos h1]
 ·by_cases h2:j<off+D.length
  ·rw [if_pos (by omega),List.append_assoc,List.getElem?_append_right (by omega),List.getElem?_append_left (by omega),hl]
  ·rw [if_neg (by omega),List.getElem?_append_right (by rw [List.length_append,hl];omega),List.getElem?_drop,List.length_append,hl]
   congr 2
   omega
def dW (id:Int)(off:Nat)(D:List Nat)(o:Ob):Ob:=if o.id=id then { o with data:=bR o.data D off } else o
theorem pf (id:Int)(off:Nat)(D:List Nat)(o:Ob):(dW id off D o).id=o.id:=by unfold dW;split<;>rfl
theorem er (id:Int)(off:Nat)(D:List Nat)(o:Ob):(dW id off D o).aj=o.aj:=by unfold dW;split<;>rfl
theorem iM (id:Int)(off:Nat)(D:List Nat)(o:Ob):(dW id off D o).jU=o.jU:=by unfold dW;split<;>rfl
theorem nz (id:Int)(off:Nat)(D:List Nat)(Os:List Ob):dX (Os.map (dW id off D))=dX Os:=by
 unfold dX
 rw [List.flatMap_map]
 congr 1
 funext o
 exact er id off D o
theorem oP {Os:List Ob}{id:Int}{o p:Ob}(hr:Os.Pairwise (λa b=>a.id<b.id))(ho:fj Os id=some o)(hp:p∈Os)(e:p.id=id):p=o:=by
 have hom:=at_mem ho
 obtain⟨i,hi,rfl⟩:=List.getElem_of_mem hp
 obtain⟨j,hj,rfl⟩:=List.getElem_of_mem hom.1
 rw [List.pairwise_iff_getElem] at hr
 have hij:i=j:=by
  rcases Nat.lt_trichotomy i j with h|h|h
  ·have:=hr i j hi hj h;have:=hom.2;omega
  ·exact h
  ·have:=hr j i hj hi h;have:=hom.2;omega
 subst hij
 rfl
theorem di:∀{Os:List Ob},(dX Os).Nodup->(∀o∈Os,o.aj.Nodup)/\∀o∈Os,∀p∈Os,o.id≠p.id->∀x,x∈o.aj->¬x∈p.aj
 | [],_=>⟨λ_ h=>(by cases h),λ_ h=>(by cases h)⟩
 | a::r,h=>by
  have h2:(a.aj++dX r).Nodup:=by simpa [dX] using h
  rw [List.nodup_append] at h2
  obtain⟨n1,n2,n3⟩:=h2
  obtain⟨i1,i2⟩:=di n2
  refine⟨λo ho=>?_,λo ho p hp hne x hx hy=>?_⟩
  ·rcases List.mem_cons.1 ho with rfl|h
   ·exact n1
   ·exact i1 o h
  ·rcases List.mem_cons.1 ho with rfl|h1
   ·rcases List.mem_cons.1 hp with rfl|h2
    ·exact hne rfl
    ·exact n3 x hx x (List.mem_flatMap.2 ⟨p,h2,hy⟩) rfl
   ·rcases List.mem_cons.1 hp with rfl|h2
    ·exact n3 x hy x (List.mem_flatMap.2 ⟨o,h1,hx⟩) rfl
    ·exact i2 o h1 p h2 hne x hx hy
theorem wL {Os:List Ob}{id:Int}{off:Nat}{D:List Nat}(h:∀o∈Os,o.id=id->off+D.length<=o.data.length):dZ (Os.map (dW id off D))=dZ Os:=by
 unfold dZ
 rw [List.map_map]
 congr 1
 refine List.map_congr_left λo ho=>?_
 simp only [Function.comp,eR,pf]
 congr 2
 unfold Ob.val
 rw [er,iM]
 have e:(dW id off D o).data.length=o.data.length:=by
  unfold dW
  split
  ·exact dG (h o ho (by assumption))
  ·rfl
 rw [e]
theorem vY (id:Int)(off:Nat)(D:List Nat){Os:List Ob}(h:Os.Pairwise (λa b=>a.id<b.id)):Os.Pairwise (λa b=>(dW id off D a).id<(dW id off D b).id):=by
 simp only [pf]
 exact h
theorem eD.write {s pb room:Nat}{nx:Int}{t:Nat->Bool}{B B':Nat->Nat->Nat}{Os:List Ob}{id:Int}{o:Ob}{off:Nat}{D:List Nat}(h:eD w s g pb m n room nx t B Os)(ho:fj Os id=some o)(hle:off+D.length<=o.data.length)
  (hA:cZ w' g pb n t B') (hW:qa o.aj B B' off (off+D.length) D) (hb:ae (·=pb) w w'):eD w' s g pb m n room nx t B' (Os.map (dW id off D)):=by
 have hm:=at_mem ho
 have hall:∀p∈Os,p.id=id->off+D.length<=p.data.length:=λp hp e=>by rw [oP h.iD ho hp e];exact hle
 obtain⟨n1,n2⟩:=di h.nd
 have hmem:∀q∈Os.map (dW id off D),∃p∈Os,q=dW id off D p:=λq hq=>by
  obtain⟨p,hp,e⟩:=List.mem_map.1 hq
  exact⟨p,hp,e.symm⟩
 have hdl:∀p∈Os,(dW id off D p).data.length=p.data.length:=λp hp=>by
  unfold dW
  split
  ·exact dG (hall p hp (by assumption))
  ·rfl
 refine⟨hA,h.c0.but hb h.sp,h.c1.but hb h.sp,h.c2.but hb h.sp,h.c3.but hb h.sp,?_,h.sg,h.sp,h.sm,h.gm,h.pm,λq hq=>?_,λq hq k hk=>?_,λq hq=>?_,by rw [nz];exact h.nd,λi=>by rw [nz];exact h.FU i,λq hq j hj=>?_,?_,λq hq=>?_,h.Hn,by rw [List.length_map];exact h.rm,λq hq=>?_⟩
 ·rw [List.length_map,wL hall]
  exact bd hb h.map (λe=>h.pm e.symm)
 ·obtain⟨p,hp,rfl⟩:=hmem q hq
  rw [iM,er]
  exact (h.rows p hp).but hb (λk hk=>(h.off p hp k hk).2.2.1)
 ·obtain⟨p,hp,rfl⟩:=hmem q hq
  rw [iM] at hk
  obtain⟨a1,a2,a3,a4,a5⟩:=h.off p hp k hk
  exact⟨a1,a2,a3,a4,Nat.lt_of_lt_of_le a5 hb.size⟩
 ·obtain⟨p,hp,rfl⟩:=hmem q hq
  rw [er,hdl p hp]
  exact h.len p hp
 ·obtain⟨p,hp,rfl⟩:=hmem q hq
  rw [hdl p hp] at hj
  rw [er]
  have hlp:=h.len p hp
  have hq:j / 64<p.aj.length:=by unfold aO at hlp;omega
  by_cases e:p.id=id
  ·obtain rfl:=oP h.iD ho hp e
   unfold dW
   rw [if_pos e,hW.1 j (by omega),yy hle j,h.bytes p hp j hj]
  ·rw [hW.2 _ _ (n2 p hp o hm.1 (by rw [hm.2];exact e) _ (f_ hq)),h.bytes p hp j hj]
   unfold dW
   rw [if_neg e]
 ·rw [List.pairwise_map]
  exact vY id off D h.iD
 ·obtain⟨p,hp,rfl⟩:=hmem q hq
  rw [pf]
  exact h.ids p hp
 ·obtain⟨p,hp,rfl⟩:=hmem q hq
  rw [hdl p hp]
  exact h.eK p hp
theorem rG (s g pb m n room:Nat)(nx:Int)(t:Nat->Bool)(B:Nat->Nat->Nat)(Os:List Ob)(id off:Int)(da:Option Addr)(k cd:Nat)(w:World)(h:eD w s g pb m n room nx t B Os)(hi:-9223372036854775808<=id/\id<9223372036854775808)(ho:fj Os id=none) :
  Calls prog 112 #[.pointer (some ⟨s,0,none⟩),.int .i64 id,.int .i64 off,.slice da k cd] w λe w'=>e=.returned (.int .i64 20)/\Below w.heap.size w w':=by
 have hz:=aG bI
 have H:=aa h
 clear h
 go_enter func112,ntmps112
 go_wp2_with (first|(go_at_call 162;refine (lG s g pb m n room nx t B Os id off (k:Int) _ H.o hi ho).mono ?_;rintro e w1 ⟨rfl,hb⟩;have HB:=aa hb;clear hb))
 go_ret
 exact⟨rfl,al HB.o (ab _ _)⟩
theorem uf (s g pb m n room:Nat)(nx:Int)(t:Nat->Bool)(B:Nat->Nat->Nat)(Os:List Ob)(id off:Int)(o:Ob)(da:Option Addr)(k cd:Nat)(w:World)(h:eD w s g pb m n room nx t B Os)(hi:-9223372036854775808<=id/\id<9223372036854775808)(ho:fj Os id=some o)(hb:¬kI o off (k:Int)) :
  Calls prog 112 #[.pointer (some ⟨s,0,none⟩),.int .i64 id,.int .i64 off,.slice da k cd] w λe w'=>e=.returned (.int .i64 5)/\Below w.heap.size w w':=by
 have hz:=aG bI
 have H:=aa h
 clear h
 go_enter func112,ntmps112
 go_wp2_with (first|(go_at_call 162;refine (ny s g pb m n room nx t B Os id off (k:Int) o _ H.o hi ho hb).mono ?_;rintro e w1 ⟨rfl,hb⟩;have HB:=aa hb;clear hb))
 go_ret
 exact⟨rfl,al HB.o (ab _ _)⟩
def Il (w4:World)(g pb n:Nat)(t:Nat->Bool)(B:Nat->Nat->Nat)(aj:List Nat)(off k:Nat)(da:Option Addr)(D:List Nat)(v3 v31:Value)(w':World):Prop :=
 ∃(i r cd:Nat) (ad:Option Addr) (B':Nat->Nat->Nat),v3=.slice ad r cd/\v31=.int .i64 (i:Int)/\r=off+k - pos off k i/\i<=oQ off k/\Row w' ad r cd (aM (D.drop (pos off k i - off)))/\(∀j,aD ad j->aD da j)/\cZ w' g pb n t B'/\qa aj B B' off (pos off k i) D/\ae (·=pb) w4 w'
theorem wD (s g pb m n room:Nat)(nx:Int)(t:Nat->Bool)(B:Nat->Nat->Nat)(Os:List Ob)(id:Int)(off:Nat)(o:Ob)(da:Option Addr)(k cd:Nat)(D:List Nat)(w:World)(h:eD w s g pb m n room nx t B Os)(hi:-9223372036854775808<=id/\id<9223372036854775808)(ho:fj Os id=some o)(hle:off+k<=o.data.length)(hk:k<=1024)(hR:Row w da k cd (aM D))(hD:∀x∈D,x<256)(hap:0<k->∀j,aD da j->j≠pb) :
  Calls prog 112 #[.pointer (some ⟨s,0,none⟩),.int .i64 id,.int .i64 (off:Int),.slice da k cd] w λe w'=>∃B',e=.returned (.int .i64 0)/\eD w' s g pb m n room nx t B' (Os.map (dW id off D))/\ae (·=pb) w w':=by
 have hz:=aG bI
 have hz75:=aG pE
 have hmem:=(at_mem ho).1
 have hbig:=h.eK o hmem
 have HRow:=aa (h.rows o hmem)
 have HLen:=aa (h.len o hmem)
 have HPg:Hid (∀p∈o.aj,t p=true):=aa (λp hp=>(h.mem hmem hp).1)
 have HND:=aa ((di h.nd).1 o hmem)
 have H:=aa h
 have HRK:Hid (kI o (off:Int) (k:Int)):=aa (by unfold kI;omega)
 have hsl:=World.block_lt_of_cell? _ _ h.c0.1
 have hgl:=h.ph.CH
 have hpl:=h.ph.lt
 have hsp:=h.sp
 have hDl:D.length=k:=by have:=hR.len;rwa [ax] at this
 have HDL:=aa hDl
 have hP64:off+k<=64*o.aj.length:=by have:=HLen.o;unfold aO at this;omega
 have HP64:=aa hP64
 have HLE:=aa hle
 have HR:=aa hR
 have HD:=aa hD
 have HAP:=aa hap
 have hb4:off+k<=4096:=by omega
 clear h hP64 hle hR hD hap hDl
 go_enter func112,ntmps112
 go_upto_region 4 with (first|(go_at_call 162;refine (rP s g pb m n room nx t B Os id (off:Int) (k:Int) o _ H.o hi ho HRK.o).mono ?_;rintro e w1 ⟨rfl,hb⟩;have HB:=aa hb;clear hb))
 obtain⟨w3,hw3⟩:∃w3,w3=w1.alloc (Obj.cells #[Value.int .i64 (o.data.length:Int),Value.slice o.jU o.aj.length o.aj.length] 214):=⟨_,rfl⟩
 have HB3:Hid (Below w.heap.size w w3):=aa (by rw [hw3];exact al HB.o (ab _ _))
 have x10a:w3.cell? ⟨w1.heap.size,0,none⟩=some (.int .i64 (o.data.length:Int)):=by rw [hw3];exact (aE _ _ _ 0 _ rfl).1
 have x10b:w3.cell? ⟨w1.heap.size,1,none⟩=some (.slice o.jU o.aj.length o.aj.length):=by rw [hw3];exact (aE _ _ _ 1 _ rfl).1
 rw [<-hw3]
 clear hw3 hz
 go_upto_region 5 with (first|(go_at_call 163;refine (lF (o.data.length:Int) o.jU o.aj off k _ (HRow.o.later HB3.o) HP64.o hb4).mono ?_;rintro e w4 ⟨ap,capp,rfl,OP,hb⟩;have HOP:=aa OP;have HB4:=aa hb;clear OP hb))
 clear x10a x10b
 have HH4:=aa ((H.o.later HB3.o).later HB4.o)
 have HR4:=aa ((HR.o.later HB3.o).later HB4.o)
 obtain⟨c,hc⟩:∃c,c=oQ off k:=⟨_,rfl⟩
 rw [<-hc] at HOP
 rw [<-hc]
 have HCN:=aa hc
 have hc64:c<=4096:=by rw [hc];unfold oQ;split<;>omega
 have hs3:=HB3.o.size
 clear hc
 go_loopw [3,31] (Il w4 g pb n t B o.aj off k da D) (λ_ v _=>c - ef v)
 case atStart =>
  exact⟨0,k,cd,da,B,rfl,rfl,by rw [gi];omega,Nat.zero_le _,by rw [gi,Nat.sub_self];exact HR4.o,λ_ h=>h,HH4.o.ph,by rw [gi];exact qz _ _ _ _,ae.refl _ _⟩
 case round =>
  obtain⟨i,r,cq,ad,B1,rfl,rfl,hr,hin,hRr,hBl,hA,hW,hBt⟩:=hrel
  have HRR:=aa hr
  have HRr:=aa hRr
  have HBl:=aa hBl
  have HA:=aa hA
  have HW:=aa hW
  have HBt:=aa hBt
  have HIN:=aa hin
  clear hr hRr hBl hA hW hBt hin
  have xs:=aC HBt.o HH4.o.c0.1 hsp
  by_cases hlt:i<c
  ·have hd:decide ((i:Int)<(c:Int))=true:=dT (by omega)
   have hpi:pos off k i<off+k:=(jr off k i).1 (by have:=HCN.o;omega)
   obtain⟨gp,rfl,hg1,hg2,y0,y1,y2⟩:=qp HOP.o hlt
   have hgb:gp≠pb:=by omega
   replace y0:=aC HBt.o y0 hgb
   replace y1:=aC HBt.o y1 hgb
   replace y2:=aC HBt.o y2 hgb
   have hql:=E_ HLen.o HLE.o hpi
   have HNX:=aa (tV HND.o HDL.o HP64.o hpi HW.o)
   have hnx:=gL hpi
   have hpl2:=ix off k i
   obtain⟨pg,hpg⟩:∃pg,pg=o.aj.getD (off / 64+i) 0:=⟨_,rfl⟩
   obtain⟨st,hst⟩:∃st,st=pos off k i%64:=⟨_,rfl⟩
   obtain⟨f,hf⟩:∃f,f=pos off k (i+1) - pos off k i:=⟨_,rfl⟩
   have HT:Hid (t pg=true):=aa (HPg.o pg (by rw [hpg];exact f_ hql))
   have hsf:st+f<=64:=by omega
   have hfr:f<=r:=by have:=HRR.o;omega
   rw [<-hpg,<-hst,<-hf] at HNX
   rw [<-hpg] at y0
   rw [<-hst] at y1
   rw [<-hf] at y2
   have HLF:Hid (off+k - pos off k (i+1)=r - f/\pos off k (i+1) - off=pos off k i - off+f):=aa (by have:=HRR.o;omega)
   have hr4:r<=4096:=by have:=HRR.o;omega
   have hcq:=HRr.o.cap_
   obtain⟨a2,hcut,ha2⟩:=tu 39 5 IJ xr ad r cq f hfr
   obtain⟨hR2,hBl2⟩:=HRr.o.from hfr ha2
   have HR2:=aa hR2
   have HBl2:=aa hBl2
   have hc0:(0:Int)<=(f:Int):=by omega
   have hc1:(f:Int)<=(cq:Int):=by omega
   have HRf:Hid (Row wr ad f cq (aM ((D.drop (pos off k i - off)).take f))):=aa (by
    have:=HRr.o.sub (m:=f) (c:=cq) hfr (by omega) (λe=>(HRr.o.none_ e).2)
    rwa [yx] at this)
   have HDs:Hid (∀x∈(D.drop (pos off k i - off)).take f,x<256):=aa (λx hx=>HD.o x (List.mem_of_mem_drop (List.mem_of_mem_take hx)))
   have HK0:Hid (0<k):=aa (by omega)
   clear hpg hst hf hnx hpl2 hpi hql hR2 hBl2 ha2
   go_upto_region 7 with fail
   obtain⟨w5,hw5⟩:∃w5,w5=wr.alloc (Obj.cells #[Value.int .i64 (pg:Int),Value.int .i64 (st:Int),Value.int .i64 (f:Int)] 266):=⟨_,rfl⟩
   have HB5:Hid (Below wr.heap.size wr w5):=aa (by rw [hw5];exact ab _ _)
   have hwp:wr.heap.size≠pb:=by have:=HBt.o.size;omega
   have HS:Hid (∀W,ae (·=pb) w5 W->(W.cell? ⟨s,0,none⟩=some (.pointer (some ⟨g,0,none⟩))/\W.cell? ⟨wr.heap.size,0,none⟩=some (.int .i64 (pg:Int))/\W.cell? ⟨wr.heap.size,1,none⟩=some (.int .i64 (st:Int))/\W.cell? ⟨wr.heap.size,2,none⟩=some (.int .i64 (f:Int)))/\ae (·=pb) w5 W):=aa (by
    intro W hW
    refine⟨⟨aC hW (cell_later HB5.o xs) hsp,?_,?_,?_⟩,hW⟩<;>refine aC hW ?_ hwp<;>rw [hw5]
    ·exact (aE _ _ _ 0 _ rfl).1
    ·exact (aE _ _ _ 1 _ rfl).1
    ·exact (aE _ _ _ 2 _ rfl).1)
   rw [<-hw5]
   have HA5:=aa (HA.o.later HB5.o)
   have HR5:=aa (HRf.o.later HB5.o)
   clear hw5 y0 y1 y2 xs
   have HCUT:=aa hcut
   clear hcut
   go_region_held3 (λW=>(W.cell? ⟨s,0,none⟩=some (.pointer (some ⟨g,0,none⟩))/\W.cell? ⟨wr.heap.size,0,none⟩=some (.int .i64 (pg:Int))/\W.cell? ⟨wr.heap.size,1,none⟩=some (.int .i64 (st:Int))/\W.cell? ⟨wr.heap.size,2,none⟩=some (.int .i64 (f:Int)))/\ae (·=pb) w5 W) (first|exact HS.o _ (ae.of (Below.refl _ _).drew)|exact HS.o _ hb2.out) (first|(go_at_call 165;refine (mr g pb n t B1 pg st _ f cq _ _ (HA5.o.later (Below.refl _ _).drew) HT.o hsf HDs.o (HR5.o.later (Below.refl _ _).drew)).mono ?_;rintro e w6 ⟨rfl,A6,hb6⟩;have hb2:=aa ((ae.of (S:=(·=pb)) (Below.refl w5.heap.size w5).drew).trans hb6)))
   have z2:=(HS.o _ hb2.out).1.2.2.2
   have hcut:=HCUT.o w6
   have HA6:=aa A6
   have HBw:=aa (((HBt.o.call HB5.o).trans hb2.out))
   clear A6 hb6
   go_wp2
   refine⟨⟨i+1,r - f,cq - f,a2,_,rfl,rfl,HLF.o.1.symm,by have:=HCN.o;omega,?_,λj hj=>HBl.o j (HBl2.o j hj),HA6.o,HNX.o,HBw.o⟩,by simp [ef];omega⟩
   have e:aM (D.drop (pos off k (i+1) - off))=(aM (D.drop (pos off k i - off))).drop f:=by rw [yE,List.drop_drop,HLF.o.2]
   rw [e]
   exact (HR2.o.later HB5.o).but hb2.out (λj hj=>HAP.o HK0.o j (HBl.o j (HBl2.o j hj)))
  ·obtain rfl:i=c:=by have:=HIN.o;have:=HCN.o;omega
   have hd:decide ((i:Int)<(i:Int))=false:=by simp
   have HPE:Hid (pos off k i=off+k):=aa (by rw [HCN.o];exact uP off k)
   clear xs
   go_wp2
   go_ret
   have hW:=HW.o
   rw [HPE.o,<-HDL.o] at hW
   refine⟨B1,rfl,HH4.o.write ho (by rw [HDL.o];exact HLE.o) HA.o hW HBt.o,?_⟩
   exact (ae.of (al HB3.o HB4.o)).trans HBt.o
end Go.Proofs.YtfmhdimaijimlaaGreatDoor.S
