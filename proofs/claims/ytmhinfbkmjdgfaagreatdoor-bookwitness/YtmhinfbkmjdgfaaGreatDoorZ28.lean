import Derived.Maps.OwnSet
import Derived.Lib.SlKeysI
import Derived.Test.YtmhinfbkmjdgfaaGreatDoorZ10
set_option linter.unusedVariables false
set_option linter.unusedSimpArgs false
set_option maxRecDepth 100000
set_option maxHeartbeats 2000000
namespace Go.Proofs.YtmhinfbkmjdgfaaGreatDoor.S
open Go.RowKit
variable {id nx:Int}{D L data l aC:List Nat}{b base cap f g i k m n off p pb r room s:Nat}{t:Nat->Bool}{B B':Nat->Nat->Nat}{S:Nat->Prop}{a a':Option Addr}{w w':World}
structure Ob where
 id:Int
 data:List Nat
 aC:List Nat
 kL:Option Addr
def Ob.val (o:Ob):Value:=.agg #[.int .i64 (o.data.length:Int),.slice o.kL o.aC.length o.aC.length]
def hr:Value->Option (DataW Value×List MemPlace):=λv=>some (.held v,[])
def fH (o:Ob):Lit×DataW Value:=(.int .i64 o.id,.held o.val)
def ib (Os:List Ob):DataW Value:=.map (Os.map fH)
theorem mq (o:Ob)(id:Int):(fH o).1.sameKey (.int .i64 id)=decide (o.id=id):=by simp [fH,Lit.sameKey]
theorem ze (Os:List Ob)(id:Int):Maps.has (ib Os) (.int .i64 id)=Os.any (λo=>decide (o.id=id)):=by
 rw [ib,Maps.has_eq,List.any_map];congr 1
 funext o
 exact mq o id
theorem su (Os:List Ob)(id:Int)(z:DataW Value):(ib Os).atKey (.int .i64 id) z=match Os.find? (λo=>decide (o.id=id)) with|some o=>.held o.val|none=>z:=by
 unfold ib DataW.atKey;simp only [List.find?_map];have e:((λp:Lit×DataW Value=>p.1.sameKey (.int .i64 id)) ∘ fH)=λo=>decide (o.id=id):=by funext o;exact mq o id
 rw [e];cases Os.find? (λo=>decide (o.id=id))<;>rfl
theorem fU (x:Lit×DataW Value):∀l:List (Lit×DataW Value),(∀p∈l,x.1.before p.1=false)->DataW.insert x l=l++[x]
 | [],_=>rfl
 | y::r,h=>by
  rw [DataW.insert,if_neg (by rw [h y (by simp)];simp),fU x r (λp hp=>h p (by simp [hp]))]
  rfl
theorem zf (Os:List Ob)(o:Ob)(h:∀p∈Os,p.id<o.id):(ib Os).put (.int .i64 o.id) (.held o.val)=ib (Os++[o]):=by
 unfold ib DataW.put;simp only
 rw [List.filter_eq_self.2 (λp hp=>?_),fU,List.map_append]
 ·rfl
 ·intro p hp
  obtain⟨q,hq,rfl⟩:=List.mem_map.1 hp
  have:=h q hq
  simp [fH,Lit.before];omega
 ·obtain⟨q,hq,rfl⟩:=List.mem_map.1 hp
  have:=h q hq
  rw [mq];simp
  omega
theorem wu (Os:List Ob):Maps.size (ib Os)=Os.length:=by simp [ib,Maps.size]
theorem bS {k:TypeId}{R:Value->Option (DataW Value×List MemPlace)}{D:DataW Value}(hb:aj S w w')(h:w.ownsMap Tryz.prog k R b n D)(hn:¬S b):w'.ownsMap Tryz.prog k R b n D:=by
 have hl:=h.lt
 obtain⟨es,clock,hh,r⟩:=h
 exact⟨es,clock,by rw [hb.block b hl hn];exact hh,r⟩
theorem lz (h:w.mapTurned w' b):aj (·=b) w w':=by
 have hg:=h.grown
 exact⟨hg.os,hg.tape,hg.output,hg.size,λk hk hn=>hg.block k hk (λe=>hn (by cases e;rfl))⟩
def g7 (Os:List Ob):List Nat:=Os.flatMap Ob.aC
theorem xC (n:Nat)(t:Nat->Bool):(fA n t false).length+(fA n t true).length=n:=by
 induction n with
 | zero=>simp [fA]
 | succ n ih =>
  rw [iS,iS];cases t n<;>simp<;>omega
theorem nO (n:Nat)(t:Nat->Bool)(b:Bool):(fA n t b).Nodup:=List.Pairwise.filter _ List.nodup_range
theorem vZ (hL:L.Nodup)(hn:∀i∈L,i<n)(ht:∀i,t i=decide (i∈L)):(fA n t false).length+L.length=n:=by
 have h:=xC n t
 have hp:(fA n t true).Perm L:=(List.perm_ext_iff_of_nodup (nO _ _ _) hL).2 λi=>by
  rw [pj,ht i];simp only [decide_eq_true_eq];exact⟨λh=>h.2,λh=>⟨hn i h,h⟩⟩
 rw [hp.length_eq] at h;exact h
def bp (s:Nat):Nat:=(s+63) / 64
def fJ (Os:List Ob):Nat:=(Os.map λo=>bp o.data.length).sum
theorem ry (Os:List Ob)(h:∀o∈Os,o.aC.length=bp o.data.length):(g7 Os).length=fJ Os:=by
 induction Os with
 | nil=>rfl
 | cons o r ih =>
  have h1:=h o (by simp)
  have h2:=ih (λp hp=>h p (by simp [hp]))
  simp only [g7,List.flatMap_cons,List.length_append,fJ,List.map_cons,List.sum_cons] at h1 h2 ⊢
  omega
structure fO (w:World)(s g pb m n room:Nat)(nx:Int)(t:Nat->Bool)(B:Nat->Nat->Nat)(Os:List Ob):Prop where
 rQ:fo w g pb n t B
 c0:aM w ⟨s,0,none⟩ (.pointer (some ⟨g,0,none⟩))
 c1:aM w ⟨s,1,none⟩ (.map (some m))
 c2:aM w ⟨s,2,none⟩ (.int .i64 (room:Int))
 c3:aM w ⟨s,3,none⟩ (.int .i64 nx)
 map:w.ownsMap Tryz.prog 3 hr m Os.length (ib Os)
 sg:s≠g
 sp:s≠pb
 sm:s≠m
 gm:g≠m
 pm:pb≠m
 rows:∀o∈Os,Row w o.kL o.aC.length o.aC.length (ints (fN o.aC))
 off:∀o∈Os,∀k,aI o.kL k->k≠s/\k≠g/\k≠pb/\k≠m/\k<w.heap.size
 len:∀o∈Os,o.aC.length=bp o.data.length
 nd:(g7 Os).Nodup
 Gi:∀i,t i=decide (i∈g7 Os)
 bytes:∀o∈Os,∀j,j<o.data.length->B (o.aC.getD (j / 64) 0) (j%64)=o.data.getD j 0
 qL:Os.Pairwise (λa b=>a.id<b.id)
 ids:∀o∈Os,1<=o.id/\o.id<nx
 H_:1<=nx/\nx<=4611686018427387905
 rm:Os.length<=room/\room<=64
 gJ:∀o∈Os,o.data.length<=4096
def Sb (s g pb m:Nat)(k:Nat):Prop:=k=s\/k=g\/k=pb\/k=m
def Rb (Os:List Ob)(k:Nat):Prop:=∃o∈Os,aI o.kL k
theorem fO.but {Os:List Ob}(hb:aj S w w')(h:fO w s g pb m n room nx t B Os)(h1:∀k,Sb s g pb m k->¬S k)(h2:∀k,Rb Os k->¬S k):fO w' s g pb m n room nx t B Os :=
 {h with
  rQ:=h.rQ.but hb (h1 _ (.inr (.inl rfl))) (h1 _ (.inr (.inr (.inl rfl))))
  c0:=h.c0.but hb (h1 _ (.inl rfl))
  c1:=h.c1.but hb (h1 _ (.inl rfl))
  c2:=h.c2.but hb (h1 _ (.inl rfl))
  c3:=h.c3.but hb (h1 _ (.inl rfl))
  map:=bS hb h.map (h1 _ (.inr (.inr (.inr rfl))))
  rows:=λo ho=>(h.rows o ho).but hb (λk hk=>h2 k ⟨o,ho,hk⟩)
  off:=λo ho k hk=>by
   obtain⟨a,b,c,d,e⟩:=h.off o ho k hk
   exact⟨a,b,c,d,Nat.lt_of_lt_of_le e hb.size⟩ }
theorem fO.later {Os:List Ob}(hb:Below w.heap.size w w')(h:fO w s g pb m n room nx t B Os):fO w' s g pb m n room nx t B Os :=
 h.but (S:=λ_=>False) (aj.of hb) (λ_ _ h=>h) (λ_ _ h=>h)
theorem fO.mem {Os:List Ob}(h:fO w s g pb m n room nx t B Os){o:Ob}(ho:o∈Os)(hp:p∈o.aC):t p=true/\p<n:=by
 have h1:t p=true:=by
  rw [h.Gi p];exact decide_eq_true (List.mem_flatMap.2 ⟨o,ho,hp⟩)
 exact⟨h1,h.rQ.only p h1⟩
theorem fO.count {Os:List Ob}(h:fO w s g pb m n room nx t B Os):(fA n t false).length+fJ Os=n:=by
 rw [<-ry Os h.len];refine vZ h.nd (λi hi=>h.rQ.only i ?_) h.Gi
 rw [h.Gi i];exact decide_eq_true hi
theorem kO (k:Nat)(w:World)(hk:k<=4096):Calls Tryz.prog 290 #[.int .i64 (k:Int)] w λe w'=>e=.returned (.int .i64 ((bp k:Nat):Int))/\w'=w:=by
 have e:(((k:Int)+64 - 1).tdiv 64)=((bp k:Nat):Int):=by
  unfold bp;rw [show (k:Int)+64 - 1=((k+63:Nat):Int) by omega];rfl
 go_enter Tryz.func290,Tryz.ntmps290
 go_wp2;go_ret;exact⟨aQ (by
  have h:bp k<=64:=by unfold bp;omega
  unfold wrap64;omega),rfl⟩
theorem nI (s g pb m n room:Nat)(nx:Int)(t:Nat->Bool)(B:Nat->Nat->Nat)(Os:List Ob)(w:World)(h:fO w s g pb m n room nx t B Os) :
  Calls Tryz.prog 289 #[.pointer (some ⟨s,0,none⟩)] w λe w'=>e=.returned (.int .i64 ((n - fJ Os:Nat):Int))/\Below w.heap.size w w':=by
 have x:=h.c0.1
 have H:=ae h.rQ
 have HC:=ae h.count
 clear h;go_enter Tryz.func289,Tryz.ntmps289
 go_wp2_with (first|(go_at_call 335;refine (ye g pb n t B _ H.out).mono ?_;rintro e w1 ⟨rfl,hb⟩))
 go_ret;exact⟨aQ (by have:=HC.out;omega),hb⟩
theorem xe (s g pb m n room:Nat)(nx:Int)(t:Nat->Bool)(B:Nat->Nat->Nat)(Os:List Ob)(w:World)(h:fO w s g pb m n room nx t B Os) :
  Calls Tryz.prog 67 #[.pointer (some ⟨s,0,none⟩)] w λe w'=>e=.returned (.int .i64 nx)/\w'=w:=by
 have x:=h.c3.1
 clear h;go_enter Tryz.func67,Tryz.ntmps67
 go_wp2;go_ret;exact⟨rfl,rfl⟩
theorem bf (w:World)(cs:Array Value)(T:TypeId)(i:Nat)(v:Value)(h:cs[i]?=some v):aM (w.alloc (.cells cs T)) ⟨w.heap.size,i,none⟩ v:=by
 have hh:=heap_alloc_new w (.cells cs T)
 exact⟨by rw [cell_of_row _ _ _ _ _ _ hh];exact h,by simp only [World.frozen?,hh];simp⟩
theorem CY:(Tryz.prog.info? 235).map (λi=>(i.zero,i.size,i.bytes))=some (some (.agg #[.pointer none,.map none,.int .i64 0,.int .i64 0]),4,32):=by kernel_rfl
theorem dD:(Tryz.prog.info? 364).map (λi=>(i.zero,i.size,i.bytes))=some (some (.agg #[.int .i64 0,.slice none 0 0]),2,32):=by kernel_rfl
theorem oH:(Tryz.prog.info? 436).map (λi=>(i.zero,i.size,i.bytes))=some (some (.agg #[.int .i64 0,.int .i64 0,.int .i64 0]),3,24):=by kernel_rfl
theorem sl:Maps.Keyed Tryz.prog 3:=Maps.int_keyed Tryz.underlying3
theorem yE {a:Int}(h:-9223372036854775808<=a/\a<9223372036854775808):keyOf Tryz.prog 3 (.int .i64 a)=some (.int .i64 a):=Maps.keyOf_int_mk Tryz.underlying3 (WalkArith.wf_i64 (by omega))
theorem Ci (room n:Nat)(w:World)(h1:1<=room/\room<=64)(h2:1<=n/\n<=256) :
  Calls Tryz.prog 125 #[.int .i64 (room:Int),.int .i64 (n:Int)] w λe w'=>∃s g pb m,e=.returned (.tuple #[.pointer (some ⟨s,0,none⟩),.int .i64 0])/\fO w' s g pb m n room 1 (λ_=>false) (λ_ _=>0) []/\(∀k,Sb s g pb m k->w.heap.size<=k/\k<w'.heap.size)/\Below w.heap.size w w':=by
 have hd1:decide ((room:Int)<1)=false:=decide_eq_false (by omega)
 have hd2:decide ((room:Int)>64)=false:=decide_eq_false (by omega)
 have hd3:decide ((n:Int)<1)=false:=decide_eq_false (by omega)
 have hmm:=@run_makeMap Tryz.prog
 have hz:=bg CY
 go_enter Tryz.func125,Tryz.ntmps125
 go_wp2_with (first|(go_at_call 203;refine (cu n _ (by omega)).mono ?_;rintro e w1 ⟨g,pb,rfl,A,G1,G2,hb⟩;have HA:=ae A;have R3:=ae G1;have UD:=ae G2;have HB:=ae hb;clear A G1 G2 hb))
 have hs:=HB.out.size
 have hb1:Below w1.heap.size w1 (w1.alloc (Obj.map #[] 0)):=ag _ _
 have hA2:w1.heap.size+1=(w1.alloc (Obj.map #[] 0)).heap.size:=by simp
 rw [hA2];generalize hC:(#[Value.pointer (some ⟨g,0,none⟩),Value.map (some w1.heap.size),Value.int .i64 (room:Int),Value.int .i64 1]:Array Value)=C
 have hb2:=aB w1 (Obj.map #[] 0) (.cells C 235)
 have hgl:=HA.out.DU
 have hpl:=HA.out.lt
 refine bodyPost_ret (v:=.tuple #[.pointer (some ⟨(w1.alloc (Obj.map #[] 0)).heap.size,0,none⟩),.int .i64 0]) (by simp [results,Tryz.results125,go_sem]) rfl ⟨_,g,pb,w1.heap.size,rfl,⟨HA.out.later hb2,?_,?_,?_,?_,?_,by simp;omega,by simp;omega,by simp,by omega,by omega,λo ho=>(by cases ho),λo ho=>(by cases ho),λo ho=>(by cases ho),by simp [g7],λi=>by simp [g7],λo ho=>(by cases ho),List.Pairwise.nil,λo ho=>(by cases ho),by omega,⟨by simp,h1.2⟩,λo ho=>(by cases ho)⟩,?_,aa HB.out hb2⟩
 ·exact bf _ _ _ 0 _ (by rw [<-hC];rfl)
 ·exact bf _ _ _ 1 _ (by rw [<-hC];rfl)
 ·exact bf _ _ _ 2 _ (by rw [<-hC];rfl)
 ·exact bf _ _ _ 3 _ (by rw [<-hC];rfl)
 ·exact (World.ownsMap_made w1 Tryz.prog 3 hr).alloc _
 ·have h1:=R3.out
  have h2:=UD.out
  rintro k (rfl|rfl|rfl|rfl)<;>simp<;>omega
def jm (room n:Nat)(nx:Int)(Os:List Ob)(size:Int):Int :=
 if size<0\/4096<size then 6 else if room<=Os.length\/4611686018427387904<nx then 7 else if n - fJ Os<bp size.toNat then 8 else 0
theorem gL (s g pb m n room:Nat)(nx:Int)(t:Nat->Bool)(B:Nat->Nat->Nat)(Os:List Ob)(size:Int)(w:World)(h:fO w s g pb m n room nx t B Os) :
  Calls Tryz.prog 222 #[.pointer (some ⟨s,0,none⟩),.int .i64 size] w λe w'=>e=.returned (.int .i64 (jm room n nx Os size))/\Below w.heap.size w w':=by
 obtain⟨E,hE⟩:∃E,E=jm room n nx Os size:=⟨_,rfl⟩
 rw [<-hE];have HE:=ae hE
 have H:=ae h
 clear hE;by_cases h1:size<0
 ·have hd1:decide (size<0)=true:=decide_eq_true h1
  clear h;go_enter Tryz.func222,Tryz.ntmps222
  go_wp2;go_ret;exact⟨aQ (by rw [HE.out,jm,if_pos (.inl h1)]),Below.refl _ _⟩
 have hd1:decide (size<0)=false:=decide_eq_false h1
 by_cases h2:size>4096
 ·have hd2:decide (size>4096)=true:=decide_eq_true h2
  clear h;go_enter Tryz.func222,Tryz.ntmps222
  go_wp2;go_ret;exact⟨aQ (by rw [HE.out,jm,if_pos (.inr h2)]),Below.refl _ _⟩
 have hd2:decide (size>4096)=false:=decide_eq_false h2
 obtain⟨k,rfl⟩:∃k:Nat,size=(k:Int):=⟨size.toNat,by omega⟩
 have hk:k<=4096:=by omega
 have e1:jm room n nx Os (k:Int)=if room<=Os.length\/4611686018427387904<nx then 7 else if n - fJ Os<bp k then 8 else 0:=by
  rw [jm,if_neg (by omega),Int.toNat_natCast]
 rw [e1] at HE;have x1:=h.c1.1
 have x2:=h.c2.1
 have x3:=h.c3.1
 have hlen:=λd:Nat=>(h.later (below_drewN (Below.refl _ _) d)).map.len Tryz.underlying233 3
 simp only [wu] at hlen;obtain⟨len,hl⟩:∃len,len=Os.length:=⟨_,rfl⟩
 rw [<-hl] at hlen;have HL:=ae hl
 clear h e1 h1 h2 hl;by_cases h3:(len:Int)>=(room:Int)
 ·have hd3:decide ((len:Int)>=(room:Int))=true:=decide_eq_true h3
  go_enter Tryz.func222,Tryz.ntmps222
  go_wp2;go_quiet (fail)
  go_wp2;go_ret;exact⟨aQ (by rw [HE.out,if_pos (.inl (by have:=HL.out;omega))]),below_drewN (Below.refl _ _) _⟩
 have hd3:decide ((len:Int)>=(room:Int))=false:=decide_eq_false h3
 have hd3b:decide (room<=len)=false:=decide_eq_false (by omega)
 have hd3c:¬room<=len:=by omega
 by_cases h4:nx>4611686018427387904
 ·have hd4:decide (nx>4611686018427387904)=true:=decide_eq_true h4
  go_enter Tryz.func222,Tryz.ntmps222
  go_wp2;go_quiet (fail)
  go_wp2;go_ret;exact⟨aQ (by rw [HE.out,if_pos (.inr h4)]),below_drewN (Below.refl _ _) _⟩
 have hd4:decide (nx>4611686018427387904)=false:=decide_eq_false h4
 have e2:¬(room<=Os.length\/4611686018427387904<nx):=by
  have:=HL.out
  omega
 rw [if_neg e2] at HE;clear e2;have HF:Hid (∀d,fO (w.drewN d) s g pb m n room nx t B Os):=ae (λd=>H.out.later (below_drewN (Below.refl _ _) d))
 obtain⟨fr,hfr⟩:∃fr,fr=n - fJ Os:=⟨_,rfl⟩
 rw [<-hfr] at HE;have Wu:=ae hfr
 clear hfr;by_cases h5:(fr:Int)<((bp k:Nat):Int)
 ·have hd5:decide ((fr:Int)<((bp k:Nat):Int))=true:=decide_eq_true h5
  go_enter Tryz.func222,Tryz.ntmps222
  go_wp2;go_quiet (fail)
  go_wp2_with (first
   | (go_at_call 290;refine (kO k _ hk).mono ?_;rintro e w2 ⟨rfl,hw⟩;obtain rfl:=hw.symm)
   | (go_at_call 289;refine (nI s g pb m n room nx t B Os _ (HF.out _)).mono ?_;rintro e w1 ⟨rfl,hb⟩;rw [<-Wu.out];have HB:=ae hb;clear hb))
  go_ret;exact⟨aQ (by rw [HE.out,if_pos (by omega)]),aa (below_drewN (Below.refl _ _) nq) HB.out⟩
 ·have hd5:decide ((fr:Int)<((bp k:Nat):Int))=false:=decide_eq_false h5
  go_enter Tryz.func222,Tryz.ntmps222
  go_wp2;go_quiet (fail)
  go_wp2_with (first
   | (go_at_call 290;refine (kO k _ hk).mono ?_;rintro e w2 ⟨rfl,hw⟩;obtain rfl:=hw.symm)
   | (go_at_call 289;refine (nI s g pb m n room nx t B Os _ (HF.out _)).mono ?_;rintro e w1 ⟨rfl,hb⟩;rw [<-Wu.out];have HB:=ae hb;clear hb))
  go_ret;exact⟨aQ (by rw [HE.out,if_neg (by omega)]),aa (below_drewN (Below.refl _ _) nq) HB.out⟩
def jQ (Os:List Ob)(id:Int):Option Ob:=Os.find? λo=>decide (o.id=id)
theorem at_mem {Os:List Ob}{o:Ob}(h:jQ Os id=some o):o∈Os/\o.id=id:=⟨List.mem_of_find?_eq_some h,by simpa using List.find?_some h⟩
theorem rq {Os:List Ob}(h:fO w s g pb m n room nx t B Os)(hi:-9223372036854775808<=id/\id<9223372036854775808) :
  (Instr.lookup 233 (.map (some m)) (.int .i64 id) true).run Tryz.prog w=.ok (match jQ Os id with
   | some o=>.tuple #[.agg #[.int .i64 (o.data.length:Int),.slice o.kL o.aC.length o.aC.length],.bool true]
   | none=>.tuple #[.agg #[.int .i64 0,.slice none 0 0],.bool false]) w:=by
 obtain⟨v,ps,hrun,hv⟩:=h.map.look_ok sl Tryz.underlying233 (bg dD w) (zd:=.held (.agg #[.int .i64 0,.slice none 0 0])) (zp:=[]) rfl (yE hi)
 rw [hrun,ze];rw [su] at hv;simp only [hr,Option.some.injEq,Prod.mk.injEq] at hv;have e:Os.any (λo=>decide (o.id=id))=(jQ Os id).isSome:=by
  unfold jQ
  rw [Bool.eq_iff_iff,List.any_eq_true,List.find?_isSome]
 rw [e];have hv1:=hv.1
 unfold jQ at hv1 ⊢
 cases hf:Os.find? (λo=>decide (o.id=id)) with
 | none =>
  rw [hf] at hv1;simp only [DataW.held.injEq] at hv1;simp [hv1]
 | some o =>
  rw [hf] at hv1;simp only [DataW.held.injEq] at hv1;simp [hv1,Ob.val]
theorem nH {Os:List Ob}(h:fO w s g pb m n room nx t B Os)(hi:-9223372036854775808<=id/\id<9223372036854775808){o:Ob}(ho:jQ Os id=some o) :
  (Instr.lookup 233 (.map (some m)) (.int .i64 id) true).run Tryz.prog w=.ok (.tuple #[.agg #[.int .i64 (o.data.length:Int),.slice o.kL o.aC.length o.aC.length],.bool true]) w:=by
 rw [rq h hi,ho]
theorem jC {Os:List Ob}(h:fO w s g pb m n room nx t B Os)(hi:-9223372036854775808<=id/\id<9223372036854775808)(ho:jQ Os id=none) :
  (Instr.lookup 233 (.map (some m)) (.int .i64 id) true).run Tryz.prog w=.ok (.tuple #[.agg #[.int .i64 0,.slice none 0 0],.bool false]) w:=by
 rw [rq h hi,ho]
theorem mg (s g pb m n room:Nat)(nx:Int)(t:Nat->Bool)(B:Nat->Nat->Nat)(Os:List Ob)(id off k:Int)(w:World)(h:fO w s g pb m n room nx t B Os)(hi:-9223372036854775808<=id/\id<9223372036854775808)(ho:jQ Os id=none) :
  Calls Tryz.prog 301 #[.pointer (some ⟨s,0,none⟩),.int .i64 id,.int .i64 off,.int .i64 k] w λe w'=>e=.returned (.tuple #[.agg #[.int .i64 0,.slice none 0 0],.int .i64 20])/\Below w.heap.size w w':=by
 have x:=h.c1.1
 have x1:=cell_later (ag w (.cells #[.int .i64 0,.slice none 0 0] 364)) x
 have hl:=jC (h.later (ag w (.cells #[.int .i64 0,.slice none 0 0] 364))) hi ho
 have hz:=bg dD
 clear h;go_enter Tryz.func301,Tryz.ntmps301
 go_wp2;refine bodyPost_ret (v:=.tuple #[.agg #[.int .i64 0,.slice none 0 0],.int .i64 20]) ?_ rfl ⟨rfl,aB _ _ _⟩
 simp [results,Tryz.results301,go_sem]
def j8 (o:Ob)(off k:Int):Prop:=0<=off/\0<=k/\k<=1024/\off+k<=(o.data.length:Int)
theorem ng (s g pb m n room:Nat)(nx:Int)(t:Nat->Bool)(B:Nat->Nat->Nat)(Os:List Ob)(id off k:Int)(o:Ob)(w:World)(h:fO w s g pb m n room nx t B Os)(hi:-9223372036854775808<=id/\id<9223372036854775808)(ho:jQ Os id=some o)(hb:¬j8 o off k) :
  Calls Tryz.prog 301 #[.pointer (some ⟨s,0,none⟩),.int .i64 id,.int .i64 off,.int .i64 k] w λe w'=>e=.returned (.tuple #[.agg #[.int .i64 0,.slice none 0 0],.int .i64 5])/\Below w.heap.size w w':=by
 have x:=h.c1.1
 have x1:=cell_later (ag w (.cells #[.int .i64 0,.slice none 0 0] 364)) x
 have hl:=nH (h.later (ag w (.cells #[.int .i64 0,.slice none 0 0] 364))) hi ho
 have hz:=bg dD
 have hbig:=h.gJ o (at_mem ho).1
 obtain⟨sz,hsz⟩:∃sz,sz=o.data.length:=⟨_,rfl⟩
 rw [<-hsz] at hl hbig;unfold j8 at hb;rw [<-hsz] at hb;have HB:=ae hb
 clear h hsz hb;by_cases h1:off<0
 ·have hd1:decide (off<0)=true:=decide_eq_true h1
  go_enter Tryz.func301,Tryz.ntmps301
  go_wp2;refine bodyPost_ret (v:=.tuple #[.agg #[.int .i64 0,.slice none 0 0],.int .i64 5]) ?_ rfl ⟨rfl,aB _ _ _⟩
  simp [results,Tryz.results301,go_sem]
 have hd1:decide (off<0)=false:=decide_eq_false h1
 by_cases h2:k<0
 ·have hd2:decide (k<0)=true:=decide_eq_true h2
  go_enter Tryz.func301,Tryz.ntmps301
  go_wp2;refine bodyPost_ret (v:=.tuple #[.agg #[.int .i64 0,.slice none 0 0],.int .i64 5]) ?_ rfl ⟨rfl,aB _ _ _⟩
  simp [results,Tryz.results301,go_sem]
 have hd2:decide (k<0)=false:=decide_eq_false h2
 by_cases h3:k>1024
 ·have hd3:decide (k>1024)=true:=decide_eq_true h3
  go_enter Tryz.func301,Tryz.ntmps301
  go_wp2;refine bodyPost_ret (v:=.tuple #[.agg #[.int .i64 0,.slice none 0 0],.int .i64 5]) ?_ rfl ⟨rfl,aB _ _ _⟩
  simp [results,Tryz.results301,go_sem]
 have hd3:decide (k>1024)=false:=decide_eq_false h3
 have hd4:decide (off>(sz:Int) - k)=true:=decide_eq_true (by have:=HB.out;omega)
 go_enter Tryz.func301,Tryz.ntmps301
 go_wp2;refine bodyPost_ret (v:=.tuple #[.agg #[.int .i64 0,.slice none 0 0],.int .i64 5]) ?_ rfl ⟨rfl,aB _ _ _⟩
 simp [results,Tryz.results301,go_sem]
theorem qS (s g pb m n room:Nat)(nx:Int)(t:Nat->Bool)(B:Nat->Nat->Nat)(Os:List Ob)(id off k:Int)(o:Ob)(w:World)(h:fO w s g pb m n room nx t B Os)(hi:-9223372036854775808<=id/\id<9223372036854775808)(ho:jQ Os id=some o)(hb:j8 o off k) :
  Calls Tryz.prog 301 #[.pointer (some ⟨s,0,none⟩),.int .i64 id,.int .i64 off,.int .i64 k] w λe w'=>e=.returned (.tuple #[.agg #[.int .i64 (o.data.length:Int),.slice o.kL o.aC.length o.aC.length],.int .i64 0])/\Below w.heap.size w w':=by
 have x:=h.c1.1
 have x1:=cell_later (ag w (.cells #[.int .i64 0,.slice none 0 0] 364)) x
 have hl:=nH (h.later (ag w (.cells #[.int .i64 0,.slice none 0 0] 364))) hi ho
 have hz:=bg dD
 have hbig:=h.gJ o (at_mem ho).1
 obtain⟨sz,hsz⟩:∃sz,sz=o.data.length:=⟨_,rfl⟩
 rw [<-hsz] at hl hbig ⊢
 unfold j8 at hb;rw [<-hsz] at hb;clear h hsz;have hd1:decide (off<0)=false:=decide_eq_false (by omega)
 have hd2:decide (k<0)=false:=decide_eq_false (by omega)
 have hd3:decide (k>1024)=false:=decide_eq_false (by omega)
 have hd4:decide (off>(sz:Int) - k)=false:=decide_eq_false (by omega)
 obtain⟨hb1,hb2,hb3,hb4⟩:=hb
 go_enter Tryz.func301,Tryz.ntmps301
 go_wp2;refine bodyPost_ret (v:=.tuple #[.agg #[.int .i64 (sz:Int),.slice o.kL o.aC.length o.aC.length],.int .i64 0]) ?_ rfl ⟨rfl,?_⟩
 ·simp [results,Tryz.results301,go_sem]
 ·exact aB _ _ _
def pos (off k i:Nat):Nat:=if i=0 then off else min (off+k) ((off / 64+i)*64)
def oP (off k:Nat):Nat:=if k=0 then 0 else (off+k - 1) / 64 - off / 64+1
theorem gB (off k:Nat):pos off k 0=off:=by simp [pos]
theorem iB (off k i:Nat):i<oP off k↔pos off k i<off+k:=by
 unfold oP pos;by_cases hk:k=0
 ·simp [hk]
  split<;>omega
 ·rw [if_neg hk]
  by_cases hi:i=0
  ·simp [hi];omega
  ·rw [if_neg hi]
   omega
theorem uz (off k:Nat):pos off k (oP off k)=off+k:=by
 unfold oP pos;by_cases hk:k=0
 ·simp [hk]
 ·rw [if_neg hk,if_neg (by omega)]
  omega
theorem ij (off k i:Nat):off<=pos off k i/\pos off k i<=off+k:=by
 unfold pos;split<;>omega
theorem iZ (h:pos off k i<off+k):pos off k i / 64=off / 64+i:=by
 unfold pos at h ⊢
 split<;>rename_i hi
 ·omega
 ·rw [if_neg hi] at h
  omega
theorem fS (h:pos off k i<off+k):pos off k (i+1)=pos off k i+min (off+k - pos off k i) (64 - pos off k i%64):=by
 have h1:=iZ h
 have h2:pos off k (i+1)=min (off+k) ((off / 64+(i+1))*64):=by simp [pos]
 rw [h2];omega
def He (aC:List Nat)(off k i:Nat):List Value:=[ab ((aC.getD (off / 64+i) 0:Nat):Int),ab ((pos off k i%64:Nat):Int),ab ((pos off k (i+1) - pos off k i:Nat):Int)]
def zo (aC:List Nat)(off k:Nat):Nat->List Value
 | 0=>[]
 | c+1=>zo aC off k c++He aC off k c
theorem fw (aC:List Nat)(off k:Nat):∀c,(zo aC off k c).length=3*c
 | 0=>rfl
 | c+1=>by rw [zo,List.length_append,fw aC off k c];simp [He];omega
theorem kG (aC:List Nat)(off k:Nat)(j:Nat)(hj:j<3):∀c i,i<c->(zo aC off k c)[3*i+j]?=(He aC off k i)[j]?
 | 0,i,h=>by omega
 | c+1,i,h=>by
  rw [zo];by_cases e:i=c
  ·subst e
   rw [List.getElem?_append_right (by rw [fw];omega),fw]
   congr 1
   omega
  ·rw [List.getElem?_append_left (by rw [fw];omega)]
   exact kG aC off k j hj c i (by omega)
theorem xf {w1:World}{e:TypeId}{size:Nat}{v:Value}{xs:List Value}(hb:Below w.heap.size w w1)(h:w.ownsRow base e size v n xs):w1.ownsRow base e size v n xs:=jf (S:=λ_=>False) (aj.of hb) h (λ_ _ h=>h)
theorem jc {L:List Value}(x y z:Int)(h:w.ownsRow base 436 3 (.slice a i cap) i L)(hb:base<=w.heap.size)(hi:i<=4096)(bk:Nat)(hbk:bk=w.heap.size) :
  ∃a' cap' w',(Builtin.append_ #[433,433] 433 #[.slice a i cap,.slice (some ⟨bk,0,none⟩) 1 1]).run Tryz.prog (w.alloc (.cells #[ab x,ab y,ab z] 436))=.ok (.slice a' (i+1) cap') w'/\w'.ownsRow base 436 3 (.slice a' (i+1) cap') (i+1) (L++[ab x,ab y,ab z])/\Below base w w':=by
 subst hbk;obtain⟨i0,hi0,hz0,hz1,hz2⟩:=info_parts oH
 have o1:=xf (ag w (.cells #[ab x,ab y,ab z] 436)) h
 have hnew:∀j u,[Value.int .i64 x,ab y,ab z][j]?=some u->(w.alloc (.cells #[ab x,ab y,ab z] 436)).cell? ((⟨w.heap.size,0,none⟩:Addr).add j)=some u:=by
  intro j u hu;rw [aY];have hj:j<3:=(List.getElem?_eq_some_iff.1 hu).1
  have:j=0\/j=1\/j=2:=by omega
  rcases this with rfl|rfl|rfl<;>(simp at hu;subst hu;simp [go_sem])
 obtain⟨v2,w2,hr2,o2,g2,_,_⟩:=run_append_own_at (P:=Tryz.prog) (w.alloc (.cells #[ab x,ab y,ab z] 436)) base 433 433 436 i0 _ 3 24 Tryz.underlying433 hi0 hz0 hz1 hz2 rfl (by decide) _ i _ o1 ⟨w.heap.size,0,none⟩ 1 1 [ab x,ab y,ab z] rfl hnew (λu hu=>by
  simp only [List.mem_cons,List.not_mem_nil,or_false] at hu;rcases hu with rfl|rfl|rfl<;>rfl) (by unfold maxLen;omega) (by omega) (by simp;omega)
 obtain⟨a',cap',rfl⟩:∃a' cap',v2=.slice a' (i+1) cap':=by
  rcases o2.2 with ⟨h,h'⟩|⟨g',cap',_,h,_⟩
  ·omega
  ·exact⟨_,cap',h⟩
 exact⟨a',cap',w2,hr2,o2,((ag w (.cells #[ab x,ab y,ab z] 436)).mono hb).grown g2 (by simp;omega) (λj hj=>(bD o1 j hj).1)⟩
def jv:Value->Nat
 | .int _ a=>a.toNat
 | _=>0
def D_ (w:World)(aC:List Nat)(off k:Nat)(v1 v2 v7:Value)(w':World):Prop :=
 ∃(i p:Nat) (a:Option Addr) (cap:Nat),v1=ab (p:Int)/\v2=ab ((off+k - p:Nat):Int)/\v7=.slice a i cap/\p=pos off k i/\i<=oP off k/\w'.ownsRow w.heap.size 436 3 (.slice a i cap) i (zo aC off k i)/\Below w.heap.size w w'
theorem ua {W w2:World}{u st q pg cap':Nat}(hp:p=pos off k i)(hq:q<aC.length)(hE:off+k - p=r/\p%64=st/\64 - st=u/\q=off / 64+i/\pg=aC[q]/\pos off k (i+1)=p+min r u)(hi:i<oP off k)(hf:f=min r u)
  (hO:w2.ownsRow W.heap.size 436 3 (.slice a' (i+1) cap') (i+1) (zo aC off k i++[ab (pg:Int),ab (st:Int),ab (f:Int)])) (hB:Below W.heap.size W w2) :
  D_ W aC off k (ab ((p:Int)+(f:Int))) (ab ((r:Int) - (f:Int))) (.slice a' (i+1) cap') w2:=by
 obtain⟨e1,e2,e3,e4,e5,e6⟩:=hE
 refine⟨i+1,p+f,a',cap',by rw [Int.natCast_add],?_,rfl,by rw [e6,hf],by omega,?_,hB⟩
 ·congr 1
  omega
 ·have e:He aC off k i=[ab (pg:Int),ab (st:Int),ab (f:Int)]:=by
   unfold He;rw [<-hp,e2,e6,<-e4,e5,List.getD_eq_getElem?_getD,List.getElem?_eq_getElem hq,hf,Nat.add_sub_cancel_left];rfl
  rw [zo,e];exact hO
theorem k_ (sz:Int)(kL:Option Addr)(aC:List Nat)(off k:Nat)(w:World)(hR:Row w kL aC.length aC.length (ints (fN aC)))(ho:off+k<=64*aC.length)(hb:off+k<=4096) :
  Calls Tryz.prog 302 #[.agg #[ab sz,.slice kL aC.length aC.length],ab (off:Int),ab (k:Int)] w λe w'=>∃a cap,e=.returned (.slice a (oP off k) cap)/\w'.ownsRow w.heap.size 436 3 (.slice a (oP off k) cap) (oP off k) (zo aC off k (oP off k))/\Below w.heap.size w w':=by
 have HR:=ae hR
 obtain⟨W,hW⟩:∃W,W=w.alloc (.cells #[ab sz,.slice kL aC.length aC.length] 364):=⟨_,rfl⟩
 have O8:Hid (Below w.heap.size w W):=ae (by rw [hW];exact ag _ _)
 have HC:Hid (W.cell? ⟨w.heap.size,1,none⟩=some (.slice kL aC.length aC.length)):=ae (by rw [hW];exact (bf _ _ _ 1 _ rfl).1)
 have UA:Hid (w.heap.size<W.heap.size):=ae (by rw [hW];simp)
 have HO:=ae ho
 clear hR ho;go_enter Tryz.func302,Tryz.ntmps302
 go_upto_region 2 with fail
 rw [<-hW];clear hW;go_loopw [1,2,7] (D_ W aC off k) (λ_ n _ _=>jv n)
 case atStart=>exact⟨0,off,none,0,rfl,by rw [Nat.add_sub_cancel_left],rfl,(gB _ _).symm,Nat.zero_le _,⟨rfl,.inl ⟨rfl,rfl⟩⟩,Below.refl _ _⟩
 case round =>
  obtain⟨i,p,a,cap,rfl,rfl,rfl,hp,hi,hO,hB⟩:=hrel
  have hpl:=ij off k i
  rw [<-hp] at hpl;have HP:=ae hp
  have HB:=ae hB
  have Ua:=ae hO
  clear hB hO;by_cases hlt:p<off+k
  ·have h1:=iZ (off:=off) (k:=k) (i:=i) (by omega)
   have h2:=fS (off:=off) (k:=k) (i:=i) (by omega)
   have hin:=(iB off k i).2 (by omega)
   rw [<-hp] at h1 h2;obtain⟨r,hr⟩:∃r,r=off+k - p:=⟨_,rfl⟩
   rw [<-hr] at h2;rw [<-hr];obtain⟨st,hst⟩:∃st,st=p%64:=⟨_,rfl⟩
   rw [<-hst] at h2;have hst64:st<64:=by omega
   obtain⟨u,hu⟩:∃u,u=64 - st:=⟨_,rfl⟩
   obtain⟨q,hq⟩:∃q,q=off / 64+i:=⟨_,rfl⟩
   have hrem:(p:Int)%64=(st:Int):=by omega
   have hquo:(p:Int) / 64=(q:Int):=by omega
   have hqn:p / 64=q:=by omega
   have h64:(64:Int) - (st:Int)=(u:Int):=by omega
   have hr0:0<r:=by omega
   have hr1:r<=4096:=by omega
   have hp1:p<=4096:=by omega
   have hu1:u<=64:=by omega
   have hql:q<aC.length:=by have:=HO.out;omega
   obtain⟨pg,hpg⟩:∃pg,pg=aC[q]:=⟨_,rfl⟩
   obtain⟨bb,oo,rfl,hcell⟩:=HR.out.plain (by omega)
   have y0:=cell_later HB.out HC.out
   have y1:=cell_later HB.out (cell_later O8.out (hcell q _ (gW aC q hql)))
   rw [<-hpg] at y1;have HE:=ae (show (off+k - p=r/\p%64=st/\64 - st=u/\q=off / 64+i/\pg=aC[q]/\pos off k (i+1)=p+min r u) from ⟨hr.symm,hst.symm,hu.symm,hq,hpg,by rw [hu];exact h2⟩)
   have HI:=ae hin
   have X9:=ae hi
   clear hcell hr hst hu hq hpg h1 h2 hp hlt hpl hin hi;by_cases hm:r<=u
   ·have hm2:(r:Int)<=(u:Int):=by omega
    obtain⟨a',cap',w2,hrun,hO2,hB2⟩:=jc (pg:Int) (st:Int) (r:Int) Ua.out HB.out.size (by have:=HI.out;unfold oP at this;split at this<;>omega) wr.heap.size rfl
    have ON:=ae hrun
    have O0:=ae hO2
    have OH:=ae (HB.out.trans hB2)
    clear hrun hO2 hB2;go_wp2_with (first|(at_builtin;refine aw rfl _ _ 433 rfl _ _ rfl rfl _ w2 ON.out ?_))
    refine⟨?_,by simp [jv];omega⟩
    have:=ua HP.out hql HE.out HI.out (f:=r) (by omega) O0.out OH.out
    simpa using this
   ·have hm1:u<r:=by omega
    have hm2:(u:Int)<(r:Int):=by omega
    obtain⟨a',cap',w2,hrun,hO2,hB2⟩:=jc (pg:Int) (st:Int) (u:Int) Ua.out HB.out.size (by have:=HI.out;unfold oP at this;split at this<;>omega) wr.heap.size rfl
    have ON:=ae hrun
    have O0:=ae hO2
    have OH:=ae (HB.out.trans hB2)
    clear hrun hO2 hB2;go_wp2_with (first|(at_builtin;refine aw rfl _ _ 433 rfl _ _ rfl rfl _ w2 ON.out ?_))
    exact⟨ua HP.out hql HE.out HI.out (by omega) O0.out OH.out,by simp [jv];have:=HE.out;omega⟩
  ·obtain rfl:p=off+k:=by omega
   have hie:i=oP off k:=by
    have h1:=iB off k i
    omega
   have Wx:=ae hie
   have e0:off+k - (off+k)=0:=by omega
   rw [e0];simp only [Int.cast_ofNat_Int];clear hie hp e0 hi hpl hlt;go_wp2;go_ret;rw [Wx.out] at Ua;refine⟨a,cap,by rw [Wx.out];rfl,?_,aa O8.out HB.out⟩
   exact fc Ua.out (Nat.le_of_lt UA.out)
theorem lX (l:List Nat)(p f:Nat)(h:p+f<=l.length):(l.drop p).take f=(List.range f).map λx=>l.getD (p+x) 0:=by
 refine List.ext_getElem (by simp;omega) λj h1 h2=>?_
 simp at h2
 simp [List.getElem_take,List.getElem_drop,List.getD_eq_getElem?_getD,List.getElem?_eq_getElem (show p+j<l.length by omega)]
theorem yd (hb:∀j,j<data.length->B (aC.getD (j / 64) 0) (j%64)=data.getD j 0)(hle:off+k<=data.length)(h:pos off k i<off+k) :
  (data.drop off).take (pos off k (i+1) - off)=(data.drop off).take (pos off k i - off)++zT B (aC.getD (off / 64+i) 0) (pos off k i%64) (pos off k (i+1) - pos off k i):=by
 have h1:=iZ h
 have h2:=fS h
 have h3:=ij off k i
 have e1:pos off k (i+1) - off=(pos off k i - off)+(pos off k (i+1) - pos off k i):=by omega
 rw [e1,List.take_add,List.drop_drop,show off+(pos off k i - off)=pos off k i by omega,lX data (pos off k i) (pos off k (i+1) - pos off k i) (by omega)];congr 1
 refine List.map_congr_left λx hx=>?_
 have hx2:x<pos off k (i+1) - pos off k i:=by simpa using hx
 have:=hb (pos off k i+x) (by omega)
 rw [<-this,<-h1];congr 2
 ·omega
 ·omega
theorem DL (hl:aC.length=bp data.length)(hle:off+k<=data.length)(h:pos off k i<off+k):off / 64+i<aC.length:=by
 have h1:=iZ h
 have h2:=ij off k i
 unfold bp at hl;omega
theorem qK {c:Nat}(h:w.ownsRow base 436 3 (.slice a c cap) c (zo aC off k c))(hi:i<c) :
  ∃gp,a=some ⟨gp,0,none⟩/\base<=gp/\gp<w.heap.size/\w.cell? ⟨gp,i*3,none⟩=some (ab ((aC.getD (off / 64+i) 0:Nat):Int))/\w.cell? ⟨gp,i*3+1,none⟩=some (ab ((pos off k i%64:Nat):Int))/\w.cell? ⟨gp,i*3+2,none⟩=some (ab ((pos off k (i+1) - pos off k i:Nat):Int)):=by
 rcases h.2 with ⟨h1,hn⟩|⟨g,cp,cur,hv,hg,hh,_⟩
 ·omega
 ·simp only [Value.slice.injEq] at hv
  obtain⟨rfl,_,rfl⟩:=hv
  have hc:∀j u,(zo aC off k c)[j]?=some u->w.cell? ⟨g,j,none⟩=some u:=λj u hu=>by
   have:=h.cells (g:=g) rfl j u hu
   rwa [aY] at this
  have e0:i*3=3*i:=by omega
  rw [e0];refine⟨g,rfl,hg,(Array.getElem?_eq_some_iff.1 hh).1,hc _ _ ?_,hc _ _ ?_,hc _ _ ?_⟩
  ·exact kG aC off k 0 (by omega) c i hi
  ·exact kG aC off k 1 (by omega) c i hi
  ·exact kG aC off k 2 (by omega) c i hi
theorem tN (s g pb m n room:Nat)(nx:Int)(t:Nat->Bool)(B:Nat->Nat->Nat)(Os:List Ob)(id off k:Int)(w:World)(h:fO w s g pb m n room nx t B Os)(hi:-9223372036854775808<=id/\id<9223372036854775808)(ho:jQ Os id=none) :
  Calls Tryz.prog 230 #[aq s,ab id,ab off,ab k] w λe w'=>e=.returned (.tuple #[.slice none 0 0,ab 20])/\Below w.heap.size w w':=by
 have hz:=bg dD
 have H:=ae h
 clear h;go_enter Tryz.func230,Tryz.ntmps230
 go_wp2_with (first|(go_at_call 301;refine (mg s g pb m n room nx t B Os id off k _ H.out hi ho).mono ?_;rintro e w1 ⟨rfl,hb⟩;have HB:=ae hb;clear hb))
 exact bodyPost_ret (v:=.tuple #[.slice none 0 0,ab 20]) (by simp [results,Tryz.results230,go_sem]) rfl ⟨rfl,aa HB.out (ag _ _)⟩
theorem vq (s g pb m n room:Nat)(nx:Int)(t:Nat->Bool)(B:Nat->Nat->Nat)(Os:List Ob)(id off k:Int)(o:Ob)(w:World)(h:fO w s g pb m n room nx t B Os)(hi:-9223372036854775808<=id/\id<9223372036854775808)(ho:jQ Os id=some o)(hb:¬j8 o off k) :
  Calls Tryz.prog 230 #[aq s,ab id,ab off,ab k] w λe w'=>e=.returned (.tuple #[.slice none 0 0,ab 5])/\Below w.heap.size w w':=by
 have hz:=bg dD
 have H:=ae h
 clear h;go_enter Tryz.func230,Tryz.ntmps230
 go_wp2_with (first|(go_at_call 301;refine (ng s g pb m n room nx t B Os id off k o _ H.out hi ho hb).mono ?_;rintro e w1 ⟨rfl,hb⟩;have HB:=ae hb;clear hb))
 exact bodyPost_ret (v:=.tuple #[.slice none 0 0,ab 5]) (by simp [results,Tryz.results230,go_sem]) rfl ⟨rfl,aa HB.out (ag _ _)⟩
theorem vJ (k:Nat)(hk:k<=140737488355328):∃Z:Array Value,Z.size=k/\∀W:World,(Instr.makeSlice 38 (ab 0) (ab (k:Int))).run Tryz.prog W=.ok (.slice (some ⟨W.heap.size,0,none⟩) 0 k) (W.alloc (.cells Z 5)):=by
 obtain⟨i,hi,hz0,hz1,hz2⟩:=info_parts gX
 refine⟨madeCells (Value.int .u8 0).cells k,size_madeCells _ _,λW=>?_⟩
 have hr:=run_make (P:=Tryz.prog) W 38 5 i _ Tryz.underlying38 hi hz0 .i64 .i64 0 (k:Int) (Int.le_refl _) (by omega) (by rw [hz2];omega) (by omega)
 simp only [Int.toNat_natCast,hz1,Nat.mul_one,Int.toNat_zero] at hr;exact hr
theorem Fg {o:Nat}(h:aI (some ⟨b,o,none⟩) k):k=b:=by
 obtain⟨x,hx,rfl⟩:=h
 cases hx
 rfl
def yC (w4:World)(b0 off k:Nat)(data:List Nat)(v12 v35:Value)(w':World):Prop :=
 ∃(i m cap:Nat) (a:Option Addr),v12=.slice a m cap/\v35=ab (i:Int)/\m=pos off k i - off/\i<=oP off k/\Own w' b0 5 a m cap (aN ((data.drop off).take m))/\(∀j,aI a j->j=b0\/w4.heap.size<=j)/\aj (·=b0) w4 w'
theorem yG (s g pb m n room:Nat)(nx:Int)(t:Nat->Bool)(B:Nat->Nat->Nat)(Os:List Ob)(id:Int)(off k:Nat)(o:Ob)(w:World)(h:fO w s g pb m n room nx t B Os)(hi:-9223372036854775808<=id/\id<9223372036854775808)(ho:jQ Os id=some o)(hle:off+k<=o.data.length)(hk:k<=1024) :
  Calls Tryz.prog 230 #[aq s,ab id,ab (off:Int),ab (k:Int)] w λe w'=>∃a cap,e=.returned (.tuple #[.slice a k cap,ab 0])/\Own w' w.heap.size 5 a k cap (aN ((o.data.drop off).take k))/\Below w.heap.size w w':=by
 have hz:=bg dD
 have hz75:=bg oH
 have hmem:=(at_mem ho).1
 have hbig:=h.gJ o hmem
 have O5:=ae (h.rows o hmem)
 have QC:=ae (h.len o hmem)
 have UK:=ae (h.bytes o hmem)
 have UO:Hid (∀p∈o.aC,t p=true):=ae (λp hp=>(h.mem hmem hp).1)
 have H:=ae h
 have VJ:Hid (j8 o (off:Int) (k:Int)):=ae (by unfold j8;omega)
 have hsl:=World.block_lt_of_cell? _ _ h.c0.1
 have hgl:=h.rQ.DU
 have hpl:=h.rQ.lt
 obtain⟨sz,hsz⟩:∃sz,sz=o.data.length:=⟨_,rfl⟩
 obtain⟨PN,hPN⟩:∃PN,PN=o.aC.length:=⟨_,rfl⟩
 have hP64:off+k<=64*o.aC.length:=by have:=QC.out;unfold bp at this;omega
 have Q6:=ae hP64
 obtain⟨Z,hZs,hmk⟩:=vJ k (by omega)
 have QL:=ae hZs
 have RJ:=ae hle
 have hb4:off+k<=4096:=by omega
 clear h hP64 hZs hle;go_enter Tryz.func230,Tryz.ntmps230
 go_upto_region 5 with (first|(go_at_call 301;refine (qS s g pb m n room nx t B Os id (off:Int) (k:Int) o _ H.out hi ho VJ.out).mono ?_;rintro e w1 ⟨rfl,hb⟩;have HB:=ae hb;clear hb))
 have hw1:=HB.out.size
 obtain⟨w3,hw3⟩:∃w3,w3=(w1.alloc (Obj.cells #[Value.int .i64 (o.data.length:Int),Value.slice o.kL o.aC.length o.aC.length] 364)).alloc (Obj.cells Z 5):=⟨_,rfl⟩
 have OJ:Hid (Below w.heap.size w w3):=ae (by rw [hw3];exact aa HB.out (aB _ _ _))
 have Qo:Hid (w3.heap.size=w1.heap.size+2):=ae (by rw [hw3];simp)
 have SH:Hid (Own w3 (w1.heap.size+1) 5 (some ⟨w1.heap.size+1,0,none⟩) 0 k []):=ae (by
  have:=World.ownsRow_made (base:=w1.heap.size+1) (size:=1) (e:=5) (w1.alloc (Obj.cells #[Value.int .i64 (o.data.length:Int),Value.slice o.kL o.aC.length o.aC.length] 364)) Z k (by simp) (by unfold maxLen;omega) (by rw [QL.out];omega)
  rw [World.size_alloc] at this;rw [hw3];exact⟨this,λ_ h=>(by cases h)⟩)
 have x10a:w3.cell? ⟨w1.heap.size,0,none⟩=some (ab (o.data.length:Int)):=by rw [hw3];exact cell_later (ag _ _) (bf _ _ _ 0 _ rfl).1
 have x10b:w3.cell? ⟨w1.heap.size,1,none⟩=some (.slice o.kL o.aC.length o.aC.length):=by rw [hw3];exact cell_later (ag _ _) (bf _ _ _ 1 _ rfl).1
 rw [<-hw3];obtain⟨b0,hb0⟩:∃b0,b0=w1.heap.size+1:=⟨_,rfl⟩
 rw [<-hb0] at SH;rw [<-hb0];have OX:=ae hb0
 clear hw3 hmk hb0 hz;go_upto_region 6 with (first|(go_at_call 302;refine (k_ (o.data.length:Int) o.kL o.aC off k _ (O5.out.later OJ.out) Q6.out hb4).mono ?_;rintro e w4 ⟨ap,capp,rfl,OP,hb⟩;have SK:=ae OP;have OM:=ae hb;clear OP hb))
 clear x10a x10b;have RU:=ae ((H.out.rQ.later OJ.out).later OM.out)
 have Qf:=ae (cell_later OM.out (cell_later OJ.out H.out.c0.1))
 obtain⟨c,hc⟩:∃c,c=oP off k:=⟨_,rfl⟩
 rw [<-hc] at SK;rw [<-hc];have Rl:=ae hc
 have hc64:c<=4096:=by rw [hc];unfold oP;split<;>omega
 clear hc;go_loopw [12,35] (yC w4 b0 off k o.data) (λ_ v _=>c - jv v)
 case atStart =>
  refine⟨0,0,k,_,rfl,rfl,by rw [gB];omega,Nat.zero_le _,SH.out.later OM.out,λj hj=>.inl (Fg hj),aj.refl _ _⟩
 case round =>
  obtain⟨i,l,cap,a,rfl,rfl,hl,hin,hO,hBl,hBt⟩:=hrel
  have HL:=ae hl
  have HO:=ae hO
  have QA:=ae hBl
  have OQ:=ae hBt
  have Sp:=ae hin
  clear hl hO hBl hBt hin;have hb0n:b0≠s/\b0≠g/\b0≠pb:=by have:=OX.out;omega
  obtain⟨hn1,hn2,hn3⟩:=hb0n
  have HA:=ae (RU.out.but OQ.out (Ne.symm hn2) (Ne.symm hn3))
  have xs:=an OQ.out Qf.out (Ne.symm hn1)
  by_cases hlt:i<c
  ·have hd:decide ((i:Int)<(c:Int))=true:=decide_eq_true (by omega)
   have hpi:pos off k i<off+k:=(iB off k i).1 (by have:=Rl.out;omega)
   obtain⟨gp,rfl,hg1,hg2,y0,y1,y2⟩:=qK SK.out hlt
   have hgb:gp≠b0:=by have:=OX.out;have:=Qo.out;omega
   replace y0:=an OQ.out y0 hgb
   replace y1:=an OQ.out y1 hgb
   replace y2:=an OQ.out y2 hgb
   have hql:=DL QC.out RJ.out hpi
   have QU:=ae (yd UK.out RJ.out hpi)
   have hnx:=fS hpi
   have hpl2:=ij off k i
   obtain⟨pg,hpg⟩:∃pg,pg=o.aC.getD (off / 64+i) 0:=⟨_,rfl⟩
   obtain⟨st,hst⟩:∃st,st=pos off k i%64:=⟨_,rfl⟩
   obtain⟨f,hf⟩:∃f,f=pos off k (i+1) - pos off k i:=⟨_,rfl⟩
   have HT:Hid (t pg=true):=ae (UO.out pg (by rw [hpg,List.getD_eq_getElem?_getD,List.getElem?_eq_getElem hql];exact List.getElem_mem _))
   have hsf:st+f<=64:=by omega
   rw [<-hpg,<-hst,<-hf] at QU;rw [<-hpg] at y0;rw [<-hst] at y1;rw [<-hf] at y2;have Ss:Hid (pos off k (i+1) - off=l+f):=ae (by have:=HL.out;omega)
   have hlf:l+f<=4096:=by have:=Ss.out;have:=ij off k (i+1);omega
   clear hpg hst hf hnx hpl2 hpi hql;go_upto_region 8 with fail
   obtain⟨w5,hw5⟩:∃w5,w5=wr.alloc (Obj.cells #[Value.int .i64 (pg:Int),Value.int .i64 (st:Int),Value.int .i64 (f:Int)] 436):=⟨_,rfl⟩
   have OS:Hid (Below wr.heap.size wr w5):=ae (by rw [hw5];exact ag _ _)
   have HS:Hid (∀W,Below w5.heap.size w5 W->(W.cell? ⟨s,0,none⟩=some (aq g)/\W.cell? ⟨wr.heap.size,0,none⟩=some (ab (pg:Int))/\W.cell? ⟨wr.heap.size,1,none⟩=some (ab (st:Int))/\W.cell? ⟨wr.heap.size,2,none⟩=some (ab (f:Int)))/\Below w5.heap.size w5 W):=ae (by
    intro W hW;refine⟨⟨cell_later hW (cell_later OS.out xs),?_,?_,?_⟩,hW⟩<;>refine cell_later hW ?_<;>rw [hw5]
    ·exact (bf _ _ _ 0 _ rfl).1
    ·exact (bf _ _ _ 1 _ rfl).1
    ·exact (bf _ _ _ 2 _ rfl).1)
   rw [<-hw5];have SI:=ae (HA.out.later OS.out)
   clear hw5 y0 y1 y2 xs;go_region_held3 (λW=>(W.cell? ⟨s,0,none⟩=some (aq g)/\W.cell? ⟨wr.heap.size,0,none⟩=some (ab (pg:Int))/\W.cell? ⟨wr.heap.size,1,none⟩=some (ab (st:Int))/\W.cell? ⟨wr.heap.size,2,none⟩=some (ab (f:Int)))/\Below w5.heap.size w5 W) (first|exact HS.out _ (Below.refl _ _).drew|exact HS.out _ hb2.out) (first|(go_at_call 303;refine (oO g pb n t B pg st f _ (SI.out.later (Below.refl _ _).drew) HT.out hsf).mono ?_;rintro e w6 ⟨a6,rfl,A6,hb6⟩;have hb2:=ae (aa (Below.refl w5.heap.size w5).drew hb6)))
   have O7:=ae (aa OS.out hb2.out)
   obtain⟨a',cap',w7,hrun,hO7,hG⟩:=oT (HO.out.later O7.out) A6.row (by have:=O7.out.size;have:=OQ.out.size;have:=OM.out.size;have:=Qo.out;have:=OX.out;omega) (by omega)
   have ON:=ae hrun
   have RN:=ae hO7
   have HG:=ae hG
   clear hrun hO7 hG A6 hb6;go_wp2_with (first|(at_builtin;refine aw rfl _ _ 38 rfl _ _ rfl rfl _ w7 ON.out ?_))
   have hBt6:=OQ.out.call O7.out
   refine⟨⟨i+1,l+f,cap',a',rfl,rfl,Ss.out.symm,by have:=Rl.out;omega,?_,λj hj=>?_,hBt6.comp HG.out.but (λj hj=>?_)⟩,by simp [jv];omega⟩
   ·have e:(o.data.drop off).take (l+f)=(o.data.drop off).take l++zT B pg st f:=by
     have:=QU.out
     rw [Ss.out,<-HL.out] at this;exact this
    rw [e,ey];exact RN.out
   ·rcases HG.out.on j hj with h1|h1
    ·exact QA.out j h1
    ·exact .inr (Nat.le_trans hBt6.size h1)
   ·exact QA.out j hj
  ·obtain rfl:i=c:=by have:=Sp.out;have:=Rl.out;omega
   have hd:decide ((i:Int)<(i:Int))=false:=by simp
   have SW:Hid (l=k):=ae (by
    have h1:=HL.out
    rw [Rl.out,uz] at h1;omega)
   clear xs;go_wp2;have hlk:=SW.out
   subst hlk;have hw:Below w.heap.size w wr:=aj.below (S:=(·=b0)) (aa OJ.out OM.out) OQ.out (λj hj=>by have:=OX.out;omega)
   refine bodyPost_ret (v:=.tuple #[.slice a l cap,ab 0]) (by simp [results,Tryz.results230,go_sem]) rfl ⟨a,cap,rfl,HO.out.mono (by have:=OX.out;omega),hw⟩
theorem rW (t e:TypeId)(hu:Tryz.prog.underlying t=some (.slice (Tryz.prog.elem t)))(hs:∀W:World,(sizeOf (Tryz.prog.elem t)).run Tryz.prog W=.ok 1 W)(a:Option Addr)(r cap f:Nat)(hf:f<=r) :
  ∃a',(∀W:World,(Instr.sliceAt t (.slice a r cap) (some (ab (f:Int))) none none).run Tryz.prog W=.ok (.slice a' (r - f) (cap - f)) W)/\(cap=f/\a'=a\/a'=a.map (·.add f)):=by
 have h:∀W:World,(Instr.sliceAt t (.slice a r cap) (some (ab (f:Int))) none none).run Tryz.prog W=.ok (sliced a f r cap 1) W:=λW=>by
  rw [run_sliceAt_slice W t _ _ _ _ hu,run_slice_l W t a r cap hu .i64 (f:Int) (by omega) (by omega),hs];simp
 by_cases hc:cap=f
 ·exact⟨a,λW=>by rw [h W];simp [sliced,hc],.inl ⟨hc,rfl⟩⟩
 ·exact⟨a.map (·.add f),λW=>by rw [h W];simp [sliced,hc],.inr rfl⟩
theorem add_add (x:Addr)(i j:Nat):(x.add i).add j=x.add (i+j):=by
 unfold Addr.add;by_cases hi:i=0
 ·subst hi
  simp
 ·by_cases hj:j=0
  ·subst hj
   simp
  ·rw [if_neg hi,if_neg hj,if_neg (by omega)]
   simp [Nat.add_assoc]
theorem _root_.Go.Proofs.YtmhinfbkmjdgfaaGreatDoor.Row.from {L:List Value}(h:Row w a r cap L)(hf:f<=r)(ha:cap=f/\a'=a\/a'=a.map (·.add f)):Row w a' (r - f) (cap - f) (L.drop f)/\∀k,aI a' k->aI a k:=by
 have hc:=h.cap_
 rcases ha with ⟨e,rfl⟩|rfl
 ·have hrf:r=f:=by omega
  refine⟨⟨by rw [List.length_drop,h.len],by omega,λ_=>by omega,λx hx j u hu=>?_,λu hu=>h.one u (List.mem_of_mem_drop hu)⟩,λ_ h=>h⟩
  rw [List.drop_of_length_le (by rw [h.len];omega)] at hu
  cases hu
 ·refine⟨⟨by rw [List.length_drop,h.len],by omega,λe=>?_,λx hx j u hu=>?_,λu hu=>h.one u (List.mem_of_mem_drop hu)⟩,λk hk=>?_⟩
  ·cases a with
   | none=>have:=h.none_ rfl;omega
   | some x=>cases e
  ·cases a with
   | none=>cases hx
   | some y =>
    simp only [Option.map_some,Option.some.injEq] at hx;subst hx;rw [add_add];exact h.cells y rfl (f+j) u (by rw [<-List.getElem?_drop];exact hu)
  ·obtain⟨x,hx,rfl⟩:=hk
   cases a with
   | none=>cases hx
   | some y =>
    simp only [Option.map_some,Option.some.injEq] at hx;subst hx;exact⟨y,rfl,(nV y f).symm⟩
theorem zm (L:List Nat)(k:Nat):(aN L).drop k=aN (L.drop k):=by simp [aN,List.map_drop]
theorem yT (L:List Nat)(k:Nat):(aN L).take k=aN (L.take k):=by simp [aN,List.map_take]
theorem Hy:Tryz.prog.underlying 38=some (.slice (Tryz.prog.elem 38)):=by kernel_rfl
theorem vA (W:World):(sizeOf (Tryz.prog.elem 38)).run Tryz.prog W=.ok 1 W:=by
 have e:Tryz.prog.elem 38=5:=by kernel_rfl
 obtain⟨i,hi,hz0,hz1,hz2⟩:=info_parts gX
 rw [e];simp [sizeOf,typeInfo,hi,hz1]
def qk (aC:List Nat)(B B':Nat->Nat->Nat)(off p:Nat)(D:List Nat):Prop :=
 (∀j,j<64*aC.length->B' (aC.getD (j / 64) 0) (j%64)=if off<=j/\j<p then D.getD (j - off) 0 else B (aC.getD (j / 64) 0) (j%64))/\∀q x,¬q∈aC->B' q x=B q x
theorem rG (aC:List Nat)(B:Nat->Nat->Nat)(off:Nat)(D:List Nat):qk aC B B off off D :=
 ⟨λj hj=>by rw [if_neg (by omega)],λ_ _ _=>rfl⟩
theorem iP (h:i<l.length):l.getD i 0∈l:=by
 rw [List.getD_eq_getElem?_getD,List.getElem?_eq_getElem h];exact List.getElem_mem _
theorem getD_inj (hn:l.Nodup){j:Nat}(hi:i<l.length)(hj:j<l.length)(h:l.getD i 0=l.getD j 0):i=j:=by
 rw [List.getD_eq_getElem?_getD,List.getD_eq_getElem?_getD,List.getElem?_eq_getElem hi,List.getElem?_eq_getElem hj] at h;simp only [Option.getD_some] at h;unfold List.Nodup at hn;rw [List.pairwise_iff_getElem] at hn;rcases Nat.lt_trichotomy i j with h1|h1|h1
 ·exact absurd h (hn i j hi hj h1)
 ·exact h1
 ·exact absurd h.symm (hn j i hj hi h1)
theorem si (hn:aC.Nodup)(hk:D.length=k)(hp:off+k<=64*aC.length)(h:pos off k i<off+k)(hw:qk aC B B' off (pos off k i) D) :
  qk aC B (AW B' (aC.getD (off / 64+i) 0) (pos off k i%64) ((D.drop (pos off k i - off)).take (pos off k (i+1) - pos off k i))) off (pos off k (i+1)) D:=by
 have h1:=iZ h
 have h2:=fS h
 have h3:=ij off k i
 have hl:((D.drop (pos off k i - off)).take (pos off k (i+1) - pos off k i)).length=pos off k (i+1) - pos off k i:=by
  rw [List.length_take,List.length_drop];omega
 generalize pos off k i=p at *
 generalize pos off k (i+1)=p2 at *
 rw [<-h1];refine⟨λj hj=>?_,λq x hq=>?_⟩
 ·unfold AW
  rw [hl];by_cases e:j / 64=p / 64
  ·rw [e]
   by_cases e2:p<=j/\j<p2
   ·rw [if_pos ⟨rfl,by omega,by omega⟩,if_pos (by omega)]
    rw [List.getD_eq_getElem?_getD,List.getElem?_take,if_pos (by omega),List.getElem?_drop,List.getD_eq_getElem?_getD];congr 2
    omega
   ·rw [if_neg (by omega)]
    have:=hw.1 j hj
    rw [e] at this;rw [this];by_cases e3:off<=j/\j<p
    ·rw [if_pos e3,if_pos (by omega)]
    ·rw [if_neg e3,if_neg (by omega)]
  ·rw [if_neg (λe2=>e (getD_inj hn (by omega) (by omega) e2.1)),hw.1 j hj]
   by_cases e3:off<=j/\j<p
   ·rw [if_pos e3,if_pos (by omega)]
   ·rw [if_neg e3,if_neg (by omega)]
 ·unfold AW
  rw [if_neg (λe=>hq (by rw [e.1];exact iP (by omega)))]
  exact hw.2 q x hq
def dM (L D:List Nat)(off:Nat):List Nat:=L.take off++D++L.drop (off+D.length)
theorem gG (h:off+D.length<=L.length):(dM L D off).length=L.length:=by
 simp [dM];omega
theorem yk (h:off+D.length<=L.length)(j:Nat):(dM L D off).getD j 0=if off<=j/\j<off+D.length then D.getD (j - off) 0 else L.getD j 0:=by
 unfold dM;simp only [List.getD_eq_getElem?_getD];have hl:(L.take off).length=off:=by rw [List.length_take];omega
 by_cases h1:j<off
 ·rw [if_neg (by omega),List.append_assoc,List.getElem?_append_left (by omega),List.getElem?_take,if_pos h1]
 ·by_cases h2:j<off+D.length
  ·rw [if_pos (by omega),List.append_assoc,List.getElem?_append_right (by omega),List.getElem?_append_left (by omega),hl]
  ·rw [if_neg (by omega),List.getElem?_append_right (by rw [List.length_append,hl];omega),List.getElem?_drop,List.length_append,hl]
   congr 2
   omega
def ec (id:Int)(off:Nat)(D:List Nat)(o:Ob):Ob:=if o.id=id then { o with data:=dM o.data D off } else o
theorem ox (id:Int)(off:Nat)(D:List Nat)(o:Ob):(ec id off D o).id=o.id:=by unfold ec;split<;>rfl
theorem ef (id:Int)(off:Nat)(D:List Nat)(o:Ob):(ec id off D o).aC=o.aC:=by unfold ec;split<;>rfl
theorem je (id:Int)(off:Nat)(D:List Nat)(o:Ob):(ec id off D o).kL=o.kL:=by unfold ec;split<;>rfl
theorem nF (id:Int)(off:Nat)(D:List Nat)(Os:List Ob):g7 (Os.map (ec id off D))=g7 Os:=by
 unfold g7;rw [List.flatMap_map];congr 1
 funext o
 exact ef id off D o
theorem uH {Os:List Ob}{o p:Ob}(hr:Os.Pairwise (λa b=>a.id<b.id))(ho:jQ Os id=some o)(hp:p∈Os)(e:p.id=id):p=o:=by
 have hom:=at_mem ho
 obtain⟨i,hi,rfl⟩:=List.getElem_of_mem hp
 obtain⟨j,hj,rfl⟩:=List.getElem_of_mem hom.1
 rw [List.pairwise_iff_getElem] at hr;have hij:i=j:=by
  rcases Nat.lt_trichotomy i j with h|h|h
  ·have:=hr i j hi hj h;have:=hom.2;omega
  ·exact h
  ·have:=hr j i hj hi h;have:=hom.2;omega
 subst hij;rfl
theorem iu:∀{Os:List Ob},(g7 Os).Nodup->(∀o∈Os,o.aC.Nodup)/\∀o∈Os,∀p∈Os,o.id≠p.id->∀x,x∈o.aC->¬x∈p.aC
 | [],_=>⟨λ_ h=>(by cases h),λ_ h=>(by cases h)⟩
 | a::r,h=>by
  have h2:(a.aC++g7 r).Nodup:=by simpa [g7] using h
  rw [List.nodup_append] at h2;obtain⟨n1,n2,n3⟩:=h2
  obtain⟨i1,i2⟩:=iu n2
  refine⟨λo ho=>?_,λo ho p hp hne x hx hy=>?_⟩
  ·rcases List.mem_cons.1 ho with rfl|h
   ·exact n1
   ·exact i1 o h
  ·rcases List.mem_cons.1 ho with rfl|h1
   ·rcases List.mem_cons.1 hp with rfl|h2
    ·exact hne rfl
    ·exact n3 x hx x (List.mem_flatMap.2 ⟨p,h2,hy⟩) rfl
   ·rcases List.mem_cons.1 hp with rfl|h2
    ·exact n3 x hy x (List.mem_flatMap.2 ⟨o,h1,hx⟩) rfl
    ·exact i2 o h1 p h2 hne x hx hy
theorem vi {Os:List Ob}(h:∀o∈Os,o.id=id->off+D.length<=o.data.length):ib (Os.map (ec id off D))=ib Os:=by
 unfold ib;rw [List.map_map];congr 1
 refine List.map_congr_left λo ho=>?_
 simp only [Function.comp,fH,ox];congr 2
 unfold Ob.val;rw [ef,je];have e:(ec id off D o).data.length=o.data.length:=by
  unfold ec;split
  ·exact gG (h o ho (by assumption))
  ·rfl
 rw [e]
theorem wy (id:Int)(off:Nat)(D:List Nat){Os:List Ob}(h:Os.Pairwise (λa b=>a.id<b.id)):Os.Pairwise (λa b=>(ec id off D a).id<(ec id off D b).id):=by
 simp only [ox];exact h
theorem fO.write {Os:List Ob}{o:Ob}(h:fO w s g pb m n room nx t B Os)(ho:jQ Os id=some o)(hle:off+D.length<=o.data.length)
  (hA:fo w' g pb n t B') (hW:qk o.aC B B' off (off+D.length) D) (hb:aj (·=pb) w w'):fO w' s g pb m n room nx t B' (Os.map (ec id off D)):=by
 have hm:=at_mem ho
 have hall:∀p∈Os,p.id=id->off+D.length<=p.data.length:=λp hp e=>by rw [uH h.qL ho hp e];exact hle
 obtain⟨n1,n2⟩:=iu h.nd
 have hmem:∀q∈Os.map (ec id off D),∃p∈Os,q=ec id off D p:=λq hq=>by
  obtain⟨p,hp,e⟩:=List.mem_map.1 hq
  exact⟨p,hp,e.symm⟩
 have hdl:∀p∈Os,(ec id off D p).data.length=p.data.length:=λp hp=>by
  unfold ec;split
  ·exact gG (hall p hp (by assumption))
  ·rfl
 refine⟨hA,h.c0.but hb h.sp,h.c1.but hb h.sp,h.c2.but hb h.sp,h.c3.but hb h.sp,?_,h.sg,h.sp,h.sm,h.gm,h.pm,λq hq=>?_,λq hq k hk=>?_,λq hq=>?_,by rw [nF];exact h.nd,λi=>by rw [nF];exact h.Gi i,λq hq j hj=>?_,?_,λq hq=>?_,h.H_,by rw [List.length_map];exact h.rm,λq hq=>?_⟩
 ·rw [List.length_map,vi hall]
  exact bS hb h.map (λe=>h.pm e.symm)
 ·obtain⟨p,hp,rfl⟩:=hmem q hq
  rw [je,ef];exact (h.rows p hp).but hb (λk hk=>(h.off p hp k hk).2.2.1)
 ·obtain⟨p,hp,rfl⟩:=hmem q hq
  rw [je] at hk;obtain⟨a1,a2,a3,a4,a5⟩:=h.off p hp k hk
  exact⟨a1,a2,a3,a4,Nat.lt_of_lt_of_le a5 hb.size⟩
 ·obtain⟨p,hp,rfl⟩:=hmem q hq
  rw [ef,hdl p hp];exact h.len p hp
 ·obtain⟨p,hp,rfl⟩:=hmem q hq
  rw [hdl p hp] at hj;rw [ef];have hlp:=h.len p hp
  have hq:j / 64<p.aC.length:=by unfold bp at hlp;omega
  by_cases e:p.id=id
  ·obtain rfl:=uH h.qL ho hp e
   unfold ec;rw [if_pos e,hW.1 j (by omega),yk hle j,h.bytes p hp j hj]
  ·rw [hW.2 _ _ (n2 p hp o hm.1 (by rw [hm.2];exact e) _ (iP hq)),h.bytes p hp j hj]
   unfold ec;rw [if_neg e]
 ·rw [List.pairwise_map]
  exact wy id off D h.qL
 ·obtain⟨p,hp,rfl⟩:=hmem q hq
  rw [ox];exact h.ids p hp
 ·obtain⟨p,hp,rfl⟩:=hmem q hq
  rw [hdl p hp];exact h.gJ p hp
end Go.Proofs.YtmhinfbkmjdgfaaGreatDoor.S
