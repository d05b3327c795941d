import Derived.Maps.OwnSet
import Derived.Lib.SlKeysI
import Derived.Test.YtffmodpgddecnaaGreatDoorZS
set_option linter.unusedVariables false
set_option linter.unusedSimpArgs false
set_option maxRecDepth 100000
set_option maxHeartbeats 2000000
namespace Go.Proofs.YtffmodpgddecnaaGreatDoor.S
open Go.RowKit
structure Ob where
 id:Int
 data:List Nat
 ao:List Nat
 jU:Option Addr
def Ob.val (o:Ob):Value:=.agg #[.int .i64 (o.data.length:Int),.slice o.jU o.ao.length o.ao.length]
def hr:Value->Option (DataW Value×List MemPlace):=λv=>some (.held v,[])
def eN (o:Ob):Lit×DataW Value:=(.int .i64 o.id,.held o.val)
def dV (Os:List Ob):DataW Value:=.map (Os.map eN)
theorem jj (o:Ob)(id:Int):(eN o).1.sameKey (.int .i64 id)=decide (o.id=id):=by simp [eN,Lit.sameKey]
theorem zF (Os:List Ob)(id:Int):Maps.has (dV Os) (.int .i64 id)=Os.any (λo=>decide (o.id=id)):=by
 rw [dV,Maps.has_eq,List.any_map];congr 1
 funext o
 exact jj o id
theorem sZ (Os:List Ob)(id:Int)(z:DataW Value):(dV Os).atKey (.int .i64 id) z=match Os.find? (λo=>decide (o.id=id)) with|some o=>.held o.val|none=>z:=by
 unfold dV DataW.atKey;simp only [List.find?_map];have e:((λp:Lit×DataW Value=>p.1.sameKey (.int .i64 id)) ∘ eN)=λo=>decide (o.id=id):=by funext o;exact jj o id
 rw [e];cases Os.find? (λo=>decide (o.id=id))<;>rfl
theorem gh (x:Lit×DataW Value):∀l:List (Lit×DataW Value),(∀p∈l,x.1.before p.1=false)->DataW.insert x l=l++[x]
 | [],_=>rfl
 | y::r,h=>by
  rw [DataW.insert,if_neg (by rw [h y (by simp)];simp),gh x r (λp hp=>h p (by simp [hp]))]
  rfl
theorem zo (Os:List Ob)(o:Ob)(h:∀p∈Os,p.id<o.id):(dV Os).put (.int .i64 o.id) (.held o.val)=dV (Os++[o]):=by
 unfold dV DataW.put;simp only
 rw [List.filter_eq_self.2 (λp hp=>?_),gh,List.map_append]
 ·rfl
 ·intro p hp
  obtain⟨q,hq,rfl⟩:=List.mem_map.1 hp
  have:=h q hq
  simp [eN,Lit.before];omega
 ·obtain⟨q,hq,rfl⟩:=List.mem_map.1 hp
  have:=h q hq
  rw [jj];simp
  omega
def bX (id:Int)(Os:List Ob):List Ob:=Os.filter λo=>decide (o.id≠id)
theorem yX (Os:List Ob)(id:Int):(dV Os).del (.int .i64 id)=dV (bX id Os):=by
 unfold dV DataW.del bX;simp only [List.filter_map];congr 2
 refine List.filter_congr λo _=>?_
 simp only [Function.comp,jj];simp
theorem gU (Os:List Ob):Maps.size (dV Os)=Os.length:=by simp [dV,Maps.size]
theorem vM (Os:List Ob):intKeys (dV Os)=Os.map Ob.id:=by
 simp [dV,intKeys,eN,Function.comp_def,Go.intOf]
theorem rE {l:List Int}(h:l.Pairwise (·<·)):l.mergeSort leI=l:=by
 refine List.mergeSort_of_pairwise ?_
 rw [List.pairwise_iff_getElem] at h ⊢
 intro i j hi hj hij;have:=h i j hi hj hij
 simp only [leI,decide_eq_true_eq];omega
theorem sl {w:World}{k:TypeId}{R:Value->Option (DataW Value×List MemPlace)}{b n:Nat}{Os:List Ob}(h:w.ownsMap Tryz.prog k R b n (dV Os)):w.ownsMap Tryz.prog k R b Os.length (dV Os):=by
 obtain⟨es,clock,hb,F,hs,hD⟩:=h
 refine⟨es,clock,hb,F,?_,hD⟩
 have:=congrArg Maps.size hD
 rw [gU] at this;rw [this];simp [Maps.size,length_sorted]
theorem bC {S:Nat->Prop}{w w':World}{k:TypeId}{R:Value->Option (DataW Value×List MemPlace)}{b n:Nat}{D:DataW Value}(hb:ah S w w')(h:w.ownsMap Tryz.prog k R b n D)(hn:¬S b):w'.ownsMap Tryz.prog k R b n D:=by
 have hl:=h.lt
 obtain⟨es,clock,hh,r⟩:=h
 exact⟨es,clock,by rw [hb.block b hl hn];exact hh,r⟩
theorem fw {w w':World}{b:Nat}(h:w.mapTurned w' b):ah (·=b) w w':=by
 have hg:=h.grown
 exact⟨hg.os,hg.tape,hg.output,hg.size,λk hk hn=>hg.block k hk (λe=>hn (by cases e;rfl))⟩
def dW (Os:List Ob):List Nat:=Os.flatMap Ob.ao
theorem ym (n:Nat)(t:Nat->Bool):(fx n t false).length+(fx n t true).length=n:=by
 induction n with
 | zero=>simp [fx]
 | succ n ih =>
  rw [jz,jz];cases t n<;>simp<;>omega
theorem nU (n:Nat)(t:Nat->Bool)(b:Bool):(fx n t b).Nodup:=List.Pairwise.filter _ List.nodup_range
theorem xn {n:Nat}{t:Nat->Bool}{L:List Nat}(hL:L.Nodup)(hn:∀i∈L,i<n)(ht:∀i,t i=decide (i∈L)):(fx n t false).length+L.length=n:=by
 have h:=ym n t
 have hp:(fx n t true).Perm L:=(List.perm_ext_iff_of_nodup (nU _ _ _) hL).2 λi=>by
  rw [oE,ht i];simp only [decide_eq_true_eq];exact⟨λh=>h.2,λh=>⟨hn i h,h⟩⟩
 rw [hp.length_eq] at h;exact h
def aU (s:Nat):Nat:=(s+63) / 64
def fN (Os:List Ob):Nat:=(Os.map λo=>aU o.data.length).sum
theorem qM (Os:List Ob)(h:∀o∈Os,o.ao.length=aU o.data.length):(dW Os).length=fN Os:=by
 induction Os with
 | nil=>rfl
 | cons o r ih =>
  have h1:=h o (by simp)
  have h2:=ih (λp hp=>h p (by simp [hp]))
  simp only [dW,List.flatMap_cons,List.length_append,fN,List.map_cons,List.sum_cons] at h1 h2 ⊢
  omega
structure eD (w:World)(s g pb m n room:Nat)(nx:Int)(t:Nat->Bool)(B:Nat->Nat->Nat)(Os:List Ob):Prop where
 pD:di w g pb n t B
 c0:az w ⟨s,0,none⟩ (.pointer (some ⟨g,0,none⟩))
 c1:az w ⟨s,1,none⟩ (.map (some m))
 c2:az w ⟨s,2,none⟩ (.int .i64 (room:Int))
 c3:az w ⟨s,3,none⟩ (.int .i64 nx)
 map:w.ownsMap Tryz.prog 3 hr m Os.length (dV Os)
 sg:s≠g
 sp:s≠pb
 sm:s≠m
 gm:g≠m
 pm:pb≠m
 rows:∀o∈Os,Row w o.jU o.ao.length o.ao.length (ints (de o.ao))
 off:∀o∈Os,∀k,aJ o.jU k->k≠s/\k≠g/\k≠pb/\k≠m/\k<w.heap.size
 len:∀o∈Os,o.ao.length=aU o.data.length
 nd:(dW Os).Nodup
 Hh:∀i,t i=decide (i∈dW Os)
 bytes:∀o∈Os,∀j,j<o.data.length->B (o.ao.getD (j / 64) 0) (j%64)=o.data.getD j 0
 iE:Os.Pairwise (λa b=>a.id<b.id)
 ids:∀o∈Os,1<=o.id/\o.id<nx
 Hq:1<=nx/\nx<=4611686018427387905
 rm:Os.length<=room/\room<=64
 eI:∀o∈Os,o.data.length<=4096
def Sb (s g pb m:Nat)(k:Nat):Prop:=k=s\/k=g\/k=pb\/k=m
def Rb (Os:List Ob)(k:Nat):Prop:=∃o∈Os,aJ o.jU k
theorem eD.but {S:Nat->Prop}{w w':World}{s g pb m n room:Nat}{nx:Int}{t:Nat->Bool}{B:Nat->Nat->Nat}{Os:List Ob}(hb:ah S w w')(h:eD w s g pb m n room nx t B Os)(h1:∀k,Sb s g pb m k->¬S k)(h2:∀k,Rb Os k->¬S k):eD w' s g pb m n room nx t B Os :=
 {h with
  pD:=h.pD.but hb (h1 _ (.inr (.inl rfl))) (h1 _ (.inr (.inr (.inl rfl))))
  c0:=h.c0.but hb (h1 _ (.inl rfl))
  c1:=h.c1.but hb (h1 _ (.inl rfl))
  c2:=h.c2.but hb (h1 _ (.inl rfl))
  c3:=h.c3.but hb (h1 _ (.inl rfl))
  map:=bC hb h.map (h1 _ (.inr (.inr (.inr rfl))))
  rows:=λo ho=>(h.rows o ho).but hb (λk hk=>h2 k ⟨o,ho,hk⟩)
  off:=λo ho k hk=>by
   obtain⟨a,b,c,d,e⟩:=h.off o ho k hk
   exact⟨a,b,c,d,Nat.lt_of_lt_of_le e hb.size⟩ }
theorem eD.later {w w':World}{s g pb m n room:Nat}{nx:Int}{t:Nat->Bool}{B:Nat->Nat->Nat}{Os:List Ob}(hb:Below w.heap.size w w')(h:eD w s g pb m n room nx t B Os):eD w' s g pb m n room nx t B Os :=
 h.but (S:=λ_=>False) (ah.of hb) (λ_ _ h=>h) (λ_ _ h=>h)
theorem eD.mem {w:World}{s g pb m n room:Nat}{nx:Int}{t:Nat->Bool}{B:Nat->Nat->Nat}{Os:List Ob}(h:eD w s g pb m n room nx t B Os){o:Ob}(ho:o∈Os){p:Nat}(hp:p∈o.ao):t p=true/\p<n:=by
 have h1:t p=true:=by
  rw [h.Hh p];exact decide_eq_true (List.mem_flatMap.2 ⟨o,ho,hp⟩)
 exact⟨h1,h.pD.only p h1⟩
theorem eD.count {w:World}{s g pb m n room:Nat}{nx:Int}{t:Nat->Bool}{B:Nat->Nat->Nat}{Os:List Ob}(h:eD w s g pb m n room nx t B Os):(fx n t false).length+fN Os=n:=by
 rw [<-qM Os h.len];refine xn h.nd (λi hi=>h.pD.only i ?_) h.Hh
 rw [h.Hh i];exact decide_eq_true hi
theorem lR (k:Nat)(w:World)(hk:k<=4096):Calls Tryz.prog 255 #[.int .i64 (k:Int)] w λe w'=>e=.returned (.int .i64 ((aU k:Nat):Int))/\w'=w:=by
 have e:(((k:Int)+64 - 1).tdiv 64)=((aU k:Nat):Int):=by
  unfold aU;rw [show (k:Int)+64 - 1=((k+63:Nat):Int) by omega];rfl
 go_enter Tryz.func255,Tryz.ntmps255
 go_wp2;go_ret;exact⟨aT (by
  have h:aU k<=64:=by unfold aU;omega
  unfold wrap64;omega),rfl⟩
theorem oj (s g pb m n room:Nat)(nx:Int)(t:Nat->Bool)(B:Nat->Nat->Nat)(Os:List Ob)(w:World)(h:eD w s g pb m n room nx t B Os) :
  Calls Tryz.prog 254 #[.pointer (some ⟨s,0,none⟩)] w λe w'=>e=.returned (.int .i64 ((n - fN Os:Nat):Int))/\Below w.heap.size w w':=by
 have x:=h.c0.1
 have H:=ab h.pD
 have HC:=ab h.count
 clear h;go_enter Tryz.func254,Tryz.ntmps254
 go_wp2_with (first|(go_at_call 313;refine (zw g pb n t B _ H.out).mono ?_;rintro e w1 ⟨rfl,hb⟩))
 go_ret;exact⟨aT (by have:=HC.out;omega),hb⟩
theorem xz (s g pb m n room:Nat)(nx:Int)(t:Nat->Bool)(B:Nat->Nat->Nat)(Os:List Ob)(w:World)(h:eD w s g pb m n room nx t B Os) :
  Calls Tryz.prog 53 #[.pointer (some ⟨s,0,none⟩)] w λe w'=>e=.returned (.int .i64 nx)/\w'=w:=by
 have x:=h.c3.1
 clear h;go_enter Tryz.func53,Tryz.ntmps53
 go_wp2;go_ret;exact⟨rfl,rfl⟩
theorem aH (w:World)(cs:Array Value)(T:TypeId)(i:Nat)(v:Value)(h:cs[i]?=some v):az (w.alloc (.cells cs T)) ⟨w.heap.size,i,none⟩ v:=by
 have hh:=heap_alloc_new w (.cells cs T)
 exact⟨by rw [cell_of_row _ _ _ _ _ _ hh];exact h,by simp only [World.frozen?,hh];simp⟩
theorem Di:(Tryz.prog.info? 182).map (λi=>(i.zero,i.size,i.bytes))=some (some (.agg #[.pointer none,.map none,.int .i64 0,.int .i64 0]),4,32):=by kernel_rfl
theorem bW:(Tryz.prog.info? 276).map (λi=>(i.zero,i.size,i.bytes))=some (some (.agg #[.int .i64 0,.slice none 0 0]),2,32):=by kernel_rfl
theorem oz:(Tryz.prog.info? 343).map (λi=>(i.zero,i.size,i.bytes))=some (some (.agg #[.int .i64 0,.int .i64 0,.int .i64 0]),3,24):=by kernel_rfl
theorem sC:Maps.Keyed Tryz.prog 3:=Maps.int_keyed Tryz.underlying3
theorem tJ {a:Int}(h:-9223372036854775808<=a/\a<9223372036854775808):keyOf Tryz.prog 3 (.int .i64 a)=some (.int .i64 a):=Maps.keyOf_int_mk Tryz.underlying3 (WalkArith.wf_i64 (by omega))
theorem DF (room n:Nat)(w:World)(h1:1<=room/\room<=64)(h2:1<=n/\n<=256) :
  Calls Tryz.prog 92 #[.int .i64 (room:Int),.int .i64 (n:Int)] w λe w'=>∃s g pb m,e=.returned (.tuple #[.pointer (some ⟨s,0,none⟩),.int .i64 0])/\eD w' s g pb m n room 1 (λ_=>false) (λ_ _=>0) []/\(∀k,Sb s g pb m k->w.heap.size<=k/\k<w'.heap.size)/\Below w.heap.size w w':=by
 have hd1:decide ((room:Int)<1)=false:=decide_eq_false (by omega)
 have hd2:decide ((room:Int)>64)=false:=decide_eq_false (by omega)
 have hd3:decide ((n:Int)<1)=false:=decide_eq_false (by omega)
 have hmm:=@run_makeMap Tryz.prog
 have hz:=aO Di
 go_enter Tryz.func92,Tryz.ntmps92
 go_wp2_with (first|(go_at_call 168;refine (bU n _ (by omega)).mono ?_;rintro e w1 ⟨g,pb,rfl,A,G1,G2,hb⟩;have HA:=ab A;have Xb:=ab G1;have TF:=ab G2;have HB:=ab hb;clear A G1 G2 hb))
 have hs:=HB.out.size
 have hb1:Below w1.heap.size w1 (w1.alloc (Obj.map #[] 0)):=ae _ _
 have hA2:w1.heap.size+1=(w1.alloc (Obj.map #[] 0)).heap.size:=by simp
 rw [hA2];generalize hC:(#[Value.pointer (some ⟨g,0,none⟩),Value.map (some w1.heap.size),Value.int .i64 (room:Int),Value.int .i64 1]:Array Value)=C
 have hb2:=aC w1 (Obj.map #[] 0) (.cells C 182)
 have hgl:=HA.out.B9
 have hpl:=HA.out.lt
 refine bodyPost_ret (v:=.tuple #[.pointer (some ⟨(w1.alloc (Obj.map #[] 0)).heap.size,0,none⟩),.int .i64 0]) (by simp [results,Tryz.results92,go_sem]) rfl ⟨_,g,pb,w1.heap.size,rfl,⟨HA.out.later hb2,?_,?_,?_,?_,?_,by simp;omega,by simp;omega,by simp,by omega,by omega,λo ho=>(by cases ho),λo ho=>(by cases ho),λo ho=>(by cases ho),by simp [dW],λi=>by simp [dW],λo ho=>(by cases ho),List.Pairwise.nil,λo ho=>(by cases ho),by omega,⟨by simp,h1.2⟩,λo ho=>(by cases ho)⟩,?_,aa HB.out hb2⟩
 ·exact aH _ _ _ 0 _ (by rw [<-hC];rfl)
 ·exact aH _ _ _ 1 _ (by rw [<-hC];rfl)
 ·exact aH _ _ _ 2 _ (by rw [<-hC];rfl)
 ·exact aH _ _ _ 3 _ (by rw [<-hC];rfl)
 ·exact (World.ownsMap_made w1 Tryz.prog 3 hr).alloc _
 ·have h1:=Xb.out
  have h2:=TF.out
  rintro k (rfl|rfl|rfl|rfl)<;>simp<;>omega
def jL (room n:Nat)(nx:Int)(Os:List Ob)(size:Int):Int :=
 if size<0\/4096<size then 6 else if room<=Os.length\/4611686018427387904<nx then 7 else if n - fN Os<aU size.toNat then 8 else 0
theorem g_ (s g pb m n room:Nat)(nx:Int)(t:Nat->Bool)(B:Nat->Nat->Nat)(Os:List Ob)(size:Int)(w:World)(h:eD w s g pb m n room nx t B Os) :
  Calls Tryz.prog 179 #[.pointer (some ⟨s,0,none⟩),.int .i64 size] w λe w'=>e=.returned (.int .i64 (jL room n nx Os size))/\Below w.heap.size w w':=by
 obtain⟨E,hE⟩:∃E,E=jL room n nx Os size:=⟨_,rfl⟩
 rw [<-hE];have HE:=ab hE
 have H:=ab h
 clear hE;by_cases h1:size<0
 ·have hd1:decide (size<0)=true:=decide_eq_true h1
  clear h;go_enter Tryz.func179,Tryz.ntmps179
  go_wp2;go_ret;exact⟨aT (by rw [HE.out,jL,if_pos (.inl h1)]),Below.refl _ _⟩
 have hd1:decide (size<0)=false:=decide_eq_false h1
 by_cases h2:size>4096
 ·have hd2:decide (size>4096)=true:=decide_eq_true h2
  clear h;go_enter Tryz.func179,Tryz.ntmps179
  go_wp2;go_ret;exact⟨aT (by rw [HE.out,jL,if_pos (.inr h2)]),Below.refl _ _⟩
 have hd2:decide (size>4096)=false:=decide_eq_false h2
 obtain⟨k,rfl⟩:∃k:Nat,size=(k:Int):=⟨size.toNat,by omega⟩
 have hk:k<=4096:=by omega
 have e1:jL room n nx Os (k:Int)=if room<=Os.length\/4611686018427387904<nx then 7 else if n - fN Os<aU k then 8 else 0:=by
  rw [jL,if_neg (by omega),Int.toNat_natCast]
 rw [e1] at HE;have x1:=h.c1.1
 have x2:=h.c2.1
 have x3:=h.c3.1
 have hlen:=λd:Nat=>(h.later (below_drewN (Below.refl _ _) d)).map.len Tryz.underlying180 3
 simp only [gU] at hlen;obtain⟨len,hl⟩:∃len,len=Os.length:=⟨_,rfl⟩
 rw [<-hl] at hlen;have HL:=ab hl
 clear h e1 h1 h2 hl;by_cases h3:(len:Int)>=(room:Int)
 ·have hd3:decide ((len:Int)>=(room:Int))=true:=decide_eq_true h3
  go_enter Tryz.func179,Tryz.ntmps179
  go_wp2;go_quiet (fail)
  go_wp2;go_ret;exact⟨aT (by rw [HE.out,if_pos (.inl (by have:=HL.out;omega))]),below_drewN (Below.refl _ _) _⟩
 have hd3:decide ((len:Int)>=(room:Int))=false:=decide_eq_false h3
 have hd3b:decide (room<=len)=false:=decide_eq_false (by omega)
 have hd3c:¬room<=len:=by omega
 by_cases h4:nx>4611686018427387904
 ·have hd4:decide (nx>4611686018427387904)=true:=decide_eq_true h4
  go_enter Tryz.func179,Tryz.ntmps179
  go_wp2;go_quiet (fail)
  go_wp2;go_ret;exact⟨aT (by rw [HE.out,if_pos (.inr h4)]),below_drewN (Below.refl _ _) _⟩
 have hd4:decide (nx>4611686018427387904)=false:=decide_eq_false h4
 have e2:¬(room<=Os.length\/4611686018427387904<nx):=by
  have:=HL.out
  omega
 rw [if_neg e2] at HE;clear e2;have HF:Hid (∀d,eD (w.drewN d) s g pb m n room nx t B Os):=ab (λd=>H.out.later (below_drewN (Below.refl _ _) d))
 obtain⟨fr,hfr⟩:∃fr,fr=n - fN Os:=⟨_,rfl⟩
 rw [<-hfr] at HE;have S8:=ab hfr
 clear hfr;by_cases h5:(fr:Int)<((aU k:Nat):Int)
 ·have hd5:decide ((fr:Int)<((aU k:Nat):Int))=true:=decide_eq_true h5
  go_enter Tryz.func179,Tryz.ntmps179
  go_wp2;go_quiet (fail)
  go_wp2_with (first
   | (go_at_call 255;refine (lR k _ hk).mono ?_;rintro e w2 ⟨rfl,hw⟩;obtain rfl:=hw.symm)
   | (go_at_call 254;refine (oj s g pb m n room nx t B Os _ (HF.out _)).mono ?_;rintro e w1 ⟨rfl,hb⟩;rw [<-S8.out];have HB:=ab hb;clear hb))
  go_ret;exact⟨aT (by rw [HE.out,if_pos (by omega)]),aa (below_drewN (Below.refl _ _) nq) HB.out⟩
 ·have hd5:decide ((fr:Int)<((aU k:Nat):Int))=false:=decide_eq_false h5
  go_enter Tryz.func179,Tryz.ntmps179
  go_wp2;go_quiet (fail)
  go_wp2_with (first
   | (go_at_call 255;refine (lR k _ hk).mono ?_;rintro e w2 ⟨rfl,hw⟩;obtain rfl:=hw.symm)
   | (go_at_call 254;refine (oj s g pb m n room nx t B Os _ (HF.out _)).mono ?_;rintro e w1 ⟨rfl,hb⟩;rw [<-S8.out];have HB:=ab hb;clear hb))
  go_ret;exact⟨aT (by rw [HE.out,if_neg (by omega)]),aa (below_drewN (Below.refl _ _) nq) HB.out⟩
def fq (Os:List Ob)(id:Int):Option Ob:=Os.find? λo=>decide (o.id=id)
theorem at_mem {Os:List Ob}{id:Int}{o:Ob}(h:fq Os id=some o):o∈Os/\o.id=id:=⟨List.mem_of_find?_eq_some h,by simpa using List.find?_some h⟩
theorem rU {w:World}{s g pb m n room:Nat}{nx:Int}{t:Nat->Bool}{B:Nat->Nat->Nat}{Os:List Ob}(h:eD w s g pb m n room nx t B Os){id:Int}(hi:-9223372036854775808<=id/\id<9223372036854775808) :
  (Instr.lookup 180 (.map (some m)) (.int .i64 id) true).run Tryz.prog w=.ok (match fq Os id with
   | some o=>.tuple #[.agg #[.int .i64 (o.data.length:Int),.slice o.jU o.ao.length o.ao.length],.bool true]
   | none=>.tuple #[.agg #[.int .i64 0,.slice none 0 0],.bool false]) w:=by
 obtain⟨v,ps,hrun,hv⟩:=h.map.look_ok sC Tryz.underlying180 (aO bW w) (zd:=.held (.agg #[.int .i64 0,.slice none 0 0])) (zp:=[]) rfl (tJ hi)
 rw [hrun,zF];rw [sZ] at hv;simp only [hr,Option.some.injEq,Prod.mk.injEq] at hv;have e:Os.any (λo=>decide (o.id=id))=(fq Os id).isSome:=by
  unfold fq
  rw [Bool.eq_iff_iff,List.any_eq_true,List.find?_isSome]
 rw [e];have hv1:=hv.1
 unfold fq at hv1 ⊢
 cases hf:Os.find? (λo=>decide (o.id=id)) with
 | none =>
  rw [hf] at hv1;simp only [DataW.held.injEq] at hv1;simp [hv1]
 | some o =>
  rw [hf] at hv1;simp only [DataW.held.injEq] at hv1;simp [hv1,Ob.val]
theorem gY {w:World}{s g pb m n room:Nat}{nx:Int}{t:Nat->Bool}{B:Nat->Nat->Nat}{Os:List Ob}(h:eD w s g pb m n room nx t B Os){id:Int}(hi:-9223372036854775808<=id/\id<9223372036854775808){o:Ob}(ho:fq Os id=some o) :
  (Instr.lookup 180 (.map (some m)) (.int .i64 id) true).run Tryz.prog w=.ok (.tuple #[.agg #[.int .i64 (o.data.length:Int),.slice o.jU o.ao.length o.ao.length],.bool true]) w:=by
 rw [rU h hi,ho]
theorem fs {w:World}{s g pb m n room:Nat}{nx:Int}{t:Nat->Bool}{B:Nat->Nat->Nat}{Os:List Ob}(h:eD w s g pb m n room nx t B Os){id:Int}(hi:-9223372036854775808<=id/\id<9223372036854775808)(ho:fq Os id=none) :
  (Instr.lookup 180 (.map (some m)) (.int .i64 id) true).run Tryz.prog w=.ok (.tuple #[.agg #[.int .i64 0,.slice none 0 0],.bool false]) w:=by
 rw [rU h hi,ho]
theorem xL (s g pb m n room:Nat)(nx:Int)(t:Nat->Bool)(B:Nat->Nat->Nat)(Os:List Ob)(id:Int)(o:Ob)(w:World)(h:eD w s g pb m n room nx t B Os)(hi:-9223372036854775808<=id/\id<9223372036854775808)(ho:fq Os id=some o) :
  Calls Tryz.prog 194 #[.pointer (some ⟨s,0,none⟩),.int .i64 id] w λe w'=>e=.returned (.tuple #[.int .i64 (o.data.length:Int),.bool true])/\Below w.heap.size w w':=by
 have x:=h.c1.1
 have hl:=gY h hi ho
 have hz:=aO bW
 clear h;go_enter Tryz.func194,Tryz.ntmps194
 go_wp2;exact bodyPost_ret (v:=.tuple #[.int .i64 (o.data.length:Int),.bool true]) (by simp [results,Tryz.results194,go_sem]) rfl ⟨rfl,ae _ _⟩
theorem xK (s g pb m n room:Nat)(nx:Int)(t:Nat->Bool)(B:Nat->Nat->Nat)(Os:List Ob)(id:Int)(w:World)(h:eD w s g pb m n room nx t B Os)(hi:-9223372036854775808<=id/\id<9223372036854775808)(ho:fq Os id=none) :
  Calls Tryz.prog 194 #[.pointer (some ⟨s,0,none⟩),.int .i64 id] w λe w'=>e=.returned (.tuple #[.int .i64 0,.bool false])/\Below w.heap.size w w':=by
 have x:=h.c1.1
 have hl:=fs h hi ho
 have hz:=aO bW
 clear h;go_enter Tryz.func194,Tryz.ntmps194
 go_wp2;exact bodyPost_ret (v:=.tuple #[.int .i64 0,.bool false]) (by simp [results,Tryz.results194,go_sem]) rfl ⟨rfl,ae _ _⟩
theorem mr (s g pb m n room:Nat)(nx:Int)(t:Nat->Bool)(B:Nat->Nat->Nat)(Os:List Ob)(id off k:Int)(w:World)(h:eD w s g pb m n room nx t B Os)(hi:-9223372036854775808<=id/\id<9223372036854775808)(ho:fq Os id=none) :
  Calls Tryz.prog 266 #[.pointer (some ⟨s,0,none⟩),.int .i64 id,.int .i64 off,.int .i64 k] w λe w'=>e=.returned (.tuple #[.agg #[.int .i64 0,.slice none 0 0],.int .i64 20])/\Below w.heap.size w w':=by
 have x:=h.c1.1
 have x1:=cell_later (ae w (.cells #[.int .i64 0,.slice none 0 0] 276)) x
 have hl:=fs (h.later (ae w (.cells #[.int .i64 0,.slice none 0 0] 276))) hi ho
 have hz:=aO bW
 clear h;go_enter Tryz.func266,Tryz.ntmps266
 go_wp2;refine bodyPost_ret (v:=.tuple #[.agg #[.int .i64 0,.slice none 0 0],.int .i64 20]) ?_ rfl ⟨rfl,aC _ _ _⟩
 simp [results,Tryz.results266,go_sem]
def kA (o:Ob)(off k:Int):Prop:=0<=off/\0<=k/\k<=1024/\off+k<=(o.data.length:Int)
theorem ny (s g pb m n room:Nat)(nx:Int)(t:Nat->Bool)(B:Nat->Nat->Nat)(Os:List Ob)(id off k:Int)(o:Ob)(w:World)(h:eD w s g pb m n room nx t B Os)(hi:-9223372036854775808<=id/\id<9223372036854775808)(ho:fq Os id=some o)(hb:¬kA o off k) :
  Calls Tryz.prog 266 #[.pointer (some ⟨s,0,none⟩),.int .i64 id,.int .i64 off,.int .i64 k] w λe w'=>e=.returned (.tuple #[.agg #[.int .i64 0,.slice none 0 0],.int .i64 5])/\Below w.heap.size w w':=by
 have x:=h.c1.1
 have x1:=cell_later (ae w (.cells #[.int .i64 0,.slice none 0 0] 276)) x
 have hl:=gY (h.later (ae w (.cells #[.int .i64 0,.slice none 0 0] 276))) hi ho
 have hz:=aO bW
 have hbig:=h.eI o (at_mem ho).1
 obtain⟨sz,hsz⟩:∃sz,sz=o.data.length:=⟨_,rfl⟩
 rw [<-hsz] at hl hbig;unfold kA at hb;rw [<-hsz] at hb;have HB:=ab hb
 clear h hsz hb;by_cases h1:off<0
 ·have hd1:decide (off<0)=true:=decide_eq_true h1
  go_enter Tryz.func266,Tryz.ntmps266
  go_wp2;refine bodyPost_ret (v:=.tuple #[.agg #[.int .i64 0,.slice none 0 0],.int .i64 5]) ?_ rfl ⟨rfl,aC _ _ _⟩
  simp [results,Tryz.results266,go_sem]
 have hd1:decide (off<0)=false:=decide_eq_false h1
 by_cases h2:k<0
 ·have hd2:decide (k<0)=true:=decide_eq_true h2
  go_enter Tryz.func266,Tryz.ntmps266
  go_wp2;refine bodyPost_ret (v:=.tuple #[.agg #[.int .i64 0,.slice none 0 0],.int .i64 5]) ?_ rfl ⟨rfl,aC _ _ _⟩
  simp [results,Tryz.results266,go_sem]
 have hd2:decide (k<0)=false:=decide_eq_false h2
 by_cases h3:k>1024
 ·have hd3:decide (k>1024)=true:=decide_eq_true h3
  go_enter Tryz.func266,Tryz.ntmps266
  go_wp2;refine bodyPost_ret (v:=.tuple #[.agg #[.int .i64 0,.slice none 0 0],.int .i64 5]) ?_ rfl ⟨rfl,aC _ _ _⟩
  simp [results,Tryz.results266,go_sem]
 have hd3:decide (k>1024)=false:=decide_eq_false h3
 have hd4:decide (off>(sz:Int) - k)=true:=decide_eq_true (by have:=HB.out;omega)
 go_enter Tryz.func266,Tryz.ntmps266
 go_wp2;refine bodyPost_ret (v:=.tuple #[.agg #[.int .i64 0,.slice none 0 0],.int .i64 5]) ?_ rfl ⟨rfl,aC _ _ _⟩
 simp [results,Tryz.results266,go_sem]
theorem pW (s g pb m n room:Nat)(nx:Int)(t:Nat->Bool)(B:Nat->Nat->Nat)(Os:List Ob)(id off k:Int)(o:Ob)(w:World)(h:eD w s g pb m n room nx t B Os)(hi:-9223372036854775808<=id/\id<9223372036854775808)(ho:fq Os id=some o)(hb:kA o off k) :
  Calls Tryz.prog 266 #[.pointer (some ⟨s,0,none⟩),.int .i64 id,.int .i64 off,.int .i64 k] w λe w'=>e=.returned (.tuple #[.agg #[.int .i64 (o.data.length:Int),.slice o.jU o.ao.length o.ao.length],.int .i64 0])/\Below w.heap.size w w':=by
 have x:=h.c1.1
 have x1:=cell_later (ae w (.cells #[.int .i64 0,.slice none 0 0] 276)) x
 have hl:=gY (h.later (ae w (.cells #[.int .i64 0,.slice none 0 0] 276))) hi ho
 have hz:=aO bW
 have hbig:=h.eI o (at_mem ho).1
 obtain⟨sz,hsz⟩:∃sz,sz=o.data.length:=⟨_,rfl⟩
 rw [<-hsz] at hl hbig ⊢
 unfold kA at hb;rw [<-hsz] at hb;clear h hsz;have hd1:decide (off<0)=false:=decide_eq_false (by omega)
 have hd2:decide (k<0)=false:=decide_eq_false (by omega)
 have hd3:decide (k>1024)=false:=decide_eq_false (by omega)
 have hd4:decide (off>(sz:Int) - k)=false:=decide_eq_false (by omega)
 obtain⟨hb1,hb2,hb3,hb4⟩:=hb
 go_enter Tryz.func266,Tryz.ntmps266
 go_wp2;refine bodyPost_ret (v:=.tuple #[.agg #[.int .i64 (sz:Int),.slice o.jU o.ao.length o.ao.length],.int .i64 0]) ?_ rfl ⟨rfl,?_⟩
 ·simp [results,Tryz.results266,go_sem]
 ·exact aC _ _ _
def pos (off k i:Nat):Nat:=if i=0 then off else min (off+k) ((off / 64+i)*64)
def pG (off k:Nat):Nat:=if k=0 then 0 else (off+k - 1) / 64 - off / 64+1
theorem gC (off k:Nat):pos off k 0=off:=by simp [pos]
theorem iY (off k i:Nat):i<pG off k↔pos off k i<off+k:=by
 unfold pG pos;by_cases hk:k=0
 ·simp [hk]
  split<;>omega
 ·rw [if_neg hk]
  by_cases hi:i=0
  ·simp [hi];omega
  ·rw [if_neg hi]
   omega
theorem uS (off k:Nat):pos off k (pG off k)=off+k:=by
 unfold pG pos;by_cases hk:k=0
 ·simp [hk]
 ·rw [if_neg hk,if_neg (by omega)]
  omega
theorem iM (off k i:Nat):off<=pos off k i/\pos off k i<=off+k:=by
 unfold pos;split<;>omega
theorem iQ {off k i:Nat}(h:pos off k i<off+k):pos off k i / 64=off / 64+i:=by
 unfold pos at h ⊢
 split<;>rename_i hi
 ·omega
 ·rw [if_neg hi] at h
  omega
theorem gK {off k i:Nat}(h:pos off k i<off+k):pos off k (i+1)=pos off k i+min (off+k - pos off k i) (64 - pos off k i%64):=by
 have h1:=iQ h
 have h2:pos off k (i+1)=min (off+k) ((off / 64+(i+1))*64):=by simp [pos]
 rw [h2];omega
def Iw (ao:List Nat)(off k i:Nat):List Value:=[.int .i64 ((ao.getD (off / 64+i) 0:Nat):Int),.int .i64 ((pos off k i%64:Nat):Int),.int .i64 ((pos off k (i+1) - pos off k i:Nat):Int)]
def zc (ao:List Nat)(off k:Nat):Nat->List Value
 | 0=>[]
 | c+1=>zc ao off k c++Iw ao off k c
theorem fA (ao:List Nat)(off k:Nat):∀c,(zc ao off k c).length=3*c
 | 0=>rfl
 | c+1=>by rw [zc,List.length_append,fA ao off k c];simp [Iw];omega
theorem kJ (ao:List Nat)(off k:Nat)(j:Nat)(hj:j<3):∀c i,i<c->(zc ao off k c)[3*i+j]?=(Iw ao off k i)[j]?
 | 0,i,h=>by omega
 | c+1,i,h=>by
  rw [zc];by_cases e:i=c
  ·subst e
   rw [List.getElem?_append_right (by rw [fA];omega),fA]
   congr 1
   omega
  ·rw [List.getElem?_append_left (by rw [fA];omega)]
   exact kJ ao off k j hj c i (by omega)
theorem vL {w w1:World}{base:Nat}{e:TypeId}{size:Nat}{v:Value}{n:Nat}{xs:List Value}(hb:Below w.heap.size w w1)(h:w.ownsRow base e size v n xs):w1.ownsRow base e size v n xs:=pt (S:=λ_=>False) (ah.of hb) h (λ_ _ h=>h)
theorem jn {w:World}{base:Nat}{a:Option Addr}{i cap:Nat}{L:List Value}(x y z:Int)(h:w.ownsRow base 343 3 (.slice a i cap) i L)(hb:base<=w.heap.size)(hi:i<=4096)(bk:Nat)(hbk:bk=w.heap.size) :
  ∃a' cap' w',(Builtin.append_ #[340,340] 340 #[.slice a i cap,.slice (some ⟨bk,0,none⟩) 1 1]).run Tryz.prog (w.alloc (.cells #[.int .i64 x,.int .i64 y,.int .i64 z] 343))=.ok (.slice a' (i+1) cap') w'/\w'.ownsRow base 343 3 (.slice a' (i+1) cap') (i+1) (L++[.int .i64 x,.int .i64 y,.int .i64 z])/\Below base w w':=by
 subst hbk;obtain⟨i0,hi0,hz0,hz1,hz2⟩:=info_parts oz
 have o1:=vL (ae w (.cells #[.int .i64 x,.int .i64 y,.int .i64 z] 343)) h
 have hnew:∀j u,[Value.int .i64 x,.int .i64 y,.int .i64 z][j]?=some u->(w.alloc (.cells #[.int .i64 x,.int .i64 y,.int .i64 z] 343)).cell? ((⟨w.heap.size,0,none⟩:Addr).add j)=some u:=by
  intro j u hu;rw [aQ];have hj:j<3:=(List.getElem?_eq_some_iff.1 hu).1
  have:j=0\/j=1\/j=2:=by omega
  rcases this with rfl|rfl|rfl<;>(simp at hu;subst hu;simp [go_sem])
 obtain⟨v2,w2,hr2,o2,g2,_,_⟩:=run_append_own_at (P:=Tryz.prog) (w.alloc (.cells #[.int .i64 x,.int .i64 y,.int .i64 z] 343)) base 340 340 343 i0 _ 3 24 Tryz.underlying340 hi0 hz0 hz1 hz2 rfl (by decide) _ i _ o1 ⟨w.heap.size,0,none⟩ 1 1 [.int .i64 x,.int .i64 y,.int .i64 z] rfl hnew (λu hu=>by
  simp only [List.mem_cons,List.not_mem_nil,or_false] at hu;rcases hu with rfl|rfl|rfl<;>rfl) (by unfold maxLen;omega) (by omega) (by simp;omega)
 obtain⟨a',cap',rfl⟩:∃a' cap',v2=.slice a' (i+1) cap':=by
  rcases o2.2 with ⟨h,h'⟩|⟨g',cap',_,h,_⟩
  ·omega
  ·exact⟨_,cap',h⟩
 exact⟨a',cap',w2,hr2,o2,((ae w (.cells #[.int .i64 x,.int .i64 y,.int .i64 z] 343)).mono hb).grown g2 (by simp;omega) (λj hj=>(bu o1 j hj).1)⟩
def fe:Value->Nat
 | .int _ a=>a.toNat
 | _=>0
def EH (w:World)(ao:List Nat)(off k:Nat)(v1 v2 v7:Value)(w':World):Prop :=
 ∃(i p:Nat) (a:Option Addr) (cap:Nat),v1=.int .i64 (p:Int)/\v2=.int .i64 ((off+k - p:Nat):Int)/\v7=.slice a i cap/\p=pos off k i/\i<=pG off k/\w'.ownsRow w.heap.size 343 3 (.slice a i cap) i (zc ao off k i)/\Below w.heap.size w w'
theorem uU {W w2:World}{ao:List Nat}{off k i p r u st q pg f cap':Nat}{a':Option Addr}(hp:p=pos off k i)(hq:q<ao.length)(hE:off+k - p=r/\p%64=st/\64 - st=u/\q=off / 64+i/\pg=ao[q]/\pos off k (i+1)=p+min r u)(hi:i<pG off k)(hf:f=min r u)
  (hO:w2.ownsRow W.heap.size 343 3 (.slice a' (i+1) cap') (i+1) (zc ao off k i++[.int .i64 (pg:Int),.int .i64 (st:Int),.int .i64 (f:Int)])) (hB:Below W.heap.size W w2) :
  EH W ao off k (.int .i64 ((p:Int)+(f:Int))) (.int .i64 ((r:Int) - (f:Int))) (.slice a' (i+1) cap') w2:=by
 obtain⟨e1,e2,e3,e4,e5,e6⟩:=hE
 refine⟨i+1,p+f,a',cap',by rw [Int.natCast_add],?_,rfl,by rw [e6,hf],by omega,?_,hB⟩
 ·congr 1
  omega
 ·have e:Iw ao off k i=[.int .i64 (pg:Int),.int .i64 (st:Int),.int .i64 (f:Int)]:=by
   unfold Iw;rw [<-hp,e2,e6,<-e4,e5,List.getD_eq_getElem?_getD,List.getElem?_eq_getElem hq,hf,Nat.add_sub_cancel_left];rfl
  rw [zc,e];exact hO
theorem lN (sz:Int)(jU:Option Addr)(ao:List Nat)(off k:Nat)(w:World)(hR:Row w jU ao.length ao.length (ints (de ao)))(ho:off+k<=64*ao.length)(hb:off+k<=4096) :
  Calls Tryz.prog 267 #[.agg #[.int .i64 sz,.slice jU ao.length ao.length],.int .i64 (off:Int),.int .i64 (k:Int)] w λe w'=>∃a cap,e=.returned (.slice a (pG off k) cap)/\w'.ownsRow w.heap.size 343 3 (.slice a (pG off k) cap) (pG off k) (zc ao off k (pG off k))/\Below w.heap.size w w':=by
 have HR:=ab hR
 obtain⟨W,hW⟩:∃W,W=w.alloc (.cells #[.int .i64 sz,.slice jU ao.length ao.length] 276):=⟨_,rfl⟩
 have Ql:Hid (Below w.heap.size w W):=ab (by rw [hW];exact ae _ _)
 have HC:Hid (W.cell? ⟨w.heap.size,1,none⟩=some (.slice jU ao.length ao.length)):=ab (by rw [hW];exact (aH _ _ _ 1 _ rfl).1)
 have Wj:Hid (w.heap.size<W.heap.size):=ab (by rw [hW];simp)
 have HO:=ab ho
 clear hR ho;go_enter Tryz.func267,Tryz.ntmps267
 go_upto_region 2 with fail
 rw [<-hW];clear hW;go_loopw [1,2,7] (EH W ao off k) (λ_ n _ _=>fe n)
 case atStart=>exact⟨0,off,none,0,rfl,by rw [Nat.add_sub_cancel_left],rfl,(gC _ _).symm,Nat.zero_le _,⟨rfl,.inl ⟨rfl,rfl⟩⟩,Below.refl _ _⟩
 case round =>
  obtain⟨i,p,a,cap,rfl,rfl,rfl,hp,hi,hO,hB⟩:=hrel
  have hpl:=iM off k i
  rw [<-hp] at hpl;have HP:=ab hp
  have HB:=ab hB
  have TY:=ab hO
  clear hB hO;by_cases hlt:p<off+k
  ·have h1:=iQ (off:=off) (k:=k) (i:=i) (by omega)
   have h2:=gK (off:=off) (k:=k) (i:=i) (by omega)
   have hin:=(iY off k i).2 (by omega)
   rw [<-hp] at h1 h2;obtain⟨r,hr⟩:∃r,r=off+k - p:=⟨_,rfl⟩
   rw [<-hr] at h2;rw [<-hr];obtain⟨st,hst⟩:∃st,st=p%64:=⟨_,rfl⟩
   rw [<-hst] at h2;have hst64:st<64:=by omega
   obtain⟨u,hu⟩:∃u,u=64 - st:=⟨_,rfl⟩
   obtain⟨q,hq⟩:∃q,q=off / 64+i:=⟨_,rfl⟩
   have hrem:(p:Int)%64=(st:Int):=by omega
   have hquo:(p:Int) / 64=(q:Int):=by omega
   have hqn:p / 64=q:=by omega
   have h64:(64:Int) - (st:Int)=(u:Int):=by omega
   have hr0:0<r:=by omega
   have hr1:r<=4096:=by omega
   have hp1:p<=4096:=by omega
   have hu1:u<=64:=by omega
   have hql:q<ao.length:=by have:=HO.out;omega
   obtain⟨pg,hpg⟩:∃pg,pg=ao[q]:=⟨_,rfl⟩
   obtain⟨bb,oo,rfl,hcell⟩:=HR.out.plain (by omega)
   have y0:=cell_later HB.out HC.out
   have y1:=cell_later HB.out (cell_later Ql.out (hcell q _ (iw ao q hql)))
   rw [<-hpg] at y1;have HE:=ab (show (off+k - p=r/\p%64=st/\64 - st=u/\q=off / 64+i/\pg=ao[q]/\pos off k (i+1)=p+min r u) from ⟨hr.symm,hst.symm,hu.symm,hq,hpg,by rw [hu];exact h2⟩)
   have HI:=ab hin
   have Xx:=ab hi
   clear hcell hr hst hu hq hpg h1 h2 hp hlt hpl hin hi;by_cases hm:r<=u
   ·have hm2:(r:Int)<=(u:Int):=by omega
    obtain⟨a',cap',w2,hrun,hO2,hB2⟩:=jn (pg:Int) (st:Int) (r:Int) TY.out HB.out.size (by have:=HI.out;unfold pG at this;split at this<;>omega) wr.heap.size rfl
    have PD:=ab hrun
    have PS:=ab hO2
    have PB:=ab (HB.out.trans hB2)
    clear hrun hO2 hB2;go_wp2_with (first|(at_builtin;refine al rfl _ _ 340 rfl _ _ rfl rfl _ w2 PD.out ?_))
    refine⟨?_,by simp [fe];omega⟩
    have:=uU HP.out hql HE.out HI.out (f:=r) (by omega) PS.out PB.out
    simpa using this
   ·have hm1:u<r:=by omega
    have hm2:(u:Int)<(r:Int):=by omega
    obtain⟨a',cap',w2,hrun,hO2,hB2⟩:=jn (pg:Int) (st:Int) (u:Int) TY.out HB.out.size (by have:=HI.out;unfold pG at this;split at this<;>omega) wr.heap.size rfl
    have PD:=ab hrun
    have PS:=ab hO2
    have PB:=ab (HB.out.trans hB2)
    clear hrun hO2 hB2;go_wp2_with (first|(at_builtin;refine al rfl _ _ 340 rfl _ _ rfl rfl _ w2 PD.out ?_))
    exact⟨uU HP.out hql HE.out HI.out (by omega) PS.out PB.out,by simp [fe];have:=HE.out;omega⟩
  ·obtain rfl:p=off+k:=by omega
   have hie:i=pG off k:=by
    have h1:=iY off k i
    omega
   have VH:=ab hie
   have e0:off+k - (off+k)=0:=by omega
   rw [e0];simp only [Int.cast_ofNat_Int];clear hie hp e0 hi hpl hlt;go_wp2;go_ret;rw [VH.out] at TY;refine⟨a,cap,by rw [VH.out];rfl,?_,aa Ql.out HB.out⟩
   exact gr TY.out (Nat.le_of_lt Wj.out)
theorem lf (l:List Nat)(p f:Nat)(h:p+f<=l.length):(l.drop p).take f=(List.range f).map λx=>l.getD (p+x) 0:=by
 refine List.ext_getElem (by simp;omega) λj h1 h2=>?_
 simp at h2
 simp [List.getElem_take,List.getElem_drop,List.getD_eq_getElem?_getD,List.getElem?_eq_getElem (show p+j<l.length by omega)]
theorem zq {B:Nat->Nat->Nat}{ao data:List Nat}{off k i:Nat}(hb:∀j,j<data.length->B (ao.getD (j / 64) 0) (j%64)=data.getD j 0)(hle:off+k<=data.length)(h:pos off k i<off+k) :
  (data.drop off).take (pos off k (i+1) - off)=(data.drop off).take (pos off k i - off)++oZ B (ao.getD (off / 64+i) 0) (pos off k i%64) (pos off k (i+1) - pos off k i):=by
 have h1:=iQ h
 have h2:=gK h
 have h3:=iM off k i
 have e1:pos off k (i+1) - off=(pos off k i - off)+(pos off k (i+1) - pos off k i):=by omega
 rw [e1,List.take_add,List.drop_drop,show off+(pos off k i - off)=pos off k i by omega,lf data (pos off k i) (pos off k (i+1) - pos off k i) (by omega)];congr 1
 refine List.map_congr_left λx hx=>?_
 have hx2:x<pos off k (i+1) - pos off k i:=by simpa using hx
 have:=hb (pos off k i+x) (by omega)
 rw [<-this,<-h1];congr 2
 ·omega
 ·omega
theorem EB {ao data:List Nat}{off k i:Nat}(hl:ao.length=aU data.length)(hle:off+k<=data.length)(h:pos off k i<off+k):off / 64+i<ao.length:=by
 have h1:=iQ h
 have h2:=iM off k i
 unfold aU at hl;omega
theorem rO {w:World}{base cap c:Nat}{a:Option Addr}{ao:List Nat}{off k i:Nat}(h:w.ownsRow base 343 3 (.slice a c cap) c (zc ao off k c))(hi:i<c) :
  ∃gp,a=some ⟨gp,0,none⟩/\base<=gp/\gp<w.heap.size/\w.cell? ⟨gp,i*3,none⟩=some (.int .i64 ((ao.getD (off / 64+i) 0:Nat):Int))/\w.cell? ⟨gp,i*3+1,none⟩=some (.int .i64 ((pos off k i%64:Nat):Int))/\w.cell? ⟨gp,i*3+2,none⟩=some (.int .i64 ((pos off k (i+1) - pos off k i:Nat):Int)):=by
 rcases h.2 with ⟨h1,hn⟩|⟨g,cp,cur,hv,hg,hh,_⟩
 ·omega
 ·simp only [Value.slice.injEq] at hv
  obtain⟨rfl,_,rfl⟩:=hv
  have hc:∀j u,(zc ao off k c)[j]?=some u->w.cell? ⟨g,j,none⟩=some u:=λj u hu=>by
   have:=h.cells (g:=g) rfl j u hu
   rwa [aQ] at this
  have e0:i*3=3*i:=by omega
  rw [e0];refine⟨g,rfl,hg,(Array.getElem?_eq_some_iff.1 hh).1,hc _ _ ?_,hc _ _ ?_,hc _ _ ?_⟩
  ·exact kJ ao off k 0 (by omega) c i hi
  ·exact kJ ao off k 1 (by omega) c i hi
  ·exact kJ ao off k 2 (by omega) c i hi
theorem sS (s g pb m n room:Nat)(nx:Int)(t:Nat->Bool)(B:Nat->Nat->Nat)(Os:List Ob)(id off k:Int)(w:World)(h:eD w s g pb m n room nx t B Os)(hi:-9223372036854775808<=id/\id<9223372036854775808)(ho:fq Os id=none) :
  Calls Tryz.prog 187 #[.pointer (some ⟨s,0,none⟩),.int .i64 id,.int .i64 off,.int .i64 k] w λe w'=>e=.returned (.tuple #[.slice none 0 0,.int .i64 20])/\Below w.heap.size w w':=by
 have hz:=aO bW
 have H:=ab h
 clear h;go_enter Tryz.func187,Tryz.ntmps187
 go_wp2_with (first|(go_at_call 266;refine (mr s g pb m n room nx t B Os id off k _ H.out hi ho).mono ?_;rintro e w1 ⟨rfl,hb⟩;have HB:=ab hb;clear hb))
 exact bodyPost_ret (v:=.tuple #[.slice none 0 0,.int .i64 20]) (by simp [results,Tryz.results187,go_sem]) rfl ⟨rfl,aa HB.out (ae _ _)⟩
theorem vY (s g pb m n room:Nat)(nx:Int)(t:Nat->Bool)(B:Nat->Nat->Nat)(Os:List Ob)(id off k:Int)(o:Ob)(w:World)(h:eD w s g pb m n room nx t B Os)(hi:-9223372036854775808<=id/\id<9223372036854775808)(ho:fq Os id=some o)(hb:¬kA o off k) :
  Calls Tryz.prog 187 #[.pointer (some ⟨s,0,none⟩),.int .i64 id,.int .i64 off,.int .i64 k] w λe w'=>e=.returned (.tuple #[.slice none 0 0,.int .i64 5])/\Below w.heap.size w w':=by
 have hz:=aO bW
 have H:=ab h
 clear h;go_enter Tryz.func187,Tryz.ntmps187
 go_wp2_with (first|(go_at_call 266;refine (ny s g pb m n room nx t B Os id off k o _ H.out hi ho hb).mono ?_;rintro e w1 ⟨rfl,hb⟩;have HB:=ab hb;clear hb))
 exact bodyPost_ret (v:=.tuple #[.slice none 0 0,.int .i64 5]) (by simp [results,Tryz.results187,go_sem]) rfl ⟨rfl,aa HB.out (ae _ _)⟩
theorem ns (k:Nat)(hk:k<=140737488355328):∃Z:Array Value,Z.size=k/\∀W:World,(Instr.makeSlice 38 (.int .i64 0) (.int .i64 (k:Int))).run Tryz.prog W=.ok (.slice (some ⟨W.heap.size,0,none⟩) 0 k) (W.alloc (.cells Z 5)):=by
 obtain⟨i,hi,hz0,hz1,hz2⟩:=info_parts jr
 refine⟨madeCells (Value.int .u8 0).cells k,size_madeCells _ _,λW=>?_⟩
 have hr:=run_make (P:=Tryz.prog) W 38 5 i _ Tryz.underlying38 hi hz0 .i64 .i64 0 (k:Int) (Int.le_refl _) (by omega) (by rw [hz2];omega) (by omega)
 simp only [Int.toNat_natCast,hz1,Nat.mul_one,Int.toNat_zero] at hr;exact hr
theorem tC {b o k:Nat}(h:aJ (some ⟨b,o,none⟩) k):k=b:=by
 obtain⟨x,hx,rfl⟩:=h
 cases hx
 rfl
def Jl (w4:World)(b0 off k:Nat)(data:List Nat)(v12 v35:Value)(w':World):Prop :=
 ∃(i m cap:Nat) (a:Option Addr),v12=.slice a m cap/\v35=.int .i64 (i:Int)/\m=pos off k i - off/\i<=pG off k/\Own w' b0 5 a m cap (bG ((data.drop off).take m))/\(∀j,aJ a j->j=b0\/w4.heap.size<=j)/\ah (·=b0) w4 w'
theorem Am (s g pb m n room:Nat)(nx:Int)(t:Nat->Bool)(B:Nat->Nat->Nat)(Os:List Ob)(id:Int)(off k:Nat)(o:Ob)(w:World)(h:eD w s g pb m n room nx t B Os)(hi:-9223372036854775808<=id/\id<9223372036854775808)(ho:fq Os id=some o)(hle:off+k<=o.data.length)(hk:k<=1024) :
  Calls Tryz.prog 187 #[.pointer (some ⟨s,0,none⟩),.int .i64 id,.int .i64 (off:Int),.int .i64 (k:Int)] w λe w'=>∃a cap,e=.returned (.tuple #[.slice a k cap,.int .i64 0])/\Own w' w.heap.size 5 a k cap (bG ((o.data.drop off).take k))/\Below w.heap.size w w':=by
 have hz:=aO bW
 have hz75:=aO oz
 have hmem:=(at_mem ho).1
 have hbig:=h.eI o hmem
 have Qi:=ab (h.rows o hmem)
 have Rj:=ab (h.len o hmem)
 have UP:=ab (h.bytes o hmem)
 have Uq:Hid (∀p∈o.ao,t p=true):=ab (λp hp=>(h.mem hmem hp).1)
 have H:=ab h
 have Uz:Hid (kA o (off:Int) (k:Int)):=ab (by unfold kA;omega)
 have hsl:=World.block_lt_of_cell? _ _ h.c0.1
 have hgl:=h.pD.B9
 have hpl:=h.pD.lt
 obtain⟨sz,hsz⟩:∃sz,sz=o.data.length:=⟨_,rfl⟩
 obtain⟨PN,hPN⟩:∃PN,PN=o.ao.length:=⟨_,rfl⟩
 have hP64:off+k<=64*o.ao.length:=by have:=Rj.out;unfold aU at this;omega
 have RL:=ab hP64
 obtain⟨Z,hZs,hmk⟩:=ns k (by omega)
 have QW:=ab hZs
 have Sf:=ab hle
 have hb4:off+k<=4096:=by omega
 clear h hP64 hZs hle;go_enter Tryz.func187,Tryz.ntmps187
 go_upto_region 5 with (first|(go_at_call 266;refine (pW s g pb m n room nx t B Os id (off:Int) (k:Int) o _ H.out hi ho Uz.out).mono ?_;rintro e w1 ⟨rfl,hb⟩;have HB:=ab hb;clear hb))
 have hw1:=HB.out.size
 obtain⟨w3,hw3⟩:∃w3,w3=(w1.alloc (Obj.cells #[Value.int .i64 (o.data.length:Int),Value.slice o.jU o.ao.length o.ao.length] 276)).alloc (Obj.cells Z 5):=⟨_,rfl⟩
 have PE:Hid (Below w.heap.size w w3):=ab (by rw [hw3];exact aa HB.out (aC _ _ _))
 have QS:Hid (w3.heap.size=w1.heap.size+2):=ab (by rw [hw3];simp)
 have Tw:Hid (Own w3 (w1.heap.size+1) 5 (some ⟨w1.heap.size+1,0,none⟩) 0 k []):=ab (by
  have:=World.ownsRow_made (base:=w1.heap.size+1) (size:=1) (e:=5) (w1.alloc (Obj.cells #[Value.int .i64 (o.data.length:Int),Value.slice o.jU o.ao.length o.ao.length] 276)) Z k (by simp) (by unfold maxLen;omega) (by rw [QW.out];omega)
  rw [World.size_alloc] at this;rw [hw3];exact⟨this,λ_ h=>(by cases h)⟩)
 have x10a:w3.cell? ⟨w1.heap.size,0,none⟩=some (.int .i64 (o.data.length:Int)):=by rw [hw3];exact cell_later (ae _ _) (aH _ _ _ 0 _ rfl).1
 have x10b:w3.cell? ⟨w1.heap.size,1,none⟩=some (.slice o.jU o.ao.length o.ao.length):=by rw [hw3];exact cell_later (ae _ _) (aH _ _ _ 1 _ rfl).1
 rw [<-hw3];obtain⟨b0,hb0⟩:∃b0,b0=w1.heap.size+1:=⟨_,rfl⟩
 rw [<-hb0] at Tw;rw [<-hb0];have PL:=ab hb0
 clear hw3 hmk hb0 hz;go_upto_region 6 with (first|(go_at_call 267;refine (lN (o.data.length:Int) o.jU o.ao off k _ (Qi.out.later PE.out) RL.out hb4).mono ?_;rintro e w4 ⟨ap,capp,rfl,OP,hb⟩;have Th:=ab OP;have PM:=ab hb;clear OP hb))
 clear x10a x10b;have W8:=ab ((H.out.pD.later PE.out).later PM.out)
 have Q0:=ab (cell_later PM.out (cell_later PE.out H.out.c0.1))
 obtain⟨c,hc⟩:∃c,c=pG off k:=⟨_,rfl⟩
 rw [<-hc] at Th;rw [<-hc];have RF:=ab hc
 have hc64:c<=4096:=by rw [hc];unfold pG;split<;>omega
 clear hc;go_loopw [12,35] (Jl w4 b0 off k o.data) (λ_ v _=>c - fe v)
 case atStart =>
  refine⟨0,0,k,_,rfl,rfl,by rw [gC];omega,Nat.zero_le _,Tw.out.later PM.out,λj hj=>.inl (tC hj),ah.refl _ _⟩
 case round =>
  obtain⟨i,l,cap,a,rfl,rfl,hl,hin,hO,hBl,hBt⟩:=hrel
  have HL:=ab hl
  have HO:=ab hO
  have P3:=ab hBl
  have PH:=ab hBt
  have S4:=ab hin
  clear hl hO hBl hBt hin;have hb0n:b0≠s/\b0≠g/\b0≠pb:=by have:=PL.out;omega
  obtain⟨hn1,hn2,hn3⟩:=hb0n
  have HA:=ab (W8.out.but PH.out (Ne.symm hn2) (Ne.symm hn3))
  have xs:=ag PH.out Q0.out (Ne.symm hn1)
  by_cases hlt:i<c
  ·have hd:decide ((i:Int)<(c:Int))=true:=decide_eq_true (by omega)
   have hpi:pos off k i<off+k:=(iY off k i).1 (by have:=RF.out;omega)
   obtain⟨gp,rfl,hg1,hg2,y0,y1,y2⟩:=rO Th.out hlt
   have hgb:gp≠b0:=by have:=PL.out;have:=QS.out;omega
   replace y0:=ag PH.out y0 hgb
   replace y1:=ag PH.out y1 hgb
   replace y2:=ag PH.out y2 hgb
   have hql:=EB Rj.out Sf.out hpi
   have RO:=ab (zq UP.out Sf.out hpi)
   have hnx:=gK hpi
   have hpl2:=iM off k i
   obtain⟨pg,hpg⟩:∃pg,pg=o.ao.getD (off / 64+i) 0:=⟨_,rfl⟩
   obtain⟨st,hst⟩:∃st,st=pos off k i%64:=⟨_,rfl⟩
   obtain⟨f,hf⟩:∃f,f=pos off k (i+1) - pos off k i:=⟨_,rfl⟩
   have HT:Hid (t pg=true):=ab (Uq.out pg (by rw [hpg,List.getD_eq_getElem?_getD,List.getElem?_eq_getElem hql];exact List.getElem_mem _))
   have hsf:st+f<=64:=by omega
   rw [<-hpg,<-hst,<-hf] at RO;rw [<-hpg] at y0;rw [<-hst] at y1;rw [<-hf] at y2;have SX:Hid (pos off k (i+1) - off=l+f):=ab (by have:=HL.out;omega)
   have hlf:l+f<=4096:=by have:=SX.out;have:=iM off k (i+1);omega
   clear hpg hst hf hnx hpl2 hpi hql;go_upto_region 8 with fail
   obtain⟨w5,hw5⟩:∃w5,w5=wr.alloc (Obj.cells #[Value.int .i64 (pg:Int),Value.int .i64 (st:Int),Value.int .i64 (f:Int)] 343):=⟨_,rfl⟩
   have PI:Hid (Below wr.heap.size wr w5):=ab (by rw [hw5];exact ae _ _)
   have HS:Hid (∀W,Below w5.heap.size w5 W->(W.cell? ⟨s,0,none⟩=some (.pointer (some ⟨g,0,none⟩))/\W.cell? ⟨wr.heap.size,0,none⟩=some (.int .i64 (pg:Int))/\W.cell? ⟨wr.heap.size,1,none⟩=some (.int .i64 (st:Int))/\W.cell? ⟨wr.heap.size,2,none⟩=some (.int .i64 (f:Int)))/\Below w5.heap.size w5 W):=ab (by
    intro W hW;refine⟨⟨cell_later hW (cell_later PI.out xs),?_,?_,?_⟩,hW⟩<;>refine cell_later hW ?_<;>rw [hw5]
    ·exact (aH _ _ _ 0 _ rfl).1
    ·exact (aH _ _ _ 1 _ rfl).1
    ·exact (aH _ _ _ 2 _ rfl).1)
   rw [<-hw5];have Uj:=ab (HA.out.later PI.out)
   clear hw5 y0 y1 y2 xs;go_region_held3 (λW=>(W.cell? ⟨s,0,none⟩=some (.pointer (some ⟨g,0,none⟩))/\W.cell? ⟨wr.heap.size,0,none⟩=some (.int .i64 (pg:Int))/\W.cell? ⟨wr.heap.size,1,none⟩=some (.int .i64 (st:Int))/\W.cell? ⟨wr.heap.size,2,none⟩=some (.int .i64 (f:Int)))/\Below w5.heap.size w5 W) (first|exact HS.out _ (Below.refl _ _).drew|exact HS.out _ hb2.out) (first|(go_at_call 268;refine (py g pb n t B pg st f _ (Uj.out.later (Below.refl _ _).drew) HT.out hsf).mono ?_;rintro e w6 ⟨a6,rfl,A6,hb6⟩;have hb2:=ab (aa (Below.refl w5.heap.size w5).drew hb6)))
   have P7:=ab (aa PI.out hb2.out)
   obtain⟨a',cap',w7,hrun,hO7,hG⟩:=fL (HO.out.later P7.out) A6.row (by have:=P7.out.size;have:=PH.out.size;have:=PM.out.size;have:=QS.out;have:=PL.out;omega) (by omega)
   have PD:=ab hrun
   have Rf:=ab hO7
   have HG:=ab hG
   clear hrun hO7 hG A6 hb6;go_wp2_with (first|(at_builtin;refine al rfl _ _ 38 rfl _ _ rfl rfl _ w7 PD.out ?_))
   have hBt6:=PH.out.call P7.out
   refine⟨⟨i+1,l+f,cap',a',rfl,rfl,SX.out.symm,by have:=RF.out;omega,?_,λj hj=>?_,hBt6.comp HG.out.but (λj hj=>?_)⟩,by simp [fe];omega⟩
   ·have e:(o.data.drop off).take (l+f)=(o.data.drop off).take l++oZ B pg st f:=by
     have:=RO.out
     rw [SX.out,<-HL.out] at this;exact this
    rw [e,fE];exact Rf.out
   ·rcases HG.out.on j hj with h1|h1
    ·exact P3.out j h1
    ·exact .inr (Nat.le_trans hBt6.size h1)
   ·exact P3.out j hj
  ·obtain rfl:i=c:=by have:=S4.out;have:=RF.out;omega
   have hd:decide ((i:Int)<(i:Int))=false:=by simp
   have WU:Hid (l=k):=ab (by
    have h1:=HL.out
    rw [RF.out,uS] at h1;omega)
   clear xs;go_wp2;have hlk:=WU.out
   subst hlk;have hw:Below w.heap.size w wr:=ah.below (S:=(·=b0)) (aa PE.out PM.out) PH.out (λj hj=>by have:=PL.out;omega)
   refine bodyPost_ret (v:=.tuple #[.slice a l cap,.int .i64 0]) (by simp [results,Tryz.results187,go_sem]) rfl ⟨a,cap,rfl,HO.out.mono (by have:=PL.out;omega),hw⟩
end Go.Proofs.YtffmodpgddecnaaGreatDoor.S
