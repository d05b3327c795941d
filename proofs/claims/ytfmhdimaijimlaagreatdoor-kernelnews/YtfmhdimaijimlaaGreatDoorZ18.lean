import Derived.Test.YtfmhdimaijimlaaGreatDoorZ07
import Derived.Stop.BytesEq
import Derived.Lib.SliceRun
set_option linter.all false
set_option maxRecDepth 1000000
set_option maxHeartbeats 8000000
open Go.Proofs.Tryz
variable {w w' w1 w2:Go.World}{n m k i j b g base kn:Nat}{a:Option Go.Addr}
namespace Go.Proofs.YtfmhdimaijimlaaGreatDoor.S
open Go.RowKit
theorem jb:(prog.info? 5).map (λi=>(i.zero,i.size,i.bytes))=some (some (.int .u8 0),1,1):=by kernel_rfl
def aM (l:List Nat):List Value:=l.map λ(n:Nat)=>Value.int .u8 (n:Int)
theorem ax (l:List Nat):(aM l).length=l.length:=by simp [aM]
theorem fv (l m:List Nat):aM (l++m)=aM l++aM m:=by simp [aM]
theorem fB (l:List Nat):∀u∈aM l,u.oneCell'=true:=by
 intro u hu
 simp only [aM,List.mem_map] at hu
 obtain⟨n,_,rfl⟩:=hu
 rfl
theorem fI {cap:Nat}{L:List Value}{b:Option Addr}{c:Nat}{M:List Value}(h:Own w base 5 a n cap L)(k:Row w b m c M)(hb:base<=w.heap.size)(hr:n+m<=140737488355328) :
  ∃a' cap' w',(Builtin.append_ #[39,39] 39 #[.slice a n cap,.slice b m c]).run prog w=.ok (.slice a' (n+m) cap') w'/\Own w' base 5 a' (n+m) cap' (L++M)/\Gr a a' w w' :=
 lr 39 5 _ 1 underlying39 jb rfl h k hb (by omega) hr
structure cZ (w:World)(g pb n:Nat)(t:Nat->Bool)(B:Nat->Nat->Nat):Prop where
 ne:g≠pb
 le:n<=256
 head:w.cell? ⟨g,0,none⟩=some (.slice (some ⟨pb,0,none⟩) n n)
 mark:∀i,i<256->aq w ⟨g,1+i,none⟩ (.bool (t i))
 kG:∀i j,i<n->j<64->aq w ⟨pb,i*64+j,none⟩ (.int .u8 ((B i j:Nat):Int))
 lt:pb<w.heap.size
 only:∀i,t i=true->i<n
 zero:∀i j,t i=false->B i j=0
 small:∀i j,B i j<256
theorem cZ.but {S:Nat->Prop}{pb:Nat}{t:Nat->Bool}{B:Nat->Nat->Nat}(hb:ae S w w')(h:cZ w g pb n t B)(h1:¬S g)(h2:¬S pb):cZ w' g pb n t B :=
 ⟨h.ne,h.le,aC hb h.head h1,λi hi=>(h.mark i hi).but hb h1,λi j hi hj=>(h.kG i j hi hj).but hb h2,Nat.lt_of_lt_of_le h.lt hb.size,h.only,h.zero,h.small⟩
theorem cZ.later {pb:Nat}{t:Nat->Bool}{B:Nat->Nat->Nat}(hb:Below w.heap.size w w')(h:cZ w g pb n t B):cZ w' g pb n t B :=
 h.but (S:=λ_=>False) (ae.of hb) (λh=>h) (λh=>h)
theorem cZ.CH {pb:Nat}{t:Nat->Bool}{B:Nat->Nat->Nat}(h:cZ w g pb n t B):g<w.heap.size:=World.block_lt_of_cell? _ _ h.head
theorem DT:(prog.info? 230).map (λi=>(i.zero,i.size,i.bytes))=some (some (.agg (#[.slice none 0 0]++Array.replicate 256 (.bool false))),257,280):=by kernel_rfl
theorem aG {t:TypeId}{z:Value}{s:Nat}(h:(prog.info? t).map (λi=>(i.zero,i.size,i.bytes))=some (some z,s,b))(w:World):(zeroValue t).run prog w=.ok z w:=by
 obtain⟨i,hi,hz0,hz1,hz2⟩:=info_parts h
 simp [zeroValue,typeInfo,hi,hz0]
theorem DR:∃Z:Array Value,(∀w,(zeroValue 230).run prog w=.ok (.agg Z) w)/\Z.size=257/\∀i,i<256->Z[1+i]?=some (.bool false) :=
 ⟨_,aG DT,by simp,λi hi=>by
  rw [Array.getElem?_append_right (by simp)]
  simp [hi]⟩
theorem oS:(prog.info? 297).map (λi=>(i.zero,i.size,i.bytes))=some (some (.agg (Array.replicate 64 (.int .u8 0))),64,64):=by kernel_rfl
theorem td (w:World)(n:Nat)(hn:n<=256):∃w',(Instr.makeSlice 226 (.int .i64 (n:Int)) (.int .i64 (n:Int))).run prog w=.ok (.slice (some ⟨w.heap.size,0,none⟩) n n) w' /\
  (∀j,j<n*64->aq w' ⟨w.heap.size,j,none⟩ (.int .u8 0))/\w.heap.size<w'.heap.size/\Below w.heap.size w w':=by
 obtain⟨i,hi,hz0,hz1,hz2⟩:=info_parts oS
 obtain⟨w',hr,ho,hg⟩:=run_make_full (P:=prog) w w.heap.size 226 297 i _ 64 underlying226 hi hz0 hz1 .i64 .i64 n (by rw [hz2];omega) (by unfold maxLen;omega) (Nat.le_refl _)
 rcases ho.2 with ⟨h0,_⟩|⟨g,c,cur,hv,hg2,hh,hc,hm,hsz,htk⟩
 ·simp at h0
 ·simp only [Value.slice.injEq,Option.some.injEq,Addr.mk.injEq] at hv
  obtain⟨⟨rfl,_⟩,_,rfl⟩:=hv
  refine⟨w',hr,λj hj=>⟨?_,by simp [World.frozen?,hh]⟩,(Array.getElem?_eq_some_iff.1 hh).1,(Below.refl _ _).grown hg (Nat.le_refl _) (λk hk=>by cases hk)⟩
  have hq:=ho.cells (g:=w.heap.size) rfl j (.int .u8 0) (by
   simp only [madeCells,Array.getElem?_toList,Value.cells]
   simp [hj,Nat.mod_lt])
  rwa [nj] at hq
theorem bE (n:Nat)(w:World)(hn:n<=256) :
  Calls prog 84 #[.int .i64 (n:Int)] w λe w'=>∃g pb,e=.returned (.tuple #[.pointer (some ⟨g,0,none⟩),.int .i64 0])/\cZ w' g pb n (λ_=>false) (λ_ _=>0)/\w.heap.size<=g/\w.heap.size<=pb/\Below w.heap.size w w':=by
 obtain⟨w1,hmk,hl,hlt,hb⟩:=td w n hn
 obtain⟨Z,hz,hZs,hZi⟩:=DR
 have hZ0:(Z=#[])=False:=eq_false (λh=>by rw [h] at hZs;simp at hZs)
 have hd1:decide ((n:Int)<0)=false:=dF (by omega)
 have hd2:decide ((n:Int)>256)=false:=dF (by omega)
 have HL:Hid (∀j,j<n*64->aq w1 ⟨w.heap.size,j,none⟩ (.int .u8 0)):=hl
 have HB:Hid (Below w.heap.size w w1):=hb
 have HZ:Hid (Z.size=257/\∀i,i<256->Z[1+i]?=some (.bool false)):=⟨hZs,hZi⟩
 clear hl hb hZs hZi
 go_enter func84,ntmps84
 go_wp2
 obtain⟨hZs,hZi⟩:=HZ.o
 have hb2:=ab w1 (.cells (Z.setIfInBounds 0 (Value.slice (some ⟨w.heap.size,0,none⟩) n n)) 230)
 have hh:=heap_alloc_new w1 (.cells (Z.setIfInBounds 0 (Value.slice (some ⟨w.heap.size,0,none⟩) n n)) 230)
 refine bodyPost_ret (v:=.tuple #[.pointer (some ⟨w1.heap.size,0,none⟩),.int .i64 0]) (by simp [results,results84,go_sem]) rfl ⟨_,w.heap.size,rfl,⟨by omega,hn,?_,λi hi=>⟨?_,?_⟩,λi j hi hj=>?_,(by simp;omega),λ_ h=>(by cases h),λ_ _ _=>rfl,λ_ _=>(by omega)⟩,by omega,Nat.le_refl _,al HB.o hb2⟩
 ·rw [cell_of_row _ _ _ _ _ _ hh]
  simp [hZs]
 ·rw [cell_of_row _ _ _ _ _ _ hh,Array.getElem?_setIfInBounds_ne (by omega)]
  exact hZi i hi
 ·simp only [World.frozen?,hh]
  simp
 ·exact (HL.o (i*64+j) (by omega)).later hb2
def uE (n:Nat)(p:Int):Bool:=decide (0<=p/\p<(n:Int))
theorem bY (g pb n:Nat)(p:Int)(w:World)(x:w.cell? ⟨g,0,none⟩=some (.slice (some ⟨pb,0,none⟩) n n)) :
  Calls prog 237 #[.pointer (some ⟨g,0,none⟩),.int .i64 p] w λe w'=>e=.returned (.bool (uE n p))/\w'=w:=by
 unfold uE
 by_cases h0:0<=p
 ·have hd:decide (0<=p/\p<(n:Int))=decide (p<(n:Int)):=by simp [h0]
  have hg:decide (p>=0)=true:=dT h0
  go_enter func237,ntmps237
  go_wp2
  go_ret
  exact⟨cW hd.symm,rfl⟩
 ·have hd:decide (0<=p/\p<(n:Int))=false:=by simp [h0]
  have hg:decide (p>=0)=false:=dF h0
  go_enter func237,ntmps237
  go_wp2
  go_ret
  exact⟨rfl,rfl⟩
def fx (n:Nat)(t:Nat->Bool)(b:Bool):List Nat:=(List.range n).filter λi=>t i==b
def cX (l:List Nat):List Int:=l.map λ(k:Nat)=>(k:Int)
theorem gM (l:List Nat):(cX l).length=l.length:=by simp [cX]
theorem rk (l m:List Nat):cX (l++m)=cX l++cX m:=by simp [cX]
theorem jk (n:Nat)(t:Nat->Bool)(b:Bool):fx (n+1) t b=fx n t b++(if t n==b then [n] else []):=by
 simp only [fx,List.range_succ,List.filter_append]
 congr 1
 by_cases h:t n==b<;>simp [h]
theorem sE (n:Nat)(t:Nat->Bool)(b:Bool):(fx n t b).length<=n:=by
 have:=List.length_filter_le (λi=>t i==b) (List.range n)
 simpa [fx] using this
theorem oU {t:Nat->Bool}{b:Bool}:i∈fx n t b↔i<n/\t i=b:=by simp [fx]
def DP (w:World)(n:Nat)(t:Nat->Bool)(b:Bool)(v k:Value)(w':World):Prop :=
 ∃(i:Nat) (a:Option Addr) (m cap:Nat),v=.slice a m cap/\k=.int .i64 (i:Int)/\i<=n/\m<=i/\Own w' w.heap.size 3 a m cap (ints (cX (fx i t b)))/\Below w.heap.size w w'
theorem mJ (g pb n:Nat)(t:Nat->Bool)(B:Nat->Nat->Nat)(b:Bool)(w:World)(h:cZ w g pb n t B) :
  Calls prog 195 #[.pointer (some ⟨g,0,none⟩),.bool b] w λe w'=>∃a m cap,e=.returned (.slice a m cap)/\Own w' w.heap.size 3 a m cap (ints (cX (fx n t b)))/\Below w.heap.size w w':=by
 have x:=h.head
 have HA:Hid (cZ w g pb n t B):=h
 have hn:=h.le
 clear h
 go_enter func195,ntmps195
 go_wp2
 go_loopw [5,12] (DP w n t b) (λ_ k _=>n - (intOf k).toNat)
 case atStart=>exact⟨0,none,0,0,rfl,rfl,Nat.zero_le _,Nat.le_refl _,Own.nil _ _ _,Below.refl _ _⟩
 case round =>
  clear x
  obtain⟨i,a,m,cap,rfl,rfl,hi,hm,hO,hB⟩:=hrel
  have HO:Hid (Own wr w.heap.size 3 a m cap (ints (cX (fx i t b)))):=hO
  have HB:Hid (Below w.heap.size w wr):=hB
  clear hO hB
  by_cases hlt:i<n
  ·have hd:decide ((i:Int)<(n:Int))=true:=dT (by omega)
   have y:=((HA.o.later HB.o).mark i (by omega)).1
   cases he:(t i==b) with
   | true =>
    obtain⟨a',cap',w2,hrun,hO2,hG⟩:=dE (HO.o.alloc (Obj.cells #[Value.int .i64 (i:Int)] 3)) (Row.single wr 3 (.int .i64 (i:Int)) rfl) (by have:=HB.o.size;simp;omega) (by omega)
    have HRUN:=aa hrun
    have hB2:Below w.heap.size w w2:=(HB.o.alloc HB.o.size _).trans (Gr.below (HO.o.alloc _) hG (by have:=HB.o.size;simp;omega))
    have HO2:Hid (Own w2 w.heap.size 3 a' (m+1) cap' (ints (cX (fx (i+1) t b)))):=by
     rw [jk,he,rk,bf]
     exact hO2
    have HB2:=aa hB2
    clear hrun hO2 hG hB2
    go_wp2_with (first|(at_builtin;refine kt rfl _ _ 43 rfl _ _ rfl rfl _ w2 HRUN.o ?_))
    exact⟨⟨i+1,a',m+1,cap',rfl,rfl,by omega,by omega,HO2.o,HB2.o⟩,by simp [intOf];omega⟩
   | false =>
    have HO2:Hid (Own wr w.heap.size 3 a m cap (ints (cX (fx (i+1) t b)))):=by
     refine aa ?_
     rw [jk,he]
     simpa using HO.o
    go_wp2
    exact⟨⟨i+1,a,m,cap,rfl,rfl,by omega,by omega,HO2.o,HB.o⟩,by simp [intOf];omega⟩
  ·obtain rfl:i=n:=by omega
   have hd:decide ((i:Int)<(i:Int))=false:=by simp
   go_wp2
   go_ret
   exact⟨a,m,cap,rfl,HO.o,HB.o⟩
theorem zq (g pb n:Nat)(t:Nat->Bool)(B:Nat->Nat->Nat)(w:World)(h:cZ w g pb n t B) :
  Calls prog 189 #[.pointer (some ⟨g,0,none⟩)] w λe w'=>e=.returned (.int .i64 ((fx n t false).length:Int))/\Below w.heap.size w w':=by
 have H:=aa h
 clear h
 go_enter func189,ntmps189
 go_wp2_with (first|(go_at_call 195;refine (mJ g pb n t B false _ H.o).mono ?_;rintro e w1 ⟨a,m,cap,rfl,O,hb⟩))
 go_ret
 have hl:=O.len
 rw [qt,gM] at hl
 exact⟨aL (by rw [hl]),hb⟩
def ki (n:Nat)(t:Nat->Bool)(p off m:Int):Int:=if uE n p=true/\t p.toNat=true then (if 0<=off/\0<=m/\m<=64 - off then 0 else 5) else 20
theorem jq (g pb n:Nat)(t:Nat->Bool)(B:Nat->Nat->Nat)(p off m:Int)(w:World)(h:cZ w g pb n t B)(ho:-9223372036854775808<=off/\off<9223372036854775808) :
  Calls prog 207 #[.pointer (some ⟨g,0,none⟩),.int .i64 p,.int .i64 off,.int .i64 m] w λe w'=>e=.returned (.int .i64 (ki n t p off m))/\w'=w:=by
 have x:=h.head
 have H:=aa h
 have hn:=h.le
 clear h
 have HW:Hid (0<=off->IntKind.i64.wrap (64 - off)=64 - off):=aa (λh=>by rw [IntKind.wrap_i64];omega)
 obtain⟨E,hE⟩:∃E,E=ki n t p off m:=⟨_,rfl⟩
 rw [<-hE]
 have HE:=aa hE
 clear hE
 cases hth:uE n p with
 | false =>
  go_enter func207,ntmps207
  go_wp2_with (first|(go_at_call 237;refine (bY g pb n p _ x).mono ?_;rintro e w1 ⟨rfl,rfl⟩;rw [hth]))
  go_ret
  exact⟨aL (by rw [HE.o];simp [ki,hth]),rfl⟩
 | true =>
  obtain⟨q,rfl⟩:∃q:Nat,p=(q:Int):=⟨p.toNat,by simp [uE] at hth;omega⟩
  have hq:q<n:=by simp [uE] at hth;omega
  have y:=(H.o.mark q (by omega)).1
  cases htq:t q with
  | false =>
   rw [htq] at y
   go_enter func207,ntmps207
   go_wp2_with (first|(go_at_call 237;refine (bY g pb n (q:Int) _ x).mono ?_;rintro e w1 ⟨rfl,rfl⟩;rw [hth]))
   go_ret
   exact⟨aL (by rw [HE.o];simp [ki,htq]),rfl⟩
  | true =>
   rw [htq] at y
   have e1:ki n t (q:Int) off m=if 0<=off/\0<=m/\m<=64 - off then 0 else 5:=by simp [ki,hth,htq]
   rw [e1] at HE
   clear e1 ho
   by_cases h0:off<0
   ·have hd0:decide (off<0)=true:=dT h0
    go_enter func207,ntmps207
    go_wp2_with (first|(go_at_call 237;refine (bY g pb n (q:Int) _ x).mono ?_;rintro e w1 ⟨rfl,rfl⟩;rw [hth]))
    go_ret
    exact⟨aL (by rw [HE.o,if_neg (by omega)]),rfl⟩
   ·have hd0:decide (off<0)=false:=dF h0
    by_cases h1:m<0
    ·have hd1:decide (m<0)=true:=dT h1
     go_enter func207,ntmps207
     go_wp2_with (first|(go_at_call 237;refine (bY g pb n (q:Int) _ x).mono ?_;rintro e w1 ⟨rfl,rfl⟩;rw [hth]))
     go_ret
     exact⟨aL (by rw [HE.o,if_neg (by omega)]),rfl⟩
    ·have hd1:decide (m<0)=false:=dF h1
     have ew:IntKind.i64.wrap (64 - off)=64 - off:=HW.o (by omega)
     by_cases h2:m>64 - off
     ·have hd2:decide (m>64 - off)=true:=dT h2
      go_enter func207,ntmps207
      go_wp2_with (first|(go_at_call 237;refine (bY g pb n (q:Int) _ x).mono ?_;rintro e w1 ⟨rfl,rfl⟩;rw [hth]))
      go_ret
      exact⟨aL (by rw [HE.o,if_neg (by omega)]),rfl⟩
     ·have hd2:decide (m>64 - off)=false:=dF h2
      go_enter func207,ntmps207
      go_wp2_with (first|(go_at_call 237;refine (bY g pb n (q:Int) _ x).mono ?_;rintro e w1 ⟨rfl,rfl⟩;rw [hth]))
      go_ret
      exact⟨aL (by rw [HE.o,if_pos (by omega)]),rfl⟩
def zF (w:World)(a:Option Addr):Prop:=∀x,a=some x->∀j,w.frozen? ⟨x.block,j,none⟩=false
theorem _root_.Go.Proofs.YtfmhdimaijimlaaGreatDoor.Own.soft {e:TypeId}{cap:Nat}{L:List Value}(h:Own w base e a n cap L):zF w a:=by
 intro x hx j
 rcases h.row.2 with ⟨h1,hn⟩|⟨g,c,cur,hv,_,hh,hc,_⟩
 ·subst hx;simp at h1
 ·subst hx
  simp only [Value.slice.injEq,Option.some.injEq] at hv
  obtain⟨rfl,_,rfl⟩:=hv
  simp [World.frozen?,hh]
theorem zF.but {S:Nat->Prop}(hb:ae S w w')(h:zF w a)(hl:∀k,aD a k->k<w.heap.size)(hn:∀k,aD a k->¬S k):zF w' a:=λx hx j=>by
 have e:w'.frozen? ⟨x.block,j,none⟩=w.frozen? ⟨x.block,j,none⟩:=World.frozen?_of_block (hb.block x.block (hl _ ⟨x,hx,rfl⟩) (hn _ ⟨x,hx,rfl⟩))
 rw [e]
 exact h x hx j
structure su (w:World)(base:Nat)(a:Option Addr)(n cap:Nat)(L:List Value):Prop where
 row:Row w a n cap L
 soft:zF w a
 ge:∀k,aD a k->base<=k
 lt:∀k,aD a k->k<w.heap.size
theorem su.but {S:Nat->Prop}{cap:Nat}{L:List Value}(hb:ae S w w')(h:su w base a n cap L)(hn:∀k,aD a k->¬S k):su w' base a n cap L :=
 ⟨h.row.but hb hn,h.soft.but hb h.lt hn,h.ge,λk hk=>Nat.lt_of_lt_of_le (h.lt k hk) hb.size⟩
theorem _root_.Go.Proofs.YtfmhdimaijimlaaGreatDoor.Own.Kw {e:TypeId}{cap:Nat}{L:List Value}(h:Own w base e a n cap L):su w base a n cap L:=⟨h.read,h.soft,h.bD,h.lt⟩
def tk (t:Nat->Bool)(L:List Nat):Nat->Bool:=λi=>t i||decide (i∈L)
theorem zH (t:Nat->Bool):tk t []=t:=by funext i;simp [tk]
theorem cZ.zb {pb:Nat}{t u:Nat->Bool}{B:Nat->Nat->Nat}{b:Bool}(h:cZ w g pb n t B)(hk:k<n)(hu:∀i,u i=if i=k then b else t i)(hC:∀i j,u i=false->B i j=0) :
  cZ (w.setCell ⟨g,1+k,none⟩ (.bool b)) g pb n u B:=by
 have hn:=h.le
 refine⟨h.ne,h.le,?_,λi hi=>?_,λi j hi hj=>(h.kG i j hi hj).other (λe=>h.ne (congrArg Addr.block e)),by simpa using h.lt,λi hi=>?_,hC,h.small⟩
 ·rw [World.cell?_setCell_other _ _ _ _ (λe=>by have:=congrArg Addr.off e;simp at this)]
  exact h.head
 ·rw [hu i]
  by_cases e:i=k
  ·subst e
   rw [if_pos rfl]
   exact (h.mark i hi).put
  ·rw [if_neg e]
   exact (h.mark i hi).other (λe2=>e (by have:=congrArg Addr.off e2;simp at this;omega))
 ·rw [hu i] at hi
  split at hi
  ·omega
  ·exact h.only i hi
def C0 (w1:World)(g pb n:Nat)(t:Nat->Bool)(B:Nat->Nat->Nat)(K:Nat)(v:Value)(w':World):Prop :=
 ∃i:Nat,v=.int .i64 (i:Int)/\i<=K/\cZ w' g pb n (tk t ((fx n t false).take i)) B/\ae (·=g) w1 w'
theorem iu (L:List Nat)(i:Nat)(h:i<L.length):(ints (cX L))[i]?=some (.int .i64 ((L[i]:Nat):Int)):=by
 rw [ep _ i (by rw [gM];exact h)]
 simp [cX]
theorem Ec (g pb n:Nat)(t:Nat->Bool)(B:Nat->Nat->Nat)(K:Nat)(w:World)(h:cZ w g pb n t B)(hk:K<=(fx n t false).length) :
  Calls prog 154 #[.pointer (some ⟨g,0,none⟩),.int .i64 (K:Int)] w λe w'=>∃a,e=.returned (.tuple #[.slice a K K,.int .i64 0])/\su w' w.heap.size a K K (ints (cX ((fx n t false).take K))) /\
   cZ w' g pb n (tk t ((fx n t false).take K)) B/\ae (·=g) w w':=by
 have hd:decide ((K:Int)<0)=false:=dF (by omega)
 have H:=aa h
 have HK:=aa hk
 have hgl:=h.CH
 have hn:=h.le
 have hK2:K<=256:=Nat.le_trans hk (Nat.le_trans (sE n t false) hn)
 clear h hk
 go_enter func154,ntmps154
 go_upto_region 4 with (first|(go_at_call 195;refine (mJ g pb n t B false _ H.o).mono ?_;rintro e w1 ⟨a,m,cap,rfl,O,hb⟩))
 have hl:=O.len
 rw [qt,gM] at hl
 have hKm:K<=m:=by have:=HK.o;omega
 have hd2:decide ((K:Int)>(m:Int))=false:=dF (by omega)
 have HL:=aa hl
 have HO:=aa O
 have HB:=aa hb
 have hcap:=O.read.cap_
 clear hl O hb
 cases a with
 | none =>
  obtain⟨rfl,rfl⟩:=HO.o.read.none_ rfl
  obtain rfl:K=0:=by omega
  have HZ:Hid (cZ w1 g pb n (tk t ((fx n t false).take 0)) B):=aa (by rw [List.take_zero,zH];exact H.o.later HB.o)
  simp only [Int.cast_ofNat_Int]
  go_wp2
  go_loopw [21] (λk w'=>k=.int .i64 0/\w1=w') (λ_ _=>0)
  case atStart=>exact⟨rfl,rfl⟩
  case round =>
   obtain⟨rfl,rfl⟩:=hrel
   go_wp2
   refine bodyPost_ret (v:=.tuple #[.slice none 0 0,.int .i64 0]) (by simp [results,results154,go_sem]) rfl ⟨none,rfl,⟨?_,λ_ h=>(by cases h),λ_ h=>?_,λ_ h=>?_⟩,HZ.o,ae.of HB.o⟩
   ·exact dY _
   ·obtain⟨_,h,_⟩:=h
    cases h
   ·obtain⟨_,h,_⟩:=h
    cases h
 | some x =>
  obtain⟨gb,rfl,hgb⟩:∃gb,x=⟨gb,0,none⟩/\w.heap.size<=gb:=by
   rcases HO.o.row.2 with ⟨h1,hn⟩|⟨gb,c,cur,hv,hgb,_⟩
   ·simp at h1
   ·simp only [Value.slice.injEq,Option.some.injEq] at hv
    exact⟨gb,hv.1,hgb⟩
  go_upto_region 7 with fail
  go_loopw [21] (C0 w1 g pb n t B K) (λk _=>K - (intOf k).toNat)
  case atStart=>exact⟨0,rfl,Nat.zero_le _,by rw [List.take_zero,zH];exact H.o.later HB.o,ae.refl _ _⟩
  case round =>
   obtain⟨i,rfl,hi,hA,hBt⟩:=hrel
   have HA:=aa hA
   have HBt:=aa hBt
   clear hA hBt
   by_cases hlt:i<K
   ·have hd3:decide ((i:Int)<(K:Int))=true:=dT (by omega)
    have hil:i<(fx n t false).length:=by have:=HL.o;omega
    obtain⟨q,hq⟩:∃q,q=(fx n t false)[i]:=⟨_,rfl⟩
    have hqm:q<n/\t q=false:=oU.1 (by rw [hq];exact List.getElem_mem _)
    have hqn:=hqm.1
    have y:wr.cell? ⟨gb,i,none⟩=some (.int .i64 (q:Int)):=by
     have:=(HO.o.read.but HBt.o (λk hk e=>by obtain⟨z,hz,rfl⟩:=hk;cases hz;simp only at e;omega)).cells _ rfl i _ (iu _ i hil)
     rw [nj] at this
     rw [hq]
     exact this
    have z:=HA.o.mark q (by omega)
    have z1:=z.1
    have z2:=z.2
    have HN:Hid (cZ (wr.setCell ⟨g,1+q,none⟩ (.bool true)) g pb n (tk t ((fx n t false).take (i+1))) B):=HA.o.zb hqn (λj=>by
     rw [List.take_add_one,gE hil,<-hq]
     simp only [tk,Option.toList_some,List.mem_append,List.mem_singleton]
     by_cases e:j=q
     ·simp [e]
     ·simp [e]) (λj b hj=>H.o.zero j b (by simp [tk] at hj;exact hj.1))
    have HNB:Hid (ae (·=g) w1 (wr.setCell ⟨g,1+q,none⟩ (.bool true))):=HBt.o.setCell (p:=⟨g,1+q,none⟩) (show g=g from rfl) _
    clear z hq hqm
    go_wp2
    exact⟨⟨i+1,rfl,by omega,HN.o,HNB.o⟩,by simp [intOf];omega⟩
   ·obtain rfl:i=K:=by omega
    go_wp2
    have hO:=HO.o.Kw.but HBt.o (λk hk e=>by obtain⟨z,hz,rfl⟩:=hk;cases hz;simp only at e;omega)
    have hr:=hO.row.sub (m:=i) (c:=i) hKm (Nat.le_refl _) (λh=>by cases h)
    refine bodyPost_ret (v:=.tuple #[.slice (some ⟨gb,0,none⟩) i i,.int .i64 0]) (by simp [results,results154,go_sem]) rfl ⟨_,rfl,⟨?_,hO.soft,hO.ge,hO.lt⟩,HA.o,(ae.of HB.o).trans HBt.o⟩
    simpa [ints,cX,List.map_take] using hr
theorem aP {P:Program}{ops:Array Oper}{rest:List Oper}{a:Act}{Q:Exit->Act->World->Prop}{d:Option Tmp}{tt:TypeId}{ps:String}{af}{ty:TypeId}{x:Operand}{p v:Value}
  (hr:(Instr.loadAt ty p).run P w=.ok v w) (hx:a.eval x=p) (h:wpList P ops Q rest (a.put d v) w) :
  wpList P ops Q ({ dst:=d,op:=.load ty x,type:=tt,pos:=ps,after:=af,guard:=none }::rest) a w:=by
 refine wpList_plain rfl λK hK=>?_
 unfold Oper.wp execOp
 simp only [hx,hr,Sem.run_bind,Sem.run_pure,Result.andThen_ok]
 exact hK _ _ h
theorem jF {P:Program}{ops:Array Oper}{rest:List Oper}{a:Act}{Q:Exit->Act->World->Prop}{d:Option Tmp}{tt:TypeId}{ps:String}{af}{t:TypeId}{x:Operand}{vx v:Value}
  (hr:(Builtin.clear_ #[t] tt #[vx]).run P w=.ok v w') (hx:a.eval x=vx) (h:wpList P ops Q rest (a.put d v) w') :
  wpList P ops Q ({ dst:=d,op:=.call { callee:=.builtin .clear,args:=#[x],argTypes:=#[t] },type:=tt,pos:=ps,after:=af,guard:=none }::rest) a w:=by
 refine wpList_plain rfl λK hK=>?_
 unfold Oper.wp execOp
 simp only [resolve,invoke,builtin,Sem.run_bind,Sem.run_pure,Result.andThen_ok,List.map_toArray,List.map_cons,List.map_nil,hx,hr]
 exact hK _ _ h
theorem B9 (t:TypeId)(n:Nat)(ht:prog.underlying t=some (.array n 5))(xs ys:List UInt8)(hx:xs.length=n)(hy:ys.length=n)(w:World) :
  (Op.equalIn 10000 t (.agg (xs.map Extern.Stop.cell).toArray) (.agg (ys.map Extern.Stop.cell).toArray)).run prog w=.ok (xs==ys) w :=
 run_equalIn_bytes (P:=prog) w 9998 t 5 n ht underlying5 (λw=>by
  obtain⟨i,hi,hz0,hz1,hz2⟩:=info_parts jb
  simp [sizeOf,typeInfo,hi,hz1]) xs ys hx hy
def zP (B:Nat->Nat->Nat)(p off:Nat)(D:List Nat):Nat->Nat->Nat:=λi j=>if i=p/\off<=j/\j<off+D.length then D.getD (j - off) 0 else B i j
theorem ur {D:List Nat}(h:∀x∈D,x<256)(k:Nat):D.getD k 0<256:=by
 rw [List.getD_eq_getElem?_getD]
 cases hk:D[k]? with
 | none=>simp
 | some v=>simpa using h v (List.mem_of_getElem? hk)
theorem cZ.write {pb:Nat}{t:Nat->Bool}{B:Nat->Nat->Nat}{p off:Nat}{D:List Nat}(h:cZ w g pb n t B)(hp:t p=true)(ho:off+D.length<=64)(hD:∀x∈D,x<256) :
  cZ (w.setCells pb (p*64+off) (aM D)) g pb n t (zP B p off D):=by
 have hpn:=h.only p hp
 have hne:=h.ne
 refine⟨h.ne,h.le,?_,λi hi=>⟨?_,?_⟩,λi j hi hj=>⟨?_,?_⟩,by rw [cv];exact h.lt,h.only,λi j hi=>?_,λi j=>?_⟩
 ·rw [World.cell?_setCells_out _ _ _ _ _ (λe=>absurd e hne)]
  exact h.head
 ·rw [World.cell?_setCells_out _ _ _ _ _ (λe=>absurd e hne)]
  exact (h.mark i hi).1
 ·rw [World.frozen?_setCells]
  exact (h.mark i hi).2
 ·unfold zP
  by_cases e:i=p/\off<=j/\j<off+D.length
  ·rw [if_pos e]
   obtain⟨rfl,e1,e2⟩:=e
   have hin:=World.cell?_setCells_in pb (aM D) (i*64+off) w (λk hk=>by
    rw [ax] at hk
    have:=(h.kG i (off+k) hi (by omega)).1
    rw [<-Nat.add_assoc] at this
    rw [this];rfl) (j - off) (by rw [ax];omega)
   have e3:i*64+off+(j - off)=i*64+j:=by omega
   rw [e3] at hin
   rw [hin]
   simp [aM,List.getD_eq_getElem?_getD,gE (show j - off<D.length by omega)]
  ·rw [if_neg e,World.cell?_setCells_out _ _ _ _ _ (λ_ _=>?_)]
   ·exact (h.kG i j hi hj).1
   ·rw [ax]
    show i*64+j<p*64+off\/p*64+off+D.length<=i*64+j
    omega
 ·rw [World.frozen?_setCells]
  exact (h.kG i j hi hj).2
 ·unfold zP
  rw [if_neg (λe=>by rw [e.1,hp] at hi;cases hi)]
  exact h.zero i j hi
 ·unfold zP
  split
  ·exact ur hD _
  ·exact h.small i j
def oM (B:Nat->Nat->Nat)(p off m:Nat):List Nat:=(List.range m).map λk=>B p (off+k)
theorem dm (B:Nat->Nat->Nat)(p off m:Nat):(oM B p off m).length=m:=by simp [oM]
theorem pX (B:Nat->Nat->Nat)(p off m k:Nat)(h:k<m):(aM (oM B p off m))[k]?=some (.int .u8 ((B p (off+k):Nat):Int)):=by simp [aM,oM,h]
theorem cZ.range {pb:Nat}{t:Nat->Bool}{B:Nat->Nat->Nat}(h:cZ w g pb n t B){p:Nat}(hp:p<n):w.rangeAt pb (p*64) (aM (oM B p 0 64)):=λj v hv=>by
 have hj:j<64:=by have:=(gS.1 hv).1;rwa [ax,dm] at this
 rw [pX _ _ _ _ _ hj,Nat.zero_add] at hv
 cases hv
 exact (h.kG p j hp hj).1
theorem D3:(prog.info? 297).map (·.size)=some 64:=by kernel_rfl
theorem uM {pb:Nat}{t:Nat->Bool}{B:Nat->Nat->Nat}(h:cZ w g pb n t B){p:Nat}(hp:p<n):(Instr.loadAt 297 (.pointer (some ⟨pb,p*64,none⟩))).run prog w=.ok (.agg (aM (oM B p 0 64)).toArray) w :=
 run_loadAt_mid (P:=prog) w pb (p*64) 297 _ _ (h.range hp) underlying297 rfl (by rw [D3,ax,dm])
theorem CF (L:List Nat)(h:∀x∈L,x<256):aM L=(L.map UInt8.ofNat).map Extern.Stop.cell:=by
 rw [aM,List.map_map]
 refine List.map_congr_left λx hx=>?_
 simp only [Function.comp,Extern.Stop.cell]
 rw [UInt8.toNat_ofNat_of_lt' (h x hx)]
 rfl
theorem s9:(Array.replicate 64 (Value.int .u8 0))=((List.replicate 64 (0:UInt8)).map Extern.Stop.cell).toArray:=by rfl
theorem cZ.congr {pb:Nat}{t:Nat->Bool}{B C:Nat->Nat->Nat}(h:cZ w g pb n t B)(e:B=C):cZ w g pb n t C:=e ▸ h
theorem ow {pb:Nat}{t:Nat->Bool}{B:Nat->Nat->Nat}(h:cZ w g pb n t B)(p off m:Nat):∀x∈oM B p off m,x<256:=by
 intro x hx
 simp only [oM,List.mem_map] at hx
 obtain⟨k,_,rfl⟩:=hx
 exact h.small _ _
theorem Er (w:World):(zeroValue 5).run prog w=.ok (.int .u8 0) w:=aG jb w
theorem CA {B:Nat->Nat->Nat}{p:Nat}(h:oM B p 0 64=List.replicate 64 0)(j:Nat)(hj:j<64):B p j=0:=by
 have:=congrArg (λl:List Nat=>l[j]?) h
 simp only [List.getElem?_replicate,hj,if_true] at this
 simpa [oM,hj] using this
theorem Bj (g pb n:Nat)(t:Nat->Bool)(B:Nat->Nat->Nat)(p:Nat)(w:World)(h:cZ w g pb n t B)(hp:t p=true) :
  Calls prog 259 #[.pointer (some ⟨pb,p*64,none⟩)] w λe w'=>e=.returned (.tuple #[])/\cZ w' g pb n t (λi j=>if i=p/\j<64 then 0 else B i j)/\ae (·=pb) w w':=by
 have hpn:=h.only p hp
 have hl:=uM h hpn
 have hz:=aG oS
 rw [CF _ (ow h p 0 64)] at hl
 rw [s9] at hz
 have hne:=B9 297 64 underlying297 ((oM B p 0 64).map UInt8.ofNat) (List.replicate 64 0) (by rw [List.length_map,dm]) (by simp) w
 obtain⟨b,hb⟩:∃b,b=(List.map UInt8.ofNat (oM B p 0 64)==List.replicate 64 0):=⟨_,rfl⟩
 rw [<-hb] at hne
 have HBB:=aa hb
 have hcl:=Lib.run_clear_slice (P:=prog) w 39 5 0 (.int .u8 0) underlying39 Er rfl rfl pb (p*64) 64 64 (by omega) (λj hj=>by rw [(h.kG p j hpn hj).1];rfl) (λj hj=>(h.kG p j hpn hj).2)
 have H:=aa h
 obtain⟨o,ho⟩:∃o,o=p*64:=⟨_,rfl⟩
 rw [<-ho] at hl hcl ⊢
 have HO:=aa ho
 have HCL:=aa hcl
 have HLD:=aa hl
 obtain⟨X,hX⟩:∃X,X=(List.map Extern.Stop.cell (List.map UInt8.ofNat (oM B p 0 64))).toArray:=⟨_,rfl⟩
 obtain⟨Z,hZ⟩:∃Z,Z=(List.map Extern.Stop.cell (List.replicate 64 (0:UInt8))).toArray:=⟨_,rfl⟩
 rw [<-hX] at HLD
 rw [<-hX,<-hZ] at hne
 rw [<-hZ] at hz
 clear h ho hl hcl hX hZ hb
 go_enter func259,ntmps259
 cases b with
 | true =>
  go_wp2_with (first|((with_reducible refine aP HLD.o ?_ ?_);· rfl))
  refine bodyPost_end (v:=.tuple #[]) (by simp [results,results259,go_sem]) rfl ⟨rfl,H.o.congr ?_,ae.refl _ _⟩
  have e:oM B p 0 64=List.replicate 64 0:=by
   have h1:=eq_of_beq HBB.o.symm
   have h2:=congrArg (List.map UInt8.toNat) h1
   rw [List.map_map,List.map_replicate] at h2
   refine Eq.trans ?_ h2
   refine (List.map_congr_left (g:=id) (λx hx=>?_)).trans (List.map_id _) |>.symm
   exact UInt8.toNat_ofNat_of_lt' (ow H.o p 0 64 x hx)
  funext i j
  by_cases h1:i=p/\j<64
  ·rw [if_pos h1,h1.1]
   exact CA e j h1.2
  ·rw [if_neg h1]
 | false =>
  go_wp2_with (first|((with_reducible refine aP HLD.o ?_ ?_);· rfl)|((with_reducible refine jF HCL.o ?_ ?_);· rfl))
  have hA:=H.o.write (off:=0) (D:=List.replicate 64 0) hp (by simp) (λx hx=>by rw [List.eq_of_mem_replicate hx];omega)
  rw [Nat.add_zero,<-HO.o] at hA
  refine bodyPost_end (v:=.tuple #[]) (by simp [results,results259,go_sem]) rfl ⟨rfl,hA.congr ?_,ae.setCells (S:=(·=pb)) (show pb=pb from rfl) _ _ (ae.refl _ _)⟩
  funext i j
  unfold zP
  by_cases h1:i=p/\j<64
  ·rw [if_pos ⟨h1.1,by simpa using h1.2⟩,if_pos h1]
   rw [List.getD_eq_getElem?_getD,List.getElem?_replicate]
   split<;>rfl
  ·rw [if_neg h1,if_neg (λe=>h1 ⟨e.1,by simpa using e.2⟩)]
theorem my {t:Nat->Bool}{p off:Nat}(h:t p=true)(hn:p<n)(ho:off+m<=64):ki n t (p:Int) (off:Int) (m:Int)=0:=by
 unfold ki uE
 rw [if_pos ⟨dT (by omega),by simpa using h⟩,if_pos (by omega)]
theorem ua:prog.arrayLen 297=64:=by kernel_rfl
theorem B3:prog.underlying 297=some (.array (prog.arrayLen 297) (prog.elem 297)):=by kernel_rfl
theorem mO (W:World):(sizeOf (prog.elem 297)).run prog W=.ok 1 W:=by
 have e:prog.elem 297=5:=by kernel_rfl
 obtain⟨i,hi,hz0,hz1,hz2⟩:=info_parts jb
 rw [e]
 simp [sizeOf,typeInfo,hi,hz1]
theorem CL (b o off m:Nat)(ho:off+m<=64):∃so,(m=0\/so=o+off)/\∀W:World,(Instr.sliceAt 297 (.pointer (some ⟨b,o,none⟩)) (some (.int .i64 (off:Int))) (some (.int .i64 ((off:Int)+(m:Int)))) (some (.int .i64 ((off:Int)+(m:Int))))).run prog W=.ok (.slice (some ⟨b,so,none⟩) m m) W:=by
 have h:∀W:World,(Instr.sliceAt 297 (.pointer (some ⟨b,o,none⟩)) (some (.int .i64 (off:Int))) (some (.int .i64 ((off:Int)+(m:Int)))) (some (.int .i64 ((off:Int)+(m:Int))))).run prog W=.ok (slicedAt ⟨b,o,none⟩ off (off+m) (off+m) 1) W:=λW=>by
  rw [run_sliceAt_array_lhm (P:=prog) W 297 ⟨b,o,none⟩ B3 .i64 .i64 .i64 (off:Int) ((off:Int)+(m:Int)) ((off:Int)+(m:Int)) (by omega) (by omega) (by omega) (by rw [ua];omega),mO]
  have e:((off:Int)+(m:Int)).toNat=off+m:=by omega
  simp [e]
 by_cases hm:m=0
 ·subst hm
  exact⟨o,.inl rfl,λW=>by rw [h W];simp [slicedAt]⟩
 ·refine⟨o+off,.inr rfl,λW=>?_⟩
  rw [h W,slicedAt,if_neg (by omega),aV]
  simp
theorem IH (b o off:Nat)(ho:off<=64):∃so,(off=64\/so=o+off)/\∀W:World,(Instr.sliceAt 297 (.pointer (some ⟨b,o,none⟩)) (some (.int .i64 (off:Int))) none none).run prog W=.ok (.slice (some ⟨b,so,none⟩) (64 - off) (64 - off)) W:=by
 have h:∀W:World,(Instr.sliceAt 297 (.pointer (some ⟨b,o,none⟩)) (some (.int .i64 (off:Int))) none none).run prog W=.ok (slicedAt ⟨b,o,none⟩ off 64 64 1) W:=λW=>by
  rw [run_sliceAt_array_l (P:=prog) W 297 ⟨b,o,none⟩ B3 .i64 (off:Int) (by omega) (by rw [ua];omega),mO,ua]
  simp
 by_cases hm:off=64
 ·subst hm
  exact⟨o,.inl rfl,λW=>by rw [h W];simp [slicedAt]⟩
 ·refine⟨o+off,.inr rfl,λW=>?_⟩
  rw [h W,slicedAt,if_neg (by omega),aV]
  simp
theorem CU (B:Nat->Nat->Nat)(p off m k:Nat)(h:k<m)(ho:off+m<=64):(aM (oM B p 0 64))[off+k]?=some (.int .u8 ((B p (off+k):Nat):Int)):=by
 rw [pX _ _ _ _ _ (by omega),Nat.zero_add]
theorem pS (g pb n:Nat)(t:Nat->Bool)(B:Nat->Nat->Nat)(p off m:Nat)(w:World)(h:cZ w g pb n t B)(hp:t p=true)(ho:off+m<=64) :
  Calls prog 164 #[.pointer (some ⟨g,0,none⟩),.int .i64 (p:Int),.int .i64 (off:Int),.int .i64 (m:Int)] w λe w'=>∃a,e=.returned (.tuple #[.slice a m m,.int .i64 0])/\su w' w.heap.size a m m (aM (oM B p off m))/\Below w.heap.size w w':=by
 have x:=h.head
 have hpn:=h.only p hp
 have HE:=aa (my hp hpn ho)
 have HLD:=aa (uM h hpn)
 have hz:=aG oS
 obtain⟨Z,hZ⟩:∃Z,Z=Array.replicate 64 (Value.int .u8 0):=⟨_,rfl⟩
 rw [<-hZ] at hz
 have H:=aa h
 obtain⟨L,hL⟩:∃L,L=aM (oM B p 0 64):=⟨_,rfl⟩
 rw [<-hL] at HLD
 have hl:L.length=64:=by rw [hL,ax,dm]
 have ht:(w.alloc (.cells Z 297)).there w.heap.size 0 64:=λj hj=>by
  have hh:=heap_alloc_new w (.cells Z 297)
  exact⟨by rw [cell_of_row _ _ _ _ _ _ hh,hZ];simp [hj],by simp only [World.frozen?,hh];simp⟩
 have hst:(storeCells ⟨w.heap.size,0,none⟩ L).run prog (w.alloc (.cells Z 297))=.ok () ((w.alloc (.cells Z 297)).setCells w.heap.size 0 L) :=
  run_storeCells_cells (P:=prog) w.heap.size 0 L 0 _ (λj hj=>by rw [Nat.add_zero];exact (ht j (by omega)).1) (λj hj=>by rw [Nat.add_zero];exact (ht j (by omega)).2) (by rw [hL];exact fB _)
 have HT:=aa ht
 have HL:=aa hL
 have HLL:=aa hl
 have HZZ:=aa hZ
 clear h ht hL hZ
 go_enter func164,ntmps164
 go_upto_region 4 with (first|(go_at_call 207;refine (jq g pb n t B (p:Int) (off:Int) (m:Int) _ H.o (by omega)).mono ?_;rintro e w1 ⟨rfl,rfl⟩;rw [HE.o]))
 obtain⟨so,hso,hcut⟩:=CL w1.heap.size 0 off m ho
 have HSO:=aa hso
 clear hso
 go_wp2_with (first|((with_reducible refine aP HLD.o ?_ ?_);· rfl))
 have hB:Below w1.heap.size w1 ((w1.alloc (.cells Z 297)).setCells w1.heap.size 0 L):=ae.below (S:=(·=w1.heap.size)) (ab w1 (.cells Z 297)) (ae.setCells (S:=(·=w1.heap.size)) (show w1.heap.size=w1.heap.size from rfl) L 0 (ae.refl _ _)) (λk hk=>by rw [hk];exact Nat.le_refl _)
 refine bodyPost_ret (v:=.tuple #[.slice (some ⟨w1.heap.size,so,none⟩) m m,.int .i64 0]) (by simp [results,results164,go_sem]) rfl ⟨_,rfl,⟨Row.at (by rw [ax,dm]) (Nat.le_refl _) (fB _) (λi v hv=>?_),λx hx j=>?_,λk hk=>?_,λk hk=>?_⟩,hB⟩
 ·have hi:i<m:=by have:=(gS.1 hv).1;rwa [ax,dm] at this
  rw [pX _ _ _ _ _ hi] at hv
  have hs:so=off:=by have:=HSO.o;omega
  rw [hs]
  have:=World.rangeAt_setCells_same (w1.alloc (.cells Z 297)) w1.heap.size 0 L (by rw [hl];exact HT.o) (off+i) v (by rw [HL.o,CU B p off m i hi ho];exact hv)
  rwa [Nat.zero_add] at this
 ·cases hx
  rw [World.frozen?_setCells]
  have hh:=heap_alloc_new w1 (.cells Z 297)
  simp only [World.frozen?,hh]
  simp
 ·obtain⟨x,hx,rfl⟩:=hk
  cases hx
  exact Nat.le_refl _
 ·obtain⟨x,hx,rfl⟩:=hk
  cases hx
  rw [cv]
  simp
theorem cZ.copy {pb:Nat}{t:Nat->Bool}{B:Nat->Nat->Nat}{p off so:Nat}{D:List Nat}{cap:Nat}(h:cZ w g pb n t B)(hp:t p=true)(ho:off+m<=64)(hD:∀x∈D,x<256)(hR:Row w a m cap (aM D))(hso:off=64\/so=p*64+off) :
  ∃v w',(Builtin.copy_ #[39,39] 3 #[.slice (some ⟨pb,so,none⟩) (64 - off) (64 - off),.slice a m cap]).run prog w=.ok v w'/\cZ w' g pb n t (zP B p off D)/\ae (·=pb) w w':=by
 have hpn:=h.only p hp
 have hlen:=hR.len
 rw [ax] at hlen
 by_cases hm:m=0
 ·subst hm
  refine⟨_,w,run_copy_none (P:=prog) w 39 39 3 5 _ _ _ _ _ _ underlying39 (by kernel_rfl) (by simp),h.congr ?_,ae.refl _ _⟩
  funext i j
  unfold zP
  rw [if_neg (by omega)]
 ·obtain⟨b,o,rfl,hc⟩:=hR.plain (by omega)
  have hs:so=p*64+off:=by omega
  subst hs
  have hpg:∀j,j<m->aq w ⟨pb,p*64+off+j,none⟩ (.int .u8 ((B p (off+j):Nat):Int)):=λj hj=>by
   have:=h.kG p (off+j) hpn (by omega)
   rwa [<-Nat.add_assoc] at this
  have hlu:(aM D).length=m:=hR.len
  refine⟨_,_,run_copy_cells (P:=prog) w 39 39 3 5 pb (p*64+off) (64 - off) (64 - off) ⟨b,o,none⟩ m cap (aM D) underlying39 (by kernel_rfl) (by rw [hlu];exact (Nat.min_eq_left (by omega)).symm) (hR.cells _ rfl) (λj hj=>by rw [(hpg j (by omega)).1];rfl) (λj hj=>(hpg j (by omega)).2) (fB _),h.write hp (by omega) hD,ae.setCells (S:=(·=pb)) (show pb=pb from rfl) _ _ (ae.refl _ _)⟩
theorem mr (g pb n:Nat)(t:Nat->Bool)(B:Nat->Nat->Nat)(p off:Nat)(a:Option Addr)(m cap:Nat)(D:List Nat)(w:World)(h:cZ w g pb n t B)(hp:t p=true)(ho:off+m<=64)(hD:∀x∈D,x<256)(hR:Row w a m cap (aM D)) :
  Calls prog 165 #[.pointer (some ⟨g,0,none⟩),.int .i64 (p:Int),.int .i64 (off:Int),.slice a m cap] w λe w'=>e=.returned (.int .i64 0)/\cZ w' g pb n t (zP B p off D)/\ae (·=pb) w w':=by
 have x:=h.head
 have hpn:=h.only p hp
 have HE:=aa (my hp hpn ho)
 obtain⟨so,hso,hcut⟩:=IH pb (p*64) off (by omega)
 obtain⟨v,w2,hrun,hA,hB⟩:=h.copy hp ho hD hR hso
 have H:=aa h
 have HA:=aa hA
 clear h hA hR hso hD
 go_enter func165,ntmps165
 go_upto_region 4 with (first|(go_at_call 207;refine (jq g pb n t B (p:Int) (off:Int) (m:Int) _ H.o (by omega)).mono ?_;rintro e w1 ⟨rfl,rfl⟩;rw [HE.o]))
 go_wp2
 go_ret
 exact⟨rfl,HA.o,hB⟩
theorem cZ.ext {pb:Nat}{t:Nat->Bool}{B C:Nat->Nat->Nat}(h:cZ w g pb n t B)(e:∀i j,i<n->j<64->C i j=B i j)(hz:∀i j,t i=false->C i j=0)(hs:∀i j,C i j<256):cZ w g pb n t C :=
 ⟨h.ne,h.le,h.head,h.mark,λi j hi hj=>by rw [e i j hi hj];exact h.kG i j hi hj,h.lt,h.only,hz,hs⟩
theorem AV (g pb n:Nat)(t:Nat->Bool)(B:Nat->Nat->Nat)(p:Nat)(w:World)(h:cZ w g pb n t B)(hp:t p=true) :
  Calls prog 259 #[.pointer (some ⟨pb,p*64,none⟩)] w λe w'=>e=.returned (.tuple #[])/\cZ w' g pb n t (λi j=>if i=p then 0 else B i j)/\ae (·=pb) w w':=by
 refine (Bj g pb n t B p w h hp).mono ?_
 rintro e w' ⟨rfl,hA,hB⟩
 refine⟨rfl,hA.ext (λi j hi hj=>?_) (λi j hi=>?_) (λi j=>?_),hB⟩
 ·by_cases e:i=p
  ·simp [e,hj]
  ·simp [e]
 ·have:=h.zero i j hi
  split<;>simp_all
 ·have:=h.small i j
  split<;>omega
def rF (t:Nat->Bool):List Value:=(List.range 256).map λj=>.bool (t j)
theorem bO (t:Nat->Bool):(rF t).length=256:=by simp [rF]
theorem DL (t:Nat->Bool)(j:Nat)(hj:j<256):(rF t)[j]?=some (.bool (t j)):=by simp [rF,hj]
theorem Dd (t:Nat->Bool):∀u∈rF t,u.oneCell'=true:=by
 intro u hu
 simp only [rF,List.mem_map] at hu
 obtain⟨n,_,rfl⟩:=hu
 rfl
theorem Gw:(prog.info? 228).map (·.size)=some 256:=by kernel_rfl
theorem Dc:(prog.info? 228).map (λi=>(i.zero,i.size,i.bytes))=some (some (.agg (Array.replicate 256 (.bool false))),256,256):=by kernel_rfl
def p9 (w:World)(b o:Nat)(u:Nat->Bool):Prop:=∀j,j<256->aq w ⟨b,o+j,none⟩ (.bool (u j))
theorem p9.but {S:Nat->Prop}{o:Nat}{u:Nat->Bool}(hb:ae S w w')(h:p9 w b o u)(hn:¬S b):p9 w' b o u:=λj hj=>(h j hj).but hb hn
theorem p9.range {o:Nat}{u:Nat->Bool}(h:p9 w b o u):w.rangeAt b o (rF u):=λj v hv=>by
 have hj:j<256:=by have:=(gS.1 hv).1;rwa [bO] at this
 rw [DL _ _ hj] at hv
 cases hv
 exact (h j hj).1
theorem zD {w:World}{b o:Nat}{u:Nat->Bool}(h:p9 w b o u):(Instr.loadAt 228 (.pointer (some ⟨b,o,none⟩))).run prog w=.ok (.agg (rF u).toArray) w :=
 run_loadAt_mid (P:=prog) w b o 228 _ _ h.range underlying228 rfl (by rw [Gw,bO])
theorem uV {o:Nat}{v:Nat->Bool}(h:p9 w b o v)(u:Nat->Bool):(storeCells ⟨b,o,none⟩ (rF u)).run prog w=.ok () (w.setCells b o (rF u)) :=
 run_storeCells_cells (P:=prog) b o (rF u) 0 w (λj hj=>by rw [bO] at hj;rw [Nat.add_zero,(h j hj).1];rfl) (λj hj=>by rw [bO] at hj;rw [Nat.add_zero];exact (h j hj).2) (Dd u)
theorem p9.put {w:World}{b o:Nat}{v:Nat->Bool}(h:p9 w b o v)(u:Nat->Bool):p9 (w.setCells b o (rF u)) b o u:=λj hj=>by
 refine⟨?_,by rw [World.frozen?_setCells];exact (h j hj).2⟩
 rw [World.cell?_setCells_in b (rF u) o w (λi hi=>by rw [bO] at hi;rw [(h i hi).1];rfl) j (by rw [bO];exact hj)]
 simp [rF]
theorem p9.set {w:World}{b o k:Nat}{v u:Nat->Bool}{x:Bool}(h:p9 w b o v)(hk:k<256)(hu:∀i,u i=if i=k then x else v i):p9 (w.setCell ⟨b,o+k,none⟩ (.bool x)) b o u:=λj hj=>by
 rw [hu j]
 by_cases e:j=k
 ·subst e
  rw [if_pos rfl]
  exact (h j hj).put
 ·rw [if_neg e]
  exact (h j hj).other (λe2=>e (by have:=congrArg Addr.off e2;simp at this;omega))
theorem CW (w:World):p9 (w.alloc (.cells (Array.replicate 256 (.bool false)) 228)) w.heap.size 0 (λ_=>false):=λj hj=>by
 have hh:=heap_alloc_new w (.cells (Array.replicate 256 (.bool false)) 228)
 exact⟨by rw [cell_of_row _ _ _ _ _ _ hh];simp [hj],by simp only [World.frozen?,hh];simp⟩
def ED (n:Nat)(t:Nat->Bool)(l:List Int):Prop:=(∀x∈l,uE n x=true/\t x.toNat=true)/\l.Nodup
def gT (t:Nat->Bool)(l:List Int):Nat->Bool:=λj=>t j&&!decide ((j:Int)∈l)
def gB (B:Nat->Nat->Nat)(l:List Int):Nat->Nat->Nat:=λi j=>if (i:Int)∈l then 0 else B i j
theorem cZ.marks {pb:Nat}{t u:Nat->Bool}{B:Nat->Nat->Nat}(h:cZ w g pb n t B)(hu:∀i,u i=true->i<n)(hz:∀i j,u i=false->B i j=0):cZ (w.setCells g 1 (rF u)) g pb n u B:=by
 have hR:p9 w g 1 t:=h.mark
 have hne:=h.ne
 refine⟨h.ne,h.le,?_,hR.put u,λi j hi hj=>⟨?_,?_⟩,by rw [cv];exact h.lt,hu,hz,h.small⟩
 ·rw [World.cell?_setCells_out _ _ _ _ _ (λ_ _=>.inl (show 0<1 by omega))]
  exact h.head
 ·rw [World.cell?_setCells_out _ _ _ _ _ (λe=>absurd e.symm hne)]
  exact (h.kG i j hi hj).1
 ·rw [World.frozen?_setCells]
  exact (h.kG i j hi hj).2
def BP (w:World)(n:Nat)(t:Nat->Bool)(l:List Int)(rb:Nat)(v:Value)(w':World):Prop :=
 ∃i:Nat,v=.int .i64 (i:Int)/\i<=l.length/\ED n t (l.take i)/\p9 w' rb 0 (gT t (l.take i))/\Below w.heap.size w w'
def Al (w1:World)(g pb n:Nat)(t:Nat->Bool)(B:Nat->Nat->Nat)(l:List Int)(v:Value)(w':World):Prop :=
 ∃i:Nat,v=.int .i64 (i:Int)/\i<=l.length/\cZ w' g pb n t (gB B (l.take i))/\ae (·=pb) w1 w'
theorem dj (l:List Int)(i:Nat)(h:i<l.length):l.take (i+1)=l.take i++[l[i]]:=by
 rw [List.take_add_one,gE h];rfl
theorem qP {t:Nat->Bool}{l:List Int}(hi:i<l.length)(h:uE n l[i]=false):¬ED n t l:=λhg=>by
 have:=(hg.1 _ (List.getElem_mem hi)).1
 rw [h] at this
 cases this
theorem ui {t:Nat->Bool}{l:List Int}{k:Nat}(hi:i<l.length)(hk:l[i]=(k:Int))(h:gT t (l.take i) k=false):¬ED n t l:=λhg=>by
 have h1:=(hg.1 _ (List.getElem_mem hi)).2
 rw [hk,Int.toNat_natCast] at h1
 simp only [gT,h1,Bool.true_and,Bool.not_eq_false',decide_eq_true_eq] at h
 have h2:=(List.take_sublist (i+1) l).nodup hg.2
 rw [dj l i hi,hk,List.nodup_append] at h2
 exact h2.2.2 _ h _ (by simp) rfl
theorem Af {t:Nat->Bool}{l:List Int}{k:Nat}(hi:i<l.length)(hk:l[i]=(k:Int))(hkn:k<n)(h:gT t (l.take i) k=true)(hg:ED n t (l.take i)):ED n t (l.take (i+1)):=by
 simp only [gT,Bool.and_eq_true,Bool.not_eq_true',decide_eq_false_iff_not] at h
 rw [dj l i hi,hk]
 refine⟨λx hx=>?_,?_⟩
 ·rcases List.mem_append.1 hx with h1|h1
  ·exact hg.1 x h1
  ·simp only [List.mem_singleton] at h1
   subst h1
   exact⟨dT (by omega),by rw [Int.toNat_natCast];exact h.1⟩
 ·rw [List.nodup_append]
  refine⟨hg.2,by simp,λx hx y hy e=>?_⟩
  simp only [List.mem_singleton] at hy
  rw [e,hy] at hx
  exact h.2 hx
theorem Dg {t:Nat->Bool}{l:List Int}{k:Nat}(hi:i<l.length)(hk:l[i]=(k:Int))(j:Nat):gT t (l.take (i+1)) j=if j=k then false else gT t (l.take i) j:=by
 rw [dj l i hi,hk]
 simp only [gT,List.mem_append,List.mem_singleton]
 by_cases e:j=k
 ·simp [e]
 ·have:¬(j:Int)=(k:Int):=by omega
  simp [e,this]
theorem Di {B:Nat->Nat->Nat}{l:List Int}{k:Nat}(hi:i<l.length)(hk:l[i]=(k:Int)):gB B (l.take (i+1))=λx j=>if x=k then 0 else gB B (l.take i) x j:=by
 funext x j
 rw [dj l i hi,hk]
 simp only [gB,List.mem_append,List.mem_singleton]
 by_cases e:x=k
 ·simp [e]
 ·have:¬(x:Int)=(k:Int):=by omega
  simp [e,this]
theorem yX (g pb n:Nat)(t:Nat->Bool)(B:Nat->Nat->Nat)(a:Option Addr)(m cap:Nat)(l:List Int)(w:World)(h:cZ w g pb n t B)(hR:Row w a m cap (ints l))(hm63:m<9223372036854775807)(hap:∀k,aD a k->k≠pb) :
  Calls prog 231 #[.pointer (some ⟨g,0,none⟩),.slice a m cap] w λe w'=>(ED n t l/\e=.returned (.int .i64 0)/\cZ w' g pb n (gT t l) (gB B l)/\ae (λk=>k=g\/k=pb) w w')\/(¬ED n t l/\e=.returned (.int .i64 20)/\Below w.heap.size w w'):=by
 have HLD:=aa (zD (w:=w) (b:=g) (o:=1) h.mark)
 have hz:=aG Dc
 obtain⟨Z,hZ⟩:∃Z,Z=Array.replicate 256 (Value.bool false):=⟨_,rfl⟩
 have hr0:=CW w
 rw [<-hZ] at hz hr0
 have hst:=uV hr0 t
 have hR1:=hr0.put t
 obtain⟨L,hL⟩:∃L,L=rF t:=⟨_,rfl⟩
 have hll:L.length=256:=by rw [hL,bO]
 rw [<-hL] at hst HLD hR1
 obtain⟨w1,hw1⟩:∃w1,w1=(w.alloc (.cells Z 228)).setCells w.heap.size 0 L:=⟨_,rfl⟩
 rw [<-hw1] at hst hR1
 have hB1:Below w.heap.size w w1:=by
  rw [hw1]
  exact ae.below (S:=(·=w.heap.size)) (ab w (.cells Z 228)) (ae.setCells (S:=(·=w.heap.size)) (show w.heap.size=w.heap.size from rfl) L 0 (ae.refl _ _)) (λk hk=>by rw [hk];exact Nat.le_refl _)
 have HB1:=aa hB1
 have HR1:=aa hR1
 have H:=aa h
 have HR:=aa hR
 have hgl:=h.CH
 have hpl:=h.lt
 have hn:=h.le
 have hlen:l.length=m:=by have:=hR.len;rwa [qt] at this
 have HAP:=aa hap
 clear h hR hL hZ hr0 hR1 hw1 hB1 hap
 go_enter func231,ntmps231
 go_upto_region 2 with (first|((with_reducible refine aP HLD.o ?_ ?_);· rfl))
 clear HLD hz hst hll
 go_upto_region 3 with fail
 go_loopw [16] (BP w n t l w.heap.size) (λk _=>m - (intOf k).toNat)
 case atStart=>exact⟨0,rfl,Nat.zero_le _,⟨λx hx=>by simp at hx,by simp⟩,by
  have e:gT t (l.take 0)=t:=by funext j;simp [gT]
  rw [e];exact HR1.o,HB1.o⟩
 case round =>
  clear HR1 HB1
  obtain⟨i,rfl,hi,hok,hrst,hB⟩:=hrel
  have HRS:=aa hrst
  have HB:=aa hB
  have HOK:=aa hok
  clear hrst hB hok
  by_cases hlt:i<m
  ·have hd:decide ((i:Int)<(m:Int))=true:=dT (by omega)
   obtain⟨b,o,rfl,hc⟩:=HR.o.plain (by omega)
   have y:=cell_later HB.o (hc i _ (ep l i (by omega)))
   have hx:=(H.o.later HB.o).head
   obtain⟨q,hq⟩:∃q,q=l[i]:=⟨_,rfl⟩
   rw [<-hq] at y
   have HQ:=aa hq
   clear hc hq
   have hil:i<l.length:=by omega
   cases hth:uE n q with
   | false =>
    go_wp2_with (first|(go_at_call 237;refine (bY g pb n q _ hx).mono ?_;rintro e w2 ⟨rfl,rfl⟩;rw [hth]))
    go_ret
    exact .inr ⟨qP hil (by rw [<-HQ.o];exact hth),rfl,HB.o⟩
   | true =>
    obtain⟨k,rfl⟩:∃k:Nat,q=(k:Int):=⟨q.toNat,by simp [uE] at hth;omega⟩
    have hkn:k<n:=by simp [uE] at hth;omega
    have hk2:k<256:=by omega
    have z:=HRS.o k hk2
    rw [Nat.zero_add] at z
    have z1:=z.1
    have z2:=z.2
    clear z
    cases hg:gT t (l.take i) k with
    | false =>
     rw [hg] at z1
     go_wp2_with (first|(go_at_call 237;refine (bY g pb n (k:Int) _ hx).mono ?_;rintro e w2 ⟨rfl,rfl⟩;rw [hth]))
     go_ret
     exact .inr ⟨ui hil HQ.o.symm hg,rfl,HB.o⟩
    | true =>
     rw [hg] at z1
     have HN:Hid (p9 (wr.setCell ⟨w.heap.size,k,none⟩ (.bool false)) w.heap.size 0 (gT t (l.take (i+1)))):=aa (by
      have:=HRS.o.set (x:=false) hk2 (Dg (t:=t) hil HQ.o.symm)
      rwa [Nat.zero_add] at this)
     have HNB:Hid (Below w.heap.size w (wr.setCell ⟨w.heap.size,k,none⟩ (.bool false))):=HB.o.setCell (Nat.le_refl _) _
     have HNO:=aa (Af hil HQ.o.symm hkn hg HOK.o)
     go_wp2_with (first|(go_at_call 237;refine (bY g pb n (k:Int) _ hx).mono ?_;rintro e w2 ⟨rfl,rfl⟩;rw [hth]))
     exact⟨⟨i+1,rfl,by omega,HNO.o,HN.o,HNB.o⟩,by simp [intOf];omega⟩
  ·obtain rfl:i=m:=by omega
   have hd:decide ((i:Int)<(i:Int))=false:=by simp
   have e0:l.take i=l:=by rw [List.take_of_length_le (by omega)]
   rw [e0] at HRS HOK
   have HA1:=aa (H.o.later HB.o)
   have HRW:=aa (HR.o.later HB.o)
   go_upto_region 10 with fail
   go_loopw [35] (Al wr g pb n t B l) (λk _=>i - (intOf k).toNat)
   case atStart=>exact⟨0,rfl,Nat.zero_le _,HA1.o.congr (by funext x j;simp [gB]),ae.refl _ _⟩
   case round =>
    obtain⟨j,rfl,hj,hA,hBt⟩:=hrel
    rename World=>wq
    have HA:=aa hA
    have HBt:=aa hBt
    clear hA hBt
    by_cases hjl:j<i
    ·have hd2:decide ((j:Int)<(i:Int))=true:=dT (by omega)
     have hil:j<l.length:=by omega
     obtain⟨b,o,rfl,hc⟩:=HRW.o.plain (by omega)
     have hbn:b≠pb:=HAP.o b ⟨_,rfl,rfl⟩
     have y:=aC HBt.o (hc j _ (ep l j hil)) hbn
     have hx:=HA.o.head
     obtain⟨hq1,hq2⟩:=HOK.o.1 _ (List.getElem_mem hil)
     obtain⟨k,hk⟩:∃k:Nat,l[j]=(k:Int):=⟨l[j].toNat,by simp [uE] at hq1;omega⟩
     rw [hk] at y hq1 hq2
     rw [Int.toNat_natCast] at hq2
     have hkn:k<n:=by simp [uE] at hq1;omega
     have HK:=aa hk
     clear hc hk hq1
     go_wp2_with (first|(go_at_call 259;refine (AV g pb n t (gB B (l.take j)) k _ HA.o hq2).mono ?_;rintro e w2 ⟨rfl,A2,B2⟩;have HA2:=aa A2;have HB2:=aa (HBt.o.trans B2);clear A2 B2))
     exact⟨⟨j+1,rfl,by omega,HA2.o.congr (Di hil HK.o).symm,HB2.o⟩,by simp [intOf];omega⟩
    ·obtain rfl:j=i:=by omega
     have hd2:decide ((j:Int)<(j:Int))=false:=by simp
     rw [e0] at HA
     have hne:w.heap.size≠pb:=by omega
     have hR2:=HRS.o.but HBt.o hne
     have HLD:=aa (zD hR2)
     have hm:p9 wq g 1 t:=HA.o.mark
     have hst:=uV hm (gT t l)
     have HN:=aa (HA.o.marks (u:=gT t l) (λx hx=>HA.o.only x (by simp [gT] at hx;exact hx.1)) (λx y hx=>by
      by_cases e:(x:Int)∈l
      ·simp [gB,e]
      ·have:t x=false:=by simpa [gT,e] using hx
       have:=HA.o.zero x y this
       simpa [gB,e] using this))
     obtain⟨L2,hL2⟩:∃L,L=rF (gT t l):=⟨_,rfl⟩
     have hll:L2.length=256:=by rw [hL2,bO]
     rw [<-hL2] at HLD hst HN
     have HNB:Hid (ae (λk=>k=g\/k=pb) w (wq.setCells g 1 L2)):=ae.setCells (S:=λk=>k=g\/k=pb) (.inl rfl) L2 1 ((ae.of HB.o).trans (HBt.o.mono (λ_ h=>.inr h)))
     clear hR2 hm hL2
     go_wp2_with (first|((with_reducible refine aP HLD.o ?_ ?_);· rfl))
     go_ret
     exact .inl ⟨HOK.o,rfl,HN.o,HNB.o⟩
end Go.Proofs.YtfmhdimaijimlaaGreatDoor.S
