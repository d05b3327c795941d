import Derived.Stop.BytesEq
import Derived.Lib.SliceRun
import Derived.Test.YtffmodpgddecnaaGreatDoorZ09
set_option linter.unusedVariables false
set_option linter.unusedSimpArgs false
set_option maxRecDepth 100000
set_option maxHeartbeats 1000000
namespace Go.Proofs.YtffmodpgddecnaaGreatDoor.S
open Go.RowKit
theorem jr:(Tryz.prog.info? 5).map (λi=>(i.zero,i.size,i.bytes))=some (some (.int .u8 0),1,1):=by kernel_rfl
def bG (l:List Nat):List Value:=l.map λ(n:Nat)=>Value.int .u8 (n:Int)
theorem aM (l:List Nat):(bG l).length=l.length:=by simp [bG]
theorem fE (l m:List Nat):bG (l++m)=bG l++bG m:=by simp [bG]
theorem fH (l:List Nat):∀u∈bG l,u.oneCell'=true:=by
 intro u hu;simp only [bG,List.mem_map] at hu;obtain⟨n,_,rfl⟩:=hu
 rfl
theorem fL {w:World}{base:Nat}{a:Option Addr}{n cap:Nat}{L:List Value}{b:Option Addr}{m c:Nat}{M:List Value}(h:Own w base 5 a n cap L)(k:Row w b m c M)(hb:base<=w.heap.size)(hr:n+m<=140737488355328) :
  ∃a' cap' w',(Builtin.append_ #[38,38] 38 #[.slice a n cap,.slice b m c]).run Tryz.prog w=.ok (.slice a' (n+m) cap') w'/\Own w' base 5 a' (n+m) cap' (L++M)/\Gr a a' w w' :=
 mC 38 5 _ 1 Tryz.underlying38 jr rfl h k hb (by omega) hr
structure di (w:World)(g pb n:Nat)(t:Nat->Bool)(B:Nat->Nat->Nat):Prop where
 ne:g≠pb
 le:n<=256
 head:w.cell? ⟨g,0,none⟩=some (.slice (some ⟨pb,0,none⟩) n n)
 mark:∀i,i<256->az w ⟨g,1+i,none⟩ (.bool (t i))
 kB:∀i j,i<n->j<64->az w ⟨pb,i*64+j,none⟩ (.int .u8 ((B i j:Nat):Int))
 lt:pb<w.heap.size
 only:∀i,t i=true->i<n
 zero:∀i j,t i=false->B i j=0
 small:∀i j,B i j<256
theorem di.but {S:Nat->Prop}{w w':World}{g pb n:Nat}{t:Nat->Bool}{B:Nat->Nat->Nat}(hb:ah S w w')(h:di w g pb n t B)(h1:¬S g)(h2:¬S pb):di w' g pb n t B :=
 ⟨h.ne,h.le,ag hb h.head h1,λi hi=>(h.mark i hi).but hb h1,λi j hi hj=>(h.kB i j hi hj).but hb h2,Nat.lt_of_lt_of_le h.lt hb.size,h.only,h.zero,h.small⟩
theorem di.later {w w':World}{g pb n:Nat}{t:Nat->Bool}{B:Nat->Nat->Nat}(hb:Below w.heap.size w w')(h:di w g pb n t B):di w' g pb n t B :=
 h.but (S:=λ_=>False) (ah.of hb) (λh=>h) (λh=>h)
theorem di.B9 {w:World}{g pb n:Nat}{t:Nat->Bool}{B:Nat->Nat->Nat}(h:di w g pb n t B):g<w.heap.size:=World.block_lt_of_cell? _ _ h.head
theorem Dy:(Tryz.prog.info? 311).map (λi=>(i.zero,i.size,i.bytes))=some (some (.agg (#[.slice none 0 0]++Array.replicate 256 (.bool false))),257,280):=by kernel_rfl
theorem aO {t:TypeId}{z:Value}{s b:Nat}(h:(Tryz.prog.info? t).map (λi=>(i.zero,i.size,i.bytes))=some (some z,s,b))(w:World):(zeroValue t).run Tryz.prog w=.ok z w:=by
 obtain⟨i,hi,hz0,hz1,hz2⟩:=info_parts h
 simp [zeroValue,typeInfo,hi,hz0]
theorem C7:∃Z:Array Value,(∀w,(zeroValue 311).run Tryz.prog w=.ok (.agg Z) w)/\Z.size=257/\∀i,i<256->Z[1+i]?=some (.bool false) :=
 ⟨_,aO Dy,by simp,λi hi=>by
  rw [Array.getElem?_append_right (by simp)];simp [hi]⟩
theorem oI:(Tryz.prog.info? 387).map (λi=>(i.zero,i.size,i.bytes))=some (some (.agg (Array.replicate 64 (.int .u8 0))),64,64):=by kernel_rfl
theorem td (w:World)(n:Nat)(hn:n<=256):∃w',(Instr.makeSlice 307 (.int .i64 (n:Int)) (.int .i64 (n:Int))).run Tryz.prog w=.ok (.slice (some ⟨w.heap.size,0,none⟩) n n) w' /\
  (∀j,j<n*64->az w' ⟨w.heap.size,j,none⟩ (.int .u8 0))/\w.heap.size<w'.heap.size/\Below w.heap.size w w':=by
 obtain⟨i,hi,hz0,hz1,hz2⟩:=info_parts oI
 obtain⟨w',hr,ho,hg⟩:=run_make_full (P:=Tryz.prog) w w.heap.size 307 387 i _ 64 Tryz.underlying307 hi hz0 hz1 .i64 .i64 n (by rw [hz2];omega) (by unfold maxLen;omega) (Nat.le_refl _)
 rcases ho.2 with ⟨h0,_⟩|⟨g,c,cur,hv,hg2,hh,hc,hm,hsz,htk⟩
 ·simp at h0
 ·simp only [Value.slice.injEq,Option.some.injEq,Addr.mk.injEq] at hv
  obtain⟨⟨rfl,_⟩,_,rfl⟩:=hv
  refine⟨w',hr,λj hj=>⟨?_,by simp [World.frozen?,hh]⟩,(Array.getElem?_eq_some_iff.1 hh).1,(Below.refl _ _).grown hg (Nat.le_refl _) (λk hk=>by cases hk)⟩
  have hq:=ho.cells (g:=w.heap.size) rfl j (.int .u8 0) (by
   simp only [madeCells,Array.getElem?_toList,Value.cells];simp [hj,Nat.mod_lt])
  rwa [aQ] at hq
theorem bU (n:Nat)(w:World)(hn:n<=256) :
  Calls Tryz.prog 168 #[.int .i64 (n:Int)] w λe w'=>∃g pb,e=.returned (.tuple #[.pointer (some ⟨g,0,none⟩),.int .i64 0])/\di w' g pb n (λ_=>false) (λ_ _=>0)/\w.heap.size<=g/\w.heap.size<=pb/\Below w.heap.size w w':=by
 obtain⟨w1,hmk,hl,hlt,hb⟩:=td w n hn
 obtain⟨Z,hz,hZs,hZi⟩:=C7
 have hZ0:(Z=#[])=False:=eq_false (λh=>by rw [h] at hZs;simp at hZs)
 have hd1:decide ((n:Int)<0)=false:=decide_eq_false (by omega)
 have hd2:decide ((n:Int)>256)=false:=decide_eq_false (by omega)
 have HL:Hid (∀j,j<n*64->az w1 ⟨w.heap.size,j,none⟩ (.int .u8 0)):=hl
 have HB:Hid (Below w.heap.size w w1):=hb
 have HZ:Hid (Z.size=257/\∀i,i<256->Z[1+i]?=some (.bool false)):=⟨hZs,hZi⟩
 clear hl hb hZs hZi;go_enter Tryz.func168,Tryz.ntmps168
 go_wp2;obtain⟨hZs,hZi⟩:=HZ.out
 have hb2:=ae w1 (.cells (Z.setIfInBounds 0 (Value.slice (some ⟨w.heap.size,0,none⟩) n n)) 311)
 have hh:=heap_alloc_new w1 (.cells (Z.setIfInBounds 0 (Value.slice (some ⟨w.heap.size,0,none⟩) n n)) 311)
 refine bodyPost_ret (v:=.tuple #[.pointer (some ⟨w1.heap.size,0,none⟩),.int .i64 0]) (by simp [results,Tryz.results168,go_sem]) rfl ⟨_,w.heap.size,rfl,⟨by omega,hn,?_,λi hi=>⟨?_,?_⟩,λi j hi hj=>?_,(by simp;omega),λ_ h=>(by cases h),λ_ _ _=>rfl,λ_ _=>(by omega)⟩,by omega,Nat.le_refl _,aa HB.out hb2⟩
 ·rw [cell_of_row _ _ _ _ _ _ hh]
  simp [hZs]
 ·rw [cell_of_row _ _ _ _ _ _ hh,Array.getElem?_setIfInBounds_ne (by omega)]
  exact hZi i hi
 ·simp only [World.frozen?,hh]
  simp
 ·exact (HL.out (i*64+j) (by omega)).later hb2
def uA (n:Nat)(p:Int):Bool:=decide (0<=p/\p<(n:Int))
theorem bo (g pb n:Nat)(p:Int)(w:World)(x:w.cell? ⟨g,0,none⟩=some (.slice (some ⟨pb,0,none⟩) n n)) :
  Calls Tryz.prog 372 #[.pointer (some ⟨g,0,none⟩),.int .i64 p] w λe w'=>e=.returned (.bool (uA n p))/\w'=w:=by
 unfold uA;by_cases h0:0<=p
 ·have hd:decide (0<=p/\p<(n:Int))=decide (p<(n:Int)):=by simp [h0]
  have hg:decide (p>=0)=true:=decide_eq_true h0
  go_enter Tryz.func372,Tryz.ntmps372
  go_wp2;go_ret;exact⟨au hd.symm,rfl⟩
 ·have hd:decide (0<=p/\p<(n:Int))=false:=by simp [h0]
  have hg:decide (p>=0)=false:=decide_eq_false h0
  go_enter Tryz.func372,Tryz.ntmps372
  go_wp2;go_ret;exact⟨rfl,rfl⟩
def fx (n:Nat)(t:Nat->Bool)(b:Bool):List Nat:=(List.range n).filter λi=>t i==b
def de (l:List Nat):List Int:=l.map λ(k:Nat)=>(k:Int)
theorem gl (l:List Nat):(de l).length=l.length:=by simp [de]
theorem qa (l m:List Nat):de (l++m)=de l++de m:=by simp [de]
theorem jz (n:Nat)(t:Nat->Bool)(b:Bool):fx (n+1) t b=fx n t b++(if t n==b then [n] else []):=by
 simp only [fx,List.range_succ,List.filter_append];congr 1
 by_cases h:t n==b<;>simp [h]
theorem tx (n:Nat)(t:Nat->Bool)(b:Bool):(fx n t b).length<=n:=by
 have:=List.length_filter_le (λi=>t i==b) (List.range n)
 simpa [fx] using this
theorem oE {n:Nat}{t:Nat->Bool}{b:Bool}{i:Nat}:i∈fx n t b↔i<n/\t i=b:=by simp [fx]
def Dv (w:World)(n:Nat)(t:Nat->Bool)(b:Bool)(v k:Value)(w':World):Prop :=
 ∃(i:Nat) (a:Option Addr) (m cap:Nat),v=.slice a m cap/\k=.int .i64 (i:Int)/\i<=n/\m<=i/\Own w' w.heap.size 3 a m cap (ints (de (fx i t b)))/\Below w.heap.size w w'
theorem lu (g pb n:Nat)(t:Nat->Bool)(B:Nat->Nat->Nat)(b:Bool)(w:World)(h:di w g pb n t B) :
  Calls Tryz.prog 319 #[.pointer (some ⟨g,0,none⟩),.bool b] w λe w'=>∃a m cap,e=.returned (.slice a m cap)/\Own w' w.heap.size 3 a m cap (ints (de (fx n t b)))/\Below w.heap.size w w':=by
 have x:=h.head
 have HA:Hid (di w g pb n t B):=h
 have hn:=h.le
 clear h;go_enter Tryz.func319,Tryz.ntmps319
 go_wp2;go_loopw [5,12] (Dv w n t b) (λ_ k _=>n - (intOf k).toNat)
 case atStart=>exact⟨0,none,0,0,rfl,rfl,Nat.zero_le _,Nat.le_refl _,Own.nil _ _ _,Below.refl _ _⟩
 case round =>
  clear x;obtain⟨i,a,m,cap,rfl,rfl,hi,hm,hO,hB⟩:=hrel
  have HO:Hid (Own wr w.heap.size 3 a m cap (ints (de (fx i t b)))):=hO
  have HB:Hid (Below w.heap.size w wr):=hB
  clear hO hB;by_cases hlt:i<n
  ·have hd:decide ((i:Int)<(n:Int))=true:=decide_eq_true (by omega)
   have y:=((HA.out.later HB.out).mark i (by omega)).1
   cases he:(t i==b) with
   | true =>
    obtain⟨a',cap',w2,hrun,hO2,hG⟩:=dA (HO.out.alloc (Obj.cells #[Value.int .i64 (i:Int)] 3)) (Row.single wr 3 (.int .i64 (i:Int)) rfl) (by have:=HB.out.size;simp;omega) (by omega)
    have PD:=ab hrun
    have hB2:Below w.heap.size w w2:=(HB.out.alloc HB.out.size _).trans (Gr.below (HO.out.alloc _) hG (by have:=HB.out.size;simp;omega))
    have PS:Hid (Own w2 w.heap.size 3 a' (m+1) cap' (ints (de (fx (i+1) t b)))):=by
     rw [jz,he,qa,bA];exact hO2
    have PB:=ab hB2
    clear hrun hO2 hG hB2;go_wp2_with (first|(at_builtin;refine al rfl _ _ 42 rfl _ _ rfl rfl _ w2 PD.out ?_))
    exact⟨⟨i+1,a',m+1,cap',rfl,rfl,by omega,by omega,PS.out,PB.out⟩,by simp [intOf];omega⟩
   | false =>
    have PS:Hid (Own wr w.heap.size 3 a m cap (ints (de (fx (i+1) t b)))):=by
     refine ab ?_
     rw [jz,he];simpa using HO.out
    go_wp2;exact⟨⟨i+1,a,m,cap,rfl,rfl,by omega,by omega,PS.out,HB.out⟩,by simp [intOf];omega⟩
  ·obtain rfl:i=n:=by omega
   have hd:decide ((i:Int)<(i:Int))=false:=by simp
   go_wp2;go_ret;exact⟨a,m,cap,rfl,HO.out,HB.out⟩
theorem zw (g pb n:Nat)(t:Nat->Bool)(B:Nat->Nat->Nat)(w:World)(h:di w g pb n t B) :
  Calls Tryz.prog 313 #[.pointer (some ⟨g,0,none⟩)] w λe w'=>e=.returned (.int .i64 ((fx n t false).length:Int))/\Below w.heap.size w w':=by
 have H:=ab h
 clear h;go_enter Tryz.func313,Tryz.ntmps313
 go_wp2_with (first|(go_at_call 319;refine (lu g pb n t B false _ H.out).mono ?_;rintro e w1 ⟨a,m,cap,rfl,O,hb⟩))
 go_ret;have hl:=O.len
 rw [aL,gl] at hl;exact⟨aT (by rw [hl]),hb⟩
def ke (n:Nat)(t:Nat->Bool)(p off m:Int):Int:=if uA n p=true/\t p.toNat=true then (if 0<=off/\0<=m/\m<=64 - off then 0 else 5) else 20
theorem jk (g pb n:Nat)(t:Nat->Bool)(B:Nat->Nat->Nat)(p off m:Int)(w:World)(h:di w g pb n t B)(ho:-9223372036854775808<=off/\off<9223372036854775808) :
  Calls Tryz.prog 330 #[.pointer (some ⟨g,0,none⟩),.int .i64 p,.int .i64 off,.int .i64 m] w λe w'=>e=.returned (.int .i64 (ke n t p off m))/\w'=w:=by
 have x:=h.head
 have H:=ab h
 have hn:=h.le
 clear h;have HW:Hid (0<=off->IntKind.i64.wrap (64 - off)=64 - off):=ab (λh=>by rw [IntKind.wrap_i64];omega)
 obtain⟨E,hE⟩:∃E,E=ke n t p off m:=⟨_,rfl⟩
 rw [<-hE];have HE:=ab hE
 clear hE;cases hth:uA n p with
 | false =>
  go_enter Tryz.func330,Tryz.ntmps330
  go_wp2_with (first|(go_at_call 372;refine (bo g pb n p _ x).mono ?_;rintro e w1 ⟨rfl,rfl⟩;rw [hth]))
  go_ret;exact⟨aT (by rw [HE.out];simp [ke,hth]),rfl⟩
 | true =>
  obtain⟨q,rfl⟩:∃q:Nat,p=(q:Int):=⟨p.toNat,by simp [uA] at hth;omega⟩
  have hq:q<n:=by simp [uA] at hth;omega
  have y:=(H.out.mark q (by omega)).1
  cases htq:t q with
  | false =>
   rw [htq] at y;go_enter Tryz.func330,Tryz.ntmps330
   go_wp2_with (first|(go_at_call 372;refine (bo g pb n (q:Int) _ x).mono ?_;rintro e w1 ⟨rfl,rfl⟩;rw [hth]))
   go_ret;exact⟨aT (by rw [HE.out];simp [ke,htq]),rfl⟩
  | true =>
   rw [htq] at y;have e1:ke n t (q:Int) off m=if 0<=off/\0<=m/\m<=64 - off then 0 else 5:=by simp [ke,hth,htq]
   rw [e1] at HE;clear e1 ho;by_cases h0:off<0
   ·have hd0:decide (off<0)=true:=decide_eq_true h0
    go_enter Tryz.func330,Tryz.ntmps330
    go_wp2_with (first|(go_at_call 372;refine (bo g pb n (q:Int) _ x).mono ?_;rintro e w1 ⟨rfl,rfl⟩;rw [hth]))
    go_ret;exact⟨aT (by rw [HE.out,if_neg (by omega)]),rfl⟩
   ·have hd0:decide (off<0)=false:=decide_eq_false h0
    by_cases h1:m<0
    ·have hd1:decide (m<0)=true:=decide_eq_true h1
     go_enter Tryz.func330,Tryz.ntmps330
     go_wp2_with (first|(go_at_call 372;refine (bo g pb n (q:Int) _ x).mono ?_;rintro e w1 ⟨rfl,rfl⟩;rw [hth]))
     go_ret;exact⟨aT (by rw [HE.out,if_neg (by omega)]),rfl⟩
    ·have hd1:decide (m<0)=false:=decide_eq_false h1
     have ew:IntKind.i64.wrap (64 - off)=64 - off:=HW.out (by omega)
     by_cases h2:m>64 - off
     ·have hd2:decide (m>64 - off)=true:=decide_eq_true h2
      go_enter Tryz.func330,Tryz.ntmps330
      go_wp2_with (first|(go_at_call 372;refine (bo g pb n (q:Int) _ x).mono ?_;rintro e w1 ⟨rfl,rfl⟩;rw [hth]))
      go_ret;exact⟨aT (by rw [HE.out,if_neg (by omega)]),rfl⟩
     ·have hd2:decide (m>64 - off)=false:=decide_eq_false h2
      go_enter Tryz.func330,Tryz.ntmps330
      go_wp2_with (first|(go_at_call 372;refine (bo g pb n (q:Int) _ x).mono ?_;rintro e w1 ⟨rfl,rfl⟩;rw [hth]))
      go_ret;exact⟨aT (by rw [HE.out,if_pos (by omega)]),rfl⟩
def yI (w:World)(a:Option Addr):Prop:=∀x,a=some x->∀j,w.frozen? ⟨x.block,j,none⟩=false
theorem _root_.Go.Proofs.YtffmodpgddecnaaGreatDoor.Own.soft {w:World}{base:Nat}{e:TypeId}{a:Option Addr}{n cap:Nat}{L:List Value}(h:Own w base e a n cap L):yI w a:=by
 intro x hx j;rcases h.row.2 with ⟨h1,hn⟩|⟨g,c,cur,hv,_,hh,hc,_⟩
 ·subst hx;simp at h1
 ·subst hx
  simp only [Value.slice.injEq,Option.some.injEq] at hv;obtain⟨rfl,_,rfl⟩:=hv
  simp [World.frozen?,hh]
theorem yI.but {S:Nat->Prop}{w w':World}{a:Option Addr}(hb:ah S w w')(h:yI w a)(hl:∀k,aJ a k->k<w.heap.size)(hn:∀k,aJ a k->¬S k):yI w' a:=λx hx j=>by
 have e:w'.frozen? ⟨x.block,j,none⟩=w.frozen? ⟨x.block,j,none⟩:=World.frozen?_of_block (hb.block x.block (hl _ ⟨x,hx,rfl⟩) (hn _ ⟨x,hx,rfl⟩))
 rw [e];exact h x hx j
structure rY (w:World)(base:Nat)(a:Option Addr)(n cap:Nat)(L:List Value):Prop where
 row:Row w a n cap L
 soft:yI w a
 ge:∀k,aJ a k->base<=k
 lt:∀k,aJ a k->k<w.heap.size
theorem rY.but {S:Nat->Prop}{w w':World}{base:Nat}{a:Option Addr}{n cap:Nat}{L:List Value}(hb:ah S w w')(h:rY w base a n cap L)(hn:∀k,aJ a k->¬S k):rY w' base a n cap L :=
 ⟨h.row.but hb hn,h.soft.but hb h.lt hn,h.ge,λk hk=>Nat.lt_of_lt_of_le (h.lt k hk) hb.size⟩
theorem _root_.Go.Proofs.YtffmodpgddecnaaGreatDoor.Own.K3 {w:World}{base:Nat}{e:TypeId}{a:Option Addr}{n cap:Nat}{L:List Value}(h:Own w base e a n cap L):rY w base a n cap L:=⟨h.read,h.soft,h.bT,h.lt⟩
def tk (t:Nat->Bool)(L:List Nat):Nat->Bool:=λi=>t i||decide (i∈L)
theorem BZ (t:Nat->Bool):tk t []=t:=by funext i;simp [tk]
theorem di.AG {w:World}{g pb n:Nat}{t u:Nat->Bool}{B:Nat->Nat->Nat}{k:Nat}{b:Bool}(h:di w g pb n t B)(hk:k<n)(hu:∀i,u i=if i=k then b else t i)(hC:∀i j,u i=false->B i j=0) :
  di (w.setCell ⟨g,1+k,none⟩ (.bool b)) g pb n u B:=by
 have hn:=h.le
 refine⟨h.ne,h.le,?_,λi hi=>?_,λi j hi hj=>(h.kB i j hi hj).other (λe=>h.ne (congrArg Addr.block e)),by simpa using h.lt,λi hi=>?_,hC,h.small⟩
 ·rw [World.cell?_setCell_other _ _ _ _ (λe=>by have:=congrArg Addr.off e;simp at this)]
  exact h.head
 ·rw [hu i]
  by_cases e:i=k
  ·subst e
   rw [if_pos rfl];exact (h.mark i hi).put
  ·rw [if_neg e]
   exact (h.mark i hi).other (λe2=>e (by have:=congrArg Addr.off e2;simp at this;omega))
 ·rw [hu i] at hi
  split at hi
  ·omega
  ·exact h.only i hi
def D1 (w1:World)(g pb n:Nat)(t:Nat->Bool)(B:Nat->Nat->Nat)(K:Nat)(v:Value)(w':World):Prop :=
 ∃i:Nat,v=.int .i64 (i:Int)/\i<=K/\di w' g pb n (tk t ((fx n t false).take i)) B/\ah (·=g) w1 w'
theorem iw (L:List Nat)(i:Nat)(h:i<L.length):(ints (de L))[i]?=some (.int .i64 ((L[i]:Nat):Int)):=by
 rw [ef _ i (by rw [gl];exact h)]
 simp [de]
theorem Ei (g pb n:Nat)(t:Nat->Bool)(B:Nat->Nat->Nat)(K:Nat)(w:World)(h:di w g pb n t B)(hk:K<=(fx n t false).length) :
  Calls Tryz.prog 258 #[.pointer (some ⟨g,0,none⟩),.int .i64 (K:Int)] w λe w'=>∃a,e=.returned (.tuple #[.slice a K K,.int .i64 0])/\rY w' w.heap.size a K K (ints (de ((fx n t false).take K))) /\
   di w' g pb n (tk t ((fx n t false).take K)) B/\ah (·=g) w w':=by
 have hd:decide ((K:Int)<0)=false:=decide_eq_false (by omega)
 have H:=ab h
 have HK:=ab hk
 have hgl:=h.B9
 have hn:=h.le
 have hK2:K<=256:=Nat.le_trans hk (Nat.le_trans (tx n t false) hn)
 clear h hk;go_enter Tryz.func258,Tryz.ntmps258
 go_upto_region 4 with (first|(go_at_call 319;refine (lu g pb n t B false _ H.out).mono ?_;rintro e w1 ⟨a,m,cap,rfl,O,hb⟩))
 have hl:=O.len
 rw [aL,gl] at hl;have hKm:K<=m:=by have:=HK.out;omega
 have hd2:decide ((K:Int)>(m:Int))=false:=decide_eq_false (by omega)
 have HL:=ab hl
 have HO:=ab O
 have HB:=ab hb
 have hcap:=O.read.cap_
 clear hl O hb;cases a with
 | none =>
  obtain⟨rfl,rfl⟩:=HO.out.read.none_ rfl
  obtain rfl:K=0:=by omega
  have HZ:Hid (di w1 g pb n (tk t ((fx n t false).take 0)) B):=ab (by rw [List.take_zero,BZ];exact H.out.later HB.out)
  simp only [Int.cast_ofNat_Int];go_wp2;go_loopw [21] (λk w'=>k=.int .i64 0/\w1=w') (λ_ _=>0)
  case atStart=>exact⟨rfl,rfl⟩
  case round =>
   obtain⟨rfl,rfl⟩:=hrel
   go_wp2;refine bodyPost_ret (v:=.tuple #[.slice none 0 0,.int .i64 0]) (by simp [results,Tryz.results258,go_sem]) rfl ⟨none,rfl,⟨?_,λ_ h=>(by cases h),λ_ h=>?_,λ_ h=>?_⟩,HZ.out,ah.of HB.out⟩
   ·exact dS _
   ·obtain⟨_,h,_⟩:=h
    cases h
   ·obtain⟨_,h,_⟩:=h
    cases h
 | some x =>
  obtain⟨gb,rfl,hgb⟩:∃gb,x=⟨gb,0,none⟩/\w.heap.size<=gb:=by
   rcases HO.out.row.2 with ⟨h1,hn⟩|⟨gb,c,cur,hv,hgb,_⟩
   ·simp at h1
   ·simp only [Value.slice.injEq,Option.some.injEq] at hv
    exact⟨gb,hv.1,hgb⟩
  go_upto_region 7 with fail
  go_loopw [21] (D1 w1 g pb n t B K) (λk _=>K - (intOf k).toNat)
  case atStart=>exact⟨0,rfl,Nat.zero_le _,by rw [List.take_zero,BZ];exact H.out.later HB.out,ah.refl _ _⟩
  case round =>
   obtain⟨i,rfl,hi,hA,hBt⟩:=hrel
   have HA:=ab hA
   have PH:=ab hBt
   clear hA hBt;by_cases hlt:i<K
   ·have hd3:decide ((i:Int)<(K:Int))=true:=decide_eq_true (by omega)
    have hil:i<(fx n t false).length:=by have:=HL.out;omega
    obtain⟨q,hq⟩:∃q,q=(fx n t false)[i]:=⟨_,rfl⟩
    have hqm:q<n/\t q=false:=oE.1 (by rw [hq];exact List.getElem_mem _)
    have hqn:=hqm.1
    have y:wr.cell? ⟨gb,i,none⟩=some (.int .i64 (q:Int)):=by
     have:=(HO.out.read.but PH.out (λk hk e=>by obtain⟨z,hz,rfl⟩:=hk;cases hz;simp only at e;omega)).cells _ rfl i _ (iw _ i hil)
     rw [aQ] at this;rw [hq];exact this
    have z:=HA.out.mark q (by omega)
    have z1:=z.1
    have z2:=z.2
    have HN:Hid (di (wr.setCell ⟨g,1+q,none⟩ (.bool true)) g pb n (tk t ((fx n t false).take (i+1))) B):=HA.out.AG hqn (λj=>by
     rw [List.take_add_one,List.getElem?_eq_getElem hil,<-hq];simp only [tk,Option.toList_some,List.mem_append,List.mem_singleton];by_cases e:j=q
     ·simp [e]
     ·simp [e]) (λj b hj=>H.out.zero j b (by simp [tk] at hj;exact hj.1))
    have TP:Hid (ah (·=g) w1 (wr.setCell ⟨g,1+q,none⟩ (.bool true))):=PH.out.setCell (p:=⟨g,1+q,none⟩) (show g=g from rfl) _
    clear z hq hqm;go_wp2;exact⟨⟨i+1,rfl,by omega,HN.out,TP.out⟩,by simp [intOf];omega⟩
   ·obtain rfl:i=K:=by omega
    go_wp2;have hO:=HO.out.K3.but PH.out (λk hk e=>by obtain⟨z,hz,rfl⟩:=hk;cases hz;simp only at e;omega)
    have hr:=hO.row.sub (m:=i) (c:=i) hKm (Nat.le_refl _) (λh=>by cases h)
    refine bodyPost_ret (v:=.tuple #[.slice (some ⟨gb,0,none⟩) i i,.int .i64 0]) (by simp [results,Tryz.results258,go_sem]) rfl ⟨_,rfl,⟨?_,hO.soft,hO.ge,hO.lt⟩,HA.out,(ah.of HB.out).trans PH.out⟩
    simpa [ints,de,List.map_take] using hr
theorem aV {P:Program}{w:World}{ops:Array Oper}{rest:List Oper}{a:Act}{Q:Exit->Act->World->Prop}{d:Option Tmp}{tt:TypeId}{ps:String}{af}{ty:TypeId}{x:Operand}{p v:Value}
  (hr:(Instr.loadAt ty p).run P w=.ok v w) (hx:a.eval x=p) (h:wpList P ops Q rest (a.put d v) w) :
  wpList P ops Q ({ dst:=d,op:=.load ty x,type:=tt,pos:=ps,after:=af,guard:=none }::rest) a w:=by
 refine wpList_plain rfl λK hK=>?_
 unfold Oper.wp execOp;simp only [hx,hr,Sem.run_bind,Sem.run_pure,Result.andThen_ok];exact hK _ _ h
theorem jN {P:Program}{w w':World}{ops:Array Oper}{rest:List Oper}{a:Act}{Q:Exit->Act->World->Prop}{d:Option Tmp}{tt:TypeId}{ps:String}{af}{t:TypeId}{x:Operand}{vx v:Value}
  (hr:(Builtin.clear_ #[t] tt #[vx]).run P w=.ok v w') (hx:a.eval x=vx) (h:wpList P ops Q rest (a.put d v) w') :
  wpList P ops Q ({ dst:=d,op:=.call { callee:=.builtin .clear,args:=#[x],argTypes:=#[t] },type:=tt,pos:=ps,after:=af,guard:=none }::rest) a w:=by
 refine wpList_plain rfl λK hK=>?_
 unfold Oper.wp execOp;simp only [resolve,invoke,builtin,Sem.run_bind,Sem.run_pure,Result.andThen_ok,List.map_toArray,List.map_cons,List.map_nil,hx,hr];exact hK _ _ h
theorem xZ (t:TypeId)(n:Nat)(ht:Tryz.prog.underlying t=some (.array n 5))(xs ys:List UInt8)(hx:xs.length=n)(hy:ys.length=n)(w:World) :
  (Op.equalIn 10000 t (.agg (xs.map Extern.Stop.cell).toArray) (.agg (ys.map Extern.Stop.cell).toArray)).run Tryz.prog w=.ok (xs==ys) w :=
 run_equalIn_bytes (P:=Tryz.prog) w 9998 t 5 n ht Tryz.underlying5 (λw=>by
  obtain⟨i,hi,hz0,hz1,hz2⟩:=info_parts jr
  simp [sizeOf,typeInfo,hi,hz1]) xs ys hx hy
def BB (B:Nat->Nat->Nat)(p off:Nat)(D:List Nat):Nat->Nat->Nat:=λi j=>if i=p/\off<=j/\j<off+D.length then D.getD (j - off) 0 else B i j
theorem ud {D:List Nat}(h:∀x∈D,x<256)(k:Nat):D.getD k 0<256:=by
 rw [List.getD_eq_getElem?_getD];cases hk:D[k]? with
 | none=>simp
 | some v=>simpa using h v (List.mem_of_getElem? hk)
theorem di.write {w:World}{g pb n:Nat}{t:Nat->Bool}{B:Nat->Nat->Nat}{p off:Nat}{D:List Nat}(h:di w g pb n t B)(hp:t p=true)(ho:off+D.length<=64)(hD:∀x∈D,x<256) :
  di (w.setCells pb (p*64+off) (bG D)) g pb n t (BB B p off D):=by
 have hpn:=h.only p hp
 have hne:=h.ne
 refine⟨h.ne,h.le,?_,λi hi=>⟨?_,?_⟩,λi j hi hj=>⟨?_,?_⟩,by rw [cO];exact h.lt,h.only,λi j hi=>?_,λi j=>?_⟩
 ·rw [World.cell?_setCells_out _ _ _ _ _ (λe=>absurd e hne)]
  exact h.head
 ·rw [World.cell?_setCells_out _ _ _ _ _ (λe=>absurd e hne)]
  exact (h.mark i hi).1
 ·rw [World.frozen?_setCells]
  exact (h.mark i hi).2
 ·unfold BB
  by_cases e:i=p/\off<=j/\j<off+D.length
  ·rw [if_pos e]
   obtain⟨rfl,e1,e2⟩:=e
   have hin:=World.cell?_setCells_in pb (bG D) (i*64+off) w (λk hk=>by
    rw [aM] at hk;have:=(h.kB i (off+k) hi (by omega)).1
    rw [<-Nat.add_assoc] at this;rw [this];rfl) (j - off) (by rw [aM];omega)
   have e3:i*64+off+(j - off)=i*64+j:=by omega
   rw [e3] at hin;rw [hin];simp [bG,List.getD_eq_getElem?_getD,List.getElem?_eq_getElem (show j - off<D.length by omega)]
  ·rw [if_neg e,World.cell?_setCells_out _ _ _ _ _ (λ_ _=>?_)]
   ·exact (h.kB i j hi hj).1
   ·rw [aM]
    show i*64+j<p*64+off\/p*64+off+D.length<=i*64+j
    omega
 ·rw [World.frozen?_setCells]
  exact (h.kB i j hi hj).2
 ·unfold BB
  rw [if_neg (λe=>by rw [e.1,hp] at hi;cases hi)]
  exact h.zero i j hi
 ·unfold BB
  split
  ·exact ud hD _
  ·exact h.small i j
def oZ (B:Nat->Nat->Nat)(p off m:Nat):List Nat:=(List.range m).map λk=>B p (off+k)
theorem dt (B:Nat->Nat->Nat)(p off m:Nat):(oZ B p off m).length=m:=by simp [oZ]
theorem o_ (B:Nat->Nat->Nat)(p off m k:Nat)(h:k<m):(bG (oZ B p off m))[k]?=some (.int .u8 ((B p (off+k):Nat):Int)):=by simp [bG,oZ,h]
theorem di.range {w:World}{g pb n:Nat}{t:Nat->Bool}{B:Nat->Nat->Nat}(h:di w g pb n t B){p:Nat}(hp:p<n):w.rangeAt pb (p*64) (bG (oZ B p 0 64)):=λj v hv=>by
 have hj:j<64:=by have:=(List.getElem?_eq_some_iff.1 hv).1;rwa [aM,dt] at this
 rw [o_ _ _ _ _ _ hj,Nat.zero_add] at hv;cases hv
 exact (h.kB p j hp hj).1
theorem D6:(Tryz.prog.info? 387).map (·.size)=some 64:=by kernel_rfl
theorem vf {w:World}{g pb n:Nat}{t:Nat->Bool}{B:Nat->Nat->Nat}(h:di w g pb n t B){p:Nat}(hp:p<n):(Instr.loadAt 387 (.pointer (some ⟨pb,p*64,none⟩))).run Tryz.prog w=.ok (.agg (bG (oZ B p 0 64)).toArray) w :=
 run_loadAt_mid (P:=Tryz.prog) w pb (p*64) 387 _ _ (h.range hp) Tryz.underlying387 rfl (by rw [D6,aM,dt])
theorem Au (L:List Nat)(h:∀x∈L,x<256):bG L=(L.map UInt8.ofNat).map Extern.Stop.cell:=by
 rw [bG,List.map_map];refine List.map_congr_left λx hx=>?_
 simp only [Function.comp,Extern.Stop.cell];rw [UInt8.toNat_ofNat_of_lt' (h x hx)];rfl
theorem tf:(Array.replicate 64 (Value.int .u8 0))=((List.replicate 64 (0:UInt8)).map Extern.Stop.cell).toArray:=by rfl
theorem di.congr {w:World}{g pb n:Nat}{t:Nat->Bool}{B C:Nat->Nat->Nat}(h:di w g pb n t B)(e:B=C):di w g pb n t C:=e ▸ h
theorem nz {w:World}{g pb n:Nat}{t:Nat->Bool}{B:Nat->Nat->Nat}(h:di w g pb n t B)(p off m:Nat):∀x∈oZ B p off m,x<256:=by
 intro x hx;simp only [oZ,List.mem_map] at hx;obtain⟨k,_,rfl⟩:=hx
 exact h.small _ _
theorem C9 (w:World):(zeroValue 5).run Tryz.prog w=.ok (.int .u8 0) w:=aO jr w
theorem y_ {B:Nat->Nat->Nat}{p:Nat}(h:oZ B p 0 64=List.replicate 64 0)(j:Nat)(hj:j<64):B p j=0:=by
 have:=congrArg (λl:List Nat=>l[j]?) h
 simp only [List.getElem?_replicate,hj,if_true] at this;simpa [oZ,hj] using this
theorem zt (g pb n:Nat)(t:Nat->Bool)(B:Nat->Nat->Nat)(p:Nat)(w:World)(h:di w g pb n t B)(hp:t p=true) :
  Calls Tryz.prog 389 #[.pointer (some ⟨pb,p*64,none⟩)] w λe w'=>e=.returned (.tuple #[])/\di w' g pb n t (λi j=>if i=p/\j<64 then 0 else B i j)/\ah (·=pb) w w':=by
 have hpn:=h.only p hp
 have hl:=vf h hpn
 have hz:=aO oI
 rw [Au _ (nz h p 0 64)] at hl;rw [tf] at hz;have hne:=xZ 387 64 Tryz.underlying387 ((oZ B p 0 64).map UInt8.ofNat) (List.replicate 64 0) (by rw [List.length_map,dt]) (by simp) w
 obtain⟨b,hb⟩:∃b,b=(List.map UInt8.ofNat (oZ B p 0 64)==List.replicate 64 0):=⟨_,rfl⟩
 rw [<-hb] at hne;have WG:=ab hb
 have hcl:=Lib.run_clear_slice (P:=Tryz.prog) w 38 5 0 (.int .u8 0) Tryz.underlying38 C9 rfl rfl pb (p*64) 64 64 (by omega) (λj hj=>by rw [(h.kB p j hpn hj).1];rfl) (λj hj=>(h.kB p j hpn hj).2)
 have H:=ab h
 obtain⟨o,ho⟩:∃o,o=p*64:=⟨_,rfl⟩
 rw [<-ho] at hl hcl ⊢
 have HO:=ab ho
 have Ui:=ab hcl
 have P9:=ab hl
 obtain⟨X,hX⟩:∃X,X=(List.map Extern.Stop.cell (List.map UInt8.ofNat (oZ B p 0 64))).toArray:=⟨_,rfl⟩
 obtain⟨Z,hZ⟩:∃Z,Z=(List.map Extern.Stop.cell (List.replicate 64 (0:UInt8))).toArray:=⟨_,rfl⟩
 rw [<-hX] at P9;rw [<-hX,<-hZ] at hne;rw [<-hZ] at hz;clear h ho hl hcl hX hZ hb;go_enter Tryz.func389,Tryz.ntmps389
 cases b with
 | true =>
  go_wp2_with (first|((with_reducible refine aV P9.out ?_ ?_);· rfl))
  refine bodyPost_end (v:=.tuple #[]) (by simp [results,Tryz.results389,go_sem]) rfl ⟨rfl,H.out.congr ?_,ah.refl _ _⟩
  have e:oZ B p 0 64=List.replicate 64 0:=by
   have h1:=eq_of_beq WG.out.symm
   have h2:=congrArg (List.map UInt8.toNat) h1
   rw [List.map_map,List.map_replicate] at h2;refine Eq.trans ?_ h2
   refine (List.map_congr_left (g:=id) (λx hx=>?_)).trans (List.map_id _) |>.symm
   exact UInt8.toNat_ofNat_of_lt' (nz H.out p 0 64 x hx)
  funext i j
  by_cases h1:i=p/\j<64
  ·rw [if_pos h1,h1.1]
   exact y_ e j h1.2
  ·rw [if_neg h1]
 | false =>
  go_wp2_with (first|((with_reducible refine aV P9.out ?_ ?_);· rfl)|((with_reducible refine jN Ui.out ?_ ?_);· rfl))
  have hA:=H.out.write (off:=0) (D:=List.replicate 64 0) hp (by simp) (λx hx=>by rw [List.eq_of_mem_replicate hx];omega)
  rw [Nat.add_zero,<-HO.out] at hA;refine bodyPost_end (v:=.tuple #[]) (by simp [results,Tryz.results389,go_sem]) rfl ⟨rfl,hA.congr ?_,ah.setCells (S:=(·=pb)) (show pb=pb from rfl) _ _ (ah.refl _ _)⟩
  funext i j
  unfold BB;by_cases h1:i=p/\j<64
  ·rw [if_pos ⟨h1.1,by simpa using h1.2⟩,if_pos h1]
   rw [List.getD_eq_getElem?_getD,List.getElem?_replicate];split<;>rfl
  ·rw [if_neg h1,if_neg (λe=>h1 ⟨e.1,by simpa using e.2⟩)]
theorem lT {n:Nat}{t:Nat->Bool}{p off m:Nat}(h:t p=true)(hn:p<n)(ho:off+m<=64):ke n t (p:Int) (off:Int) (m:Int)=0:=by
 unfold ke uA;rw [if_pos ⟨decide_eq_true (by omega),by simpa using h⟩,if_pos (by omega)]
theorem sN:Tryz.prog.arrayLen 387=64:=by kernel_rfl
theorem B3:Tryz.prog.underlying 387=some (.array (Tryz.prog.arrayLen 387) (Tryz.prog.elem 387)):=by kernel_rfl
theorem k9 (W:World):(sizeOf (Tryz.prog.elem 387)).run Tryz.prog W=.ok 1 W:=by
 have e:Tryz.prog.elem 387=5:=by kernel_rfl
 obtain⟨i,hi,hz0,hz1,hz2⟩:=info_parts jr
 rw [e];simp [sizeOf,typeInfo,hi,hz1]
theorem C1 (b o off m:Nat)(ho:off+m<=64):∃so,(m=0\/so=o+off)/\∀W:World,(Instr.sliceAt 387 (.pointer (some ⟨b,o,none⟩)) (some (.int .i64 (off:Int))) (some (.int .i64 ((off:Int)+(m:Int)))) (some (.int .i64 ((off:Int)+(m:Int))))).run Tryz.prog W=.ok (.slice (some ⟨b,so,none⟩) m m) W:=by
 have h:∀W:World,(Instr.sliceAt 387 (.pointer (some ⟨b,o,none⟩)) (some (.int .i64 (off:Int))) (some (.int .i64 ((off:Int)+(m:Int)))) (some (.int .i64 ((off:Int)+(m:Int))))).run Tryz.prog W=.ok (slicedAt ⟨b,o,none⟩ off (off+m) (off+m) 1) W:=λW=>by
  rw [run_sliceAt_array_lhm (P:=Tryz.prog) W 387 ⟨b,o,none⟩ B3 .i64 .i64 .i64 (off:Int) ((off:Int)+(m:Int)) ((off:Int)+(m:Int)) (by omega) (by omega) (by omega) (by rw [sN];omega),k9]
  have e:((off:Int)+(m:Int)).toNat=off+m:=by omega
  simp [e]
 by_cases hm:m=0
 ·subst hm
  exact⟨o,.inl rfl,λW=>by rw [h W];simp [slicedAt]⟩
 ·refine⟨o+off,.inr rfl,λW=>?_⟩
  rw [h W,slicedAt,if_neg (by omega),bB];simp
theorem IM (b o off:Nat)(ho:off<=64):∃so,(off=64\/so=o+off)/\∀W:World,(Instr.sliceAt 387 (.pointer (some ⟨b,o,none⟩)) (some (.int .i64 (off:Int))) none none).run Tryz.prog W=.ok (.slice (some ⟨b,so,none⟩) (64 - off) (64 - off)) W:=by
 have h:∀W:World,(Instr.sliceAt 387 (.pointer (some ⟨b,o,none⟩)) (some (.int .i64 (off:Int))) none none).run Tryz.prog W=.ok (slicedAt ⟨b,o,none⟩ off 64 64 1) W:=λW=>by
  rw [run_sliceAt_array_l (P:=Tryz.prog) W 387 ⟨b,o,none⟩ B3 .i64 (off:Int) (by omega) (by rw [sN];omega),k9,sN]
  simp
 by_cases hm:off=64
 ·subst hm
  exact⟨o,.inl rfl,λW=>by rw [h W];simp [slicedAt]⟩
 ·refine⟨o+off,.inr rfl,λW=>?_⟩
  rw [h W,slicedAt,if_neg (by omega),bB];simp
theorem CZ (B:Nat->Nat->Nat)(p off m k:Nat)(h:k<m)(ho:off+m<=64):(bG (oZ B p 0 64))[off+k]?=some (.int .u8 ((B p (off+k):Nat):Int)):=by
 rw [o_ _ _ _ _ _ (by omega),Nat.zero_add]
theorem py (g pb n:Nat)(t:Nat->Bool)(B:Nat->Nat->Nat)(p off m:Nat)(w:World)(h:di w g pb n t B)(hp:t p=true)(ho:off+m<=64) :
  Calls Tryz.prog 268 #[.pointer (some ⟨g,0,none⟩),.int .i64 (p:Int),.int .i64 (off:Int),.int .i64 (m:Int)] w λe w'=>∃a,e=.returned (.tuple #[.slice a m m,.int .i64 0])/\rY w' w.heap.size a m m (bG (oZ B p off m))/\Below w.heap.size w w':=by
 have x:=h.head
 have hpn:=h.only p hp
 have HE:=ab (lT hp hpn ho)
 have P9:=ab (vf h hpn)
 have hz:=aO oI
 obtain⟨Z,hZ⟩:∃Z,Z=Array.replicate 64 (Value.int .u8 0):=⟨_,rfl⟩
 rw [<-hZ] at hz;have H:=ab h
 obtain⟨L,hL⟩:∃L,L=bG (oZ B p 0 64):=⟨_,rfl⟩
 rw [<-hL] at P9;have hl:L.length=64:=by rw [hL,aM,dt]
 have ht:(w.alloc (.cells Z 387)).there w.heap.size 0 64:=λj hj=>by
  have hh:=heap_alloc_new w (.cells Z 387)
  exact⟨by rw [cell_of_row _ _ _ _ _ _ hh,hZ];simp [hj],by simp only [World.frozen?,hh];simp⟩
 have hst:(storeCells ⟨w.heap.size,0,none⟩ L).run Tryz.prog (w.alloc (.cells Z 387))=.ok () ((w.alloc (.cells Z 387)).setCells w.heap.size 0 L) :=
  run_storeCells_cells (P:=Tryz.prog) w.heap.size 0 L 0 _ (λj hj=>by rw [Nat.add_zero];exact (ht j (by omega)).1) (λj hj=>by rw [Nat.add_zero];exact (ht j (by omega)).2) (by rw [hL];exact fH _)
 have HT:=ab ht
 have HL:=ab hL
 have TV:=ab hl
 have Xw:=ab hZ
 clear h ht hL hZ;go_enter Tryz.func268,Tryz.ntmps268
 go_upto_region 4 with (first|(go_at_call 330;refine (jk g pb n t B (p:Int) (off:Int) (m:Int) _ H.out (by omega)).mono ?_;rintro e w1 ⟨rfl,rfl⟩;rw [HE.out]))
 obtain⟨so,hso,hcut⟩:=C1 w1.heap.size 0 off m ho
 have Wz:=ab hso
 clear hso;go_wp2_with (first|((with_reducible refine aV P9.out ?_ ?_);· rfl))
 have hB:Below w1.heap.size w1 ((w1.alloc (.cells Z 387)).setCells w1.heap.size 0 L):=ah.below (S:=(·=w1.heap.size)) (ae w1 (.cells Z 387)) (ah.setCells (S:=(·=w1.heap.size)) (show w1.heap.size=w1.heap.size from rfl) L 0 (ah.refl _ _)) (λk hk=>by rw [hk];exact Nat.le_refl _)
 refine bodyPost_ret (v:=.tuple #[.slice (some ⟨w1.heap.size,so,none⟩) m m,.int .i64 0]) (by simp [results,Tryz.results268,go_sem]) rfl ⟨_,rfl,⟨Row.at (by rw [aM,dt]) (Nat.le_refl _) (fH _) (λi v hv=>?_),λx hx j=>?_,λk hk=>?_,λk hk=>?_⟩,hB⟩
 ·have hi:i<m:=by have:=(List.getElem?_eq_some_iff.1 hv).1;rwa [aM,dt] at this
  rw [o_ _ _ _ _ _ hi] at hv;have hs:so=off:=by have:=Wz.out;omega
  rw [hs];have:=World.rangeAt_setCells_same (w1.alloc (.cells Z 387)) w1.heap.size 0 L (by rw [hl];exact HT.out) (off+i) v (by rw [HL.out,CZ B p off m i hi ho];exact hv)
  rwa [Nat.zero_add] at this
 ·cases hx
  rw [World.frozen?_setCells];have hh:=heap_alloc_new w1 (.cells Z 387)
  simp only [World.frozen?,hh];simp
 ·obtain⟨x,hx,rfl⟩:=hk
  cases hx
  exact Nat.le_refl _
 ·obtain⟨x,hx,rfl⟩:=hk
  cases hx
  rw [cO];simp
theorem di.copy {w:World}{g pb n:Nat}{t:Nat->Bool}{B:Nat->Nat->Nat}{p off so:Nat}{D:List Nat}{a:Option Addr}{m cap:Nat}(h:di w g pb n t B)(hp:t p=true)(ho:off+m<=64)(hD:∀x∈D,x<256)(hR:Row w a m cap (bG D))(hso:off=64\/so=p*64+off) :
  ∃v w',(Builtin.copy_ #[38,38] 3 #[.slice (some ⟨pb,so,none⟩) (64 - off) (64 - off),.slice a m cap]).run Tryz.prog w=.ok v w'/\di w' g pb n t (BB B p off D)/\ah (·=pb) w w':=by
 have hpn:=h.only p hp
 have hlen:=hR.len
 rw [aM] at hlen;by_cases hm:m=0
 ·subst hm
  refine⟨_,w,run_copy_none (P:=Tryz.prog) w 38 38 3 5 _ _ _ _ _ _ Tryz.underlying38 (by kernel_rfl) (by simp),h.congr ?_,ah.refl _ _⟩
  funext i j
  unfold BB;rw [if_neg (by omega)]
 ·obtain⟨b,o,rfl,hc⟩:=hR.plain (by omega)
  have hs:so=p*64+off:=by omega
  subst hs;have hpg:∀j,j<m->az w ⟨pb,p*64+off+j,none⟩ (.int .u8 ((B p (off+j):Nat):Int)):=λj hj=>by
   have:=h.kB p (off+j) hpn (by omega)
   rwa [<-Nat.add_assoc] at this
  have hlu:(bG D).length=m:=hR.len
  refine⟨_,_,run_copy_cells (P:=Tryz.prog) w 38 38 3 5 pb (p*64+off) (64 - off) (64 - off) ⟨b,o,none⟩ m cap (bG D) Tryz.underlying38 (by kernel_rfl) (by rw [hlu];exact (Nat.min_eq_left (by omega)).symm) (hR.cells _ rfl) (λj hj=>by rw [(hpg j (by omega)).1];rfl) (λj hj=>(hpg j (by omega)).2) (fH _),h.write hp (by omega) hD,ah.setCells (S:=(·=pb)) (show pb=pb from rfl) _ _ (ah.refl _ _)⟩
theorem mf (g pb n:Nat)(t:Nat->Bool)(B:Nat->Nat->Nat)(p off:Nat)(a:Option Addr)(m cap:Nat)(D:List Nat)(w:World)(h:di w g pb n t B)(hp:t p=true)(ho:off+m<=64)(hD:∀x∈D,x<256)(hR:Row w a m cap (bG D)) :
  Calls Tryz.prog 269 #[.pointer (some ⟨g,0,none⟩),.int .i64 (p:Int),.int .i64 (off:Int),.slice a m cap] w λe w'=>e=.returned (.int .i64 0)/\di w' g pb n t (BB B p off D)/\ah (·=pb) w w':=by
 have x:=h.head
 have hpn:=h.only p hp
 have HE:=ab (lT hp hpn ho)
 obtain⟨so,hso,hcut⟩:=IM pb (p*64) off (by omega)
 obtain⟨v,w2,hrun,hA,hB⟩:=h.copy hp ho hD hR hso
 have H:=ab h
 have HA:=ab hA
 clear h hA hR hso hD;go_enter Tryz.func269,Tryz.ntmps269
 go_upto_region 4 with (first|(go_at_call 330;refine (jk g pb n t B (p:Int) (off:Int) (m:Int) _ H.out (by omega)).mono ?_;rintro e w1 ⟨rfl,rfl⟩;rw [HE.out]))
 go_wp2;go_ret;exact⟨rfl,HA.out,hB⟩
theorem di.ext {w:World}{g pb n:Nat}{t:Nat->Bool}{B C:Nat->Nat->Nat}(h:di w g pb n t B)(e:∀i j,i<n->j<64->C i j=B i j)(hz:∀i j,t i=false->C i j=0)(hs:∀i j,C i j<256):di w g pb n t C :=
 ⟨h.ne,h.le,h.head,h.mark,λi j hi hj=>by rw [e i j hi hj];exact h.kB i j hi hj,h.lt,h.only,hz,hs⟩
theorem AK (g pb n:Nat)(t:Nat->Bool)(B:Nat->Nat->Nat)(p:Nat)(w:World)(h:di w g pb n t B)(hp:t p=true) :
  Calls Tryz.prog 389 #[.pointer (some ⟨pb,p*64,none⟩)] w λe w'=>e=.returned (.tuple #[])/\di w' g pb n t (λi j=>if i=p then 0 else B i j)/\ah (·=pb) w w':=by
 refine (zt g pb n t B p w h hp).mono ?_
 rintro e w' ⟨rfl,hA,hB⟩
 refine⟨rfl,hA.ext (λi j hi hj=>?_) (λi j hi=>?_) (λi j=>?_),hB⟩
 ·by_cases e:i=p
  ·simp [e,hj]
  ·simp [e]
 ·have:=h.zero i j hi
  split<;>simp_all
 ·have:=h.small i j
  split<;>omega
def rT (t:Nat->Bool):List Value:=(List.range 256).map λj=>.bool (t j)
theorem ct (t:Nat->Bool):(rT t).length=256:=by simp [rT]
theorem DB (t:Nat->Bool)(j:Nat)(hj:j<256):(rT t)[j]?=some (.bool (t j)):=by simp [rT,hj]
theorem DI (t:Nat->Bool):∀u∈rT t,u.oneCell'=true:=by
 intro u hu;simp only [rT,List.mem_map] at hu;obtain⟨n,_,rfl⟩:=hu
 rfl
theorem GS:(Tryz.prog.info? 309).map (·.size)=some 256:=by kernel_rfl
theorem C_:(Tryz.prog.info? 309).map (λi=>(i.zero,i.size,i.bytes))=some (some (.agg (Array.replicate 256 (.bool false))),256,256):=by kernel_rfl
def pN (w:World)(b o:Nat)(u:Nat->Bool):Prop:=∀j,j<256->az w ⟨b,o+j,none⟩ (.bool (u j))
theorem pN.but {S:Nat->Prop}{w w':World}{b o:Nat}{u:Nat->Bool}(hb:ah S w w')(h:pN w b o u)(hn:¬S b):pN w' b o u:=λj hj=>(h j hj).but hb hn
theorem pN.range {w:World}{b o:Nat}{u:Nat->Bool}(h:pN w b o u):w.rangeAt b o (rT u):=λj v hv=>by
 have hj:j<256:=by have:=(List.getElem?_eq_some_iff.1 hv).1;rwa [ct] at this
 rw [DB _ _ hj] at hv;cases hv
 exact (h j hj).1
theorem yr {w:World}{b o:Nat}{u:Nat->Bool}(h:pN w b o u):(Instr.loadAt 309 (.pointer (some ⟨b,o,none⟩))).run Tryz.prog w=.ok (.agg (rT u).toArray) w :=
 run_loadAt_mid (P:=Tryz.prog) w b o 309 _ _ h.range Tryz.underlying309 rfl (by rw [GS,ct])
theorem vE {w:World}{b o:Nat}{v:Nat->Bool}(h:pN w b o v)(u:Nat->Bool):(storeCells ⟨b,o,none⟩ (rT u)).run Tryz.prog w=.ok () (w.setCells b o (rT u)) :=
 run_storeCells_cells (P:=Tryz.prog) b o (rT u) 0 w (λj hj=>by rw [ct] at hj;rw [Nat.add_zero,(h j hj).1];rfl) (λj hj=>by rw [ct] at hj;rw [Nat.add_zero];exact (h j hj).2) (DI u)
theorem pN.put {w:World}{b o:Nat}{v:Nat->Bool}(h:pN w b o v)(u:Nat->Bool):pN (w.setCells b o (rT u)) b o u:=λj hj=>by
 refine⟨?_,by rw [World.frozen?_setCells];exact (h j hj).2⟩
 rw [World.cell?_setCells_in b (rT u) o w (λi hi=>by rw [ct] at hi;rw [(h i hi).1];rfl) j (by rw [ct];exact hj)]
 simp [rT]
theorem pN.set {w:World}{b o k:Nat}{v u:Nat->Bool}{x:Bool}(h:pN w b o v)(hk:k<256)(hu:∀i,u i=if i=k then x else v i):pN (w.setCell ⟨b,o+k,none⟩ (.bool x)) b o u:=λj hj=>by
 rw [hu j];by_cases e:j=k
 ·subst e
  rw [if_pos rfl];exact (h j hj).put
 ·rw [if_neg e]
  exact (h j hj).other (λe2=>e (by have:=congrArg Addr.off e2;simp at this;omega))
theorem CC (w:World):pN (w.alloc (.cells (Array.replicate 256 (.bool false)) 309)) w.heap.size 0 (λ_=>false):=λj hj=>by
 have hh:=heap_alloc_new w (.cells (Array.replicate 256 (.bool false)) 309)
 exact⟨by rw [cell_of_row _ _ _ _ _ _ hh];simp [hj],by simp only [World.frozen?,hh];simp⟩
def DH (n:Nat)(t:Nat->Bool)(l:List Int):Prop:=(∀x∈l,uA n x=true/\t x.toNat=true)/\l.Nodup
def gT (t:Nat->Bool)(l:List Int):Nat->Bool:=λj=>t j&&!decide ((j:Int)∈l)
def gB (B:Nat->Nat->Nat)(l:List Int):Nat->Nat->Nat:=λi j=>if (i:Int)∈l then 0 else B i j
theorem di.marks {w:World}{g pb n:Nat}{t u:Nat->Bool}{B:Nat->Nat->Nat}(h:di w g pb n t B)(hu:∀i,u i=true->i<n)(hz:∀i j,u i=false->B i j=0):di (w.setCells g 1 (rT u)) g pb n u B:=by
 have hR:pN w g 1 t:=h.mark
 have hne:=h.ne
 refine⟨h.ne,h.le,?_,hR.put u,λi j hi hj=>⟨?_,?_⟩,by rw [cO];exact h.lt,hu,hz,h.small⟩
 ·rw [World.cell?_setCells_out _ _ _ _ _ (λ_ _=>.inl (show 0<1 by omega))]
  exact h.head
 ·rw [World.cell?_setCells_out _ _ _ _ _ (λe=>absurd e.symm hne)]
  exact (h.kB i j hi hj).1
 ·rw [World.frozen?_setCells]
  exact (h.kB i j hi hj).2
def yz (w:World)(n:Nat)(t:Nat->Bool)(l:List Int)(rb:Nat)(v:Value)(w':World):Prop :=
 ∃i:Nat,v=.int .i64 (i:Int)/\i<=l.length/\DH n t (l.take i)/\pN w' rb 0 (gT t (l.take i))/\Below w.heap.size w w'
def Ag (w1:World)(g pb n:Nat)(t:Nat->Bool)(B:Nat->Nat->Nat)(l:List Int)(v:Value)(w':World):Prop :=
 ∃i:Nat,v=.int .i64 (i:Int)/\i<=l.length/\di w' g pb n t (gB B (l.take i))/\ah (·=pb) w1 w'
theorem dq (l:List Int)(i:Nat)(h:i<l.length):l.take (i+1)=l.take i++[l[i]]:=by
 rw [List.take_add_one,List.getElem?_eq_getElem h];rfl
theorem rq {n:Nat}{t:Nat->Bool}{l:List Int}{i:Nat}(hi:i<l.length)(h:uA n l[i]=false):¬DH n t l:=λhg=>by
 have:=(hg.1 _ (List.getElem_mem hi)).1
 rw [h] at this;cases this
theorem sn {n:Nat}{t:Nat->Bool}{l:List Int}{i k:Nat}(hi:i<l.length)(hk:l[i]=(k:Int))(h:gT t (l.take i) k=false):¬DH n t l:=λhg=>by
 have h1:=(hg.1 _ (List.getElem_mem hi)).2
 rw [hk,Int.toNat_natCast] at h1;simp only [gT,h1,Bool.true_and,Bool.not_eq_false',decide_eq_true_eq] at h;have h2:=(List.take_sublist (i+1) l).nodup hg.2
 rw [dq l i hi,hk,List.nodup_append] at h2;exact h2.2.2 _ h _ (by simp) rfl
theorem Bs {n:Nat}{t:Nat->Bool}{l:List Int}{i k:Nat}(hi:i<l.length)(hk:l[i]=(k:Int))(hkn:k<n)(h:gT t (l.take i) k=true)(hg:DH n t (l.take i)):DH n t (l.take (i+1)):=by
 simp only [gT,Bool.and_eq_true,Bool.not_eq_true',decide_eq_false_iff_not] at h;rw [dq l i hi,hk];refine⟨λx hx=>?_,?_⟩
 ·rcases List.mem_append.1 hx with h1|h1
  ·exact hg.1 x h1
  ·simp only [List.mem_singleton] at h1
   subst h1;exact⟨decide_eq_true (by omega),by rw [Int.toNat_natCast];exact h.1⟩
 ·rw [List.nodup_append]
  refine⟨hg.2,by simp,λx hx y hy e=>?_⟩
  simp only [List.mem_singleton] at hy;rw [e,hy] at hx;exact h.2 hx
theorem Dt {t:Nat->Bool}{l:List Int}{i k:Nat}(hi:i<l.length)(hk:l[i]=(k:Int))(j:Nat):gT t (l.take (i+1)) j=if j=k then false else gT t (l.take i) j:=by
 rw [dq l i hi,hk];simp only [gT,List.mem_append,List.mem_singleton];by_cases e:j=k
 ·simp [e]
 ·have:¬(j:Int)=(k:Int):=by omega
  simp [e,this]
theorem DK {B:Nat->Nat->Nat}{l:List Int}{i k:Nat}(hi:i<l.length)(hk:l[i]=(k:Int)):gB B (l.take (i+1))=λx j=>if x=k then 0 else gB B (l.take i) x j:=by
 funext x j
 rw [dq l i hi,hk];simp only [gB,List.mem_append,List.mem_singleton];by_cases e:x=k
 ·simp [e]
 ·have:¬(x:Int)=(k:Int):=by omega
  simp [e,this]
theorem AN (g pb n:Nat)(t:Nat->Bool)(B:Nat->Nat->Nat)(a:Option Addr)(m cap:Nat)(l:List Int)(w:World)(h:di w g pb n t B)(hR:Row w a m cap (ints l))(hm63:m<9223372036854775807)(hap:∀k,aJ a k->k≠pb) :
  Calls Tryz.prog 366 #[.pointer (some ⟨g,0,none⟩),.slice a m cap] w λe w'=>(DH n t l/\e=.returned (.int .i64 0)/\di w' g pb n (gT t l) (gB B l)/\ah (λk=>k=g\/k=pb) w w')\/(¬DH n t l/\e=.returned (.int .i64 20)/\Below w.heap.size w w'):=by
 have P9:=ab (yr (w:=w) (b:=g) (o:=1) h.mark)
 have hz:=aO C_
 obtain⟨Z,hZ⟩:∃Z,Z=Array.replicate 256 (Value.bool false):=⟨_,rfl⟩
 have hr0:=CC w
 rw [<-hZ] at hz hr0;have hst:=vE hr0 t
 have hR1:=hr0.put t
 obtain⟨L,hL⟩:∃L,L=rT t:=⟨_,rfl⟩
 have hll:L.length=256:=by rw [hL,ct]
 rw [<-hL] at hst P9 hR1;obtain⟨w1,hw1⟩:∃w1,w1=(w.alloc (.cells Z 309)).setCells w.heap.size 0 L:=⟨_,rfl⟩
 rw [<-hw1] at hst hR1;have hB1:Below w.heap.size w w1:=by
  rw [hw1];exact ah.below (S:=(·=w.heap.size)) (ae w (.cells Z 309)) (ah.setCells (S:=(·=w.heap.size)) (show w.heap.size=w.heap.size from rfl) L 0 (ah.refl _ _)) (λk hk=>by rw [hk];exact Nat.le_refl _)
 have PC:=ab hB1
 have QD:=ab hR1
 have H:=ab h
 have HR:=ab hR
 have hgl:=h.B9
 have hpl:=h.lt
 have hn:=h.le
 have hlen:l.length=m:=by have:=hR.len;rwa [aL] at this
 have RX:=ab hap
 clear h hR hL hZ hr0 hR1 hw1 hB1 hap;go_enter Tryz.func366,Tryz.ntmps366
 go_upto_region 2 with (first|((with_reducible refine aV P9.out ?_ ?_);· rfl))
 clear P9 hz hst hll;go_upto_region 3 with fail
 go_loopw [16] (yz w n t l w.heap.size) (λk _=>m - (intOf k).toNat)
 case atStart=>exact⟨0,rfl,Nat.zero_le _,⟨λx hx=>by simp at hx,by simp⟩,by
  have e:gT t (l.take 0)=t:=by funext j;simp [gT]
  rw [e];exact QD.out,PC.out⟩
 case round =>
  clear QD PC;obtain⟨i,rfl,hi,hok,hrst,hB⟩:=hrel
  have T4:=ab hrst
  have HB:=ab hB
  have RQ:=ab hok
  clear hrst hB hok;by_cases hlt:i<m
  ·have hd:decide ((i:Int)<(m:Int))=true:=decide_eq_true (by omega)
   obtain⟨b,o,rfl,hc⟩:=HR.out.plain (by omega)
   have y:=cell_later HB.out (hc i _ (ef l i (by omega)))
   have hx:=(H.out.later HB.out).head
   obtain⟨q,hq⟩:∃q,q=l[i]:=⟨_,rfl⟩
   rw [<-hq] at y;have HQ:=ab hq
   clear hc hq;have hil:i<l.length:=by omega
   cases hth:uA n q with
   | false =>
    go_wp2_with (first|(go_at_call 372;refine (bo g pb n q _ hx).mono ?_;rintro e w2 ⟨rfl,rfl⟩;rw [hth]))
    go_ret;exact .inr ⟨rq hil (by rw [<-HQ.out];exact hth),rfl,HB.out⟩
   | true =>
    obtain⟨k,rfl⟩:∃k:Nat,q=(k:Int):=⟨q.toNat,by simp [uA] at hth;omega⟩
    have hkn:k<n:=by simp [uA] at hth;omega
    have hk2:k<256:=by omega
    have z:=T4.out k hk2
    rw [Nat.zero_add] at z;have z1:=z.1
    have z2:=z.2
    clear z;cases hg:gT t (l.take i) k with
    | false =>
     rw [hg] at z1;go_wp2_with (first|(go_at_call 372;refine (bo g pb n (k:Int) _ hx).mono ?_;rintro e w2 ⟨rfl,rfl⟩;rw [hth]))
     go_ret;exact .inr ⟨sn hil HQ.out.symm hg,rfl,HB.out⟩
    | true =>
     rw [hg] at z1;have HN:Hid (pN (wr.setCell ⟨w.heap.size,k,none⟩ (.bool false)) w.heap.size 0 (gT t (l.take (i+1)))):=ab (by
      have:=T4.out.set (x:=false) hk2 (Dt (t:=t) hil HQ.out.symm)
      rwa [Nat.zero_add] at this)
     have TP:Hid (Below w.heap.size w (wr.setCell ⟨w.heap.size,k,none⟩ (.bool false))):=HB.out.setCell (Nat.le_refl _) _
     have WT:=ab (Bs hil HQ.out.symm hkn hg RQ.out)
     go_wp2_with (first|(go_at_call 372;refine (bo g pb n (k:Int) _ hx).mono ?_;rintro e w2 ⟨rfl,rfl⟩;rw [hth]))
     exact⟨⟨i+1,rfl,by omega,WT.out,HN.out,TP.out⟩,by simp [intOf];omega⟩
  ·obtain rfl:i=m:=by omega
   have hd:decide ((i:Int)<(i:Int))=false:=by simp
   have e0:l.take i=l:=by rw [List.take_of_length_le (by omega)]
   rw [e0] at T4 RQ;have QI:=ab (H.out.later HB.out)
   have WL:=ab (HR.out.later HB.out)
   go_upto_region 10 with fail
   go_loopw [35] (Ag wr g pb n t B l) (λk _=>i - (intOf k).toNat)
   case atStart=>exact⟨0,rfl,Nat.zero_le _,QI.out.congr (by funext x j;simp [gB]),ah.refl _ _⟩
   case round =>
    obtain⟨j,rfl,hj,hA,hBt⟩:=hrel
    rename World=>wq
    have HA:=ab hA
    have PH:=ab hBt
    clear hA hBt;by_cases hjl:j<i
    ·have hd2:decide ((j:Int)<(i:Int))=true:=decide_eq_true (by omega)
     have hil:j<l.length:=by omega
     obtain⟨b,o,rfl,hc⟩:=WL.out.plain (by omega)
     have hbn:b≠pb:=RX.out b ⟨_,rfl,rfl⟩
     have y:=ag PH.out (hc j _ (ef l j hil)) hbn
     have hx:=HA.out.head
     obtain⟨hq1,hq2⟩:=RQ.out.1 _ (List.getElem_mem hil)
     obtain⟨k,hk⟩:∃k:Nat,l[j]=(k:Int):=⟨l[j].toNat,by simp [uA] at hq1;omega⟩
     rw [hk] at y hq1 hq2;rw [Int.toNat_natCast] at hq2;have hkn:k<n:=by simp [uA] at hq1;omega
     have HK:=ab hk
     clear hc hk hq1;go_wp2_with (first|(go_at_call 389;refine (AK g pb n t (gB B (l.take j)) k _ HA.out hq2).mono ?_;rintro e w2 ⟨rfl,A2,B2⟩;have QZ:=ab A2;have PB:=ab (PH.out.trans B2);clear A2 B2))
     exact⟨⟨j+1,rfl,by omega,QZ.out.congr (DK hil HK.out).symm,PB.out⟩,by simp [intOf];omega⟩
    ·obtain rfl:j=i:=by omega
     have hd2:decide ((j:Int)<(j:Int))=false:=by simp
     rw [e0] at HA;have hne:w.heap.size≠pb:=by omega
     have hR2:=T4.out.but PH.out hne
     have P9:=ab (yr hR2)
     have hm:pN wq g 1 t:=HA.out.mark
     have hst:=vE hm (gT t l)
     have HN:=ab (HA.out.marks (u:=gT t l) (λx hx=>HA.out.only x (by simp [gT] at hx;exact hx.1)) (λx y hx=>by
      by_cases e:(x:Int)∈l
      ·simp [gB,e]
      ·have:t x=false:=by simpa [gT,e] using hx
       have:=HA.out.zero x y this
       simpa [gB,e] using this))
     obtain⟨L2,hL2⟩:∃L,L=rT (gT t l):=⟨_,rfl⟩
     have hll:L2.length=256:=by rw [hL2,ct]
     rw [<-hL2] at P9 hst HN;have TP:Hid (ah (λk=>k=g\/k=pb) w (wq.setCells g 1 L2)):=ah.setCells (S:=λk=>k=g\/k=pb) (.inl rfl) L2 1 ((ah.of HB.out).trans (PH.out.mono (λ_ h=>.inr h)))
     clear hR2 hm hL2;go_wp2_with (first|((with_reducible refine aV P9.out ?_ ?_);· rfl))
     go_ret;exact .inl ⟨RQ.out,rfl,HN.out,TP.out⟩
end Go.Proofs.YtffmodpgddecnaaGreatDoor.S
