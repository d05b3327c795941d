import Derived.Test.YtfmhdimaijimlaaGreatDoorE07
import Derived.Stop.BytesEq
import Derived.Lib.SliceRun
set_option linter.all false
set_option maxRecDepth 1000000
set_option maxHeartbeats 8000000
open Go.Proofs.Tryz
variable {w w' w1 w2:Go.World}{n m k i j b g base kn:Nat}{a:Option Go.Addr}
namespace Go.Proofs.YtfmhdimaijimlaaGreatDoor.S
open Go.RowKit
theorem info5:(prog.info? 5).map (λi=>(i.zero,i.size,i.bytes))=some (some (.int .u8 0),1,1):=by kernel_rfl
def u8s (l:List Nat):List Value:=l.map λ(n:Nat)=>Value.int .u8 (n:Int)
theorem u8s_length (l:List Nat):(u8s l).length=l.length:=by simp [u8s]
theorem u8s_append (l m:List Nat):u8s (l++m)=u8s l++u8s m:=by simp [u8s]
theorem u8s_one (l:List Nat):∀u∈u8s l,u.oneCell'=true:=by
 intro u hu
 simp only [u8s,List.mem_map] at hu
 obtain⟨n,_,rfl⟩:=hu
 rfl
theorem append_bytes {cap:Nat}{L:List Value}{b:Option Addr}{c:Nat}{M:List Value}(h:Own w base 5 a n cap L)(k:Row w b m c M)(hb:base≤w.heap.size)(hr:n+m≤140737488355328) :
  ∃a' cap' w',(Builtin.append_ #[39,39] 39 #[.slice a n cap,.slice b m c]).run prog w=.ok (.slice a' (n+m) cap') w'∧Own w' base 5 a' (n+m) cap' (L++M)∧Gr a a' w w' :=
 append_gen 39 5 _ 1 underlying39 info5 rfl h k hb (by omega) hr
structure Arn (w:World)(g pb n:Nat)(t:Nat→Bool)(B:Nat→Nat→Nat):Prop where
 ne:g≠pb
 le:n≤256
 head:w.cell? ⟨g,0,none⟩=some (.slice (some ⟨pb,0,none⟩) n n)
 mark:∀i,i<256→Lies w ⟨g,1+i,none⟩ (.bool (t i))
 page:∀i j,i<n→j<64→Lies w ⟨pb,i*64+j,none⟩ (.int .u8 ((B i j:Nat):Int))
 lt:pb<w.heap.size
 only:∀i,t i=true→i<n
 zero:∀i j,t i=false→B i j=0
 small:∀i j,B i j<256
theorem Arn.but {S:Nat→Prop}{pb:Nat}{t:Nat→Bool}{B:Nat→Nat→Nat}(hb:But S w w')(h:Arn w g pb n t B)(h1:¬S g)(h2:¬S pb):Arn w' g pb n t B :=
 ⟨h.ne,h.le,cb_ hb h.head h1,λi hi=>(h.mark i hi).but hb h1,λi j hi hj=>(h.page i j hi hj).but hb h2,Nat.lt_of_lt_of_le h.lt hb.size,h.only,h.zero,h.small⟩
theorem Arn.later {pb:Nat}{t:Nat→Bool}{B:Nat→Nat→Nat}(hb:Below w.heap.size w w')(h:Arn w g pb n t B):Arn w' g pb n t B :=
 h.but (S:=λ_=>False) (But.of hb) (λh=>h) (λh=>h)
theorem Arn.glt {pb:Nat}{t:Nat→Bool}{B:Nat→Nat→Nat}(h:Arn w g pb n t B):g<w.heap.size:=World.block_lt_of_cell? _ _ h.head
theorem info230:(prog.info? 230).map (λi=>(i.zero,i.size,i.bytes))=some (some (.agg (#[.slice none 0 0]++Array.replicate 256 (.bool false))),257,280):=by kernel_rfl
theorem zero_of {t:TypeId}{z:Value}{s:Nat}(h:(prog.info? t).map (λi=>(i.zero,i.size,i.bytes))=some (some z,s,b))(w:World):(zeroValue t).run prog w=.ok z w:=by
 obtain⟨i,hi,hz0,hz1,hz2⟩:=info_parts h
 simp [zeroValue,typeInfo,hi,hz0]
theorem zero100:∃Z:Array Value,(∀w,(zeroValue 230).run prog w=.ok (.agg Z) w)∧Z.size=257∧∀i,i<256→Z[1+i]?=some (.bool false) :=
 ⟨_,zero_of info230,by simp,λi hi=>by
  rw [Array.getElem?_append_right (by simp)]
  simp [hi]⟩
theorem info297:(prog.info? 297).map (λi=>(i.zero,i.size,i.bytes))=some (some (.agg (Array.replicate 64 (.int .u8 0))),64,64):=by kernel_rfl
theorem make_pages (w:World)(n:Nat)(hn:n≤256):∃w',(Instr.makeSlice 226 (.int .i64 (n:Int)) (.int .i64 (n:Int))).run prog w=.ok (.slice (some ⟨w.heap.size,0,none⟩) n n) w' ∧
  (∀j,j<n*64→Lies w' ⟨w.heap.size,j,none⟩ (.int .u8 0))∧w.heap.size<w'.heap.size∧Below w.heap.size w w':=by
 obtain⟨i,hi,hz0,hz1,hz2⟩:=info_parts info297
 obtain⟨w',hr,ho,hg⟩:=run_make_full (P:=prog) w w.heap.size 226 297 i _ 64 underlying226 hi hz0 hz1 .i64 .i64 n (by rw [hz2];omega) (by unfold maxLen;omega) (Nat.le_refl _)
 rcases ho.2 with ⟨h0,_⟩|⟨g,c,cur,hv,hg2,hh,hc,hm,hsz,htk⟩
 ·simp at h0
 ·simp only [Value.slice.injEq,Option.some.injEq,Addr.mk.injEq] at hv
  obtain⟨⟨rfl,_⟩,_,rfl⟩:=hv
  refine⟨w',hr,λj hj=>⟨?_,by simp [World.frozen?,hh]⟩,(Array.getElem?_eq_some_iff.1 hh).1,(Below.refl _ _).grown hg (Nat.le_refl _) (λk hk=>by cases hk)⟩
  have hq:=ho.cells (g:=w.heap.size) rfl j (.int .u8 0) (by
   simp only [madeCells,Array.getElem?_toList,Value.cells]
   simp [hj,Nat.mod_lt])
  rwa [aa_] at hq
theorem new_ok (n:Nat)(w:World)(hn:n≤256) :
  Calls prog 84 #[.int .i64 (n:Int)] w λe w'=>∃g pb,e=.returned (.tuple #[.pointer (some ⟨g,0,none⟩),.int .i64 0])∧Arn w' g pb n (λ_=>false) (λ_ _=>0)∧w.heap.size≤g∧w.heap.size≤pb∧Below w.heap.size w w':=by
 obtain⟨w1,hmk,hl,hlt,hb⟩:=make_pages w n hn
 obtain⟨Z,hz,hZs,hZi⟩:=zero100
 have hZ0:(Z=#[])=False:=eq_false (λh=>by rw [h] at hZs;simp at hZs)
 have hd1:decide ((n:Int)<0)=false:=dF (by omega)
 have hd2:decide ((n:Int)>256)=false:=dF (by omega)
 have HL:Hid (∀j,j<n*64→Lies w1 ⟨w.heap.size,j,none⟩ (.int .u8 0)):=hl
 have HB:Hid (Below w.heap.size w w1):=hb
 have HZ:Hid (Z.size=257∧∀i,i<256→Z[1+i]?=some (.bool false)):=⟨hZs,hZi⟩
 clear hl hb hZs hZi
 go_enter func84,ntmps84
 go_wp2
 obtain⟨hZs,hZi⟩:=HZ.o
 have hb2:=below1 w1 (.cells (Z.setIfInBounds 0 (Value.slice (some ⟨w.heap.size,0,none⟩) n n)) 230)
 have hh:=heap_alloc_new w1 (.cells (Z.setIfInBounds 0 (Value.slice (some ⟨w.heap.size,0,none⟩) n n)) 230)
 refine bodyPost_ret (v:=.tuple #[.pointer (some ⟨w1.heap.size,0,none⟩),.int .i64 0]) (by simp [results,results84,go_sem]) rfl ⟨_,w.heap.size,rfl,⟨by omega,hn,?_,λi hi=>⟨?_,?_⟩,λi j hi hj=>?_,(by simp;omega),λ_ h=>(by cases h),λ_ _ _=>rfl,λ_ _=>(by omega)⟩,by omega,Nat.le_refl _,b_c HB.o hb2⟩
 ·rw [cell_of_row _ _ _ _ _ _ hh]
  simp [hZs]
 ·rw [cell_of_row _ _ _ _ _ _ hh,Array.getElem?_setIfInBounds_ne (by omega)]
  exact hZi i hi
 ·simp only [World.frozen?,hh]
  simp
 ·exact (HL.o (i*64+j) (by omega)).later hb2
def thr (n:Nat)(p:Int):Bool:=decide (0≤p∧p<(n:Int))
theorem there_any (g pb n:Nat)(p:Int)(w:World)(x:w.cell? ⟨g,0,none⟩=some (.slice (some ⟨pb,0,none⟩) n n)) :
  Calls prog 237 #[.pointer (some ⟨g,0,none⟩),.int .i64 p] w λe w'=>e=.returned (.bool (thr n p))∧w'=w:=by
 unfold thr
 by_cases h0:0≤p
 ·have hd:decide (0≤p∧p<(n:Int))=decide (p<(n:Int)):=by simp [h0]
  have hg:decide (p≥0)=true:=dT h0
  go_enter func237,ntmps237
  go_wp2
  go_ret
  exact⟨rb_ hd.symm,rfl⟩
 ·have hd:decide (0≤p∧p<(n:Int))=false:=by simp [h0]
  have hg:decide (p≥0)=false:=dF h0
  go_enter func237,ntmps237
  go_wp2
  go_ret
  exact⟨rfl,rfl⟩
def lst (n:Nat)(t:Nat→Bool)(b:Bool):List Nat:=(List.range n).filter λi=>t i==b
def nats (l:List Nat):List Int:=l.map λ(k:Nat)=>(k:Int)
theorem nats_length (l:List Nat):(nats l).length=l.length:=by simp [nats]
theorem nats_append (l m:List Nat):nats (l++m)=nats l++nats m:=by simp [nats]
theorem lst_succ (n:Nat)(t:Nat→Bool)(b:Bool):lst (n+1) t b=lst n t b++(if t n==b then [n] else []):=by
 simp only [lst,List.range_succ,List.filter_append]
 congr 1
 by_cases h:t n==b<;>simp [h]
theorem lst_length (n:Nat)(t:Nat→Bool)(b:Bool):(lst n t b).length≤n:=by
 have:=List.length_filter_le (λi=>t i==b) (List.range n)
 simpa [lst] using this
theorem mem_lst {t:Nat→Bool}{b:Bool}:i∈lst n t b↔i<n∧t i=b:=by simp [lst]
def ListRel (w:World)(n:Nat)(t:Nat→Bool)(b:Bool)(v k:Value)(w':World):Prop :=
 ∃(i:Nat) (a:Option Addr) (m cap:Nat),v=.slice a m cap∧k=.int .i64 (i:Int)∧i≤n∧m≤i∧Own w' w.heap.size 3 a m cap (ints (nats (lst i t b)))∧Below w.heap.size w w'
theorem listed_any (g pb n:Nat)(t:Nat→Bool)(B:Nat→Nat→Nat)(b:Bool)(w:World)(h:Arn w g pb n t B) :
  Calls prog 195 #[.pointer (some ⟨g,0,none⟩),.bool b] w λe w'=>∃a m cap,e=.returned (.slice a m cap)∧Own w' w.heap.size 3 a m cap (ints (nats (lst n t b)))∧Below w.heap.size w w':=by
 have x:=h.head
 have HA:Hid (Arn w g pb n t B):=h
 have hn:=h.le
 clear h
 go_enter func195,ntmps195
 go_wp2
 go_loopw [5,12] (ListRel w n t b) (λ_ k _=>n - (intOf k).toNat)
 case atStart=>exact⟨0,none,0,0,rfl,rfl,Nat.zero_le _,Nat.le_refl _,Own.nil _ _ _,Below.refl _ _⟩
 case round =>
  clear x
  obtain⟨i,a,m,cap,rfl,rfl,hi,hm,hO,hB⟩:=hrel
  have HO:Hid (Own wr w.heap.size 3 a m cap (ints (nats (lst i t b)))):=hO
  have HB:Hid (Below w.heap.size w wr):=hB
  clear hO hB
  by_cases hlt:i<n
  ·have hd:decide ((i:Int)<(n:Int))=true:=dT (by omega)
   have y:=((HA.o.later HB.o).mark i (by omega)).1
   cases he:(t i==b) with
   | true =>
    obtain⟨a',cap',w2,hrun,hO2,hG⟩:=append_ints (HO.o.alloc (Obj.cells #[Value.int .i64 (i:Int)] 3)) (Row.single wr 3 (.int .i64 (i:Int)) rfl) (by have:=HB.o.size;simp;omega) (by omega)
    have HRUN:=hid hrun
    have hB2:Below w.heap.size w w2:=(HB.o.alloc HB.o.size _).trans (Gr.below (HO.o.alloc _) hG (by have:=HB.o.size;simp;omega))
    have HO2:Hid (Own w2 w.heap.size 3 a' (m+1) cap' (ints (nats (lst (i+1) t b)))):=by
     rw [lst_succ,he,nats_append,ints_append]
     exact hO2
    have HB2:=hid hB2
    clear hrun hO2 hG hB2
    go_wp2_with (first|(at_builtin;refine wk_ rfl _ _ 43 rfl _ _ rfl rfl _ w2 HRUN.o ?_))
    exact⟨⟨i+1,a',m+1,cap',rfl,rfl,by omega,by omega,HO2.o,HB2.o⟩,by simp [intOf];omega⟩
   | false =>
    have HO2:Hid (Own wr w.heap.size 3 a m cap (ints (nats (lst (i+1) t b)))):=by
     refine hid ?_
     rw [lst_succ,he]
     simpa using HO.o
    go_wp2
    exact⟨⟨i+1,a,m,cap,rfl,rfl,by omega,by omega,HO2.o,HB.o⟩,by simp [intOf];omega⟩
  ·obtain rfl:i=n:=by omega
   have hd:decide ((i:Int)<(i:Int))=false:=by simp
   go_wp2
   go_ret
   exact⟨a,m,cap,rfl,HO.o,HB.o⟩
theorem free_any (g pb n:Nat)(t:Nat→Bool)(B:Nat→Nat→Nat)(w:World)(h:Arn w g pb n t B) :
  Calls prog 189 #[.pointer (some ⟨g,0,none⟩)] w λe w'=>e=.returned (.int .i64 ((lst n t false).length:Int))∧Below w.heap.size w w':=by
 have H:=hid h
 clear h
 go_enter func189,ntmps189
 go_wp2_with (first|(go_at_call 195;refine (listed_any g pb n t B false _ H.o).mono ?_;rintro e w1 ⟨a,m,cap,rfl,O,hb⟩))
 go_ret
 have hl:=O.len
 rw [il_,nats_length] at hl
 exact⟨ret_int (by rw [hl]),hb⟩
def lookE (n:Nat)(t:Nat→Bool)(p off m:Int):Int:=if thr n p=true∧t p.toNat=true then (if 0≤off∧0≤m∧m≤64 - off then 0 else 5) else 20
theorem look_any (g pb n:Nat)(t:Nat→Bool)(B:Nat→Nat→Nat)(p off m:Int)(w:World)(h:Arn w g pb n t B)(ho:-9223372036854775808≤off∧off<9223372036854775808) :
  Calls prog 207 #[.pointer (some ⟨g,0,none⟩),.int .i64 p,.int .i64 off,.int .i64 m] w λe w'=>e=.returned (.int .i64 (lookE n t p off m))∧w'=w:=by
 have x:=h.head
 have H:=hid h
 have hn:=h.le
 clear h
 have HW:Hid (0≤off→IntKind.i64.wrap (64 - off)=64 - off):=hid (λh=>by rw [IntKind.wrap_i64];omega)
 obtain⟨E,hE⟩:∃E,E=lookE n t p off m:=⟨_,rfl⟩
 rw [←hE]
 have HE:=hid hE
 clear hE
 cases hth:thr n p with
 | false =>
  go_enter func207,ntmps207
  go_wp2_with (first|(go_at_call 237;refine (there_any g pb n p _ x).mono ?_;rintro e w1 ⟨rfl,rfl⟩;rw [hth]))
  go_ret
  exact⟨ret_int (by rw [HE.o];simp [lookE,hth]),rfl⟩
 | true =>
  obtain⟨q,rfl⟩:∃q:Nat,p=(q:Int):=⟨p.toNat,by simp [thr] at hth;omega⟩
  have hq:q<n:=by simp [thr] at hth;omega
  have y:=(H.o.mark q (by omega)).1
  cases htq:t q with
  | false =>
   rw [htq] at y
   go_enter func207,ntmps207
   go_wp2_with (first|(go_at_call 237;refine (there_any g pb n (q:Int) _ x).mono ?_;rintro e w1 ⟨rfl,rfl⟩;rw [hth]))
   go_ret
   exact⟨ret_int (by rw [HE.o];simp [lookE,htq]),rfl⟩
  | true =>
   rw [htq] at y
   have e1:lookE n t (q:Int) off m=if 0≤off∧0≤m∧m≤64 - off then 0 else 5:=by simp [lookE,hth,htq]
   rw [e1] at HE
   clear e1 ho
   by_cases h0:off<0
   ·have hd0:decide (off<0)=true:=dT h0
    go_enter func207,ntmps207
    go_wp2_with (first|(go_at_call 237;refine (there_any g pb n (q:Int) _ x).mono ?_;rintro e w1 ⟨rfl,rfl⟩;rw [hth]))
    go_ret
    exact⟨ret_int (by rw [HE.o,if_neg (by omega)]),rfl⟩
   ·have hd0:decide (off<0)=false:=dF h0
    by_cases h1:m<0
    ·have hd1:decide (m<0)=true:=dT h1
     go_enter func207,ntmps207
     go_wp2_with (first|(go_at_call 237;refine (there_any g pb n (q:Int) _ x).mono ?_;rintro e w1 ⟨rfl,rfl⟩;rw [hth]))
     go_ret
     exact⟨ret_int (by rw [HE.o,if_neg (by omega)]),rfl⟩
    ·have hd1:decide (m<0)=false:=dF h1
     have ew:IntKind.i64.wrap (64 - off)=64 - off:=HW.o (by omega)
     by_cases h2:m>64 - off
     ·have hd2:decide (m>64 - off)=true:=dT h2
      go_enter func207,ntmps207
      go_wp2_with (first|(go_at_call 237;refine (there_any g pb n (q:Int) _ x).mono ?_;rintro e w1 ⟨rfl,rfl⟩;rw [hth]))
      go_ret
      exact⟨ret_int (by rw [HE.o,if_neg (by omega)]),rfl⟩
     ·have hd2:decide (m>64 - off)=false:=dF h2
      go_enter func207,ntmps207
      go_wp2_with (first|(go_at_call 237;refine (there_any g pb n (q:Int) _ x).mono ?_;rintro e w1 ⟨rfl,rfl⟩;rw [hth]))
      go_ret
      exact⟨ret_int (by rw [HE.o,if_pos (by omega)]),rfl⟩
def Soft (w:World)(a:Option Addr):Prop:=∀x,a=some x→∀j,w.frozen? ⟨x.block,j,none⟩=false
theorem _root_.Go.Proofs.YtfmhdimaijimlaaGreatDoor.Own.soft {e:TypeId}{cap:Nat}{L:List Value}(h:Own w base e a n cap L):Soft w a:=by
 intro x hx j
 rcases h.row.2 with ⟨h1,hn⟩|⟨g,c,cur,hv,_,hh,hc,_⟩
 ·subst hx;simp at h1
 ·subst hx
  simp only [Value.slice.injEq,Option.some.injEq] at hv
  obtain⟨rfl,_,rfl⟩:=hv
  simp [World.frozen?,hh]
theorem Soft.but {S:Nat→Prop}(hb:But S w w')(h:Soft w a)(hl:∀k,Blk a k→k<w.heap.size)(hn:∀k,Blk a k→¬S k):Soft w' a:=λx hx j=>by
 have e:w'.frozen? ⟨x.block,j,none⟩=w.frozen? ⟨x.block,j,none⟩:=World.frozen?_of_block (hb.block x.block (hl _ ⟨x,hx,rfl⟩) (hn _ ⟨x,hx,rfl⟩))
 rw [e]
 exact h x hx j
structure Ans (w:World)(base:Nat)(a:Option Addr)(n cap:Nat)(L:List Value):Prop where
 row:Row w a n cap L
 soft:Soft w a
 ge:∀k,Blk a k→base≤k
 lt:∀k,Blk a k→k<w.heap.size
theorem Ans.but {S:Nat→Prop}{cap:Nat}{L:List Value}(hb:But S w w')(h:Ans w base a n cap L)(hn:∀k,Blk a k→¬S k):Ans w' base a n cap L :=
 ⟨h.row.but hb hn,h.soft.but hb h.lt hn,h.ge,λk hk=>Nat.lt_of_lt_of_le (h.lt k hk) hb.size⟩
theorem _root_.Go.Proofs.YtfmhdimaijimlaaGreatDoor.Own.ans {e:TypeId}{cap:Nat}{L:List Value}(h:Own w base e a n cap L):Ans w base a n cap L:=⟨h.read,h.soft,h.blk,h.lt⟩
def tk (t:Nat→Bool)(L:List Nat):Nat→Bool:=λi=>t i||decide (i∈L)
theorem tk_nil (t:Nat→Bool):tk t []=t:=by funext i;simp [tk]
theorem Arn.mark_set {pb:Nat}{t u:Nat→Bool}{B:Nat→Nat→Nat}{b:Bool}(h:Arn w g pb n t B)(hk:k<n)(hu:∀i,u i=if i=k then b else t i)(hC:∀i j,u i=false→B i j=0) :
  Arn (w.setCell ⟨g,1+k,none⟩ (.bool b)) g pb n u B:=by
 have hn:=h.le
 refine⟨h.ne,h.le,?_,λi hi=>?_,λi j hi hj=>(h.page i j hi hj).other (λe=>h.ne (congrArg Addr.block e)),by simpa using h.lt,λi hi=>?_,hC,h.small⟩
 ·rw [World.cell?_setCell_other _ _ _ _ (λe=>by have:=congrArg Addr.off e;simp at this)]
  exact h.head
 ·rw [hu i]
  by_cases e:i=k
  ·subst e
   rw [if_pos rfl]
   exact (h.mark i hi).put
  ·rw [if_neg e]
   exact (h.mark i hi).other (λe2=>e (by have:=congrArg Addr.off e2;simp at this;omega))
 ·rw [hu i] at hi
  split at hi
  ·omega
  ·exact h.only i hi
def TakeRel (w1:World)(g pb n:Nat)(t:Nat→Bool)(B:Nat→Nat→Nat)(K:Nat)(v:Value)(w':World):Prop :=
 ∃i:Nat,v=.int .i64 (i:Int)∧i≤K∧Arn w' g pb n (tk t ((lst n t false).take i)) B∧But (·=g) w1 w'
theorem ints_nats_get (L:List Nat)(i:Nat)(h:i<L.length):(ints (nats L))[i]?=some (.int .i64 ((L[i]:Nat):Int)):=by
 rw [ints_get _ i (by rw [nats_length];exact h)]
 simp [nats]
theorem take_ok (g pb n:Nat)(t:Nat→Bool)(B:Nat→Nat→Nat)(K:Nat)(w:World)(h:Arn w g pb n t B)(hk:K≤(lst n t false).length) :
  Calls prog 154 #[.pointer (some ⟨g,0,none⟩),.int .i64 (K:Int)] w λe w'=>∃a,e=.returned (.tuple #[.slice a K K,.int .i64 0])∧Ans w' w.heap.size a K K (ints (nats ((lst n t false).take K))) ∧
   Arn w' g pb n (tk t ((lst n t false).take K)) B∧But (·=g) w w':=by
 have hd:decide ((K:Int)<0)=false:=dF (by omega)
 have H:=hid h
 have HK:=hid hk
 have hgl:=h.glt
 have hn:=h.le
 have hK2:K≤256:=Nat.le_trans hk (Nat.le_trans (lst_length n t false) hn)
 clear h hk
 go_enter func154,ntmps154
 go_upto_region 4 with (first|(go_at_call 195;refine (listed_any g pb n t B false _ H.o).mono ?_;rintro e w1 ⟨a,m,cap,rfl,O,hb⟩))
 have hl:=O.len
 rw [il_,nats_length] at hl
 have hKm:K≤m:=by have:=HK.o;omega
 have hd2:decide ((K:Int)>(m:Int))=false:=dF (by omega)
 have HL:=hid hl
 have HO:=hid O
 have HB:=hid hb
 have hcap:=O.read.cap_
 clear hl O hb
 cases a with
 | none =>
  obtain⟨rfl,rfl⟩:=HO.o.read.none_ rfl
  obtain rfl:K=0:=by omega
  have HZ:Hid (Arn w1 g pb n (tk t ((lst n t false).take 0)) B):=hid (by rw [List.take_zero,tk_nil];exact H.o.later HB.o)
  simp only [Int.cast_ofNat_Int]
  go_wp2
  go_loopw [21] (λk w'=>k=.int .i64 0∧w1=w') (λ_ _=>0)
  case atStart=>exact⟨rfl,rfl⟩
  case round =>
   obtain⟨rfl,rfl⟩:=hrel
   go_wp2
   refine bodyPost_ret (v:=.tuple #[.slice none 0 0,.int .i64 0]) (by simp [results,results154,go_sem]) rfl ⟨none,rfl,⟨?_,λ_ h=>(by cases h),λ_ h=>?_,λ_ h=>?_⟩,HZ.o,But.of HB.o⟩
   ·exact row_nil _
   ·obtain⟨_,h,_⟩:=h
    cases h
   ·obtain⟨_,h,_⟩:=h
    cases h
 | some x =>
  obtain⟨gb,rfl,hgb⟩:∃gb,x=⟨gb,0,none⟩∧w.heap.size≤gb:=by
   rcases HO.o.row.2 with ⟨h1,hn⟩|⟨gb,c,cur,hv,hgb,_⟩
   ·simp at h1
   ·simp only [Value.slice.injEq,Option.some.injEq] at hv
    exact⟨gb,hv.1,hgb⟩
  go_upto_region 7 with fail
  go_loopw [21] (TakeRel w1 g pb n t B K) (λk _=>K - (intOf k).toNat)
  case atStart=>exact⟨0,rfl,Nat.zero_le _,by rw [List.take_zero,tk_nil];exact H.o.later HB.o,But.refl _ _⟩
  case round =>
   obtain⟨i,rfl,hi,hA,hBt⟩:=hrel
   have HA:=hid hA
   have HBt:=hid hBt
   clear hA hBt
   by_cases hlt:i<K
   ·have hd3:decide ((i:Int)<(K:Int))=true:=dT (by omega)
    have hil:i<(lst n t false).length:=by have:=HL.o;omega
    obtain⟨q,hq⟩:∃q,q=(lst n t false)[i]:=⟨_,rfl⟩
    have hqm:q<n∧t q=false:=mem_lst.1 (by rw [hq];exact List.getElem_mem _)
    have hqn:=hqm.1
    have y:wr.cell? ⟨gb,i,none⟩=some (.int .i64 (q:Int)):=by
     have:=(HO.o.read.but HBt.o (λk hk e=>by obtain⟨z,hz,rfl⟩:=hk;cases hz;simp only at e;omega)).cells _ rfl i _ (ints_nats_get _ i hil)
     rw [aa_] at this
     rw [hq]
     exact this
    have z:=HA.o.mark q (by omega)
    have z1:=z.1
    have z2:=z.2
    have HN:Hid (Arn (wr.setCell ⟨g,1+q,none⟩ (.bool true)) g pb n (tk t ((lst n t false).take (i+1))) B):=HA.o.mark_set hqn (λj=>by
     rw [List.take_add_one,gE hil,←hq]
     simp only [tk,Option.toList_some,List.mem_append,List.mem_singleton]
     by_cases e:j=q
     ·simp [e]
     ·simp [e]) (λj b hj=>H.o.zero j b (by simp [tk] at hj;exact hj.1))
    have HNB:Hid (But (·=g) w1 (wr.setCell ⟨g,1+q,none⟩ (.bool true))):=HBt.o.setCell (p:=⟨g,1+q,none⟩) (show g=g from rfl) _
    clear z hq hqm
    go_wp2
    exact⟨⟨i+1,rfl,by omega,HN.o,HNB.o⟩,by simp [intOf];omega⟩
   ·obtain rfl:i=K:=by omega
    go_wp2
    have hO:=HO.o.ans.but HBt.o (λk hk e=>by obtain⟨z,hz,rfl⟩:=hk;cases hz;simp only at e;omega)
    have hr:=hO.row.sub (m:=i) (c:=i) hKm (Nat.le_refl _) (λh=>by cases h)
    refine bodyPost_ret (v:=.tuple #[.slice (some ⟨gb,0,none⟩) i i,.int .i64 0]) (by simp [results,results154,go_sem]) rfl ⟨_,rfl,⟨?_,hO.soft,hO.ge,hO.lt⟩,HA.o,(But.of HB.o).trans HBt.o⟩
    simpa [ints,nats,List.map_take] using hr
theorem ld_arm {P:Program}{ops:Array Oper}{rest:List Oper}{a:Act}{Q:Exit→Act→World→Prop}{d:Option Tmp}{tt:TypeId}{ps:String}{af}{ty:TypeId}{x:Operand}{p v:Value}
  (hr:(Instr.loadAt ty p).run P w=.ok v w) (hx:a.eval x=p) (h:wpList P ops Q rest (a.put d v) w) :
  wpList P ops Q ({ dst:=d,op:=.load ty x,type:=tt,pos:=ps,after:=af,guard:=none }::rest) a w:=by
 refine wpList_plain rfl λK hK=>?_
 unfold Oper.wp execOp
 simp only [hx,hr,Sem.run_bind,Sem.run_pure,Result.andThen_ok]
 exact hK _ _ h
theorem clear_arm {P:Program}{ops:Array Oper}{rest:List Oper}{a:Act}{Q:Exit→Act→World→Prop}{d:Option Tmp}{tt:TypeId}{ps:String}{af}{t:TypeId}{x:Operand}{vx v:Value}
  (hr:(Builtin.clear_ #[t] tt #[vx]).run P w=.ok v w') (hx:a.eval x=vx) (h:wpList P ops Q rest (a.put d v) w') :
  wpList P ops Q ({ dst:=d,op:=.call { callee:=.builtin .clear,args:=#[x],argTypes:=#[t] },type:=tt,pos:=ps,after:=af,guard:=none }::rest) a w:=by
 refine wpList_plain rfl λK hK=>?_
 unfold Oper.wp execOp
 simp only [resolve,invoke,builtin,Sem.run_bind,Sem.run_pure,Result.andThen_ok,List.map_toArray,List.map_cons,List.map_nil,hx,hr]
 exact hK _ _ h
theorem eq_bytes (t:TypeId)(n:Nat)(ht:prog.underlying t=some (.array n 5))(xs ys:List UInt8)(hx:xs.length=n)(hy:ys.length=n)(w:World) :
  (Op.equalIn 10000 t (.agg (xs.map Extern.Stop.cell).toArray) (.agg (ys.map Extern.Stop.cell).toArray)).run prog w=.ok (xs==ys) w :=
 run_equalIn_bytes (P:=prog) w 9998 t 5 n ht underlying5 (λw=>by
  obtain⟨i,hi,hz0,hz1,hz2⟩:=info_parts info5
  simp [sizeOf,typeInfo,hi,hz1]) xs ys hx hy
def wrB (B:Nat→Nat→Nat)(p off:Nat)(D:List Nat):Nat→Nat→Nat:=λi j=>if i=p∧off≤j∧j<off+D.length then D.getD (j - off) 0 else B i j
theorem getD_small {D:List Nat}(h:∀x∈D,x<256)(k:Nat):D.getD k 0<256:=by
 rw [List.getD_eq_getElem?_getD]
 cases hk:D[k]? with
 | none=>simp
 | some v=>simpa using h v (List.mem_of_getElem? hk)
theorem Arn.write {pb:Nat}{t:Nat→Bool}{B:Nat→Nat→Nat}{p off:Nat}{D:List Nat}(h:Arn w g pb n t B)(hp:t p=true)(ho:off+D.length≤64)(hD:∀x∈D,x<256) :
  Arn (w.setCells pb (p*64+off) (u8s D)) g pb n t (wrB B p off D):=by
 have hpn:=h.only p hp
 have hne:=h.ne
 refine⟨h.ne,h.le,?_,λi hi=>⟨?_,?_⟩,λi j hi hj=>⟨?_,?_⟩,by rw [size_setCells];exact h.lt,h.only,λi j hi=>?_,λi j=>?_⟩
 ·rw [World.cell?_setCells_out _ _ _ _ _ (λe=>absurd e hne)]
  exact h.head
 ·rw [World.cell?_setCells_out _ _ _ _ _ (λe=>absurd e hne)]
  exact (h.mark i hi).1
 ·rw [World.frozen?_setCells]
  exact (h.mark i hi).2
 ·unfold wrB
  by_cases e:i=p∧off≤j∧j<off+D.length
  ·rw [if_pos e]
   obtain⟨rfl,e1,e2⟩:=e
   have hin:=World.cell?_setCells_in pb (u8s D) (i*64+off) w (λk hk=>by
    rw [u8s_length] at hk
    have:=(h.page i (off+k) hi (by omega)).1
    rw [←Nat.add_assoc] at this
    rw [this];rfl) (j - off) (by rw [u8s_length];omega)
   have e3:i*64+off+(j - off)=i*64+j:=by omega
   rw [e3] at hin
   rw [hin]
   simp [u8s,List.getD_eq_getElem?_getD,gE (show j - off<D.length by omega)]
  ·rw [if_neg e,World.cell?_setCells_out _ _ _ _ _ (λ_ _=>?_)]
   ·exact (h.page i j hi hj).1
   ·rw [u8s_length]
    show i*64+j<p*64+off∨p*64+off+D.length≤i*64+j
    omega
 ·rw [World.frozen?_setCells]
  exact (h.page i j hi hj).2
 ·unfold wrB
  rw [if_neg (λe=>by rw [e.1,hp] at hi;cases hi)]
  exact h.zero i j hi
 ·unfold wrB
  split
  ·exact getD_small hD _
  ·exact h.small i j
def pgL (B:Nat→Nat→Nat)(p off m:Nat):List Nat:=(List.range m).map λk=>B p (off+k)
theorem pgL_length (B:Nat→Nat→Nat)(p off m:Nat):(pgL B p off m).length=m:=by simp [pgL]
theorem pgL_get (B:Nat→Nat→Nat)(p off m k:Nat)(h:k<m):(u8s (pgL B p off m))[k]?=some (.int .u8 ((B p (off+k):Nat):Int)):=by simp [u8s,pgL,h]
theorem Arn.range {pb:Nat}{t:Nat→Bool}{B:Nat→Nat→Nat}(h:Arn w g pb n t B){p:Nat}(hp:p<n):w.rangeAt pb (p*64) (u8s (pgL B p 0 64)):=λj v hv=>by
 have hj:j<64:=by have:=(gS.1 hv).1;rwa [u8s_length,pgL_length] at this
 rw [pgL_get _ _ _ _ _ hj,Nat.zero_add] at hv
 cases hv
 exact (h.page p j hp hj).1
theorem size104:(prog.info? 297).map (·.size)=some 64:=by kernel_rfl
theorem load104 {pb:Nat}{t:Nat→Bool}{B:Nat→Nat→Nat}(h:Arn w g pb n t B){p:Nat}(hp:p<n):(Instr.loadAt 297 (.pointer (some ⟨pb,p*64,none⟩))).run prog w=.ok (.agg (u8s (pgL B p 0 64)).toArray) w :=
 run_loadAt_mid (P:=prog) w pb (p*64) 297 _ _ (h.range hp) underlying297 rfl (by rw [size104,u8s_length,pgL_length])
theorem u8s_cell (L:List Nat)(h:∀x∈L,x<256):u8s L=(L.map UInt8.ofNat).map Extern.Stop.cell:=by
 rw [u8s,List.map_map]
 refine List.map_congr_left λx hx=>?_
 simp only [Function.comp,Extern.Stop.cell]
 rw [UInt8.toNat_ofNat_of_lt' (h x hx)]
 rfl
theorem zeros_cell:(Array.replicate 64 (Value.int .u8 0))=((List.replicate 64 (0:UInt8)).map Extern.Stop.cell).toArray:=by rfl
theorem Arn.congr {pb:Nat}{t:Nat→Bool}{B C:Nat→Nat→Nat}(h:Arn w g pb n t B)(e:B=C):Arn w g pb n t C:=e ▸ h
theorem pgL_small {pb:Nat}{t:Nat→Bool}{B:Nat→Nat→Nat}(h:Arn w g pb n t B)(p off m:Nat):∀x∈pgL B p off m,x<256:=by
 intro x hx
 simp only [pgL,List.mem_map] at hx
 obtain⟨k,_,rfl⟩:=hx
 exact h.small _ _
theorem zero_u8 (w:World):(zeroValue 5).run prog w=.ok (.int .u8 0) w:=zero_of info5 w
theorem pgL_zero {B:Nat→Nat→Nat}{p:Nat}(h:pgL B p 0 64=List.replicate 64 0)(j:Nat)(hj:j<64):B p j=0:=by
 have:=congrArg (λl:List Nat=>l[j]?) h
 simp only [List.getElem?_replicate,hj,if_true] at this
 simpa [pgL,hj] using this
theorem wipe_any (g pb n:Nat)(t:Nat→Bool)(B:Nat→Nat→Nat)(p:Nat)(w:World)(h:Arn w g pb n t B)(hp:t p=true) :
  Calls prog 259 #[.pointer (some ⟨pb,p*64,none⟩)] w λe w'=>e=.returned (.tuple #[])∧Arn w' g pb n t (λi j=>if i=p∧j<64 then 0 else B i j)∧But (·=pb) w w':=by
 have hpn:=h.only p hp
 have hl:=load104 h hpn
 have hz:=zero_of info297
 rw [u8s_cell _ (pgL_small h p 0 64)] at hl
 rw [zeros_cell] at hz
 have hne:=eq_bytes 297 64 underlying297 ((pgL B p 0 64).map UInt8.ofNat) (List.replicate 64 0) (by rw [List.length_map,pgL_length]) (by simp) w
 obtain⟨b,hb⟩:∃b,b=(List.map UInt8.ofNat (pgL B p 0 64)==List.replicate 64 0):=⟨_,rfl⟩
 rw [←hb] at hne
 have HBB:=hid hb
 have hcl:=Lib.run_clear_slice (P:=prog) w 39 5 0 (.int .u8 0) underlying39 zero_u8 rfl rfl pb (p*64) 64 64 (by omega) (λj hj=>by rw [(h.page p j hpn hj).1];rfl) (λj hj=>(h.page p j hpn hj).2)
 have H:=hid h
 obtain⟨o,ho⟩:∃o,o=p*64:=⟨_,rfl⟩
 rw [←ho] at hl hcl ⊢
 have HO:=hid ho
 have HCL:=hid hcl
 have HLD:=hid hl
 obtain⟨X,hX⟩:∃X,X=(List.map Extern.Stop.cell (List.map UInt8.ofNat (pgL B p 0 64))).toArray:=⟨_,rfl⟩
 obtain⟨Z,hZ⟩:∃Z,Z=(List.map Extern.Stop.cell (List.replicate 64 (0:UInt8))).toArray:=⟨_,rfl⟩
 rw [←hX] at HLD
 rw [←hX,←hZ] at hne
 rw [←hZ] at hz
 clear h ho hl hcl hX hZ hb
 go_enter func259,ntmps259
 cases b with
 | true =>
  go_wp2_with (first|((with_reducible refine ld_arm HLD.o ?_ ?_);· rfl))
  refine bodyPost_end (v:=.tuple #[]) (by simp [results,results259,go_sem]) rfl ⟨rfl,H.o.congr ?_,But.refl _ _⟩
  have e:pgL B p 0 64=List.replicate 64 0:=by
   have h1:=eq_of_beq HBB.o.symm
   have h2:=congrArg (List.map UInt8.toNat) h1
   rw [List.map_map,List.map_replicate] at h2
   refine Eq.trans ?_ h2
   refine (List.map_congr_left (g:=id) (λx hx=>?_)).trans (List.map_id _) |>.symm
   exact UInt8.toNat_ofNat_of_lt' (pgL_small H.o p 0 64 x hx)
  funext i j
  by_cases h1:i=p∧j<64
  ·rw [if_pos h1,h1.1]
   exact pgL_zero e j h1.2
  ·rw [if_neg h1]
 | false =>
  go_wp2_with (first|((with_reducible refine ld_arm HLD.o ?_ ?_);· rfl)|((with_reducible refine clear_arm HCL.o ?_ ?_);· rfl))
  have hA:=H.o.write (off:=0) (D:=List.replicate 64 0) hp (by simp) (λx hx=>by rw [List.eq_of_mem_replicate hx];omega)
  rw [Nat.add_zero,←HO.o] at hA
  refine bodyPost_end (v:=.tuple #[]) (by simp [results,results259,go_sem]) rfl ⟨rfl,hA.congr ?_,But.setCells (S:=(·=pb)) (show pb=pb from rfl) _ _ (But.refl _ _)⟩
  funext i j
  unfold wrB
  by_cases h1:i=p∧j<64
  ·rw [if_pos ⟨h1.1,by simpa using h1.2⟩,if_pos h1]
   rw [List.getD_eq_getElem?_getD,List.getElem?_replicate]
   split<;>rfl
  ·rw [if_neg h1,if_neg (λe=>h1 ⟨e.1,by simpa using e.2⟩)]
theorem lookE_zero {t:Nat→Bool}{p off:Nat}(h:t p=true)(hn:p<n)(ho:off+m≤64):lookE n t (p:Int) (off:Int) (m:Int)=0:=by
 unfold lookE thr
 rw [if_pos ⟨dT (by omega),by simpa using h⟩,if_pos (by omega)]
theorem len104:prog.arrayLen 297=64:=by kernel_rfl
theorem und104:prog.underlying 297=some (.array (prog.arrayLen 297) (prog.elem 297)):=by kernel_rfl
theorem size_el104 (W:World):(sizeOf (prog.elem 297)).run prog W=.ok 1 W:=by
 have e:prog.elem 297=5:=by kernel_rfl
 obtain⟨i,hi,hz0,hz1,hz2⟩:=info_parts info5
 rw [e]
 simp [sizeOf,typeInfo,hi,hz1]
theorem cut_lhm (b o off m:Nat)(ho:off+m≤64):∃so,(m=0∨so=o+off)∧∀W:World,(Instr.sliceAt 297 (.pointer (some ⟨b,o,none⟩)) (some (.int .i64 (off:Int))) (some (.int .i64 ((off:Int)+(m:Int)))) (some (.int .i64 ((off:Int)+(m:Int))))).run prog W=.ok (.slice (some ⟨b,so,none⟩) m m) W:=by
 have h:∀W:World,(Instr.sliceAt 297 (.pointer (some ⟨b,o,none⟩)) (some (.int .i64 (off:Int))) (some (.int .i64 ((off:Int)+(m:Int)))) (some (.int .i64 ((off:Int)+(m:Int))))).run prog W=.ok (slicedAt ⟨b,o,none⟩ off (off+m) (off+m) 1) W:=λW=>by
  rw [run_sliceAt_array_lhm (P:=prog) W 297 ⟨b,o,none⟩ und104 .i64 .i64 .i64 (off:Int) ((off:Int)+(m:Int)) ((off:Int)+(m:Int)) (by omega) (by omega) (by omega) (by rw [len104];omega),size_el104]
  have e:((off:Int)+(m:Int)).toNat=off+m:=by omega
  simp [e]
 by_cases hm:m=0
 ·subst hm
  exact⟨o,.inl rfl,λW=>by rw [h W];simp [slicedAt]⟩
 ·refine⟨o+off,.inr rfl,λW=>?_⟩
  rw [h W,slicedAt,if_neg (by omega),addr_add]
  simp
theorem cut_l (b o off:Nat)(ho:off≤64):∃so,(off=64∨so=o+off)∧∀W:World,(Instr.sliceAt 297 (.pointer (some ⟨b,o,none⟩)) (some (.int .i64 (off:Int))) none none).run prog W=.ok (.slice (some ⟨b,so,none⟩) (64 - off) (64 - off)) W:=by
 have h:∀W:World,(Instr.sliceAt 297 (.pointer (some ⟨b,o,none⟩)) (some (.int .i64 (off:Int))) none none).run prog W=.ok (slicedAt ⟨b,o,none⟩ off 64 64 1) W:=λW=>by
  rw [run_sliceAt_array_l (P:=prog) W 297 ⟨b,o,none⟩ und104 .i64 (off:Int) (by omega) (by rw [len104];omega),size_el104,len104]
  simp
 by_cases hm:off=64
 ·subst hm
  exact⟨o,.inl rfl,λW=>by rw [h W];simp [slicedAt]⟩
 ·refine⟨o+off,.inr rfl,λW=>?_⟩
  rw [h W,slicedAt,if_neg (by omega),addr_add]
  simp
theorem pgL_sub (B:Nat→Nat→Nat)(p off m k:Nat)(h:k<m)(ho:off+m≤64):(u8s (pgL B p 0 64))[off+k]?=some (.int .u8 ((B p (off+k):Nat):Int)):=by
 rw [pgL_get _ _ _ _ _ (by omega),Nat.zero_add]
theorem read_ok (g pb n:Nat)(t:Nat→Bool)(B:Nat→Nat→Nat)(p off m:Nat)(w:World)(h:Arn w g pb n t B)(hp:t p=true)(ho:off+m≤64) :
  Calls prog 164 #[.pointer (some ⟨g,0,none⟩),.int .i64 (p:Int),.int .i64 (off:Int),.int .i64 (m:Int)] w λe w'=>∃a,e=.returned (.tuple #[.slice a m m,.int .i64 0])∧Ans w' w.heap.size a m m (u8s (pgL B p off m))∧Below w.heap.size w w':=by
 have x:=h.head
 have hpn:=h.only p hp
 have HE:=hid (lookE_zero hp hpn ho)
 have HLD:=hid (load104 h hpn)
 have hz:=zero_of info297
 obtain⟨Z,hZ⟩:∃Z,Z=Array.replicate 64 (Value.int .u8 0):=⟨_,rfl⟩
 rw [←hZ] at hz
 have H:=hid h
 obtain⟨L,hL⟩:∃L,L=u8s (pgL B p 0 64):=⟨_,rfl⟩
 rw [←hL] at HLD
 have hl:L.length=64:=by rw [hL,u8s_length,pgL_length]
 have ht:(w.alloc (.cells Z 297)).there w.heap.size 0 64:=λj hj=>by
  have hh:=heap_alloc_new w (.cells Z 297)
  exact⟨by rw [cell_of_row _ _ _ _ _ _ hh,hZ];simp [hj],by simp only [World.frozen?,hh];simp⟩
 have hst:(storeCells ⟨w.heap.size,0,none⟩ L).run prog (w.alloc (.cells Z 297))=.ok () ((w.alloc (.cells Z 297)).setCells w.heap.size 0 L) :=
  run_storeCells_cells (P:=prog) w.heap.size 0 L 0 _ (λj hj=>by rw [Nat.add_zero];exact (ht j (by omega)).1) (λj hj=>by rw [Nat.add_zero];exact (ht j (by omega)).2) (by rw [hL];exact u8s_one _)
 have HT:=hid ht
 have HL:=hid hL
 have HLL:=hid hl
 have HZZ:=hid hZ
 clear h ht hL hZ
 go_enter func164,ntmps164
 go_upto_region 4 with (first|(go_at_call 207;refine (look_any g pb n t B (p:Int) (off:Int) (m:Int) _ H.o (by omega)).mono ?_;rintro e w1 ⟨rfl,rfl⟩;rw [HE.o]))
 obtain⟨so,hso,hcut⟩:=cut_lhm w1.heap.size 0 off m ho
 have HSO:=hid hso
 clear hso
 go_wp2_with (first|((with_reducible refine ld_arm HLD.o ?_ ?_);· rfl))
 have hB:Below w1.heap.size w1 ((w1.alloc (.cells Z 297)).setCells w1.heap.size 0 L):=But.below (S:=(·=w1.heap.size)) (below1 w1 (.cells Z 297)) (But.setCells (S:=(·=w1.heap.size)) (show w1.heap.size=w1.heap.size from rfl) L 0 (But.refl _ _)) (λk hk=>by rw [hk];exact Nat.le_refl _)
 refine bodyPost_ret (v:=.tuple #[.slice (some ⟨w1.heap.size,so,none⟩) m m,.int .i64 0]) (by simp [results,results164,go_sem]) rfl ⟨_,rfl,⟨Row.at (by rw [u8s_length,pgL_length]) (Nat.le_refl _) (u8s_one _) (λi v hv=>?_),λx hx j=>?_,λk hk=>?_,λk hk=>?_⟩,hB⟩
 ·have hi:i<m:=by have:=(gS.1 hv).1;rwa [u8s_length,pgL_length] at this
  rw [pgL_get _ _ _ _ _ hi] at hv
  have hs:so=off:=by have:=HSO.o;omega
  rw [hs]
  have:=World.rangeAt_setCells_same (w1.alloc (.cells Z 297)) w1.heap.size 0 L (by rw [hl];exact HT.o) (off+i) v (by rw [HL.o,pgL_sub B p off m i hi ho];exact hv)
  rwa [Nat.zero_add] at this
 ·cases hx
  rw [World.frozen?_setCells]
  have hh:=heap_alloc_new w1 (.cells Z 297)
  simp only [World.frozen?,hh]
  simp
 ·obtain⟨x,hx,rfl⟩:=hk
  cases hx
  exact Nat.le_refl _
 ·obtain⟨x,hx,rfl⟩:=hk
  cases hx
  rw [size_setCells]
  simp
theorem Arn.copy {pb:Nat}{t:Nat→Bool}{B:Nat→Nat→Nat}{p off so:Nat}{D:List Nat}{cap:Nat}(h:Arn w g pb n t B)(hp:t p=true)(ho:off+m≤64)(hD:∀x∈D,x<256)(hR:Row w a m cap (u8s D))(hso:off=64∨so=p*64+off) :
  ∃v w',(Builtin.copy_ #[39,39] 3 #[.slice (some ⟨pb,so,none⟩) (64 - off) (64 - off),.slice a m cap]).run prog w=.ok v w'∧Arn w' g pb n t (wrB B p off D)∧But (·=pb) w w':=by
 have hpn:=h.only p hp
 have hlen:=hR.len
 rw [u8s_length] at hlen
 by_cases hm:m=0
 ·subst hm
  refine⟨_,w,run_copy_none (P:=prog) w 39 39 3 5 _ _ _ _ _ _ underlying39 (by kernel_rfl) (by simp),h.congr ?_,But.refl _ _⟩
  funext i j
  unfold wrB
  rw [if_neg (by omega)]
 ·obtain⟨b,o,rfl,hc⟩:=hR.plain (by omega)
  have hs:so=p*64+off:=by omega
  subst hs
  have hpg:∀j,j<m→Lies w ⟨pb,p*64+off+j,none⟩ (.int .u8 ((B p (off+j):Nat):Int)):=λj hj=>by
   have:=h.page p (off+j) hpn (by omega)
   rwa [←Nat.add_assoc] at this
  have hlu:(u8s D).length=m:=hR.len
  refine⟨_,_,run_copy_cells (P:=prog) w 39 39 3 5 pb (p*64+off) (64 - off) (64 - off) ⟨b,o,none⟩ m cap (u8s D) underlying39 (by kernel_rfl) (by rw [hlu];exact (Nat.min_eq_left (by omega)).symm) (hR.cells _ rfl) (λj hj=>by rw [(hpg j (by omega)).1];rfl) (λj hj=>(hpg j (by omega)).2) (u8s_one _),h.write hp (by omega) hD,But.setCells (S:=(·=pb)) (show pb=pb from rfl) _ _ (But.refl _ _)⟩
theorem write_ok (g pb n:Nat)(t:Nat→Bool)(B:Nat→Nat→Nat)(p off:Nat)(a:Option Addr)(m cap:Nat)(D:List Nat)(w:World)(h:Arn w g pb n t B)(hp:t p=true)(ho:off+m≤64)(hD:∀x∈D,x<256)(hR:Row w a m cap (u8s D)) :
  Calls prog 165 #[.pointer (some ⟨g,0,none⟩),.int .i64 (p:Int),.int .i64 (off:Int),.slice a m cap] w λe w'=>e=.returned (.int .i64 0)∧Arn w' g pb n t (wrB B p off D)∧But (·=pb) w w':=by
 have x:=h.head
 have hpn:=h.only p hp
 have HE:=hid (lookE_zero hp hpn ho)
 obtain⟨so,hso,hcut⟩:=cut_l pb (p*64) off (by omega)
 obtain⟨v,w2,hrun,hA,hB⟩:=h.copy hp ho hD hR hso
 have H:=hid h
 have HA:=hid hA
 clear h hA hR hso hD
 go_enter func165,ntmps165
 go_upto_region 4 with (first|(go_at_call 207;refine (look_any g pb n t B (p:Int) (off:Int) (m:Int) _ H.o (by omega)).mono ?_;rintro e w1 ⟨rfl,rfl⟩;rw [HE.o]))
 go_wp2
 go_ret
 exact⟨rfl,HA.o,hB⟩
theorem Arn.ext {pb:Nat}{t:Nat→Bool}{B C:Nat→Nat→Nat}(h:Arn w g pb n t B)(e:∀i j,i<n→j<64→C i j=B i j)(hz:∀i j,t i=false→C i j=0)(hs:∀i j,C i j<256):Arn w g pb n t C :=
 ⟨h.ne,h.le,h.head,h.mark,λi j hi hj=>by rw [e i j hi hj];exact h.page i j hi hj,h.lt,h.only,hz,hs⟩
theorem wipe_all (g pb n:Nat)(t:Nat→Bool)(B:Nat→Nat→Nat)(p:Nat)(w:World)(h:Arn w g pb n t B)(hp:t p=true) :
  Calls prog 259 #[.pointer (some ⟨pb,p*64,none⟩)] w λe w'=>e=.returned (.tuple #[])∧Arn w' g pb n t (λi j=>if i=p then 0 else B i j)∧But (·=pb) w w':=by
 refine (wipe_any g pb n t B p w h hp).mono ?_
 rintro e w' ⟨rfl,hA,hB⟩
 refine⟨rfl,hA.ext (λi j hi hj=>?_) (λi j hi=>?_) (λi j=>?_),hB⟩
 ·by_cases e:i=p
  ·simp [e,hj]
  ·simp [e]
 ·have:=h.zero i j hi
  split<;>simp_all
 ·have:=h.small i j
  split<;>omega
def bls (t:Nat→Bool):List Value:=(List.range 256).map λj=>.bool (t j)
theorem bls_length (t:Nat→Bool):(bls t).length=256:=by simp [bls]
theorem bls_get (t:Nat→Bool)(j:Nat)(hj:j<256):(bls t)[j]?=some (.bool (t j)):=by simp [bls,hj]
theorem bls_one (t:Nat→Bool):∀u∈bls t,u.oneCell'=true:=by
 intro u hu
 simp only [bls,List.mem_map] at hu
 obtain⟨n,_,rfl⟩:=hu
 rfl
theorem size98:(prog.info? 228).map (·.size)=some 256:=by kernel_rfl
theorem info228:(prog.info? 228).map (λi=>(i.zero,i.size,i.bytes))=some (some (.agg (Array.replicate 256 (.bool false))),256,256):=by kernel_rfl
def Rst (w:World)(b o:Nat)(u:Nat→Bool):Prop:=∀j,j<256→Lies w ⟨b,o+j,none⟩ (.bool (u j))
theorem Rst.but {S:Nat→Prop}{o:Nat}{u:Nat→Bool}(hb:But S w w')(h:Rst w b o u)(hn:¬S b):Rst w' b o u:=λj hj=>(h j hj).but hb hn
theorem Rst.range {o:Nat}{u:Nat→Bool}(h:Rst w b o u):w.rangeAt b o (bls u):=λj v hv=>by
 have hj:j<256:=by have:=(gS.1 hv).1;rwa [bls_length] at this
 rw [bls_get _ _ hj] at hv
 cases hv
 exact (h j hj).1
theorem load98 {w:World}{b o:Nat}{u:Nat→Bool}(h:Rst w b o u):(Instr.loadAt 228 (.pointer (some ⟨b,o,none⟩))).run prog w=.ok (.agg (bls u).toArray) w :=
 run_loadAt_mid (P:=prog) w b o 228 _ _ h.range underlying228 rfl (by rw [size98,bls_length])
theorem store98 {o:Nat}{v:Nat→Bool}(h:Rst w b o v)(u:Nat→Bool):(storeCells ⟨b,o,none⟩ (bls u)).run prog w=.ok () (w.setCells b o (bls u)) :=
 run_storeCells_cells (P:=prog) b o (bls u) 0 w (λj hj=>by rw [bls_length] at hj;rw [Nat.add_zero,(h j hj).1];rfl) (λj hj=>by rw [bls_length] at hj;rw [Nat.add_zero];exact (h j hj).2) (bls_one u)
theorem Rst.put {w:World}{b o:Nat}{v:Nat→Bool}(h:Rst w b o v)(u:Nat→Bool):Rst (w.setCells b o (bls u)) b o u:=λj hj=>by
 refine⟨?_,by rw [World.frozen?_setCells];exact (h j hj).2⟩
 rw [World.cell?_setCells_in b (bls u) o w (λi hi=>by rw [bls_length] at hi;rw [(h i hi).1];rfl) j (by rw [bls_length];exact hj)]
 simp [bls]
theorem Rst.set {w:World}{b o k:Nat}{v u:Nat→Bool}{x:Bool}(h:Rst w b o v)(hk:k<256)(hu:∀i,u i=if i=k then x else v i):Rst (w.setCell ⟨b,o+k,none⟩ (.bool x)) b o u:=λj hj=>by
 rw [hu j]
 by_cases e:j=k
 ·subst e
  rw [if_pos rfl]
  exact (h j hj).put
 ·rw [if_neg e]
  exact (h j hj).other (λe2=>e (by have:=congrArg Addr.off e2;simp at this;omega))
theorem rst_new (w:World):Rst (w.alloc (.cells (Array.replicate 256 (.bool false)) 228)) w.heap.size 0 (λ_=>false):=λj hj=>by
 have hh:=heap_alloc_new w (.cells (Array.replicate 256 (.bool false)) 228)
 exact⟨by rw [cell_of_row _ _ _ _ _ _ hh];simp [hj],by simp only [World.frozen?,hh];simp⟩
def gOk (n:Nat)(t:Nat→Bool)(l:List Int):Prop:=(∀x∈l,thr n x=true∧t x.toNat=true)∧l.Nodup
def gT (t:Nat→Bool)(l:List Int):Nat→Bool:=λj=>t j&&!decide ((j:Int)∈l)
def gB (B:Nat→Nat→Nat)(l:List Int):Nat→Nat→Nat:=λi j=>if (i:Int)∈l then 0 else B i j
theorem Arn.marks {pb:Nat}{t u:Nat→Bool}{B:Nat→Nat→Nat}(h:Arn w g pb n t B)(hu:∀i,u i=true→i<n)(hz:∀i j,u i=false→B i j=0):Arn (w.setCells g 1 (bls u)) g pb n u B:=by
 have hR:Rst w g 1 t:=h.mark
 have hne:=h.ne
 refine⟨h.ne,h.le,?_,hR.put u,λi j hi hj=>⟨?_,?_⟩,by rw [size_setCells];exact h.lt,hu,hz,h.small⟩
 ·rw [World.cell?_setCells_out _ _ _ _ _ (λ_ _=>.inl (show 0<1 by omega))]
  exact h.head
 ·rw [World.cell?_setCells_out _ _ _ _ _ (λe=>absurd e.symm hne)]
  exact (h.page i j hi hj).1
 ·rw [World.frozen?_setCells]
  exact (h.page i j hi hj).2
def GiveRel1 (w:World)(n:Nat)(t:Nat→Bool)(l:List Int)(rb:Nat)(v:Value)(w':World):Prop :=
 ∃i:Nat,v=.int .i64 (i:Int)∧i≤l.length∧gOk n t (l.take i)∧Rst w' rb 0 (gT t (l.take i))∧Below w.heap.size w w'
def GiveRel2 (w1:World)(g pb n:Nat)(t:Nat→Bool)(B:Nat→Nat→Nat)(l:List Int)(v:Value)(w':World):Prop :=
 ∃i:Nat,v=.int .i64 (i:Int)∧i≤l.length∧Arn w' g pb n t (gB B (l.take i))∧But (·=pb) w1 w'
theorem take_step (l:List Int)(i:Nat)(h:i<l.length):l.take (i+1)=l.take i++[l[i]]:=by
 rw [List.take_add_one,gE h];rfl
theorem gOk_not_thr {t:Nat→Bool}{l:List Int}(hi:i<l.length)(h:thr n l[i]=false):¬gOk n t l:=λhg=>by
 have:=(hg.1 _ (List.getElem_mem hi)).1
 rw [h] at this
 cases this
theorem gOk_not_in {t:Nat→Bool}{l:List Int}{k:Nat}(hi:i<l.length)(hk:l[i]=(k:Int))(h:gT t (l.take i) k=false):¬gOk n t l:=λhg=>by
 have h1:=(hg.1 _ (List.getElem_mem hi)).2
 rw [hk,Int.toNat_natCast] at h1
 simp only [gT,h1,Bool.true_and,Bool.not_eq_false',decide_eq_true_eq] at h
 have h2:=(List.take_sublist (i+1) l).nodup hg.2
 rw [take_step l i hi,hk,List.nodup_append] at h2
 exact h2.2.2 _ h _ (by simp) rfl
theorem gOk_next {t:Nat→Bool}{l:List Int}{k:Nat}(hi:i<l.length)(hk:l[i]=(k:Int))(hkn:k<n)(h:gT t (l.take i) k=true)(hg:gOk n t (l.take i)):gOk n t (l.take (i+1)):=by
 simp only [gT,Bool.and_eq_true,Bool.not_eq_true',decide_eq_false_iff_not] at h
 rw [take_step l i hi,hk]
 refine⟨λx hx=>?_,?_⟩
 ·rcases List.mem_append.1 hx with h1|h1
  ·exact hg.1 x h1
  ·simp only [List.mem_singleton] at h1
   subst h1
   exact⟨dT (by omega),by rw [Int.toNat_natCast];exact h.1⟩
 ·rw [List.nodup_append]
  refine⟨hg.2,by simp,λx hx y hy e=>?_⟩
  simp only [List.mem_singleton] at hy
  rw [e,hy] at hx
  exact h.2 hx
theorem gT_next {t:Nat→Bool}{l:List Int}{k:Nat}(hi:i<l.length)(hk:l[i]=(k:Int))(j:Nat):gT t (l.take (i+1)) j=if j=k then false else gT t (l.take i) j:=by
 rw [take_step l i hi,hk]
 simp only [gT,List.mem_append,List.mem_singleton]
 by_cases e:j=k
 ·simp [e]
 ·have:¬(j:Int)=(k:Int):=by omega
  simp [e,this]
theorem gB_next {B:Nat→Nat→Nat}{l:List Int}{k:Nat}(hi:i<l.length)(hk:l[i]=(k:Int)):gB B (l.take (i+1))=λx j=>if x=k then 0 else gB B (l.take i) x j:=by
 funext x j
 rw [take_step l i hi,hk]
 simp only [gB,List.mem_append,List.mem_singleton]
 by_cases e:x=k
 ·simp [e]
 ·have:¬(x:Int)=(k:Int):=by omega
  simp [e,this]
theorem give_any (g pb n:Nat)(t:Nat→Bool)(B:Nat→Nat→Nat)(a:Option Addr)(m cap:Nat)(l:List Int)(w:World)(h:Arn w g pb n t B)(hR:Row w a m cap (ints l))(hm63:m<9223372036854775807)(hap:∀k,Blk a k→k≠pb) :
  Calls prog 231 #[.pointer (some ⟨g,0,none⟩),.slice a m cap] w λe w'=>(gOk n t l∧e=.returned (.int .i64 0)∧Arn w' g pb n (gT t l) (gB B l)∧But (λk=>k=g∨k=pb) w w')∨(¬gOk n t l∧e=.returned (.int .i64 20)∧Below w.heap.size w w'):=by
 have HLD:=hid (load98 (w:=w) (b:=g) (o:=1) h.mark)
 have hz:=zero_of info228
 obtain⟨Z,hZ⟩:∃Z,Z=Array.replicate 256 (Value.bool false):=⟨_,rfl⟩
 have hr0:=rst_new w
 rw [←hZ] at hz hr0
 have hst:=store98 hr0 t
 have hR1:=hr0.put t
 obtain⟨L,hL⟩:∃L,L=bls t:=⟨_,rfl⟩
 have hll:L.length=256:=by rw [hL,bls_length]
 rw [←hL] at hst HLD hR1
 obtain⟨w1,hw1⟩:∃w1,w1=(w.alloc (.cells Z 228)).setCells w.heap.size 0 L:=⟨_,rfl⟩
 rw [←hw1] at hst hR1
 have hB1:Below w.heap.size w w1:=by
  rw [hw1]
  exact But.below (S:=(·=w.heap.size)) (below1 w (.cells Z 228)) (But.setCells (S:=(·=w.heap.size)) (show w.heap.size=w.heap.size from rfl) L 0 (But.refl _ _)) (λk hk=>by rw [hk];exact Nat.le_refl _)
 have HB1:=hid hB1
 have HR1:=hid hR1
 have H:=hid h
 have HR:=hid hR
 have hgl:=h.glt
 have hpl:=h.lt
 have hn:=h.le
 have hlen:l.length=m:=by have:=hR.len;rwa [il_] at this
 have HAP:=hid hap
 clear h hR hL hZ hr0 hR1 hw1 hB1 hap
 go_enter func231,ntmps231
 go_upto_region 2 with (first|((with_reducible refine ld_arm HLD.o ?_ ?_);· rfl))
 clear HLD hz hst hll
 go_upto_region 3 with fail
 go_loopw [16] (GiveRel1 w n t l w.heap.size) (λk _=>m - (intOf k).toNat)
 case atStart=>exact⟨0,rfl,Nat.zero_le _,⟨λx hx=>by simp at hx,by simp⟩,by
  have e:gT t (l.take 0)=t:=by funext j;simp [gT]
  rw [e];exact HR1.o,HB1.o⟩
 case round =>
  clear HR1 HB1
  obtain⟨i,rfl,hi,hok,hrst,hB⟩:=hrel
  have HRS:=hid hrst
  have HB:=hid hB
  have HOK:=hid hok
  clear hrst hB hok
  by_cases hlt:i<m
  ·have hd:decide ((i:Int)<(m:Int))=true:=dT (by omega)
   obtain⟨b,o,rfl,hc⟩:=HR.o.plain (by omega)
   have y:=cell_later HB.o (hc i _ (ints_get l i (by omega)))
   have hx:=(H.o.later HB.o).head
   obtain⟨q,hq⟩:∃q,q=l[i]:=⟨_,rfl⟩
   rw [←hq] at y
   have HQ:=hid hq
   clear hc hq
   have hil:i<l.length:=by omega
   cases hth:thr n q with
   | false =>
    go_wp2_with (first|(go_at_call 237;refine (there_any g pb n q _ hx).mono ?_;rintro e w2 ⟨rfl,rfl⟩;rw [hth]))
    go_ret
    exact .inr ⟨gOk_not_thr hil (by rw [←HQ.o];exact hth),rfl,HB.o⟩
   | true =>
    obtain⟨k,rfl⟩:∃k:Nat,q=(k:Int):=⟨q.toNat,by simp [thr] at hth;omega⟩
    have hkn:k<n:=by simp [thr] at hth;omega
    have hk2:k<256:=by omega
    have z:=HRS.o k hk2
    rw [Nat.zero_add] at z
    have z1:=z.1
    have z2:=z.2
    clear z
    cases hg:gT t (l.take i) k with
    | false =>
     rw [hg] at z1
     go_wp2_with (first|(go_at_call 237;refine (there_any g pb n (k:Int) _ hx).mono ?_;rintro e w2 ⟨rfl,rfl⟩;rw [hth]))
     go_ret
     exact .inr ⟨gOk_not_in hil HQ.o.symm hg,rfl,HB.o⟩
    | true =>
     rw [hg] at z1
     have HN:Hid (Rst (wr.setCell ⟨w.heap.size,k,none⟩ (.bool false)) w.heap.size 0 (gT t (l.take (i+1)))):=hid (by
      have:=HRS.o.set (x:=false) hk2 (gT_next (t:=t) hil HQ.o.symm)
      rwa [Nat.zero_add] at this)
     have HNB:Hid (Below w.heap.size w (wr.setCell ⟨w.heap.size,k,none⟩ (.bool false))):=HB.o.setCell (Nat.le_refl _) _
     have HNO:=hid (gOk_next hil HQ.o.symm hkn hg HOK.o)
     go_wp2_with (first|(go_at_call 237;refine (there_any g pb n (k:Int) _ hx).mono ?_;rintro e w2 ⟨rfl,rfl⟩;rw [hth]))
     exact⟨⟨i+1,rfl,by omega,HNO.o,HN.o,HNB.o⟩,by simp [intOf];omega⟩
  ·obtain rfl:i=m:=by omega
   have hd:decide ((i:Int)<(i:Int))=false:=by simp
   have e0:l.take i=l:=by rw [List.take_of_length_le (by omega)]
   rw [e0] at HRS HOK
   have HA1:=hid (H.o.later HB.o)
   have HRW:=hid (HR.o.later HB.o)
   go_upto_region 10 with fail
   go_loopw [35] (GiveRel2 wr g pb n t B l) (λk _=>i - (intOf k).toNat)
   case atStart=>exact⟨0,rfl,Nat.zero_le _,HA1.o.congr (by funext x j;simp [gB]),But.refl _ _⟩
   case round =>
    obtain⟨j,rfl,hj,hA,hBt⟩:=hrel
    rename World=>wq
    have HA:=hid hA
    have HBt:=hid hBt
    clear hA hBt
    by_cases hjl:j<i
    ·have hd2:decide ((j:Int)<(i:Int))=true:=dT (by omega)
     have hil:j<l.length:=by omega
     obtain⟨b,o,rfl,hc⟩:=HRW.o.plain (by omega)
     have hbn:b≠pb:=HAP.o b ⟨_,rfl,rfl⟩
     have y:=cb_ HBt.o (hc j _ (ints_get l j hil)) hbn
     have hx:=HA.o.head
     obtain⟨hq1,hq2⟩:=HOK.o.1 _ (List.getElem_mem hil)
     obtain⟨k,hk⟩:∃k:Nat,l[j]=(k:Int):=⟨l[j].toNat,by simp [thr] at hq1;omega⟩
     rw [hk] at y hq1 hq2
     rw [Int.toNat_natCast] at hq2
     have hkn:k<n:=by simp [thr] at hq1;omega
     have HK:=hid hk
     clear hc hk hq1
     go_wp2_with (first|(go_at_call 259;refine (wipe_all g pb n t (gB B (l.take j)) k _ HA.o hq2).mono ?_;rintro e w2 ⟨rfl,A2,B2⟩;have HA2:=hid A2;have HB2:=hid (HBt.o.trans B2);clear A2 B2))
     exact⟨⟨j+1,rfl,by omega,HA2.o.congr (gB_next hil HK.o).symm,HB2.o⟩,by simp [intOf];omega⟩
    ·obtain rfl:j=i:=by omega
     have hd2:decide ((j:Int)<(j:Int))=false:=by simp
     rw [e0] at HA
     have hne:w.heap.size≠pb:=by omega
     have hR2:=HRS.o.but HBt.o hne
     have HLD:=hid (load98 hR2)
     have hm:Rst wq g 1 t:=HA.o.mark
     have hst:=store98 hm (gT t l)
     have HN:=hid (HA.o.marks (u:=gT t l) (λx hx=>HA.o.only x (by simp [gT] at hx;exact hx.1)) (λx y hx=>by
      by_cases e:(x:Int)∈l
      ·simp [gB,e]
      ·have:t x=false:=by simpa [gT,e] using hx
       have:=HA.o.zero x y this
       simpa [gB,e] using this))
     obtain⟨L2,hL2⟩:∃L,L=bls (gT t l):=⟨_,rfl⟩
     have hll:L2.length=256:=by rw [hL2,bls_length]
     rw [←hL2] at HLD hst HN
     have HNB:Hid (But (λk=>k=g∨k=pb) w (wq.setCells g 1 L2)):=But.setCells (S:=λk=>k=g∨k=pb) (.inl rfl) L2 1 ((But.of HB.o).trans (HBt.o.mono (λ_ h=>.inr h)))
     clear hR2 hm hL2
     go_wp2_with (first|((with_reducible refine ld_arm HLD.o ?_ ?_);· rfl))
     go_ret
     exact .inl ⟨HOK.o,rfl,HN.o,HNB.o⟩
end Go.Proofs.YtfmhdimaijimlaaGreatDoor.S
