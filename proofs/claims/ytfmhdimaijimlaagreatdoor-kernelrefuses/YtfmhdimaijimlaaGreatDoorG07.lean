import Derived.Test.YtfmhdimaijimlaaGreatDoorG06
import Derived.Maps.OwnIn
import Derived.Sort.CutIn
set_option linter.unusedVariables false
set_option linter.unusedSimpArgs false
set_option maxRecDepth 1000000
set_option maxHeartbeats 8000000
namespace Go.Proofs.YtfmhdimaijimlaaGreatDoor
open Go.RowKit Go.Shelf
theorem but_grown {W W':World}{row:Option Nat}(h:W.grownBy W' row):But (fun k=>row=some k) W W':=⟨h.os,h.tape,h.output,h.size,fun k hk hn=>h.block k hk (fun e=>hn e.symm)⟩
attribute [local go_sem] Oper.semAt_some
abbrev Mem (l:Fo)(n:Int):={ x:Int // x∈tells true l n }
def FixRelM (xs:List Int)(J:List { x:Int // x∈xs }→World→Prop)(Fp:World→Nat→Prop)(base:Nat)(a:Option Addr)(c:Nat)(t:Value)(wr:World):Prop :=
 ∃i:Nat,t=.int .i64 (i:Int)∧i≤xs.length∧J (xs.attach.take i) wr∧Own wr base 3 a xs.length c (ints xs)∧∀k,Blk a k→¬Fp wr k
theorem attach_step (xs:List Int)(i:Nat)(h:i<xs.length):xs.attach.take (i+1)=xs.attach.take i++[⟨xs[i],List.getElem_mem h⟩]:=by
 rw [List.take_succ_eq_append_getElem (by simpa using h)]
 simp
theorem fix_mem {w:World}{g gb m:Nat}{l:Fo}{base b0:Nat}{n:Int}(hq:Sq w true base b0 g n)(hk:Ki w g gb m l)(Fp:World→Nat→Prop)(hF:∀W,Below w.heap.size w W→∀k,Fp W k→k<w.heap.size)(N:Nat) :
  SeqStopsK Fence.wide N Tryz.prog 249 #[.pointer (some ⟨b0,0,none⟩)] (fun x:Mem l n=>#[Value.int .i64 x.1]) (Kq Fp) (fun ys=>ys=(tells true l n).attach) (fun pre=>pre <+: (tells true l n).attach) (tells true l n).length w:=by
 intro L J Jx W hW hJ hJx hY h0
 replace hq:=hq.later hW
 replace hk:=hk.later hW
 obtain⟨b1,b2,h1,h2,h3,_,_,_⟩:=hq
 have hT:=hid (take_any hk true n b1 b2 h2 h3)
 have htl:=Nat.le_trans (tells_len hk.ok true n) hk.big
 have HH:=hid (fun (W2:World) (hb:Below W.heap.size W W2)=>(show J [] W2∧∀k,Fp W2 k→k<W.heap.size from ⟨hJ [] W W2 none h0 (grown_of_below hb) (fun r e=>(by cases e)),fun k hk2=>Nat.lt_of_lt_of_le (hF W2 (hW.trans (hb.mono hW.size)) k hk2) hW.size⟩))
 unfold Mem at *
 generalize tells true l n=xs at *
 clear hk hJ hJx h2 h3 h0
 have HY:=hid hY
 clear hY
 refine callsIn_of_wp Tryz.func249 rfl trivial ?_ rfl
 simp only [Tryz.ntmps249,List.size_toArray,List.length_cons,List.length_nil,Nat.reduceAdd,Nat.reduceSub,Array.replicate_succ,Array.replicate_zero,List.push_toArray,List.append_toArray,List.nil_append,List.cons_append]
 change W.cell? _=some (.func (.func 214) _ _) at h1
 change Hid (Calls Tryz.prog 214 _ _ _) at hT
 gi_wp2_with (refine⟨trivial,fun h=>(by cases h),?_⟩;gi_at_call 214;refine (callsIn_wide.2 hT.out).mono ?_;rintro e w1 ⟨a,k,c,rfl,hO,hB⟩;have hlk:=hO.len;rw [il_] at hlk;subst hlk;have HO:=hid hO;have HB:=hid hB;clear hO hB)
 gi_loopw [8] (FixRelM xs J Fp W.heap.size a c) (fun t _=>xs.length - (intOf t).toNat)
 case atStart=>exact⟨0,rfl,Nat.zero_le _,(HH.out _ HB.out).1,HO.out,fun k hb hf=>by have:=(HH.out _ HB.out).2 k hf;have:=HO.out.blk k hb;omega⟩
 case round =>
  obtain⟨i,rfl,hi,hJs,hO,hN⟩:=hrel
  by_cases hlt:i<xs.length
  ·obtain⟨ga,rfl⟩:=hO.form (by omega)
   obtain⟨_,e1,hL1⟩:=hO.lies rfl (ints_get xs i hlt)
   cases e1
   have y1:=hL1.1
   obtain⟨fn,tmps,assign,body,hy,hR⟩:=HY.out (xs.attach.take i) ⟨xs[i],List.getElem_mem hlt⟩ wr hJs (by rw [List.length_take,List.length_attach];omega)
   rw [←attach_step xs i hlt] at hR
   have HPF:=hid (show xs.attach.take (i+1) <+: xs.attach from List.take_prefix _ _)
   simp only at hR hy
   generalize xs[i]=x at *
   have HOr:=hid hO
   have HNr:=hid hN
   clear hO hN hL1
   gi_wp2
   refine⟨fun h=>(by cases h),hR.mono ?_⟩
   rintro e W3 (⟨rfl,hJ3,hk3⟩|⟨rfl,hJx3⟩)
   ·obtain⟨hO3,hN3⟩:=HOr.out.kq hk3 HNr.out
    have HO3:=hid hO3
    have HN3:=hid hN3
    clear hO3 hN3 hk3
    gi_wp2
    go_roundw
    case rel=>exact⟨i+1,by go_num,by omega,hJ3,HO3.out,HN3.out⟩
    case measure=>simp [intOf];omega
   ·gi_wp2
    refine bodyPost_ret (results_none rfl _ _ _) rfl ?_
    exact⟨⟨_,rfl⟩,.inr ⟨_,HPF.out,hJx3⟩⟩
  ·obtain rfl:i=xs.length:=by omega
   rw [List.take_of_length_le (by simp)] at hJs
   clear hO hN
   gi_wp2
   go_end0
   exact⟨⟨_,rfl⟩,.inl ⟨_,rfl,hJs⟩⟩
theorem range_mem {N:Nat}{gop:Operand}{p:Tmp}{assign body:Code}{Q:Exit→Act→World→Prop}{a:Act}{w:World}{g gb m:Nat}{l:Fo}{base b0:Nat}{n:Int}(d:Nat)
  (h1:1≤N) (hg:a.eval gop=.func (.func 249) #[] #[.pointer (some ⟨b0,0,none⟩)]) (hq:Sq w true base b0 g n) (hk:Ki w g gb m l) (Fp:World→Nat→Prop) (hF:∀W,Below w.heap.size w W→∀k,Fp W k→k<w.heap.size)
  (hFc:∀(W:World) (L:Nat) (o o':Obj),w.heap.size≤L→W.heap[L]?=some o→o.isCells=false→∀k,Fp (W.putObj L o') k→Fp W k)
  (I:List (Mem l n)→World→Prop) (hI:OwnFrom w.heap.size I) (h0:I [] w)
  (hassign:∀(L:Nat) (x:Mem l n) (W:World) (K:Act→World→Prop),K (actX a p d x.1) W →
   assign.wpIn (Fence.wide.inRound L) (N - 1 - 1) Tryz.prog (Exit.then K (fun _ _ _=>False)) { tmps:=a.tmps.setIfInBounds p (.int .i64 x.1),defers:=[] } W)
  (hbody:∀(L:Nat) (pre:List (Mem l n)) (x:Mem l n) (W:World),I pre W→pre.length<(tells true l n).length→body.wpIn (Fence.wide.inRound L) (N - 1 - 1) Tryz.prog (ownPostG w.heap.size (Kq Fp) I (fun _ _ _=>False) (pre++[x]) W) (actX a p d x.1) W)
  (hdone:∀(D:Nat) (W:World),w.heap.size≤D→I (tells true l n).attach W→W.heap[D]?=some (.deferred (some []))→Q .normal { a with defers:={ target:=.collected D,args:=#[] }::a.defers } W) :
  (Code.rangeFunc gop #[p] assign body).wpIn Fence.wide N Tryz.prog Q a w :=
 wpIn_rangeFunc_ownG rfl h1 (gf:=249) (lb:=#[.pointer (some ⟨b0,0,none⟩)]) hg trivial (enters_of Tryz.func249 (by kernel_rfl) rfl) (fix_mem hq hk Fp hF (N - 1)) Kq.trans
  (fun W L o o' hL h ho _=>kq_put hFc W L o o' hL h ho) (Below.refl _ _) (fun _=>rfl) I (fun _ _ _=>False) hI (fun c=>ownFrom_pure _ _) h0 (fun x=>actX a p d x.1) (fun L x W K hK=>by rw [show (#[p].zip #[Value.int .i64 x.1]).foldl (fun t (p,v)=>t.setIfInBounds p v) a.tmps=a.tmps.setIfInBounds p (.int .i64 x.1) by simp];exact hassign L x W K hK) hbody (fun D xs W hD e=>by subst e;exact hdone D W hD) (fun D c pre W hD hp hf hK=>hf.elim)
open Go.RowKit Go.Shelf H
structure Cr (w:World)(k:Nat)(b:Option Addr)(m c:Nat)(M:List Value):Prop where
 len:M.length=m*k
 none_:b=none→m=0∧c=0
 cells:∀x,b=some x→∀j u,M[j]?=some u→w.cell? (x.add j)=some u
 one:∀u∈M,u.oneCell'=true
theorem append_k (t e:TypeId)(z:Value)(k by_:Nat)(ht:Tryz.prog.underlying t=some (.slice e))(hinf:(Tryz.prog.info? e).map (fun i=>(i.zero,i.size,i.bytes))=some (some z,k,by_))(hzs:z.cells.size=k)(hk:0<k)(hby:0<by_)
  {w:World} {base:Nat} {a:Option Addr} {n cap:Nat} {L:List Value} {b:Option Addr} {m c:Nat} {M:List Value} (h:w.ownsRow base e k (.slice a n cap) n L) (r:Cr w k b m c M) (hb:base≤w.heap.size) (hr:(n+m)*by_≤140737488355328) :
  ∃a' cap' w',(Builtin.append_ #[t,t] t #[.slice a n cap,.slice b m c]).run Tryz.prog w=.ok (.slice a' (n+m) cap') w'∧w'.ownsRow base e k (.slice a' (n+m) cap') (n+m) (L++M)∧Gr a a' w w':=by
 obtain⟨i,hi,hz0,hz1,hz2⟩:=info_parts hinf
 have hnm:n+m≤140737488355328:=Nat.le_trans (Nat.le_mul_of_pos_right _ hby) hr
 cases b with
 | none =>
  obtain⟨rfl,rfl⟩:=r.none_ rfl
  have hM:M=[]:=List.eq_nil_of_length_eq_zero (by have:=r.len;omega)
  subst hM
  have hr:=run_append_owned_none (P:=Tryz.prog) (w:=w) base t t e i k ht hi _ n _ h
  exact⟨a,cap,w,hr,by simpa using h,Gr.refl _ _⟩
 | some x =>
  obtain⟨v',w',hr,h2,h3,_,h5⟩:=run_append_own_at (P:=Tryz.prog) w base t t e i _ k by_ ht hi hz0 hz1 hz2 hzs hk _ n _ h x m c M r.len (r.cells x rfl) r.one (by unfold maxLen;omega) hr hb
  obtain⟨a',cap',rfl⟩:∃a' cap',v'=.slice a' (n+m) cap':=by
   rcases h2.2 with ⟨h,h'⟩|⟨g',cap',_,h,_⟩
   ·exact⟨.none,0,by rw [h,h']⟩
   ·exact⟨_,cap',h⟩
  refine⟨a',cap',w',hr,h2,⟨h3.os,h3.tape,h3.output,h3.size,fun j hj hn=>h3.block j hj (fun e=>hn (Blk.of.1 e.symm))⟩,fun j hj=>?_⟩
  rcases h5 with h5|h5
  ·rw [Blk.of.2 hj] at h5
   exact .inl (Blk.of.1 h5.symm)
  ·rw [Blk.of.2 hj] at h5
   right
   simp at h5
   omega
theorem Cr.lit (w:World)(e:TypeId)(M:List Value)(h1:∀u∈M,u.oneCell'=true):Cr (w.alloc (Obj.cells M.toArray e)) M.length (some ⟨w.heap.size,0,none⟩) 1 1 M :=
 ⟨by simp,fun h=>(by cases h),fun x hx j u hu=>by
  cases hx
  rw [aa_]
  simp only [World.cell?,World.alloc,Array.getElem?_push_size]
  simpa using hu,h1⟩
def Ow (w:World)(base:Nat)(e:TypeId)(k:Nat)(a:Option Addr)(n cap:Nat)(L:List Value):Prop:=w.ownsRow base e k (.slice a n cap) n L
theorem Ow.but {S:Nat→Prop}{w w':World}{base:Nat}{e:TypeId}{k:Nat}{a:Option Addr}{n cap:Nat}{L:List Value}(h:Ow w base e k a n cap L)(hb:But S w w')(hn:∀j,Blk a j→¬S j):Ow w' base e k a n cap L:=own_but hb h (fun j hj=>hn j (Blk.of.1 hj))
theorem Ow.later {w w':World}{base:Nat}{e:TypeId}{k:Nat}{a:Option Addr}{n cap:Nat}{L:List Value}(h:Ow w base e k a n cap L)(hb:Below w.heap.size w w'):Ow w' base e k a n cap L:=h.but (S:=fun _=>False) (But.of hb) (fun _ _ h=>h)
theorem Ow.mono {w:World}{base b:Nat}{e:TypeId}{k:Nat}{a:Option Addr}{n cap:Nat}{L:List Value}(h:Ow w base e k a n cap L)(hb:b≤base):Ow w b e k a n cap L:=own_mono h hb
theorem Ow.blk {w:World}{base:Nat}{e:TypeId}{k:Nat}{a:Option Addr}{n cap:Nat}{L:List Value}(h:Ow w base e k a n cap L):∀j,Blk a j→base≤j∧j<w.heap.size:=fun j hj=>own_block h j (Blk.of.2 hj)
theorem Ow.nil (w:World)(base:Nat)(e:TypeId)(k:Nat):Ow w base e k none 0 0 []:=⟨by simp,.inl ⟨rfl,rfl⟩⟩
theorem Ow.cells {w:World}{base:Nat}{e:TypeId}{k:Nat}{a:Option Addr}{n cap:Nat}{L:List Value}(h:Ow w base e k a n cap L){j:Nat}(hj:Blk a j):∃cs t z,w.heap[j]?=some (.cells cs t z):=by
 rcases h.2 with ⟨h1,_⟩|⟨g,c,cur,hv,hg,hh,r⟩
 ·simp only [Value.slice.injEq] at h1
  obtain⟨x,hx,_⟩:=hj
  rw [h1.1] at hx
  cases hx
 ·simp only [Value.slice.injEq] at hv
  obtain⟨x,hx,rfl⟩:=hj
  rw [hv.1] at hx
  cases hx
  exact⟨_,_,_,hh⟩
theorem Ow.put {w:World}{base:Nat}{e:TypeId}{k:Nat}{a:Option Addr}{n cap:Nat}{L:List Value}(h:Ow w base e k a n cap L){D:Nat}{ds:List Deferred}(hK:w.heap[D]?=some (.deferred (some ds))):Ow (w.putObj D (.deferred none)) base e k a n cap L:=ownsRow_putObj h _ hK rfl
def BoxFp (B:Nat)(W:World)(k:Nat):Prop:=k=B∨∃a n c,W.cell? ⟨B,0,none⟩=some (.slice a n c)∧Blk a k
def BoxK (B:Nat)(e:TypeId)(k:Nat)(W:World)(n:Nat)(L:List Value):Prop:=∃a c,Lies W ⟨B,0,none⟩ (.slice a n c)∧Ow W (B+1) e k a n c L
theorem BoxK.grown {B C:Nat}{e:TypeId}{k n:Nat}{L:List Value}{W W':World}{row:Option Nat}(h:BoxK B e k W n L)(hg:W.grownBy W' row)(hr:∀r,row=some r→C≤r∧∃o,W.heap[r]?=some o∧o.isCells=false):BoxK B e k W' n L:=by
 obtain⟨a,c,hl,hO⟩:=h
 refine⟨a,c,⟨cell_kept hl.1 hg (fun r e=>(hr r e).2),(frozen_kept hl.1 hg (fun r e=>(hr r e).2)).trans hl.2⟩,hO.but (but_grown hg) (fun j hj e=>?_)⟩
 obtain⟨_,o,ho,hc⟩:=hr j e
 obtain⟨cs,t,z,hh⟩:=hO.cells hj
 rw [ho] at hh
 cases hh
 cases hc
theorem boxFp_first {w:World}{B:Nat}(hl:w.cell? ⟨B,0,none⟩=some (.slice none 0 0))(W:World)(hW:Below w.heap.size w W)(k:Nat)(hk:BoxFp B W k):k<w.heap.size:=by
 have hB:=World.block_lt_of_cell? _ _ hl
 rcases hk with rfl|⟨a,n,c,h2,hk⟩
 ·exact hB
 ·rw [cell_later hW hl] at h2
  cases h2
  obtain⟨x,hx,_⟩:=hk
  cases hx
theorem boxFp_put {B C:Nat}(hB:B<C)(W:World)(L:Nat)(o o':Obj)(hL:C≤L)(h:W.heap[L]?=some o)(ho:o.isCells=false)(k:Nat)(hk:BoxFp B (W.putObj L o') k):BoxFp B W k:=by
 rcases hk with rfl|⟨a,n,c,h2,hk⟩
 ·exact .inl rfl
 ·refine .inr ⟨a,n,c,?_,hk⟩
  have hne:(W.putObj L o').heap[B]?=W.heap[B]?:=World.putObj_heap_other (by omega)
  rw [World.cell?_of_block (w:=W) (w':=W.putObj L o') hne] at h2
  exact h2
theorem box_append (t e:TypeId)(z:Value)(k by_:Nat)(ht:Tryz.prog.underlying t=some (.slice e))(hinf:(Tryz.prog.info? e).map (fun i=>(i.zero,i.size,i.bytes))=some (some z,k,by_))(hzs:z.cells.size=k)(hk:0<k)(hby:0<by_)(hby2:by_≤1024)
  {B:Nat} {W:World} {n:Nat} {L:List Value} {a:Option Addr} {c:Nat} (hl:Lies W ⟨B,0,none⟩ (.slice a n c)) (hO:Ow W (B+1) e k a n c L) (M:List Value) (hM:M.length=k) (hM1:∀u∈M,u.oneCell'=true) (hn:n≤2048) :
  ∃a' c' w3,(Builtin.append_ #[t,t] t #[.slice a n c,.slice (some ⟨W.heap.size,0,none⟩) 1 1]).run Tryz.prog (W.alloc (Obj.cells M.toArray e))=.ok (.slice a' (n+1) c') w3 ∧
   Lies w3 ⟨B,0,none⟩ (.slice a n c)∧∀w4,w4=w3.setCell ⟨B,0,none⟩ (.slice a' (n+1) c')→w4.cell? ⟨B,0,none⟩=some (.slice a' (n+1) c')∧BoxK B e k w4 (n+1) (L++M)∧But (BoxFp B W) W w4∧(∀j,BoxFp B w4 j→BoxFp B W j∨W.heap.size≤j)∧(∀j,BoxFp B W j→B≤j∧∃cs t z,W.heap[j]?=some (.cells cs t z)):=by
 have hBl:B<W.heap.size:=World.block_lt_of_cell? _ _ hl.1
 have hcr:=Cr.lit W e M hM1
 rw [hM] at hcr
 obtain⟨a',c',w3,hrun,hO3,hG0⟩:=append_k t e z k by_ ht hinf hzs hk hby (hO.later (below1 W (Obj.cells M.toArray e))) hcr (by simp;omega) (by
  have:(n+1)*by_≤2049*1024:=Nat.mul_le_mul (by omega) hby2
  omega)
 have hG:=hG0.pre (below1 W (Obj.cells M.toArray e))
 have hO3:Ow w3 (B+1) e k a' (n+1) c' (L++M):=hO3
 have hl3:Lies w3 ⟨B,0,none⟩ (.slice a n c):=hl.but hG.but (fun hb=>by have:=(hO.blk B hb).1;omega)
 have hfp:∀j,BoxFp B W j→j=B∨Blk a j:=fun j hj=>by
  rcases hj with rfl|⟨a2,n2,c2,h2,hj⟩
  ·exact .inl rfl
  ·rw [hl.1] at h2
   cases h2
   exact .inr hj
 refine⟨a',c',w3,hrun,hl3,?_⟩
 rintro w4 rfl
 have hb4:But (BoxFp B W) W (w3.setCell ⟨B,0,none⟩ (.slice a' (n+1) c')) :=
  (hG.but.mono (fun j hj=>.inr ⟨a,_,c,hl.1,hj⟩)).setCell (p:=⟨B,0,none⟩) (.inl rfl) _
 have hl4:=hl3.put (u:=.slice a' (n+1) c')
 have hO4:Ow (w3.setCell ⟨B,0,none⟩ (.slice a' (n+1) c')) (B+1) e k a' (n+1) c' (L++M) :=
  hO3.but (S:=(·=B)) ((But.refl (·=B) _).setCell (p:=⟨B,0,none⟩) (show B=B from rfl) _) (fun j hj e=>by have:=(hO3.blk j hj).1;omega)
 refine⟨hl4.1,⟨a',c',hl4,hO4⟩,hb4,fun j hj=>?_,fun j hj=>?_⟩
 ·rcases hj with rfl|⟨a2,n2,c2,h2,hj⟩
  ·exact .inl (.inl rfl)
  ·rw [hl4.1] at h2
   cases h2
   rcases hG.on j hj with h3|h3
   ·exact .inl (.inr ⟨a,_,c,hl.1,h3⟩)
   ·exact .inr h3
 ·rcases hfp j hj with rfl|h3
  ·refine⟨Nat.le_refl _,?_⟩
   have:=hl.1
   unfold World.cell? at this
   cases ho:W.heap[j]? with
   | none=>rw [ho] at this;cases this
   | some o =>
    rw [ho] at this
    cases o with
    | cells cs t z=>exact⟨cs,t,z,rfl⟩
    | _=>simp at this
  ·exact⟨by have:=(hO.blk j h3).1;omega,hO.cells h3⟩
def encC (x:Cp):List Value:=[.int .i64 x.1,.int .u64 (x.2.1:Int),.int .u64 (x.2.2:Int)]
def caps (K:List Cp):List Value:=K.flatMap encC
theorem encC_one (x:Cp):∀v∈encC x,v.oneCell'=true:=by
 intro v hv
 simp only [encC,List.mem_cons,List.not_mem_nil,or_false] at hv
 rcases hv with rfl|rfl|rfl<;>rfl
theorem caps_snoc (K:List Cp)(x:Cp):caps (K++[x])=caps K++encC x:=by simp [caps]
theorem info38:(Tryz.prog.info? 38).map (fun i=>(i.zero,i.size,i.bytes))=some (some (.agg #[.int .i64 0,.int .u64 0,.int .u64 0]),3,24):=by kernel_rfl
abbrev Tok:=Cp×Int×Int
def encT (x:Tok):List Value:=[.int .i64 x.1.1,.int .u64 (x.1.2.1:Int),.int .u64 (x.1.2.2:Int),.int .i64 x.2.1,.int .i64 x.2.2]
def toks (K:List Tok):List Value:=K.flatMap encT
theorem encT_one (x:Tok):∀v∈encT x,v.oneCell'=true:=by
 intro v hv
 simp only [encT,List.mem_cons,List.not_mem_nil,or_false] at hv
 rcases hv with rfl|rfl|rfl|rfl|rfl<;>rfl
theorem toks_snoc (K:List Tok)(x:Tok):toks (K++[x])=toks K++encT x:=by simp [toks]
theorem info61:(Tryz.prog.info? 61).map (fun i=>(i.zero,i.size,i.bytes))=some (some (.agg #[.int .i64 0,.int .u64 0,.int .u64 0,.int .i64 0,.int .i64 0]),5,40):=by kernel_rfl
def runC (X:List Tk):List Int→List Cp
 | []=>[]
 | a::A=>(tk X a).1::runC (X.set a.toNat tz) A
def runT (T:List (Cp×Int))(X:List Tk):List Int→List (Cp×Int)
 | []=>T
 | a::A=>runT (dropT T (tk X a).1) (X.set a.toNat tz) A
theorem runC_snoc:∀(A:List Int) (X:List Tk) (a:Int),runC X (A++[a])=runC X A++[(tk (zer X A) a).1]
 | [],X,a=>rfl
 | b::A,X,a=>by show (tk X b).1::runC _ (A++[a])=_;rw [runC_snoc];rfl
theorem runT_snoc:∀(A:List Int) (T:List (Cp×Int)) (X:List Tk) (a:Int),runT T X (A++[a])=dropT (runT T X A) (tk (zer X A) a).1
 | [],T,X,a=>rfl
 | b::A,T,X,a=>by show runT _ _ (A++[a])=_;rw [runT_snoc];rfl
theorem zer_or:∀(A:List Int) (X:List Tk) (a:Int),0≤a→(∀x∈A,0≤x)→tk (zer X A) a=tk X a∨tk (zer X A) a=tz
 | [],X,a,_,_=>.inl rfl
 | b::A,X,a,h0,hA=>by
  unfold zer
  have hb:=hA b (List.mem_cons_self ..)
  rcases zer_or A (X.set b.toNat tz) a h0 (fun x hx=>hA x (List.mem_cons_of_mem _ hx)) with h|h
  ·by_cases e:a=b
   ·rw [h]
    by_cases hl:b.toNat<X.length
    ·right
     have:(b.toNat:Int)=b:=by omega
     have h2:=tk_set_same (X:=X) tz hl
     rw [this] at h2
     rw [e];exact h2
    ·left
     rw [List.set_eq_of_length_le (by omega)]
   ·left
    rw [h]
    exact tk_set_other tz h0 (by omega)
  ·exact .inr h
theorem snoc_ind {P:List Int→Prop}(h0:P [])(h1:∀A a,P A→P (A++[a])):∀A,P A:=fun A=>by
 have:∀B:List Int,P B.reverse:=fun B=>by
  induction B with
  | nil=>exact h0
  | cons b B ih=>rw [List.reverse_cons];exact h1 _ _ ih
 have h:=this A.reverse
 rwa [List.reverse_reverse] at h
theorem runC_eq {X:List Tk}:∀(A:List Int),(∀a∈A,0≤a)→A.Nodup→runC X A=A.map (fun k=>(tk X k).1) :=
 snoc_ind (P:=fun A=>(∀a∈A,0≤a)→A.Nodup→runC X A=A.map (fun k=>(tk X k).1)) (fun _ _=>rfl) (fun A a ih h0 hn=>by
  rw [List.nodup_append] at hn
  rw [runC_snoc,ih (fun x hx=>h0 x (List.mem_append_left _ hx)) hn.1,zer_tk A X a (h0 a (by simp)) (fun x hx=>h0 x (List.mem_append_left _ hx)) (fun hm=>hn.2.2 a hm a (by simp) rfl)]
  simp)
theorem runT_eq {m:Nat}{X:List Tk}{l:Fo}(h:Inv m X l):∀(A:List Int),(∀a∈A,a∈nums l)→A.Nodup→runT (pairs X l) X A=pairs X (cuts l A) :=
 snoc_ind (P:=fun A=>(∀a∈A,a∈nums l)→A.Nodup→runT (pairs X l) X A=pairs X (cuts l A)) (fun _ _=>by rw [cuts_nil];rfl) (fun A a ih h0 hn=>by
  rw [List.nodup_append] at hn
  have hA:∀x∈A,x∈nums l:=fun x hx=>h0 x (List.mem_append_left _ hx)
  have ha:=h0 a (by simp)
  rw [runT_snoc,ih hA hn.1,zer_tk A X a (nums_nn h.ok ha) (fun x hx=>nums_nn h.ok (hA x hx)) (fun hm=>hn.2.2 a hm a (by simp) rfl),←cuts_snoc]
  unfold dropT pairs cut
  rw [List.filter_map]
  congr 1
  refine List.filter_congr (fun x hx=>?_)
  have hxl:=(mem_cuts.1 hx).1
  simp only [Function.comp]
  by_cases e:x.1=a
  ·rw [decide_eq_false (by simp [e]),decide_eq_false (by simp [e])]
  ·have h1:(tk X x.1).1≠(tk X a).1:=fun hc=>e (h.one _ (mn_.2 ⟨x.2,hxl⟩) _ ha hc)
   have h2:x.1≠a:=e
   rw [decide_eq_true h1,decide_eq_true h2])
theorem cuts_congr {l:Fo}{A B:List Int}(h:∀x,x∈A↔x∈B):cuts l A=cuts l B:=by
 unfold cuts
 refine List.filter_congr (fun x _=>?_)
 by_cases e:x.1∈A
 ·rw [decide_eq_false (fun hn=>hn e),decide_eq_false (fun hn=>hn ((h _).1 e))]
 ·have h1:x.1∉B:=fun hn=>e ((h _).2 hn)
  rw [decide_eq_true e,decide_eq_true h1]
theorem fell_any {w:World}{A:Ad}{kn mo:Nat}{T:List (Cp×Int)}{X:List Tk}{l:Fo}(h:Cm w A kn mo T X l)(n:Int) :
  Calls Tryz.prog 233 #[.pointer (some ⟨A.g,2,none⟩),.int .i64 n] w fun e w'=>e=.returned (.tuple #[])∧Cm w' A kn mo T X (cuts l (G true l n))∧But (·=A.kb) w w':=by
 have hok:=hid h.kin.ok
 have hmo:=h.small
 have hfl:(Fl l n).length≤mo:=by rw [Fl_len hok.out];exact G_len hok.out _ _
 have hkb:A.kb<w.heap.size:=h.lt _ (.inr (.inr (.inr (.inr (.inr rfl)))))
 have HC:Hid (cuts l (G true l n)=cuts l (Fl l n)):=cuts_congr (fun x=>(mem_Fl hok.out).symm)
 have hF:=hid (fall_any h.kin n)
 have x2:=h.c2
 have HH:=hid h
 unfold Hid at HC
 rw [HC]
 clear h HC
 go_enter Tryz.func233,Tryz.ntmps233
 go_upto_region 1 with (first|(go_at_call 261;refine hF.out.mono ?_;rintro e w1 ⟨a,k,cap,rfl,hO,hB⟩;have hlk:=hO.len;rw [il_] at hlk;subst hlk;have HO:=hid hO;have HB:=hid hB;clear hO hB))
 go_loopw [13] (fun t W=>∃i:Nat,t=.int .i64 (i:Int)∧i≤(Fl l n).length∧Cm W A kn mo T X (cuts l ((Fl l n).take i))∧But (·=A.kb) w1 W) (fun t _=>(Fl l n).length - (intOf t).toNat)
 case atStart=>exact⟨0,rfl,Nat.zero_le _,by rw [List.take_zero,cuts_nil];exact HH.out.later HB.out,But.refl _ _⟩
 case round =>
  obtain⟨i,rfl,hi,hM,hbw⟩:=hrel
  by_cases hlt:i<(Fl l n).length
  ·have hOr:=HO.out.but hbw (fun j hj e=>by have:=HO.out.blk j hj;omega)
   obtain⟨ga,rfl⟩:=hOr.form (by omega)
   obtain⟨_,e1,hL1⟩:=hOr.lies rfl (ints_get (Fl l n) i hlt)
   cases e1
   have y1:=hL1.1
   have z2:=hM.c2
   have hst:=fall_step hok.out (n:=n) (List.getElem?_eq_getElem hlt)
   have hcut:=cut_any hM.kin (Fl l n)[i]
   have hcl:cutL (cuts l ((Fl l n).take i)) (Fl l n)[i]=cuts l ((Fl l n).take (i+1)):=by
    unfold cutL;rw [if_pos ⟨hst.1,hst.2.1⟩];exact hst.2.2
   rw [hcl] at hcut
   have HCUT:=hid hcut
   have HM:=hid hM
   have HBW:=hid hbw
   clear hcut hcl hst hM hbw hOr hL1
   generalize (Fl l n)[i]=x at *
   go_wp2_with (first|(go_at_call 262;refine HCUT.out.mono ?_;rintro e w2 ⟨rfl,hk2,hb2⟩;have HK2:=hid hk2;have HB2:=hid hb2;clear hk2 hb2))
   refine⟨⟨i+1,by go_num,by omega,HM.out.setK HB2.out HK2.out,HBW.out.trans HB2.out⟩,by simp [intOf];omega⟩
  ·obtain rfl:i=(Fl l n).length:=by omega
   rw [List.take_length] at hM
   have HM:=hid hM
   have HBW:=hid hbw
   clear hM hbw
   go_wp2
   go_end0
   exact⟨rfl,HM.out,(But.of HB.out).trans HBW.out⟩
theorem down_any {w:World}{A:Ad}{kn mo:Nat}{T:List (Cp×Int)}{X:List Tk}{l:Fo}(h:Cm w A kn mo T X l)(n:Int) :
  Calls Tryz.prog 121 #[.pointer (some ⟨A.g,2,none⟩),.int .i64 n] w fun e w'=>∃b0,e=.returned (.func (.func 249) #[] #[.pointer (some ⟨b0,0,none⟩)])∧Sq w' true w.heap.size b0 A.kg n∧Below w.heap.size w w':=by
 have hc:=hid (make_any true A.kg n w)
 change Hid (Calls Tryz.prog 175 _ w _) at hc
 have x2:=h.c2
 clear h
 go_enter Tryz.func121,Tryz.ntmps121
 go_wp2_with (first|(go_at_call 175;refine hc.out.mono ?_;rintro e w1 ⟨b0,rfl,hs,hb⟩;have HS:=hid hs;have HB:=hid hb;clear hs hb))
 go_ret
 exact⟨b0,rfl,HS.out,HB.out⟩
attribute [local go_sem] Oper.semAt_some
def vals {l:Fo}{n:Int}(pre:List (Mem l n)):List Int:=pre.map Subtype.val
theorem vals_snoc {l:Fo}{n:Int}(pre:List (Mem l n))(x:Mem l n):vals (pre++[x])=vals pre++[x.1]:=by simp [vals]
theorem vals_len {l:Fo}{n:Int}(pre:List (Mem l n)):(vals pre).length=pre.length:=by simp [vals]
theorem vals_mem {l:Fo}{n:Int}{pre:List (Mem l n)}{x:Int}(h:x∈vals pre):x∈G true l n:=by
 unfold vals at h
 obtain⟨y,_,rfl⟩:=List.mem_map.1 h
 exact y.2
theorem vals_all {l:Fo}{n:Int}:vals (l:=l) (n:=n) (tells true l n).attach=G true l n:=by
 unfold vals
 rw [List.attach_map_subtype_val];rfl
structure DropI (w:World)(A:Ad)(kn mo:Nat)(X:List Tk)(l:Fo)(B0 B:Nat)(n:Int)(pre:List (Mem l n))(W:World):Prop where
 box:BoxK B 38 3 W pre.length (caps (runC X (vals pre)))
 c:Lies W ⟨B0,0,none⟩ (.pointer (some ⟨A.g,0,none⟩))
 cm:Cm W A kn mo (runT (pairs X l) X (vals pre)) (zer X (vals pre)) l
 but:But A.Wr w W
def DropFp (A:Ad)(B:Nat)(W:World)(k:Nat):Prop:=A.Wr k∨BoxFp B W k
theorem dropI_from {w:World}{A:Ad}{kn mo:Nat}{X:List Tk}{l:Fo}{B0 B:Nat}{n:Int}{C:Nat}(hA:∀k,A.All k→k<C)(hw:w.heap.size≤C)(h0:B0<C):OwnFrom C (DropI w A kn mo X l B0 B n):=fun s W W' row hs hg hr =>
 ⟨hs.box.grown hg hr,hs.c.but (but_grown hg) (fun e=>by have:=(hr _ e).1;simp at this;omega),hs.cm.but (but_grown hg) (fun k hk e=>by have:=(hr _ e).1;have:=hA k hk;omega),hs.but.comp (but_grown hg) (fun i e=>.inr (by have:=(hr _ e).1;omega))⟩
theorem ok_ {F:Fence}{n:Nat}{P:Program}{w:World}{o:Oper}{a:Act}{K:Act→World→Prop}{Q:Exit→Act→World→Prop}(s x:Operand)(t:TypeId)
  (ho:o.op=.call { callee:=.builtin .append,args:=#[s,x],argTypes:=#[t,t] }) (vs vx:Value) (hs:a.eval s=vs) (hx:a.eval x=vx) (v':Value) (w':World)
  (hr:(Builtin.append_ #[t,t] o.type #[vs,vx]).run P w=.ok v' w') (h:K (a.put o.dst v') w'):Oper.wpIn F n P o a w K Q:=by
 unfold Oper.wpIn
 refine⟨by simp [Oper.about,ho,resolve,Target.leads,Sem.run_pure],?_⟩
 rw [Oper.semAt_plain F _ _ (by rw [ho];intro c hc;cases hc)]
 simp [execOp,ho,resolve,invoke,builtin,hs,hx,hr,Result.andThen]
 exact h
theorem drop_ok {w:World}{A:Ad}{kn mo:Nat}{X:List Tk}{l:Fo}(h:Cat w A kn mo X l)(n:Int)(hn:n∈nums l) :
  Calls Tryz.prog 201 #[.pointer (some ⟨A.g,0,none⟩),.int .i64 n] w fun e w'=>∃a c,e=.returned (.tuple #[.slice a (G true l n).length c,.int .i64 0])∧Ow w' w.heap.size 38 3 a (G true l n).length c (caps ((G true l n).map (fun k=>(tk X k).1)))∧Cat w' A kn mo (zer X (G true l n)) (cuts l (G true l n))∧But A.Wr w w':=by
 have hmo:=h.cm.small
 have hGl:=G_len h.inv.ok true n
 have HH:=hid h
 have hAll:=hid h.lt
 obtain⟨w0,hw0⟩:∃w0,w0=w.alloc (Obj.cells #[.pointer (some ⟨A.g,0,none⟩)] 82):=⟨_,rfl⟩
 have hB0:Below w.heap.size w w0:=by rw [hw0];exact below1 _ _
 have hL0:Lies w0 ⟨w.heap.size,0,none⟩ (.pointer (some ⟨A.g,0,none⟩)):=by rw [hw0];exact lies_new _ _ _
 have z0:=hL0.1
 have hlt0:w.heap.size<w0.heap.size:=by rw [hw0];simp
 obtain⟨w2,hw2⟩:∃w2,w2=w0.alloc (Obj.cells #[.slice none 0 0] 57):=⟨_,rfl⟩
 have hB2:Below w0.heap.size w0 w2:=by rw [hw2];exact below1 _ _
 have hL2:Lies w2 ⟨w0.heap.size,0,none⟩ (.slice none 0 0):=by rw [hw2];exact lies_new _ _ _
 have z2:=(hL0.later hB2).1
 have hh:=hid (chas_any (h.cm.later hB0) n)
 rw [decide_eq_true hn] at hh
 have hmk:=hid (down_any (h.cm.later (bc hB0 hB2)) n)
 clear h
 refine (callsIn_wide (n:=3)).1 ?_
 refine callsIn_of_wp_marks Tryz.func201 rfl trivial ?_ rfl
 simp only [Tryz.ntmps201,List.size_toArray,List.length_cons,List.length_nil,Nat.reduceAdd,Nat.reduceSub,Array.replicate_succ,Array.replicate_zero,List.push_toArray,List.append_toArray,List.nil_append,List.cons_append]
 gi_upto_region 1 with fail
 rw [←hw0]
 clear hw0
 gi_upto_region 4 with (first|(refine⟨trivial,?_⟩;gi_at_call 173;refine (callsIn_wide.2 hh.out).mono ?_;rintro e w9 ⟨rfl,hw9⟩;obtain rfl:=hw9.symm;clear hw9))
 rw [←hw2]
 clear hw2
 gi_wp2_with (refine⟨trivial,?_⟩;gi_at_call 121;refine (callsIn_wide.2 hmk.out).mono ?_;rintro e w1 ⟨b0,rfl,hS,hB⟩;have HS:=hid hS;have HB:=hid hB;clear hS hB)
 have l1:w0.heap.size<w1.heap.size:=Nat.lt_of_lt_of_le (World.block_lt_of_cell? _ _ hL2.1) HB.out.size
 have hBw1:=bc (bc hB0 hB2) HB.out
 have hM1:=HH.out.cm.later hBw1
 have hL01:=(hL0.later hB2).later HB.out
 have hL21:=hL2.later HB.out
 have hwr:Hid (∀k,A.Wr k→k<w.heap.size):=fun k hk=>hAll.out k (.inr (.inr hk))
 have hmx:Tryz.prog.follows .mixedOrders=true:=by kernel_rfl
 have hrng:Hid (∀x∈G true l n,x∈nums l∧0≤x∧x<(mo:Int)):=fun x hx=>by
  have h1:=G_nums HH.out.inv.ok hx
  have:=HH.out.inv.ok.range x h1
  exact⟨h1,this.1,this.2⟩
 refine range_mem 7 (by omega) rfl HS.out hM1.kin (DropFp A w0.heap.size) (fun W hW k hk=>?_) (fun W L o o' hL hLo ho k hk=>hk.imp id (fun hk=>boxFp_put l1 W L o o' hL hLo ho k hk))
  (DropI w A kn mo X l w.heap.size w0.heap.size n) (dropI_from (fun k hk=>by have:=hAll.out k hk;have:=hBw1.size;omega) hBw1.size (by omega)) ⟨⟨none,0,hL21,Ow.nil _ _ _ _⟩,hL01,hM1,But.of hBw1⟩ ?assign ?body ?done
 ·rcases hk with hk|hk
  ·have:=hwr.out k hk;have:=hBw1.size;omega
  ·exact boxFp_first hL21.1 W hW k hk
 case assign =>
  intro L x W K hK
  gi_wp2
  exact hK
 case body =>
  rintro L pre x W hI hlt
  simp only [actX,List.setIfInBounds_toArray,List.set]
  obtain⟨x,hx⟩:=x
  obtain⟨hxl,hx0,hxm⟩:=hrng.out x hx
  obtain⟨k,rfl⟩:∃k:Nat,x=(k:Int):=⟨x.toNat,by omega⟩
  have hkm:k<mo:=by omega
  obtain⟨a,c,hl,hO⟩:=hI.box
  have hpl:pre.length≤2048:=by unfold tells at hlt;omega
  have hwide:(tk (zer X (vals pre)) (k:Int)).1.2.1<B64∧(tk (zer X (vals pre)) (k:Int)).1.2.2<B64:=by
   rcases zer_or (vals pre) X (k:Int) hx0 (fun y hy=>(hrng.out y (vals_mem hy)).2.1) with e|e
   ·rw [e];exact HH.out.inv.wide _ hxl
   ·rw [e];decide
  have hfg:=hid (forget_tot (hI.cm.later (Below.refl _ _).drew) k hkm hwide)
  have HPO:Hid (∀W2,Cm W2 A kn mo (dropT (runT (pairs X l) X (vals pre)) (tk (zer X (vals pre)) (k:Int)).1) ((zer X (vals pre)).set k tz) l→But A.Wr W.drew W2 →
    ∃a' c' w3,(Builtin.append_ #[57,57] 57 #[.slice a pre.length c,.slice (some ⟨W2.heap.size,0,none⟩) 1 1]).run Tryz.prog (W2.alloc (Obj.cells #[.int .i64 (tk (zer X (vals pre)) (k:Int)).1.1,.int .u64 ((tk (zer X (vals pre)) (k:Int)).1.2.1:Int),.int .u64 ((tk (zer X (vals pre)) (k:Int)).1.2.2:Int)] 38))=.ok (.slice a' (pre.length+1) c') w3∧Lies W2 ⟨w0.heap.size,0,none⟩ (.slice a pre.length c)∧Lies w3 ⟨w0.heap.size,0,none⟩ (.slice a pre.length c) ∧
     (KeepsFrom w1.heap.size W (w3.setCell ⟨w0.heap.size,0,none⟩ (.slice a' (pre.length+1) c'))∧Kq (DropFp A w0.heap.size) W (w3.setCell ⟨w0.heap.size,0,none⟩ (.slice a' (pre.length+1) c'))∧DropI w A kn mo X l w.heap.size w0.heap.size n (pre++[⟨(k:Int),hx⟩]) (w3.setCell ⟨w0.heap.size,0,none⟩ (.slice a' (pre.length+1) c')))):=by
   intro W2 hM2 hB2
   have hBW:But A.Wr W W2:=(But.of (Below.refl _ _).drew).trans hB2
   have hl2:=hl.but hBW (fun e=>by have:=hwr.out _ e;simp at this;omega)
   have hO2:=hO.but hBW (fun j hj e=>by have:=hwr.out _ e;have:=(hO.blk j hj).1;omega)
   obtain⟨a',c',w3,hrun,hl3,hr⟩:=box_append 57 38 _ 3 24 Tryz.underlying57 info38 rfl (by omega) (by omega) (by omega) hl2 hO2 (encC (tk (zer X (vals pre)) (k:Int)).1) rfl (encC_one _) hpl
   obtain⟨hc4,hbx4,hb4,hf4,hg4⟩:=hr _ rfl
   have hfpW:∀j,BoxFp w0.heap.size W2 j→BoxFp w0.heap.size W j:=fun j hj=>by
    rcases hj with rfl|⟨a2,n2,c2,h2,hj⟩
    ·exact .inl rfl
    ·rw [hl2.1] at h2
     cases h2
     exact .inr ⟨a,_,c,hl.1,hj⟩
   have hbw4:But (DropFp A w0.heap.size W) W (w3.setCell ⟨w0.heap.size,0,none⟩ (.slice a' (pre.length+1) c')) :=
    (hBW.mono (fun j hj=>.inl hj)).trans (hb4.mono (fun j hj=>.inr (hfpW j hj)))
   refine⟨a',c',w3,hrun,hl2,hl3,keeps_but hbw4 (fun j o hj ho hge hs=>?_),kq_but hbw4 (fun j hj=>hj) (fun j hj=>?_),⟨?_,?_,?_,?_⟩⟩
   ·rcases hs with hs|hs
    ·have:=hwr.out j hs;have:=hBw1.size;omega
    ·have:∃cs t z,W.heap[j]?=some (.cells cs t z):=by
      rcases hs with rfl|⟨a2,n2,c2,h2,hj2⟩
      ·have h3:=hl.1
       unfold World.cell? at h3
       rw [hj] at h3
       cases o with
       | cells cs t z=>exact⟨cs,t,z,hj⟩
       | _=>simp at h3
      ·rw [hl.1] at h2
       cases h2
       exact hO.cells hj2
     obtain⟨cs,t,z,hh⟩:=this
     rw [hj] at hh
     cases hh
     cases ho
   ·rcases hj with hj|hj
    ·exact .inl (.inl hj)
    ·rcases hf4 j hj with h5|h5
     ·exact .inl (.inr (hfpW j h5))
     ·exact .inr (Nat.le_trans hBW.size h5)
   ·rw [vals_snoc,runC_snoc,caps_snoc,List.length_append]
    exact hbx4
   ·exact (hI.c.but hBW (fun e=>by have:=hwr.out _ e;simp at this)).but hb4 (fun e=>by have:=(hg4 _ e).1;simp at this;omega)
   ·have e1:((⟨(k:Int),hx⟩:Mem l n)).1.toNat=k:=by simp
    rw [vals_snoc,runT_snoc,zer_snoc,e1]
    exact hM2.but hb4 (fun j hj e=>by have:=(hg4 _ e).1;have:=hAll.out j hj;omega)
   ·exact (hI.but.trans hBW).comp hb4 (fun j e=>.inr (by have:=(hg4 _ e).1;omega))
  have y6:=hl.1
  have y2:=hI.c.1
  generalize tk (zer X (vals pre)) (k:Int)=tt at *
  obtain⟨⟨o,hi,lo⟩,r⟩:=tt
  clear hI hl hO hwide hxl
  gi_wp2
  refine wpIn_region_any hmx ?_
  change wpAnyIn _ _ _ _ _ _ _ _ _ (World.drew _)
  refine yI [0,1,4] ?_
  refine AllReadyIn.cons rfl (fun K hK=>?_) (AllReadyIn.cons rfl (fun K hK=>?_) (AllReadyIn.cons rfl (fun K hK=>?_) AllReadyIn.nil))
  ·go_simp
   refine hK _ _ ?_
   clear hK K
   refine yI [1,4] ?_
   refine AllReadyIn.cons rfl (fun K hK=>?_) (AllReadyIn.cons rfl (fun K hK=>?_) AllReadyIn.nil)
   ·go_simp
    refine hK _ _ ?_
    clear hK K
    refine yI [2,4] ?_
    refine AllReadyIn.cons rfl (fun K hK=>?_) (AllReadyIn.cons rfl (fun K hK=>?_) AllReadyIn.nil)
    ·go_simp
     refine hK _ _ ?_
     clear hK K
     refine yI [3,4] ?_
     refine AllReadyIn.cons rfl (fun K hK=>?_) (AllReadyIn.cons rfl (fun K hK=>?_) AllReadyIn.nil)
     ·go_simp
      refine hK _ _ ?_
      clear hK K
      refine yI [4] ?_
      refine cI rfl fun K hK=>?_
      go_simp
      refine hK _ _ ?_
      clear hK K
      refine yI [5] ?_
      refine cI rfl fun K hK=>?_
      go_simp
      gi_wp2_with (refine⟨trivial,?_⟩;gi_at_call 232;refine (CallsIn.inRound L (callsIn_wide.2 hfg.out)).mono ?_;rintro e w5 ⟨rfl,hM5,hB5⟩;obtain⟨a',c',w3,hrun,hq2,hq3,hq⟩:=HPO.out w5 hM5 hB5;have HRUN:=hid hrun;have HQ:=hid hq;have yq:=hq2.1;have yqa:=(hq2.alloc (Obj.cells #[.int .i64 o,.int .u64 (hi:Int),.int .u64 (lo:Int)] 38)).1;have yq3:=hq3.1;have zq3:=hq3.2;clear hM5 hB5 hrun hq hq2 hq3)
      refine yI [6] ?_
      refine cI rfl fun K hK=>?_
      go_simp
      refine hK _ _ ?_
      clear hK K
      refine yI [7] ?_
      refine cI rfl fun K hK=>?_
      rw [if_pos (by kernel_rfl)]
      refine ok_ _ _ 57 rfl _ _ rfl rfl _ w3 HRUN.out ?_
      refine hK _ _ ?_
      clear hK K
      simp only [Act.put,List.setIfInBounds_toArray]
      refine yI [8] ?_
      refine cI rfl fun K hK=>?_
      go_simp
      refine hK _ _ ?_
      clear hK K
      refine wpAnyIn_done (by kernel_rfl) ?_ _
      exact HQ.out
     ·go_simp
      refine hK _ _ ?_
      clear hK K
      refine yI [3] ?_
      refine cI rfl fun K hK=>?_
      go_simp
      refine hK _ _ ?_
      clear hK K
      refine yI [5] ?_
      refine cI rfl fun K hK=>?_
      go_simp
      gi_wp2_with (refine⟨trivial,?_⟩;gi_at_call 232;refine (CallsIn.inRound L (callsIn_wide.2 hfg.out)).mono ?_;rintro e w5 ⟨rfl,hM5,hB5⟩;obtain⟨a',c',w3,hrun,hq2,hq3,hq⟩:=HPO.out w5 hM5 hB5;have HRUN:=hid hrun;have HQ:=hid hq;have yq:=hq2.1;have yqa:=(hq2.alloc (Obj.cells #[.int .i64 o,.int .u64 (hi:Int),.int .u64 (lo:Int)] 38)).1;have yq3:=hq3.1;have zq3:=hq3.2;clear hM5 hB5 hrun hq hq2 hq3)
      refine yI [6] ?_
      refine cI rfl fun K hK=>?_
      go_simp
      refine hK _ _ ?_
      clear hK K
      refine yI [7] ?_
      refine cI rfl fun K hK=>?_
      rw [if_pos (by kernel_rfl)]
      refine ok_ _ _ 57 rfl _ _ rfl rfl _ w3 HRUN.out ?_
      refine hK _ _ ?_
      clear hK K
      simp only [Act.put,List.setIfInBounds_toArray]
      refine yI [8] ?_
      refine cI rfl fun K hK=>?_
      go_simp
      refine hK _ _ ?_
      clear hK K
      refine wpAnyIn_done (by kernel_rfl) ?_ _
      exact HQ.out
    ·go_simp
     refine hK _ _ ?_
     clear hK K
     refine yI [2] ?_
     refine cI rfl fun K hK=>?_
     go_simp
     refine hK _ _ ?_
     clear hK K
     refine yI [3] ?_
     refine cI rfl fun K hK=>?_
     go_simp
     refine hK _ _ ?_
     clear hK K
     refine yI [5] ?_
     refine cI rfl fun K hK=>?_
     go_simp
     gi_wp2_with (refine⟨trivial,?_⟩;gi_at_call 232;refine (CallsIn.inRound L (callsIn_wide.2 hfg.out)).mono ?_;rintro e w5 ⟨rfl,hM5,hB5⟩;obtain⟨a',c',w3,hrun,hq2,hq3,hq⟩:=HPO.out w5 hM5 hB5;have HRUN:=hid hrun;have HQ:=hid hq;have yq:=hq2.1;have yqa:=(hq2.alloc (Obj.cells #[.int .i64 o,.int .u64 (hi:Int),.int .u64 (lo:Int)] 38)).1;have yq3:=hq3.1;have zq3:=hq3.2;clear hM5 hB5 hrun hq hq2 hq3)
     refine yI [6] ?_
     refine cI rfl fun K hK=>?_
     go_simp
     refine hK _ _ ?_
     clear hK K
     refine yI [7] ?_
     refine cI rfl fun K hK=>?_
     rw [if_pos (by kernel_rfl)]
     refine ok_ _ _ 57 rfl _ _ rfl rfl _ w3 HRUN.out ?_
     refine hK _ _ ?_
     clear hK K
     simp only [Act.put,List.setIfInBounds_toArray]
     refine yI [8] ?_
     refine cI rfl fun K hK=>?_
     go_simp
     refine hK _ _ ?_
     clear hK K
     refine wpAnyIn_done (by kernel_rfl) ?_ _
     exact HQ.out
   ·go_simp
    refine hK _ _ ?_
    clear hK K
    refine yI [1] ?_
    refine cI rfl fun K hK=>?_
    go_simp
    refine hK _ _ ?_
    clear hK K
    refine yI [2] ?_
    refine cI rfl fun K hK=>?_
    go_simp
    refine hK _ _ ?_
    clear hK K
    refine yI [3] ?_
    refine cI rfl fun K hK=>?_
    go_simp
    refine hK _ _ ?_
    clear hK K
    refine yI [5] ?_
    refine cI rfl fun K hK=>?_
    go_simp
    gi_wp2_with (refine⟨trivial,?_⟩;gi_at_call 232;refine (CallsIn.inRound L (callsIn_wide.2 hfg.out)).mono ?_;rintro e w5 ⟨rfl,hM5,hB5⟩;obtain⟨a',c',w3,hrun,hq2,hq3,hq⟩:=HPO.out w5 hM5 hB5;have HRUN:=hid hrun;have HQ:=hid hq;have yq:=hq2.1;have yqa:=(hq2.alloc (Obj.cells #[.int .i64 o,.int .u64 (hi:Int),.int .u64 (lo:Int)] 38)).1;have yq3:=hq3.1;have zq3:=hq3.2;clear hM5 hB5 hrun hq hq2 hq3)
    refine yI [6] ?_
    refine cI rfl fun K hK=>?_
    go_simp
    refine hK _ _ ?_
    clear hK K
    refine yI [7] ?_
    refine cI rfl fun K hK=>?_
    rw [if_pos (by kernel_rfl)]
    refine ok_ _ _ 57 rfl _ _ rfl rfl _ w3 HRUN.out ?_
    refine hK _ _ ?_
    clear hK K
    simp only [Act.put,List.setIfInBounds_toArray]
    refine yI [8] ?_
    refine cI rfl fun K hK=>?_
    go_simp
    refine hK _ _ ?_
    clear hK K
    refine wpAnyIn_done (by kernel_rfl) ?_ _
    exact HQ.out
  ·go_simp
   refine hK _ _ ?_
   clear hK K
   refine yI [0,2,4] ?_
   refine AllReadyIn.cons rfl (fun K hK=>?_) (AllReadyIn.cons rfl (fun K hK=>?_) (AllReadyIn.cons rfl (fun K hK=>?_) AllReadyIn.nil))
   ·go_simp
    refine hK _ _ ?_
    clear hK K
    refine yI [2,4] ?_
    refine AllReadyIn.cons rfl (fun K hK=>?_) (AllReadyIn.cons rfl (fun K hK=>?_) AllReadyIn.nil)
    ·go_simp
     refine hK _ _ ?_
     clear hK K
     refine yI [3,4] ?_
     refine AllReadyIn.cons rfl (fun K hK=>?_) (AllReadyIn.cons rfl (fun K hK=>?_) AllReadyIn.nil)
     ·go_simp
      refine hK _ _ ?_
      clear hK K
      refine yI [4] ?_
      refine cI rfl fun K hK=>?_
      go_simp
      refine hK _ _ ?_
      clear hK K
      refine yI [5] ?_
      refine cI rfl fun K hK=>?_
      go_simp
      gi_wp2_with (refine⟨trivial,?_⟩;gi_at_call 232;refine (CallsIn.inRound L (callsIn_wide.2 hfg.out)).mono ?_;rintro e w5 ⟨rfl,hM5,hB5⟩;obtain⟨a',c',w3,hrun,hq2,hq3,hq⟩:=HPO.out w5 hM5 hB5;have HRUN:=hid hrun;have HQ:=hid hq;have yq:=hq2.1;have yqa:=(hq2.alloc (Obj.cells #[.int .i64 o,.int .u64 (hi:Int),.int .u64 (lo:Int)] 38)).1;have yq3:=hq3.1;have zq3:=hq3.2;clear hM5 hB5 hrun hq hq2 hq3)
      refine yI [6] ?_
      refine cI rfl fun K hK=>?_
      go_simp
      refine hK _ _ ?_
      clear hK K
      refine yI [7] ?_
      refine cI rfl fun K hK=>?_
      rw [if_pos (by kernel_rfl)]
      refine ok_ _ _ 57 rfl _ _ rfl rfl _ w3 HRUN.out ?_
      refine hK _ _ ?_
      clear hK K
      simp only [Act.put,List.setIfInBounds_toArray]
      refine yI [8] ?_
      refine cI rfl fun K hK=>?_
      go_simp
      refine hK _ _ ?_
      clear hK K
      refine wpAnyIn_done (by kernel_rfl) ?_ _
      exact HQ.out
     ·go_simp
      refine hK _ _ ?_
      clear hK K
      refine yI [3] ?_
      refine cI rfl fun K hK=>?_
      go_simp
      refine hK _ _ ?_
      clear hK K
      refine yI [5] ?_
      refine cI rfl fun K hK=>?_
      go_simp
      gi_wp2_with (refine⟨trivial,?_⟩;gi_at_call 232;refine (CallsIn.inRound L (callsIn_wide.2 hfg.out)).mono ?_;rintro e w5 ⟨rfl,hM5,hB5⟩;obtain⟨a',c',w3,hrun,hq2,hq3,hq⟩:=HPO.out w5 hM5 hB5;have HRUN:=hid hrun;have HQ:=hid hq;have yq:=hq2.1;have yqa:=(hq2.alloc (Obj.cells #[.int .i64 o,.int .u64 (hi:Int),.int .u64 (lo:Int)] 38)).1;have yq3:=hq3.1;have zq3:=hq3.2;clear hM5 hB5 hrun hq hq2 hq3)
      refine yI [6] ?_
      refine cI rfl fun K hK=>?_
      go_simp
      refine hK _ _ ?_
      clear hK K
      refine yI [7] ?_
      refine cI rfl fun K hK=>?_
      rw [if_pos (by kernel_rfl)]
      refine ok_ _ _ 57 rfl _ _ rfl rfl _ w3 HRUN.out ?_
      refine hK _ _ ?_
      clear hK K
      simp only [Act.put,List.setIfInBounds_toArray]
      refine yI [8] ?_
      refine cI rfl fun K hK=>?_
      go_simp
      refine hK _ _ ?_
      clear hK K
      refine wpAnyIn_done (by kernel_rfl) ?_ _
      exact HQ.out
    ·go_simp
     refine hK _ _ ?_
     clear hK K
     refine yI [2] ?_
     refine cI rfl fun K hK=>?_
     go_simp
     refine hK _ _ ?_
     clear hK K
     refine yI [3] ?_
     refine cI rfl fun K hK=>?_
     go_simp
     refine hK _ _ ?_
     clear hK K
     refine yI [5] ?_
     refine cI rfl fun K hK=>?_
     go_simp
     gi_wp2_with (refine⟨trivial,?_⟩;gi_at_call 232;refine (CallsIn.inRound L (callsIn_wide.2 hfg.out)).mono ?_;rintro e w5 ⟨rfl,hM5,hB5⟩;obtain⟨a',c',w3,hrun,hq2,hq3,hq⟩:=HPO.out w5 hM5 hB5;have HRUN:=hid hrun;have HQ:=hid hq;have yq:=hq2.1;have yqa:=(hq2.alloc (Obj.cells #[.int .i64 o,.int .u64 (hi:Int),.int .u64 (lo:Int)] 38)).1;have yq3:=hq3.1;have zq3:=hq3.2;clear hM5 hB5 hrun hq hq2 hq3)
     refine yI [6] ?_
     refine cI rfl fun K hK=>?_
     go_simp
     refine hK _ _ ?_
     clear hK K
     refine yI [7] ?_
     refine cI rfl fun K hK=>?_
     rw [if_pos (by kernel_rfl)]
     refine ok_ _ _ 57 rfl _ _ rfl rfl _ w3 HRUN.out ?_
     refine hK _ _ ?_
     clear hK K
     simp only [Act.put,List.setIfInBounds_toArray]
     refine yI [8] ?_
     refine cI rfl fun K hK=>?_
     go_simp
     refine hK _ _ ?_
     clear hK K
     refine wpAnyIn_done (by kernel_rfl) ?_ _
     exact HQ.out
   ·go_simp
    refine hK _ _ ?_
    clear hK K
    refine yI [0,3,4] ?_
    refine AllReadyIn.cons rfl (fun K hK=>?_) (AllReadyIn.cons rfl (fun K hK=>?_) (AllReadyIn.cons rfl (fun K hK=>?_) AllReadyIn.nil))
    ·go_simp
     refine hK _ _ ?_
     clear hK K
     refine yI [3,4] ?_
     refine AllReadyIn.cons rfl (fun K hK=>?_) (AllReadyIn.cons rfl (fun K hK=>?_) AllReadyIn.nil)
     ·go_simp
      refine hK _ _ ?_
      clear hK K
      refine yI [4] ?_
      refine cI rfl fun K hK=>?_
      go_simp
      refine hK _ _ ?_
      clear hK K
      refine yI [5] ?_
      refine cI rfl fun K hK=>?_
      go_simp
      gi_wp2_with (refine⟨trivial,?_⟩;gi_at_call 232;refine (CallsIn.inRound L (callsIn_wide.2 hfg.out)).mono ?_;rintro e w5 ⟨rfl,hM5,hB5⟩;obtain⟨a',c',w3,hrun,hq2,hq3,hq⟩:=HPO.out w5 hM5 hB5;have HRUN:=hid hrun;have HQ:=hid hq;have yq:=hq2.1;have yqa:=(hq2.alloc (Obj.cells #[.int .i64 o,.int .u64 (hi:Int),.int .u64 (lo:Int)] 38)).1;have yq3:=hq3.1;have zq3:=hq3.2;clear hM5 hB5 hrun hq hq2 hq3)
      refine yI [6] ?_
      refine cI rfl fun K hK=>?_
      go_simp
      refine hK _ _ ?_
      clear hK K
      refine yI [7] ?_
      refine cI rfl fun K hK=>?_
      rw [if_pos (by kernel_rfl)]
      refine ok_ _ _ 57 rfl _ _ rfl rfl _ w3 HRUN.out ?_
      refine hK _ _ ?_
      clear hK K
      simp only [Act.put,List.setIfInBounds_toArray]
      refine yI [8] ?_
      refine cI rfl fun K hK=>?_
      go_simp
      refine hK _ _ ?_
      clear hK K
      refine wpAnyIn_done (by kernel_rfl) ?_ _
      exact HQ.out
     ·go_simp
      refine hK _ _ ?_
      clear hK K
      refine yI [3] ?_
      refine cI rfl fun K hK=>?_
      go_simp
      refine hK _ _ ?_
      clear hK K
      refine yI [5] ?_
      refine cI rfl fun K hK=>?_
      go_simp
      gi_wp2_with (refine⟨trivial,?_⟩;gi_at_call 232;refine (CallsIn.inRound L (callsIn_wide.2 hfg.out)).mono ?_;rintro e w5 ⟨rfl,hM5,hB5⟩;obtain⟨a',c',w3,hrun,hq2,hq3,hq⟩:=HPO.out w5 hM5 hB5;have HRUN:=hid hrun;have HQ:=hid hq;have yq:=hq2.1;have yqa:=(hq2.alloc (Obj.cells #[.int .i64 o,.int .u64 (hi:Int),.int .u64 (lo:Int)] 38)).1;have yq3:=hq3.1;have zq3:=hq3.2;clear hM5 hB5 hrun hq hq2 hq3)
      refine yI [6] ?_
      refine cI rfl fun K hK=>?_
      go_simp
      refine hK _ _ ?_
      clear hK K
      refine yI [7] ?_
      refine cI rfl fun K hK=>?_
      rw [if_pos (by kernel_rfl)]
      refine ok_ _ _ 57 rfl _ _ rfl rfl _ w3 HRUN.out ?_
      refine hK _ _ ?_
      clear hK K
      simp only [Act.put,List.setIfInBounds_toArray]
      refine yI [8] ?_
      refine cI rfl fun K hK=>?_
      go_simp
      refine hK _ _ ?_
      clear hK K
      refine wpAnyIn_done (by kernel_rfl) ?_ _
      exact HQ.out
    ·go_simp
     refine hK _ _ ?_
     clear hK K
     refine yI [0,4] ?_
     refine AllReadyIn.cons rfl (fun K hK=>?_) (AllReadyIn.cons rfl (fun K hK=>?_) AllReadyIn.nil)
     ·go_simp
      refine hK _ _ ?_
      clear hK K
      refine yI [4] ?_
      refine cI rfl fun K hK=>?_
      go_simp
      refine hK _ _ ?_
      clear hK K
      refine yI [5] ?_
      refine cI rfl fun K hK=>?_
      go_simp
      gi_wp2_with (refine⟨trivial,?_⟩;gi_at_call 232;refine (CallsIn.inRound L (callsIn_wide.2 hfg.out)).mono ?_;rintro e w5 ⟨rfl,hM5,hB5⟩;obtain⟨a',c',w3,hrun,hq2,hq3,hq⟩:=HPO.out w5 hM5 hB5;have HRUN:=hid hrun;have HQ:=hid hq;have yq:=hq2.1;have yqa:=(hq2.alloc (Obj.cells #[.int .i64 o,.int .u64 (hi:Int),.int .u64 (lo:Int)] 38)).1;have yq3:=hq3.1;have zq3:=hq3.2;clear hM5 hB5 hrun hq hq2 hq3)
      refine yI [6] ?_
      refine cI rfl fun K hK=>?_
      go_simp
      refine hK _ _ ?_
      clear hK K
      refine yI [7] ?_
      refine cI rfl fun K hK=>?_
      rw [if_pos (by kernel_rfl)]
      refine ok_ _ _ 57 rfl _ _ rfl rfl _ w3 HRUN.out ?_
      refine hK _ _ ?_
      clear hK K
      simp only [Act.put,List.setIfInBounds_toArray]
      refine yI [8] ?_
      refine cI rfl fun K hK=>?_
      go_simp
      refine hK _ _ ?_
      clear hK K
      refine wpAnyIn_done (by kernel_rfl) ?_ _
      exact HQ.out
     ·go_simp
      refine hK _ _ ?_
      clear hK K
      refine yI [0,5] ?_
      refine AllReadyIn.cons rfl (fun K hK=>?_) (AllReadyIn.cons rfl (fun K hK=>?_) AllReadyIn.nil)
      ·go_simp
       refine hK _ _ ?_
       clear hK K
       refine yI [5] ?_
       refine cI rfl fun K hK=>?_
       go_simp
       gi_wp2_with (refine⟨trivial,?_⟩;gi_at_call 232;refine (CallsIn.inRound L (callsIn_wide.2 hfg.out)).mono ?_;rintro e w5 ⟨rfl,hM5,hB5⟩;obtain⟨a',c',w3,hrun,hq2,hq3,hq⟩:=HPO.out w5 hM5 hB5;have HRUN:=hid hrun;have HQ:=hid hq;have yq:=hq2.1;have yqa:=(hq2.alloc (Obj.cells #[.int .i64 o,.int .u64 (hi:Int),.int .u64 (lo:Int)] 38)).1;have yq3:=hq3.1;have zq3:=hq3.2;clear hM5 hB5 hrun hq hq2 hq3)
       refine yI [6] ?_
       refine cI rfl fun K hK=>?_
       go_simp
       refine hK _ _ ?_
       clear hK K
       refine yI [7] ?_
       refine cI rfl fun K hK=>?_
       rw [if_pos (by kernel_rfl)]
       refine ok_ _ _ 57 rfl _ _ rfl rfl _ w3 HRUN.out ?_
       refine hK _ _ ?_
       clear hK K
       simp only [Act.put,List.setIfInBounds_toArray]
       refine yI [8] ?_
       refine cI rfl fun K hK=>?_
       go_simp
       refine hK _ _ ?_
       clear hK K
       refine wpAnyIn_done (by kernel_rfl) ?_ _
       exact HQ.out
      ·go_simp
       gi_wp2_with (refine⟨trivial,?_⟩;gi_at_call 232;refine (CallsIn.inRound L (callsIn_wide.2 hfg.out)).mono ?_;rintro e w5 ⟨rfl,hM5,hB5⟩;obtain⟨a',c',w3,hrun,hq2,hq3,hq⟩:=HPO.out w5 hM5 hB5;have HRUN:=hid hrun;have HQ:=hid hq;have yq:=hq2.1;have yqa:=(hq2.alloc (Obj.cells #[.int .i64 o,.int .u64 (hi:Int),.int .u64 (lo:Int)] 38)).1;have yq3:=hq3.1;have zq3:=hq3.2;clear hM5 hB5 hrun hq hq2 hq3)
       refine yI [0,6] ?_
       refine AllReadyIn.cons rfl (fun K hK=>?_) (AllReadyIn.cons rfl (fun K hK=>?_) AllReadyIn.nil)
       ·go_simp
        refine hK _ _ ?_
        clear hK K
        refine yI [6] ?_
        refine cI rfl fun K hK=>?_
        go_simp
        refine hK _ _ ?_
        clear hK K
        refine yI [7] ?_
        refine cI rfl fun K hK=>?_
        rw [if_pos (by kernel_rfl)]
        refine ok_ _ _ 57 rfl _ _ rfl rfl _ w3 HRUN.out ?_
        refine hK _ _ ?_
        clear hK K
        simp only [Act.put,List.setIfInBounds_toArray]
        refine yI [8] ?_
        refine cI rfl fun K hK=>?_
        go_simp
        refine hK _ _ ?_
        clear hK K
        refine wpAnyIn_done (by kernel_rfl) ?_ _
        exact HQ.out
       ·go_simp
        refine hK _ _ ?_
        clear hK K
        refine yI [0] ?_
        refine cI rfl fun K hK=>?_
        go_simp
        refine hK _ _ ?_
        clear hK K
        refine yI [7] ?_
        refine cI rfl fun K hK=>?_
        rw [if_pos (by kernel_rfl)]
        refine ok_ _ _ 57 rfl _ _ rfl rfl _ w3 HRUN.out ?_
        refine hK _ _ ?_
        clear hK K
        simp only [Act.put,List.setIfInBounds_toArray]
        refine yI [8] ?_
        refine cI rfl fun K hK=>?_
        go_simp
        refine hK _ _ ?_
        clear hK K
        refine wpAnyIn_done (by kernel_rfl) ?_ _
        exact HQ.out
    ·go_simp
     refine hK _ _ ?_
     clear hK K
     refine yI [0,3] ?_
     refine AllReadyIn.cons rfl (fun K hK=>?_) (AllReadyIn.cons rfl (fun K hK=>?_) AllReadyIn.nil)
     ·go_simp
      refine hK _ _ ?_
      clear hK K
      refine yI [3] ?_
      refine cI rfl fun K hK=>?_
      go_simp
      refine hK _ _ ?_
      clear hK K
      refine yI [5] ?_
      refine cI rfl fun K hK=>?_
      go_simp
      gi_wp2_with (refine⟨trivial,?_⟩;gi_at_call 232;refine (CallsIn.inRound L (callsIn_wide.2 hfg.out)).mono ?_;rintro e w5 ⟨rfl,hM5,hB5⟩;obtain⟨a',c',w3,hrun,hq2,hq3,hq⟩:=HPO.out w5 hM5 hB5;have HRUN:=hid hrun;have HQ:=hid hq;have yq:=hq2.1;have yqa:=(hq2.alloc (Obj.cells #[.int .i64 o,.int .u64 (hi:Int),.int .u64 (lo:Int)] 38)).1;have yq3:=hq3.1;have zq3:=hq3.2;clear hM5 hB5 hrun hq hq2 hq3)
      refine yI [6] ?_
      refine cI rfl fun K hK=>?_
      go_simp
      refine hK _ _ ?_
      clear hK K
      refine yI [7] ?_
      refine cI rfl fun K hK=>?_
      rw [if_pos (by kernel_rfl)]
      refine ok_ _ _ 57 rfl _ _ rfl rfl _ w3 HRUN.out ?_
      refine hK _ _ ?_
      clear hK K
      simp only [Act.put,List.setIfInBounds_toArray]
      refine yI [8] ?_
      refine cI rfl fun K hK=>?_
      go_simp
      refine hK _ _ ?_
      clear hK K
      refine wpAnyIn_done (by kernel_rfl) ?_ _
      exact HQ.out
     ·go_simp
      refine hK _ _ ?_
      clear hK K
      refine yI [0,5] ?_
      refine AllReadyIn.cons rfl (fun K hK=>?_) (AllReadyIn.cons rfl (fun K hK=>?_) AllReadyIn.nil)
      ·go_simp
       refine hK _ _ ?_
       clear hK K
       refine yI [5] ?_
       refine cI rfl fun K hK=>?_
       go_simp
       gi_wp2_with (refine⟨trivial,?_⟩;gi_at_call 232;refine (CallsIn.inRound L (callsIn_wide.2 hfg.out)).mono ?_;rintro e w5 ⟨rfl,hM5,hB5⟩;obtain⟨a',c',w3,hrun,hq2,hq3,hq⟩:=HPO.out w5 hM5 hB5;have HRUN:=hid hrun;have HQ:=hid hq;have yq:=hq2.1;have yqa:=(hq2.alloc (Obj.cells #[.int .i64 o,.int .u64 (hi:Int),.int .u64 (lo:Int)] 38)).1;have yq3:=hq3.1;have zq3:=hq3.2;clear hM5 hB5 hrun hq hq2 hq3)
       refine yI [6] ?_
       refine cI rfl fun K hK=>?_
       go_simp
       refine hK _ _ ?_
       clear hK K
       refine yI [7] ?_
       refine cI rfl fun K hK=>?_
       rw [if_pos (by kernel_rfl)]
       refine ok_ _ _ 57 rfl _ _ rfl rfl _ w3 HRUN.out ?_
       refine hK _ _ ?_
       clear hK K
       simp only [Act.put,List.setIfInBounds_toArray]
       refine yI [8] ?_
       refine cI rfl fun K hK=>?_
       go_simp
       refine hK _ _ ?_
       clear hK K
       refine wpAnyIn_done (by kernel_rfl) ?_ _
       exact HQ.out
      ·go_simp
       gi_wp2_with (refine⟨trivial,?_⟩;gi_at_call 232;refine (CallsIn.inRound L (callsIn_wide.2 hfg.out)).mono ?_;rintro e w5 ⟨rfl,hM5,hB5⟩;obtain⟨a',c',w3,hrun,hq2,hq3,hq⟩:=HPO.out w5 hM5 hB5;have HRUN:=hid hrun;have HQ:=hid hq;have yq:=hq2.1;have yqa:=(hq2.alloc (Obj.cells #[.int .i64 o,.int .u64 (hi:Int),.int .u64 (lo:Int)] 38)).1;have yq3:=hq3.1;have zq3:=hq3.2;clear hM5 hB5 hrun hq hq2 hq3)
       refine yI [0,6] ?_
       refine AllReadyIn.cons rfl (fun K hK=>?_) (AllReadyIn.cons rfl (fun K hK=>?_) AllReadyIn.nil)
       ·go_simp
        refine hK _ _ ?_
        clear hK K
        refine yI [6] ?_
        refine cI rfl fun K hK=>?_
        go_simp
        refine hK _ _ ?_
        clear hK K
        refine yI [7] ?_
        refine cI rfl fun K hK=>?_
        rw [if_pos (by kernel_rfl)]
        refine ok_ _ _ 57 rfl _ _ rfl rfl _ w3 HRUN.out ?_
        refine hK _ _ ?_
        clear hK K
        simp only [Act.put,List.setIfInBounds_toArray]
        refine yI [8] ?_
        refine cI rfl fun K hK=>?_
        go_simp
        refine hK _ _ ?_
        clear hK K
        refine wpAnyIn_done (by kernel_rfl) ?_ _
        exact HQ.out
       ·go_simp
        refine hK _ _ ?_
        clear hK K
        refine yI [0] ?_
        refine cI rfl fun K hK=>?_
        go_simp
        refine hK _ _ ?_
        clear hK K
        refine yI [7] ?_
        refine cI rfl fun K hK=>?_
        rw [if_pos (by kernel_rfl)]
        refine ok_ _ _ 57 rfl _ _ rfl rfl _ w3 HRUN.out ?_
        refine hK _ _ ?_
        clear hK K
        simp only [Act.put,List.setIfInBounds_toArray]
        refine yI [8] ?_
        refine cI rfl fun K hK=>?_
        go_simp
        refine hK _ _ ?_
        clear hK K
        refine wpAnyIn_done (by kernel_rfl) ?_ _
        exact HQ.out
   ·go_simp
    refine hK _ _ ?_
    clear hK K
    refine yI [0,2] ?_
    refine AllReadyIn.cons rfl (fun K hK=>?_) (AllReadyIn.cons rfl (fun K hK=>?_) AllReadyIn.nil)
    ·go_simp
     refine hK _ _ ?_
     clear hK K
     refine yI [2] ?_
     refine cI rfl fun K hK=>?_
     go_simp
     refine hK _ _ ?_
     clear hK K
     refine yI [3] ?_
     refine cI rfl fun K hK=>?_
     go_simp
     refine hK _ _ ?_
     clear hK K
     refine yI [5] ?_
     refine cI rfl fun K hK=>?_
     go_simp
     gi_wp2_with (refine⟨trivial,?_⟩;gi_at_call 232;refine (CallsIn.inRound L (callsIn_wide.2 hfg.out)).mono ?_;rintro e w5 ⟨rfl,hM5,hB5⟩;obtain⟨a',c',w3,hrun,hq2,hq3,hq⟩:=HPO.out w5 hM5 hB5;have HRUN:=hid hrun;have HQ:=hid hq;have yq:=hq2.1;have yqa:=(hq2.alloc (Obj.cells #[.int .i64 o,.int .u64 (hi:Int),.int .u64 (lo:Int)] 38)).1;have yq3:=hq3.1;have zq3:=hq3.2;clear hM5 hB5 hrun hq hq2 hq3)
     refine yI [6] ?_
     refine cI rfl fun K hK=>?_
     go_simp
     refine hK _ _ ?_
     clear hK K
     refine yI [7] ?_
     refine cI rfl fun K hK=>?_
     rw [if_pos (by kernel_rfl)]
     refine ok_ _ _ 57 rfl _ _ rfl rfl _ w3 HRUN.out ?_
     refine hK _ _ ?_
     clear hK K
     simp only [Act.put,List.setIfInBounds_toArray]
     refine yI [8] ?_
     refine cI rfl fun K hK=>?_
     go_simp
     refine hK _ _ ?_
     clear hK K
     refine wpAnyIn_done (by kernel_rfl) ?_ _
     exact HQ.out
    ·go_simp
     refine hK _ _ ?_
     clear hK K
     refine yI [0,3] ?_
     refine AllReadyIn.cons rfl (fun K hK=>?_) (AllReadyIn.cons rfl (fun K hK=>?_) AllReadyIn.nil)
     ·go_simp
      refine hK _ _ ?_
      clear hK K
      refine yI [3] ?_
      refine cI rfl fun K hK=>?_
      go_simp
      refine hK _ _ ?_
      clear hK K
      refine yI [5] ?_
      refine cI rfl fun K hK=>?_
      go_simp
      gi_wp2_with (refine⟨trivial,?_⟩;gi_at_call 232;refine (CallsIn.inRound L (callsIn_wide.2 hfg.out)).mono ?_;rintro e w5 ⟨rfl,hM5,hB5⟩;obtain⟨a',c',w3,hrun,hq2,hq3,hq⟩:=HPO.out w5 hM5 hB5;have HRUN:=hid hrun;have HQ:=hid hq;have yq:=hq2.1;have yqa:=(hq2.alloc (Obj.cells #[.int .i64 o,.int .u64 (hi:Int),.int .u64 (lo:Int)] 38)).1;have yq3:=hq3.1;have zq3:=hq3.2;clear hM5 hB5 hrun hq hq2 hq3)
      refine yI [6] ?_
      refine cI rfl fun K hK=>?_
      go_simp
      refine hK _ _ ?_
      clear hK K
      refine yI [7] ?_
      refine cI rfl fun K hK=>?_
      rw [if_pos (by kernel_rfl)]
      refine ok_ _ _ 57 rfl _ _ rfl rfl _ w3 HRUN.out ?_
      refine hK _ _ ?_
      clear hK K
      simp only [Act.put,List.setIfInBounds_toArray]
      refine yI [8] ?_
      refine cI rfl fun K hK=>?_
      go_simp
      refine hK _ _ ?_
      clear hK K
      refine wpAnyIn_done (by kernel_rfl) ?_ _
      exact HQ.out
     ·go_simp
      refine hK _ _ ?_
      clear hK K
      refine yI [0,5] ?_
      refine AllReadyIn.cons rfl (fun K hK=>?_) (AllReadyIn.cons rfl (fun K hK=>?_) AllReadyIn.nil)
      ·go_simp
       refine hK _ _ ?_
       clear hK K
       refine yI [5] ?_
       refine cI rfl fun K hK=>?_
       go_simp
       gi_wp2_with (refine⟨trivial,?_⟩;gi_at_call 232;refine (CallsIn.inRound L (callsIn_wide.2 hfg.out)).mono ?_;rintro e w5 ⟨rfl,hM5,hB5⟩;obtain⟨a',c',w3,hrun,hq2,hq3,hq⟩:=HPO.out w5 hM5 hB5;have HRUN:=hid hrun;have HQ:=hid hq;have yq:=hq2.1;have yqa:=(hq2.alloc (Obj.cells #[.int .i64 o,.int .u64 (hi:Int),.int .u64 (lo:Int)] 38)).1;have yq3:=hq3.1;have zq3:=hq3.2;clear hM5 hB5 hrun hq hq2 hq3)
       refine yI [6] ?_
       refine cI rfl fun K hK=>?_
       go_simp
       refine hK _ _ ?_
       clear hK K
       refine yI [7] ?_
       refine cI rfl fun K hK=>?_
       rw [if_pos (by kernel_rfl)]
       refine ok_ _ _ 57 rfl _ _ rfl rfl _ w3 HRUN.out ?_
       refine hK _ _ ?_
       clear hK K
       simp only [Act.put,List.setIfInBounds_toArray]
       refine yI [8] ?_
       refine cI rfl fun K hK=>?_
       go_simp
       refine hK _ _ ?_
       clear hK K
       refine wpAnyIn_done (by kernel_rfl) ?_ _
       exact HQ.out
      ·go_simp
       gi_wp2_with (refine⟨trivial,?_⟩;gi_at_call 232;refine (CallsIn.inRound L (callsIn_wide.2 hfg.out)).mono ?_;rintro e w5 ⟨rfl,hM5,hB5⟩;obtain⟨a',c',w3,hrun,hq2,hq3,hq⟩:=HPO.out w5 hM5 hB5;have HRUN:=hid hrun;have HQ:=hid hq;have yq:=hq2.1;have yqa:=(hq2.alloc (Obj.cells #[.int .i64 o,.int .u64 (hi:Int),.int .u64 (lo:Int)] 38)).1;have yq3:=hq3.1;have zq3:=hq3.2;clear hM5 hB5 hrun hq hq2 hq3)
       refine yI [0,6] ?_
       refine AllReadyIn.cons rfl (fun K hK=>?_) (AllReadyIn.cons rfl (fun K hK=>?_) AllReadyIn.nil)
       ·go_simp
        refine hK _ _ ?_
        clear hK K
        refine yI [6] ?_
        refine cI rfl fun K hK=>?_
        go_simp
        refine hK _ _ ?_
        clear hK K
        refine yI [7] ?_
        refine cI rfl fun K hK=>?_
        rw [if_pos (by kernel_rfl)]
        refine ok_ _ _ 57 rfl _ _ rfl rfl _ w3 HRUN.out ?_
        refine hK _ _ ?_
        clear hK K
        simp only [Act.put,List.setIfInBounds_toArray]
        refine yI [8] ?_
        refine cI rfl fun K hK=>?_
        go_simp
        refine hK _ _ ?_
        clear hK K
        refine wpAnyIn_done (by kernel_rfl) ?_ _
        exact HQ.out
       ·go_simp
        refine hK _ _ ?_
        clear hK K
        refine yI [0] ?_
        refine cI rfl fun K hK=>?_
        go_simp
        refine hK _ _ ?_
        clear hK K
        refine yI [7] ?_
        refine cI rfl fun K hK=>?_
        rw [if_pos (by kernel_rfl)]
        refine ok_ _ _ 57 rfl _ _ rfl rfl _ w3 HRUN.out ?_
        refine hK _ _ ?_
        clear hK K
        simp only [Act.put,List.setIfInBounds_toArray]
        refine yI [8] ?_
        refine cI rfl fun K hK=>?_
        go_simp
        refine hK _ _ ?_
        clear hK K
        refine wpAnyIn_done (by kernel_rfl) ?_ _
        exact HQ.out
  ·go_simp
   refine hK _ _ ?_
   clear hK K
   refine yI [0,1] ?_
   refine AllReadyIn.cons rfl (fun K hK=>?_) (AllReadyIn.cons rfl (fun K hK=>?_) AllReadyIn.nil)
   ·go_simp
    refine hK _ _ ?_
    clear hK K
    refine yI [1] ?_
    refine cI rfl fun K hK=>?_
    go_simp
    refine hK _ _ ?_
    clear hK K
    refine yI [2] ?_
    refine cI rfl fun K hK=>?_
    go_simp
    refine hK _ _ ?_
    clear hK K
    refine yI [3] ?_
    refine cI rfl fun K hK=>?_
    go_simp
    refine hK _ _ ?_
    clear hK K
    refine yI [5] ?_
    refine cI rfl fun K hK=>?_
    go_simp
    gi_wp2_with (refine⟨trivial,?_⟩;gi_at_call 232;refine (CallsIn.inRound L (callsIn_wide.2 hfg.out)).mono ?_;rintro e w5 ⟨rfl,hM5,hB5⟩;obtain⟨a',c',w3,hrun,hq2,hq3,hq⟩:=HPO.out w5 hM5 hB5;have HRUN:=hid hrun;have HQ:=hid hq;have yq:=hq2.1;have yqa:=(hq2.alloc (Obj.cells #[.int .i64 o,.int .u64 (hi:Int),.int .u64 (lo:Int)] 38)).1;have yq3:=hq3.1;have zq3:=hq3.2;clear hM5 hB5 hrun hq hq2 hq3)
    refine yI [6] ?_
    refine cI rfl fun K hK=>?_
    go_simp
    refine hK _ _ ?_
    clear hK K
    refine yI [7] ?_
    refine cI rfl fun K hK=>?_
    rw [if_pos (by kernel_rfl)]
    refine ok_ _ _ 57 rfl _ _ rfl rfl _ w3 HRUN.out ?_
    refine hK _ _ ?_
    clear hK K
    simp only [Act.put,List.setIfInBounds_toArray]
    refine yI [8] ?_
    refine cI rfl fun K hK=>?_
    go_simp
    refine hK _ _ ?_
    clear hK K
    refine wpAnyIn_done (by kernel_rfl) ?_ _
    exact HQ.out
   ·go_simp
    refine hK _ _ ?_
    clear hK K
    refine yI [0,2] ?_
    refine AllReadyIn.cons rfl (fun K hK=>?_) (AllReadyIn.cons rfl (fun K hK=>?_) AllReadyIn.nil)
    ·go_simp
     refine hK _ _ ?_
     clear hK K
     refine yI [2] ?_
     refine cI rfl fun K hK=>?_
     go_simp
     refine hK _ _ ?_
     clear hK K
     refine yI [3] ?_
     refine cI rfl fun K hK=>?_
     go_simp
     refine hK _ _ ?_
     clear hK K
     refine yI [5] ?_
     refine cI rfl fun K hK=>?_
     go_simp
     gi_wp2_with (refine⟨trivial,?_⟩;gi_at_call 232;refine (CallsIn.inRound L (callsIn_wide.2 hfg.out)).mono ?_;rintro e w5 ⟨rfl,hM5,hB5⟩;obtain⟨a',c',w3,hrun,hq2,hq3,hq⟩:=HPO.out w5 hM5 hB5;have HRUN:=hid hrun;have HQ:=hid hq;have yq:=hq2.1;have yqa:=(hq2.alloc (Obj.cells #[.int .i64 o,.int .u64 (hi:Int),.int .u64 (lo:Int)] 38)).1;have yq3:=hq3.1;have zq3:=hq3.2;clear hM5 hB5 hrun hq hq2 hq3)
     refine yI [6] ?_
     refine cI rfl fun K hK=>?_
     go_simp
     refine hK _ _ ?_
     clear hK K
     refine yI [7] ?_
     refine cI rfl fun K hK=>?_
     rw [if_pos (by kernel_rfl)]
     refine ok_ _ _ 57 rfl _ _ rfl rfl _ w3 HRUN.out ?_
     refine hK _ _ ?_
     clear hK K
     simp only [Act.put,List.setIfInBounds_toArray]
     refine yI [8] ?_
     refine cI rfl fun K hK=>?_
     go_simp
     refine hK _ _ ?_
     clear hK K
     refine wpAnyIn_done (by kernel_rfl) ?_ _
     exact HQ.out
    ·go_simp
     refine hK _ _ ?_
     clear hK K
     refine yI [0,3] ?_
     refine AllReadyIn.cons rfl (fun K hK=>?_) (AllReadyIn.cons rfl (fun K hK=>?_) AllReadyIn.nil)
     ·go_simp
      refine hK _ _ ?_
      clear hK K
      refine yI [3] ?_
      refine cI rfl fun K hK=>?_
      go_simp
      refine hK _ _ ?_
      clear hK K
      refine yI [5] ?_
      refine cI rfl fun K hK=>?_
      go_simp
      gi_wp2_with (refine⟨trivial,?_⟩;gi_at_call 232;refine (CallsIn.inRound L (callsIn_wide.2 hfg.out)).mono ?_;rintro e w5 ⟨rfl,hM5,hB5⟩;obtain⟨a',c',w3,hrun,hq2,hq3,hq⟩:=HPO.out w5 hM5 hB5;have HRUN:=hid hrun;have HQ:=hid hq;have yq:=hq2.1;have yqa:=(hq2.alloc (Obj.cells #[.int .i64 o,.int .u64 (hi:Int),.int .u64 (lo:Int)] 38)).1;have yq3:=hq3.1;have zq3:=hq3.2;clear hM5 hB5 hrun hq hq2 hq3)
      refine yI [6] ?_
      refine cI rfl fun K hK=>?_
      go_simp
      refine hK _ _ ?_
      clear hK K
      refine yI [7] ?_
      refine cI rfl fun K hK=>?_
      rw [if_pos (by kernel_rfl)]
      refine ok_ _ _ 57 rfl _ _ rfl rfl _ w3 HRUN.out ?_
      refine hK _ _ ?_
      clear hK K
      simp only [Act.put,List.setIfInBounds_toArray]
      refine yI [8] ?_
      refine cI rfl fun K hK=>?_
      go_simp
      refine hK _ _ ?_
      clear hK K
      refine wpAnyIn_done (by kernel_rfl) ?_ _
      exact HQ.out
     ·go_simp
      refine hK _ _ ?_
      clear hK K
      refine yI [0,5] ?_
      refine AllReadyIn.cons rfl (fun K hK=>?_) (AllReadyIn.cons rfl (fun K hK=>?_) AllReadyIn.nil)
      ·go_simp
       refine hK _ _ ?_
       clear hK K
       refine yI [5] ?_
       refine cI rfl fun K hK=>?_
       go_simp
       gi_wp2_with (refine⟨trivial,?_⟩;gi_at_call 232;refine (CallsIn.inRound L (callsIn_wide.2 hfg.out)).mono ?_;rintro e w5 ⟨rfl,hM5,hB5⟩;obtain⟨a',c',w3,hrun,hq2,hq3,hq⟩:=HPO.out w5 hM5 hB5;have HRUN:=hid hrun;have HQ:=hid hq;have yq:=hq2.1;have yqa:=(hq2.alloc (Obj.cells #[.int .i64 o,.int .u64 (hi:Int),.int .u64 (lo:Int)] 38)).1;have yq3:=hq3.1;have zq3:=hq3.2;clear hM5 hB5 hrun hq hq2 hq3)
       refine yI [6] ?_
       refine cI rfl fun K hK=>?_
       go_simp
       refine hK _ _ ?_
       clear hK K
       refine yI [7] ?_
       refine cI rfl fun K hK=>?_
       rw [if_pos (by kernel_rfl)]
       refine ok_ _ _ 57 rfl _ _ rfl rfl _ w3 HRUN.out ?_
       refine hK _ _ ?_
       clear hK K
       simp only [Act.put,List.setIfInBounds_toArray]
       refine yI [8] ?_
       refine cI rfl fun K hK=>?_
       go_simp
       refine hK _ _ ?_
       clear hK K
       refine wpAnyIn_done (by kernel_rfl) ?_ _
       exact HQ.out
      ·go_simp
       gi_wp2_with (refine⟨trivial,?_⟩;gi_at_call 232;refine (CallsIn.inRound L (callsIn_wide.2 hfg.out)).mono ?_;rintro e w5 ⟨rfl,hM5,hB5⟩;obtain⟨a',c',w3,hrun,hq2,hq3,hq⟩:=HPO.out w5 hM5 hB5;have HRUN:=hid hrun;have HQ:=hid hq;have yq:=hq2.1;have yqa:=(hq2.alloc (Obj.cells #[.int .i64 o,.int .u64 (hi:Int),.int .u64 (lo:Int)] 38)).1;have yq3:=hq3.1;have zq3:=hq3.2;clear hM5 hB5 hrun hq hq2 hq3)
       refine yI [0,6] ?_
       refine AllReadyIn.cons rfl (fun K hK=>?_) (AllReadyIn.cons rfl (fun K hK=>?_) AllReadyIn.nil)
       ·go_simp
        refine hK _ _ ?_
        clear hK K
        refine yI [6] ?_
        refine cI rfl fun K hK=>?_
        go_simp
        refine hK _ _ ?_
        clear hK K
        refine yI [7] ?_
        refine cI rfl fun K hK=>?_
        rw [if_pos (by kernel_rfl)]
        refine ok_ _ _ 57 rfl _ _ rfl rfl _ w3 HRUN.out ?_
        refine hK _ _ ?_
        clear hK K
        simp only [Act.put,List.setIfInBounds_toArray]
        refine yI [8] ?_
        refine cI rfl fun K hK=>?_
        go_simp
        refine hK _ _ ?_
        clear hK K
        refine wpAnyIn_done (by kernel_rfl) ?_ _
        exact HQ.out
       ·go_simp
        refine hK _ _ ?_
        clear hK K
        refine yI [0] ?_
        refine cI rfl fun K hK=>?_
        go_simp
        refine hK _ _ ?_
        clear hK K
        refine yI [7] ?_
        refine cI rfl fun K hK=>?_
        rw [if_pos (by kernel_rfl)]
        refine ok_ _ _ 57 rfl _ _ rfl rfl _ w3 HRUN.out ?_
        refine hK _ _ ?_
        clear hK K
        simp only [Act.put,List.setIfInBounds_toArray]
        refine yI [8] ?_
        refine cI rfl fun K hK=>?_
        go_simp
        refine hK _ _ ?_
        clear hK K
        refine wpAnyIn_done (by kernel_rfl) ?_ _
        exact HQ.out
 case done =>
  intro D W hD hI hK
  have hla:(tells true l n).attach.length=(G true l n).length:=by rw [List.length_attach];rfl
  have hok:=HH.out.inv.ok
  have hGn:∀x∈G true l n,x∈nums l:=fun x hx=>G_nums hok hx
  have hnd:=G_nodup hok true n
  obtain⟨hbox,hcc,hcm,hbut⟩:=hI
  rw [vals_all] at hbox hcm
  rw [hla,runC_eq _ (fun x hx=>nums_nn hok (hGn x hx)) hnd] at hbox
  rw [runT_eq HH.out.inv _ hGn hnd] at hcm
  obtain⟨a,c,hl,hO⟩:=hbox
  have hfe:=hid (fell_any hcm n)
  have y2:=hcc.1
  have HFIN:Hid (∀w4,Cm w4 A kn mo (pairs X (cuts l (G true l n))) (zer X (G true l n)) (cuts l (G true l n))→But (·=A.kb) W w4→Lies w4 ⟨w0.heap.size,0,none⟩ (.slice a (G true l n).length c)∧w4.heap[D]?=some (.deferred (some []))∧(Ow (w4.putObj D (.deferred none)) w.heap.size 38 3 a (G true l n).length c (caps ((G true l n).map (fun k=>(tk X k).1)))∧Cat (w4.putObj D (.deferred none)) A kn mo (zer X (G true l n)) (cuts l (G true l n))∧But A.Wr w (w4.putObj D (.deferred none)))):=by
   intro w4 hM4 hB4
   have hkb:A.kb<w.heap.size:=hAll.out _ (.inr (.inr (.inr (.inr (.inr rfl)))))
   have hDl:D<W.heap.size:=(Array.getElem?_eq_some_iff.1 hK).1
   have hK4:w4.heap[D]?=some (.deferred (some [])):=(hB4.block D hDl (by show ¬D=A.kb;omega)).trans hK
   have hbp:=but_grown (grownBy_putObj' w4 D (.deferred none))
   have hAd:∀k,A.All k→¬(some D=some k):=fun k hk e=>by have:=hAll.out k hk;cases e;omega
   have htk:∀x∈nums (cuts l (G true l n)),tk (zer X (G true l n)) x=tk X x:=fun x hx=>by
    obtain⟨h1,h2⟩:=nums_cuts.1 hx
    exact zer_tk _ X x (nums_nn hok h1) (fun y hy=>nums_nn hok (hGn y hy)) h2
   refine⟨hl.but hB4 (by show ¬w0.heap.size=A.kb;omega),hK4,((hO.but hB4 (fun j hj e=>by have:=(hO.blk j hj).1;omega)).put hK4).mono (by omega),⟨?_,(HH.out.inv.cuts _ hM4.kin.ok).ext (by rw [zer_len];exact HH.out.inv.len) htk⟩,?_⟩
   ·rw [pairs_ext htk]
    exact hM4.but hbp hAd
   ·exact ((hbut.trans (hB4.mono (fun k e=>.inr (.inr (.inr e))))).comp hbp (fun k e=>.inr (by cases e;omega)))
  clear hbut hcm hl hO hcc hK
  gi_wp2_with (refine⟨trivial,?_⟩;gi_at_call 233;refine (callsIn_wide.2 hfe.out).mono ?_;rintro e w4 ⟨rfl,hM4,hB4⟩;obtain⟨hl4,hK4,hfin⟩:=HFIN.out w4 hM4 hB4;have y4:=hl4.1;have HF:=hid hfin;have HK4:=hid hK4;clear hM4 hB4 hl4 hfin hK4)
  refine⟨by simp,.inl ⟨_,_,rfl,run_takeDeferred HK4.out,?_⟩⟩
  refine⟨.tuple #[.slice a (G true l n).length c,.int .i64 0],?_,a,c,rfl,HF.out⟩
  simp [results,Tryz.f201,go_sem]
end Go.Proofs.YtfmhdimaijimlaaGreatDoor
