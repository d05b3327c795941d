import Derived.Test.YtffmodpgddecnaaGreatDoorZ05
set_option linter.unusedVariables false
set_option linter.unusedSimpArgs false
set_option maxRecDepth 100000
set_option maxHeartbeats 2000000
namespace Go.Proofs.YtffmodpgddecnaaGreatDoor
open Go.RowKit Go.Shelf
attribute [local go_sem] Oper.semAt_some
abbrev Mem (l:Fo)(n:Int):={ x:Int // x∈dO true l n }
def CO (xs:List Int)(J:List { x:Int // x∈xs }->World->Prop)(Fp:World->Nat->Prop)(base:Nat)(a:Option Addr)(c:Nat)(t:Value)(wr:World):Prop :=
 ∃i:Nat,t=.int .i64 (i:Int)/\i<=xs.length/\J (xs.attach.take i) wr/\Own wr base 3 a xs.length c (ints xs)/\∀k,aJ a k->¬Fp wr k
theorem rK (xs:List Int)(i:Nat)(h:i<xs.length):xs.attach.take (i+1)=xs.attach.take i++[⟨xs[i],List.getElem_mem h⟩]:=by
 rw [List.take_succ_eq_append_getElem (by simpa using h)];simp
theorem C5 {w:World}{g gb m:Nat}{l:Fo}{base b0:Nat}{n:Int}(hq:Sq w true base b0 g n)(hk:Ki w g gb m l)(Fp:World->Nat->Prop)(hF:∀W,Below w.heap.size w W->∀k,Fp W k->k<w.heap.size)(N:Nat) :
  SeqStopsK Fence.wide N Tryz.prog 374 #[.pointer (some ⟨b0,0,none⟩)] (λx:Mem l n=>#[Value.int .i64 x.1]) (Kq Fp) (λys=>ys=(dO true l n).attach) (λpre=>pre <+: (dO true l n).attach) (dO true l n).length w:=by
 intro L J Jx W hW hJ hJx hY h0;replace hq:=hq.later hW
 replace hk:=hk.later hW
 obtain⟨b1,b2,h1,h2,h3,_,_,_⟩:=hq
 have hT:=ab (yR hk true n b1 b2 h2 h3)
 have htl:=Nat.le_trans (wu hk.ok true n) hk.eI
 have HH:=ab (λ(W2:World) (hb:Below W.heap.size W W2)=>(show J [] W2/\∀k,Fp W2 k->k<W.heap.size from ⟨hJ [] W W2 none h0 (lQ hb) (λr e=>(by cases e)),λk hk2=>Nat.lt_of_lt_of_le (hF W2 (hW.trans (hb.mono hW.size)) k hk2) hW.size⟩))
 unfold Mem at *
 generalize dO true l n=xs at *
 clear hk hJ hJx h2 h3 h0;have HY:=ab hY
 clear hY;refine callsIn_of_wp Tryz.func374 rfl trivial ?_ rfl
 simp only [Tryz.ntmps374,List.size_toArray,List.length_cons,List.length_nil,Nat.reduceAdd,Nat.reduceSub,Array.replicate_succ,Array.replicate_zero,List.push_toArray,List.append_toArray,List.nil_append,List.cons_append];change W.cell? _=some (.func (.func 334) _ _) at h1
 change Hid (Calls Tryz.prog 334 _ _ _) at hT
 gi_wp2_with (refine⟨trivial,λh=>(by cases h),?_⟩;gi_at_call 334;refine (callsIn_wide.2 hT.out).mono ?_;rintro e w1 ⟨a,k,c,rfl,hO,hB⟩;have hlk:=hO.len;rw [aL] at hlk;subst hlk;have HO:=ab hO;have HB:=ab hB;clear hO hB)
 gi_loopw [8] (CO xs J Fp W.heap.size a c) (λt _=>xs.length - (intOf t).toNat)
 case atStart=>exact⟨0,rfl,Nat.zero_le _,(HH.out _ HB.out).1,HO.out,λk hb hf=>by have:=(HH.out _ HB.out).2 k hf;have:=HO.out.bT k hb;omega⟩
 case round =>
  obtain⟨i,rfl,hi,hJs,hO,hN⟩:=hrel
  by_cases hlt:i<xs.length
  ·obtain⟨ga,rfl⟩:=hO.form (by omega)
   obtain⟨_,e1,hL1⟩:=hO.rI rfl (ef xs i hlt)
   cases e1
   have y1:=hL1.1
   obtain⟨fn,tmps,assign,body,hy,hR⟩:=HY.out (xs.attach.take i) ⟨xs[i],List.getElem_mem hlt⟩ wr hJs (by rw [List.length_take,List.length_attach];omega)
   rw [<-rK xs i hlt] at hR;have We:=ab (show xs.attach.take (i+1) <+: xs.attach from List.take_prefix _ _)
   simp only at hR hy;generalize xs[i]=x at *
   have HOr:=ab hO
   have Xj:=ab hN
   clear hO hN hL1;gi_wp2
   refine⟨λh=>(by cases h),hR.mono ?_⟩
   rintro e W3 (⟨rfl,hJ3,hk3⟩|⟨rfl,hJx3⟩)
   ·obtain⟨hO3,hN3⟩:=HOr.out.kq hk3 Xj.out
    have Rg:=ab hO3
    have Sj:=ab hN3
    clear hO3 hN3 hk3;gi_wp2
    go_roundw
    case rel=>exact⟨i+1,by go_num,by omega,hJ3,Rg.out,Sj.out⟩
    case measure=>simp [intOf];omega
   ·gi_wp2
    refine bodyPost_ret (results_none rfl _ _ _) rfl ?_
    exact⟨⟨_,rfl⟩,.inr ⟨_,We.out,hJx3⟩⟩
  ·obtain rfl:i=xs.length:=by omega
   rw [List.take_of_length_le (by simp)] at hJs;clear hO hN;gi_wp2
   go_end0
   exact⟨⟨_,rfl⟩,.inl ⟨_,rfl,hJs⟩⟩
theorem nQ {N:Nat}{gop:Operand}{p:Tmp}{assign body:Code}{Q:Exit->Act->World->Prop}{a:Act}{w:World}{g gb m:Nat}{l:Fo}{base b0:Nat}{n:Int}(d:Nat)
  (h1:1<=N) (hg:a.eval gop=.func (.func 374) #[] #[.pointer (some ⟨b0,0,none⟩)]) (hq:Sq w true base b0 g n) (hk:Ki w g gb m l) (Fp:World->Nat->Prop) (hF:∀W,Below w.heap.size w W->∀k,Fp W k->k<w.heap.size)
  (hFc:∀(W:World) (L:Nat) (o o':Obj),w.heap.size<=L->W.heap[L]?=some o->o.isCells=false->∀k,Fp (W.putObj L o') k->Fp W k)
  (I:List (Mem l n)->World->Prop) (hI:OwnFrom w.heap.size I) (h0:I [] w)
  (hassign:∀(L:Nat) (x:Mem l n) (W:World) (K:Act->World->Prop),K (zI a p d x.1) W ->
   assign.wpIn (Fence.wide.inRound L) (N - 1 - 1) Tryz.prog (Exit.then K (λ_ _ _=>False)) { tmps:=a.tmps.setIfInBounds p (.int .i64 x.1),defers:=[] } W)
  (hbody:∀(L:Nat) (pre:List (Mem l n)) (x:Mem l n) (W:World),I pre W->pre.length<(dO true l n).length->body.wpIn (Fence.wide.inRound L) (N - 1 - 1) Tryz.prog (ownPostG w.heap.size (Kq Fp) I (λ_ _ _=>False) (pre++[x]) W) (zI a p d x.1) W)
  (hdone:∀(D:Nat) (W:World),w.heap.size<=D->I (dO true l n).attach W->W.heap[D]?=some (.deferred (some []))->Q .normal { a with defers:={ target:=.collected D,args:=#[] }::a.defers } W) :
  (Code.rangeFunc gop #[p] assign body).wpIn Fence.wide N Tryz.prog Q a w :=
 wpIn_rangeFunc_ownG rfl h1 (gf:=374) (lb:=#[.pointer (some ⟨b0,0,none⟩)]) hg trivial (enters_of Tryz.func374 (by kernel_rfl) rfl) (C5 hq hk Fp hF (N - 1)) Kq.trans
  (λW L o o' hL h ho _=>Fk hFc W L o o' hL h ho) (Below.refl _ _) (λ_=>rfl) I (λ_ _ _=>False) hI (λc=>ownFrom_pure _ _) h0 (λx=>zI a p d x.1) (λL x W K hK=>by rw [show (#[p].zip #[Value.int .i64 x.1]).foldl (λt (p,v)=>t.setIfInBounds p v) a.tmps=a.tmps.setIfInBounds p (.int .i64 x.1) by simp];exact hassign L x W K hK) hbody (λD xs W hD e=>by subst e;exact hdone D W hD) (λD c pre W hD hp hf hK=>hf.elim)
end Go.Proofs.YtffmodpgddecnaaGreatDoor
namespace Go.Proofs.YtffmodpgddecnaaGreatDoor
open Go.RowKit Go.Shelf H
structure Cr (w:World)(k:Nat)(b:Option Addr)(m c:Nat)(M:List Value):Prop where
 len:M.length=m*k
 none_:b=none->m=0/\c=0
 cells:∀x,b=some x->∀j u,M[j]?=some u->w.cell? (x.add j)=some u
 one:∀u∈M,u.oneCell'=true
theorem er (t e:TypeId)(z:Value)(k aB:Nat)(ht:Tryz.prog.underlying t=some (.slice e))(hinf:(Tryz.prog.info? e).map (λi=>(i.zero,i.size,i.bytes))=some (some z,k,aB))(hzs:z.cells.size=k)(hk:0<k)(hby:0<aB)
  {w:World} {base:Nat} {a:Option Addr} {n cap:Nat} {L:List Value} {b:Option Addr} {m c:Nat} {M:List Value} (h:w.ownsRow base e k (.slice a n cap) n L) (r:Cr w k b m c M) (hb:base<=w.heap.size) (hr:(n+m)*aB<=140737488355328) :
  ∃a' cap' w',(Builtin.append_ #[t,t] t #[.slice a n cap,.slice b m c]).run Tryz.prog w=.ok (.slice a' (n+m) cap') w'/\w'.ownsRow base e k (.slice a' (n+m) cap') (n+m) (L++M)/\Gr a a' w w':=by
 obtain⟨i,hi,hz0,hz1,hz2⟩:=info_parts hinf
 have hnm:n+m<=140737488355328:=Nat.le_trans (Nat.le_mul_of_pos_right _ hby) hr
 cases b with
 | none =>
  obtain⟨rfl,rfl⟩:=r.none_ rfl
  have hM:M=[]:=List.eq_nil_of_length_eq_zero (by have:=r.len;omega)
  subst hM;have hr:=run_append_owned_none (P:=Tryz.prog) (w:=w) base t t e i k ht hi _ n _ h
  exact⟨a,cap,w,hr,by simpa using h,Gr.refl _ _⟩
 | some x =>
  obtain⟨v',w',hr,h2,h3,_,h5⟩:=run_append_own_at (P:=Tryz.prog) w base t t e i _ k aB ht hi hz0 hz1 hz2 hzs hk _ n _ h x m c M r.len (r.cells x rfl) r.one (by unfold maxLen;omega) hr hb
  obtain⟨a',cap',rfl⟩:∃a' cap',v'=.slice a' (n+m) cap':=by
   rcases h2.2 with ⟨h,h'⟩|⟨g',cap',_,h,_⟩
   ·exact⟨.none,0,by rw [h,h']⟩
   ·exact⟨_,cap',h⟩
  refine⟨a',cap',w',hr,h2,⟨h3.os,h3.tape,h3.output,h3.size,λj hj hn=>h3.block j hj (λe=>hn (aJ.of.1 e.symm))⟩,λj hj=>?_⟩
  rcases h5 with h5|h5
  ·rw [aJ.of.2 hj] at h5
   exact .inl (aJ.of.1 h5.symm)
  ·rw [aJ.of.2 hj] at h5
   right
   simp at h5
   omega
theorem Cr.lit (w:World)(e:TypeId)(M:List Value)(h1:∀u∈M,u.oneCell'=true):Cr (w.alloc (Obj.cells M.toArray e)) M.length (some ⟨w.heap.size,0,none⟩) 1 1 M :=
 ⟨by simp,λh=>(by cases h),λx hx j u hu=>by
  cases hx
  rw [aQ];simp only [World.cell?,World.alloc,Array.getElem?_push_size];simpa using hu,h1⟩
def Ow (w:World)(base:Nat)(e:TypeId)(k:Nat)(a:Option Addr)(n cap:Nat)(L:List Value):Prop:=w.ownsRow base e k (.slice a n cap) n L
theorem Ow.but {S:Nat->Prop}{w w':World}{base:Nat}{e:TypeId}{k:Nat}{a:Option Addr}{n cap:Nat}{L:List Value}(h:Ow w base e k a n cap L)(hb:ah S w w')(hn:∀j,aJ a j->¬S j):Ow w' base e k a n cap L:=pt hb h (λj hj=>hn j (aJ.of.1 hj))
theorem Ow.later {w w':World}{base:Nat}{e:TypeId}{k:Nat}{a:Option Addr}{n cap:Nat}{L:List Value}(h:Ow w base e k a n cap L)(hb:Below w.heap.size w w'):Ow w' base e k a n cap L:=h.but (S:=λ_=>False) (ah.of hb) (λ_ _ h=>h)
theorem Ow.mono {w:World}{base b:Nat}{e:TypeId}{k:Nat}{a:Option Addr}{n cap:Nat}{L:List Value}(h:Ow w base e k a n cap L)(hb:b<=base):Ow w b e k a n cap L:=gr h hb
theorem Ow.bT {w:World}{base:Nat}{e:TypeId}{k:Nat}{a:Option Addr}{n cap:Nat}{L:List Value}(h:Ow w base e k a n cap L):∀j,aJ a j->base<=j/\j<w.heap.size:=λj hj=>bu h j (aJ.of.2 hj)
theorem Ow.nil (w:World)(base:Nat)(e:TypeId)(k:Nat):Ow w base e k none 0 0 []:=⟨by simp,.inl ⟨rfl,rfl⟩⟩
theorem Ow.cells {w:World}{base:Nat}{e:TypeId}{k:Nat}{a:Option Addr}{n cap:Nat}{L:List Value}(h:Ow w base e k a n cap L){j:Nat}(hj:aJ a j):∃cs t z,w.heap[j]?=some (.cells cs t z):=by
 rcases h.2 with ⟨h1,_⟩|⟨g,c,cur,hv,hg,hh,r⟩
 ·simp only [Value.slice.injEq] at h1
  obtain⟨x,hx,_⟩:=hj
  rw [h1.1] at hx;cases hx
 ·simp only [Value.slice.injEq] at hv
  obtain⟨x,hx,rfl⟩:=hj
  rw [hv.1] at hx;cases hx
  exact⟨_,_,_,hh⟩
theorem Ow.put {w:World}{base:Nat}{e:TypeId}{k:Nat}{a:Option Addr}{n cap:Nat}{L:List Value}(h:Ow w base e k a n cap L){D:Nat}{ds:List Deferred}(hK:w.heap[D]?=some (.deferred (some ds))):Ow (w.putObj D (.deferred none)) base e k a n cap L:=ownsRow_putObj h _ hK rfl
def cF (B:Nat)(W:World)(k:Nat):Prop:=k=B\/∃a n c,W.cell? ⟨B,0,none⟩=some (.slice a n c)/\aJ a k
def BP (B:Nat)(e:TypeId)(k:Nat)(W:World)(n:Nat)(L:List Value):Prop:=∃a c,az W ⟨B,0,none⟩ (.slice a n c)/\Ow W (B+1) e k a n c L
theorem BP.grown {B C:Nat}{e:TypeId}{k n:Nat}{L:List Value}{W W':World}{row:Option Nat}(h:BP B e k W n L)(hg:W.grownBy W' row)(hr:∀r,row=some r->C<=r/\∃o,W.heap[r]?=some o/\o.isCells=false):BP B e k W' n L:=by
 obtain⟨a,c,hl,hO⟩:=h
 refine⟨a,c,⟨cell_kept hl.1 hg (λr e=>(hr r e).2),(frozen_kept hl.1 hg (λr e=>(hr r e).2)).trans hl.2⟩,hO.but (bI hg) (λj hj e=>?_)⟩
 obtain⟨_,o,ho,hc⟩:=hr j e
 obtain⟨cs,t,z,hh⟩:=hO.cells hj
 rw [ho] at hh;cases hh
 cases hc
theorem kp {w:World}{B:Nat}(hl:w.cell? ⟨B,0,none⟩=some (.slice none 0 0))(W:World)(hW:Below w.heap.size w W)(k:Nat)(hk:cF B W k):k<w.heap.size:=by
 have hB:=World.block_lt_of_cell? _ _ hl
 rcases hk with rfl|⟨a,n,c,h2,hk⟩
 ·exact hB
 ·rw [cell_later hW hl] at h2
  cases h2
  obtain⟨x,hx,_⟩:=hk
  cases hx
theorem nk {B C:Nat}(hB:B<C)(W:World)(L:Nat)(o o':Obj)(hL:C<=L)(h:W.heap[L]?=some o)(ho:o.isCells=false)(k:Nat)(hk:cF B (W.putObj L o') k):cF B W k:=by
 rcases hk with rfl|⟨a,n,c,h2,hk⟩
 ·exact .inl rfl
 ·refine .inr ⟨a,n,c,?_,hk⟩
  have hne:(W.putObj L o').heap[B]?=W.heap[B]?:=World.putObj_heap_other (by omega)
  rw [World.cell?_of_block (w:=W) (w':=W.putObj L o') hne] at h2;exact h2
theorem tj (t e:TypeId)(z:Value)(k aB:Nat)(ht:Tryz.prog.underlying t=some (.slice e))(hinf:(Tryz.prog.info? e).map (λi=>(i.zero,i.size,i.bytes))=some (some z,k,aB))(hzs:z.cells.size=k)(hk:0<k)(hby:0<aB)(hby2:aB<=1024)
  {B:Nat} {W:World} {n:Nat} {L:List Value} {a:Option Addr} {c:Nat} (hl:az W ⟨B,0,none⟩ (.slice a n c)) (hO:Ow W (B+1) e k a n c L) (M:List Value) (hM:M.length=k) (hM1:∀u∈M,u.oneCell'=true) (hn:n<=2048) :
  ∃a' c' w3,(Builtin.append_ #[t,t] t #[.slice a n c,.slice (some ⟨W.heap.size,0,none⟩) 1 1]).run Tryz.prog (W.alloc (Obj.cells M.toArray e))=.ok (.slice a' (n+1) c') w3 /\
   az w3 ⟨B,0,none⟩ (.slice a n c)/\∀w4,w4=w3.setCell ⟨B,0,none⟩ (.slice a' (n+1) c')->w4.cell? ⟨B,0,none⟩=some (.slice a' (n+1) c')/\BP B e k w4 (n+1) (L++M)/\ah (cF B W) W w4/\(∀j,cF B w4 j->cF B W j\/W.heap.size<=j)/\(∀j,cF B W j->B<=j/\∃cs t z,W.heap[j]?=some (.cells cs t z)):=by
 have hBl:B<W.heap.size:=World.block_lt_of_cell? _ _ hl.1
 have hcr:=Cr.lit W e M hM1
 rw [hM] at hcr;obtain⟨a',c',w3,hrun,hO3,hG0⟩:=er t e z k aB ht hinf hzs hk hby (hO.later (ae W (Obj.cells M.toArray e))) hcr (by simp;omega) (by
  have:(n+1)*aB<=2049*1024:=Nat.mul_le_mul (by omega) hby2
  omega)
 have hG:=hG0.pre (ae W (Obj.cells M.toArray e))
 have hO3:Ow w3 (B+1) e k a' (n+1) c' (L++M):=hO3
 have hl3:az w3 ⟨B,0,none⟩ (.slice a n c):=hl.but hG.but (λhb=>by have:=(hO.bT B hb).1;omega)
 have hfp:∀j,cF B W j->j=B\/aJ a j:=λj hj=>by
  rcases hj with rfl|⟨a2,n2,c2,h2,hj⟩
  ·exact .inl rfl
  ·rw [hl.1] at h2
   cases h2
   exact .inr hj
 refine⟨a',c',w3,hrun,hl3,?_⟩
 rintro w4 rfl
 have hb4:ah (cF B W) W (w3.setCell ⟨B,0,none⟩ (.slice a' (n+1) c')) :=
  (hG.but.mono (λj hj=>.inr ⟨a,_,c,hl.1,hj⟩)).setCell (p:=⟨B,0,none⟩) (.inl rfl) _
 have hl4:=hl3.put (u:=.slice a' (n+1) c')
 have hO4:Ow (w3.setCell ⟨B,0,none⟩ (.slice a' (n+1) c')) (B+1) e k a' (n+1) c' (L++M) :=
  hO3.but (S:=(·=B)) ((ah.refl (·=B) _).setCell (p:=⟨B,0,none⟩) (show B=B from rfl) _) (λj hj e=>by have:=(hO3.bT j hj).1;omega)
 refine⟨hl4.1,⟨a',c',hl4,hO4⟩,hb4,λj hj=>?_,λj hj=>?_⟩
 ·rcases hj with rfl|⟨a2,n2,c2,h2,hj⟩
  ·exact .inl (.inl rfl)
  ·rw [hl4.1] at h2
   cases h2
   rcases hG.on j hj with h3|h3
   ·exact .inl (.inr ⟨a,_,c,hl.1,h3⟩)
   ·exact .inr h3
 ·rcases hfp j hj with rfl|h3
  ·refine⟨Nat.le_refl _,?_⟩
   have:=hl.1
   unfold World.cell? at this
   cases ho:W.heap[j]? with
   | none=>rw [ho] at this;cases this
   | some o =>
    rw [ho] at this;cases o with
    | cells cs t z=>exact⟨cs,t,z,rfl⟩
    | _=>simp at this
  ·exact⟨by have:=(hO.bT j h3).1;omega,hO.cells h3⟩
def cH (x:Cp):List Value:=[.int .i64 x.1,.int .u64 (x.2.1:Int),.int .u64 (x.2.2:Int)]
def aF (K:List Cp):List Value:=K.flatMap cH
theorem gM (x:Cp):∀v∈cH x,v.oneCell'=true:=by
 intro v hv;simp only [cH,List.mem_cons,List.not_mem_nil,or_false] at hv;rcases hv with rfl|rfl|rfl<;>rfl
theorem jG (K:List Cp)(x:Cp):aF (K++[x])=aF K++cH x:=by simp [aF]
theorem iz:(Tryz.prog.info? 37).map (λi=>(i.zero,i.size,i.bytes))=some (some (.agg #[.int .i64 0,.int .u64 0,.int .u64 0]),3,24):=by kernel_rfl
abbrev Tok:=Cp×Int×Int
def fj (x:Tok):List Value:=[.int .i64 x.1.1,.int .u64 (x.1.2.1:Int),.int .u64 (x.1.2.2:Int),.int .i64 x.2.1,.int .i64 x.2.2]
def dJ (K:List Tok):List Value:=K.flatMap fj
theorem yp (x:Tok):∀v∈fj x,v.oneCell'=true:=by
 intro v hv;simp only [fj,List.mem_cons,List.not_mem_nil,or_false] at hv;rcases hv with rfl|rfl|rfl|rfl|rfl<;>rfl
theorem j1 (K:List Tok)(x:Tok):dJ (K++[x])=dJ K++fj x:=by simp [dJ]
theorem zL:(Tryz.prog.info? 74).map (λi=>(i.zero,i.size,i.bytes))=some (some (.agg #[.int .i64 0,.int .u64 0,.int .u64 0,.int .i64 0,.int .i64 0]),5,40):=by kernel_rfl
def sd (X:List Tk):List Int->List Cp
 | []=>[]
 | a::A=>(tk X a).1::sd (X.set a.toNat tz) A
def runT (T:List (Cp×Int))(X:List Tk):List Int->List (Cp×Int)
 | []=>T
 | a::A=>runT (fc T (tk X a).1) (X.set a.toNat tz) A
theorem jT:∀(A:List Int) (X:List Tk) (a:Int),sd X (A++[a])=sd X A++[(tk (fQ X A) a).1]
 | [],X,a=>rfl
 | b::A,X,a=>by show (tk X b).1::sd _ (A++[a])=_;rw [jT];rfl
theorem jJ:∀(A:List Int) (T:List (Cp×Int)) (X:List Tk) (a:Int),runT T X (A++[a])=fc (runT T X A) (tk (fQ X A) a).1
 | [],T,X,a=>rfl
 | b::A,T,X,a=>by show runT _ _ (A++[a])=_;rw [jJ];rfl
theorem Ax:∀(A:List Int) (X:List Tk) (a:Int),0<=a->(∀x∈A,0<=x)->tk (fQ X A) a=tk X a\/tk (fQ X A) a=tz
 | [],X,a,_,_=>.inl rfl
 | b::A,X,a,h0,hA=>by
  unfold fQ;have hb:=hA b (List.mem_cons_self ..)
  rcases Ax A (X.set b.toNat tz) a h0 (λx hx=>hA x (List.mem_cons_of_mem _ hx)) with h|h
  ·by_cases e:a=b
   ·rw [h]
    by_cases hl:b.toNat<X.length
    ·right
     have:(b.toNat:Int)=b:=by omega
     have h2:=dz (X:=X) tz hl
     rw [this] at h2;rw [e];exact h2
    ·left
     rw [List.set_eq_of_length_le (by omega)]
   ·left
    rw [h];exact bN tz h0 (by omega)
  ·exact .inr h
theorem ji {P:List Int->Prop}(h0:P [])(h1:∀A a,P A->P (A++[a])):∀A,P A:=λA=>by
 have:∀B:List Int,P B.reverse:=λB=>by
  induction B with
  | nil=>exact h0
  | cons b B ih=>rw [List.reverse_cons];exact h1 _ _ ih
 have h:=this A.reverse
 rwa [List.reverse_reverse] at h
theorem C0 {X:List Tk}:∀(A:List Int),(∀a∈A,0<=a)->A.Nodup->sd X A=A.map (λk=>(tk X k).1) :=
 ji (P:=λA=>(∀a∈A,0<=a)->A.Nodup->sd X A=A.map (λk=>(tk X k).1)) (λ_ _=>rfl) (λA a ih h0 hn=>by
  rw [List.nodup_append] at hn;rw [jT,ih (λx hx=>h0 x (List.mem_append_left _ hx)) hn.1,iA A X a (h0 a (by simp)) (λx hx=>h0 x (List.mem_append_left _ hx)) (λhm=>hn.2.2 a hm a (by simp) rfl)];simp)
theorem runT_eq {m:Nat}{X:List Tk}{l:Fo}(h:Inv m X l):∀(A:List Int),(∀a∈A,a∈aj l)->A.Nodup->runT (cv X l) X A=cv X (bh l A) :=
 ji (P:=λA=>(∀a∈A,a∈aj l)->A.Nodup->runT (cv X l) X A=cv X (bh l A)) (λ_ _=>by rw [p6];rfl) (λA a ih h0 hn=>by
  rw [List.nodup_append] at hn;have hA:∀x∈A,x∈aj l:=λx hx=>h0 x (List.mem_append_left _ hx)
  have ha:=h0 a (by simp)
  rw [jJ,ih hA hn.1,iA A X a (bd h.ok ha) (λx hx=>bd h.ok (hA x hx)) (λhm=>hn.2.2 a hm a (by simp) rfl),<-nX];unfold fc cv cut;rw [List.filter_map];congr 1
  refine List.filter_congr (λx hx=>?_)
  have hxl:=(ja.1 hx).1
  simp only [Function.comp];by_cases e:x.1=a
  ·rw [decide_eq_false (by simp [e]),decide_eq_false (by simp [e])]
  ·have h1:(tk X x.1).1≠(tk X a).1:=λhc=>e (h.one _ (av.2 ⟨x.2,hxl⟩) _ ha hc)
   have h2:x.1≠a:=e
   rw [decide_eq_true h1,decide_eq_true h2])
theorem tD {l:Fo}{A B:List Int}(h:∀x,x∈A↔x∈B):bh l A=bh l B:=by
 unfold bh;refine List.filter_congr (λx _=>?_)
 by_cases e:x.1∈A
 ·rw [decide_eq_false (λhn=>hn e),decide_eq_false (λhn=>hn ((h _).1 e))]
 ·have h1:x.1∉B:=λhn=>e ((h _).2 hn)
  rw [decide_eq_true e,decide_eq_true h1]
theorem jv {w:World}{A:Ad}{kn mo:Nat}{T:List (Cp×Int)}{X:List Tk}{l:Fo}(h:Cm w A kn mo T X l)(n:Int) :
  Calls Tryz.prog 368 #[.pointer (some ⟨A.g,2,none⟩),.int .i64 n] w λe w'=>e=.returned (.tuple #[])/\Cm w' A kn mo T X (bh l (G true l n))/\ah (·=A.kb) w w':=by
 have hok:=ab h.nY.ok
 have mM:=h.small
 have hfl:(Fl l n).length<=mo:=by rw [Gc hok.out];exact l9 hok.out _ _
 have hkb:A.kb<w.heap.size:=h.lt _ (.inr (.inr (.inr (.inr (.inr rfl)))))
 have HC:Hid (bh l (G true l n)=bh l (Fl l n)):=tD (λx=>(sP hok.out).symm)
 have hF:=ab (yU h.nY n)
 have x2:=h.c2
 have HH:=ab h
 unfold Hid at HC;rw [HC];clear h HC;go_enter Tryz.func368,Tryz.ntmps368
 go_upto_region 1 with (first|(go_at_call 391;refine hF.out.mono ?_;rintro e w1 ⟨a,k,cap,rfl,hO,hB⟩;have hlk:=hO.len;rw [aL] at hlk;subst hlk;have HO:=ab hO;have HB:=ab hB;clear hO hB))
 go_loopw [13] (λt W=>∃i:Nat,t=.int .i64 (i:Int)/\i<=(Fl l n).length/\Cm W A kn mo T X (bh l ((Fl l n).take i))/\ah (·=A.kb) w1 W) (λt _=>(Fl l n).length - (intOf t).toNat)
 case atStart=>exact⟨0,rfl,Nat.zero_le _,by rw [List.take_zero,p6];exact HH.out.later HB.out,ah.refl _ _⟩
 case round =>
  obtain⟨i,rfl,hi,hM,hbw⟩:=hrel
  by_cases hlt:i<(Fl l n).length
  ·have hOr:=HO.out.but hbw (λj hj e=>by have:=HO.out.bT j hj;omega)
   obtain⟨ga,rfl⟩:=hOr.form (by omega)
   obtain⟨_,e1,hL1⟩:=hOr.rI rfl (ef (Fl l n) i hlt)
   cases e1
   have y1:=hL1.1
   have z2:=hM.c2
   have hst:=xa hok.out (n:=n) (List.getElem?_eq_getElem hlt)
   have hcut:=kH hM.nY (Fl l n)[i]
   have hcl:zR (bh l ((Fl l n).take i)) (Fl l n)[i]=bh l ((Fl l n).take (i+1)):=by
    unfold zR;rw [if_pos ⟨hst.1,hst.2.1⟩];exact hst.2.2
   rw [hcl] at hcut;have Sy:=ab hcut
   have HM:=ab hM
   have Ql:=ab hbw
   clear hcut hcl hst hM hbw hOr hL1;generalize (Fl l n)[i]=x at *
   go_wp2_with (first|(go_at_call 392;refine Sy.out.mono ?_;rintro e w2 ⟨rfl,hk2,hb2⟩;have Qf:=ab hk2;have PB:=ab hb2;clear hk2 hb2))
   refine⟨⟨i+1,by go_num,by omega,HM.out.tF PB.out Qf.out,Ql.out.trans PB.out⟩,by simp [intOf];omega⟩
  ·obtain rfl:i=(Fl l n).length:=by omega
   rw [List.take_length] at hM;have HM:=ab hM
   have Ql:=ab hbw
   clear hM hbw;go_wp2;go_end0
   exact⟨rfl,HM.out,(ah.of HB.out).trans Ql.out⟩
theorem qt {w:World}{A:Ad}{kn mo:Nat}{T:List (Cp×Int)}{X:List Tk}{l:Fo}(h:Cm w A kn mo T X l)(n:Int) :
  Calls Tryz.prog 196 #[.pointer (some ⟨A.g,2,none⟩),.int .i64 n] w λe w'=>∃b0,e=.returned (.func (.func 374) #[] #[.pointer (some ⟨b0,0,none⟩)])/\Sq w' true w.heap.size b0 A.kg n/\Below w.heap.size w w':=by
 have hc:=ab (yc true A.kg n w)
 change Hid (Calls Tryz.prog 276 _ w _) at hc
 have x2:=h.c2
 clear h;go_enter Tryz.func196,Tryz.ntmps196
 go_wp2_with (first|(go_at_call 276;refine hc.out.mono ?_;rintro e w1 ⟨b0,rfl,hs,hb⟩;have HS:=ab hs;have HB:=ab hb;clear hs hb))
 go_ret;exact⟨b0,rfl,HS.out,HB.out⟩
end Go.Proofs.YtffmodpgddecnaaGreatDoor
