import Derived.Test.YtfmhdimaijimlaaGreatDoorZ07
set_option linter.all false
set_option maxRecDepth 1000000
set_option maxHeartbeats 8000000
open Go.Proofs.Tryz
variable {w w' w1 w2:Go.World}{n m k i j b g base kn:Nat}{a:Option Go.Addr}
namespace Go.Proofs.YtfmhdimaijimlaaGreatDoor.M
open Go.RowKit
abbrev Cp:=Int×Nat×Nat
theorem kP {α:Type}{enc:α->List Value}{k:Nat}(hk:∀x,(enc x).length=k)(K:List α)(i c:Nat)(x:α)(hi:K[i]?=some x)(hc:c<k):(K.flatMap enc)[i*k+c]?=(enc x)[c]?:=by
 induction K generalizing i with
 | nil=>cases hi
 | cons a r ih =>
  rw [List.flatMap_cons]
  cases i with
  | zero =>
   simp at hi
   subst hi
   rw [Nat.zero_mul,Nat.zero_add,List.getElem?_append_left (by rw [hk];exact hc)]
  | succ i =>
   rw [List.getElem?_append_right (by rw [hk,Nat.add_mul];omega),hk]
   have:(i+1)*k+c - k=i*k+c:=by rw [Nat.add_mul];omega
   rw [this]
   exact ih i (by simpa using hi)
theorem _root_.Go.Proofs.YtfmhdimaijimlaaGreatDoor.Ow.rd {cap:Nat}{K:List Cp}(h:Ow w base 38 3 a n cap (az K))(hn:K.length=n):Rd w a n K :=
 ⟨hn,λh0=>by
  obtain⟨b,e,hc⟩:=h.at_ h0
  refine⟨b,0,e,λi c hi=>?_⟩
  have hg:=λd (hd:d<3)=>kP (enc:=dq) (k:=3) (λ_=>rfl) K i d c hi hd
  rw [Nat.zero_add]
  exact⟨hc _ _ (hg 0 (by omega)),hc _ _ (hg 1 (by omega)),hc _ _ (hg 2 (by omega))⟩⟩
def Gx (w:World)(b o:Nat)(c:Cp):World:=((w.setCell ⟨b,o,none⟩ (.int .i64 c.1)).setCell ⟨b,o+1,none⟩ (.int .u64 (c.2.1:Int))).setCell ⟨b,o+2,none⟩ (.int .u64 (c.2.2:Int))
theorem jy {S:Nat->Prop}{a:World}(h:ae S a w)(hb:S b)(o:Nat)(c:Cp):ae S a (Gx w b o c) :=
 ((h.setCell (p:=⟨b,o,none⟩) hb _).setCell (p:=⟨b,o+1,none⟩) hb _).setCell (p:=⟨b,o+2,none⟩) hb _
theorem lX (K:List Cp):∀u∈az K,u.oneCell'=true:=λu hu=>by
 unfold az at hu
 obtain⟨x,_,hx⟩:=List.mem_flatMap.1 hu
 exact je x u hx
theorem iG {P:Program}(w:World)(dT sT ty elem:TypeId)(k b o dLen dCap:Nat)(a:Addr)(sLen sCap:Nat)(cs:List Value)
  (hu:P.underlying dT=some (.slice elem)) (hs:(P.info? elem).map (·.size)=some k) (hn:cs.length=Nat.min sLen dLen*k)
  (hsrc:∀j v,cs[j]?=some v->w.cell? (a.add j)=some v) (hc:∀j,j<cs.length->(w.cell? ⟨b,o+j,none⟩).isSome=true) (hf:∀j,j<cs.length->w.frozen? ⟨b,o+j,none⟩=false) (h1:∀v∈cs,v.oneCell'=true) :
  (Builtin.copy_ #[dT,sT] ty #[.slice (some ⟨b,o,none⟩) dLen dCap,.slice (some a) sLen sCap]).run P w=.ok (goInt (Nat.min sLen dLen)) (w.setCells b o cs):=by
 have hl:=run_loadCells_list (P:=P) w a cs hsrc
 have hst:=run_storeCells_cells (P:=P) b o cs 0 w (by simpa using hc) (by simpa using hf) h1
 cases hq:P.info? elem with
 | none=>simp [hq] at hs
 | some i =>
  have hi:i.size=k:=by simpa [hq] using hs
  simp [Builtin.copy_,run_underlying hu,Builtin.lenOf,Builtin.firstCells,sizeOf,typeInfo,hq,hi,<-hn,hl,hst]
theorem gG {P:Program}(w:World)(dT sT ty elem:TypeId)(k:Nat)(d a:Option Addr)(dLen dCap sLen sCap:Nat)(hu:P.underlying dT=some (.slice elem))(hs:(P.info? elem).map (·.size)=some k)(hn:Nat.min sLen dLen=0) :
  (Builtin.copy_ #[dT,sT] ty #[.slice d dLen dCap,.slice a sLen sCap]).run P w=.ok (goInt 0) w:=by
 cases hq:P.info? elem with
 | none=>simp [hq] at hs
 | some i =>
  have hl:∀(x:Addr),(loadCells x 0).run P w=.ok #[] w:=λx=>by simpa using run_loadCells_list (P:=P) w x [] (by simp)
  cases d<;>cases a<;>simp [Builtin.copy_,run_underlying hu,Builtin.lenOf,Builtin.firstCells,sizeOf,typeInfo,hq,hn,storeCells,hl]
theorem mM:(prog.info? 38).map (·.size)=some 3:=by
 obtain⟨i,hi,hz0,hz1,hz2⟩:=info_parts j5
 rw [hi]
 simp [hz1]
theorem nh (w:World)(ty:TypeId)(b o c:Nat)(hc:∀j,j<3->(w.cell? ⟨b,o+j,none⟩).isSome=true)(hf:∀j,j<3->w.frozen? ⟨b,o+j,none⟩=false) :
  (Builtin.clear_ #[57] ty #[.slice (some ⟨b,o,none⟩) 1 c]).run prog w=.ok (.tuple #[]) (w.setCells b o (dq (0,0,0))):=by
 obtain⟨i,hi,hz0,hz1,hz2⟩:=info_parts j5
 have hv:(zeroValue 38).run prog w=.ok (.agg #[.int .i64 0,.int .u64 0,.int .u64 0]) w:=by
  simp [zeroValue,typeInfo,hi,hz0]
 have hst:=run_storeCells_cells (P:=prog) b o (dq (0,0,0)) 0 w (by simpa [dq] using hc) (by simpa [dq] using hf) (je _)
 simp only [Nat.add_zero] at hst
 have hzc:(Builtin.zeroCells (Value.agg #[.int .i64 0,.int .u64 0,.int .u64 0]).cells 1).toList=dq (0,0,0):=by
  simp [Builtin.zeroCells,Value.cells,dq,Array.range]
 simp [Builtin.clear_,run_underlying underlying57,hv,hzc,hst]
def wU (L:List Value):Nat->List Value->List Value
 | _,[]=>L
 | o,v::r=>wU (L.set o v) (o+1) r
theorem ve:∀(vs:List Value) (L:List Value) (o:Nat),o+vs.length<=L.length->wU L o vs=L.take o++vs++L.drop (o+vs.length)
 | [],L,o,h=>by simp [wU]
 | v::r,L,o,h=>by
  rw [wU,ve r _ _ (by simp at h ⊢;omega)]
  simp at h
  rw [List.take_set,List.drop_set_of_lt (by omega)]
  have e:(L.take (o+1)).set o v=L.take o++[v]:=by
   apply List.ext_getElem?
   intro j
   rw [List.getElem?_set]
   rcases Nat.lt_trichotomy j o with h1|h1|h1
   ·rw [if_neg (by omega),List.getElem?_take_of_lt (by omega),List.getElem?_append_left (by simp;omega),List.getElem?_take_of_lt h1]
   ·subst h1
    rw [if_pos rfl,if_pos (by simp;omega),List.getElem?_append_right (by simp;omega)]
    simp
    have:j - min j L.length=0:=by omega
    simp [this]
   ·rw [if_neg (by omega),List.getElem?_eq_none (by simp;omega),List.getElem?_eq_none (by simp;omega)]
  rw [e]
  simp
  congr 1
  omega
theorem _root_.Go.Proofs.YtfmhdimaijimlaaGreatDoor.Ow.setCells {e:TypeId}{cap:Nat}:∀(vs:List Value) (o:Nat) (w:World) (L:List Value),Ow w base e k (some ⟨g,0,none⟩) n cap L->Ow (w.setCells g o vs) base e k (some ⟨g,0,none⟩) n cap (wU L o vs)
 | [],_,_,_,h=>h
 | v::r,o,w,L,h=>Ow.setCells r (o+1) _ _ (h.Jt o v)
theorem _root_.Go.Proofs.YtfmhdimaijimlaaGreatDoor.Ow.shrink {w:World}{base:Nat}{e:TypeId}{k g n cap m:Nat}{L:List Value}(h:Ow w base e k (some ⟨g,0,none⟩) n cap L)(hm:m<=n):Ow w base e k (some ⟨g,0,none⟩) m cap (L.take (m*k)):=by
 have hmk:m*k<=n*k:=Nat.mul_le_mul_right k hm
 refine⟨by rw [List.length_take,h.1];omega,?_⟩
 rcases h.2 with ⟨h1,_⟩|⟨g',c,cur,hv,hb,hh,h2,h3,h4,h5⟩
 ·simp at h1
 ·simp only [Value.slice.injEq,Option.some.injEq,Addr.mk.injEq] at hv
  obtain⟨⟨rfl,_⟩,_,rfl⟩:=hv
  refine .inr ⟨g,cap,cur,rfl,hb,hh,by omega,h3,h4,?_⟩
  rw [<-h5,List.take_take]
  congr 1
  omega
theorem _root_.Go.Proofs.YtfmhdimaijimlaaGreatDoor.Ow.some_ {e:TypeId}{cap:Nat}{L:List Value}(h:Ow w base e k (some ⟨g,0,none⟩) n cap L)(hj:j<n*k):(w.cell? ⟨g,j,none⟩).isSome=true:=by
 have hl:j<L.length:=by rw [h.1];exact hj
 have:=h.rv g rfl j L[j] (gE hl)
 rw [this]
 rfl
theorem _root_.Go.Proofs.YtfmhdimaijimlaaGreatDoor.Ow.fr {e:TypeId}{cap:Nat}{L:List Value}(h:Ow w base e k (some ⟨g,0,none⟩) n cap L)(j:Nat):w.frozen? ⟨g,j,none⟩=false:=by
 rcases h.form with ⟨h1,_⟩|⟨g',h1,h2,_⟩
 ·cases h1
 ·cases h1;exact h2 j
theorem gr (K M:List Cp):az (K++M)=az K++az M:=by simp [az]
theorem bL (K:List Cp):(az K).length=K.length*3:=by
 induction K with
 | nil=>rfl
 | cons a r ih =>
  have e:az (a::r)=dq a++az r:=by simp [az]
  rw [e,List.length_append,ih]
  simp [dq]
  omega
theorem jX:∀(K:List Cp) (i:Nat),(az K).take (i*3)=az (K.take i)
 | [],i=>by simp [az]
 | x::K,0=>by simp [az]
 | x::K,i+1=>by
  have ih:=jX K i
  have e:(i+1)*3=i*3+1+1+1:=by omega
  have e1:∀(y:Cp) (M:List Cp),az (y::M)=.int .i64 y.1::.int .u64 (y.2.1:Int)::.int .u64 (y.2.2:Int)::az M:=λy M=>by simp [az,dq]
  rw [List.take_succ_cons,e1,e1,e,List.take_succ_cons,List.take_succ_cons,List.take_succ_cons,ih]
theorem jN:∀(K:List Cp) (i:Nat),(az K).drop (i*3)=az (K.drop i)
 | [],i=>by simp [az]
 | x::K,0=>by simp [az]
 | x::K,i+1=>by
  have ih:=jN K i
  have e:(i+1)*3=i*3+1+1+1:=by omega
  have e1:∀(y:Cp) (M:List Cp),az (y::M)=.int .i64 y.1::.int .u64 (y.2.1:Int)::.int .u64 (y.2.2:Int)::az M:=λy M=>by simp [az,dq]
  rw [List.drop_succ_cons,e1,e,List.drop_succ_cons,List.drop_succ_cons,List.drop_succ_cons,ih]
theorem gX (K M:List Cp)(i:Nat)(h:i+M.length<=K.length):wU (az K) (i*3) (az M)=az (K.take i++M++K.drop (i+M.length)):=by
 rw [ve _ _ _ (by rw [bL,bL];omega),jX,bL,show i*3+M.length*3=(i+M.length)*3 by omega,jN,gr,gr]
theorem og (w:World)(n:Nat)(hn:n<=1024) :
  ∃w',(Instr.makeSlice 57 (.int .i64 (n:Int)) (.int .i64 (n:Int))).run prog w=.ok (.slice (some ⟨w.heap.size,0,none⟩) n n) w'/\Ow w' w.heap.size 38 3 (some ⟨w.heap.size,0,none⟩) n n (az (List.replicate n (0,0,0)))/\Below w.heap.size w w':=by
 obtain⟨i,hi,hz0,hz1,hz2⟩:=info_parts j5
 obtain⟨w',hr,ho,hg⟩:=run_make_full (P:=prog) w w.heap.size 57 38 i _ 3 underlying57 hi hz0 hz1 .i64 .i64 n (by rw [hz2];omega) (by unfold maxLen;omega) (Nat.le_refl _)
 refine⟨w',hr,?_,(Below.refl _ _).grown hg (Nat.le_refl _) (λk hk=>by cases hk)⟩
 have e:az (List.replicate n (0,0,0))=(madeCells (Value.agg #[.int .i64 0,.int .u64 0,.int .u64 0]).cells (n*3)).toList:=by
  apply List.ext_getElem?
  intro j
  rw [show (madeCells (Value.agg #[.int .i64 0,.int .u64 0,.int .u64 0]).cells (n*3)).toList[j]?=(madeCells (Value.agg #[.int .i64 0,.int .u64 0,.int .u64 0]).cells (n*3))[j]? from Array.getElem?_toList]
  simp only [madeCells,Value.cells]
  rw [Array.getElem?_map,Array.getElem?_range]
  by_cases hj:j<n*3
  ·rw [if_pos hj]
   have hg:=kP (enc:=dq) (k:=3) (λ_=>rfl) (List.replicate n (0,0,0)) (j / 3) (j%3) (0,0,0) (by rw [List.getElem?_replicate,if_pos (by omega)]) (by omega)
   rw [show j / 3*3+j%3=j by omega] at hg
   rw [show (az (List.replicate n (0,0,0)))[j]?=_ from hg]
   have hm:j%3=0\/j%3=1\/j%3=2:=by omega
   simp only [Option.map_some,Array.size,List.length]
   rcases hm with hm|hm|hm<;>rw [hm]<;>simp [dq]
  ·rw [if_neg hj,List.getElem?_eq_none (by rw [bL];simp;omega)]
   rfl
 unfold Ow
 rw [e]
 exact ho
def Ea (a:Option Addr)(m l:Nat):Option Addr:=if m=l then a else a.map (·.add (l*3))
theorem Hz (w:World):(sizeOf 38).run prog w=.ok 3 w:=by
 obtain⟨i,hi,hz0,hz1,hz2⟩:=info_parts j5
 simp [sizeOf,typeInfo,hi,hz1]
theorem uG:prog.underlying 57=some (.slice (prog.elem 57)):=underlying57
theorem Ij:prog.elem 57=38:=by kernel_rfl
theorem oL (w:World)(a:Option Addr)(n c i:Nat)(h:i<=n)(hn:n<=c):(Instr.sliceAt 57 (.slice a n c) (some (.int .i64 (i:Int))) none none).run prog w=.ok (.slice (Ea a c i) (n - i) (c - i)) w:=by
 rw [run_sliceAt_slice _ _ _ _ _ _ uG,run_slice_l _ _ _ _ _ uG _ _ (by omega) (by omega),Ij,Hz]
 rfl
theorem Dj (w:World)(a:Option Addr)(n c i:Nat)(h:i<=c):(Instr.sliceAt 57 (.slice a n c) none (some (.int .i64 (i:Int))) none).run prog w=.ok (.slice a i c) w:=by
 rw [run_sliceAt_slice _ _ _ _ _ _ uG,run_slice_h _ _ _ _ _ uG _ _ (by omega) (by omega),Ij,Hz]
 simp [sliced]
 cases a<;>simp [Addr.add]
theorem below_drewN {W:World}(h:Below n w W)(k:Nat):Below n w (W.drewN k):=⟨h.os,h.tape,h.output,h.size,h.block⟩
structure Dm (w:World)(base g:Nat)(m:Int)(pa:Option Addr)(cap:Nat)(K:List Cp):Prop where
 c0:w.cell? ⟨g,0,none⟩=some (.int .i64 m)
 c1:aq w ⟨g,1,none⟩ (.slice pa K.length cap)
 own:Ow w base 38 3 pa K.length cap (az K)
 ap:∀k,aD pa k->k≠g
 lo:base<=g
variable {w w':World}{base g:Nat}{m:Int}{pa:Option Addr}{cap:Nat}{K:List Cp}
theorem Dm.lt (h:Dm w base g m pa cap K):g<w.heap.size:=World.block_lt_of_cell? _ _ h.c0
theorem Dm.but {S:Nat->Prop}(h:Dm w base g m pa cap K)(hb:ae S w w')(h1:¬S g)(h2:∀k,aD pa k->¬S k):Dm w' base g m pa cap K :=
 ⟨aC hb h.c0 h1,h.c1.but hb h1,h.own.but hb h2,h.ap,h.lo⟩
theorem Dm.later (h:Dm w base g m pa cap K)(hb:Below w.heap.size w w'):Dm w' base g m pa cap K:=h.but (S:=λ_=>False) (ae.of hb) (λh=>h) (λ_ _ h=>h)
theorem Dm.hb (h:Dm w base g m pa cap K):base<=w.heap.size:=by have:=h.lo;have:=h.lt;omega
theorem Dm.rd (h:Dm w base g m pa cap K):Rd w pa K.length K:=h.own.rd rfl
theorem Dm.mono (h:Dm w base g m pa cap K)(hb:b<=base):Dm w b g m pa cap K:=⟨h.c0,h.c1,h.own.mono hb,h.ap,Nat.le_trans hb h.lo⟩
theorem Dm.GN (h:Dm w base g m pa cap K):K.length<=cap:=by
 rcases h.own.form with ⟨_,h1,h2⟩|⟨_,_,_,h1⟩
 ·omega
 ·exact h1
structure Wr (w w':World)(g:Nat)(pa pa':Option Addr):Prop where
 but:ae (λk=>k=g\/aD pa k) w w'
 on:∀k,aD pa' k->aD pa k\/w.heap.size<=k
theorem Wr.below {pa':Option Addr}{u:World}(h:Wr w w' g pa pa')(ho:Dm w base g m pa cap K)(hb:Below base u w):Below base u w' :=
 ⟨h.but.os.trans hb.os,h.but.tape.trans hb.tape,h.but.output.trans hb.output,Nat.le_trans hb.size h.but.size,λk hk=>(h.but.block k (by have:=ho.hb;omega) (λe=>by
  rcases e with e|e
  ·have:=ho.lo;omega
  ·have:=(ho.own.bD k e).1;omega)).trans (hb.block k hk)⟩
theorem Wr.pre {W:World}{pa':Option Addr}(hb:Below w.heap.size w W)(h:Wr W w' g pa pa'):Wr w w' g pa pa' :=
 ⟨(ae.of hb).trans h.but,λk hk=>by
  rcases h.on k hk with e|e
  ·exact .inl e
  ·exact .inr (Nat.le_trans hb.size e)⟩
theorem Dm.put {pb:Option Addr}{c:Nat}{M:List Cp}(h:Dm w base g m pa cap K)(hG:Gr pa pb w w')(ho:Ow w' base 38 3 pb M.length c (az M)):Dm (w'.setCell ⟨g,1,none⟩ (.slice pb M.length c)) base g m pb c M/\Wr w (w'.setCell ⟨g,1,none⟩ (.slice pb M.length c)) g pa pb:=by
 have hn:¬aD pa g:=λe=>h.ap g e rfl
 have hap:∀k,aD pb k->k≠g:=λk hk=>by
  rcases hG.on k hk with e|e
  ·exact h.ap k e
  ·have:=h.lt;omega
 exact⟨⟨by rw [World.cell?_setCell_other _ _ _ _ (by simp)];exact aC hG.but h.c0 hn,(h.c1.but hG.but hn).put,ho.but ((ae.refl (λk=>k=g) w').setCell (p:=⟨g,1,none⟩) rfl _) hap,hap,h.lo⟩,
  (hG.but.mono (λk hk=>.inr hk)).setCell (.inl rfl) _,λk hk=>hG.on k hk⟩
theorem bh {P:Program}{md:Region.Mode}{ops:Array Oper}{Q:Exit->Act->World->Prop}{S:World->Prop}{fuel f2:Nat}{listed l2:Array Bool}{a:Act}(hl:listed=l2)(hf:fuel=f2)(h:wpAnyH P md ops Q S f2 l2 a w):wpAnyH P md ops Q S fuel listed a w:=by
 subst hl hf
 exact h
theorem fO {P:Program}{o:Oper}{a:Act}{K:Act->World->Prop}{Q:Exit->Act->World->Prop}(s x:Operand)(t:TypeId)
  (ho:o.op=.call { callee:=.builtin .append,args:=#[s,x],argTypes:=#[t,t] }) (vs vx:Value) (hs:a.eval s=vs) (hx:a.eval x=vx) (v':Value) (w':World)
  (hr:(Builtin.append_ #[t,t] o.type #[vs,vx]).run P w=.ok v' w') (h:K (a.put o.dst v') w'):o.wp P a w K Q:=by
 unfold Oper.wp execOp
 simp only [ho,resolve,invoke,builtin,Sem.run_bind,Sem.run_pure,Result.andThen_ok,List.map_toArray,List.map_cons,List.map_nil,hs,hx,hr]
 exact h
theorem im {P:Program}{o:Oper}{a:Act}{K:Act->World->Prop}{Q:Exit->Act->World->Prop}(s x:Operand)(t:TypeId)
  (ho:o.op=.call { callee:=.builtin .copy,args:=#[s,x],argTypes:=#[t,t] }) (vs vx:Value) (hs:a.eval s=vs) (hx:a.eval x=vx) (v':Value) (w':World)
  (hr:(Builtin.copy_ #[t,t] o.type #[vs,vx]).run P w=.ok v' w') (h:K (a.put o.dst v') w'):o.wp P a w K Q:=by
 unfold Oper.wp execOp
 simp only [ho,resolve,invoke,builtin,Sem.run_bind,Sem.run_pure,Result.andThen_ok,List.map_toArray,List.map_cons,List.map_nil,hs,hx,hr]
 exact h
theorem jF {P:Program}{ops:Array Oper}{rest:List Oper}{a:Act}{Q:Exit->Act->World->Prop}{d:Option Tmp}{tt:TypeId}{ps:String}{af}{t:TypeId}{x:Operand}{vx v:Value}
  (hr:(Builtin.clear_ #[t] tt #[vx]).run P w=.ok v w') (hx:a.eval x=vx) (h:wpList P ops Q rest (a.put d v) w') :
  wpList P ops Q ({ dst:=d,op:=.call { callee:=.builtin .clear,args:=#[x],argTypes:=#[t] },type:=tt,pos:=ps,after:=af,guard:=none }::rest) a w:=by
 refine wpList_plain rfl λK hK=>?_
 unfold Oper.wp execOp
 simp only [resolve,invoke,builtin,Sem.run_bind,Sem.run_pure,Result.andThen_ok,List.map_toArray,List.map_cons,List.map_nil,hx,hr]
 exact hK _ _ h
def jB (K:List Cp)(i:Int):Bool:=decide (0<=i/\i<(K.length:Int))
theorem kY {i:Int}:jB K i=true↔0<=i/\i<(K.length:Int):=by unfold jB;exact decide_eq_true_iff
theorem aR (h:Dm w base g m pa cap K)(i:Int):Calls prog 168 #[.pointer (some ⟨g,0,none⟩),.int .i64 i] w λe w'=>e=.returned (.bool (jB K i))/\w'=w:=by
 have c1:=h.c1.1
 clear h
 by_cases h1:0<=i
 ·have hd1:decide (i>=0)=true:=dT h1
  by_cases h2:i<(K.length:Int)
  ·have hd2:decide (i<(K.length:Int))=true:=dT h2
   rw [show jB K i=true from kY.2 ⟨h1,h2⟩]
   go_enter func168,ntmps168
   go_wp2
   go_ret
   exact⟨rfl,rfl⟩
  ·have hd2:decide (i<(K.length:Int))=false:=dF h2
   rw [show jB K i=false from dF (λe=>h2 e.2)]
   go_enter func168,ntmps168
   go_wp2
   go_ret
   exact⟨rfl,rfl⟩
 ·have hd1:decide (i>=0)=false:=dF h1
  rw [show jB K i=false from dF (λe=>h1 e.1)]
  go_enter func168,ntmps168
  go_wp2
  go_ret
  exact⟨rfl,rfl⟩
theorem Dm.new (w:World)(m:Int)(t:TypeId):Dm (w.alloc (.cells #[.int .i64 m,.slice none 0 0] t)) w.heap.size w.heap.size m none 0 [] :=
 ⟨by simp [go_sem],⟨by simp [go_sem],by simp [go_sem]⟩,Ow.nil _ _ _ _,λk hk=>(by obtain⟨_,e,_⟩:=hk;cases e),Nat.le_refl _⟩
theorem bE (m:Int)(w:World)(h1:1<=m)(h2:m<=32) :
  Calls prog 90 #[.int .i64 m] w λe w'=>∃g,e=.returned (.tuple #[.pointer (some ⟨g,0,none⟩),.int .i64 0])/\Dm w' w.heap.size g m none 0 []/\Below w.heap.size w w':=by
 have hd1:decide (m<1)=false:=dF (by omega)
 have hd2:decide (m>32)=false:=dF (by omega)
 have HO:=aa (Dm.new w m 220)
 clear h1 h2
 go_enter func90,ntmps90
 go_wp2
 exact bodyPost_ret (v:=.tuple #[.pointer (some ⟨w.heap.size,0,none⟩),.int .i64 0]) (by simp [results,results90,go_sem]) rfl ⟨w.heap.size,rfl,HO.o,ab _ _⟩
variable {w w':World}{base g:Nat}{m:Int}{pa:Option Addr}{cap:Nat}{K:List Cp}
theorem CG (h:Dm w base g m pa cap K)(c:Cp)(hf:m<=(K.length:Int)) :
  Calls prog 91 #[.pointer (some ⟨g,0,none⟩),.agg #[.int .i64 c.1,.int .u64 (c.2.1:Int),.int .u64 (c.2.2:Int)]] w λe w'=>e=.returned (.int .i64 14)/\Below w.heap.size w w':=by
 have hd:decide ((K.length:Int)>=m)=true:=by simp;omega
 have h1:=h.later (ab w (Obj.cells #[.int .i64 c.1,.int .u64 (c.2.1:Int),.int .u64 (c.2.2:Int)] 38))
 have x0:=h1.c0
 have x1:=h1.c1.1
 have HB:=aa (ab w (Obj.cells #[.int .i64 c.1,.int .u64 (c.2.1:Int),.int .u64 (c.2.2:Int)] 38))
 clear h h1 hf
 go_enter func91,ntmps91
 go_upto_region 1 with fail
 go_quiet (fail)
 go_wp2
 go_ret
 exact⟨rfl,below_drewN HB.o _⟩
theorem qK (h:Dm w base g m pa cap K)(c:Cp)(hf:(K.length:Int)<m)(hm:m<=32) :
  Calls prog 91 #[.pointer (some ⟨g,0,none⟩),.agg #[.int .i64 c.1,.int .u64 (c.2.1:Int),.int .u64 (c.2.2:Int)]] w λe w'=>∃pa' cap',e=.returned (.int .i64 0)/\Dm w' base g m pa' cap' (K++[c])/\Wr w w' g pa pa':=by
 have hd:decide ((K.length:Int)>=m)=false:=by simp;omega
 have hL:K.length<=32:=by omega
 have h1:=h.later (ab w (Obj.cells #[.int .i64 c.1,.int .u64 (c.2.1:Int),.int .u64 (c.2.2:Int)] 38))
 have HH:=aa h1
 have x0:=h1.c0
 have x1:=h1.c1.1
 have HB1:=aa (ab w (Obj.cells #[.int .i64 c.1,.int .u64 (c.2.1:Int),.int .u64 (c.2.2:Int)] 38))
 have HX:Hid (wm (w.alloc (Obj.cells #[.int .i64 c.1,.int .u64 (c.2.1:Int),.int .u64 (c.2.2:Int)] 38)) w.heap.size 0 c):=⟨by simp [go_sem],by simp [go_sem],by simp [go_sem]⟩
 have HBL:Hid (∀j,aD pa j->j<w.heap.size):=λj hj=>(h.own.bD j hj).2
 have HGL:=aa h.lt
 clear h h1 hf
 go_enter func91,ntmps91
 go_upto_region 1 with fail
 go_quiet (fail)
 go_upto_region 3 with fail
 have HB3:=aa (below_drewN HB1.o nq)
 have HX3:=aa (HX.o.later (below_drewN (Below.refl _ _) nq))
 have HH3:=aa (HH.o.later (below_drewN (Below.refl _ _) nq))
 obtain⟨cb,hcb⟩:∃cb,cb=w.heap.size:=⟨_,rfl⟩
 rw [<-hcb] at HX3 HBL HGL ⊢
 generalize (w.alloc (Obj.cells #[.int .i64 c.1,.int .u64 (c.2.1:Int),.int .u64 (c.2.2:Int)] 38)).drewN nq=w3 at *
 clear x0 x1 HX HH HB1
 have x1:w3.drew.cell? ⟨g,1,none⟩=some (.slice pa K.length cap):=HH3.o.c1.1
 have hbA:=ab w3 (Obj.cells #[.int .i64 c.1,.int .u64 (c.2.1:Int),.int .u64 (c.2.2:Int)] 38)
 have hBU:Below w3.heap.size w3 (w3.alloc (Obj.cells #[.int .i64 c.1,.int .u64 (c.2.1:Int),.int .u64 (c.2.2:Int)] 38)).drew:=hbA.drew
 have x2:(w3.alloc (Obj.cells #[.int .i64 c.1,.int .u64 (c.2.1:Int),.int .u64 (c.2.2:Int)] 38)).drew.cell? ⟨g,1,none⟩=some (.slice pa K.length cap):=(HH3.o.later hbA).c1.1
 have HS0:=aa (show (w3.drew.cell? ⟨cb,0,none⟩=some (.int .i64 c.1)/\w3.drew.cell? ⟨cb,1,none⟩=some (.int .u64 (c.2.1:Int))/\w3.drew.cell? ⟨cb,2,none⟩=some (.int .u64 (c.2.2:Int))) from ⟨HX3.o.c0,HX3.o.c1,HX3.o.c2⟩)
 have BXU:=HX3.o.later hBU
 have HS1:=aa (And.intro BXU.c0 (And.intro BXU.c1 BXU.c2))
 have hDU:=HH3.o.later hBU
 have hcr:Cr (w3.alloc (Obj.cells #[.int .i64 c.1,.int .u64 (c.2.1:Int),.int .u64 (c.2.2:Int)] 38)).drew 3 (some ⟨w3.heap.size,0,none⟩) 1 1 (dq c):=by have h9:=Cr.lit w3 38 (dq c) (je c);exact⟨h9.len,h9.none_,h9.cells,h9.one⟩
 obtain⟨a',cap',w4,hrun,hO4,hG4⟩:=eY 57 38 _ 3 24 underlying57 j5 rfl (by decide) (by decide) hDU.own hcr hDU.hb (by omega)
 have hnb:¬aD pa cb:=λe=>by have:=HBL.o _ e;omega
 have BXA:=BXU.but hG4.but hnb
 have HSA:=aa (And.intro BXA.c0 (And.intro BXA.c1 BXA.c2))
 have hwg:cb≠g:=by have:=HGL.o;omega
 have BXB:=BXA.but (S:=(·=g)) ((ae.refl (·=g) _).setCell (p:=⟨g,1,none⟩) (show g=g from rfl) (.slice a' (K.length+1) cap')) hwg
 have HSB:=aa (And.intro BXB.c0 (And.intro BXB.c1 BXB.c2))
 have hgn:¬aD pa g:=λe=>hDU.ap g e rfl
 have hL4:=hDU.c1.but hG4.but hgn
 have y1:=hL4.1
 have y2:=hL4.2
 have hfin:Dm (w4.setCell ⟨g,1,none⟩ (.slice a' (K.length+1) cap')) base g m a' cap' (K++[c])/\Wr w (w4.setCell ⟨g,1,none⟩ (.slice a' (K.length+1) cap')) g pa a':=by
  have hlen:(K++[c]).length=K.length+1:=by simp
  have hO5:Ow w4 base 38 3 a' (K++[c]).length cap' (az (K++[c])):=by rw [hlen,oB];exact hO4
  obtain⟨p1,p2⟩:=hDU.put hG4 hO5
  rw [hlen] at p1 p2
  exact⟨p1,Wr.pre (al HB3.o hBU) p2⟩
 have HFIN:=aa hfin
 have HRUN:=aa hrun
 clear hbA hBU BXU hrun hO4 hG4 BXA BXB hL4 HX3 hDU hcr hfin hnb hwg hgn hcb
 refine wp_region_held_drew (S:=(λU:World=>U.cell? ⟨cb,0,none⟩=some (.int .i64 c.1)/\U.cell? ⟨cb,1,none⟩=some (.int .u64 (c.2.1:Int))/\U.cell? ⟨cb,2,none⟩=some (.int .u64 (c.2.2:Int)))) (by kernel_rfl) (HS0.o) (λhHeld=>?_)
 refine nH (bm 11 0) 11 ?_
 refine tH 0 (v:=?_) rfl (λ_ _ _ h=>h) ?_ ?_;rotate_left
 ·(intro w hSw;(try dsimp only at hSw);go_simp;try with_reducible rfl)
 try simp only [gz,Act.put]
 refine nH (bm 11 1) 10 ?_
 refine tH 1 (v:=?_) rfl (λ_ _ _ h=>h) ?_ ?_;rotate_left
 ·(intro w hSw;(try dsimp only at hSw);go_simp;try with_reducible rfl)
 try simp only [gz,Act.put]
 refine nH (bm 11 3) 9 ?_
 refine tH 2 (v:=?_) rfl (λ_ _ _ h=>h) ?_ ?_;rotate_left
 ·(intro w hSw;(try dsimp only at hSw);go_simp;try with_reducible rfl)
 try simp only [gz,Act.put]
 refine nH (bm 11 7) 8 ?_
 refine tH 3 (v:=?_) rfl (λ_ _ _ h=>h) ?_ ?_;rotate_left
 ·(intro w hSw;(try dsimp only at hSw);go_simp;try with_reducible rfl)
 try simp only [gz,Act.put]
 refine nH (bm 11 15) 7 ?_
 refine tH 5 (v:=?_) rfl (λ_ _ _ h=>h) ?_ ?_;rotate_left
 ·(intro w hSw;(try dsimp only at hSw);go_simp;try with_reducible rfl)
 try simp only [gz,Act.put]
 refine nH (bm 11 47) 6 ?_
 refine yH [4,6] ?_
 refine AllReadyH.cons rfl (λK hK=>?_) (AllReadyH.cons rfl (λK hK=>?_) AllReadyH.nil)
 ·go_simp
  refine hK.out _ _ (HS0.o) (λhHeld=>?_)
  clear hK K
  try simp only [gz,Act.put]
  refine nH (bm 11 63) 5 ?_
  refine yH [6] ?_
  refine cH rfl λK hK=>?_
  go_simp
  refine hK.out _ _ (HS1.o) (λhHeld=>?_)
  clear hK K
  try simp only [gz,Act.put]
  refine nH (bm 11 127) 4 ?_
  refine yH [7] ?_
  refine cH rfl λK hK=>?_
  refine fO (.tmp 19) (.tmp 21) 57 rfl _ _ rfl rfl _ w4 HRUN.o ?_
  refine hK.out _ _ (HSA.o) (λhHeld=>?_)
  clear hK K
  try simp only [gz,Act.put]
  refine nH (bm 11 255) 3 ?_
  refine tH 8 (v:=?_) rfl (λ_ _ _ h=>h) ?_ ?_;rotate_left
  ·(intro w hSw;(try dsimp only at hSw);go_simp;try with_reducible rfl)
  try simp only [gz,Act.put]
  refine nH (bm 11 511) 2 ?_
  refine tH 9 (v:=?_) rfl (λ_ _ _ h=>h) ?_ ?_;rotate_left
  ·(intro w hSw;(try dsimp only at hSw);go_simp;try with_reducible rfl)
  try simp only [gz,Act.put]
  refine nH (bm 11 1023) 1 ?_
  refine yH [10] ?_
  refine cH rfl λK hK=>?_
  go_simp
  refine hK.out _ _ (HSB.o) (λhHeld=>?_)
  clear hK K
  try simp only [gz,Act.put]
  refine nH (bm 11 2047) 0 ?_
  refine wpAnyH_done (by kernel_rfl) ?_ _
  go_wp2
  go_ret
  exact⟨a',cap',rfl,HFIN.o.1,HFIN.o.2⟩
 ·go_simp
  refine hK.out _ _ (HS1.o) (λhHeld=>?_)
  clear hK K
  try simp only [gz,Act.put]
  refine nH (bm 11 111) 5 ?_
  refine yH [4] ?_
  refine cH rfl λK hK=>?_
  go_simp
  refine hK.out _ _ (HS1.o) (λhHeld=>?_)
  clear hK K
  try simp only [gz,Act.put]
  refine nH (bm 11 127) 4 ?_
  refine yH [7] ?_
  refine cH rfl λK hK=>?_
  refine fO (.tmp 19) (.tmp 21) 57 rfl _ _ rfl rfl _ w4 HRUN.o ?_
  refine hK.out _ _ (HSA.o) (λhHeld=>?_)
  clear hK K
  try simp only [gz,Act.put]
  refine nH (bm 11 255) 3 ?_
  refine tH 8 (v:=?_) rfl (λ_ _ _ h=>h) ?_ ?_;rotate_left
  ·(intro w hSw;(try dsimp only at hSw);go_simp;try with_reducible rfl)
  try simp only [gz,Act.put]
  refine nH (bm 11 511) 2 ?_
  refine tH 9 (v:=?_) rfl (λ_ _ _ h=>h) ?_ ?_;rotate_left
  ·(intro w hSw;(try dsimp only at hSw);go_simp;try with_reducible rfl)
  try simp only [gz,Act.put]
  refine nH (bm 11 1023) 1 ?_
  refine yH [10] ?_
  refine cH rfl λK hK=>?_
  go_simp
  refine hK.out _ _ (HSB.o) (λhHeld=>?_)
  clear hK K
  try simp only [gz,Act.put]
  refine nH (bm 11 2047) 0 ?_
  refine wpAnyH_done (by kernel_rfl) ?_ _
  go_wp2
  go_ret
  exact⟨a',cap',rfl,HFIN.o.1,HFIN.o.2⟩
variable {w w':World}{base g:Nat}{m:Int}{pa:Option Addr}{cap:Nat}{K:List Cp}
structure Bz (w:World)(b:Nat):Prop where
 c0:aq w ⟨b,0,none⟩ (.int .i64 0)
 c1:aq w ⟨b,1,none⟩ (.int .u64 0)
 c2:aq w ⟨b,2,none⟩ (.int .u64 0)
theorem Bz.new (w:World):Bz (w.alloc (Obj.cells #[.int .i64 0,.int .u64 0,.int .u64 0] 38)) w.heap.size :=
 ⟨⟨by simp [go_sem],by simp [go_sem]⟩,⟨by simp [go_sem],by simp [go_sem]⟩,⟨by simp [go_sem],by simp [go_sem]⟩⟩
theorem Bz.but {S:Nat->Prop}(h:Bz w b)(hb:ae S w w')(hn:¬S b):Bz w' b:=⟨h.c0.but hb hn,h.c1.but hb hn,h.c2.but hb hn⟩
theorem Bz.later (h:Bz w b)(hb:Below w.heap.size w w'):Bz w' b:=h.but (S:=λ_=>False) (ae.of hb) (λh=>h)
theorem _root_.Go.Proofs.YtfmhdimaijimlaaGreatDoor.wm.set {b:Nat}(h:Bz w b)(c:Cp):wm (Gx w b 0 c) b 0 c:=by
 unfold Gx
 have h1:=h.c0.put (u:=.int .i64 c.1)
 have h2:=(h.c1.other (q:=⟨b,0,none⟩) (u:=.int .i64 c.1) (by simp)).put (u:=.int .u64 (c.2.1:Int))
 have h3:=((h.c2.other (q:=⟨b,0,none⟩) (u:=.int .i64 c.1) (by simp)).other (q:=⟨b,1,none⟩) (u:=.int .u64 (c.2.1:Int)) (by simp)).put (u:=.int .u64 (c.2.2:Int))
 exact⟨((h1.other (by simp)).other (by simp)).1,(h2.other (by simp)).1,h3.1⟩
theorem eP (h:Dm w base g m pa cap K)(i:Nat)(c:Cp)(hc:K[i]?=some c) :
  Calls prog 167 #[.pointer (some ⟨g,0,none⟩),.int .i64 (i:Int)] w λe w'=>e=.returned (.tuple #[.agg #[.int .i64 c.1,.int .u64 (c.2.1:Int),.int .u64 (c.2.2:Int)],.int .i64 0])/\Below w.heap.size w w':=by
 have hi:i<K.length:=(gS.1 hc).1
 obtain⟨w0,hw0⟩:∃w0,w0=w.alloc (Obj.cells #[.int .i64 0,.int .u64 0,.int .u64 0] 38):=⟨_,rfl⟩
 have hB0:Below w.heap.size w w0:=by rw [hw0];exact ab _ _
 obtain⟨⟨r0,f0⟩,⟨r1,f1⟩,⟨r2,f2⟩⟩:Bz w0 w.heap.size:=by rw [hw0];exact Bz.new w
 have h0:=h.later hB0
 have hh:=aa (aR h0 (i:Int))
 rw [show jB K (i:Int)=true from kY.2 ⟨by omega,by omega⟩] at hh
 obtain⟨b,o,rfl,hcel⟩:=h0.rd.at_ (by omega)
 obtain⟨x0,x1,x2⟩:=hcel i c hc
 have y1:=h0.c1.1
 have HB:Hid (∀W,ae (·=w.heap.size) w0 W->Below w.heap.size w W):=λW hW=>ae.below hB0 hW (λk e=>by omega)
 clear h h0 hB0 hc hcel
 go_enter func167,ntmps167
 go_upto_region 1 with fail
 rw [<-hw0]
 clear hw0
 go_wp2_with (first|(go_at_call 168;refine hh.out.mono ?_;rintro e w9 ⟨rfl,hw9⟩;obtain rfl:=hw9.symm;clear hw9))
 exact bodyPost_ret (v:=.tuple #[.agg #[.int .i64 c.1,.int .u64 (c.2.1:Int),.int .u64 (c.2.2:Int)],.int .i64 0]) (by simp [results,results167,go_sem,r0,r1,r2]) rfl ⟨rfl,HB.o _ (jy (S:=(·=w.heap.size)) (ae.refl _ _) (b:=w.heap.size) rfl 0 c)⟩
theorem po (h:Dm w base g m pa cap K)(i:Int)(hb:jB K i=false) :
  Calls prog 167 #[.pointer (some ⟨g,0,none⟩),.int .i64 i] w λe w'=>e=.returned (.tuple #[.agg #[.int .i64 0,.int .u64 0,.int .u64 0],.int .i64 15])/\Below w.heap.size w w':=by
 obtain⟨w0,hw0⟩:∃w0,w0=w.alloc (Obj.cells #[.int .i64 0,.int .u64 0,.int .u64 0] 38):=⟨_,rfl⟩
 have hB0:Below w.heap.size w w0:=by rw [hw0];exact ab _ _
 obtain⟨⟨r0,f0⟩,⟨r1,f1⟩,⟨r2,f2⟩⟩:Bz w0 w.heap.size:=by rw [hw0];exact Bz.new w
 have h0:=h.later hB0
 have hh:=aa (aR h0 i)
 rw [hb] at hh
 have y1:=h0.c1.1
 have HB:Hid (∀W,ae (·=w.heap.size) w0 W->Below w.heap.size w W):=λW hW=>ae.below hB0 hW (λk e=>by omega)
 clear h h0 hB0
 go_enter func167,ntmps167
 go_upto_region 1 with fail
 rw [<-hw0]
 clear hw0
 go_wp2_with (first|(go_at_call 168;refine hh.out.mono ?_;rintro e w9 ⟨rfl,hw9⟩;obtain rfl:=hw9.symm;clear hw9))
 exact bodyPost_ret (v:=.tuple #[.agg #[.int .i64 0,.int .u64 0,.int .u64 0],.int .i64 15]) (by simp [results,results167,go_sem,r0,r1,r2]) rfl ⟨rfl,HB.o _ (jy (S:=(·=w.heap.size)) (ae.refl _ _) (b:=w.heap.size) rfl 0 (0,0,0))⟩
variable {w w':World}{base g:Nat}{m:Int}{pa:Option Addr}{cap:Nat}{K:List Cp}
theorem jx {P:Program}{o:Oper}{ρ:Operand->Value}{ty:TypeId}{x:Operand}{lo hi mx:Option Operand}{vx v:Value}{vlo vhi vmx:Option Value}
  (ho:o.op=.slice ty x lo hi mx) (hx:ρ x=vx) (h1:lo.map ρ=vlo) (h2:hi.map ρ=vhi) (h3:mx.map ρ=vmx) (hr:(Instr.sliceAt ty vx vlo vhi vmx).run P w=.ok v w):(execOp ρ o).run P w=.ok (.value v) w:=by
 unfold execOp
 simp only [ho,hx,h1,h2,h3,hr,Sem.run_bind,Sem.run_pure,Result.andThen_ok]
theorem pP (gg c l:Nat)(h:c≠l):Ea (some ⟨gg,0,none⟩) c l=some ⟨gg,l*3,none⟩:=by
 unfold Ea
 rw [if_neg h,Option.map_some,nj]
theorem mf {e:TypeId}{gg:Nat}(h:Ow w base e 3 (some ⟨gg,0,none⟩) n cap (az K))(i:Nat)(j:Nat)(v:Value)(hv:(az (K.drop i))[j]?=some v):w.cell? ((⟨gg,i*3,none⟩:Addr).add j)=some v:=by
 rw [aV]
 refine h.rv gg rfl _ v ?_
 rw [<-jN,List.getElem?_drop] at hv
 exact hv
theorem AA {gg r:Nat}(h:Ow w base 38 3 (some ⟨gg,0,none⟩) (i+r+1) cap (az K))(hl:K.length=i+r+1)(q:Option Addr)(hq:0<r->q=some ⟨gg,(i+1)*3,none⟩)(c2:Nat) :
  ∃w',(Builtin.copy_ #[57,57] 3 #[.slice (some ⟨gg,i*3,none⟩) (r+1) (cap - i),.slice q r c2]).run prog w=.ok (.int .i64 (r:Int)) w'/\ae (·=gg) w w'/\Ow w' base 38 3 (some ⟨gg,0,none⟩) (i+r+1) cap (az (K.take i++K.drop (i+1)++K.drop (i+r))):=by
 by_cases hr:r=0
 ·subst hr
  refine⟨w,gG w 57 57 3 38 3 _ _ _ _ _ _ underlying57 mM (by simp),ae.refl _ _,?_⟩
  rw [List.drop_eq_nil_of_le (show K.length<=i+1 by omega)]
  simpa using h
 ·rw [hq (by omega)]
  have hM:(K.drop (i+1)).length=r:=by rw [List.length_drop];omega
  have hmin:Nat.min r (r+1)=r:=Nat.min_eq_left (by omega)
  have hcl:(az (K.drop (i+1))).length=r*3:=by rw [bL,hM]
  have hrun:=iG (P:=prog) w 57 57 3 38 3 gg (i*3) (r+1) (cap - i) ⟨gg,(i+1)*3,none⟩ r c2 (az (K.drop (i+1))) underlying57 mM (by rw [hcl,hmin]) (λj v hv=>mf h (i+1) j v hv) (λj hj=>h.some_ (by omega)) (λj _=>h.fr _) (lX _)
  rw [hmin] at hrun
  refine⟨_,hrun,ae.setCells (S:=(·=gg)) (b:=gg) (by rfl) _ _ (ae.refl _ _),?_⟩
  have:=Ow.setCells (az (K.drop (i+1))) (i*3) w _ h
  rw [gX _ _ _ (by omega),hM] at this
  exact this
theorem xJ {gg r:Nat}(h:Ow w base 38 3 (some ⟨gg,0,none⟩) (i+r+1) cap (az (K.take i++K.drop (i+1)++K.drop (i+r))))(hl:K.length=i+r+1)(ty:TypeId)(c2:Nat) :
  ∃w',(Builtin.clear_ #[57] ty #[.slice (some ⟨gg,(i+r)*3,none⟩) 1 c2]).run prog w=.ok (.tuple #[]) w'/\ae (·=gg) w w'/\Ow w' base 38 3 (some ⟨gg,0,none⟩) (i+r) cap (az (K.take i++K.drop (i+1))):=by
 refine⟨_,nh w ty gg ((i+r)*3) c2 (λj hj=>h.some_ (by omega)) (λj _=>h.fr _),ae.setCells (S:=(·=gg)) (b:=gg) (by rfl) _ _ (ae.refl _ _),?_⟩
 have h1:=Ow.setCells (dq (0,0,0)) ((i+r)*3) w _ h
 have e0:dq (0,0,0)=az [(0,0,0)]:=by simp [az]
 have hl1:(K.take i++K.drop (i+1)).length=i+r:=by simp;omega
 rw [e0,gX _ _ _ (by simp;omega)] at h1
 have h2:=h1.shrink (m:=i+r) (by omega)
 rw [jX,List.append_assoc,List.take_append_of_le_length (by simp;omega),List.take_take,Nat.min_self,List.take_left' hl1] at h2
 rw [e0]
 exact h2
theorem boxed (hz:Bz w b)(hB:Below b w' w)(c:Cp):Bz (w.alloc (Obj.cells #[.int .i64 c.1,.int .u64 (c.2.1:Int),.int .u64 (c.2.2:Int)] 38)) b/\wm (w.alloc (Obj.cells #[.int .i64 c.1,.int .u64 (c.2.1:Int),.int .u64 (c.2.2:Int)] 38)) w.heap.size 0 c/\Below b w' (w.alloc (Obj.cells #[.int .i64 c.1,.int .u64 (c.2.1:Int),.int .u64 (c.2.2:Int)] 38)):=by
 have hb:=World.block_lt_of_cell? _ _ hz.c0.1
 exact⟨hz.later (ab _ _),⟨by simp [go_sem],by simp [go_sem],by simp [go_sem]⟩,hB.alloc (by simp at hb;omega) _⟩
theorem C7 (h:Dm w base g m pa cap K)(i:Int)(hb:jB K i=false) :
  Calls prog 114 #[.pointer (some ⟨g,0,none⟩),.int .i64 i] w λe w'=>e=.returned (.tuple #[.agg #[.int .i64 0,.int .u64 0,.int .u64 0],.int .i64 15])/\Below w.heap.size w w':=by
 obtain⟨w0,hw0⟩:∃w0,w0=w.alloc (Obj.cells #[.int .i64 0,.int .u64 0,.int .u64 0] 38):=⟨_,rfl⟩
 have hB0:Below w.heap.size w w0:=by rw [hw0];exact ab _ _
 have HZ:Hid (Bz w0 w.heap.size):=by rw [hw0];exact Bz.new w
 have hat:=aa (po (h.later hB0) i hb)
 have HQ:Hid (∀w1,Below w0.heap.size w0 w1->Bz (w1.alloc (Obj.cells #[.int .i64 0,.int .u64 0,.int .u64 0] 38)) w.heap.size/\Below w.heap.size w (w1.alloc (Obj.cells #[.int .i64 0,.int .u64 0,.int .u64 0] 38))):=λw1 hb1=>by
  obtain⟨p1,p2,p3⟩:=boxed (HZ.o.later hb1) (al hB0 hb1) (0,0,0)
  exact⟨p1,p3⟩
 clear h hB0 HZ
 go_enter func114,ntmps114
 go_upto_region 1 with fail
 rw [<-hw0]
 clear hw0
 go_upto_region 2 with (first|(go_at_call 167;refine hat.out.mono ?_;rintro e w1 ⟨rfl,hb1⟩;have HQ1:=aa (HQ.o _ hb1);clear hb1))
 generalize w1.alloc (Obj.cells #[.int .i64 0,.int .u64 0,.int .u64 0] 38)=w3 at *
 obtain⟨⟨⟨r0,f0⟩,⟨r1,f1⟩,⟨r2,f2⟩⟩,HB⟩:=HQ1.o
 have HB3:=aa HB
 clear HB HQ1 HQ hat
 go_wp2
 exact bodyPost_ret (v:=.tuple #[.agg #[.int .i64 0,.int .u64 0,.int .u64 0],.int .i64 15]) (by simp [results,results114,go_sem,r0,r1,r2]) rfl ⟨rfl,ae.below HB3.o (jy (S:=(·=w.heap.size)) (ae.refl _ _) (b:=w.heap.size) rfl 0 (0,0,0)) (λk e=>by omega)⟩
theorem GF (h:Dm w base g m pa cap K)(i:Nat)(c:Cp)(hc:K[i]?=some c)(hL:K.length<=32) :
  Calls prog 114 #[.pointer (some ⟨g,0,none⟩),.int .i64 (i:Int)] w λe w'=>e=.returned (.tuple #[.agg #[.int .i64 c.1,.int .u64 (c.2.1:Int),.int .u64 (c.2.2:Int)],.int .i64 0])/\Dm w' base g m pa cap (K.take i++K.drop (i+1))/\Wr w w' g pa pa:=by
 have hi:i<K.length:=(gS.1 hc).1
 obtain⟨r,hr⟩:∃r,K.length=i+r+1:=⟨K.length - i - 1,by omega⟩
 have hcap:=h.GN
 obtain⟨gg,rfl⟩:∃gg,pa=some ⟨gg,0,none⟩:=by
  rcases h.own.form with ⟨_,h1,_⟩|⟨gg,h1,_⟩
  ·omega
  ·exact⟨gg,h1⟩
 obtain⟨w0,hw0⟩:∃w0,w0=w.alloc (Obj.cells #[.int .i64 0,.int .u64 0,.int .u64 0] 38):=⟨_,rfl⟩
 have hB0:Below w.heap.size w w0:=by rw [hw0];exact ab _ _
 have HZ:Hid (Bz w0 w.heap.size):=by rw [hw0];exact Bz.new w
 have hat:=aa (eP (h.later hB0) i c hc)
 have hgl:=h.lt
 have hggl:=(h.own.bD gg ⟨_,rfl,rfl⟩).2
 have HH:=aa h
 have hlt0:w.heap.size<w0.heap.size:=by rw [hw0];simp
 have HQ:Hid (∀w1,Below w0.heap.size w0 w1->w.heap.size<w1.heap.size/\Bz (w1.alloc (Obj.cells #[.int .i64 c.1,.int .u64 (c.2.1:Int),.int .u64 (c.2.2:Int)] 38)) w.heap.size/\wm (w1.alloc (Obj.cells #[.int .i64 c.1,.int .u64 (c.2.1:Int),.int .u64 (c.2.2:Int)] 38)) w1.heap.size 0 c/\Below w.heap.size w (w1.alloc (Obj.cells #[.int .i64 c.1,.int .u64 (c.2.1:Int),.int .u64 (c.2.2:Int)] 38))):=λw1 hb1=>⟨by have:=hb1.size;omega,boxed (HZ.o.later hb1) (al hB0 hb1) c⟩
 have hs1:=λW=>oL W (some ⟨gg,0,none⟩) (i+r+1) cap i (by omega) (by omega)
 rw [pP _ _ _ (by omega),show i+r+1 - i=r+1 by omega] at hs1
 obtain⟨q,hq⟩:∃q,q=Ea (some ⟨gg,0,none⟩) cap (i+1):=⟨_,rfl⟩
 have hs2:=λW=>oL W (some ⟨gg,0,none⟩) (i+r+1) cap (i+1) (by omega) (by omega)
 rw [<-hq,show i+r+1 - (i+1)=r by omega] at hs2
 rw [show ((i+1:Nat):Int)=(i:Int)+1 by omega] at hs2
 have HQQ:Hid (0<r->q=some ⟨gg,(i+1)*3,none⟩):=λh0=>by rw [hq];exact pP _ _ _ (by omega)
 have hs3:=λW=>oL W (some ⟨gg,0,none⟩) (i+r+1) cap (i+r) (by omega) (by omega)
 rw [pP _ _ _ (by omega),show i+r+1 - (i+r)=1 by omega] at hs3
 simp only [Int.natCast_add] at hs3
 have hs4:=λW=>Dj W (some ⟨gg,0,none⟩) (i+r+1) cap (i+r) (by omega)
 simp only [Int.natCast_add] at hs4
 have HS1:=aa hs1
 have HS2:=aa hs2
 have HS3:=aa hs3
 have HS4:=aa hs4
 have hir:i+r<32:=by omega
 have HR:=aa hr
 clear h hB0 HZ hlt0 hc hq hs1 hs2 hs3 hs4 hr
 go_enter func114,ntmps114
 go_upto_region 1 with fail
 rw [<-hw0]
 clear hw0
 go_upto_region 4 with (first|(go_at_call 167;refine hat.out.mono ?_;rintro e w1 ⟨rfl,hb1⟩;have HQ1:=aa (HQ.o _ hb1);clear hb1))
 generalize w1.alloc (Obj.cells #[.int .i64 c.1,.int .u64 (c.2.1:Int),.int .u64 (c.2.2:Int)] 38)=w3 at *
 obtain⟨b6,hb6⟩:∃b6,b6=w1.heap.size:=⟨_,rfl⟩
 obtain⟨b4,hb4⟩:∃b4,b4=w.heap.size:=⟨_,rfl⟩
 have h3:=HH.o.later HQ1.o.2.2.2
 have HBQ:=aa HQ1.o.2.2.2
 rw [<-hb6] at HQ1 ⊢
 have hb4e:=aa hb4
 rw [<-hb4] at HQ1 hgl hggl ⊢
 have HQ3:=aa HQ1.o
 have hb64:=HQ3.o.1
 have hB6:Hid (b6<w3.heap.size):=by have:=World.block_lt_of_cell? _ _ HQ3.o.2.2.1.c0;exact this
 have HD3:=aa h3
 have HC1:Hid (∀U,ae (·=gg) w3 U->U.cell? ⟨g,1,none⟩=some (.slice (some ⟨gg,0,none⟩) (i+r+1) cap)):=λU hU=>by
  have:=aC hU h3.c1.1 (λe=>h3.ap gg ⟨_,rfl,rfl⟩ e.symm)
  rwa [HR.o] at this
 have HCP:Hid (∃w5,(Builtin.copy_ #[57,57] 3 #[.slice (some ⟨gg,i*3,none⟩) (r+1) (cap - i),.slice q r (cap - (i+1))]).run prog w3.drew=.ok (.int .i64 (r:Int)) w5/\ae (·=gg) w3.drew w5/\Ow w5 base 38 3 (some ⟨gg,0,none⟩) (i+r+1) cap (az (K.take i++K.drop (i+1)++K.drop (i+r)))):=by
  have ho:=(h3.later (Below.refl _ _).drew).own
  rw [HR.o] at ho
  exact AA ho HR.o q HQQ.o _
 have hwr:IntKind.i64.wrap ((i:Int)+(r:Int))=(i:Int)+(r:Int):=by rw [IntKind.wrap_i64];omega
 have hwr1:IntKind.i64.wrap ((i:Int)+1)=(i:Int)+1:=by rw [IntKind.wrap_i64];omega
 obtain⟨w5,hrun,hb5,ho5⟩:=HCP.o
 have HRUN:=aa hrun
 have HB5:=aa (show ae (·=gg) w3 w5 from (ae.of (Below.refl w3.heap.size w3).drew).trans hb5)
 have HO5:=aa ho5
 clear HQ1 h3 hb6 hb4 HQ hat hrun hb5 ho5 HCP HH
 refine wp_region_held_drew (S:=(λU:World=>U.cell? ⟨g,1,none⟩=some (.slice (some ⟨gg,0,none⟩) (i+r+1) cap))) (by kernel_rfl) (HC1.o _ (ae.of (Below.refl _ _).drew)) (λhHeld=>?_)
 refine nH (bm 17 0) 17 ?_
 refine tH 0 (v:=?_) rfl (λ_ _ _ h=>h) ?_ ?_;rotate_left
 ·(intro w hSw;(try dsimp only at hSw);go_simp;try with_reducible rfl)
 try simp only [gz,Act.put]
 refine nH (bm 17 1) 16 ?_
 refine tH 1 (v:=?_) rfl (λ_ _ _ h=>h) ?_ ?_;rotate_left
 ·(intro w hSw;(try dsimp only at hSw);go_simp;try with_reducible rfl)
 try simp only [gz,Act.put]
 refine nH (bm 17 3) 15 ?_
 refine tH 2 (v:=?_) rfl (λ_ _ _ h=>h) ?_ ?_;rotate_left
 ·(intro w hSw;(try dsimp only at hSw);go_simp;try with_reducible rfl)
 try simp only [gz,Act.put]
 refine nH (bm 17 7) 14 ?_
 refine tH 3 (v:=?_) rfl (λ_ _ _ h=>h) ?_ ?_;rotate_left
 ·(intro w hSw;(try dsimp only at hSw);go_simp;try with_reducible rfl)
 try simp only [gz,Act.put]
 refine nH (bm 17 15) 13 ?_
 refine tH 4 (v:=?_) rfl (λ_ _ _ h=>h) ?_ ?_;rotate_left
 ·(intro w hSw;(try dsimp only at hSw);go_simp;try with_reducible rfl)
 try simp only [gz,Act.put]
 refine nH (bm 17 31) 12 ?_
 refine tH 5 (v:=?_) rfl (λ_ _ _ h=>h) ?_ ?_;rotate_left
 ·(intro w hSw;(try dsimp only at hSw);go_simp;try with_reducible rfl)
 try simp only [gz,Act.put]
 refine nH (bm 17 63) 11 ?_
 refine tH 6 (v:=.slice (some ⟨gg,i*3,none⟩) (r+1) (cap - i)) rfl (λ_ _ _ h=>h) ?_ ?_
 ·(intro w hSw;(try dsimp only at hSw);exact jx rfl rfl rfl rfl rfl (HS1.o _))
 try simp only [gz,Act.put]
 refine nH (bm 17 127) 10 ?_
 refine tH 7 (v:=?_) rfl (λ_ _ _ h=>h) ?_ ?_;rotate_left
 ·(intro w hSw;(try dsimp only at hSw);go_simp;try with_reducible rfl)
 try simp only [gz,Act.put]
 refine nH (bm 17 255) 9 ?_
 refine tH 8 (v:=?_) rfl (λ_ _ _ h=>h) ?_ ?_;rotate_left
 ·(intro w hSw;(try dsimp only at hSw);go_simp;try with_reducible rfl)
 try simp only [gz,Act.put]
 refine nH (bm 17 511) 8 ?_
 refine tH 9 (v:=?_) rfl (λ_ _ _ h=>h) ?_ ?_;rotate_left
 ·(intro w hSw;(try dsimp only at hSw);go_simp;try with_reducible rfl)
 try simp only [gz,Act.put]
 refine nH (bm 17 1023) 7 ?_
 refine tH 10 (v:=?_) rfl (λ_ _ _ h=>h) ?_ ?_;rotate_left
 ·(intro w hSw;(try dsimp only at hSw);go_simp;try with_reducible rfl)
 try simp only [gz,Act.put]
 refine nH (bm 17 2047) 6 ?_
 refine tH 11 (v:=?_) rfl (λ_ _ _ h=>h) ?_ ?_;rotate_left
 ·(intro w hSw;(try dsimp only at hSw);go_simp;try with_reducible rfl)
 try simp only [gz,Act.put]
 refine nH (bm 17 4095) 5 ?_
 refine tH 12 (v:=?_) rfl (λ_ _ _ h=>h) ?_ ?_;rotate_left
 ·(intro w hSw;(try dsimp only at hSw);go_simp;try with_reducible rfl)
 try simp only [gz,Act.put]
 refine nH (bm 17 8191) 4 ?_
 refine tH 13 (v:=.slice q r (cap - (i+1))) rfl (λ_ _ _ h=>h) ?_ ?_
 ·(intro w hSw;(try dsimp only at hSw);exact jx rfl rfl rfl rfl rfl (HS2.o _))
 try simp only [gz,Act.put]
 refine nH (bm 17 16383) 3 ?_
 refine yH [14] ?_
 refine cH rfl λK hK=>?_
 refine im (.tmp 25) (.tmp 32) 57 rfl _ _ rfl rfl _ w5 HRUN.o ?_
 refine hK.out _ _ (HC1.o _ HB5.o) (λhHeld=>?_)
 clear hK K
 try simp only [gz,Act.put]
 refine nH (bm 17 32767) 2 ?_
 refine tH 15 (v:=?_) rfl (λ_ _ _ h=>h) ?_ ?_;rotate_left
 ·(intro w hSw;(try dsimp only at hSw);go_simp;try with_reducible rfl)
 try simp only [gz,Act.put]
 refine nH (bm 17 65535) 1 ?_
 refine tH 16 (v:=?_) rfl (λ_ _ _ h=>h) ?_ ?_;rotate_left
 ·(intro w hSw;(try dsimp only at hSw);go_simp;try with_reducible rfl)
 try simp only [gz,Act.put]
 refine nH (bm 17 131071) 0 ?_
 refine wpAnyH_done (by kernel_rfl) ?_ _
 obtain⟨w6,hcl6,hb6,ho6⟩:=xJ HO5.o HR.o 0 (cap - (i+r))
 have HCL:=aa hcl6
 have hB56:=HB5.o.trans hb6
 have y5:=hHeld
 have y6:=HC1.o w6 hB56
 have z6:w6.frozen? ⟨g,1,none⟩=false:=(HD3.o.c1.but hB56 (λe=>HD3.o.ap gg ⟨_,rfl,rfl⟩ e.symm)).2
 have hG:Gr (some ⟨gg,0,none⟩) (some ⟨gg,0,none⟩) w3 w6:=⟨hB56.mono (λk hk=>⟨_,rfl,hk.symm⟩),λk hk=>.inl hk⟩
 have hlen:(K.take i++K.drop (i+1)).length=i+r:=by have:=HR.o;simp;omega
 rw [<-hlen] at ho6
 obtain⟨p1,p2⟩:=HD3.o.put hG ho6
 rw [hlen] at p1 p2
 have hgb:∀k,(k=g\/aD (some ⟨gg,0,none⟩) k)->k<b4:=λk hk=>by
  rcases hk with rfl|⟨_,e,rfl⟩
  ·exact hgl
  ·cases e;exact hggl
 obtain⟨⟨r0,f0⟩,⟨r1,f1⟩,⟨r2,f2⟩⟩:=HQ3.o.2.1.but p2.but (λe=>by have:=hgb _ e;omega)
 obtain⟨x0,x1,x2⟩:=HQ3.o.2.2.1.but p2.but (λe=>by have:=hgb _ e;omega)
 have HFIN:Hid (∀W,ae (·=b4) (w6.setCell ⟨g,1,none⟩ (.slice (some ⟨gg,0,none⟩) (i+r) cap)) W->Dm W base g m (some ⟨gg,0,none⟩) cap (K.take i++K.drop (i+1))/\Wr w W g (some ⟨gg,0,none⟩) (some ⟨gg,0,none⟩)):=λW hW=>by
  refine⟨p1.but hW (by omega) (λk hk e=>by obtain⟨_,e1,e2⟩:=hk;cases e1;simp only at e2;omega),?_,λk hk=>.inl hk⟩
  refine ((ae.of HBQ.o).trans p2.but).comp hW (λk e=>.inr ?_)
  have:=hb4e.out
  omega
 have hne:¬cap=i+r:=by have:=HR.o;omega
 have hcc:(i:Int)+(r:Int)<=(cap:Int):=by have:=HR.o;omega
 clear p1 p2 hG hb6 ho6 hB56 hlen hgb hHeld
 go_wp2_with (first|((with_reducible refine jF HCL.o ?_ ?_);· rfl))
 exact bodyPost_ret (v:=.tuple #[.agg #[.int .i64 c.1,.int .u64 (c.2.1:Int),.int .u64 (c.2.2:Int)],.int .i64 0]) (by simp [results,results114,go_sem,r0,r1,r2]) rfl ⟨rfl,HFIN.o _ (jy (S:=(·=b4)) (ae.refl _ _) (b:=b4) rfl 0 c)⟩
variable {w w':World}{base g:Nat}{m:Int}{pa:Option Addr}{cap:Nat}{K:List Cp}
theorem Ae (h:Dm w base g m pa cap K)(f:Nat)(hf:f<=K.length)(hL:K.length<=32) :
  Calls prog 124 #[.pointer (some ⟨g,0,none⟩),.int .i64 (f:Int),.int .i64 0] w λe w'=>e=.returned (.slice pa 0 0)/\w'=w:=by
 have c1:=h.c1.1
 have hc:=h.GN
 have h1:(f:Int)<=(cap:Int):=by omega
 have hwr:IntKind.i64.wrap (f:Int)=(f:Int):=by rw [IntKind.wrap_i64];omega
 clear h
 go_enter func124,ntmps124
 go_wp2
 go_ret
 exact⟨rfl,rfl⟩
theorem q6 {gg:Nat}(h:Dm w base g m (some ⟨gg,0,none⟩) cap K)(f n:Nat)(hf:f+n<=K.length)(hn:0<n)(hL:K.length<=32) :
  Calls prog 124 #[.pointer (some ⟨g,0,none⟩),.int .i64 (f:Int),.int .i64 (n:Int)] w λe w'=>e=.returned (.slice (some ⟨gg,f*3,none⟩) n n)/\w'=w:=by
 have c1:=h.c1.1
 have hc:=h.GN
 have h1:(f:Int)+(n:Int)<=(cap:Int):=by omega
 have h2:¬n=0:=by omega
 have hwr:IntKind.i64.wrap ((f:Int)+(n:Int))=(f:Int)+(n:Int):=by rw [IntKind.wrap_i64];omega
 clear h
 go_enter func124,ntmps124
 go_wp2
 go_ret
 refine⟨?_,rfl⟩
 show Ending.returned (Value.slice (some ⟨gg,f*3,none⟩) (f+n - f) (f+n - f))=_
 rw [Nat.add_sub_cancel_left]
theorem all_copy {b gg n:Nat}{M:List Cp}(h:Ow w base 38 3 (some ⟨gg,0,none⟩) n cap (az K))(hl:K.length=n)(ho:Ow w b 38 3 (some ⟨b,0,none⟩) n n (az M))(hm:M.length=n) :
  ∃w',(Builtin.copy_ #[57,57] 3 #[.slice (some ⟨b,0,none⟩) n n,.slice (some ⟨gg,0,none⟩) n n]).run prog w=.ok (.int .i64 (n:Int)) w'/\ae (·=b) w w'/\Ow w' b 38 3 (some ⟨b,0,none⟩) n n (az K):=by
 have hmin:Nat.min n n=n:=Nat.min_self n
 have hcl:(az K).length=n*3:=by rw [bL,hl]
 have hrun:=iG (P:=prog) w 57 57 3 38 3 b 0 n n ⟨gg,0,none⟩ n n (az K) underlying57 mM (by rw [hcl,hmin]) (λj v hv=>by rw [nj];exact h.rv gg rfl j v hv) (λj hj=>ho.some_ (by omega)) (λj _=>ho.fr _) (lX _)
 rw [hmin] at hrun
 refine⟨_,hrun,ae.setCells (S:=(·=b)) (b:=b) (by rfl) _ _ (ae.refl _ _),?_⟩
 have:=Ow.setCells (az K) (0*3) w _ ho
 rw [gX _ _ _ (by omega)] at this
 have hd:M.drop K.length=[]:=List.drop_eq_nil_of_le (by omega)
 simpa [hd] using this
theorem ic (h:Dm w base g m pa cap K)(hL:K.length<=32) :
  Calls prog 73 #[.pointer (some ⟨g,0,none⟩)] w λe w'=>∃p c,e=.returned (.slice p K.length c)/\Ow w' w.heap.size 38 3 p K.length c (az K)/\Below w.heap.size w w':=by
 obtain⟨w1,hmk,hO1,hB1⟩:=og w K.length (by omega)
 have h1:=h.later hB1
 have c0:=h.c1.1
 have c1:=h1.c1.1
 obtain⟨b,hb⟩:∃b,b=w.heap.size:=⟨_,rfl⟩
 rw [<-hb] at hmk hO1
 have HBE:=aa hb
 by_cases h0:K.length=0
 ·have hK:K=[]:=List.eq_nil_of_length_eq_zero h0
  subst hK
  simp only [List.length_nil,Int.cast_ofNat_Int] at *
  have hcu:=aa (Ae h1 0 (Nat.le_refl _) (by simp))
  have hrun:=(gG (P:=prog) w1 57 57 3 38 3 (some ⟨b,0,none⟩) pa 0 0 0 0 underlying57 mM (by simp))
  have HO1:=aa hO1
  have HB1:=aa hB1
  clear h h1 hO1 hB1 hb
  go_enter func73,ntmps73
  go_wp2_with (first
   | (go_at_call 124;refine hcu.out.mono ?_;rintro e w9 ⟨rfl,hw9⟩;obtain rfl:=hw9.symm;clear hw9))
  go_ret
  exact⟨_,_,rfl,by rw [<-HBE.o];simpa using HO1.o,HB1.o⟩
 ·obtain⟨gg,rfl⟩:∃gg,pa=some ⟨gg,0,none⟩:=by
   rcases h.own.form with ⟨_,h1,_⟩|⟨gg,h1,_⟩
   ·omega
   ·exact⟨gg,h1⟩
  have hcu:Hid (Calls prog 124 #[.pointer (some ⟨g,0,none⟩),.int .i64 0,.int .i64 (K.length:Int)] w1 λe w'=>e=.returned (.slice (some ⟨gg,0,none⟩) K.length K.length)/\w'=w1):=by
   have:=q6 h1 0 K.length (by omega) (by omega) hL
   rw [Nat.zero_mul] at this
   exact this
  obtain⟨w2,hrun,hb2,hO2⟩:=all_copy (b:=b) h1.own rfl hO1 (by simp)
  have HO2:=aa hO2
  have HB2:=aa (ae.below hB1 hb2 (λk e=>by omega))
  clear h h1 hO1 hB1 hb hb2 hO2
  go_enter func73,ntmps73
  go_wp2_with (first
   | (go_at_call 124;refine hcu.out.mono ?_;rintro e w9 ⟨rfl,hw9⟩;obtain rfl:=hw9.symm;clear hw9))
  go_ret
  exact⟨_,_,rfl,by rw [<-HBE.o];exact HO2.o,HB2.o⟩
variable {w w':World}{base g:Nat}{m:Int}{pa:Option Addr}{cap:Nat}{K:List Cp}
def EV (K:List Cp)(i:Int):Cp:=(K[i.toNat]?).getD (0,0,0)
def bt (m:Int)(K:List Cp)(P:List Int):Int:=if P.all (jB K)=true then (if m<(P.length:Int) then 14 else 0) else 15
def cu (m:Int)(K:List Cp)(P:List Int):List Cp:=if bt m K P=0 then P.map (EV K) else []
theorem rC {P:List Int}(h:P.all (jB K)=false):bt m K P=15/\cu m K P=[]:=by
 have h1:bt m K P=15:=by unfold bt;rw [if_neg (by rw [h];decide)]
 exact⟨h1,by unfold cu;rw [h1,if_neg (by decide)]⟩
theorem xm {P:List Int}(h:P.all (jB K)=true)(hm:m<(P.length:Int)):bt m K P=14/\cu m K P=[]:=by
 have h1:bt m K P=14:=by unfold bt;rw [if_pos h,if_pos hm]
 exact⟨h1,by unfold cu;rw [h1,if_neg (by decide)]⟩
theorem wa {P:List Int}(h:P.all (jB K)=true)(hm:¬m<(P.length:Int)):bt m K P=0/\cu m K P=P.map (EV K):=by
 have h1:bt m K P=0:=by unfold bt;rw [if_pos h,if_neg hm]
 exact⟨h1,by unfold cu;rw [h1,if_pos rfl]⟩
theorem all_false {P:List Int}{x:Int}(hx:P[j]?=some x)(hb:jB K x=false):P.all (jB K)=false:=by
 rw [List.all_eq_false]
 exact⟨x,List.mem_of_getElem? hx,by rw [hb];decide⟩
theorem all_true {P:List Int}(h:∀k,k<P.length->∀x,P[k]?=some x->jB K x=true):P.all (jB K)=true:=by
 rw [List.all_eq_true]
 intro x hx
 obtain⟨k,hk⟩:=List.getElem?_of_mem hx
 exact h k (gS.1 hk).1 x hk
theorem Ao {x:Int}(h:jB K x=true):∃k:Nat,x=(k:Int)/\k<K.length/\K[k]?=some (EV K x):=by
 obtain⟨h1,h2⟩:=kY.1 h
 refine⟨x.toNat,by omega,by omega,?_⟩
 unfold EV
 rw [gE (show x.toNat<K.length by omega)]
 rfl
theorem wT {b gg n nK j x:Nat}{M:List Cp}{c:Cp}(h:Ow w base 38 3 (some ⟨gg,0,none⟩) nK cap (az K))(hc:K[x]?=some c)(ho:Ow w b 38 3 (some ⟨b,0,none⟩) n n (az M))(hm:M.length=n)(hj:j<n) :
  ∃w',(Builtin.copy_ #[57,57] 3 #[.slice (some ⟨b,j*3,none⟩) (n - j) (n - j),.slice (some ⟨gg,x*3,none⟩) 1 1]).run prog w=.ok (.int .i64 1) w'/\ae (·=b) w w'/\Ow w' b 38 3 (some ⟨b,0,none⟩) n n (az (M.set j c)):=by
 have hmin:Nat.min 1 (n - j)=1:=Nat.min_eq_left (by omega)
 have hcl:(az [c]).length=3:=by rw [bL];rfl
 have hrun:=iG (P:=prog) w 57 57 3 38 3 b (j*3) (n - j) (n - j) ⟨gg,x*3,none⟩ 1 1 (az [c]) underlying57 mM (by rw [hcl,hmin]) (λi v hv=>by
  refine mf h x i v ?_
  have e:K.drop x=[c]++K.drop (x+1):=by
   obtain⟨h1,h2⟩:=gS.1 hc
   rw [List.drop_eq_getElem_cons h1,h2]
   rfl
  rw [e,gr,List.getElem?_append_left (gS.1 hv).1]
  exact hv) (λi hi=>ho.some_ (by omega)) (λi _=>ho.fr _) (lX _)
 rw [hmin] at hrun
 refine⟨_,hrun,ae.setCells (S:=(·=b)) (b:=b) (by rfl) _ _ (ae.refl _ _),?_⟩
 have:=Ow.setCells (az [c]) (j*3) w _ ho
 rw [gX _ _ _ (by simp;omega)] at this
 rw [List.set_eq_take_append_cons_drop,if_pos (by omega)]
 simpa using this
def IG (w:World)(K:List Cp)(P:List Int)(t:Value)(w':World):Prop :=
 ∃j:Nat,j<=P.length/\t=.int .i64 (j:Int)/\(∀k,k<j->∀x,P[k]?=some x->jB K x=true)/\w=w'
def Fz (w:World)(b:Nat)(K:List Cp)(P:List Int)(t:Value)(w':World):Prop :=
 ∃(j:Nat) (M:List Cp),j<=P.length/\t=.int .i64 (j:Int)/\M.length=P.length/\(∀k,k<j->∀x,P[k]?=some x->M[k]?=some (EV K x))/\Ow w' b 38 3 (some ⟨b,0,none⟩) P.length P.length (az M)/\Below w.heap.size w w'
theorem mS {np cp:Nat}{P:List Int}(h:Dm w base g m pa cap K)(hP:Row w a np cp (ints P))(hn:np<=9223372036854775807)(hL:K.length<=32)(hm:m<=32) :
  Calls prog 115 #[.pointer (some ⟨g,0,none⟩),.slice a np cp] w λe w'=>∃p c,e=.returned (.tuple #[.slice p (cu m K P).length c,.int .i64 (bt m K P)])/\Ow w' w.heap.size 38 3 p (cu m K P).length c (az (cu m K P))/\Below w.heap.size w w':=by
 have hl:P.length=np:=by have:=hP.len;rwa [qt] at this
 subst hl
 have HH:=aa h
 have HP:=aa hP
 have c0:=h.c0
 have hha:=aa (λi=>aR h i)
 clear h hP
 obtain⟨E,hE⟩:∃E,E=bt m K P:=⟨_,rfl⟩
 obtain⟨L,hLL⟩:∃L,L=cu m K P:=⟨_,rfl⟩
 rw [<-hE,<-hLL]
 have HE:=aa hE
 have HLL:=aa hLL
 clear hE hLL
 go_enter func115,ntmps115
 go_wp2
 go_loopw [13] (IG w K P) (λt _=>P.length - (intOf t).toNat)
 case atStart=>exact⟨0,Nat.zero_le _,rfl,λk hk=>absurd hk (Nat.not_lt_zero _),rfl⟩
 case round =>
  obtain⟨j,hj,rfl,hok,rfl⟩:=hrel
  have HOK:=aa hok
  clear hok
  by_cases hlt:j<P.length
  ·have hd:decide ((j:Int)<(P.length:Int))=true:=dT (by omega)
   obtain⟨b1,o1,rfl,h1⟩:=HP.o.plain (by omega)
   have y1:=h1 j _ (ep P j hlt)
   obtain⟨x,hx⟩:∃x,x=P[j]:=⟨_,rfl⟩
   rw [<-hx] at y1
   have HX:Hid (P[j]?=some x):=by rw [hx];exact gE hlt
   clear h1 hx
   by_cases hb:jB K x=true
   ·have hhx:=aa (hha.out x)
    rw [hb] at hhx
    go_wp2_with (first|(go_at_call 168;refine hhx.out.mono ?_;rintro e w9 ⟨rfl,hw9⟩;obtain rfl:=hw9.symm;clear hw9))
    go_roundw
    case rel =>
     refine⟨j+1,by omega,by go_num,λk hk y hy=>?_,rfl⟩
     rcases Nat.lt_or_ge k j with h3|h3
     ·exact HOK.o k h3 y hy
     ·obtain rfl:k=j:=by omega
      rw [HX.o] at hy
      cases hy
      exact hb
    case measure=>simp [intOf];omega
   ·have hb2:jB K x=false:=by simpa using hb
    have hhx:=aa (hha.out x)
    rw [hb2] at hhx
    obtain⟨e1,e2⟩:=rC (m:=m) (all_false HX.o hb2)
    rw [<-HE.o] at e1
    rw [<-HLL.o] at e2
    subst e1 e2
    go_wp2_with (first|(go_at_call 168;refine hhx.out.mono ?_;rintro e w9 ⟨rfl,hw9⟩;obtain rfl:=hw9.symm;clear hw9))
    exact bodyPost_ret (v:=.tuple #[.slice none 0 0,.int .i64 15]) (by simp [results,results115,go_sem]) rfl ⟨none,0,rfl,Ow.nil _ _ _ _,Below.refl _ _⟩
  ·obtain rfl:j=P.length:=by omega
   have hall:=all_true HOK.o
   have hd:decide ((P.length:Int)<(P.length:Int))=false:=by simp
   by_cases hbig:m<(P.length:Int)
   ·obtain⟨e1,e2⟩:=xm hall hbig
    rw [<-HE.o] at e1
    rw [<-HLL.o] at e2
    subst e1 e2
    have hd2:decide ((P.length:Int)>m)=true:=dT hbig
    go_wp2
    exact bodyPost_ret (v:=.tuple #[.slice none 0 0,.int .i64 14]) (by simp [results,results115,go_sem]) rfl ⟨none,0,rfl,Ow.nil _ _ _ _,Below.refl _ _⟩
   ·obtain⟨e1,e2⟩:=wa hall hbig
    rw [<-HE.o] at e1
    rw [<-HLL.o] at e2
    subst e1 e2
    have hd2:decide ((P.length:Int)>m)=false:=dF hbig
    obtain⟨w1,hmk,hO1,hB1⟩:=og w P.length (by omega)
    obtain⟨b,hbb⟩:∃b,b=w.heap.size:=⟨_,rfl⟩
    rw [<-hbb] at hmk hO1
    have HBE:=aa hbb
    have hPn:P.length<=32:=by omega
    have HAL:=aa hall
    have H0:Hid (Fz w b K P (.int .i64 0) w1):=⟨0,List.replicate P.length (0,0,0),Nat.zero_le _,rfl,by simp,λk hk=>absurd hk (Nat.not_lt_zero _),hO1,hB1⟩
    clear hO1 hB1 hbb hall
    go_upto_region 11 with fail
    go_loopw [34] (Fz w b K P) (λt _=>P.length - (intOf t).toNat)
    case atStart=>exact H0.o
    case round =>
     obtain⟨j,M,hj,rfl,hMl,hM,hO,hB⟩:=hrel
     have HO:=aa hO
     have HB:=aa hB
     have HM:=aa hM
     clear hO hB hM H0 hmk
     by_cases hlt:j<P.length
     ·have hd:decide ((j:Int)<(P.length:Int))=true:=dT (by omega)
      obtain⟨x,hx⟩:∃x,P[j]?=some x:=⟨_,gE hlt⟩
      obtain⟨k,rfl,hk,hkc⟩:=Ao ((List.all_eq_true.1 HAL.o) x (List.mem_of_getElem? hx))
      obtain⟨b1,o1,rfl,h1⟩:=(HP.o.later HB.o).plain (by omega)
      have y1:=h1 j (.int .i64 (k:Int)) (by simp only [ints,List.getElem?_map,hx,Option.map_some])
      have hD:=HH.o.later HB.o
      obtain⟨gg,rfl⟩:∃gg,pa=some ⟨gg,0,none⟩:=by
       rcases hD.own.form with ⟨_,h1,_⟩|⟨gg,h1,_⟩
       ·omega
       ·exact⟨gg,h1⟩
      have hcu:Hid (Calls prog 124 #[.pointer (some ⟨g,0,none⟩),.int .i64 (k:Int),.int .i64 1] wr.drew λe w'=>e=.returned (.slice (some ⟨gg,k*3,none⟩) 1 1)/\w'=wr.drew):=q6 (hD.later (Below.refl _ _).drew) k 1 (by omega) (by omega) hL
      obtain⟨w5,hrun,hb5,ho5⟩:=wT (w:=wr.drew) (hD.later (Below.refl _ _).drew).own hkc (HO.o.later (Below.refl _ _).drew) hMl hlt
      have HRUN:=aa hrun
      have HO5:=aa ho5
      have HB5:Hid (Below w.heap.size w w5):=ae.below (HB.o.trans (Below.refl _ _).drew) hb5 (λk e=>by have:=HBE.o;omega)
      have HX:=aa hx
      have hne:¬P.length=j:=by omega
      clear h1 hD hkc hrun hb5 ho5 hx
      go_upto_region 13 with fail
      go_region_held3 (λU=>True) (first|exact trivial) (first
       | (go_at_call 124;refine hcu.out.mono ?_;rintro e w9 ⟨rfl,hw9⟩;obtain rfl:=hw9.symm;clear hw9)
       | (refine im (.tmp 41) (.tmp 44) 57 rfl _ _ rfl rfl _ w5 HRUN.o ?_))
      go_wp2
      refine⟨⟨j+1,M.set j (EV K (k:Int)),by omega,by go_num,by simp;omega,λi hi y hy=>?_,HO5.o,HB5.o⟩,by simp [intOf];omega⟩
      rw [List.getElem?_set]
      rcases Nat.lt_or_ge i j with h3|h3
      ·rw [if_neg (by omega)]
       exact HM.o i h3 y hy
      ·obtain rfl:i=j:=by omega
       rw [HX.o] at hy
       cases hy
       rw [if_pos rfl,if_pos (by omega)]
     ·obtain rfl:j=P.length:=by omega
      have hML:M=P.map (EV K):=by
       apply List.ext_getElem?
       intro i
       rcases Nat.lt_or_ge i P.length with h3|h3
       ·rw [HM.o i h3 P[i] (gE h3),List.getElem?_map,gE h3]
        rfl
       ·rw [List.getElem?_eq_none (by omega),List.getElem?_eq_none (by simp;omega)]
      subst hML
      have HLE:Hid ((P.map (EV K)).length=P.length):=by simp [Hid]
      go_wp2
      refine bodyPost_ret (v:=.tuple #[.slice (some ⟨b,0,none⟩) P.length P.length,.int .i64 0]) (by simp [results,results115,go_sem]) rfl ⟨some ⟨b,0,none⟩,P.length,by rw [HLE.o],?_,HB.o⟩
      rw [HLE.o,<-HBE.o]
      exact HO.o
end Go.Proofs.YtfmhdimaijimlaaGreatDoor.M
namespace Go.Proofs.YtfmhdimaijimlaaGreatDoor.P
open Go.RowKit
theorem below_drewN {W:World}(h:Below n w W)(k:Nat):Below n w (W.drewN k):=by
 exact⟨h.os,h.tape,h.output,h.size,h.block⟩
end Go.Proofs.YtfmhdimaijimlaaGreatDoor.P
