import Derived.Test.YtffmodpgddecnaaGreatZ02
set_option linter.unusedVariables false
set_option linter.unusedSimpArgs false
namespace Go.Proofs.YtffmodpgddecnaaGreat.R
open Go.RowKit
def i64s (l:List Int):List Value:=l.map fun n=>Value.int .i64 n
theorem i64s_length (l:List Int):(i64s l).length=l.length:=by simp [i64s]
theorem i64s_get (l:List Int)(i:Nat)(h:i<l.length):(i64s l)[i]?=some (.int .i64 l[i]):=by simp [i64s,h]
structure RI (w:World)(a:Option Addr)(n cap:Nat)(L:List Int):Prop where
 len:L.length=n
 cap_:n≤cap
 none_:a=none→n=0∧cap=0
 cells:∀x,a=some x→∀j u,(i64s L)[j]?=some u→w.cell? (x.add j)=some u
theorem RI.later {W w1:World}{a:Option Addr}{n cap:Nat}{L:List Int}(hb:Below W.heap.size W w1)(h:RI W a n cap L):RI w1 a n cap L :=
 ⟨h.len,h.cap_,h.none_,fun x hx j u hu=>cell_later hb (h.cells x hx j u hu)⟩
theorem RI.nil (w:World):RI w none 0 0 []:=⟨rfl,Nat.le_refl _,fun _=>⟨rfl,rfl⟩,fun _ h=>(by cases h)⟩
theorem RI.plain {w:World}{a:Option Addr}{n cap:Nat}{L:List Int}(h:RI w a n cap L)(hl:0<n):∃b o,a=some ⟨b,o,none⟩∧∀i (hi:i<L.length),w.cell? ⟨b,o+i,none⟩=some (.int .i64 L[i]):=by
 cases a with
 | none=>have:=h.none_ rfl;omega
 | some x =>
  obtain⟨b,o,spot⟩:=x
  have hlen:=h.len
  have h0:=h.cells _ rfl 0 _ (i64s_get L 0 (by omega))
  have hs:spot=none:=by simpa [Addr.add] using World.cell?_spot h0
  subst hs
  refine⟨b,o,rfl,fun i hi=>?_⟩
  have:=h.cells _ rfl i _ (i64s_get L i hi)
  rw [addr_add] at this
  exact this
theorem RI.at {w:World}{b o n cap:Nat}{L:List Int}(hl:L.length=n)(hc:n≤cap)(h:∀i (hi:i<L.length),w.cell? ⟨b,o+i,none⟩=some (.int .i64 L[i])):RI w (some ⟨b,o,none⟩) n cap L:=by
 refine⟨hl,hc,fun h=>(by cases h),fun x hx j u hu=>?_⟩
 cases hx
 rw [addr_add]
 have hj:j<L.length:=by have:=(List.getElem?_eq_some_iff.1 hu).1;rwa [i64s_length] at this
 rw [i64s_get L j hj] at hu
 cases hu
 exact h j hj
theorem RI.one (w:World)(b:Int):RI (w.alloc (Obj.cells #[Value.int .i64 b] 3)) (some ⟨w.heap.size,0,.none⟩) 1 1 [b] :=
 RI.at (L:=[b]) rfl (Nat.le_refl _) (fun i hi=>by
  have:i=0:=by simp at hi;omega
  subst this
  simp [go_sem])
structure Sl where
 a:Option Addr
 n:Nat
 c:Nat
abbrev Sl.v (s:Sl):Value:=.slice s.a s.n s.c
abbrev Sl.nil:Sl:=⟨none,0,0⟩
def cC (c:Cl)(d g:Sl):List Value:=[.int .i64 c.op,.int .i64 c.by_,.int .i64 c.size,.int .i64 c.obj,.int .u64 (c.hi:Int),.int .u64 (c.lo:Int),.bool c.given,.int .i64 c.rights,.int .i64 c.off,.int .i64 c.n,d.v,.int .i64 c.index,g.v]
structure Is (w:World)(c:Cl)(d g:Sl):Prop where
 data:Row w d.a d.n d.c c.data
 gifts:RI w g.a g.n g.c c.gifts
 hi:c.hi<18446744073709551616
 lo:c.lo<18446744073709551616
theorem Is.later {W w1:World}{c:Cl}{d g:Sl}(hb:Below W.heap.size W w1)(h:Is W c d g):Is w1 c d g:=⟨h.data.later hb,h.gifts.later hb,h.hi,h.lo⟩
end Go.Proofs.YtffmodpgddecnaaGreat.R
namespace Go.Proofs.YtffmodpgddecnaaGreat.R
open Go.RowKit
end Go.Proofs.YtffmodpgddecnaaGreat.R
namespace Go.Proofs.YtffmodpgddecnaaGreat.R
open Go.RowKit
theorem rangeAt_new (W:World)(cs:List Value)(t:TypeId):(W.alloc (.cells cs.toArray t)).rangeAt W.heap.size 0 cs:=by
 intro j v hv
 have hj:=(List.getElem?_eq_some_iff.1 hv)
 simp [go_sem,hv]
def wd (p:Nat)(d:Sl):Sl:=if p=7 then Sl.nil else d
def wg (p:Nat)(g:Sl):Sl:=if p=9 then Sl.nil else g
theorem Is.wo {w:World}{c:Cl}{d g:Sl}(h:Is w c d g)(p:Nat):Is w (wo c p) (wd p d) (wg p g):=by
 obtain⟨op,by_,size,obj,hi,lo,given,rights,off,n,data,index,gifts⟩:=c
 unfold R.wo wd wg mv
 repeat' split
 all_goals first
  | omega
  | exact⟨h.1,h.2,h.3,h.4⟩
  | exact⟨h.1,h.2,(by show (0:Nat)<18446744073709551616;omega),(by show (0:Nat)<18446744073709551616;omega)⟩
  | exact⟨row_nil _,h.2,h.3,h.4⟩
  | exact⟨h.1,RI.nil _,h.3,h.4⟩
end Go.Proofs.YtffmodpgddecnaaGreat.R
namespace Go.Proofs.YtffmodpgddecnaaGreat.R
open Go.RowKit
theorem ld_arm {P:Program}{w:World}{ops:Array Oper}{rest:List Oper}{a:Act}{Q:Exit→Act→World→Prop}{d:Option Tmp}{tt:TypeId}{ps:String}{af}{ty:TypeId}{x:Operand}{p v:Value}
  (hr:(Instr.loadAt ty p).run P w=.ok v w) (hx:a.eval x=p) (h:wpList P ops Q rest (a.put d v) w) :
  wpList P ops Q ({ dst:=d,op:=.load ty x,type:=tt,pos:=ps,after:=af,guard:=none }::rest) a w:=by
 refine wpList_plain rfl fun K hK=>?_
 unfold Oper.wp execOp
 simp only [hx,hr,Sem.run_bind,Sem.run_pure,Result.andThen_ok]
 exact hK _ _ h
theorem info45:(Tryz.prog.info? 45).map (·.size)=some 13:=by kernel_rfl
theorem lv41 {w:World}{b o:Nat}{L:List Value}(h:w.rangeAt b o L)(hl:L.length=13):(loadVar 45 ⟨b,o,none⟩).run Tryz.prog w=.ok (.agg L.toArray) w :=
 run_loadVar_mid w b o 45 L _ h Tryz.underlying45 rfl (by rw [info45,hl])
structure Bx (w:World)(b:Nat)(L:List Value):Prop where
 range:w.rangeAt b 0 L
 there:w.there b 0 L.length
theorem Bx.but {S:Nat→Prop}{w w':World}{b:Nat}{L:List Value}(hb:But S w w')(h:Bx w b L)(hn:¬S b):Bx w' b L:=by
 refine⟨fun j v hv=>?_,fun j hj=>?_⟩
 ·have hc:=h.range j v hv
  have hk:=hb.block b (World.block_lt_of_cell? _ _ hc) hn
  rw [World.cell?_of_block (w:=w) hk]
  exact hc
 ·obtain⟨h1,h2⟩:=h.there j hj
  obtain⟨v,hv⟩:=Option.isSome_iff_exists.1 h1
  have hk:=hb.block b (World.block_lt_of_cell? _ _ hv) hn
  exact⟨by rw [World.cell?_of_block (w:=w) hk];exact h1,by rw [World.frozen?_of_block hk];exact h2⟩
theorem Bx.later {w w':World}{b:Nat}{L:List Value}(hb:Below w.heap.size w w')(h:Bx w b L):Bx w' b L:=h.but (S:=fun _=>False) (But.of hb) (fun h=>h)
theorem Bx.new (w:World)(L:List Value)(t:TypeId):Bx (w.alloc (.cells L.toArray t)) w.heap.size L:=by
 refine⟨rangeAt_new w L t,fun j hj=>⟨?_,?_⟩⟩
 ·rw [rangeAt_new w L t j L[j] (by simp [hj])];rfl
 ·simp [go_sem]
theorem setCells_but {S:Nat→Prop}{b:Nat}(hb:S b):∀(vs:List Value) (o:Nat) {a w:World},But S a w→But S a (w.setCells b o vs)
 | [],_,_,_,h=>h
 | v::r,o,a,w,h=>by rw [World.setCells];exact setCells_but hb r (o+1) (h.setCell hb _)
theorem frozen_setCells (b:Nat)(x:Addr):∀(vs:List Value) (o:Nat) (w:World),(w.setCells b o vs).frozen? x=w.frozen? x
 | [],_,_=>rfl
 | v::r,o,w=>by rw [World.setCells,frozen_setCells b x r];simp
theorem Bx.set {w:World}{b:Nat}{L M:List Value}(h:Bx w b L)(hl:M.length=L.length):Bx (w.setCells b 0 M) b M:=by
 refine⟨World.rangeAt_setCells_same _ _ _ _ (hl ▸ h.there),fun j hj=>?_⟩
 obtain⟨h1,h2⟩:=h.there j (by omega)
 exact⟨World.isSome_setCells _ _ _ _ _ h1,by rw [frozen_setCells];exact h2⟩
theorem Bx.lt {w:World}{b:Nat}{L:List Value}(h:Bx w b L)(hl:0<L.length):b<w.heap.size:=by
 obtain⟨h1,_⟩:=h.there 0 hl
 obtain⟨v,hv⟩:=Option.isSome_iff_exists.1 h1
 exact World.block_lt_of_cell? _ _ hv
theorem Bx.cell {w:World}{b:Nat}{L:List Value}(h:Bx w b L)(j:Nat){v:Value}(hv:L[j]?=some v):w.cell? ⟨b,j,none⟩=some v:=by
 have:=h.range j v hv
 rwa [Nat.zero_add] at this
theorem stc {w:World}{b o n:Nat}{L:List Value}(h:w.there b o n)(hl:L.length=n)(h1:∀v∈L,v.oneCell'=true):(storeCells ⟨b,o,none⟩ L).run Tryz.prog w=.ok () (w.setCells b o L) :=
 run_storeCells_cells (P:=Tryz.prog) b o L 0 w (fun j hj=>by rw [Nat.add_zero];exact (h j (by omega)).1) (fun j hj=>by rw [Nat.add_zero];exact (h j (by omega)).2) h1
end Go.Proofs.YtffmodpgddecnaaGreat.R
namespace Go.Proofs.YtffmodpgddecnaaGreat.R
open Go.RowKit
end Go.Proofs.YtffmodpgddecnaaGreat.R
namespace Go.Proofs.YtffmodpgddecnaaGreat.R
open Go.RowKit
end Go.Proofs.YtffmodpgddecnaaGreat.R
namespace Go.Proofs.YtffmodpgddecnaaGreat.R
open Go.RowKit
def wEq (b c e f:Int):Bool:=decide (b=e∧c=f)
theorem eqlW (b c e f:Int)(w:World):(binOp .eql 36 (.agg #[.int .u64 b,.int .u64 c]) (.agg #[.int .u64 e,.int .u64 f])).run Tryz.prog w=.ok (.bool (wEq b c e f)) w:=by
 unfold wEq
 by_cases h2:b=e
 ·subst h2
  by_cases h3:c=f
  ·subst h3;simp [go_sem]
  ·simp [go_sem,h3]
 ·simp [go_sem,h2]
end Go.Proofs.YtffmodpgddecnaaGreat.R
namespace Go.Proofs.YtffmodpgddecnaaGreat.R.W
end Go.Proofs.YtffmodpgddecnaaGreat.R.W
namespace Go.Proofs.YtffmodpgddecnaaGreat.R.W
open Go.RowKit
end Go.Proofs.YtffmodpgddecnaaGreat.R.W
namespace Go.Proofs.YtffmodpgddecnaaGreat.R.W
open Go.RowKit
end Go.Proofs.YtffmodpgddecnaaGreat.R.W
namespace Go.Proofs.YtffmodpgddecnaaGreat.R.W
open Go.RowKit
theorem _root_.Go.Proofs.YtffmodpgddecnaaGreat.Lies.setCell {w:World}{p q:Addr}{u v:Value}(h:Lies w p v):∃v',Lies (w.setCell q u) p v':=by
 obtain⟨v',hv'⟩:=cell?_setCell_some (w:=w) (p:=q) (x:=u) (q:=p) (v:=v) h.1
 exact⟨v',hv',by rw [World.frozen?_setCell];exact h.2⟩
theorem _root_.Go.Proofs.YtffmodpgddecnaaGreat.Lies.drew {w:World}{p:Addr}{v:Value}(h:Lies w p v):Lies w.drew p v:=h
end Go.Proofs.YtffmodpgddecnaaGreat.R.W
namespace Go.Proofs.YtffmodpgddecnaaGreat.R.W
open Go.RowKit
end Go.Proofs.YtffmodpgddecnaaGreat.R.W
