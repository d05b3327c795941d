import Derived.Maps.Keyed
import Derived.MapKept
import Derived.DeepKeys4
import Derived.ProofKit
import Derived.Test.YtmhinfbkmjdgfaaGreatDoorZ13
set_option linter.unusedVariables false
set_option linter.unusedSimpArgs false
set_option maxRecDepth 100000
set_option maxHeartbeats 4000000
namespace Go.Proofs.YtmhinfbkmjdgfaaGreatDoor.B
def wi (n a b:Int):Bool:=decide (a<=n)&&decide (n<=b)
theorem cU {n a b:Int}:wi n a b=true↔a<=n/\n<=b:=by simp [wi]
end Go.Proofs.YtmhinfbkmjdgfaaGreatDoor.B
namespace Go.Proofs.YtmhinfbkmjdgfaaGreatDoor.B
end Go.Proofs.YtmhinfbkmjdgfaaGreatDoor.B
namespace Go.Proofs.YtmhinfbkmjdgfaaGreatDoor.B
open Go.RowKit
variable {L:List Int}{cap n:Nat}{a:Option Addr}{w:World}
def iW (l:List Int):List Value:=l.map λn=>Value.int .i64 n
theorem eQ (l:List Int):(iW l).length=l.length:=by simp [iW]
theorem dH (l:List Int)(i:Nat)(h:i<l.length):(iW l)[i]?=some (ab l[i]):=by simp [iW,h]
structure RI (w:World)(a:Option Addr)(n cap:Nat)(L:List Int):Prop where
 len:L.length=n
 cap_:n<=cap
 none_:a=none->n=0/\cap=0
 cells:∀x,a=some x->∀j u,(iW L)[j]?=some u->w.cell? (x.add j)=some u
theorem RI.later {W w1:World}(hb:Below W.heap.size W w1)(h:RI W a n cap L):RI w1 a n cap L :=
 ⟨h.len,h.cap_,h.none_,λx hx j u hu=>cell_later hb (h.cells x hx j u hu)⟩
theorem RI.nil (w:World):RI w none 0 0 []:=⟨rfl,Nat.le_refl _,λ_=>⟨rfl,rfl⟩,λ_ h=>(by cases h)⟩
theorem RI.plain (h:RI w a n cap L)(hl:0<n):∃b o,a=some ⟨b,o,none⟩/\∀i (hi:i<L.length),w.cell? ⟨b,o+i,none⟩=some (ab L[i]):=by
 cases a with
 | none=>have:=h.none_ rfl;omega
 | some x =>
  obtain⟨b,o,spot⟩:=x
  have hlen:=h.len
  have h0:=h.cells _ rfl 0 _ (dH L 0 (by omega))
  have hs:spot=none:=by simpa [Addr.add] using World.cell?_spot h0
  subst hs;refine⟨b,o,rfl,λi hi=>?_⟩
  have:=h.cells _ rfl i _ (dH L i hi)
  rw [bq] at this;exact this
theorem RI.at {b o:Nat}(hl:L.length=n)(hc:n<=cap)(h:∀i (hi:i<L.length),w.cell? ⟨b,o+i,none⟩=some (ab L[i])):RI w (some ⟨b,o,none⟩) n cap L:=by
 refine⟨hl,hc,λh=>(by cases h),λx hx j u hu=>?_⟩
 cases hx
 rw [bq];have hj:j<L.length:=by have:=(List.getElem?_eq_some_iff.1 hu).1;rwa [eQ] at this
 rw [dH L j hj] at hu;cases hu
 exact h j hj
structure Sl where
 a:Option Addr
 n:Nat
 c:Nat
abbrev Sl.v (s:Sl):Value:=.slice s.a s.n s.c
abbrev Sl.nil:Sl:=⟨none,0,0⟩
end Go.Proofs.YtmhinfbkmjdgfaaGreatDoor.B
namespace Go.Proofs.YtmhinfbkmjdgfaaGreatDoor.B
open Go.RowKit
theorem aK (n a b:Int)(w:World):Calls Tryz.prog 211 #[ab n,ab a,ab b] w λe w'=>e=.returned (.bool (wi n a b))/\w'=w:=by
 by_cases h1:a<=n
 ·have d1:decide (a<=n)=true:=decide_eq_true h1
  have e1:wi n a b=decide (n<=b):=by unfold wi;rw [d1,Bool.true_and]
  rw [e1];clear e1;go_enter Tryz.func211,Tryz.ntmps211
  go_wp2;go_ret;exact⟨rfl,rfl⟩
 ·have d1:decide (a<=n)=false:=decide_eq_false h1
  have e1:wi n a b=false:=by unfold wi;rw [d1,Bool.false_and]
  rw [e1];clear e1;go_enter Tryz.func211,Tryz.ntmps211
  go_wp2;go_ret;exact⟨rfl,rfl⟩
end Go.Proofs.YtmhinfbkmjdgfaaGreatDoor.B
namespace Go.Proofs.YtmhinfbkmjdgfaaGreatDoor.B
open Go.RowKit
end Go.Proofs.YtmhinfbkmjdgfaaGreatDoor.B
namespace Go.Proofs.YtmhinfbkmjdgfaaGreatDoor.B
open Go.RowKit
def mB (a b c d e f:Int):Bool:=decide (a=d/\b=e/\c=f)
theorem pN (a b c d e f:Int)(w:World):(binOp .eql 37 (.agg #[ab a,ai b,ai c]) (.agg #[ab d,ai e,ai f])).run Tryz.prog w=.ok (.bool (mB a b c d e f)) w:=by
 unfold mB;by_cases h1:a=d
 ·subst h1
  by_cases h2:b=e
  ·subst h2
   by_cases h3:c=f
   ·subst h3;simp [go_sem]
   ·simp [go_sem,h3]
  ·simp [go_sem,h2]
 ·simp [go_sem,h1]
end Go.Proofs.YtmhinfbkmjdgfaaGreatDoor.B
namespace Go.Proofs.YtmhinfbkmjdgfaaGreatDoor.B
open Go.RowKit
end Go.Proofs.YtmhinfbkmjdgfaaGreatDoor.B
namespace Go.Proofs.YtmhinfbkmjdgfaaGreatDoor.B
open Go.RowKit
theorem bA (W:World)(cs:List Value)(t:TypeId):(W.alloc (.cells cs.toArray t)).rangeAt W.heap.size 0 cs:=by
 intro j v hv;have hj:=(List.getElem?_eq_some_iff.1 hv)
 simp [go_sem,hv]
theorem lQ (W:World)(b:Nat)(cs:List Value)(hb:b=W.heap.size)(hl:cs.length=6):(loadVar 40 ⟨b,0,none⟩).run Tryz.prog (W.alloc (.cells cs.toArray 40))=.ok (.agg cs.toArray) (W.alloc (.cells cs.toArray 40)):=by
 subst hb;exact run_loadVar_mid (P:=Tryz.prog) _ _ 0 40 cs _ (bA W cs 40) Tryz.underlying40 rfl (by rw [hl];kernel_rfl)
end Go.Proofs.YtmhinfbkmjdgfaaGreatDoor.B
namespace Go.Proofs.YtmhinfbkmjdgfaaGreatDoor.B
open Go.RowKit
variable {a:Act}{ops:Array Oper}{Q:Exit->Act->World->Prop}{rest:List Oper}{L:List Value}{b:Nat}{S:Nat->Prop}{P:Program}{ps:String}{tt ty:TypeId}{p v:Value}{w w':World}
theorem ae {p:Prop}(h:p):Hid p:=h
theorem aJ {d:Option Tmp}{af}{x:Operand}
  (hr:(Instr.loadAt ty p).run P w=.ok v w) (hx:a.eval x=p) (h:wpList P ops Q rest (a.put d v) w) :
  wpList P ops Q ({ dst:=d,op:=.load ty x,type:=tt,pos:=ps,after:=af,guard:=none }::rest) a w:=by
 refine wpList_plain rfl λK hK=>?_
 unfold Oper.wp execOp;simp only [hx,hr,Sem.run_bind,Sem.run_pure,Result.andThen_ok];exact hK _ _ h
theorem eP {d:Option Tmp}{af}{gd}{x:Operand}
  (hr:(Instr.loadAt ty p).run P w=.ok v w) (hx:a.eval x=p) (hw:Region.wanted { dst:=d,op:=.load ty x,type:=tt,pos:=ps,after:=af,guard:=gd } (yielded ops a.tmps)=true) (h:wpList P ops Q rest (a.put d v) w) :
  wpList P ops Q ({ dst:=d,op:=.load ty x,type:=tt,pos:=ps,after:=af,guard:=gd }::rest) a w:=by
 refine wpList_step λK hK=>?_
 rw [if_pos hw];unfold Oper.wp execOp;simp only [hx,hr,Sem.run_bind,Sem.run_pure,Result.andThen_ok];exact hK _ _ h
theorem a_ {d:Option Tmp}{af}{x y:Operand}
  (hr:(Instr.storeAt ty p v).run P w=.ok () w') (hx:a.eval x=p) (hy:a.eval y=v) (h:wpList P ops Q rest (a.put d undef) w') :
  wpList P ops Q ({ dst:=d,op:=.store ty x y,type:=tt,pos:=ps,after:=af,guard:=none }::rest) a w:=by
 refine wpList_plain rfl λK hK=>?_
 unfold Oper.wp execOp;simp only [hx,hy,hr,Sem.run_bind,Sem.run_pure,Result.andThen_ok];exact hK _ _ h
theorem FI:(Tryz.prog.info? 40).map (·.size)=some 6:=by kernel_rfl
theorem yh {o:Nat}(h:w.rangeAt b o L)(hl:L.length=6):(Instr.loadAt 40 (.pointer (some ⟨b,o,none⟩))).run Tryz.prog w=.ok (.agg L.toArray) w :=
 run_loadAt_mid w b o 40 L _ h Tryz.underlying40 rfl (by rw [FI,hl])
structure Bx (w:World)(b:Nat)(L:List Value):Prop where
 range:w.rangeAt b 0 L
 there:w.there b 0 L.length
theorem Bx.but (hb:aj S w w')(h:Bx w b L)(hn:¬S b):Bx w' b L:=by
 refine⟨λj v hv=>?_,λj hj=>?_⟩
 ·have hc:=h.range j v hv
  have hk:=hb.block b (World.block_lt_of_cell? _ _ hc) hn
  rw [World.cell?_of_block (w:=w) hk];exact hc
 ·obtain⟨h1,h2⟩:=h.there j hj
  obtain⟨v,hv⟩:=Option.isSome_iff_exists.1 h1
  have hk:=hb.block b (World.block_lt_of_cell? _ _ hv) hn
  exact⟨by rw [World.cell?_of_block (w:=w) hk];exact h1,by rw [World.frozen?_of_block hk];exact h2⟩
theorem Bx.later (hb:Below w.heap.size w w')(h:Bx w b L):Bx w' b L:=h.but (S:=λ_=>False) (aj.of hb) (λh=>h)
theorem Bx.new (w:World)(L:List Value)(t:TypeId):Bx (w.alloc (.cells L.toArray t)) w.heap.size L:=by
 refine⟨bA w L t,λj hj=>⟨?_,?_⟩⟩
 ·rw [bA w L t j L[j] (by simp [hj])];rfl
 ·simp [go_sem]
theorem au (hb:S b):∀(vs:List Value) (o:Nat) {a w:World},aj S a w->aj S a (w.setCells b o vs)
 | [],_,_,_,h=>h
 | v::r,o,a,w,h=>by rw [World.setCells];exact au hb r (o+1) (h.setCell hb _)
theorem cj (b:Nat)(x:Addr):∀(vs:List Value) (o:Nat) (w:World),(w.setCells b o vs).frozen? x=w.frozen? x
 | [],_,_=>rfl
 | v::r,o,w=>by rw [World.setCells,cj b x r];simp
theorem Bx.set {M:List Value}(h:Bx w b L)(hl:M.length=L.length):Bx (w.setCells b 0 M) b M:=by
 refine⟨World.rangeAt_setCells_same _ _ _ _ (hl ▸ h.there),λj hj=>?_⟩
 obtain⟨h1,h2⟩:=h.there j (by omega)
 exact⟨World.isSome_setCells _ _ _ _ _ h1,by rw [cj];exact h2⟩
theorem Bx.lt (h:Bx w b L)(hl:0<L.length):b<w.heap.size:=by
 obtain⟨h1,_⟩:=h.there 0 hl
 obtain⟨v,hv⟩:=Option.isSome_iff_exists.1 h1
 exact World.block_lt_of_cell? _ _ hv
theorem Bx.cell (h:Bx w b L)(j:Nat)(hv:L[j]?=some v):w.cell? ⟨b,j,none⟩=some v:=by
 have:=h.range j v hv
 rwa [Nat.zero_add] at this
end Go.Proofs.YtmhinfbkmjdgfaaGreatDoor.B
namespace Go.Proofs.YtmhinfbkmjdgfaaGreatDoor.B
open Go.RowKit
variable {L:List Nat}{rs:List R4}{c cap n:Nat}{a:Option Addr}{w w1:World}
def rf (rs:List R4):List Value:=rs.map iE
structure OR (w w':World)(a:Option Addr)(n cap:Nat)(rs:List R4):Prop where
 row:w'.ownsRow w.heap.size 38 1 (.slice a n cap) n (rf rs)
 each:∀r∈rs,Row w r.1 r.2.1 r.2.2.1 r.2.2.2\/Own w' w.heap.size r.1 r.2.1 r.2.2.1 r.2.2.2
theorem OR.len {w':World}(h:OR w w' a n cap rs):rs.length=n:=by
 have:=h.row.1
 simp [rf] at this;exact this
def Lr (w w':World)(a:Option Addr)(n c:Nat)(L:List Nat):Prop:=Row w a n c L\/Own w' w.heap.size a n c L
theorem Lr.later {w2:World}(h:Lr w w1 a n c L)(hb:Below w1.heap.size w1 w2):Lr w w2 a n c L:=by
 rcases h with h|h
 ·exact .inl h
 ·exact .inr (h.later hb)
theorem OR.two {x y:Option Addr}{m p q:Nat}{M:List Nat}(hl:Lr w w1 x m c L)(hm:Lr w w1 y p q M)(hb:Below w.heap.size w w1):OR w (w1.alloc (Obj.cells #[.slice x m c,.slice y p q] 38)) (some ⟨w1.heap.size,0,none⟩) 2 2 [(x,m,c,L),(y,p,q,M)]:=by
 refine⟨⟨rfl,.inr ⟨w1.heap.size,2,#[.slice x m c,.slice y p q],rfl,hb.size,heap_alloc_new _ _,by omega,by unfold maxLen;omega,rfl,rfl⟩⟩,λr hr=>?_⟩
 simp only [List.mem_cons,List.mem_nil_iff,or_false] at hr;rcases hr with rfl|rfl
 ·exact hl.later (ag _ _)
 ·exact hm.later (ag _ _)
theorem kC (h:OR w w1 a n cap rs)(hb:Below w.heap.size w w1)(hn:0<n)(hr:n<1000)(hc:(aV rs).length<=140737488355328) :
  Calls Tryz.prog 220 #[.slice a n cap] w1 λe w'=>∃a' n' cap',e=.returned (.slice a' n' cap')/\Own w' w1.heap.size a' n' cap' (aV rs)/\Below w1.heap.size w1 w':=by
 have hl:=h.len
 have hrow:=h.row
 rcases hrow.2 with ⟨h1,h2⟩|⟨g,cp,cur,hv,hg,hh,r⟩
 ·omega
 ·simp only [Value.slice.injEq] at hv
  obtain⟨rfl,_,rfl⟩:=hv
  refine gh g cap n rs w1 hl.symm (by omega) (λj hj=>?_) (λr hr=>?_) hc
  ·have:=hrow.cells (g:=g) rfl j (iE rs[j]) (by simp [rf,hj])
   rw [aY] at this;exact this
  ·rcases h.each r hr with h6|h6
   ·exact h6.later hb
   ·exact h6.read
end Go.Proofs.YtmhinfbkmjdgfaaGreatDoor.B
namespace Go.Proofs.YtmhinfbkmjdgfaaGreatDoor.B
variable {op:Int}
structure Rp where
 code:Int
 obj:Int
 hi:Nat
 lo:Nat
 data:List Nat
 number:Int
def yR (r:Rp):Bool:=decide (r.obj=0/\r.hi=0/\r.lo=0)&&decide (r.data.length=0)&&decide (r.number=0)
def DD (op:Int)(r:Rp):Rp:=if op=1\/op=3 then { r with obj:=0,hi:=0,lo:=0 } else if op=5 then { r with data:=[] } else if op=9 then { r with number:=0 } else r
def mF (op:Int)(r:Rp):Bool:=wi op 0 10&&wi r.code 0 65535&&(if r.code=0 then decide (op≠0)&&wi r.obj 0 4611686018427387904&&wi r.number 0 65535&&decide (r.data.length<=1024)&&yR (DD op r) else yR r)
def told (op:Int)(r:Rp):List Nat:=if op=1\/op=3 then bj r.obj.toNat 8++bj r.lo 8++bj r.hi 8 else if op=5 then r.data else if op=9 then bj r.number.toNat 2 else []
def CI (op:Int)(r:Rp):List Nat:=bj r.code.toNat 2++(if r.code=0 then told op r else [])
theorem FK {r:Rp}(h:r.code≠0):CI op r=bj r.code.toNat 2:=by unfold CI;rw [if_neg h,List.append_nil]
theorem DC {r:Rp}(h:r.code=0):CI op r=bj 0 2++told op r:=by unfold CI;rw [if_pos h,h];rfl
theorem sd (r:Rp)(h:op=1\/op=3):told op r=bj r.obj.toNat 8++bj r.lo 8++bj r.hi 8:=by unfold told;rw [if_pos h]
theorem Fi (r:Rp)(h:op=5):told op r=r.data:=by unfold told;rw [if_neg (by omega),if_pos h]
theorem Eb (r:Rp)(h:op=9):told op r=bj r.number.toNat 2:=by unfold told;rw [if_neg (by omega),if_neg (by omega),if_pos h]
theorem EE (r:Rp)(h:¬(op=1\/op=3))(h5:¬op=5)(h9:¬op=9):told op r=[]:=by unfold told;rw [if_neg h,if_neg h5,if_neg h9]
end Go.Proofs.YtmhinfbkmjdgfaaGreatDoor.B
namespace Go.Proofs.YtmhinfbkmjdgfaaGreatDoor.B
open Go.RowKit
variable {a:Act}{ops:Array Oper}{Q:Exit->Act->World->Prop}{op:Int}{E:List (Value×Value)}{rest:List Oper}{L:List Value}{b:Nat}{P:Program}{ps:String}{e t tk tt:TypeId}{k p v z:Value}{w w':World}
def rC (r:Rp)(d:Sl):List Value:=[ab r.code,ab r.obj,ai (r.hi:Int),ai (r.lo:Int),d.v,ab r.number]
structure Rr (w:World)(L:List Value)(r:Rp):Prop where
 ex:∃d,L=rC r d/\Row w d.a d.n d.c r.data/\r.hi<18446744073709551616/\r.lo<18446744073709551616
theorem Rr.later {W w1:World}{r:Rp}(hb:Below W.heap.size W w1)(h:Rr W L r):Rr w1 L r:=by
 obtain⟨d,e,h1,h2⟩:=h.ex
 exact⟨d,e,h1.later hb,h2⟩
theorem Rr.len {r:Rp}(h:Rr w L r):L.length=6:=by
 obtain⟨d,rfl,_⟩:=h.ex
 rfl
theorem ns (L:List Value)(r:Rp)(w0 w:World)(h:Rr w0 L r):Calls Tryz.prog 367 #[.agg L.toArray] w λe w'=>e=.returned (.bool (yR r))/\Below w.heap.size w w':=by
 obtain⟨⟨da,dn,dc⟩,rfl,hrow,_⟩:=h.ex
 obtain⟨code,obj,hi,lo,data,number⟩:=r
 have hdl:data.length=dn:=hrow.len
 have heq:=pN obj hi lo 0 0 0
 have HB:Hid (yR ⟨code,obj,hi,lo,data,number⟩=(mB obj hi lo 0 0 0&&((dn:Int)==0)&&(number==0))):=by
  unfold Hid yR;rw [Bool.eq_iff_iff];simp only [Bool.and_eq_true,beq_iff_eq,mB,decide_eq_true_eq];omega
 clear h hdl hrow;unfold rC;cases F1:mB obj hi lo 0 0 0 with
 | false =>
  have E:Hid (_=false):=HB.out.trans (by simp only [F1,Bool.true_and,Bool.false_and,Bool.and_false])
  clear HB;go_enter Tryz.func367,Tryz.ntmps367
  go_wp2;go_ret;exact⟨aA E.out.symm,ag _ _⟩
 | true =>
  cases F2:((dn:Int)==0) with
  | false =>
   have E:Hid (_=false):=HB.out.trans (by simp only [F1,F2,Bool.true_and,Bool.false_and,Bool.and_false])
   clear HB;go_enter Tryz.func367,Tryz.ntmps367
   go_wp2;go_ret;exact⟨aA E.out.symm,ag _ _⟩
  | true =>
   have E:Hid (_=(number==0)):=HB.out.trans (by simp only [F1,F2,Bool.true_and])
   clear HB;go_enter Tryz.func367,Tryz.ntmps367
   go_wp2;go_ret;exact⟨aA E.out.symm,ag _ _⟩
theorem s_ (op:Int)(L:List Value)(r:Rp)(w0 w:World)(h:Rr w0 L r):Calls Tryz.prog 368 #[ab op,.agg L.toArray] w λe w'=>∃L',e=.returned (.agg L'.toArray)/\Rr w0 L' (DD op r)/\Below w.heap.size w w':=by
 obtain⟨⟨da,dn,dc⟩,rfl,hrow,h1,h2⟩:=h.ex
 obtain⟨code,obj,hi,lo,data,number⟩:=r
 have HR:=ae hrow
 have HW:=ae (And.intro h1 h2)
 clear h hrow h1 h2;unfold rC;by_cases o1:op=1
 ·subst o1
  go_enter Tryz.func368,Tryz.ntmps368
  go_wp2;exact bodyPost_ret (v:=.agg (List.toArray [ab code,ab 0,ai 0,ai 0,.slice da dn dc,ab number])) (by simp [results,Tryz.results368,asAddr,lQ]) rfl ⟨[ab code,ab 0,ai 0,ai 0,.slice da dn dc,ab number],rfl,⟨⟨da,dn,dc⟩,rfl,HR.out,(by show (0:Nat)<18446744073709551616;omega),(by show (0:Nat)<18446744073709551616;omega)⟩,aB _ _ _⟩
 have b1:(op==1)=false:=by simpa using o1
 by_cases o3:op=3
 ·subst o3
  go_enter Tryz.func368,Tryz.ntmps368
  go_wp2;exact bodyPost_ret (v:=.agg (List.toArray [ab code,ab 0,ai 0,ai 0,.slice da dn dc,ab number])) (by simp [results,Tryz.results368,asAddr,lQ]) rfl ⟨[ab code,ab 0,ai 0,ai 0,.slice da dn dc,ab number],rfl,⟨⟨da,dn,dc⟩,rfl,HR.out,(by show (0:Nat)<18446744073709551616;omega),(by show (0:Nat)<18446744073709551616;omega)⟩,aB _ _ _⟩
 have b3:(op==3)=false:=by simpa using o3
 by_cases o5:op=5
 ·subst o5
  go_enter Tryz.func368,Tryz.ntmps368
  go_wp2;exact bodyPost_ret (v:=.agg (List.toArray [ab code,ab obj,ai (hi:Int),ai (lo:Int),.slice none 0 0,ab number])) (by simp [results,Tryz.results368,asAddr,lQ]) rfl ⟨[ab code,ab obj,ai (hi:Int),ai (lo:Int),.slice none 0 0,ab number],rfl,⟨Sl.nil,rfl,bh _,HW.out⟩,aB _ _ _⟩
 have b5:(op==5)=false:=by simpa using o5
 by_cases o9:op=9
 ·subst o9
  go_enter Tryz.func368,Tryz.ntmps368
  go_wp2;exact bodyPost_ret (v:=.agg (List.toArray [ab code,ab obj,ai (hi:Int),ai (lo:Int),.slice da dn dc,ab 0])) (by simp [results,Tryz.results368,asAddr,lQ]) rfl ⟨[ab code,ab obj,ai (hi:Int),ai (lo:Int),.slice da dn dc,ab 0],rfl,⟨⟨da,dn,dc⟩,rfl,HR.out,HW.out⟩,aB _ _ _⟩
 have b9:(op==9)=false:=by simpa using o9
 have HU:Hid (DD op ⟨code,obj,hi,lo,data,number⟩=⟨code,obj,hi,lo,data,number⟩):=by unfold Hid DD;rw [if_neg (by omega),if_neg (by omega),if_neg (by omega)]
 clear o1 o3 o5 o9;go_enter Tryz.func368,Tryz.ntmps368
 go_wp2;exact bodyPost_ret (v:=.agg (List.toArray [ab code,ab obj,ai (hi:Int),ai (lo:Int),.slice da dn dc,ab number])) (by simp [results,Tryz.results368,asAddr,lQ]) rfl ⟨[ab code,ab obj,ai (hi:Int),ai (lo:Int),.slice da dn dc,ab number],rfl,by rw [HU.out];exact⟨⟨da,dn,dc⟩,rfl,HR.out,HW.out⟩,aB _ _ _⟩
theorem AL {r:Rp}(h:r.code=0):mF op r=(wi op 0 10&&(decide (op≠0)&&wi r.obj 0 4611686018427387904&&wi r.number 0 65535&&decide (r.data.length<=1024)&&yR (DD op r))):=by
 unfold mF;rw [if_pos h,h];simp [wi]
theorem FF {r:Rp}(h:r.code≠0):mF op r=(wi op 0 10&&wi r.code 0 65535&&yR r):=by
 unfold mF;rw [if_neg h]
theorem jR (op:Int)(L:List Value)(r:Rp)(w:World)(h:Rr w L r):Calls Tryz.prog 320 #[ab op,.agg L.toArray] w λe w'=>e=.returned (.bool (mF op r))/\Below w.heap.size w w':=by
 have HH:=ae h
 have X1:Hid (Bx (w.alloc (Obj.cells L.toArray 40)) w.heap.size L):=Bx.new w L 40
 obtain⟨⟨da,dn,dc⟩,hL,hrow,h1,h2⟩:=h.ex
 have hdl:r.data.length=dn:=hrow.len
 have hc0:=X1.out.cell 0 (v:=ab r.code) (by rw [hL];rfl)
 have hc1:=X1.out.cell 1 (v:=ab r.obj) (by rw [hL];rfl)
 have hc4:=X1.out.cell 4 (v:=.slice da dn dc) (by rw [hL];rfl)
 have hc5:=X1.out.cell 5 (v:=ab r.number) (by rw [hL];rfl)
 have Pk:=ae (yh X1.out.range h.len)
 have HD:Hid (decide (r.data.length<=1024)=decide ((dn:Int)<=1024)):=by unfold Hid;rw [hdl,Bool.eq_iff_iff];simp only [decide_eq_true_eq];omega
 have HZ:=ae (@AL op r)
 have U6:=ae (@FF op r)
 have hnot:∀(x:Bool) (w:World),(Op.unary .not (.bool x)).run Tryz.prog w=.ok (.bool (!x)) w:=λ_ _=>rfl
 clear h hL hrow h1 h2 hdl;have Yd:=ae (Eq.refl r.code)
 cases F1:wi op 0 10 with
 | false =>
  have E:Hid (mF op r=false):=by unfold Hid mF;rw [F1];simp
  go_enter Tryz.func320,Tryz.ntmps320
  go_wp2_with (first|(go_at_call 211;refine (aK _ _ _ _).mono ?_;rintro e w9 ⟨rfl,hw9⟩;obtain rfl:=hw9.symm;simp only [F1]))
  go_ret;exact⟨aA E.out.symm,ag _ _⟩
 | true =>
 cases F2:wi r.code 0 65535 with
 | false =>
  have E:Hid (mF op r=false):=by unfold Hid mF;rw [F1,F2];simp
  go_enter Tryz.func320,Tryz.ntmps320
  go_wp2_with (first|(go_at_call 211;refine (aK _ _ _ _).mono ?_;rintro e w9 ⟨rfl,hw9⟩;obtain rfl:=hw9.symm;simp only [F1,F2]))
  go_ret;exact⟨aA E.out.symm,ag _ _⟩
 | true =>
 by_cases hcz:r.code=0
 ·have PU:Hid _:=HZ.out hcz
  have bz:(r.code != 0)=false:=by simpa using hcz
  clear HZ U6 hcz;cases F3:(op != 0) with
  | false =>
   have E:Hid (mF op r=false):=PU.out.trans (by have h0:op=0:=(by simpa using F3);simp [h0])
   clear PU;go_enter Tryz.func320,Tryz.ntmps320
   go_wp2_with (first|(go_at_call 211;refine (aK _ _ _ _).mono ?_;rintro e w9 ⟨rfl,hw9⟩;obtain rfl:=hw9.symm;simp only [F1,F2]))
   go_ret;exact⟨aA E.out.symm,ag _ _⟩
  | true =>
  have HO:Hid (decide (op≠0)=true):=by unfold Hid;simpa using F3
  cases F4:wi r.obj 0 4611686018427387904 with
  | false =>
   have E:Hid (mF op r=false):=PU.out.trans (by simp only [HO.out,HD.out,F1,F4,Bool.true_and,Bool.false_and,Bool.and_false,Bool.and_true])
   clear PU;go_enter Tryz.func320,Tryz.ntmps320
   go_wp2_with (first|(go_at_call 211;refine (aK _ _ _ _).mono ?_;rintro e w9 ⟨rfl,hw9⟩;obtain rfl:=hw9.symm;simp only [F2,F1,F4]))
   go_ret;exact⟨aA E.out.symm,ag _ _⟩
  | true =>
  cases F5:wi r.number 0 65535 with
  | false =>
   have E:Hid (mF op r=false):=PU.out.trans (by simp only [HO.out,HD.out,F1,F4,F5,Bool.true_and,Bool.false_and,Bool.and_false,Bool.and_true])
   clear PU;go_enter Tryz.func320,Tryz.ntmps320
   go_wp2_with (first|(go_at_call 211;refine (aK _ _ _ _).mono ?_;rintro e w9 ⟨rfl,hw9⟩;obtain rfl:=hw9.symm;simp only [F2,F1,F4,F5]))
   go_ret;exact⟨aA E.out.symm,ag _ _⟩
  | true =>
  cases F6:decide ((dn:Int)<=1024) with
  | false =>
   have E:Hid (mF op r=false):=PU.out.trans (by simp only [HO.out,HD.out,F1,F4,F5,F6,Bool.true_and,Bool.false_and,Bool.and_false,Bool.and_true])
   clear PU;go_enter Tryz.func320,Tryz.ntmps320
   go_wp2_with (first|(go_at_call 211;refine (aK _ _ _ _).mono ?_;rintro e w9 ⟨rfl,hw9⟩;obtain rfl:=hw9.symm;simp only [F2,F1,F4,F5,F6]))
   go_ret;exact⟨aA E.out.symm,ag _ _⟩
  | true =>
  have E:Hid (mF op r=yR (DD op r)):=PU.out.trans (by simp only [HO.out,HD.out,F1,F4,F5,F6,Bool.true_and])
  clear PU;go_enter Tryz.func320,Tryz.ntmps320
  go_wp2_with (first|((with_reducible refine eP Pk.out ?_ ?_ ?_);(· rfl);(· rfl))|(go_at_call 211;refine (aK _ _ _ _).mono ?_;rintro e w9 ⟨rfl,hw9⟩;obtain rfl:=hw9.symm;simp only [F2,F1,F4,F5,F6])|(go_at_call 368;refine (s_ op L r w _ HH.out).mono ?_;rintro e w2 ⟨L2,rfl,hr2,hb2⟩;have Pp:=ae hr2;have OH:=ae hb2;clear hr2 hb2)|(go_at_call 367;refine (ns L2 _ w _ Pp.out).mono ?_;rintro e w3 ⟨rfl,hb3⟩;have OJ:=ae hb3;clear hb3))
  go_ret;exact⟨aA E.out.symm,aa (aa (ag _ _) OH.out) OJ.out⟩
 ·have PU:Hid _:=U6.out hcz
  have bz:(r.code != 0)=true:=by simpa using hcz
  have E:Hid (mF op r=yR r):=PU.out.trans (by simp only [F1,F2,Bool.true_and])
  clear HZ U6 PU hcz;go_enter Tryz.func320,Tryz.ntmps320
  go_wp2_with (first|((with_reducible refine aJ Pk.out ?_ ?_);(· rfl))|(go_at_call 211;refine (aK _ _ _ _).mono ?_;rintro e w9 ⟨rfl,hw9⟩;obtain rfl:=hw9.symm;simp only [F1,F2])|(go_at_call 367;refine (ns L r w _ HH.out).mono ?_;rintro e w3 ⟨rfl,hb3⟩;have OJ:=ae hb3;clear hb3))
  go_ret;exact⟨aA E.out.symm,aa (ag _ _) OJ.out⟩
theorem FT (v:Nat)(hv:v<65536)(w:World):Calls Tryz.prog 217 #[.slice none 0 0,.int .u16 (v:Int)] w λe w'=>∃a c,e=.returned (.slice a 2 c)/\Own w' w.heap.size a 2 c (bj v 2)/\Below w.heap.size w w':=by
 refine (AJ none 0 0 [] v w hv (bh w) (by omega)).mono ?_
 rintro e w' ⟨a,c,rfl,h,hb⟩
 exact⟨a,c,rfl,h,hb⟩
theorem og (o hi lo:Nat)(w:World)(ho:o<=4611686018427387904)(h1:hi<18446744073709551616)(h2:lo<18446744073709551616) :
  Calls Tryz.prog 411 #[.slice none 0 0,.agg #[ab (o:Int),ai (hi:Int),ai (lo:Int)]] w λe w'=>∃a n c,e=.returned (.tuple #[.slice a n c,ab 0])/\Own w' w.heap.size a n c (bj o 8++bj lo 8++bj hi 8)/\Below w.heap.size w w':=by
 refine (tc none 0 0 [] (o:Int) hi lo w h1 h2 (bh w) (by omega)).mono ?_
 have e1:AX (o:Int)=0:=by unfold AX;rw [if_neg (by omega)]
 have e2:BE [] (o:Int) hi lo=bj o 8++bj lo 8++bj hi 8:=by unfold BE;rw [if_pos e1];rfl
 rw [e1,e2];exact λ_ _ h=>h
theorem rL (op:Int)(L:List Value)(r:Rp)(w0 w:World)(h:Rr w0 L r)(hb0:Below w0.heap.size w0 w)(hob:wi r.obj 0 4611686018427387904=true)(jn:wi r.number 0 65535=true) :
  Calls Tryz.prog 369 #[ab op,.agg L.toArray] w λe w'=>∃a n c,e=.returned (.slice a n c)/\Lr w0 w' a n c (told op r)/\Below w.heap.size w w':=by
 have hob:=cU.1 hob
 have jn:=cU.1 jn
 have X1:=Bx.new w L 40
 obtain⟨⟨da,dn,dc⟩,rfl,hrow,h1,h2⟩:=h.ex
 obtain⟨code,obj,hi,lo,data,number⟩:=r
 simp only at hob jn h1 h2;obtain⟨o,rfl⟩:∃o:Nat,obj=(o:Int):=⟨obj.toNat,by omega⟩
 obtain⟨m,rfl⟩:∃m:Nat,number=(m:Int):=⟨number.toNat,by omega⟩
 have HM:Hid (o<=4611686018427387904/\m<65536/\hi<18446744073709551616/\lo<18446744073709551616):=⟨by omega,by omega,h1,h2⟩
 have em:IntKind.u16.wrap (m:Int)=(m:Int):=by rw [IntKind.wrap_u16];omega
 have hc1:=X1.cell 1 rfl
 have hc2:=X1.cell 2 rfl
 have hc3:=X1.cell 3 rfl
 have hc4:=X1.cell 4 rfl
 have hc5:=X1.cell 5 rfl
 have HR:=ae hrow
 have HS:=ae hb0.size
 clear X1 h hb0 hob jn hrow h1 h2;by_cases o1:op=1
 ·subst o1
  go_enter Tryz.func369,Tryz.ntmps369
  go_wp2_with (first|(go_at_call 411;refine (og o hi lo _ HM.out.1 HM.out.2.2.1 HM.out.2.2.2).mono ?_;rintro e w2 ⟨a2,n2,c2,rfl,hown,hb2⟩))
  go_ret;exact⟨_,_,_,rfl,.inr (by rw [sd _ (by omega)];exact hown.mono (by have:=HS.out;simp;omega)),aa (ag _ _) hb2⟩
 have b1:(op==1)=false:=by simpa using o1
 by_cases o3:op=3
 ·subst o3
  go_enter Tryz.func369,Tryz.ntmps369
  go_wp2_with (first|(go_at_call 411;refine (og o hi lo _ HM.out.1 HM.out.2.2.1 HM.out.2.2.2).mono ?_;rintro e w2 ⟨a2,n2,c2,rfl,hown,hb2⟩))
  go_ret;exact⟨_,_,_,rfl,.inr (by rw [sd _ (by omega)];exact hown.mono (by have:=HS.out;simp;omega)),aa (ag _ _) hb2⟩
 have b3:(op==3)=false:=by simpa using o3
 by_cases o5:op=5
 ·subst o5
  go_enter Tryz.func369,Tryz.ntmps369
  go_wp2;go_ret;exact⟨_,_,_,rfl,.inl (by rw [Fi _ rfl];exact HR.out),ag _ _⟩
 have b5:(op==5)=false:=by simpa using o5
 by_cases o9:op=9
 ·subst o9
  go_enter Tryz.func369,Tryz.ntmps369
  go_wp2_with (first|(go_at_call 217;refine (FT m HM.out.2.1 _).mono ?_;rintro e w2 ⟨a2,c2,rfl,hown,hb2⟩))
  go_ret;exact⟨_,_,_,rfl,.inr (by rw [Eb _ rfl];exact hown.mono (by have:=HS.out;simp;omega)),aa (ag _ _) hb2⟩
 have b9:(op==9)=false:=by simpa using o9
 have HT:Hid (told op ⟨code,(o:Int),hi,lo,data,(m:Int)⟩=[]):=EE _ (by omega) o5 o9
 clear o1 o3 o5 o9;go_enter Tryz.func369,Tryz.ntmps369
 go_wp2;go_ret;exact⟨none,0,0,rfl,.inr (by rw [HT.out];exact Own.nil _ _),ag _ _⟩
theorem yQ {r:Rp}(h:r.data.length<=1024):(told op r).length<=1024:=by
 unfold told;repeat' split
 all_goals (try simp only [aW,List.length_append,List.length_nil])
 all_goals omega
theorem EC {r:Rp}(h:mF op r=true):0<=r.code/\r.code<=65535/\(r.code=0->wi r.obj 0 4611686018427387904=true/\wi r.number 0 65535=true/\r.data.length<=1024):=by
 have h0:=h
 simp only [mF,Bool.and_eq_true] at h;have hc:=cU.1 h.1.2
 refine⟨hc.1,hc.2,λhz=>?_⟩
 rw [AL hz] at h0;simp only [Bool.and_eq_true,decide_eq_true_eq] at h0;exact⟨h0.2.1.1.1.2,h0.2.1.1.2,h0.2.1.2⟩
theorem oW (op:Int)(L:List Value)(r:Rp)(w:World)(h:Rr w L r)(hf:mF op r=true) :
  Calls Tryz.prog 321 #[ab op,.agg L.toArray] w λe w'=>∃a n c,e=.returned (.slice a n c)/\Own w' w.heap.size a n c (CI op r)/\Below w.heap.size w w':=by
 obtain⟨hc0,hc1,hz⟩:=EC hf
 obtain⟨m,hm⟩:∃m:Nat,r.code=(m:Int):=⟨r.code.toNat,by omega⟩
 have em:IntKind.u16.wrap (m:Int)=(m:Int):=by rw [IntKind.wrap_u16];omega
 have HM:Hid (m<65536):=by unfold Hid;omega
 have X1:Hid (Bx (w.alloc (Obj.cells L.toArray 40)) w.heap.size L):=Bx.new w L 40
 have QJ:Hid (L[0]?=some (ab (m:Int))):=by unfold Hid;rw [<-hm];obtain⟨d,rfl,_⟩:=h.ex;rfl
 have hcell:=X1.out.cell 0 QJ.out
 have Sn:=ae h.len
 have HH:=ae h
 have OI:Hid (Below w.heap.size w (w.alloc (Obj.cells L.toArray 40))):=ag _ _
 by_cases hm0:m=0
 ·have HZ:=ae (hz (by omega))
  have HY:Hid (CI op r=bj 0 2++told op r):=DC (by omega)
  subst hm0;have hT:(told op r).length<=1024:=yQ HZ.out.2.2
  have HT:=ae hT
  clear h hc0 hc1 hz hf hm hT;go_enter Tryz.func321,Tryz.ntmps321
  go_wp2_with (first|((with_reducible refine aJ Pv.out ?_ ?_);(· rfl))|(go_at_call 217;refine (FT 0 (by omega) _).mono ?_;rintro e w2 ⟨a2,c2,rfl,hown2,hb2⟩;have OZ:=ae (X1.out.later hb2);have hcell2:=OZ.out.cell 0 QJ.out;have Pv:=ae (yh OZ.out.range Sn.out);have O0:=ae (hown2.mono OI.out.size);have OH:=ae (aa OI.out hb2);clear hown2 hb2)|(go_at_call 369;refine (rL op L r w _ HH.out OH.out HZ.out.1 HZ.out.2.1).mono ?_;rintro e w3 ⟨a3,n3,c3,rfl,hlr,hb3⟩;have OJ:=ae (aa OH.out hb3);have SL:=ae (OR.two (.inr (O0.out.later hb3)) hlr OJ.out);clear hlr hb3)|(go_at_call 220;refine (kC SL.out (aa OJ.out (ag _ _)) (by omega) (by omega) (by have:=HT.out;simp [aV,aW];omega)).mono ?_;rintro e w4 ⟨a4,n4,c4,rfl,hown4,hb4⟩))
  go_ret;exact⟨_,_,_,rfl,by rw [HY.out];simpa [aV] using hown4.mono (by have:=OJ.out.size;simp;omega),aa (aa OJ.out (ag _ _)) hb4⟩
 ·have HY:Hid (CI op r=bj m 2):=by unfold Hid;rw [FK (by omega),hm];rfl
  have bz:((m:Int) != 0)=true:=by simp;omega
  clear h hc0 hc1 hz hf hm hm0;go_enter Tryz.func321,Tryz.ntmps321
  go_wp2_with (first|(go_at_call 217;refine (FT m HM.out _).mono ?_;rintro e w2 ⟨a2,c2,rfl,hown2,hb2⟩;have hcell2:=(X1.out.later hb2).cell 0 QJ.out;have O0:=ae (hown2.mono OI.out.size);have OH:=ae (aa OI.out hb2);clear hown2 hb2))
  go_ret;exact⟨_,_,_,rfl,by rw [HY.out];exact O0.out,OH.out⟩
theorem vF (op:Int)(L:List Value)(r:Rp)(w:World)(h:Rr w L r)(hf:mF op r=true) :
  Calls Tryz.prog 251 #[ab op,.agg L.toArray] w λe w'=>∃a n c',e=.returned (.tuple #[.slice a n c',ab 0])/\Own w' w.heap.size a n c' (CI op r)/\Below w.heap.size w w':=by
 have X1:Hid (Bx (w.alloc (Obj.cells L.toArray 40)) w.heap.size L):=Bx.new w L 40
 have Pk:=ae (yh X1.out.range h.len)
 have HL:=ae h.len
 have HC:Hid (Rr (w.alloc (Obj.cells L.toArray 40)) L r):=h.later (ag _ _)
 clear h;go_enter Tryz.func251,Tryz.ntmps251
 go_wp2_with (first|((with_reducible refine aJ Pv.out ?_ ?_);(· rfl))|((with_reducible refine aJ Pk.out ?_ ?_);(· rfl))|(go_at_call 320;refine (jR op L r _ HC.out).mono ?_;rintro e w2 ⟨rfl,hb2⟩;rw [hf];have Pv:=ae (yh (X1.out.later hb2).range HL.out);have Pj:=ae (HC.out.later hb2);have OH:=ae hb2;clear hb2)|(go_at_call 321;refine (oW op L r _ Pj.out hf).mono ?_;rintro e w3 ⟨a,n,c',rfl,hown,hb3⟩))
 exact bodyPost_ret (v:=.tuple #[.slice a n c',ab 0]) (by simp [results,Tryz.results251,go_sem]) rfl ⟨_,_,_,rfl,hown.mono (by have:=OH.out.size;simp at this;omega),aa (aa (ag _ _) OH.out) hb3⟩
theorem sx (op:Int)(L:List Value)(r:Rp)(w:World)(h:Rr w L r)(hf:mF op r=false) :
  Calls Tryz.prog 251 #[ab op,.agg L.toArray] w λe w'=>e=.returned (.tuple #[.slice none 0 0,ab 1])/\Below w.heap.size w w':=by
 have X1:Hid (Bx (w.alloc (Obj.cells L.toArray 40)) w.heap.size L):=Bx.new w L 40
 have Pk:=ae (yh X1.out.range h.len)
 have HC:Hid (Rr (w.alloc (Obj.cells L.toArray 40)) L r):=h.later (ag _ _)
 clear h;go_enter Tryz.func251,Tryz.ntmps251
 go_wp2_with (first|((with_reducible refine aJ Pk.out ?_ ?_);(· rfl))|(go_at_call 320;refine (jR op L r _ HC.out).mono ?_;rintro e w2 ⟨rfl,hb2⟩;rw [hf];have OH:=ae hb2;clear hb2))
 exact bodyPost_ret (v:=.tuple #[.slice none 0 0,ab 1]) (by simp [results,Tryz.results251,go_sem]) rfl ⟨rfl,aa (ag _ _) OH.out⟩
abbrev Kd (t:TypeId):Prop:=Maps.Keyed Tryz.prog t
def Kv (t:TypeId)(k:Value):Prop:=∃l,keyOf Tryz.prog t k=some l
structure Mg (w:World)(tk:TypeId)(b:Nat)(E:List (Value×Value)):Prop where
 ex:∃es clk,w.heap[b]?=some (.map es clk)/\es.toList.map (λe=>(e.key,e.val))=E
 ok:∀e∈E,Kv tk e.1
 nd:(E.map Prod.fst).Nodup
 st:∀es clk,w.heap[b]?=some (.map es clk)->MapKept.Stamped es clk
theorem Mg.new (w:World)(tk:TypeId):Mg (w.alloc (.map #[] 0)) tk w.heap.size []:=⟨⟨#[],0,(MapKept.heap_alloc w _).1,rfl⟩,λe h=>(by cases h),List.nodup_nil,λes clk h=>by
 have e:=(MapKept.heap_alloc w (.map #[] 0)).1.symm.trans h
 simp at e
 obtain⟨rfl,rfl⟩:=e
 exact MapKept.stamped_empty 0⟩
theorem Mg.but {S:Nat->Prop}(h:Mg w tk b E)(hb:aj S w w')(hn:¬S b):Mg w' tk b E:=by
 obtain⟨es,clk,h1,h2⟩:=h.ex
 exact⟨⟨es,clk,by rw [hb.block b (Array.getElem?_eq_some_iff.1 h1).1 hn];exact h1,h2⟩,h.ok,h.nd,λes' clk' h'=>h.st es' clk' (by rw [<-hb.block b (Array.getElem?_eq_some_iff.1 h1).1 hn];exact h')⟩
theorem Mg.later (h:Mg w tk b E)(hb:Below w.heap.size w w'):Mg w' tk b E:=h.but (S:=λ_=>False) (aj.of hb) (λh=>h)
theorem Mg.lt (h:Mg w tk b E):b<w.heap.size:=by
 obtain⟨es,clk,h1,h2⟩:=h.ex
 exact (Array.getElem?_eq_some_iff.1 h1).1
theorem Mg.find (h:Mg w tk b E)(K:Kd tk)(hk:Kv tk k){es:Array MapEntry}{clk:Nat}(hb:w.heap[b]?=some (.map es clk))(hE:es.toList.map (λe=>(e.key,e.val))=E) :
  ((Instr.findKey tk k es.toList).run Tryz.prog w=.ok none w/\∀e∈E,e.1≠k)\/∃j e,(Instr.findKey tk k es.toList).run Tryz.prog w=.ok (some (j,e.val)) w/\es[j]?=some e/\e.key=k/\(k,e.val)∈E:=by
 obtain⟨l,hl⟩:=hk
 have hmem:∀e∈es.toList,(e.key,e.val)∈E:=λe he=>by rw [<-hE];exact List.mem_map_of_mem (f:=λe:MapEntry=>(e.key,e.val)) he
 have hok:∀e∈es.toList,Kv tk e.key:=λe he=>h.ok (e.key,e.val) (hmem e he)
 rcases K.find w hl es.toList (λe he=>(hok e he)) with ⟨hf,hn⟩|⟨j,e,hf,hj,he⟩
 ·refine .inl ⟨hf,λe he=>?_⟩
  rw [<-hE] at he;obtain⟨x,hx,rfl⟩:=List.mem_map.1 he
  exact hn x hx
 ·exact .inr ⟨j,e,hf,by rw [<-Array.getElem?_toList];exact hj,he,by have:=hmem e (List.mem_of_getElem? hj);rw [he] at this;exact this⟩
theorem Mg.one (h:Mg w tk b E){v':Value}(h1:(k,v)∈E)(h2:(k,v')∈E):v=v':=by
 have hn:=h.nd
 clear h;induction E with
 | nil=>cases h1
 | cons x E ih =>
  rw [List.map_cons,List.nodup_cons] at hn;rcases List.mem_cons.1 h1 with e1|h1<;>rcases List.mem_cons.1 h2 with e2|h2
  ·rw [<-e1] at e2;simpa using e2.symm
  ·exact absurd (List.mem_map.2 ⟨_,h2,rfl⟩) (by rw [<-e1] at hn;exact hn.1)
  ·exact absurd (List.mem_map.2 ⟨_,h1,rfl⟩) (by rw [<-e2] at hn;exact hn.1)
  ·exact ih h1 h2 hn.2
def IF (c:Bool)(v:Value)(ok:Bool):Value:=if c then .tuple #[v,.bool ok] else v
theorem Mg.vL (h:Mg w tk b E)(K:Kd tk)(ht:Tryz.prog.underlying t=some (.map tk e))(hm:(k,v)∈E)(c:Bool) :
  (Instr.lookup t (.map (some b)) k c).run Tryz.prog w=.ok (IF c v true) w:=by
 obtain⟨es,clk,hb,hE⟩:=h.ex
 have hk:=h.ok _ hm
 obtain⟨l,hl⟩:=hk
 have hck:=K.check w es.isEmpty hl
 rcases h.find K ⟨l,hl⟩ hb hE with ⟨_,hn⟩|⟨j,x,hf,hj,hx,hmem⟩
 ·exact absurd rfl (hn _ hm)
 ·have hv:=h.one hm hmem
  simp only [Instr.lookup,Sem.run_bind,run_underlying ht,Result.andThen_ok,MapKept.run_getObj_map hb,Sem.run_pure,hck,hf];rw [hv];cases c<;>rfl
theorem Mg.rD (h:Mg w tk b E)(K:Kd tk)(ht:Tryz.prog.underlying t=some (.map tk e))(hk:Kv tk k)(hn:∀x∈E,x.1≠k)(hz:(zeroValue e).run Tryz.prog w=.ok z w)(c:Bool) :
  (Instr.lookup t (.map (some b)) k c).run Tryz.prog w=.ok (IF c z false) w:=by
 obtain⟨es,clk,hb,hE⟩:=h.ex
 obtain⟨l,hl⟩:=hk
 have hck:=K.check w es.isEmpty hl
 rcases h.find K ⟨l,hl⟩ hb hE with ⟨hf,_⟩|⟨j,x,hf,hj,hx,hmem⟩
 ·simp only [Instr.lookup,Sem.run_bind,run_underlying ht,Result.andThen_ok,MapKept.run_getObj_map hb,Sem.run_pure,hck,hf,hz]
  cases c<;>rfl
 ·exact absurd rfl (hn _ hmem)
theorem zg (w:World)(K:Kd tk)(ht:Tryz.prog.underlying t=some (.map tk e))(hk:Kv tk k)(hz:(zeroValue e).run Tryz.prog w=.ok z w)(c:Bool) :
  (Instr.lookup t (.map none) k c).run Tryz.prog w=.ok (IF c z false) w:=by
 obtain⟨l,hl⟩:=hk
 have hck:=K.check w (#[]:Array MapEntry).isEmpty hl
 rcases K.find w hl ([]:List MapEntry) (λe he=>by cases he) with ⟨hf,_⟩|⟨j,x,hf,hj,hx⟩
 ·simp only [Instr.lookup,Sem.run_bind,run_underlying ht,Result.andThen_ok,Sem.run_pure,hck,hf,hz]
  cases c<;>rfl
 ·simp at hj
theorem Mg.add (h:Mg w tk b E)(K:Kd tk)(ht:Tryz.prog.underlying t=some (.map tk e))(hk:Kv tk k)(hn:∀x∈E,x.1≠k)(v:Value) :
  ∃w',(Instr.mapUpdate t (.map (some b)) k v).run Tryz.prog w=.ok () w'/\Mg w' tk b (E++[(k,v)])/\aj (·=b) w w'/\w'.heap.size=w.heap.size:=by
 obtain⟨es,clk,hb,hE⟩:=h.ex
 obtain⟨l,hl⟩:=hk
 have hck:=K.check w false hl
 rcases h.find K ⟨l,hl⟩ hb hE with ⟨hf,_⟩|⟨j,x,hf,hj,hx,hmem⟩
 ·refine⟨{ w with heap:=w.heap.setIfInBounds b (.map (es.push { key:=k,val:=v,born:=clk }) (clk+1)) },by simp only [Instr.mapUpdate,Sem.run_bind,run_underlying ht,Result.andThen_ok,MapKept.run_getObj_map hb,hck,hf,MapKept.run_setObj_map _ hb],⟨⟨_,_,(MapKept.heap_set hb).1,?_⟩,?_,?_,?_⟩,⟨rfl,rfl,rfl,by simp,λk hk hn=>(MapKept.heap_set hb).2 k hn⟩,by simp⟩
  ·simp [hE]
  ·intro x hx
   rcases List.mem_append.1 hx with hx|hx
   ·exact h.ok x hx
   ·rw [List.mem_singleton.1 hx];exact⟨l,hl⟩
  ·rw [List.map_append,List.nodup_append]
   refine⟨h.nd,by simp,?_⟩
   intro a ha c hc;obtain⟨x,hx,rfl⟩:=List.mem_map.1 ha
   simp only [List.map_cons,List.map_nil,List.mem_singleton] at hc;rw [hc];exact hn x hx
  ·intro es' clk' h'
   have e2:=(MapKept.heap_set (o':=Obj.map (es.push { key:=k,val:=v,born:=clk }) (clk+1)) hb).1.symm.trans h'
   simp at e2
   obtain⟨rfl,rfl⟩:=e2
   refine MapKept.stamped_push (h.st _ _ hb) (λx hx=>?_)
   exact hn (x.key,x.val) (by rw [<-hE];exact List.mem_map_of_mem (f:=λe:MapEntry=>(e.key,e.val)) hx)
 ·exact absurd rfl (hn _ hmem)
open Classical in
noncomputable def AY (E:List (Value×Value))(k v:Value):List (Value×Value):=E.map (λx=>if x.1=k then (k,v) else x)
theorem ql (E:List (Value×Value))(k v:Value):(AY E k v).map Prod.fst=E.map Prod.fst:=by
 unfold AY;rw [List.map_map];apply List.map_congr_left
 intro x hx;by_cases e:x.1=k<;>simp [e]
theorem Mg.set (h:Mg w tk b E)(K:Kd tk)(ht:Tryz.prog.underlying t=some (.map tk e)){v0:Value}(hm:(k,v0)∈E)(v:Value) :
  ∃w',(Instr.mapUpdate t (.map (some b)) k v).run Tryz.prog w=.ok () w'/\Mg w' tk b (AY E k v)/\aj (·=b) w w'/\w'.heap.size=w.heap.size:=by
 obtain⟨es,clk,hb,hE⟩:=h.ex
 obtain⟨l,hl⟩:=h.ok _ hm
 have hck:=K.check w false hl
 have hst:=K.stays w hl
 rcases h.find K ⟨l,hl⟩ hb hE with ⟨_,hn⟩|⟨j,x,hf,hj,hx,hmem⟩
 ·exact absurd rfl (hn _ hm)
 ·simp only at hl hck hst hf hx
  refine⟨{ w with heap:=w.heap.setIfInBounds b (.map (es.modify j λe=>{ e with key:=k,val:=v }) clk) },by simp only [Instr.mapUpdate,Sem.run_bind,run_underlying ht,Result.andThen_ok,MapKept.run_getObj_map hb,hck,hf,hj,Option.map_some,Option.getD_some,hx,hst,MapKept.run_setObj_map _ hb],⟨⟨_,_,(MapKept.heap_set hb).1,?_⟩,?_,by rw [ql];exact h.nd,?_⟩,⟨rfl,rfl,rfl,by simp,λk hk hn=>(MapKept.heap_set hb).2 k hn⟩,by simp⟩
  ·unfold AY
   rw [<-hE,List.map_map];apply List.ext_getElem?
   intro i;simp only [List.getElem?_map,Array.getElem?_toList,Array.getElem?_modify];by_cases e3:j=i
   ·subst e3
    rw [if_pos rfl,hj];simp [hx]
   ·rw [if_neg e3]
    cases hi:es[i]? with
    | none=>rfl
    | some y =>
     simp only [Option.map_some,Function.comp];rw [if_neg];intro hy;have hnd:=h.nd
     rw [<-hE,List.map_map] at hnd;have h1:(es.toList.map (Prod.fst ∘ λe:MapEntry=>(e.key,e.val)))[i]?=some k:=by rw [List.getElem?_map,Array.getElem?_toList,hi];simp [hy]
     have h2:(es.toList.map (Prod.fst ∘ λe:MapEntry=>(e.key,e.val)))[j]?=some k:=by rw [List.getElem?_map,Array.getElem?_toList,hj];simp [hx]
     have hil:=(List.getElem?_eq_some_iff.1 h1).1
     exact e3 (((List.getElem?_inj hil hnd).1 (h1.trans h2.symm)).symm)
  ·intro y hy
   have:y.1∈(AY E k v).map Prod.fst:=List.mem_map.2 ⟨y,hy,rfl⟩
   rw [ql] at this;obtain⟨z,hz,e⟩:=List.mem_map.1 this
   rw [<-e];exact h.ok z hz
  ·intro es' clk' h'
   have e2:=(MapKept.heap_set (o':=Obj.map (es.modify j λe=>{ e with key:=k,val:=v }) clk) hb).1.symm.trans h'
   simp at e2
   obtain⟨rfl,rfl⟩:=e2
   exact MapKept.stamped_modify (h.st _ _ hb) _ _ (λ_ _=>rfl) (λe _ he=>by
    rw [hj] at he;cases he
    exact hx.symm)
theorem bF {af}{d:Nat}{x y:Operand}{c:Bool}
  (hr:(Instr.lookup t p k c).run P w=.ok v w) (hx:a.eval x=p) (hy:a.eval y=k) (h:wpList P ops Q rest (a.put (some d) v) w) :
  wpList P ops Q ({ dst:=some d,op:=.lookup t x y c,type:=tt,pos:=ps,after:=af,guard:=none }::rest) a w:=by
 refine wpList_plain rfl λK hK=>?_
 unfold Oper.wp;simp [execOp,hx,hy,hr,Result.andThen];exact hK _ _ h
theorem dX {af}{x y z:Operand}
  (hr:(Instr.mapUpdate t p k v).run P w=.ok () w') (hx:a.eval x=p) (hy:a.eval y=k) (hz:a.eval z=v) (h:wpList P ops Q rest a w') :
  wpList P ops Q ({ dst:=none,op:=.mapUpdate t x y z,type:=tt,pos:=ps,after:=af,guard:=none }::rest) a w:=by
 refine wpList_plain rfl λK hK=>?_
 unfold Oper.wp;simp [execOp,hx,hy,hz,hr,Result.andThen];exact hK _ _ h
theorem dq {k:TypeId}(ht:Tryz.prog.underlying t=some (.map k e))(w:World):(Instr.makeMap t none).run Tryz.prog w=.ok (.map (some w.heap.size)) (w.alloc (.map #[] 0)):=by
 simp [Instr.makeMap,run_underlying ht,go_sem]
theorem laidOut:laidOutB Tryz.prog=true:=by kernel_rfl
theorem dy:Kd 3:=Maps.int_keyed Tryz.underlying3
theorem BL:Kd 30:=Maps.Keyed.of_law (deep_law_laid laidOut (m:=5) (by omega) (of_decide_eq_true (by kernel_rfl)) (by kernel_rfl) (by kernel_rfl))
theorem A1:Kd 249:=Maps.Keyed.of_law (deep_law_laid laidOut (m:=5) (by omega) (of_decide_eq_true (by kernel_rfl)) (by kernel_rfl) (by kernel_rfl))
end Go.Proofs.YtmhinfbkmjdgfaaGreatDoor.B
namespace Go.Proofs.YtmhinfbkmjdgfaaGreatDoor.B
open Go.RowKit
variable {F G:List Nat}{L:List Value}{b o:Nat}{w:World}
abbrev bQ (x:Int):Prop:=-9223372036854775808<=x/\x<=9223372036854775807
abbrev nv (x:Nat):Prop:=x<18446744073709551616
theorem gS {x:Int}(h:bQ x):Kv 3 (.int .i64 x):=⟨_,Maps.keyOf_int_mk Tryz.underlying3 (WalkArith.wf_i64 (by omega))⟩
abbrev jj (h l:Nat):Value:=.agg #[.int .u64 (h:Int),.int .u64 (l:Int)]
theorem uB {h l:Nat}(h1:nv h)(h2:nv l):Kv 30 (jj h l):=by
 have w2:(Lit.int .u64 (h:Int)).wf=true:=WalkArith.wf_u64 (by omega)
 have w3:(Lit.int .u64 (l:Int)).wf=true:=WalkArith.wf_u64 (by omega)
 have kt:Tryz.prog.keyType 30=true:=by kernel_rfl
 have c2:Tryz.prog.cellsOf 30=2:=by kernel_rfl
 have c4:Tryz.prog.cellsOf 28=1:=by kernel_rfl
 have n1:Tryz.prog.types.size+1=(Tryz.prog.types.size - 1)+2:=by have:1<=Tryz.prog.types.size:=of_decide_eq_true (by kernel_rfl);omega
 have k2:∀m,Tryz.prog.keyLits (m+1) 28 [.int .u64 (h:Int)]=some [.int .u64 (h:Int)]:=by intro m;simp [Program.keyLits,Tryz.underlying28,w2]
 have k3:∀m,Tryz.prog.keyLits (m+1) 28 [.int .u64 (l:Int)]=some [.int .u64 (l:Int)]:=by intro m;simp [Program.keyLits,Tryz.underlying28,w3]
 have k4:∀m,Tryz.prog.keyLits (m+2) 30 [.int .u64 (h:Int),.int .u64 (l:Int)]=some [.int .u64 (h:Int),.int .u64 (l:Int)]:=by
  intro m;unfold Program.keyLits;rw [Tryz.underlying30];simp [c2,c4,k2,k3]
 have hf:(jj h l).formed Tryz.prog 30=true:=by
  simp [Value.formed,Tryz.underlying30,c2]
 refine⟨.string (keyBytes [.int .u64 (h:Int),.int .u64 (l:Int)]),?_⟩
 unfold keyOf;rw [Tryz.underlying30];simp only
 rw [kt,hf,n1,show (jj h l).cells.toList=[.int .u64 (h:Int),.int .u64 (l:Int)] from rfl,k4]
 rfl
theorem mapM_some {α β:Type}{f:α->Option β}:∀(l:List α),(∀x∈l,∃y,f x=some y)->∃ys,l.mapM f=some ys
 | [],_=>⟨[],by simp⟩
 | x::l,h=>by
  obtain⟨y,hy⟩:=h x List.mem_cons_self
  obtain⟨ys,hys⟩:=mapM_some l (λz hz=>h z (List.mem_cons_of_mem _ hz))
  exact⟨y::ys,by simp [List.mapM_cons,hy,hys]⟩
abbrev dk (F:List Nat):Value:=.agg (aN F).toArray
theorem uc (hl:F.length=24)(hs:∀x∈F,x<256):Kv 249 (dk F):=by
 have kt:Tryz.prog.keyType 249=true:=by kernel_rfl
 have c2:Tryz.prog.cellsOf 249=24:=by kernel_rfl
 have c4:Tryz.prog.cellsOf 5=1:=by kernel_rfl
 have n1:Tryz.prog.types.size+1=(Tryz.prog.types.size - 1)+2:=by have:1<=Tryz.prog.types.size:=of_decide_eq_true (by kernel_rfl);omega
 have k4:∀m,∃ls,Tryz.prog.keyLits (m+2) 249 (aN F)=some ls:=by
  intro m;obtain⟨ys,hys⟩:=mapM_some (f:=λi=>Tryz.prog.keyLits (m+1) 5 (((aN F).drop (i*1)).take 1)) (List.range 24) (λi hi=>by
   have hi':i<F.length:=by rw [hl];exact List.mem_range.1 hi
   have hb:=hs F[i] (List.getElem_mem hi')
   have hw:(Lit.int .u8 (F[i]:Int)).wf=true:=WalkArith.wf_u8 (by omega)
   have e:((aN F).drop (i*1)).take 1=[.int .u8 (F[i]:Int)]:=by
    rw [Nat.mul_one,List.drop_eq_getElem_cons (by rw [ao];exact hi')]
    simp [aN]
   refine⟨[.int .u8 (F[i]:Int)],?_⟩
   rw [e];simp [Program.keyLits,Tryz.underlying5,hw])
  refine⟨ys.flatten,?_⟩
  unfold Program.keyLits;rw [Tryz.underlying249];simp only [c2,c4,ao,hl,if_true];rw [hys];rfl
 have hf:(dk F).formed Tryz.prog 249=true:=by
  simp [Value.formed,Tryz.underlying249,c2,ao,hl]
 obtain⟨ls,hls⟩:=k4 (Tryz.prog.types.size - 1)
 refine⟨.string (keyBytes ls),?_⟩
 unfold keyOf;rw [Tryz.underlying249];simp only
 rw [kt,hf,n1,show (dk F).cells.toList=aN F from by simp [Value.cells],hls]
 rfl
theorem CT (h:aN F=aN G):F=G:=by
 unfold aN at h;refine List.map_inj_right (f:=λ(n:Nat)=>Value.int .u8 (n:Int)) (λa b e=>?_) |>.1 h
 simp at e
 omega
theorem iQ (h:dk F=dk G):F=G:=CT (by simpa using h)
theorem Ck {a c d:Nat}(h:jj a b=jj c d):a=c/\b=d:=by
 simp at h
 omega
structure Cp where
 o:Int
 h:Nat
 l:Nat
def Cp.eY (c:Cp):Prop:=bQ c.o/\nv c.h/\nv c.l
abbrev dw (c:Cp):Value:=.agg #[ab c.o,ai (c.h:Int),ai (c.l:Int)]
def dm (c:Cp):Bool:=decide (0<=c.o/\c.o<=4611686018427387904)
def bP (c:Cp):List Nat:=bj c.o.toNat 8++bj c.l 8++bj c.h 8
theorem cG (c:Cp):(bP c).length=24:=by simp [bP,aW]
theorem fp (c:Cp):∀x∈bP c,x<256:=by
 intro x hx;simp only [bP,List.mem_append] at hx;rcases hx with (hx|hx)|hx<;>exact gM _ _ x hx
def zF:List Nat:=List.replicate 24 0
def mz (c:Cp):List Nat:=if dm c=true then bP c else zF
theorem tj:(Tryz.prog.info? 249).map (·.size)=some 24:=by kernel_rfl
theorem j6 (h:w.rangeAt b o L)(hl:L.length=24):(Instr.loadAt 249 (.pointer (some ⟨b,o,none⟩))).run Tryz.prog w=.ok (.agg L.toArray) w :=
 run_loadAt_mid w b o 249 L _ h Tryz.underlying249 rfl (by rw [tj,hl])
theorem pA (h:w.there b o 24)(hl:L.length=24)(h1:∀v∈L,v.oneCell'=true):(Instr.storeAt 249 (.pointer (some ⟨b,o,none⟩)) (.agg L.toArray)).run Tryz.prog w=.ok () (w.setCells b o L) :=
 run_storeAt_mid w b o 249 L.toArray (by simpa [hl] using h) (by rw [tj];simp [hl]) (all_oneCell_toArray h1)
theorem Hp (h:w.rangeAt b o L)(hl:L.length=24):(loadVar 249 ⟨b,o,none⟩).run Tryz.prog w=.ok (.agg L.toArray) w :=
 run_loadVar_mid w b o 249 L _ h Tryz.underlying249 rfl (by rw [tj,hl])
theorem ue (o:Int)(h l:Nat):mF 1 ⟨0,o,h,l,[],0⟩=dm ⟨o,h,l⟩:=by
 rw [AL rfl];have e1:wi 1 0 10=true:=by decide
 have e2:wi 0 0 65535=true:=by decide
 have e3:yR (DD 1 ⟨0,o,h,l,[],0⟩)=true:=by simp [DD,yR]
 rw [e1,e3];simp only [e2,dm,wi];by_cases h1:0<=o<;>by_cases h2:o<=4611686018427387904<;>simp [h1,h2]
theorem BG (o:Int)(h l:Nat):CI 1 ⟨0,o,h,l,[],0⟩=[0,0]++bP ⟨o,h,l⟩:=by
 rw [DC rfl,sd _ (.inl rfl)];rfl
theorem fz (c:Cp)(hc:c.eY)(w:World) :
  Calls Tryz.prog 170 #[dw c] w λe w'=>e=.returned (.tuple #[dk (mz c),.bool (dm c)])/\Below w.heap.size w w':=by
 obtain⟨o,h,l⟩:=c
 obtain⟨W,hW⟩:∃W,W=(w.alloc (Obj.cells #[ab o,ai (h:Int),ai (l:Int)] 37)).alloc (Obj.cells (aN zF).toArray 249):=⟨_,rfl⟩
 have hB:Below w.heap.size w W:=by rw [hW];exact aB _ _ _
 have OL:Hid (Bx W (w.heap.size+1) (aN zF)):=by rw [hW];have:=Bx.new (w.alloc (Obj.cells #[ab o,ai (h:Int),ai (l:Int)] 37)) (aN zF) 249;simp at this;exact this
 have c0:W.cell? ⟨w.heap.size,0,none⟩=some (ab o):=by rw [hW];simp [go_sem]
 have c1:W.cell? ⟨w.heap.size,1,none⟩=some (ai (h:Int)):=by rw [hW];simp [go_sem]
 have c2:W.cell? ⟨w.heap.size,2,none⟩=some (ai (l:Int)):=by rw [hW];simp [go_sem]
 have HB:=ae hB
 have hW2:W=(w.alloc (Obj.cells #[ab o,ai (h:Int),ai (l:Int)] 37)).alloc (Obj.cells #[.int .u8 0,.int .u8 0,.int .u8 0,.int .u8 0,.int .u8 0,.int .u8 0,.int .u8 0,.int .u8 0,.int .u8 0,.int .u8 0,.int .u8 0,.int .u8 0,.int .u8 0,.int .u8 0,.int .u8 0,.int .u8 0,.int .u8 0,.int .u8 0,.int .u8 0,.int .u8 0,.int .u8 0,.int .u8 0,.int .u8 0,.int .u8 0] 249):=hW
 have HW:=ae hW2
 have hR:Rr W (rC ⟨0,o,h,l,[],0⟩ ⟨none,0,0⟩) ⟨0,o,h,l,[],0⟩:=⟨⟨none,0,0⟩,rfl,bh W,hc.2.1,hc.2.2⟩
 clear hB hW hW2;cases hf:dm ⟨o,h,l⟩ with
 | true =>
  have hA:=vF 1 _ _ W hR (by rw [ue];exact hf)
  rw [BG] at hA;have HA:=ae hA
  have eF:mz ⟨o,h,l⟩=bP ⟨o,h,l⟩:=by unfold mz;rw [if_pos hf]
  rw [eF];have O1:=ae (cG ⟨o,h,l⟩)
  generalize bP ⟨o,h,l⟩=F at HA O1 ⊢
  clear hA hR hf eF;go_enter Tryz.func170,Tryz.ntmps170
  go_upto_region 1 with fail
  rw [<-HW.out];go_upto_region 2 with (first|(go_at_call 251;refine HA.out.mono ?_;rintro x w2 ⟨a2,n2,k2,rfl,ho2,hb2⟩;have O0:=ae ho2;have OH:=ae hb2;clear ho2 hb2))
  have hn2:n2=26:=by rw [<-O0.out.len,List.length_append,O1.out];rfl
  subst hn2;obtain⟨gb,go,rfl,hcell⟩:=O0.out.read.plain (by omega)
  have hcap:=O0.out.read.cap_
  have Xs:Hid (w2.rangeAt gb (go+2) (aN F)):=λj v hv=>by
   have hj:=(List.getElem?_eq_some_iff.1 hv).1
   rw [ao] at hj;have:=hcell (j+2) (by rw [List.length_append];simp;omega)
   rw [show go+2+j=go+(j+2) by omega,this];rw [<-hv];simp [aN,hj]
  have O4:=ae (j6 Xs.out (by rw [ao];exact O1.out))
  have OZ:=ae (OL.out.later OH.out)
  have PL:=ae (pA (L:=aN F) (by have:=OZ.out.there;rwa [ao,show zF.length=24 from rfl] at this) (by rw [ao];exact O1.out) (bJ F))
  have hci:(26:Int)<=(k2:Int):=by omega
  have hk2:¬k2=2:=by omega
  have harr:(Instr.arrayAt 249 (.slice (some ⟨gb,go+2,none⟩) 24 (k2 - 2))).run Tryz.prog w2=.ok (.pointer (some ⟨gb,go+2,none⟩)) w2:=by
   simp [Instr.arrayAt,run_underlying Tryz.underlying249]
  clear hcell c0 c1 c2;go_wp2_with (first|((with_reducible refine aJ O4.out ?_ ?_);(· rfl))|((with_reducible refine a_ PL.out ?_ ?_ ?_);(· rfl);(· rfl)))
  have hx3:=OZ.out.set (M:=aN F) (by rw [ao,ao,O1.out];rfl)
  have hlv:=Hp hx3.range (by rw [ao];exact O1.out)
  exact bodyPost_ret (v:=.tuple #[dk F,.bool true]) (by simp [results,Tryz.results170,asAddr,Act.put,hlv]) rfl ⟨rfl,aj.below (aa HB.out OH.out) (au (S:=(·=w.heap.size+1)) rfl (aN F) 0 (aj.refl _ _)) (λk hk=>by omega)⟩
 | false =>
  have HA:=ae (sx 1 _ _ W hR (by rw [ue];exact hf))
  have eF:mz ⟨o,h,l⟩=zF:=by unfold mz;rw [if_neg (by rw [hf];simp)]
  rw [eF];clear hR hf eF;go_enter Tryz.func170,Tryz.ntmps170
  go_upto_region 1 with fail
  rw [<-HW.out];go_upto_region 2 with (first|(go_at_call 251;refine HA.out.mono ?_;rintro x w2 ⟨rfl,hb2⟩;have OH:=ae hb2;clear hb2))
  have OZ:=ae (OL.out.later OH.out)
  have PL:=ae (pA (L:=aN zF) (by have:=OZ.out.there;rwa [ao,show zF.length=24 from rfl] at this) rfl (bJ zF))
  clear c0 c1 c2;go_wp2_with (first|((with_reducible refine a_ PL.out ?_ ?_ ?_);(· rfl);(· rfl)))
  have hx3:=OZ.out.set (M:=aN zF) rfl
  have hlv:=Hp hx3.range rfl
  exact bodyPost_ret (v:=.tuple #[dk zF,.bool false]) (by simp [results,Tryz.results170,asAddr,Act.put,hlv]) rfl ⟨rfl,aj.below (aa HB.out OH.out) (au (S:=(·=w.heap.size+1)) rfl (aN zF) 0 (aj.refl _ _)) (λk hk=>by omega)⟩
end Go.Proofs.YtmhinfbkmjdgfaaGreatDoor.B
