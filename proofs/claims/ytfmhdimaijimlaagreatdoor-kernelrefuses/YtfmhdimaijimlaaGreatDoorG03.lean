import Derived.Test.YtfmhdimaijimlaaGreatDoorG01
import Derived.BigRegion
set_option linter.unusedVariables false
set_option linter.unusedSimpArgs false
set_option maxRecDepth 1000000
set_option maxHeartbeats 8000000
namespace Go.Proofs.YtfmhdimaijimlaaGreatDoor.H
open Go.RowKit
theorem step_val (h v:Nat)(hh:h<B64)(hv:v<B64) :
  bits .xor .u64 (IntKind.u64.wrap (bits .xor .u64 (h:Int) (v:Int)*11400714819323198485)) (IntKind.u64.wrap (bits .xor .u64 (h:Int) (v:Int)*11400714819323198485) / 536870912)=(stepN h v:Int):=by
 have e1:IntKind.u64.wrap (bits .xor .u64 (h:Int) (v:Int)*11400714819323198485)=(mulN (h ^^^ v):Int):=by
  rw [u64_xor_nat h v hh hv,IntKind.wrap_u64]
  unfold mulN KF B64
  omega
 have e2:((mulN (h ^^^ v):Nat):Int) / 536870912=((mulN (h ^^^ v) / 2 ^ 29:Nat):Int):=by omega
 rw [e1,e2,u64_xor_nat _ _ (mulN_lt _) (Nat.lt_of_le_of_lt (Nat.div_le_self _ _) (mulN_lt _))]
 rfl
theorem step_any (h v:Nat)(w:World)(hh:h<B64)(hv:v<B64) :
  Calls Tryz.prog 284 #[.int .u64 (h:Int),.int .u64 (v:Int)] w fun e w'=>e=.returned (.int .u64 (stepN h v:Int))∧w'=w:=by
 have HS:Hid _:=step_val h v hh hv
 go_enter Tryz.func284,Tryz.ntmps284
 go_wp2
 go_ret
 exact⟨ret_int HS.out,rfl⟩
theorem u64_low (h n:Nat)(hh:h<B64)(hn:n≤63) :
  bits .and .u64 (h:Int) (IntKind.u64.wrap (IntKind.u64.wrap (2 ^ n) - 1))=((h%2 ^ n:Nat):Int):=by
 have h2:(2:Nat) ^ n≤2 ^ 63:=Nat.pow_le_pow_right (by omega) hn
 have hp:0<(2:Nat) ^ n:=Nat.two_pow_pos n
 have e1:((2:Int) ^ n)=((2 ^ n:Nat):Int):=by simp
 have e2:IntKind.u64.wrap (IntKind.u64.wrap (2 ^ n) - 1)=((2 ^ n - 1:Nat):Int):=by
  rw [e1,IntKind.wrap_u64,IntKind.wrap_u64]
  omega
 rw [e2,u64_and_nat _ _ hh (by omega),Nat.and_two_pow_sub_one_eq_mod]
theorem lowN_none {h:Nat}{k:Int}(h1:k≤0):lowN h k=0:=by unfold lowN;rw [if_pos h1]
theorem lowN_all {h:Nat}{k:Int}(h1:64≤k):lowN h k=h:=by unfold lowN;rw [if_neg (by omega),if_pos h1]
theorem lowN_some {h:Nat}{k:Int}(h1:¬k≤0)(h2:¬64≤k):lowN h k=h%2 ^ k.toNat:=by unfold lowN;rw [if_neg h1,if_neg h2]
theorem lowest_any (h:Nat)(k:Int)(w:World)(hh:h<B64) :
  Calls Tryz.prog 285 #[.int .u64 (h:Int),.int .i64 k] w fun e w'=>e=.returned (.int .u64 (lowN h k:Int))∧w'=w:=by
 by_cases h1:k≤0
 ·rw [lowN_none h1]
  go_enter Tryz.func285,Tryz.ntmps285
  go_wp2
  go_ret
  exact⟨rfl,rfl⟩
 ·by_cases h2:64≤k
  ·rw [lowN_all h2]
   go_enter Tryz.func285,Tryz.ntmps285
   go_wp2
   go_ret
   exact⟨rfl,rfl⟩
  ·rw [lowN_some h1 h2]
   have HL:Hid _:=u64_low h k.toNat hh (by omega)
   go_enter Tryz.func285,Tryz.ntmps285
   go_wp2
   go_ret
   exact⟨ret_int HL.out,rfl⟩
def objN (o:Int):Nat:=(o%18446744073709551616).toNat
theorem objN_lt (o:Int):objN o<B64:=by unfold objN B64;omega
theorem objN_val (o:Int):IntKind.u64.wrap o=(objN o:Int):=by rw [IntKind.wrap_u64];unfold objN;omega
def HashRel (W:World)(x1 x2 x3:Nat)(s t:Value)(w':World):Prop :=
 w'=W∧((t=.int .i64 0∧s=.int .u64 5903417616801668165)∨(t=.int .i64 1∧s=.int .u64 (x1:Int))∨(t=.int .i64 2∧s=.int .u64 (x2:Int))∨(t=.int .i64 3∧s=.int .u64 (x3:Int)))
theorem step_at {y x:Int}{h v:Nat}(w:World)(r:Nat)(hr:r=stepN h v)(hy:y=(h:Int))(hx:x=(v:Int))(hh:h<B64)(hv:v<B64) :
  Calls Tryz.prog 284 #[.int .u64 y,.int .u64 x] w fun e w'=>e=.returned (.int .u64 (r:Int))∧w'=w:=by
 subst hy hx hr;exact step_any h v w hh hv
theorem start_val:(5903417616801668165:Int)=((5903417616801668165:Nat):Int):=rfl
theorem start_lt:(5903417616801668165:Nat)<B64:=by decide
theorem hash_walk (o:Int)(n a b x1 x2 x3:Nat)(k:Int)(w:World)(ha:a<B64)(hb:b<B64)(hn:n<B64)
  (h1:x1<B64) (h2:x2<B64) (h3:x3<B64) (ho:Hid (IntKind.u64.wrap o=(n:Int))) (e1:Hid (x1=stepN 5903417616801668165 n)) (e2:Hid (x2=stepN x1 a)) (e3:Hid (x3=stepN x2 b)) :
  Calls Tryz.prog 282 #[.int .i64 o,.agg #[.int .u64 (a:Int),.int .u64 (b:Int)],.int .i64 k] w fun e w'=>e=.returned (.int .u64 (lowN x3 k:Int))∧Below w.heap.size w w':=by
 go_enter Tryz.func282,Tryz.ntmps282
 go_wp2
 go_step3
 go_wp2
 go_step3
 go_wp2
 go_loopw [7,8] (HashRel (w.alloc (Obj.cells #[.int .u64 (a:Int),.int .u64 (b:Int)] 31)) x1 x2 x3) (fun _ t _=>(3 - intOf t).toNat)
 case atStart=>exact⟨rfl,.inl ⟨rfl,rfl⟩⟩
 case round =>
  obtain⟨rfl,⟨rfl,rfl⟩|⟨rfl,rfl⟩|⟨rfl,rfl⟩|⟨rfl,rfl⟩⟩:=hrel
  ·go_wp2_with (first|(go_at_call 284;refine (step_at _ x1 e1.out start_val ho.out start_lt hn).mono ?_;rintro e w1 ⟨rfl,rfl⟩))
   go_roundw
   case rel=>exact⟨rfl,.inr (.inl ⟨rfl,rfl⟩)⟩
   case measure=>simp [intOf]
  ·go_wp2_with (first|(go_at_call 284;refine (step_at _ x2 e2.out rfl rfl h1 ha).mono ?_;rintro e w1 ⟨rfl,rfl⟩))
   go_roundw
   case rel=>exact⟨rfl,.inr (.inr (.inl ⟨rfl,rfl⟩))⟩
   case measure=>simp [intOf]
  ·go_wp2_with (first|(go_at_call 284;refine (step_at _ x3 e3.out rfl rfl h2 hb).mono ?_;rintro e w1 ⟨rfl,rfl⟩))
   go_roundw
   case rel=>exact⟨rfl,.inr (.inr (.inr ⟨rfl,rfl⟩))⟩
   case measure=>simp [intOf]
  ·go_wp2_with (first|(go_at_call 285;refine (lowest_any _ _ _ h3).mono ?_;rintro e w1 ⟨rfl,rfl⟩))
   try rw [Exit.noGoto_ret]
   go_ret
   exact⟨rfl,below1 _ _⟩
theorem hash_any (o:Int)(a b:Nat)(k:Int)(w:World)(ha:a<B64)(hb:b<B64) :
  Calls Tryz.prog 282 #[.int .i64 o,.agg #[.int .u64 (a:Int),.int .u64 (b:Int)],.int .i64 k] w fun e w'=>e=.returned (.int .u64 (lowN (hashN (objN o) a b) k:Int))∧Below w.heap.size w w' :=
 hash_walk o (objN o) a b _ _ (hashN (objN o) a b) k w ha hb (objN_lt o) (stepN_lt _ _) (stepN_lt _ _) (hashN_lt _ _ _) (objN_val o) rfl rfl rfl
end Go.Proofs.YtfmhdimaijimlaaGreatDoor.H
namespace Go.Proofs.YtfmhdimaijimlaaGreatDoor.H.I
open Go.RowKit
abbrev Q:=Pl Int
structure Pa (w:World)(b o:Nat)(p:Q):Prop where
 c0:w.cell? ⟨b,o,none⟩=some (.int .i64 p.k)
 c1:w.cell? ⟨b,o+1,none⟩=some (.int .i64 p.c.1)
 c2:w.cell? ⟨b,o+2,none⟩=some (.int .u64 (p.c.2.1:Int))
 c3:w.cell? ⟨b,o+3,none⟩=some (.int .u64 (p.c.2.2:Int))
 c4:w.cell? ⟨b,o+4,none⟩=some (.int .i64 p.v)
theorem Pa.but {S:Nat→Prop}{w w':World}{b o:Nat}{p:Q}(hb:But S w w')(h:Pa w b o p)(hn:¬S b):Pa w' b o p :=
 ⟨cb_ hb h.c0 hn,cb_ hb h.c1 hn,cb_ hb h.c2 hn,cb_ hb h.c3 hn,cb_ hb h.c4 hn⟩
structure Tm (w:World)(g gb:Nat)(kn mo:Nat)(li sp:Int)(N:Nat)(L:List Q):Prop where
 a0:w.cell? ⟨g,0,none⟩=some (.slice (some ⟨gb,0,none⟩) N N)
 a1:w.cell? ⟨g,1,none⟩=some (.int .i64 (kn:Int))
 a2:w.cell? ⟨g,2,none⟩=some (.int .i64 (mo:Int))
 a3:Lies w ⟨g,3,none⟩ (.int .i64 li)
 a4:Lies w ⟨g,4,none⟩ (.int .i64 sp)
 fr:∀j,w.frozen? ⟨gb,j,none⟩=false
 at_:∀(i:Nat) (p:Q),L[i]?=some p→Pa w gb (i*5) p
 ne:g≠gb
 len:L.length=N
 pos:0<N
 big:N≤1024
 ok:∀(i:Nat) (p:Q),L[i]?=some p→p.c.2.1<B64∧p.c.2.2<B64
theorem Tm.lt {w:World}{g gb kn mo:Nat}{li sp:Int}{N:Nat}{L:List Q}(h:Tm w g gb kn mo li sp N L):g<w.heap.size:=World.block_lt_of_cell? _ _ h.a1
theorem Tm.lt2 {w:World}{g gb kn mo:Nat}{li sp:Int}{N:Nat}{L:List Q}(h:Tm w g gb kn mo li sp N L):gb<w.heap.size:=by
 obtain⟨p,hp⟩:=get_some (L:=L) (i:=0) (by rw [h.len];exact h.pos)
 exact World.block_lt_of_cell? _ _ (h.at_ 0 p hp).c0
theorem Tm.but {S:Nat→Prop}{w w':World}{g gb kn mo:Nat}{li sp:Int}{N:Nat}{L:List Q}(hb:But S w w')(h:Tm w g gb kn mo li sp N L)(h1:¬S g)(h2:¬S gb):Tm w' g gb kn mo li sp N L :=
 ⟨cb_ hb h.a0 h1,cb_ hb h.a1 h1,cb_ hb h.a2 h1,h.a3.but hb h1,h.a4.but hb h1,fun j=>by rw [World.frozen?_of_block (w:=w) (hb.block gb h.lt2 h2)];exact h.fr j,fun i p hp=>(h.at_ i p hp).but hb h2,h.ne,h.len,h.pos,h.big,h.ok⟩
theorem Tm.later {w w':World}{g gb kn mo:Nat}{li sp:Int}{N:Nat}{L:List Q}(hb:Below w.heap.size w w')(h:Tm w g gb kn mo li sp N L):Tm w' g gb kn mo li sp N L:=h.but (S:=fun _=>False) (But.of hb) (fun h=>h) (fun h=>h)
theorem Tm.alloc {w:World}{g gb kn mo:Nat}{li sp:Int}{N:Nat}{L:List Q}(h:Tm w g gb kn mo li sp N L)(o:Obj):Tm (w.alloc o) g gb kn mo li sp N L:=h.later (below1 _ _)
def hm (kn N:Nat)(c:Cp):Nat:=lowN (hashN (objN c.1) c.2.1 c.2.2) (kn:Int)%N
theorem hm_lt {kn N:Nat}(c:Cp)(h:0<N):hm kn N c<N:=Nat.mod_lt _ h
theorem cast_mod (x N:Nat)(hx:x<B64)(h:0<N)(hN:N≤1024):IntKind.i64.wrap ((x:Int)%(N:Int))=((x%N:Nat):Int):=by
 have h2:x%N<N:=Nat.mod_lt _ h
 rw [←Int.natCast_emod,IntKind.wrap_i64]
 omega
theorem next_any {w:World}{g gb kn mo:Nat}{li sp:Int}{N:Nat}{L:List Q}(h:Tm w g gb kn mo li sp N L)(at_:Nat)(ha:at_<N) :
  Calls Tryz.prog 280 #[.pointer (some ⟨g,0,none⟩),.int .i64 (at_:Int)] w fun e w'=>e=.returned (.int .i64 (((at_+1)%N:Nat):Int))∧w'=w:=by
 have x:=h.a0
 have hp:=h.pos
 have hb:=h.big
 have HE:Hid (((at_+1)%N:Nat)=((((at_+1:Nat):Int).tmod (N:Int)))):=by unfold Hid;rw [Int.tmod_eq_emod_of_nonneg (by omega)];rfl
 clear h
 go_enter Tryz.func280,Tryz.ntmps280
 go_wp2
 go_ret
 exact⟨ret_int (by rw [HE.out];rfl),rfl⟩
theorem rare_any {w:World}{g gb kn mo:Nat}{li:Int}{sp:Nat}{N:Nat}{L:List Q}(h:Tm w g gb kn mo li sp N L)(hs:sp≤1024) :
  Calls Tryz.prog 271 #[.pointer (some ⟨g,0,none⟩)] w fun e w'=>e=.returned (.bool (decide (4*sp<N)))∧Below w.heap.size w w':=by
 have x:=h.a0
 have y:=h.a4.1
 have hb:=h.big
 clear h
 go_enter Tryz.func271,Tryz.ntmps271
 go_wp2
 go_quiet (fail)
 go_wp2
 go_ret
 exact⟨rb_ (by simp;omega),below_drewN (Below.refl _ _) _⟩
theorem first_any {w:World}{g gb kn mo:Nat}{li sp:Int}{N:Nat}{L:List Q}(h:Tm w g gb kn mo li sp N L)(o:Int)(hi lo:Nat)(h1:hi<B64)(h2:lo<B64) :
  Calls Tryz.prog 279 #[.pointer (some ⟨g,0,none⟩),.agg #[.int .i64 o,.int .u64 (hi:Int),.int .u64 (lo:Int)]] w fun e w'=>e=.returned (.int .i64 (hm kn N (o,hi,lo):Int))∧Below w.heap.size w w':=by
 obtain⟨w1,hw1⟩:∃w1,w1=w.alloc (Obj.cells #[.int .i64 o,.int .u64 (hi:Int),.int .u64 (lo:Int)] 38):=⟨_,rfl⟩
 have hB1:Below w.heap.size w w1:=by rw [hw1];exact below1 _ _
 have hh:=h.later hB1
 have hC:Hid (∀U:World,Below w1.heap.size w1 U→(U.cell? ⟨w.heap.size,0,none⟩=some (.int .i64 o)∧U.cell? ⟨w.heap.size,1,none⟩=some (.int .u64 (hi:Int))∧U.cell? ⟨w.heap.size,2,none⟩=some (.int .u64 (lo:Int))∧U.cell? ⟨g,0,none⟩=some (.slice (some ⟨gb,0,none⟩) N N)∧U.cell? ⟨g,1,none⟩=some (.int .i64 (kn:Int)))∧Below w1.heap.size w1 U):=fun U hU =>
  ⟨⟨cell_later hU (by rw [hw1];simp [go_sem]),cell_later hU (by rw [hw1];simp [go_sem]),cell_later hU (by rw [hw1];simp [go_sem]),cell_later hU hh.a0,cell_later hU hh.a1⟩,hU⟩
 have hp:=h.pos
 have hb:=h.big
 have HX:Hid (lowN (hashN (objN o) hi lo) (kn:Int)<B64):=lowN_lt _ (hashN_lt _ _ _)
 have HM:Hid (hm kn N (o,hi,lo)=lowN (hashN (objN o) hi lo) (kn:Int)%N):=rfl
 have hH:=fun W=>hash_any o hi lo (kn:Int) W h1 h2
 generalize lowN (hashN (objN o) hi lo) (kn:Int)=x at HX HM hH
 have HR:=hid (cast_mod x N HX.out hp hb)
 have hu:IntKind.u64.wrap (N:Int)=(N:Int):=by rw [IntKind.wrap_u64];omega
 have hz:¬N=0:=by omega
 clear h hh
 go_enter Tryz.func279,Tryz.ntmps279
 go_wp2
 rw [←hw1]
 have HB1:=hid hB1
 clear hw1 hB1
 go_region_held3 (fun U=>(U.cell? ⟨w.heap.size,0,none⟩=some (.int .i64 o)∧U.cell? ⟨w.heap.size,1,none⟩=some (.int .u64 (hi:Int))∧U.cell? ⟨w.heap.size,2,none⟩=some (.int .u64 (lo:Int))∧U.cell? ⟨g,0,none⟩=some (.slice (some ⟨gb,0,none⟩) N N)∧U.cell? ⟨g,1,none⟩=some (.int .i64 (kn:Int)))∧Below w1.heap.size w1 U) (first|exact hC.out _ (Below.refl _ _).drew|exact hC.out _ hb2.out) (first|(go_at_call 282;refine (hH _).mono ?_;rintro e w2 ⟨rfl,hb2'⟩;have hb2:=hid (bc (Below.refl w1.heap.size w1).drew hb2')))
 go_wp2
 go_ret
 exact⟨ret_int (by rw [HM.out];exact HR.out),bc HB1.out (And.right (by assumption))⟩
end Go.Proofs.YtfmhdimaijimlaaGreatDoor.H.I
namespace Go.Proofs.YtfmhdimaijimlaaGreatDoor.H
open Go.RowKit
theorem below_drewN {k:Nat}{w W:World}(h:Below k w W)(q:Nat):Below k w (W.drewN q):=⟨h.os,h.tape,h.output,h.size,h.block⟩
structure Bx (w:World)(b:Nat)(o:Int)(hi lo:Nat):Prop where
 c0:w.cell? ⟨b,0,none⟩=some (.int .i64 o)
 c1:w.cell? ⟨b,1,none⟩=some (.int .u64 (hi:Int))
 c2:w.cell? ⟨b,2,none⟩=some (.int .u64 (lo:Int))
theorem Bx.new (w:World)(o:Int)(hi lo:Nat):Bx (w.alloc (Obj.cells #[.int .i64 o,.int .u64 (hi:Int),.int .u64 (lo:Int)] 38)) w.heap.size o hi lo :=
 ⟨by simp [go_sem],by simp [go_sem],by simp [go_sem]⟩
theorem Bx.but {S:Nat→Prop}{w w':World}{b:Nat}{o:Int}{hi lo:Nat}(hb:But S w w')(h:Bx w b o hi lo)(hn:¬S b):Bx w' b o hi lo:=⟨cb_ hb h.c0 hn,cb_ hb h.c1 hn,cb_ hb h.c2 hn⟩
theorem Bx.later {w w':World}{b:Nat}{o:Int}{hi lo:Nat}(hb:Below w.heap.size w w')(h:Bx w b o hi lo):Bx w' b o hi lo:=h.but (S:=fun _=>False) (But.of hb) (fun h=>h)
def cEq (a b c d e f:Int):Bool:=decide (a=d∧b=e∧c=f)
theorem eqlC (a b c d e f:Int)(w:World):(binOp .eql 38 (.agg #[.int .i64 a,.int .u64 b,.int .u64 c]) (.agg #[.int .i64 d,.int .u64 e,.int .u64 f])).run Tryz.prog w=.ok (.bool (cEq a b c d e f)) w:=by
 unfold cEq
 by_cases h1:a=d
 ·subst h1
  by_cases h2:b=e
  ·subst h2
   by_cases h3:c=f
   ·subst h3;simp [go_sem]
   ·simp [go_sem,h3]
  ·simp [go_sem,h2]
 ·simp [go_sem,h1]
end Go.Proofs.YtfmhdimaijimlaaGreatDoor.H
namespace Go.Proofs.YtfmhdimaijimlaaGreatDoor.H.I
open Go.RowKit
def FindRel (w:World)(h N:Nat)(L:List Q)(o:Int)(hi lo:Nat)(s t:Value)(w':World):Prop :=
 ∃d:Nat,d≤N∧s=.int .i64 (((h+d)%N:Nat):Int)∧t=.int .i64 (d:Int)∧(∀e,e<d→∀p:Q,L[(h+e)%N]?=some p→p.k=1→p.c≠(o,hi,lo))∧Below w.heap.size w w'∧Bx w' w.heap.size o hi lo
theorem find_any {w:World}{g gb kn mo:Nat}{li sp:Int}{N:Nat}{L:List Q}(h:Tm w g gb kn mo li sp N L)(hw:Way (hm kn N) (·≠0) L)(o:Int)(hi lo:Nat)(h1:hi<B64)(h2:lo<B64) :
  Calls Tryz.prog 270 #[.pointer (some ⟨g,0,none⟩),.agg #[.int .i64 o,.int .u64 (hi:Int),.int .u64 (lo:Int)]] w fun e w'=>((∃(i:Nat) (p:Q),L[i]?=some p∧p.k=1∧p.c=(o,hi,lo)∧e=.returned (.tuple #[.int .i64 (i:Int),.bool true]))∨((∀(i:Nat) (p:Q),L[i]?=some p→p.k=1→p.c≠(o,hi,lo))∧e=.returned (.tuple #[.int .i64 0,.bool false])))∧Below w.heap.size w w':=by
 have HH:=hid h
 have HW:=hid hw
 have hpos:=h.pos
 have hbig:=h.big
 have hlen:=hid h.len
 have hx0:=(h.alloc (Obj.cells #[.int .i64 o,.int .u64 (hi:Int),.int .u64 (lo:Int)] 38)).a0
 have hf:=fun (W:World) (hW:Tm W g gb kn mo li sp N L)=>first_any hW o hi lo h1 h2
 have hlt:=hid (hm_lt (kn:=kn) (o,hi,lo) hpos)
 obtain⟨hs,hE'⟩:∃hs,hs=hm kn N (o,hi,lo):=⟨_,rfl⟩
 rw [←hE'] at hf hlt
 have hE:=hid hE'
 clear hE'
 clear h hw
 go_enter Tryz.func270,Tryz.ntmps270
 go_upto_region 3 with (first|(go_at_call 279;refine (hf _ (HH.out.alloc _)).mono ?_;rintro e w2 ⟨rfl,hb2⟩;have HB2:=hid (bc (below1 _ _) hb2);have X0:=cell_later hb2 hx0;have HX:=hid ((Bx.new w o hi lo).later hb2);clear hb2))
 clear hx0
 go_loopw [6,16] (FindRel w hs N L o hi lo) (fun _ t _=>N - (intOf t).toNat)
 case atStart=>exact⟨0,Nat.zero_le _,by rw [Nat.add_zero,Nat.mod_eq_of_lt hlt.out],rfl,fun e he=>absurd he (Nat.not_lt_zero _),HB2.out,HX.out⟩
 case round =>
  obtain⟨d,hd,rfl,rfl,hno,hB,X⟩:=hrel
  have HNo:=hid hno
  clear hno
  by_cases hlt2:d<N
  ·have hT:=HH.out.later hB
   have hm1:(hs+d)%N<N:=Nat.mod_lt _ hpos
   obtain⟨p,hp⟩:=get_some (L:=L) (i:=(hs+d)%N) (by rw [hlen.out];exact hm1)
   have hP:=hT.at_ _ p hp
   have y0:=hT.a0
   have hnx:=hid (next_far hs d N)
   have HP:=hid hp
   clear hp
   obtain⟨c0,c1,c2,c3⟩:=(⟨hP.c0,hP.c1,hP.c2,hP.c3⟩:_∧_∧_∧_)
   obtain⟨b0,b1,b2⟩:=(⟨X.c0,X.c1,X.c2⟩:_∧_∧_)
   have HT:=hid hT
   clear hT hP
   generalize hat:(hs+d)%N=at_ at *
   have hme:p.k=0∨p.k=1∨(p.k≠0∧p.k≠1):=by omega
   rcases hme with hk|hk|⟨hk,hk'⟩
   ·rw [hk] at c0
    go_wp2
    refine bodyPost_ret (v:=.tuple #[.int .i64 0,.bool false]) (by simp [results,Tryz.results270,go_sem]) rfl ⟨.inr ⟨?_,rfl⟩,hB⟩
    have hq:L[(hm kn N (o,hi,lo)+d)%L.length]?=some p:=by rw [←hE.out,hlen.out,hat];exact HP.out
    exact HW.out.none (fun e he q hq'=>HNo.out e he q (by rw [hE.out];rw [hlen.out] at hq';exact hq')) hq hk
   ·rw [hk] at c0
    by_cases hc:p.c=(o,hi,lo)
    ·have hd1:cEq p.c.1 (p.c.2.1:Int) (p.c.2.2:Int) o (hi:Int) (lo:Int)=true:=by rw [hc];simp [cEq]
     have heq:=fun W=>eqlC p.c.1 (p.c.2.1:Int) (p.c.2.2:Int) o (hi:Int) (lo:Int) W
     simp only [hd1] at heq
     go_upto_region 7 with fail
     go_quiet (fail)
     go_wp2
     refine bodyPost_ret (v:=.tuple #[.int .i64 (at_:Int),.bool true]) (by simp [results,Tryz.results270,go_sem]) rfl ⟨.inl ⟨at_,p,HP.out,hk,hc,rfl⟩,?_⟩
     exact below_drewN hB _
    ·have hd1:cEq p.c.1 (p.c.2.1:Int) (p.c.2.2:Int) o (hi:Int) (lo:Int)=false:=by
      refine decide_eq_false fun hq=>hc ?_
      obtain⟨q1,q2,q3⟩:=hq
      exact Prod.ext q1 (Prod.ext (Int.ofNat.inj q2) (Int.ofNat.inj q3))
     have heq:=fun W=>eqlC p.c.1 (p.c.2.1:Int) (p.c.2.2:Int) o (hi:Int) (lo:Int) W
     simp only [hd1] at heq
     go_upto_region 7 with fail
     go_quiet (fail)
     go_wp2_with (first|(go_at_call 280;refine (next_any (HT.out.later (below_drewN (Below.refl _ _) _)) _ (by assumption)).mono ?_;rintro e w3 ⟨rfl,rfl⟩))
     refine⟨⟨d+1,by omega,by rw [←hnx.out];simp,by go_num,?_,below_drewN hB _,X.later (below_drewN (Below.refl _ _) _)⟩,by simp [intOf];omega⟩
     intro e he q hq hqk
     rcases Nat.lt_or_ge e d with h3|h3
     ·exact HNo.out e h3 q hq hqk
     ·obtain rfl:e=d:=by omega
      rw [hat,HP.out] at hq
      cases hq
      exact hc
   ·have hn0:(p.k==0)=false:=by simpa using hk
    have hn1:(p.k==1)=false:=by simpa using hk'
    go_upto_region 7 with fail
    go_quiet (fail)
    go_wp2_with (first|(go_at_call 280;refine (next_any (HT.out.later (below_drewN (Below.refl _ _) _)) _ (by assumption)).mono ?_;rintro e w3 ⟨rfl,rfl⟩))
    refine⟨⟨d+1,by omega,by rw [←hnx.out];simp,by go_num,?_,below_drewN hB _,X.later (below_drewN (Below.refl _ _) _)⟩,by simp [intOf];omega⟩
    intro e he q hq hqk
    rcases Nat.lt_or_ge e d with h3|h3
    ·exact HNo.out e h3 q hq hqk
    ·obtain rfl:e=d:=by omega
     rw [hat,HP.out] at hq
     cases hq
     exact absurd hqk hk'
  ·obtain rfl:d=N:=by omega
   go_wp2
   refine bodyPost_ret (v:=.tuple #[.int .i64 0,.bool false]) (by simp [results,Tryz.results270,go_sem]) rfl ⟨.inr ⟨?_,rfl⟩,hB⟩
   exact HW.out.none' (fun e he q hq'=>HNo.out e (by rw [←hlen.out];exact he) q (by rw [hE.out];rw [hlen.out] at hq';exact hq'))
theorem back {h d N:Nat}(hh:h<N)(hd:d<N):((h+d)%N+N - h)%N=d:=by
 rcases Nat.lt_or_ge (h+d) N with h1|h1
 ·rw [Nat.mod_eq_of_lt h1]
  have:h+d+N - h=d+N:=by omega
  rw [this,Nat.add_mod_right,Nat.mod_eq_of_lt hd]
 ·rw [Nat.mod_eq_sub_mod h1,Nat.mod_eq_of_lt (a:=h+d - N) (by omega)]
  have:h+d - N+N - h=d:=by omega
  rw [this,Nat.mod_eq_of_lt hd]
def OpenRel (w:World)(h N:Nat)(L:List Q)(s:Value)(w':World):Prop :=
 ∃d:Nat,d<N∧s=.int .i64 (((h+d)%N:Nat):Int)∧(∀e,e<d→∀p:Q,L[(h+e)%N]?=some p→p.k=1∨p.k=2)∧Below w.heap.size w w'
theorem open_any {w:World}{g gb kn mo:Nat}{li sp:Int}{N:Nat}{L:List Q}(h:Tm w g gb kn mo li sp N L)(hex:∃(i:Nat) (p:Q),L[i]?=some p∧p.k≠1∧p.k≠2)(o:Int)(hi lo:Nat)(h1:hi<B64)(h2:lo<B64) :
  Calls Tryz.prog 273 #[.pointer (some ⟨g,0,none⟩),.agg #[.int .i64 o,.int .u64 (hi:Int),.int .u64 (lo:Int)]] w fun e w'=>(∃(to_ d:Nat) (q:Q),d<N∧to_=(hm kn N (o,hi,lo)+d)%N∧L[to_]?=some q∧q.k≠1∧q.k≠2∧(∀e,e<d→∀p:Q,L[(hm kn N (o,hi,lo)+e)%N]?=some p→p.k=1∨p.k=2)∧e=.returned (.int .i64 (to_:Int)))∧Below w.heap.size w w':=by
 have HH:=hid h
 have hpos:=h.pos
 have hbig:=h.big
 have hlen:=hid h.len
 have hf:=fun (W:World) (hW:Tm W g gb kn mo li sp N L)=>first_any hW o hi lo h1 h2
 have hlt:=hid (hm_lt (kn:=kn) (o,hi,lo) hpos)
 generalize hm kn N (o,hi,lo)=hs at hf hlt ⊢
 obtain⟨i0,p0,hp0,hk0,hk0'⟩:=hex
 obtain⟨d0,hd0,hi0⟩:=far hlt.out (by rw [←hlen.out];exact get_lt hp0:i0<N)
 have H0:Hid (L[(hs+d0)%N]?=some p0):=by unfold Hid;rw [←hi0];exact hp0
 clear h hp0 hi0
 go_enter Tryz.func273,Tryz.ntmps273
 go_upto_region 2 with (first|(go_at_call 279;refine (hf _ (HH.out.alloc _)).mono ?_;rintro e w2 ⟨rfl,hb2⟩;have HB2:=hid (bc (below1 _ _) hb2);clear hb2))
 go_loopw [5] (OpenRel w hs N L) (fun t _=>N - ((intOf t).toNat+N - hs)%N)
 case atStart=>exact⟨0,by omega,by rw [Nat.add_zero,Nat.mod_eq_of_lt hlt.out],fun e he=>absurd he (Nat.not_lt_zero _),HB2.out⟩
 case round =>
  obtain⟨d,hd,rfl,hno,hB⟩:=hrel
  have HNo:=hid hno
  clear hno
  have hT:=HH.out.later hB
  have hm1:(hs+d)%N<N:=Nat.mod_lt _ hpos
  obtain⟨p,hp⟩:=get_some (L:=L) (i:=(hs+d)%N) (by rw [hlen.out];exact hm1)
  have c0:=(hT.at_ _ p hp).c0
  have y0:=hT.a0
  have hnx:=hid (next_far hs d N)
  have HP:=hid hp
  clear hp
  have HT:=hid hT
  clear hT
  have hle:d≤d0:=by
   rcases Nat.lt_or_ge d0 d with h3|h3
   ·have:=HNo.out d0 h3 p0 H0.out
    omega
   ·exact h3
  have hback:=hid (back hlt.out hd)
  generalize hat:(hs+d)%N=at_ at *
  have hme:p.k=1∨p.k=2∨(p.k≠1∧p.k≠2):=by omega
  by_cases hkk:p.k=1∨p.k=2
  ·have hlt3:d<d0:=by
    rcases Nat.lt_or_ge d d0 with h3|h3
    ·exact h3
    ·obtain rfl:d=d0:=by omega
     have:=H0.out
     rw [hat,HP.out] at this
     cases this
     omega
   have hfin:∀W,Below wr.heap.size wr W→OpenRel w hs N L (.int .i64 (((at_:Int)+1)%(N:Int))) W∧N - ((intOf (.int .i64 (((at_:Int)+1)%(N:Int)))).toNat+N - hs)%N<N - ((intOf (.int .i64 (at_:Int))).toNat+N - hs)%N:=by
    intro W hW
    have e1:((at_:Int)+1)%(N:Int)=(((hs+(d+1))%N:Nat):Int):=by rw [←hnx.out];simp
    rw [e1]
    refine⟨⟨d+1,by omega,rfl,?_,bc hB hW⟩,?_⟩
    ·intro e he q hq
     rcases Nat.lt_or_ge e d with h3|h3
     ·exact HNo.out e h3 q hq
     ·obtain rfl:e=d:=by omega
      rw [hat,HP.out] at hq
      cases hq
      exact hkk
    ·simp only [intOf,Int.toNat_natCast]
     rw [back hlt.out (by omega),hback.out]
     omega
   have HF:=hid hfin
   clear hfin hme
   rcases hkk with hk|hk
   ·rw [hk] at c0
    go_wp2_with (first|(go_at_call 280;refine (next_any HT.out _ (by assumption)).mono ?_;rintro e w3 ⟨rfl,rfl⟩))
    exact HF.out _ (Below.refl _ _)
   ·rw [hk] at c0
    go_wp2_with (first|(go_at_call 280;refine (next_any HT.out _ (by assumption)).mono ?_;rintro e w3 ⟨rfl,rfl⟩))
    exact HF.out _ (Below.refl _ _)
  ·have hn1:(p.k==1)=false:=by simp;omega
   have hn2:(p.k==2)=false:=by simp;omega
   have HK:=hid hkk
   clear hkk hme
   go_wp2
   go_ret
   exact⟨⟨at_,d,p,hd,hat.symm,HP.out,fun h=>HK.out (.inl h),fun h=>HK.out (.inr h),HNo.out,rfl⟩,hB⟩
theorem cell_ne {w:World}{b o o':Nat}{u v:Value}(h:w.cell? ⟨b,o,none⟩=some v)(hne:o≠o'):(w.setCell ⟨b,o',none⟩ u).cell? ⟨b,o,none⟩=some v:=by
 rw [World.cell?_setCell_other _ _ _ _ (fun e=>hne (by cases e;rfl))];exact h
theorem cell_nb {w:World}{b b' o o':Nat}{u v:Value}(h:w.cell? ⟨b,o,none⟩=some v)(hne:b≠b'):(w.setCell ⟨b',o',none⟩ u).cell? ⟨b,o,none⟩=some v:=by
 rw [World.cell?_setCell_other _ _ _ _ (fun e=>hne (by cases e;rfl))];exact h
theorem Tm.cell {w:World}{g gb kn mo:Nat}{li sp:Int}{N:Nat}{L L':List Q}{o:Nat}{u:Value}(h:Tm w g gb kn mo li sp N L)(hl:L'.length=N)(hok:∀(i:Nat) (p:Q),L'[i]?=some p→p.c.2.1<B64∧p.c.2.2<B64)
  (hat:∀(i:Nat) (p:Q),L'[i]?=some p→Pa (w.setCell ⟨gb,o,none⟩ u) gb (i*5) p):Tm (w.setCell ⟨gb,o,none⟩ u) g gb kn mo li sp N L' :=
 ⟨cell_nb h.a0 h.ne,cell_nb h.a1 h.ne,cell_nb h.a2 h.ne,h.a3.other (fun e=>h.ne (by cases e;rfl)),h.a4.other (fun e=>h.ne (by cases e;rfl)),fun j=>by simpa using h.fr j,hat,h.ne,hl,h.pos,h.big,hok⟩
theorem Pa.off {w:World}{b o o':Nat}{p:Q}{u:Value}(h:Pa w b o p)(hne:o'<o∨o+5≤o'):Pa (w.setCell ⟨b,o',none⟩ u) b o p :=
 ⟨cell_ne h.c0 (by omega),cell_ne h.c1 (by omega),cell_ne h.c2 (by omega),cell_ne h.c3 (by omega),cell_ne h.c4 (by omega)⟩
theorem Tm.setK {w:World}{g gb kn mo:Nat}{li sp:Int}{N:Nat}{L:List Q}{i:Nat}{p:Q}(h:Tm w g gb kn mo li sp N L)(hp:L[i]?=some p)(k:Int):Tm (w.setCell ⟨gb,i*5,none⟩ (.int .i64 k)) g gb kn mo li sp N (L.set i ⟨k,p.c,p.v⟩):=by
 refine h.cell (by rw [List.length_set];exact h.len) (fun j q hq=>?_) (fun j q hq=>?_)
 ·rcases get_set hq with ⟨rfl,rfl⟩|⟨_,h3⟩
  ·exact h.ok _ p hp
  ·exact h.ok _ _ h3
 ·rcases get_set hq with ⟨rfl,rfl⟩|⟨hne,h3⟩
  ·have hP:=h.at_ _ _ hp
   exact⟨World.cell?_setCell_same _ _ _ hP.c0,cell_ne hP.c1 (by omega),cell_ne hP.c2 (by omega),cell_ne hP.c3 (by omega),cell_ne hP.c4 (by omega)⟩
  ·exact (h.at_ _ _ h3).off (by omega)
def setP (w:World)(b o:Nat)(x:Q):World :=
 ((((w.setCell ⟨b,o,none⟩ (.int .i64 x.k)).setCell ⟨b,o+1,none⟩ (.int .i64 x.c.1)).setCell ⟨b,o+2,none⟩ (.int .u64 (x.c.2.1:Int))).setCell ⟨b,o+3,none⟩ (.int .u64 (x.c.2.2:Int))).setCell ⟨b,o+4,none⟩ (.int .i64 x.v)
theorem setP_but {S:Nat→Prop}{a w:World}(h:But S a w){b:Nat}(hb:S b)(o:Nat)(x:Q):But S a (setP w b o x) :=
 ((((h.setCell (p:=⟨b,o,none⟩) hb _).setCell (p:=⟨b,o+1,none⟩) hb _).setCell (p:=⟨b,o+2,none⟩) hb _).setCell (p:=⟨b,o+3,none⟩) hb _).setCell (p:=⟨b,o+4,none⟩) hb _
theorem Pa.set {w:World}{b o:Nat}{p:Q}(h:Pa w b o p)(x:Q):Pa (setP w b o x) b o x:=by
 have s0:=World.cell?_setCell_same w ⟨b,o,none⟩ (.int .i64 x.k) h.c0
 have s1:=World.cell?_setCell_same (w.setCell ⟨b,o,none⟩ (.int .i64 x.k)) ⟨b,o+1,none⟩ (.int .i64 x.c.1) (cell_ne h.c1 (by omega))
 have s2:=World.cell?_setCell_same ((w.setCell ⟨b,o,none⟩ (.int .i64 x.k)).setCell ⟨b,o+1,none⟩ (.int .i64 x.c.1)) ⟨b,o+2,none⟩ (.int .u64 (x.c.2.1:Int)) (cell_ne (cell_ne h.c2 (by omega)) (by omega))
 have s3:=World.cell?_setCell_same (((w.setCell ⟨b,o,none⟩ (.int .i64 x.k)).setCell ⟨b,o+1,none⟩ (.int .i64 x.c.1)).setCell ⟨b,o+2,none⟩ (.int .u64 (x.c.2.1:Int))) ⟨b,o+3,none⟩ (.int .u64 (x.c.2.2:Int)) (cell_ne (cell_ne (cell_ne h.c3 (by omega)) (by omega)) (by omega))
 unfold setP
 exact⟨cell_ne (cell_ne (cell_ne (cell_ne s0 (by omega)) (by omega)) (by omega)) (by omega),cell_ne (cell_ne (cell_ne s1 (by omega)) (by omega)) (by omega),cell_ne (cell_ne s2 (by omega)) (by omega),cell_ne s3 (by omega),World.cell?_setCell_same _ _ _ (cell_ne (cell_ne (cell_ne (cell_ne h.c4 (by omega)) (by omega)) (by omega)) (by omega))⟩
theorem Pa.setOff {w:World}{b o o':Nat}{p:Q}(h:Pa w b o p)(x:Q)(hne:o'+5≤o∨o+5≤o'):Pa (setP w b o' x) b o p:=by
 unfold setP
 exact ((((h.off (by omega)).off (by omega)).off (by omega)).off (by omega)).off (by omega)
theorem Tm.set {w:World}{g gb kn mo:Nat}{li sp:Int}{N:Nat}{L:List Q}{i:Nat}{p:Q}(h:Tm w g gb kn mo li sp N L)(hp:L[i]?=some p)(x:Q)(hx:x.c.2.1<B64∧x.c.2.2<B64):Tm (setP w gb (i*5) x) g gb kn mo li sp N (L.set i x):=by
 have hb:But (·=gb) w (setP w gb (i*5) x):=setP_but (S:=(·=gb)) (But.refl _ _) (b:=gb) (by rfl) _ _
 refine⟨cb_ hb h.a0 h.ne,cb_ hb h.a1 h.ne,cb_ hb h.a2 h.ne,h.a3.but hb h.ne,h.a4.but hb h.ne,fun j=>by have:=h.fr j;unfold setP;simpa using this,fun j q hq=>?_,h.ne,by rw [List.length_set];exact h.len,h.pos,h.big,fun j q hq=>?_⟩
 ·rcases get_set hq with ⟨rfl,rfl⟩|⟨hne,h3⟩
  ·exact (h.at_ _ _ hp).set _
  ·exact (h.at_ _ _ h3).setOff _ (by omega)
 ·rcases get_set hq with ⟨rfl,rfl⟩|⟨_,h3⟩
  ·exact hx
  ·exact h.ok _ _ h3
theorem Tm.live {w:World}{g gb kn mo:Nat}{li sp:Int}{N:Nat}{L:List Q}(h:Tm w g gb kn mo li sp N L)(v:Int):Tm (w.setCell ⟨g,3,none⟩ (.int .i64 v)) g gb kn mo v sp N L:=by
 have hb:But (·=g) w (w.setCell ⟨g,3,none⟩ (.int .i64 v)):=(But.refl (·=g) _).setCell (p:=⟨g,3,none⟩) (show g=g from rfl) _
 have hne:¬gb=g:=fun e=>h.ne e.symm
 exact⟨cell_ne h.a0 (by omega),cell_ne h.a1 (by omega),cell_ne h.a2 (by omega),h.a3.put,h.a4.other (fun e=>by cases e),fun j=>by simpa using h.fr j,fun i p hp=>(h.at_ i p hp).but hb hne,h.ne,h.len,h.pos,h.big,h.ok⟩
theorem Tm.spare {w:World}{g gb kn mo:Nat}{li sp:Int}{N:Nat}{L:List Q}(h:Tm w g gb kn mo li sp N L)(v:Int):Tm (w.setCell ⟨g,4,none⟩ (.int .i64 v)) g gb kn mo li v N L:=by
 have hb:But (·=g) w (w.setCell ⟨g,4,none⟩ (.int .i64 v)):=(But.refl (·=g) _).setCell (p:=⟨g,4,none⟩) (show g=g from rfl) _
 have hne:¬gb=g:=fun e=>h.ne e.symm
 exact⟨cell_ne h.a0 (by omega),cell_ne h.a1 (by omega),cell_ne h.a2 (by omega),h.a3.other (fun e=>by cases e),h.a4.put,fun j=>by simpa using h.fr j,fun i p hp=>(h.at_ i p hp).but hb hne,h.ne,h.len,h.pos,h.big,h.ok⟩
def In (g gb:Nat)(k:Nat):Prop:=k=g∨k=gb
end Go.Proofs.YtfmhdimaijimlaaGreatDoor.H.I
