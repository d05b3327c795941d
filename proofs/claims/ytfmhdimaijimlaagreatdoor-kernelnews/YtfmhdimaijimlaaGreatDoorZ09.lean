import Derived.Test.YtfmhdimaijimlaaGreatDoorZ08
set_option linter.all false
set_option maxRecDepth 1000000
set_option maxHeartbeats 8000000
open Go.Proofs.Tryz
variable {w w' w1 w2:Go.World}{n m k i j b g base kn:Nat}{a:Option Go.Addr}
namespace Go.Proofs.YtfmhdimaijimlaaGreatDoor.R
open Go.RowKit
def Jf (l:List Nat):List Value:=l.map λ(n:Nat)=>Value.int .i64 (n:Int)
structure RP (w:World)(base:Nat)(a:Option Addr)(n:Nat)(L:List Nat):Prop where
 len:L.length=n
 cells:∀j (hj:j<L.length),∃b,a=some ⟨b,0,none⟩/\base<=b/\w.cell? ⟨b,j,none⟩=some (.int .i64 ((L[j]:Nat):Int))
theorem RP.but {S:Nat->Prop}{W:World}{L:List Nat}(hb:ae S W w1)(h:RP W base a n L)(hS:∀k,base<=k->¬S k):RP w1 base a n L :=
 ⟨h.len,λj hj=>by
  obtain⟨b,hb1,hb2,hc⟩:=h.cells j hj
  exact⟨b,hb1,hb2,by rw [World.cell?_of_block (w:=W) (hb.block b (World.block_lt_of_cell? _ _ hc) (hS b hb2))];exact hc⟩⟩
theorem RP.later {W:World}{L:List Nat}(hb:Below W.heap.size W w1)(h:RP W base a n L):RP w1 base a n L:=h.but (S:=λ_=>False) (ae.of hb) (λ_ _ h=>h)
theorem RP.new (w:World)(t:TypeId)(A:Array Value)(L:List Nat)(hA:A=(Jf L).toArray):RP (w.alloc (.cells A t)) w.heap.size (some ⟨w.heap.size,0,none⟩) L.length L:=by
 subst hA
 exact⟨rfl,λj hj=>⟨_,rfl,Nat.le_refl _,by simp [go_sem,Jf,hj]⟩⟩
theorem j_ (op:Int)(w:World):Calls prog 99 #[.int .i64 op] w λe w'=>∃a n c,e=.returned (.slice a n c)/\RP w' w.heap.size a n (bq op)/\n<=5/\Below w.heap.size w w'/\∀k,aD a k->w.heap.size<=k:=by
 by_cases h:op=1
 ·subst h
  go_enter func99,ntmps99
  go_wp2
  go_ret
  exact⟨_,_,_,rfl,RP.new w 189 _ [0] rfl,by decide,ab _ _,λk ⟨x,hx,hk⟩=>by cases hx;exact Nat.le_of_eq hk⟩
 have b1:(op==1)=false:=by simpa using h
 have n1:Hid (¬op=1):=h
 clear h
 by_cases h:op=2
 ·subst h
  go_enter func99,ntmps99
  go_wp2
  go_ret
  exact⟨_,_,_,rfl,RP.new w 189 _ [1,2] rfl,by decide,ab _ _,λk ⟨x,hx,hk⟩=>by cases hx;exact Nat.le_of_eq hk⟩
 have b2:(op==2)=false:=by simpa using h
 have n2:Hid (¬op=2):=h
 clear h
 by_cases h:op=4
 ·subst h
  go_enter func99,ntmps99
  go_wp2
  go_ret
  exact⟨_,_,_,rfl,RP.new w 189 _ [1,2] rfl,by decide,ab _ _,λk ⟨x,hx,hk⟩=>by cases hx;exact Nat.le_of_eq hk⟩
 have b4:(op==4)=false:=by simpa using h
 have n4:Hid (¬op=4):=h
 clear h
 by_cases h:op=7
 ·subst h
  go_enter func99,ntmps99
  go_wp2
  go_ret
  exact⟨_,_,_,rfl,RP.new w 189 _ [1,2] rfl,by decide,ab _ _,λk ⟨x,hx,hk⟩=>by cases hx;exact Nat.le_of_eq hk⟩
 have b7:(op==7)=false:=by simpa using h
 have n7:Hid (¬op=7):=h
 clear h
 by_cases h:op=3
 ·subst h
  go_enter func99,ntmps99
  go_wp2
  go_ret
  exact⟨_,_,_,rfl,RP.new w 189 _ [1,2,4] rfl,by decide,ab _ _,λk ⟨x,hx,hk⟩=>by cases hx;exact Nat.le_of_eq hk⟩
 have b3:(op==3)=false:=by simpa using h
 have n3:Hid (¬op=3):=h
 clear h
 by_cases h:op=5
 ·subst h
  go_enter func99,ntmps99
  go_wp2
  go_ret
  exact⟨_,_,_,rfl,RP.new w 189 _ [1,3,2,5,6] rfl,by decide,ab _ _,λk ⟨x,hx,hk⟩=>by cases hx;exact Nat.le_of_eq hk⟩
 have b5:(op==5)=false:=by simpa using h
 have n5:Hid (¬op=5):=h
 clear h
 by_cases h:op=6
 ·subst h
  go_enter func99,ntmps99
  go_wp2
  go_ret
  exact⟨_,_,_,rfl,RP.new w 189 _ [1,3,2,5,7] rfl,by decide,ab _ _,λk ⟨x,hx,hk⟩=>by cases hx;exact Nat.le_of_eq hk⟩
 have b6:(op==6)=false:=by simpa using h
 have n6:Hid (¬op=6):=h
 clear h
 by_cases h:op=8
 ·subst h
  go_enter func99,ntmps99
  go_wp2
  go_ret
  exact⟨_,_,_,rfl,RP.new w 189 _ [8] rfl,by decide,ab _ _,λk ⟨x,hx,hk⟩=>by cases hx;exact Nat.le_of_eq hk⟩
 have b8:(op==8)=false:=by simpa using h
 have n8:Hid (¬op=8):=h
 clear h
 by_cases h:op=9
 ·subst h
  go_enter func99,ntmps99
  go_wp2
  go_ret
  exact⟨_,_,_,rfl,RP.new w 189 _ [9] rfl,by decide,ab _ _,λk ⟨x,hx,hk⟩=>by cases hx;exact Nat.le_of_eq hk⟩
 have b9:(op==9)=false:=by simpa using h
 have n9:Hid (¬op=9):=h
 clear h
 have E:Hid (bq op=[]):=by
  have:=n1.out;have:=n2.out;have:=n3.out;have:=n4.out;have:=n5.out;have:=n6.out;have:=n7.out;have:=n8.out;have:=n9.out
  unfold Hid bq
  rw [if_neg (by omega),if_neg (by omega),if_neg (by omega),if_neg (by omega),if_neg (by omega),if_neg (by omega),if_neg (by omega)]
 go_enter func99,ntmps99
 go_wp2
 go_ret
 exact⟨none,0,0,rfl,by rw [E.out];exact⟨rfl,λj hj=>absurd hj (by simp)⟩,by omega,Below.refl _ _,λk ⟨x,hx,hk⟩=>by cases hx⟩
end Go.Proofs.YtfmhdimaijimlaaGreatDoor.R
namespace Go.Proofs.YtfmhdimaijimlaaGreatDoor.R
open Go.RowKit
theorem fY (W:World)(cs:List Value)(t:TypeId):(W.alloc (.cells cs.toArray t)).rangeAt W.heap.size 0 cs:=by
 intro j v hv
 have hj:=(gS.1 hv)
 simp [go_sem,hv]
theorem eU (W:World)(b:Nat)(cs:List Value)(hb:b=W.heap.size)(hl:cs.length=13):(loadVar 45 ⟨b,0,none⟩).run prog (W.alloc (.cells cs.toArray 45))=.ok (.agg cs.toArray) (W.alloc (.cells cs.toArray 45)):=by
 subst hb
 exact run_loadVar_mid (P:=prog) _ _ 0 45 cs _ (fY W cs 45) underlying45 rfl (by rw [hl];kernel_rfl)
def wd (p:Nat)(d:Sl):Sl:=if p=7 then Sl.nil else d
def wg (p:Nat)(g:Sl):Sl:=if p=9 then Sl.nil else g
theorem Is.wo {c:Cl}{d g:Sl}(h:Is w c d g)(p:Nat):Is w (wo c p) (wd p d) (wg p g):=by
 obtain⟨op,au,size,obj,hi,lo,given,av,off,n,data,index,an⟩:=c
 unfold R.wo wd wg mv
 repeat' split
 all_goals first
  | omega
  | exact⟨h.1,h.2,h.3,h.4⟩
  | exact⟨h.1,h.2,(by show (0:Nat)<18446744073709551616;omega),(by show (0:Nat)<18446744073709551616;omega)⟩
  | exact⟨dY _,h.2,h.3,h.4⟩
  | exact⟨h.1,RI.nil _,h.3,h.4⟩
theorem Aj (c:Cl)(d g:Sl)(w:World):Calls prog 137 #[cV c d g,.int .i64 0] w λe w'=>e=.returned (cV (wo c 0) (wd 0 d) (wg 0 g))/\Below w.heap.size w w':=by
 obtain⟨op,au,size,obj,hi,lo,given,av,off,n,data,index,an⟩:=c
 obtain⟨da,dn,dc⟩:=d
 obtain⟨ga,gn,gc⟩:=g
 unfold cV
 show Calls _ _ _ _ λe w'=>e=.returned (.agg #[.int .i64 op,.int .i64 au,.int .i64 0,.int .i64 obj,.int .u64 (hi:Int),.int .u64 (lo:Int),.bool given,.int .i64 av,.int .i64 off,.int .i64 n,.slice da dn dc,.int .i64 index,.slice ga gn gc])/\Below w.heap.size w w'
 go_enter func137,ntmps137
 go_wp2
 exact bodyPost_ret (by simp [results,results137,asAddr,eU]) rfl ⟨rfl,aw _ _ _⟩
theorem zS (c:Cl)(d g:Sl)(w:World):Calls prog 137 #[cV c d g,.int .i64 1] w λe w'=>e=.returned (cV (wo c 1) (wd 1 d) (wg 1 g))/\Below w.heap.size w w':=by
 obtain⟨op,au,size,obj,hi,lo,given,av,off,n,data,index,an⟩:=c
 obtain⟨da,dn,dc⟩:=d
 obtain⟨ga,gn,gc⟩:=g
 unfold cV
 show Calls _ _ _ _ λe w'=>e=.returned (.agg #[.int .i64 op,.int .i64 au,.int .i64 size,.int .i64 0,.int .u64 (hi:Int),.int .u64 (lo:Int),.bool given,.int .i64 av,.int .i64 off,.int .i64 n,.slice da dn dc,.int .i64 index,.slice ga gn gc])/\Below w.heap.size w w'
 go_enter func137,ntmps137
 go_wp2
 exact bodyPost_ret (by simp [results,results137,asAddr,eU]) rfl ⟨rfl,aw _ _ _⟩
theorem Cd (c:Cl)(d g:Sl)(w:World):Calls prog 137 #[cV c d g,.int .i64 2] w λe w'=>e=.returned (cV (wo c 2) (wd 2 d) (wg 2 g))/\Below w.heap.size w w':=by
 obtain⟨op,au,size,obj,hi,lo,given,av,off,n,data,index,an⟩:=c
 obtain⟨da,dn,dc⟩:=d
 obtain⟨ga,gn,gc⟩:=g
 unfold cV
 show Calls _ _ _ _ λe w'=>e=.returned (.agg #[.int .i64 op,.int .i64 au,.int .i64 size,.int .i64 obj,.int .u64 0,.int .u64 0,.bool given,.int .i64 av,.int .i64 off,.int .i64 n,.slice da dn dc,.int .i64 index,.slice ga gn gc])/\Below w.heap.size w w'
 go_enter func137,ntmps137
 go_wp2
 exact bodyPost_ret (by simp [results,results137,asAddr,eU]) rfl ⟨rfl,aw _ _ _⟩
theorem zr (c:Cl)(d g:Sl)(w:World):Calls prog 137 #[cV c d g,.int .i64 3] w λe w'=>e=.returned (cV (wo c 3) (wd 3 d) (wg 3 g))/\Below w.heap.size w w':=by
 obtain⟨op,au,size,obj,hi,lo,given,av,off,n,data,index,an⟩:=c
 obtain⟨da,dn,dc⟩:=d
 obtain⟨ga,gn,gc⟩:=g
 unfold cV
 show Calls _ _ _ _ λe w'=>e=.returned (.agg #[.int .i64 op,.int .i64 au,.int .i64 size,.int .i64 obj,.int .u64 (hi:Int),.int .u64 (lo:Int),.bool false,.int .i64 av,.int .i64 off,.int .i64 n,.slice da dn dc,.int .i64 index,.slice ga gn gc])/\Below w.heap.size w w'
 go_enter func137,ntmps137
 go_wp2
 exact bodyPost_ret (by simp [results,results137,asAddr,eU]) rfl ⟨rfl,aw _ _ _⟩
theorem yA (c:Cl)(d g:Sl)(w:World):Calls prog 137 #[cV c d g,.int .i64 4] w λe w'=>e=.returned (cV (wo c 4) (wd 4 d) (wg 4 g))/\Below w.heap.size w w':=by
 obtain⟨op,au,size,obj,hi,lo,given,av,off,n,data,index,an⟩:=c
 obtain⟨da,dn,dc⟩:=d
 obtain⟨ga,gn,gc⟩:=g
 unfold cV
 show Calls _ _ _ _ λe w'=>e=.returned (.agg #[.int .i64 op,.int .i64 au,.int .i64 size,.int .i64 obj,.int .u64 (hi:Int),.int .u64 (lo:Int),.bool given,.int .i64 0,.int .i64 off,.int .i64 n,.slice da dn dc,.int .i64 index,.slice ga gn gc])/\Below w.heap.size w w'
 go_enter func137,ntmps137
 go_wp2
 exact bodyPost_ret (by simp [results,results137,asAddr,eU]) rfl ⟨rfl,aw _ _ _⟩
theorem Av (c:Cl)(d g:Sl)(w:World):Calls prog 137 #[cV c d g,.int .i64 5] w λe w'=>e=.returned (cV (wo c 5) (wd 5 d) (wg 5 g))/\Below w.heap.size w w':=by
 obtain⟨op,au,size,obj,hi,lo,given,av,off,n,data,index,an⟩:=c
 obtain⟨da,dn,dc⟩:=d
 obtain⟨ga,gn,gc⟩:=g
 unfold cV
 show Calls _ _ _ _ λe w'=>e=.returned (.agg #[.int .i64 op,.int .i64 au,.int .i64 size,.int .i64 obj,.int .u64 (hi:Int),.int .u64 (lo:Int),.bool given,.int .i64 av,.int .i64 0,.int .i64 n,.slice da dn dc,.int .i64 index,.slice ga gn gc])/\Below w.heap.size w w'
 go_enter func137,ntmps137
 go_wp2
 exact bodyPost_ret (by simp [results,results137,asAddr,eU]) rfl ⟨rfl,aw _ _ _⟩
theorem zi (c:Cl)(d g:Sl)(w:World):Calls prog 137 #[cV c d g,.int .i64 6] w λe w'=>e=.returned (cV (wo c 6) (wd 6 d) (wg 6 g))/\Below w.heap.size w w':=by
 obtain⟨op,au,size,obj,hi,lo,given,av,off,n,data,index,an⟩:=c
 obtain⟨da,dn,dc⟩:=d
 obtain⟨ga,gn,gc⟩:=g
 unfold cV
 show Calls _ _ _ _ λe w'=>e=.returned (.agg #[.int .i64 op,.int .i64 au,.int .i64 size,.int .i64 obj,.int .u64 (hi:Int),.int .u64 (lo:Int),.bool given,.int .i64 av,.int .i64 off,.int .i64 0,.slice da dn dc,.int .i64 index,.slice ga gn gc])/\Below w.heap.size w w'
 go_enter func137,ntmps137
 go_wp2
 exact bodyPost_ret (by simp [results,results137,asAddr,eU]) rfl ⟨rfl,aw _ _ _⟩
theorem zz (c:Cl)(d g:Sl)(w:World):Calls prog 137 #[cV c d g,.int .i64 7] w λe w'=>e=.returned (cV (wo c 7) (wd 7 d) (wg 7 g))/\Below w.heap.size w w':=by
 obtain⟨op,au,size,obj,hi,lo,given,av,off,n,data,index,an⟩:=c
 obtain⟨da,dn,dc⟩:=d
 obtain⟨ga,gn,gc⟩:=g
 unfold cV
 show Calls _ _ _ _ λe w'=>e=.returned (.agg #[.int .i64 op,.int .i64 au,.int .i64 size,.int .i64 obj,.int .u64 (hi:Int),.int .u64 (lo:Int),.bool given,.int .i64 av,.int .i64 off,.int .i64 n,.slice none 0 0,.int .i64 index,.slice ga gn gc])/\Below w.heap.size w w'
 go_enter func137,ntmps137
 go_wp2
 exact bodyPost_ret (by simp [results,results137,asAddr,eU]) rfl ⟨rfl,aw _ _ _⟩
theorem B4 (c:Cl)(d g:Sl)(w:World):Calls prog 137 #[cV c d g,.int .i64 8] w λe w'=>e=.returned (cV (wo c 8) (wd 8 d) (wg 8 g))/\Below w.heap.size w w':=by
 obtain⟨op,au,size,obj,hi,lo,given,av,off,n,data,index,an⟩:=c
 obtain⟨da,dn,dc⟩:=d
 obtain⟨ga,gn,gc⟩:=g
 unfold cV
 show Calls _ _ _ _ λe w'=>e=.returned (.agg #[.int .i64 op,.int .i64 au,.int .i64 size,.int .i64 obj,.int .u64 (hi:Int),.int .u64 (lo:Int),.bool given,.int .i64 av,.int .i64 off,.int .i64 n,.slice da dn dc,.int .i64 0,.slice ga gn gc])/\Below w.heap.size w w'
 go_enter func137,ntmps137
 go_wp2
 exact bodyPost_ret (by simp [results,results137,asAddr,eU]) rfl ⟨rfl,aw _ _ _⟩
theorem AU (c:Cl)(d g:Sl)(w:World):Calls prog 137 #[cV c d g,.int .i64 9] w λe w'=>e=.returned (cV (wo c 9) (wd 9 d) (wg 9 g))/\Below w.heap.size w w':=by
 obtain⟨op,au,size,obj,hi,lo,given,av,off,n,data,index,an⟩:=c
 obtain⟨da,dn,dc⟩:=d
 obtain⟨ga,gn,gc⟩:=g
 unfold cV
 show Calls _ _ _ _ λe w'=>e=.returned (.agg #[.int .i64 op,.int .i64 au,.int .i64 size,.int .i64 obj,.int .u64 (hi:Int),.int .u64 (lo:Int),.bool given,.int .i64 av,.int .i64 off,.int .i64 n,.slice da dn dc,.int .i64 index,.slice none 0 0])/\Below w.heap.size w w'
 go_enter func137,ntmps137
 go_wp2
 exact bodyPost_ret (by simp [results,results137,asAddr,eU]) rfl ⟨rfl,aw _ _ _⟩
theorem qI (p:Nat)(hp:p<10)(c:Cl)(d g:Sl)(w:World):Calls prog 137 #[cV c d g,.int .i64 (p:Int)] w λe w'=>e=.returned (cV (wo c p) (wd p d) (wg p g))/\Below w.heap.size w w':=by
 rcases (by omega:p=0\/p=1\/p=2\/p=3\/p=4\/p=5\/p=6\/p=7\/p=8\/p=9) with rfl|rfl|rfl|rfl|rfl|rfl|rfl|rfl|rfl|rfl
 ·exact Aj c d g w
 ·exact zS c d g w
 ·exact Cd c d g w
 ·exact zr c d g w
 ·exact yA c d g w
 ·exact Av c d g w
 ·exact zi c d g w
 ·exact zz c d g w
 ·exact B4 c d g w
 ·exact AU c d g w
end Go.Proofs.YtfmhdimaijimlaaGreatDoor.R
namespace Go.Proofs.YtfmhdimaijimlaaGreatDoor.R
open Go.RowKit
theorem aP {P:Program}{ops:Array Oper}{rest:List Oper}{a:Act}{Q:Exit->Act->World->Prop}{d:Option Tmp}{tt:TypeId}{ps:String}{af}{ty:TypeId}{x:Operand}{p v:Value}
  (hr:(Instr.loadAt ty p).run P w=.ok v w) (hx:a.eval x=p) (h:wpList P ops Q rest (a.put d v) w) :
  wpList P ops Q ({ dst:=d,op:=.load ty x,type:=tt,pos:=ps,after:=af,guard:=none }::rest) a w:=by
 refine wpList_plain rfl λK hK=>?_
 unfold Oper.wp execOp
 simp only [hx,hr,Sem.run_bind,Sem.run_pure,Result.andThen_ok]
 exact hK _ _ h
theorem ib {P:Program}{ops:Array Oper}{rest:List Oper}{a:Act}{Q:Exit->Act->World->Prop}{d:Option Tmp}{tt:TypeId}{ps:String}{af}{gd}{ty:TypeId}{x:Operand}{p v:Value}
  (hr:(Instr.loadAt ty p).run P w=.ok v w) (hx:a.eval x=p) (hw:Region.wanted { dst:=d,op:=.load ty x,type:=tt,pos:=ps,after:=af,guard:=gd } (yielded ops a.tmps)=true) (h:wpList P ops Q rest (a.put d v) w) :
  wpList P ops Q ({ dst:=d,op:=.load ty x,type:=tt,pos:=ps,after:=af,guard:=gd }::rest) a w:=by
 refine wpList_step λK hK=>?_
 rw [if_pos hw]
 unfold Oper.wp execOp
 simp only [hx,hr,Sem.run_bind,Sem.run_pure,Result.andThen_ok]
 exact hK _ _ h
theorem Cg:(prog.info? 45).map (·.size)=some 13:=by kernel_rfl
theorem m8 {o:Nat}{L:List Value}(h:w.rangeAt b o L)(hl:L.length=13):(Instr.loadAt 45 (.pointer (some ⟨b,o,none⟩))).run prog w=.ok (.agg L.toArray) w :=
 run_loadAt_mid w b o 45 L _ h underlying45 rfl (by rw [Cg,hl])
theorem Ey {o:Nat}{L:List Value}(h:w.rangeAt b o L)(hl:L.length=13):(loadVar 45 ⟨b,o,none⟩).run prog w=.ok (.agg L.toArray) w :=
 run_loadVar_mid w b o 45 L _ h underlying45 rfl (by rw [Cg,hl])
theorem AZ (c:Cl)(d g:Sl):∀v∈cC c d g,v.oneCell'=true:=by
 intro v hv
 simp only [cC,List.mem_cons,List.mem_nil_iff,or_false] at hv
 rcases hv with rfl|rfl|rfl|rfl|rfl|rfl|rfl|rfl|rfl|rfl|rfl|rfl|rfl<;>rfl
structure Bx (w:World)(b:Nat)(L:List Value):Prop where
 range:w.rangeAt b 0 L
 there:w.there b 0 L.length
theorem Bx.but {S:Nat->Prop}{L:List Value}(hb:ae S w w')(h:Bx w b L)(hn:¬S b):Bx w' b L:=by
 refine⟨λj v hv=>?_,λj hj=>?_⟩
 ·have hc:=h.range j v hv
  have hk:=hb.block b (World.block_lt_of_cell? _ _ hc) hn
  rw [World.cell?_of_block (w:=w) hk]
  exact hc
 ·obtain⟨h1,h2⟩:=h.there j hj
  obtain⟨v,hv⟩:=Option.isSome_iff_exists.1 h1
  have hk:=hb.block b (World.block_lt_of_cell? _ _ hv) hn
  exact⟨by rw [World.cell?_of_block (w:=w) hk];exact h1,by rw [World.frozen?_of_block hk];exact h2⟩
theorem Bx.later {L:List Value}(hb:Below w.heap.size w w')(h:Bx w b L):Bx w' b L:=h.but (S:=λ_=>False) (ae.of hb) (λh=>h)
theorem Bx.new (w:World)(L:List Value)(t:TypeId):Bx (w.alloc (.cells L.toArray t)) w.heap.size L:=by
 refine⟨fY w L t,λj hj=>⟨?_,?_⟩⟩
 ·rw [fY w L t j L[j] (by simp [hj])];rfl
 ·simp [go_sem]
theorem iK {S:Nat->Prop}{b:Nat}(hb:S b):∀(vs:List Value) (o:Nat) {a w:World},ae S a w->ae S a (w.setCells b o vs)
 | [],_,_,_,h=>h
 | v::r,o,a,w,h=>by rw [World.setCells];exact iK hb r (o+1) (h.setCell hb _)
theorem dJ (b:Nat)(x:Addr):∀(vs:List Value) (o:Nat) (w:World),(w.setCells b o vs).frozen? x=w.frozen? x
 | [],_,_=>rfl
 | v::r,o,w=>by rw [World.setCells,dJ b x r];simp
theorem Bx.set {w:World}{b:Nat}{L M:List Value}(h:Bx w b L)(hl:M.length=L.length):Bx (w.setCells b 0 M) b M:=by
 refine⟨World.rangeAt_setCells_same _ _ _ _ (hl ▸ h.there),λj hj=>?_⟩
 obtain⟨h1,h2⟩:=h.there j (by omega)
 exact⟨World.isSome_setCells _ _ _ _ _ h1,by rw [dJ];exact h2⟩
theorem Bx.lt {L:List Value}(h:Bx w b L)(hl:0<L.length):b<w.heap.size:=by
 obtain⟨h1,_⟩:=h.there 0 hl
 obtain⟨v,hv⟩:=Option.isSome_iff_exists.1 h1
 exact World.block_lt_of_cell? _ _ hv
theorem Bx.cell {L:List Value}(h:Bx w b L)(j:Nat){v:Value}(hv:L[j]?=some v):w.cell? ⟨b,j,none⟩=some v:=by
 have:=h.range j v hv
 rwa [Nat.zero_add] at this
theorem AH {w:World}{b o n:Nat}{L:List Value}(h:w.there b o n)(hl:L.length=n)(h1:∀v∈L,v.oneCell'=true):(storeCells ⟨b,o,none⟩ L).run prog w=.ok () (w.setCells b o L) :=
 run_storeCells_cells (P:=prog) b o L 0 w (λj hj=>by rw [Nat.add_zero];exact (h j (by omega)).1) (λj hj=>by rw [Nat.add_zero];exact (h j (by omega)).2) h1
def z41:List Value:=cC (clz 0 0) Sl.nil Sl.nil
theorem FO:∃Z:List Value,Z.length=13/\(∀v∈Z,v.oneCell'=true)/\Z=z41/\∀w:World,(zeroValue 45).run prog w=.ok (.agg Z.toArray) w:=by
 refine⟨z41,rfl,AZ _ _ _,rfl,λw=>?_⟩
 obtain⟨i,hi,hz⟩:∃i,prog.info? 45=some i/\i.zero=some (.agg z41.toArray):=by
  have h:(prog.info? 45).map (·.zero)=some (some (.agg z41.toArray)):=by kernel_rfl
  cases hq:prog.info? 45 with
  | none=>simp [hq] at h
  | some i=>simp [hq] at h;exact⟨i,rfl,h⟩
 simp [zeroValue,typeInfo,hi,hz]
structure Cc (w:World)(L:List Value)(c:Cl):Prop where
 ex:∃d g,L=cC c d g/\Is w c d g
theorem Cc.later {W:World}{L:List Value}{c:Cl}(hb:Below W.heap.size W w1)(h:Cc W L c):Cc w1 L c:=by
 obtain⟨d,g,e,hi⟩:=h.ex
 exact⟨d,g,e,hi.later hb⟩
theorem Cc.len {L:List Value}{c:Cl}(h:Cc w L c):L.length=13:=by
 obtain⟨d,g,rfl,hi⟩:=h.ex
 rfl
theorem Cc.one {L:List Value}{c:Cl}(h:Cc w L c):∀v∈L,v.oneCell'=true:=by
 obtain⟨d,g,rfl,hi⟩:=h.ex
 exact AZ _ _ _
theorem Cc.op {L:List Value}{c:Cl}(h:Cc w L c):L[0]?=some (.int .i64 c.op):=by
 obtain⟨d,g,rfl,hi⟩:=h.ex
 rfl
theorem wv (p:Nat)(hp:p<10)(L:List Value)(c:Cl)(w0 w:World)(h:Cc w0 L c):Calls prog 137 #[.agg L.toArray,.int .i64 (p:Int)] w λe w'=>∃L',e=.returned (.agg L'.toArray)/\Cc w0 L' (wo c p)/\Below w.heap.size w w':=by
 obtain⟨d,g,rfl,hi⟩:=h.ex
 refine (qI p hp c d g w).mono ?_
 rintro e w' ⟨rfl,hb⟩
 exact⟨cC (wo c p) (wd p d) (wg p g),rfl,⟨_,_,rfl,hi.wo p⟩,hb⟩
def Fj (w:World)(b b2:Nat)(c:Cl)(ps:List Nat)(pa:Option Addr)(n:Nat)(t:Value)(w':World):Prop :=
 ∃(i:Nat) (L M:List Value),i<=n/\t=.int .i64 (i:Int)/\Bx w' b L/\Cc w L ((ps.take i).foldl wo c)/\Bx w' b2 M/\M.length=13/\RP w' (b2+1) pa n ps/\Below w.heap.size w w'
theorem tJ (L:List Value)(c:Cl)(w:World)(h:Cc w L c):Calls prog 96 #[.agg L.toArray] w λe w'=>∃L',e=.returned (.agg L'.toArray)/\Cc w' L' (Jq c)/\Below w.heap.size w w':=by
 obtain⟨Z,hZl,hZo,hZz,hz⟩:=FO
 have hZ0:(Z.toArray=#[])=False:=by simp;intro h;rw [h] at hZl;simp at hZl
 have H:Hid (Cc w L c):=h
 have hb1:Below w.heap.size w ((w.alloc (Obj.cells L.toArray 45)).alloc (Obj.cells Z.toArray 45)):=aw _ _ _
 have X1:Hid (Bx ((w.alloc (Obj.cells L.toArray 45)).alloc (Obj.cells Z.toArray 45)) w.heap.size L):=(Bx.new w L 45).later (ab _ _)
 have X2:Hid (Bx ((w.alloc (Obj.cells L.toArray 45)).alloc (Obj.cells Z.toArray 45)) (w.heap.size+1) Z):=by have:=Bx.new (w.alloc (Obj.cells L.toArray 45)) Z 45;simp at this;exact this
 have hc0:=X1.out.cell 0 h.op
 have HB1:=aa hb1
 have HZ:=aa (And.intro hZl hZo)
 clear h hb1 hZl hZo hZz
 go_enter func96,ntmps96
 go_upto_region 2 with (first|(go_at_call 99;refine (j_ c.op _).mono ?_;rintro e w3 ⟨pa,n,cp,rfl,hrp,hn5,hb3,_⟩))
 have R0:Hid (Fj w w.heap.size (w.heap.size+1) c (bq c.op) pa n (.int .i64 0) w3):=⟨0,L,Z,by omega,rfl,X1.out.later hb3,H.o,X2.out.later hb3,HZ.o.1,by simpa using hrp,al HB1.o hb3⟩
 have HN:=aa hrp.len
 clear hc0 X1 X2 hrp hb3
 go_loopw [9] (Fj w w.heap.size (w.heap.size+1) c (bq c.op) pa n) (λt _=>n - (intOf t).toNat)
 case atStart=>exact R0.out
 case round =>
  clear R0
  obtain⟨i,M,Y,hi,rfl,hx1,hcc,hx2,hyl,hrp,hbw⟩:=hrel
  have ei:IntKind.i64.wrap ((i:Int)+1)=(i:Int)+1:=by rw [IntKind.wrap_i64];omega
  by_cases hlt:i<n
  ·have hdi:decide ((i:Int)<(n:Int))=true:=by simp;omega
   have hiP:i<(bq c.op).length:=by have:=HN.o;omega
   obtain⟨pb,rfl,hpb,hpc⟩:=hrp.cells i hiP
   have HT:Hid _:=List.take_succ_eq_append_getElem hiP
   have hp10:Hid ((bq c.op)[i]<10):=(rI c.op).1 _ (List.getElem_mem hiP)
   generalize (bq c.op)[i]=p at hpc HT hp10
   have HLD:=aa (m8 hx1.range hcc.len)
   have HX:=aa hx1
   have HX2:=aa hx2
   have HRP:=aa hrp
   have HBW:=aa hbw
   have HC:=aa hcc
   clear hx1 hx2 hrp hbw hcc
   go_upto_region 4 with fail
   go_wp2_with (first|((with_reducible refine aP HLD.o ?_ ?_);· rfl)|(go_at_call 137;refine (wv p hp10.out M _ w _ HC.o).mono ?_;rintro e w4 ⟨M',rfl,hcc4,hb4⟩;have HC4:=aa hcc4;have HX4:=aa (HX.o.later hb4);have HL4:=aa HC.o.len;have HL5:=aa hcc4.len;have HO5:=aa hcc4.one;have HB4:=aa hb4;have hst:=AH (by rw [<-HL4.o];exact HX4.o.there) HL5.o HO5.o;clear hcc4 hb4))
   have hsw:=HBW.o.size
   have hBS:ae (·=w.heap.size) w4 (w4.setCells w.heap.size 0 M'):=iK (S:=(·=w.heap.size)) rfl M' 0 (ae.refl _ _)
   have HBS:=aa hBS
   clear hBS
   go_roundw
   case rel =>
    refine⟨i+1,M',Y,by omega,by go_num,HX4.o.set (by rw [HL5.o,HL4.o]),by rw [HT.o,List.foldl_append];exact HC4.o,(HX2.o.later HB4.o).but HBS.o (by omega),hyl,(HRP.o.later HB4.o).but HBS.o (λk hk=>by omega),ae.below (al HBW.o HB4.o) HBS.o (λk hk=>by omega)⟩
   case measure=>simp [intOf];omega
  ·obtain rfl:i=n:=by omega
   have hcu:Cc w M (Jq c):=by
    have:=hcc
    rwa [List.take_of_length_le (by have:=HN.o;omega)] at this
   have HLD:=aa (m8 hx1.range hcc.len)
   have hst:=AH (by rw [<-hyl];exact hx2.there) hcc.len hcc.one
   have hxs:Bx (wr.setCells (w.heap.size+1) 0 M) (w.heap.size+1) M:=hx2.set (by rw [hyl,hcc.len])
   have HLV:=aa (Ey hxs.range hcc.len)
   have HB5:Hid (Below w.heap.size w (wr.setCells (w.heap.size+1) 0 M)):=ae.below hbw (iK (S:=(·=w.heap.size+1)) rfl M 0 (ae.refl _ _)) (λk hk=>by omega)
   have HCU:=aa hcu
   have hml:=hcc.len
   clear hx1 hx2 hrp hbw hcc hxs hcu
   go_wp2_with (first|((with_reducible refine aP HLD.o ?_ ?_);· rfl))
   refine bodyPost_ret (v:=.agg M.toArray) ?_ rfl ⟨M,rfl,HCU.o.later HB5.o,HB5.o⟩
   have hlv:=HLV.o
   simp [results,results96,asAddr,hlv]
theorem xR (L:List Value)(c:Cl)(w:World)(h:Cc w L c):Calls prog 95 #[.agg L.toArray] w λe w'=>e=.returned (.bool (Gk c))/\Below w.heap.size w w':=by
 obtain⟨d,g,rfl,hi⟩:=h.ex
 exact qL c d g w hi
theorem nN (L:List Value)(c:Cl)(w0 w:World)(h:Cc w0 L c):Calls prog 94 #[.agg L.toArray] w λe w'=>e=.returned (.bool (E1 c))/\Below w.heap.size w w':=by
 obtain⟨d,g,rfl,hi⟩:=h.ex
 exact qC c d g w
theorem iz (L:List Value)(c:Cl)(w:World)(h:Cc w L c):Calls prog 93 #[.agg L.toArray] w λe w'=>e=.returned (.bool (dI c))/\Below w.heap.size w w':=by
 obtain⟨d,g,rfl,hi⟩:=h.ex
 exact pU c d g w hi
theorem mn (L:List Value)(c:Cl)(w:World)(h:Cc w L c):Calls prog 56 #[.agg L.toArray] w λe w'=>e=.returned (.bool (fm c))/\Below w.heap.size w w':=by
 have X1:Hid (Bx (w.alloc (Obj.cells L.toArray 45)) w.heap.size L):=Bx.new w L 45
 have hc0:=X1.out.cell 0 h.op
 have HL:=aa h.len
 have HC:Hid (Cc (w.alloc (Obj.cells L.toArray 45)) L c):=h.later (ab _ _)
 have HLD1:=aa (m8 X1.out.range h.len)
 have HB0:Hid (Below w.heap.size w (w.alloc (Obj.cells L.toArray 45))):=ab _ _
 clear h
 cases F1:wi c.op 1 10 with
 | false =>
  have E:Hid (fm c=false):=by unfold Hid fm;rw [F1];simp
  go_enter func56,ntmps56
  go_wp2_with (first|(go_at_call 92;refine (aJ _ _ _ _).mono ?_;rintro e w1 ⟨rfl,rfl⟩;simp only [F1]))
  go_ret
  exact⟨cW E.out.symm,HB0.o⟩
 | true =>
 cases F2:dI c with
 | false =>
  have E:Hid (fm c=false):=by unfold Hid fm;rw [F1,F2];simp
  go_enter func56,ntmps56
  go_wp2_with (first|((with_reducible refine ib HLD1.o ?_ ?_ ?_);(· rfl);(· rfl))|(go_at_call 92;refine (aJ _ _ _ _).mono ?_;rintro e w1 ⟨rfl,rfl⟩;simp only [F1])|(go_at_call 93;refine (iz L c _ HC.o).mono ?_;rintro e w2 ⟨rfl,hb2⟩;simp only [F2];have HB2:=aa hb2;clear hb2))
  go_ret
  exact⟨cW E.out.symm,al HB0.o HB2.o⟩
 | true =>
 cases F3:E1 c with
 | false =>
  have E:Hid (fm c=false):=by unfold Hid fm;rw [F1,F2,F3];simp
  go_enter func56,ntmps56
  go_wp2_with (first|((with_reducible refine ib HLD2.o ?_ ?_ ?_);(· rfl);(· rfl))|((with_reducible refine ib HLD1.o ?_ ?_ ?_);(· rfl);(· rfl))|(go_at_call 92;refine (aJ _ _ _ _).mono ?_;rintro e w1 ⟨rfl,rfl⟩;simp only [F1])|(go_at_call 93;refine (iz L c _ HC.o).mono ?_;rintro e w2 ⟨rfl,hb2⟩;simp only [F2];have HB2:=aa hb2;have HLD2:=aa (m8 (X1.out.later hb2).range HL.o);clear hb2)|(go_at_call 94;refine (nN L c _ _ HC.o).mono ?_;rintro e w3 ⟨rfl,hb3⟩;simp only [F3];have HB3:=aa hb3;clear hb3))
  go_ret
  exact⟨cW E.out.symm,al (al HB0.o HB2.o) HB3.o⟩
 | true =>
  have E:Hid (fm c=Gk (Jq c)):=by unfold Hid fm;rw [F1,F2,F3];simp
  go_enter func56,ntmps56
  go_wp2_with (first|((with_reducible refine ib HLD3.o ?_ ?_ ?_);(· rfl);(· rfl))|((with_reducible refine ib HLD2.o ?_ ?_ ?_);(· rfl);(· rfl))|((with_reducible refine ib HLD1.o ?_ ?_ ?_);(· rfl);(· rfl))|(go_at_call 92;refine (aJ _ _ _ _).mono ?_;rintro e w1 ⟨rfl,rfl⟩;simp only [F1])|(go_at_call 93;refine (iz L c _ HC.o).mono ?_;rintro e w2 ⟨rfl,hb2⟩;simp only [F2];have HB2:=aa hb2;have HLD2:=aa (m8 (X1.out.later hb2).range HL.o);clear hb2)|(go_at_call 94;refine (nN L c _ _ HC.o).mono ?_;rintro e w3 ⟨rfl,hb3⟩;simp only [F3];have HB3:=aa hb3;have HLD3:=aa (m8 ((X1.out.later HB2.o).later hb3).range HL.o);clear hb3)|(go_at_call 96;refine (tJ L c _ ((HC.o.later HB2.o).later HB3.o)).mono ?_;rintro e w4 ⟨L4,rfl,hcc4,hb4⟩;have HC4:=aa hcc4;have HB4:=aa hb4;clear hcc4 hb4)|(go_at_call 95;refine (xR L4 _ _ HC4.o).mono ?_;rintro e w5 ⟨rfl,hb5⟩;have HB5:=aa hb5;clear hb5))
  go_ret
  exact⟨cW E.out.symm,al (al (al (al HB0.o HB2.o) HB3.o) HB4.o) HB5.o⟩
theorem ye {b1 b2:Nat}{e1 e2:TypeId}{s1 s2:Nat}{v1 v2:Value}{n1 n2:Nat}{x1 x2:List Value}(h1:w.ownsRow b1 e1 s1 v1 n1 x1)(h2:w.ownsRow b2 e2 s2 v2 n2 x2)(hne:e1≠e2):∀k,v1.ownBlock=some k->v2.ownBlock≠some k:=by
 intro k k1 k2
 rcases h1.2 with ⟨rfl,_⟩|⟨g,cap,cur,rfl,hg,hh,r⟩
 ·cases k1
 ·rcases h2.2 with ⟨rfl,_⟩|⟨g',cap',cur',rfl,hg',hh',r'⟩
  ·cases k2
  ·simp [Value.ownBlock] at k1 k2
   subst k1
   subst k2
   rw [hh] at hh'
   simp at hh'
   exact hne hh'.2
theorem Own.FJ {S:Nat->Prop}{cap:Nat}{L:List Nat}(hb:ae S w w')(h:Own w base a n cap L)(hS:∀k,aD a k->¬S k):Own w' base a n cap L:=by
 refine⟨⟨h.row.1,?_⟩,h.small⟩
 rcases h.row.2 with h|⟨g,cap,cur,hv,hg,hh,r⟩
 ·exact .inl h
 ·have hg':aD a g:=by
   simp only [Value.slice.injEq] at hv
   exact⟨_,hv.1,rfl⟩
  exact .inr ⟨g,cap,cur,hv,hg,by rw [hb.block g (Array.getElem?_eq_some_iff.1 hh).1 (hS g hg')];exact hh,r⟩
theorem GM:(prog.info? 39).map (λi=>(i.zero,i.size,i.bytes))=some (some (.slice none 0 0),1,24):=by kernel_rfl
def bJ (rs:List R4):List Value:=rs.map sA
structure OR (w w':World)(a:Option Addr)(n cap:Nat)(rs:List R4):Prop where
 row:w'.ownsRow w.heap.size 39 1 (.slice a n cap) n (bJ rs)
 each:∀r∈rs,Row w r.1 r.2.1 r.2.2.1 r.2.2.2\/Own w' w.heap.size r.1 r.2.1 r.2.2.1 r.2.2.2
theorem OR.len {cap:Nat}{rs:List R4}(h:OR w w' a n cap rs):rs.length=n:=by
 have:=h.row.1
 simp [bJ] at this
 exact this
theorem OR.later {cap:Nat}{rs:List R4}(h:OR w w1 a n cap rs)(hb:Below w1.heap.size w1 w2):OR w w2 a n cap rs :=
 ⟨nP hb h.row,λr hr=>by
  rcases h.each r hr with h1|h1
  ·exact .inl h1
  ·exact .inr (h1.later hb)⟩
def Lr (w w':World)(a:Option Addr)(n c:Nat)(L:List Nat):Prop:=Row w a n c L\/Own w' w.heap.size a n c L
theorem Lr.later {c:Nat}{L:List Nat}(h:Lr w w1 a n c L)(hb:Below w1.heap.size w1 w2):Lr w w2 a n c L:=by
 rcases h with h|h
 ·exact .inl h
 ·exact .inr (h.later hb)
theorem lV {cap:Nat}{rs:List R4}{x:Option Addr}{c:Nat}{L:List Nat}(h:OR w w1 a n cap rs)(hl:Lr w w1 x m c L)(hb:Below w.heap.size w w1)(hr:n+1<=2000) :
  ∃a' cap' w',(Builtin.append_ #[186,186] 186 #[.slice a n cap,.slice (some ⟨w1.heap.size,0,none⟩) 1 1]).run prog (w1.alloc (Obj.cells #[.slice x m c] 39))=.ok (.slice a' (n+1) cap') w'/\OR w w' a' (n+1) cap' (rs++[(x,m,c,L)])/\Below w.heap.size w w'/\ae (aD a) w1 w'/\∀k,aD a' k->aD a k\/w1.heap.size<=k:=by
 obtain⟨i,hi,hz0,hz1,hz2⟩:=info_parts GM
 have hb1:=ab w1 (Obj.cells #[.slice x m c] 39)
 have h1:=h.later hb1
 obtain⟨v',w',hrun,h2,h3,_,h5⟩:=run_append_own_at (P:=prog) (w1.alloc (Obj.cells #[.slice x m c] 39)) w.heap.size 186 186 39 i _ 1 24 underlying186 hi hz0 hz1 hz2 rfl (by decide) _ n _ h1.row ⟨w1.heap.size,0,none⟩ 1 1 [.slice x m c] rfl (cell_one_new _ _ _) (by intro u hu;simp at hu;subst hu;rfl) (by unfold maxLen;omega) (by omega) (by have:=hb.size;simp;omega)
 obtain⟨a',cap',rfl⟩:∃a' cap',v'=.slice a' (n+1) cap':=by
  rcases h2.2 with ⟨h,h'⟩|⟨g',cap',_,h,_⟩
  ·exact⟨.none,0,by rw [h,h']⟩
  ·exact⟨_,cap',h⟩
 have hbut:ae (aD a) (w1.alloc (Obj.cells #[.slice x m c] 39)) w':=⟨h3.os,h3.tape,h3.output,h3.size,λj hj hn=>h3.block j hj (λe=>hn (aD.of.1 e.symm))⟩
 have hown:∀(y:Option Addr) (p q:Nat) (M:List Nat),Own (w1.alloc (Obj.cells #[.slice x m c] 39)) w.heap.size y p q M->Own w' w.heap.size y p q M:=λy p q M hM=>hM.FJ hbut (λk hk hk2=>ye hM.row h1.row (by decide) k (aD.of.2 hk) (aD.of.2 hk2))
 refine⟨a',cap',w',hrun,⟨by simpa [bJ,sA] using h2,λr hr=>?_⟩,ae.below (al hb hb1) hbut (λk hk=>aZ h.row k (aD.of.2 hk)),(ae.of hb1).trans hbut,λj hj=>?_⟩
 rotate_left
 ·rcases h5 with h5|h5
  ·rw [aD.of.2 hj] at h5
   exact .inl (aD.of.1 h5.symm)
  ·rw [aD.of.2 hj] at h5
   right
   simp at h5
   omega
 rcases List.mem_append.1 hr with hr|hr
 ·rcases h1.each r hr with h6|h6
  ·exact .inl h6
  ·exact .inr (hown _ _ _ _ h6)
 ·simp only [List.mem_singleton] at hr
  subst hr
  rcases hl.later hb1 with h6|h6
  ·exact .inl h6
  ·exact .inr (hown _ _ _ _ h6)
theorem OR.one {x:Option Addr}{c:Nat}{L:List Nat}(hl:Lr w w1 x m c L)(hb:Below w.heap.size w w1):OR w (w1.alloc (Obj.cells #[.slice x m c] 39)) (some ⟨w1.heap.size,0,none⟩) 1 1 [(x,m,c,L)]:=by
 refine⟨⟨rfl,.inr ⟨w1.heap.size,1,#[.slice x m c],rfl,hb.size,heap_alloc_new _ _,by omega,by unfold maxLen;omega,rfl,rfl⟩⟩,λr hr=>?_⟩
 simp only [List.mem_singleton] at hr
 subst hr
 exact hl.later (ab _ _)
theorem OR.two {x y:Option Addr}{c p q:Nat}{L M:List Nat}(hl:Lr w w1 x m c L)(hm:Lr w w1 y p q M)(hb:Below w.heap.size w w1):OR w (w1.alloc (Obj.cells #[.slice x m c,.slice y p q] 39)) (some ⟨w1.heap.size,0,none⟩) 2 2 [(x,m,c,L),(y,p,q,M)]:=by
 refine⟨⟨rfl,.inr ⟨w1.heap.size,2,#[.slice x m c,.slice y p q],rfl,hb.size,heap_alloc_new _ _,by omega,by unfold maxLen;omega,rfl,rfl⟩⟩,λr hr=>?_⟩
 simp only [List.mem_cons,List.mem_nil_iff,or_false] at hr
 rcases hr with rfl|rfl
 ·exact hl.later (ab _ _)
 ·exact hm.later (ab _ _)
theorem vl {cap:Nat}{rs:List R4}(h:OR w w1 a n cap rs)(hb:Below w.heap.size w w1)(hn:0<n)(hr:n<1000)(hc:(bC rs).length<=140737488355328) :
  Calls prog 101 #[.slice a n cap] w1 λe w'=>∃a' n' cap',e=.returned (.slice a' n' cap')/\Own w' w1.heap.size a' n' cap' (bC rs)/\Below w1.heap.size w1 w':=by
 have hl:=h.len
 have hrow:=h.row
 rcases hrow.2 with ⟨h1,h2⟩|⟨g,cp,cur,hv,hg,hh,r⟩
 ·omega
 ·simp only [Value.slice.injEq] at hv
  obtain⟨rfl,_,rfl⟩:=hv
  refine lZ g cap n rs w1 hl.symm (by omega) (λj hj=>?_) (λr hr=>?_) hc
  ·have:=hrow.cells (g:=g) rfl j (sA rs[j]) (by simp [bJ,hj])
   rw [nj] at this
   exact this
  ·rcases h.each r hr with h6|h6
   ·exact h6.later hb
   ·exact h6.read
end Go.Proofs.YtfmhdimaijimlaaGreatDoor.R
namespace Go.Proofs.YtfmhdimaijimlaaGreatDoor.R.W
theorem mc:ak=2 ^ 64:=rfl
structure iL (a b N:Nat):Prop where
 ha:a<ak
 hb:b<ak
 hn:N=a*ak+b
structure jD (a b:Int)(N:Nat):Prop where
 ex:∃x y:Nat,a=x/\b=y/\iL x y N
end Go.Proofs.YtfmhdimaijimlaaGreatDoor.R.W
namespace Go.Proofs.YtfmhdimaijimlaaGreatDoor.R.W
open Go.RowKit
def ig (w:World)(g o h:Nat):Nat->World
 | 0=>w
 | k+1=>(ig w g o h k).setCell ⟨g,o+k,none⟩ (.int .u8 ((h:Int) / 2 ^ (8*k)%256))
theorem _root_.Go.Proofs.YtfmhdimaijimlaaGreatDoor.aq.setCell {w:World}{p q:Addr}{u v:Value}(h:aq w p v):∃v',aq (w.setCell q u) p v':=by
 obtain⟨v',hv'⟩:=cell?_setCell_some (w:=w) (p:=q) (x:=u) (q:=p) (v:=v) h.1
 exact⟨v',hv',by rw [World.frozen?_setCell];exact h.2⟩
theorem vT {o h:Nat}(hc:∀i,i<8->∃v,aq w ⟨g,o+i,none⟩ v)(k:Nat):∀i,i<8->∃v,aq (ig w g o h k) ⟨g,o+i,none⟩ v:=by
 induction k with
 | zero=>exact hc
 | succ k ih =>
  intro i hi
  obtain⟨v,hv⟩:=ih i hi
  exact hv.setCell
theorem kp (g o len cap h:Nat)(w:World)(hl:8<=len)(hc:∀i,i<8->∃v,aq w ⟨g,o+i,none⟩ v) :
  Calls prog 187 #[.slice (some ⟨g,o,none⟩) len cap,.int .u64 (h:Int)] w λe w'=>e=.returned (.tuple #[])/\w'=ig w g o h 8:=by
 have HC:Hid (∀i,i<8->∃v,aq w ⟨g,o+i,none⟩ v):=hc
 clear hc
 go_enter func187,ntmps187
 go_wp2
 go_loopw [5] (λi w'=>∃k:Nat,k<=8/\i=.int .i64 k/\w'=ig w g o h k) (λi _=>8 - (intOf i).toNat)
 case atStart=>exact⟨0,by omega,rfl,rfl⟩
 case round =>
  obtain⟨k,hk,rfl,rfl⟩:=hrel
  by_cases hlt:k<8
  ·obtain⟨v,c0,f0⟩:=vT (h:=h) HC.o k k hlt
   have hlen:(k:Int)<(len:Int):=by omega
   go_wp2
   refine⟨⟨k+1,by omega,by go_num,rfl⟩,by simp [intOf];omega⟩
  ·go_wp2
   go_end0
   obtain rfl:k=8:=by omega
   exact⟨rfl,rfl⟩
def cP:Array Value:=Array.replicate 16 (.int .u8 0)
theorem FI (w:World):(Instr.makeSlice 39 (.int .i64 16) (.int .i64 16)).run prog w=.ok (.slice (some ⟨w.heap.size,0,none⟩) 16 16) (w.alloc (.cells cP 5)):=by kernel_rfl
theorem vV (h:i<16):cP[i]?=some (.int .u8 0):=by
 simp [cP,h]
theorem aE {w:World}{c:Array Value}{t:TypeId}{i:Nat}{v:Value}(h:c[i]?=some v):aq (w.alloc (.cells c t)) ⟨w.heap.size,i,none⟩ v :=
 ⟨by simp [go_sem,h],by simp [go_sem]⟩
theorem _root_.Go.Proofs.YtfmhdimaijimlaaGreatDoor.aq.drew {p:Addr}{v:Value}(h:aq w p v):aq w.drew p v:=h
theorem lM {w:World}{g o h:Nat}{p:Addr}(hp:p.block≠g):∀k,(ig w g o h k).cell? p=w.cell? p
 | 0=>rfl
 | k+1=>by
  show ((ig w g o h k).setCell _ _).cell? p=_
  rw [World.cell?_setCell_other _ _ _ _ (λe=>hp (by rw [<-e]))]
  exact lM hp k
theorem rf (w:World)(g o h:Nat){p:Addr}{v:Value}(hp:aq w p v):∀k,∃v',aq (ig w g o h k) p v'
 | 0=>⟨v,hp⟩
 | k+1=>by
  obtain⟨v',hv'⟩:=rf w g o h hp k
  exact hv'.setCell
theorem oy (w:World)(A:Obj)(i:Nat)(h:i<16):aq ((w.alloc A).alloc (.cells cP 5)) ⟨w.heap.size+1,i,none⟩ (.int .u8 0):=by
 have:=aE (w:=w.alloc A) (t:=5) (vV h)
 simpa using this
theorem we (a b:Nat)(w:World) :
  Calls prog 145 #[.agg #[.int .u64 (a:Int),.int .u64 (b:Int)]] w λe w'=>e=.returned (.slice (some ⟨w.heap.size+1,0,none⟩) 16 16) /\
   w'=ig (ig ((w.alloc (Obj.cells #[Value.int IntKind.u64 a,Value.int IntKind.u64 b] 31)).alloc (.cells cP 5)).drew (w.heap.size+1) 0 b 8).drew (w.heap.size+1) 8 a 8:=by
 have hmk:=FI
 have h1:Hid (∀i,i<8->∃v,aq (((w.alloc (Obj.cells #[Value.int IntKind.u64 a,Value.int IntKind.u64 b] 31)).alloc (.cells cP 5)).drew) ⟨w.heap.size+1,0+i,none⟩ v):=λi hi=>⟨_,(oy w _ _ (by omega)).drew⟩
 have h2:Hid (∀i,i<8->∃v,aq ((ig ((w.alloc (Obj.cells #[Value.int IntKind.u64 a,Value.int IntKind.u64 b] 31)).alloc (.cells cP 5)).drew (w.heap.size+1) 0 b 8).drew) ⟨w.heap.size+1,8+i,none⟩ v):=λi hi=>by
  obtain⟨v,hv⟩:=rf _ (w.heap.size+1) 0 b (oy w (Obj.cells #[Value.int IntKind.u64 a,Value.int IntKind.u64 b] 31) (8+i) (by omega)).drew 8
  exact⟨v,hv.drew⟩
 have h3:(ig ((w.alloc (Obj.cells #[Value.int IntKind.u64 a,Value.int IntKind.u64 b] 31)).alloc (.cells cP 5)).drew (w.heap.size+1) 0 b 8).cell? ⟨w.heap.size,0,none⟩=some (.int .u64 a):=by
  rw [lM (by simp)];simp [go_sem]
 go_enter func145,ntmps145
 go_wp2
 go_region_with (first|(go_at_call 187;refine (kp _ _ _ _ b _ (by omega) h1.out).mono ?_;rintro e w1 ⟨rfl,rfl⟩))
 go_wp2
 go_region_with (first|(go_at_call 187;refine (kp _ _ _ _ a _ (by omega) h2.out).mono ?_;rintro e w1 ⟨rfl,rfl⟩))
 go_wp2
 go_ret
 exact⟨rfl,rfl⟩
end Go.Proofs.YtfmhdimaijimlaaGreatDoor.R.W
namespace Go.Proofs.YtfmhdimaijimlaaGreatDoor.R.W
open Go.RowKit
def nL (N i:Nat):Nat:=N / 256 ^ i%256
def bytesOf (N:Nat):List Nat:=(List.range 16).map (nL N)
theorem Ee {a N:Nat}(h:iL a b N)(hi:i<8):((b:Int) / 2 ^ (8*i)%256)=(nL N i:Int):=by
 have e1:((2:Int) ^ (8*i))=((2 ^ (8*i):Nat):Int):=by simp
 have e2:(256:Nat) ^ i=2 ^ (8*i):=by rw [Nat.pow_mul]
 rw [e1]
 unfold nL
 rw [e2,h.hn]
 obtain⟨j,hj⟩:∃j,ak=2 ^ (8*i)*(256*2 ^ j):=⟨64 - 8*i - 8,by
  have:(256:Nat)=2 ^ 8:=rfl
  rw [this,<-Nat.pow_add,<-Nat.pow_add,mc];congr 1;omega⟩
 have hp:0<2 ^ (8*i):=Nat.two_pow_pos _
 have e3:(a*ak+b) / 2 ^ (8*i)%256=b / 2 ^ (8*i)%256:=by
  rw [hj,Nat.add_comm,Nat.mul_comm a,Nat.mul_assoc,Nat.add_mul_div_left _ _ hp,Nat.mul_assoc,Nat.add_mul_mod_self_left]
 rw [e3]
 simp
theorem CR {a N:Nat}(h:iL a b N):((a:Int) / 2 ^ (8*i)%256)=(nL N (8+i):Int):=by
 have e1:((2:Int) ^ (8*i))=((2 ^ (8*i):Nat):Int):=by simp
 have e2:(256:Nat) ^ (8+i)=ak*2 ^ (8*i):=by
  rw [Nat.pow_add,mc]
  have:(256:Nat)=2 ^ 8:=rfl
  rw [this,<-Nat.pow_mul,<-Nat.pow_mul]
 rw [e1]
 unfold nL
 rw [e2,h.hn,<-Nat.div_div_eq_div_mul]
 have e4:(a*ak+b) / ak=a:=by
  rw [Nat.add_comm,Nat.add_mul_div_right _ _ (by decide),Nat.div_eq_of_lt h.hb,Nat.zero_add]
 rw [e4]
 simp
def dM (cs:Array Value)(o h:Nat):Nat->Array Value
 | 0=>cs
 | k+1=>(dM cs o h k).setIfInBounds (o+k) (.int .u8 ((h:Int) / 2 ^ (8*k)%256))
theorem oD {w:World}{g:Nat}{cs:Array Value}{t:TypeId}(hg:w.heap[g]?=some (.cells cs t (0,0)))(o h:Nat):∀k,(ig w g o h k).heap[g]?=some (.cells (dM cs o h k) t (0,0))
 | 0=>hg
 | k+1=>heap_setCell_same _ _ _ _ _ _ (oD hg o h k)
theorem iw {B:Nat}{w0 w:World}{g:Nat}(hb:Below B w0 w)(hg:B<=g)(o h:Nat):∀k,Below B w0 (ig w g o h k)
 | 0=>hb
 | k+1=>(iw hb hg o h k).setCell hg _
theorem eW (cs:Array Value)(o h:Nat):∀k,(dM cs o h k).size=cs.size
 | 0=>rfl
 | k+1=>by unfold dM;rw [Array.size_setIfInBounds];exact eW cs o h k
theorem ld (cs:Array Value)(o h i:Nat)(hi:i<cs.size):∀k,(dM cs o h k)[i]?=if o<=i/\i<o+k then some (.int .u8 ((h:Int) / 2 ^ (8*(i - o))%256)) else cs[i]?
 | 0=>by unfold dM;rw [if_neg (by omega)]
 | k+1=>by
  unfold dM
  rw [Array.getElem?_setIfInBounds,ld cs o h i hi k,eW]
  by_cases h1:o+k=i
  ·subst h1
   rw [if_pos rfl,if_pos hi,if_pos (by omega),Nat.add_sub_cancel_left]
  ·rw [if_neg h1]
   by_cases h2:o<=i/\i<o+k
   ·rw [if_pos h2,if_pos (by omega)]
   ·rw [if_neg h2,if_neg (by omega)]
theorem js (l:List Nat)(i:Nat):(aM l).toArray[i]?=l[i]?.map λ(n:Nat)=>Value.int .u8 (n:Int):=by simp [aM]
theorem qW (N i:Nat)(h:i<16):(bytesOf N)[i]?=some (nL N i):=by simp [bytesOf,h]
theorem gC:cP.size=16:=by simp [cP]
theorem yL {a N:Nat}(h:iL a b N):dM (dM cP 0 b 8) 8 a 8=(aM (bytesOf N)).toArray:=by
 have hs:(dM (dM cP 0 b 8) 8 a 8).size=16:=by rw [eW,eW,gC]
 apply Array.ext_getElem?
 intro i
 by_cases hi:i<16
 ·rw [ld _ _ _ _ (by rw [eW,gC];exact hi),ld _ _ _ _ (by rw [gC];exact hi),js,qW _ _ hi]
  by_cases h1:8<=i
  ·rw [if_pos (by omega)]
   have:=CR h (i:=i - 8)
   rw [show 8+(i - 8)=i by omega] at this
   rw [this];rfl
  ·rw [if_neg (by omega),if_pos (by omega),Nat.sub_zero,Ee h (by omega)];rfl
 ·rw [Array.getElem?_eq_none (by omega),Array.getElem?_eq_none]
  simp [aM,bytesOf];omega
theorem AD (w:World)(A B:Obj):((w.alloc A).alloc B).heap[w.heap.size+1]?=some B:=by
 show ((w.heap.push A).push B)[w.heap.size+1]?=some B
 rw [Array.getElem?_push,if_pos (by simp)]
theorem gA {cs:Array Value}{t:TypeId}(hg:w.heap[g]?=some (.cells cs t (0,0)))(o h k:Nat):(ig w.drew g o h k).heap[g]?=some (.cells (dM cs o h k) t (0,0)) :=
 oD (w:=w.drew) (show w.heap[g]?=_ from hg) o h k
theorem jT (a b:Int)(N:Nat)(w:World)(h:jD a b N) :
  Calls prog 145 #[.agg #[.int .u64 a,.int .u64 b]] w λe w'=>∃g,e=.returned (.slice (some ⟨g,0,none⟩) 16 16)/\w.heap.size<=g/\w'.heap[g]?=some (.cells (aM (bytesOf N)).toArray 5 (0,0))/\Below w.heap.size w w':=by
 obtain⟨a,b,rfl,rfl,h⟩:=h
 refine (we a b w).mono ?_
 rintro e w' ⟨rfl,rfl⟩
 have k1:=gA (AD w (Obj.cells #[Value.int IntKind.u64 a,Value.int IntKind.u64 b] 31) (.cells cP 5)) 0 b 8
 have k2:=gA k1 8 a 8
 rw [yL h] at k2
 have b1:=iw (aw w (Obj.cells #[Value.int IntKind.u64 a,Value.int IntKind.u64 b] 31) (.cells cP 5)).drew (Nat.le_succ w.heap.size) 0 b 8
 have b2:=iw b1.drew (Nat.le_succ w.heap.size) 8 a 8
 exact⟨w.heap.size+1,rfl,Nat.le_succ _,k2,b2⟩
end Go.Proofs.YtfmhdimaijimlaaGreatDoor.R.W
namespace Go.Proofs.YtfmhdimaijimlaaGreatDoor.R
open Go.RowKit
theorem p8 (v:Nat)(hv:v<256)(w:World):Calls prog 97 #[.slice none 0 0,.int .u8 (v:Int)] w λe w'=>∃a c,e=.returned (.slice a 1 c)/\Own w' w.heap.size a 1 c (cj v 1)/\Below w.heap.size w w':=by
 refine (JK none 0 0 [] v w hv (dY w) (by omega)).mono ?_
 rintro e w' ⟨a,c,rfl,h,hb⟩
 exact⟨a,c,rfl,h,hb⟩
theorem Js (v:Nat)(hv:v<65536)(w:World):Calls prog 98 #[.slice none 0 0,.int .u16 (v:Int)] w λe w'=>∃a c,e=.returned (.slice a 2 c)/\Own w' w.heap.size a 2 c (cj v 2)/\Below w.heap.size w w':=by
 refine (Hr none 0 0 [] v w hv (dY w) (by omega)).mono ?_
 rintro e w' ⟨a,c,rfl,h,hb⟩
 exact⟨a,c,rfl,h,hb⟩
theorem Ku (v:Nat)(hv:v<4294967296)(w:World):Calls prog 184 #[.slice none 0 0,.int .u32 (v:Int)] w λe w'=>∃a c,e=.returned (.slice a 4 c)/\Own w' w.heap.size a 4 c (cj v 4)/\Below w.heap.size w w':=by
 refine (IA none 0 0 [] v w hv (dY w) (by omega)).mono ?_
 rintro e w' ⟨a,c,rfl,h,hb⟩
 exact⟨a,c,rfl,h,hb⟩
theorem Ka (v:Nat)(hv:v<18446744073709551616)(w:World):Calls prog 144 #[.slice none 0 0,.int .u64 (v:Int)] w λe w'=>∃a c,e=.returned (.slice a 8 c)/\Own w' w.heap.size a 8 c (cj v 8)/\Below w.heap.size w w':=by
 refine (I8 none 0 0 [] v w hv (dY w) (by omega)).mono ?_
 rintro e w' ⟨a,c,rfl,h,hb⟩
 exact⟨a,c,rfl,h,hb⟩
theorem eT (n:Int)(w:World):Calls prog 143 #[.int .i64 n] w λe w'=>∃a c,e=.returned (.slice a 4 c)/\Own w' w.heap.size a 4 c (cj (sg n) 4)/\Below w.heap.size w w':=by
 have e1:IntKind.u32.wrap n=(sg n:Int):=by rw [IntKind.wrap_u32];unfold sg;omega
 have hv:=Jd n
 generalize sg n=v at e1 hv ⊢
 have H:=aa hv
 clear hv
 go_enter func143,ntmps143
 go_wp2_with (first|(go_at_call 184;refine (Ku v H.o _).mono ?_;rintro e w1 ⟨a,c,rfl,h,hb⟩))
 go_ret
 exact⟨_,_,rfl,h,hb⟩
theorem rJ (y:Bool)(w:World):Calls prog 146 #[.bool y] w λe w'=>∃a c,e=.returned (.slice a 1 c)/\Own w' w.heap.size a 1 c (cj (if y then 1 else 0) 1)/\Below w.heap.size w w':=by
 cases y with
 | true =>
  go_enter func146,ntmps146
  go_wp2_with (first|(go_at_call 97;refine (p8 1 (by omega) _).mono ?_;rintro e w1 ⟨a,c,rfl,hwn,hb⟩))
  go_ret
  exact⟨_,_,rfl,hwn,hb⟩
 | false =>
  go_enter func146,ntmps146
  go_wp2_with (first|(go_at_call 97;refine (p8 0 (by omega) _).mono ?_;rintro e w1 ⟨a,c,rfl,hwn,hb⟩))
  go_ret
  exact⟨_,_,rfl,hwn,hb⟩
theorem q9 (hi lo:Nat)(h1:hi<18446744073709551616)(h2:lo<18446744073709551616):W.bytesOf (hi*ak+lo)=cj lo 8++cj hi 8:=by
 have key:∀(a b:Nat),cj (a+256 ^ 8*b) 16=cj a 8++cj b 8\/256 ^ 8<=a:=by
  intro a b
  by_cases ha:a<256 ^ 8
  ·left
   have e:∀v,cj v 16=cj v 8++cj (v / 256 ^ 8) 8:=by
    intro v
    simp only [cj,List.range_succ,List.range_zero,List.map_append,List.map_nil,List.map_cons,List.nil_append,List.cons_append,Nat.div_div_eq_div_mul,<-Nat.pow_add]
   rw [e,Nat.add_mul_div_left _ _ (by decide),Nat.div_eq_of_lt ha,Nat.zero_add,<-uK _ 8 8 (Nat.le_refl _),Nat.add_mul_mod_self_left,uK _ 8 8 (Nat.le_refl _)]
  ·right;omega
 rcases key lo hi with h|h
 ·rw [<-h]
  unfold W.bytesOf cj
  have:hi*ak+lo=lo+256 ^ 8*hi:=by unfold ak;omega
  rw [this]
  rfl
 ·omega
theorem m4 (hi lo:Nat)(w:World)(h1:hi<18446744073709551616)(h2:lo<18446744073709551616) :
  Calls prog 145 #[.agg #[.int .u64 (hi:Int),.int .u64 (lo:Int)]] w λe w'=>∃a c,e=.returned (.slice a 16 c)/\Own w' w.heap.size a 16 c (cj lo 8++cj hi 8)/\Below w.heap.size w w':=by
 refine (W.jT hi lo (hi*ak+lo) w ⟨hi,lo,rfl,rfl,⟨h1,h2,rfl⟩⟩).mono ?_
 rintro e w' ⟨g,rfl,hg,hh,hb⟩
 rw [q9 hi lo h1 h2] at hh
 have hs:∀x∈cj lo 8++cj hi 8,x<256:=λx hx=>by
  rcases List.mem_append.1 hx with h|h
  ·exact oz _ _ x h
  ·exact oz _ _ x h
 exact⟨_,_,rfl,⟨⟨by simp [aM,cA],.inr ⟨g,16,_,rfl,hg,hh,by omega,by unfold maxLen;omega,by simp [aM,cA],List.take_of_length_le (by simp [aM,cA])⟩⟩,hs⟩,hb⟩
def Fi (w:World)(n:Nat)(G:List Int)(l t:Value)(w':World):Prop :=
 ∃(i:Nat) (a:Option Addr) (c:Nat) (rs:List R4),i<=n/\t=.int .i64 (i:Int)/\l=.slice a (1+i) c/\OR w w' a (1+i) c rs/\bC rs=cj n 1++g2 (G.take i)/\Below w.heap.size w w'
theorem pK (a:Option Addr)(n cap:Nat)(G:List Int)(w:World)(h:RI w a n cap G)(hg:vk G=true) :
  Calls prog 147 #[.slice a n cap] w λe w'=>∃a' n' c',e=.returned (.slice a' n' c')/\Own w' w.heap.size a' n' c' (cj G.length 1++g2 G)/\Below w.heap.size w w':=by
 have hlen:=h.len
 simp only [vk,Bool.and_eq_true,decide_eq_true_eq,List.all_eq_true,fD] at hg
 obtain⟨hg1,hg2⟩:=hg
 have hn:n<=255:=by omega
 have e1:IntKind.u8.wrap (n:Int)=(n:Int):=by rw [IntKind.wrap_u8];omega
 have H:=aa h
 have HG:=aa hg2
 have HL:=aa hlen
 clear h hg2 hg1 hlen
 go_enter func147,ntmps147
 go_upto_region 2 with (first|(go_at_call 97;refine (p8 n (by omega) _).mono ?_;rintro e w1 ⟨a1,c1,rfl,hown,hb1⟩))
 have R0:Hid (Fi w n G (.slice (some ⟨w1.heap.size,0,none⟩) (1+0) 1) (.int .i64 0) (w1.alloc (Obj.cells #[.slice a1 1 c1] 39))):=⟨0,_,1,_,by omega,rfl,rfl,OR.one (.inr hown) hb1,by simp [bC,g2],al hb1 (ab _ _)⟩
 clear hown hb1
 go_upto_region 3 with fail
 go_loopw [3,13] (Fi w n G) (λ_ t _=>n - (intOf t).toNat)
 case atStart=>exact R0.out
 case round =>
  clear R0
  obtain⟨i,b,c,rs,hi,rfl,rfl,hor,hcat,hbw⟩:=hrel
  have ei:IntKind.i64.wrap ((i:Int)+1)=(i:Int)+1:=by rw [IntKind.wrap_i64];omega
  by_cases hlt:i<n
  ·have hdi:decide ((i:Int)<(n:Int))=true:=by simp;omega
   obtain⟨gb,o,rfl,hc⟩:=H.o.plain (by omega)
   have hiG:i<G.length:=by have:=HL.o;omega
   have hcell:=cell_later hbw (hc i hiG)
   have hgi:=HG.o _ (List.getElem_mem hiG)
   have HT:Hid (g2 (G.take (i+1))=g2 (G.take i)++cj (G[i].toNat) 2):=by unfold Hid;rw [List.take_succ_eq_append_getElem hiG,nJ,Ab]
   generalize G[i]=x at hcell hgi HT
   obtain⟨m,rfl⟩:∃m:Nat,x=(m:Int):=⟨x.toNat,by omega⟩
   rw [Int.toNat_natCast] at HT
   have e2:IntKind.u16.wrap (m:Int)=(m:Int):=by rw [IntKind.wrap_u16];omega
   have hm:m<65536:=by omega
   have HOR:=aa hor
   have HBW:=aa hbw
   have HM:=aa hm
   have HCAT:=aa hcat
   clear hor hbw hc hgi hm hcat
   go_upto_region 5 with fail
   go_wp2_with (first|(go_at_call 98;refine (Js m HM.o _).mono ?_;rintro e w2 ⟨a2,c2,rfl,hown2,hb2⟩;obtain⟨a3,c3,w3,hrun,hor3,hbw3,_,_⟩:=lV (HOR.o.later hb2) (.inr (hown2.mono HBW.o.size)) (al HBW.o hb2) (by omega);have HRUN:=aa hrun;have HOR3:=aa hor3;have HB3:=aa hbw3;clear hrun hor3 hbw3 hown2 hb2)|(at_builtin;refine kt rfl _ _ 186 rfl _ _ rfl rfl _ w3 HRUN.o ?_))
   go_roundw
   case rel=>exact⟨i+1,a3,c3,_,by omega,by go_num,rfl,HOR3.o,by rw [eL,HCAT.o,HT.o];simp [bC],HB3.o⟩
   case measure=>simp [intOf];omega
  ·obtain rfl:i=n:=by omega
   have HX:Hid (bC rs=cj G.length 1++g2 G):=by
    unfold Hid
    rw [hcat,List.take_of_length_le (by have:=HL.o;omega),HL.o]
   have hle:(bC rs).length<=140737488355328:=by
    rw [HX.o,List.length_append,cA,oF]
    have:=HL.o
    omega
   have HJ:=aa (vl hor hbw (by omega) (by omega) hle)
   have HBW:=aa hbw
   clear hor hbw hcat hle
   go_wp2_with (first|(go_at_call 101;refine HJ.o.mono ?_;rintro e w2 ⟨a2,n2,c2,rfl,hown2,hb2⟩))
   go_ret
   exact⟨_,_,_,rfl,by rw [<-HX.o];exact hown2.mono HBW.o.size,al HBW.o hb2⟩
theorem BM (L:List Value)(c:Cl)(w0 w:World)(h:Cc w0 L c)(hb0:Below w0.heap.size w0 w)(hb:dI c=true):Calls prog 100 #[.agg L.toArray,.int .i64 0] w λe w'=>∃a n c',e=.returned (.slice a n c')/\Lr w0 w' a n c' (jh c 0)/\Below w.heap.size w w':=by
 have hok:=du hb (by obtain⟨d,g,e,hi⟩:=h.ex;exact hi.hi) (by obtain⟨d,g,e,hi⟩:=h.ex;exact hi.lo) 0
 obtain⟨d,g,rfl,hi⟩:=h.ex
 obtain⟨op,au,size,obj,hI,lo,given,av,off,n,data,index,an⟩:=c
 obtain⟨da,dn,dc⟩:=d
 obtain⟨ga,gn,gc⟩:=g
 have HS0:=aa hb0.size
 have X1:=Bx.new w (cC ⟨op,au,size,obj,hI,lo,given,av,off,n,data,index,an⟩ ⟨da,dn,dc⟩ ⟨ga,gn,gc⟩) 45
 have hc:=X1.cell 2 rfl
 clear X1 hok hi hb h hb0
 go_enter func100,ntmps100
 go_wp2_with (first|(go_at_call 143;refine (eT _ _).mono ?_;rintro e w2 ⟨a2,c2,rfl,hown,hb2⟩))
 go_ret
 exact⟨_,_,_,rfl,.inr (hown.mono (by have:=HS0.o;simp;omega)),al (ab _ _) hb2⟩
theorem CB (L:List Value)(c:Cl)(w0 w:World)(h:Cc w0 L c)(hb0:Below w0.heap.size w0 w)(hb:dI c=true):Calls prog 100 #[.agg L.toArray,.int .i64 1] w λe w'=>∃a n c',e=.returned (.slice a n c')/\Lr w0 w' a n c' (jh c 1)/\Below w.heap.size w w':=by
 have hok:=du hb (by obtain⟨d,g,e,hi⟩:=h.ex;exact hi.hi) (by obtain⟨d,g,e,hi⟩:=h.ex;exact hi.lo) 1
 obtain⟨d,g,rfl,hi⟩:=h.ex
 obtain⟨op,au,size,obj,hI,lo,given,av,off,n,data,index,an⟩:=c
 obtain⟨da,dn,dc⟩:=d
 obtain⟨ga,gn,gc⟩:=g
 have HS0:=aa hb0.size
 have X1:=Bx.new w (cC ⟨op,au,size,obj,hI,lo,given,av,off,n,data,index,an⟩ ⟨da,dn,dc⟩ ⟨ga,gn,gc⟩) 45
 have hB:=fD.1 (hok.2.1 rfl)
 simp only at hB
 obtain⟨m,hm⟩:∃m:Nat,obj=(m:Int):=⟨obj.toNat,by omega⟩
 subst hm
 have ew:IntKind.u64.wrap (m:Int)=(m:Int):=by rw [IntKind.wrap_u64];omega
 have HM:Hid (m<18446744073709551616):=by unfold Hid;omega
 have hc:=X1.cell 3 rfl
 clear X1 hok hi hb h hb0 hB
 go_enter func100,ntmps100
 go_wp2_with (first|(go_at_call 144;refine (Ka m HM.o _).mono ?_;rintro e w2 ⟨a2,c2,rfl,hown,hb2⟩))
 go_ret
 exact⟨_,_,_,rfl,.inr (hown.mono (by have:=HS0.o;simp;omega)),al (ab _ _) hb2⟩
theorem yP (L:List Value)(c:Cl)(w0 w:World)(h:Cc w0 L c)(hb0:Below w0.heap.size w0 w)(hb:dI c=true):Calls prog 100 #[.agg L.toArray,.int .i64 2] w λe w'=>∃a n c',e=.returned (.slice a n c')/\Lr w0 w' a n c' (jh c 2)/\Below w.heap.size w w':=by
 have hok:=du hb (by obtain⟨d,g,e,hi⟩:=h.ex;exact hi.hi) (by obtain⟨d,g,e,hi⟩:=h.ex;exact hi.lo) 2
 obtain⟨d,g,rfl,hi⟩:=h.ex
 obtain⟨op,au,size,obj,hI,lo,given,av,off,n,data,index,an⟩:=c
 obtain⟨da,dn,dc⟩:=d
 obtain⟨ga,gn,gc⟩:=g
 have HS0:=aa hb0.size
 have X1:=Bx.new w (cC ⟨op,au,size,obj,hI,lo,given,av,off,n,data,index,an⟩ ⟨da,dn,dc⟩ ⟨ga,gn,gc⟩) 45
 have hc:=X1.cell 4 rfl
 have hc5:=X1.cell 5 rfl
 have H2:=aa (hok.2.2.1 rfl)
 clear X1 hok hi hb h hb0
 go_enter func100,ntmps100
 go_wp2_with (first|(go_at_call 145;refine (m4 hI lo _ H2.o.1 H2.o.2).mono ?_;rintro e w2 ⟨a2,c2,rfl,hown,hb2⟩))
 go_ret
 exact⟨_,_,_,rfl,.inr (hown.mono (by have:=HS0.o;simp;omega)),al (ab _ _) hb2⟩
theorem AX (L:List Value)(c:Cl)(w0 w:World)(h:Cc w0 L c)(hb0:Below w0.heap.size w0 w)(hb:dI c=true):Calls prog 100 #[.agg L.toArray,.int .i64 3] w λe w'=>∃a n c',e=.returned (.slice a n c')/\Lr w0 w' a n c' (jh c 3)/\Below w.heap.size w w':=by
 have hok:=du hb (by obtain⟨d,g,e,hi⟩:=h.ex;exact hi.hi) (by obtain⟨d,g,e,hi⟩:=h.ex;exact hi.lo) 3
 obtain⟨d,g,rfl,hi⟩:=h.ex
 obtain⟨op,au,size,obj,hI,lo,given,av,off,n,data,index,an⟩:=c
 obtain⟨da,dn,dc⟩:=d
 obtain⟨ga,gn,gc⟩:=g
 have HS0:=aa hb0.size
 have X1:=Bx.new w (cC ⟨op,au,size,obj,hI,lo,given,av,off,n,data,index,an⟩ ⟨da,dn,dc⟩ ⟨ga,gn,gc⟩) 45
 have hc:=X1.cell 6 rfl
 clear X1 hok hi hb h hb0
 go_enter func100,ntmps100
 go_wp2_with (first|(go_at_call 146;refine (rJ _ _).mono ?_;rintro e w2 ⟨a2,c2,rfl,hown,hb2⟩))
 go_ret
 exact⟨_,_,_,rfl,.inr (hown.mono (by have:=HS0.o;simp;omega)),al (ab _ _) hb2⟩
theorem zG (L:List Value)(c:Cl)(w0 w:World)(h:Cc w0 L c)(hb0:Below w0.heap.size w0 w)(hb:dI c=true):Calls prog 100 #[.agg L.toArray,.int .i64 4] w λe w'=>∃a n c',e=.returned (.slice a n c')/\Lr w0 w' a n c' (jh c 4)/\Below w.heap.size w w':=by
 have hok:=du hb (by obtain⟨d,g,e,hi⟩:=h.ex;exact hi.hi) (by obtain⟨d,g,e,hi⟩:=h.ex;exact hi.lo) 4
 obtain⟨d,g,rfl,hi⟩:=h.ex
 obtain⟨op,au,size,obj,hI,lo,given,av,off,n,data,index,an⟩:=c
 obtain⟨da,dn,dc⟩:=d
 obtain⟨ga,gn,gc⟩:=g
 have HS0:=aa hb0.size
 have X1:=Bx.new w (cC ⟨op,au,size,obj,hI,lo,given,av,off,n,data,index,an⟩ ⟨da,dn,dc⟩ ⟨ga,gn,gc⟩) 45
 have hB:=fD.1 (hok.2.2.2.1 rfl)
 simp only at hB
 obtain⟨m,hm⟩:∃m:Nat,av=(m:Int):=⟨av.toNat,by omega⟩
 subst hm
 have ew:IntKind.u8.wrap (m:Int)=(m:Int):=by rw [IntKind.wrap_u8];omega
 have HM:Hid (m<256):=by unfold Hid;omega
 have hc:=X1.cell 7 rfl
 clear X1 hok hi hb h hb0 hB
 go_enter func100,ntmps100
 go_wp2_with (first|(go_at_call 97;refine (p8 m HM.o _).mono ?_;rintro e w2 ⟨a2,c2,rfl,hown,hb2⟩))
 go_ret
 exact⟨_,_,_,rfl,.inr (hown.mono (by have:=HS0.o;simp;omega)),al (ab _ _) hb2⟩
theorem zk (L:List Value)(c:Cl)(w0 w:World)(h:Cc w0 L c)(hb0:Below w0.heap.size w0 w)(hb:dI c=true):Calls prog 100 #[.agg L.toArray,.int .i64 5] w λe w'=>∃a n c',e=.returned (.slice a n c')/\Lr w0 w' a n c' (jh c 5)/\Below w.heap.size w w':=by
 have hok:=du hb (by obtain⟨d,g,e,hi⟩:=h.ex;exact hi.hi) (by obtain⟨d,g,e,hi⟩:=h.ex;exact hi.lo) 5
 obtain⟨d,g,rfl,hi⟩:=h.ex
 obtain⟨op,au,size,obj,hI,lo,given,av,off,n,data,index,an⟩:=c
 obtain⟨da,dn,dc⟩:=d
 obtain⟨ga,gn,gc⟩:=g
 have HS0:=aa hb0.size
 have X1:=Bx.new w (cC ⟨op,au,size,obj,hI,lo,given,av,off,n,data,index,an⟩ ⟨da,dn,dc⟩ ⟨ga,gn,gc⟩) 45
 have hc:=X1.cell 8 rfl
 clear X1 hok hi hb h hb0
 go_enter func100,ntmps100
 go_wp2_with (first|(go_at_call 143;refine (eT _ _).mono ?_;rintro e w2 ⟨a2,c2,rfl,hown,hb2⟩))
 go_ret
 exact⟨_,_,_,rfl,.inr (hown.mono (by have:=HS0.o;simp;omega)),al (ab _ _) hb2⟩
theorem zx (L:List Value)(c:Cl)(w0 w:World)(h:Cc w0 L c)(hb0:Below w0.heap.size w0 w)(hb:dI c=true):Calls prog 100 #[.agg L.toArray,.int .i64 6] w λe w'=>∃a n c',e=.returned (.slice a n c')/\Lr w0 w' a n c' (jh c 6)/\Below w.heap.size w w':=by
 have hok:=du hb (by obtain⟨d,g,e,hi⟩:=h.ex;exact hi.hi) (by obtain⟨d,g,e,hi⟩:=h.ex;exact hi.lo) 6
 obtain⟨d,g,rfl,hi⟩:=h.ex
 obtain⟨op,au,size,obj,hI,lo,given,av,off,n,data,index,an⟩:=c
 obtain⟨da,dn,dc⟩:=d
 obtain⟨ga,gn,gc⟩:=g
 have HS0:=aa hb0.size
 have X1:=Bx.new w (cC ⟨op,au,size,obj,hI,lo,given,av,off,n,data,index,an⟩ ⟨da,dn,dc⟩ ⟨ga,gn,gc⟩) 45
 have hc:=X1.cell 9 rfl
 clear X1 hok hi hb h hb0
 go_enter func100,ntmps100
 go_wp2_with (first|(go_at_call 143;refine (eT _ _).mono ?_;rintro e w2 ⟨a2,c2,rfl,hown,hb2⟩))
 go_ret
 exact⟨_,_,_,rfl,.inr (hown.mono (by have:=HS0.o;simp;omega)),al (ab _ _) hb2⟩
theorem BG (L:List Value)(c:Cl)(w0 w:World)(h:Cc w0 L c)(hb0:Below w0.heap.size w0 w)(hb:dI c=true):Calls prog 100 #[.agg L.toArray,.int .i64 7] w λe w'=>∃a n c',e=.returned (.slice a n c')/\Lr w0 w' a n c' (jh c 7)/\Below w.heap.size w w':=by
 have hok:=du hb (by obtain⟨d,g,e,hi⟩:=h.ex;exact hi.hi) (by obtain⟨d,g,e,hi⟩:=h.ex;exact hi.lo) 7
 obtain⟨d,g,rfl,hi⟩:=h.ex
 obtain⟨op,au,size,obj,hI,lo,given,av,off,n,data,index,an⟩:=c
 obtain⟨da,dn,dc⟩:=d
 obtain⟨ga,gn,gc⟩:=g
 have HS0:=aa hb0.size
 have X1:=Bx.new w (cC ⟨op,au,size,obj,hI,lo,given,av,off,n,data,index,an⟩ ⟨da,dn,dc⟩ ⟨ga,gn,gc⟩) 45
 have hc:=X1.cell 10 rfl
 have HD:=aa hi.data
 clear X1 hok hi hb h hb0
 go_enter func100,ntmps100
 go_wp2
 go_ret
 exact⟨_,_,_,rfl,.inl HD.o,ab _ _⟩
theorem BR (L:List Value)(c:Cl)(w0 w:World)(h:Cc w0 L c)(hb0:Below w0.heap.size w0 w)(hb:dI c=true):Calls prog 100 #[.agg L.toArray,.int .i64 8] w λe w'=>∃a n c',e=.returned (.slice a n c')/\Lr w0 w' a n c' (jh c 8)/\Below w.heap.size w w':=by
 have hok:=du hb (by obtain⟨d,g,e,hi⟩:=h.ex;exact hi.hi) (by obtain⟨d,g,e,hi⟩:=h.ex;exact hi.lo) 8
 obtain⟨d,g,rfl,hi⟩:=h.ex
 obtain⟨op,au,size,obj,hI,lo,given,av,off,n,data,index,an⟩:=c
 obtain⟨da,dn,dc⟩:=d
 obtain⟨ga,gn,gc⟩:=g
 have HS0:=aa hb0.size
 have X1:=Bx.new w (cC ⟨op,au,size,obj,hI,lo,given,av,off,n,data,index,an⟩ ⟨da,dn,dc⟩ ⟨ga,gn,gc⟩) 45
 have hB:=fD.1 (hok.2.2.2.2.2.2.2.1 rfl)
 simp only at hB
 obtain⟨m,hm⟩:∃m:Nat,index=(m:Int):=⟨index.toNat,by omega⟩
 subst hm
 have ew:IntKind.u16.wrap (m:Int)=(m:Int):=by rw [IntKind.wrap_u16];omega
 have HM:Hid (m<65536):=by unfold Hid;omega
 have hc:=X1.cell 11 rfl
 clear X1 hok hi hb h hb0 hB
 go_enter func100,ntmps100
 go_wp2_with (first|(go_at_call 98;refine (Js m HM.o _).mono ?_;rintro e w2 ⟨a2,c2,rfl,hown,hb2⟩))
 go_ret
 exact⟨_,_,_,rfl,.inr (hown.mono (by have:=HS0.o;simp;omega)),al (ab _ _) hb2⟩
theorem zB (L:List Value)(c:Cl)(w0 w:World)(h:Cc w0 L c)(hb0:Below w0.heap.size w0 w)(hb:dI c=true):Calls prog 100 #[.agg L.toArray,.int .i64 9] w λe w'=>∃a n c',e=.returned (.slice a n c')/\Lr w0 w' a n c' (jh c 9)/\Below w.heap.size w w':=by
 have hok:=du hb (by obtain⟨d,g,e,hi⟩:=h.ex;exact hi.hi) (by obtain⟨d,g,e,hi⟩:=h.ex;exact hi.lo) 9
 obtain⟨d,g,rfl,hi⟩:=h.ex
 obtain⟨op,au,size,obj,hI,lo,given,av,off,n,data,index,an⟩:=c
 obtain⟨da,dn,dc⟩:=d
 obtain⟨ga,gn,gc⟩:=g
 have HS0:=aa hb0.size
 have X1:=Bx.new w (cC ⟨op,au,size,obj,hI,lo,given,av,off,n,data,index,an⟩ ⟨da,dn,dc⟩ ⟨ga,gn,gc⟩) 45
 have hc:=X1.cell 12 rfl
 have H9:=aa (hok.2.2.2.2.2.2.2.2 rfl)
 have HR:Hid (∀o,RI (w.alloc o) ga gn gc an):=λo=>(hi.an.later hb0).later (ab _ _)
 clear X1 hok hi hb h hb0
 go_enter func100,ntmps100
 go_wp2_with (first|(go_at_call 147;refine (pK ga gn gc an _ (HR.o _) H9.o).mono ?_;rintro e w2 ⟨a2,n2,c2,rfl,hown,hb2⟩))
 go_ret
 exact⟨_,_,_,rfl,.inr (hown.mono (by have:=HS0.o;simp;omega)),al (ab _ _) hb2⟩
theorem rR (p:Nat)(hp:p<10)(L:List Value)(c:Cl)(w0 w:World)(h:Cc w0 L c)(hb0:Below w0.heap.size w0 w)(hb:dI c=true):Calls prog 100 #[.agg L.toArray,.int .i64 (p:Int)] w λe w'=>∃a n c',e=.returned (.slice a n c')/\Lr w0 w' a n c' (jh c p)/\Below w.heap.size w w':=by
 rcases (by omega:p=0\/p=1\/p=2\/p=3\/p=4\/p=5\/p=6\/p=7\/p=8\/p=9) with rfl|rfl|rfl|rfl|rfl|rfl|rfl|rfl|rfl|rfl
 ·exact BM L c w0 w h hb0 hb
 ·exact CB L c w0 w h hb0 hb
 ·exact yP L c w0 w h hb0 hb
 ·exact AX L c w0 w h hb0 hb
 ·exact zG L c w0 w h hb0 hb
 ·exact zk L c w0 w h hb0 hb
 ·exact zx L c w0 w h hb0 hb
 ·exact BG L c w0 w h hb0 hb
 ·exact BR L c w0 w h hb0 hb
 ·exact zB L c w0 w h hb0 hb
def E8 (w:World)(L:List Value)(c:Cl)(ps:List Nat)(pa:Option Addr)(n:Nat)(l t:Value)(w':World):Prop :=
 ∃(i:Nat) (a:Option Addr) (cp:Nat) (rs:List R4),i<=n/\t=.int .i64 (i:Int)/\l=.slice a (2+i) cp/\OR w w' a (2+i) cp rs/\bC rs=cj c.op.toNat 1++cj c.au.toNat 2++dM c (ps.take i)/\Bx w' w.heap.size L/\RP w' (w.heap.size+1) pa n ps/\Below w.heap.size w w'/\∀k,aD a k->w.heap.size<k/\¬aD pa k
theorem RP.FJ {S:Nat->Prop}{W:World}{L:List Nat}(hb:ae S W w1)(h:RP W base a n L)(hS:∀k,aD a k->¬S k):RP w1 base a n L :=
 ⟨h.len,λj hj=>by
  obtain⟨b,hb1,hb2,hc⟩:=h.cells j hj
  exact⟨b,hb1,hb2,by rw [World.cell?_of_block (w:=W) (hb.block b (World.block_lt_of_cell? _ _ hc) (hS b ⟨_,hb1,rfl⟩))];exact hc⟩⟩
theorem zC {c:Cl}(hb:dI c=true)(p:Nat):(jh c p).length<=1025:=by
 simp only [dI,Bool.and_eq_true,decide_eq_true_eq,vk] at hb
 unfold jh
 repeat' split
 all_goals (try simp only [cA,List.length_append,oF,List.length_nil])
 all_goals omega
theorem qX {c:Cl}(hb:dI c=true):∀ps:List Nat,(dM c ps).length<=1025*ps.length
 | []=>by simp [dM]
 | p::ps=>by
  have:=zC hb p
  have:=qX hb ps
  simp only [dM,List.length_append,List.length_cons]
  omega
theorem qU (L:List Value)(c:Cl)(w:World)(h:Cc w L c)(hf:fm c=true) :
  Calls prog 57 #[.agg L.toArray] w λe w'=>∃a n c',e=.returned (.slice a n c')/\Own w' w.heap.size a n c' (ly c)/\Below w.heap.size w w':=by
 have hf0:=hf
 simp only [fm,Bool.and_eq_true] at hf
 obtain⟨⟨⟨hop,hin⟩,_⟩,_⟩:=hf
 have hop:=fD.1 hop
 have hby:0<=c.au/\c.au<=65535:=by
  have:=hin
  simp only [dI,Bool.and_eq_true] at this
  exact fD.1 this.1.1.1.1.1.1.1.1
 obtain⟨o,ho⟩:∃o:Nat,c.op=(o:Int):=⟨c.op.toNat,by omega⟩
 obtain⟨b,hbb⟩:∃b:Nat,c.au=(b:Int):=⟨c.au.toNat,by omega⟩
 have eo:IntKind.u8.wrap (o:Int)=(o:Int):=by rw [IntKind.wrap_u8];omega
 have eb:IntKind.u16.wrap (b:Int)=(b:Int):=by rw [IntKind.wrap_u16];omega
 have HOB:Hid (o<256/\b<65536):=⟨by omega,by omega⟩
 have HOE:Hid (c.op.toNat=o/\c.au.toNat=b/\c.op=(o:Int)):=⟨by omega,by omega,ho⟩
 have hl0:L[0]?=some (.int .i64 (o:Int)):=by rw [<-ho];exact h.op
 have hl1:L[1]?=some (.int .i64 (b:Int)):=by rw [<-hbb];obtain⟨d,g,rfl,hi⟩:=h.ex;rfl
 have X0:=Bx.new w L 45
 have HX:Hid (Bx (w.alloc (Obj.cells L.toArray 45)).drew w.heap.size L):=X0.later (Below.refl _ _).drew
 have HC0:Hid (∀W,Bx W w.heap.size L->W.cell? ⟨w.heap.size,0,none⟩=some (.int .i64 (o:Int))/\W.cell? ⟨w.heap.size,1,none⟩=some (.int .i64 (b:Int))):=λW hW=>⟨hW.cell 0 hl0,hW.cell 1 hl1⟩
 have HB0:Hid (Below w.heap.size w (w.alloc (Obj.cells L.toArray 45)).drew):=(ab _ _).drew
 have S0:=HC0.o _ HX.o
 have HIN:=aa hin
 have HH:=aa h
 clear X0 hl0 hl1 h hin hop hby ho hbb
 go_enter func57,ntmps57
 go_upto_region 1 with fail
 go_region_held3 (λw'=>(w'.cell? ⟨w.heap.size,0,none⟩=some (.int .i64 (o:Int))/\w'.cell? ⟨w.heap.size,1,none⟩=some (.int .i64 (b:Int)))) (first|exact S2|exact S1|exact S0|exact HC0.o _ (HX2.o.later (ab _ _))) (first|(go_at_call 98;refine (Js b HOB.o.2 _).mono ?_;rintro e w2 ⟨a2,c2,rfl,hown2,hb2⟩;have HO2:=aa (And.intro (hown2.mono HB1.o.size) (HO1.o.later hb2));have HB2:=aa (al HB1.o hb2);have HX2:=aa (HX1.o.later hb2);have S2:=HC0.o _ HX2.o;clear hown2 hb2)|(go_at_call 97;refine (p8 o HOB.o.1 _).mono ?_;rintro e w1 ⟨a1,c1,rfl,hown1,hb1⟩;have HO1:=aa (hown1.mono HB0.o.size);have HB1:=aa (al HB0.o hb1);have HX1:=aa (HX.o.later hb1);have S1:=HC0.o _ HX1.o;clear hown1 hb1))
 have HX3:Hid (Bx (w2.alloc (Obj.cells #[.slice a1 1 c1,.slice a2 2 c2] 39)) w.heap.size L):=HX2.o.later (ab _ _)
 have HB3:Hid (Below w.heap.size w (w2.alloc (Obj.cells #[.slice a1 1 c1,.slice a2 2 c2] 39))):=al HB2.o (ab _ _)
 have HO3:Hid (OR w (w2.alloc (Obj.cells #[.slice a1 1 c1,.slice a2 2 c2] 39)) (some ⟨w2.heap.size,0,none⟩) 2 2 [(a1,1,c1,cj o 1),(a2,2,c2,cj b 2)]):=OR.two (.inr HO2.o.2) (.inr HO2.o.1) HB2.o
 have HS3:Hid (w.heap.size+1<=(w2.alloc (Obj.cells #[.slice a1 1 c1,.slice a2 2 c2] 39)).heap.size):=by unfold Hid;have:=HB2.o.size;simp;omega
 have S3:=(HC0.o _ HX3.o).1
 have HX2s:=aa (World.block_lt_of_cell? _ _ S2.1)
 have HS4:Hid (w2.heap.size<(w2.alloc (Obj.cells #[.slice a1 1 c1,.slice a2 2 c2] 39)).heap.size):=by unfold Hid;simp
 clear S0 S1 S2 HO1 HB1 HX1 HO2 HX2 HX eo eb HC0 HB0
 rename_i hHeld
 clear hHeld
 have HS2:Hid (w.heap.size<w2.heap.size):=by unfold Hid;exact HX2s.o
 obtain⟨w3,hw3⟩:∃w3,w3=w2.alloc (Obj.cells #[.slice a1 1 c1,.slice a2 2 c2] 39):=⟨_,rfl⟩
 rw [<-hw3] at HX3 HB3 HO3 HS3 HS4 S3 ⊢
 clear hw3 HB2
 go_upto_region 3 with (first|(go_at_call 99;refine (j_ (o:Int) _).mono ?_;rintro e w4 ⟨pa,n,cp,rfl,hrp,hn5,hb4,hpb4⟩))
 have HPA:=aa hpb4
 clear hpb4
 have R0:Hid (E8 w L c (bq c.op) pa n (.slice (some ⟨w2.heap.size,0,none⟩) 2 2) (.int .i64 0) w4):=by
  refine⟨0,_,2,_,by omega,rfl,rfl,HO3.o.later hb4,?_,HX3.o.later hb4,?_,al HB3.o hb4,λk ⟨x,hx,hk⟩=>?_⟩
  rotate_right
  ·cases hx
   simp only at hk
   subst hk
   refine⟨by have:=HS2.o;omega,λ⟨y,hy,hk⟩=>?_⟩
   have:=HPA.o _ ⟨y,hy,rfl⟩
   have:=HS4.o
   omega
  ·rw [HOE.o.1,HOE.o.2.1];simp [bC,dM]
  ·rw [HOE.o.2.2]
   exact⟨hrp.len,λj hj=>by obtain⟨x,h1,h2,h3⟩:=hrp.cells j hj;exact⟨x,h1,by have:=HS3.o;omega,h3⟩⟩
 have HN:Hid ((bq c.op).length=n):=by unfold Hid;rw [HOE.o.2.2];exact hrp.len
 clear hrp hb4 HO3 HX3 HB3 HS3 S3 HPA
 go_loopw [3,19] (E8 w L c (bq c.op) pa n) (λ_ t _=>n - (intOf t).toNat)
 case atStart=>exact R0.out
 case round =>
  clear R0
  obtain⟨i,x,cx,rs,hi,rfl,rfl,hor,hcat,hbx,hrp,hbw,hap⟩:=hrel
  have ei:IntKind.i64.wrap ((i:Int)+1)=(i:Int)+1:=by rw [IntKind.wrap_i64];omega
  by_cases hlt:i<n
  ·have hdi:decide ((i:Int)<(n:Int))=true:=by simp;omega
   have hiP:i<(bq c.op).length:=by have:=HN.o;omega
   obtain⟨pb,rfl,hpb,hpc⟩:=hrp.cells i hiP
   have HT:Hid _:=List.take_succ_eq_append_getElem hiP
   have hp10:Hid ((bq c.op)[i]<10):=(rI c.op).1 _ (List.getElem_mem hiP)
   generalize (bq c.op)[i]=p at hpc HT hp10
   have HLD:=aa (m8 hbx.range HH.o.len)
   have HOR:=aa hor
   have HCAT:=aa hcat
   have HBX:=aa hbx
   have HRP:=aa hrp
   have HBW:=aa hbw
   have HAP:=aa hap
   have HPC:=aa hpc
   clear hor hcat hbx hrp hbw hap
   go_upto_region 5 with fail
   go_wp2_with (first|((with_reducible refine aP HLD.o ?_ ?_);(· rfl))|(go_at_call 100;refine (rR p hp10.out L c w _ HH.o HBW.o HIN.o).mono ?_;rintro e w5 ⟨a5,n5,c5,rfl,hlr,hb5⟩;obtain⟨a6,c6,w6,hrun,hor6,hbw6,hbut6,hon6⟩:=lV (HOR.o.later hb5) hlr (al HBW.o hb5) (by omega);have HRUN:=aa hrun;have HOR6:=aa hor6;have HB6:=aa hbw6;have HX6:=aa ((HBX.o.later hb5).but hbut6 (λhk=>by have:=(HAP.o _ hk).1;omega));have HRP6:=aa ((HRP.o.later hb5).FJ hbut6 (λk hk hk2=>(HAP.o k hk2).2 hk));have HAP6:=aa (λk hk=>(hon6 k hk).elim (λh=>HAP.o k h) (λh=>(⟨by have:=HBX.o.lt (by rw [HH.o.len];omega);have:=hb5.size;omega,λhk2=>by obtain⟨y,hy1,hy2⟩:=hk2;cases hy1;have q1:pb<_:=World.block_lt_of_cell? _ _ HPC.o;have q2:=hb5.size;have q3:pb=k:=hy2;omega⟩:w.heap.size<k/\¬aD (some ⟨pb,0,none⟩) k)));clear hrun hor6 hbw6 hbut6 hlr hb5 hon6)|(at_builtin;refine kt rfl _ _ 186 rfl _ _ rfl rfl _ w6 HRUN.o ?_))
   go_roundw
   case rel=>exact⟨i+1,a6,c6,_,by omega,by go_num,rfl,HOR6.o,by rw [eL,HCAT.o,HT.o,rB];simp [bC,dM],HX6.o,HRP6.o,HB6.o,HAP6.o⟩
   case measure=>simp [intOf];omega
  ·obtain rfl:i=n:=by omega
   have HX:Hid (bC rs=ly c):=by
    unfold Hid ly
    rw [hcat,List.take_of_length_le (by have:=HN.o;omega)]
   have hle:(bC rs).length<=140737488355328:=by
    rw [HX.o]
    unfold ly
    have:=qX HIN.o (bq c.op)
    have:=HN.o
    simp only [List.length_append,cA]
    omega
   have HJ:=aa (vl hor hbw (by omega) (by omega) hle)
   have HBW:=aa hbw
   clear hor hbw hcat hle hbx hrp hap
   go_wp2_with (first|(go_at_call 101;refine HJ.o.mono ?_;rintro e w2 ⟨a2,n2,c2,rfl,hown2,hb2⟩))
   go_ret
   exact⟨_,_,_,rfl,by rw [<-HX.o];exact hown2.mono HBW.o.size,al HBW.o hb2⟩
theorem qQ (L:List Value)(c:Cl)(w:World)(h:Cc w L c)(hf:fm c=true) :
  Calls prog 30 #[.agg L.toArray] w λe w'=>∃a n c',e=.returned (.tuple #[.slice a n c',.int .i64 0])/\Own w' w.heap.size a n c' (ly c)/\Below w.heap.size w w':=by
 have X1:Hid (Bx (w.alloc (Obj.cells L.toArray 45)) w.heap.size L):=Bx.new w L 45
 have HLD1:=aa (m8 X1.out.range h.len)
 have HL:=aa h.len
 have HC:Hid (Cc (w.alloc (Obj.cells L.toArray 45)) L c):=h.later (ab _ _)
 clear h
 go_enter func30,ntmps30
 go_wp2_with (first|((with_reducible refine aP HLD2.o ?_ ?_);(· rfl))|((with_reducible refine aP HLD1.o ?_ ?_);(· rfl))|(go_at_call 56;refine (mn L c _ HC.o).mono ?_;rintro e w2 ⟨rfl,hb2⟩;rw [hf];have HLD2:=aa (m8 (X1.out.later hb2).range HL.o);have HC2:=aa (HC.o.later hb2);have HB2:=aa hb2;clear hb2)|(go_at_call 57;refine (qU L c _ HC2.o hf).mono ?_;rintro e w3 ⟨a,n,c',rfl,hown,hb3⟩))
 exact bodyPost_ret (v:=.tuple #[.slice a n c',.int .i64 0]) (by simp [results,results30,go_sem]) rfl ⟨_,_,_,rfl,hown.mono (by have:=HB2.o.size;simp at this;omega),al (al (ab _ _) HB2.o) hb3⟩
theorem wj (L:List Value)(c:Cl)(w:World)(h:Cc w L c)(hf:fm c=false) :
  Calls prog 30 #[.agg L.toArray] w λe w'=>e=.returned (.tuple #[.slice none 0 0,.int .i64 1])/\Below w.heap.size w w':=by
 have X1:Hid (Bx (w.alloc (Obj.cells L.toArray 45)) w.heap.size L):=Bx.new w L 45
 have HLD1:=aa (m8 X1.out.range h.len)
 have HC:Hid (Cc (w.alloc (Obj.cells L.toArray 45)) L c):=h.later (ab _ _)
 clear h
 go_enter func30,ntmps30
 go_wp2_with (first|((with_reducible refine aP HLD1.o ?_ ?_);(· rfl))|(go_at_call 56;refine (mn L c _ HC.o).mono ?_;rintro e w2 ⟨rfl,hb2⟩;rw [hf];have HB2:=aa hb2;clear hb2))
 exact bodyPost_ret (v:=.tuple #[.slice none 0 0,.int .i64 1]) (by simp [results,results30,go_sem]) rfl ⟨rfl,al (ab _ _) HB2.o⟩
end Go.Proofs.YtfmhdimaijimlaaGreatDoor.R
