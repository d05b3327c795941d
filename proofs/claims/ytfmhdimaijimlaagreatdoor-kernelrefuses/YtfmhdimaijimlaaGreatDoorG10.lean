import Derived.Test.YtfmhdimaijimlaaGreatDoorG09
set_option linter.unusedVariables false
set_option linter.unusedSimpArgs false
set_option maxRecDepth 1000000
set_option maxHeartbeats 8000000
namespace Go.Proofs.YtfmhdimaijimlaaGreatDoor.R
open Go.RowKit
def p64s (l:List Nat):List Value:=l.map fun (n:Nat)=>Value.int .i64 (n:Int)
structure RP (w:World)(base:Nat)(a:Option Addr)(n:Nat)(L:List Nat):Prop where
 len:L.length=n
 cells:∀j (hj:j<L.length),∃b,a=some ⟨b,0,none⟩∧base≤b∧w.cell? ⟨b,j,none⟩=some (.int .i64 ((L[j]:Nat):Int))
theorem RP.but {S:Nat→Prop}{W w1:World}{base:Nat}{a:Option Addr}{n:Nat}{L:List Nat}(hb:But S W w1)(h:RP W base a n L)(hS:∀k,base≤k→¬S k):RP w1 base a n L :=
 ⟨h.len,fun j hj=>by
  obtain⟨b,hb1,hb2,hc⟩:=h.cells j hj
  exact⟨b,hb1,hb2,by rw [World.cell?_of_block (w:=W) (hb.block b (World.block_lt_of_cell? _ _ hc) (hS b hb2))];exact hc⟩⟩
theorem RP.later {W w1:World}{base:Nat}{a:Option Addr}{n:Nat}{L:List Nat}(hb:Below W.heap.size W w1)(h:RP W base a n L):RP w1 base a n L:=h.but (S:=fun _=>False) (But.of hb) (fun _ _ h=>h)
theorem RP.new (w:World)(t:TypeId)(A:Array Value)(L:List Nat)(hA:A=(p64s L).toArray):RP (w.alloc (.cells A t)) w.heap.size (some ⟨w.heap.size,0,none⟩) L.length L:=by
 subst hA
 exact⟨rfl,fun j hj=>⟨_,rfl,Nat.le_refl _,by simp [go_sem,p64s,hj]⟩⟩
theorem partsOf_any (op:Int)(w:World):Calls Tryz.prog 99 #[.int .i64 op] w fun e w'=>∃a n c,e=.returned (.slice a n c)∧RP w' w.heap.size a n (partsL op)∧n≤5∧Below w.heap.size w w'∧∀k,Blk a k→w.heap.size≤k:=by
 by_cases h:op=1
 ·subst h
  go_enter Tryz.func99,Tryz.ntmps99
  go_wp2
  go_ret
  exact⟨_,_,_,rfl,RP.new w 189 _ [0] rfl,by decide,below1 _ _,fun k ⟨x,hx,hk⟩=>by cases hx;exact Nat.le_of_eq hk⟩
 have b1:(op==1)=false:=by simpa using h
 have n1:Hid (¬op=1):=h
 clear h
 by_cases h:op=2
 ·subst h
  go_enter Tryz.func99,Tryz.ntmps99
  go_wp2
  go_ret
  exact⟨_,_,_,rfl,RP.new w 189 _ [1,2] rfl,by decide,below1 _ _,fun k ⟨x,hx,hk⟩=>by cases hx;exact Nat.le_of_eq hk⟩
 have b2:(op==2)=false:=by simpa using h
 have n2:Hid (¬op=2):=h
 clear h
 by_cases h:op=4
 ·subst h
  go_enter Tryz.func99,Tryz.ntmps99
  go_wp2
  go_ret
  exact⟨_,_,_,rfl,RP.new w 189 _ [1,2] rfl,by decide,below1 _ _,fun k ⟨x,hx,hk⟩=>by cases hx;exact Nat.le_of_eq hk⟩
 have b4:(op==4)=false:=by simpa using h
 have n4:Hid (¬op=4):=h
 clear h
 by_cases h:op=7
 ·subst h
  go_enter Tryz.func99,Tryz.ntmps99
  go_wp2
  go_ret
  exact⟨_,_,_,rfl,RP.new w 189 _ [1,2] rfl,by decide,below1 _ _,fun k ⟨x,hx,hk⟩=>by cases hx;exact Nat.le_of_eq hk⟩
 have b7:(op==7)=false:=by simpa using h
 have n7:Hid (¬op=7):=h
 clear h
 by_cases h:op=3
 ·subst h
  go_enter Tryz.func99,Tryz.ntmps99
  go_wp2
  go_ret
  exact⟨_,_,_,rfl,RP.new w 189 _ [1,2,4] rfl,by decide,below1 _ _,fun k ⟨x,hx,hk⟩=>by cases hx;exact Nat.le_of_eq hk⟩
 have b3:(op==3)=false:=by simpa using h
 have n3:Hid (¬op=3):=h
 clear h
 by_cases h:op=5
 ·subst h
  go_enter Tryz.func99,Tryz.ntmps99
  go_wp2
  go_ret
  exact⟨_,_,_,rfl,RP.new w 189 _ [1,3,2,5,6] rfl,by decide,below1 _ _,fun k ⟨x,hx,hk⟩=>by cases hx;exact Nat.le_of_eq hk⟩
 have b5:(op==5)=false:=by simpa using h
 have n5:Hid (¬op=5):=h
 clear h
 by_cases h:op=6
 ·subst h
  go_enter Tryz.func99,Tryz.ntmps99
  go_wp2
  go_ret
  exact⟨_,_,_,rfl,RP.new w 189 _ [1,3,2,5,7] rfl,by decide,below1 _ _,fun k ⟨x,hx,hk⟩=>by cases hx;exact Nat.le_of_eq hk⟩
 have b6:(op==6)=false:=by simpa using h
 have n6:Hid (¬op=6):=h
 clear h
 by_cases h:op=8
 ·subst h
  go_enter Tryz.func99,Tryz.ntmps99
  go_wp2
  go_ret
  exact⟨_,_,_,rfl,RP.new w 189 _ [8] rfl,by decide,below1 _ _,fun k ⟨x,hx,hk⟩=>by cases hx;exact Nat.le_of_eq hk⟩
 have b8:(op==8)=false:=by simpa using h
 have n8:Hid (¬op=8):=h
 clear h
 by_cases h:op=9
 ·subst h
  go_enter Tryz.func99,Tryz.ntmps99
  go_wp2
  go_ret
  exact⟨_,_,_,rfl,RP.new w 189 _ [9] rfl,by decide,below1 _ _,fun k ⟨x,hx,hk⟩=>by cases hx;exact Nat.le_of_eq hk⟩
 have b9:(op==9)=false:=by simpa using h
 have n9:Hid (¬op=9):=h
 clear h
 have E:Hid (partsL op=[]):=by
  have:=n1.out;have:=n2.out;have:=n3.out;have:=n4.out;have:=n5.out;have:=n6.out;have:=n7.out;have:=n8.out;have:=n9.out
  unfold Hid partsL
  rw [if_neg (by omega),if_neg (by omega),if_neg (by omega),if_neg (by omega),if_neg (by omega),if_neg (by omega),if_neg (by omega)]
 go_enter Tryz.func99,Tryz.ntmps99
 go_wp2
 go_ret
 exact⟨none,0,0,rfl,by rw [E.out];exact⟨rfl,fun j hj=>absurd hj (by simp)⟩,by omega,Below.refl _ _,fun k ⟨x,hx,hk⟩=>by cases hx⟩
end Go.Proofs.YtfmhdimaijimlaaGreatDoor.R
namespace Go.Proofs.YtfmhdimaijimlaaGreatDoor.R
open Go.RowKit
theorem rangeAt_new (W:World)(cs:List Value)(t:TypeId):(W.alloc (.cells cs.toArray t)).rangeAt W.heap.size 0 cs:=by
 intro j v hv
 have hj:=(List.getElem?_eq_some_iff.1 hv)
 simp [go_sem,hv]
theorem load41 (W:World)(b:Nat)(cs:List Value)(hb:b=W.heap.size)(hl:cs.length=13):(loadVar 45 ⟨b,0,none⟩).run Tryz.prog (W.alloc (.cells cs.toArray 45))=.ok (.agg cs.toArray) (W.alloc (.cells cs.toArray 45)):=by
 subst hb
 exact run_loadVar_mid (P:=Tryz.prog) _ _ 0 45 cs _ (rangeAt_new W cs 45) Tryz.underlying45 rfl (by rw [hl];kernel_rfl)
def wd (p:Nat)(d:Sl):Sl:=if p=7 then Sl.nil else d
def wg (p:Nat)(g:Sl):Sl:=if p=9 then Sl.nil else g
theorem Is.wo {w:World}{c:Cl}{d g:Sl}(h:Is w c d g)(p:Nat):Is w (wo c p) (wd p d) (wg p g):=by
 obtain⟨op,by_,size,obj,hi,lo,given,rights,off,n,data,index,gifts⟩:=c
 unfold R.wo wd wg mv
 repeat' split
 all_goals first
  | omega
  | exact⟨h.1,h.2,h.3,h.4⟩
  | exact⟨h.1,h.2,(by show (0:Nat)<18446744073709551616;omega),(by show (0:Nat)<18446744073709551616;omega)⟩
  | exact⟨row_nil _,h.2,h.3,h.4⟩
  | exact⟨h.1,RI.nil _,h.3,h.4⟩
theorem without0 (c:Cl)(d g:Sl)(w:World):Calls Tryz.prog 137 #[cV c d g,.int .i64 0] w fun e w'=>e=.returned (cV (wo c 0) (wd 0 d) (wg 0 g))∧Below w.heap.size w w':=by
 obtain⟨op,by_,size,obj,hi,lo,given,rights,off,n,data,index,gifts⟩:=c
 obtain⟨da,dn,dc⟩:=d
 obtain⟨ga,gn,gc⟩:=g
 unfold cV
 show Calls _ _ _ _ fun e w'=>e=.returned (.agg #[.int .i64 op,.int .i64 by_,.int .i64 0,.int .i64 obj,.int .u64 (hi:Int),.int .u64 (lo:Int),.bool given,.int .i64 rights,.int .i64 off,.int .i64 n,.slice da dn dc,.int .i64 index,.slice ga gn gc])∧Below w.heap.size w w'
 go_enter Tryz.func137,Tryz.ntmps137
 go_wp2
 exact bodyPost_ret (by simp [results,Tryz.results137,asAddr,load41]) rfl ⟨rfl,below2 _ _ _⟩
theorem without1 (c:Cl)(d g:Sl)(w:World):Calls Tryz.prog 137 #[cV c d g,.int .i64 1] w fun e w'=>e=.returned (cV (wo c 1) (wd 1 d) (wg 1 g))∧Below w.heap.size w w':=by
 obtain⟨op,by_,size,obj,hi,lo,given,rights,off,n,data,index,gifts⟩:=c
 obtain⟨da,dn,dc⟩:=d
 obtain⟨ga,gn,gc⟩:=g
 unfold cV
 show Calls _ _ _ _ fun e w'=>e=.returned (.agg #[.int .i64 op,.int .i64 by_,.int .i64 size,.int .i64 0,.int .u64 (hi:Int),.int .u64 (lo:Int),.bool given,.int .i64 rights,.int .i64 off,.int .i64 n,.slice da dn dc,.int .i64 index,.slice ga gn gc])∧Below w.heap.size w w'
 go_enter Tryz.func137,Tryz.ntmps137
 go_wp2
 exact bodyPost_ret (by simp [results,Tryz.results137,asAddr,load41]) rfl ⟨rfl,below2 _ _ _⟩
theorem without2 (c:Cl)(d g:Sl)(w:World):Calls Tryz.prog 137 #[cV c d g,.int .i64 2] w fun e w'=>e=.returned (cV (wo c 2) (wd 2 d) (wg 2 g))∧Below w.heap.size w w':=by
 obtain⟨op,by_,size,obj,hi,lo,given,rights,off,n,data,index,gifts⟩:=c
 obtain⟨da,dn,dc⟩:=d
 obtain⟨ga,gn,gc⟩:=g
 unfold cV
 show Calls _ _ _ _ fun e w'=>e=.returned (.agg #[.int .i64 op,.int .i64 by_,.int .i64 size,.int .i64 obj,.int .u64 0,.int .u64 0,.bool given,.int .i64 rights,.int .i64 off,.int .i64 n,.slice da dn dc,.int .i64 index,.slice ga gn gc])∧Below w.heap.size w w'
 go_enter Tryz.func137,Tryz.ntmps137
 go_wp2
 exact bodyPost_ret (by simp [results,Tryz.results137,asAddr,load41]) rfl ⟨rfl,below2 _ _ _⟩
theorem without3 (c:Cl)(d g:Sl)(w:World):Calls Tryz.prog 137 #[cV c d g,.int .i64 3] w fun e w'=>e=.returned (cV (wo c 3) (wd 3 d) (wg 3 g))∧Below w.heap.size w w':=by
 obtain⟨op,by_,size,obj,hi,lo,given,rights,off,n,data,index,gifts⟩:=c
 obtain⟨da,dn,dc⟩:=d
 obtain⟨ga,gn,gc⟩:=g
 unfold cV
 show Calls _ _ _ _ fun e w'=>e=.returned (.agg #[.int .i64 op,.int .i64 by_,.int .i64 size,.int .i64 obj,.int .u64 (hi:Int),.int .u64 (lo:Int),.bool false,.int .i64 rights,.int .i64 off,.int .i64 n,.slice da dn dc,.int .i64 index,.slice ga gn gc])∧Below w.heap.size w w'
 go_enter Tryz.func137,Tryz.ntmps137
 go_wp2
 exact bodyPost_ret (by simp [results,Tryz.results137,asAddr,load41]) rfl ⟨rfl,below2 _ _ _⟩
theorem without4 (c:Cl)(d g:Sl)(w:World):Calls Tryz.prog 137 #[cV c d g,.int .i64 4] w fun e w'=>e=.returned (cV (wo c 4) (wd 4 d) (wg 4 g))∧Below w.heap.size w w':=by
 obtain⟨op,by_,size,obj,hi,lo,given,rights,off,n,data,index,gifts⟩:=c
 obtain⟨da,dn,dc⟩:=d
 obtain⟨ga,gn,gc⟩:=g
 unfold cV
 show Calls _ _ _ _ fun e w'=>e=.returned (.agg #[.int .i64 op,.int .i64 by_,.int .i64 size,.int .i64 obj,.int .u64 (hi:Int),.int .u64 (lo:Int),.bool given,.int .i64 0,.int .i64 off,.int .i64 n,.slice da dn dc,.int .i64 index,.slice ga gn gc])∧Below w.heap.size w w'
 go_enter Tryz.func137,Tryz.ntmps137
 go_wp2
 exact bodyPost_ret (by simp [results,Tryz.results137,asAddr,load41]) rfl ⟨rfl,below2 _ _ _⟩
theorem without5 (c:Cl)(d g:Sl)(w:World):Calls Tryz.prog 137 #[cV c d g,.int .i64 5] w fun e w'=>e=.returned (cV (wo c 5) (wd 5 d) (wg 5 g))∧Below w.heap.size w w':=by
 obtain⟨op,by_,size,obj,hi,lo,given,rights,off,n,data,index,gifts⟩:=c
 obtain⟨da,dn,dc⟩:=d
 obtain⟨ga,gn,gc⟩:=g
 unfold cV
 show Calls _ _ _ _ fun e w'=>e=.returned (.agg #[.int .i64 op,.int .i64 by_,.int .i64 size,.int .i64 obj,.int .u64 (hi:Int),.int .u64 (lo:Int),.bool given,.int .i64 rights,.int .i64 0,.int .i64 n,.slice da dn dc,.int .i64 index,.slice ga gn gc])∧Below w.heap.size w w'
 go_enter Tryz.func137,Tryz.ntmps137
 go_wp2
 exact bodyPost_ret (by simp [results,Tryz.results137,asAddr,load41]) rfl ⟨rfl,below2 _ _ _⟩
theorem without6 (c:Cl)(d g:Sl)(w:World):Calls Tryz.prog 137 #[cV c d g,.int .i64 6] w fun e w'=>e=.returned (cV (wo c 6) (wd 6 d) (wg 6 g))∧Below w.heap.size w w':=by
 obtain⟨op,by_,size,obj,hi,lo,given,rights,off,n,data,index,gifts⟩:=c
 obtain⟨da,dn,dc⟩:=d
 obtain⟨ga,gn,gc⟩:=g
 unfold cV
 show Calls _ _ _ _ fun e w'=>e=.returned (.agg #[.int .i64 op,.int .i64 by_,.int .i64 size,.int .i64 obj,.int .u64 (hi:Int),.int .u64 (lo:Int),.bool given,.int .i64 rights,.int .i64 off,.int .i64 0,.slice da dn dc,.int .i64 index,.slice ga gn gc])∧Below w.heap.size w w'
 go_enter Tryz.func137,Tryz.ntmps137
 go_wp2
 exact bodyPost_ret (by simp [results,Tryz.results137,asAddr,load41]) rfl ⟨rfl,below2 _ _ _⟩
theorem without7 (c:Cl)(d g:Sl)(w:World):Calls Tryz.prog 137 #[cV c d g,.int .i64 7] w fun e w'=>e=.returned (cV (wo c 7) (wd 7 d) (wg 7 g))∧Below w.heap.size w w':=by
 obtain⟨op,by_,size,obj,hi,lo,given,rights,off,n,data,index,gifts⟩:=c
 obtain⟨da,dn,dc⟩:=d
 obtain⟨ga,gn,gc⟩:=g
 unfold cV
 show Calls _ _ _ _ fun e w'=>e=.returned (.agg #[.int .i64 op,.int .i64 by_,.int .i64 size,.int .i64 obj,.int .u64 (hi:Int),.int .u64 (lo:Int),.bool given,.int .i64 rights,.int .i64 off,.int .i64 n,.slice none 0 0,.int .i64 index,.slice ga gn gc])∧Below w.heap.size w w'
 go_enter Tryz.func137,Tryz.ntmps137
 go_wp2
 exact bodyPost_ret (by simp [results,Tryz.results137,asAddr,load41]) rfl ⟨rfl,below2 _ _ _⟩
theorem without8 (c:Cl)(d g:Sl)(w:World):Calls Tryz.prog 137 #[cV c d g,.int .i64 8] w fun e w'=>e=.returned (cV (wo c 8) (wd 8 d) (wg 8 g))∧Below w.heap.size w w':=by
 obtain⟨op,by_,size,obj,hi,lo,given,rights,off,n,data,index,gifts⟩:=c
 obtain⟨da,dn,dc⟩:=d
 obtain⟨ga,gn,gc⟩:=g
 unfold cV
 show Calls _ _ _ _ fun e w'=>e=.returned (.agg #[.int .i64 op,.int .i64 by_,.int .i64 size,.int .i64 obj,.int .u64 (hi:Int),.int .u64 (lo:Int),.bool given,.int .i64 rights,.int .i64 off,.int .i64 n,.slice da dn dc,.int .i64 0,.slice ga gn gc])∧Below w.heap.size w w'
 go_enter Tryz.func137,Tryz.ntmps137
 go_wp2
 exact bodyPost_ret (by simp [results,Tryz.results137,asAddr,load41]) rfl ⟨rfl,below2 _ _ _⟩
theorem without9 (c:Cl)(d g:Sl)(w:World):Calls Tryz.prog 137 #[cV c d g,.int .i64 9] w fun e w'=>e=.returned (cV (wo c 9) (wd 9 d) (wg 9 g))∧Below w.heap.size w w':=by
 obtain⟨op,by_,size,obj,hi,lo,given,rights,off,n,data,index,gifts⟩:=c
 obtain⟨da,dn,dc⟩:=d
 obtain⟨ga,gn,gc⟩:=g
 unfold cV
 show Calls _ _ _ _ fun e w'=>e=.returned (.agg #[.int .i64 op,.int .i64 by_,.int .i64 size,.int .i64 obj,.int .u64 (hi:Int),.int .u64 (lo:Int),.bool given,.int .i64 rights,.int .i64 off,.int .i64 n,.slice da dn dc,.int .i64 index,.slice none 0 0])∧Below w.heap.size w w'
 go_enter Tryz.func137,Tryz.ntmps137
 go_wp2
 exact bodyPost_ret (by simp [results,Tryz.results137,asAddr,load41]) rfl ⟨rfl,below2 _ _ _⟩
theorem without_any (p:Nat)(hp:p<10)(c:Cl)(d g:Sl)(w:World):Calls Tryz.prog 137 #[cV c d g,.int .i64 (p:Int)] w fun e w'=>e=.returned (cV (wo c p) (wd p d) (wg p g))∧Below w.heap.size w w':=by
 rcases (by omega:p=0∨p=1∨p=2∨p=3∨p=4∨p=5∨p=6∨p=7∨p=8∨p=9) with rfl|rfl|rfl|rfl|rfl|rfl|rfl|rfl|rfl|rfl
 ·exact without0 c d g w
 ·exact without1 c d g w
 ·exact without2 c d g w
 ·exact without3 c d g w
 ·exact without4 c d g w
 ·exact without5 c d g w
 ·exact without6 c d g w
 ·exact without7 c d g w
 ·exact without8 c d g w
 ·exact without9 c d g w
end Go.Proofs.YtfmhdimaijimlaaGreatDoor.R
namespace Go.Proofs.YtfmhdimaijimlaaGreatDoor.R
open Go.RowKit
theorem ld_arm {P:Program}{w:World}{ops:Array Oper}{rest:List Oper}{a:Act}{Q:Exit→Act→World→Prop}{d:Option Tmp}{tt:TypeId}{ps:String}{af}{ty:TypeId}{x:Operand}{p v:Value}
  (hr:(Instr.loadAt ty p).run P w=.ok v w) (hx:a.eval x=p) (h:wpList P ops Q rest (a.put d v) w) :
  wpList P ops Q ({ dst:=d,op:=.load ty x,type:=tt,pos:=ps,after:=af,guard:=none }::rest) a w:=by
 refine wpList_plain rfl fun K hK=>?_
 unfold Oper.wp execOp
 simp only [hx,hr,Sem.run_bind,Sem.run_pure,Result.andThen_ok]
 exact hK _ _ h
theorem ld_armg {P:Program}{w:World}{ops:Array Oper}{rest:List Oper}{a:Act}{Q:Exit→Act→World→Prop}{d:Option Tmp}{tt:TypeId}{ps:String}{af}{gd}{ty:TypeId}{x:Operand}{p v:Value}
  (hr:(Instr.loadAt ty p).run P w=.ok v w) (hx:a.eval x=p) (hw:Region.wanted { dst:=d,op:=.load ty x,type:=tt,pos:=ps,after:=af,guard:=gd } (yielded ops a.tmps)=true) (h:wpList P ops Q rest (a.put d v) w) :
  wpList P ops Q ({ dst:=d,op:=.load ty x,type:=tt,pos:=ps,after:=af,guard:=gd }::rest) a w:=by
 refine wpList_step fun K hK=>?_
 rw [if_pos hw]
 unfold Oper.wp execOp
 simp only [hx,hr,Sem.run_bind,Sem.run_pure,Result.andThen_ok]
 exact hK _ _ h
theorem info45:(Tryz.prog.info? 45).map (·.size)=some 13:=by kernel_rfl
theorem ld41 {w:World}{b o:Nat}{L:List Value}(h:w.rangeAt b o L)(hl:L.length=13):(Instr.loadAt 45 (.pointer (some ⟨b,o,none⟩))).run Tryz.prog w=.ok (.agg L.toArray) w :=
 run_loadAt_mid w b o 45 L _ h Tryz.underlying45 rfl (by rw [info45,hl])
theorem lv41 {w:World}{b o:Nat}{L:List Value}(h:w.rangeAt b o L)(hl:L.length=13):(loadVar 45 ⟨b,o,none⟩).run Tryz.prog w=.ok (.agg L.toArray) w :=
 run_loadVar_mid w b o 45 L _ h Tryz.underlying45 rfl (by rw [info45,hl])
theorem cC_one (c:Cl)(d g:Sl):∀v∈cC c d g,v.oneCell'=true:=by
 intro v hv
 simp only [cC,List.mem_cons,List.mem_nil_iff,or_false] at hv
 rcases hv with rfl|rfl|rfl|rfl|rfl|rfl|rfl|rfl|rfl|rfl|rfl|rfl|rfl<;>rfl
structure Bx (w:World)(b:Nat)(L:List Value):Prop where
 range:w.rangeAt b 0 L
 there:w.there b 0 L.length
theorem Bx.but {S:Nat→Prop}{w w':World}{b:Nat}{L:List Value}(hb:But S w w')(h:Bx w b L)(hn:¬S b):Bx w' b L:=by
 refine⟨fun j v hv=>?_,fun j hj=>?_⟩
 ·have hc:=h.range j v hv
  have hk:=hb.block b (World.block_lt_of_cell? _ _ hc) hn
  rw [World.cell?_of_block (w:=w) hk]
  exact hc
 ·obtain⟨h1,h2⟩:=h.there j hj
  obtain⟨v,hv⟩:=Option.isSome_iff_exists.1 h1
  have hk:=hb.block b (World.block_lt_of_cell? _ _ hv) hn
  exact⟨by rw [World.cell?_of_block (w:=w) hk];exact h1,by rw [World.frozen?_of_block hk];exact h2⟩
theorem Bx.later {w w':World}{b:Nat}{L:List Value}(hb:Below w.heap.size w w')(h:Bx w b L):Bx w' b L:=h.but (S:=fun _=>False) (But.of hb) (fun h=>h)
theorem Bx.new (w:World)(L:List Value)(t:TypeId):Bx (w.alloc (.cells L.toArray t)) w.heap.size L:=by
 refine⟨rangeAt_new w L t,fun j hj=>⟨?_,?_⟩⟩
 ·rw [rangeAt_new w L t j L[j] (by simp [hj])];rfl
 ·simp [go_sem]
theorem sb_ {S:Nat→Prop}{b:Nat}(hb:S b):∀(vs:List Value) (o:Nat) {a w:World},But S a w→But S a (w.setCells b o vs)
 | [],_,_,_,h=>h
 | v::r,o,a,w,h=>by rw [World.setCells];exact sb_ hb r (o+1) (h.setCell hb _)
theorem frozen_setCells (b:Nat)(x:Addr):∀(vs:List Value) (o:Nat) (w:World),(w.setCells b o vs).frozen? x=w.frozen? x
 | [],_,_=>rfl
 | v::r,o,w=>by rw [World.setCells,frozen_setCells b x r];simp
theorem Bx.set {w:World}{b:Nat}{L M:List Value}(h:Bx w b L)(hl:M.length=L.length):Bx (w.setCells b 0 M) b M:=by
 refine⟨World.rangeAt_setCells_same _ _ _ _ (hl ▸ h.there),fun j hj=>?_⟩
 obtain⟨h1,h2⟩:=h.there j (by omega)
 exact⟨World.isSome_setCells _ _ _ _ _ h1,by rw [frozen_setCells];exact h2⟩
theorem Bx.lt {w:World}{b:Nat}{L:List Value}(h:Bx w b L)(hl:0<L.length):b<w.heap.size:=by
 obtain⟨h1,_⟩:=h.there 0 hl
 obtain⟨v,hv⟩:=Option.isSome_iff_exists.1 h1
 exact World.block_lt_of_cell? _ _ hv
theorem Bx.cell {w:World}{b:Nat}{L:List Value}(h:Bx w b L)(j:Nat){v:Value}(hv:L[j]?=some v):w.cell? ⟨b,j,none⟩=some v:=by
 have:=h.range j v hv
 rwa [Nat.zero_add] at this
theorem stc {w:World}{b o n:Nat}{L:List Value}(h:w.there b o n)(hl:L.length=n)(h1:∀v∈L,v.oneCell'=true):(storeCells ⟨b,o,none⟩ L).run Tryz.prog w=.ok () (w.setCells b o L) :=
 run_storeCells_cells (P:=Tryz.prog) b o L 0 w (fun j hj=>by rw [Nat.add_zero];exact (h j (by omega)).1) (fun j hj=>by rw [Nat.add_zero];exact (h j (by omega)).2) h1
def z41:List Value:=cC (clz 0 0) Sl.nil Sl.nil
theorem zero41:∃Z:List Value,Z.length=13∧(∀v∈Z,v.oneCell'=true)∧Z=z41∧∀w:World,(zeroValue 45).run Tryz.prog w=.ok (.agg Z.toArray) w:=by
 refine⟨z41,rfl,cC_one _ _ _,rfl,fun w=>?_⟩
 obtain⟨i,hi,hz⟩:∃i,Tryz.prog.info? 45=some i∧i.zero=some (.agg z41.toArray):=by
  have h:(Tryz.prog.info? 45).map (·.zero)=some (some (.agg z41.toArray)):=by kernel_rfl
  cases hq:Tryz.prog.info? 45 with
  | none=>simp [hq] at h
  | some i=>simp [hq] at h;exact⟨i,rfl,h⟩
 simp [zeroValue,typeInfo,hi,hz]
end Go.Proofs.YtfmhdimaijimlaaGreatDoor.R
