import Derived.Test.YtffmodpgddecnaaGreatZ19
import Derived.Test.YtffmodpgddecnaaGreatZ20
set_option linter.unusedVariables false
set_option linter.unusedSimpArgs false
namespace Go.Proofs.YtffmodpgddecnaaGreat.V.E
open Go.RowKit Go.Maps
open Go.Proofs.YtffmodpgddecnaaGreat.H (B64 Cp)
set_option maxRecDepth 1000000 in
set_option maxHeartbeats 4000000 in
theorem wo8:∀x1 x2 x3 x4 x5 x6 x7 x8 x9:Bool,(x1=false)∨(x1=true∧x2=false)∨(x1=true∧x2=true∧x3=false)∨(x1=true∧x2=true∧x3=true∧x4=false)∨(x1=true∧x2=true∧x3=true∧x4=true∧x5=false)∨(x1=true∧x2=true∧x3=true∧x4=true∧x5=true∧x6=false)∨(x1=true∧x2=true∧x3=true∧x4=true∧x5=true∧x6=true∧x7=false)∨(x1=true∧x2=true∧x3=true∧x4=true∧x5=true∧x6=true∧x7=true∧x8=false∧x9=false)∨(x1=true∧x2=true∧x3=true∧x4=true∧x5=true∧x6=true∧x7=true∧x8=false∧x9=true)∨(x1=true∧x2=true∧x3=true∧x4=true∧x5=true∧x6=true∧x7=true∧x8=true∧x9=false)∨(x1=true∧x2=true∧x3=true∧x4=true∧x5=true∧x6=true∧x7=true∧x8=true∧x9=true):=by rintro (_|_) (_|_) (_|_) (_|_) (_|_) (_|_) (_|_) (_|_) (_|_)<;>simp
set_option maxRecDepth 100000 in
set_option maxHeartbeats 40000000 in
theorem onlyUsed_8 {cl:R.Cl}{dd gg:R.Sl}{w:World}(h:R.Is w cl dd gg)(ho:cl.op=8):Calls Tryz.prog 46 #[.agg (R.cC cl dd gg).toArray] w fun e w'=>e=.returned (.bool (ouB cl))∧Below w.heap.size w w':=by
 obtain⟨op,by_,size,obj,hi,lo,given,rights,off,n,data,index,gifts⟩:=cl
 obtain⟨da,dn,dc⟩:=dd
 obtain⟨ga,gn,gc⟩:=gg
 have hdl:data.length=dn:=h.data.len
 have hgl:gifts.length=gn:=h.gifts.len
 simp only at ho
 have D1:(op==1)=false:=by subst ho;decide
 have D4:(op==3)=false:=by subst ho;decide
 have D5:(op==5)=false:=by subst ho;decide
 have D6:(op==6)=false:=by subst ho;decide
 have D7:(op==8)=true:=by subst ho;decide
 have D8:(op==9)=false:=by subst ho;decide
 have UC:ucB op=false:=by subst ho;decide
 have MV:mvB op=false:=by subst ho;decide
 unfold ouB
 simp only [beq_dec,hdl,hgl,nat_dec,D1,D4,D5,D6,D7,D8,UC,MV]
 obtain⟨x1,F1⟩:∃x,(size==0)=x:=⟨_,rfl⟩
 obtain⟨x4,F4⟩:∃x,(rights==0)=x:=⟨_,rfl⟩
 obtain⟨x5,F5⟩:∃x,(off==0)=x:=⟨_,rfl⟩
 obtain⟨x6,F6⟩:∃x,(n==0)=x:=⟨_,rfl⟩
 obtain⟨x7,F7⟩:∃x,((dn:Int)==0)=x:=⟨_,rfl⟩
 obtain⟨x8,F8⟩:∃x,(index==0)=x:=⟨_,rfl⟩
 obtain⟨x9,F9⟩:∃x,((gn:Int)==0)=x:=⟨_,rfl⟩
 obtain⟨x2,F2⟩:∃x,decide ((obj,hi,lo)=((0,0,0):Cp))=x:=⟨_,rfl⟩
 obtain⟨x3,hx3⟩:∃x,given=!x:=⟨!given,by simp⟩
 subst hx3
 have F3:(!!x3)=x3:=by simp
 have heq:∀U:World,(binOp .eql 38 (.agg #[.int .i64 obj,.int .u64 (hi:Int),.int .u64 (lo:Int)]) (.agg #[.int .i64 0,.int .u64 0,.int .u64 0])).run Tryz.prog U=.ok (.bool x2) U:=fun U=>by rw [←F2];exact K.eqlCp (obj,hi,lo) (0,0,0) U
 rw [F1,F2,F3,F4,F5,F6,F7,F8,F9]
 obtain⟨r,hr⟩:∃r,r=((x1||false)&&(x2||false)&&(x3||false)&&(x4||false)&&(x5||false)&&(x6||false)&&(x7||false)&&(x8||true)&&(x9||false)):=⟨_,rfl⟩
 rw [←hr]
 have HR:=hid hr
 clear hr hdl hgl h ho F2 F3
 unfold R.cC R.Sl.v
 rcases wo8 x1 x2 x3 x4 x5 x6 x7 x8 x9 with rfl|⟨rfl,rfl⟩|⟨rfl,rfl,rfl⟩|⟨rfl,rfl,rfl,rfl⟩|⟨rfl,rfl,rfl,rfl,rfl⟩|⟨rfl,rfl,rfl,rfl,rfl,rfl⟩|⟨rfl,rfl,rfl,rfl,rfl,rfl,rfl⟩|⟨rfl,rfl,rfl,rfl,rfl,rfl,rfl,rfl,rfl⟩|⟨rfl,rfl,rfl,rfl,rfl,rfl,rfl,rfl,rfl⟩|⟨rfl,rfl,rfl,rfl,rfl,rfl,rfl,rfl,rfl⟩|⟨rfl,rfl,rfl,rfl,rfl,rfl,rfl,rfl,rfl⟩
 all_goals
  go_enter Tryz.func46,Tryz.ntmps46
  go_upto_region 1 with fail
  simp only [List.append]
  go_wp2_with (first|(go_at_call 66;refine (usesCap_any _ _).mono ?_;rintro e w1 ⟨rfl,rfl⟩;simp only [UC])|(go_at_call 67;refine (isMove_any _ _).mono ?_;rintro e w1 ⟨rfl,rfl⟩;simp only [MV]))
  go_ret
  exact⟨ret_bool (by have:=HR.out;simpa using this.symm),below1 _ _⟩
end Go.Proofs.YtffmodpgddecnaaGreat.V.E
namespace Go.Proofs.YtffmodpgddecnaaGreat.V.E
open Go.RowKit Go.Maps
open Go.Proofs.YtffmodpgddecnaaGreat.H (B64 Cp)
set_option maxRecDepth 1000000 in
set_option maxHeartbeats 4000000 in
theorem wo9:∀x1 x2 x3 x4 x5 x6 x7 x8 x9:Bool,(x1=false)∨(x1=true∧x2=false)∨(x1=true∧x2=true∧x3=false)∨(x1=true∧x2=true∧x3=true∧x4=false)∨(x1=true∧x2=true∧x3=true∧x4=true∧x5=false)∨(x1=true∧x2=true∧x3=true∧x4=true∧x5=true∧x6=false)∨(x1=true∧x2=true∧x3=true∧x4=true∧x5=true∧x6=true∧x7=false)∨(x1=true∧x2=true∧x3=true∧x4=true∧x5=true∧x6=true∧x7=true∧x8=false)∨(x1=true∧x2=true∧x3=true∧x4=true∧x5=true∧x6=true∧x7=true∧x8=true∧x9=false)∨(x1=true∧x2=true∧x3=true∧x4=true∧x5=true∧x6=true∧x7=true∧x8=true∧x9=true):=by rintro (_|_) (_|_) (_|_) (_|_) (_|_) (_|_) (_|_) (_|_) (_|_)<;>simp
set_option maxRecDepth 100000 in
set_option maxHeartbeats 40000000 in
theorem onlyUsed_9 {cl:R.Cl}{dd gg:R.Sl}{w:World}(h:R.Is w cl dd gg)(ho:cl.op=9):Calls Tryz.prog 46 #[.agg (R.cC cl dd gg).toArray] w fun e w'=>e=.returned (.bool (ouB cl))∧Below w.heap.size w w':=by
 obtain⟨op,by_,size,obj,hi,lo,given,rights,off,n,data,index,gifts⟩:=cl
 obtain⟨da,dn,dc⟩:=dd
 obtain⟨ga,gn,gc⟩:=gg
 have hdl:data.length=dn:=h.data.len
 have hgl:gifts.length=gn:=h.gifts.len
 simp only at ho
 have D1:(op==1)=false:=by subst ho;decide
 have D4:(op==3)=false:=by subst ho;decide
 have D5:(op==5)=false:=by subst ho;decide
 have D6:(op==6)=false:=by subst ho;decide
 have D7:(op==8)=false:=by subst ho;decide
 have D8:(op==9)=true:=by subst ho;decide
 have UC:ucB op=false:=by subst ho;decide
 have MV:mvB op=false:=by subst ho;decide
 unfold ouB
 simp only [beq_dec,hdl,hgl,nat_dec,D1,D4,D5,D6,D7,D8,UC,MV]
 obtain⟨x1,F1⟩:∃x,(size==0)=x:=⟨_,rfl⟩
 obtain⟨x4,F4⟩:∃x,(rights==0)=x:=⟨_,rfl⟩
 obtain⟨x5,F5⟩:∃x,(off==0)=x:=⟨_,rfl⟩
 obtain⟨x6,F6⟩:∃x,(n==0)=x:=⟨_,rfl⟩
 obtain⟨x7,F7⟩:∃x,((dn:Int)==0)=x:=⟨_,rfl⟩
 obtain⟨x8,F8⟩:∃x,(index==0)=x:=⟨_,rfl⟩
 obtain⟨x9,F9⟩:∃x,((gn:Int)==0)=x:=⟨_,rfl⟩
 obtain⟨x2,F2⟩:∃x,decide ((obj,hi,lo)=((0,0,0):Cp))=x:=⟨_,rfl⟩
 obtain⟨x3,hx3⟩:∃x,given=!x:=⟨!given,by simp⟩
 subst hx3
 have F3:(!!x3)=x3:=by simp
 have heq:∀U:World,(binOp .eql 38 (.agg #[.int .i64 obj,.int .u64 (hi:Int),.int .u64 (lo:Int)]) (.agg #[.int .i64 0,.int .u64 0,.int .u64 0])).run Tryz.prog U=.ok (.bool x2) U:=fun U=>by rw [←F2];exact K.eqlCp (obj,hi,lo) (0,0,0) U
 rw [F1,F2,F3,F4,F5,F6,F7,F8,F9]
 obtain⟨r,hr⟩:∃r,r=((x1||false)&&(x2||false)&&(x3||false)&&(x4||false)&&(x5||false)&&(x6||false)&&(x7||false)&&(x8||false)&&(x9||true)):=⟨_,rfl⟩
 rw [←hr]
 have HR:=hid hr
 clear hr hdl hgl h ho F2 F3
 unfold R.cC R.Sl.v
 rcases wo9 x1 x2 x3 x4 x5 x6 x7 x8 x9 with rfl|⟨rfl,rfl⟩|⟨rfl,rfl,rfl⟩|⟨rfl,rfl,rfl,rfl⟩|⟨rfl,rfl,rfl,rfl,rfl⟩|⟨rfl,rfl,rfl,rfl,rfl,rfl⟩|⟨rfl,rfl,rfl,rfl,rfl,rfl,rfl⟩|⟨rfl,rfl,rfl,rfl,rfl,rfl,rfl,rfl⟩|⟨rfl,rfl,rfl,rfl,rfl,rfl,rfl,rfl,rfl⟩|⟨rfl,rfl,rfl,rfl,rfl,rfl,rfl,rfl,rfl⟩
 all_goals
  go_enter Tryz.func46,Tryz.ntmps46
  go_upto_region 1 with fail
  simp only [List.append]
  go_wp2_with (first|(go_at_call 66;refine (usesCap_any _ _).mono ?_;rintro e w1 ⟨rfl,rfl⟩;simp only [UC])|(go_at_call 67;refine (isMove_any _ _).mono ?_;rintro e w1 ⟨rfl,rfl⟩;simp only [MV]))
  go_ret
  exact⟨ret_bool (by have:=HR.out;simpa using this.symm),below1 _ _⟩
end Go.Proofs.YtffmodpgddecnaaGreat.V.E
namespace Go.Proofs.YtffmodpgddecnaaGreat.V.E
open Go.RowKit Go.Maps
open Go.Proofs.YtffmodpgddecnaaGreat.H (B64 Cp)
section
variable {w w' V w2 W w1:World}{c:R.Cl}{dd gg:R.Sl}
theorem onlyUsed_any (h:R.Is w c dd gg)(ho:R.wi c.op 1 10=true):Calls Tryz.prog 46 #[.agg (R.cC c dd gg).toArray] w fun e w'=>e=.returned (.bool (ouB c))∧Below w.heap.size w w':=by
 have h1:1≤c.op∧c.op≤10:=by unfold R.wi at ho;simp only [Bool.and_eq_true,decide_eq_true_eq] at ho;exact ho
 have hcs:c.op=1∨(c.op=2∨c.op=4∨c.op=7)∨c.op=3∨c.op=5∨c.op=6∨c.op=8∨c.op=9∨c.op=10:=by omega
 rcases hcs with e|e|e|e|e|e|e|e
 ·exact onlyUsed_1 h e
 ·exact onlyUsed_2 h e
 ·exact onlyUsed_3 h e
 ·exact onlyUsed_4 h e
 ·exact onlyUsed_5 h e
 ·exact onlyUsed_8 h e
 ·exact onlyUsed_9 h e
 ·exact onlyUsed_0 h e
theorem ld_armg {P:Program}{w:World}{ops:Array Oper}{rest:List Oper}{a:Act}{Q:Exit→Act→World→Prop}{d:Option Tmp}{tt:TypeId}{ps:String}{af}{gd}{ty:TypeId}{x:Operand}{p v:Value}
  (hr:(Instr.loadAt ty p).run P w=.ok v w) (hx:a.eval x=p) (hw:Region.wanted { dst:=d,op:=.load ty x,type:=tt,pos:=ps,after:=af,guard:=gd } (yielded ops a.tmps)=true) (h:wpList P ops Q rest (a.put d v) w) :
  wpList P ops Q ({ dst:=d,op:=.load ty x,type:=tt,pos:=ps,after:=af,guard:=gd }::rest) a w:=by
 refine wpList_step fun K hK=>?_
 rw [if_pos hw]
 unfold Oper.wp execOp
 simp only [hx,hr,Sem.run_bind,Sem.run_pure,Result.andThen_ok]
 exact hK _ _ h
def wsB (c:R.Cl):Bool:=!mvB c.op||c.given||decide (c.hi=0∧c.lo=0)
set_option maxRecDepth 100000 in
set_option maxHeartbeats 4000000 in
theorem wordMay_any (w:World)(c:R.Cl)(dd gg:R.Sl):Calls Tryz.prog 47 #[.agg (R.cC c dd gg).toArray] w fun e w'=>e=.returned (.bool (wsB c))∧Below w.heap.size w w':=by
 obtain⟨W,hW⟩:∃W,W=w.alloc (Obj.cells (R.cC c dd gg).toArray 45):=⟨_,rfl⟩
 have hB:Below w.heap.size w W:=by rw [hW];exact below1 _ _
 have hX:R.Bx W w.heap.size (R.cC c dd gg):=by rw [hW];exact R.Bx.new w (R.cC c dd gg) 45
 have x0:=hX.cell 0 rfl
 have x4:=hX.cell 4 rfl
 have x5:=hX.cell 5 rfl
 have x6:=hX.cell 6 rfl
 have HMv:=hid (fun U=>isMove_any c.op U)
 have HB:=hid hB
 have HW:=hid hW
 have hq:∀U:World,(binOp .eql 36 (.agg #[.int .u64 (c.hi:Int),.int .u64 (c.lo:Int)]) (.agg #[.int .u64 0,.int .u64 0])).run Tryz.prog U=.ok (.bool (decide (c.hi=0∧c.lo=0))) U:=fun U=>eqlWd c.hi c.lo 0 0 U
 unfold wsB
 clear hB hX hW
 cases hm:mvB c.op with
 | false =>
  rw [hm] at HMv
  clear hm
  go_enter Tryz.func47,Tryz.ntmps47
  go_upto_region 1 with fail
  rw [←HW.out]
  go_wp2_with (first|(go_at_call 67;refine (HMv.out _).mono ?_;rintro e w1 ⟨rfl,hw1⟩;obtain rfl:=hw1.symm;clear hw1))
  go_ret
  exact⟨rfl,HB.out⟩
 | true =>
  rw [hm] at HMv
  clear hm
  cases hg:c.given with
  | true =>
   rw [hg] at x6
   clear hg
   go_enter Tryz.func47,Tryz.ntmps47
   go_upto_region 1 with fail
   rw [←HW.out]
   go_wp2_with (first|(go_at_call 67;refine (HMv.out _).mono ?_;rintro e w1 ⟨rfl,hw1⟩;obtain rfl:=hw1.symm;clear hw1))
   go_ret
   exact⟨rfl,HB.out⟩
  | false =>
   rw [hg] at x6
   obtain⟨z,hz⟩:∃z,z=decide (c.hi=0∧c.lo=0):=⟨_,rfl⟩
   rw [←hz] at hq ⊢
   clear hg hz
   go_enter Tryz.func47,Tryz.ntmps47
   go_upto_region 1 with fail
   rw [←HW.out]
   go_wp2_with (first|(go_at_call 67;refine (HMv.out _).mono ?_;rintro e w1 ⟨rfl,hw1⟩;obtain rfl:=hw1.symm;clear hw1))
   go_ret
   exact⟨rfl,HB.out⟩
def icB (c:R.Cl):Bool:=R.wi c.op 1 10&&R.wi c.by_ 0 65535&&ibB c&&ouB c&&wsB c
theorem mv_wm (c:R.Cl):wsB c=R.wmB c:=by
 unfold wsB R.wmB mvB
 by_cases h5:c.op=5
 ·simp [h5]
 ·by_cases h6:c.op=6
  ·simp [h6]
  ·simp [h5,h6]
theorem ib_in (c:R.Cl):(R.wi c.by_ 0 65535&&ibB c)=R.inB c:=by
 unfold ibB R.inB
 generalize R.wi c.by_ 0 65535=a
 generalize R.wi c.index 0 65535=b
 generalize decide (c.data.length≤1025)=d
 cases a<;>cases b<;>cases d<;>simp
theorem ou_bl (c:R.Cl)(ho:R.wi c.op 1 10=true):ouB c=R.blB (R.unu c):=by
 have h1:1≤c.op∧c.op≤10:=by unfold R.wi at ho;simp only [Bool.and_eq_true,decide_eq_true_eq] at ho;exact ho
 obtain⟨op,by_,size,obj,hi,lo,given,rights,off,n,data,index,gifts⟩:=c
 simp only at h1
 have hcs:op=1∨op=2∨op=3∨op=4∨op=5∨op=6∨op=7∨op=8∨op=9∨op=10:=by omega
 clear ho h1
 rcases hcs with rfl|rfl|rfl|rfl|rfl|rfl|rfl|rfl|rfl|rfl <;>
  simp [ouB,ucB,mvB,R.blB,R.unu,R.partsL,R.wo,R.mv,R.clz,Prod.mk.injEq,Bool.and_assoc]
theorem ic_fm (c:R.Cl):icB c=R.fm c:=by
 unfold icB R.fm
 rw [mv_wm]
 cases ho:R.wi c.op 1 10 with
 | false=>simp
 | true =>
  rw [←ib_in,ou_bl c ho]
  generalize R.wi c.by_ 0 65535=a
  generalize ibB c=f
  generalize R.blB (R.unu c)=b
  generalize R.wmB c=d
  cases a<;>cases f<;>cases b<;>cases d<;>rfl
set_option maxRecDepth 100000 in
set_option maxHeartbeats 4000000 in
theorem isCall_any (h:R.Is w c dd gg):Calls Tryz.prog 27 #[.agg (R.cC c dd gg).toArray] w fun e w'=>e=.returned (.bool (R.fm c))∧Below w.heap.size w w':=by
 obtain⟨W,hW⟩:∃W,W=w.alloc (Obj.cells (R.cC c dd gg).toArray 45):=⟨_,rfl⟩
 have hB:Below w.heap.size w W:=by rw [hW];exact below1 _ _
 have hX:R.Bx W w.heap.size (R.cC c dd gg):=by rw [hW];exact R.Bx.new w (R.cC c dd gg) 45
 have x0:=hX.cell 0 rfl
 have x1:=hX.cell 1 rfl
 have HX:=hid hX
 have HIb:Hid (∀U:World,Below W.heap.size W U→Calls Tryz.prog 45 #[.agg (R.cC c dd gg).toArray] U fun e w'=>e=.returned (.bool (ibB c))∧Below U.heap.size U w'):=fun U hU=>inBounds_any ((h.later hB).later hU)
 have HOu:Hid (∀U:World,Below W.heap.size W U→R.wi c.op 1 10=true→Calls Tryz.prog 46 #[.agg (R.cC c dd gg).toArray] U fun e w'=>e=.returned (.bool (ouB c))∧Below U.heap.size U w'):=fun U hU ho=>onlyUsed_any ((h.later hB).later hU) ho
 have HWm:Hid (∀U:World,Calls Tryz.prog 47 #[.agg (R.cC c dd gg).toArray] U fun e w'=>e=.returned (.bool (wsB c))∧Below U.heap.size U w'):=fun U=>wordMay_any U c dd gg
 have HLd:Hid (∀U:World,Below W.heap.size W U→(Instr.loadAt 45 (.pointer (some ⟨w.heap.size,0,none⟩))).run Tryz.prog U=.ok (.agg (R.cC c dd gg).toArray) U):=fun U hU=>ldC (R.Bx.later hU hX)
 have HLD1:=hid (HLd.out W (Below.refl _ _))
 have HB:=hid hB
 have HW:=hid hW
 rw [←ic_fm]
 unfold icB
 clear hB hX hW h
 obtain⟨b1,hb1⟩:∃b,b=R.wi c.op 1 10:=⟨_,rfl⟩
 obtain⟨b2,hb2⟩:∃b,b=R.wi c.by_ 0 65535:=⟨_,rfl⟩
 obtain⟨b3,hb3⟩:∃b,b=ibB c:=⟨_,rfl⟩
 obtain⟨b4,hb4⟩:∃b,b=ouB c:=⟨_,rfl⟩
 obtain⟨b5,hb5⟩:∃b,b=wsB c:=⟨_,rfl⟩
 rw [←hb1] at HOu ⊢
 rw [←hb2] at ⊢
 have F1:=hb1.symm
 have F2:=hb2.symm
 rw [←hb3] at HIb ⊢
 rw [←hb4] at HOu ⊢
 rw [←hb5] at HWm ⊢
 clear hb1 hb2 hb3 hb4 hb5
 cases b1 with
 | false =>
  go_enter Tryz.func27,Tryz.ntmps27
  go_upto_region 1 with fail
  rw [←HW.out]
  go_wp2_with (first|((with_reducible refine ld_armg HLD3.out ?_ ?_ ?_);(· rfl);(· rfl))|((with_reducible refine ld_armg HLD2.out ?_ ?_ ?_);(· rfl);(· rfl))|((with_reducible refine ld_armg HLD1.out ?_ ?_ ?_);(· rfl);(· rfl))|(go_at_call 36;refine (within_any _ _ _ _).mono ?_;rintro e w1 ⟨rfl,hw1⟩;obtain rfl:=hw1.symm;clear hw1;simp only [F1,F2]))
  go_ret
  exact⟨rfl,HB.out⟩
 | true =>
  have HO2:Hid (∀U:World,Below W.heap.size W U→Calls Tryz.prog 46 #[.agg (R.cC c dd gg).toArray] U fun e w'=>e=.returned (.bool b4)∧Below U.heap.size U w'):=fun U hU=>HOu.out U hU rfl
  clear HOu
  cases b2 with
  | false =>
   go_enter Tryz.func27,Tryz.ntmps27
   go_upto_region 1 with fail
   rw [←HW.out]
   go_wp2_with (first|((with_reducible refine ld_armg HLD3.out ?_ ?_ ?_);(· rfl);(· rfl))|((with_reducible refine ld_armg HLD2.out ?_ ?_ ?_);(· rfl);(· rfl))|((with_reducible refine ld_armg HLD1.out ?_ ?_ ?_);(· rfl);(· rfl))|(go_at_call 36;refine (within_any _ _ _ _).mono ?_;rintro e w1 ⟨rfl,hw1⟩;obtain rfl:=hw1.symm;clear hw1;simp only [F1,F2]))
   go_ret
   exact⟨rfl,HB.out⟩
  | true =>
   cases b3 with
   | false =>
    go_enter Tryz.func27,Tryz.ntmps27
    go_upto_region 1 with fail
    rw [←HW.out]
    go_wp2_with (first|((with_reducible refine ld_armg HLD3.out ?_ ?_ ?_);(· rfl);(· rfl))|((with_reducible refine ld_armg HLD2.out ?_ ?_ ?_);(· rfl);(· rfl))|((with_reducible refine ld_armg HLD1.out ?_ ?_ ?_);(· rfl);(· rfl))|(go_at_call 36;refine (within_any _ _ _ _).mono ?_;rintro e w1 ⟨rfl,hw1⟩;obtain rfl:=hw1.symm;clear hw1;simp only [F1,F2])|(go_at_call 45;refine (HIb.out W (Below.refl _ _)).mono ?_;rintro e w6 ⟨rfl,hb6⟩;have HB6:=hid hb6;have HLD2:=hid (HLd.out w6 hb6);clear hb6))
    go_ret
    exact⟨rfl,below_call HB.out HB6.out⟩
   | true =>
    cases b4 with
    | false =>
     go_enter Tryz.func27,Tryz.ntmps27
     go_upto_region 1 with fail
     rw [←HW.out]
     go_wp2_with (first|((with_reducible refine ld_armg HLD3.out ?_ ?_ ?_);(· rfl);(· rfl))|((with_reducible refine ld_armg HLD2.out ?_ ?_ ?_);(· rfl);(· rfl))|((with_reducible refine ld_armg HLD1.out ?_ ?_ ?_);(· rfl);(· rfl))|(go_at_call 36;refine (within_any _ _ _ _).mono ?_;rintro e w1 ⟨rfl,hw1⟩;obtain rfl:=hw1.symm;clear hw1;simp only [F1,F2])|(go_at_call 45;refine (HIb.out W (Below.refl _ _)).mono ?_;rintro e w6 ⟨rfl,hb6⟩;have HB6:=hid hb6;have HLD2:=hid (HLd.out w6 hb6);clear hb6)|(go_at_call 46;refine (HO2.out w6 HB6.out).mono ?_;rintro e w7 ⟨rfl,hb7⟩;have HB7:=hid (below_call HB6.out hb7);have HLD3:=hid (HLd.out w7 HB7.out);clear hb7))
     go_ret
     exact⟨rfl,below_call HB.out HB7.out⟩
    | true =>
     go_enter Tryz.func27,Tryz.ntmps27
     go_upto_region 1 with fail
     rw [←HW.out]
     go_wp2_with (first|((with_reducible refine ld_armg HLD3.out ?_ ?_ ?_);(· rfl);(· rfl))|((with_reducible refine ld_armg HLD2.out ?_ ?_ ?_);(· rfl);(· rfl))|((with_reducible refine ld_armg HLD1.out ?_ ?_ ?_);(· rfl);(· rfl))|(go_at_call 36;refine (within_any _ _ _ _).mono ?_;rintro e w1 ⟨rfl,hw1⟩;obtain rfl:=hw1.symm;clear hw1;simp only [F1,F2])|(go_at_call 45;refine (HIb.out W (Below.refl _ _)).mono ?_;rintro e w6 ⟨rfl,hb6⟩;have HB6:=hid hb6;have HLD2:=hid (HLd.out w6 hb6);clear hb6)|(go_at_call 46;refine (HO2.out w6 HB6.out).mono ?_;rintro e w7 ⟨rfl,hb7⟩;have HB7:=hid (below_call HB6.out hb7);have HLD3:=hid (HLd.out w7 HB7.out);clear hb7)|(go_at_call 47;refine (HWm.out w7).mono ?_;rintro e w8 ⟨rfl,hb8⟩;have HB8:=hid (below_call HB7.out hb8);clear hb8))
     go_ret
     exact⟨rfl,below_call HB.out HB8.out⟩
end
end Go.Proofs.YtffmodpgddecnaaGreat.V.E
namespace Go.Proofs.YtffmodpgddecnaaGreat.V.E
open Go.RowKit Go.Maps
open Go.Proofs.YtffmodpgddecnaaGreat.H (B64 Cp)
section
variable {w w' V w2 W w1:World}{h:Hm}{q x:Pl}{N N':Nat→Prop}{Es:List En}{Ls:List Ln}{c:R.Cl}{dd gg:R.Sl}{p:Pm}
def Still (q:Pl)(r:Rep×Pl):Prop:=r.1.code≠0→r.2={ q with t:=r.2.t }
theorem Still.id_ (q:Pl)(r:Rep):Still q (r,q):=fun _=>rfl
theorem Still.ok_ (q x:Pl)(r:Rep)(h:r.code=0):Still q (r,x):=fun e=>absurd h e
theorem Still.t_ (q:Pl)(r:Rep)(n:Nat):Still q (r,{ q with t:=n }):=fun _=>rfl
theorem still_deed (p:Pm)(q:Pl)(c:R.Cl):Still q (pDeed p q c):=by
 have s1:Still q (pCre p q c.size):=by
  unfold pCre
  split
  ·exact Still.id_ _ _
  ·split
   ·exact Still.id_ _ _
   ·exact Still.ok_ _ _ _ rfl
 have s2:Still q (pDes q (cpO c)):=by
  unfold pDes
  split
  ·exact Still.id_ _ _
  ·exact Still.ok_ _ _ _ rfl
 have s3:Still q (pDer p q (cpO c) c.rights):=by
  unfold pDer
  split
  ·exact Still.id_ _ _
  ·split
   ·exact Still.t_ _ _ _
   ·exact Still.ok_ _ _ _ rfl
 have s4:Still q (pRev q (cpO c)):=by
  unfold pRev
  split
  ·exact Still.id_ _ _
  ·split
   ·exact Still.id_ _ _
   ·split
    ·exact Still.ok_ _ _ _ rfl
    ·exact Still.ok_ _ _ _ rfl
 have s5:Still q (pRead q c.given c.by_ (cpO c) c.off c.n):=by
  unfold pRead
  split
  ·exact Still.id_ _ _
  ·split
   ·exact Still.id_ _ _
   ·exact Still.id_ _ _
 have s6:Still q (pWrite q c.given c.by_ (cpO c) c.off c.data):=by
  unfold pWrite
  split
  ·exact Still.id_ _ _
  ·split
   ·exact Still.ok_ _ _ _ rfl
   ·exact Still.id_ _ _
 have s7:Still q (pAdd p q c.by_ (cpO c)):=by
  unfold pAdd
  split
  ·exact Still.id_ _ _
  ·split
   ·exact Still.id_ _ _
   ·exact Still.ok_ _ _ _ rfl
 have s8:Still q (pRem q c.by_ c.index):=by
  unfold pRem
  split
  ·exact Still.id_ _ _
  ·exact Still.ok_ _ _ _ rfl
 have s9:Still q (pSpa p q c.by_ c.gifts):=by
  unfold pSpa
  split
  ·exact Still.id_ _ _
  ·split
   ·exact Still.id_ _ _
   ·exact Still.ok_ _ _ _ rfl
 have s10:Still q (pExi q c.by_):=Still.ok_ _ _ _ rfl
 unfold pDeed
 split
 ·exact s1
 split
 ·exact s2
 split
 ·exact s3
 split
 ·exact s4
 split
 ·exact s5
 split
 ·exact s6
 split
 ·exact s7
 split
 ·exact s8
 split
 ·exact s9
 ·exact s10
def DoP (w:World)(h:Hm)(N:Nat→Prop)(r:Rep×Pl)(e:Ending)(w':World):Prop :=
 ∃a n c bo bl N',e=.returned (rpV r.1 a n c)∧Own w' w.heap.size 5 a n c (S.u8s r.1.data)∧Mw w' { h with bo:=bo,bl:=bl } r.2 N'∧But (·=h.g) w w'∧(∀k,(N' k∨k=bo∨k=bl)→(N k∨k=h.bo∨k=h.bl)∨w.heap.size≤k)∧∀k,Blk a k→¬N' k∧k≠bo∧k≠bl
theorem Md.home {g' bo' bl':Nat}{L0:List Value}(k:Md V { h with g:=g',bo:=bo',bl:=bl' } q N Es Ls)(hx:R.Bx V h.g L0)(hl:L0.length=16)(hn:¬N h.g)(h1:h.g≠bo')(h2:h.g≠bl'):Md (V.setCells h.g 0 (({ h with g:=g',bo:=bo',bl:=bl' }:Hm).L q)) { h with bo:=bo',bl:=bl' } q N Es Ls:=by
 have hb:But (·=h.g) V (V.setCells h.g 0 (({ h with g:=g',bo:=bo',bl:=bl' }:Hm).L q)):=R.setCells_but (S:=(·=h.g)) rfl _ 0 (But.refl _ _)
 have hN:∀j,N j→¬j=h.g:=fun j hj e=>hn (e ▸ hj)
 exact⟨hx.set (by rw [L_len,hl]),Ws.butB hb k.ws (fun i hi=>hN i (k.na i hi)),k.mo.but hb (fun e=>h1 e.symm),k.ml.but hb (fun e=>h2 e.symm),k.oe,k.le,fun e he=>(k.er e he).but hb hN,fun e he=>(k.lr e he).but hb hN,k.na,hn,k.no,k.nl,k.ol,fun j hj=>Nat.lt_of_lt_of_le (k.lt j hj) hb.size⟩
theorem ldRq {b:Nat}{r:Rep}{a:Option Addr}{n c:Nat}(h:R.Bx w b (rpL r a n c)):(Instr.loadAt 41 (.pointer (some ⟨b,0,none⟩))).run Tryz.prog w=.ok (rpV r a n c) w:=by
 have:=run_loadVar_mid (P:=Tryz.prog) w b 0 41 (rpL r a n c) _ h.range Tryz.underlying41 rfl (by rw [info6];rfl)
 simp [Instr.loadAt,Instr.sureAddr,this,rpL]
theorem att_of (hi:R.Is w c dd gg)(hm:R.fm c=true):Att c dd gg:=by
 unfold R.fm R.inB R.gfB R.wi at hm
 simp only [Bool.and_eq_true,decide_eq_true_eq] at hm
 have h1:=hi.data.len
 have h2:=hi.gifts.len
 obtain⟨⟨⟨ho,hin⟩,-⟩,-⟩:=hm
 obtain⟨⟨⟨⟨⟨⟨⟨⟨hby,-⟩,-⟩,-⟩,hob⟩,-⟩,hix⟩,hdl⟩,hgl,hga⟩:=hin
 refine⟨by unfold S.i64ok;omega,by unfold S.i64ok;omega,ho,by omega,hix,by omega,fun g hg=>?_⟩
 have:=List.all_eq_true.1 hga g hg
 simp only [Bool.and_eq_true,decide_eq_true_eq] at this
 exact this.1
theorem dono_fin {b:Nat}(k:Md w h q N Es Ls)(hbV:Below w.heap.size w V)(hb:w.heap.size≤b)(r:Rep)(hr:r.data=[]):DoP w h N (r,q) (.returned (rpV r none 0 0)) (V.setCells b 0 (rpL r none 0 0)):=by
 have g1:=k.glt
 have g2:=k.olt
 have g3:=k.llt
 have hb9:But (·=b) V (V.setCells b 0 (rpL r none 0 0)):=R.setCells_but (S:=(·=b)) rfl _ 0 (But.refl _ _)
 have kV:=(k.later hbV).but hb9 (fun j hj e=>k.new hb (e ▸ hj)) (by omega) (by omega) (by omega)
 refine⟨none,0,0,h.bo,h.bl,N,rfl,?_,⟨Es,Ls,kV⟩,(But.of hbV).comp hb9 (fun i e=>.inr (by omega)),fun j hj=>.inl hj,fun j ⟨_,hj,_⟩=>(by cases hj)⟩
 rw [show (r,q).1.data=[] from hr]
 exact Own.nil _ _ _
end
end Go.Proofs.YtffmodpgddecnaaGreat.V.E
namespace Go.Proofs.YtffmodpgddecnaaGreat.V.E
open Go.RowKit Go.Maps
open Go.Proofs.YtffmodpgddecnaaGreat.H (B64 Cp)
section
variable {w w' V w2 W w1 w3 U:World}{h:Hm}{q x:Pl}{N N' N3:Nat→Prop}{Es Es3:List En}{Ls Ls3:List Ln}{c:R.Cl}{dd gg:R.Sl}{p:Pm}{rr:Rep×Pl}{a:Option Addr}{n cc g' bo' bl' b:Nat}
theorem do_no (k:Md w h q N Es Ls)(hbU:Below w.heap.size w U)(hO:Own U w.heap.size 5 a n cc (S.u8s rr.1.data))(hs:rr.2={ q with t:=rr.2.t })(hb:w.heap.size≤b)(hnb:¬Blk a b) :
  Md (U.setCell ⟨h.g,11,none⟩ (.int .i64 (rr.2.t:Int))) h rr.2 N Es Ls∧But (·=h.g) U (U.setCell ⟨h.g,11,none⟩ (.int .i64 (rr.2.t:Int)))∧DoP w h N rr (.returned (rpV rr.1 a n cc)) ((U.setCell ⟨h.g,11,none⟩ (.int .i64 (rr.2.t:Int))).setCells b 0 (rpL rr.1 a n cc)):=by
 have g1:=k.glt
 have g2:=k.olt
 have g3:=k.llt
 have kV:=(k.later hbU).setG (q':={ q with t:=rr.2.t }) rfl rfl 11 (.int .i64 (rr.2.t:Int)) (by omega) rfl
 rw [←hs] at kV
 have hb1:But (·=h.g) U (U.setCell ⟨h.g,11,none⟩ (.int .i64 (rr.2.t:Int))):=(But.refl (·=h.g) U).setCell (p:=⟨h.g,11,none⟩) rfl _
 generalize U.setCell ⟨h.g,11,none⟩ (.int .i64 (rr.2.t:Int))=V at kV hb1
 have hb9:But (·=b) V (V.setCells b 0 (rpL rr.1 a n cc)):=R.setCells_but (S:=(·=b)) rfl _ 0 (But.refl _ _)
 have k9:=kV.but hb9 (fun j hj e=>k.new hb (e ▸ hj)) (by omega) (by omega) (by omega)
 have hge:∀j,Blk a j→w.heap.size≤j:=fun j hj=>hO.blk j hj
 refine⟨kV,hb1,a,n,cc,h.bo,h.bl,N,rfl,?_,⟨Es,Ls,k9⟩,?_,fun j hj=>.inl hj,fun j hj=>⟨k.new (hge j hj),by have:=hge j hj;omega,by have:=hge j hj;omega⟩⟩
 ·exact Own.but hb9 (Own.but hb1 hO (fun j hj e=>by have:=hge j hj;omega)) (fun j hj e=>hnb (e ▸ hj))
 ·exact (((But.of (S:=(·=h.g)) hbU).trans hb1)).comp hb9 (fun i e=>.inr (by omega))
theorem do_ok (k:Md w h q N Es Ls)(hbU:Below w.heap.size w U)(k3:Md U { h with g:=g',bo:=bo',bl:=bl' } rr.2 N3 Es3 Ls3)(hgs:w.heap.size≤bo'∧w.heap.size≤bl')(hN3:∀j,N3 j→N j∨w.heap.size≤j)(hO:Own U w.heap.size 5 a n cc (S.u8s rr.1.data))(hbk:∀j,Blk a j→¬N3 j∧j≠bo'∧j≠bl')(hb:w.heap.size≤b)(hnb:¬Blk a b∧¬N3 b∧b≠bo'∧b≠bl') :
  But (·=h.g) U (U.setCells h.g 0 (({ h with g:=g',bo:=bo',bl:=bl' }:Hm).L rr.2))∧DoP w h N rr (.returned (rpV rr.1 a n cc)) ((U.setCells h.g 0 (({ h with g:=g',bo:=bo',bl:=bl' }:Hm).L rr.2)).setCells b 0 (rpL rr.1 a n cc)):=by
 have g1:=k.glt
 have hng:¬N3 h.g:=fun e=>by
  rcases hN3 _ e with h1|h1
  ·exact k.ng h1
  ·omega
 have kV:=Md.home k3 (k.later hbU).bx (L_len h q) hng (by omega) (by omega)
 have hb1:But (·=h.g) U (U.setCells h.g 0 (({ h with g:=g',bo:=bo',bl:=bl' }:Hm).L rr.2)):=R.setCells_but (S:=(·=h.g)) rfl _ 0 (But.refl _ _)
 generalize U.setCells h.g 0 (({ h with g:=g',bo:=bo',bl:=bl' }:Hm).L rr.2)=V at kV hb1
 have hb9:But (·=b) V (V.setCells b 0 (rpL rr.1 a n cc)):=R.setCells_but (S:=(·=b)) rfl _ 0 (But.refl _ _)
 have k9:=kV.but hb9 (fun j hj e=>hnb.2.1 (e ▸ hj)) (fun e=>by simp only at e;omega) (fun e=>hnb.2.2.1 e.symm) (fun e=>hnb.2.2.2 e.symm)
 have hge:∀j,Blk a j→w.heap.size≤j:=fun j hj=>hO.blk j hj
 refine⟨hb1,a,n,cc,bo',bl',N3,rfl,?_,⟨Es3,Ls3,k9⟩,?_,fun j hj=>?_,hbk⟩
 ·exact Own.but hb9 (Own.but hb1 hO (fun j hj e=>by have:=hge j hj;omega)) (fun j hj e=>hnb.1 (e ▸ hj))
 ·exact (((But.of (S:=(·=h.g)) hbU).trans hb1)).comp hb9 (fun i e=>.inr (by omega))
 ·rcases hj with hj|hj|hj
  ·rcases hN3 j hj with h1|h1
   ·exact .inl (.inl h1)
   ·exact .inr h1
  ·exact .inr (by omega)
  ·exact .inr (by omega)
end
end Go.Proofs.YtffmodpgddecnaaGreat.V.E
namespace Go.Proofs.YtffmodpgddecnaaGreat.V.E
open Go.RowKit Go.Maps
open Go.Proofs.YtffmodpgddecnaaGreat.H (B64 Cp)
section
variable {w w' V w2 W w1 w3 U:World}{h:Hm}{q x:Pl}{N N' N3:Nat→Prop}{Es Es3:List En}{Ls Ls3:List Ln}{c:R.Cl}{dd gg:R.Sl}
set_option maxRecDepth 100000 in
set_option maxHeartbeats 4000000 in
theorem do_any (k:Md w h q N Es Ls)(hf:Fit h.p q)(hcf:h.cf.may=true)(hi:R.Is w c dd gg):Calls Tryz.prog 11 #[.pointer (some ⟨h.g,0,none⟩),.agg (R.cC c dd gg).toArray] w (DoP w h N (pDo h.p q c)):=by
 obtain⟨W,hW⟩:∃W,W=(w.alloc (Obj.cells (R.cC c dd gg).toArray 45)).alloc z6:=⟨_,rfl⟩
 have hB:Below w.heap.size w W:=by rw [hW];exact below2 _ _ _
 have hX:R.Bx W w.heap.size (R.cC c dd gg):=by rw [hW];exact R.Bx.later (below1 _ _) (R.Bx.new w (R.cC c dd gg) 45)
 have hZ:Zr W (w.heap.size+1):=by rw [hW];have:=Zr.new (w.alloc (Obj.cells (R.cC c dd gg).toArray 45));simpa using this
 have k1:=k.later hB
 have HLd:=hid (ldC hX)
 have HIc:=hid (isCall_any (hi.later hB))
 have hbW:w.heap.size+1<W.heap.size:=hZ.lt
 have HK0:=hid k
 have HK:=hid k1
 have HB:=hid hB
 have HW:=hid hW
 have HZ:=hid hZ
 have HX:=hid hX
 have HI:=hid (hi.later hB)
 have HF:=hid hf
 have HCf:=hid hcf
 have hgl:=k.glt
 have hol:=k.olt
 have hll:=k.llt
 unfold pDo
 cases hm:R.fm c with
 | false =>
  rw [if_pos rfl]
  rw [hm] at HIc
  clear k k1 hB hX hZ hW hi hf hcf hm
  go_enter Tryz.func11,Tryz.ntmps11
  go_upto_region 1 with fail
  rw [←HW.out]
  go_upto_region 2 with (first|((with_reducible refine R.ld_arm HLd.out ?_ ?_);(· rfl))|(go_at_call 27;refine HIc.out.mono ?_;rintro e w1 ⟨rfl,hb1⟩;have HB1:=hid hb1;clear hb1))
  have HZ1:=hid (HZ.out.later HB1.out)
  have HR_:=hid (refused_any 1 w1)
  go_wp2_with (first|(go_at_call 28;refine HR_.out.mono ?_;rintro e_ w3 ⟨rfl,hb3⟩;have HB3:=hid hb3;have HZ9:=hid (HZ1.out.later HB3.out);have HS9:=hid (HZ9.out.st (rep 1) none 0 0);have HL9:=hid (HZ9.out.lv (rep 1) none 0 0);clear hb3)|((with_reducible refine st_arm HS9.out ?_ ?_ ?_);(· rfl);(· rfl)))
  exact bodyPost_ret (v:=rpV (rep 1) none 0 0) (by simp [results,Tryz.results11,asAddr,HL9.out]) rfl (dono_fin HK0.out (below_call (below_call HB.out HB1.out) HB3.out) (Nat.le_succ _) (rep 1) rfl)
 | true =>
  rw [if_neg (by decide)]
  rw [hm] at HIc
  have hat:=att_of hi hm
  have HAt0:=hid hat
  have hby:=hat.by_
  obtain⟨lv,hlv⟩:∃lv,lv=(lnA Ls c.by_).val:=⟨_,rfl⟩
  have H3:Hid (∀U:World,Below W.heap.size W U→U.cell? ⟨h.g,13,none⟩=some (.map (some h.bl))∧U.cell? ⟨w.heap.size,1,none⟩=some (.int .i64 c.by_)∧(Instr.lookup 59 (.map (some h.bl)) (.int .i64 c.by_) true).run Tryz.prog U=.ok (.tuple #[lv,.bool (haX q.X c.by_)]) U):=fun U hU=>⟨(k1.later hU).cell 13 rfl,(R.Bx.later hU hX).cell 1 rfl,by rw [(k1.later hU).lookok hby,hlv]⟩
  clear k k1 hB hX hZ hW hi hf hcf hm hat hby hlv
  cases hh:haX q.X c.by_ with
  | false =>
   rw [if_pos rfl]
   rw [hh] at H3
   clear hh
   go_enter Tryz.func11,Tryz.ntmps11
   go_upto_region 1 with fail
   rw [←HW.out]
   go_upto_region 3 with (first|((with_reducible refine R.ld_arm HLd.out ?_ ?_);(· rfl))|(go_at_call 27;refine HIc.out.mono ?_;rintro e w1 ⟨rfl,hb1⟩;have HB1:=hid hb1;clear hb1))
   have HZ1:=hid (HZ.out.later HB1.out)
   go_cut [6] (fun v U=>v=.bool false∧Below w1.heap.size w1 U)
   case first =>
    go_region_held3 (fun U=>U.cell? ⟨h.g,13,none⟩=some (.map (some h.bl))∧U.cell? ⟨w.heap.size,1,none⟩=some (.int .i64 c.by_)∧(Instr.lookup 59 (.map (some h.bl)) (.int .i64 c.by_) true).run Tryz.prog U=.ok (.tuple #[lv,.bool false]) U) (first|exact H3.out _ (below_call HB1.out (Below.refl _ _).drew)) (fail)
    all_goals (try go_wp2)
    all_goals go_meet
    all_goals exact⟨rfl,(Below.refl _ _).drew⟩
   case rest =>
   rename World=>v
   obtain⟨rfl,hbv⟩:=hcut
   have HBv:=hid (below_call HB1.out hbv)
   have HZ1:=hid (HZ.out.later HBv.out)
   clear hbv
   have HR_:=hid (refused_any 2 v)
   go_wp2_with (first|(go_at_call 28;refine HR_.out.mono ?_;rintro e_ w3 ⟨rfl,hb3⟩;have HB3:=hid hb3;have HZ9:=hid (HZ1.out.later HB3.out);have HS9:=hid (HZ9.out.st (rep 2) none 0 0);have HL9:=hid (HZ9.out.lv (rep 2) none 0 0);clear hb3)|((with_reducible refine st_arm HS9.out ?_ ?_ ?_);(· rfl);(· rfl)))
   exact bodyPost_ret (v:=rpV (rep 2) none 0 0) (by simp [results,Tryz.results11,asAddr,HL9.out]) rfl (dono_fin HK0.out (below_call (below_call HB.out HBv.out) HB3.out) (Nat.le_succ _) (rep 2) rfl)
  | true =>
   rw [if_neg (by decide)]
   rw [hh] at H3
   have HH:=hid hh
   clear hh
   obtain⟨rr,hrr⟩:∃rr,rr=pDeed h.p q c:=⟨_,rfl⟩
   have HSt:Hid (rr.1.code≠0→rr.2={ q with t:=rr.2.t }):=by unfold Hid;rw [hrr];exact still_deed h.p q c
   have HRr:=hid hrr
   rw [←hrr]
   clear hrr
   go_enter Tryz.func11,Tryz.ntmps11
   go_upto_region 1 with fail
   rw [←HW.out]
   go_upto_region 3 with (first|((with_reducible refine R.ld_arm HLd.out ?_ ?_);(· rfl))|(go_at_call 27;refine HIc.out.mono ?_;rintro e w1 ⟨rfl,hb1⟩;have HB1:=hid hb1;clear hb1))
   have HZ1:=hid (HZ.out.later HB1.out)
   go_cut [6] (fun v U=>v=.bool true∧Below w1.heap.size w1 U)
   case first =>
    go_region_held3 (fun U=>U.cell? ⟨h.g,13,none⟩=some (.map (some h.bl))∧U.cell? ⟨w.heap.size,1,none⟩=some (.int .i64 c.by_)∧(Instr.lookup 59 (.map (some h.bl)) (.int .i64 c.by_) true).run Tryz.prog U=.ok (.tuple #[lv,.bool true]) U) (first|exact H3.out _ (below_call HB1.out (Below.refl _ _).drew)) (fail)
    all_goals (try go_wp2)
    all_goals go_meet
    all_goals exact⟨rfl,(Below.refl _ _).drew⟩
   case rest =>
   rename World=>v
   obtain⟨rfl,hbv⟩:=hcut
   have HBv:=hid (below_call HB1.out hbv)
   have HZ1:=hid (HZ.out.later HBv.out)
   clear hbv
   have HCp:=hid (copied_any (HK.out.later HBv.out) HF.out)
   go_upto_region 7 with (first|(go_at_call 29;refine HCp.out.mono ?_;rintro e w2 ⟨g9,bo9,bl9,rfl,k2,hgs,hb2⟩;have HK2:=hid k2;have HGs:=hid hgs;have HB2:=hid hb2;clear k2 hgs hb2))
   have HAt:Hid (Calls Tryz.prog 30 #[.pointer (some ⟨g9,0,none⟩),.agg (R.cC c dd gg).toArray] w2 (DidP w2 { h with g:=g9,bo:=bo9,bl:=bl9 } N rr)):=by
    unfold Hid
    rw [HRr.out]
    exact attempt_any HK2.out HF.out HCf.out ((HI.out.later HBv.out).later HB2.out) HAt0.out HH.out
   have HLd2:=hid (ldC (R.Bx.later HB2.out (R.Bx.later HBv.out HX.out)))
   go_upto_region 8 with (first|((with_reducible refine R.ld_arm HLd2.out ?_ ?_);(· rfl))|(go_at_call 30;refine HAt.out.mono ?_;intro e w3 hd3;obtain⟨a,n,cc,N3,rfl,hO3,⟨Es3,Ls3,k3⟩,hw3,hn3⟩:=hd3;have HO3:=hid hO3;have HK3:=hid k3;have HW3:=hid hw3;have HN3:=hid hn3;clear hO3 k3 hw3 hn3))
   obtain⟨U,hU⟩:∃U,U=w3.alloc (.cells #[.int .i64 rr.1.code,.int .i64 rr.1.cap.1,.int .u64 (rr.1.cap.2.1:Int),.int .u64 (rr.1.cap.2.2:Int),.slice a n cc,.int .i64 rr.1.num] 41):=⟨_,rfl⟩
   rw [←hU]
   have hbw2:Below w.heap.size w w2:=below_call HB.out (below_call HBv.out HB2.out)
   have hsv:w.heap.size≤v.heap.size:=(below_call HB.out HBv.out).size
   have hb3:Below w.heap.size w w3:=But.below hbw2 HW3.out.1 (fun j hj=>by
    have:=HGs.out
    rcases hj with e|e|e<;>(simp only at e;omega))
   have h3U:Below w3.heap.size w3 U:=by rw [hU];exact below1 _ _
   have hbU:Below w.heap.size w U:=below_call hb3 h3U
   have hXr:R.Bx U w3.heap.size (rpL rr.1 a n cc):=by rw [hU];exact R.Bx.new w3 (rpL rr.1 a n cc) _
   have r0:=hXr.cell 0 rfl
   have kU:=HK0.out.later hbU
   have k3U:=HK3.out.later h3U
   have hsz2:w.heap.size+1<w2.heap.size:=Nat.lt_of_lt_of_le hbW (below_call HBv.out HB2.out).size
   have hs23:w2.heap.size≤w3.heap.size:=HW3.out.1.size
   have hge:∀j,Blk a j→w2.heap.size≤j:=fun j hj=>HO3.out.blk j hj
   have hnb:¬Blk a (w.heap.size+1):=fun e=>by have:=hge _ e;omega
   have hOU:Own U w.heap.size 5 a n cc (S.u8s rr.1.data):=(Own.later h3U HO3.out).mono hbw2.size
   have hZU:Zr U (w.heap.size+1):=by
    have h1:Zr w3 (w.heap.size+1):=((HZ1.out.later HB2.out)).but HW3.out.1 (fun e=>by
     have:=HGs.out
     have:=HZ1.out.lt
     rcases e with e|e|e<;>(simp only at e;omega))
    exact h1.later h3U
   have HXr:=hid hXr
   by_cases hcode:rr.1.code≠0
   ·have hd:(rr.1.code != 0)=true:=by simp [hcode]
    obtain⟨kV,hbV,hD⟩:=do_no HK0.out hbU hOU (HSt.out hcode) (Nat.le_succ _) hnb
    have x11:=kU.cell 11 rfl
    have z11:=kU.fz 11 (by omega)
    have y11:=k3U.cell 11 rfl
    obtain⟨V,hV⟩:∃V,V=U.setCell ⟨h.g,11,none⟩ (.int .i64 (rr.2.t:Int)):=⟨_,rfl⟩
    rw [←hV] at kV hbV hD
    have HV:=hid hV
    have HLr:=hid (ldRq (R.Bx.but hbV HXr.out (by omega)))
    have HZV:=hid (hZU.but hbV (by omega))
    have HS9:=hid (HZV.out.st rr.1 a n cc)
    have HL9:=hid (HZV.out.lv rr.1 a n cc)
    have HD:=hid hD
    clear kV hbV hD hcode hV hU hbw2 hb3 h3U hbU hXr kU k3U hOU hZU hge hnb
    go_upto_region 10 with fail
    rw [←HV.out]
    go_wp2_with (first|((with_reducible refine R.ld_arm HLr.out ?_ ?_);(· rfl))|((with_reducible refine st_arm HS9.out ?_ ?_ ?_);(· rfl);(· rfl)))
    exact bodyPost_ret (v:=rpV rr.1 a n cc) (by simp [results,Tryz.results11,asAddr,HL9.out]) rfl HD.out
   ·have hcode:rr.1.code=0:=by simpa using hcode
    have hd:(rr.1.code != 0)=false:=by simp [hcode]
    obtain⟨hbV,hD⟩:=do_ok (b:=w.heap.size+1) HK0.out hbU k3U ⟨by have:=HGs.out;omega,by have:=HGs.out;omega⟩ (fun j hj=>(HW3.out.2 j hj).imp id (fun e=>by omega)) hOU (fun j hj=>⟨HN3.out j hj,by have:=hge j hj;have:=HK2.out.olt;simp only at this;omega,by have:=hge j hj;have:=HK2.out.llt;simp only at this;omega⟩) (Nat.le_succ _) ⟨hnb,fun e=>by
     rcases HW3.out.2 _ e with e|e
     ·exact HK0.out.new (Nat.le_succ _) e
     ·omega,by have:=HGs.out;have:=HZ1.out.lt;omega,by have:=HGs.out;have:=HZ1.out.lt;omega⟩
    have HLm:=hid (Bx.ld70 k3U.bx (L_len _ _))
    have HSm:=hid (Bx.st70 (M:=({ h with g:=g9,bo:=bo9,bl:=bl9 }:Hm).L rr.2) kU.bx (L_len _ _) (L_len _ _) (L_one _ _))
    obtain⟨M,hM⟩:∃M,M=({ h with g:=g9,bo:=bo9,bl:=bl9 }:Hm).L rr.2:=⟨_,rfl⟩
    rw [←hM] at HLm HSm hbV hD
    obtain⟨V,hV⟩:∃V,V=U.setCells h.g 0 M:=⟨_,rfl⟩
    rw [←hV] at HSm hbV hD
    have HLr:=hid (ldRq (R.Bx.but hbV HXr.out (by omega)))
    have HZV:=hid (hZU.but hbV (by omega))
    have HS9:=hid (HZV.out.st rr.1 a n cc)
    have HL9:=hid (HZV.out.lv rr.1 a n cc)
    have HD:=hid hD
    clear hbV hD hcode hV hU hbw2 hb3 h3U hbU hXr kU k3U hOU hZU hge hnb hM
    go_wp2_with (first|((with_reducible refine R.ld_arm HLm.out ?_ ?_);(· rfl))|((with_reducible refine st_arm HSm.out ?_ ?_ ?_);(· rfl);(· rfl))|((with_reducible refine R.ld_arm HLr.out ?_ ?_);(· rfl))|((with_reducible refine st_arm HS9.out ?_ ?_ ?_);(· rfl);(· rfl)))
    exact bodyPost_ret (v:=rpV rr.1 a n cc) (by simp [results,Tryz.results11,asAddr,HL9.out]) rfl HD.out
end
end Go.Proofs.YtffmodpgddecnaaGreat.V.E
namespace Go.Proofs.YtffmodpgddecnaaGreat.V.E
open Go.RowKit Go.Maps
open Go.Proofs.YtffmodpgddecnaaGreat.H (B64 Cp)
theorem inP_any (n a b:Int)(w:World):Calls Tryz.prog 36 #[.int .i64 n,.int .i64 a,.int .i64 b] w fun e w'=>e=.returned (.bool (inW n a b))∧w'=w:=within_any n a b w
set_option maxRecDepth 100000 in
set_option maxHeartbeats 4000000 in
theorem pmay_any (c:Cf)(w:World):Calls Tryz.prog 15 #[c.v] w fun e w'=>e=.returned (.bool c.may)∧Below w.heap.size w w':=by
 obtain⟨W,o,p,m,q,r,l,s,y,k⟩:=c
 unfold Cf.v Cf.L
 cases F0:inW W 1 128 with
 | false =>
  have E:Hid (Cf.may ⟨W,o,p,m,q,r,l,s,y,k⟩=false):=by unfold Hid Cf.may;simp only [F0,Bool.true_and,Bool.false_and,Bool.and_false,Bool.and_true]
  go_enter Tryz.func15,Tryz.ntmps15
  go_wp2_with (first|(go_at_call 36;refine (inP_any _ _ _ _).mono ?_;rintro e w1 ⟨rfl,rfl⟩;simp only [F0]))
  go_ret
  exact⟨ret_bool E.out.symm,below1 _ _⟩
 | true =>
  cases F1:inW o 1 64 with
  | false =>
   have E:Hid (Cf.may ⟨W,o,p,m,q,r,l,s,y,k⟩=false):=by unfold Hid Cf.may;simp only [F0,F1,Bool.true_and,Bool.false_and,Bool.and_false,Bool.and_true]
   go_enter Tryz.func15,Tryz.ntmps15
   go_wp2_with (first|(go_at_call 36;refine (inP_any _ _ _ _).mono ?_;rintro e w1 ⟨rfl,rfl⟩;simp only [F0,F1]))
   go_ret
   exact⟨ret_bool E.out.symm,below1 _ _⟩
  | true =>
   cases F2:inW p 1 256 with
   | false =>
    have E:Hid (Cf.may ⟨W,o,p,m,q,r,l,s,y,k⟩=false):=by unfold Hid Cf.may;simp only [F0,F1,F2,Bool.true_and,Bool.false_and,Bool.and_false,Bool.and_true]
    go_enter Tryz.func15,Tryz.ntmps15
    go_wp2_with (first|(go_at_call 36;refine (inP_any _ _ _ _).mono ?_;rintro e w1 ⟨rfl,rfl⟩;simp only [F0,F1,F2]))
    go_ret
    exact⟨ret_bool E.out.symm,below1 _ _⟩
   | true =>
    cases F3:inW m 1 256 with
    | false =>
     have E:Hid (Cf.may ⟨W,o,p,m,q,r,l,s,y,k⟩=false):=by unfold Hid Cf.may;simp only [F0,F1,F2,F3,Bool.true_and,Bool.false_and,Bool.and_false,Bool.and_true]
     go_enter Tryz.func15,Tryz.ntmps15
     go_wp2_with (first|(go_at_call 36;refine (inP_any _ _ _ _).mono ?_;rintro e w1 ⟨rfl,rfl⟩;simp only [F0,F1,F2,F3]))
     go_ret
     exact⟨ret_bool E.out.symm,below1 _ _⟩
    | true =>
     cases F4:inW q 1 256 with
     | false =>
      have E:Hid (Cf.may ⟨W,o,p,m,q,r,l,s,y,k⟩=false):=by unfold Hid Cf.may;simp only [F0,F1,F2,F3,F4,Bool.true_and,Bool.false_and,Bool.and_false,Bool.and_true]
      go_enter Tryz.func15,Tryz.ntmps15
      go_wp2_with (first|(go_at_call 36;refine (inP_any _ _ _ _).mono ?_;rintro e w1 ⟨rfl,rfl⟩;simp only [F0,F1,F2,F3,F4]))
      go_ret
      exact⟨ret_bool E.out.symm,below1 _ _⟩
     | true =>
      cases F5:inW r 1 32 with
      | false =>
       have E:Hid (Cf.may ⟨W,o,p,m,q,r,l,s,y,k⟩=false):=by unfold Hid Cf.may;simp only [F0,F1,F2,F3,F4,F5,Bool.true_and,Bool.false_and,Bool.and_false,Bool.and_true]
       go_enter Tryz.func15,Tryz.ntmps15
       go_wp2_with (first|(go_at_call 36;refine (inP_any _ _ _ _).mono ?_;rintro e w1 ⟨rfl,rfl⟩;simp only [F0,F1,F2,F3,F4,F5]))
       go_ret
       exact⟨ret_bool E.out.symm,below1 _ _⟩
      | true =>
       cases F6:inW l 1 32 with
       | false =>
        have E:Hid (Cf.may ⟨W,o,p,m,q,r,l,s,y,k⟩=false):=by unfold Hid Cf.may;simp only [F0,F1,F2,F3,F4,F5,F6,Bool.true_and,Bool.false_and,Bool.and_false,Bool.and_true]
        go_enter Tryz.func15,Tryz.ntmps15
        go_wp2_with (first|(go_at_call 36;refine (inP_any _ _ _ _).mono ?_;rintro e w1 ⟨rfl,rfl⟩;simp only [F0,F1,F2,F3,F4,F5,F6]))
        go_ret
        exact⟨ret_bool E.out.symm,below1 _ _⟩
       | true =>
        cases F7:inW s 0 16 with
        | false =>
         have E:Hid (Cf.may ⟨W,o,p,m,q,r,l,s,y,k⟩=false):=by unfold Hid Cf.may;simp only [F0,F1,F2,F3,F4,F5,F6,F7,Bool.true_and,Bool.false_and,Bool.and_false,Bool.and_true]
         go_enter Tryz.func15,Tryz.ntmps15
         go_wp2_with (first|(go_at_call 36;refine (inP_any _ _ _ _).mono ?_;rintro e w1 ⟨rfl,rfl⟩;simp only [F0,F1,F2,F3,F4,F5,F6,F7]))
         go_ret
         exact⟨ret_bool E.out.symm,below1 _ _⟩
        | true =>
         cases F8:inW y 1 4 with
         | false =>
          have E:Hid (Cf.may ⟨W,o,p,m,q,r,l,s,y,k⟩=false):=by unfold Hid Cf.may;simp only [F0,F1,F2,F3,F4,F5,F6,F7,F8,Bool.true_and,Bool.false_and,Bool.and_false,Bool.and_true]
          go_enter Tryz.func15,Tryz.ntmps15
          go_wp2_with (first|(go_at_call 36;refine (inP_any _ _ _ _).mono ?_;rintro e w1 ⟨rfl,rfl⟩;simp only [F0,F1,F2,F3,F4,F5,F6,F7,F8]))
          go_ret
          exact⟨ret_bool E.out.symm,below1 _ _⟩
         | true =>
          cases F9:inW k 0 64 with
          | false =>
           have E:Hid (Cf.may ⟨W,o,p,m,q,r,l,s,y,k⟩=false):=by unfold Hid Cf.may;simp only [F0,F1,F2,F3,F4,F5,F6,F7,F8,F9,Bool.true_and,Bool.false_and,Bool.and_false,Bool.and_true]
           go_enter Tryz.func15,Tryz.ntmps15
           go_wp2_with (first|(go_at_call 36;refine (inP_any _ _ _ _).mono ?_;rintro e w1 ⟨rfl,rfl⟩;simp only [F0,F1,F2,F3,F4,F5,F6,F7,F8,F9]))
           go_ret
           exact⟨ret_bool E.out.symm,below1 _ _⟩
          | true =>
           have E:Hid (Cf.may ⟨W,o,p,m,q,r,l,s,y,k⟩=true):=by unfold Hid Cf.may;simp only [F0,F1,F2,F3,F4,F5,F6,F7,F8,F9,Bool.true_and,Bool.false_and,Bool.and_false,Bool.and_true]
           go_enter Tryz.func15,Tryz.ntmps15
           go_wp2_with (first|(go_at_call 36;refine (inP_any _ _ _ _).mono ?_;rintro e w1 ⟨rfl,rfl⟩;simp only [F0,F1,F2,F3,F4,F5,F6,F7,F8,F9]))
           go_ret
           exact⟨ret_bool E.out.symm,below1 _ _⟩
end Go.Proofs.YtffmodpgddecnaaGreat.V.E
namespace Go.Proofs.YtffmodpgddecnaaGreat.V.E
open Go.RowKit Go.Maps
open Go.Proofs.YtffmodpgddecnaaGreat.H (B64 Cp)
section
variable {p:Pm}{q:Pl}
def okK (p:Pm)(K:List Cp):Prop:=(K.length:Int)≤p.lm∧∀c∈K,S.i64ok c.1∧c.2.1<B64∧c.2.2<B64
theorem Fit.setT (hf:Fit p q){n:Nat}(h:n≤p.n):Fit p { q with t:=n } :=
 ⟨h,hf.n,hf.cs,hf.ro,hf.no,hf.nx,hf.rx,hf.mx,hf.px,hf.ob,hf.wd,hf.lm,hf.ln,hf.mo,hf.rm,hf.pg,hf.pm⟩
theorem stX_key (b:Int)(K:List Cp)(e:Int×List Cp):(if e.1=b then (e.1,K) else e).1=e.1:=by split<;>rfl
theorem Fit.setX (hf:Fit p q)(b:Int){K:List Cp}(hK:okK p K):Fit p { q with X:=stX q.X b K }:=by
 refine⟨hf.le,hf.n,hf.cs,hf.ro,hf.no,hf.nx,?_,?_,hf.px,hf.ob,hf.wd,hf.lm,?_,hf.mo,hf.rm,hf.pg,?_⟩
 ·unfold stX
  rw [List.pairwise_map]
  refine hf.rx.imp (fun {x y} h=>?_)
  rw [stX_key,stX_key]
  exact h
 ·intro e he
  obtain⟨y,hy,rfl⟩:=List.mem_map.1 he
  rw [stX_key]
  exact hf.mx y hy
 ·intro e he
  obtain⟨y,hy,rfl⟩:=List.mem_map.1 he
  by_cases h:y.1=b
  ·rw [if_pos h];exact hK
  ·rw [if_neg h];exact hf.ln y hy
 ·have:=hf.pm
  simp only [stX,List.length_map]
  exact this
theorem Fit.cutX (hf:Fit p q)(b:Int):Fit p { q with X:=q.X.filter (fun e=>decide (e.1≠b)) }:=by
 refine⟨hf.le,hf.n,hf.cs,hf.ro,hf.no,hf.nx,hf.rx.filter _,fun e he=>hf.mx e (List.mem_filter.1 he).1,hf.px,hf.ob,hf.wd,hf.lm,fun e he=>hf.ln e (List.mem_filter.1 he).1,hf.mo,hf.rm,hf.pg,?_⟩
 obtain⟨h1,h2,h3⟩:=hf.pm
 exact⟨h1,h2,Int.le_trans (Int.ofNat_le.2 (List.length_filter_le _ _)) h3⟩
theorem Fit.addX (hf:Fit p q){K:List Cp}(hK:okK p K)(hx:q.px≤65535)(hn:(q.X.length:Int)<p.pm):Fit p { q with px:=q.px+1,X:=q.X++[(q.px,K)] }:=by
 have hp:=hf.px
 refine⟨hf.le,hf.n,hf.cs,hf.ro,hf.no,hf.nx,?_,?_,⟨by simp only;omega,by simp only;omega⟩,hf.ob,hf.wd,hf.lm,?_,hf.mo,hf.rm,hf.pg,?_⟩
 ·refine List.pairwise_append.2 ⟨hf.rx,List.pairwise_singleton _ _,fun x hx y hy=>?_⟩
  rw [List.mem_singleton.1 hy]
  exact (hf.mx x hx).2
 ·intro e he
  rcases List.mem_append.1 he with h|h
  ·have:=hf.mx e h;exact⟨this.1,by simp only;omega⟩
  ·rw [List.mem_singleton.1 h];exact⟨by simp only;omega,by simp only;omega⟩
 ·intro e he
  rcases List.mem_append.1 he with h|h
  ·exact hf.ln e h
  ·rw [List.mem_singleton.1 h];exact hK
 ·obtain⟨h1,h2,h3⟩:=hf.pm
  refine⟨h1,h2,?_⟩
  simp only [List.length_append,List.length_singleton]
  omega
theorem lsX_ok (hf:Fit p q)(b:Int):okK p (lsX q.X b):=by
 unfold lsX
 cases hfd:q.X.find? (fun q=>decide (q.1=b)) with
 | none=>have:=hf.lm;exact⟨by simp;omega,by simp⟩
 | some e=>exact hf.ln e (List.mem_of_find?_eq_some hfd)
theorem sum_filter_le (f:Int×Ob→Nat)(P:Int×Ob→Bool):∀O:List (Int×Ob),((O.filter P).map f).sum≤(O.map f).sum
 | []=>by simp
 | e::O=>by
  have:=sum_filter_le f P O
  rw [List.filter_cons]
  split
  ·simp only [List.map_cons,List.sum_cons];omega
  ·simp only [List.map_cons,List.sum_cons];omega
theorem Fit.cutO (hf:Fit p q)(o:Int):Fit p { q with O:=noO q.O o }:=by
 refine⟨hf.le,hf.n,hf.cs,hf.ro.filter _,fun e he=>hf.no e (List.mem_filter.1 he).1,hf.nx,hf.rx,hf.mx,hf.px,fun e he=>hf.ob e (List.mem_filter.1 he).1,fun e he=>hf.wd e (List.mem_filter.1 he).1,hf.lm,hf.ln,⟨hf.mo.1,Nat.le_trans (sum_filter_le _ _ _) hf.mo.2⟩,⟨hf.rm.1,Nat.le_trans (List.length_filter_le _ _) hf.rm.2⟩,⟨hf.pg.1,?_⟩,hf.pm⟩
 refine Nat.le_trans ?_ hf.pg.2
 unfold S.usedV vO noO
 simp only [List.map_map]
 exact sum_filter_le (fun e=>S.needN e.2.b.length) _ q.O
end
end Go.Proofs.YtffmodpgddecnaaGreat.V.E
