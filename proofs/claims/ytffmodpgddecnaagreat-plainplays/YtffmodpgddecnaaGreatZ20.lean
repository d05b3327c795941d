import Derived.Test.YtffmodpgddecnaaGreatZ18
set_option linter.unusedVariables false
set_option linter.unusedSimpArgs false
namespace Go.Proofs.YtffmodpgddecnaaGreat.V.E
open Go.RowKit Go.Maps
open Go.Proofs.YtffmodpgddecnaaGreat.H (B64 Cp)
set_option maxRecDepth 1000000 in
set_option maxHeartbeats 4000000 in
theorem wo5:∀x1 x2 x3 x4 x5 x6 x7 x8 x9:Bool,(x1=false)∨(x1=true∧x2=false∧x3=false∧x4=false)∨(x1=true∧x2=false∧x3=false∧x4=true∧x5=false∧x6=false)∨(x1=true∧x2=false∧x3=false∧x4=true∧x5=false∧x6=true∧x7=false∧x8=false)∨(x1=true∧x2=false∧x3=false∧x4=true∧x5=false∧x6=true∧x7=false∧x8=true∧x9=false)∨(x1=true∧x2=false∧x3=false∧x4=true∧x5=false∧x6=true∧x7=false∧x8=true∧x9=true)∨(x1=true∧x2=false∧x3=false∧x4=true∧x5=false∧x6=true∧x7=true∧x8=false)∨(x1=true∧x2=false∧x3=false∧x4=true∧x5=false∧x6=true∧x7=true∧x8=true∧x9=false)∨(x1=true∧x2=false∧x3=false∧x4=true∧x5=false∧x6=true∧x7=true∧x8=true∧x9=true)∨(x1=true∧x2=false∧x3=false∧x4=true∧x5=true∧x6=false)∨(x1=true∧x2=false∧x3=false∧x4=true∧x5=true∧x6=true∧x7=false∧x8=false)∨(x1=true∧x2=false∧x3=false∧x4=true∧x5=true∧x6=true∧x7=false∧x8=true∧x9=false)∨(x1=true∧x2=false∧x3=false∧x4=true∧x5=true∧x6=true∧x7=false∧x8=true∧x9=true)∨(x1=true∧x2=false∧x3=false∧x4=true∧x5=true∧x6=true∧x7=true∧x8=false)∨(x1=true∧x2=false∧x3=false∧x4=true∧x5=true∧x6=true∧x7=true∧x8=true∧x9=false)∨(x1=true∧x2=false∧x3=false∧x4=true∧x5=true∧x6=true∧x7=true∧x8=true∧x9=true)∨(x1=true∧x2=false∧x3=true∧x4=false)∨(x1=true∧x2=false∧x3=true∧x4=true∧x5=false∧x6=false)∨(x1=true∧x2=false∧x3=true∧x4=true∧x5=false∧x6=true∧x7=false∧x8=false)∨(x1=true∧x2=false∧x3=true∧x4=true∧x5=false∧x6=true∧x7=false∧x8=true∧x9=false)∨(x1=true∧x2=false∧x3=true∧x4=true∧x5=false∧x6=true∧x7=false∧x8=true∧x9=true)∨(x1=true∧x2=false∧x3=true∧x4=true∧x5=false∧x6=true∧x7=true∧x8=false)∨(x1=true∧x2=false∧x3=true∧x4=true∧x5=false∧x6=true∧x7=true∧x8=true∧x9=false)∨(x1=true∧x2=false∧x3=true∧x4=true∧x5=false∧x6=true∧x7=true∧x8=true∧x9=true)∨(x1=true∧x2=false∧x3=true∧x4=true∧x5=true∧x6=false)∨(x1=true∧x2=false∧x3=true∧x4=true∧x5=true∧x6=true∧x7=false∧x8=false)∨(x1=true∧x2=false∧x3=true∧x4=true∧x5=true∧x6=true∧x7=false∧x8=true∧x9=false)∨(x1=true∧x2=false∧x3=true∧x4=true∧x5=true∧x6=true∧x7=false∧x8=true∧x9=true)∨(x1=true∧x2=false∧x3=true∧x4=true∧x5=true∧x6=true∧x7=true∧x8=false)∨(x1=true∧x2=false∧x3=true∧x4=true∧x5=true∧x6=true∧x7=true∧x8=true∧x9=false)∨(x1=true∧x2=false∧x3=true∧x4=true∧x5=true∧x6=true∧x7=true∧x8=true∧x9=true)∨(x1=true∧x2=true∧x3=false∧x4=false)∨(x1=true∧x2=true∧x3=false∧x4=true∧x5=false∧x6=false)∨(x1=true∧x2=true∧x3=false∧x4=true∧x5=false∧x6=true∧x7=false∧x8=false)∨(x1=true∧x2=true∧x3=false∧x4=true∧x5=false∧x6=true∧x7=false∧x8=true∧x9=false)∨(x1=true∧x2=true∧x3=false∧x4=true∧x5=false∧x6=true∧x7=false∧x8=true∧x9=true)∨(x1=true∧x2=true∧x3=false∧x4=true∧x5=false∧x6=true∧x7=true∧x8=false)∨(x1=true∧x2=true∧x3=false∧x4=true∧x5=false∧x6=true∧x7=true∧x8=true∧x9=false)∨(x1=true∧x2=true∧x3=false∧x4=true∧x5=false∧x6=true∧x7=true∧x8=true∧x9=true)∨(x1=true∧x2=true∧x3=false∧x4=true∧x5=true∧x6=false)∨(x1=true∧x2=true∧x3=false∧x4=true∧x5=true∧x6=true∧x7=false∧x8=false)∨(x1=true∧x2=true∧x3=false∧x4=true∧x5=true∧x6=true∧x7=false∧x8=true∧x9=false)∨(x1=true∧x2=true∧x3=false∧x4=true∧x5=true∧x6=true∧x7=false∧x8=true∧x9=true)∨(x1=true∧x2=true∧x3=false∧x4=true∧x5=true∧x6=true∧x7=true∧x8=false)∨(x1=true∧x2=true∧x3=false∧x4=true∧x5=true∧x6=true∧x7=true∧x8=true∧x9=false)∨(x1=true∧x2=true∧x3=false∧x4=true∧x5=true∧x6=true∧x7=true∧x8=true∧x9=true)∨(x1=true∧x2=true∧x3=true∧x4=false)∨(x1=true∧x2=true∧x3=true∧x4=true∧x5=false∧x6=false)∨(x1=true∧x2=true∧x3=true∧x4=true∧x5=false∧x6=true∧x7=false∧x8=false)∨(x1=true∧x2=true∧x3=true∧x4=true∧x5=false∧x6=true∧x7=false∧x8=true∧x9=false)∨(x1=true∧x2=true∧x3=true∧x4=true∧x5=false∧x6=true∧x7=false∧x8=true∧x9=true)∨(x1=true∧x2=true∧x3=true∧x4=true∧x5=false∧x6=true∧x7=true∧x8=false)∨(x1=true∧x2=true∧x3=true∧x4=true∧x5=false∧x6=true∧x7=true∧x8=true∧x9=false)∨(x1=true∧x2=true∧x3=true∧x4=true∧x5=false∧x6=true∧x7=true∧x8=true∧x9=true)∨(x1=true∧x2=true∧x3=true∧x4=true∧x5=true∧x6=false)∨(x1=true∧x2=true∧x3=true∧x4=true∧x5=true∧x6=true∧x7=false∧x8=false)∨(x1=true∧x2=true∧x3=true∧x4=true∧x5=true∧x6=true∧x7=false∧x8=true∧x9=false)∨(x1=true∧x2=true∧x3=true∧x4=true∧x5=true∧x6=true∧x7=false∧x8=true∧x9=true)∨(x1=true∧x2=true∧x3=true∧x4=true∧x5=true∧x6=true∧x7=true∧x8=false)∨(x1=true∧x2=true∧x3=true∧x4=true∧x5=true∧x6=true∧x7=true∧x8=true∧x9=false)∨(x1=true∧x2=true∧x3=true∧x4=true∧x5=true∧x6=true∧x7=true∧x8=true∧x9=true):=by rintro (_|_) (_|_) (_|_) (_|_) (_|_) (_|_) (_|_) (_|_) (_|_)<;>simp
set_option maxRecDepth 100000 in
set_option maxHeartbeats 40000000 in
theorem onlyUsed_5 {cl:R.Cl}{dd gg:R.Sl}{w:World}(h:R.Is w cl dd gg)(ho:cl.op=6):Calls Tryz.prog 46 #[.agg (R.cC cl dd gg).toArray] w fun e w'=>e=.returned (.bool (ouB cl))∧Below w.heap.size w w':=by
 obtain⟨op,by_,size,obj,hi,lo,given,rights,off,n,data,index,gifts⟩:=cl
 obtain⟨da,dn,dc⟩:=dd
 obtain⟨ga,gn,gc⟩:=gg
 have hdl:data.length=dn:=h.data.len
 have hgl:gifts.length=gn:=h.gifts.len
 simp only at ho
 have D1:(op==1)=false:=by subst ho;decide
 have D4:(op==3)=false:=by subst ho;decide
 have D5:(op==5)=false:=by subst ho;decide
 have D6:(op==6)=true:=by subst ho;decide
 have D7:(op==8)=false:=by subst ho;decide
 have D8:(op==9)=false:=by subst ho;decide
 have UC:ucB op=true:=by subst ho;decide
 have MV:mvB op=true:=by subst ho;decide
 unfold ouB
 simp only [beq_dec,hdl,hgl,nat_dec,D1,D4,D5,D6,D7,D8,UC,MV]
 obtain⟨x1,F1⟩:∃x,(size==0)=x:=⟨_,rfl⟩
 obtain⟨x4,F4⟩:∃x,(rights==0)=x:=⟨_,rfl⟩
 obtain⟨x5,F5⟩:∃x,(off==0)=x:=⟨_,rfl⟩
 obtain⟨x6,F6⟩:∃x,(n==0)=x:=⟨_,rfl⟩
 obtain⟨x7,F7⟩:∃x,((dn:Int)==0)=x:=⟨_,rfl⟩
 obtain⟨x8,F8⟩:∃x,(index==0)=x:=⟨_,rfl⟩
 obtain⟨x9,F9⟩:∃x,((gn:Int)==0)=x:=⟨_,rfl⟩
 obtain⟨x2,F2⟩:∃x,decide ((obj,hi,lo)=((0,0,0):Cp))=x:=⟨_,rfl⟩
 obtain⟨x3,hx3⟩:∃x,given=!x:=⟨!given,by simp⟩
 subst hx3
 have F3:(!!x3)=x3:=by simp
 have heq:∀U:World,(binOp .eql 38 (.agg #[.int .i64 obj,.int .u64 (hi:Int),.int .u64 (lo:Int)]) (.agg #[.int .i64 0,.int .u64 0,.int .u64 0])).run Tryz.prog U=.ok (.bool x2) U:=fun U=>by rw [←F2];exact K.eqlCp (obj,hi,lo) (0,0,0) U
 rw [F1,F2,F3,F4,F5,F6,F7,F8,F9]
 obtain⟨r,hr⟩:∃r,r=((x1||false)&&(x2||true)&&(x3||true)&&(x4||false)&&(x5||true)&&(x6||false)&&(x7||true)&&(x8||false)&&(x9||false)):=⟨_,rfl⟩
 rw [←hr]
 have HR:=hid hr
 clear hr hdl hgl h ho F2 F3
 unfold R.cC R.Sl.v
 rcases wo5 x1 x2 x3 x4 x5 x6 x7 x8 x9 with rfl|⟨rfl,rfl,rfl,rfl⟩|⟨rfl,rfl,rfl,rfl,rfl,rfl⟩|⟨rfl,rfl,rfl,rfl,rfl,rfl,rfl,rfl⟩|⟨rfl,rfl,rfl,rfl,rfl,rfl,rfl,rfl,rfl⟩|⟨rfl,rfl,rfl,rfl,rfl,rfl,rfl,rfl,rfl⟩|⟨rfl,rfl,rfl,rfl,rfl,rfl,rfl,rfl⟩|⟨rfl,rfl,rfl,rfl,rfl,rfl,rfl,rfl,rfl⟩|⟨rfl,rfl,rfl,rfl,rfl,rfl,rfl,rfl,rfl⟩|⟨rfl,rfl,rfl,rfl,rfl,rfl⟩|⟨rfl,rfl,rfl,rfl,rfl,rfl,rfl,rfl⟩|⟨rfl,rfl,rfl,rfl,rfl,rfl,rfl,rfl,rfl⟩|⟨rfl,rfl,rfl,rfl,rfl,rfl,rfl,rfl,rfl⟩|⟨rfl,rfl,rfl,rfl,rfl,rfl,rfl,rfl⟩|⟨rfl,rfl,rfl,rfl,rfl,rfl,rfl,rfl,rfl⟩|⟨rfl,rfl,rfl,rfl,rfl,rfl,rfl,rfl,rfl⟩|⟨rfl,rfl,rfl,rfl⟩|⟨rfl,rfl,rfl,rfl,rfl,rfl⟩|⟨rfl,rfl,rfl,rfl,rfl,rfl,rfl,rfl⟩|⟨rfl,rfl,rfl,rfl,rfl,rfl,rfl,rfl,rfl⟩|⟨rfl,rfl,rfl,rfl,rfl,rfl,rfl,rfl,rfl⟩|⟨rfl,rfl,rfl,rfl,rfl,rfl,rfl,rfl⟩|⟨rfl,rfl,rfl,rfl,rfl,rfl,rfl,rfl,rfl⟩|⟨rfl,rfl,rfl,rfl,rfl,rfl,rfl,rfl,rfl⟩|⟨rfl,rfl,rfl,rfl,rfl,rfl⟩|⟨rfl,rfl,rfl,rfl,rfl,rfl,rfl,rfl⟩|⟨rfl,rfl,rfl,rfl,rfl,rfl,rfl,rfl,rfl⟩|⟨rfl,rfl,rfl,rfl,rfl,rfl,rfl,rfl,rfl⟩|⟨rfl,rfl,rfl,rfl,rfl,rfl,rfl,rfl⟩|⟨rfl,rfl,rfl,rfl,rfl,rfl,rfl,rfl,rfl⟩|⟨rfl,rfl,rfl,rfl,rfl,rfl,rfl,rfl,rfl⟩|⟨rfl,rfl,rfl,rfl⟩|⟨rfl,rfl,rfl,rfl,rfl,rfl⟩|⟨rfl,rfl,rfl,rfl,rfl,rfl,rfl,rfl⟩|⟨rfl,rfl,rfl,rfl,rfl,rfl,rfl,rfl,rfl⟩|⟨rfl,rfl,rfl,rfl,rfl,rfl,rfl,rfl,rfl⟩|⟨rfl,rfl,rfl,rfl,rfl,rfl,rfl,rfl⟩|⟨rfl,rfl,rfl,rfl,rfl,rfl,rfl,rfl,rfl⟩|⟨rfl,rfl,rfl,rfl,rfl,rfl,rfl,rfl,rfl⟩|⟨rfl,rfl,rfl,rfl,rfl,rfl⟩|⟨rfl,rfl,rfl,rfl,rfl,rfl,rfl,rfl⟩|⟨rfl,rfl,rfl,rfl,rfl,rfl,rfl,rfl,rfl⟩|⟨rfl,rfl,rfl,rfl,rfl,rfl,rfl,rfl,rfl⟩|⟨rfl,rfl,rfl,rfl,rfl,rfl,rfl,rfl⟩|⟨rfl,rfl,rfl,rfl,rfl,rfl,rfl,rfl,rfl⟩|⟨rfl,rfl,rfl,rfl,rfl,rfl,rfl,rfl,rfl⟩|⟨rfl,rfl,rfl,rfl⟩|⟨rfl,rfl,rfl,rfl,rfl,rfl⟩|⟨rfl,rfl,rfl,rfl,rfl,rfl,rfl,rfl⟩|⟨rfl,rfl,rfl,rfl,rfl,rfl,rfl,rfl,rfl⟩|⟨rfl,rfl,rfl,rfl,rfl,rfl,rfl,rfl,rfl⟩|⟨rfl,rfl,rfl,rfl,rfl,rfl,rfl,rfl⟩|⟨rfl,rfl,rfl,rfl,rfl,rfl,rfl,rfl,rfl⟩|⟨rfl,rfl,rfl,rfl,rfl,rfl,rfl,rfl,rfl⟩|⟨rfl,rfl,rfl,rfl,rfl,rfl⟩|⟨rfl,rfl,rfl,rfl,rfl,rfl,rfl,rfl⟩|⟨rfl,rfl,rfl,rfl,rfl,rfl,rfl,rfl,rfl⟩|⟨rfl,rfl,rfl,rfl,rfl,rfl,rfl,rfl,rfl⟩|⟨rfl,rfl,rfl,rfl,rfl,rfl,rfl,rfl⟩|⟨rfl,rfl,rfl,rfl,rfl,rfl,rfl,rfl,rfl⟩|⟨rfl,rfl,rfl,rfl,rfl,rfl,rfl,rfl,rfl⟩
 all_goals
  go_enter Tryz.func46,Tryz.ntmps46
  go_upto_region 1 with fail
  simp only [List.append]
  go_wp2_with (first|(go_at_call 66;refine (usesCap_any _ _).mono ?_;rintro e w1 ⟨rfl,rfl⟩;simp only [UC])|(go_at_call 67;refine (isMove_any _ _).mono ?_;rintro e w1 ⟨rfl,rfl⟩;simp only [MV]))
  go_ret
  exact⟨ret_bool (by have:=HR.out;simpa using this.symm),below1 _ _⟩
end Go.Proofs.YtffmodpgddecnaaGreat.V.E
