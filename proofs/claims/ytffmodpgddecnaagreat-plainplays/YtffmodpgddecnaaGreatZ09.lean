import Derived.Test.YtffmodpgddecnaaGreatZ08
set_option linter.unusedVariables false
set_option linter.unusedSimpArgs false
namespace Go.Proofs.YtffmodpgddecnaaGreat.V
open Go.RowKit
open Go.Proofs.YtffmodpgddecnaaGreat.H (B64 Cp)
section
variable {w w':World}
set_option maxRecDepth 100000 in
set_option maxHeartbeats 8000000 in
theorem rzero_e {cl:R.Cl}{dd gg:R.Sl}(hd:dd.n=cl.data.length)(hg:gg.n=cl.gifts.length)(w:World):Calls Tryz.prog 38 #[.agg (R.cC cl dd gg).toArray,.string ⟨#[]⟩] w fun e w'=>e=.returned (.bool (zrB ⟨#[]⟩ cl))∧Below w.heap.size w w':=by
 obtain⟨W,hW⟩:∃W,W=w.alloc (Obj.cells (R.cC cl dd gg).toArray 45):=⟨_,rfl⟩
 have HB:Hid (Below w.heap.size w W):=by rw [hW];exact below1 _ _
 have HX:Hid (R.Bx W w.heap.size (R.cC cl dd gg)):=by rw [hW];exact R.Bx.new w _ _
 have HW:=hid hW
 have x2:=HX.out.cell 2 rfl
 have x3:=HX.out.cell 3 rfl
 have x4:=HX.out.cell 4 rfl
 have x5:=HX.out.cell 5 rfl
 have x6:=HX.out.cell 6 rfl
 have x7:=HX.out.cell 7 rfl
 have x8:=HX.out.cell 8 rfl
 have x9:=HX.out.cell 9 rfl
 have x10:=HX.out.cell 10 rfl
 have x11:=HX.out.cell 11 rfl
 have x12:=HX.out.cell 12 rfl
 have hdv:dd.v=.slice dd.a cl.data.length dd.c:=by unfold R.Sl.v;rw [hd]
 have hgv:gg.v=.slice gg.a cl.gifts.length gg.c:=by unfold R.Sl.v;rw [hg]
 rw [hdv] at x10
 rw [hgv] at x12
 obtain⟨e,he⟩:∃e,e=decide (cpO cl=(0,0,0)):=⟨_,rfl⟩
 have heq:∀U:World,(binOp .eql 38 (.agg #[.int .i64 cl.obj,.int .u64 (cl.hi:Int),.int .u64 (cl.lo:Int)]) (.agg #[.int .i64 0,.int .u64 0,.int .u64 0])).run Tryz.prog U=.ok (.bool e) U:=fun U=>by rw [he];exact K.eqlCp (cpO cl) (0,0,0) U
 have W115:wiB ⟨#[]⟩ 115=false:=by decide
 have W99:wiB ⟨#[]⟩ 99=false:=by decide
 have W103:wiB ⟨#[]⟩ 103=false:=by decide
 have W114:wiB ⟨#[]⟩ 114=false:=by decide
 have W111:wiB ⟨#[]⟩ 111=false:=by decide
 have W110:wiB ⟨#[]⟩ 110=false:=by decide
 have W100:wiB ⟨#[]⟩ 100=false:=by decide
 have W105:wiB ⟨#[]⟩ 105=false:=by decide
 have W102:wiB ⟨#[]⟩ 102=false:=by decide
 clear hd hg hW hdv hgv
 by_cases h_s:cl.size=0
 rotate_left
 ·have b_s:(cl.size==0)=false:=by rw [beq_eq_false_iff_ne];omega
  have E:Hid (zrB ⟨#[]⟩ cl=false):=by unfold Hid zrB;simp [W115,W99,W103,W114,W111,W110,W100,W105,W102,h_s]
  clear h_s he
  go_enter Tryz.func38,Tryz.ntmps38
  go_upto_region 1 with fail
  have hW:=HW.out
  rw [←hW]
  clear hW HW
  simp only [List.append]
  go_wp2_with (first|(go_at_call 63;refine (rwith_any _ (by decide) _ _).mono ?_;rintro e9 w9 ⟨rfl,hw9⟩;obtain rfl:=hw9.symm;clear hw9;simp only [W115,W99,W103,W114,W111,W110,W100,W105,W102]))
  go_ret
  exact⟨by rw [E.out];exact ret_bool rfl,HB.out⟩
 have b_s:(cl.size==0)=true:=by simp [h_s]
 by_cases h_c:cpO cl=(0,0,0)
 rotate_left
 ·have b_c:e=false:=by rw [he];exact decide_eq_false h_c
  rw [b_c] at heq
  have E:Hid (zrB ⟨#[]⟩ cl=false):=by unfold Hid zrB;simp [W115,W99,W103,W114,W111,W110,W100,W105,W102,h_s,h_c]
  clear h_s h_c he
  go_enter Tryz.func38,Tryz.ntmps38
  go_upto_region 1 with fail
  have hW:=HW.out
  rw [←hW]
  clear hW HW
  simp only [List.append]
  go_wp2_with (first|(go_at_call 63;refine (rwith_any _ (by decide) _ _).mono ?_;rintro e9 w9 ⟨rfl,hw9⟩;obtain rfl:=hw9.symm;clear hw9;simp only [W115,W99,W103,W114,W111,W110,W100,W105,W102]))
  go_ret
  exact⟨by rw [E.out];exact ret_bool rfl,HB.out⟩
 have b_c:e=true:=by rw [he];exact decide_eq_true h_c
 rw [b_c] at heq
 by_cases h_g:cl.given=false
 rotate_left
 ·have k_g:cl.given=true:=by simpa using h_g
  rw [k_g] at x6
  have E:Hid (zrB ⟨#[]⟩ cl=false):=by unfold Hid zrB;simp [W115,W99,W103,W114,W111,W110,W100,W105,W102,h_s,h_c,k_g]
  clear h_s h_c k_g he
  go_enter Tryz.func38,Tryz.ntmps38
  go_upto_region 1 with fail
  have hW:=HW.out
  rw [←hW]
  clear hW HW
  simp only [List.append]
  go_wp2_with (first|(go_at_call 63;refine (rwith_any _ (by decide) _ _).mono ?_;rintro e9 w9 ⟨rfl,hw9⟩;obtain rfl:=hw9.symm;clear hw9;simp only [W115,W99,W103,W114,W111,W110,W100,W105,W102]))
  go_ret
  exact⟨by rw [E.out];exact ret_bool rfl,HB.out⟩
 rw [h_g] at x6
 by_cases h_r:cl.rights=0
 rotate_left
 ·have b_r:(cl.rights==0)=false:=by rw [beq_eq_false_iff_ne];omega
  have E:Hid (zrB ⟨#[]⟩ cl=false):=by unfold Hid zrB;simp [W115,W99,W103,W114,W111,W110,W100,W105,W102,h_s,h_c,h_g,h_r]
  clear h_s h_c h_g h_r he
  go_enter Tryz.func38,Tryz.ntmps38
  go_upto_region 1 with fail
  have hW:=HW.out
  rw [←hW]
  clear hW HW
  simp only [List.append]
  go_wp2_with (first|(go_at_call 63;refine (rwith_any _ (by decide) _ _).mono ?_;rintro e9 w9 ⟨rfl,hw9⟩;obtain rfl:=hw9.symm;clear hw9;simp only [W115,W99,W103,W114,W111,W110,W100,W105,W102]))
  go_ret
  exact⟨by rw [E.out];exact ret_bool rfl,HB.out⟩
 have b_r:(cl.rights==0)=true:=by simp [h_r]
 by_cases h_o:cl.off=0
 rotate_left
 ·have b_o:(cl.off==0)=false:=by rw [beq_eq_false_iff_ne];omega
  have E:Hid (zrB ⟨#[]⟩ cl=false):=by unfold Hid zrB;simp [W115,W99,W103,W114,W111,W110,W100,W105,W102,h_s,h_c,h_g,h_r,h_o]
  clear h_s h_c h_g h_r h_o he
  go_enter Tryz.func38,Tryz.ntmps38
  go_upto_region 1 with fail
  have hW:=HW.out
  rw [←hW]
  clear hW HW
  simp only [List.append]
  go_wp2_with (first|(go_at_call 63;refine (rwith_any _ (by decide) _ _).mono ?_;rintro e9 w9 ⟨rfl,hw9⟩;obtain rfl:=hw9.symm;clear hw9;simp only [W115,W99,W103,W114,W111,W110,W100,W105,W102]))
  go_ret
  exact⟨by rw [E.out];exact ret_bool rfl,HB.out⟩
 have b_o:(cl.off==0)=true:=by simp [h_o]
 by_cases h_n:cl.n=0
 rotate_left
 ·have b_n:(cl.n==0)=false:=by rw [beq_eq_false_iff_ne];omega
  have E:Hid (zrB ⟨#[]⟩ cl=false):=by unfold Hid zrB;simp [W115,W99,W103,W114,W111,W110,W100,W105,W102,h_s,h_c,h_g,h_r,h_o,h_n]
  clear h_s h_c h_g h_r h_o h_n he
  go_enter Tryz.func38,Tryz.ntmps38
  go_upto_region 1 with fail
  have hW:=HW.out
  rw [←hW]
  clear hW HW
  simp only [List.append]
  go_wp2_with (first|(go_at_call 63;refine (rwith_any _ (by decide) _ _).mono ?_;rintro e9 w9 ⟨rfl,hw9⟩;obtain rfl:=hw9.symm;clear hw9;simp only [W115,W99,W103,W114,W111,W110,W100,W105,W102]))
  go_ret
  exact⟨by rw [E.out];exact ret_bool rfl,HB.out⟩
 have b_n:(cl.n==0)=true:=by simp [h_n]
 by_cases h_d:cl.data.length=0
 rotate_left
 ·have b_d:((cl.data.length:Int)==0)=false:=by rw [beq_eq_false_iff_ne];omega
  have E:Hid (zrB ⟨#[]⟩ cl=false):=by unfold Hid zrB;simp [W115,W99,W103,W114,W111,W110,W100,W105,W102,h_s,h_c,h_g,h_r,h_o,h_n,h_d]
  clear h_s h_c h_g h_r h_o h_n h_d he
  go_enter Tryz.func38,Tryz.ntmps38
  go_upto_region 1 with fail
  have hW:=HW.out
  rw [←hW]
  clear hW HW
  simp only [List.append]
  go_wp2_with (first|(go_at_call 63;refine (rwith_any _ (by decide) _ _).mono ?_;rintro e9 w9 ⟨rfl,hw9⟩;obtain rfl:=hw9.symm;clear hw9;simp only [W115,W99,W103,W114,W111,W110,W100,W105,W102]))
  go_ret
  exact⟨by rw [E.out];exact ret_bool rfl,HB.out⟩
 have b_d:((cl.data.length:Int)==0)=true:=by simp [h_d]
 by_cases h_i:cl.index=0
 rotate_left
 ·have b_i:(cl.index==0)=false:=by rw [beq_eq_false_iff_ne];omega
  have E:Hid (zrB ⟨#[]⟩ cl=false):=by unfold Hid zrB;simp [W115,W99,W103,W114,W111,W110,W100,W105,W102,h_s,h_c,h_g,h_r,h_o,h_n,h_d,h_i]
  clear h_s h_c h_g h_r h_o h_n h_d h_i he
  go_enter Tryz.func38,Tryz.ntmps38
  go_upto_region 1 with fail
  have hW:=HW.out
  rw [←hW]
  clear hW HW
  simp only [List.append]
  go_wp2_with (first|(go_at_call 63;refine (rwith_any _ (by decide) _ _).mono ?_;rintro e9 w9 ⟨rfl,hw9⟩;obtain rfl:=hw9.symm;clear hw9;simp only [W115,W99,W103,W114,W111,W110,W100,W105,W102]))
  go_ret
  exact⟨by rw [E.out];exact ret_bool rfl,HB.out⟩
 have b_i:(cl.index==0)=true:=by simp [h_i]
 by_cases h_f:cl.gifts.length=0
 rotate_left
 ·have b_f:((cl.gifts.length:Int)==0)=false:=by rw [beq_eq_false_iff_ne];omega
  have E:Hid (zrB ⟨#[]⟩ cl=false):=by unfold Hid zrB;simp [W115,W99,W103,W114,W111,W110,W100,W105,W102,h_s,h_c,h_g,h_r,h_o,h_n,h_d,h_i,h_f]
  clear h_s h_c h_g h_r h_o h_n h_d h_i h_f he
  go_enter Tryz.func38,Tryz.ntmps38
  go_upto_region 1 with fail
  have hW:=HW.out
  rw [←hW]
  clear hW HW
  simp only [List.append]
  go_wp2_with (first|(go_at_call 63;refine (rwith_any _ (by decide) _ _).mono ?_;rintro e9 w9 ⟨rfl,hw9⟩;obtain rfl:=hw9.symm;clear hw9;simp only [W115,W99,W103,W114,W111,W110,W100,W105,W102]))
  go_ret
  exact⟨by rw [E.out];exact ret_bool rfl,HB.out⟩
 have b_f:((cl.gifts.length:Int)==0)=true:=by simp [h_f]
 have E:Hid (zrB ⟨#[]⟩ cl=true):=by unfold Hid zrB;simp [W115,W99,W103,W114,W111,W110,W100,W105,W102,h_s,h_c,h_g,h_r,h_o,h_n,h_d,h_i,h_f]
 clear h_s h_c h_g h_r h_o h_n h_d h_i h_f he
 go_enter Tryz.func38,Tryz.ntmps38
 go_upto_region 1 with fail
 have hW:=HW.out
 rw [←hW]
 clear hW HW
 simp only [List.append]
 go_wp2_with (first|(go_at_call 63;refine (rwith_any _ (by decide) _ _).mono ?_;rintro e9 w9 ⟨rfl,hw9⟩;obtain rfl:=hw9.symm;clear hw9;simp only [W115,W99,W103,W114,W111,W110,W100,W105,W102]))
 go_ret
 exact⟨by rw [E.out];exact ret_bool rfl,HB.out⟩
end
end Go.Proofs.YtffmodpgddecnaaGreat.V
namespace Go.Proofs.YtffmodpgddecnaaGreat.V
open Go.RowKit
open Go.Proofs.YtffmodpgddecnaaGreat.H (B64 Cp)
def fldB (cl:R.Cl):Bool:=inW cl.by_ 0 65535&&inW cl.obj 0 4611686018427387904&&R.sgB cl.size&&R.sgB cl.off&&R.sgB cl.n&&inW cl.rights 0 255&&decide (cl.data.length≤1025)&&inW cl.index 0 65535&&decide (cl.gifts.length≤255)
def swB (cl:R.Cl):Bool:=if cl.op=1 then zrB (⟨#[115]⟩:ByteArray) cl else if cl.op=2 then zrB (⟨#[99]⟩:ByteArray) cl else if cl.op=4 then zrB (⟨#[99]⟩:ByteArray) cl else if cl.op=7 then zrB (⟨#[99]⟩:ByteArray) cl else if cl.op=3 then zrB (⟨#[99,114]⟩:ByteArray) cl else if cl.op=5 then zrB (⟨#[99,103,111,110]⟩:ByteArray) cl&&(cl.given||decide (cl.hi=0∧cl.lo=0)) else if cl.op=6 then zrB (⟨#[99,103,111,100]⟩:ByteArray) cl&&(cl.given||decide (cl.hi=0∧cl.lo=0)) else if cl.op=8 then zrB (⟨#[105]⟩:ByteArray) cl else if cl.op=9 then zrB (⟨#[102]⟩:ByteArray) cl else if cl.op=10 then zrB (⟨#[]⟩:ByteArray) cl else false
def isB (cl:R.Cl):Bool:=fldB cl&&(cl.gifts.all (fun g=>inW g 0 65535))&&swB cl
def ZrH (cl:R.Cl)(dd gg:R.Sl):Prop:=∀s,s∈[(⟨#[115]⟩:ByteArray),(⟨#[99]⟩:ByteArray),(⟨#[99,114]⟩:ByteArray),(⟨#[99,103,111,110]⟩:ByteArray),(⟨#[99,103,111,100]⟩:ByteArray),(⟨#[105]⟩:ByteArray),(⟨#[102]⟩:ByteArray),(⟨#[]⟩:ByteArray)]→∀w:World,Calls Tryz.prog 38 #[.agg (R.cC cl dd gg).toArray,.string s] w fun e w'=>e=.returned (.bool (zrB s cl))∧Below w.heap.size w w'
end Go.Proofs.YtffmodpgddecnaaGreat.V
namespace Go.Proofs.YtffmodpgddecnaaGreat.V
open Go.RowKit
open Go.Proofs.YtffmodpgddecnaaGreat.H (B64 Cp)
theorem isB_fm (cl:R.Cl):isB cl=R.fm cl:=by
 have hW:∀n a b,inW n a b=R.wi n a b:=fun _ _ _=>rfl
 have hsw:swB cl=(R.wi cl.op 1 10&&R.wmB cl&&R.blB (R.unu cl)):=by
  by_cases h1:cl.op=1
  ·unfold swB R.wmB R.unu R.partsL
   simp [h1,R.wi,zrB,R.blB,R.wo,R.mv,R.clz,cpO,wiB]
   <;> (cases cl.given<;>simp<;>grind)
  by_cases h2:cl.op=2
  ·unfold swB R.wmB R.unu R.partsL
   simp [h2,R.wi,zrB,R.blB,R.wo,R.mv,R.clz,cpO,wiB]
   <;> (cases cl.given<;>simp<;>grind)
  by_cases h3:cl.op=3
  ·unfold swB R.wmB R.unu R.partsL
   simp [h3,R.wi,zrB,R.blB,R.wo,R.mv,R.clz,cpO,wiB]
   <;> (cases cl.given<;>simp<;>grind)
  by_cases h4:cl.op=4
  ·unfold swB R.wmB R.unu R.partsL
   simp [h4,R.wi,zrB,R.blB,R.wo,R.mv,R.clz,cpO,wiB]
   <;> (cases cl.given<;>simp<;>grind)
  by_cases h5:cl.op=5
  ·unfold swB R.wmB R.unu R.partsL
   simp [h5,R.wi,zrB,R.blB,R.wo,R.mv,R.clz,cpO,wiB]
   <;> (cases cl.given<;>simp<;>grind)
  by_cases h6:cl.op=6
  ·unfold swB R.wmB R.unu R.partsL
   simp [h6,R.wi,zrB,R.blB,R.wo,R.mv,R.clz,cpO,wiB]
   <;> (cases cl.given<;>simp<;>grind)
  by_cases h7:cl.op=7
  ·unfold swB R.wmB R.unu R.partsL
   simp [h7,R.wi,zrB,R.blB,R.wo,R.mv,R.clz,cpO,wiB]
   <;> (cases cl.given<;>simp<;>grind)
  by_cases h8:cl.op=8
  ·unfold swB R.wmB R.unu R.partsL
   simp [h8,R.wi,zrB,R.blB,R.wo,R.mv,R.clz,cpO,wiB]
   <;> (cases cl.given<;>simp<;>grind)
  by_cases h9:cl.op=9
  ·unfold swB R.wmB R.unu R.partsL
   simp [h9,R.wi,zrB,R.blB,R.wo,R.mv,R.clz,cpO,wiB]
   <;> (cases cl.given<;>simp<;>grind)
  by_cases h10:cl.op=10
  ·unfold swB R.wmB R.unu R.partsL
   simp [h10,R.wi,zrB,R.blB,R.wo,R.mv,R.clz,cpO,wiB]
   <;> (cases cl.given<;>simp<;>grind)
  have hwi:R.wi cl.op 1 10=false:=by unfold R.wi;simp;omega
  unfold swB
  simp [h1,h2,h3,h4,h5,h6,h7,h8,h9,h10,hwi]
 unfold isB R.fm
 rw [hsw]
 unfold fldB R.inB R.gfB
 simp only [hW]
 generalize R.wi cl.op 1 10=x1
 generalize R.wmB cl=x2
 generalize R.blB (R.unu cl)=x3
 generalize R.wi cl.by_ 0 65535=x4
 generalize R.wi cl.obj 0 4611686018427387904=x5
 generalize R.sgB cl.size=x6
 generalize R.sgB cl.off=x7
 generalize R.sgB cl.n=x8
 generalize R.wi cl.rights 0 255=x9
 generalize decide (cl.data.length≤1025)=y1
 generalize R.wi cl.index 0 65535=y2
 generalize decide (cl.gifts.length≤255)=y3
 generalize cl.gifts.all (fun g=>R.wi g 0 65535)=y4
 simp only [Bool.and_assoc,Bool.and_comm,Bool.and_left_comm]
end Go.Proofs.YtffmodpgddecnaaGreat.V
namespace Go.Proofs.YtffmodpgddecnaaGreat.V
open Go.RowKit
open Go.Proofs.YtffmodpgddecnaaGreat.H (B64 Cp)
section
variable {w w':World}
set_option maxRecDepth 100000 in
set_option maxHeartbeats 8000000 in
theorem ris_1 {cl:R.Cl}{dd gg:R.Sl}(hd:dd.n=cl.data.length)(hg:gg.n=cl.gifts.length)(f1:inW cl.by_ 0 65535=false)(w:World):Calls Tryz.prog 17 #[.agg (R.cC cl dd gg).toArray] w fun e w'=>e=.returned (.bool (isB cl))∧Below w.heap.size w w':=by
 obtain⟨W,hW⟩:∃W,W=w.alloc (Obj.cells (R.cC cl dd gg).toArray 45):=⟨_,rfl⟩
 have HB:Hid (Below w.heap.size w W):=by rw [hW];exact below1 _ _
 have HX:Hid (R.Bx W w.heap.size (R.cC cl dd gg)):=by rw [hW];exact R.Bx.new w _ _
 have HW:=hid hW
 have x1:=HX.out.cell 1 rfl
 have x2:=HX.out.cell 2 rfl
 have x3:=HX.out.cell 3 rfl
 have x7:=HX.out.cell 7 rfl
 have x8:=HX.out.cell 8 rfl
 have x9:=HX.out.cell 9 rfl
 have x10:=HX.out.cell 10 rfl
 have x11:=HX.out.cell 11 rfl
 have x12:=HX.out.cell 12 rfl
 have hdv:dd.v=.slice dd.a cl.data.length dd.c:=by unfold R.Sl.v;rw [hd]
 have hgv:gg.v=.slice gg.a cl.gifts.length gg.c:=by unfold R.Sl.v;rw [hg]
 rw [hdv] at x10
 rw [hgv] at x12
 have E:Hid (isB cl=false):=by unfold Hid isB fldB;simp only [f1,Bool.and_true,Bool.and_false,Bool.true_and,Bool.false_and]
 clear hd hg hW hdv hgv
 go_enter Tryz.func17,Tryz.ntmps17
 go_upto_region 1 with fail
 have hW:=HW.out
 rw [←hW]
 clear hW HW
 go_wp2_with (first|(go_at_call 16;refine (inR_any _ _ _ _).mono ?_;rintro e9 w9 ⟨rfl,hw9⟩;obtain rfl:=hw9.symm;clear hw9;simp only [f1])|(go_at_call 37;refine (rsmall_any _ _).mono ?_;rintro e9 w9 ⟨rfl,hw9⟩;obtain rfl:=hw9.symm;clear hw9;simp only [f1]))
 go_ret
 exact⟨by rw [E.out];exact ret_bool rfl,HB.out⟩
set_option maxRecDepth 100000 in
set_option maxHeartbeats 8000000 in
theorem ris_2 {cl:R.Cl}{dd gg:R.Sl}(hd:dd.n=cl.data.length)(hg:gg.n=cl.gifts.length)(f1:inW cl.by_ 0 65535=true)(f2:inW cl.obj 0 4611686018427387904=false)(w:World):Calls Tryz.prog 17 #[.agg (R.cC cl dd gg).toArray] w fun e w'=>e=.returned (.bool (isB cl))∧Below w.heap.size w w':=by
 obtain⟨W,hW⟩:∃W,W=w.alloc (Obj.cells (R.cC cl dd gg).toArray 45):=⟨_,rfl⟩
 have HB:Hid (Below w.heap.size w W):=by rw [hW];exact below1 _ _
 have HX:Hid (R.Bx W w.heap.size (R.cC cl dd gg)):=by rw [hW];exact R.Bx.new w _ _
 have HW:=hid hW
 have x1:=HX.out.cell 1 rfl
 have x2:=HX.out.cell 2 rfl
 have x3:=HX.out.cell 3 rfl
 have x7:=HX.out.cell 7 rfl
 have x8:=HX.out.cell 8 rfl
 have x9:=HX.out.cell 9 rfl
 have x10:=HX.out.cell 10 rfl
 have x11:=HX.out.cell 11 rfl
 have x12:=HX.out.cell 12 rfl
 have hdv:dd.v=.slice dd.a cl.data.length dd.c:=by unfold R.Sl.v;rw [hd]
 have hgv:gg.v=.slice gg.a cl.gifts.length gg.c:=by unfold R.Sl.v;rw [hg]
 rw [hdv] at x10
 rw [hgv] at x12
 have E:Hid (isB cl=false):=by unfold Hid isB fldB;simp only [f1,f2,Bool.and_true,Bool.and_false,Bool.true_and,Bool.false_and]
 clear hd hg hW hdv hgv
 go_enter Tryz.func17,Tryz.ntmps17
 go_upto_region 1 with fail
 have hW:=HW.out
 rw [←hW]
 clear hW HW
 go_wp2_with (first|(go_at_call 16;refine (inR_any _ _ _ _).mono ?_;rintro e9 w9 ⟨rfl,hw9⟩;obtain rfl:=hw9.symm;clear hw9;simp only [f1,f2])|(go_at_call 37;refine (rsmall_any _ _).mono ?_;rintro e9 w9 ⟨rfl,hw9⟩;obtain rfl:=hw9.symm;clear hw9;simp only [f1,f2]))
 go_ret
 exact⟨by rw [E.out];exact ret_bool rfl,HB.out⟩
set_option maxRecDepth 100000 in
set_option maxHeartbeats 8000000 in
theorem ris_3 {cl:R.Cl}{dd gg:R.Sl}(hd:dd.n=cl.data.length)(hg:gg.n=cl.gifts.length)(f1:inW cl.by_ 0 65535=true)(f2:inW cl.obj 0 4611686018427387904=true)(f3:R.sgB cl.size=false)(w:World):Calls Tryz.prog 17 #[.agg (R.cC cl dd gg).toArray] w fun e w'=>e=.returned (.bool (isB cl))∧Below w.heap.size w w':=by
 obtain⟨W,hW⟩:∃W,W=w.alloc (Obj.cells (R.cC cl dd gg).toArray 45):=⟨_,rfl⟩
 have HB:Hid (Below w.heap.size w W):=by rw [hW];exact below1 _ _
 have HX:Hid (R.Bx W w.heap.size (R.cC cl dd gg)):=by rw [hW];exact R.Bx.new w _ _
 have HW:=hid hW
 have x1:=HX.out.cell 1 rfl
 have x2:=HX.out.cell 2 rfl
 have x3:=HX.out.cell 3 rfl
 have x7:=HX.out.cell 7 rfl
 have x8:=HX.out.cell 8 rfl
 have x9:=HX.out.cell 9 rfl
 have x10:=HX.out.cell 10 rfl
 have x11:=HX.out.cell 11 rfl
 have x12:=HX.out.cell 12 rfl
 have hdv:dd.v=.slice dd.a cl.data.length dd.c:=by unfold R.Sl.v;rw [hd]
 have hgv:gg.v=.slice gg.a cl.gifts.length gg.c:=by unfold R.Sl.v;rw [hg]
 rw [hdv] at x10
 rw [hgv] at x12
 have E:Hid (isB cl=false):=by unfold Hid isB fldB;simp only [f1,f2,f3,Bool.and_true,Bool.and_false,Bool.true_and,Bool.false_and]
 clear hd hg hW hdv hgv
 go_enter Tryz.func17,Tryz.ntmps17
 go_upto_region 1 with fail
 have hW:=HW.out
 rw [←hW]
 clear hW HW
 go_wp2_with (first|(go_at_call 16;refine (inR_any _ _ _ _).mono ?_;rintro e9 w9 ⟨rfl,hw9⟩;obtain rfl:=hw9.symm;clear hw9;simp only [f1,f2,f3])|(go_at_call 37;refine (rsmall_any _ _).mono ?_;rintro e9 w9 ⟨rfl,hw9⟩;obtain rfl:=hw9.symm;clear hw9;simp only [f1,f2,f3]))
 go_ret
 exact⟨by rw [E.out];exact ret_bool rfl,HB.out⟩
set_option maxRecDepth 100000 in
set_option maxHeartbeats 8000000 in
theorem ris_4 {cl:R.Cl}{dd gg:R.Sl}(hd:dd.n=cl.data.length)(hg:gg.n=cl.gifts.length)(f1:inW cl.by_ 0 65535=true)(f2:inW cl.obj 0 4611686018427387904=true)(f3:R.sgB cl.size=true)(f4:R.sgB cl.off=false)(w:World):Calls Tryz.prog 17 #[.agg (R.cC cl dd gg).toArray] w fun e w'=>e=.returned (.bool (isB cl))∧Below w.heap.size w w':=by
 obtain⟨W,hW⟩:∃W,W=w.alloc (Obj.cells (R.cC cl dd gg).toArray 45):=⟨_,rfl⟩
 have HB:Hid (Below w.heap.size w W):=by rw [hW];exact below1 _ _
 have HX:Hid (R.Bx W w.heap.size (R.cC cl dd gg)):=by rw [hW];exact R.Bx.new w _ _
 have HW:=hid hW
 have x1:=HX.out.cell 1 rfl
 have x2:=HX.out.cell 2 rfl
 have x3:=HX.out.cell 3 rfl
 have x7:=HX.out.cell 7 rfl
 have x8:=HX.out.cell 8 rfl
 have x9:=HX.out.cell 9 rfl
 have x10:=HX.out.cell 10 rfl
 have x11:=HX.out.cell 11 rfl
 have x12:=HX.out.cell 12 rfl
 have hdv:dd.v=.slice dd.a cl.data.length dd.c:=by unfold R.Sl.v;rw [hd]
 have hgv:gg.v=.slice gg.a cl.gifts.length gg.c:=by unfold R.Sl.v;rw [hg]
 rw [hdv] at x10
 rw [hgv] at x12
 have E:Hid (isB cl=false):=by unfold Hid isB fldB;simp only [f1,f2,f3,f4,Bool.and_true,Bool.and_false,Bool.true_and,Bool.false_and]
 clear hd hg hW hdv hgv
 go_enter Tryz.func17,Tryz.ntmps17
 go_upto_region 1 with fail
 have hW:=HW.out
 rw [←hW]
 clear hW HW
 go_wp2_with (first|(go_at_call 16;refine (inR_any _ _ _ _).mono ?_;rintro e9 w9 ⟨rfl,hw9⟩;obtain rfl:=hw9.symm;clear hw9;simp only [f1,f2,f3,f4])|(go_at_call 37;refine (rsmall_any _ _).mono ?_;rintro e9 w9 ⟨rfl,hw9⟩;obtain rfl:=hw9.symm;clear hw9;simp only [f1,f2,f3,f4]))
 go_ret
 exact⟨by rw [E.out];exact ret_bool rfl,HB.out⟩
set_option maxRecDepth 100000 in
set_option maxHeartbeats 8000000 in
theorem ris_5 {cl:R.Cl}{dd gg:R.Sl}(hd:dd.n=cl.data.length)(hg:gg.n=cl.gifts.length)(f1:inW cl.by_ 0 65535=true)(f2:inW cl.obj 0 4611686018427387904=true)(f3:R.sgB cl.size=true)(f4:R.sgB cl.off=true)(f5:R.sgB cl.n=false)(w:World):Calls Tryz.prog 17 #[.agg (R.cC cl dd gg).toArray] w fun e w'=>e=.returned (.bool (isB cl))∧Below w.heap.size w w':=by
 obtain⟨W,hW⟩:∃W,W=w.alloc (Obj.cells (R.cC cl dd gg).toArray 45):=⟨_,rfl⟩
 have HB:Hid (Below w.heap.size w W):=by rw [hW];exact below1 _ _
 have HX:Hid (R.Bx W w.heap.size (R.cC cl dd gg)):=by rw [hW];exact R.Bx.new w _ _
 have HW:=hid hW
 have x1:=HX.out.cell 1 rfl
 have x2:=HX.out.cell 2 rfl
 have x3:=HX.out.cell 3 rfl
 have x7:=HX.out.cell 7 rfl
 have x8:=HX.out.cell 8 rfl
 have x9:=HX.out.cell 9 rfl
 have x10:=HX.out.cell 10 rfl
 have x11:=HX.out.cell 11 rfl
 have x12:=HX.out.cell 12 rfl
 have hdv:dd.v=.slice dd.a cl.data.length dd.c:=by unfold R.Sl.v;rw [hd]
 have hgv:gg.v=.slice gg.a cl.gifts.length gg.c:=by unfold R.Sl.v;rw [hg]
 rw [hdv] at x10
 rw [hgv] at x12
 have E:Hid (isB cl=false):=by unfold Hid isB fldB;simp only [f1,f2,f3,f4,f5,Bool.and_true,Bool.and_false,Bool.true_and,Bool.false_and]
 clear hd hg hW hdv hgv
 go_enter Tryz.func17,Tryz.ntmps17
 go_upto_region 1 with fail
 have hW:=HW.out
 rw [←hW]
 clear hW HW
 go_wp2_with (first|(go_at_call 16;refine (inR_any _ _ _ _).mono ?_;rintro e9 w9 ⟨rfl,hw9⟩;obtain rfl:=hw9.symm;clear hw9;simp only [f1,f2,f3,f4,f5])|(go_at_call 37;refine (rsmall_any _ _).mono ?_;rintro e9 w9 ⟨rfl,hw9⟩;obtain rfl:=hw9.symm;clear hw9;simp only [f1,f2,f3,f4,f5]))
 go_ret
 exact⟨by rw [E.out];exact ret_bool rfl,HB.out⟩
end
end Go.Proofs.YtffmodpgddecnaaGreat.V
namespace Go.Proofs.YtffmodpgddecnaaGreat.V
open Go.RowKit
open Go.Proofs.YtffmodpgddecnaaGreat.H (B64 Cp)
section
variable {w w':World}
set_option maxRecDepth 100000 in
set_option maxHeartbeats 8000000 in
theorem ris_6 {cl:R.Cl}{dd gg:R.Sl}(hd:dd.n=cl.data.length)(hg:gg.n=cl.gifts.length)(f1:inW cl.by_ 0 65535=true)(f2:inW cl.obj 0 4611686018427387904=true)(f3:R.sgB cl.size=true)(f4:R.sgB cl.off=true)(f5:R.sgB cl.n=true)(f6:inW cl.rights 0 255=false)(w:World):Calls Tryz.prog 17 #[.agg (R.cC cl dd gg).toArray] w fun e w'=>e=.returned (.bool (isB cl))∧Below w.heap.size w w':=by
 obtain⟨W,hW⟩:∃W,W=w.alloc (Obj.cells (R.cC cl dd gg).toArray 45):=⟨_,rfl⟩
 have HB:Hid (Below w.heap.size w W):=by rw [hW];exact below1 _ _
 have HX:Hid (R.Bx W w.heap.size (R.cC cl dd gg)):=by rw [hW];exact R.Bx.new w _ _
 have HW:=hid hW
 have x1:=HX.out.cell 1 rfl
 have x2:=HX.out.cell 2 rfl
 have x3:=HX.out.cell 3 rfl
 have x7:=HX.out.cell 7 rfl
 have x8:=HX.out.cell 8 rfl
 have x9:=HX.out.cell 9 rfl
 have x10:=HX.out.cell 10 rfl
 have x11:=HX.out.cell 11 rfl
 have x12:=HX.out.cell 12 rfl
 have hdv:dd.v=.slice dd.a cl.data.length dd.c:=by unfold R.Sl.v;rw [hd]
 have hgv:gg.v=.slice gg.a cl.gifts.length gg.c:=by unfold R.Sl.v;rw [hg]
 rw [hdv] at x10
 rw [hgv] at x12
 have E:Hid (isB cl=false):=by unfold Hid isB fldB;simp only [f1,f2,f3,f4,f5,f6,Bool.and_true,Bool.and_false,Bool.true_and,Bool.false_and]
 clear hd hg hW hdv hgv
 go_enter Tryz.func17,Tryz.ntmps17
 go_upto_region 1 with fail
 have hW:=HW.out
 rw [←hW]
 clear hW HW
 go_wp2_with (first|(go_at_call 16;refine (inR_any _ _ _ _).mono ?_;rintro e9 w9 ⟨rfl,hw9⟩;obtain rfl:=hw9.symm;clear hw9;simp only [f1,f2,f3,f4,f5,f6])|(go_at_call 37;refine (rsmall_any _ _).mono ?_;rintro e9 w9 ⟨rfl,hw9⟩;obtain rfl:=hw9.symm;clear hw9;simp only [f1,f2,f3,f4,f5,f6]))
 go_ret
 exact⟨by rw [E.out];exact ret_bool rfl,HB.out⟩
set_option maxRecDepth 100000 in
set_option maxHeartbeats 8000000 in
theorem ris_7 {cl:R.Cl}{dd gg:R.Sl}(hd:dd.n=cl.data.length)(hg:gg.n=cl.gifts.length)(f1:inW cl.by_ 0 65535=true)(f2:inW cl.obj 0 4611686018427387904=true)(f3:R.sgB cl.size=true)(f4:R.sgB cl.off=true)(f5:R.sgB cl.n=true)(f6:inW cl.rights 0 255=true)(f7:decide (cl.data.length≤1025)=false)(w:World):Calls Tryz.prog 17 #[.agg (R.cC cl dd gg).toArray] w fun e w'=>e=.returned (.bool (isB cl))∧Below w.heap.size w w':=by
 obtain⟨W,hW⟩:∃W,W=w.alloc (Obj.cells (R.cC cl dd gg).toArray 45):=⟨_,rfl⟩
 have HB:Hid (Below w.heap.size w W):=by rw [hW];exact below1 _ _
 have HX:Hid (R.Bx W w.heap.size (R.cC cl dd gg)):=by rw [hW];exact R.Bx.new w _ _
 have HW:=hid hW
 have x1:=HX.out.cell 1 rfl
 have x2:=HX.out.cell 2 rfl
 have x3:=HX.out.cell 3 rfl
 have x7:=HX.out.cell 7 rfl
 have x8:=HX.out.cell 8 rfl
 have x9:=HX.out.cell 9 rfl
 have x10:=HX.out.cell 10 rfl
 have x11:=HX.out.cell 11 rfl
 have x12:=HX.out.cell 12 rfl
 have hdv:dd.v=.slice dd.a cl.data.length dd.c:=by unfold R.Sl.v;rw [hd]
 have hgv:gg.v=.slice gg.a cl.gifts.length gg.c:=by unfold R.Sl.v;rw [hg]
 rw [hdv] at x10
 rw [hgv] at x12
 have E:Hid (isB cl=false):=by unfold Hid isB fldB;simp only [f1,f2,f3,f4,f5,f6,f7,Bool.and_true,Bool.and_false,Bool.true_and,Bool.false_and]
 have b7:decide ((cl.data.length:Int)>1025)=true:=by have:=f7;simp at this ⊢;omega
 clear hd hg hW hdv hgv
 go_enter Tryz.func17,Tryz.ntmps17
 go_upto_region 1 with fail
 have hW:=HW.out
 rw [←hW]
 clear hW HW
 go_wp2_with (first|(go_at_call 16;refine (inR_any _ _ _ _).mono ?_;rintro e9 w9 ⟨rfl,hw9⟩;obtain rfl:=hw9.symm;clear hw9;simp only [f1,f2,f3,f4,f5,f6,f7])|(go_at_call 37;refine (rsmall_any _ _).mono ?_;rintro e9 w9 ⟨rfl,hw9⟩;obtain rfl:=hw9.symm;clear hw9;simp only [f1,f2,f3,f4,f5,f6,f7]))
 go_ret
 exact⟨by rw [E.out];exact ret_bool rfl,HB.out⟩
end
end Go.Proofs.YtffmodpgddecnaaGreat.V
namespace Go.Proofs.YtffmodpgddecnaaGreat.V
open Go.RowKit
open Go.Proofs.YtffmodpgddecnaaGreat.H (B64 Cp)
section
variable {w w':World}
set_option maxRecDepth 100000 in
set_option maxHeartbeats 8000000 in
theorem ris_8 {cl:R.Cl}{dd gg:R.Sl}(hd:dd.n=cl.data.length)(hg:gg.n=cl.gifts.length)(f1:inW cl.by_ 0 65535=true)(f2:inW cl.obj 0 4611686018427387904=true)(f3:R.sgB cl.size=true)(f4:R.sgB cl.off=true)(f5:R.sgB cl.n=true)(f6:inW cl.rights 0 255=true)(f7:decide (cl.data.length≤1025)=true)(f8:inW cl.index 0 65535=false)(w:World):Calls Tryz.prog 17 #[.agg (R.cC cl dd gg).toArray] w fun e w'=>e=.returned (.bool (isB cl))∧Below w.heap.size w w':=by
 obtain⟨W,hW⟩:∃W,W=w.alloc (Obj.cells (R.cC cl dd gg).toArray 45):=⟨_,rfl⟩
 have HB:Hid (Below w.heap.size w W):=by rw [hW];exact below1 _ _
 have HX:Hid (R.Bx W w.heap.size (R.cC cl dd gg)):=by rw [hW];exact R.Bx.new w _ _
 have HW:=hid hW
 have x1:=HX.out.cell 1 rfl
 have x2:=HX.out.cell 2 rfl
 have x3:=HX.out.cell 3 rfl
 have x7:=HX.out.cell 7 rfl
 have x8:=HX.out.cell 8 rfl
 have x9:=HX.out.cell 9 rfl
 have x10:=HX.out.cell 10 rfl
 have x11:=HX.out.cell 11 rfl
 have x12:=HX.out.cell 12 rfl
 have hdv:dd.v=.slice dd.a cl.data.length dd.c:=by unfold R.Sl.v;rw [hd]
 have hgv:gg.v=.slice gg.a cl.gifts.length gg.c:=by unfold R.Sl.v;rw [hg]
 rw [hdv] at x10
 rw [hgv] at x12
 have E:Hid (isB cl=false):=by unfold Hid isB fldB;simp only [f1,f2,f3,f4,f5,f6,f7,f8,Bool.and_true,Bool.and_false,Bool.true_and,Bool.false_and]
 have b7:decide ((cl.data.length:Int)>1025)=false:=by have:=f7;simp at this ⊢;omega
 clear hd hg hW hdv hgv
 go_enter Tryz.func17,Tryz.ntmps17
 go_upto_region 1 with fail
 have hW:=HW.out
 rw [←hW]
 clear hW HW
 go_wp2_with (first|(go_at_call 16;refine (inR_any _ _ _ _).mono ?_;rintro e9 w9 ⟨rfl,hw9⟩;obtain rfl:=hw9.symm;clear hw9;simp only [f1,f2,f3,f4,f5,f6,f7,f8])|(go_at_call 37;refine (rsmall_any _ _).mono ?_;rintro e9 w9 ⟨rfl,hw9⟩;obtain rfl:=hw9.symm;clear hw9;simp only [f1,f2,f3,f4,f5,f6,f7,f8]))
 go_ret
 exact⟨by rw [E.out];exact ret_bool rfl,HB.out⟩
set_option maxRecDepth 100000 in
set_option maxHeartbeats 8000000 in
theorem ris_9 {cl:R.Cl}{dd gg:R.Sl}(hd:dd.n=cl.data.length)(hg:gg.n=cl.gifts.length)(f1:inW cl.by_ 0 65535=true)(f2:inW cl.obj 0 4611686018427387904=true)(f3:R.sgB cl.size=true)(f4:R.sgB cl.off=true)(f5:R.sgB cl.n=true)(f6:inW cl.rights 0 255=true)(f7:decide (cl.data.length≤1025)=true)(f8:inW cl.index 0 65535=true)(f9:decide (cl.gifts.length≤255)=false)(w:World):Calls Tryz.prog 17 #[.agg (R.cC cl dd gg).toArray] w fun e w'=>e=.returned (.bool (isB cl))∧Below w.heap.size w w':=by
 obtain⟨W,hW⟩:∃W,W=w.alloc (Obj.cells (R.cC cl dd gg).toArray 45):=⟨_,rfl⟩
 have HB:Hid (Below w.heap.size w W):=by rw [hW];exact below1 _ _
 have HX:Hid (R.Bx W w.heap.size (R.cC cl dd gg)):=by rw [hW];exact R.Bx.new w _ _
 have HW:=hid hW
 have x1:=HX.out.cell 1 rfl
 have x2:=HX.out.cell 2 rfl
 have x3:=HX.out.cell 3 rfl
 have x7:=HX.out.cell 7 rfl
 have x8:=HX.out.cell 8 rfl
 have x9:=HX.out.cell 9 rfl
 have x10:=HX.out.cell 10 rfl
 have x11:=HX.out.cell 11 rfl
 have x12:=HX.out.cell 12 rfl
 have hdv:dd.v=.slice dd.a cl.data.length dd.c:=by unfold R.Sl.v;rw [hd]
 have hgv:gg.v=.slice gg.a cl.gifts.length gg.c:=by unfold R.Sl.v;rw [hg]
 rw [hdv] at x10
 rw [hgv] at x12
 have E:Hid (isB cl=false):=by unfold Hid isB fldB;simp only [f1,f2,f3,f4,f5,f6,f7,f8,f9,Bool.and_true,Bool.and_false,Bool.true_and,Bool.false_and]
 have b7:decide ((cl.data.length:Int)>1025)=false:=by have:=f7;simp at this ⊢;omega
 have b9:decide ((cl.gifts.length:Int)>255)=true:=by have:=f9;simp at this ⊢;omega
 clear hd hg hW hdv hgv
 go_enter Tryz.func17,Tryz.ntmps17
 go_upto_region 1 with fail
 have hW:=HW.out
 rw [←hW]
 clear hW HW
 go_wp2_with (first|(go_at_call 16;refine (inR_any _ _ _ _).mono ?_;rintro e9 w9 ⟨rfl,hw9⟩;obtain rfl:=hw9.symm;clear hw9;simp only [f1,f2,f3,f4,f5,f6,f7,f8,f9])|(go_at_call 37;refine (rsmall_any _ _).mono ?_;rintro e9 w9 ⟨rfl,hw9⟩;obtain rfl:=hw9.symm;clear hw9;simp only [f1,f2,f3,f4,f5,f6,f7,f8,f9]))
 go_ret
 exact⟨by rw [E.out];exact ret_bool rfl,HB.out⟩
end
end Go.Proofs.YtffmodpgddecnaaGreat.V
namespace Go.Proofs.YtffmodpgddecnaaGreat.V
open Go.RowKit
open Go.Proofs.YtffmodpgddecnaaGreat.H (B64 Cp)
section
variable {w w':World}
def IsR (w:World)(l:List Int)(v:Value)(U:World):Prop:=∃i:Nat,v=.int .i64 (i:Int)∧i≤l.length∧Hid (∀j,j<i→∀y,l[j]?=some y→inW y 0 65535=true)∧Hid (w=U)
set_option maxRecDepth 100000 in
set_option maxHeartbeats 8000000 in
theorem ris_0 {cl:R.Cl}{dd gg:R.Sl}(hz:ZrH cl dd gg)(hd:dd.n=cl.data.length)(hg:gg.n=cl.gifts.length)(hf:Fl w gg.a (ints cl.gifts))(f1:inW cl.by_ 0 65535=true)(f2:inW cl.obj 0 4611686018427387904=true)(f3:R.sgB cl.size=true)(f4:R.sgB cl.off=true)(f5:R.sgB cl.n=true)(f6:inW cl.rights 0 255=true)(f7:decide (cl.data.length≤1025)=true)(f8:inW cl.index 0 65535=true)(f9:decide (cl.gifts.length≤255)=true):Calls Tryz.prog 17 #[.agg (R.cC cl dd gg).toArray] w fun e w'=>e=.returned (.bool (isB cl))∧Below w.heap.size w w':=by
 obtain⟨W,hW⟩:∃W,W=w.alloc (Obj.cells (R.cC cl dd gg).toArray 45):=⟨_,rfl⟩
 have HB:Hid (Below w.heap.size w W):=by rw [hW];exact below1 _ _
 have HX:Hid (R.Bx W w.heap.size (R.cC cl dd gg)):=by rw [hW];exact R.Bx.new w _ _
 have HW:=hid hW
 have x1:=HX.out.cell 1 rfl
 have x2:=HX.out.cell 2 rfl
 have x3:=HX.out.cell 3 rfl
 have x7:=HX.out.cell 7 rfl
 have x8:=HX.out.cell 8 rfl
 have x9:=HX.out.cell 9 rfl
 have x10:=HX.out.cell 10 rfl
 have x11:=HX.out.cell 11 rfl
 have x12:=HX.out.cell 12 rfl
 have hdv:dd.v=.slice dd.a cl.data.length dd.c:=by unfold R.Sl.v;rw [hd]
 have hgv:gg.v=.slice gg.a cl.gifts.length gg.c:=by unfold R.Sl.v;rw [hg]
 rw [hdv] at x10
 rw [hgv] at x12
 have HF:Hid (Fl W gg.a (ints cl.gifts)):=hf.later HB.out
 have HZ:=hid hz
 have x0:=HX.out.cell 0 rfl
 have hlen:cl.gifts.length≤255:=of_decide_eq_true f9
 have b7:decide ((cl.data.length:Int)>1025)=false:=by have:=f7;simp at this ⊢;omega
 have b9:decide ((cl.gifts.length:Int)>255)=false:=by simp;omega
 have HLd:=hid (ldC HX.out)
 have HE:Hid (isB cl=(cl.gifts.all (fun g=>inW g 0 65535)&&swB cl)):=by unfold Hid isB fldB;simp only [f1,f2,f3,f4,f5,f6,f7,f8,f9,Bool.true_and]
 rw [HE.out]
 clear hd hg hW hdv hgv hf hz
 go_enter Tryz.func17,Tryz.ntmps17
 go_upto_region 1 with fail
 have hW:=HW.out
 rw [←hW]
 clear hW HW
 go_upto_region 4 with (first|(go_at_call 16;refine (inR_any _ _ _ _).mono ?_;rintro e9 w9 ⟨rfl,hw9⟩;obtain rfl:=hw9.symm;clear hw9;simp only [f1,f2,f3,f4,f5,f6,f7,f8,f9])|(go_at_call 37;refine (rsmall_any _ _).mono ?_;rintro e9 w9 ⟨rfl,hw9⟩;obtain rfl:=hw9.symm;clear hw9;simp only [f1,f2,f3,f4,f5,f6,f7,f8,f9]))
 clear x1 x2 x3 x7 x8 x9 x10 x11 b7 b9 f1 f2 f3 f4 f5 f6 f7 f8 f9 HE
 go_loopw [3] (IsR W cl.gifts) (fun v _=>cl.gifts.length - S.ivN v)
 case atStart=>exact⟨0,rfl,Nat.zero_le _,hid (fun j hj=>by omega),hid rfl⟩
 case round =>
  obtain⟨i,rfl,hi,HN,HU⟩:=hrel
  have hU:=HU.out
  subst hU
  by_cases hlt:i<cl.gifts.length
  ·have hd:decide ((i:Int)<(cl.gifts.length:Int))=true:=decide_eq_true (by omega)
   obtain⟨q,hq⟩:∃q,cl.gifts[i]?=some q:=⟨_,List.getElem?_eq_getElem hlt⟩
   obtain⟨g,hga,hc⟩:=HF.out (by unfold ints;rw [List.length_map];omega)
   have q0:=hc i (.int .i64 q) (by unfold ints;rw [List.getElem?_map,hq];rfl)
   rw [hga] at x12
   have HQ:=hid hq
   clear hc hq x0
   cases hb:inW q 0 65535 with
   | false =>
    have E:Hid (cl.gifts.all (fun g=>inW g 0 65535)=false):=by
     unfold Hid
     rw [List.all_eq_false]
     exact⟨q,List.mem_of_getElem? HQ.out,by rw [hb];decide⟩
    go_wp2_with (first|(go_at_call 16;refine (inR_any _ _ _ _).mono ?_;rintro e9 w9 ⟨rfl,hw9⟩;obtain rfl:=hw9.symm;clear hw9;simp only [hb]))
    go_ret
    exact⟨by rw [E.out];exact ret_bool rfl,HB.out⟩
   | true =>
    have HX2:Hid (∀j,j<i+1→∀y,cl.gifts[j]?=some y→inW y 0 65535=true):=fun j hj y hy=>by
     by_cases e:j=i
     ·subst e
      rw [HQ.out] at hy
      cases hy
      exact hb
     ·exact HN.out j (by omega) y hy
    go_wp2_with (first|(go_at_call 16;refine (inR_any _ _ _ _).mono ?_;rintro e9 w9 ⟨rfl,hw9⟩;obtain rfl:=hw9.symm;clear hw9;simp only [hb]))
    exact⟨⟨i+1,rfl,by omega,HX2,hid rfl⟩,by simp [S.ivN];omega⟩
  ·have hjj:i=cl.gifts.length:=by omega
   have hd:decide ((i:Int)<(cl.gifts.length:Int))=false:=decide_eq_false (by omega)
   have HA:Hid (cl.gifts.all (fun g=>inW g 0 65535)=true):=by
    unfold Hid
    rw [List.all_eq_true]
    intro y hy
    obtain⟨j,hj⟩:=List.getElem?_of_mem hy
    exact HN.out j (by rw [hjj];exact (List.getElem?_eq_some_iff.1 hj).1) y hj
   obtain⟨op,hop⟩:∃op,op=cl.op:=⟨_,rfl⟩
   rw [←hop] at x0
   clear hjj hi
   by_cases h1:op=1
   ·have o1:(op==1)=true:=by simp [h1]
    have HS:Hid ((cl.gifts.all (fun g=>inW g 0 65535)&&swB cl)=(zrB (⟨#[115]⟩:ByteArray) cl)):=by unfold Hid;rw [HA.out,Bool.true_and];unfold swB;rw [←hop];simp [h1]
    obtain⟨z,hzz⟩:∃z,z=zrB (⟨#[115]⟩:ByteArray) cl:=⟨_,rfl⟩
    have HC:=hid (HZ.out (⟨#[115]⟩:ByteArray) (by simp) W)
    rw [←hzz] at HC HS
    clear hzz hop h1 HZ
    go_wp2_with (first|((with_reducible refine R.ld_arm HLd.out ?_ ?_);(· rfl))|(go_at_call 38;refine HC.out.mono ?_;rintro e9 w9 ⟨rfl,hb9⟩;have HB9:=hid hb9;clear hb9))
    go_ret
    exact⟨by rw [HS.out];exact ret_bool rfl,below_call HB.out HB9.out⟩
   have o1:(op==1)=false:=by simp [h1]
   by_cases h2:op=2
   ·have o2:(op==2)=true:=by simp [h2]
    have HS:Hid ((cl.gifts.all (fun g=>inW g 0 65535)&&swB cl)=(zrB (⟨#[99]⟩:ByteArray) cl)):=by unfold Hid;rw [HA.out,Bool.true_and];unfold swB;rw [←hop];simp [h2]
    obtain⟨z,hzz⟩:∃z,z=zrB (⟨#[99]⟩:ByteArray) cl:=⟨_,rfl⟩
    have HC:=hid (HZ.out (⟨#[99]⟩:ByteArray) (by simp) W)
    rw [←hzz] at HC HS
    clear hzz hop h2 HZ
    go_wp2_with (first|((with_reducible refine R.ld_arm HLd.out ?_ ?_);(· rfl))|(go_at_call 38;refine HC.out.mono ?_;rintro e9 w9 ⟨rfl,hb9⟩;have HB9:=hid hb9;clear hb9))
    go_ret
    exact⟨by rw [HS.out];exact ret_bool rfl,below_call HB.out HB9.out⟩
   have o2:(op==2)=false:=by simp [h2]
   by_cases h4:op=4
   ·have o4:(op==4)=true:=by simp [h4]
    have HS:Hid ((cl.gifts.all (fun g=>inW g 0 65535)&&swB cl)=(zrB (⟨#[99]⟩:ByteArray) cl)):=by unfold Hid;rw [HA.out,Bool.true_and];unfold swB;rw [←hop];simp [h4]
    obtain⟨z,hzz⟩:∃z,z=zrB (⟨#[99]⟩:ByteArray) cl:=⟨_,rfl⟩
    have HC:=hid (HZ.out (⟨#[99]⟩:ByteArray) (by simp) W)
    rw [←hzz] at HC HS
    clear hzz hop h4 HZ
    go_wp2_with (first|((with_reducible refine R.ld_arm HLd.out ?_ ?_);(· rfl))|(go_at_call 38;refine HC.out.mono ?_;rintro e9 w9 ⟨rfl,hb9⟩;have HB9:=hid hb9;clear hb9))
    go_ret
    exact⟨by rw [HS.out];exact ret_bool rfl,below_call HB.out HB9.out⟩
   have o4:(op==4)=false:=by simp [h4]
   by_cases h7:op=7
   ·have o7:(op==7)=true:=by simp [h7]
    have HS:Hid ((cl.gifts.all (fun g=>inW g 0 65535)&&swB cl)=(zrB (⟨#[99]⟩:ByteArray) cl)):=by unfold Hid;rw [HA.out,Bool.true_and];unfold swB;rw [←hop];simp [h7]
    obtain⟨z,hzz⟩:∃z,z=zrB (⟨#[99]⟩:ByteArray) cl:=⟨_,rfl⟩
    have HC:=hid (HZ.out (⟨#[99]⟩:ByteArray) (by simp) W)
    rw [←hzz] at HC HS
    clear hzz hop h7 HZ
    go_wp2_with (first|((with_reducible refine R.ld_arm HLd.out ?_ ?_);(· rfl))|(go_at_call 38;refine HC.out.mono ?_;rintro e9 w9 ⟨rfl,hb9⟩;have HB9:=hid hb9;clear hb9))
    go_ret
    exact⟨by rw [HS.out];exact ret_bool rfl,below_call HB.out HB9.out⟩
   have o7:(op==7)=false:=by simp [h7]
   by_cases h3:op=3
   ·have o3:(op==3)=true:=by simp [h3]
    have HS:Hid ((cl.gifts.all (fun g=>inW g 0 65535)&&swB cl)=(zrB (⟨#[99,114]⟩:ByteArray) cl)):=by unfold Hid;rw [HA.out,Bool.true_and];unfold swB;rw [←hop];simp [h3]
    obtain⟨z,hzz⟩:∃z,z=zrB (⟨#[99,114]⟩:ByteArray) cl:=⟨_,rfl⟩
    have HC:=hid (HZ.out (⟨#[99,114]⟩:ByteArray) (by simp) W)
    rw [←hzz] at HC HS
    clear hzz hop h3 HZ
    go_wp2_with (first|((with_reducible refine R.ld_arm HLd.out ?_ ?_);(· rfl))|(go_at_call 38;refine HC.out.mono ?_;rintro e9 w9 ⟨rfl,hb9⟩;have HB9:=hid hb9;clear hb9))
    go_ret
    exact⟨by rw [HS.out];exact ret_bool rfl,below_call HB.out HB9.out⟩
   have o3:(op==3)=false:=by simp [h3]
   by_cases h5:op=5
   ·have o5:(op==5)=true:=by simp [h5]
    have HS:Hid ((cl.gifts.all (fun g=>inW g 0 65535)&&swB cl)=(zrB (⟨#[99,103,111,110]⟩:ByteArray) cl&&(cl.given||decide (cl.hi=0∧cl.lo=0)))):=by unfold Hid;rw [HA.out,Bool.true_and];unfold swB;rw [←hop];simp [h5]
    obtain⟨z,hzz⟩:∃z,z=zrB (⟨#[99,103,111,110]⟩:ByteArray) cl:=⟨_,rfl⟩
    have HC:=hid (HZ.out (⟨#[99,103,111,110]⟩:ByteArray) (by simp) W)
    rw [←hzz] at HC HS
    clear hzz hop h5 HZ
    obtain⟨e,he⟩:∃e,e=decide (cl.hi=0∧cl.lo=0):=⟨_,rfl⟩
    have heq:∀U:World,(binOp .eql 36 (.agg #[.int .u64 (cl.hi:Int),.int .u64 (cl.lo:Int)]) (.agg #[.int .u64 0,.int .u64 0])).run Tryz.prog U=.ok (.bool e) U:=fun U=>by rw [he,R.eqlW];congr 2;unfold R.wEq;simp
    rw [←he] at HS
    obtain⟨gv,hgv⟩:∃gv,gv=cl.given:=⟨_,rfl⟩
    rw [←hgv] at HS
    have HGv:=hid hgv
    clear he hgv
    cases z with
    | false =>
     go_wp2_with (first|((with_reducible refine R.ld_arm HLd.out ?_ ?_);(· rfl))|(go_at_call 38;refine HC.out.mono ?_;rintro e9 w9 ⟨rfl,hb9⟩;have HB9:=hid hb9;clear hb9;have y4:=(R.Bx.later HB9.out HX.out).cell 4 rfl;have y5:=(R.Bx.later HB9.out HX.out).cell 5 rfl;have y6:=(R.Bx.later HB9.out HX.out).cell 6 rfl;rw [←HGv.out] at y6))
     go_ret
     exact⟨by rw [HS.out];exact ret_bool rfl,below_call HB.out HB9.out⟩
    | true =>
     cases gv with
     | true =>
      go_wp2_with (first|((with_reducible refine R.ld_arm HLd.out ?_ ?_);(· rfl))|(go_at_call 38;refine HC.out.mono ?_;rintro e9 w9 ⟨rfl,hb9⟩;have HB9:=hid hb9;clear hb9;have y4:=(R.Bx.later HB9.out HX.out).cell 4 rfl;have y5:=(R.Bx.later HB9.out HX.out).cell 5 rfl;have y6:=(R.Bx.later HB9.out HX.out).cell 6 rfl;rw [←HGv.out] at y6))
      go_ret
      exact⟨by rw [HS.out];exact ret_bool rfl,below_call HB.out HB9.out⟩
     | false =>
      go_wp2_with (first|((with_reducible refine R.ld_arm HLd.out ?_ ?_);(· rfl))|(go_at_call 38;refine HC.out.mono ?_;rintro e9 w9 ⟨rfl,hb9⟩;have HB9:=hid hb9;clear hb9;have y4:=(R.Bx.later HB9.out HX.out).cell 4 rfl;have y5:=(R.Bx.later HB9.out HX.out).cell 5 rfl;have y6:=(R.Bx.later HB9.out HX.out).cell 6 rfl;rw [←HGv.out] at y6))
      go_ret
      exact⟨by rw [HS.out];exact ret_bool rfl,below_call HB.out HB9.out⟩
   have o5:(op==5)=false:=by simp [h5]
   by_cases h6:op=6
   ·have o6:(op==6)=true:=by simp [h6]
    have HS:Hid ((cl.gifts.all (fun g=>inW g 0 65535)&&swB cl)=(zrB (⟨#[99,103,111,100]⟩:ByteArray) cl&&(cl.given||decide (cl.hi=0∧cl.lo=0)))):=by unfold Hid;rw [HA.out,Bool.true_and];unfold swB;rw [←hop];simp [h6]
    obtain⟨z,hzz⟩:∃z,z=zrB (⟨#[99,103,111,100]⟩:ByteArray) cl:=⟨_,rfl⟩
    have HC:=hid (HZ.out (⟨#[99,103,111,100]⟩:ByteArray) (by simp) W)
    rw [←hzz] at HC HS
    clear hzz hop h6 HZ
    obtain⟨e,he⟩:∃e,e=decide (cl.hi=0∧cl.lo=0):=⟨_,rfl⟩
    have heq:∀U:World,(binOp .eql 36 (.agg #[.int .u64 (cl.hi:Int),.int .u64 (cl.lo:Int)]) (.agg #[.int .u64 0,.int .u64 0])).run Tryz.prog U=.ok (.bool e) U:=fun U=>by rw [he,R.eqlW];congr 2;unfold R.wEq;simp
    rw [←he] at HS
    obtain⟨gv,hgv⟩:∃gv,gv=cl.given:=⟨_,rfl⟩
    rw [←hgv] at HS
    have HGv:=hid hgv
    clear he hgv
    cases z with
    | false =>
     go_wp2_with (first|((with_reducible refine R.ld_arm HLd.out ?_ ?_);(· rfl))|(go_at_call 38;refine HC.out.mono ?_;rintro e9 w9 ⟨rfl,hb9⟩;have HB9:=hid hb9;clear hb9;have y4:=(R.Bx.later HB9.out HX.out).cell 4 rfl;have y5:=(R.Bx.later HB9.out HX.out).cell 5 rfl;have y6:=(R.Bx.later HB9.out HX.out).cell 6 rfl;rw [←HGv.out] at y6))
     go_ret
     exact⟨by rw [HS.out];exact ret_bool rfl,below_call HB.out HB9.out⟩
    | true =>
     cases gv with
     | true =>
      go_wp2_with (first|((with_reducible refine R.ld_arm HLd.out ?_ ?_);(· rfl))|(go_at_call 38;refine HC.out.mono ?_;rintro e9 w9 ⟨rfl,hb9⟩;have HB9:=hid hb9;clear hb9;have y4:=(R.Bx.later HB9.out HX.out).cell 4 rfl;have y5:=(R.Bx.later HB9.out HX.out).cell 5 rfl;have y6:=(R.Bx.later HB9.out HX.out).cell 6 rfl;rw [←HGv.out] at y6))
      go_ret
      exact⟨by rw [HS.out];exact ret_bool rfl,below_call HB.out HB9.out⟩
     | false =>
      go_wp2_with (first|((with_reducible refine R.ld_arm HLd.out ?_ ?_);(· rfl))|(go_at_call 38;refine HC.out.mono ?_;rintro e9 w9 ⟨rfl,hb9⟩;have HB9:=hid hb9;clear hb9;have y4:=(R.Bx.later HB9.out HX.out).cell 4 rfl;have y5:=(R.Bx.later HB9.out HX.out).cell 5 rfl;have y6:=(R.Bx.later HB9.out HX.out).cell 6 rfl;rw [←HGv.out] at y6))
      go_ret
      exact⟨by rw [HS.out];exact ret_bool rfl,below_call HB.out HB9.out⟩
   have o6:(op==6)=false:=by simp [h6]
   by_cases h8:op=8
   ·have o8:(op==8)=true:=by simp [h8]
    have HS:Hid ((cl.gifts.all (fun g=>inW g 0 65535)&&swB cl)=(zrB (⟨#[105]⟩:ByteArray) cl)):=by unfold Hid;rw [HA.out,Bool.true_and];unfold swB;rw [←hop];simp [h8]
    obtain⟨z,hzz⟩:∃z,z=zrB (⟨#[105]⟩:ByteArray) cl:=⟨_,rfl⟩
    have HC:=hid (HZ.out (⟨#[105]⟩:ByteArray) (by simp) W)
    rw [←hzz] at HC HS
    clear hzz hop h8 HZ
    go_wp2_with (first|((with_reducible refine R.ld_arm HLd.out ?_ ?_);(· rfl))|(go_at_call 38;refine HC.out.mono ?_;rintro e9 w9 ⟨rfl,hb9⟩;have HB9:=hid hb9;clear hb9))
    go_ret
    exact⟨by rw [HS.out];exact ret_bool rfl,below_call HB.out HB9.out⟩
   have o8:(op==8)=false:=by simp [h8]
   by_cases h9:op=9
   ·have o9:(op==9)=true:=by simp [h9]
    have HS:Hid ((cl.gifts.all (fun g=>inW g 0 65535)&&swB cl)=(zrB (⟨#[102]⟩:ByteArray) cl)):=by unfold Hid;rw [HA.out,Bool.true_and];unfold swB;rw [←hop];simp [h9]
    obtain⟨z,hzz⟩:∃z,z=zrB (⟨#[102]⟩:ByteArray) cl:=⟨_,rfl⟩
    have HC:=hid (HZ.out (⟨#[102]⟩:ByteArray) (by simp) W)
    rw [←hzz] at HC HS
    clear hzz hop h9 HZ
    go_wp2_with (first|((with_reducible refine R.ld_arm HLd.out ?_ ?_);(· rfl))|(go_at_call 38;refine HC.out.mono ?_;rintro e9 w9 ⟨rfl,hb9⟩;have HB9:=hid hb9;clear hb9))
    go_ret
    exact⟨by rw [HS.out];exact ret_bool rfl,below_call HB.out HB9.out⟩
   have o9:(op==9)=false:=by simp [h9]
   by_cases h10:op=10
   ·have o10:(op==10)=true:=by simp [h10]
    have HS:Hid ((cl.gifts.all (fun g=>inW g 0 65535)&&swB cl)=(zrB (⟨#[]⟩:ByteArray) cl)):=by unfold Hid;rw [HA.out,Bool.true_and];unfold swB;rw [←hop];simp [h10]
    obtain⟨z,hzz⟩:∃z,z=zrB (⟨#[]⟩:ByteArray) cl:=⟨_,rfl⟩
    have HC:=hid (HZ.out (⟨#[]⟩:ByteArray) (by simp) W)
    rw [←hzz] at HC HS
    clear hzz hop h10 HZ
    go_wp2_with (first|((with_reducible refine R.ld_arm HLd.out ?_ ?_);(· rfl))|(go_at_call 38;refine HC.out.mono ?_;rintro e9 w9 ⟨rfl,hb9⟩;have HB9:=hid hb9;clear hb9))
    go_ret
    exact⟨by rw [HS.out];exact ret_bool rfl,below_call HB.out HB9.out⟩
   have o10:(op==10)=false:=by simp [h10]
   have HS:Hid ((cl.gifts.all (fun g=>inW g 0 65535)&&swB cl)=false):=by unfold Hid;rw [HA.out,Bool.true_and];unfold swB;rw [←hop];simp [h1,h2,h4,h7,h3,h5,h6,h8,h9,h10]
   clear hop h1 h2 h4 h7 h3 h5 h6 h8 h9 h10
   go_wp2
   go_ret
   exact⟨by rw [HS.out];exact ret_bool rfl,HB.out⟩
end
end Go.Proofs.YtffmodpgddecnaaGreat.V
namespace Go.Proofs.YtffmodpgddecnaaGreat.V
open Go.RowKit
open Go.Proofs.YtffmodpgddecnaaGreat.H (B64 Cp)
section
variable {w w':World}
theorem zrH {cl:R.Cl}{dd gg:R.Sl}(hd:dd.n=cl.data.length)(hg:gg.n=cl.gifts.length):ZrH cl dd gg:=by
 intro s hs w
 simp only [List.mem_cons,List.not_mem_nil,or_false] at hs
 rcases hs with rfl|rfl|rfl|rfl|rfl|rfl|rfl|rfl
 ·exact rzero_s hd hg w
 ·exact rzero_c hd hg w
 ·exact rzero_cr hd hg w
 ·exact rzero_cgon hd hg w
 ·exact rzero_cgod hd hg w
 ·exact rzero_i hd hg w
 ·exact rzero_f hd hg w
 ·exact rzero_e hd hg w
theorem ris_any {cl:R.Cl}{dd gg:R.Sl}(hd:dd.n=cl.data.length)(hg:gg.n=cl.gifts.length)(hf:Fl w gg.a (ints cl.gifts)):Calls Tryz.prog 17 #[.agg (R.cC cl dd gg).toArray] w fun e w'=>e=.returned (.bool (R.fm cl))∧Below w.heap.size w w':=by
 rw [←isB_fm]
 cases f1:inW cl.by_ 0 65535 with
 | false=>exact ris_1 hd hg f1 w
 | true =>
 cases f2:inW cl.obj 0 4611686018427387904 with
 | false=>exact ris_2 hd hg f1 f2 w
 | true =>
 cases f3:R.sgB cl.size with
 | false=>exact ris_3 hd hg f1 f2 f3 w
 | true =>
 cases f4:R.sgB cl.off with
 | false=>exact ris_4 hd hg f1 f2 f3 f4 w
 | true =>
 cases f5:R.sgB cl.n with
 | false=>exact ris_5 hd hg f1 f2 f3 f4 f5 w
 | true =>
 cases f6:inW cl.rights 0 255 with
 | false=>exact ris_6 hd hg f1 f2 f3 f4 f5 f6 w
 | true =>
 cases f7:decide (cl.data.length≤1025) with
 | false=>exact ris_7 hd hg f1 f2 f3 f4 f5 f6 f7 w
 | true =>
 cases f8:inW cl.index 0 65535 with
 | false=>exact ris_8 hd hg f1 f2 f3 f4 f5 f6 f7 f8 w
 | true =>
 cases f9:decide (cl.gifts.length≤255) with
 | false=>exact ris_9 hd hg f1 f2 f3 f4 f5 f6 f7 f8 f9 w
 | true=>exact ris_0 (zrH hd hg) hd hg hf f1 f2 f3 f4 f5 f6 f7 f8 f9
end
end Go.Proofs.YtffmodpgddecnaaGreat.V
namespace Go.Proofs.YtffmodpgddecnaaGreat.V
open Go.RowKit
open Go.Proofs.YtffmodpgddecnaaGreat.H (B64 Cp)
section
variable {w w':World}{H:Hd}{s s':Sta}{d d':Nat→List K.Pu}{N N':Nat→Prop}
structure Cz (w:World)(a:Option Addr)(n:Nat)(C:List R.Cl)(D G:Nat→R.Sl):Prop where
 len:C.length=n
 at_:0<n→∃b o,a=some ⟨b,o,none⟩∧∀i c,C[i]?=some c→w.rangeAt b (o+i*13) (R.cC c (D i) (G i))
 is:∀i c,C[i]?=some c→R.Is w c (D i) (G i)∧(D i).n≤140737488355328∧(G i).n*8≤140737488355328
theorem Cz.later {a:Option Addr}{n:Nat}{C:List R.Cl}{D G:Nat→R.Sl}(h:Cz w a n C D G)(hb:Below w.heap.size w w'):Cz w' a n C D G:=by
 refine⟨h.len,fun h0=>?_,fun i c hc=>⟨(h.is i c hc).1.later hb,(h.is i c hc).2⟩⟩
 obtain⟨b,o,e,hr⟩:=h.at_ h0
 exact⟨b,o,e,fun i c hc j v hv=>cell_later hb (hr i c hc j v hv)⟩
theorem ldC_at {b o:Nat}{c:R.Cl}{dd gg:R.Sl}(h:w.rangeAt b o (R.cC c dd gg)):(Instr.loadAt 45 (.pointer (some ⟨b,o,none⟩))).run Tryz.prog w=.ok (.agg (R.cC c dd gg).toArray) w:=by
 have:=R.lv41 h (by rfl)
 simp [Instr.loadAt,Instr.sureAddr,this]
end
end Go.Proofs.YtffmodpgddecnaaGreat.V
