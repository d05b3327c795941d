import Derived.Test.YtffmodpgddecnaaGreatZ07
set_option linter.unusedVariables false
set_option linter.unusedSimpArgs false
namespace Go.Proofs.YtffmodpgddecnaaGreat.V
open Go.RowKit
open Go.Proofs.YtffmodpgddecnaaGreat.H (B64 Cp)
section
variable {w w':World}
set_option maxRecDepth 100000 in
set_option maxHeartbeats 8000000 in
theorem rzero_c {cl:R.Cl}{dd gg:R.Sl}(hd:dd.n=cl.data.length)(hg:gg.n=cl.gifts.length)(w:World):Calls Tryz.prog 38 #[.agg (R.cC cl dd gg).toArray,.string ⟨#[99]⟩] w fun e w'=>e=.returned (.bool (zrB ⟨#[99]⟩ cl))∧Below w.heap.size w w':=by
 obtain⟨W,hW⟩:∃W,W=w.alloc (Obj.cells (R.cC cl dd gg).toArray 45):=⟨_,rfl⟩
 have HB:Hid (Below w.heap.size w W):=by rw [hW];exact below1 _ _
 have HX:Hid (R.Bx W w.heap.size (R.cC cl dd gg)):=by rw [hW];exact R.Bx.new w _ _
 have HW:=hid hW
 have x2:=HX.out.cell 2 rfl
 have x3:=HX.out.cell 3 rfl
 have x4:=HX.out.cell 4 rfl
 have x5:=HX.out.cell 5 rfl
 have x6:=HX.out.cell 6 rfl
 have x7:=HX.out.cell 7 rfl
 have x8:=HX.out.cell 8 rfl
 have x9:=HX.out.cell 9 rfl
 have x10:=HX.out.cell 10 rfl
 have x11:=HX.out.cell 11 rfl
 have x12:=HX.out.cell 12 rfl
 have hdv:dd.v=.slice dd.a cl.data.length dd.c:=by unfold R.Sl.v;rw [hd]
 have hgv:gg.v=.slice gg.a cl.gifts.length gg.c:=by unfold R.Sl.v;rw [hg]
 rw [hdv] at x10
 rw [hgv] at x12
 obtain⟨e,he⟩:∃e,e=decide (cpO cl=(0,0,0)):=⟨_,rfl⟩
 have heq:∀U:World,(binOp .eql 38 (.agg #[.int .i64 cl.obj,.int .u64 (cl.hi:Int),.int .u64 (cl.lo:Int)]) (.agg #[.int .i64 0,.int .u64 0,.int .u64 0])).run Tryz.prog U=.ok (.bool e) U:=fun U=>by rw [he];exact K.eqlCp (cpO cl) (0,0,0) U
 have W115:wiB ⟨#[99]⟩ 115=false:=by decide
 have W99:wiB ⟨#[99]⟩ 99=true:=by decide
 have W103:wiB ⟨#[99]⟩ 103=false:=by decide
 have W114:wiB ⟨#[99]⟩ 114=false:=by decide
 have W111:wiB ⟨#[99]⟩ 111=false:=by decide
 have W110:wiB ⟨#[99]⟩ 110=false:=by decide
 have W100:wiB ⟨#[99]⟩ 100=false:=by decide
 have W105:wiB ⟨#[99]⟩ 105=false:=by decide
 have W102:wiB ⟨#[99]⟩ 102=false:=by decide
 clear hd hg hW hdv hgv
 by_cases h_s:cl.size=0
 rotate_left
 ·have b_s:(cl.size==0)=false:=by rw [beq_eq_false_iff_ne];omega
  have E:Hid (zrB ⟨#[99]⟩ cl=false):=by unfold Hid zrB;simp [W115,W99,W103,W114,W111,W110,W100,W105,W102,h_s]
  clear h_s he
  go_enter Tryz.func38,Tryz.ntmps38
  go_upto_region 1 with fail
  have hW:=HW.out
  rw [←hW]
  clear hW HW
  simp only [List.append]
  go_wp2_with (first|(go_at_call 63;refine (rwith_any _ (by decide) _ _).mono ?_;rintro e9 w9 ⟨rfl,hw9⟩;obtain rfl:=hw9.symm;clear hw9;simp only [W115,W99,W103,W114,W111,W110,W100,W105,W102]))
  go_ret
  exact⟨by rw [E.out];exact ret_bool rfl,HB.out⟩
 have b_s:(cl.size==0)=true:=by simp [h_s]
 by_cases h_g:cl.given=false
 rotate_left
 ·have k_g:cl.given=true:=by simpa using h_g
  rw [k_g] at x6
  have E:Hid (zrB ⟨#[99]⟩ cl=false):=by unfold Hid zrB;simp [W115,W99,W103,W114,W111,W110,W100,W105,W102,h_s,k_g]
  clear h_s k_g he
  go_enter Tryz.func38,Tryz.ntmps38
  go_upto_region 1 with fail
  have hW:=HW.out
  rw [←hW]
  clear hW HW
  simp only [List.append]
  go_wp2_with (first|(go_at_call 63;refine (rwith_any _ (by decide) _ _).mono ?_;rintro e9 w9 ⟨rfl,hw9⟩;obtain rfl:=hw9.symm;clear hw9;simp only [W115,W99,W103,W114,W111,W110,W100,W105,W102]))
  go_ret
  exact⟨by rw [E.out];exact ret_bool rfl,HB.out⟩
 rw [h_g] at x6
 by_cases h_r:cl.rights=0
 rotate_left
 ·have b_r:(cl.rights==0)=false:=by rw [beq_eq_false_iff_ne];omega
  have E:Hid (zrB ⟨#[99]⟩ cl=false):=by unfold Hid zrB;simp [W115,W99,W103,W114,W111,W110,W100,W105,W102,h_s,h_g,h_r]
  clear h_s h_g h_r he
  go_enter Tryz.func38,Tryz.ntmps38
  go_upto_region 1 with fail
  have hW:=HW.out
  rw [←hW]
  clear hW HW
  simp only [List.append]
  go_wp2_with (first|(go_at_call 63;refine (rwith_any _ (by decide) _ _).mono ?_;rintro e9 w9 ⟨rfl,hw9⟩;obtain rfl:=hw9.symm;clear hw9;simp only [W115,W99,W103,W114,W111,W110,W100,W105,W102]))
  go_ret
  exact⟨by rw [E.out];exact ret_bool rfl,HB.out⟩
 have b_r:(cl.rights==0)=true:=by simp [h_r]
 by_cases h_o:cl.off=0
 rotate_left
 ·have b_o:(cl.off==0)=false:=by rw [beq_eq_false_iff_ne];omega
  have E:Hid (zrB ⟨#[99]⟩ cl=false):=by unfold Hid zrB;simp [W115,W99,W103,W114,W111,W110,W100,W105,W102,h_s,h_g,h_r,h_o]
  clear h_s h_g h_r h_o he
  go_enter Tryz.func38,Tryz.ntmps38
  go_upto_region 1 with fail
  have hW:=HW.out
  rw [←hW]
  clear hW HW
  simp only [List.append]
  go_wp2_with (first|(go_at_call 63;refine (rwith_any _ (by decide) _ _).mono ?_;rintro e9 w9 ⟨rfl,hw9⟩;obtain rfl:=hw9.symm;clear hw9;simp only [W115,W99,W103,W114,W111,W110,W100,W105,W102]))
  go_ret
  exact⟨by rw [E.out];exact ret_bool rfl,HB.out⟩
 have b_o:(cl.off==0)=true:=by simp [h_o]
 by_cases h_n:cl.n=0
 rotate_left
 ·have b_n:(cl.n==0)=false:=by rw [beq_eq_false_iff_ne];omega
  have E:Hid (zrB ⟨#[99]⟩ cl=false):=by unfold Hid zrB;simp [W115,W99,W103,W114,W111,W110,W100,W105,W102,h_s,h_g,h_r,h_o,h_n]
  clear h_s h_g h_r h_o h_n he
  go_enter Tryz.func38,Tryz.ntmps38
  go_upto_region 1 with fail
  have hW:=HW.out
  rw [←hW]
  clear hW HW
  simp only [List.append]
  go_wp2_with (first|(go_at_call 63;refine (rwith_any _ (by decide) _ _).mono ?_;rintro e9 w9 ⟨rfl,hw9⟩;obtain rfl:=hw9.symm;clear hw9;simp only [W115,W99,W103,W114,W111,W110,W100,W105,W102]))
  go_ret
  exact⟨by rw [E.out];exact ret_bool rfl,HB.out⟩
 have b_n:(cl.n==0)=true:=by simp [h_n]
 by_cases h_d:cl.data.length=0
 rotate_left
 ·have b_d:((cl.data.length:Int)==0)=false:=by rw [beq_eq_false_iff_ne];omega
  have E:Hid (zrB ⟨#[99]⟩ cl=false):=by unfold Hid zrB;simp [W115,W99,W103,W114,W111,W110,W100,W105,W102,h_s,h_g,h_r,h_o,h_n,h_d]
  clear h_s h_g h_r h_o h_n h_d he
  go_enter Tryz.func38,Tryz.ntmps38
  go_upto_region 1 with fail
  have hW:=HW.out
  rw [←hW]
  clear hW HW
  simp only [List.append]
  go_wp2_with (first|(go_at_call 63;refine (rwith_any _ (by decide) _ _).mono ?_;rintro e9 w9 ⟨rfl,hw9⟩;obtain rfl:=hw9.symm;clear hw9;simp only [W115,W99,W103,W114,W111,W110,W100,W105,W102]))
  go_ret
  exact⟨by rw [E.out];exact ret_bool rfl,HB.out⟩
 have b_d:((cl.data.length:Int)==0)=true:=by simp [h_d]
 by_cases h_i:cl.index=0
 rotate_left
 ·have b_i:(cl.index==0)=false:=by rw [beq_eq_false_iff_ne];omega
  have E:Hid (zrB ⟨#[99]⟩ cl=false):=by unfold Hid zrB;simp [W115,W99,W103,W114,W111,W110,W100,W105,W102,h_s,h_g,h_r,h_o,h_n,h_d,h_i]
  clear h_s h_g h_r h_o h_n h_d h_i he
  go_enter Tryz.func38,Tryz.ntmps38
  go_upto_region 1 with fail
  have hW:=HW.out
  rw [←hW]
  clear hW HW
  simp only [List.append]
  go_wp2_with (first|(go_at_call 63;refine (rwith_any _ (by decide) _ _).mono ?_;rintro e9 w9 ⟨rfl,hw9⟩;obtain rfl:=hw9.symm;clear hw9;simp only [W115,W99,W103,W114,W111,W110,W100,W105,W102]))
  go_ret
  exact⟨by rw [E.out];exact ret_bool rfl,HB.out⟩
 have b_i:(cl.index==0)=true:=by simp [h_i]
 by_cases h_f:cl.gifts.length=0
 rotate_left
 ·have b_f:((cl.gifts.length:Int)==0)=false:=by rw [beq_eq_false_iff_ne];omega
  have E:Hid (zrB ⟨#[99]⟩ cl=false):=by unfold Hid zrB;simp [W115,W99,W103,W114,W111,W110,W100,W105,W102,h_s,h_g,h_r,h_o,h_n,h_d,h_i,h_f]
  clear h_s h_g h_r h_o h_n h_d h_i h_f he
  go_enter Tryz.func38,Tryz.ntmps38
  go_upto_region 1 with fail
  have hW:=HW.out
  rw [←hW]
  clear hW HW
  simp only [List.append]
  go_wp2_with (first|(go_at_call 63;refine (rwith_any _ (by decide) _ _).mono ?_;rintro e9 w9 ⟨rfl,hw9⟩;obtain rfl:=hw9.symm;clear hw9;simp only [W115,W99,W103,W114,W111,W110,W100,W105,W102]))
  go_ret
  exact⟨by rw [E.out];exact ret_bool rfl,HB.out⟩
 have b_f:((cl.gifts.length:Int)==0)=true:=by simp [h_f]
 have E:Hid (zrB ⟨#[99]⟩ cl=true):=by unfold Hid zrB;simp [W115,W99,W103,W114,W111,W110,W100,W105,W102,h_s,h_g,h_r,h_o,h_n,h_d,h_i,h_f]
 clear h_s h_g h_r h_o h_n h_d h_i h_f he
 go_enter Tryz.func38,Tryz.ntmps38
 go_upto_region 1 with fail
 have hW:=HW.out
 rw [←hW]
 clear hW HW
 simp only [List.append]
 go_wp2_with (first|(go_at_call 63;refine (rwith_any _ (by decide) _ _).mono ?_;rintro e9 w9 ⟨rfl,hw9⟩;obtain rfl:=hw9.symm;clear hw9;simp only [W115,W99,W103,W114,W111,W110,W100,W105,W102]))
 go_ret
 exact⟨by rw [E.out];exact ret_bool rfl,HB.out⟩
end
end Go.Proofs.YtffmodpgddecnaaGreat.V
namespace Go.Proofs.YtffmodpgddecnaaGreat.V
open Go.RowKit
open Go.Proofs.YtffmodpgddecnaaGreat.H (B64 Cp)
section
variable {w w':World}
set_option maxRecDepth 100000 in
set_option maxHeartbeats 8000000 in
theorem rzero_cr {cl:R.Cl}{dd gg:R.Sl}(hd:dd.n=cl.data.length)(hg:gg.n=cl.gifts.length)(w:World):Calls Tryz.prog 38 #[.agg (R.cC cl dd gg).toArray,.string ⟨#[99,114]⟩] w fun e w'=>e=.returned (.bool (zrB ⟨#[99,114]⟩ cl))∧Below w.heap.size w w':=by
 obtain⟨W,hW⟩:∃W,W=w.alloc (Obj.cells (R.cC cl dd gg).toArray 45):=⟨_,rfl⟩
 have HB:Hid (Below w.heap.size w W):=by rw [hW];exact below1 _ _
 have HX:Hid (R.Bx W w.heap.size (R.cC cl dd gg)):=by rw [hW];exact R.Bx.new w _ _
 have HW:=hid hW
 have x2:=HX.out.cell 2 rfl
 have x3:=HX.out.cell 3 rfl
 have x4:=HX.out.cell 4 rfl
 have x5:=HX.out.cell 5 rfl
 have x6:=HX.out.cell 6 rfl
 have x7:=HX.out.cell 7 rfl
 have x8:=HX.out.cell 8 rfl
 have x9:=HX.out.cell 9 rfl
 have x10:=HX.out.cell 10 rfl
 have x11:=HX.out.cell 11 rfl
 have x12:=HX.out.cell 12 rfl
 have hdv:dd.v=.slice dd.a cl.data.length dd.c:=by unfold R.Sl.v;rw [hd]
 have hgv:gg.v=.slice gg.a cl.gifts.length gg.c:=by unfold R.Sl.v;rw [hg]
 rw [hdv] at x10
 rw [hgv] at x12
 obtain⟨e,he⟩:∃e,e=decide (cpO cl=(0,0,0)):=⟨_,rfl⟩
 have heq:∀U:World,(binOp .eql 38 (.agg #[.int .i64 cl.obj,.int .u64 (cl.hi:Int),.int .u64 (cl.lo:Int)]) (.agg #[.int .i64 0,.int .u64 0,.int .u64 0])).run Tryz.prog U=.ok (.bool e) U:=fun U=>by rw [he];exact K.eqlCp (cpO cl) (0,0,0) U
 have W115:wiB ⟨#[99,114]⟩ 115=false:=by decide
 have W99:wiB ⟨#[99,114]⟩ 99=true:=by decide
 have W103:wiB ⟨#[99,114]⟩ 103=false:=by decide
 have W114:wiB ⟨#[99,114]⟩ 114=true:=by decide
 have W111:wiB ⟨#[99,114]⟩ 111=false:=by decide
 have W110:wiB ⟨#[99,114]⟩ 110=false:=by decide
 have W100:wiB ⟨#[99,114]⟩ 100=false:=by decide
 have W105:wiB ⟨#[99,114]⟩ 105=false:=by decide
 have W102:wiB ⟨#[99,114]⟩ 102=false:=by decide
 clear hd hg hW hdv hgv
 by_cases h_s:cl.size=0
 rotate_left
 ·have b_s:(cl.size==0)=false:=by rw [beq_eq_false_iff_ne];omega
  have E:Hid (zrB ⟨#[99,114]⟩ cl=false):=by unfold Hid zrB;simp [W115,W99,W103,W114,W111,W110,W100,W105,W102,h_s]
  clear h_s he
  go_enter Tryz.func38,Tryz.ntmps38
  go_upto_region 1 with fail
  have hW:=HW.out
  rw [←hW]
  clear hW HW
  simp only [List.append]
  go_wp2_with (first|(go_at_call 63;refine (rwith_any _ (by decide) _ _).mono ?_;rintro e9 w9 ⟨rfl,hw9⟩;obtain rfl:=hw9.symm;clear hw9;simp only [W115,W99,W103,W114,W111,W110,W100,W105,W102]))
  go_ret
  exact⟨by rw [E.out];exact ret_bool rfl,HB.out⟩
 have b_s:(cl.size==0)=true:=by simp [h_s]
 by_cases h_g:cl.given=false
 rotate_left
 ·have k_g:cl.given=true:=by simpa using h_g
  rw [k_g] at x6
  have E:Hid (zrB ⟨#[99,114]⟩ cl=false):=by unfold Hid zrB;simp [W115,W99,W103,W114,W111,W110,W100,W105,W102,h_s,k_g]
  clear h_s k_g he
  go_enter Tryz.func38,Tryz.ntmps38
  go_upto_region 1 with fail
  have hW:=HW.out
  rw [←hW]
  clear hW HW
  simp only [List.append]
  go_wp2_with (first|(go_at_call 63;refine (rwith_any _ (by decide) _ _).mono ?_;rintro e9 w9 ⟨rfl,hw9⟩;obtain rfl:=hw9.symm;clear hw9;simp only [W115,W99,W103,W114,W111,W110,W100,W105,W102]))
  go_ret
  exact⟨by rw [E.out];exact ret_bool rfl,HB.out⟩
 rw [h_g] at x6
 by_cases h_o:cl.off=0
 rotate_left
 ·have b_o:(cl.off==0)=false:=by rw [beq_eq_false_iff_ne];omega
  have E:Hid (zrB ⟨#[99,114]⟩ cl=false):=by unfold Hid zrB;simp [W115,W99,W103,W114,W111,W110,W100,W105,W102,h_s,h_g,h_o]
  clear h_s h_g h_o he
  go_enter Tryz.func38,Tryz.ntmps38
  go_upto_region 1 with fail
  have hW:=HW.out
  rw [←hW]
  clear hW HW
  simp only [List.append]
  go_wp2_with (first|(go_at_call 63;refine (rwith_any _ (by decide) _ _).mono ?_;rintro e9 w9 ⟨rfl,hw9⟩;obtain rfl:=hw9.symm;clear hw9;simp only [W115,W99,W103,W114,W111,W110,W100,W105,W102]))
  go_ret
  exact⟨by rw [E.out];exact ret_bool rfl,HB.out⟩
 have b_o:(cl.off==0)=true:=by simp [h_o]
 by_cases h_n:cl.n=0
 rotate_left
 ·have b_n:(cl.n==0)=false:=by rw [beq_eq_false_iff_ne];omega
  have E:Hid (zrB ⟨#[99,114]⟩ cl=false):=by unfold Hid zrB;simp [W115,W99,W103,W114,W111,W110,W100,W105,W102,h_s,h_g,h_o,h_n]
  clear h_s h_g h_o h_n he
  go_enter Tryz.func38,Tryz.ntmps38
  go_upto_region 1 with fail
  have hW:=HW.out
  rw [←hW]
  clear hW HW
  simp only [List.append]
  go_wp2_with (first|(go_at_call 63;refine (rwith_any _ (by decide) _ _).mono ?_;rintro e9 w9 ⟨rfl,hw9⟩;obtain rfl:=hw9.symm;clear hw9;simp only [W115,W99,W103,W114,W111,W110,W100,W105,W102]))
  go_ret
  exact⟨by rw [E.out];exact ret_bool rfl,HB.out⟩
 have b_n:(cl.n==0)=true:=by simp [h_n]
 by_cases h_d:cl.data.length=0
 rotate_left
 ·have b_d:((cl.data.length:Int)==0)=false:=by rw [beq_eq_false_iff_ne];omega
  have E:Hid (zrB ⟨#[99,114]⟩ cl=false):=by unfold Hid zrB;simp [W115,W99,W103,W114,W111,W110,W100,W105,W102,h_s,h_g,h_o,h_n,h_d]
  clear h_s h_g h_o h_n h_d he
  go_enter Tryz.func38,Tryz.ntmps38
  go_upto_region 1 with fail
  have hW:=HW.out
  rw [←hW]
  clear hW HW
  simp only [List.append]
  go_wp2_with (first|(go_at_call 63;refine (rwith_any _ (by decide) _ _).mono ?_;rintro e9 w9 ⟨rfl,hw9⟩;obtain rfl:=hw9.symm;clear hw9;simp only [W115,W99,W103,W114,W111,W110,W100,W105,W102]))
  go_ret
  exact⟨by rw [E.out];exact ret_bool rfl,HB.out⟩
 have b_d:((cl.data.length:Int)==0)=true:=by simp [h_d]
 by_cases h_i:cl.index=0
 rotate_left
 ·have b_i:(cl.index==0)=false:=by rw [beq_eq_false_iff_ne];omega
  have E:Hid (zrB ⟨#[99,114]⟩ cl=false):=by unfold Hid zrB;simp [W115,W99,W103,W114,W111,W110,W100,W105,W102,h_s,h_g,h_o,h_n,h_d,h_i]
  clear h_s h_g h_o h_n h_d h_i he
  go_enter Tryz.func38,Tryz.ntmps38
  go_upto_region 1 with fail
  have hW:=HW.out
  rw [←hW]
  clear hW HW
  simp only [List.append]
  go_wp2_with (first|(go_at_call 63;refine (rwith_any _ (by decide) _ _).mono ?_;rintro e9 w9 ⟨rfl,hw9⟩;obtain rfl:=hw9.symm;clear hw9;simp only [W115,W99,W103,W114,W111,W110,W100,W105,W102]))
  go_ret
  exact⟨by rw [E.out];exact ret_bool rfl,HB.out⟩
 have b_i:(cl.index==0)=true:=by simp [h_i]
 by_cases h_f:cl.gifts.length=0
 rotate_left
 ·have b_f:((cl.gifts.length:Int)==0)=false:=by rw [beq_eq_false_iff_ne];omega
  have E:Hid (zrB ⟨#[99,114]⟩ cl=false):=by unfold Hid zrB;simp [W115,W99,W103,W114,W111,W110,W100,W105,W102,h_s,h_g,h_o,h_n,h_d,h_i,h_f]
  clear h_s h_g h_o h_n h_d h_i h_f he
  go_enter Tryz.func38,Tryz.ntmps38
  go_upto_region 1 with fail
  have hW:=HW.out
  rw [←hW]
  clear hW HW
  simp only [List.append]
  go_wp2_with (first|(go_at_call 63;refine (rwith_any _ (by decide) _ _).mono ?_;rintro e9 w9 ⟨rfl,hw9⟩;obtain rfl:=hw9.symm;clear hw9;simp only [W115,W99,W103,W114,W111,W110,W100,W105,W102]))
  go_ret
  exact⟨by rw [E.out];exact ret_bool rfl,HB.out⟩
 have b_f:((cl.gifts.length:Int)==0)=true:=by simp [h_f]
 have E:Hid (zrB ⟨#[99,114]⟩ cl=true):=by unfold Hid zrB;simp [W115,W99,W103,W114,W111,W110,W100,W105,W102,h_s,h_g,h_o,h_n,h_d,h_i,h_f]
 clear h_s h_g h_o h_n h_d h_i h_f he
 go_enter Tryz.func38,Tryz.ntmps38
 go_upto_region 1 with fail
 have hW:=HW.out
 rw [←hW]
 clear hW HW
 simp only [List.append]
 go_wp2_with (first|(go_at_call 63;refine (rwith_any _ (by decide) _ _).mono ?_;rintro e9 w9 ⟨rfl,hw9⟩;obtain rfl:=hw9.symm;clear hw9;simp only [W115,W99,W103,W114,W111,W110,W100,W105,W102]))
 go_ret
 exact⟨by rw [E.out];exact ret_bool rfl,HB.out⟩
end
end Go.Proofs.YtffmodpgddecnaaGreat.V
namespace Go.Proofs.YtffmodpgddecnaaGreat.V
open Go.RowKit
open Go.Proofs.YtffmodpgddecnaaGreat.H (B64 Cp)
section
variable {w w':World}
set_option maxRecDepth 100000 in
set_option maxHeartbeats 8000000 in
theorem rzero_cgon {cl:R.Cl}{dd gg:R.Sl}(hd:dd.n=cl.data.length)(hg:gg.n=cl.gifts.length)(w:World):Calls Tryz.prog 38 #[.agg (R.cC cl dd gg).toArray,.string ⟨#[99,103,111,110]⟩] w fun e w'=>e=.returned (.bool (zrB ⟨#[99,103,111,110]⟩ cl))∧Below w.heap.size w w':=by
 obtain⟨W,hW⟩:∃W,W=w.alloc (Obj.cells (R.cC cl dd gg).toArray 45):=⟨_,rfl⟩
 have HB:Hid (Below w.heap.size w W):=by rw [hW];exact below1 _ _
 have HX:Hid (R.Bx W w.heap.size (R.cC cl dd gg)):=by rw [hW];exact R.Bx.new w _ _
 have HW:=hid hW
 have x2:=HX.out.cell 2 rfl
 have x3:=HX.out.cell 3 rfl
 have x4:=HX.out.cell 4 rfl
 have x5:=HX.out.cell 5 rfl
 have x6:=HX.out.cell 6 rfl
 have x7:=HX.out.cell 7 rfl
 have x8:=HX.out.cell 8 rfl
 have x9:=HX.out.cell 9 rfl
 have x10:=HX.out.cell 10 rfl
 have x11:=HX.out.cell 11 rfl
 have x12:=HX.out.cell 12 rfl
 have hdv:dd.v=.slice dd.a cl.data.length dd.c:=by unfold R.Sl.v;rw [hd]
 have hgv:gg.v=.slice gg.a cl.gifts.length gg.c:=by unfold R.Sl.v;rw [hg]
 rw [hdv] at x10
 rw [hgv] at x12
 obtain⟨e,he⟩:∃e,e=decide (cpO cl=(0,0,0)):=⟨_,rfl⟩
 have heq:∀U:World,(binOp .eql 38 (.agg #[.int .i64 cl.obj,.int .u64 (cl.hi:Int),.int .u64 (cl.lo:Int)]) (.agg #[.int .i64 0,.int .u64 0,.int .u64 0])).run Tryz.prog U=.ok (.bool e) U:=fun U=>by rw [he];exact K.eqlCp (cpO cl) (0,0,0) U
 have W115:wiB ⟨#[99,103,111,110]⟩ 115=false:=by decide
 have W99:wiB ⟨#[99,103,111,110]⟩ 99=true:=by decide
 have W103:wiB ⟨#[99,103,111,110]⟩ 103=true:=by decide
 have W114:wiB ⟨#[99,103,111,110]⟩ 114=false:=by decide
 have W111:wiB ⟨#[99,103,111,110]⟩ 111=true:=by decide
 have W110:wiB ⟨#[99,103,111,110]⟩ 110=true:=by decide
 have W100:wiB ⟨#[99,103,111,110]⟩ 100=false:=by decide
 have W105:wiB ⟨#[99,103,111,110]⟩ 105=false:=by decide
 have W102:wiB ⟨#[99,103,111,110]⟩ 102=false:=by decide
 clear hd hg hW hdv hgv
 by_cases h_s:cl.size=0
 rotate_left
 ·have b_s:(cl.size==0)=false:=by rw [beq_eq_false_iff_ne];omega
  have E:Hid (zrB ⟨#[99,103,111,110]⟩ cl=false):=by unfold Hid zrB;simp [W115,W99,W103,W114,W111,W110,W100,W105,W102,h_s]
  clear h_s he
  go_enter Tryz.func38,Tryz.ntmps38
  go_upto_region 1 with fail
  have hW:=HW.out
  rw [←hW]
  clear hW HW
  simp only [List.append]
  go_wp2_with (first|(go_at_call 63;refine (rwith_any _ (by decide) _ _).mono ?_;rintro e9 w9 ⟨rfl,hw9⟩;obtain rfl:=hw9.symm;clear hw9;simp only [W115,W99,W103,W114,W111,W110,W100,W105,W102]))
  go_ret
  exact⟨by rw [E.out];exact ret_bool rfl,HB.out⟩
 have b_s:(cl.size==0)=true:=by simp [h_s]
 by_cases h_r:cl.rights=0
 rotate_left
 ·have b_r:(cl.rights==0)=false:=by rw [beq_eq_false_iff_ne];omega
  have E:Hid (zrB ⟨#[99,103,111,110]⟩ cl=false):=by unfold Hid zrB;simp [W115,W99,W103,W114,W111,W110,W100,W105,W102,h_s,h_r]
  clear h_s h_r he
  go_enter Tryz.func38,Tryz.ntmps38
  go_upto_region 1 with fail
  have hW:=HW.out
  rw [←hW]
  clear hW HW
  simp only [List.append]
  go_wp2_with (first|(go_at_call 63;refine (rwith_any _ (by decide) _ _).mono ?_;rintro e9 w9 ⟨rfl,hw9⟩;obtain rfl:=hw9.symm;clear hw9;simp only [W115,W99,W103,W114,W111,W110,W100,W105,W102]))
  go_ret
  exact⟨by rw [E.out];exact ret_bool rfl,HB.out⟩
 have b_r:(cl.rights==0)=true:=by simp [h_r]
 by_cases h_d:cl.data.length=0
 rotate_left
 ·have b_d:((cl.data.length:Int)==0)=false:=by rw [beq_eq_false_iff_ne];omega
  have E:Hid (zrB ⟨#[99,103,111,110]⟩ cl=false):=by unfold Hid zrB;simp [W115,W99,W103,W114,W111,W110,W100,W105,W102,h_s,h_r,h_d]
  clear h_s h_r h_d he
  go_enter Tryz.func38,Tryz.ntmps38
  go_upto_region 1 with fail
  have hW:=HW.out
  rw [←hW]
  clear hW HW
  simp only [List.append]
  go_wp2_with (first|(go_at_call 63;refine (rwith_any _ (by decide) _ _).mono ?_;rintro e9 w9 ⟨rfl,hw9⟩;obtain rfl:=hw9.symm;clear hw9;simp only [W115,W99,W103,W114,W111,W110,W100,W105,W102]))
  go_ret
  exact⟨by rw [E.out];exact ret_bool rfl,HB.out⟩
 have b_d:((cl.data.length:Int)==0)=true:=by simp [h_d]
 by_cases h_i:cl.index=0
 rotate_left
 ·have b_i:(cl.index==0)=false:=by rw [beq_eq_false_iff_ne];omega
  have E:Hid (zrB ⟨#[99,103,111,110]⟩ cl=false):=by unfold Hid zrB;simp [W115,W99,W103,W114,W111,W110,W100,W105,W102,h_s,h_r,h_d,h_i]
  clear h_s h_r h_d h_i he
  go_enter Tryz.func38,Tryz.ntmps38
  go_upto_region 1 with fail
  have hW:=HW.out
  rw [←hW]
  clear hW HW
  simp only [List.append]
  go_wp2_with (first|(go_at_call 63;refine (rwith_any _ (by decide) _ _).mono ?_;rintro e9 w9 ⟨rfl,hw9⟩;obtain rfl:=hw9.symm;clear hw9;simp only [W115,W99,W103,W114,W111,W110,W100,W105,W102]))
  go_ret
  exact⟨by rw [E.out];exact ret_bool rfl,HB.out⟩
 have b_i:(cl.index==0)=true:=by simp [h_i]
 by_cases h_f:cl.gifts.length=0
 rotate_left
 ·have b_f:((cl.gifts.length:Int)==0)=false:=by rw [beq_eq_false_iff_ne];omega
  have E:Hid (zrB ⟨#[99,103,111,110]⟩ cl=false):=by unfold Hid zrB;simp [W115,W99,W103,W114,W111,W110,W100,W105,W102,h_s,h_r,h_d,h_i,h_f]
  clear h_s h_r h_d h_i h_f he
  go_enter Tryz.func38,Tryz.ntmps38
  go_upto_region 1 with fail
  have hW:=HW.out
  rw [←hW]
  clear hW HW
  simp only [List.append]
  go_wp2_with (first|(go_at_call 63;refine (rwith_any _ (by decide) _ _).mono ?_;rintro e9 w9 ⟨rfl,hw9⟩;obtain rfl:=hw9.symm;clear hw9;simp only [W115,W99,W103,W114,W111,W110,W100,W105,W102]))
  go_ret
  exact⟨by rw [E.out];exact ret_bool rfl,HB.out⟩
 have b_f:((cl.gifts.length:Int)==0)=true:=by simp [h_f]
 have E:Hid (zrB ⟨#[99,103,111,110]⟩ cl=true):=by unfold Hid zrB;simp [W115,W99,W103,W114,W111,W110,W100,W105,W102,h_s,h_r,h_d,h_i,h_f]
 clear h_s h_r h_d h_i h_f he
 go_enter Tryz.func38,Tryz.ntmps38
 go_upto_region 1 with fail
 have hW:=HW.out
 rw [←hW]
 clear hW HW
 simp only [List.append]
 go_wp2_with (first|(go_at_call 63;refine (rwith_any _ (by decide) _ _).mono ?_;rintro e9 w9 ⟨rfl,hw9⟩;obtain rfl:=hw9.symm;clear hw9;simp only [W115,W99,W103,W114,W111,W110,W100,W105,W102]))
 go_ret
 exact⟨by rw [E.out];exact ret_bool rfl,HB.out⟩
end
end Go.Proofs.YtffmodpgddecnaaGreat.V
namespace Go.Proofs.YtffmodpgddecnaaGreat.V
open Go.RowKit
open Go.Proofs.YtffmodpgddecnaaGreat.H (B64 Cp)
section
variable {w w':World}
set_option maxRecDepth 100000 in
set_option maxHeartbeats 8000000 in
theorem rzero_cgod {cl:R.Cl}{dd gg:R.Sl}(hd:dd.n=cl.data.length)(hg:gg.n=cl.gifts.length)(w:World):Calls Tryz.prog 38 #[.agg (R.cC cl dd gg).toArray,.string ⟨#[99,103,111,100]⟩] w fun e w'=>e=.returned (.bool (zrB ⟨#[99,103,111,100]⟩ cl))∧Below w.heap.size w w':=by
 obtain⟨W,hW⟩:∃W,W=w.alloc (Obj.cells (R.cC cl dd gg).toArray 45):=⟨_,rfl⟩
 have HB:Hid (Below w.heap.size w W):=by rw [hW];exact below1 _ _
 have HX:Hid (R.Bx W w.heap.size (R.cC cl dd gg)):=by rw [hW];exact R.Bx.new w _ _
 have HW:=hid hW
 have x2:=HX.out.cell 2 rfl
 have x3:=HX.out.cell 3 rfl
 have x4:=HX.out.cell 4 rfl
 have x5:=HX.out.cell 5 rfl
 have x6:=HX.out.cell 6 rfl
 have x7:=HX.out.cell 7 rfl
 have x8:=HX.out.cell 8 rfl
 have x9:=HX.out.cell 9 rfl
 have x10:=HX.out.cell 10 rfl
 have x11:=HX.out.cell 11 rfl
 have x12:=HX.out.cell 12 rfl
 have hdv:dd.v=.slice dd.a cl.data.length dd.c:=by unfold R.Sl.v;rw [hd]
 have hgv:gg.v=.slice gg.a cl.gifts.length gg.c:=by unfold R.Sl.v;rw [hg]
 rw [hdv] at x10
 rw [hgv] at x12
 obtain⟨e,he⟩:∃e,e=decide (cpO cl=(0,0,0)):=⟨_,rfl⟩
 have heq:∀U:World,(binOp .eql 38 (.agg #[.int .i64 cl.obj,.int .u64 (cl.hi:Int),.int .u64 (cl.lo:Int)]) (.agg #[.int .i64 0,.int .u64 0,.int .u64 0])).run Tryz.prog U=.ok (.bool e) U:=fun U=>by rw [he];exact K.eqlCp (cpO cl) (0,0,0) U
 have W115:wiB ⟨#[99,103,111,100]⟩ 115=false:=by decide
 have W99:wiB ⟨#[99,103,111,100]⟩ 99=true:=by decide
 have W103:wiB ⟨#[99,103,111,100]⟩ 103=true:=by decide
 have W114:wiB ⟨#[99,103,111,100]⟩ 114=false:=by decide
 have W111:wiB ⟨#[99,103,111,100]⟩ 111=true:=by decide
 have W110:wiB ⟨#[99,103,111,100]⟩ 110=false:=by decide
 have W100:wiB ⟨#[99,103,111,100]⟩ 100=true:=by decide
 have W105:wiB ⟨#[99,103,111,100]⟩ 105=false:=by decide
 have W102:wiB ⟨#[99,103,111,100]⟩ 102=false:=by decide
 clear hd hg hW hdv hgv
 by_cases h_s:cl.size=0
 rotate_left
 ·have b_s:(cl.size==0)=false:=by rw [beq_eq_false_iff_ne];omega
  have E:Hid (zrB ⟨#[99,103,111,100]⟩ cl=false):=by unfold Hid zrB;simp [W115,W99,W103,W114,W111,W110,W100,W105,W102,h_s]
  clear h_s he
  go_enter Tryz.func38,Tryz.ntmps38
  go_upto_region 1 with fail
  have hW:=HW.out
  rw [←hW]
  clear hW HW
  simp only [List.append]
  go_wp2_with (first|(go_at_call 63;refine (rwith_any _ (by decide) _ _).mono ?_;rintro e9 w9 ⟨rfl,hw9⟩;obtain rfl:=hw9.symm;clear hw9;simp only [W115,W99,W103,W114,W111,W110,W100,W105,W102]))
  go_ret
  exact⟨by rw [E.out];exact ret_bool rfl,HB.out⟩
 have b_s:(cl.size==0)=true:=by simp [h_s]
 by_cases h_r:cl.rights=0
 rotate_left
 ·have b_r:(cl.rights==0)=false:=by rw [beq_eq_false_iff_ne];omega
  have E:Hid (zrB ⟨#[99,103,111,100]⟩ cl=false):=by unfold Hid zrB;simp [W115,W99,W103,W114,W111,W110,W100,W105,W102,h_s,h_r]
  clear h_s h_r he
  go_enter Tryz.func38,Tryz.ntmps38
  go_upto_region 1 with fail
  have hW:=HW.out
  rw [←hW]
  clear hW HW
  simp only [List.append]
  go_wp2_with (first|(go_at_call 63;refine (rwith_any _ (by decide) _ _).mono ?_;rintro e9 w9 ⟨rfl,hw9⟩;obtain rfl:=hw9.symm;clear hw9;simp only [W115,W99,W103,W114,W111,W110,W100,W105,W102]))
  go_ret
  exact⟨by rw [E.out];exact ret_bool rfl,HB.out⟩
 have b_r:(cl.rights==0)=true:=by simp [h_r]
 by_cases h_n:cl.n=0
 rotate_left
 ·have b_n:(cl.n==0)=false:=by rw [beq_eq_false_iff_ne];omega
  have E:Hid (zrB ⟨#[99,103,111,100]⟩ cl=false):=by unfold Hid zrB;simp [W115,W99,W103,W114,W111,W110,W100,W105,W102,h_s,h_r,h_n]
  clear h_s h_r h_n he
  go_enter Tryz.func38,Tryz.ntmps38
  go_upto_region 1 with fail
  have hW:=HW.out
  rw [←hW]
  clear hW HW
  simp only [List.append]
  go_wp2_with (first|(go_at_call 63;refine (rwith_any _ (by decide) _ _).mono ?_;rintro e9 w9 ⟨rfl,hw9⟩;obtain rfl:=hw9.symm;clear hw9;simp only [W115,W99,W103,W114,W111,W110,W100,W105,W102]))
  go_ret
  exact⟨by rw [E.out];exact ret_bool rfl,HB.out⟩
 have b_n:(cl.n==0)=true:=by simp [h_n]
 by_cases h_i:cl.index=0
 rotate_left
 ·have b_i:(cl.index==0)=false:=by rw [beq_eq_false_iff_ne];omega
  have E:Hid (zrB ⟨#[99,103,111,100]⟩ cl=false):=by unfold Hid zrB;simp [W115,W99,W103,W114,W111,W110,W100,W105,W102,h_s,h_r,h_n,h_i]
  clear h_s h_r h_n h_i he
  go_enter Tryz.func38,Tryz.ntmps38
  go_upto_region 1 with fail
  have hW:=HW.out
  rw [←hW]
  clear hW HW
  simp only [List.append]
  go_wp2_with (first|(go_at_call 63;refine (rwith_any _ (by decide) _ _).mono ?_;rintro e9 w9 ⟨rfl,hw9⟩;obtain rfl:=hw9.symm;clear hw9;simp only [W115,W99,W103,W114,W111,W110,W100,W105,W102]))
  go_ret
  exact⟨by rw [E.out];exact ret_bool rfl,HB.out⟩
 have b_i:(cl.index==0)=true:=by simp [h_i]
 by_cases h_f:cl.gifts.length=0
 rotate_left
 ·have b_f:((cl.gifts.length:Int)==0)=false:=by rw [beq_eq_false_iff_ne];omega
  have E:Hid (zrB ⟨#[99,103,111,100]⟩ cl=false):=by unfold Hid zrB;simp [W115,W99,W103,W114,W111,W110,W100,W105,W102,h_s,h_r,h_n,h_i,h_f]
  clear h_s h_r h_n h_i h_f he
  go_enter Tryz.func38,Tryz.ntmps38
  go_upto_region 1 with fail
  have hW:=HW.out
  rw [←hW]
  clear hW HW
  simp only [List.append]
  go_wp2_with (first|(go_at_call 63;refine (rwith_any _ (by decide) _ _).mono ?_;rintro e9 w9 ⟨rfl,hw9⟩;obtain rfl:=hw9.symm;clear hw9;simp only [W115,W99,W103,W114,W111,W110,W100,W105,W102]))
  go_ret
  exact⟨by rw [E.out];exact ret_bool rfl,HB.out⟩
 have b_f:((cl.gifts.length:Int)==0)=true:=by simp [h_f]
 have E:Hid (zrB ⟨#[99,103,111,100]⟩ cl=true):=by unfold Hid zrB;simp [W115,W99,W103,W114,W111,W110,W100,W105,W102,h_s,h_r,h_n,h_i,h_f]
 clear h_s h_r h_n h_i h_f he
 go_enter Tryz.func38,Tryz.ntmps38
 go_upto_region 1 with fail
 have hW:=HW.out
 rw [←hW]
 clear hW HW
 simp only [List.append]
 go_wp2_with (first|(go_at_call 63;refine (rwith_any _ (by decide) _ _).mono ?_;rintro e9 w9 ⟨rfl,hw9⟩;obtain rfl:=hw9.symm;clear hw9;simp only [W115,W99,W103,W114,W111,W110,W100,W105,W102]))
 go_ret
 exact⟨by rw [E.out];exact ret_bool rfl,HB.out⟩
end
end Go.Proofs.YtffmodpgddecnaaGreat.V
namespace Go.Proofs.YtffmodpgddecnaaGreat.V
open Go.RowKit
open Go.Proofs.YtffmodpgddecnaaGreat.H (B64 Cp)
section
variable {w w':World}
set_option maxRecDepth 100000 in
set_option maxHeartbeats 8000000 in
theorem rzero_i {cl:R.Cl}{dd gg:R.Sl}(hd:dd.n=cl.data.length)(hg:gg.n=cl.gifts.length)(w:World):Calls Tryz.prog 38 #[.agg (R.cC cl dd gg).toArray,.string ⟨#[105]⟩] w fun e w'=>e=.returned (.bool (zrB ⟨#[105]⟩ cl))∧Below w.heap.size w w':=by
 obtain⟨W,hW⟩:∃W,W=w.alloc (Obj.cells (R.cC cl dd gg).toArray 45):=⟨_,rfl⟩
 have HB:Hid (Below w.heap.size w W):=by rw [hW];exact below1 _ _
 have HX:Hid (R.Bx W w.heap.size (R.cC cl dd gg)):=by rw [hW];exact R.Bx.new w _ _
 have HW:=hid hW
 have x2:=HX.out.cell 2 rfl
 have x3:=HX.out.cell 3 rfl
 have x4:=HX.out.cell 4 rfl
 have x5:=HX.out.cell 5 rfl
 have x6:=HX.out.cell 6 rfl
 have x7:=HX.out.cell 7 rfl
 have x8:=HX.out.cell 8 rfl
 have x9:=HX.out.cell 9 rfl
 have x10:=HX.out.cell 10 rfl
 have x11:=HX.out.cell 11 rfl
 have x12:=HX.out.cell 12 rfl
 have hdv:dd.v=.slice dd.a cl.data.length dd.c:=by unfold R.Sl.v;rw [hd]
 have hgv:gg.v=.slice gg.a cl.gifts.length gg.c:=by unfold R.Sl.v;rw [hg]
 rw [hdv] at x10
 rw [hgv] at x12
 obtain⟨e,he⟩:∃e,e=decide (cpO cl=(0,0,0)):=⟨_,rfl⟩
 have heq:∀U:World,(binOp .eql 38 (.agg #[.int .i64 cl.obj,.int .u64 (cl.hi:Int),.int .u64 (cl.lo:Int)]) (.agg #[.int .i64 0,.int .u64 0,.int .u64 0])).run Tryz.prog U=.ok (.bool e) U:=fun U=>by rw [he];exact K.eqlCp (cpO cl) (0,0,0) U
 have W115:wiB ⟨#[105]⟩ 115=false:=by decide
 have W99:wiB ⟨#[105]⟩ 99=false:=by decide
 have W103:wiB ⟨#[105]⟩ 103=false:=by decide
 have W114:wiB ⟨#[105]⟩ 114=false:=by decide
 have W111:wiB ⟨#[105]⟩ 111=false:=by decide
 have W110:wiB ⟨#[105]⟩ 110=false:=by decide
 have W100:wiB ⟨#[105]⟩ 100=false:=by decide
 have W105:wiB ⟨#[105]⟩ 105=true:=by decide
 have W102:wiB ⟨#[105]⟩ 102=false:=by decide
 clear hd hg hW hdv hgv
 by_cases h_s:cl.size=0
 rotate_left
 ·have b_s:(cl.size==0)=false:=by rw [beq_eq_false_iff_ne];omega
  have E:Hid (zrB ⟨#[105]⟩ cl=false):=by unfold Hid zrB;simp [W115,W99,W103,W114,W111,W110,W100,W105,W102,h_s]
  clear h_s he
  go_enter Tryz.func38,Tryz.ntmps38
  go_upto_region 1 with fail
  have hW:=HW.out
  rw [←hW]
  clear hW HW
  simp only [List.append]
  go_wp2_with (first|(go_at_call 63;refine (rwith_any _ (by decide) _ _).mono ?_;rintro e9 w9 ⟨rfl,hw9⟩;obtain rfl:=hw9.symm;clear hw9;simp only [W115,W99,W103,W114,W111,W110,W100,W105,W102]))
  go_ret
  exact⟨by rw [E.out];exact ret_bool rfl,HB.out⟩
 have b_s:(cl.size==0)=true:=by simp [h_s]
 by_cases h_c:cpO cl=(0,0,0)
 rotate_left
 ·have b_c:e=false:=by rw [he];exact decide_eq_false h_c
  rw [b_c] at heq
  have E:Hid (zrB ⟨#[105]⟩ cl=false):=by unfold Hid zrB;simp [W115,W99,W103,W114,W111,W110,W100,W105,W102,h_s,h_c]
  clear h_s h_c he
  go_enter Tryz.func38,Tryz.ntmps38
  go_upto_region 1 with fail
  have hW:=HW.out
  rw [←hW]
  clear hW HW
  simp only [List.append]
  go_wp2_with (first|(go_at_call 63;refine (rwith_any _ (by decide) _ _).mono ?_;rintro e9 w9 ⟨rfl,hw9⟩;obtain rfl:=hw9.symm;clear hw9;simp only [W115,W99,W103,W114,W111,W110,W100,W105,W102]))
  go_ret
  exact⟨by rw [E.out];exact ret_bool rfl,HB.out⟩
 have b_c:e=true:=by rw [he];exact decide_eq_true h_c
 rw [b_c] at heq
 by_cases h_g:cl.given=false
 rotate_left
 ·have k_g:cl.given=true:=by simpa using h_g
  rw [k_g] at x6
  have E:Hid (zrB ⟨#[105]⟩ cl=false):=by unfold Hid zrB;simp [W115,W99,W103,W114,W111,W110,W100,W105,W102,h_s,h_c,k_g]
  clear h_s h_c k_g he
  go_enter Tryz.func38,Tryz.ntmps38
  go_upto_region 1 with fail
  have hW:=HW.out
  rw [←hW]
  clear hW HW
  simp only [List.append]
  go_wp2_with (first|(go_at_call 63;refine (rwith_any _ (by decide) _ _).mono ?_;rintro e9 w9 ⟨rfl,hw9⟩;obtain rfl:=hw9.symm;clear hw9;simp only [W115,W99,W103,W114,W111,W110,W100,W105,W102]))
  go_ret
  exact⟨by rw [E.out];exact ret_bool rfl,HB.out⟩
 rw [h_g] at x6
 by_cases h_r:cl.rights=0
 rotate_left
 ·have b_r:(cl.rights==0)=false:=by rw [beq_eq_false_iff_ne];omega
  have E:Hid (zrB ⟨#[105]⟩ cl=false):=by unfold Hid zrB;simp [W115,W99,W103,W114,W111,W110,W100,W105,W102,h_s,h_c,h_g,h_r]
  clear h_s h_c h_g h_r he
  go_enter Tryz.func38,Tryz.ntmps38
  go_upto_region 1 with fail
  have hW:=HW.out
  rw [←hW]
  clear hW HW
  simp only [List.append]
  go_wp2_with (first|(go_at_call 63;refine (rwith_any _ (by decide) _ _).mono ?_;rintro e9 w9 ⟨rfl,hw9⟩;obtain rfl:=hw9.symm;clear hw9;simp only [W115,W99,W103,W114,W111,W110,W100,W105,W102]))
  go_ret
  exact⟨by rw [E.out];exact ret_bool rfl,HB.out⟩
 have b_r:(cl.rights==0)=true:=by simp [h_r]
 by_cases h_o:cl.off=0
 rotate_left
 ·have b_o:(cl.off==0)=false:=by rw [beq_eq_false_iff_ne];omega
  have E:Hid (zrB ⟨#[105]⟩ cl=false):=by unfold Hid zrB;simp [W115,W99,W103,W114,W111,W110,W100,W105,W102,h_s,h_c,h_g,h_r,h_o]
  clear h_s h_c h_g h_r h_o he
  go_enter Tryz.func38,Tryz.ntmps38
  go_upto_region 1 with fail
  have hW:=HW.out
  rw [←hW]
  clear hW HW
  simp only [List.append]
  go_wp2_with (first|(go_at_call 63;refine (rwith_any _ (by decide) _ _).mono ?_;rintro e9 w9 ⟨rfl,hw9⟩;obtain rfl:=hw9.symm;clear hw9;simp only [W115,W99,W103,W114,W111,W110,W100,W105,W102]))
  go_ret
  exact⟨by rw [E.out];exact ret_bool rfl,HB.out⟩
 have b_o:(cl.off==0)=true:=by simp [h_o]
 by_cases h_n:cl.n=0
 rotate_left
 ·have b_n:(cl.n==0)=false:=by rw [beq_eq_false_iff_ne];omega
  have E:Hid (zrB ⟨#[105]⟩ cl=false):=by unfold Hid zrB;simp [W115,W99,W103,W114,W111,W110,W100,W105,W102,h_s,h_c,h_g,h_r,h_o,h_n]
  clear h_s h_c h_g h_r h_o h_n he
  go_enter Tryz.func38,Tryz.ntmps38
  go_upto_region 1 with fail
  have hW:=HW.out
  rw [←hW]
  clear hW HW
  simp only [List.append]
  go_wp2_with (first|(go_at_call 63;refine (rwith_any _ (by decide) _ _).mono ?_;rintro e9 w9 ⟨rfl,hw9⟩;obtain rfl:=hw9.symm;clear hw9;simp only [W115,W99,W103,W114,W111,W110,W100,W105,W102]))
  go_ret
  exact⟨by rw [E.out];exact ret_bool rfl,HB.out⟩
 have b_n:(cl.n==0)=true:=by simp [h_n]
 by_cases h_d:cl.data.length=0
 rotate_left
 ·have b_d:((cl.data.length:Int)==0)=false:=by rw [beq_eq_false_iff_ne];omega
  have E:Hid (zrB ⟨#[105]⟩ cl=false):=by unfold Hid zrB;simp [W115,W99,W103,W114,W111,W110,W100,W105,W102,h_s,h_c,h_g,h_r,h_o,h_n,h_d]
  clear h_s h_c h_g h_r h_o h_n h_d he
  go_enter Tryz.func38,Tryz.ntmps38
  go_upto_region 1 with fail
  have hW:=HW.out
  rw [←hW]
  clear hW HW
  simp only [List.append]
  go_wp2_with (first|(go_at_call 63;refine (rwith_any _ (by decide) _ _).mono ?_;rintro e9 w9 ⟨rfl,hw9⟩;obtain rfl:=hw9.symm;clear hw9;simp only [W115,W99,W103,W114,W111,W110,W100,W105,W102]))
  go_ret
  exact⟨by rw [E.out];exact ret_bool rfl,HB.out⟩
 have b_d:((cl.data.length:Int)==0)=true:=by simp [h_d]
 by_cases h_f:cl.gifts.length=0
 rotate_left
 ·have b_f:((cl.gifts.length:Int)==0)=false:=by rw [beq_eq_false_iff_ne];omega
  have E:Hid (zrB ⟨#[105]⟩ cl=false):=by unfold Hid zrB;simp [W115,W99,W103,W114,W111,W110,W100,W105,W102,h_s,h_c,h_g,h_r,h_o,h_n,h_d,h_f]
  clear h_s h_c h_g h_r h_o h_n h_d h_f he
  go_enter Tryz.func38,Tryz.ntmps38
  go_upto_region 1 with fail
  have hW:=HW.out
  rw [←hW]
  clear hW HW
  simp only [List.append]
  go_wp2_with (first|(go_at_call 63;refine (rwith_any _ (by decide) _ _).mono ?_;rintro e9 w9 ⟨rfl,hw9⟩;obtain rfl:=hw9.symm;clear hw9;simp only [W115,W99,W103,W114,W111,W110,W100,W105,W102]))
  go_ret
  exact⟨by rw [E.out];exact ret_bool rfl,HB.out⟩
 have b_f:((cl.gifts.length:Int)==0)=true:=by simp [h_f]
 have E:Hid (zrB ⟨#[105]⟩ cl=true):=by unfold Hid zrB;simp [W115,W99,W103,W114,W111,W110,W100,W105,W102,h_s,h_c,h_g,h_r,h_o,h_n,h_d,h_f]
 clear h_s h_c h_g h_r h_o h_n h_d h_f he
 go_enter Tryz.func38,Tryz.ntmps38
 go_upto_region 1 with fail
 have hW:=HW.out
 rw [←hW]
 clear hW HW
 simp only [List.append]
 go_wp2_with (first|(go_at_call 63;refine (rwith_any _ (by decide) _ _).mono ?_;rintro e9 w9 ⟨rfl,hw9⟩;obtain rfl:=hw9.symm;clear hw9;simp only [W115,W99,W103,W114,W111,W110,W100,W105,W102]))
 go_ret
 exact⟨by rw [E.out];exact ret_bool rfl,HB.out⟩
end
end Go.Proofs.YtffmodpgddecnaaGreat.V
namespace Go.Proofs.YtffmodpgddecnaaGreat.V
open Go.RowKit
open Go.Proofs.YtffmodpgddecnaaGreat.H (B64 Cp)
section
variable {w w':World}
set_option maxRecDepth 100000 in
set_option maxHeartbeats 8000000 in
theorem rzero_f {cl:R.Cl}{dd gg:R.Sl}(hd:dd.n=cl.data.length)(hg:gg.n=cl.gifts.length)(w:World):Calls Tryz.prog 38 #[.agg (R.cC cl dd gg).toArray,.string ⟨#[102]⟩] w fun e w'=>e=.returned (.bool (zrB ⟨#[102]⟩ cl))∧Below w.heap.size w w':=by
 obtain⟨W,hW⟩:∃W,W=w.alloc (Obj.cells (R.cC cl dd gg).toArray 45):=⟨_,rfl⟩
 have HB:Hid (Below w.heap.size w W):=by rw [hW];exact below1 _ _
 have HX:Hid (R.Bx W w.heap.size (R.cC cl dd gg)):=by rw [hW];exact R.Bx.new w _ _
 have HW:=hid hW
 have x2:=HX.out.cell 2 rfl
 have x3:=HX.out.cell 3 rfl
 have x4:=HX.out.cell 4 rfl
 have x5:=HX.out.cell 5 rfl
 have x6:=HX.out.cell 6 rfl
 have x7:=HX.out.cell 7 rfl
 have x8:=HX.out.cell 8 rfl
 have x9:=HX.out.cell 9 rfl
 have x10:=HX.out.cell 10 rfl
 have x11:=HX.out.cell 11 rfl
 have x12:=HX.out.cell 12 rfl
 have hdv:dd.v=.slice dd.a cl.data.length dd.c:=by unfold R.Sl.v;rw [hd]
 have hgv:gg.v=.slice gg.a cl.gifts.length gg.c:=by unfold R.Sl.v;rw [hg]
 rw [hdv] at x10
 rw [hgv] at x12
 obtain⟨e,he⟩:∃e,e=decide (cpO cl=(0,0,0)):=⟨_,rfl⟩
 have heq:∀U:World,(binOp .eql 38 (.agg #[.int .i64 cl.obj,.int .u64 (cl.hi:Int),.int .u64 (cl.lo:Int)]) (.agg #[.int .i64 0,.int .u64 0,.int .u64 0])).run Tryz.prog U=.ok (.bool e) U:=fun U=>by rw [he];exact K.eqlCp (cpO cl) (0,0,0) U
 have W115:wiB ⟨#[102]⟩ 115=false:=by decide
 have W99:wiB ⟨#[102]⟩ 99=false:=by decide
 have W103:wiB ⟨#[102]⟩ 103=false:=by decide
 have W114:wiB ⟨#[102]⟩ 114=false:=by decide
 have W111:wiB ⟨#[102]⟩ 111=false:=by decide
 have W110:wiB ⟨#[102]⟩ 110=false:=by decide
 have W100:wiB ⟨#[102]⟩ 100=false:=by decide
 have W105:wiB ⟨#[102]⟩ 105=false:=by decide
 have W102:wiB ⟨#[102]⟩ 102=true:=by decide
 clear hd hg hW hdv hgv
 by_cases h_s:cl.size=0
 rotate_left
 ·have b_s:(cl.size==0)=false:=by rw [beq_eq_false_iff_ne];omega
  have E:Hid (zrB ⟨#[102]⟩ cl=false):=by unfold Hid zrB;simp [W115,W99,W103,W114,W111,W110,W100,W105,W102,h_s]
  clear h_s he
  go_enter Tryz.func38,Tryz.ntmps38
  go_upto_region 1 with fail
  have hW:=HW.out
  rw [←hW]
  clear hW HW
  simp only [List.append]
  go_wp2_with (first|(go_at_call 63;refine (rwith_any _ (by decide) _ _).mono ?_;rintro e9 w9 ⟨rfl,hw9⟩;obtain rfl:=hw9.symm;clear hw9;simp only [W115,W99,W103,W114,W111,W110,W100,W105,W102]))
  go_ret
  exact⟨by rw [E.out];exact ret_bool rfl,HB.out⟩
 have b_s:(cl.size==0)=true:=by simp [h_s]
 by_cases h_c:cpO cl=(0,0,0)
 rotate_left
 ·have b_c:e=false:=by rw [he];exact decide_eq_false h_c
  rw [b_c] at heq
  have E:Hid (zrB ⟨#[102]⟩ cl=false):=by unfold Hid zrB;simp [W115,W99,W103,W114,W111,W110,W100,W105,W102,h_s,h_c]
  clear h_s h_c he
  go_enter Tryz.func38,Tryz.ntmps38
  go_upto_region 1 with fail
  have hW:=HW.out
  rw [←hW]
  clear hW HW
  simp only [List.append]
  go_wp2_with (first|(go_at_call 63;refine (rwith_any _ (by decide) _ _).mono ?_;rintro e9 w9 ⟨rfl,hw9⟩;obtain rfl:=hw9.symm;clear hw9;simp only [W115,W99,W103,W114,W111,W110,W100,W105,W102]))
  go_ret
  exact⟨by rw [E.out];exact ret_bool rfl,HB.out⟩
 have b_c:e=true:=by rw [he];exact decide_eq_true h_c
 rw [b_c] at heq
 by_cases h_g:cl.given=false
 rotate_left
 ·have k_g:cl.given=true:=by simpa using h_g
  rw [k_g] at x6
  have E:Hid (zrB ⟨#[102]⟩ cl=false):=by unfold Hid zrB;simp [W115,W99,W103,W114,W111,W110,W100,W105,W102,h_s,h_c,k_g]
  clear h_s h_c k_g he
  go_enter Tryz.func38,Tryz.ntmps38
  go_upto_region 1 with fail
  have hW:=HW.out
  rw [←hW]
  clear hW HW
  simp only [List.append]
  go_wp2_with (first|(go_at_call 63;refine (rwith_any _ (by decide) _ _).mono ?_;rintro e9 w9 ⟨rfl,hw9⟩;obtain rfl:=hw9.symm;clear hw9;simp only [W115,W99,W103,W114,W111,W110,W100,W105,W102]))
  go_ret
  exact⟨by rw [E.out];exact ret_bool rfl,HB.out⟩
 rw [h_g] at x6
 by_cases h_r:cl.rights=0
 rotate_left
 ·have b_r:(cl.rights==0)=false:=by rw [beq_eq_false_iff_ne];omega
  have E:Hid (zrB ⟨#[102]⟩ cl=false):=by unfold Hid zrB;simp [W115,W99,W103,W114,W111,W110,W100,W105,W102,h_s,h_c,h_g,h_r]
  clear h_s h_c h_g h_r he
  go_enter Tryz.func38,Tryz.ntmps38
  go_upto_region 1 with fail
  have hW:=HW.out
  rw [←hW]
  clear hW HW
  simp only [List.append]
  go_wp2_with (first|(go_at_call 63;refine (rwith_any _ (by decide) _ _).mono ?_;rintro e9 w9 ⟨rfl,hw9⟩;obtain rfl:=hw9.symm;clear hw9;simp only [W115,W99,W103,W114,W111,W110,W100,W105,W102]))
  go_ret
  exact⟨by rw [E.out];exact ret_bool rfl,HB.out⟩
 have b_r:(cl.rights==0)=true:=by simp [h_r]
 by_cases h_o:cl.off=0
 rotate_left
 ·have b_o:(cl.off==0)=false:=by rw [beq_eq_false_iff_ne];omega
  have E:Hid (zrB ⟨#[102]⟩ cl=false):=by unfold Hid zrB;simp [W115,W99,W103,W114,W111,W110,W100,W105,W102,h_s,h_c,h_g,h_r,h_o]
  clear h_s h_c h_g h_r h_o he
  go_enter Tryz.func38,Tryz.ntmps38
  go_upto_region 1 with fail
  have hW:=HW.out
  rw [←hW]
  clear hW HW
  simp only [List.append]
  go_wp2_with (first|(go_at_call 63;refine (rwith_any _ (by decide) _ _).mono ?_;rintro e9 w9 ⟨rfl,hw9⟩;obtain rfl:=hw9.symm;clear hw9;simp only [W115,W99,W103,W114,W111,W110,W100,W105,W102]))
  go_ret
  exact⟨by rw [E.out];exact ret_bool rfl,HB.out⟩
 have b_o:(cl.off==0)=true:=by simp [h_o]
 by_cases h_n:cl.n=0
 rotate_left
 ·have b_n:(cl.n==0)=false:=by rw [beq_eq_false_iff_ne];omega
  have E:Hid (zrB ⟨#[102]⟩ cl=false):=by unfold Hid zrB;simp [W115,W99,W103,W114,W111,W110,W100,W105,W102,h_s,h_c,h_g,h_r,h_o,h_n]
  clear h_s h_c h_g h_r h_o h_n he
  go_enter Tryz.func38,Tryz.ntmps38
  go_upto_region 1 with fail
  have hW:=HW.out
  rw [←hW]
  clear hW HW
  simp only [List.append]
  go_wp2_with (first|(go_at_call 63;refine (rwith_any _ (by decide) _ _).mono ?_;rintro e9 w9 ⟨rfl,hw9⟩;obtain rfl:=hw9.symm;clear hw9;simp only [W115,W99,W103,W114,W111,W110,W100,W105,W102]))
  go_ret
  exact⟨by rw [E.out];exact ret_bool rfl,HB.out⟩
 have b_n:(cl.n==0)=true:=by simp [h_n]
 by_cases h_d:cl.data.length=0
 rotate_left
 ·have b_d:((cl.data.length:Int)==0)=false:=by rw [beq_eq_false_iff_ne];omega
  have E:Hid (zrB ⟨#[102]⟩ cl=false):=by unfold Hid zrB;simp [W115,W99,W103,W114,W111,W110,W100,W105,W102,h_s,h_c,h_g,h_r,h_o,h_n,h_d]
  clear h_s h_c h_g h_r h_o h_n h_d he
  go_enter Tryz.func38,Tryz.ntmps38
  go_upto_region 1 with fail
  have hW:=HW.out
  rw [←hW]
  clear hW HW
  simp only [List.append]
  go_wp2_with (first|(go_at_call 63;refine (rwith_any _ (by decide) _ _).mono ?_;rintro e9 w9 ⟨rfl,hw9⟩;obtain rfl:=hw9.symm;clear hw9;simp only [W115,W99,W103,W114,W111,W110,W100,W105,W102]))
  go_ret
  exact⟨by rw [E.out];exact ret_bool rfl,HB.out⟩
 have b_d:((cl.data.length:Int)==0)=true:=by simp [h_d]
 by_cases h_i:cl.index=0
 rotate_left
 ·have b_i:(cl.index==0)=false:=by rw [beq_eq_false_iff_ne];omega
  have E:Hid (zrB ⟨#[102]⟩ cl=false):=by unfold Hid zrB;simp [W115,W99,W103,W114,W111,W110,W100,W105,W102,h_s,h_c,h_g,h_r,h_o,h_n,h_d,h_i]
  clear h_s h_c h_g h_r h_o h_n h_d h_i he
  go_enter Tryz.func38,Tryz.ntmps38
  go_upto_region 1 with fail
  have hW:=HW.out
  rw [←hW]
  clear hW HW
  simp only [List.append]
  go_wp2_with (first|(go_at_call 63;refine (rwith_any _ (by decide) _ _).mono ?_;rintro e9 w9 ⟨rfl,hw9⟩;obtain rfl:=hw9.symm;clear hw9;simp only [W115,W99,W103,W114,W111,W110,W100,W105,W102]))
  go_ret
  exact⟨by rw [E.out];exact ret_bool rfl,HB.out⟩
 have b_i:(cl.index==0)=true:=by simp [h_i]
 have E:Hid (zrB ⟨#[102]⟩ cl=true):=by unfold Hid zrB;simp [W115,W99,W103,W114,W111,W110,W100,W105,W102,h_s,h_c,h_g,h_r,h_o,h_n,h_d,h_i]
 clear h_s h_c h_g h_r h_o h_n h_d h_i he
 go_enter Tryz.func38,Tryz.ntmps38
 go_upto_region 1 with fail
 have hW:=HW.out
 rw [←hW]
 clear hW HW
 simp only [List.append]
 go_wp2_with (first|(go_at_call 63;refine (rwith_any _ (by decide) _ _).mono ?_;rintro e9 w9 ⟨rfl,hw9⟩;obtain rfl:=hw9.symm;clear hw9;simp only [W115,W99,W103,W114,W111,W110,W100,W105,W102]))
 go_ret
 exact⟨by rw [E.out];exact ret_bool rfl,HB.out⟩
end
end Go.Proofs.YtffmodpgddecnaaGreat.V
