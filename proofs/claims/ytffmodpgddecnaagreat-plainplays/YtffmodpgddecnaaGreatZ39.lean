import Derived.Test.YtffmodpgddecnaaGreatZ38
set_option linter.unusedVariables false
set_option linter.unusedSimpArgs false
namespace Go.Proofs.YtffmodpgddecnaaGreat.V.E
open Go.RowKit Go.Maps
open Go.Proofs.YtffmodpgddecnaaGreat.H (B64 Cp)
def exF (j:Nat):Nat:=[261,7].getD j 0
def exC:Cf:=⟨8,2,3,4,3,2,2,1,1,0⟩
def exP:Pm:=exC.pm 2 (fun j=>D.cutN (exF j) exC.W)
def ex1:R.Cl:=⟨1,0,65,0,0,0,false,0,0,0,[],0,[]⟩
theorem exF_small (i:Nat):exF i<B64*B64:=by
 unfold exF
 match i with
 | 0=>decide
 | 1=>decide
 | n+2=>simp;decide
theorem hm_p {h:Hm}{c:Cf}{n:Nat}{f:Nat→Nat}(h1:h.cf=c)(h2:h.n=n)(h3:h.f=f):h.p=c.pm n (fun j=>D.cutN (f j) c.W):=by unfold Hm.p;rw [h1,h2,h3]
theorem lies_lit (w:World)(M:List Value)(e:TypeId)(j:Nat)(u:Value)(h:M[j]?=some u):(w.alloc (Obj.cells M.toArray e)).cell? ⟨w.heap.size,j,none⟩=some u:=(R.Bx.new w M e).cell j h
set_option maxRecDepth 100000
theorem ex_may:exC.may=true:=by kernel_rfl
theorem ex_r:(pDo exP pl0 ex1).1=⟨0,(1,0,5),[],0⟩:=by kernel_rfl
theorem ex_s:(psP (pDo exP pl0 ex1).2).O.length=1∧(psP (pDo exP pl0 ex1).2).T=[((1,0,5),31,-1)]:=⟨by kernel_rfl,by kernel_rfl⟩
section
variable {w w':World}
set_option maxRecDepth 100000 in
set_option maxHeartbeats 8000000 in
theorem pexample_any:Calls Tryz.prog 4 #[] w fun e w'=>e=.returned (.bool true)∧Below w.heap.size w w':=by
 obtain⟨W1,hW1⟩:∃W1,W1=w.alloc (Obj.cells #[.int .i64 8,.int .i64 2,.int .i64 3,.int .i64 4,.int .i64 3,.int .i64 2,.int .i64 2,.int .i64 1,.int .i64 1,.int .i64 0] 23):=⟨_,rfl⟩
 obtain⟨W2,hW2⟩:∃W2,W2=W1.alloc (Obj.cells #[.int .u64 0,.int .u64 261,.int .u64 0,.int .u64 7] 36):=⟨_,rfl⟩
 have hB1:Below w.heap.size w W1:=by rw [hW1];exact below1 _ _
 have hB2:Below W1.heap.size W1 W2:=by rw [hW2];exact below1 _ _
 have hX:R.Bx W1 w.heap.size exC.L:=by rw [hW1];exact R.Bx.new w exC.L 23
 have HLd:=hid (ldF hX)
 have hws:D.Ws W2 (some ⟨W1.heap.size,0,none⟩) 2 2 exF:=by
  refine⟨Nat.le_refl _,fun h=>(by cases h),fun x hx j u hu=>?_,exF_small⟩
  cases hx
  rw [addr_add0,hW2]
  have e:D.wvs exF 2=[.int .u64 0,.int .u64 261,.int .u64 0,.int .u64 7]:=by kernel_rfl
  rw [e] at hu
  exact lies_lit W1 [.int .u64 0,.int .u64 261,.int .u64 0,.int .u64 7] 36 j u hu
 have HNew:=hid (pnew_ok exC (by kernel_rfl) (some ⟨W1.heap.size,0,none⟩) 2 2 exF W2 hws (by omega))
 have HB2:Hid (Below w.heap.size w W2):=below_call hB1 hB2
 have HW1:=hid hW1
 have HW2:=hid hW2
 clear hB1 hB2 hX hws hW1 hW2
 go_enter Tryz.func4,Tryz.ntmps4
 go_upto_region 2 with fail
 rw [←HW1.out]
 go_upto_region 5 with (first|((with_reducible refine R.ld_arm HLd.out ?_ ?_);(· rfl))|(go_at_call 5;rw [←HW2.out];refine HNew.out.mono ?_;rintro e w3 ⟨h,N,rfl,hmd,hcf,hhn,hhf,hNn,hgs,hb⟩;have HMd:=hid hmd;have HP:Hid (h.p=exP∧h.cf=exC):=⟨hm_p hcf hhn hhf,hcf⟩;have HNn:=hid hNn;have HGs:=hid hgs;have HB3:=hid hb;clear hmd hcf hhn hhf hNn hgs hb))
 have hfit:Fit h.p pl0:=by rw [HP.out.1];exact fit_new (by kernel_rfl) (by omega) exF_small
 have HFit:=hid hfit
 have his:R.Is w3 ex1 ⟨none,0,0⟩ ⟨none,0,0⟩:=⟨⟨rfl,Nat.le_refl _,fun _=>⟨rfl,rfl⟩,fun _ h=>(by cases h),fun _ h=>(by cases h)⟩,R.RI.nil _,by decide,by decide⟩
 have hmay:h.cf.may=true:=by rw [HP.out.2];exact ex_may
 have HDo:Hid (Calls Tryz.prog 11 #[.pointer (some ⟨h.g,0,none⟩),.agg #[.int .i64 1,.int .i64 0,.int .i64 65,.int .i64 0,.int .u64 0,.int .u64 0,.bool false,.int .i64 0,.int .i64 0,.int .i64 0,.slice none 0 0,.int .i64 0,.slice none 0 0]] w3 (DoP w3 h N (pDo h.p pl0 ex1))):=do_any (c:=ex1) (dd:=⟨none,0,0⟩) (gg:=⟨none,0,0⟩) HMd.out hfit hmay his
 have HFit2:=hid (fit_is hfit his)
 have HTre:=hid (tre_do (p:=h.p) tre_new hfit.ro ex1)
 clear hfit his hmay
 go_upto_region 6 with (first|(go_at_call 11;refine HDo.out.mono ?_;rintro e w4 ⟨a4,n4,c4,bo,bl,N4,he,ho,⟨Es,Ls,hm⟩,hg,hn,ha⟩;have hr:=ex_r;rw [←HP.out.1] at hr;rw [hr] at he;subst he;have HMd4:=hid hm;have HG4:=hid hg;have HN4:=hid hn;clear ho hm hg hn ha hr))
 obtain⟨w5,hw5⟩:∃w5,w5=w4.alloc (Obj.cells #[.int .i64 0,.int .i64 1,.int .u64 0,.int .u64 5,.slice a4 n4 c4,.int .i64 0] 41):=⟨_,rfl⟩
 have HB5:Hid (Below w4.heap.size w4 w5):=by rw [hw5];exact below1 _ _
 have HX1:Hid (R.Bx w5 w4.heap.size [.int .i64 0,.int .i64 1,.int .u64 0,.int .u64 5,.slice a4 n4 c4,.int .i64 0]):=by rw [hw5];exact R.Bx.new w4 [.int .i64 0,.int .i64 1,.int .u64 0,.int .u64 5,.slice a4 n4 c4,.int .i64 0] 41
 rw [←hw5]
 clear hw5 HDo
 have HSt:Hid (Calls Tryz.prog 13 #[.pointer (some ⟨h.g,0,none⟩)] w5 fun e w'=>∃q1 e1 g2 e2 q3 m3 e3 x y z,e=.returned (stV q1 1 e1 (some ⟨g2,0,none⟩) 1 e2 q3 m3 e3 x y z)∧w'.cell? ⟨g2,3,none⟩=some (.int .i64 31)∧Below w5.heap.size w5 w'):=by
  refine (state_any (HMd4.out.later HB5.out) HFit2.out HTre.out).mono ?_
  rintro e w' ⟨q1,e1,Q1,q2,e2,q3,e3,Q3,rfl,hT,hb⟩
  have hs:=ex_s
  rw [←HP.out.1] at hs
  have ht:=hT.ts
  rw [hs.2] at ht
  rw [hs.1,hs.2]
  obtain⟨g2,rfl,hc⟩:=Ow.at_ ht (by decide)
  exact⟨q1,e1,g2,e2,q3,_,e3,_,_,_,rfl,hc 3 _ rfl,hb⟩
 go_upto_region 7 with (first|(go_at_call 13;refine HSt.out.mono ?_;rintro e w13 ⟨q1,e1,g2,e2,q3,m3,e3,x,y,z,rfl,hc2,hb⟩;have HC2:=hid hc2;have HB13:=hid hb;clear hb hc2))
 obtain⟨w14,hw14⟩:∃w14,w14=w13.alloc (Obj.cells #[.slice q1 1 e1,.slice (some ⟨g2,0,none⟩) 1 e2,.slice q3 m3 e3,.int .i64 x,.int .i64 y,.int .i64 z] 53):=⟨_,rfl⟩
 have hX5:R.Bx w14 w13.heap.size [.slice q1 1 e1,.slice (some ⟨g2,0,none⟩) 1 e2,.slice q3 m3 e3,.int .i64 x,.int .i64 y,.int .i64 z]:=by rw [hw14];exact R.Bx.new w13 [.slice q1 1 e1,.slice (some ⟨g2,0,none⟩) 1 e2,.slice q3 m3 e3,.int .i64 x,.int .i64 y,.int .i64 z] 53
 have HB14:Hid (Below w13.heap.size w13 w14):=by rw [hw14];exact below1 _ _
 rw [←hw14]
 have hX1:=R.Bx.later (below_call HB13.out HB14.out) HX1.out
 have p10:=hX1.cell 0 rfl
 have p11:=hX1.cell 1 rfl
 have p12:=hX1.cell 2 rfl
 have p13:=hX1.cell 3 rfl
 have p50:=hX5.cell 0 rfl
 have p51:=hX5.cell 1 rfl
 have pt:=cell_later HB14.out HC2.out
 have HBA:Hid (Below w.heap.size w w14):=by
  have h3:Below w.heap.size w w3:=below_call HB2.out HB3.out
  have h4:Below w.heap.size w w4:=But.below h3 HG4.out (fun j e=>by have:=HGs.out;have:=HB2.out.size;omega)
  exact below_call h4 (below_call HB5.out (below_call HB13.out HB14.out))
 clear hw14 hX5 hX1
 go_wp2
 go_ret
 exact⟨ret_bool (by simp),HBA.out⟩
end
end Go.Proofs.YtffmodpgddecnaaGreat.V.E
namespace Go.Proofs.YtffmodpgddecnaaGreat.V.E
open Go.RowKit Go.Maps
open Go.Proofs.YtffmodpgddecnaaGreat.H (B64 Cp)
section
variable {w w' U:World}
theorem words_big {a:Option Addr}{n cap:Nat}{f:Nat→Nat}(h:D.Ws w a n cap f)(hn:n*16≤140737488355328) :
  ∃a' c' w3,(Builtin.append_ #[24,24] 24 #[.slice (some ⟨w.heap.size,0,none⟩) 0 0,.slice a n cap]).run Tryz.prog (w.alloc (Obj.cells #[] 36))=.ok (.slice a' n c') w3∧D.Ws w3 a' n c' f∧(∀j,Blk a' j→w.heap.size≤j∧j<w3.heap.size)∧Below w.heap.size w w3:=by
 have hB:=below1 w (Obj.cells #[] 36)
 have hO:=ow_empty w 36 2
 obtain⟨a',c',w3,hrun,hO3,hG⟩:=append_k 24 36 _ 2 16 Tryz.underlying24 info31 rfl (by omega) (by omega) hO (Ws.cr (h.later hB)) hB.size (by rw [Nat.zero_add];exact hn)
 rw [Nat.zero_add] at hrun hO3
 rw [List.nil_append] at hO3
 have hO3:Ow w3 w.heap.size 36 2 a' n c' (D.wvs f n):=hO3
 exact⟨a',c',w3,hrun,Ow.ws hO3 h.small,fun j hj=>hO3.blk j hj,But.below hB hG.but (fun k hk=>(hO.blk k hk).1)⟩
theorem ldR_at {b o:Nat}{r:Rep}{a:Option Addr}{n c:Nat}(h:w.rangeAt b o (rpL r a n c)):(Instr.loadAt 41 (.pointer (some ⟨b,o,none⟩))).run Tryz.prog w=.ok (rpV r a n c) w:=by
 have:=run_loadVar_mid (P:=Tryz.prog) w b o 41 (rpL r a n c) _ h Tryz.underlying41 rfl (by rw [info6];rfl)
 simp [Instr.loadAt,Instr.sureAddr,this,rpL]
theorem pdo_data (p:Pm)(q:Pl)(c:R.Cl):(pDo p q c).1.data.length≤1024:=by
 unfold pDo
 split
 ·exact Nat.zero_le _
 ·split
  ·exact Nat.zero_le _
  ·unfold pDeed
   split
   ·unfold pCre
    split
    ·exact Nat.zero_le _
    ·split<;>exact Nat.zero_le _
   split
   ·unfold pDes
    split<;>exact Nat.zero_le _
   split
   ·unfold pDer
    split
    ·exact Nat.zero_le _
    ·split<;>exact Nat.zero_le _
   split
   ·unfold pRev
    split
    ·exact Nat.zero_le _
    ·split
     ·exact Nat.zero_le _
     ·split<;>exact Nat.zero_le _
   split
   ·unfold pRead
    split
    ·exact Nat.zero_le _
    ·split
     ·rename_i h
      simp only [List.length_take]
      omega
     ·exact Nat.zero_le _
   split
   ·unfold pWrite
    split
    ·exact Nat.zero_le _
    ·split<;>exact Nat.zero_le _
   split
   ·unfold pAdd
    split
    ·exact Nat.zero_le _
    ·split<;>exact Nat.zero_le _
   split
   ·unfold pRem
    split<;>exact Nat.zero_le _
   split
   ·unfold pSpa
    split
    ·exact Nat.zero_le _
    ·split<;>exact Nat.zero_le _
   ·exact Nat.zero_le _
end
end Go.Proofs.YtffmodpgddecnaaGreat.V.E
namespace Go.Proofs.YtffmodpgddecnaaGreat.V
open Go.RowKit
open Go.Proofs.YtffmodpgddecnaaGreat.H (B64 Cp)
section
variable {w w':World}
theorem inQ_any (n a b:Int)(w:World):Calls Tryz.prog 16 #[.int .i64 n,.int .i64 a,.int .i64 b] w fun e w'=>e=.returned (.bool (inW n a b))∧w'=w:=by
 by_cases h:a≤n
 ·have hd:decide (a≤n)=true:=decide_eq_true h
  have hd2:decide (n≥a)=true:=decide_eq_true h
  obtain⟨q,hq⟩:∃q,q=decide (n≤b):=⟨_,rfl⟩
  have e:inW n a b=q:=by unfold inW;rw [hd,hq];simp
  have HQ:=hid hq
  rw [e]
  clear e hq h
  go_enter Tryz.func16,Tryz.ntmps16
  go_wp2
  rw [←HQ.out]
  go_ret
  exact⟨ret_bool (by simp),rfl⟩
 ·have hd:decide (a≤n)=false:=decide_eq_false h
  have hd2:decide (n≥a)=false:=decide_eq_false h
  have e:inW n a b=false:=by unfold inW;rw [hd];rfl
  rw [e]
  clear e h
  go_enter Tryz.func16,Tryz.ntmps16
  go_wp2
  go_ret
  exact⟨ret_bool (by simp),rfl⟩
set_option maxRecDepth 100000 in
set_option maxHeartbeats 4000000 in
theorem rmay_any (c:Cf)(w:World):Calls Tryz.prog 6 #[c.v] w fun e w'=>e=.returned (.bool c.may)∧Below w.heap.size w w':=by
 obtain⟨W,o,p,m,q,r,l,s,y,k⟩:=c
 unfold Cf.v Cf.L
 cases F0:inW W 1 128 with
 | false =>
  have E:Hid (Cf.may ⟨W,o,p,m,q,r,l,s,y,k⟩=false):=by unfold Hid Cf.may;simp only [F0,Bool.true_and,Bool.false_and,Bool.and_false,Bool.and_true]
  go_enter Tryz.func6,Tryz.ntmps6
  go_wp2_with (first|(go_at_call 16;refine (inQ_any _ _ _ _).mono ?_;rintro e w1 ⟨rfl,rfl⟩;simp only [F0]))
  go_ret
  exact⟨ret_bool E.out.symm,below1 _ _⟩
 | true =>
  cases F1:inW o 1 64 with
  | false =>
   have E:Hid (Cf.may ⟨W,o,p,m,q,r,l,s,y,k⟩=false):=by unfold Hid Cf.may;simp only [F0,F1,Bool.true_and,Bool.false_and,Bool.and_false,Bool.and_true]
   go_enter Tryz.func6,Tryz.ntmps6
   go_wp2_with (first|(go_at_call 16;refine (inQ_any _ _ _ _).mono ?_;rintro e w1 ⟨rfl,rfl⟩;simp only [F0,F1]))
   go_ret
   exact⟨ret_bool E.out.symm,below1 _ _⟩
  | true =>
   cases F2:inW p 1 256 with
   | false =>
    have E:Hid (Cf.may ⟨W,o,p,m,q,r,l,s,y,k⟩=false):=by unfold Hid Cf.may;simp only [F0,F1,F2,Bool.true_and,Bool.false_and,Bool.and_false,Bool.and_true]
    go_enter Tryz.func6,Tryz.ntmps6
    go_wp2_with (first|(go_at_call 16;refine (inQ_any _ _ _ _).mono ?_;rintro e w1 ⟨rfl,rfl⟩;simp only [F0,F1,F2]))
    go_ret
    exact⟨ret_bool E.out.symm,below1 _ _⟩
   | true =>
    cases F3:inW m 1 256 with
    | false =>
     have E:Hid (Cf.may ⟨W,o,p,m,q,r,l,s,y,k⟩=false):=by unfold Hid Cf.may;simp only [F0,F1,F2,F3,Bool.true_and,Bool.false_and,Bool.and_false,Bool.and_true]
     go_enter Tryz.func6,Tryz.ntmps6
     go_wp2_with (first|(go_at_call 16;refine (inQ_any _ _ _ _).mono ?_;rintro e w1 ⟨rfl,rfl⟩;simp only [F0,F1,F2,F3]))
     go_ret
     exact⟨ret_bool E.out.symm,below1 _ _⟩
    | true =>
     cases F4:inW q 1 256 with
     | false =>
      have E:Hid (Cf.may ⟨W,o,p,m,q,r,l,s,y,k⟩=false):=by unfold Hid Cf.may;simp only [F0,F1,F2,F3,F4,Bool.true_and,Bool.false_and,Bool.and_false,Bool.and_true]
      go_enter Tryz.func6,Tryz.ntmps6
      go_wp2_with (first|(go_at_call 16;refine (inQ_any _ _ _ _).mono ?_;rintro e w1 ⟨rfl,rfl⟩;simp only [F0,F1,F2,F3,F4]))
      go_ret
      exact⟨ret_bool E.out.symm,below1 _ _⟩
     | true =>
      cases F5:inW r 1 32 with
      | false =>
       have E:Hid (Cf.may ⟨W,o,p,m,q,r,l,s,y,k⟩=false):=by unfold Hid Cf.may;simp only [F0,F1,F2,F3,F4,F5,Bool.true_and,Bool.false_and,Bool.and_false,Bool.and_true]
       go_enter Tryz.func6,Tryz.ntmps6
       go_wp2_with (first|(go_at_call 16;refine (inQ_any _ _ _ _).mono ?_;rintro e w1 ⟨rfl,rfl⟩;simp only [F0,F1,F2,F3,F4,F5]))
       go_ret
       exact⟨ret_bool E.out.symm,below1 _ _⟩
      | true =>
       cases F6:inW l 1 32 with
       | false =>
        have E:Hid (Cf.may ⟨W,o,p,m,q,r,l,s,y,k⟩=false):=by unfold Hid Cf.may;simp only [F0,F1,F2,F3,F4,F5,F6,Bool.true_and,Bool.false_and,Bool.and_false,Bool.and_true]
        go_enter Tryz.func6,Tryz.ntmps6
        go_wp2_with (first|(go_at_call 16;refine (inQ_any _ _ _ _).mono ?_;rintro e w1 ⟨rfl,rfl⟩;simp only [F0,F1,F2,F3,F4,F5,F6]))
        go_ret
        exact⟨ret_bool E.out.symm,below1 _ _⟩
       | true =>
        cases F7:inW s 0 16 with
        | false =>
         have E:Hid (Cf.may ⟨W,o,p,m,q,r,l,s,y,k⟩=false):=by unfold Hid Cf.may;simp only [F0,F1,F2,F3,F4,F5,F6,F7,Bool.true_and,Bool.false_and,Bool.and_false,Bool.and_true]
         go_enter Tryz.func6,Tryz.ntmps6
         go_wp2_with (first|(go_at_call 16;refine (inQ_any _ _ _ _).mono ?_;rintro e w1 ⟨rfl,rfl⟩;simp only [F0,F1,F2,F3,F4,F5,F6,F7]))
         go_ret
         exact⟨ret_bool E.out.symm,below1 _ _⟩
        | true =>
         cases F8:inW y 1 4 with
         | false =>
          have E:Hid (Cf.may ⟨W,o,p,m,q,r,l,s,y,k⟩=false):=by unfold Hid Cf.may;simp only [F0,F1,F2,F3,F4,F5,F6,F7,F8,Bool.true_and,Bool.false_and,Bool.and_false,Bool.and_true]
          go_enter Tryz.func6,Tryz.ntmps6
          go_wp2_with (first|(go_at_call 16;refine (inQ_any _ _ _ _).mono ?_;rintro e w1 ⟨rfl,rfl⟩;simp only [F0,F1,F2,F3,F4,F5,F6,F7,F8]))
          go_ret
          exact⟨ret_bool E.out.symm,below1 _ _⟩
         | true =>
          cases F9:inW k 0 64 with
          | false =>
           have E:Hid (Cf.may ⟨W,o,p,m,q,r,l,s,y,k⟩=false):=by unfold Hid Cf.may;simp only [F0,F1,F2,F3,F4,F5,F6,F7,F8,F9,Bool.true_and,Bool.false_and,Bool.and_false,Bool.and_true]
           go_enter Tryz.func6,Tryz.ntmps6
           go_wp2_with (first|(go_at_call 16;refine (inQ_any _ _ _ _).mono ?_;rintro e w1 ⟨rfl,rfl⟩;simp only [F0,F1,F2,F3,F4,F5,F6,F7,F8,F9]))
           go_ret
           exact⟨ret_bool E.out.symm,below1 _ _⟩
          | true =>
           have E:Hid (Cf.may ⟨W,o,p,m,q,r,l,s,y,k⟩=true):=by unfold Hid Cf.may;simp only [F0,F1,F2,F3,F4,F5,F6,F7,F8,F9,Bool.true_and,Bool.false_and,Bool.and_false,Bool.and_true]
           go_enter Tryz.func6,Tryz.ntmps6
           go_wp2_with (first|(go_at_call 16;refine (inQ_any _ _ _ _).mono ?_;rintro e w1 ⟨rfl,rfl⟩;simp only [F0,F1,F2,F3,F4,F5,F6,F7,F8,F9]))
           go_ret
           exact⟨ret_bool E.out.symm,below1 _ _⟩
end
end Go.Proofs.YtffmodpgddecnaaGreat.V
namespace Go.Proofs.YtffmodpgddecnaaGreat.V.E
open Go.RowKit Go.Maps
open Go.Proofs.YtffmodpgddecnaaGreat.H (B64 Cp)
open Go.Proofs.YtffmodpgddecnaaGreat.M (okI atC pickE pickL)
section
variable {w:World}
set_option maxRecDepth 100000 in
set_option maxHeartbeats 4000000 in
theorem plays_bad (c:Cf)(hc:c.may=false){a:Option Addr}{n dcap:Nat}{f:Nat→Nat}(hw:D.Ws w a n dcap f)(hnd:n*16≤140737488355328){al:Option Addr}{nl cap:Nat}{C:List R.Cl}{D' G':Nat→R.Sl}(hC:Cz w al nl C D' G')(hnl:nl*136≤140737488355328) :
  Calls Tryz.prog 3 #[c.v,.slice a n dcap,.slice al nl cap] w fun e w'=>e=.returned (.bool true)∧Below w.heap.size w w':=by
 obtain⟨W,hW⟩:∃W,W=w.alloc (Obj.cells c.L.toArray 23):=⟨_,rfl⟩
 have hB:Below w.heap.size w W:=by rw [hW];exact below1 _ _
 have hX:R.Bx W w.heap.size c.L:=by rw [hW];exact R.Bx.new w c.L 23
 have HX:=hid hX
 have HB:=hid hB
 have HW:=hid hW
 have HWs:=hid (hw.later hB)
 have HCz:=hid (hC.later hB)
 have HLen:=hid hC.len
 have hnl2:nl≤140737488355328:=Nat.le_trans (Nat.le_mul_of_pos_right _ (by omega)) hnl
 have HNl:=hid hnl
 have HNd:=hid hnd
 clear hX hB hW hw hC hnl hnd
 go_enter Tryz.func3,Tryz.ntmps3
 go_upto_region 1 with fail
 rw [←HW.out]
 go_upto_region 3 with (first|(go_at_call 4;refine (pexample_any (w:=W)).mono ?_;rintro e w1 ⟨rfl,hb⟩;have HB1:=hid hb;clear hb))
 have HSx:Hid (∀U,Below w1.heap.size w1 U→R.Bx U w.heap.size c.L):=fun U hU=>R.Bx.later hU (R.Bx.later HB1.out HX.out)
 obtain⟨a1,c1,p1,hrun,hws,-,hb⟩:=words_big (w:=w1.drew) ((HWs.out.later HB1.out).later (Below.refl _ _).drew) HNd.out
 have HRUN1:=hid hrun
 have HWs1:=hid hws
 have HBp1:Hid (Below w1.heap.size w1 p1):=below_call (Below.refl _ _).drew hb
 clear hrun hws hb
 refine wp_region_held_drew (S:=(fun U:World=>R.Bx U w.heap.size c.L)) (by kernel_rfl) (HSx.out _ (Below.refl _ _).drew) (fun hHeld=>?_)
 refine nm 10 0 10 ?_
 refine tv 0 (v:=c.v) ?_ ?_
 ·(intro w hSw;(try dsimp only at hSw);exact ex_ld rfl rfl (ldF hSw))
 simp only [zz]
 refine nm 10 1 9 ?_
 refine tn 2 10 5 8 ?_
 simp only [zz]
 refine zr 1 fun K hK=>?_
 go_simp
 refine zk hK 10 7 7 (HSx.out _ ((Below.refl _ _).drew.alloc (Nat.le_refl _) _)) fun hHeld=>?_
 clear hK K
 try simp only [zz]
 refine zr 3 fun K hK=>?_
 refine wp_app (.tmp 16) (.tmp 17) 24 rfl _ _ rfl rfl _ p1 HRUN1.out ?_
 refine zk hK 10 15 6 (HSx.out _ HBp1.out) fun hHeld=>?_
 clear hK K
 try simp only [zz]
 refine zr 4 fun K hK=>?_
 go_simp
 go_wp2_with (first|(go_at_call 5;refine (pnew_bad c hc a1 n c1 p1).mono ?_;rintro e p2 ⟨rfl,hb⟩;have HBp2:=hid hb;clear hb))
 refine zk hK 10 31 5 (HSx.out _ (below_call HBp1.out HBp2.out)) fun hHeld=>?_
 clear hK K
 try simp only [zz]
 refine tn 5 10 63 4 ?_
 simp only [zz]
 refine tn 6 10 127 3 ?_
 simp only [zz]
 refine tn 7 10 255 2 ?_
 simp only [zz]
 refine tn 8 10 511 1 ?_
 simp only [zz]
 refine tn 9 10 1023 0 ?_
 simp only [zz]
 refine zn ?_ _
 go_wp2_with (first|((with_reducible refine R.ld_arm (ldF (HSx.out _ (below_call HBp1.out HBp2.out))) ?_ ?_);(· rfl))|(go_at_call 6;refine (rmay_any c p2).mono ?_;rw [hc];rintro e p3 ⟨rfl,hb⟩;have HBp3:=hid hb;clear hb))
 go_ret
 exact⟨rfl,below_call HB.out (below_call HB1.out (below_call HBp1.out (below_call HBp2.out HBp3.out)))⟩
set_option maxRecDepth 100000 in
set_option maxHeartbeats 4000000 in
theorem plays_many (c:Cf)(hc:c.may=true){a:Option Addr}{n dcap:Nat}{f:Nat→Nat}(hw:D.Ws w a n dcap f)(hnd:n*16≤140737488355328)(hn:4096<n){al:Option Addr}{nl cap:Nat}{C:List R.Cl}{D' G':Nat→R.Sl}(hC:Cz w al nl C D' G')(hnl:nl*136≤140737488355328) :
  Calls Tryz.prog 3 #[c.v,.slice a n dcap,.slice al nl cap] w fun e w'=>e=.returned (.bool true)∧Below w.heap.size w w':=by
 obtain⟨W,hW⟩:∃W,W=w.alloc (Obj.cells c.L.toArray 23):=⟨_,rfl⟩
 have hB:Below w.heap.size w W:=by rw [hW];exact below1 _ _
 have hX:R.Bx W w.heap.size c.L:=by rw [hW];exact R.Bx.new w c.L 23
 have HX:=hid hX
 have HB:=hid hB
 have HW:=hid hW
 have HWs:=hid (hw.later hB)
 have HCz:=hid (hC.later hB)
 have HLen:=hid hC.len
 have hnl2:nl≤140737488355328:=Nat.le_trans (Nat.le_mul_of_pos_right _ (by omega)) hnl
 have HNl:=hid hnl
 have HNd:=hid hnd
 have hd:decide ((n:Int)>4096)=true:=decide_eq_true (by omega)
 have hd2:decide ((4096:Int)<(n:Int))=true:=decide_eq_true (by omega)
 clear hX hB hW hw hC hnl hnd
 go_enter Tryz.func3,Tryz.ntmps3
 go_upto_region 1 with fail
 rw [←HW.out]
 go_upto_region 3 with (first|(go_at_call 4;refine (pexample_any (w:=W)).mono ?_;rintro e w1 ⟨rfl,hb⟩;have HB1:=hid hb;clear hb))
 have HSx:Hid (∀U,Below w1.heap.size w1 U→R.Bx U w.heap.size c.L):=fun U hU=>R.Bx.later hU (R.Bx.later HB1.out HX.out)
 obtain⟨a1,c1,p1,hrun,hws,-,hb⟩:=words_big (w:=w1.drew) ((HWs.out.later HB1.out).later (Below.refl _ _).drew) HNd.out
 have HRUN1:=hid hrun
 have HWs1:=hid hws
 have HBp1:Hid (Below w1.heap.size w1 p1):=below_call (Below.refl _ _).drew hb
 clear hrun hws hb
 refine wp_region_held_drew (S:=(fun U:World=>R.Bx U w.heap.size c.L)) (by kernel_rfl) (HSx.out _ (Below.refl _ _).drew) (fun hHeld=>?_)
 refine nm 10 0 10 ?_
 refine tv 0 (v:=c.v) ?_ ?_
 ·(intro w hSw;(try dsimp only at hSw);exact ex_ld rfl rfl (ldF hSw))
 simp only [zz]
 refine nm 10 1 9 ?_
 refine tn 2 10 5 8 ?_
 simp only [zz]
 refine zr 1 fun K hK=>?_
 go_simp
 refine zk hK 10 7 7 (HSx.out _ ((Below.refl _ _).drew.alloc (Nat.le_refl _) _)) fun hHeld=>?_
 clear hK K
 try simp only [zz]
 refine zr 3 fun K hK=>?_
 refine wp_app (.tmp 16) (.tmp 17) 24 rfl _ _ rfl rfl _ p1 HRUN1.out ?_
 refine zk hK 10 15 6 (HSx.out _ HBp1.out) fun hHeld=>?_
 clear hK K
 try simp only [zz]
 refine zr 4 fun K hK=>?_
 go_simp
 go_wp2_with (first|(go_at_call 5;refine (pnew_many c hc a1 n c1 p1 hn).mono ?_;rintro e p2 ⟨rfl,hb⟩;have HBp2:=hid hb;clear hb))
 refine zk hK 10 31 5 (HSx.out _ (below_call HBp1.out HBp2.out)) fun hHeld=>?_
 clear hK K
 try simp only [zz]
 refine tn 5 10 63 4 ?_
 simp only [zz]
 refine tn 6 10 127 3 ?_
 simp only [zz]
 refine tn 7 10 255 2 ?_
 simp only [zz]
 refine tn 8 10 511 1 ?_
 simp only [zz]
 refine tn 9 10 1023 0 ?_
 simp only [zz]
 refine zn ?_ _
 go_wp2_with (first|((with_reducible refine R.ld_arm (ldF (HSx.out _ (below_call HBp1.out HBp2.out))) ?_ ?_);(· rfl))|(go_at_call 6;refine (rmay_any c p2).mono ?_;rw [hc];rintro e p3 ⟨rfl,hb⟩;have HBp3:=hid hb;clear hb))
 go_ret
 exact⟨rfl,below_call HB.out (below_call HB1.out (below_call HBp1.out (below_call HBp2.out HBp3.out)))⟩
end
end Go.Proofs.YtffmodpgddecnaaGreat.V.E
