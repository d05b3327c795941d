import Derived.Test.YtmhinfbkmjdgfaaGreatDoorZ11
set_option linter.unusedVariables false
set_option linter.unusedSimpArgs false
set_option maxRecDepth 100000
set_option maxHeartbeats 4000000
namespace Go.Proofs.YtmhinfbkmjdgfaaGreatDoor.R
open Go.RowKit
theorem aK (n a b:Int)(w:World):Calls Tryz.prog 211 #[ab n,ab a,ab b] w λe w'=>e=.returned (.bool (wi n a b))/\w'=w:=by
 by_cases h1:a<=n
 ·have d1:decide (a<=n)=true:=decide_eq_true h1
  have e1:wi n a b=decide (n<=b):=by unfold wi;rw [d1,Bool.true_and]
  rw [e1];clear e1;go_enter Tryz.func211,Tryz.ntmps211
  go_wp2;go_ret;exact⟨rfl,rfl⟩
 ·have d1:decide (a<=n)=false:=decide_eq_false h1
  have e1:wi n a b=false:=by unfold wi;rw [d1,Bool.false_and]
  rw [e1];clear e1;go_enter Tryz.func211,Tryz.ntmps211
  go_wp2;go_ret;exact⟨rfl,rfl⟩
theorem b_ (n:Int)(w:World):Calls Tryz.prog 275 #[ab n] w λe w'=>e=.returned (.bool (xn n))/\w'=w:=by
 unfold xn;go_enter Tryz.func275,Tryz.ntmps275
 go_wp2_with (first|(go_at_call 211;refine (aK n (-2147483648) 2147483647 _).mono ?_;rintro e w1 ⟨rfl,rfl⟩))
 go_ret;exact⟨rfl,rfl⟩
theorem yv (G:List Int)(i:Nat)(h:i<G.length)(f:Int->Bool):(G.take (i+1)).all f=((G.take i).all f&&f G[i]):=by
 rw [List.take_succ_eq_append_getElem h,List.all_append];simp
theorem bG (a:Option Addr)(n cap:Nat)(G:List Int)(w:World)(h:RI w a n cap G):Calls Tryz.prog 276 #[.slice a n cap] w λe w'=>e=.returned (.bool (ux G))/\w'=w:=by
 have hlen:=h.len
 by_cases hl:n<=255
 ·have hd:decide ((n:Int)>255)=false:=by simp;omega
  have hd2:decide ((255:Int)<(n:Int))=false:=by simp;omega
  have E:Hid (ux G=G.all (λg=>wi g 0 65535)):=by unfold Hid ux;rw [decide_eq_true (by omega),Bool.true_and]
  have H:Hid (RI w a n cap G):=h
  have HL:Hid (G.length=n):=hlen
  clear h hlen;go_enter Tryz.func276,Tryz.ntmps276
  go_wp2;go_loop [10] (λt=>∃i:Nat,i<=n/\t=ab (i:Int)/\(G.take i).all (λg=>wi g 0 65535)=true) (λt=>n - (intOf t).toNat)
  case atStart=>exact⟨0,by omega,rfl,by simp⟩
  case round =>
   obtain⟨i,hi,rfl,ht⟩:=hrel
   have HT:Hid ((G.take i).all (λg=>wi g 0 65535)=true):=ht
   clear ht;have ei:IntKind.i64.wrap ((i:Int)+1)=(i:Int)+1:=by rw [IntKind.wrap_i64];omega
   by_cases hlt:i<n
   ·have hdi:decide ((i:Int)<(n:Int))=true:=by simp;omega
    obtain⟨b,o,rfl,hc⟩:=H.out.plain (by omega)
    have hiG:i<G.length:=by have:=HL.out;omega
    have hcell:=hc i hiG
    have HA:Hid _:=yv G i hiG (λg=>wi g 0 65535)
    have HG:Hid (G[i]∈G):=List.getElem_mem hiG
    generalize G[i]=x at hcell HA HG
    clear hc;by_cases hx:wi x 0 65535=true
    ·have Qa:Hid ((G.take (i+1)).all (λg=>wi g 0 65535)=true):=by have:=HA.out;unfold Hid;rw [this,HT.out];simpa using hx
     clear HA HG;go_wp2_with (first|(go_at_call 211;refine (aK x 0 65535 _).mono ?_;rintro e w1 ⟨rfl,rfl⟩;rw [hx]))
     exact⟨⟨i+1,by omega,by go_num,Qa.out⟩,by simp [intOf];omega⟩
    ·have hx':wi x 0 65535=false:=by simpa using hx
     have E2:Hid (ux G=false):=by
      unfold Hid;rw [E.out,List.all_eq_false];exact⟨x,HG.out,by rw [hx'];simp⟩
     clear HA HG hx;go_wp2_with (first|(go_at_call 211;refine (aK x 0 65535 _).mono ?_;rintro e w1 ⟨rfl,rfl⟩;rw [hx']))
     go_ret;exact⟨aA E2.out.symm,rfl⟩
   ·obtain rfl:i=n:=by omega
    have E2:Hid (ux G=true):=by
     have:=HT.out
     rw [List.take_of_length_le (by have:=HL.out;omega)] at this;unfold Hid;rw [E.out,this]
    go_wp2;go_ret;exact⟨aA E2.out.symm,rfl⟩
 ·have hd:decide ((n:Int)>255)=true:=by simp;omega
  have hd2:decide ((255:Int)<(n:Int))=true:=by simp;omega
  have E:Hid (ux G=false):=by unfold Hid ux;rw [decide_eq_false (by omega),Bool.false_and]
  clear h hlen;go_enter Tryz.func276,Tryz.ntmps276
  go_wp2;go_ret;exact⟨aA E.out.symm,rfl⟩
end Go.Proofs.YtmhinfbkmjdgfaaGreatDoor.R
namespace Go.Proofs.YtmhinfbkmjdgfaaGreatDoor.R
open Go.RowKit
theorem oN (c:Cl)(d g:Sl)(w:World)(h:Is w c d g):Calls Tryz.prog 212 #[cV c d g] w λe w'=>e=.returned (.bool (dQ c))/\Below w.heap.size w w':=by
 obtain⟨op,aE,size,obj,hi,lo,given,aD,off,n,data,index,aH⟩:=c
 obtain⟨da,dn,dc⟩:=d
 obtain⟨ga,gn,gc⟩:=g
 have hdl:data.length=dn:=h.data.len
 have HG:Hid (∀o,RI (w.alloc o) ga gn gc aH):=λo=>h.aH.later (ag _ _)
 have HD:Hid (decide (data.length<=1025)=decide ((dn:Int)<=1025)):=by unfold Hid;rw [hdl,Bool.eq_iff_iff];simp only [decide_eq_true_eq];omega
 clear h hdl;unfold cV;cases F1:wi aE 0 65535 with
 | false =>
  have E:Hid (dQ ⟨op,aE,size,obj,hi,lo,given,aD,off,n,data,index,aH⟩=false):=by unfold Hid dQ;simp only [HD.out,F1,Bool.true_and,Bool.false_and,Bool.and_false,Bool.and_true]
  go_enter Tryz.func212,Tryz.ntmps212
  go_wp2_with (first|(go_at_call 211;refine (aK _ _ _ _).mono ?_;rintro e w1 ⟨rfl,rfl⟩;simp only [F1])|(go_at_call 275;refine (b_ _ _).mono ?_;rintro e w1 ⟨rfl,rfl⟩;simp only [F1])|(go_at_call 276;refine (bG _ _ _ aH _ (HG.out _)).mono ?_;rintro e w1 ⟨rfl,rfl⟩))
  go_ret;exact⟨aA E.out.symm,ag _ _⟩
 | true =>
  cases F2:xn size with
  | false =>
   have E:Hid (dQ ⟨op,aE,size,obj,hi,lo,given,aD,off,n,data,index,aH⟩=false):=by unfold Hid dQ;simp only [HD.out,F1,F2,Bool.true_and,Bool.false_and,Bool.and_false,Bool.and_true]
   go_enter Tryz.func212,Tryz.ntmps212
   go_wp2_with (first|(go_at_call 211;refine (aK _ _ _ _).mono ?_;rintro e w1 ⟨rfl,rfl⟩;simp only [F1,F2])|(go_at_call 275;refine (b_ _ _).mono ?_;rintro e w1 ⟨rfl,rfl⟩;simp only [F1,F2])|(go_at_call 276;refine (bG _ _ _ aH _ (HG.out _)).mono ?_;rintro e w1 ⟨rfl,rfl⟩))
   go_ret;exact⟨aA E.out.symm,ag _ _⟩
  | true =>
   cases F3:xn off with
   | false =>
    have E:Hid (dQ ⟨op,aE,size,obj,hi,lo,given,aD,off,n,data,index,aH⟩=false):=by unfold Hid dQ;simp only [HD.out,F1,F2,F3,Bool.true_and,Bool.false_and,Bool.and_false,Bool.and_true]
    go_enter Tryz.func212,Tryz.ntmps212
    go_wp2_with (first|(go_at_call 211;refine (aK _ _ _ _).mono ?_;rintro e w1 ⟨rfl,rfl⟩;simp only [F1,F2,F3])|(go_at_call 275;refine (b_ _ _).mono ?_;rintro e w1 ⟨rfl,rfl⟩;simp only [F1,F2,F3])|(go_at_call 276;refine (bG _ _ _ aH _ (HG.out _)).mono ?_;rintro e w1 ⟨rfl,rfl⟩))
    go_ret;exact⟨aA E.out.symm,ag _ _⟩
   | true =>
    cases F4:xn n with
    | false =>
     have E:Hid (dQ ⟨op,aE,size,obj,hi,lo,given,aD,off,n,data,index,aH⟩=false):=by unfold Hid dQ;simp only [HD.out,F1,F2,F3,F4,Bool.true_and,Bool.false_and,Bool.and_false,Bool.and_true]
     go_enter Tryz.func212,Tryz.ntmps212
     go_wp2_with (first|(go_at_call 211;refine (aK _ _ _ _).mono ?_;rintro e w1 ⟨rfl,rfl⟩;simp only [F1,F2,F3,F4])|(go_at_call 275;refine (b_ _ _).mono ?_;rintro e w1 ⟨rfl,rfl⟩;simp only [F1,F2,F3,F4])|(go_at_call 276;refine (bG _ _ _ aH _ (HG.out _)).mono ?_;rintro e w1 ⟨rfl,rfl⟩))
     go_ret;exact⟨aA E.out.symm,ag _ _⟩
    | true =>
     cases F5:wi obj 0 4611686018427387904 with
     | false =>
      have E:Hid (dQ ⟨op,aE,size,obj,hi,lo,given,aD,off,n,data,index,aH⟩=false):=by unfold Hid dQ;simp only [HD.out,F1,F2,F3,F4,F5,Bool.true_and,Bool.false_and,Bool.and_false,Bool.and_true]
      go_enter Tryz.func212,Tryz.ntmps212
      go_wp2_with (first|(go_at_call 211;refine (aK _ _ _ _).mono ?_;rintro e w1 ⟨rfl,rfl⟩;simp only [F1,F2,F3,F4,F5])|(go_at_call 275;refine (b_ _ _).mono ?_;rintro e w1 ⟨rfl,rfl⟩;simp only [F1,F2,F3,F4,F5])|(go_at_call 276;refine (bG _ _ _ aH _ (HG.out _)).mono ?_;rintro e w1 ⟨rfl,rfl⟩))
      go_ret;exact⟨aA E.out.symm,ag _ _⟩
     | true =>
      cases F6:wi aD 0 255 with
      | false =>
       have E:Hid (dQ ⟨op,aE,size,obj,hi,lo,given,aD,off,n,data,index,aH⟩=false):=by unfold Hid dQ;simp only [HD.out,F1,F2,F3,F4,F5,F6,Bool.true_and,Bool.false_and,Bool.and_false,Bool.and_true]
       go_enter Tryz.func212,Tryz.ntmps212
       go_wp2_with (first|(go_at_call 211;refine (aK _ _ _ _).mono ?_;rintro e w1 ⟨rfl,rfl⟩;simp only [F1,F2,F3,F4,F5,F6])|(go_at_call 275;refine (b_ _ _).mono ?_;rintro e w1 ⟨rfl,rfl⟩;simp only [F1,F2,F3,F4,F5,F6])|(go_at_call 276;refine (bG _ _ _ aH _ (HG.out _)).mono ?_;rintro e w1 ⟨rfl,rfl⟩))
       go_ret;exact⟨aA E.out.symm,ag _ _⟩
      | true =>
       cases F7:wi index 0 65535 with
       | false =>
        have E:Hid (dQ ⟨op,aE,size,obj,hi,lo,given,aD,off,n,data,index,aH⟩=false):=by unfold Hid dQ;simp only [HD.out,F1,F2,F3,F4,F5,F6,F7,Bool.true_and,Bool.false_and,Bool.and_false,Bool.and_true]
        go_enter Tryz.func212,Tryz.ntmps212
        go_wp2_with (first|(go_at_call 211;refine (aK _ _ _ _).mono ?_;rintro e w1 ⟨rfl,rfl⟩;simp only [F1,F2,F3,F4,F5,F6,F7])|(go_at_call 275;refine (b_ _ _).mono ?_;rintro e w1 ⟨rfl,rfl⟩;simp only [F1,F2,F3,F4,F5,F6,F7])|(go_at_call 276;refine (bG _ _ _ aH _ (HG.out _)).mono ?_;rintro e w1 ⟨rfl,rfl⟩))
        go_ret;exact⟨aA E.out.symm,ag _ _⟩
       | true =>
        cases F8:decide ((dn:Int)<=1025) with
        | false =>
         have E:Hid (dQ ⟨op,aE,size,obj,hi,lo,given,aD,off,n,data,index,aH⟩=false):=by unfold Hid dQ;simp only [HD.out,F1,F2,F3,F4,F5,F6,F7,F8,Bool.true_and,Bool.false_and,Bool.and_false,Bool.and_true]
         go_enter Tryz.func212,Tryz.ntmps212
         go_wp2_with (first|(go_at_call 211;refine (aK _ _ _ _).mono ?_;rintro e w1 ⟨rfl,rfl⟩;simp only [F1,F2,F3,F4,F5,F6,F7,F8])|(go_at_call 275;refine (b_ _ _).mono ?_;rintro e w1 ⟨rfl,rfl⟩;simp only [F1,F2,F3,F4,F5,F6,F7,F8])|(go_at_call 276;refine (bG _ _ _ aH _ (HG.out _)).mono ?_;rintro e w1 ⟨rfl,rfl⟩))
         go_ret;exact⟨aA E.out.symm,ag _ _⟩
        | true =>
         have E:Hid (dQ ⟨op,aE,size,obj,hi,lo,given,aD,off,n,data,index,aH⟩=ux aH):=by unfold Hid dQ;simp only [HD.out,F1,F2,F3,F4,F5,F6,F7,F8,Bool.true_and,Bool.and_true]
         go_enter Tryz.func212,Tryz.ntmps212
         go_wp2_with (first|(go_at_call 211;refine (aK _ _ _ _).mono ?_;rintro e w1 ⟨rfl,rfl⟩;simp only [F1,F2,F3,F4,F5,F6,F7,F8])|(go_at_call 275;refine (b_ _ _).mono ?_;rintro e w1 ⟨rfl,rfl⟩;simp only [F1,F2,F3,F4,F5,F6,F7,F8])|(go_at_call 276;refine (bG _ _ _ aH _ (HG.out _)).mono ?_;rintro e w1 ⟨rfl,rfl⟩))
         go_ret;exact⟨aA E.out.symm,ag _ _⟩
end Go.Proofs.YtmhinfbkmjdgfaaGreatDoor.R
namespace Go.Proofs.YtmhinfbkmjdgfaaGreatDoor.R
open Go.RowKit
def mB (a b c d e f:Int):Bool:=decide (a=d/\b=e/\c=f)
theorem pN (a b c d e f:Int)(w:World):(binOp .eql 37 (.agg #[ab a,ai b,ai c]) (.agg #[ab d,ai e,ai f])).run Tryz.prog w=.ok (.bool (mB a b c d e f)) w:=by
 unfold mB;by_cases h1:a=d
 ·subst h1
  by_cases h2:b=e
  ·subst h2
   by_cases h3:c=f
   ·subst h3;simp [go_sem]
   ·simp [go_sem,h3]
  ·simp [go_sem,h2]
 ·simp [go_sem,h1]
def xp (b c e f:Int):Bool:=decide (b=e/\c=f)
theorem GN (b c e f:Int)(w:World):(binOp .eql 30 (.agg #[ai b,ai c]) (.agg #[ai e,ai f])).run Tryz.prog w=.ok (.bool (xp b c e f)) w:=by
 unfold xp;by_cases h2:b=e
 ·subst h2
  by_cases h3:c=f
  ·subst h3;simp [go_sem]
  ·simp [go_sem,h3]
 ·simp [go_sem,h2]
theorem pP (c:Cl)(d g:Sl)(w:World):Calls Tryz.prog 213 #[cV c d g] w λe w'=>e=.returned (.bool (Dy c))/\Below w.heap.size w w':=by
 obtain⟨op,aE,size,obj,hi,lo,given,aD,off,n,data,index,aH⟩:=c
 obtain⟨da,dn,dc⟩:=d
 obtain⟨ga,gn,gc⟩:=g
 unfold cV;have HE:Hid (xp hi lo 0 0=decide (hi=0/\lo=0)):=by unfold Hid xp;rw [Bool.eq_iff_iff];simp only [decide_eq_true_eq];omega
 have heq:=GN hi lo 0 0
 have tail:∀(h56:op=5\/op=6),Dy ⟨op,aE,size,obj,hi,lo,given,aD,off,n,data,index,aH⟩=(given||decide (hi=0/\lo=0)):=λh=>by unfold Dy;simp only;rw [if_pos h]
 have HT:Hid _:=tail
 clear tail;by_cases h5:op=5
 ·have OO:=HT.out (.inl h5)
  have O_:Hid _:=OO
  clear HT OO;have b5:(op != 5)=false:=by simp [h5]
  clear h5;cases given with
  | true =>
   go_enter Tryz.func213,Tryz.ntmps213
   go_wp2;go_ret;exact⟨aA (by rw [O_.out];rfl),ag _ _⟩
  | false =>
   go_enter Tryz.func213,Tryz.ntmps213
   go_wp2;go_ret;exact⟨aA (by rw [O_.out,HE.out];rfl),ag _ _⟩
 ·have b5:(op != 5)=true:=by simp [h5]
  by_cases h6:op=6
  ·have OO:=HT.out (.inr h6)
   have O_:Hid _:=OO
   clear HT OO;have b6:(op != 6)=false:=by simp [h6]
   clear h6 h5;cases given with
   | true =>
    go_enter Tryz.func213,Tryz.ntmps213
    go_wp2;go_ret;exact⟨aA (by rw [O_.out];rfl),ag _ _⟩
   | false =>
    go_enter Tryz.func213,Tryz.ntmps213
    go_wp2;go_ret;exact⟨aA (by rw [O_.out,HE.out];rfl),ag _ _⟩
  ·have b6:(op != 6)=true:=by simp [h6]
   have HN:Hid (Dy ⟨op,aE,size,obj,hi,lo,given,aD,off,n,data,index,aH⟩=true):=by unfold Hid Dy;simp only;rw [if_neg (by omega)]
   clear HT h5 h6;go_enter Tryz.func213,Tryz.ntmps213
   go_wp2;go_ret;exact⟨aA HN.out.symm,ag _ _⟩
theorem rz (c:Cl)(d g:Sl)(w:World)(h:Is w c d g):Calls Tryz.prog 214 #[cV c d g] w λe w'=>e=.returned (.bool (ET c))/\Below w.heap.size w w':=by
 obtain⟨op,aE,size,obj,hi,lo,given,aD,off,n,data,index,aH⟩:=c
 obtain⟨da,dn,dc⟩:=d
 obtain⟨ga,gn,gc⟩:=g
 have hdl:data.length=dn:=h.data.len
 have hgl:aH.length=gn:=h.aH.len
 have heq:=pN obj hi lo 0 0 0
 have hnot:∀(x:Bool) (w:World),(Op.unary .not (.bool x)).run Tryz.prog w=.ok (.bool (!x)) w:=λ_ _=>rfl
 have HB:Hid (ET ⟨op,aE,size,obj,hi,lo,given,aD,off,n,data,index,aH⟩=((size==0)&&mB obj hi lo 0 0 0&&!given&&(aD==0)&&(off==0)&&(n==0)&&((dn:Int)==0)&&(index==0)&&((gn:Int)==0))):=by
  unfold Hid;rw [Bool.eq_iff_iff,CO];simp only [Bool.and_eq_true,beq_iff_eq,mB,decide_eq_true_eq,Bool.not_eq_true'];constructor
  ·rintro ⟨a,b1,b2,b3,c,d,e,f,g,q,i⟩
   subst g i
   exact⟨⟨⟨⟨⟨⟨⟨⟨a,b1,by omega,by omega⟩,c⟩,d⟩,e⟩,f⟩,by simp at hdl;omega⟩,q⟩,by simp at hgl;omega⟩
  ·rintro ⟨⟨⟨⟨⟨⟨⟨⟨a,b1,b2,b3⟩,c⟩,d⟩,e⟩,f⟩,g⟩,q⟩,i⟩
   exact⟨a,b1,by omega,by omega,c,d,e,f,List.eq_nil_of_length_eq_zero (by omega),q,List.eq_nil_of_length_eq_zero (by omega)⟩
 clear h hdl hgl;unfold cV;cases F1:(size==0) with
 | false =>
  have E:Hid (_=false):=HB.out.trans (by simp only [F1,Bool.true_and,Bool.false_and,Bool.and_false,Bool.not_true,Bool.not_false,Bool.and_true])
  clear HB;go_enter Tryz.func214,Tryz.ntmps214
  go_wp2;go_ret;exact⟨aA E.out.symm,ag _ _⟩
 | true =>
  cases F2:mB obj hi lo 0 0 0 with
  | false =>
   have E:Hid (_=false):=HB.out.trans (by simp only [F1,F2,Bool.true_and,Bool.false_and,Bool.and_false,Bool.not_true,Bool.not_false,Bool.and_true])
   clear HB;go_enter Tryz.func214,Tryz.ntmps214
   go_wp2;go_ret;exact⟨aA E.out.symm,ag _ _⟩
  | true =>
   cases given with
   | true =>
    have E:Hid (_=false):=HB.out.trans (by simp only [F1,F2,Bool.true_and,Bool.false_and,Bool.and_false,Bool.not_true,Bool.not_false,Bool.and_true])
    clear HB;go_enter Tryz.func214,Tryz.ntmps214
    go_wp2;go_ret;exact⟨aA E.out.symm,ag _ _⟩
   | false =>
    cases F4:(aD==0) with
    | false =>
     have E:Hid (_=false):=HB.out.trans (by simp only [F1,F2,F4,Bool.true_and,Bool.false_and,Bool.and_false,Bool.not_true,Bool.not_false,Bool.and_true])
     clear HB;go_enter Tryz.func214,Tryz.ntmps214
     go_wp2;go_ret;exact⟨aA E.out.symm,ag _ _⟩
    | true =>
     cases F5:(off==0) with
     | false =>
      have E:Hid (_=false):=HB.out.trans (by simp only [F1,F2,F4,F5,Bool.true_and,Bool.false_and,Bool.and_false,Bool.not_true,Bool.not_false,Bool.and_true])
      clear HB;go_enter Tryz.func214,Tryz.ntmps214
      go_wp2;go_ret;exact⟨aA E.out.symm,ag _ _⟩
     | true =>
      cases F6:(n==0) with
      | false =>
       have E:Hid (_=false):=HB.out.trans (by simp only [F1,F2,F4,F5,F6,Bool.true_and,Bool.false_and,Bool.and_false,Bool.not_true,Bool.not_false,Bool.and_true])
       clear HB;go_enter Tryz.func214,Tryz.ntmps214
       go_wp2;go_ret;exact⟨aA E.out.symm,ag _ _⟩
      | true =>
       cases F7:((dn:Int)==0) with
       | false =>
        have E:Hid (_=false):=HB.out.trans (by simp only [F1,F2,F4,F5,F6,F7,Bool.true_and,Bool.false_and,Bool.and_false,Bool.not_true,Bool.not_false,Bool.and_true])
        clear HB;go_enter Tryz.func214,Tryz.ntmps214
        go_wp2;go_ret;exact⟨aA E.out.symm,ag _ _⟩
       | true =>
        cases F8:(index==0) with
        | false =>
         have E:Hid (_=false):=HB.out.trans (by simp only [F1,F2,F4,F5,F6,F7,F8,Bool.true_and,Bool.false_and,Bool.and_false,Bool.not_true,Bool.not_false,Bool.and_true])
         clear HB;go_enter Tryz.func214,Tryz.ntmps214
         go_wp2;go_ret;exact⟨aA E.out.symm,ag _ _⟩
        | true =>
         have E:Hid (_=((gn:Int)==0)):=HB.out.trans (by simp only [F1,F2,F4,F5,F6,F7,F8,Bool.true_and,Bool.not_false,Bool.and_true])
         clear HB;go_enter Tryz.func214,Tryz.ntmps214
         go_wp2;go_ret;exact⟨aA E.out.symm,ag _ _⟩
end Go.Proofs.YtmhinfbkmjdgfaaGreatDoor.R
namespace Go.Proofs.YtmhinfbkmjdgfaaGreatDoor.R
open Go.RowKit
variable {c:Cl}{L:List Nat}{rs:List R4}{cap m n:Nat}{a x:Option Addr}{w w' w1 w2:World}
structure Cc (w:World)(L:List Value)(c:Cl):Prop where
 ex:∃d g,L=cC c d g/\Is w c d g
theorem Cc.later {W:World}{L:List Value}(hb:Below W.heap.size W w1)(h:Cc W L c):Cc w1 L c:=by
 obtain⟨d,g,e,hi⟩:=h.ex
 exact⟨d,g,e,hi.later hb⟩
theorem Cc.len {L:List Value}(h:Cc w L c):L.length=13:=by
 obtain⟨d,g,rfl,hi⟩:=h.ex
 rfl
theorem Cc.one {L:List Value}(h:Cc w L c):∀v∈L,v.oneCell'=true:=by
 obtain⟨d,g,rfl,hi⟩:=h.ex
 exact yL _ _ _
theorem Cc.op {L:List Value}(h:Cc w L c):L[0]?=some (ab c.op):=by
 obtain⟨d,g,rfl,hi⟩:=h.ex
 rfl
theorem uR (p:Nat)(hp:p<10)(L:List Value)(c:Cl)(w0 w:World)(h:Cc w0 L c):Calls Tryz.prog 277 #[.agg L.toArray,ab (p:Int)] w λe w'=>∃L',e=.returned (.agg L'.toArray)/\Cc w0 L' (wo c p)/\Below w.heap.size w w':=by
 obtain⟨d,g,rfl,hi⟩:=h.ex
 refine (pH p hp c d g w).mono ?_
 rintro e w' ⟨rfl,hb⟩
 exact⟨cC (wo c p) (wd p d) (wg p g),rfl,⟨_,_,rfl,hi.wo p⟩,hb⟩
def DE (w:World)(b b2:Nat)(c:Cl)(ps:List Nat)(pa:Option Addr)(n:Nat)(t:Value)(w':World):Prop :=
 ∃(i:Nat) (L M:List Value),i<=n/\t=ab (i:Int)/\Bx w' b L/\Cc w L ((ps.take i).foldl wo c)/\Bx w' b2 M/\M.length=13/\RP w' (b2+1) pa n ps/\Below w.heap.size w w'
theorem tV (L:List Value)(c:Cl)(w:World)(h:Cc w L c):Calls Tryz.prog 215 #[.agg L.toArray] w λe w'=>∃L',e=.returned (.agg L'.toArray)/\Cc w' L' (Ia c)/\Below w.heap.size w w':=by
 obtain⟨Z,hZl,hZo,hZz,hz⟩:=E_
 have hZ0:(Z.toArray=#[])=False:=by simp;intro h;rw [h] at hZl;simp at hZl
 have H:Hid (Cc w L c):=h
 have hb1:Below w.heap.size w ((w.alloc (Obj.cells L.toArray 44)).alloc (Obj.cells Z.toArray 44)):=aB _ _ _
 have X1:Hid (Bx ((w.alloc (Obj.cells L.toArray 44)).alloc (Obj.cells Z.toArray 44)) w.heap.size L):=(Bx.new w L 44).later (ag _ _)
 have X2:Hid (Bx ((w.alloc (Obj.cells L.toArray 44)).alloc (Obj.cells Z.toArray 44)) (w.heap.size+1) Z):=by have:=Bx.new (w.alloc (Obj.cells L.toArray 44)) Z 44;simp at this;exact this
 have hc0:=X1.out.cell 0 h.op
 have OI:=ae hb1
 have HZ:=ae (And.intro hZl hZo)
 clear h hb1 hZl hZo hZz;go_enter Tryz.func215,Tryz.ntmps215
 go_upto_region 2 with (first|(go_at_call 218;refine (jT c.op _).mono ?_;rintro e w3 ⟨pa,n,cp,rfl,hrp,hn5,hb3,_⟩))
 have R0:Hid (DE w w.heap.size (w.heap.size+1) c (bT c.op) pa n (ab 0) w3):=⟨0,L,Z,by omega,rfl,X1.out.later hb3,H.out,X2.out.later hb3,HZ.out.1,by simpa using hrp,aa OI.out hb3⟩
 have HN:=ae hrp.len
 clear hc0 X1 X2 hrp hb3;go_loopw [9] (DE w w.heap.size (w.heap.size+1) c (bT c.op) pa n) (λt _=>n - (intOf t).toNat)
 case atStart=>exact R0.out
 case round =>
  clear R0;obtain⟨i,M,Y,hi,rfl,hx1,hcc,hx2,hyl,hrp,hbw⟩:=hrel
  have ei:IntKind.i64.wrap ((i:Int)+1)=(i:Int)+1:=by rw [IntKind.wrap_i64];omega
  by_cases hlt:i<n
  ·have hdi:decide ((i:Int)<(n:Int))=true:=by simp;omega
   have hiP:i<(bT c.op).length:=by have:=HN.out;omega
   obtain⟨pb,rfl,hpb,hpc⟩:=hrp.cells i hiP
   have HT:Hid _:=List.take_succ_eq_append_getElem hiP
   have hp10:Hid ((bT c.op)[i]<10):=(qy c.op).1 _ (List.getElem_mem hiP)
   generalize (bT c.op)[i]=p at hpc HT hp10
   have O4:=ae (mD hx1.range hcc.len)
   have HX:=ae hx1
   have OZ:=ae hx2
   have Vh:=ae hrp
   have O8:=ae hbw
   have HC:=ae hcc
   clear hx1 hx2 hrp hbw hcc;go_upto_region 4 with fail
   go_wp2_with (first|((with_reducible refine aJ O4.out ?_ ?_);· rfl)|(go_at_call 277;refine (uR p hp10.out M _ w _ HC.out).mono ?_;rintro e w4 ⟨M',rfl,hcc4,hb4⟩;have Qf:=ae hcc4;have Qb:=ae (HX.out.later hb4);have VX:=ae HC.out.len;have VU:=ae hcc4.len;have VR:=ae hcc4.one;have OM:=ae hb4;have hst:=DG (by rw [<-VX.out];exact Qb.out.there) VU.out VR.out;clear hcc4 hb4))
   have hsw:=O8.out.size
   have hBS:aj (·=w.heap.size) w4 (w4.setCells w.heap.size 0 M'):=au (S:=(·=w.heap.size)) rfl M' 0 (aj.refl _ _)
   have VD:=ae hBS
   clear hBS;go_roundw
   case rel =>
    refine⟨i+1,M',Y,by omega,by go_num,Qb.out.set (by rw [VU.out,VX.out]),by rw [HT.out,List.foldl_append];exact Qf.out,(OZ.out.later OM.out).but VD.out (by omega),hyl,(Vh.out.later OM.out).but VD.out (λk hk=>by omega),aj.below (aa O8.out OM.out) VD.out (λk hk=>by omega)⟩
   case measure=>simp [intOf];omega
  ·obtain rfl:i=n:=by omega
   have hcu:Cc w M (Ia c):=by
    have:=hcc
    rwa [List.take_of_length_le (by have:=HN.out;omega)] at this
   have O4:=ae (mD hx1.range hcc.len)
   have hst:=DG (by rw [<-hyl];exact hx2.there) hcc.len hcc.one
   have hxs:Bx (wr.setCells (w.heap.size+1) 0 M) (w.heap.size+1) M:=hx2.set (by rw [hyl,hcc.len])
   have Xf:=ae (Ho hxs.range hcc.len)
   have OS:Hid (Below w.heap.size w (wr.setCells (w.heap.size+1) 0 M)):=aj.below hbw (au (S:=(·=w.heap.size+1)) rfl M 0 (aj.refl _ _)) (λk hk=>by omega)
   have XL:=ae hcu
   have hml:=hcc.len
   clear hx1 hx2 hrp hbw hcc hxs hcu;go_wp2_with (first|((with_reducible refine aJ O4.out ?_ ?_);· rfl))
   refine bodyPost_ret (v:=.agg M.toArray) ?_ rfl ⟨M,rfl,XL.out.later OS.out,OS.out⟩
   have hlv:=Xf.out
   simp [results,Tryz.results215,asAddr,hlv]
theorem vc (L:List Value)(c:Cl)(w:World)(h:Cc w L c):Calls Tryz.prog 214 #[.agg L.toArray] w λe w'=>e=.returned (.bool (ET c))/\Below w.heap.size w w':=by
 obtain⟨d,g,rfl,hi⟩:=h.ex
 exact rz c d g w hi
theorem ov (L:List Value)(c:Cl)(w0 w:World)(h:Cc w0 L c):Calls Tryz.prog 213 #[.agg L.toArray] w λe w'=>e=.returned (.bool (Dy c))/\Below w.heap.size w w':=by
 obtain⟨d,g,rfl,hi⟩:=h.ex
 exact pP c d g w
theorem h_ (L:List Value)(c:Cl)(w:World)(h:Cc w L c):Calls Tryz.prog 212 #[.agg L.toArray] w λe w'=>e=.returned (.bool (dQ c))/\Below w.heap.size w w':=by
 obtain⟨d,g,rfl,hi⟩:=h.ex
 exact oN c d g w hi
theorem kU (L:List Value)(c:Cl)(w:World)(h:Cc w L c):Calls Tryz.prog 132 #[.agg L.toArray] w λe w'=>e=.returned (.bool (fm c))/\Below w.heap.size w w':=by
 have X1:Hid (Bx (w.alloc (Obj.cells L.toArray 44)) w.heap.size L):=Bx.new w L 44
 have hc0:=X1.out.cell 0 h.op
 have HL:=ae h.len
 have HC:Hid (Cc (w.alloc (Obj.cells L.toArray 44)) L c):=h.later (ag _ _)
 have Pk:=ae (mD X1.out.range h.len)
 have OX:Hid (Below w.heap.size w (w.alloc (Obj.cells L.toArray 44))):=ag _ _
 clear h;cases F1:wi c.op 1 10 with
 | false =>
  have E:Hid (fm c=false):=by unfold Hid fm;rw [F1];simp
  go_enter Tryz.func132,Tryz.ntmps132
  go_wp2_with (first|(go_at_call 211;refine (aK _ _ _ _).mono ?_;rintro e w1 ⟨rfl,rfl⟩;simp only [F1]))
  go_ret;exact⟨aA E.out.symm,OX.out⟩
 | true =>
 cases F2:dQ c with
 | false =>
  have E:Hid (fm c=false):=by unfold Hid fm;rw [F1,F2];simp
  go_enter Tryz.func132,Tryz.ntmps132
  go_wp2_with (first|((with_reducible refine eP Pk.out ?_ ?_ ?_);(· rfl);(· rfl))|(go_at_call 211;refine (aK _ _ _ _).mono ?_;rintro e w1 ⟨rfl,rfl⟩;simp only [F1])|(go_at_call 212;refine (h_ L c _ HC.out).mono ?_;rintro e w2 ⟨rfl,hb2⟩;simp only [F2];have OH:=ae hb2;clear hb2))
  go_ret;exact⟨aA E.out.symm,aa OX.out OH.out⟩
 | true =>
 cases F3:Dy c with
 | false =>
  have E:Hid (fm c=false):=by unfold Hid fm;rw [F1,F2,F3];simp
  go_enter Tryz.func132,Tryz.ntmps132
  go_wp2_with (first|((with_reducible refine eP Pv.out ?_ ?_ ?_);(· rfl);(· rfl))|((with_reducible refine eP Pk.out ?_ ?_ ?_);(· rfl);(· rfl))|(go_at_call 211;refine (aK _ _ _ _).mono ?_;rintro e w1 ⟨rfl,rfl⟩;simp only [F1])|(go_at_call 212;refine (h_ L c _ HC.out).mono ?_;rintro e w2 ⟨rfl,hb2⟩;simp only [F2];have OH:=ae hb2;have Pv:=ae (mD (X1.out.later hb2).range HL.out);clear hb2)|(go_at_call 213;refine (ov L c _ _ HC.out).mono ?_;rintro e w3 ⟨rfl,hb3⟩;simp only [F3];have OJ:=ae hb3;clear hb3))
  go_ret;exact⟨aA E.out.symm,aa (aa OX.out OH.out) OJ.out⟩
 | true =>
  have E:Hid (fm c=ET (Ia c)):=by unfold Hid fm;rw [F1,F2,F3];simp
  go_enter Tryz.func132,Tryz.ntmps132
  go_wp2_with (first|((with_reducible refine eP Rm.out ?_ ?_ ?_);(· rfl);(· rfl))|((with_reducible refine eP Pv.out ?_ ?_ ?_);(· rfl);(· rfl))|((with_reducible refine eP Pk.out ?_ ?_ ?_);(· rfl);(· rfl))|(go_at_call 211;refine (aK _ _ _ _).mono ?_;rintro e w1 ⟨rfl,rfl⟩;simp only [F1])|(go_at_call 212;refine (h_ L c _ HC.out).mono ?_;rintro e w2 ⟨rfl,hb2⟩;simp only [F2];have OH:=ae hb2;have Pv:=ae (mD (X1.out.later hb2).range HL.out);clear hb2)|(go_at_call 213;refine (ov L c _ _ HC.out).mono ?_;rintro e w3 ⟨rfl,hb3⟩;simp only [F3];have OJ:=ae hb3;have Rm:=ae (mD ((X1.out.later OH.out).later hb3).range HL.out);clear hb3)|(go_at_call 215;refine (tV L c _ ((HC.out.later OH.out).later OJ.out)).mono ?_;rintro e w4 ⟨L4,rfl,hcc4,hb4⟩;have Qf:=ae hcc4;have OM:=ae hb4;clear hcc4 hb4)|(go_at_call 214;refine (vc L4 _ _ Qf.out).mono ?_;rintro e w5 ⟨rfl,hb5⟩;have OS:=ae hb5;clear hb5))
  go_ret;exact⟨aA E.out.symm,aa (aa (aa (aa OX.out OH.out) OJ.out) OM.out) OS.out⟩
theorem vp {b1 b2:Nat}{e1 e2:TypeId}{s1 s2:Nat}{v1 v2:Value}{n1 n2:Nat}{x1 x2:List Value}(h1:w.ownsRow b1 e1 s1 v1 n1 x1)(h2:w.ownsRow b2 e2 s2 v2 n2 x2)(hne:e1≠e2):∀k,v1.ownBlock=some k->v2.ownBlock≠some k:=by
 intro k k1 k2;rcases h1.2 with ⟨rfl,_⟩|⟨g,cap,cur,rfl,hg,hh,r⟩
 ·cases k1
 ·rcases h2.2 with ⟨rfl,_⟩|⟨g',cap',cur',rfl,hg',hh',r'⟩
  ·cases k2
  ·simp [Value.ownBlock] at k1 k2
   subst k1;subst k2;rw [hh] at hh';simp at hh'
   exact hne hh'.2
theorem Own.E4 {S:Nat->Prop}{base:Nat}(hb:aj S w w')(h:Own w base a n cap L)(hS:∀k,aI a k->¬S k):Own w' base a n cap L:=by
 refine⟨⟨h.row.1,?_⟩,h.small⟩
 rcases h.row.2 with h|⟨g,cap,cur,hv,hg,hh,r⟩
 ·exact .inl h
 ·have hg':aI a g:=by
   simp only [Value.slice.injEq] at hv;exact⟨_,hv.1,rfl⟩
  exact .inr ⟨g,cap,cur,hv,hg,by rw [hb.block g (Array.getElem?_eq_some_iff.1 hh).1 (hS g hg')];exact hh,r⟩
theorem Ew:(Tryz.prog.info? 38).map (λi=>(i.zero,i.size,i.bytes))=some (some (.slice none 0 0),1,24):=by kernel_rfl
def rf (rs:List R4):List Value:=rs.map iE
structure OR (w w':World)(a:Option Addr)(n cap:Nat)(rs:List R4):Prop where
 row:w'.ownsRow w.heap.size 38 1 (.slice a n cap) n (rf rs)
 each:∀r∈rs,Row w r.1 r.2.1 r.2.2.1 r.2.2.2\/Own w' w.heap.size r.1 r.2.1 r.2.2.1 r.2.2.2
theorem OR.len (h:OR w w' a n cap rs):rs.length=n:=by
 have:=h.row.1
 simp [rf] at this;exact this
theorem OR.later (h:OR w w1 a n cap rs)(hb:Below w1.heap.size w1 w2):OR w w2 a n cap rs :=
 ⟨gN hb h.row,λr hr=>by
  rcases h.each r hr with h1|h1
  ·exact .inl h1
  ·exact .inr (h1.later hb)⟩
def Lr (w w':World)(a:Option Addr)(n c:Nat)(L:List Nat):Prop:=Row w a n c L\/Own w' w.heap.size a n c L
theorem Lr.later {c:Nat}(h:Lr w w1 a n c L)(hb:Below w1.heap.size w1 w2):Lr w w2 a n c L:=by
 rcases h with h|h
 ·exact .inl h
 ·exact .inr (h.later hb)
theorem lE {c:Nat}(h:OR w w1 a n cap rs)(hl:Lr w w1 x m c L)(hb:Below w.heap.size w w1)(hr:n+1<=2000) :
  ∃a' cap' w',(Builtin.append_ #[338,338] 338 #[.slice a n cap,.slice (some ⟨w1.heap.size,0,none⟩) 1 1]).run Tryz.prog (w1.alloc (Obj.cells #[.slice x m c] 38))=.ok (.slice a' (n+1) cap') w'/\OR w w' a' (n+1) cap' (rs++[(x,m,c,L)])/\Below w.heap.size w w'/\aj (aI a) w1 w'/\∀k,aI a' k->aI a k\/w1.heap.size<=k:=by
 obtain⟨i,hi,hz0,hz1,hz2⟩:=info_parts Ew
 have hb1:=ag w1 (Obj.cells #[.slice x m c] 38)
 have h1:=h.later hb1
 obtain⟨v',w',hrun,h2,h3,_,h5⟩:=run_append_own_at (P:=Tryz.prog) (w1.alloc (Obj.cells #[.slice x m c] 38)) w.heap.size 338 338 38 i _ 1 24 Tryz.underlying338 hi hz0 hz1 hz2 rfl (by decide) _ n _ h1.row ⟨w1.heap.size,0,none⟩ 1 1 [.slice x m c] rfl (cell_one_new _ _ _) (by intro u hu;simp at hu;subst hu;rfl) (by unfold maxLen;omega) (by omega) (by have:=hb.size;simp;omega)
 obtain⟨a',cap',rfl⟩:∃a' cap',v'=.slice a' (n+1) cap':=by
  rcases h2.2 with ⟨h,h'⟩|⟨g',cap',_,h,_⟩
  ·exact⟨.none,0,by rw [h,h']⟩
  ·exact⟨_,cap',h⟩
 have hbut:aj (aI a) (w1.alloc (Obj.cells #[.slice x m c] 38)) w':=⟨h3.os,h3.tape,h3.output,h3.size,λj hj hn=>h3.block j hj (λe=>hn (aI.of.1 e.symm))⟩
 have hown:∀(y:Option Addr) (p q:Nat) (M:List Nat),Own (w1.alloc (Obj.cells #[.slice x m c] 38)) w.heap.size y p q M->Own w' w.heap.size y p q M:=λy p q M hM=>hM.E4 hbut (λk hk hk2=>vp hM.row h1.row (by decide) k (aI.of.2 hk) (aI.of.2 hk2))
 refine⟨a',cap',w',hrun,⟨by simpa [rf,iE] using h2,λr hr=>?_⟩,aj.below (aa hb hb1) hbut (λk hk=>bD h.row k (aI.of.2 hk)),(aj.of hb1).trans hbut,λj hj=>?_⟩
 rotate_left
 ·rcases h5 with h5|h5
  ·rw [aI.of.2 hj] at h5
   exact .inl (aI.of.1 h5.symm)
  ·rw [aI.of.2 hj] at h5
   right
   simp at h5
   omega
 rcases List.mem_append.1 hr with hr|hr
 ·rcases h1.each r hr with h6|h6
  ·exact .inl h6
  ·exact .inr (hown _ _ _ _ h6)
 ·simp only [List.mem_singleton] at hr
  subst hr;rcases hl.later hb1 with h6|h6
  ·exact .inl h6
  ·exact .inr (hown _ _ _ _ h6)
theorem OR.one {c:Nat}(hl:Lr w w1 x m c L)(hb:Below w.heap.size w w1):OR w (w1.alloc (Obj.cells #[.slice x m c] 38)) (some ⟨w1.heap.size,0,none⟩) 1 1 [(x,m,c,L)]:=by
 refine⟨⟨rfl,.inr ⟨w1.heap.size,1,#[.slice x m c],rfl,hb.size,heap_alloc_new _ _,by omega,by unfold maxLen;omega,rfl,rfl⟩⟩,λr hr=>?_⟩
 simp only [List.mem_singleton] at hr;subst hr;exact hl.later (ag _ _)
theorem OR.two {y:Option Addr}{c p q:Nat}{M:List Nat}(hl:Lr w w1 x m c L)(hm:Lr w w1 y p q M)(hb:Below w.heap.size w w1):OR w (w1.alloc (Obj.cells #[.slice x m c,.slice y p q] 38)) (some ⟨w1.heap.size,0,none⟩) 2 2 [(x,m,c,L),(y,p,q,M)]:=by
 refine⟨⟨rfl,.inr ⟨w1.heap.size,2,#[.slice x m c,.slice y p q],rfl,hb.size,heap_alloc_new _ _,by omega,by unfold maxLen;omega,rfl,rfl⟩⟩,λr hr=>?_⟩
 simp only [List.mem_cons,List.mem_nil_iff,or_false] at hr;rcases hr with rfl|rfl
 ·exact hl.later (ag _ _)
 ·exact hm.later (ag _ _)
theorem kC (h:OR w w1 a n cap rs)(hb:Below w.heap.size w w1)(hn:0<n)(hr:n<1000)(hc:(aV rs).length<=140737488355328) :
  Calls Tryz.prog 220 #[.slice a n cap] w1 λe w'=>∃a' n' cap',e=.returned (.slice a' n' cap')/\Own w' w1.heap.size a' n' cap' (aV rs)/\Below w1.heap.size w1 w':=by
 have hl:=h.len
 have hrow:=h.row
 rcases hrow.2 with ⟨h1,h2⟩|⟨g,cp,cur,hv,hg,hh,r⟩
 ·omega
 ·simp only [Value.slice.injEq] at hv
  obtain⟨rfl,_,rfl⟩:=hv
  refine gh g cap n rs w1 hl.symm (by omega) (λj hj=>?_) (λr hr=>?_) hc
  ·have:=hrow.cells (g:=g) rfl j (iE rs[j]) (by simp [rf,hj])
   rw [aY] at this;exact this
  ·rcases h.each r hr with h6|h6
   ·exact h6.later hb
   ·exact h6.read
end Go.Proofs.YtmhinfbkmjdgfaaGreatDoor.R
namespace Go.Proofs.YtmhinfbkmjdgfaaGreatDoor.R.W
theorem lb:az=2 ^ 64:=rfl
structure iA (a b N:Nat):Prop where
 ha:a<az
 hb:b<az
 hn:N=a*az+b
structure js (a b:Int)(N:Nat):Prop where
 ex:∃x y:Nat,a=x/\b=y/\iA x y N
end Go.Proofs.YtmhinfbkmjdgfaaGreatDoor.R.W
namespace Go.Proofs.YtmhinfbkmjdgfaaGreatDoor.R.W
open Go.RowKit
end Go.Proofs.YtmhinfbkmjdgfaaGreatDoor.R.W
namespace Go.Proofs.YtmhinfbkmjdgfaaGreatDoor.R.W
open Go.RowKit
end Go.Proofs.YtmhinfbkmjdgfaaGreatDoor.R.W
namespace Go.Proofs.YtmhinfbkmjdgfaaGreatDoor.R.W
open Go.RowKit
variable {p:Addr}{g h i o:Nat}{v:Value}{w:World}
def gV (w:World)(g o h:Nat):Nat->World
 | 0=>w
 | k+1=>(gV w g o h k).setCell ⟨g,o+k,none⟩ (.int .u8 ((h:Int) / 2 ^ (8*k)%256))
theorem _root_.Go.Proofs.YtmhinfbkmjdgfaaGreatDoor.aM.setCell {q:Addr}{u:Value}(h:aM w p v):∃v',aM (w.setCell q u) p v':=by
 obtain⟨v',hv'⟩:=cell?_setCell_some (w:=w) (p:=q) (x:=u) (q:=p) (v:=v) h.1
 exact⟨v',hv',by rw [World.frozen?_setCell];exact h.2⟩
theorem wD (hc:∀i,i<8->∃v,aM w ⟨g,o+i,none⟩ v)(k:Nat):∀i,i<8->∃v,aM (gV w g o h k) ⟨g,o+i,none⟩ v:=by
 induction k with
 | zero=>exact hc
 | succ k ih =>
  intro i hi;obtain⟨v,hv⟩:=ih i hi
  exact hv.setCell
theorem j2 (g o len cap h:Nat)(w:World)(hl:8<=len)(hc:∀i,i<8->∃v,aM w ⟨g,o+i,none⟩ v) :
  Calls Tryz.prog 327 #[.slice (some ⟨g,o,none⟩) len cap,ai (h:Int)] w λe w'=>e=.returned (.tuple #[])/\w'=gV w g o h 8:=by
 have HC:Hid (∀i,i<8->∃v,aM w ⟨g,o+i,none⟩ v):=hc
 clear hc;go_enter Tryz.func327,Tryz.ntmps327
 go_wp2;go_loopw [5] (λi w'=>∃k:Nat,k<=8/\i=ab k/\w'=gV w g o h k) (λi _=>8 - (intOf i).toNat)
 case atStart=>exact⟨0,by omega,rfl,rfl⟩
 case round =>
  obtain⟨k,hk,rfl,rfl⟩:=hrel
  by_cases hlt:k<8
  ·obtain⟨v,c0,f0⟩:=wD (h:=h) HC.out k k hlt
   have hlen:(k:Int)<(len:Int):=by omega
   go_wp2;refine⟨⟨k+1,by omega,by go_num,rfl⟩,by simp [intOf];omega⟩
  ·go_wp2
   go_end0
   obtain rfl:k=8:=by omega
   exact⟨rfl,rfl⟩
def cX:Array Value:=Array.replicate 16 (.int .u8 0)
theorem FD (w:World):(Instr.makeSlice 38 (ab 16) (ab 16)).run Tryz.prog w=.ok (.slice (some ⟨w.heap.size,0,none⟩) 16 16) (w.alloc (.cells cX 5)):=by kernel_rfl
theorem vh (h:i<16):cX[i]?=some (.int .u8 0):=by
 simp [cX,h]
theorem bf {c:Array Value}{t:TypeId}(h:c[i]?=some v):aM (w.alloc (.cells c t)) ⟨w.heap.size,i,none⟩ v :=
 ⟨by simp [go_sem,h],by simp [go_sem]⟩
theorem _root_.Go.Proofs.YtmhinfbkmjdgfaaGreatDoor.aM.drew (h:aM w p v):aM w.drew p v:=h
theorem lC (hp:p.block≠g):∀k,(gV w g o h k).cell? p=w.cell? p
 | 0=>rfl
 | k+1=>by
  show ((gV w g o h k).setCell _ _).cell? p=_
  rw [World.cell?_setCell_other _ _ _ _ (λe=>hp (by rw [<-e]))]
  exact lC hp k
theorem pO (w:World)(g o h:Nat)(hp:aM w p v):∀k,∃v',aM (gV w g o h k) p v'
 | 0=>⟨v,hp⟩
 | k+1=>by
  obtain⟨v',hv'⟩:=pO w g o h hp k
  exact hv'.setCell
theorem nP (w:World)(A:Obj)(i:Nat)(h:i<16):aM ((w.alloc A).alloc (.cells cX 5)) ⟨w.heap.size+1,i,none⟩ (.int .u8 0):=by
 have:=bf (w:=w.alloc A) (t:=5) (vh h)
 simpa using this
theorem wx (a b:Nat)(w:World) :
  Calls Tryz.prog 263 #[.agg #[ai (a:Int),ai (b:Int)]] w λe w'=>e=.returned (.slice (some ⟨w.heap.size+1,0,none⟩) 16 16) /\
   w'=gV (gV ((w.alloc (Obj.cells #[Value.int IntKind.u64 a,Value.int IntKind.u64 b] 30)).alloc (.cells cX 5)).drew (w.heap.size+1) 0 b 8).drew (w.heap.size+1) 8 a 8:=by
 have hmk:=FD
 have h1:Hid (∀i,i<8->∃v,aM (((w.alloc (Obj.cells #[Value.int IntKind.u64 a,Value.int IntKind.u64 b] 30)).alloc (.cells cX 5)).drew) ⟨w.heap.size+1,0+i,none⟩ v):=λi hi=>⟨_,(nP w _ _ (by omega)).drew⟩
 have h2:Hid (∀i,i<8->∃v,aM ((gV ((w.alloc (Obj.cells #[Value.int IntKind.u64 a,Value.int IntKind.u64 b] 30)).alloc (.cells cX 5)).drew (w.heap.size+1) 0 b 8).drew) ⟨w.heap.size+1,8+i,none⟩ v):=λi hi=>by
  obtain⟨v,hv⟩:=pO _ (w.heap.size+1) 0 b (nP w (Obj.cells #[Value.int IntKind.u64 a,Value.int IntKind.u64 b] 30) (8+i) (by omega)).drew 8
  exact⟨v,hv.drew⟩
 have h3:(gV ((w.alloc (Obj.cells #[Value.int IntKind.u64 a,Value.int IntKind.u64 b] 30)).alloc (.cells cX 5)).drew (w.heap.size+1) 0 b 8).cell? ⟨w.heap.size,0,none⟩=some (ai a):=by
  rw [lC (by simp)];simp [go_sem]
 go_enter Tryz.func263,Tryz.ntmps263
 go_wp2;go_region_with (first|(go_at_call 327;refine (j2 _ _ _ _ b _ (by omega) h1.out).mono ?_;rintro e w1 ⟨rfl,rfl⟩))
 go_wp2;go_region_with (first|(go_at_call 327;refine (j2 _ _ _ _ a _ (by omega) h2.out).mono ?_;rintro e w1 ⟨rfl,rfl⟩))
 go_wp2;go_ret;exact⟨rfl,rfl⟩
end Go.Proofs.YtmhinfbkmjdgfaaGreatDoor.R.W
namespace Go.Proofs.YtmhinfbkmjdgfaaGreatDoor.R.W
open Go.RowKit
variable {cs:Array Value}{N a b g i:Nat}{t:TypeId}{w:World}
def nh (N i:Nat):Nat:=N / 256 ^ i%256
def bytesOf (N:Nat):List Nat:=(List.range 16).map (nh N)
theorem Cx (h:iA a b N)(hi:i<8):((b:Int) / 2 ^ (8*i)%256)=(nh N i:Int):=by
 have e1:((2:Int) ^ (8*i))=((2 ^ (8*i):Nat):Int):=by simp
 have e2:(256:Nat) ^ i=2 ^ (8*i):=by rw [Nat.pow_mul]
 rw [e1];unfold nh;rw [e2,h.hn];obtain⟨j,hj⟩:∃j,az=2 ^ (8*i)*(256*2 ^ j):=⟨64 - 8*i - 8,by
  have:(256:Nat)=2 ^ 8:=rfl
  rw [this,<-Nat.pow_add,<-Nat.pow_add,lb];congr 1;omega⟩
 have hp:0<2 ^ (8*i):=Nat.two_pow_pos _
 have e3:(a*az+b) / 2 ^ (8*i)%256=b / 2 ^ (8*i)%256:=by
  rw [hj,Nat.add_comm,Nat.mul_comm a,Nat.mul_assoc,Nat.add_mul_div_left _ _ hp,Nat.mul_assoc,Nat.add_mul_mod_self_left]
 rw [e3];simp
theorem A0 (h:iA a b N):((a:Int) / 2 ^ (8*i)%256)=(nh N (8+i):Int):=by
 have e1:((2:Int) ^ (8*i))=((2 ^ (8*i):Nat):Int):=by simp
 have e2:(256:Nat) ^ (8+i)=az*2 ^ (8*i):=by
  rw [Nat.pow_add,lb];have:(256:Nat)=2 ^ 8:=rfl
  rw [this,<-Nat.pow_mul,<-Nat.pow_mul]
 rw [e1];unfold nh;rw [e2,h.hn,<-Nat.div_div_eq_div_mul];have e4:(a*az+b) / az=a:=by
  rw [Nat.add_comm,Nat.add_mul_div_right _ _ (by decide),Nat.div_eq_of_lt h.hb,Nat.zero_add]
 rw [e4];simp
def dO (cs:Array Value)(o h:Nat):Nat->Array Value
 | 0=>cs
 | k+1=>(dO cs o h k).setIfInBounds (o+k) (.int .u8 ((h:Int) / 2 ^ (8*k)%256))
theorem nj (hg:w.heap[g]?=some (.cells cs t (0,0)))(o h:Nat):∀k,(gV w g o h k).heap[g]?=some (.cells (dO cs o h k) t (0,0))
 | 0=>hg
 | k+1=>heap_setCell_same _ _ _ _ _ _ (nj hg o h k)
theorem ia {B:Nat}{w0:World}(hb:Below B w0 w)(hg:B<=g)(o h:Nat):∀k,Below B w0 (gV w g o h k)
 | 0=>hb
 | k+1=>(ia hb hg o h k).setCell hg _
theorem fk (cs:Array Value)(o h:Nat):∀k,(dO cs o h k).size=cs.size
 | 0=>rfl
 | k+1=>by unfold dO;rw [Array.size_setIfInBounds];exact fk cs o h k
theorem lS (cs:Array Value)(o h i:Nat)(hi:i<cs.size):∀k,(dO cs o h k)[i]?=if o<=i/\i<o+k then some (.int .u8 ((h:Int) / 2 ^ (8*(i - o))%256)) else cs[i]?
 | 0=>by unfold dO;rw [if_neg (by omega)]
 | k+1=>by
  unfold dO;rw [Array.getElem?_setIfInBounds,lS cs o h i hi k,fk];by_cases h1:o+k=i
  ·subst h1
   rw [if_pos rfl,if_pos hi,if_pos (by omega),Nat.add_sub_cancel_left]
  ·rw [if_neg h1]
   by_cases h2:o<=i/\i<o+k
   ·rw [if_pos h2,if_pos (by omega)]
   ·rw [if_neg h2,if_neg (by omega)]
theorem dV (l:List Nat)(i:Nat):(aN l).toArray[i]?=l[i]?.map λ(n:Nat)=>Value.int .u8 (n:Int):=by simp [aN]
theorem qJ (N i:Nat)(h:i<16):(bytesOf N)[i]?=some (nh N i):=by simp [bytesOf,h]
theorem gF:cX.size=16:=by simp [cX]
theorem Ah (h:iA a b N):dO (dO cX 0 b 8) 8 a 8=(aN (bytesOf N)).toArray:=by
 have hs:(dO (dO cX 0 b 8) 8 a 8).size=16:=by rw [fk,fk,gF]
 apply Array.ext_getElem?
 intro i;by_cases hi:i<16
 ·rw [lS _ _ _ _ (by rw [fk,gF];exact hi),lS _ _ _ _ (by rw [gF];exact hi),dV,qJ _ _ hi]
  by_cases h1:8<=i
  ·rw [if_pos (by omega)]
   have:=A0 h (i:=i - 8)
   rw [show 8+(i - 8)=i by omega] at this;rw [this];rfl
  ·rw [if_neg (by omega),if_pos (by omega),Nat.sub_zero,Cx h (by omega)];rfl
 ·rw [Array.getElem?_eq_none (by omega),Array.getElem?_eq_none]
  simp [aN,bytesOf];omega
theorem zM (w:World)(A B:Obj):((w.alloc A).alloc B).heap[w.heap.size+1]?=some B:=by
 show ((w.heap.push A).push B)[w.heap.size+1]?=some B
 rw [Array.getElem?_push,if_pos (by simp)]
theorem f_ (hg:w.heap[g]?=some (.cells cs t (0,0)))(o h k:Nat):(gV w.drew g o h k).heap[g]?=some (.cells (dO cs o h k) t (0,0)) :=
 nj (w:=w.drew) (show w.heap[g]?=_ from hg) o h k
theorem jB (a b:Int)(N:Nat)(w:World)(h:js a b N) :
  Calls Tryz.prog 263 #[.agg #[ai a,ai b]] w λe w'=>∃g,e=.returned (.slice (some ⟨g,0,none⟩) 16 16)/\w.heap.size<=g/\w'.heap[g]?=some (.cells (aN (bytesOf N)).toArray 5 (0,0))/\Below w.heap.size w w':=by
 obtain⟨a,b,rfl,rfl,h⟩:=h
 refine (wx a b w).mono ?_
 rintro e w' ⟨rfl,rfl⟩
 have k1:=f_ (zM w (Obj.cells #[Value.int IntKind.u64 a,Value.int IntKind.u64 b] 30) (.cells cX 5)) 0 b 8
 have k2:=f_ k1 8 a 8
 rw [Ah h] at k2;have b1:=ia (aB w (Obj.cells #[Value.int IntKind.u64 a,Value.int IntKind.u64 b] 30) (.cells cX 5)).drew (Nat.le_succ w.heap.size) 0 b 8
 have b2:=ia b1.drew (Nat.le_succ w.heap.size) 8 a 8
 exact⟨w.heap.size+1,rfl,Nat.le_succ _,k2,b2⟩
end Go.Proofs.YtmhinfbkmjdgfaaGreatDoor.R.W
namespace Go.Proofs.YtmhinfbkmjdgfaaGreatDoor.R
open Go.RowKit
theorem p8 (v:Nat)(hv:v<256)(w:World):Calls Tryz.prog 216 #[.slice none 0 0,.int .u8 (v:Int)] w λe w'=>∃a c,e=.returned (.slice a 1 c)/\Own w' w.heap.size a 1 c (bj v 1)/\Below w.heap.size w w':=by
 refine (I3 none 0 0 [] v w hv (bh w) (by omega)).mono ?_
 rintro e w' ⟨a,c,rfl,h,hb⟩
 exact⟨a,c,rfl,h,hb⟩
theorem FT (v:Nat)(hv:v<65536)(w:World):Calls Tryz.prog 217 #[.slice none 0 0,.int .u16 (v:Int)] w λe w'=>∃a c,e=.returned (.slice a 2 c)/\Own w' w.heap.size a 2 c (bj v 2)/\Below w.heap.size w w':=by
 refine (AJ none 0 0 [] v w hv (bh w) (by omega)).mono ?_
 rintro e w' ⟨a,c,rfl,h,hb⟩
 exact⟨a,c,rfl,h,hb⟩
theorem JZ (v:Nat)(hv:v<4294967296)(w:World):Calls Tryz.prog 332 #[.slice none 0 0,.int .u32 (v:Int)] w λe w'=>∃a c,e=.returned (.slice a 4 c)/\Own w' w.heap.size a 4 c (bj v 4)/\Below w.heap.size w w':=by
 refine (Hg none 0 0 [] v w hv (bh w) (by omega)).mono ?_
 rintro e w' ⟨a,c,rfl,h,hb⟩
 exact⟨a,c,rfl,h,hb⟩
theorem JS (v:Nat)(hv:v<18446744073709551616)(w:World):Calls Tryz.prog 284 #[.slice none 0 0,ai (v:Int)] w λe w'=>∃a c,e=.returned (.slice a 8 c)/\Own w' w.heap.size a 8 c (bj v 8)/\Below w.heap.size w w':=by
 refine (GB none 0 0 [] v w hv (bh w) (by omega)).mono ?_
 rintro e w' ⟨a,c,rfl,h,hb⟩
 exact⟨a,c,rfl,h,hb⟩
theorem eU (n:Int)(w:World):Calls Tryz.prog 283 #[ab n] w λe w'=>∃a c,e=.returned (.slice a 4 c)/\Own w' w.heap.size a 4 c (bj (sg n) 4)/\Below w.heap.size w w':=by
 have e1:IntKind.u32.wrap n=(sg n:Int):=by rw [IntKind.wrap_u32];unfold sg;omega
 have hv:=Hz n
 generalize sg n=v at e1 hv ⊢
 have H:=ae hv
 clear hv;go_enter Tryz.func283,Tryz.ntmps283
 go_wp2_with (first|(go_at_call 332;refine (JZ v H.out _).mono ?_;rintro e w1 ⟨a,c,rfl,h,hb⟩))
 go_ret;exact⟨_,_,rfl,h,hb⟩
theorem qI (y:Bool)(w:World):Calls Tryz.prog 285 #[.bool y] w λe w'=>∃a c,e=.returned (.slice a 1 c)/\Own w' w.heap.size a 1 c (bj (if y then 1 else 0) 1)/\Below w.heap.size w w':=by
 cases y with
 | true =>
  go_enter Tryz.func285,Tryz.ntmps285
  go_wp2_with (first|(go_at_call 216;refine (p8 1 (by omega) _).mono ?_;rintro e w1 ⟨a,c,rfl,hwn,hb⟩))
  go_ret;exact⟨_,_,rfl,hwn,hb⟩
 | false =>
  go_enter Tryz.func285,Tryz.ntmps285
  go_wp2_with (first|(go_at_call 216;refine (p8 0 (by omega) _).mono ?_;rintro e w1 ⟨a,c,rfl,hwn,hb⟩))
  go_ret;exact⟨_,_,rfl,hwn,hb⟩
theorem rE (hi lo:Nat)(h1:hi<18446744073709551616)(h2:lo<18446744073709551616):W.bytesOf (hi*az+lo)=bj lo 8++bj hi 8:=by
 have key:∀(a b:Nat),bj (a+256 ^ 8*b) 16=bj a 8++bj b 8\/256 ^ 8<=a:=by
  intro a b;by_cases ha:a<256 ^ 8
  ·left
   have e:∀v,bj v 16=bj v 8++bj (v / 256 ^ 8) 8:=by
    intro v;simp only [bj,List.range_succ,List.range_zero,List.map_append,List.map_nil,List.map_cons,List.nil_append,List.cons_append,Nat.div_div_eq_div_mul,<-Nat.pow_add]
   rw [e,Nat.add_mul_div_left _ _ (by decide),Nat.div_eq_of_lt ha,Nat.zero_add,<-uN _ 8 8 (Nat.le_refl _),Nat.add_mul_mod_self_left,uN _ 8 8 (Nat.le_refl _)]
  ·right;omega
 rcases key lo hi with h|h
 ·rw [<-h]
  unfold W.bytesOf bj;have:hi*az+lo=lo+256 ^ 8*hi:=by unfold az;omega
  rw [this];rfl
 ·omega
theorem mH (hi lo:Nat)(w:World)(h1:hi<18446744073709551616)(h2:lo<18446744073709551616) :
  Calls Tryz.prog 263 #[.agg #[ai (hi:Int),ai (lo:Int)]] w λe w'=>∃a c,e=.returned (.slice a 16 c)/\Own w' w.heap.size a 16 c (bj lo 8++bj hi 8)/\Below w.heap.size w w':=by
 refine (W.jB hi lo (hi*az+lo) w ⟨hi,lo,rfl,rfl,⟨h1,h2,rfl⟩⟩).mono ?_
 rintro e w' ⟨g,rfl,hg,hh,hb⟩
 rw [rE hi lo h1 h2] at hh;have hs:∀x∈bj lo 8++bj hi 8,x<256:=λx hx=>by
  rcases List.mem_append.1 hx with h|h
  ·exact gM _ _ x h
  ·exact gM _ _ x h
 exact⟨_,_,rfl,⟨⟨by simp [aN,aW],.inr ⟨g,16,_,rfl,hg,hh,by omega,by unfold maxLen;omega,by simp [aN,aW],List.take_of_length_le (by simp [aN,aW])⟩⟩,hs⟩,hb⟩
def Dn (w:World)(n:Nat)(G:List Int)(l t:Value)(w':World):Prop :=
 ∃(i:Nat) (a:Option Addr) (c:Nat) (rs:List R4),i<=n/\t=ab (i:Int)/\l=.slice a (1+i) c/\OR w w' a (1+i) c rs/\aV rs=bj n 1++g2 (G.take i)/\Below w.heap.size w w'
theorem oS (a:Option Addr)(n cap:Nat)(G:List Int)(w:World)(h:RI w a n cap G)(hg:ux G=true) :
  Calls Tryz.prog 286 #[.slice a n cap] w λe w'=>∃a' n' c',e=.returned (.slice a' n' c')/\Own w' w.heap.size a' n' c' (bj G.length 1++g2 G)/\Below w.heap.size w w':=by
 have hlen:=h.len
 simp only [ux,Bool.and_eq_true,decide_eq_true_eq,List.all_eq_true,cU] at hg;obtain⟨hg1,hg2⟩:=hg
 have hn:n<=255:=by omega
 have e1:IntKind.u8.wrap (n:Int)=(n:Int):=by rw [IntKind.wrap_u8];omega
 have H:=ae h
 have HG:=ae hg2
 have HL:=ae hlen
 clear h hg2 hg1 hlen;go_enter Tryz.func286,Tryz.ntmps286
 go_upto_region 2 with (first|(go_at_call 216;refine (p8 n (by omega) _).mono ?_;rintro e w1 ⟨a1,c1,rfl,hown,hb1⟩))
 have R0:Hid (Dn w n G (.slice (some ⟨w1.heap.size,0,none⟩) (1+0) 1) (ab 0) (w1.alloc (Obj.cells #[.slice a1 1 c1] 38))):=⟨0,_,1,_,by omega,rfl,rfl,OR.one (.inr hown) hb1,by simp [aV,g2],aa hb1 (ag _ _)⟩
 clear hown hb1;go_upto_region 3 with fail
 go_loopw [3,13] (Dn w n G) (λ_ t _=>n - (intOf t).toNat)
 case atStart=>exact R0.out
 case round =>
  clear R0;obtain⟨i,b,c,rs,hi,rfl,rfl,hor,hcat,hbw⟩:=hrel
  have ei:IntKind.i64.wrap ((i:Int)+1)=(i:Int)+1:=by rw [IntKind.wrap_i64];omega
  by_cases hlt:i<n
  ·have hdi:decide ((i:Int)<(n:Int))=true:=by simp;omega
   obtain⟨gb,o,rfl,hc⟩:=H.out.plain (by omega)
   have hiG:i<G.length:=by have:=HL.out;omega
   have hcell:=cell_later hbw (hc i hiG)
   have hgi:=HG.out _ (List.getElem_mem hiG)
   have HT:Hid (g2 (G.take (i+1))=g2 (G.take i)++bj (G[i].toNat) 2):=by unfold Hid;rw [List.take_succ_eq_append_getElem hiG,om,Af]
   generalize G[i]=x at hcell hgi HT
   obtain⟨m,rfl⟩:∃m:Nat,x=(m:Int):=⟨x.toNat,by omega⟩
   rw [Int.toNat_natCast] at HT;have e2:IntKind.u16.wrap (m:Int)=(m:Int):=by rw [IntKind.wrap_u16];omega
   have hm:m<65536:=by omega
   have SL:=ae hor
   have O8:=ae hbw
   have HM:=ae hm
   have RW:=ae hcat
   clear hor hbw hc hgi hm hcat;go_upto_region 5 with fail
   go_wp2_with (first|(go_at_call 217;refine (FT m HM.out _).mono ?_;rintro e w2 ⟨a2,c2,rfl,hown2,hb2⟩;obtain⟨a3,c3,w3,hrun,hor3,hbw3,_,_⟩:=lE (SL.out.later hb2) (.inr (hown2.mono O8.out.size)) (aa O8.out hb2) (by omega);have ON:=ae hrun;have VI:=ae hor3;have OJ:=ae hbw3;clear hrun hor3 hbw3 hown2 hb2)|(at_builtin;refine aw rfl _ _ 338 rfl _ _ rfl rfl _ w3 ON.out ?_))
   go_roundw
   case rel=>exact⟨i+1,a3,c3,_,by omega,by go_num,rfl,VI.out,by rw [cF,RW.out,HT.out];simp [aV],OJ.out⟩
   case measure=>simp [intOf];omega
  ·obtain rfl:i=n:=by omega
   have HX:Hid (aV rs=bj G.length 1++g2 G):=by
    unfold Hid;rw [hcat,List.take_of_length_le (by have:=HL.out;omega),HL.out]
   have hle:(aV rs).length<=140737488355328:=by
    rw [HX.out,List.length_append,aW,nZ];have:=HL.out
    omega
   have HJ:=ae (kC hor hbw (by omega) (by omega) hle)
   have O8:=ae hbw
   clear hor hbw hcat hle;go_wp2_with (first|(go_at_call 220;refine HJ.out.mono ?_;rintro e w2 ⟨a2,n2,c2,rfl,hown2,hb2⟩))
   go_ret;exact⟨_,_,_,rfl,by rw [<-HX.out];exact hown2.mono O8.out.size,aa O8.out hb2⟩
end Go.Proofs.YtmhinfbkmjdgfaaGreatDoor.R
