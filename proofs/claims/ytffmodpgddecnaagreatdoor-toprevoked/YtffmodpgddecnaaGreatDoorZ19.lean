import Derived.Test.YtffmodpgddecnaaGreatDoorZ18
set_option linter.unusedVariables false
set_option linter.unusedSimpArgs false
set_option maxRecDepth 100000
set_option maxHeartbeats 4000000
namespace Go.Proofs.YtffmodpgddecnaaGreatDoor.R
open Go.RowKit
theorem aS (n a b:Int)(w:World):Calls Tryz.prog 157 #[.int .i64 n,.int .i64 a,.int .i64 b] w λe w'=>e=.returned (.bool (wi n a b))/\w'=w:=by
 by_cases h1:a<=n
 ·have d1:decide (a<=n)=true:=decide_eq_true h1
  have e1:wi n a b=decide (n<=b):=by unfold wi;rw [d1,Bool.true_and]
  rw [e1];clear e1;go_enter Tryz.func157,Tryz.ntmps157
  go_wp2;go_ret;exact⟨rfl,rfl⟩
 ·have d1:decide (a<=n)=false:=decide_eq_false h1
  have e1:wi n a b=false:=by unfold wi;rw [d1,Bool.false_and]
  rw [e1];clear e1;go_enter Tryz.func157,Tryz.ntmps157
  go_wp2;go_ret;exact⟨rfl,rfl⟩
theorem bQ (n:Int)(w:World):Calls Tryz.prog 235 #[.int .i64 n] w λe w'=>e=.returned (.bool (zu n))/\w'=w:=by
 unfold zu;go_enter Tryz.func235,Tryz.ntmps235
 go_wp2_with (first|(go_at_call 157;refine (aS n (-2147483648) 2147483647 _).mono ?_;rintro e w1 ⟨rfl,rfl⟩))
 go_ret;exact⟨rfl,rfl⟩
theorem yZ (G:List Int)(i:Nat)(h:i<G.length)(f:Int->Bool):(G.take (i+1)).all f=((G.take i).all f&&f G[i]):=by
 rw [List.take_succ_eq_append_getElem h,List.all_append];simp
theorem bl (a:Option Addr)(n cap:Nat)(G:List Int)(w:World)(h:RI w a n cap G):Calls Tryz.prog 236 #[.slice a n cap] w λe w'=>e=.returned (.bool (uQ G))/\w'=w:=by
 have hlen:=h.len
 by_cases hl:n<=255
 ·have hd:decide ((n:Int)>255)=false:=by simp;omega
  have hd2:decide ((255:Int)<(n:Int))=false:=by simp;omega
  have E:Hid (uQ G=G.all (λg=>wi g 0 65535)):=by unfold Hid uQ;rw [decide_eq_true (by omega),Bool.true_and]
  have H:Hid (RI w a n cap G):=h
  have HL:Hid (G.length=n):=hlen
  clear h hlen;go_enter Tryz.func236,Tryz.ntmps236
  go_wp2;go_loop [10] (λt=>∃i:Nat,i<=n/\t=.int .i64 (i:Int)/\(G.take i).all (λg=>wi g 0 65535)=true) (λt=>n - (intOf t).toNat)
  case atStart=>exact⟨0,by omega,rfl,by simp⟩
  case round =>
   obtain⟨i,hi,rfl,ht⟩:=hrel
   have HT:Hid ((G.take i).all (λg=>wi g 0 65535)=true):=ht
   clear ht;have ei:IntKind.i64.wrap ((i:Int)+1)=(i:Int)+1:=by rw [IntKind.wrap_i64];omega
   by_cases hlt:i<n
   ·have hdi:decide ((i:Int)<(n:Int))=true:=by simp;omega
    obtain⟨b,o,rfl,hc⟩:=H.out.plain (by omega)
    have hiG:i<G.length:=by have:=HL.out;omega
    have hcell:=hc i hiG
    have HA:Hid _:=yZ G i hiG (λg=>wi g 0 65535)
    have HG:Hid (G[i]∈G):=List.getElem_mem hiG
    generalize G[i]=x at hcell HA HG
    clear hc;by_cases hx:wi x 0 65535=true
    ·have QZ:Hid ((G.take (i+1)).all (λg=>wi g 0 65535)=true):=by have:=HA.out;unfold Hid;rw [this,HT.out];simpa using hx
     clear HA HG;go_wp2_with (first|(go_at_call 157;refine (aS x 0 65535 _).mono ?_;rintro e w1 ⟨rfl,rfl⟩;rw [hx]))
     exact⟨⟨i+1,by omega,by go_num,QZ.out⟩,by simp [intOf];omega⟩
    ·have hx':wi x 0 65535=false:=by simpa using hx
     have E2:Hid (uQ G=false):=by
      unfold Hid;rw [E.out,List.all_eq_false];exact⟨x,HG.out,by rw [hx'];simp⟩
     clear HA HG hx;go_wp2_with (first|(go_at_call 157;refine (aS x 0 65535 _).mono ?_;rintro e w1 ⟨rfl,rfl⟩;rw [hx']))
     go_ret;exact⟨au E2.out.symm,rfl⟩
   ·obtain rfl:i=n:=by omega
    have E2:Hid (uQ G=true):=by
     have:=HT.out
     rw [List.take_of_length_le (by have:=HL.out;omega)] at this;unfold Hid;rw [E.out,this]
    go_wp2;go_ret;exact⟨au E2.out.symm,rfl⟩
 ·have hd:decide ((n:Int)>255)=true:=by simp;omega
  have hd2:decide ((255:Int)<(n:Int))=true:=by simp;omega
  have E:Hid (uQ G=false):=by unfold Hid uQ;rw [decide_eq_false (by omega),Bool.false_and]
  clear h hlen;go_enter Tryz.func236,Tryz.ntmps236
  go_wp2;go_ret;exact⟨au E.out.symm,rfl⟩
end Go.Proofs.YtffmodpgddecnaaGreatDoor.R
namespace Go.Proofs.YtffmodpgddecnaaGreatDoor.R
open Go.RowKit
theorem oX (c:Cl)(d g:Sl)(w:World)(h:Is w c d g):Calls Tryz.prog 158 #[cV c d g] w λe w'=>e=.returned (.bool (dM c))/\Below w.heap.size w w':=by
 obtain⟨op,aB,size,obj,hi,lo,given,aA,off,n,data,index,ax⟩:=c
 obtain⟨da,dn,dc⟩:=d
 obtain⟨ga,gn,gc⟩:=g
 have hdl:data.length=dn:=h.data.len
 have HG:Hid (∀o,RI (w.alloc o) ga gn gc ax):=λo=>h.ax.later (ae _ _)
 have HD:Hid (decide (data.length<=1025)=decide ((dn:Int)<=1025)):=by unfold Hid;rw [hdl,Bool.eq_iff_iff];simp only [decide_eq_true_eq];omega
 clear h hdl;unfold cV;cases F1:wi aB 0 65535 with
 | false =>
  have E:Hid (dM ⟨op,aB,size,obj,hi,lo,given,aA,off,n,data,index,ax⟩=false):=by unfold Hid dM;simp only [HD.out,F1,Bool.true_and,Bool.false_and,Bool.and_false,Bool.and_true]
  go_enter Tryz.func158,Tryz.ntmps158
  go_wp2_with (first|(go_at_call 157;refine (aS _ _ _ _).mono ?_;rintro e w1 ⟨rfl,rfl⟩;simp only [F1])|(go_at_call 235;refine (bQ _ _).mono ?_;rintro e w1 ⟨rfl,rfl⟩;simp only [F1])|(go_at_call 236;refine (bl _ _ _ ax _ (HG.out _)).mono ?_;rintro e w1 ⟨rfl,rfl⟩))
  go_ret;exact⟨au E.out.symm,ae _ _⟩
 | true =>
  cases F2:zu size with
  | false =>
   have E:Hid (dM ⟨op,aB,size,obj,hi,lo,given,aA,off,n,data,index,ax⟩=false):=by unfold Hid dM;simp only [HD.out,F1,F2,Bool.true_and,Bool.false_and,Bool.and_false,Bool.and_true]
   go_enter Tryz.func158,Tryz.ntmps158
   go_wp2_with (first|(go_at_call 157;refine (aS _ _ _ _).mono ?_;rintro e w1 ⟨rfl,rfl⟩;simp only [F1,F2])|(go_at_call 235;refine (bQ _ _).mono ?_;rintro e w1 ⟨rfl,rfl⟩;simp only [F1,F2])|(go_at_call 236;refine (bl _ _ _ ax _ (HG.out _)).mono ?_;rintro e w1 ⟨rfl,rfl⟩))
   go_ret;exact⟨au E.out.symm,ae _ _⟩
  | true =>
   cases F3:zu off with
   | false =>
    have E:Hid (dM ⟨op,aB,size,obj,hi,lo,given,aA,off,n,data,index,ax⟩=false):=by unfold Hid dM;simp only [HD.out,F1,F2,F3,Bool.true_and,Bool.false_and,Bool.and_false,Bool.and_true]
    go_enter Tryz.func158,Tryz.ntmps158
    go_wp2_with (first|(go_at_call 157;refine (aS _ _ _ _).mono ?_;rintro e w1 ⟨rfl,rfl⟩;simp only [F1,F2,F3])|(go_at_call 235;refine (bQ _ _).mono ?_;rintro e w1 ⟨rfl,rfl⟩;simp only [F1,F2,F3])|(go_at_call 236;refine (bl _ _ _ ax _ (HG.out _)).mono ?_;rintro e w1 ⟨rfl,rfl⟩))
    go_ret;exact⟨au E.out.symm,ae _ _⟩
   | true =>
    cases F4:zu n with
    | false =>
     have E:Hid (dM ⟨op,aB,size,obj,hi,lo,given,aA,off,n,data,index,ax⟩=false):=by unfold Hid dM;simp only [HD.out,F1,F2,F3,F4,Bool.true_and,Bool.false_and,Bool.and_false,Bool.and_true]
     go_enter Tryz.func158,Tryz.ntmps158
     go_wp2_with (first|(go_at_call 157;refine (aS _ _ _ _).mono ?_;rintro e w1 ⟨rfl,rfl⟩;simp only [F1,F2,F3,F4])|(go_at_call 235;refine (bQ _ _).mono ?_;rintro e w1 ⟨rfl,rfl⟩;simp only [F1,F2,F3,F4])|(go_at_call 236;refine (bl _ _ _ ax _ (HG.out _)).mono ?_;rintro e w1 ⟨rfl,rfl⟩))
     go_ret;exact⟨au E.out.symm,ae _ _⟩
    | true =>
     cases F5:wi obj 0 4611686018427387904 with
     | false =>
      have E:Hid (dM ⟨op,aB,size,obj,hi,lo,given,aA,off,n,data,index,ax⟩=false):=by unfold Hid dM;simp only [HD.out,F1,F2,F3,F4,F5,Bool.true_and,Bool.false_and,Bool.and_false,Bool.and_true]
      go_enter Tryz.func158,Tryz.ntmps158
      go_wp2_with (first|(go_at_call 157;refine (aS _ _ _ _).mono ?_;rintro e w1 ⟨rfl,rfl⟩;simp only [F1,F2,F3,F4,F5])|(go_at_call 235;refine (bQ _ _).mono ?_;rintro e w1 ⟨rfl,rfl⟩;simp only [F1,F2,F3,F4,F5])|(go_at_call 236;refine (bl _ _ _ ax _ (HG.out _)).mono ?_;rintro e w1 ⟨rfl,rfl⟩))
      go_ret;exact⟨au E.out.symm,ae _ _⟩
     | true =>
      cases F6:wi aA 0 255 with
      | false =>
       have E:Hid (dM ⟨op,aB,size,obj,hi,lo,given,aA,off,n,data,index,ax⟩=false):=by unfold Hid dM;simp only [HD.out,F1,F2,F3,F4,F5,F6,Bool.true_and,Bool.false_and,Bool.and_false,Bool.and_true]
       go_enter Tryz.func158,Tryz.ntmps158
       go_wp2_with (first|(go_at_call 157;refine (aS _ _ _ _).mono ?_;rintro e w1 ⟨rfl,rfl⟩;simp only [F1,F2,F3,F4,F5,F6])|(go_at_call 235;refine (bQ _ _).mono ?_;rintro e w1 ⟨rfl,rfl⟩;simp only [F1,F2,F3,F4,F5,F6])|(go_at_call 236;refine (bl _ _ _ ax _ (HG.out _)).mono ?_;rintro e w1 ⟨rfl,rfl⟩))
       go_ret;exact⟨au E.out.symm,ae _ _⟩
      | true =>
       cases F7:wi index 0 65535 with
       | false =>
        have E:Hid (dM ⟨op,aB,size,obj,hi,lo,given,aA,off,n,data,index,ax⟩=false):=by unfold Hid dM;simp only [HD.out,F1,F2,F3,F4,F5,F6,F7,Bool.true_and,Bool.false_and,Bool.and_false,Bool.and_true]
        go_enter Tryz.func158,Tryz.ntmps158
        go_wp2_with (first|(go_at_call 157;refine (aS _ _ _ _).mono ?_;rintro e w1 ⟨rfl,rfl⟩;simp only [F1,F2,F3,F4,F5,F6,F7])|(go_at_call 235;refine (bQ _ _).mono ?_;rintro e w1 ⟨rfl,rfl⟩;simp only [F1,F2,F3,F4,F5,F6,F7])|(go_at_call 236;refine (bl _ _ _ ax _ (HG.out _)).mono ?_;rintro e w1 ⟨rfl,rfl⟩))
        go_ret;exact⟨au E.out.symm,ae _ _⟩
       | true =>
        cases F8:decide ((dn:Int)<=1025) with
        | false =>
         have E:Hid (dM ⟨op,aB,size,obj,hi,lo,given,aA,off,n,data,index,ax⟩=false):=by unfold Hid dM;simp only [HD.out,F1,F2,F3,F4,F5,F6,F7,F8,Bool.true_and,Bool.false_and,Bool.and_false,Bool.and_true]
         go_enter Tryz.func158,Tryz.ntmps158
         go_wp2_with (first|(go_at_call 157;refine (aS _ _ _ _).mono ?_;rintro e w1 ⟨rfl,rfl⟩;simp only [F1,F2,F3,F4,F5,F6,F7,F8])|(go_at_call 235;refine (bQ _ _).mono ?_;rintro e w1 ⟨rfl,rfl⟩;simp only [F1,F2,F3,F4,F5,F6,F7,F8])|(go_at_call 236;refine (bl _ _ _ ax _ (HG.out _)).mono ?_;rintro e w1 ⟨rfl,rfl⟩))
         go_ret;exact⟨au E.out.symm,ae _ _⟩
        | true =>
         have E:Hid (dM ⟨op,aB,size,obj,hi,lo,given,aA,off,n,data,index,ax⟩=uQ ax):=by unfold Hid dM;simp only [HD.out,F1,F2,F3,F4,F5,F6,F7,F8,Bool.true_and,Bool.and_true]
         go_enter Tryz.func158,Tryz.ntmps158
         go_wp2_with (first|(go_at_call 157;refine (aS _ _ _ _).mono ?_;rintro e w1 ⟨rfl,rfl⟩;simp only [F1,F2,F3,F4,F5,F6,F7,F8])|(go_at_call 235;refine (bQ _ _).mono ?_;rintro e w1 ⟨rfl,rfl⟩;simp only [F1,F2,F3,F4,F5,F6,F7,F8])|(go_at_call 236;refine (bl _ _ _ ax _ (HG.out _)).mono ?_;rintro e w1 ⟨rfl,rfl⟩))
         go_ret;exact⟨au E.out.symm,ae _ _⟩
end Go.Proofs.YtffmodpgddecnaaGreatDoor.R
namespace Go.Proofs.YtffmodpgddecnaaGreatDoor.R
open Go.RowKit
def rW (a b c d e f:Int):Bool:=decide (a=d/\b=e/\c=f)
theorem xw (a b c d e f:Int)(w:World):(binOp .eql 37 (.agg #[.int .i64 a,.int .u64 b,.int .u64 c]) (.agg #[.int .i64 d,.int .u64 e,.int .u64 f])).run Tryz.prog w=.ok (.bool (rW a b c d e f)) w:=by
 unfold rW;by_cases h1:a=d
 ·subst h1
  by_cases h2:b=e
  ·subst h2
   by_cases h3:c=f
   ·subst h3;simp [go_sem]
   ·simp [go_sem,h3]
  ·simp [go_sem,h2]
 ·simp [go_sem,h1]
def vu (b c e f:Int):Bool:=decide (b=e/\c=f)
theorem G6 (b c e f:Int)(w:World):(binOp .eql 30 (.agg #[.int .u64 b,.int .u64 c]) (.agg #[.int .u64 e,.int .u64 f])).run Tryz.prog w=.ok (.bool (vu b c e f)) w:=by
 unfold vu;by_cases h2:b=e
 ·subst h2
  by_cases h3:c=f
  ·subst h3;simp [go_sem]
  ·simp [go_sem,h3]
 ·simp [go_sem,h2]
theorem qe (c:Cl)(d g:Sl)(w:World):Calls Tryz.prog 159 #[cV c d g] w λe w'=>e=.returned (.bool (Ew c))/\Below w.heap.size w w':=by
 obtain⟨op,aB,size,obj,hi,lo,given,aA,off,n,data,index,ax⟩:=c
 obtain⟨da,dn,dc⟩:=d
 obtain⟨ga,gn,gc⟩:=g
 unfold cV;have HE:Hid (vu hi lo 0 0=decide (hi=0/\lo=0)):=by unfold Hid vu;rw [Bool.eq_iff_iff];simp only [decide_eq_true_eq];omega
 have heq:=G6 hi lo 0 0
 have tail:∀(h56:op=5\/op=6),Ew ⟨op,aB,size,obj,hi,lo,given,aA,off,n,data,index,ax⟩=(given||decide (hi=0/\lo=0)):=λh=>by unfold Ew;simp only;rw [if_pos h]
 have HT:Hid _:=tail
 clear tail;by_cases h5:op=5
 ·have PQ:=HT.out (.inl h5)
  have PW:Hid _:=PQ
  clear HT PQ;have b5:(op != 5)=false:=by simp [h5]
  clear h5;cases given with
  | true =>
   go_enter Tryz.func159,Tryz.ntmps159
   go_wp2;go_ret;exact⟨au (by rw [PW.out];rfl),ae _ _⟩
  | false =>
   go_enter Tryz.func159,Tryz.ntmps159
   go_wp2;go_ret;exact⟨au (by rw [PW.out,HE.out];rfl),ae _ _⟩
 ·have b5:(op != 5)=true:=by simp [h5]
  by_cases h6:op=6
  ·have PQ:=HT.out (.inr h6)
   have PW:Hid _:=PQ
   clear HT PQ;have b6:(op != 6)=false:=by simp [h6]
   clear h6 h5;cases given with
   | true =>
    go_enter Tryz.func159,Tryz.ntmps159
    go_wp2;go_ret;exact⟨au (by rw [PW.out];rfl),ae _ _⟩
   | false =>
    go_enter Tryz.func159,Tryz.ntmps159
    go_wp2;go_ret;exact⟨au (by rw [PW.out,HE.out];rfl),ae _ _⟩
  ·have b6:(op != 6)=true:=by simp [h6]
   have HN:Hid (Ew ⟨op,aB,size,obj,hi,lo,given,aA,off,n,data,index,ax⟩=true):=by unfold Hid Ew;simp only;rw [if_neg (by omega)]
   clear HT h5 h6;go_enter Tryz.func159,Tryz.ntmps159
   go_wp2;go_ret;exact⟨au HN.out.symm,ae _ _⟩
theorem pZ (c:Cl)(d g:Sl)(w:World)(h:Is w c d g):Calls Tryz.prog 160 #[cV c d g] w λe w'=>e=.returned (.bool (FN c))/\Below w.heap.size w w':=by
 obtain⟨op,aB,size,obj,hi,lo,given,aA,off,n,data,index,ax⟩:=c
 obtain⟨da,dn,dc⟩:=d
 obtain⟨ga,gn,gc⟩:=g
 have hdl:data.length=dn:=h.data.len
 have hgl:ax.length=gn:=h.ax.len
 have heq:=xw obj hi lo 0 0 0
 have hnot:∀(x:Bool) (w:World),(Op.unary .not (.bool x)).run Tryz.prog w=.ok (.bool (!x)) w:=λ_ _=>rfl
 have HB:Hid (FN ⟨op,aB,size,obj,hi,lo,given,aA,off,n,data,index,ax⟩=((size==0)&&rW obj hi lo 0 0 0&&!given&&(aA==0)&&(off==0)&&(n==0)&&((dn:Int)==0)&&(index==0)&&((gn:Int)==0))):=by
  unfold Hid;rw [Bool.eq_iff_iff,D4];simp only [Bool.and_eq_true,beq_iff_eq,rW,decide_eq_true_eq,Bool.not_eq_true'];constructor
  ·rintro ⟨a,b1,b2,b3,c,d,e,f,g,q,i⟩
   subst g i
   exact⟨⟨⟨⟨⟨⟨⟨⟨a,b1,by omega,by omega⟩,c⟩,d⟩,e⟩,f⟩,by simp at hdl;omega⟩,q⟩,by simp at hgl;omega⟩
  ·rintro ⟨⟨⟨⟨⟨⟨⟨⟨a,b1,b2,b3⟩,c⟩,d⟩,e⟩,f⟩,g⟩,q⟩,i⟩
   exact⟨a,b1,by omega,by omega,c,d,e,f,List.eq_nil_of_length_eq_zero (by omega),q,List.eq_nil_of_length_eq_zero (by omega)⟩
 clear h hdl hgl;unfold cV;cases F1:(size==0) with
 | false =>
  have E:Hid (_=false):=HB.out.trans (by simp only [F1,Bool.true_and,Bool.false_and,Bool.and_false,Bool.not_true,Bool.not_false,Bool.and_true])
  clear HB;go_enter Tryz.func160,Tryz.ntmps160
  go_wp2;go_ret;exact⟨au E.out.symm,ae _ _⟩
 | true =>
  cases F2:rW obj hi lo 0 0 0 with
  | false =>
   have E:Hid (_=false):=HB.out.trans (by simp only [F1,F2,Bool.true_and,Bool.false_and,Bool.and_false,Bool.not_true,Bool.not_false,Bool.and_true])
   clear HB;go_enter Tryz.func160,Tryz.ntmps160
   go_wp2;go_ret;exact⟨au E.out.symm,ae _ _⟩
  | true =>
   cases given with
   | true =>
    have E:Hid (_=false):=HB.out.trans (by simp only [F1,F2,Bool.true_and,Bool.false_and,Bool.and_false,Bool.not_true,Bool.not_false,Bool.and_true])
    clear HB;go_enter Tryz.func160,Tryz.ntmps160
    go_wp2;go_ret;exact⟨au E.out.symm,ae _ _⟩
   | false =>
    cases F4:(aA==0) with
    | false =>
     have E:Hid (_=false):=HB.out.trans (by simp only [F1,F2,F4,Bool.true_and,Bool.false_and,Bool.and_false,Bool.not_true,Bool.not_false,Bool.and_true])
     clear HB;go_enter Tryz.func160,Tryz.ntmps160
     go_wp2;go_ret;exact⟨au E.out.symm,ae _ _⟩
    | true =>
     cases F5:(off==0) with
     | false =>
      have E:Hid (_=false):=HB.out.trans (by simp only [F1,F2,F4,F5,Bool.true_and,Bool.false_and,Bool.and_false,Bool.not_true,Bool.not_false,Bool.and_true])
      clear HB;go_enter Tryz.func160,Tryz.ntmps160
      go_wp2;go_ret;exact⟨au E.out.symm,ae _ _⟩
     | true =>
      cases F6:(n==0) with
      | false =>
       have E:Hid (_=false):=HB.out.trans (by simp only [F1,F2,F4,F5,F6,Bool.true_and,Bool.false_and,Bool.and_false,Bool.not_true,Bool.not_false,Bool.and_true])
       clear HB;go_enter Tryz.func160,Tryz.ntmps160
       go_wp2;go_ret;exact⟨au E.out.symm,ae _ _⟩
      | true =>
       cases F7:((dn:Int)==0) with
       | false =>
        have E:Hid (_=false):=HB.out.trans (by simp only [F1,F2,F4,F5,F6,F7,Bool.true_and,Bool.false_and,Bool.and_false,Bool.not_true,Bool.not_false,Bool.and_true])
        clear HB;go_enter Tryz.func160,Tryz.ntmps160
        go_wp2;go_ret;exact⟨au E.out.symm,ae _ _⟩
       | true =>
        cases F8:(index==0) with
        | false =>
         have E:Hid (_=false):=HB.out.trans (by simp only [F1,F2,F4,F5,F6,F7,F8,Bool.true_and,Bool.false_and,Bool.and_false,Bool.not_true,Bool.not_false,Bool.and_true])
         clear HB;go_enter Tryz.func160,Tryz.ntmps160
         go_wp2;go_ret;exact⟨au E.out.symm,ae _ _⟩
        | true =>
         have E:Hid (_=((gn:Int)==0)):=HB.out.trans (by simp only [F1,F2,F4,F5,F6,F7,F8,Bool.true_and,Bool.not_false,Bool.and_true])
         clear HB;go_enter Tryz.func160,Tryz.ntmps160
         go_wp2;go_ret;exact⟨au E.out.symm,ae _ _⟩
end Go.Proofs.YtffmodpgddecnaaGreatDoor.R
namespace Go.Proofs.YtffmodpgddecnaaGreatDoor.R
open Go.RowKit
structure Cc (w:World)(L:List Value)(c:Cl):Prop where
 ex:∃d g,L=cC c d g/\Is w c d g
theorem Cc.later {W w1:World}{L:List Value}{c:Cl}(hb:Below W.heap.size W w1)(h:Cc W L c):Cc w1 L c:=by
 obtain⟨d,g,e,hi⟩:=h.ex
 exact⟨d,g,e,hi.later hb⟩
theorem Cc.len {w:World}{L:List Value}{c:Cl}(h:Cc w L c):L.length=13:=by
 obtain⟨d,g,rfl,hi⟩:=h.ex
 rfl
theorem Cc.one {w:World}{L:List Value}{c:Cl}(h:Cc w L c):∀v∈L,v.oneCell'=true:=by
 obtain⟨d,g,rfl,hi⟩:=h.ex
 exact Ae _ _ _
theorem Cc.op {w:World}{L:List Value}{c:Cl}(h:Cc w L c):L[0]?=some (.int .i64 c.op):=by
 obtain⟨d,g,rfl,hi⟩:=h.ex
 rfl
theorem vI (p:Nat)(hp:p<10)(L:List Value)(c:Cl)(w0 w:World)(h:Cc w0 L c):Calls Tryz.prog 237 #[.agg L.toArray,.int .i64 (p:Int)] w λe w'=>∃L',e=.returned (.agg L'.toArray)/\Cc w0 L' (wo c p)/\Below w.heap.size w w':=by
 obtain⟨d,g,rfl,hi⟩:=h.ex
 refine (qD p hp c d g w).mono ?_
 rintro e w' ⟨rfl,hb⟩
 exact⟨cC (wo c p) (wd p d) (wg p g),rfl,⟨_,_,rfl,hi.wo p⟩,hb⟩
def EP (w:World)(b b2:Nat)(c:Cl)(ps:List Nat)(pa:Option Addr)(n:Nat)(t:Value)(w':World):Prop :=
 ∃(i:Nat) (L M:List Value),i<=n/\t=.int .i64 (i:Int)/\Bx w' b L/\Cc w L ((ps.take i).foldl wo c)/\Bx w' b2 M/\M.length=13/\RP w' (b2+1) pa n ps/\Below w.heap.size w w'
theorem tH (L:List Value)(c:Cl)(w:World)(h:Cc w L c):Calls Tryz.prog 161 #[.agg L.toArray] w λe w'=>∃L',e=.returned (.agg L'.toArray)/\Cc w' L' (JD c)/\Below w.heap.size w w':=by
 obtain⟨Z,hZl,hZo,hZz,hz⟩:=Gt
 have hZ0:(Z.toArray=#[])=False:=by simp;intro h;rw [h] at hZl;simp at hZl
 have H:Hid (Cc w L c):=h
 have hb1:Below w.heap.size w ((w.alloc (Obj.cells L.toArray 44)).alloc (Obj.cells Z.toArray 44)):=aC _ _ _
 have X1:Hid (Bx ((w.alloc (Obj.cells L.toArray 44)).alloc (Obj.cells Z.toArray 44)) w.heap.size L):=(Bx.new w L 44).later (ae _ _)
 have X2:Hid (Bx ((w.alloc (Obj.cells L.toArray 44)).alloc (Obj.cells Z.toArray 44)) (w.heap.size+1) Z):=by have:=Bx.new (w.alloc (Obj.cells L.toArray 44)) Z 44;simp at this;exact this
 have hc0:=X1.out.cell 0 h.op
 have PC:=ab hb1
 have HZ:=ab (And.intro hZl hZo)
 clear h hb1 hZl hZo hZz;go_enter Tryz.func161,Tryz.ntmps161
 go_upto_region 2 with (first|(go_at_call 155;refine (ki c.op _).mono ?_;rintro e w3 ⟨pa,n,cp,rfl,hrp,hn5,hb3,_⟩))
 have R0:Hid (EP w w.heap.size (w.heap.size+1) c (bH c.op) pa n (.int .i64 0) w3):=⟨0,L,Z,by omega,rfl,X1.out.later hb3,H.out,X2.out.later hb3,HZ.out.1,by simpa using hrp,aa PC.out hb3⟩
 have HN:=ab hrp.len
 clear hc0 X1 X2 hrp hb3;go_loopw [9] (EP w w.heap.size (w.heap.size+1) c (bH c.op) pa n) (λt _=>n - (intOf t).toNat)
 case atStart=>exact R0.out
 case round =>
  clear R0;obtain⟨i,M,Y,hi,rfl,hx1,hcc,hx2,hyl,hrp,hbw⟩:=hrel
  have ei:IntKind.i64.wrap ((i:Int)+1)=(i:Int)+1:=by rw [IntKind.wrap_i64];omega
  by_cases hlt:i<n
  ·have hdi:decide ((i:Int)<(n:Int))=true:=by simp;omega
   have hiP:i<(bH c.op).length:=by have:=HN.out;omega
   obtain⟨pb,rfl,hpb,hpc⟩:=hrp.cells i hiP
   have HT:Hid _:=List.take_succ_eq_append_getElem hiP
   have hp10:Hid ((bH c.op)[i]<10):=(qz c.op).1 _ (List.getElem_mem hiP)
   generalize (bH c.op)[i]=p at hpc HT hp10
   have P9:=ab (m7 hx1.range hcc.len)
   have HX:=ab hx1
   have Ry:=ab hx2
   have UX:=ab hrp
   have Ql:=ab hbw
   have HC:=ab hcc
   clear hx1 hx2 hrp hbw hcc;go_upto_region 4 with fail
   go_wp2_with (first|((with_reducible refine aV P9.out ?_ ?_);· rfl)|(go_at_call 237;refine (vI p hp10.out M _ w _ HC.out).mono ?_;rintro e w4 ⟨M',rfl,hcc4,hb4⟩;have Q0:=ab hcc4;have QK:=ab (HX.out.later hb4);have VC:=ab HC.out.len;have Vl:=ab hcc4.len;have RA:=ab hcc4.one;have PM:=ab hb4;have hst:=xP (by rw [<-VC.out];exact QK.out.there) Vl.out RA.out;clear hcc4 hb4))
   have hsw:=Ql.out.size
   have hBS:ah (·=w.heap.size) w4 (w4.setCells w.heap.size 0 M'):=ay (S:=(·=w.heap.size)) rfl M' 0 (ah.refl _ _)
   have UW:=ab hBS
   clear hBS;go_roundw
   case rel =>
    refine⟨i+1,M',Y,by omega,by go_num,QK.out.set (by rw [Vl.out,VC.out]),by rw [HT.out,List.foldl_append];exact Q0.out,(Ry.out.later PM.out).but UW.out (by omega),hyl,(UX.out.later PM.out).but UW.out (λk hk=>by omega),ah.below (aa Ql.out PM.out) UW.out (λk hk=>by omega)⟩
   case measure=>simp [intOf];omega
  ·obtain rfl:i=n:=by omega
   have hcu:Cc w M (JD c):=by
    have:=hcc
    rwa [List.take_of_length_le (by have:=HN.out;omega)] at this
   have P9:=ab (m7 hx1.range hcc.len)
   have hst:=xP (by rw [<-hyl];exact hx2.there) hcc.len hcc.one
   have hxs:Bx (wr.setCells (w.heap.size+1) 0 M) (w.heap.size+1) M:=hx2.set (by rw [hyl,hcc.len])
   have Xf:=ab (CU hxs.range hcc.len)
   have PI:Hid (Below w.heap.size w (wr.setCells (w.heap.size+1) 0 M)):=ah.below hbw (ay (S:=(·=w.heap.size+1)) rfl M 0 (ah.refl _ _)) (λk hk=>by omega)
   have Wk:=ab hcu
   have hml:=hcc.len
   clear hx1 hx2 hrp hbw hcc hxs hcu;go_wp2_with (first|((with_reducible refine aV P9.out ?_ ?_);· rfl))
   refine bodyPost_ret (v:=.agg M.toArray) ?_ rfl ⟨M,rfl,Wk.out.later PI.out,PI.out⟩
   have hlv:=Xf.out
   simp [results,Tryz.results161,asAddr,hlv]
theorem wK (L:List Value)(c:Cl)(w:World)(h:Cc w L c):Calls Tryz.prog 160 #[.agg L.toArray] w λe w'=>e=.returned (.bool (FN c))/\Below w.heap.size w w':=by
 obtain⟨d,g,rfl,hi⟩:=h.ex
 exact pZ c d g w hi
theorem m_ (L:List Value)(c:Cl)(w0 w:World)(h:Cc w0 L c):Calls Tryz.prog 159 #[.agg L.toArray] w λe w'=>e=.returned (.bool (Ew c))/\Below w.heap.size w w':=by
 obtain⟨d,g,rfl,hi⟩:=h.ex
 exact qe c d g w
theorem iJ (L:List Value)(c:Cl)(w:World)(h:Cc w L c):Calls Tryz.prog 158 #[.agg L.toArray] w λe w'=>e=.returned (.bool (dM c))/\Below w.heap.size w w':=by
 obtain⟨d,g,rfl,hi⟩:=h.ex
 exact oX c d g w hi
theorem ld (L:List Value)(c:Cl)(w:World)(h:Cc w L c):Calls Tryz.prog 87 #[.agg L.toArray] w λe w'=>e=.returned (.bool (fm c))/\Below w.heap.size w w':=by
 have X1:Hid (Bx (w.alloc (Obj.cells L.toArray 44)) w.heap.size L):=Bx.new w L 44
 have hc0:=X1.out.cell 0 h.op
 have HL:=ab h.len
 have HC:Hid (Cc (w.alloc (Obj.cells L.toArray 44)) L c):=h.later (ae _ _)
 have QH:=ab (m7 X1.out.range h.len)
 have PL:Hid (Below w.heap.size w (w.alloc (Obj.cells L.toArray 44))):=ae _ _
 clear h;cases F1:wi c.op 1 10 with
 | false =>
  have E:Hid (fm c=false):=by unfold Hid fm;rw [F1];simp
  go_enter Tryz.func87,Tryz.ntmps87
  go_wp2_with (first|(go_at_call 157;refine (aS _ _ _ _).mono ?_;rintro e w1 ⟨rfl,rfl⟩;simp only [F1]))
  go_ret;exact⟨au E.out.symm,PL.out⟩
 | true =>
 cases F2:dM c with
 | false =>
  have E:Hid (fm c=false):=by unfold Hid fm;rw [F1,F2];simp
  go_enter Tryz.func87,Tryz.ntmps87
  go_wp2_with (first|((with_reducible refine gS QH.out ?_ ?_ ?_);(· rfl);(· rfl))|(go_at_call 157;refine (aS _ _ _ _).mono ?_;rintro e w1 ⟨rfl,rfl⟩;simp only [F1])|(go_at_call 158;refine (iJ L c _ HC.out).mono ?_;rintro e w2 ⟨rfl,hb2⟩;simp only [F2];have PB:=ab hb2;clear hb2))
  go_ret;exact⟨au E.out.symm,aa PL.out PB.out⟩
 | true =>
 cases F3:Ew c with
 | false =>
  have E:Hid (fm c=false):=by unfold Hid fm;rw [F1,F2,F3];simp
  go_enter Tryz.func87,Tryz.ntmps87
  go_wp2_with (first|((with_reducible refine gS Qy.out ?_ ?_ ?_);(· rfl);(· rfl))|((with_reducible refine gS QH.out ?_ ?_ ?_);(· rfl);(· rfl))|(go_at_call 157;refine (aS _ _ _ _).mono ?_;rintro e w1 ⟨rfl,rfl⟩;simp only [F1])|(go_at_call 158;refine (iJ L c _ HC.out).mono ?_;rintro e w2 ⟨rfl,hb2⟩;simp only [F2];have PB:=ab hb2;have Qy:=ab (m7 (X1.out.later hb2).range HL.out);clear hb2)|(go_at_call 159;refine (m_ L c _ _ HC.out).mono ?_;rintro e w3 ⟨rfl,hb3⟩;simp only [F3];have PE:=ab hb3;clear hb3))
  go_ret;exact⟨au E.out.symm,aa (aa PL.out PB.out) PE.out⟩
 | true =>
  have E:Hid (fm c=FN (JD c)):=by unfold Hid fm;rw [F1,F2,F3];simp
  go_enter Tryz.func87,Tryz.ntmps87
  go_wp2_with (first|((with_reducible refine gS RR.out ?_ ?_ ?_);(· rfl);(· rfl))|((with_reducible refine gS Qy.out ?_ ?_ ?_);(· rfl);(· rfl))|((with_reducible refine gS QH.out ?_ ?_ ?_);(· rfl);(· rfl))|(go_at_call 157;refine (aS _ _ _ _).mono ?_;rintro e w1 ⟨rfl,rfl⟩;simp only [F1])|(go_at_call 158;refine (iJ L c _ HC.out).mono ?_;rintro e w2 ⟨rfl,hb2⟩;simp only [F2];have PB:=ab hb2;have Qy:=ab (m7 (X1.out.later hb2).range HL.out);clear hb2)|(go_at_call 159;refine (m_ L c _ _ HC.out).mono ?_;rintro e w3 ⟨rfl,hb3⟩;simp only [F3];have PE:=ab hb3;have RR:=ab (m7 ((X1.out.later PB.out).later hb3).range HL.out);clear hb3)|(go_at_call 161;refine (tH L c _ ((HC.out.later PB.out).later PE.out)).mono ?_;rintro e w4 ⟨L4,rfl,hcc4,hb4⟩;have Q0:=ab hcc4;have PM:=ab hb4;clear hcc4 hb4)|(go_at_call 160;refine (wK L4 _ _ Q0.out).mono ?_;rintro e w5 ⟨rfl,hb5⟩;have PI:=ab hb5;clear hb5))
  go_ret;exact⟨au E.out.symm,aa (aa (aa (aa PL.out PB.out) PE.out) PM.out) PI.out⟩
theorem wN {w:World}{b1 b2:Nat}{e1 e2:TypeId}{s1 s2:Nat}{v1 v2:Value}{n1 n2:Nat}{x1 x2:List Value}(h1:w.ownsRow b1 e1 s1 v1 n1 x1)(h2:w.ownsRow b2 e2 s2 v2 n2 x2)(hne:e1≠e2):∀k,v1.ownBlock=some k->v2.ownBlock≠some k:=by
 intro k k1 k2;rcases h1.2 with ⟨rfl,_⟩|⟨g,cap,cur,rfl,hg,hh,r⟩
 ·cases k1
 ·rcases h2.2 with ⟨rfl,_⟩|⟨g',cap',cur',rfl,hg',hh',r'⟩
  ·cases k2
  ·simp [Value.ownBlock] at k1 k2
   subst k1;subst k2;rw [hh] at hh';simp at hh'
   exact hne hh'.2
theorem Own.Fa {S:Nat->Prop}{w w':World}{base:Nat}{a:Option Addr}{n cap:Nat}{L:List Nat}(hb:ah S w w')(h:Own w base a n cap L)(hS:∀k,aJ a k->¬S k):Own w' base a n cap L:=by
 refine⟨⟨h.row.1,?_⟩,h.small⟩
 rcases h.row.2 with h|⟨g,cap,cur,hv,hg,hh,r⟩
 ·exact .inl h
 ·have hg':aJ a g:=by
   simp only [Value.slice.injEq] at hv;exact⟨_,hv.1,rfl⟩
  exact .inr ⟨g,cap,cur,hv,hg,by rw [hb.block g (Array.getElem?_eq_some_iff.1 hh).1 (hS g hg')];exact hh,r⟩
theorem Ha:(Tryz.prog.info? 38).map (λi=>(i.zero,i.size,i.bytes))=some (some (.slice none 0 0),1,24):=by kernel_rfl
def bY (rs:List R4):List Value:=rs.map sv
structure OR (w w':World)(a:Option Addr)(n cap:Nat)(rs:List R4):Prop where
 row:w'.ownsRow w.heap.size 38 1 (.slice a n cap) n (bY rs)
 each:∀r∈rs,Row w r.1 r.2.1 r.2.2.1 r.2.2.2\/Own w' w.heap.size r.1 r.2.1 r.2.2.1 r.2.2.2
theorem OR.len {w w':World}{a:Option Addr}{n cap:Nat}{rs:List R4}(h:OR w w' a n cap rs):rs.length=n:=by
 have:=h.row.1
 simp [bY] at this;exact this
theorem OR.later {w w1 w2:World}{a:Option Addr}{n cap:Nat}{rs:List R4}(h:OR w w1 a n cap rs)(hb:Below w1.heap.size w1 w2):OR w w2 a n cap rs :=
 ⟨nM hb h.row,λr hr=>by
  rcases h.each r hr with h1|h1
  ·exact .inl h1
  ·exact .inr (h1.later hb)⟩
def Lr (w w':World)(a:Option Addr)(n c:Nat)(L:List Nat):Prop:=Row w a n c L\/Own w' w.heap.size a n c L
theorem Lr.later {w w1 w2:World}{a:Option Addr}{n c:Nat}{L:List Nat}(h:Lr w w1 a n c L)(hb:Below w1.heap.size w1 w2):Lr w w2 a n c L:=by
 rcases h with h|h
 ·exact .inl h
 ·exact .inr (h.later hb)
theorem lX {w w1:World}{a:Option Addr}{n cap:Nat}{rs:List R4}{x:Option Addr}{m c:Nat}{L:List Nat}(h:OR w w1 a n cap rs)(hl:Lr w w1 x m c L)(hb:Below w.heap.size w w1)(hr:n+1<=2000) :
  ∃a' cap' w',(Builtin.append_ #[78,78] 78 #[.slice a n cap,.slice (some ⟨w1.heap.size,0,none⟩) 1 1]).run Tryz.prog (w1.alloc (Obj.cells #[.slice x m c] 38))=.ok (.slice a' (n+1) cap') w'/\OR w w' a' (n+1) cap' (rs++[(x,m,c,L)])/\Below w.heap.size w w'/\ah (aJ a) w1 w'/\∀k,aJ a' k->aJ a k\/w1.heap.size<=k:=by
 obtain⟨i,hi,hz0,hz1,hz2⟩:=info_parts Ha
 have hb1:=ae w1 (Obj.cells #[.slice x m c] 38)
 have h1:=h.later hb1
 obtain⟨v',w',hrun,h2,h3,_,h5⟩:=run_append_own_at (P:=Tryz.prog) (w1.alloc (Obj.cells #[.slice x m c] 38)) w.heap.size 78 78 38 i _ 1 24 Tryz.underlying78 hi hz0 hz1 hz2 rfl (by decide) _ n _ h1.row ⟨w1.heap.size,0,none⟩ 1 1 [.slice x m c] rfl (cell_one_new _ _ _) (by intro u hu;simp at hu;subst hu;rfl) (by unfold maxLen;omega) (by omega) (by have:=hb.size;simp;omega)
 obtain⟨a',cap',rfl⟩:∃a' cap',v'=.slice a' (n+1) cap':=by
  rcases h2.2 with ⟨h,h'⟩|⟨g',cap',_,h,_⟩
  ·exact⟨.none,0,by rw [h,h']⟩
  ·exact⟨_,cap',h⟩
 have hbut:ah (aJ a) (w1.alloc (Obj.cells #[.slice x m c] 38)) w':=⟨h3.os,h3.tape,h3.output,h3.size,λj hj hn=>h3.block j hj (λe=>hn (aJ.of.1 e.symm))⟩
 have hown:∀(y:Option Addr) (p q:Nat) (M:List Nat),Own (w1.alloc (Obj.cells #[.slice x m c] 38)) w.heap.size y p q M->Own w' w.heap.size y p q M:=λy p q M hM=>hM.Fa hbut (λk hk hk2=>wN hM.row h1.row (by decide) k (aJ.of.2 hk) (aJ.of.2 hk2))
 refine⟨a',cap',w',hrun,⟨by simpa [bY,sv] using h2,λr hr=>?_⟩,ah.below (aa hb hb1) hbut (λk hk=>bu h.row k (aJ.of.2 hk)),(ah.of hb1).trans hbut,λj hj=>?_⟩
 rotate_left
 ·rcases h5 with h5|h5
  ·rw [aJ.of.2 hj] at h5
   exact .inl (aJ.of.1 h5.symm)
  ·rw [aJ.of.2 hj] at h5
   right
   simp at h5
   omega
 rcases List.mem_append.1 hr with hr|hr
 ·rcases h1.each r hr with h6|h6
  ·exact .inl h6
  ·exact .inr (hown _ _ _ _ h6)
 ·simp only [List.mem_singleton] at hr
  subst hr;rcases hl.later hb1 with h6|h6
  ·exact .inl h6
  ·exact .inr (hown _ _ _ _ h6)
theorem OR.one {w w1:World}{x:Option Addr}{m c:Nat}{L:List Nat}(hl:Lr w w1 x m c L)(hb:Below w.heap.size w w1):OR w (w1.alloc (Obj.cells #[.slice x m c] 38)) (some ⟨w1.heap.size,0,none⟩) 1 1 [(x,m,c,L)]:=by
 refine⟨⟨rfl,.inr ⟨w1.heap.size,1,#[.slice x m c],rfl,hb.size,heap_alloc_new _ _,by omega,by unfold maxLen;omega,rfl,rfl⟩⟩,λr hr=>?_⟩
 simp only [List.mem_singleton] at hr;subst hr;exact hl.later (ae _ _)
theorem OR.two {w w1:World}{x y:Option Addr}{m c p q:Nat}{L M:List Nat}(hl:Lr w w1 x m c L)(hm:Lr w w1 y p q M)(hb:Below w.heap.size w w1):OR w (w1.alloc (Obj.cells #[.slice x m c,.slice y p q] 38)) (some ⟨w1.heap.size,0,none⟩) 2 2 [(x,m,c,L),(y,p,q,M)]:=by
 refine⟨⟨rfl,.inr ⟨w1.heap.size,2,#[.slice x m c,.slice y p q],rfl,hb.size,heap_alloc_new _ _,by omega,by unfold maxLen;omega,rfl,rfl⟩⟩,λr hr=>?_⟩
 simp only [List.mem_cons,List.mem_nil_iff,or_false] at hr;rcases hr with rfl|rfl
 ·exact hl.later (ae _ _)
 ·exact hm.later (ae _ _)
theorem uK {w w1:World}{a:Option Addr}{n cap:Nat}{rs:List R4}(h:OR w w1 a n cap rs)(hb:Below w.heap.size w w1)(hn:0<n)(hr:n<1000)(hc:(bS rs).length<=140737488355328) :
  Calls Tryz.prog 165 #[.slice a n cap] w1 λe w'=>∃a' n' cap',e=.returned (.slice a' n' cap')/\Own w' w1.heap.size a' n' cap' (bS rs)/\Below w1.heap.size w1 w':=by
 have hl:=h.len
 have hrow:=h.row
 rcases hrow.2 with ⟨h1,h2⟩|⟨g,cp,cur,hv,hg,hh,r⟩
 ·omega
 ·simp only [Value.slice.injEq] at hv
  obtain⟨rfl,_,rfl⟩:=hv
  refine lj g cap n rs w1 hl.symm (by omega) (λj hj=>?_) (λr hr=>?_) hc
  ·have:=hrow.cells (g:=g) rfl j (sv rs[j]) (by simp [bY,hj])
   rw [aQ] at this;exact this
  ·rcases h.each r hr with h6|h6
   ·exact h6.later hb
   ·exact h6.read
end Go.Proofs.YtffmodpgddecnaaGreatDoor.R
namespace Go.Proofs.YtffmodpgddecnaaGreatDoor.R.W
theorem mH:aq=2 ^ 64:=rfl
structure im (a b N:Nat):Prop where
 ha:a<aq
 hb:b<aq
 hn:N=a*aq+b
structure il (a b:Int)(N:Nat):Prop where
 ex:∃x y:Nat,a=x/\b=y/\im x y N
end Go.Proofs.YtffmodpgddecnaaGreatDoor.R.W
namespace Go.Proofs.YtffmodpgddecnaaGreatDoor.R.W
open Go.RowKit
end Go.Proofs.YtffmodpgddecnaaGreatDoor.R.W
namespace Go.Proofs.YtffmodpgddecnaaGreatDoor.R.W
open Go.RowKit
end Go.Proofs.YtffmodpgddecnaaGreatDoor.R.W
namespace Go.Proofs.YtffmodpgddecnaaGreatDoor.R.W
open Go.RowKit
def ig (w:World)(g o h:Nat):Nat->World
 | 0=>w
 | k+1=>(ig w g o h k).setCell ⟨g,o+k,none⟩ (.int .u8 ((h:Int) / 2 ^ (8*k)%256))
theorem _root_.Go.Proofs.YtffmodpgddecnaaGreatDoor.az.setCell {w:World}{p q:Addr}{u v:Value}(h:az w p v):∃v',az (w.setCell q u) p v':=by
 obtain⟨v',hv'⟩:=cell?_setCell_some (w:=w) (p:=q) (x:=u) (q:=p) (v:=v) h.1
 exact⟨v',hv',by rw [World.frozen?_setCell];exact h.2⟩
theorem vK {w:World}{g o h:Nat}(hc:∀i,i<8->∃v,az w ⟨g,o+i,none⟩ v)(k:Nat):∀i,i<8->∃v,az (ig w g o h k) ⟨g,o+i,none⟩ v:=by
 induction k with
 | zero=>exact hc
 | succ k ih =>
  intro i hi;obtain⟨v,hv⟩:=ih i hi
  exact hv.setCell
theorem j8 (g o len cap h:Nat)(w:World)(hl:8<=len)(hc:∀i,i<8->∃v,az w ⟨g,o+i,none⟩ v) :
  Calls Tryz.prog 311 #[.slice (some ⟨g,o,none⟩) len cap,.int .u64 (h:Int)] w λe w'=>e=.returned (.tuple #[])/\w'=ig w g o h 8:=by
 have HC:Hid (∀i,i<8->∃v,az w ⟨g,o+i,none⟩ v):=hc
 clear hc;go_enter Tryz.func311,Tryz.ntmps311
 go_wp2;go_loopw [5] (λi w'=>∃k:Nat,k<=8/\i=.int .i64 k/\w'=ig w g o h k) (λi _=>8 - (intOf i).toNat)
 case atStart=>exact⟨0,by omega,rfl,rfl⟩
 case round =>
  obtain⟨k,hk,rfl,rfl⟩:=hrel
  by_cases hlt:k<8
  ·obtain⟨v,c0,f0⟩:=vK (h:=h) HC.out k k hlt
   have hlen:(k:Int)<(len:Int):=by omega
   go_wp2;refine⟨⟨k+1,by omega,by go_num,rfl⟩,by simp [intOf];omega⟩
  ·go_wp2
   go_end0
   obtain rfl:k=8:=by omega
   exact⟨rfl,rfl⟩
def cZ:Array Value:=Array.replicate 16 (.int .u8 0)
theorem GA (w:World):(Instr.makeSlice 38 (.int .i64 16) (.int .i64 16)).run Tryz.prog w=.ok (.slice (some ⟨w.heap.size,0,none⟩) 16 16) (w.alloc (.cells cZ 5)):=by kernel_rfl
theorem xj {i:Nat}(h:i<16):cZ[i]?=some (.int .u8 0):=by
 simp [cZ,h]
theorem aH {w:World}{c:Array Value}{t:TypeId}{i:Nat}{v:Value}(h:c[i]?=some v):az (w.alloc (.cells c t)) ⟨w.heap.size,i,none⟩ v :=
 ⟨by simp [go_sem,h],by simp [go_sem]⟩
theorem _root_.Go.Proofs.YtffmodpgddecnaaGreatDoor.az.drew {w:World}{p:Addr}{v:Value}(h:az w p v):az w.drew p v:=h
theorem lS {w:World}{g o h:Nat}{p:Addr}(hp:p.block≠g):∀k,(ig w g o h k).cell? p=w.cell? p
 | 0=>rfl
 | k+1=>by
  show ((ig w g o h k).setCell _ _).cell? p=_
  rw [World.cell?_setCell_other _ _ _ _ (λe=>hp (by rw [<-e]))]
  exact lS hp k
theorem rC (w:World)(g o h:Nat){p:Addr}{v:Value}(hp:az w p v):∀k,∃v',az (ig w g o h k) p v'
 | 0=>⟨v,hp⟩
 | k+1=>by
  obtain⟨v',hv'⟩:=rC w g o h hp k
  exact hv'.setCell
theorem nt (w:World)(A:Obj)(i:Nat)(h:i<16):az ((w.alloc A).alloc (.cells cZ 5)) ⟨w.heap.size+1,i,none⟩ (.int .u8 0):=by
 have:=aH (w:=w.alloc A) (t:=5) (xj h)
 simpa using this
theorem wV (a b:Nat)(w:World) :
  Calls Tryz.prog 249 #[.agg #[.int .u64 (a:Int),.int .u64 (b:Int)]] w λe w'=>e=.returned (.slice (some ⟨w.heap.size+1,0,none⟩) 16 16) /\
   w'=ig (ig ((w.alloc (Obj.cells #[Value.int IntKind.u64 a,Value.int IntKind.u64 b] 30)).alloc (.cells cZ 5)).drew (w.heap.size+1) 0 b 8).drew (w.heap.size+1) 8 a 8:=by
 have hmk:=GA
 have h1:Hid (∀i,i<8->∃v,az (((w.alloc (Obj.cells #[Value.int IntKind.u64 a,Value.int IntKind.u64 b] 30)).alloc (.cells cZ 5)).drew) ⟨w.heap.size+1,0+i,none⟩ v):=λi hi=>⟨_,(nt w _ _ (by omega)).drew⟩
 have h2:Hid (∀i,i<8->∃v,az ((ig ((w.alloc (Obj.cells #[Value.int IntKind.u64 a,Value.int IntKind.u64 b] 30)).alloc (.cells cZ 5)).drew (w.heap.size+1) 0 b 8).drew) ⟨w.heap.size+1,8+i,none⟩ v):=λi hi=>by
  obtain⟨v,hv⟩:=rC _ (w.heap.size+1) 0 b (nt w (Obj.cells #[Value.int IntKind.u64 a,Value.int IntKind.u64 b] 30) (8+i) (by omega)).drew 8
  exact⟨v,hv.drew⟩
 have h3:(ig ((w.alloc (Obj.cells #[Value.int IntKind.u64 a,Value.int IntKind.u64 b] 30)).alloc (.cells cZ 5)).drew (w.heap.size+1) 0 b 8).cell? ⟨w.heap.size,0,none⟩=some (.int .u64 a):=by
  rw [lS (by simp)];simp [go_sem]
 go_enter Tryz.func249,Tryz.ntmps249
 go_wp2;go_region_with (first|(go_at_call 311;refine (j8 _ _ _ _ b _ (by omega) h1.out).mono ?_;rintro e w1 ⟨rfl,rfl⟩))
 go_wp2;go_region_with (first|(go_at_call 311;refine (j8 _ _ _ _ a _ (by omega) h2.out).mono ?_;rintro e w1 ⟨rfl,rfl⟩))
 go_wp2;go_ret;exact⟨rfl,rfl⟩
end Go.Proofs.YtffmodpgddecnaaGreatDoor.R.W
namespace Go.Proofs.YtffmodpgddecnaaGreatDoor.R.W
open Go.RowKit
def nw (N i:Nat):Nat:=N / 256 ^ i%256
def bytesOf (N:Nat):List Nat:=(List.range 16).map (nw N)
theorem CE {a b N:Nat}(h:im a b N){i:Nat}(hi:i<8):((b:Int) / 2 ^ (8*i)%256)=(nw N i:Int):=by
 have e1:((2:Int) ^ (8*i))=((2 ^ (8*i):Nat):Int):=by simp
 have e2:(256:Nat) ^ i=2 ^ (8*i):=by rw [Nat.pow_mul]
 rw [e1];unfold nw;rw [e2,h.hn];obtain⟨j,hj⟩:∃j,aq=2 ^ (8*i)*(256*2 ^ j):=⟨64 - 8*i - 8,by
  have:(256:Nat)=2 ^ 8:=rfl
  rw [this,<-Nat.pow_add,<-Nat.pow_add,mH];congr 1;omega⟩
 have hp:0<2 ^ (8*i):=Nat.two_pow_pos _
 have e3:(a*aq+b) / 2 ^ (8*i)%256=b / 2 ^ (8*i)%256:=by
  rw [hj,Nat.add_comm,Nat.mul_comm a,Nat.mul_assoc,Nat.add_mul_div_left _ _ hp,Nat.mul_assoc,Nat.add_mul_mod_self_left]
 rw [e3];simp
theorem Dg {a b N:Nat}(h:im a b N){i:Nat}:((a:Int) / 2 ^ (8*i)%256)=(nw N (8+i):Int):=by
 have e1:((2:Int) ^ (8*i))=((2 ^ (8*i):Nat):Int):=by simp
 have e2:(256:Nat) ^ (8+i)=aq*2 ^ (8*i):=by
  rw [Nat.pow_add,mH];have:(256:Nat)=2 ^ 8:=rfl
  rw [this,<-Nat.pow_mul,<-Nat.pow_mul]
 rw [e1];unfold nw;rw [e2,h.hn,<-Nat.div_div_eq_div_mul];have e4:(a*aq+b) / aq=a:=by
  rw [Nat.add_comm,Nat.add_mul_div_right _ _ (by decide),Nat.div_eq_of_lt h.hb,Nat.zero_add]
 rw [e4];simp
def dG (cs:Array Value)(o h:Nat):Nat->Array Value
 | 0=>cs
 | k+1=>(dG cs o h k).setIfInBounds (o+k) (.int .u8 ((h:Int) / 2 ^ (8*k)%256))
theorem oh {w:World}{g:Nat}{cs:Array Value}{t:TypeId}(hg:w.heap[g]?=some (.cells cs t (0,0)))(o h:Nat):∀k,(ig w g o h k).heap[g]?=some (.cells (dG cs o h k) t (0,0))
 | 0=>hg
 | k+1=>heap_setCell_same _ _ _ _ _ _ (oh hg o h k)
theorem iK {B:Nat}{w0 w:World}{g:Nat}(hb:Below B w0 w)(hg:B<=g)(o h:Nat):∀k,Below B w0 (ig w g o h k)
 | 0=>hb
 | k+1=>(iK hb hg o h k).setCell hg _
theorem eX (cs:Array Value)(o h:Nat):∀k,(dG cs o h k).size=cs.size
 | 0=>rfl
 | k+1=>by unfold dG;rw [Array.size_setIfInBounds];exact eX cs o h k
theorem lE (cs:Array Value)(o h i:Nat)(hi:i<cs.size):∀k,(dG cs o h k)[i]?=if o<=i/\i<o+k then some (.int .u8 ((h:Int) / 2 ^ (8*(i - o))%256)) else cs[i]?
 | 0=>by unfold dG;rw [if_neg (by omega)]
 | k+1=>by
  unfold dG;rw [Array.getElem?_setIfInBounds,lE cs o h i hi k,eX];by_cases h1:o+k=i
  ·subst h1
   rw [if_pos rfl,if_pos hi,if_pos (by omega),Nat.add_sub_cancel_left]
  ·rw [if_neg h1]
   by_cases h2:o<=i/\i<o+k
   ·rw [if_pos h2,if_pos (by omega)]
   ·rw [if_neg h2,if_neg (by omega)]
theorem oR (l:List Nat)(i:Nat):(bG l).toArray[i]?=l[i]?.map λ(n:Nat)=>Value.int .u8 (n:Int):=by simp [bG]
theorem qc (N i:Nat)(h:i<16):(bytesOf N)[i]?=some (nw N i):=by simp [bytesOf,h]
theorem gN:cZ.size=16:=by simp [cZ]
theorem zg {a b N:Nat}(h:im a b N):dG (dG cZ 0 b 8) 8 a 8=(bG (bytesOf N)).toArray:=by
 have hs:(dG (dG cZ 0 b 8) 8 a 8).size=16:=by rw [eX,eX,gN]
 apply Array.ext_getElem?
 intro i;by_cases hi:i<16
 ·rw [lE _ _ _ _ (by rw [eX,gN];exact hi),lE _ _ _ _ (by rw [gN];exact hi),oR,qc _ _ hi]
  by_cases h1:8<=i
  ·rw [if_pos (by omega)]
   have:=Dg h (i:=i - 8)
   rw [show 8+(i - 8)=i by omega] at this;rw [this];rfl
  ·rw [if_neg (by omega),if_pos (by omega),Nat.sub_zero,CE h (by omega)];rfl
 ·rw [Array.getElem?_eq_none (by omega),Array.getElem?_eq_none]
  simp [bG,bytesOf];omega
theorem yd (w:World)(A B:Obj):((w.alloc A).alloc B).heap[w.heap.size+1]?=some B:=by
 show ((w.heap.push A).push B)[w.heap.size+1]?=some B
 rw [Array.getElem?_push,if_pos (by simp)]
theorem gQ {w:World}{g:Nat}{cs:Array Value}{t:TypeId}(hg:w.heap[g]?=some (.cells cs t (0,0)))(o h k:Nat):(ig w.drew g o h k).heap[g]?=some (.cells (dG cs o h k) t (0,0)) :=
 oh (w:=w.drew) (show w.heap[g]?=_ from hg) o h k
theorem jS (a b:Int)(N:Nat)(w:World)(h:il a b N) :
  Calls Tryz.prog 249 #[.agg #[.int .u64 a,.int .u64 b]] w λe w'=>∃g,e=.returned (.slice (some ⟨g,0,none⟩) 16 16)/\w.heap.size<=g/\w'.heap[g]?=some (.cells (bG (bytesOf N)).toArray 5 (0,0))/\Below w.heap.size w w':=by
 obtain⟨a,b,rfl,rfl,h⟩:=h
 refine (wV a b w).mono ?_
 rintro e w' ⟨rfl,rfl⟩
 have k1:=gQ (yd w (Obj.cells #[Value.int IntKind.u64 a,Value.int IntKind.u64 b] 30) (.cells cZ 5)) 0 b 8
 have k2:=gQ k1 8 a 8
 rw [zg h] at k2;have b1:=iK (aC w (Obj.cells #[Value.int IntKind.u64 a,Value.int IntKind.u64 b] 30) (.cells cZ 5)).drew (Nat.le_succ w.heap.size) 0 b 8
 have b2:=iK b1.drew (Nat.le_succ w.heap.size) 8 a 8
 exact⟨w.heap.size+1,rfl,Nat.le_succ _,k2,b2⟩
end Go.Proofs.YtffmodpgddecnaaGreatDoor.R.W
namespace Go.Proofs.YtffmodpgddecnaaGreatDoor.R
open Go.RowKit
theorem p8 (v:Nat)(hv:v<256)(w:World):Calls Tryz.prog 176 #[.slice none 0 0,.int .u8 (v:Int)] w λe w'=>∃a c,e=.returned (.slice a 1 c)/\Own w' w.heap.size a 1 c (cI v 1)/\Below w.heap.size w w':=by
 refine (J1 none 0 0 [] v w hv (dS w) (by omega)).mono ?_
 rintro e w' ⟨a,c,rfl,h,hb⟩
 exact⟨a,c,rfl,h,hb⟩
theorem JN (v:Nat)(hv:v<65536)(w:World):Calls Tryz.prog 164 #[.slice none 0 0,.int .u16 (v:Int)] w λe w'=>∃a c,e=.returned (.slice a 2 c)/\Own w' w.heap.size a 2 c (cI v 2)/\Below w.heap.size w w':=by
 refine (IJ none 0 0 [] v w hv (dS w) (by omega)).mono ?_
 rintro e w' ⟨a,c,rfl,h,hb⟩
 exact⟨a,c,rfl,h,hb⟩
theorem KZ (v:Nat)(hv:v<4294967296)(w:World):Calls Tryz.prog 309 #[.slice none 0 0,.int .u32 (v:Int)] w λe w'=>∃a c,e=.returned (.slice a 4 c)/\Own w' w.heap.size a 4 c (cI v 4)/\Below w.heap.size w w':=by
 refine (Jc none 0 0 [] v w hv (dS w) (by omega)).mono ?_
 rintro e w' ⟨a,c,rfl,h,hb⟩
 exact⟨a,c,rfl,h,hb⟩
theorem K1 (v:Nat)(hv:v<18446744073709551616)(w:World):Calls Tryz.prog 248 #[.slice none 0 0,.int .u64 (v:Int)] w λe w'=>∃a c,e=.returned (.slice a 8 c)/\Own w' w.heap.size a 8 c (cI v 8)/\Below w.heap.size w w':=by
 refine (IG none 0 0 [] v w hv (dS w) (by omega)).mono ?_
 rintro e w' ⟨a,c,rfl,h,hb⟩
 exact⟨a,c,rfl,h,hb⟩
theorem eS (n:Int)(w:World):Calls Tryz.prog 247 #[.int .i64 n] w λe w'=>∃a c,e=.returned (.slice a 4 c)/\Own w' w.heap.size a 4 c (cI (sg n) 4)/\Below w.heap.size w w':=by
 have e1:IntKind.u32.wrap n=(sg n:Int):=by rw [IntKind.wrap_u32];unfold sg;omega
 have hv:=I_ n
 generalize sg n=v at e1 hv ⊢
 have H:=ab hv
 clear hv;go_enter Tryz.func247,Tryz.ntmps247
 go_wp2_with (first|(go_at_call 309;refine (KZ v H.out _).mono ?_;rintro e w1 ⟨a,c,rfl,h,hb⟩))
 go_ret;exact⟨_,_,rfl,h,hb⟩
theorem qU (y:Bool)(w:World):Calls Tryz.prog 250 #[.bool y] w λe w'=>∃a c,e=.returned (.slice a 1 c)/\Own w' w.heap.size a 1 c (cI (if y then 1 else 0) 1)/\Below w.heap.size w w':=by
 cases y with
 | true =>
  go_enter Tryz.func250,Tryz.ntmps250
  go_wp2_with (first|(go_at_call 176;refine (p8 1 (by omega) _).mono ?_;rintro e w1 ⟨a,c,rfl,hwn,hb⟩))
  go_ret;exact⟨_,_,rfl,hwn,hb⟩
 | false =>
  go_enter Tryz.func250,Tryz.ntmps250
  go_wp2_with (first|(go_at_call 176;refine (p8 0 (by omega) _).mono ?_;rintro e w1 ⟨a,c,rfl,hwn,hb⟩))
  go_ret;exact⟨_,_,rfl,hwn,hb⟩
theorem qK (hi lo:Nat)(h1:hi<18446744073709551616)(h2:lo<18446744073709551616):W.bytesOf (hi*aq+lo)=cI lo 8++cI hi 8:=by
 have key:∀(a b:Nat),cI (a+256 ^ 8*b) 16=cI a 8++cI b 8\/256 ^ 8<=a:=by
  intro a b;by_cases ha:a<256 ^ 8
  ·left
   have e:∀v,cI v 16=cI v 8++cI (v / 256 ^ 8) 8:=by
    intro v;simp only [cI,List.range_succ,List.range_zero,List.map_append,List.map_nil,List.map_cons,List.nil_append,List.cons_append,Nat.div_div_eq_div_mul,<-Nat.pow_add]
   rw [e,Nat.add_mul_div_left _ _ (by decide),Nat.div_eq_of_lt ha,Nat.zero_add,<-uY _ 8 8 (Nat.le_refl _),Nat.add_mul_mod_self_left,uY _ 8 8 (Nat.le_refl _)]
  ·right;omega
 rcases key lo hi with h|h
 ·rw [<-h]
  unfold W.bytesOf cI;have:hi*aq+lo=lo+256 ^ 8*hi:=by unfold aq;omega
  rw [this];rfl
 ·omega
theorem mZ (hi lo:Nat)(w:World)(h1:hi<18446744073709551616)(h2:lo<18446744073709551616) :
  Calls Tryz.prog 249 #[.agg #[.int .u64 (hi:Int),.int .u64 (lo:Int)]] w λe w'=>∃a c,e=.returned (.slice a 16 c)/\Own w' w.heap.size a 16 c (cI lo 8++cI hi 8)/\Below w.heap.size w w':=by
 refine (W.jS hi lo (hi*aq+lo) w ⟨hi,lo,rfl,rfl,⟨h1,h2,rfl⟩⟩).mono ?_
 rintro e w' ⟨g,rfl,hg,hh,hb⟩
 rw [qK hi lo h1 h2] at hh;have hs:∀x∈cI lo 8++cI hi 8,x<256:=λx hx=>by
  rcases List.mem_append.1 hx with h|h
  ·exact oq _ _ x h
  ·exact oq _ _ x h
 exact⟨_,_,rfl,⟨⟨by simp [bG,cT],.inr ⟨g,16,_,rfl,hg,hh,by omega,by unfold maxLen;omega,by simp [bG,cT],List.take_of_length_le (by simp [bG,cT])⟩⟩,hs⟩,hb⟩
end Go.Proofs.YtffmodpgddecnaaGreatDoor.R
