import Derived.Test.YtffmodpgddecnaaGreatDoorZ11
set_option linter.unusedVariables false
set_option linter.unusedSimpArgs false
set_option maxRecDepth 100000
set_option maxHeartbeats 1000000
namespace Go.Proofs.YtffmodpgddecnaaGreatDoor.K
open Go.RowKit
theorem mF (h v:Nat)(hh:h<aq)(hv:v<aq) :
  bits .xor .u64 (IntKind.u64.wrap (bits .xor .u64 (h:Int) (v:Int)*11400714819323198485)) (IntKind.u64.wrap (bits .xor .u64 (h:Int) (v:Int)*11400714819323198485) / 536870912)=(cL h v:Int):=by
 have e1:IntKind.u64.wrap (bits .xor .u64 (h:Int) (v:Int)*11400714819323198485)=(jX (h ^^^ v):Int):=by
  rw [u64_xor_nat h v hh hv,IntKind.wrap_u64];unfold jX KF aq;omega
 have e2:((jX (h ^^^ v):Nat):Int) / 536870912=((jX (h ^^^ v) / 2 ^ 29:Nat):Int):=by omega
 rw [e1,e2,u64_xor_nat _ _ (ft _) (Nat.lt_of_le_of_lt (Nat.div_le_self _ _) (ft _))];rfl
theorem lC (h v:Nat)(w:World)(hh:h<aq)(hv:v<aq) :
  Calls Tryz.prog 409 #[.int .u64 (h:Int),.int .u64 (v:Int)] w λe w'=>e=.returned (.int .u64 (cL h v:Int))/\w'=w:=by
 have HS:Hid _:=mF h v hh hv
 go_enter Tryz.func409,Tryz.ntmps409
 go_wp2;go_ret;exact⟨aT HS.out,rfl⟩
theorem fu (h n:Nat)(hh:h<aq)(hn:n<=63) :
  bits .and .u64 (h:Int) (IntKind.u64.wrap (IntKind.u64.wrap (2 ^ n) - 1))=((h%2 ^ n:Nat):Int):=by
 have h2:(2:Nat) ^ n<=2 ^ 63:=Nat.pow_le_pow_right (by omega) hn
 have hp:0<(2:Nat) ^ n:=Nat.two_pow_pos n
 have e1:((2:Int) ^ n)=((2 ^ n:Nat):Int):=by simp
 have e2:IntKind.u64.wrap (IntKind.u64.wrap (2 ^ n) - 1)=((2 ^ n - 1:Nat):Int):=by
  rw [e1,IntKind.wrap_u64,IntKind.wrap_u64];omega
 rw [e2,u64_and_nat _ _ hh (by omega),Nat.and_two_pow_sub_one_eq_mod]
theorem jM {h:Nat}{k:Int}(h1:k<=0):cR h k=0:=by unfold cR;rw [if_pos h1]
theorem lr {h:Nat}{k:Int}(h1:64<=k):cR h k=h:=by unfold cR;rw [if_neg (by omega),if_pos h1]
theorem jI {h:Nat}{k:Int}(h1:¬k<=0)(h2:¬64<=k):cR h k=h%2 ^ k.toNat:=by unfold cR;rw [if_neg h1,if_neg h2]
theorem du (h:Nat)(k:Int)(w:World)(hh:h<aq) :
  Calls Tryz.prog 410 #[.int .u64 (h:Int),.int .i64 k] w λe w'=>e=.returned (.int .u64 (cR h k:Int))/\w'=w:=by
 by_cases h1:k<=0
 ·rw [jM h1]
  go_enter Tryz.func410,Tryz.ntmps410
  go_wp2;go_ret;exact⟨rfl,rfl⟩
 ·by_cases h2:64<=k
  ·rw [lr h2]
   go_enter Tryz.func410,Tryz.ntmps410
   go_wp2;go_ret;exact⟨rfl,rfl⟩
  ·rw [jI h1 h2]
   have HL:Hid _:=fu h k.toNat hh (by omega)
   go_enter Tryz.func410,Tryz.ntmps410
   go_wp2;go_ret;exact⟨aT HL.out,rfl⟩
def eA (o:Int):Nat:=(o%18446744073709551616).toNat
theorem pj (o:Int):eA o<aq:=by unfold eA aq;omega
theorem mn (o:Int):IntKind.u64.wrap o=(eA o:Int):=by rw [IntKind.wrap_u64];unfold eA;omega
def pJ (W:World)(x1 x2 x3:Nat)(s t:Value)(w':World):Prop :=
 w'=W/\((t=.int .i64 0/\s=.int .u64 5903417616801668165)\/(t=.int .i64 1/\s=.int .u64 (x1:Int))\/(t=.int .i64 2/\s=.int .u64 (x2:Int))\/(t=.int .i64 3/\s=.int .u64 (x3:Int)))
theorem fJ {y x:Int}{h v:Nat}(w:World)(r:Nat)(hr:r=cL h v)(hy:y=(h:Int))(hx:x=(v:Int))(hh:h<aq)(hv:v<aq) :
  Calls Tryz.prog 409 #[.int .u64 y,.int .u64 x] w λe w'=>e=.returned (.int .u64 (r:Int))/\w'=w:=by
 subst hy hx hr;exact lC h v w hh hv
theorem jQ:(5903417616801668165:Int)=((5903417616801668165:Nat):Int):=rfl
theorem mg:(5903417616801668165:Nat)<aq:=by decide
theorem j2 (o:Int)(n a b x1 x2 x3:Nat)(k:Int)(w:World)(ha:a<aq)(hb:b<aq)(hn:n<aq)
  (h1:x1<aq) (h2:x2<aq) (h3:x3<aq) (ho:Hid (IntKind.u64.wrap o=(n:Int))) (e1:Hid (x1=cL 5903417616801668165 n)) (e2:Hid (x2=cL x1 a)) (e3:Hid (x3=cL x2 b)) :
  Calls Tryz.prog 407 #[.int .i64 o,.agg #[.int .u64 (a:Int),.int .u64 (b:Int)],.int .i64 k] w λe w'=>e=.returned (.int .u64 (cR x3 k:Int))/\Below w.heap.size w w':=by
 go_enter Tryz.func407,Tryz.ntmps407
 go_wp2;go_step3
 go_wp2;go_step3
 go_wp2;go_loopw [7,8] (pJ (w.alloc (Obj.cells #[.int .u64 (a:Int),.int .u64 (b:Int)] 30)) x1 x2 x3) (λ_ t _=>(3 - intOf t).toNat)
 case atStart=>exact⟨rfl,.inl ⟨rfl,rfl⟩⟩
 case round =>
  obtain⟨rfl,⟨rfl,rfl⟩|⟨rfl,rfl⟩|⟨rfl,rfl⟩|⟨rfl,rfl⟩⟩:=hrel
  ·go_wp2_with (first|(go_at_call 409;refine (fJ _ x1 e1.out jQ ho.out mg hn).mono ?_;rintro e w1 ⟨rfl,rfl⟩))
   go_roundw
   case rel=>exact⟨rfl,.inr (.inl ⟨rfl,rfl⟩)⟩
   case measure=>simp [intOf]
  ·go_wp2_with (first|(go_at_call 409;refine (fJ _ x2 e2.out rfl rfl h1 ha).mono ?_;rintro e w1 ⟨rfl,rfl⟩))
   go_roundw
   case rel=>exact⟨rfl,.inr (.inr (.inl ⟨rfl,rfl⟩))⟩
   case measure=>simp [intOf]
  ·go_wp2_with (first|(go_at_call 409;refine (fJ _ x3 e3.out rfl rfl h2 hb).mono ?_;rintro e w1 ⟨rfl,rfl⟩))
   go_roundw
   case rel=>exact⟨rfl,.inr (.inr (.inr ⟨rfl,rfl⟩))⟩
   case measure=>simp [intOf]
  ·go_wp2_with (first|(go_at_call 410;refine (du _ _ _ h3).mono ?_;rintro e w1 ⟨rfl,rfl⟩))
   try rw [Exit.noGoto_ret]
   go_ret;exact⟨rfl,ae _ _⟩
theorem me (o:Int)(a b:Nat)(k:Int)(w:World)(ha:a<aq)(hb:b<aq) :
  Calls Tryz.prog 407 #[.int .i64 o,.agg #[.int .u64 (a:Int),.int .u64 (b:Int)],.int .i64 k] w λe w'=>e=.returned (.int .u64 (cR (eu (eA o) a b) k:Int))/\Below w.heap.size w w' :=
 j2 o (eA o) a b _ _ (eu (eA o) a b) k w ha hb (pj o) (eB _ _) (eB _ _) (gz _ _ _) (mn o) rfl rfl rfl
abbrev Pl:=Bool×Cp×Int
def eF (p:Pl):List Value:=[.bool p.1,.int .i64 p.2.1.1,.int .u64 (p.2.1.2.1:Int),.int .u64 (p.2.1.2.2:Int),.int .i64 p.2.2]
theorem lZ (p:Pl):∀v∈eF p,v.oneCell'=true:=by
 intro v hv;simp only [eF,List.mem_cons,List.not_mem_nil,or_false] at hv;rcases hv with rfl|rfl|rfl|rfl|rfl<;>rfl
def dY (P:List Pl):List Value:=P.flatMap eF
theorem aN (P:List Pl):(dY P).length=P.length*5:=by
 induction P with
 | nil=>rfl
 | cons a r ih=>simp only [dY,List.flatMap_cons,List.length_append] at ih ⊢;rw [ih];simp [eF];omega
theorem gZ (P:List Pl):∀u∈dY P,u.oneCell'=true:=λu hu=>by
 unfold dY at hu;obtain⟨x,_,hx⟩:=List.mem_flatMap.1 hu
 exact lZ x u hx
structure Ce (w:World)(b o:Nat)(p:Pl):Prop where
 c0:w.cell? ⟨b,o,none⟩=some (.bool p.1)
 c1:w.cell? ⟨b,o+1,none⟩=some (.int .i64 p.2.1.1)
 c2:w.cell? ⟨b,o+2,none⟩=some (.int .u64 (p.2.1.2.1:Int))
 c3:w.cell? ⟨b,o+3,none⟩=some (.int .u64 (p.2.1.2.2:Int))
 c4:w.cell? ⟨b,o+4,none⟩=some (.int .i64 p.2.2)
theorem Ce.but {S:Nat->Prop}{w w':World}{b o:Nat}{p:Pl}(h:Ce w b o p)(hb:ah S w w')(hn:¬S b):Ce w' b o p :=
 ⟨ag hb h.c0 hn,ag hb h.c1 hn,ag hb h.c2 hn,ag hb h.c3 hn,ag hb h.c4 hn⟩
theorem Ce.later {w w':World}{b o:Nat}{p:Pl}(h:Ce w b o p)(hb:Below w.heap.size w w'):Ce w' b o p:=h.but (S:=λ_=>False) (ah.of hb) (λh=>h)
theorem rh {w:World}{b o:Nat}{P:List Pl}(h:w.rangeAt b o (dY P)){i:Nat}{p:Pl}(hi:P[i]?=some p):Ce w b (o+i*5) p:=by
 have hg:=λd (hd:d<5)=>kI (enc:=eF) (k:=5) (λ_=>rfl) P i d p hi hd
 have e:=λd (hd:d<5) v (hv:(eF p)[d]?=some v)=>h (i*5+d) v ((hg d hd).trans hv)
 simp only [<-Nat.add_assoc] at e;exact⟨e 0 (by omega) _ rfl,e 1 (by omega) _ rfl,e 2 (by omega) _ rfl,e 3 (by omega) _ rfl,e 4 (by omega) _ rfl⟩
def fg (c:Cp)(p:Pl):Bool:=p.1&&decide (p.2.1=c)
theorem C2 (x c:Cp):rW x.1 (x.2.1:Int) (x.2.2:Int) c.1 (c.2.1:Int) (c.2.2:Int)=decide (x=c):=by
 unfold rW;by_cases h:x=c
 ·subst h;simp
 ·rw [decide_eq_false h]
  refine decide_eq_false λhq=>h ?_
  obtain⟨q1,q2,q3⟩:=hq
  exact Prod.ext q1 (Prod.ext (Int.ofNat.inj q2) (Int.ofNat.inj q3))
theorem vA (x c:Cp)(w:World):(binOp .eql 37 (.agg #[.int .i64 x.1,.int .u64 (x.2.1:Int),.int .u64 (x.2.2:Int)]) (.agg #[.int .i64 c.1,.int .u64 (c.2.1:Int),.int .u64 (c.2.2:Int)])).run Tryz.prog w=.ok (.bool (decide (x=c))) w:=by
 rw [xw,C2]
theorem aX (p:Pl)(c:Cp)(w:World) :
  Calls Tryz.prog 408 #[.agg #[.bool p.1,.int .i64 p.2.1.1,.int .u64 (p.2.1.2.1:Int),.int .u64 (p.2.1.2.2:Int),.int .i64 p.2.2],.agg #[.int .i64 c.1,.int .u64 (c.2.1:Int),.int .u64 (c.2.2:Int)]] w λe w'=>e=.returned (.bool (fg c p))/\Below w.heap.size w w':=by
 obtain⟨f,x,n⟩:=p
 have heq:=λW=>vA x c W
 have HH:Hid (fg c (f,x,n)=(f&&decide (x=c))):=rfl
 generalize decide (x=c)=q at heq HH
 cases f with
 | true =>
  go_enter Tryz.func408,Tryz.ntmps408
  go_wp2;go_ret;exact⟨au (by rw [HH.out];rfl),aC _ _ _⟩
 | false =>
  go_enter Tryz.func408,Tryz.ntmps408
  go_wp2;go_ret;exact⟨au (by rw [HH.out];rfl),aC _ _ _⟩
def dN (P:List Pl)(c:Cp)(n:Nat):Nat:=min ((P.take n).findIdx (fg c)) (n - 1)
def Ib (W:World)(P:List Pl)(c:Cp)(n:Nat)(t:Value)(w:World):Prop :=
 ∃i:Nat,i<=n/\t=.int .i64 (i:Int)/\(∀j p,j<i->P[j]?=some p->fg c p=false)/\Below W.heap.size W w
theorem vz {P:List Pl}{c:Cp}{n i:Nat}{p:Pl}(hi:i<n)(hp:P[i]?=some p)(hh:fg c p=true)(hn:∀j q,j<i->P[j]?=some q->fg c q=false):dN P c n=i:=by
 unfold dN;have hl:i<P.length:=(List.getElem?_eq_some_iff.1 hp).1
 have e:(P.take n).findIdx (fg c)=i:=by
  rw [List.findIdx_eq (by rw [List.length_take];omega)]
  refine⟨?_,λj hj=>?_⟩
  ·rw [List.getElem_take]
   rw [List.getElem?_eq_getElem hl] at hp;cases hp
   exact hh
  ·have hj2:j<P.length:=by omega
   have:=hn j _ hj (List.getElem?_eq_getElem hj2)
   rw [List.getElem_take,this]
 rw [e];omega
theorem m9 {P:List Pl}{c:Cp}{n:Nat}(hn:∀j q,j<n->P[j]?=some q->fg c q=false)(hl:n<=P.length):dN P c n=n - 1:=by
 unfold dN;have e:(P.take n).findIdx (fg c)=(P.take n).length:=by
  rw [List.findIdx_eq_length];intro x hx;obtain⟨j,hj,rfl⟩:=List.mem_iff_getElem.1 hx
  rw [List.length_take] at hj;rw [List.getElem_take];exact hn j _ (by omega) (List.getElem?_eq_getElem (by omega))
 rw [e,List.length_take];omega
theorem nH (W:World)(L:List Value)(t:TypeId):(W.alloc (.cells L.toArray t)).rangeAt W.heap.size 0 L:=λj v hv=>by
 rw [Nat.zero_add,cell_of_row _ _ _ _ _ _ (heap_alloc_new W (.cells L.toArray t))];simpa using hv
theorem eH {w w':World}{b o:Nat}{cs:List Value}(h:w.rangeAt b o cs)(hb:Below w.heap.size w w'):w'.rangeAt b o cs:=λj v hv=>cell_later hb (h j v hv)
theorem nF {S:Nat->Prop}{w w':World}{b o:Nat}{cs:List Value}(h:w.rangeAt b o cs)(hb:ah S w w')(hn:¬S b):w'.rangeAt b o cs:=λj v hv=>ag hb (h j v hv) hn
theorem qh (P:List Pl)(c:Cp)(n:Nat)(w:World)(hl:P.length=4)(h1:1<=n)(h4:n<=4) :
  Calls Tryz.prog 403 #[.agg (dY P).toArray,.agg #[.int .i64 c.1,.int .u64 (c.2.1:Int),.int .u64 (c.2.2:Int)],.int .i64 (n:Int)] w λe w'=>e=.returned (.int .i64 (dN P c n:Int))/\Below w.heap.size w w':=by
 have hs:(dY P).toArray.size=20:=by rw [List.size_toArray,aN,hl]
 have HA:Hid (∀(W:World) (t:TypeId),(W.alloc (.cells (dY P).toArray t)).rangeAt W.heap.size 0 (dY P)):=λW t=>nH W _ t
 have HL:=ab hl
 clear hl;generalize (dY P).toArray=A at HA hs
 go_enter Tryz.func403,Tryz.ntmps403
 go_upto_region 2 with fail
 go_loopw [9] (Ib ((w.alloc (.cells A 241)).alloc (.cells #[.int .i64 c.1,.int .u64 (c.2.1:Int),.int .u64 (c.2.2:Int)] 37)) P c n) (λt _=>n - (intOf t).toNat)
 case atStart=>exact⟨0,by omega,rfl,λj p hj=>absurd hj (Nat.not_lt_zero _),Below.refl _ _⟩
 case round =>
  obtain⟨i,hi,rfl,hno,hB⟩:=hrel
  have Q_:=ab hno
  clear hno;by_cases hlt:i<n
  ·obtain⟨p,hp⟩:∃p,P[i]?=some p:=⟨_,List.getElem?_eq_getElem (by rw [HL.out];omega)⟩
   have hC:Hid (∀U:World,Below wr.heap.size wr U->(U.cell? ⟨w.heap.size,i*5,none⟩=some (.bool p.1)/\U.cell? ⟨w.heap.size,i*5+1,none⟩=some (.int .i64 p.2.1.1)/\U.cell? ⟨w.heap.size,i*5+2,none⟩=some (.int .u64 (p.2.1.2.1:Int))/\U.cell? ⟨w.heap.size,i*5+3,none⟩=some (.int .u64 (p.2.1.2.2:Int))/\U.cell? ⟨w.heap.size,i*5+4,none⟩=some (.int .i64 p.2.2)/\U.cell? ⟨w.heap.size+1,0,none⟩=some (.int .i64 c.1)/\U.cell? ⟨w.heap.size+1,1,none⟩=some (.int .u64 (c.2.1:Int))/\U.cell? ⟨w.heap.size+1,2,none⟩=some (.int .u64 (c.2.2:Int)))/\Below wr.heap.size wr U):=λU hU=>by
    have hx:=((rh (eH (HA.out w 241) (ae _ (.cells #[.int .i64 c.1,.int .u64 (c.2.1:Int),.int .u64 (c.2.2:Int)] 37))) hp).later hB).later hU
    rw [Nat.zero_add] at hx;exact⟨⟨hx.c0,hx.c1,hx.c2,hx.c3,hx.c4,cell_later hU (cell_later hB (by simp [go_sem])),cell_later hU (cell_later hB (by simp [go_sem])),cell_later hU (cell_later hB (by simp [go_sem]))⟩,hU⟩
   have hHas:=λW=>aX p c W
   have HP:=ab hp
   have HB:=ab hB
   clear hp hB;obtain⟨q,hq'⟩:∃q,q=fg c p:=⟨_,rfl⟩
   rw [<-hq'] at hHas;have hq:=ab hq'
   clear hq';have hi4:(i:Int)<4:=by omega
   go_upto_region 4 with fail
   go_region_held3 (λU=>(U.cell? ⟨w.heap.size,i*5,none⟩=some (.bool p.1)/\U.cell? ⟨w.heap.size,i*5+1,none⟩=some (.int .i64 p.2.1.1)/\U.cell? ⟨w.heap.size,i*5+2,none⟩=some (.int .u64 (p.2.1.2.1:Int))/\U.cell? ⟨w.heap.size,i*5+3,none⟩=some (.int .u64 (p.2.1.2.2:Int))/\U.cell? ⟨w.heap.size,i*5+4,none⟩=some (.int .i64 p.2.2)/\U.cell? ⟨w.heap.size+1,0,none⟩=some (.int .i64 c.1)/\U.cell? ⟨w.heap.size+1,1,none⟩=some (.int .u64 (c.2.1:Int))/\U.cell? ⟨w.heap.size+1,2,none⟩=some (.int .u64 (c.2.2:Int)))/\Below wr.heap.size wr U) (first|exact hC.out _ (Below.refl _ _).drew|exact hC.out _ hb2.out) (first|(go_at_call 408;refine (hHas _).mono ?_;rintro e w2 ⟨rfl,hb2'⟩;have hb2:=ab (aa (Below.refl wr.heap.size wr).drew hb2')))
   have PE:=ab (aa HB.out (And.right (by assumption:_/\Below wr.heap.size wr w2)))
   cases q with
   | true =>
    go_wp2;go_ret;exact⟨aT (by rw [vz hlt HP.out hq.out.symm Q_.out]),aa (aC _ _ _) PE.out⟩
   | false =>
    go_wp2;refine⟨⟨i+1,by omega,by go_num,λj x hj hx=>?_,PE.out⟩,by simp [intOf];omega⟩
    rcases Nat.lt_or_ge j i with h3|h3
    ·exact Q_.out j x h3 hx
    ·obtain rfl:j=i:=by omega
     rw [HP.out] at hx;cases hx
     exact hq.out.symm
  ·obtain rfl:i=n:=by omega
   have HE:=ab (m9 Q_.out (by rw [HL.out];exact h4))
   have hw:IntKind.i64.wrap ((i:Int) - 1)=((i - 1:Nat):Int):=by rw [IntKind.wrap_i64];omega
   have HB:=ab hB
   clear hB;go_wp2;go_ret;exact⟨aT (by rw [HE.out]),aa (aC _ _ _) HB.out⟩
theorem aV {P:Program}{w:World}{ops:Array Oper}{rest:List Oper}{a:Act}{Q:Exit->Act->World->Prop}{d:Option Tmp}{tt:TypeId}{ps:String}{af}{ty:TypeId}{x:Operand}{p v:Value}
  (hr:(Instr.loadAt ty p).run P w=.ok v w) (hx:a.eval x=p) (h:wpList P ops Q rest (a.put d v) w) :
  wpList P ops Q ({ dst:=d,op:=.load ty x,type:=tt,pos:=ps,after:=af,guard:=none }::rest) a w:=by
 refine wpList_plain rfl λK hK=>?_
 unfold Oper.wp execOp;simp only [hx,hr,Sem.run_bind,Sem.run_pure,Result.andThen_ok];exact hK _ _ h
theorem kS:∀(Q:List Pl) (j:Nat),(dY Q)[j]?=(Q[j / 5]?).bind (λx=>(eF x)[j%5]?)
 | [],j=>by simp [dY]
 | a::r,j=>by
  have ih:=kS r
  unfold dY at ih ⊢
  rw [List.flatMap_cons];have hl:(eF a).length=5:=rfl
  by_cases h:j<5
  ·rw [List.getElem?_append_left (by omega),Nat.div_eq_of_lt h,Nat.mod_eq_of_lt h]
   rfl
  ·rw [List.getElem?_append_right (by omega),hl,ih,show j / 5=(j - 5) / 5+1 by omega,show j%5=(j - 5)%5 by omega]
   rfl
theorem od {w:World}{b o:Nat}{Q:List Pl}{i:Nat}(h:w.rangeAt b o (dY Q))(hi:i<Q.length)(p:Pl):(w.setCells b (o+i*5) (eF p)).rangeAt b o (dY (Q.set i p)):=λj v hv=>by
 rw [kS] at hv;by_cases e:j / 5=i
 ·subst e
  rw [List.getElem?_set_self hi] at hv;have hlt:j%5<(eF p).length:=Nat.mod_lt _ (by decide)
  have:=World.cell?_setCells_in b (eF p) (o+j / 5*5) w (λd hd=>by
   have hd5:d<5:=hd
   rw [Nat.add_assoc];exact h.isSome _ (by rw [aN];omega)) (j%5) hlt
  rw [show o+j / 5*5+j%5=o+j by omega] at this;rw [this];simpa [hlt] using hv
 ·rw [List.getElem?_set_ne (λh=>e h.symm),<-kS] at hv
  rw [World.cell?_setCells_out b (eF p) (o+i*5) w ⟨b,o+j,none⟩ (λ_ _=>by
   have hl:(eF p).length=5:=rfl
   show o+j<o+i*5\/o+i*5+(eF p).length<=o+j
   omega)]
  exact h j v hv
theorem je:(Tryz.prog.info? 241).map (·.size)=some 20:=by kernel_rfl
def fr:Pl:=(false,(0,0,0),0)
theorem oW:(Tryz.prog.info? 241).map (λi=>(i.zero,i.size,i.bytes))=some (some (.agg (dY (List.replicate 4 fr)).toArray),20,160):=by kernel_rfl
theorem aO {t:TypeId}{z:Value}{s b:Nat}(h:(Tryz.prog.info? t).map (λi=>(i.zero,i.size,i.bytes))=some (some z,s,b))(w:World):(zeroValue t).run Tryz.prog w=.ok z w:=by
 obtain⟨i,hi,hz0,hz1,hz2⟩:=info_parts h
 simp [zeroValue,typeInfo,hi,hz0]
theorem j6 {w:World}{b o:Nat}{L:List Value}(h:w.rangeAt b o L)(hl:L.length=20):(Instr.loadAt 241 (.pointer (some ⟨b,o,none⟩))).run Tryz.prog w=.ok (.agg L.toArray) w :=
 run_loadAt_mid w b o 241 L _ h Tryz.underlying241 rfl (by rw [je,hl])
theorem xP {w:World}{b o n:Nat}{L:List Value}(h:w.there b o n)(hl:L.length=n)(h1:∀v∈L,v.oneCell'=true):(storeCells ⟨b,o,none⟩ L).run Tryz.prog w=.ok () (w.setCells b o L) :=
 run_storeCells_cells (P:=Tryz.prog) b o L 0 w (λj hj=>by rw [Nat.add_zero];exact (h j (by omega)).1) (λj hj=>by rw [Nat.add_zero];exact (h j (by omega)).2) h1
def Cg (P:List Pl)(i:Nat):List Pl:=P.take 1++P.take i++P.drop (i+1)
def Im (W:World)(b:Nat)(P:List Pl)(k:Nat)(t:Value)(w:World):Prop :=
 ∃i:Nat,i<=k/\t=.int .i64 (i:Int)/\w.rangeAt b 0 (dY (Cg P i))/\w.there b 0 20/\ah (λx=>x=b) W w
theorem four {P:List Pl}(h:P.length=4):∃a b c d,P=[a,b,c,d]:=by
 match P,h with
 | [a,b,c,d],_=>exact⟨a,b,c,d,rfl⟩
theorem kO {P:List Pl}{i:Nat}(h:P.length=4)(hi:i<4):(Cg P i).length=4:=by simp [Cg,h];omega
theorem yQ {P:List Pl}{i:Nat}{p:Pl}(h:P.length=4)(hi:i+1<4)(hp:P[i]?=some p):(Cg P i).set (i+1) p=Cg P (i+1):=by
 obtain⟨a,b,c,d,rfl⟩:=four h
 match i,hi with
 | 0,_=>cases hp;rfl
 | 1,_=>cases hp;rfl
 | 2,_=>cases hp;rfl
theorem Aw {P:List Pl}{k:Nat}(p:Pl)(h:P.length=4)(hk:k<4):(Cg P k).set 0 p=p::P.eraseIdx k:=by
 obtain⟨a,b,c,d,rfl⟩:=four h
 match k,hk with
 | 0,_=>rfl
 | 1,_=>rfl
 | 2,_=>rfl
 | 3,_=>rfl
theorem A7 {P:List Pl}(h:P.length=4):Cg P 0=P:=by
 obtain⟨a,b,c,d,rfl⟩:=four h
 rfl
theorem aZ (W:World)(A:Array Value)(t:TypeId)(n:Nat)(h:A.size=n):(W.alloc (.cells A t)).there W.heap.size 0 n:=λj hj=>by
 rw [Nat.zero_add,cell_of_row _ _ _ _ _ _ (heap_alloc_new W (.cells A t))];refine⟨by simp;omega,?_⟩
 simp only [World.frozen?,heap_alloc_new];simp
theorem cu {w w':World}{b o n:Nat}(h:w.there b o n)(hb:Below w.heap.size w w'):w'.there b o n:=λj hj=>by
 obtain⟨h1,h2⟩:=h j hj
 obtain⟨u,hu⟩:=Option.isSome_iff_exists.1 h1
 exact⟨by rw [cell_later hb hu];rfl,by rw [hb.frozen (World.block_lt_of_cell? _ _ hu)];exact h2⟩
theorem nN {S:Nat->Prop}{w w':World}{b o n:Nat}(h:w.there b o n)(hb:ah S w w')(hn:¬S b):w'.there b o n:=λj hj=>by
 obtain⟨h1,h2⟩:=h j hj
 obtain⟨u,hu⟩:=Option.isSome_iff_exists.1 h1
 have:=(az.but hb ⟨hu,h2⟩ hn)
 exact⟨by rw [this.1];rfl,this.2⟩
theorem z_ (P:List Pl)(p:Pl)(k:Nat)(w:World)(hl:P.length=4)(hk:k<4) :
  Calls Tryz.prog 402 #[.agg (dY P).toArray,.agg #[.bool p.1,.int .i64 p.2.1.1,.int .u64 (p.2.1.2.1:Int),.int .u64 (p.2.1.2.2:Int),.int .i64 p.2.2],.int .i64 (k:Int)] w λe w'=>e=.returned (.agg (dY (p::P.eraseIdx k)).toArray)/\Below w.heap.size w w':=by
 have hs:(dY P).length=20:=by rw [aN,hl]
 have hz:=λW=>aO oW W
 obtain⟨Z,hZ⟩:∃Z,Z=dY (List.replicate 4 fr):=⟨_,rfl⟩
 have hZl:Z.length=20:=by rw [hZ,aN];rfl
 rw [<-hZ] at hz;have HZ:=ab hZ
 clear hZ;obtain⟨A,hA⟩:∃A,A=dY P:=⟨_,rfl⟩
 rw [<-hA];have HA:=ab hA
 have Qg:Hid (A.length=20):=by rw [hA];exact hs
 have VL:=ab hZl
 have HL:=ab hl
 clear hA hs hZl hl;obtain⟨Z',hZ'⟩:∃Z',Z'=Z.toArray:=⟨_,rfl⟩
 rw [<-hZ'] at hz;have VW:=ab hZ'
 clear hZ';have hAl:=Qg.out
 go_enter Tryz.func402,Tryz.ntmps402
 go_upto_region 1 with fail
 generalize hw3:(((w.alloc (Obj.cells A.toArray 241)).alloc (Obj.cells #[Value.bool p.1,Value.int IntKind.i64 p.2.1.1,Value.int IntKind.u64 (p.2.1.2.1:Int),Value.int IntKind.u64 (p.2.1.2.2:Int),Value.int IntKind.i64 p.2.2] 239)).alloc (Obj.cells Z' 241))=w3
 have QS:Hid (w3.heap.size=w.heap.size+3):=by rw [<-hw3];simp [Hid]
 have PE:Hid (Below w.heap.size w w3):=by rw [<-hw3];exact (aC _ _ _).alloc (by simp;omega) _
 have R5:Hid (w3.rangeAt w.heap.size 0 A):=by
  rw [<-hw3];exact eH (eH (nH w A 241) (ae _ _)) (ae _ _)
 have Xh:Hid (Ce w3 (w.heap.size+1) 0 p):=by
  rw [<-hw3];exact⟨by simp [go_sem],by simp [go_sem],by simp [go_sem],by simp [go_sem],by simp [go_sem]⟩
 have PW:Hid (w3.there (w.heap.size+1+1) 0 20):=by
  have:=aZ ((w.alloc (Obj.cells A.toArray 241)).alloc (Obj.cells #[Value.bool p.1,Value.int IntKind.i64 p.2.1.1,Value.int IntKind.u64 (p.2.1.2.1:Int),Value.int IntKind.u64 (p.2.1.2.2:Int),Value.int IntKind.i64 p.2.2] 239)) Z' 241 20 (by rw [VW.out];simp [VL.out])
  rw [hw3] at this;simp at this
  exact this
 clear hw3;have P9:=ab (j6 R5.out Qg.out)
 have Sc:=ab (aZ w3 Z' 241 20 (by rw [VW.out];simp [VL.out]))
 have Qz:=xP (L:=A) (n:=20) Sc.out Qg.out (by rw [HA.out];exact gZ P)
 generalize hw4:(w3.alloc (Obj.cells Z' 241)).setCells w3.heap.size 0 A=w4 at Qz
 have PM:Hid (Below w3.heap.size w3 w4):=by
  rw [<-hw4];exact ah.below (ae w3 _) (ah.setCells (S:=λx=>x=w3.heap.size) rfl A 0 (ah.refl _ _)) (λk hk=>by omega)
 have RH:Hid (w3.heap.size<w4.heap.size):=by rw [<-hw4,cO];simp [Hid]
 have Vc:Hid (w4.rangeAt w3.heap.size 0 (dY (Cg P 0))):=by
  rw [<-hw4,A7 HL.out,<-HA.out];exact World.rangeAt_setCells_same _ _ _ _ (by rw [Qg.out];exact Sc.out)
 have Qm:Hid (w4.there w3.heap.size 0 20):=by rw [<-hw4];exact World.there_setCells Sc.out _ _ _
 clear hw4 Sc;go_upto_region 3 with (first|((with_reducible refine aV P9.out ?_ ?_);· rfl))
 clear Qz P9;go_loopw [11] (Im w4 w3.heap.size P k) (λt _=>k - (intOf t).toNat)
 case atStart=>exact⟨0,by omega,rfl,Vc.out,Qm.out,ah.refl _ _⟩
 case round =>
  obtain⟨i,hi,rfl,hR,hT,hB⟩:=hrel
  have hne:=QS.out
  have h34:=RH.out
  have HR:=ab hR
  have HT:=ab hT
  have HB:=ab hB
  clear hR hT hB;by_cases hlt:i<k
  ·have hi4:(i:Int)<4:=by omega
   have hi5:(i:Int)+1<4:=by omega
   have hwr:IntKind.i64.wrap ((i:Int)+1)=((i+1:Nat):Int):=by rw [IntKind.wrap_i64];omega
   obtain⟨x,hx⟩:∃x,P[i]?=some x:=⟨_,List.getElem?_eq_getElem (by rw [HL.out];omega)⟩
   obtain⟨y,hy⟩:∃y,(Cg P i)[i+1]?=some y:=⟨_,List.getElem?_eq_getElem (by rw [kO HL.out (by omega)];omega)⟩
   have hX:=((rh (by rw [<-HA.out];exact R5.out) hx).later PM.out).but HB.out (by omega)
   have hY:=rh HR.out hy
   rw [Nat.zero_add] at hX hY;have hF:=λ(d:Nat) (hd:d<5)=>(HT.out ((i+1)*5+d) (by omega)).2
   simp only [Nat.zero_add] at hF;obtain⟨x0,x1,x2,x3,x4⟩:=hX
   obtain⟨y0,y1,y2,y3,y4⟩:=hY
   have f0:=hF 0 (by omega)
   have f1:=hF 1 (by omega)
   have f2:=hF 2 (by omega)
   have f3:=hF 3 (by omega)
   have f4:=hF 4 (by omega)
   rw [Nat.add_zero] at f0;have HX:=ab hx
   clear hF hne h34 hx hy;go_wp2;refine⟨⟨i+1,by omega,by go_num,?_,World.there_setCells HT.out _ ((i+1)*5) (eF x),HB.out.trans (ah.setCells (S:=λx=>x=w3.heap.size) rfl (eF x) ((i+1)*5) (ah.refl _ _))⟩,by simp [intOf];omega⟩
   have:=od HR.out (i:=i+1) (by rw [kO HL.out (by omega)];omega) x
   rw [yQ HL.out (by omega) HX.out,Nat.zero_add] at this;exact this
  ·obtain rfl:i=k:=by omega
   have hX:=((Xh.out).later PM.out).but HB.out (by omega)
   obtain⟨x0,x1,x2,x3,x4⟩:=hX
   obtain⟨y,hy⟩:∃y,(Cg P i)[0]?=some y:=⟨_,List.getElem?_eq_getElem (by rw [kO HL.out (by omega)];omega)⟩
   have hY:=rh HR.out hy
   obtain⟨y0,y1,y2,y3,y4⟩:=hY
   have hF:=λ(d:Nat) (hd:d<5)=>(HT.out d (by omega)).2
   have f0:=hF 0 (by omega)
   have f1:=hF 1 (by omega)
   have f2:=hF 2 (by omega)
   have f3:=hF 3 (by omega)
   have f4:=hF 4 (by omega)
   simp only [Nat.zero_mul,Nat.zero_add] at x0 x1 x2 x3 x4 y0 y1 y2 y3 y4 f0 f1 f2 f3 f4;clear hF hne h34 hy;go_upto_region 8 with fail
   have T7:Hid ((((((wr.setCell ⟨w3.heap.size,0,none⟩ (.bool p.1)).setCell ⟨w3.heap.size,1,none⟩ (.int .i64 p.2.1.1)).setCell ⟨w3.heap.size,2,none⟩ (.int .u64 (p.2.1.2.1:Int))).setCell ⟨w3.heap.size,3,none⟩ (.int .u64 (p.2.1.2.2:Int))).setCell ⟨w3.heap.size,4,none⟩ (.int .i64 p.2.2)).rangeAt w3.heap.size 0 (dY (p::P.eraseIdx i))):=by
    have:=od HR.out (i:=0) (by rw [kO HL.out (by omega)];omega) p
    rw [Aw p HL.out (by omega)] at this;exact this
   have PI:Hid (ah (λx=>x=w3.heap.size) w4 (((((wr.setCell ⟨w3.heap.size,0,none⟩ (.bool p.1)).setCell ⟨w3.heap.size,1,none⟩ (.int .i64 p.2.1.1)).setCell ⟨w3.heap.size,2,none⟩ (.int .u64 (p.2.1.2.1:Int))).setCell ⟨w3.heap.size,3,none⟩ (.int .u64 (p.2.1.2.2:Int))).setCell ⟨w3.heap.size,4,none⟩ (.int .i64 p.2.2))):=HB.out.trans (ah.setCells (S:=λx=>x=w3.heap.size) rfl (eF p) 0 (ah.refl _ _))
   generalize (((((wr.setCell ⟨w3.heap.size,0,none⟩ (.bool p.1)).setCell ⟨w3.heap.size,1,none⟩ (.int .i64 p.2.1.1)).setCell ⟨w3.heap.size,2,none⟩ (.int .u64 (p.2.1.2.1:Int))).setCell ⟨w3.heap.size,3,none⟩ (.int .u64 (p.2.1.2.2:Int))).setCell ⟨w3.heap.size,4,none⟩ (.int .i64 p.2.2))=w5 at *
   obtain⟨N,hN⟩:∃N,N=dY (p::P.eraseIdx i):=⟨_,rfl⟩
   have hNl:N.length=20:=by rw [hN,aN,List.length_cons,List.length_eraseIdx,HL.out,if_pos (by omega)]
   have To:Hid (∀v∈N,v.oneCell'=true):=by rw [hN];exact gZ _
   rw [<-hN] at T7;have HN:=ab hN
   have QM:Hid (w5.there (w.heap.size+1+1) 0 20):=nN (cu PW.out PM.out) PI.out (by have:=QS.out;omega)
   have P9:=ab (j6 T7.out hNl)
   have Qz:=xP (L:=N) (n:=20) QM.out hNl To.out
   have P7:Hid (Below w.heap.size w (w5.setCells (w.heap.size+1+1) 0 N)) :=
    ah.below (ah.below (aa PE.out PM.out) PI.out (λk hk=>by have:=QS.out;omega)) (ah.setCells (S:=λx=>x=w.heap.size+1+1) rfl N 0 (ah.refl _ _)) (λk hk=>by omega)
   have Vu:=ab (run_loadVar_mid (P:=Tryz.prog) (w5.setCells (w.heap.size+1+1) 0 N) (w.heap.size+1+1) 0 241 N _ (World.rangeAt_setCells_same _ _ _ _ (by rw [hNl];exact QM.out)) Tryz.underlying241 rfl (by rw [je,hNl]))
   generalize w5.setCells (w.heap.size+1+1) 0 N=w6 at Qz P7 Vu
   clear hN;go_wp2_with (first|((with_reducible refine aV P9.out ?_ ?_);· rfl))
   refine bodyPost_ret (v:=.agg N.toArray) ?_ rfl ⟨by rw [HN.out],P7.out⟩
   have hlr:=Vu.out
   simp [results,Tryz.results402,asAddr,hlr]
structure Ca (w:World)(g s n k:Nat)(R:Nat->List Pl)(e hi mi:Int):Prop where
 c0:w.cell? ⟨g,0,none⟩=some (.int .i64 (s:Int))
 c1:w.cell? ⟨g,1,none⟩=some (.int .i64 (n:Int))
 c2:w.cell? ⟨g,2,none⟩=some (.int .i64 (k:Int))
 at_:∀r,r<16->w.rangeAt g (3+r*20) (dY (R r))
 th:w.there g 3 320
 len:∀r,(R r).length=4
 ce:az w ⟨g,323,none⟩ (.int .i64 e)
 ch:az w ⟨g,324,none⟩ (.int .i64 hi)
 cm:az w ⟨g,325,none⟩ (.int .i64 mi)
 ls:s<=16
 n1:1<=n
 n4:n<=4
 lk:k<=64
variable {w w':World}{g s n k:Nat}{R:Nat->List Pl}{e hi mi:Int}
theorem Ca.lt (h:Ca w g s n k R e hi mi):g<w.heap.size:=World.block_lt_of_cell? _ _ h.c0
theorem Ca.but {S:Nat->Prop}(h:Ca w g s n k R e hi mi)(hb:ah S w w')(h1:¬S g):Ca w' g s n k R e hi mi :=
 ⟨ag hb h.c0 h1,ag hb h.c1 h1,ag hb h.c2 h1,λr hr=>nF (h.at_ r hr) hb h1,nN h.th hb h1,h.len,h.ce.but hb h1,h.ch.but hb h1,h.cm.but hb h1,h.ls,h.n1,h.n4,h.lk⟩
theorem Ca.later (h:Ca w g s n k R e hi mi)(hb:Below w.heap.size w w'):Ca w' g s n k R e hi mi:=h.but (S:=λ_=>False) (ah.of hb) (λh=>h)
def R0:Nat->List Pl:=λ_=>List.replicate 4 fr
theorem DD:(Tryz.prog.info? 244).map (λi=>(i.zero,i.size,i.bytes))=some (some (.agg (ints [0,0,0]++(dY (List.replicate 64 fr)++ints [0,0,0])).toArray),326,2608):=by kernel_rfl
theorem qG (r:Nat)(hr:r<16)(j:Nat)(v:Value)(hv:(dY (List.replicate 4 fr))[j]?=some v):(dY (List.replicate 64 fr))[r*20+j]?=some v:=by
 have hj:j<20:=(List.getElem?_eq_some_iff.1 hv).1
 rw [kS] at hv ⊢
 rw [List.getElem?_replicate,if_pos (by omega)] at hv ⊢
 rw [show (r*20+j)%5=j%5 by omega];exact hv
theorem Ca.new (w:World)(s n k:Nat)(h1:s<=16)(h2:1<=n)(h3:n<=4)(h4:k<=64)(Z:Array Value)(hZ:Z=(ints [0,0,0]++(dY (List.replicate 64 fr)++ints [0,0,0])).toArray) :
  Ca (w.alloc (.cells (((Z.setIfInBounds 0 (.int .i64 (s:Int))).setIfInBounds 1 (.int .i64 (n:Int))).setIfInBounds 2 (.int .i64 (k:Int))) 244)) w.heap.size s n k R0 0 0 0:=by
 have hs:Z.size=326:=by rw [hZ];simp [aN,ints]
 have hh:=heap_alloc_new w (.cells (((Z.setIfInBounds 0 (.int .i64 (s:Int))).setIfInBounds 1 (.int .i64 (n:Int))).setIfInBounds 2 (.int .i64 (k:Int))) 244)
 have hf:∀j,(w.alloc (.cells (((Z.setIfInBounds 0 (.int .i64 (s:Int))).setIfInBounds 1 (.int .i64 (n:Int))).setIfInBounds 2 (.int .i64 (k:Int))) 244)).frozen? ⟨w.heap.size,j,none⟩=false:=λj=>by
  simp only [World.frozen?,hh];simp
 have hc:∀j,3<=j->(w.alloc (.cells (((Z.setIfInBounds 0 (.int .i64 (s:Int))).setIfInBounds 1 (.int .i64 (n:Int))).setIfInBounds 2 (.int .i64 (k:Int))) 244)).cell? ⟨w.heap.size,j,none⟩=Z[j]?:=λj hj=>by
  rw [cell_of_row _ _ _ _ _ _ hh,Array.getElem?_setIfInBounds_ne (by omega),Array.getElem?_setIfInBounds_ne (by omega),Array.getElem?_setIfInBounds_ne (by omega)]
 have hl:(dY (List.replicate 64 fr)).length=320:=by rw [aN];rfl
 have hi3:(ints [0,0,0]).length=3:=rfl
 have hz:∀j,j<320->Z[3+j]?=(dY (List.replicate 64 fr))[j]?:=λj hj=>by
  rw [hZ,List.getElem?_toArray,List.getElem?_append_right (by omega),List.getElem?_append_left (by omega),hi3,Nat.add_sub_cancel_left]
 have ht:∀j,j<3->Z[323+j]?=(ints [0,0,0])[j]?:=λj hj=>by
  rw [hZ,List.getElem?_toArray,List.getElem?_append_right (by omega),List.getElem?_append_right (by omega),hi3,hl,show 323+j - 3 - 320=j by omega]
 refine⟨?_,?_,?_,λr hr j v hv=>?_,λj hj=>⟨?_,hf _⟩,λr=>rfl,⟨?_,hf _⟩,⟨?_,hf _⟩,⟨?_,hf _⟩,h1,h2,h3,h4⟩
 ·rw [cell_of_row _ _ _ _ _ _ hh];simp [hs]
 ·rw [cell_of_row _ _ _ _ _ _ hh];simp [hs]
 ·rw [cell_of_row _ _ _ _ _ _ hh];simp [hs]
 ·have hj:j<20:=(List.getElem?_eq_some_iff.1 hv).1
  rw [hc _ (by omega),Nat.add_assoc,hz _ (by omega)];exact qG r hr j v hv
 ·rw [hc _ (by omega)]
  simp [hs];omega
 ·rw [hc _ (by omega)];exact ht 0 (by omega)
 ·rw [hc _ (by omega)];exact ht 1 (by omega)
 ·rw [hc _ (by omega)];exact ht 2 (by omega)
theorem bU (s n k:Nat)(w:World)(h1:s<=16)(h2:1<=n)(h3:n<=4)(h4:k<=64) :
  Calls Tryz.prog 96 #[.int .i64 (s:Int),.int .i64 (n:Int),.int .i64 (k:Int)] w λe w'=>∃g,e=.returned (.tuple #[.pointer (some ⟨g,0,none⟩),.int .i64 0])/\Ca w' g s n k R0 0 0 0/\w.heap.size<=g/\Below w.heap.size w w':=by
 have hz:=λW=>aO DD W
 obtain⟨Z,hZ⟩:∃Z,Z=(ints [0,0,0]++(dY (List.replicate 64 fr)++ints [0,0,0])).toArray:=⟨_,rfl⟩
 rw [<-hZ] at hz;have hs:Z.size=326:=by rw [hZ];simp [aN,ints]
 have hZ0:(Z=#[])=False:=eq_false (λh=>by rw [h] at hs;simp at hs)
 have HN:=ab (Ca.new w s n k h1 h2 h3 h4 Z hZ)
 clear hZ;have hd1:decide ((s:Int)<0)=false:=decide_eq_false (by omega)
 have hd2:decide ((s:Int)>16)=false:=decide_eq_false (by omega)
 have hd3:decide ((n:Int)<1)=false:=decide_eq_false (by omega)
 have hd4:decide ((n:Int)>4)=false:=decide_eq_false (by omega)
 have hd5:decide ((k:Int)<0)=false:=decide_eq_false (by omega)
 have hd6:decide ((k:Int)>64)=false:=decide_eq_false (by omega)
 clear h1 h2 h3 h4;go_enter Tryz.func96,Tryz.ntmps96
 go_wp2;exact bodyPost_ret (v:=.tuple #[.pointer (some ⟨w.heap.size,0,none⟩),.int .i64 0]) (by simp [results,Tryz.results96,go_sem]) rfl ⟨w.heap.size,rfl,HN.out,Nat.le_refl _,ae _ _⟩
end Go.Proofs.YtffmodpgddecnaaGreatDoor.K
namespace Go.Proofs.YtffmodpgddecnaaGreatDoor.K
open Go.RowKit
variable {w w':World}{g s n k:Nat}{R:Nat->List Pl}{e hi mi:Int}
theorem lJ (x N:Nat)(hx:x<aq)(hN:0<N)(hb:N<=16):IntKind.i64.wrap ((x:Int)%(N:Int))=((x%N:Nat):Int):=by
 have:x%N<N:=Nat.mod_lt _ hN
 rw [IntKind.wrap_i64];omega
def E1 (c:Cp):Prop:=c.2.1<aq/\c.2.2<aq
def fT (k s:Nat)(c:Cp):Nat:=cR (eu (eA c.1) c.2.1 c.2.2) (k:Int)%s
theorem uL {k s:Nat}(c:Cp)(h:0<s):fT k s c<s:=Nat.mod_lt _ h
theorem kG (h:Ca w g s n k R e hi mi)(c:Cp)(hc:E1 c)(hs:0<s) :
  Calls Tryz.prog 401 #[.pointer (some ⟨g,0,none⟩),.agg #[.int .i64 c.1,.int .u64 (c.2.1:Int),.int .u64 (c.2.2:Int)]] w λe w'=>e=.returned (.int .i64 (fT k s c:Int))/\Below w.heap.size w w':=by
 obtain⟨o,hi,lo⟩:=c
 obtain⟨h1,h2⟩:=hc
 obtain⟨w1,hw1⟩:∃w1,w1=w.alloc (Obj.cells #[.int .i64 o,.int .u64 (hi:Int),.int .u64 (lo:Int)] 37):=⟨_,rfl⟩
 have hB1:Below w.heap.size w w1:=by rw [hw1];exact ae _ _
 have hh:=h.later hB1
 have hC:Hid (∀U:World,Below w1.heap.size w1 U->(U.cell? ⟨w.heap.size,0,none⟩=some (.int .i64 o)/\U.cell? ⟨w.heap.size,1,none⟩=some (.int .u64 (hi:Int))/\U.cell? ⟨w.heap.size,2,none⟩=some (.int .u64 (lo:Int))/\U.cell? ⟨g,0,none⟩=some (.int .i64 (s:Int))/\U.cell? ⟨g,2,none⟩=some (.int .i64 (k:Int)))/\Below w1.heap.size w1 U):=λU hU =>
  ⟨⟨cell_later hU (by rw [hw1];simp [go_sem]),cell_later hU (by rw [hw1];simp [go_sem]),cell_later hU (by rw [hw1];simp [go_sem]),cell_later hU hh.c0,cell_later hU hh.c2⟩,hU⟩
 have hls:=h.ls
 have HX:Hid (cR (eu (eA o) hi lo) (k:Int)<aq):=oQ _ (gz _ _ _)
 have HM:Hid (fT k s (o,hi,lo)=cR (eu (eA o) hi lo) (k:Int)%s):=rfl
 have hH:=λW=>me o hi lo (k:Int) W h1 h2
 generalize cR (eu (eA o) hi lo) (k:Int)=x at HX HM hH
 have HR:=ab (lJ x s HX.out hs hls)
 have hu:IntKind.u64.wrap (s:Int)=(s:Int):=by rw [IntKind.wrap_u64];omega
 have hz:¬s=0:=by omega
 clear h hh;go_enter Tryz.func401,Tryz.ntmps401
 go_wp2;rw [<-hw1];have PC:=ab hB1
 clear hw1 hB1;go_region_held3 (λU=>(U.cell? ⟨w.heap.size,0,none⟩=some (.int .i64 o)/\U.cell? ⟨w.heap.size,1,none⟩=some (.int .u64 (hi:Int))/\U.cell? ⟨w.heap.size,2,none⟩=some (.int .u64 (lo:Int))/\U.cell? ⟨g,0,none⟩=some (.int .i64 (s:Int))/\U.cell? ⟨g,2,none⟩=some (.int .i64 (k:Int)))/\Below w1.heap.size w1 U) (first|exact hC.out _ (Below.refl _ _).drew|exact hC.out _ hb2.out) (first|(go_at_call 407;refine (hH _).mono ?_;rintro e w2 ⟨rfl,hb2'⟩;have hb2:=ab (aa (Below.refl w1.heap.size w1).drew hb2')))
 go_wp2;go_ret;exact⟨aT (by rw [HM.out];exact HR.out),aa PC.out (And.right (by assumption))⟩
theorem CD:(Tryz.prog.info? 242).map (λi=>(i.zero,i.size,i.bytes))=some (some (.agg (dY (List.replicate 64 fr)).toArray),320,2560):=by kernel_rfl
theorem Ca.Ga {E:Nat}(h:Ca w g s n k R e hi mi)(x:Int):Ca ((w.setCell ⟨g,323,none⟩ (.int .i64 x)).setCells g 3 (dY (List.replicate 64 fr))) g s n k R0 x hi mi:=by
 have hl:(dY (List.replicate 64 fr)).length=320:=by rw [aN];rfl
 have ht:(w.setCell ⟨g,323,none⟩ (.int .i64 x)).there g 3 320:=World.there_setCells h.th g 323 [.int .i64 x]
 have ho:∀j,j<3\/323<=j->((w.setCell ⟨g,323,none⟩ (.int .i64 x)).setCells g 3 (dY (List.replicate 64 fr))).cell? ⟨g,j,none⟩=(w.setCell ⟨g,323,none⟩ (.int .i64 x)).cell? ⟨g,j,none⟩:=λj hj =>
  World.cell?_setCells_out g _ 3 _ ⟨g,j,none⟩ (λ_ _=>by show j<3\/3+_<=j;rw [hl];omega)
 have hn:∀j,j≠323->(w.setCell ⟨g,323,none⟩ (.int .i64 x)).cell? ⟨g,j,none⟩=w.cell? ⟨g,j,none⟩:=λj hj=>World.cell?_setCell_other _ _ _ _ (λe=>hj (by cases e;rfl))
 have hf:∀j,((w.setCell ⟨g,323,none⟩ (.int .i64 x)).setCells g 3 (dY (List.replicate 64 fr))).frozen? ⟨g,j,none⟩=w.frozen? ⟨g,j,none⟩:=λj=>by rw [World.frozen?_setCells];simp
 refine⟨?_,?_,?_,λr hr j v hv=>?_,World.there_setCells ht _ _ _,λr=>rfl,⟨?_,?_⟩,⟨?_,?_⟩,⟨?_,?_⟩,h.ls,h.n1,h.n4,h.lk⟩
 ·rw [ho _ (by omega),hn _ (by omega)];exact h.c0
 ·rw [ho _ (by omega),hn _ (by omega)];exact h.c1
 ·rw [ho _ (by omega),hn _ (by omega)];exact h.c2
 ·have hj:j<20:=(List.getElem?_eq_some_iff.1 hv).1
  rw [Nat.add_assoc];exact World.rangeAt_setCells_same _ g 3 _ (by rw [hl];exact ht) _ _ (qG r hr j v hv)
 ·rw [ho _ (by omega)];exact World.cell?_setCell_same _ _ _ h.ce.1
 ·rw [hf];exact h.ce.2
 ·rw [ho _ (by omega),hn _ (by omega)];exact h.ch.1
 ·rw [hf];exact h.ch.2
 ·rw [ho _ (by omega),hn _ (by omega)];exact h.cm.1
 ·rw [hf];exact h.cm.2
theorem As {E:Nat}(h:Ca w g s n k R (E:Int) hi mi)(hE:E<256):Calls Tryz.prog 244 #[.pointer (some ⟨g,0,none⟩)] w λx w'=>x=.returned (.tuple #[])/\Ca w' g s n k R0 (((E+1)%256:Nat):Int) hi mi/\ah (λk=>k=g) w w':=by
 have c:=h.ce.1
 have d:=h.ce.2
 have hz:=λW=>aO CD W
 obtain⟨Z,hZ⟩:∃Z,Z=dY (List.replicate 64 fr):=⟨_,rfl⟩
 have hv:(((E+1)%256:Nat):Int)=((E:Int)+1)%256:=by omega
 rw [hv];have hT:=ab (h.Ga (E:=E) (((E:Int)+1)%256))
 rw [<-hZ] at hz hT;have hl:Z.length=320:=by rw [hZ,aN];rfl
 have hZ0:(Z=[])=False:=eq_false (λh=>by rw [h] at hl;simp at hl)
 have hw:IntKind.i64.wrap ((E:Int)+1)=((E+1:Nat):Int):=by rw [IntKind.wrap_i64];omega
 have Qz:=xP (w:=w.setCell ⟨g,323,none⟩ (.int .i64 (((E:Int)+1)%256))) (L:=Z) (n:=320) (World.there_setCells h.th g 323 [.int .i64 (((E:Int)+1)%256)]) hl (by rw [hZ];exact gZ _)
 have hB:Hid (ah (λk=>k=g) w ((w.setCell ⟨g,323,none⟩ (.int .i64 (((E:Int)+1)%256))).setCells g 3 Z)):=ah.setCells (S:=λk=>k=g) rfl Z 3 ((ah.refl (λk=>k=g) w).setCell (p:=⟨g,323,none⟩) rfl _)
 generalize (w.setCell ⟨g,323,none⟩ (.int .i64 (((E:Int)+1)%256))).setCells g 3 Z=w3 at hT Qz hB
 clear hZ h hv;go_enter Tryz.func244,Tryz.ntmps244
 go_wp2;exact bodyPost_end (by simp [results,Tryz.results244,go_sem]) rfl ⟨rfl,hT.out,hB.out⟩
end Go.Proofs.YtffmodpgddecnaaGreatDoor.K
