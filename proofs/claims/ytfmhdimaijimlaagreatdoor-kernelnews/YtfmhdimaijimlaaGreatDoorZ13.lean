import Derived.Test.YtfmhdimaijimlaaGreatDoorZ07
set_option linter.all false
set_option maxRecDepth 1000000
set_option maxHeartbeats 8000000
open Go.Proofs.Tryz
variable {w w' w1 w2:Go.World}{n m k i j b g base kn:Nat}{a:Option Go.Addr}
namespace Go.Proofs.YtfmhdimaijimlaaGreatDoor.K
open Go.RowKit
abbrev Cp:=Int×Nat×Nat
theorem kP {α:Type}{enc:α->List Value}{k:Nat}(hk:∀x,(enc x).length=k)(K:List α)(i c:Nat)(x:α)(hi:K[i]?=some x)(hc:c<k):(K.flatMap enc)[i*k+c]?=(enc x)[c]?:=by
 induction K generalizing i with
 | nil=>cases hi
 | cons a r ih =>
  rw [List.flatMap_cons]
  cases i with
  | zero =>
   simp at hi
   subst hi
   rw [Nat.zero_mul,Nat.zero_add,List.getElem?_append_left (by rw [hk];exact hc)]
  | succ i =>
   rw [List.getElem?_append_right (by rw [hk,Nat.add_mul];omega),hk]
   have:(i+1)*k+c - k=i*k+c:=by rw [Nat.add_mul];omega
   rw [this]
   exact ih i (by simpa using hi)
def sr (a b c d e f:Int):Bool:=decide (a=d/\b=e/\c=f)
theorem xd (a b c d e f:Int)(w:World):(binOp .eql 38 (.agg #[.int .i64 a,.int .u64 b,.int .u64 c]) (.agg #[.int .i64 d,.int .u64 e,.int .u64 f])).run prog w=.ok (.bool (sr a b c d e f)) w:=by
 unfold sr
 by_cases h1:a=d
 ·subst h1
  by_cases h2:b=e
  ·subst h2
   by_cases h3:c=f
   ·subst h3;simp [go_sem]
   ·simp [go_sem,h3]
  ·simp [go_sem,h2]
 ·simp [go_sem,h1]
def ak:Nat:=18446744073709551616
def KF:Nat:=11400714819323198485
def jH (h:Nat):Nat:=h*KF%ak
def qm (h:Nat):Nat:=h ^^^ (h / 2 ^ 29)
def ck (h v:Nat):Nat:=qm (jH (h ^^^ v))
def ek (o a b:Nat):Nat:=ck (ck (ck 5903417616801668165 o) a) b
def cD (h:Nat)(k:Int):Nat:=if k<=0 then 0 else if 64<=k then h else h%2 ^ k.toNat
theorem ux {a:Nat}(ha:a<ak)(hb:b<ak):a ^^^ b<ak:=Nat.xor_lt_two_pow (n:=64) ha hb
theorem fy (h:Nat):jH h<ak:=Nat.mod_lt _ (by decide)
theorem lA {h:Nat}(hh:h<ak):qm h<ak:=ux hh (Nat.lt_of_le_of_lt (Nat.div_le_self _ _) hh)
theorem eB (h v:Nat):ck h v<ak:=lA (fy _)
theorem gP (o a b:Nat):ek o a b<ak:=eB _ _
theorem pJ {h:Nat}(k:Int)(hh:h<ak):cD h k<ak:=by
 unfold cD
 split
 ·decide
 ·split
  ·exact hh
  ·exact Nat.lt_of_le_of_lt (Nat.mod_le _ _) hh
theorem lf (h v:Nat)(hh:h<ak)(hv:v<ak) :
  bits .xor .u64 (IntKind.u64.wrap (bits .xor .u64 (h:Int) (v:Int)*11400714819323198485)) (IntKind.u64.wrap (bits .xor .u64 (h:Int) (v:Int)*11400714819323198485) / 536870912)=(ck h v:Int):=by
 have e1:IntKind.u64.wrap (bits .xor .u64 (h:Int) (v:Int)*11400714819323198485)=(jH (h ^^^ v):Int):=by
  rw [u64_xor_nat h v hh hv,IntKind.wrap_u64]
  unfold jH KF ak
  omega
 have e2:((jH (h ^^^ v):Nat):Int) / 536870912=((jH (h ^^^ v) / 2 ^ 29:Nat):Int):=by omega
 rw [e1,e2,u64_xor_nat _ _ (fy _) (Nat.lt_of_le_of_lt (Nat.div_le_self _ _) (fy _))]
 rfl
theorem lR (h v:Nat)(w:World)(hh:h<ak)(hv:v<ak) :
  Calls prog 284 #[.int .u64 (h:Int),.int .u64 (v:Int)] w λe w'=>e=.returned (.int .u64 (ck h v:Int))/\w'=w:=by
 have HS:Hid _:=lf h v hh hv
 go_enter func284,ntmps284
 go_wp2
 go_ret
 exact⟨aL HS.o,rfl⟩
theorem iP (h n:Nat)(hh:h<ak)(hn:n<=63) :
  bits .and .u64 (h:Int) (IntKind.u64.wrap (IntKind.u64.wrap (2 ^ n) - 1))=((h%2 ^ n:Nat):Int):=by
 have h2:(2:Nat) ^ n<=2 ^ 63:=Nat.pow_le_pow_right (by omega) hn
 have hp:0<(2:Nat) ^ n:=Nat.two_pow_pos n
 have e1:((2:Int) ^ n)=((2 ^ n:Nat):Int):=by simp
 have e2:IntKind.u64.wrap (IntKind.u64.wrap (2 ^ n) - 1)=((2 ^ n - 1:Nat):Int):=by
  rw [e1,IntKind.wrap_u64,IntKind.wrap_u64]
  omega
 rw [e2,u64_and_nat _ _ hh (by omega),Nat.and_two_pow_sub_one_eq_mod]
theorem jS {h:Nat}{k:Int}(h1:k<=0):cD h k=0:=by unfold cD;rw [if_pos h1]
theorem lq {h:Nat}{k:Int}(h1:64<=k):cD h k=h:=by unfold cD;rw [if_neg (by omega),if_pos h1]
theorem j2 {h:Nat}{k:Int}(h1:¬k<=0)(h2:¬64<=k):cD h k=h%2 ^ k.toNat:=by unfold cD;rw [if_neg h1,if_neg h2]
theorem dg (h:Nat)(k:Int)(w:World)(hh:h<ak) :
  Calls prog 285 #[.int .u64 (h:Int),.int .i64 k] w λe w'=>e=.returned (.int .u64 (cD h k:Int))/\w'=w:=by
 by_cases h1:k<=0
 ·rw [jS h1]
  go_enter func285,ntmps285
  go_wp2
  go_ret
  exact⟨rfl,rfl⟩
 ·by_cases h2:64<=k
  ·rw [lq h2]
   go_enter func285,ntmps285
   go_wp2
   go_ret
   exact⟨rfl,rfl⟩
  ·rw [j2 h1 h2]
   have HL:Hid _:=iP h k.toNat hh (by omega)
   go_enter func285,ntmps285
   go_wp2
   go_ret
   exact⟨aL HL.o,rfl⟩
def ez (o:Int):Nat:=(o%18446744073709551616).toNat
theorem oV (o:Int):ez o<ak:=by unfold ez ak;omega
theorem l_ (o:Int):IntKind.u64.wrap o=(ez o:Int):=by rw [IntKind.wrap_u64];unfold ez;omega
def oK (W:World)(x1 x2 x3:Nat)(s t:Value)(w':World):Prop :=
 w'=W/\((t=.int .i64 0/\s=.int .u64 5903417616801668165)\/(t=.int .i64 1/\s=.int .u64 (x1:Int))\/(t=.int .i64 2/\s=.int .u64 (x2:Int))\/(t=.int .i64 3/\s=.int .u64 (x3:Int)))
theorem fA {y x:Int}{h v:Nat}(w:World)(r:Nat)(hr:r=ck h v)(hy:y=(h:Int))(hx:x=(v:Int))(hh:h<ak)(hv:v<ak) :
  Calls prog 284 #[.int .u64 y,.int .u64 x] w λe w'=>e=.returned (.int .u64 (r:Int))/\w'=w:=by
 subst hy hx hr;exact lR h v w hh hv
theorem j7:(5903417616801668165:Int)=((5903417616801668165:Nat):Int):=rfl
theorem k7:(5903417616801668165:Nat)<ak:=by decide
theorem j3 (o:Int)(n a b x1 x2 x3:Nat)(k:Int)(w:World)(ha:a<ak)(hb:b<ak)(hn:n<ak)
  (h1:x1<ak) (h2:x2<ak) (h3:x3<ak) (ho:Hid (IntKind.u64.wrap o=(n:Int))) (e1:Hid (x1=ck 5903417616801668165 n)) (e2:Hid (x2=ck x1 a)) (e3:Hid (x3=ck x2 b)) :
  Calls prog 282 #[.int .i64 o,.agg #[.int .u64 (a:Int),.int .u64 (b:Int)],.int .i64 k] w λe w'=>e=.returned (.int .u64 (cD x3 k:Int))/\Below w.heap.size w w':=by
 go_enter func282,ntmps282
 go_wp2
 go_step3
 go_wp2
 go_step3
 go_wp2
 go_loopw [7,8] (oK (w.alloc (Obj.cells #[.int .u64 (a:Int),.int .u64 (b:Int)] 31)) x1 x2 x3) (λ_ t _=>(3 - intOf t).toNat)
 case atStart=>exact⟨rfl,.inl ⟨rfl,rfl⟩⟩
 case round =>
  obtain⟨rfl,⟨rfl,rfl⟩|⟨rfl,rfl⟩|⟨rfl,rfl⟩|⟨rfl,rfl⟩⟩:=hrel
  ·go_wp2_with (first|(go_at_call 284;refine (fA _ x1 e1.out j7 ho.out k7 hn).mono ?_;rintro e w1 ⟨rfl,rfl⟩))
   go_roundw
   case rel=>exact⟨rfl,.inr (.inl ⟨rfl,rfl⟩)⟩
   case measure=>simp [intOf]
  ·go_wp2_with (first|(go_at_call 284;refine (fA _ x2 e2.out rfl rfl h1 ha).mono ?_;rintro e w1 ⟨rfl,rfl⟩))
   go_roundw
   case rel=>exact⟨rfl,.inr (.inr (.inl ⟨rfl,rfl⟩))⟩
   case measure=>simp [intOf]
  ·go_wp2_with (first|(go_at_call 284;refine (fA _ x3 e3.out rfl rfl h2 hb).mono ?_;rintro e w1 ⟨rfl,rfl⟩))
   go_roundw
   case rel=>exact⟨rfl,.inr (.inr (.inr ⟨rfl,rfl⟩))⟩
   case measure=>simp [intOf]
  ·go_wp2_with (first|(go_at_call 285;refine (dg _ _ _ h3).mono ?_;rintro e w1 ⟨rfl,rfl⟩))
   try rw [Exit.noGoto_ret]
   go_ret
   exact⟨rfl,ab _ _⟩
theorem mQ (o:Int)(a b:Nat)(k:Int)(w:World)(ha:a<ak)(hb:b<ak) :
  Calls prog 282 #[.int .i64 o,.agg #[.int .u64 (a:Int),.int .u64 (b:Int)],.int .i64 k] w λe w'=>e=.returned (.int .u64 (cD (ek (ez o) a b) k:Int))/\Below w.heap.size w w' :=
 j3 o (ez o) a b _ _ (ek (ez o) a b) k w ha hb (oV o) (eB _ _) (eB _ _) (gP _ _ _) (l_ o) rfl rfl rfl
abbrev Pl:=Bool×Cp×Int
def eG (p:Pl):List Value:=[.bool p.1,.int .i64 p.2.1.1,.int .u64 (p.2.1.2.1:Int),.int .u64 (p.2.1.2.2:Int),.int .i64 p.2.2]
theorem mq (p:Pl):∀v∈eG p,v.oneCell'=true:=by
 intro v hv
 simp only [eG,List.mem_cons,List.not_mem_nil,or_false] at hv
 rcases hv with rfl|rfl|rfl|rfl|rfl<;>rfl
def ee (P:List Pl):List Value:=P.flatMap eG
theorem oI (P:List Pl):(ee P).length=P.length*5:=by
 induction P with
 | nil=>rfl
 | cons a r ih=>simp only [ee,List.flatMap_cons,List.length_append] at ih ⊢;rw [ih];simp [eG];omega
theorem gW (P:List Pl):∀u∈ee P,u.oneCell'=true:=λu hu=>by
 unfold ee at hu
 obtain⟨x,_,hx⟩:=List.mem_flatMap.1 hu
 exact mq x u hx
structure Ce (w:World)(b o:Nat)(p:Pl):Prop where
 c0:w.cell? ⟨b,o,none⟩=some (.bool p.1)
 c1:w.cell? ⟨b,o+1,none⟩=some (.int .i64 p.2.1.1)
 c2:w.cell? ⟨b,o+2,none⟩=some (.int .u64 (p.2.1.2.1:Int))
 c3:w.cell? ⟨b,o+3,none⟩=some (.int .u64 (p.2.1.2.2:Int))
 c4:w.cell? ⟨b,o+4,none⟩=some (.int .i64 p.2.2)
theorem Ce.but {S:Nat->Prop}{o:Nat}{p:Pl}(h:Ce w b o p)(hb:ae S w w')(hn:¬S b):Ce w' b o p :=
 ⟨aC hb h.c0 hn,aC hb h.c1 hn,aC hb h.c2 hn,aC hb h.c3 hn,aC hb h.c4 hn⟩
theorem Ce.later {o:Nat}{p:Pl}(h:Ce w b o p)(hb:Below w.heap.size w w'):Ce w' b o p:=h.but (S:=λ_=>False) (ae.of hb) (λh=>h)
theorem r_ {o:Nat}{P:List Pl}(h:w.rangeAt b o (ee P)){p:Pl}(hi:P[i]?=some p):Ce w b (o+i*5) p:=by
 have hg:=λd (hd:d<5)=>kP (enc:=eG) (k:=5) (λ_=>rfl) P i d p hi hd
 have e:=λd (hd:d<5) v (hv:(eG p)[d]?=some v)=>h (i*5+d) v ((hg d hd).trans hv)
 simp only [<-Nat.add_assoc] at e
 exact⟨e 0 (by omega) _ rfl,e 1 (by omega) _ rfl,e 2 (by omega) _ rfl,e 3 (by omega) _ rfl,e 4 (by omega) _ rfl⟩
def eZ (c:Cp)(p:Pl):Bool:=p.1&&decide (p.2.1=c)
theorem DE (x c:Cp):sr x.1 (x.2.1:Int) (x.2.2:Int) c.1 (c.2.1:Int) (c.2.2:Int)=decide (x=c):=by
 unfold sr
 by_cases h:x=c
 ·subst h;simp
 ·rw [dF h]
  refine dF λhq=>h ?_
  obtain⟨q1,q2,q3⟩:=hq
  exact Prod.ext q1 (Prod.ext (Int.ofNat.inj q2) (Int.ofNat.inj q3))
theorem EU (x c:Cp)(w:World):(binOp .eql 38 (.agg #[.int .i64 x.1,.int .u64 (x.2.1:Int),.int .u64 (x.2.2:Int)]) (.agg #[.int .i64 c.1,.int .u64 (c.2.1:Int),.int .u64 (c.2.2:Int)])).run prog w=.ok (.bool (decide (x=c))) w:=by
 rw [xd,DE]
theorem aR (p:Pl)(c:Cp)(w:World) :
  Calls prog 283 #[.agg #[.bool p.1,.int .i64 p.2.1.1,.int .u64 (p.2.1.2.1:Int),.int .u64 (p.2.1.2.2:Int),.int .i64 p.2.2],.agg #[.int .i64 c.1,.int .u64 (c.2.1:Int),.int .u64 (c.2.2:Int)]] w λe w'=>e=.returned (.bool (eZ c p))/\Below w.heap.size w w':=by
 obtain⟨f,x,n⟩:=p
 have heq:=λW=>EU x c W
 have HH:Hid (eZ c (f,x,n)=(f&&decide (x=c))):=rfl
 generalize decide (x=c)=q at heq HH
 cases f with
 | true =>
  go_enter func283,ntmps283
  go_wp2
  go_ret
  exact⟨cW (by rw [HH.o];rfl),aw _ _ _⟩
 | false =>
  go_enter func283,ntmps283
  go_wp2
  go_ret
  exact⟨cW (by rw [HH.o];rfl),aw _ _ _⟩
def dS (P:List Pl)(c:Cp)(n:Nat):Nat:=min ((P.take n).findIdx (eZ c)) (n - 1)
def IN (W:World)(P:List Pl)(c:Cp)(n:Nat)(t:Value)(w:World):Prop :=
 ∃i:Nat,i<=n/\t=.int .i64 (i:Int)/\(∀j p,j<i->P[j]?=some p->eZ c p=false)/\Below W.heap.size W w
theorem uX {P:List Pl}{c:Cp}{p:Pl}(hi:i<n)(hp:P[i]?=some p)(hh:eZ c p=true)(hn:∀j q,j<i->P[j]?=some q->eZ c q=false):dS P c n=i:=by
 unfold dS
 have hl:i<P.length:=(gS.1 hp).1
 have e:(P.take n).findIdx (eZ c)=i:=by
  rw [List.findIdx_eq (by rw [List.length_take];omega)]
  refine⟨?_,λj hj=>?_⟩
  ·rw [List.getElem_take]
   rw [gE hl] at hp
   cases hp
   exact hh
  ·have hj2:j<P.length:=by omega
   have:=hn j _ hj (gE hj2)
   rw [List.getElem_take,this]
 rw [e]
 omega
theorem nS {P:List Pl}{c:Cp}(hn:∀j q,j<n->P[j]?=some q->eZ c q=false)(hl:n<=P.length):dS P c n=n - 1:=by
 unfold dS
 have e:(P.take n).findIdx (eZ c)=(P.take n).length:=by
  rw [List.findIdx_eq_length]
  intro x hx
  obtain⟨j,hj,rfl⟩:=List.mem_iff_getElem.1 hx
  rw [List.length_take] at hj
  rw [List.getElem_take]
  exact hn j _ (by omega) (gE (by omega))
 rw [e,List.length_take]
 omega
theorem oq (W:World)(L:List Value)(t:TypeId):(W.alloc (.cells L.toArray t)).rangeAt W.heap.size 0 L:=λj v hv=>by
 rw [Nat.zero_add,cell_of_row _ _ _ _ _ _ (heap_alloc_new W (.cells L.toArray t))]
 simpa using hv
theorem eH {o:Nat}{cs:List Value}(h:w.rangeAt b o cs)(hb:Below w.heap.size w w'):w'.rangeAt b o cs:=λj v hv=>cell_later hb (h j v hv)
theorem nQ {S:Nat->Prop}{o:Nat}{cs:List Value}(h:w.rangeAt b o cs)(hb:ae S w w')(hn:¬S b):w'.rangeAt b o cs:=λj v hv=>aC hb (h j v hv) hn
theorem rz (P:List Pl)(c:Cp)(n:Nat)(w:World)(hl:P.length=4)(h1:1<=n)(h4:n<=4) :
  Calls prog 277 #[.agg (ee P).toArray,.agg #[.int .i64 c.1,.int .u64 (c.2.1:Int),.int .u64 (c.2.2:Int)],.int .i64 (n:Int)] w λe w'=>e=.returned (.int .i64 (dS P c n:Int))/\Below w.heap.size w w':=by
 have hs:(ee P).toArray.size=20:=by rw [List.size_toArray,oI,hl]
 have HA:Hid (∀(W:World) (t:TypeId),(W.alloc (.cells (ee P).toArray t)).rangeAt W.heap.size 0 (ee P)):=λW t=>oq W _ t
 have HL:=aa hl
 clear hl
 generalize (ee P).toArray=A at HA hs
 go_enter func277,ntmps277
 go_upto_region 2 with fail
 go_loopw [9] (IN ((w.alloc (.cells A 168)).alloc (.cells #[.int .i64 c.1,.int .u64 (c.2.1:Int),.int .u64 (c.2.2:Int)] 38)) P c n) (λt _=>n - (intOf t).toNat)
 case atStart=>exact⟨0,by omega,rfl,λj p hj=>absurd hj (Nat.not_lt_zero _),Below.refl _ _⟩
 case round =>
  obtain⟨i,hi,rfl,hno,hB⟩:=hrel
  have HNo:=aa hno
  clear hno
  by_cases hlt:i<n
  ·obtain⟨p,hp⟩:∃p,P[i]?=some p:=⟨_,gE (by rw [HL.o];omega)⟩
   have hC:Hid (∀U:World,Below wr.heap.size wr U->(U.cell? ⟨w.heap.size,i*5,none⟩=some (.bool p.1)/\U.cell? ⟨w.heap.size,i*5+1,none⟩=some (.int .i64 p.2.1.1)/\U.cell? ⟨w.heap.size,i*5+2,none⟩=some (.int .u64 (p.2.1.2.1:Int))/\U.cell? ⟨w.heap.size,i*5+3,none⟩=some (.int .u64 (p.2.1.2.2:Int))/\U.cell? ⟨w.heap.size,i*5+4,none⟩=some (.int .i64 p.2.2)/\U.cell? ⟨w.heap.size+1,0,none⟩=some (.int .i64 c.1)/\U.cell? ⟨w.heap.size+1,1,none⟩=some (.int .u64 (c.2.1:Int))/\U.cell? ⟨w.heap.size+1,2,none⟩=some (.int .u64 (c.2.2:Int)))/\Below wr.heap.size wr U):=λU hU=>by
    have hx:=((r_ (eH (HA.o w 168) (ab _ (.cells #[.int .i64 c.1,.int .u64 (c.2.1:Int),.int .u64 (c.2.2:Int)] 38))) hp).later hB).later hU
    rw [Nat.zero_add] at hx
    exact⟨⟨hx.c0,hx.c1,hx.c2,hx.c3,hx.c4,cell_later hU (cell_later hB (by simp [go_sem])),cell_later hU (cell_later hB (by simp [go_sem])),cell_later hU (cell_later hB (by simp [go_sem]))⟩,hU⟩
   have hHas:=λW=>aR p c W
   have HP:=aa hp
   have HB:=aa hB
   clear hp hB
   obtain⟨q,hq'⟩:∃q,q=eZ c p:=⟨_,rfl⟩
   rw [<-hq'] at hHas
   have hq:=aa hq'
   clear hq'
   have hi4:(i:Int)<4:=by omega
   go_upto_region 4 with fail
   go_region_held3 (λU=>(U.cell? ⟨w.heap.size,i*5,none⟩=some (.bool p.1)/\U.cell? ⟨w.heap.size,i*5+1,none⟩=some (.int .i64 p.2.1.1)/\U.cell? ⟨w.heap.size,i*5+2,none⟩=some (.int .u64 (p.2.1.2.1:Int))/\U.cell? ⟨w.heap.size,i*5+3,none⟩=some (.int .u64 (p.2.1.2.2:Int))/\U.cell? ⟨w.heap.size,i*5+4,none⟩=some (.int .i64 p.2.2)/\U.cell? ⟨w.heap.size+1,0,none⟩=some (.int .i64 c.1)/\U.cell? ⟨w.heap.size+1,1,none⟩=some (.int .u64 (c.2.1:Int))/\U.cell? ⟨w.heap.size+1,2,none⟩=some (.int .u64 (c.2.2:Int)))/\Below wr.heap.size wr U) (first|exact hC.out _ (Below.refl _ _).drew|exact hC.out _ hb2.out) (first|(go_at_call 283;refine (hHas _).mono ?_;rintro e w2 ⟨rfl,hb2'⟩;have hb2:=aa (al (Below.refl wr.heap.size wr).drew hb2')))
   have HB3:=aa (al HB.o (And.right (by assumption:_/\Below wr.heap.size wr w2)))
   cases q with
   | true =>
    go_wp2
    go_ret
    exact⟨aL (by rw [uX hlt HP.o hq.out.symm HNo.o]),al (aw _ _ _) HB3.o⟩
   | false =>
    go_wp2
    refine⟨⟨i+1,by omega,by go_num,λj x hj hx=>?_,HB3.o⟩,by simp [intOf];omega⟩
    rcases Nat.lt_or_ge j i with h3|h3
    ·exact HNo.o j x h3 hx
    ·obtain rfl:j=i:=by omega
     rw [HP.o] at hx
     cases hx
     exact hq.out.symm
  ·obtain rfl:i=n:=by omega
   have HE:=aa (nS HNo.o (by rw [HL.o];exact h4))
   have hw:IntKind.i64.wrap ((i:Int) - 1)=((i - 1:Nat):Int):=by rw [IntKind.wrap_i64];omega
   have HB:=aa hB
   clear hB
   go_wp2
   go_ret
   exact⟨aL (by rw [HE.o]),al (aw _ _ _) HB.o⟩
theorem aP {P:Program}{ops:Array Oper}{rest:List Oper}{a:Act}{Q:Exit->Act->World->Prop}{d:Option Tmp}{tt:TypeId}{ps:String}{af}{ty:TypeId}{x:Operand}{p v:Value}
  (hr:(Instr.loadAt ty p).run P w=.ok v w) (hx:a.eval x=p) (h:wpList P ops Q rest (a.put d v) w) :
  wpList P ops Q ({ dst:=d,op:=.load ty x,type:=tt,pos:=ps,after:=af,guard:=none }::rest) a w:=by
 refine wpList_plain rfl λK hK=>?_
 unfold Oper.wp execOp
 simp only [hx,hr,Sem.run_bind,Sem.run_pure,Result.andThen_ok]
 exact hK _ _ h
theorem kL:∀(Q:List Pl) (j:Nat),(ee Q)[j]?=(Q[j / 5]?).bind (λx=>(eG x)[j%5]?)
 | [],j=>by simp [ee]
 | a::r,j=>by
  have ih:=kL r
  unfold ee at ih ⊢
  rw [List.flatMap_cons]
  have hl:(eG a).length=5:=rfl
  by_cases h:j<5
  ·rw [List.getElem?_append_left (by omega),Nat.div_eq_of_lt h,Nat.mod_eq_of_lt h]
   rfl
  ·rw [List.getElem?_append_right (by omega),hl,ih,show j / 5=(j - 5) / 5+1 by omega,show j%5=(j - 5)%5 by omega]
   rfl
theorem nD {o:Nat}{Q:List Pl}(h:w.rangeAt b o (ee Q))(hi:i<Q.length)(p:Pl):(w.setCells b (o+i*5) (eG p)).rangeAt b o (ee (Q.set i p)):=λj v hv=>by
 rw [kL] at hv
 by_cases e:j / 5=i
 ·subst e
  rw [List.getElem?_set_self hi] at hv
  have hlt:j%5<(eG p).length:=Nat.mod_lt _ (by decide)
  have:=World.cell?_setCells_in b (eG p) (o+j / 5*5) w (λd hd=>by
   have hd5:d<5:=hd
   rw [Nat.add_assoc]
   exact h.isSome _ (by rw [oI];omega)) (j%5) hlt
  rw [show o+j / 5*5+j%5=o+j by omega] at this
  rw [this]
  simpa [hlt] using hv
 ·rw [List.getElem?_set_ne (λh=>e h.symm),<-kL] at hv
  rw [World.cell?_setCells_out b (eG p) (o+i*5) w ⟨b,o+j,none⟩ (λ_ _=>by
   have hl:(eG p).length=5:=rfl
   show o+j<o+i*5\/o+i*5+(eG p).length<=o+j
   omega)]
  exact h j v hv
theorem jg:(prog.info? 168).map (·.size)=some 20:=by kernel_rfl
def fr:Pl:=(false,(0,0,0),0)
theorem pB:(prog.info? 168).map (λi=>(i.zero,i.size,i.bytes))=some (some (.agg (ee (List.replicate 4 fr)).toArray),20,160):=by kernel_rfl
theorem aG {t:TypeId}{z:Value}{s:Nat}(h:(prog.info? t).map (λi=>(i.zero,i.size,i.bytes))=some (some z,s,b))(w:World):(zeroValue t).run prog w=.ok z w:=by
 obtain⟨i,hi,hz0,hz1,hz2⟩:=info_parts h
 simp [zeroValue,typeInfo,hi,hz0]
theorem j6 {o:Nat}{L:List Value}(h:w.rangeAt b o L)(hl:L.length=20):(Instr.loadAt 168 (.pointer (some ⟨b,o,none⟩))).run prog w=.ok (.agg L.toArray) w :=
 run_loadAt_mid w b o 168 L _ h underlying168 rfl (by rw [jg,hl])
theorem AH {w:World}{b o n:Nat}{L:List Value}(h:w.there b o n)(hl:L.length=n)(h1:∀v∈L,v.oneCell'=true):(storeCells ⟨b,o,none⟩ L).run prog w=.ok () (w.setCells b o L) :=
 run_storeCells_cells (P:=prog) b o L 0 w (λj hj=>by rw [Nat.add_zero];exact (h j (by omega)).1) (λj hj=>by rw [Nat.add_zero];exact (h j (by omega)).2) h1
def CJ (P:List Pl)(i:Nat):List Pl:=P.take 1++P.take i++P.drop (i+1)
def Ik (W:World)(b:Nat)(P:List Pl)(k:Nat)(t:Value)(w:World):Prop :=
 ∃i:Nat,i<=k/\t=.int .i64 (i:Int)/\w.rangeAt b 0 (ee (CJ P i))/\w.there b 0 20/\ae (λx=>x=b) W w
theorem four {P:List Pl}(h:P.length=4):∃a b c d,P=[a,b,c,d]:=by
 match P,h with
 | [a,b,c,d],_=>exact⟨a,b,c,d,rfl⟩
theorem kK {P:List Pl}(h:P.length=4)(hi:i<4):(CJ P i).length=4:=by simp [CJ,h];omega
theorem Bl {P:List Pl}{p:Pl}(h:P.length=4)(hi:i+1<4)(hp:P[i]?=some p):(CJ P i).set (i+1) p=CJ P (i+1):=by
 obtain⟨a,b,c,d,rfl⟩:=four h
 match i,hi with
 | 0,_=>cases hp;rfl
 | 1,_=>cases hp;rfl
 | 2,_=>cases hp;rfl
theorem zO {P:List Pl}(p:Pl)(h:P.length=4)(hk:k<4):(CJ P k).set 0 p=p::P.eraseIdx k:=by
 obtain⟨a,b,c,d,rfl⟩:=four h
 match k,hk with
 | 0,_=>rfl
 | 1,_=>rfl
 | 2,_=>rfl
 | 3,_=>rfl
theorem Bm {P:List Pl}(h:P.length=4):CJ P 0=P:=by
 obtain⟨a,b,c,d,rfl⟩:=four h
 rfl
theorem aS (W:World)(A:Array Value)(t:TypeId)(n:Nat)(h:A.size=n):(W.alloc (.cells A t)).there W.heap.size 0 n:=λj hj=>by
 rw [Nat.zero_add,cell_of_row _ _ _ _ _ _ (heap_alloc_new W (.cells A t))]
 refine⟨by simp;omega,?_⟩
 simp only [World.frozen?,heap_alloc_new]
 simp
theorem bT {o:Nat}(h:w.there b o n)(hb:Below w.heap.size w w'):w'.there b o n:=λj hj=>by
 obtain⟨h1,h2⟩:=h j hj
 obtain⟨u,hu⟩:=Option.isSome_iff_exists.1 h1
 exact⟨by rw [cell_later hb hu];rfl,by rw [hb.frozen (World.block_lt_of_cell? _ _ hu)];exact h2⟩
theorem oA {S:Nat->Prop}{o:Nat}(h:w.there b o n)(hb:ae S w w')(hn:¬S b):w'.there b o n:=λj hj=>by
 obtain⟨h1,h2⟩:=h j hj
 obtain⟨u,hu⟩:=Option.isSome_iff_exists.1 h1
 have:=(aq.but hb ⟨hu,h2⟩ hn)
 exact⟨by rw [this.1];rfl,this.2⟩
theorem A9 (P:List Pl)(p:Pl)(k:Nat)(w:World)(hl:P.length=4)(hk:k<4) :
  Calls prog 276 #[.agg (ee P).toArray,.agg #[.bool p.1,.int .i64 p.2.1.1,.int .u64 (p.2.1.2.1:Int),.int .u64 (p.2.1.2.2:Int),.int .i64 p.2.2],.int .i64 (k:Int)] w λe w'=>e=.returned (.agg (ee (p::P.eraseIdx k)).toArray)/\Below w.heap.size w w':=by
 have hs:(ee P).length=20:=by rw [oI,hl]
 have hz:=λW=>aG pB W
 obtain⟨Z,hZ⟩:∃Z,Z=ee (List.replicate 4 fr):=⟨_,rfl⟩
 have hZl:Z.length=20:=by rw [hZ,oI];rfl
 rw [<-hZ] at hz
 have HZ:=aa hZ
 clear hZ
 obtain⟨A,hA⟩:∃A,A=ee P:=⟨_,rfl⟩
 rw [<-hA]
 have HA:=aa hA
 have HAl:Hid (A.length=20):=by rw [hA];exact hs
 have HZl:=aa hZl
 have HL:=aa hl
 clear hA hs hZl hl
 obtain⟨Z',hZ'⟩:∃Z',Z'=Z.toArray:=⟨_,rfl⟩
 rw [<-hZ'] at hz
 have HZ':=aa hZ'
 clear hZ'
 have hAl:=HAl.o
 go_enter func276,ntmps276
 go_upto_region 1 with fail
 generalize hw3:(((w.alloc (Obj.cells A.toArray 168)).alloc (Obj.cells #[Value.bool p.1,Value.int IntKind.i64 p.2.1.1,Value.int IntKind.u64 (p.2.1.2.1:Int),Value.int IntKind.u64 (p.2.1.2.2:Int),Value.int IntKind.i64 p.2.2] 166)).alloc (Obj.cells Z' 168))=w3
 have HS3:Hid (w3.heap.size=w.heap.size+3):=by rw [<-hw3];simp [Hid]
 have HB3:Hid (Below w.heap.size w w3):=by rw [<-hw3];exact (aw _ _ _).alloc (by simp;omega) _
 have HR3:Hid (w3.rangeAt w.heap.size 0 A):=by
  rw [<-hw3]
  exact eH (eH (oq w A 168) (ab _ _)) (ab _ _)
 have HP3:Hid (Ce w3 (w.heap.size+1) 0 p):=by
  rw [<-hw3]
  exact⟨by simp [go_sem],by simp [go_sem],by simp [go_sem],by simp [go_sem],by simp [go_sem]⟩
 have HT3:Hid (w3.there (w.heap.size+1+1) 0 20):=by
  have:=aS ((w.alloc (Obj.cells A.toArray 168)).alloc (Obj.cells #[Value.bool p.1,Value.int IntKind.i64 p.2.1.1,Value.int IntKind.u64 (p.2.1.2.1:Int),Value.int IntKind.u64 (p.2.1.2.2:Int),Value.int IntKind.i64 p.2.2] 166)) Z' 168 20 (by rw [HZ'.o];simp [HZl.o])
  rw [hw3] at this
  simp at this
  exact this
 clear hw3
 have HLD:=aa (j6 HR3.o HAl.o)
 have HTN:=aa (aS w3 Z' 168 20 (by rw [HZ'.o];simp [HZl.o]))
 have HST:=AH (L:=A) (n:=20) HTN.o HAl.o (by rw [HA.o];exact gW P)
 generalize hw4:(w3.alloc (Obj.cells Z' 168)).setCells w3.heap.size 0 A=w4 at HST
 have HB4:Hid (Below w3.heap.size w3 w4):=by
  rw [<-hw4]
  exact ae.below (ab w3 _) (ae.setCells (S:=λx=>x=w3.heap.size) rfl A 0 (ae.refl _ _)) (λk hk=>by omega)
 have HS4:Hid (w3.heap.size<w4.heap.size):=by rw [<-hw4,cv];simp [Hid]
 have HR4:Hid (w4.rangeAt w3.heap.size 0 (ee (CJ P 0))):=by
  rw [<-hw4,Bm HL.o,<-HA.o]
  exact World.rangeAt_setCells_same _ _ _ _ (by rw [HAl.o];exact HTN.o)
 have HT4:Hid (w4.there w3.heap.size 0 20):=by rw [<-hw4];exact World.there_setCells HTN.o _ _ _
 clear hw4 HTN
 go_upto_region 3 with (first|((with_reducible refine aP HLD.o ?_ ?_);· rfl))
 clear HST HLD
 go_loopw [11] (Ik w4 w3.heap.size P k) (λt _=>k - (intOf t).toNat)
 case atStart=>exact⟨0,by omega,rfl,HR4.o,HT4.o,ae.refl _ _⟩
 case round =>
  obtain⟨i,hi,rfl,hR,hT,hB⟩:=hrel
  have hne:=HS3.o
  have h34:=HS4.o
  have HR:=aa hR
  have HT:=aa hT
  have HB:=aa hB
  clear hR hT hB
  by_cases hlt:i<k
  ·have hi4:(i:Int)<4:=by omega
   have hi5:(i:Int)+1<4:=by omega
   have hwr:IntKind.i64.wrap ((i:Int)+1)=((i+1:Nat):Int):=by rw [IntKind.wrap_i64];omega
   obtain⟨x,hx⟩:∃x,P[i]?=some x:=⟨_,gE (by rw [HL.o];omega)⟩
   obtain⟨y,hy⟩:∃y,(CJ P i)[i+1]?=some y:=⟨_,gE (by rw [kK HL.o (by omega)];omega)⟩
   have hX:=((r_ (by rw [<-HA.o];exact HR3.o) hx).later HB4.o).but HB.o (by omega)
   have hY:=r_ HR.o hy
   rw [Nat.zero_add] at hX hY
   have hF:=λ(d:Nat) (hd:d<5)=>(HT.o ((i+1)*5+d) (by omega)).2
   simp only [Nat.zero_add] at hF
   obtain⟨x0,x1,x2,x3,x4⟩:=hX
   obtain⟨y0,y1,y2,y3,y4⟩:=hY
   have f0:=hF 0 (by omega)
   have f1:=hF 1 (by omega)
   have f2:=hF 2 (by omega)
   have f3:=hF 3 (by omega)
   have f4:=hF 4 (by omega)
   rw [Nat.add_zero] at f0
   have HX:=aa hx
   clear hF hne h34 hx hy
   go_wp2
   refine⟨⟨i+1,by omega,by go_num,?_,World.there_setCells HT.o _ ((i+1)*5) (eG x),HB.o.trans (ae.setCells (S:=λx=>x=w3.heap.size) rfl (eG x) ((i+1)*5) (ae.refl _ _))⟩,by simp [intOf];omega⟩
   have:=nD HR.o (i:=i+1) (by rw [kK HL.o (by omega)];omega) x
   rw [Bl HL.o (by omega) HX.o,Nat.zero_add] at this
   exact this
  ·obtain rfl:i=k:=by omega
   have hX:=((HP3.o).later HB4.o).but HB.o (by omega)
   obtain⟨x0,x1,x2,x3,x4⟩:=hX
   obtain⟨y,hy⟩:∃y,(CJ P i)[0]?=some y:=⟨_,gE (by rw [kK HL.o (by omega)];omega)⟩
   have hY:=r_ HR.o hy
   obtain⟨y0,y1,y2,y3,y4⟩:=hY
   have hF:=λ(d:Nat) (hd:d<5)=>(HT.o d (by omega)).2
   have f0:=hF 0 (by omega)
   have f1:=hF 1 (by omega)
   have f2:=hF 2 (by omega)
   have f3:=hF 3 (by omega)
   have f4:=hF 4 (by omega)
   simp only [Nat.zero_mul,Nat.zero_add] at x0 x1 x2 x3 x4 y0 y1 y2 y3 y4 f0 f1 f2 f3 f4
   clear hF hne h34 hy
   go_upto_region 8 with fail
   have HR5:Hid ((((((wr.setCell ⟨w3.heap.size,0,none⟩ (.bool p.1)).setCell ⟨w3.heap.size,1,none⟩ (.int .i64 p.2.1.1)).setCell ⟨w3.heap.size,2,none⟩ (.int .u64 (p.2.1.2.1:Int))).setCell ⟨w3.heap.size,3,none⟩ (.int .u64 (p.2.1.2.2:Int))).setCell ⟨w3.heap.size,4,none⟩ (.int .i64 p.2.2)).rangeAt w3.heap.size 0 (ee (p::P.eraseIdx i))):=by
    have:=nD HR.o (i:=0) (by rw [kK HL.o (by omega)];omega) p
    rw [zO p HL.o (by omega)] at this
    exact this
   have HB5:Hid (ae (λx=>x=w3.heap.size) w4 (((((wr.setCell ⟨w3.heap.size,0,none⟩ (.bool p.1)).setCell ⟨w3.heap.size,1,none⟩ (.int .i64 p.2.1.1)).setCell ⟨w3.heap.size,2,none⟩ (.int .u64 (p.2.1.2.1:Int))).setCell ⟨w3.heap.size,3,none⟩ (.int .u64 (p.2.1.2.2:Int))).setCell ⟨w3.heap.size,4,none⟩ (.int .i64 p.2.2))):=HB.o.trans (ae.setCells (S:=λx=>x=w3.heap.size) rfl (eG p) 0 (ae.refl _ _))
   generalize (((((wr.setCell ⟨w3.heap.size,0,none⟩ (.bool p.1)).setCell ⟨w3.heap.size,1,none⟩ (.int .i64 p.2.1.1)).setCell ⟨w3.heap.size,2,none⟩ (.int .u64 (p.2.1.2.1:Int))).setCell ⟨w3.heap.size,3,none⟩ (.int .u64 (p.2.1.2.2:Int))).setCell ⟨w3.heap.size,4,none⟩ (.int .i64 p.2.2))=w5 at *
   obtain⟨N,hN⟩:∃N,N=ee (p::P.eraseIdx i):=⟨_,rfl⟩
   have hNl:N.length=20:=by rw [hN,oI,List.length_cons,List.length_eraseIdx,HL.o,if_pos (by omega)]
   have HN1:Hid (∀v∈N,v.oneCell'=true):=by rw [hN];exact gW _
   rw [<-hN] at HR5
   have HN:=aa hN
   have HT5:Hid (w5.there (w.heap.size+1+1) 0 20):=oA (bT HT3.o HB4.o) HB5.o (by have:=HS3.o;omega)
   have HLD:=aa (j6 HR5.o hNl)
   have HST:=AH (L:=N) (n:=20) HT5.o hNl HN1.o
   have HB6:Hid (Below w.heap.size w (w5.setCells (w.heap.size+1+1) 0 N)) :=
    ae.below (ae.below (al HB3.o HB4.o) HB5.o (λk hk=>by have:=HS3.o;omega)) (ae.setCells (S:=λx=>x=w.heap.size+1+1) rfl N 0 (ae.refl _ _)) (λk hk=>by omega)
   have HLR:=aa (run_loadVar_mid (P:=prog) (w5.setCells (w.heap.size+1+1) 0 N) (w.heap.size+1+1) 0 168 N _ (World.rangeAt_setCells_same _ _ _ _ (by rw [hNl];exact HT5.o)) underlying168 rfl (by rw [jg,hNl]))
   generalize w5.setCells (w.heap.size+1+1) 0 N=w6 at HST HB6 HLR
   clear hN
   go_wp2_with (first|((with_reducible refine aP HLD.o ?_ ?_);· rfl))
   refine bodyPost_ret (v:=.agg N.toArray) ?_ rfl ⟨by rw [HN.o],HB6.o⟩
   have hlr:=HLR.o
   simp [results,results276,asAddr,hlr]
structure Ca (w:World)(g s n k:Nat)(R:Nat->List Pl)(e hi mi:Int):Prop where
 c0:w.cell? ⟨g,0,none⟩=some (.int .i64 (s:Int))
 c1:w.cell? ⟨g,1,none⟩=some (.int .i64 (n:Int))
 c2:w.cell? ⟨g,2,none⟩=some (.int .i64 (k:Int))
 at_:∀r,r<16->w.rangeAt g (3+r*20) (ee (R r))
 th:w.there g 3 320
 len:∀r,(R r).length=4
 ce:aq w ⟨g,323,none⟩ (.int .i64 e)
 ch:aq w ⟨g,324,none⟩ (.int .i64 hi)
 cm:aq w ⟨g,325,none⟩ (.int .i64 mi)
 ls:s<=16
 n1:1<=n
 n4:n<=4
 lk:k<=64
variable {w w':World}{g s n k:Nat}{R:Nat->List Pl}{e hi mi:Int}
theorem Ca.lt (h:Ca w g s n k R e hi mi):g<w.heap.size:=World.block_lt_of_cell? _ _ h.c0
theorem Ca.but {S:Nat->Prop}(h:Ca w g s n k R e hi mi)(hb:ae S w w')(h1:¬S g):Ca w' g s n k R e hi mi :=
 ⟨aC hb h.c0 h1,aC hb h.c1 h1,aC hb h.c2 h1,λr hr=>nQ (h.at_ r hr) hb h1,oA h.th hb h1,h.len,h.ce.but hb h1,h.ch.but hb h1,h.cm.but hb h1,h.ls,h.n1,h.n4,h.lk⟩
theorem Ca.later (h:Ca w g s n k R e hi mi)(hb:Below w.heap.size w w'):Ca w' g s n k R e hi mi:=h.but (S:=λ_=>False) (ae.of hb) (λh=>h)
def R0:Nat->List Pl:=λ_=>List.replicate 4 fr
theorem D2:(prog.info? 171).map (λi=>(i.zero,i.size,i.bytes))=some (some (.agg (ints [0,0,0]++(ee (List.replicate 64 fr)++ints [0,0,0])).toArray),326,2608):=by kernel_rfl
theorem rH (r:Nat)(hr:r<16)(j:Nat)(v:Value)(hv:(ee (List.replicate 4 fr))[j]?=some v):(ee (List.replicate 64 fr))[r*20+j]?=some v:=by
 have hj:j<20:=(gS.1 hv).1
 rw [kL] at hv ⊢
 rw [List.getElem?_replicate,if_pos (by omega)] at hv ⊢
 rw [show (r*20+j)%5=j%5 by omega]
 exact hv
theorem Ca.new (w:World)(s n k:Nat)(h1:s<=16)(h2:1<=n)(h3:n<=4)(h4:k<=64)(Z:Array Value)(hZ:Z=(ints [0,0,0]++(ee (List.replicate 64 fr)++ints [0,0,0])).toArray) :
  Ca (w.alloc (.cells (((Z.setIfInBounds 0 (.int .i64 (s:Int))).setIfInBounds 1 (.int .i64 (n:Int))).setIfInBounds 2 (.int .i64 (k:Int))) 171)) w.heap.size s n k R0 0 0 0:=by
 have hs:Z.size=326:=by rw [hZ];simp [oI,ints]
 have hh:=heap_alloc_new w (.cells (((Z.setIfInBounds 0 (.int .i64 (s:Int))).setIfInBounds 1 (.int .i64 (n:Int))).setIfInBounds 2 (.int .i64 (k:Int))) 171)
 have hf:∀j,(w.alloc (.cells (((Z.setIfInBounds 0 (.int .i64 (s:Int))).setIfInBounds 1 (.int .i64 (n:Int))).setIfInBounds 2 (.int .i64 (k:Int))) 171)).frozen? ⟨w.heap.size,j,none⟩=false:=λj=>by
  simp only [World.frozen?,hh]
  simp
 have hc:∀j,3<=j->(w.alloc (.cells (((Z.setIfInBounds 0 (.int .i64 (s:Int))).setIfInBounds 1 (.int .i64 (n:Int))).setIfInBounds 2 (.int .i64 (k:Int))) 171)).cell? ⟨w.heap.size,j,none⟩=Z[j]?:=λj hj=>by
  rw [cell_of_row _ _ _ _ _ _ hh,Array.getElem?_setIfInBounds_ne (by omega),Array.getElem?_setIfInBounds_ne (by omega),Array.getElem?_setIfInBounds_ne (by omega)]
 have hl:(ee (List.replicate 64 fr)).length=320:=by rw [oI];rfl
 have hi3:(ints [0,0,0]).length=3:=rfl
 have hz:∀j,j<320->Z[3+j]?=(ee (List.replicate 64 fr))[j]?:=λj hj=>by
  rw [hZ,List.getElem?_toArray,List.getElem?_append_right (by omega),List.getElem?_append_left (by omega),hi3,Nat.add_sub_cancel_left]
 have ht:∀j,j<3->Z[323+j]?=(ints [0,0,0])[j]?:=λj hj=>by
  rw [hZ,List.getElem?_toArray,List.getElem?_append_right (by omega),List.getElem?_append_right (by omega),hi3,hl,show 323+j - 3 - 320=j by omega]
 refine⟨?_,?_,?_,λr hr j v hv=>?_,λj hj=>⟨?_,hf _⟩,λr=>rfl,⟨?_,hf _⟩,⟨?_,hf _⟩,⟨?_,hf _⟩,h1,h2,h3,h4⟩
 ·rw [cell_of_row _ _ _ _ _ _ hh];simp [hs]
 ·rw [cell_of_row _ _ _ _ _ _ hh];simp [hs]
 ·rw [cell_of_row _ _ _ _ _ _ hh];simp [hs]
 ·have hj:j<20:=(gS.1 hv).1
  rw [hc _ (by omega),Nat.add_assoc,hz _ (by omega)]
  exact rH r hr j v hv
 ·rw [hc _ (by omega)]
  simp [hs]
  omega
 ·rw [hc _ (by omega)];exact ht 0 (by omega)
 ·rw [hc _ (by omega)];exact ht 1 (by omega)
 ·rw [hc _ (by omega)];exact ht 2 (by omega)
theorem bE (s n k:Nat)(w:World)(h1:s<=16)(h2:1<=n)(h3:n<=4)(h4:k<=64) :
  Calls prog 53 #[.int .i64 (s:Int),.int .i64 (n:Int),.int .i64 (k:Int)] w λe w'=>∃g,e=.returned (.tuple #[.pointer (some ⟨g,0,none⟩),.int .i64 0])/\Ca w' g s n k R0 0 0 0/\w.heap.size<=g/\Below w.heap.size w w':=by
 have hz:=λW=>aG D2 W
 obtain⟨Z,hZ⟩:∃Z,Z=(ints [0,0,0]++(ee (List.replicate 64 fr)++ints [0,0,0])).toArray:=⟨_,rfl⟩
 rw [<-hZ] at hz
 have hs:Z.size=326:=by rw [hZ];simp [oI,ints]
 have hZ0:(Z=#[])=False:=eq_false (λh=>by rw [h] at hs;simp at hs)
 have HN:=aa (Ca.new w s n k h1 h2 h3 h4 Z hZ)
 clear hZ
 have hd1:decide ((s:Int)<0)=false:=dF (by omega)
 have hd2:decide ((s:Int)>16)=false:=dF (by omega)
 have hd3:decide ((n:Int)<1)=false:=dF (by omega)
 have hd4:decide ((n:Int)>4)=false:=dF (by omega)
 have hd5:decide ((k:Int)<0)=false:=dF (by omega)
 have hd6:decide ((k:Int)>64)=false:=dF (by omega)
 clear h1 h2 h3 h4
 go_enter func53,ntmps53
 go_wp2
 exact bodyPost_ret (v:=.tuple #[.pointer (some ⟨w.heap.size,0,none⟩),.int .i64 0]) (by simp [results,results53,go_sem]) rfl ⟨w.heap.size,rfl,HN.o,Nat.le_refl _,ab _ _⟩
variable {w w':World}{g s n k:Nat}{R:Nat->List Pl}{e hi mi:Int}
theorem mh (x N:Nat)(hx:x<ak)(hN:0<N)(hb:N<=16):IntKind.i64.wrap ((x:Int)%(N:Int))=((x%N:Nat):Int):=by
 have:x%N<N:=Nat.mod_lt _ hN
 rw [IntKind.wrap_i64]
 omega
def Fb (c:Cp):Prop:=c.2.1<ak/\c.2.2<ak
def fS (k s:Nat)(c:Cp):Nat:=cD (ek (ez c.1) c.2.1 c.2.2) (k:Int)%s
theorem vi {k s:Nat}(c:Cp)(h:0<s):fS k s c<s:=Nat.mod_lt _ h
theorem kM (h:Ca w g s n k R e hi mi)(c:Cp)(hc:Fb c)(hs:0<s) :
  Calls prog 275 #[.pointer (some ⟨g,0,none⟩),.agg #[.int .i64 c.1,.int .u64 (c.2.1:Int),.int .u64 (c.2.2:Int)]] w λe w'=>e=.returned (.int .i64 (fS k s c:Int))/\Below w.heap.size w w':=by
 obtain⟨o,hi,lo⟩:=c
 obtain⟨h1,h2⟩:=hc
 obtain⟨w1,hw1⟩:∃w1,w1=w.alloc (Obj.cells #[.int .i64 o,.int .u64 (hi:Int),.int .u64 (lo:Int)] 38):=⟨_,rfl⟩
 have hB1:Below w.heap.size w w1:=by rw [hw1];exact ab _ _
 have hh:=h.later hB1
 have hC:Hid (∀U:World,Below w1.heap.size w1 U->(U.cell? ⟨w.heap.size,0,none⟩=some (.int .i64 o)/\U.cell? ⟨w.heap.size,1,none⟩=some (.int .u64 (hi:Int))/\U.cell? ⟨w.heap.size,2,none⟩=some (.int .u64 (lo:Int))/\U.cell? ⟨g,0,none⟩=some (.int .i64 (s:Int))/\U.cell? ⟨g,2,none⟩=some (.int .i64 (k:Int)))/\Below w1.heap.size w1 U):=λU hU =>
  ⟨⟨cell_later hU (by rw [hw1];simp [go_sem]),cell_later hU (by rw [hw1];simp [go_sem]),cell_later hU (by rw [hw1];simp [go_sem]),cell_later hU hh.c0,cell_later hU hh.c2⟩,hU⟩
 have hls:=h.ls
 have HX:Hid (cD (ek (ez o) hi lo) (k:Int)<ak):=pJ _ (gP _ _ _)
 have HM:Hid (fS k s (o,hi,lo)=cD (ek (ez o) hi lo) (k:Int)%s):=rfl
 have hH:=λW=>mQ o hi lo (k:Int) W h1 h2
 generalize cD (ek (ez o) hi lo) (k:Int)=x at HX HM hH
 have HR:=aa (mh x s HX.o hs hls)
 have hu:IntKind.u64.wrap (s:Int)=(s:Int):=by rw [IntKind.wrap_u64];omega
 have hz:¬s=0:=by omega
 clear h hh
 go_enter func275,ntmps275
 go_wp2
 rw [<-hw1]
 have HB1:=aa hB1
 clear hw1 hB1
 go_region_held3 (λU=>(U.cell? ⟨w.heap.size,0,none⟩=some (.int .i64 o)/\U.cell? ⟨w.heap.size,1,none⟩=some (.int .u64 (hi:Int))/\U.cell? ⟨w.heap.size,2,none⟩=some (.int .u64 (lo:Int))/\U.cell? ⟨g,0,none⟩=some (.int .i64 (s:Int))/\U.cell? ⟨g,2,none⟩=some (.int .i64 (k:Int)))/\Below w1.heap.size w1 U) (first|exact hC.out _ (Below.refl _ _).drew|exact hC.out _ hb2.out) (first|(go_at_call 282;refine (hH _).mono ?_;rintro e w2 ⟨rfl,hb2'⟩;have hb2:=aa (al (Below.refl w1.heap.size w1).drew hb2')))
 go_wp2
 go_ret
 exact⟨aL (by rw [HM.o];exact HR.o),al HB1.o (And.right (by assumption))⟩
theorem D8:(prog.info? 169).map (λi=>(i.zero,i.size,i.bytes))=some (some (.agg (ee (List.replicate 64 fr)).toArray),320,2560):=by kernel_rfl
theorem Ca.GJ {E:Nat}(h:Ca w g s n k R e hi mi)(x:Int):Ca ((w.setCell ⟨g,323,none⟩ (.int .i64 x)).setCells g 3 (ee (List.replicate 64 fr))) g s n k R0 x hi mi:=by
 have hl:(ee (List.replicate 64 fr)).length=320:=by rw [oI];rfl
 have ht:(w.setCell ⟨g,323,none⟩ (.int .i64 x)).there g 3 320:=World.there_setCells h.th g 323 [.int .i64 x]
 have ho:∀j,j<3\/323<=j->((w.setCell ⟨g,323,none⟩ (.int .i64 x)).setCells g 3 (ee (List.replicate 64 fr))).cell? ⟨g,j,none⟩=(w.setCell ⟨g,323,none⟩ (.int .i64 x)).cell? ⟨g,j,none⟩:=λj hj =>
  World.cell?_setCells_out g _ 3 _ ⟨g,j,none⟩ (λ_ _=>by show j<3\/3+_<=j;rw [hl];omega)
 have hn:∀j,j≠323->(w.setCell ⟨g,323,none⟩ (.int .i64 x)).cell? ⟨g,j,none⟩=w.cell? ⟨g,j,none⟩:=λj hj=>World.cell?_setCell_other _ _ _ _ (λe=>hj (by cases e;rfl))
 have hf:∀j,((w.setCell ⟨g,323,none⟩ (.int .i64 x)).setCells g 3 (ee (List.replicate 64 fr))).frozen? ⟨g,j,none⟩=w.frozen? ⟨g,j,none⟩:=λj=>by rw [World.frozen?_setCells];simp
 refine⟨?_,?_,?_,λr hr j v hv=>?_,World.there_setCells ht _ _ _,λr=>rfl,⟨?_,?_⟩,⟨?_,?_⟩,⟨?_,?_⟩,h.ls,h.n1,h.n4,h.lk⟩
 ·rw [ho _ (by omega),hn _ (by omega)];exact h.c0
 ·rw [ho _ (by omega),hn _ (by omega)];exact h.c1
 ·rw [ho _ (by omega),hn _ (by omega)];exact h.c2
 ·have hj:j<20:=(gS.1 hv).1
  rw [Nat.add_assoc]
  exact World.rangeAt_setCells_same _ g 3 _ (by rw [hl];exact ht) _ _ (rH r hr j v hv)
 ·rw [ho _ (by omega)];exact World.cell?_setCell_same _ _ _ h.ce.1
 ·rw [hf];exact h.ce.2
 ·rw [ho _ (by omega),hn _ (by omega)];exact h.ch.1
 ·rw [hf];exact h.ch.2
 ·rw [ho _ (by omega),hn _ (by omega)];exact h.cm.1
 ·rw [hf];exact h.cm.2
theorem yS {E:Nat}(h:Ca w g s n k R (E:Int) hi mi)(hE:E<256):Calls prog 134 #[.pointer (some ⟨g,0,none⟩)] w λx w'=>x=.returned (.tuple #[])/\Ca w' g s n k R0 (((E+1)%256:Nat):Int) hi mi/\ae (λk=>k=g) w w':=by
 have c:=h.ce.1
 have d:=h.ce.2
 have hz:=λW=>aG D8 W
 obtain⟨Z,hZ⟩:∃Z,Z=ee (List.replicate 64 fr):=⟨_,rfl⟩
 have hv:(((E+1)%256:Nat):Int)=((E:Int)+1)%256:=by omega
 rw [hv]
 have hT:=aa (h.GJ (E:=E) (((E:Int)+1)%256))
 rw [<-hZ] at hz hT
 have hl:Z.length=320:=by rw [hZ,oI];rfl
 have hZ0:(Z=[])=False:=eq_false (λh=>by rw [h] at hl;simp at hl)
 have hw:IntKind.i64.wrap ((E:Int)+1)=((E+1:Nat):Int):=by rw [IntKind.wrap_i64];omega
 have HST:=AH (w:=w.setCell ⟨g,323,none⟩ (.int .i64 (((E:Int)+1)%256))) (L:=Z) (n:=320) (World.there_setCells h.th g 323 [.int .i64 (((E:Int)+1)%256)]) hl (by rw [hZ];exact gW _)
 have hB:Hid (ae (λk=>k=g) w ((w.setCell ⟨g,323,none⟩ (.int .i64 (((E:Int)+1)%256))).setCells g 3 Z)):=ae.setCells (S:=λk=>k=g) rfl Z 3 ((ae.refl (λk=>k=g) w).setCell (p:=⟨g,323,none⟩) rfl _)
 generalize (w.setCell ⟨g,323,none⟩ (.int .i64 (((E:Int)+1)%256))).setCells g 3 Z=w3 at hT HST hB
 clear hZ h hv
 go_enter func134,ntmps134
 go_wp2
 exact bodyPost_end (by simp [results,results134,go_sem]) rfl ⟨rfl,hT.out,hB.out⟩
variable {w w':World}{g s n k:Nat}{R:Nat->List Pl}{e hi mi:Int}
theorem bh {P:Program}{md:Region.Mode}{ops:Array Oper}{Q:Exit->Act->World->Prop}{S:World->Prop}{fuel f2:Nat}{listed l2:Array Bool}{a:Act}(hl:listed=l2)(hf:fuel=f2)(h:wpAnyH P md ops Q S f2 l2 a w):wpAnyH P md ops Q S fuel listed a w:=by
 subst hl hf
 exact h
theorem eI {P:Program}{o:Oper}{ρ:Operand->Value}{ty:TypeId}{x:Operand}{p v:Value}
  (ho:o.op=.load ty x) (hx:ρ x=p) (hr:(Instr.loadAt ty p).run P w=.ok v w):(execOp ρ o).run P w=.ok (.value v) w:=by
 unfold execOp
 simp only [ho,hx,hr,Sem.run_bind,Sem.run_pure,Result.andThen_ok]
theorem jf {U:World}(h:Below w1.heap.size w1 U)(hb:w1.heap.size<=b)(o:Nat)(L:List Value):Below w1.heap.size w1 (U.setCells b o L) :=
 ae.below h (ae.setCells (S:=λx=>x=b) rfl L o (ae.refl _ _)) (λk hk=>by omega)
theorem Ck {p:Pl}(h:w.rangeAt b 0 (eG p)):Ce w b 0 p:=⟨h 0 _ rfl,h 1 _ rfl,h 2 _ rfl,h 3 _ rfl,h 4 _ rfl⟩
theorem CY:(prog.info? 166).map (λi=>(i.zero,i.size,i.bytes))=some (some (.agg (eG fr).toArray),5,40):=by kernel_rfl
theorem vq:(prog.info? 166).map (·.size)=some 5:=by kernel_rfl
def tell (c:Cp)(p:Pl):Value:=.tuple #[.int .i64 (if eZ c p then p.2.2 else 0),.bool (eZ c p)]
theorem look_ok (h:Ca w g s n k R e hi mi)(c:Cp)(hc:Fb c)(hs:0<s){r:Nat}(hr:r=fS k s c)(hi_:i=dS (R r) c n){p:Pl}(hp:(R r)[i]?=some p) :
  Calls prog 307 #[.pointer (some ⟨g,0,none⟩),.agg #[.int .i64 c.1,.int .u64 (c.2.1:Int),.int .u64 (c.2.2:Int)]] w λe w'=>e=.returned (tell c p)/\Below w.heap.size w w':=by
 obtain⟨w1,hw1⟩:∃w1,w1=w.alloc (Obj.cells #[.int .i64 c.1,.int .u64 (c.2.1:Int),.int .u64 (c.2.2:Int)] 38):=⟨_,rfl⟩
 have hB1:Below w.heap.size w w1:=by rw [hw1];exact ab _ _
 have HH:=aa (h.later hB1)
 have c0:=HH.o.c0
 rw [hw1] at c0
 have hz0:((s:Int)==0)=false:=by simp;omega
 have hr16:(r:Int)<16:=by have:=h.ls;have:=vi (k:=k) c hs;omega
 have hrn:r<16:=by omega
 have hi4:(i:Int)<4:=by
  have:=(gS.1 hp).1
  rw [h.len] at this
  omega
 have HRow:Hid (∀U:World,Below w1.heap.size w1 U->Calls prog 275 #[.pointer (some ⟨g,0,none⟩),.agg #[.int .i64 c.1,.int .u64 (c.2.1:Int),.int .u64 (c.2.2:Int)]] U λe w'=>e=.returned (.int .i64 (r:Int))/\Below U.heap.size U w'):=λU hU=>by
  rw [hr];exact kM (HH.o.later hU) c hc hs
 obtain⟨A,hA⟩:∃A,A=ee (R r):=⟨_,rfl⟩
 have HAl:Hid (A.length=20):=by rw [hA,oI,h.len];rfl
 have HAs:Hid (A.toArray.size=20):=by rw [List.size_toArray];exact HAl.o
 have HA1:Hid (∀v∈A,v.oneCell'=true):=by rw [hA];exact gW _
 have HLD:Hid (∀U:World,Below w1.heap.size w1 U->(Instr.loadAt 168 (.pointer (some ⟨g,3+r*20,none⟩))).run prog U=.ok (.agg A.toArray) U):=λU hU=>j6 (by rw [hA];exact (HH.o.later hU).at_ r hrn) HAl.o
 have HSp:Hid (∀U:World,Calls prog 277 #[.agg A.toArray,.agg #[.int .i64 c.1,.int .u64 (c.2.1:Int),.int .u64 (c.2.2:Int)],.int .i64 (n:Int)] U λe w'=>e=.returned (.int .i64 (i:Int))/\Below U.heap.size U w'):=λU=>by
  rw [hi_,hA];exact rz (R r) c n U (h.len r) h.n1 h.n4
 have hz:=λW=>aG pB W
 obtain⟨Z,hZ⟩:∃Z,Z=(ee (List.replicate 4 fr)).toArray:=⟨_,rfl⟩
 rw [<-hZ] at hz
 have HZs:Hid (Z.size=20):=by rw [hZ,List.size_toArray,oI];rfl
 have HA:=aa hA
 have HP:=aa hp
 have HI:=aa hi_
 have HC1:Hid (∀U:World,Below w1.heap.size w1 U->U.cell? ⟨w.heap.size,0,none⟩=some (.int .i64 c.1)/\U.cell? ⟨w.heap.size,1,none⟩=some (.int .u64 (c.2.1:Int))/\U.cell? ⟨w.heap.size,2,none⟩=some (.int .u64 (c.2.2:Int))/\U.cell? ⟨g,1,none⟩=some (.int .i64 (n:Int))):=λU hU =>
  ⟨cell_later hU (by rw [hw1];simp [go_sem]),cell_later hU (by rw [hw1];simp [go_sem]),cell_later hU (by rw [hw1];simp [go_sem]),(HH.o.later hU).c1⟩
 have hC:=λ(U:World) (hU:Below w1.heap.size w1 U)=>And.intro (HC1.o U hU) hU
 have HC:=aa hC
 clear hA hZ hp hi_ hr h hC
 go_enter func307,ntmps307
 go_upto_region 3 with fail
 rw [<-hw1]
 have HB1:=aa hB1
 clear hw1 hB1 c0 hz0
 go_cut [6] (λv W=>∃b,v=.pointer (some ⟨b,0,none⟩)/\W.rangeAt b 0 A/\Below w1.heap.size w1 W)
 case first =>
  refine wp_region_held_drew (S:=(λU:World=>(U.cell? ⟨w.heap.size,0,none⟩=some (.int .i64 c.1)/\U.cell? ⟨w.heap.size,1,none⟩=some (.int .u64 (c.2.1:Int))/\U.cell? ⟨w.heap.size,2,none⟩=some (.int .u64 (c.2.2:Int))/\U.cell? ⟨g,1,none⟩=some (.int .i64 (n:Int)))/\Below w1.heap.size w1 U)) (by kernel_rfl) (HC.o _ (Below.refl w1.heap.size w1).drew) (λhHeld=>?_)
  refine nH (bm 10 0) 10 ?_
  refine tH 0 (v:=?_) rfl (λ_ _ _ h=>h) ?_ ?_;rotate_left
  ·(intro w hSw;(try dsimp only at hSw);go_simp;try with_reducible rfl)
  try simp only [gz,Act.put]
  refine nH (bm 10 1) 9 ?_
  refine tH 1 (v:=?_) rfl (λ_ _ _ h=>h) ?_ ?_;rotate_left
  ·(intro w hSw;(try dsimp only at hSw);go_simp;try with_reducible rfl)
  try simp only [gz,Act.put]
  refine nH (bm 10 3) 8 ?_
  refine tH 2 (v:=?_) rfl (λ_ _ _ h=>h) ?_ ?_;rotate_left
  ·(intro w hSw;(try dsimp only at hSw);go_simp;try with_reducible rfl)
  try simp only [gz,Act.put]
  refine nH (bm 10 7) 7 ?_
  refine tH 4 (v:=?_) rfl (λ_ _ _ h=>h) ?_ ?_;rotate_left
  ·(intro w hSw;(try dsimp only at hSw);go_simp;try with_reducible rfl)
  try simp only [gz,Act.put]
  refine nH (bm 10 23) 6 ?_
  refine tH 5 (v:=?_) rfl (λ_ _ _ h=>h) ?_ ?_;rotate_left
  ·(intro w hSw;(try dsimp only at hSw);go_simp;try with_reducible rfl)
  try simp only [gz,Act.put]
  refine nH (bm 10 55) 5 ?_
  refine yH [3,8] ?_
  refine AllReadyH.cons rfl (λK hK=>?_) ?_
  ·go_simp
   go_wp2_with (first|(go_at_call 275;refine (HRow.o _ ((Below.refl w1.heap.size w1).drew)).mono ?_;rintro e w2 ⟨rfl,hb2⟩;have HB2:=aa hb2;clear hb2))
   refine hK.out _ _ (HC.o _ (al (Below.refl w1.heap.size w1).drew HB2.o)) (λhHeld=>?_)
   clear hK K
   try simp only [gz,Act.put]
   refine nH (bm 10 63) 4 ?_
   refine tH 6 (v:=?_) rfl (λ_ _ _ h=>h) ?_ ?_;rotate_left
   ·(intro w hSw;(try dsimp only at hSw);go_simp;try with_reducible rfl)
   try simp only [gz,Act.put]
   refine nH (bm 10 127) 3 ?_
   refine tH 7 (v:=.agg A.toArray) rfl (λ_ _ _ h=>h) ?_ ?_
   ·(intro w hSw;(try dsimp only at hSw);exact eI rfl rfl (HLD.o _ hSw.2))
   try simp only [gz,Act.put]
   refine nH (bm 10 255) 2 ?_
   refine yH [8] ?_
   refine cH rfl λK hK=>?_
   go_simp
   refine hK.out _ _ (HC.o _ (al (al (Below.refl w1.heap.size w1).drew HB2.o) (ab _ _))) (λhHeld=>?_)
   clear hK K
   try simp only [gz,Act.put]
   refine nH (bm 10 511) 1 ?_
   refine yH [9] ?_
   refine cH rfl λK hK=>?_
   refine wp_store_mid 168 (.tmp 6) (.tmp 20) rfl _ 0 A.toArray rfl rfl (by rw [HAs.o];exact (aS w2 Z 168 20 HZs.o)) (by rw [jg,HAs.o]) (all_oneCell_toArray HA1.o) ?_
   refine hK.out _ _ (HC.o _ (jf (al (al (Below.refl w1.heap.size w1).drew HB2.o) (ab _ _)) ((al (Below.refl w1.heap.size w1).drew HB2.o)).size 0 _)) (λhHeld=>?_)
   clear hK K
   try simp only [gz,Act.put]
   refine nH (bm 10 1023) 0 ?_
   refine wpAnyH_done (by kernel_rfl) ?_ _
   go_wp2
   go_meet
   case rel=>exact⟨_,rfl,World.rangeAt_setCells_same _ _ _ _ (by rw [HAl.o];first|exact aS w2 Z 168 20 HZs.o|exact bT (aS w1.drew Z 168 20 HZs.o) HB2.o),hHeld.2⟩
  refine cH rfl λK hK=>?_
  go_simp
  refine hK.out _ _ (HC.o _ (al (Below.refl w1.heap.size w1).drew (ab w1.drew _))) (λhHeld=>?_)
  clear hK K
  try simp only [gz,Act.put]
  refine nH (bm 10 311) 4 ?_
  refine yH [3] ?_
  refine cH rfl λK hK=>?_
  go_simp
  go_wp2_with (first|(go_at_call 275;refine (HRow.o _ (al (Below.refl w1.heap.size w1).drew (ab w1.drew _))).mono ?_;rintro e w2 ⟨rfl,hb2⟩;have HB2:=aa hb2;clear hb2))
  refine hK.out _ _ (HC.o _ (al (al (Below.refl w1.heap.size w1).drew (ab w1.drew _)) HB2.o)) (λhHeld=>?_)
  clear hK K
  try simp only [gz,Act.put]
  refine nH (bm 10 319) 3 ?_
  refine tH 6 (v:=?_) rfl (λ_ _ _ h=>h) ?_ ?_;rotate_left
  ·(intro w hSw;(try dsimp only at hSw);go_simp;try with_reducible rfl)
  try simp only [gz,Act.put]
  refine nH (bm 10 383) 2 ?_
  refine tH 7 (v:=.agg A.toArray) rfl (λ_ _ _ h=>h) ?_ ?_
  ·(intro w hSw;(try dsimp only at hSw);exact eI rfl rfl (HLD.o _ hSw.2))
  try simp only [gz,Act.put]
  refine nH (bm 10 511) 1 ?_
  refine yH [9] ?_
  refine cH rfl λK hK=>?_
  refine wp_store_mid 168 (.tmp 6) (.tmp 20) rfl _ 0 A.toArray rfl rfl (by rw [HAs.o];exact (bT (aS w1.drew Z 168 20 HZs.o) HB2.o)) (by rw [jg,HAs.o]) (all_oneCell_toArray HA1.o) ?_
  refine hK.out _ _ (HC.o _ (jf (al (al (Below.refl w1.heap.size w1).drew (ab w1.drew _)) HB2.o) (Nat.le_refl _) 0 _)) (λhHeld=>?_)
  clear hK K
  try simp only [gz,Act.put]
  refine nH (bm 10 1023) 0 ?_
  refine wpAnyH_done (by kernel_rfl) ?_ _
  go_wp2
  go_meet
  case rel=>exact⟨_,rfl,World.rangeAt_setCells_same _ _ _ _ (by rw [HAl.o];first|exact aS w2 Z 168 20 HZs.o|exact bT (aS w1.drew Z 168 20 HZs.o) HB2.o),hHeld.2⟩
 case rest =>
  obtain⟨b,rfl,hR,hB⟩:=hcut
  have HB:=aa hB
  have HLD4:Hid (∀U:World,Below wc.heap.size wc U->(Instr.loadAt 168 (.pointer (some ⟨b,0,none⟩))).run prog U=.ok (.agg A.toArray) U):=λU hU=>j6 (eH hR hU) HAl.o
  have hX:=r_ (by rw [<-HA.o];exact hR) HP.o
  rw [Nat.zero_add] at hX
  have HC4:Hid (∀U:World,Below wc.heap.size wc U->(U.cell? ⟨w.heap.size,0,none⟩=some (.int .i64 c.1)/\U.cell? ⟨w.heap.size,1,none⟩=some (.int .u64 (c.2.1:Int))/\U.cell? ⟨w.heap.size,2,none⟩=some (.int .u64 (c.2.2:Int))/\U.cell? ⟨g,1,none⟩=some (.int .i64 (n:Int))/\U.cell? ⟨b,i*5,none⟩=some (.bool p.1)/\U.cell? ⟨b,i*5+1,none⟩=some (.int .i64 p.2.1.1)/\U.cell? ⟨b,i*5+2,none⟩=some (.int .u64 (p.2.1.2.1:Int))/\U.cell? ⟨b,i*5+3,none⟩=some (.int .u64 (p.2.1.2.2:Int))/\U.cell? ⟨b,i*5+4,none⟩=some (.int .i64 p.2.2))/\Below wc.heap.size wc U):=λU hU=>by
   obtain⟨a1,a2,a3,a4⟩:=HC1.o U (al HB.o hU)
   have hx:=hX.later hU
   exact⟨⟨a1,a2,a3,a4,hx.c0,hx.c1,hx.c2,hx.c3,hx.c4⟩,hU⟩
  have hz5:=λW=>aG CY W
  obtain⟨Z5,hZ5⟩:∃Z,Z=(eG fr).toArray:=⟨_,rfl⟩
  rw [<-hZ5] at hz5
  have HZ5s:Hid (Z5.size=5):=by rw [hZ5];rfl
  clear hR hB hX hZ5 hz
  go_upto_region 4 with fail
  go_cut [7] (λv W=>∃b',v=.pointer (some ⟨b',0,none⟩)/\Ce W b' 0 p/\Below wc.heap.size wc W)
  case first =>
   refine wp_region_held_drew (S:=(λU:World=>(U.cell? ⟨w.heap.size,0,none⟩=some (.int .i64 c.1)/\U.cell? ⟨w.heap.size,1,none⟩=some (.int .u64 (c.2.1:Int))/\U.cell? ⟨w.heap.size,2,none⟩=some (.int .u64 (c.2.2:Int))/\U.cell? ⟨g,1,none⟩=some (.int .i64 (n:Int))/\U.cell? ⟨b,i*5,none⟩=some (.bool p.1)/\U.cell? ⟨b,i*5+1,none⟩=some (.int .i64 p.2.1.1)/\U.cell? ⟨b,i*5+2,none⟩=some (.int .u64 (p.2.1.2.1:Int))/\U.cell? ⟨b,i*5+3,none⟩=some (.int .u64 (p.2.1.2.2:Int))/\U.cell? ⟨b,i*5+4,none⟩=some (.int .i64 p.2.2))/\Below wc.heap.size wc U)) (by kernel_rfl) (HC4.o _ (Below.refl wc.heap.size wc).drew) (λhHeld=>?_)
   refine nH (bm 11 0) 11 ?_
   refine tH 0 (v:=.agg A.toArray) rfl (λ_ _ _ h=>h) ?_ ?_
   ·(intro w hSw;(try dsimp only at hSw);exact eI rfl rfl (HLD4.o _ hSw.2))
   try simp only [gz,Act.put]
   refine nH (bm 11 1) 10 ?_
   refine tH 1 (v:=?_) rfl (λ_ _ _ h=>h) ?_ ?_;rotate_left
   ·(intro w hSw;(try dsimp only at hSw);go_simp;try with_reducible rfl)
   try simp only [gz,Act.put]
   refine nH (bm 11 3) 9 ?_
   refine tH 2 (v:=?_) rfl (λ_ _ _ h=>h) ?_ ?_;rotate_left
   ·(intro w hSw;(try dsimp only at hSw);go_simp;try with_reducible rfl)
   try simp only [gz,Act.put]
   refine nH (bm 11 7) 8 ?_
   refine tH 3 (v:=?_) rfl (λ_ _ _ h=>h) ?_ ?_;rotate_left
   ·(intro w hSw;(try dsimp only at hSw);go_simp;try with_reducible rfl)
   try simp only [gz,Act.put]
   refine nH (bm 11 15) 7 ?_
   refine tH 4 (v:=?_) rfl (λ_ _ _ h=>h) ?_ ?_;rotate_left
   ·(intro w hSw;(try dsimp only at hSw);go_simp;try with_reducible rfl)
   try simp only [gz,Act.put]
   refine nH (bm 11 31) 6 ?_
   refine tH 5 (v:=?_) rfl (λ_ _ _ h=>h) ?_ ?_;rotate_left
   ·(intro w hSw;(try dsimp only at hSw);go_simp;try with_reducible rfl)
   try simp only [gz,Act.put]
   refine nH (bm 11 63) 5 ?_
   refine yH [6,9] ?_
   refine AllReadyH.cons rfl (λK hK=>?_) ?_
   ·go_simp
    go_wp2_with (first|(go_at_call 277;refine (HSp.o _).mono ?_;rintro e w2 ⟨rfl,hb2⟩;have HB2:=aa hb2;clear hb2))
    refine hK.out _ _ (HC4.o _ (al (Below.refl wc.heap.size wc).drew HB2.o)) (λhHeld=>?_)
    clear hK K
    try simp only [gz,Act.put]
    refine nH (bm 11 127) 4 ?_
    refine tH 7 (v:=?_) rfl (λ_ _ _ h=>h) ?_ ?_;rotate_left
    ·(intro w hSw;(try dsimp only at hSw);go_simp;try with_reducible rfl)
    try simp only [gz,Act.put]
    refine nH (bm 11 255) 3 ?_
    refine tH 8 (v:=?_) rfl (λ_ _ _ h=>h) ?_ ?_;rotate_left
    ·(intro w hSw;(try dsimp only at hSw);go_simp;try with_reducible rfl)
    try simp only [gz,Act.put]
    refine nH (bm 11 511) 2 ?_
    refine yH [9] ?_
    refine cH rfl λK hK=>?_
    go_simp
    refine hK.out _ _ (HC4.o _ (al (al (Below.refl wc.heap.size wc).drew HB2.o) (ab _ _))) (λhHeld=>?_)
    clear hK K
    try simp only [gz,Act.put]
    refine nH (bm 11 1023) 1 ?_
    refine yH [10] ?_
    refine cH rfl λK hK=>?_
    refine wp_store_mid 166 (.tmp 7) (.tmp 29) rfl _ 0 (eG p).toArray rfl rfl (aS w2 Z5 166 5 HZ5s.o) vq (all_oneCell_toArray (mq p)) ?_
    refine hK.out _ _ (HC4.o _ (jf (al (al (Below.refl wc.heap.size wc).drew HB2.o) (ab _ _)) ((al (Below.refl wc.heap.size wc).drew HB2.o)).size 0 _)) (λhHeld=>?_)
    clear hK K
    try simp only [gz,Act.put]
    refine nH (bm 11 2047) 0 ?_
    refine wpAnyH_done (by kernel_rfl) ?_ _
    go_wp2
    go_meet
    case rel=>exact⟨_,rfl,Ck (World.rangeAt_setCells_same _ _ _ _ (by first|exact aS w2 Z5 166 5 HZ5s.o|exact bT (aS wc.drew Z5 166 5 HZ5s.o) HB2.o)),hHeld.2⟩
   refine cH rfl λK hK=>?_
   go_simp
   refine hK.out _ _ (HC4.o _ (al (Below.refl wc.heap.size wc).drew (ab wc.drew _))) (λhHeld=>?_)
   clear hK K
   try simp only [gz,Act.put]
   refine nH (bm 11 575) 4 ?_
   refine yH [6] ?_
   refine cH rfl λK hK=>?_
   go_simp
   go_wp2_with (first|(go_at_call 277;refine (HSp.o _).mono ?_;rintro e w2 ⟨rfl,hb2⟩;have HB2:=aa hb2;clear hb2))
   refine hK.out _ _ (HC4.o _ (al (al (Below.refl wc.heap.size wc).drew (ab wc.drew _)) HB2.o)) (λhHeld=>?_)
   clear hK K
   try simp only [gz,Act.put]
   refine nH (bm 11 639) 3 ?_
   refine tH 7 (v:=?_) rfl (λ_ _ _ h=>h) ?_ ?_;rotate_left
   ·(intro w hSw;(try dsimp only at hSw);go_simp;try with_reducible rfl)
   try simp only [gz,Act.put]
   refine nH (bm 11 767) 2 ?_
   refine tH 8 (v:=?_) rfl (λ_ _ _ h=>h) ?_ ?_;rotate_left
   ·(intro w hSw;(try dsimp only at hSw);go_simp;try with_reducible rfl)
   try simp only [gz,Act.put]
   refine nH (bm 11 1023) 1 ?_
   refine yH [10] ?_
   refine cH rfl λK hK=>?_
   refine wp_store_mid 166 (.tmp 7) (.tmp 29) rfl _ 0 (eG p).toArray rfl rfl (bT (aS wc.drew Z5 166 5 HZ5s.o) HB2.o) vq (all_oneCell_toArray (mq p)) ?_
   refine hK.out _ _ (HC4.o _ (jf (al (al (Below.refl wc.heap.size wc).drew (ab wc.drew _)) HB2.o) (Nat.le_refl _) 0 _)) (λhHeld=>?_)
   clear hK K
   try simp only [gz,Act.put]
   refine nH (bm 11 2047) 0 ?_
   refine wpAnyH_done (by kernel_rfl) ?_ _
   go_wp2
   go_meet
   case rel=>exact⟨_,rfl,Ck (World.rangeAt_setCells_same _ _ _ _ (by first|exact aS w2 Z5 166 5 HZ5s.o|exact bT (aS wc.drew Z5 166 5 HZ5s.o) HB2.o)),hHeld.2⟩
  case rest =>
   rename_i wd
   obtain⟨b',rfl,hX,hB⟩:=hcut
   have HB3:=aa (al HB.o hB)
   obtain⟨a1,a2,a3,_⟩:=HC1.o _ HB3.o
   obtain⟨x0,x1,x2,x3,x4⟩:=hX
   simp only [Nat.zero_add] at x1 x2 x3 x4
   have hHas:=λW=>aR p c W
   have HT:Hid (tell c p=.tuple #[.int .i64 (if eZ c p then p.2.2 else 0),.bool (eZ c p)]):=rfl
   generalize eZ c p=q at hHas HT
   have HX4:=aa x4
   clear x4 hB
   have x4:=HX4.o
   cases q with
   | true =>
    go_wp2_with (first|(go_at_call 283;refine (hHas _).mono ?_;rintro e w5 ⟨rfl,hb5⟩;have y4:=cell_later hb5 x4;have HB5:=aa hb5;clear hb5))
    exact bodyPost_ret (v:=.tuple #[.int .i64 p.2.2,.bool true]) (by simp [results,results307,go_sem]) rfl ⟨by rw [HT.o];rfl,al HB1.o (al HB3.o HB5.o)⟩
   | false =>
    go_wp2_with (first|(go_at_call 283;refine (hHas _).mono ?_;rintro e w5 ⟨rfl,hb5⟩;have HB5:=aa hb5;clear hb5))
    exact bodyPost_ret (v:=.tuple #[.int .i64 0,.bool false]) (by simp [results,results307,go_sem]) rfl ⟨by rw [HT.o];rfl,al HB1.o (al HB3.o HB5.o)⟩
theorem fc (h:Ca w g s n k R e hi mi)(c:Cp)(hs:s=0) :
  Calls prog 307 #[.pointer (some ⟨g,0,none⟩),.agg #[.int .i64 c.1,.int .u64 (c.2.1:Int),.int .u64 (c.2.2:Int)]] w λe w'=>e=.returned (.tuple #[.int .i64 0,.bool false])/\Below w.heap.size w w':=by
 subst hs
 have c0:=(h.later (ab w (Obj.cells #[.int .i64 c.1,.int .u64 (c.2.1:Int),.int .u64 (c.2.2:Int)] 38))).c0
 clear h
 go_enter func307,ntmps307
 go_wp2
 exact bodyPost_ret (v:=.tuple #[.int .i64 0,.bool false]) (by simp [results,results307,go_sem]) rfl ⟨rfl,ab _ _⟩
end Go.Proofs.YtfmhdimaijimlaaGreatDoor.K
