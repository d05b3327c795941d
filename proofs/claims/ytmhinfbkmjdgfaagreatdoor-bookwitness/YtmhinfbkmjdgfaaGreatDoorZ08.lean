import Derived.Test.YtmhinfbkmjdgfaaGreatDoorZ07
import Derived.Test.YtmhinfbkmjdgfaaGreatDoorZL
set_option linter.unusedVariables false
set_option linter.unusedSimpArgs false
set_option maxRecDepth 100000
set_option maxHeartbeats 1000000
namespace Go.Proofs.YtmhinfbkmjdgfaaGreatDoor.K
open Go.RowKit
variable {P:List Pl}{L:List Value}{b i n o:Nat}{w w':World}
theorem aJ {P:Program}{ops:Array Oper}{rest:List Oper}{a:Act}{Q:Exit->Act->World->Prop}{d:Option Tmp}{tt:TypeId}{ps:String}{af}{ty:TypeId}{x:Operand}{p v:Value}
  (hr:(Instr.loadAt ty p).run P w=.ok v w) (hx:a.eval x=p) (h:wpList P ops Q rest (a.put d v) w) :
  wpList P ops Q ({ dst:=d,op:=.load ty x,type:=tt,pos:=ps,after:=af,guard:=none }::rest) a w:=by
 refine wpList_plain rfl λK hK=>?_
 unfold Oper.wp execOp;simp only [hx,hr,Sem.run_bind,Sem.run_pure,Result.andThen_ok];exact hK _ _ h
theorem kB:∀(Q:List Pl) (j:Nat),(ed Q)[j]?=(Q[j / 5]?).bind (λx=>(eE x)[j%5]?)
 | [],j=>by simp [ed]
 | a::r,j=>by
  have ih:=kB r
  unfold ed at ih ⊢
  rw [List.flatMap_cons];have hl:(eE a).length=5:=rfl
  by_cases h:j<5
  ·rw [List.getElem?_append_left (by omega),Nat.div_eq_of_lt h,Nat.mod_eq_of_lt h]
   rfl
  ·rw [List.getElem?_append_right (by omega),hl,ih,show j / 5=(j - 5) / 5+1 by omega,show j%5=(j - 5)%5 by omega]
   rfl
theorem nC {Q:List Pl}(h:w.rangeAt b o (ed Q))(hi:i<Q.length)(p:Pl):(w.setCells b (o+i*5) (eE p)).rangeAt b o (ed (Q.set i p)):=λj v hv=>by
 rw [kB] at hv;by_cases e:j / 5=i
 ·subst e
  rw [List.getElem?_set_self hi] at hv;have hlt:j%5<(eE p).length:=Nat.mod_lt _ (by decide)
  have:=World.cell?_setCells_in b (eE p) (o+j / 5*5) w (λd hd=>by
   have hd5:d<5:=hd
   rw [Nat.add_assoc];exact h.isSome _ (by rw [aO];omega)) (j%5) hlt
  rw [show o+j / 5*5+j%5=o+j by omega] at this;rw [this];simpa [hlt] using hv
 ·rw [List.getElem?_set_ne (λh=>e h.symm),<-kB] at hv
  rw [World.cell?_setCells_out b (eE p) (o+i*5) w ⟨b,o+j,none⟩ (λ_ _=>by
   have hl:(eE p).length=5:=rfl
   show o+j<o+i*5\/o+i*5+(eE p).length<=o+j
   omega)]
  exact h j v hv
theorem jg:(Tryz.prog.info? 320).map (·.size)=some 20:=by kernel_rfl
def fr:Pl:=(false,(0,0,0),0)
theorem oJ:(Tryz.prog.info? 320).map (λi=>(i.zero,i.size,i.bytes))=some (some (.agg (ed (List.replicate 4 fr)).toArray),20,160):=by kernel_rfl
theorem bg {t:TypeId}{z:Value}{s:Nat}(h:(Tryz.prog.info? t).map (λi=>(i.zero,i.size,i.bytes))=some (some z,s,b))(w:World):(zeroValue t).run Tryz.prog w=.ok z w:=by
 obtain⟨i,hi,hz0,hz1,hz2⟩:=info_parts h
 simp [zeroValue,typeInfo,hi,hz0]
theorem jl (h:w.rangeAt b o L)(hl:L.length=20):(Instr.loadAt 320 (.pointer (some ⟨b,o,none⟩))).run Tryz.prog w=.ok (.agg L.toArray) w :=
 run_loadAt_mid w b o 320 L _ h Tryz.underlying320 rfl (by rw [jg,hl])
theorem DG (h:w.there b o n)(hl:L.length=n)(h1:∀v∈L,v.oneCell'=true):(storeCells ⟨b,o,none⟩ L).run Tryz.prog w=.ok () (w.setCells b o L) :=
 run_storeCells_cells (P:=Tryz.prog) b o L 0 w (λj hj=>by rw [Nat.add_zero];exact (h j (by omega)).1) (λj hj=>by rw [Nat.add_zero];exact (h j (by omega)).2) h1
def AV (P:List Pl)(i:Nat):List Pl:=P.take 1++P.take i++P.drop (i+1)
def GP (W:World)(b:Nat)(P:List Pl)(k:Nat)(t:Value)(w:World):Prop :=
 ∃i:Nat,i<=k/\t=ab (i:Int)/\w.rangeAt b 0 (ed (AV P i))/\w.there b 0 20/\aj (λx=>x=b) W w
theorem four (h:P.length=4):∃a b c d,P=[a,b,c,d]:=by
 match P,h with
 | [a,b,c,d],_=>exact⟨a,b,c,d,rfl⟩
theorem kF (h:P.length=4)(hi:i<4):(AV P i).length=4:=by simp [AV,h];omega
theorem zP {p:Pl}(h:P.length=4)(hi:i+1<4)(hp:P[i]?=some p):(AV P i).set (i+1) p=AV P (i+1):=by
 obtain⟨a,b,c,d,rfl⟩:=four h
 match i,hi with
 | 0,_=>cases hp;rfl
 | 1,_=>cases hp;rfl
 | 2,_=>cases hp;rfl
theorem zJ {k:Nat}(p:Pl)(h:P.length=4)(hk:k<4):(AV P k).set 0 p=p::P.eraseIdx k:=by
 obtain⟨a,b,c,d,rfl⟩:=four h
 match k,hk with
 | 0,_=>rfl
 | 1,_=>rfl
 | 2,_=>rfl
 | 3,_=>rfl
theorem zx (h:P.length=4):AV P 0=P:=by
 obtain⟨a,b,c,d,rfl⟩:=four h
 rfl
theorem bu (W:World)(A:Array Value)(t:TypeId)(n:Nat)(h:A.size=n):(W.alloc (.cells A t)).there W.heap.size 0 n:=λj hj=>by
 rw [Nat.zero_add,cell_of_row _ _ _ _ _ _ (heap_alloc_new W (.cells A t))];refine⟨by simp;omega,?_⟩
 simp only [World.frozen?,heap_alloc_new];simp
theorem cz (h:w.there b o n)(hb:Below w.heap.size w w'):w'.there b o n:=λj hj=>by
 obtain⟨h1,h2⟩:=h j hj
 obtain⟨u,hu⟩:=Option.isSome_iff_exists.1 h1
 exact⟨by rw [cell_later hb hu];rfl,by rw [hb.frozen (World.block_lt_of_cell? _ _ hu)];exact h2⟩
theorem nk {S:Nat->Prop}(h:w.there b o n)(hb:aj S w w')(hn:¬S b):w'.there b o n:=λj hj=>by
 obtain⟨h1,h2⟩:=h j hj
 obtain⟨u,hu⟩:=Option.isSome_iff_exists.1 h1
 have:=(aM.but hb ⟨hu,h2⟩ hn)
 exact⟨by rw [this.1];rfl,this.2⟩
theorem xS (P:List Pl)(p:Pl)(k:Nat)(w:World)(hl:P.length=4)(hk:k<4) :
  Calls Tryz.prog 438 #[.agg (ed P).toArray,.agg #[.bool p.1,ab p.2.1.1,ai (p.2.1.2.1:Int),ai (p.2.1.2.2:Int),ab p.2.2],ab (k:Int)] w λe w'=>e=.returned (.agg (ed (p::P.eraseIdx k)).toArray)/\Below w.heap.size w w':=by
 have hs:(ed P).length=20:=by rw [aO,hl]
 have hz:=λW=>bg oJ W
 obtain⟨Z,hZ⟩:∃Z,Z=ed (List.replicate 4 fr):=⟨_,rfl⟩
 have hZl:Z.length=20:=by rw [hZ,aO];rfl
 rw [<-hZ] at hz;have HZ:=ae hZ
 clear hZ;obtain⟨A,hA⟩:∃A,A=ed P:=⟨_,rfl⟩
 rw [<-hA];have HA:=ae hA
 have PE:Hid (A.length=20):=by rw [hA];exact hs
 have Wi:=ae hZl
 have HL:=ae hl
 clear hA hs hZl hl;obtain⟨Z',hZ'⟩:∃Z',Z'=Z.toArray:=⟨_,rfl⟩
 rw [<-hZ'] at hz;have V_:=ae hZ'
 clear hZ';have hAl:=PE.out
 go_enter Tryz.func438,Tryz.ntmps438
 go_upto_region 1 with fail
 generalize hw3:(((w.alloc (Obj.cells A.toArray 320)).alloc (Obj.cells #[Value.bool p.1,Value.int IntKind.i64 p.2.1.1,Value.int IntKind.u64 (p.2.1.2.1:Int),Value.int IntKind.u64 (p.2.1.2.2:Int),Value.int IntKind.i64 p.2.2] 318)).alloc (Obj.cells Z' 320))=w3
 have Qo:Hid (w3.heap.size=w.heap.size+3):=by rw [<-hw3];simp [Hid]
 have OJ:Hid (Below w.heap.size w w3):=by rw [<-hw3];exact (aB _ _ _).alloc (by simp;omega) _
 have PW:Hid (w3.rangeAt w.heap.size 0 A):=by
  rw [<-hw3];exact eL (eL (n_ w A 320) (ag _ _)) (ag _ _)
 have W4:Hid (Ce w3 (w.heap.size+1) 0 p):=by
  rw [<-hw3];exact⟨by simp [go_sem],by simp [go_sem],by simp [go_sem],by simp [go_sem],by simp [go_sem]⟩
 have O_:Hid (w3.there (w.heap.size+1+1) 0 20):=by
  have:=bu ((w.alloc (Obj.cells A.toArray 320)).alloc (Obj.cells #[Value.bool p.1,Value.int IntKind.i64 p.2.1.1,Value.int IntKind.u64 (p.2.1.2.1:Int),Value.int IntKind.u64 (p.2.1.2.2:Int),Value.int IntKind.i64 p.2.2] 318)) Z' 320 20 (by rw [V_.out];simp [Wi.out])
  rw [hw3] at this;simp at this
  exact this
 clear hw3;have O4:=ae (jl PW.out PE.out)
 have Rw:=ae (bu w3 Z' 320 20 (by rw [V_.out];simp [Wi.out]))
 have PL:=DG (L:=A) (n:=20) Rw.out PE.out (by rw [HA.out];exact gQ P)
 generalize hw4:(w3.alloc (Obj.cells Z' 320)).setCells w3.heap.size 0 A=w4 at PL
 have OM:Hid (Below w3.heap.size w3 w4):=by
  rw [<-hw4];exact aj.below (ag w3 _) (aj.setCells (S:=λx=>x=w3.heap.size) rfl A 0 (aj.refl _ _)) (λk hk=>by omega)
 have T3:Hid (w3.heap.size<w4.heap.size):=by rw [<-hw4,dE];simp [Hid]
 have UM:Hid (w4.rangeAt w3.heap.size 0 (ed (AV P 0))):=by
  rw [<-hw4,zx HL.out,<-HA.out];exact World.rangeAt_setCells_same _ _ _ _ (by rw [PE.out];exact Rw.out)
 have Qn:Hid (w4.there w3.heap.size 0 20):=by rw [<-hw4];exact World.there_setCells Rw.out _ _ _
 clear hw4 Rw;go_upto_region 3 with (first|((with_reducible refine aJ O4.out ?_ ?_);· rfl))
 clear PL O4;go_loopw [11] (GP w4 w3.heap.size P k) (λt _=>k - (intOf t).toNat)
 case atStart=>exact⟨0,by omega,rfl,UM.out,Qn.out,aj.refl _ _⟩
 case round =>
  obtain⟨i,hi,rfl,hR,hT,hB⟩:=hrel
  have hne:=Qo.out
  have h34:=T3.out
  have HR:=ae hR
  have HT:=ae hT
  have HB:=ae hB
  clear hR hT hB;by_cases hlt:i<k
  ·have hi4:(i:Int)<4:=by omega
   have hi5:(i:Int)+1<4:=by omega
   have hwr:IntKind.i64.wrap ((i:Int)+1)=((i+1:Nat):Int):=by rw [IntKind.wrap_i64];omega
   obtain⟨x,hx⟩:∃x,P[i]?=some x:=⟨_,List.getElem?_eq_getElem (by rw [HL.out];omega)⟩
   obtain⟨y,hy⟩:∃y,(AV P i)[i+1]?=some y:=⟨_,List.getElem?_eq_getElem (by rw [kF HL.out (by omega)];omega)⟩
   have hX:=((qx (by rw [<-HA.out];exact PW.out) hx).later OM.out).but HB.out (by omega)
   have hY:=qx HR.out hy
   rw [Nat.zero_add] at hX hY;have hF:=λ(d:Nat) (hd:d<5)=>(HT.out ((i+1)*5+d) (by omega)).2
   simp only [Nat.zero_add] at hF;obtain⟨x0,x1,x2,x3,x4⟩:=hX
   obtain⟨y0,y1,y2,y3,y4⟩:=hY
   have f0:=hF 0 (by omega)
   have f1:=hF 1 (by omega)
   have f2:=hF 2 (by omega)
   have f3:=hF 3 (by omega)
   have f4:=hF 4 (by omega)
   rw [Nat.add_zero] at f0;have HX:=ae hx
   clear hF hne h34 hx hy;go_wp2;refine⟨⟨i+1,by omega,by go_num,?_,World.there_setCells HT.out _ ((i+1)*5) (eE x),HB.out.trans (aj.setCells (S:=λx=>x=w3.heap.size) rfl (eE x) ((i+1)*5) (aj.refl _ _))⟩,by simp [intOf];omega⟩
   have:=nC HR.out (i:=i+1) (by rw [kF HL.out (by omega)];omega) x
   rw [zP HL.out (by omega) HX.out,Nat.zero_add] at this;exact this
  ·obtain rfl:i=k:=by omega
   have hX:=((W4.out).later OM.out).but HB.out (by omega)
   obtain⟨x0,x1,x2,x3,x4⟩:=hX
   obtain⟨y,hy⟩:∃y,(AV P i)[0]?=some y:=⟨_,List.getElem?_eq_getElem (by rw [kF HL.out (by omega)];omega)⟩
   have hY:=qx HR.out hy
   obtain⟨y0,y1,y2,y3,y4⟩:=hY
   have hF:=λ(d:Nat) (hd:d<5)=>(HT.out d (by omega)).2
   have f0:=hF 0 (by omega)
   have f1:=hF 1 (by omega)
   have f2:=hF 2 (by omega)
   have f3:=hF 3 (by omega)
   have f4:=hF 4 (by omega)
   simp only [Nat.zero_mul,Nat.zero_add] at x0 x1 x2 x3 x4 y0 y1 y2 y3 y4 f0 f1 f2 f3 f4;clear hF hne h34 hy;go_upto_region 8 with fail
   have Uj:Hid ((((((wr.setCell ⟨w3.heap.size,0,none⟩ (.bool p.1)).setCell ⟨w3.heap.size,1,none⟩ (ab p.2.1.1)).setCell ⟨w3.heap.size,2,none⟩ (ai (p.2.1.2.1:Int))).setCell ⟨w3.heap.size,3,none⟩ (ai (p.2.1.2.2:Int))).setCell ⟨w3.heap.size,4,none⟩ (ab p.2.2)).rangeAt w3.heap.size 0 (ed (p::P.eraseIdx i))):=by
    have:=nC HR.out (i:=0) (by rw [kF HL.out (by omega)];omega) p
    rw [zJ p HL.out (by omega)] at this;exact this
   have OS:Hid (aj (λx=>x=w3.heap.size) w4 (((((wr.setCell ⟨w3.heap.size,0,none⟩ (.bool p.1)).setCell ⟨w3.heap.size,1,none⟩ (ab p.2.1.1)).setCell ⟨w3.heap.size,2,none⟩ (ai (p.2.1.2.1:Int))).setCell ⟨w3.heap.size,3,none⟩ (ai (p.2.1.2.2:Int))).setCell ⟨w3.heap.size,4,none⟩ (ab p.2.2))):=HB.out.trans (aj.setCells (S:=λx=>x=w3.heap.size) rfl (eE p) 0 (aj.refl _ _))
   generalize (((((wr.setCell ⟨w3.heap.size,0,none⟩ (.bool p.1)).setCell ⟨w3.heap.size,1,none⟩ (ab p.2.1.1)).setCell ⟨w3.heap.size,2,none⟩ (ai (p.2.1.2.1:Int))).setCell ⟨w3.heap.size,3,none⟩ (ai (p.2.1.2.2:Int))).setCell ⟨w3.heap.size,4,none⟩ (ab p.2.2))=w5 at *
   obtain⟨N,hN⟩:∃N,N=ed (p::P.eraseIdx i):=⟨_,rfl⟩
   have hNl:N.length=20:=by rw [hN,aO,List.length_cons,List.length_eraseIdx,HL.out,if_pos (by omega)]
   have Ts:Hid (∀v∈N,v.oneCell'=true):=by rw [hN];exact gQ _
   rw [<-hN] at Uj;have HN:=ae hN
   have RG:Hid (w5.there (w.heap.size+1+1) 0 20):=nk (cz O_.out OM.out) OS.out (by have:=Qo.out;omega)
   have O4:=ae (jl Uj.out hNl)
   have PL:=DG (L:=N) (n:=20) RG.out hNl Ts.out
   have O7:Hid (Below w.heap.size w (w5.setCells (w.heap.size+1+1) 0 N)) :=
    aj.below (aj.below (aa OJ.out OM.out) OS.out (λk hk=>by have:=Qo.out;omega)) (aj.setCells (S:=λx=>x=w.heap.size+1+1) rfl N 0 (aj.refl _ _)) (λk hk=>by omega)
   have PX:=ae (run_loadVar_mid (P:=Tryz.prog) (w5.setCells (w.heap.size+1+1) 0 N) (w.heap.size+1+1) 0 320 N _ (World.rangeAt_setCells_same _ _ _ _ (by rw [hNl];exact RG.out)) Tryz.underlying320 rfl (by rw [jg,hNl]))
   generalize w5.setCells (w.heap.size+1+1) 0 N=w6 at PL O7 PX
   clear hN;go_wp2_with (first|((with_reducible refine aJ O4.out ?_ ?_);· rfl))
   refine bodyPost_ret (v:=.agg N.toArray) ?_ rfl ⟨by rw [HN.out],O7.out⟩
   have hlr:=PX.out
   simp [results,Tryz.results438,asAddr,hlr]
structure Ca (w:World)(g s n k:Nat)(R:Nat->List Pl)(e hi mi:Int):Prop where
 c0:w.cell? ⟨g,0,none⟩=some (ab (s:Int))
 c1:w.cell? ⟨g,1,none⟩=some (ab (n:Int))
 c2:w.cell? ⟨g,2,none⟩=some (ab (k:Int))
 at_:∀r,r<16->w.rangeAt g (3+r*20) (ed (R r))
 th:w.there g 3 320
 len:∀r,(R r).length=4
 ce:aM w ⟨g,323,none⟩ (ab e)
 ch:aM w ⟨g,324,none⟩ (ab hi)
 cm:aM w ⟨g,325,none⟩ (ab mi)
 ls:s<=16
 n1:1<=n
 n4:n<=4
 lk:k<=64
variable {w w':World}{g s n k:Nat}{R:Nat->List Pl}{e hi mi:Int}
theorem Ca.lt (h:Ca w g s n k R e hi mi):g<w.heap.size:=World.block_lt_of_cell? _ _ h.c0
theorem Ca.but {S:Nat->Prop}(h:Ca w g s n k R e hi mi)(hb:aj S w w')(h1:¬S g):Ca w' g s n k R e hi mi :=
 ⟨an hb h.c0 h1,an hb h.c1 h1,an hb h.c2 h1,λr hr=>nX (h.at_ r hr) hb h1,nk h.th hb h1,h.len,h.ce.but hb h1,h.ch.but hb h1,h.cm.but hb h1,h.ls,h.n1,h.n4,h.lk⟩
theorem Ca.later (h:Ca w g s n k R e hi mi)(hb:Below w.heap.size w w'):Ca w' g s n k R e hi mi:=h.but (S:=λ_=>False) (aj.of hb) (λh=>h)
def R0:Nat->List Pl:=λ_=>List.replicate 4 fr
theorem CD:(Tryz.prog.info? 323).map (λi=>(i.zero,i.size,i.bytes))=some (some (.agg (ints [0,0,0]++(ed (List.replicate 64 fr)++ints [0,0,0])).toArray),326,2608):=by kernel_rfl
theorem rM (r:Nat)(hr:r<16)(j:Nat)(v:Value)(hv:(ed (List.replicate 4 fr))[j]?=some v):(ed (List.replicate 64 fr))[r*20+j]?=some v:=by
 have hj:j<20:=(List.getElem?_eq_some_iff.1 hv).1
 rw [kB] at hv ⊢
 rw [List.getElem?_replicate,if_pos (by omega)] at hv ⊢
 rw [show (r*20+j)%5=j%5 by omega];exact hv
theorem Ca.new (w:World)(s n k:Nat)(h1:s<=16)(h2:1<=n)(h3:n<=4)(h4:k<=64)(Z:Array Value)(hZ:Z=(ints [0,0,0]++(ed (List.replicate 64 fr)++ints [0,0,0])).toArray) :
  Ca (w.alloc (.cells (((Z.setIfInBounds 0 (ab (s:Int))).setIfInBounds 1 (ab (n:Int))).setIfInBounds 2 (ab (k:Int))) 323)) w.heap.size s n k R0 0 0 0:=by
 have hs:Z.size=326:=by rw [hZ];simp [aO,ints]
 have hh:=heap_alloc_new w (.cells (((Z.setIfInBounds 0 (ab (s:Int))).setIfInBounds 1 (ab (n:Int))).setIfInBounds 2 (ab (k:Int))) 323)
 have hf:∀j,(w.alloc (.cells (((Z.setIfInBounds 0 (ab (s:Int))).setIfInBounds 1 (ab (n:Int))).setIfInBounds 2 (ab (k:Int))) 323)).frozen? ⟨w.heap.size,j,none⟩=false:=λj=>by
  simp only [World.frozen?,hh];simp
 have hc:∀j,3<=j->(w.alloc (.cells (((Z.setIfInBounds 0 (ab (s:Int))).setIfInBounds 1 (ab (n:Int))).setIfInBounds 2 (ab (k:Int))) 323)).cell? ⟨w.heap.size,j,none⟩=Z[j]?:=λj hj=>by
  rw [cell_of_row _ _ _ _ _ _ hh,Array.getElem?_setIfInBounds_ne (by omega),Array.getElem?_setIfInBounds_ne (by omega),Array.getElem?_setIfInBounds_ne (by omega)]
 have hl:(ed (List.replicate 64 fr)).length=320:=by rw [aO];rfl
 have hi3:(ints [0,0,0]).length=3:=rfl
 have hz:∀j,j<320->Z[3+j]?=(ed (List.replicate 64 fr))[j]?:=λj hj=>by
  rw [hZ,List.getElem?_toArray,List.getElem?_append_right (by omega),List.getElem?_append_left (by omega),hi3,Nat.add_sub_cancel_left]
 have ht:∀j,j<3->Z[323+j]?=(ints [0,0,0])[j]?:=λj hj=>by
  rw [hZ,List.getElem?_toArray,List.getElem?_append_right (by omega),List.getElem?_append_right (by omega),hi3,hl,show 323+j - 3 - 320=j by omega]
 refine⟨?_,?_,?_,λr hr j v hv=>?_,λj hj=>⟨?_,hf _⟩,λr=>rfl,⟨?_,hf _⟩,⟨?_,hf _⟩,⟨?_,hf _⟩,h1,h2,h3,h4⟩
 ·rw [cell_of_row _ _ _ _ _ _ hh];simp [hs]
 ·rw [cell_of_row _ _ _ _ _ _ hh];simp [hs]
 ·rw [cell_of_row _ _ _ _ _ _ hh];simp [hs]
 ·have hj:j<20:=(List.getElem?_eq_some_iff.1 hv).1
  rw [hc _ (by omega),Nat.add_assoc,hz _ (by omega)];exact rM r hr j v hv
 ·rw [hc _ (by omega)]
  simp [hs];omega
 ·rw [hc _ (by omega)];exact ht 0 (by omega)
 ·rw [hc _ (by omega)];exact ht 1 (by omega)
 ·rw [hc _ (by omega)];exact ht 2 (by omega)
theorem cu (s n k:Nat)(w:World)(h1:s<=16)(h2:1<=n)(h3:n<=4)(h4:k<=64) :
  Calls Tryz.prog 129 #[ab (s:Int),ab (n:Int),ab (k:Int)] w λe w'=>∃g,e=.returned (.tuple #[aq g,ab 0])/\Ca w' g s n k R0 0 0 0/\w.heap.size<=g/\Below w.heap.size w w':=by
 have hz:=λW=>bg CD W
 obtain⟨Z,hZ⟩:∃Z,Z=(ints [0,0,0]++(ed (List.replicate 64 fr)++ints [0,0,0])).toArray:=⟨_,rfl⟩
 rw [<-hZ] at hz;have hs:Z.size=326:=by rw [hZ];simp [aO,ints]
 have hZ0:(Z=#[])=False:=eq_false (λh=>by rw [h] at hs;simp at hs)
 have HN:=ae (Ca.new w s n k h1 h2 h3 h4 Z hZ)
 clear hZ;have hd1:decide ((s:Int)<0)=false:=decide_eq_false (by omega)
 have hd2:decide ((s:Int)>16)=false:=decide_eq_false (by omega)
 have hd3:decide ((n:Int)<1)=false:=decide_eq_false (by omega)
 have hd4:decide ((n:Int)>4)=false:=decide_eq_false (by omega)
 have hd5:decide ((k:Int)<0)=false:=decide_eq_false (by omega)
 have hd6:decide ((k:Int)>64)=false:=decide_eq_false (by omega)
 clear h1 h2 h3 h4;go_enter Tryz.func129,Tryz.ntmps129
 go_wp2;exact bodyPost_ret (v:=.tuple #[aq w.heap.size,ab 0]) (by simp [results,Tryz.results129,go_sem]) rfl ⟨w.heap.size,rfl,HN.out,Nat.le_refl _,ag _ _⟩
end Go.Proofs.YtmhinfbkmjdgfaaGreatDoor.K
namespace Go.Proofs.YtmhinfbkmjdgfaaGreatDoor.K
open Go.RowKit
variable {w w':World}{g s n k:Nat}{R:Nat->List Pl}{e hi mi:Int}
theorem kK (x N:Nat)(hx:x<az)(hN:0<N)(hb:N<=16):IntKind.i64.wrap ((x:Int)%(N:Int))=((x%N:Nat):Int):=by
 have:x%N<N:=Nat.mod_lt _ hN
 rw [IntKind.wrap_i64];omega
def D3 (c:Cp):Prop:=c.2.1<az/\c.2.2<az
def fM (k s:Nat)(c:Cp):Nat:=cQ (eC (eg c.1) c.2.1 c.2.2) (k:Int)%s
theorem uI {k s:Nat}(c:Cp)(h:0<s):fM k s c<s:=Nat.mod_lt _ h
theorem uQ (h:Ca w g s n k R e hi mi)(c:Cp)(hc:D3 c)(hs:0<s) :
  Calls Tryz.prog 437 #[aq g,.agg #[ab c.1,ai (c.2.1:Int),ai (c.2.2:Int)]] w λe w'=>e=.returned (ab (fM k s c:Int))/\Below w.heap.size w w':=by
 obtain⟨o,hi,lo⟩:=c
 obtain⟨h1,h2⟩:=hc
 obtain⟨w1,hw1⟩:∃w1,w1=w.alloc (Obj.cells #[ab o,ai (hi:Int),ai (lo:Int)] 37):=⟨_,rfl⟩
 have hB1:Below w.heap.size w w1:=by rw [hw1];exact ag _ _
 have hh:=h.later hB1
 have hC:Hid (∀U:World,Below w1.heap.size w1 U->(U.cell? ⟨w.heap.size,0,none⟩=some (ab o)/\U.cell? ⟨w.heap.size,1,none⟩=some (ai (hi:Int))/\U.cell? ⟨w.heap.size,2,none⟩=some (ai (lo:Int))/\U.cell? ⟨g,0,none⟩=some (ab (s:Int))/\U.cell? ⟨g,2,none⟩=some (ab (k:Int)))/\Below w1.heap.size w1 U):=λU hU =>
  ⟨⟨cell_later hU (by rw [hw1];simp [go_sem]),cell_later hU (by rw [hw1];simp [go_sem]),cell_later hU (by rw [hw1];simp [go_sem]),cell_later hU hh.c0,cell_later hU hh.c2⟩,hU⟩
 have hls:=h.ls
 have HX:Hid (cQ (eC (eg o) hi lo) (k:Int)<az):=oG _ (fV _ _ _)
 have HM:Hid (fM k s (o,hi,lo)=cQ (eC (eg o) hi lo) (k:Int)%s):=rfl
 have hH:=λW=>lf o hi lo (k:Int) W h1 h2
 generalize cQ (eC (eg o) hi lo) (k:Int)=x at HX HM hH
 have HR:=ae (kK x s HX.out hs hls)
 have hu:IntKind.u64.wrap (s:Int)=(s:Int):=by rw [IntKind.wrap_u64];omega
 have hz:¬s=0:=by omega
 clear h hh;go_enter Tryz.func437,Tryz.ntmps437
 go_wp2;rw [<-hw1];have OI:=ae hB1
 clear hw1 hB1;go_region_held3 (λU=>(U.cell? ⟨w.heap.size,0,none⟩=some (ab o)/\U.cell? ⟨w.heap.size,1,none⟩=some (ai (hi:Int))/\U.cell? ⟨w.heap.size,2,none⟩=some (ai (lo:Int))/\U.cell? ⟨g,0,none⟩=some (ab (s:Int))/\U.cell? ⟨g,2,none⟩=some (ab (k:Int)))/\Below w1.heap.size w1 U) (first|exact hC.out _ (Below.refl _ _).drew|exact hC.out _ hb2.out) (first|(go_at_call 444;refine (hH _).mono ?_;rintro e w2 ⟨rfl,hb2'⟩;have hb2:=ae (aa (Below.refl w1.heap.size w1).drew hb2')))
 go_wp2;go_ret;exact⟨aQ (by rw [HM.out];exact HR.out),aa OI.out (And.right (by assumption))⟩
theorem Db:(Tryz.prog.info? 321).map (λi=>(i.zero,i.size,i.bytes))=some (some (.agg (ed (List.replicate 64 fr)).toArray),320,2560):=by kernel_rfl
theorem Ca.Ea {E:Nat}(h:Ca w g s n k R e hi mi)(x:Int):Ca ((w.setCell ⟨g,323,none⟩ (ab x)).setCells g 3 (ed (List.replicate 64 fr))) g s n k R0 x hi mi:=by
 have hl:(ed (List.replicate 64 fr)).length=320:=by rw [aO];rfl
 have ht:(w.setCell ⟨g,323,none⟩ (ab x)).there g 3 320:=World.there_setCells h.th g 323 [ab x]
 have ho:∀j,j<3\/323<=j->((w.setCell ⟨g,323,none⟩ (ab x)).setCells g 3 (ed (List.replicate 64 fr))).cell? ⟨g,j,none⟩=(w.setCell ⟨g,323,none⟩ (ab x)).cell? ⟨g,j,none⟩:=λj hj =>
  World.cell?_setCells_out g _ 3 _ ⟨g,j,none⟩ (λ_ _=>by show j<3\/3+_<=j;rw [hl];omega)
 have hn:∀j,j≠323->(w.setCell ⟨g,323,none⟩ (ab x)).cell? ⟨g,j,none⟩=w.cell? ⟨g,j,none⟩:=λj hj=>World.cell?_setCell_other _ _ _ _ (λe=>hj (by cases e;rfl))
 have hf:∀j,((w.setCell ⟨g,323,none⟩ (ab x)).setCells g 3 (ed (List.replicate 64 fr))).frozen? ⟨g,j,none⟩=w.frozen? ⟨g,j,none⟩:=λj=>by rw [World.frozen?_setCells];simp
 refine⟨?_,?_,?_,λr hr j v hv=>?_,World.there_setCells ht _ _ _,λr=>rfl,⟨?_,?_⟩,⟨?_,?_⟩,⟨?_,?_⟩,h.ls,h.n1,h.n4,h.lk⟩
 ·rw [ho _ (by omega),hn _ (by omega)];exact h.c0
 ·rw [ho _ (by omega),hn _ (by omega)];exact h.c1
 ·rw [ho _ (by omega),hn _ (by omega)];exact h.c2
 ·have hj:j<20:=(List.getElem?_eq_some_iff.1 hv).1
  rw [Nat.add_assoc];exact World.rangeAt_setCells_same _ g 3 _ (by rw [hl];exact ht) _ _ (rM r hr j v hv)
 ·rw [ho _ (by omega)];exact World.cell?_setCell_same _ _ _ h.ce.1
 ·rw [hf];exact h.ce.2
 ·rw [ho _ (by omega),hn _ (by omega)];exact h.ch.1
 ·rw [hf];exact h.ch.2
 ·rw [ho _ (by omega),hn _ (by omega)];exact h.cm.1
 ·rw [hf];exact h.cm.2
theorem xG {E:Nat}(h:Ca w g s n k R (E:Int) hi mi)(hE:E<256):Calls Tryz.prog 274 #[aq g] w λx w'=>x=.returned (.tuple #[])/\Ca w' g s n k R0 (((E+1)%256:Nat):Int) hi mi/\aj (λk=>k=g) w w':=by
 have c:=h.ce.1
 have d:=h.ce.2
 have hz:=λW=>bg Db W
 obtain⟨Z,hZ⟩:∃Z,Z=ed (List.replicate 64 fr):=⟨_,rfl⟩
 have hv:(((E+1)%256:Nat):Int)=((E:Int)+1)%256:=by omega
 rw [hv];have hT:=ae (h.Ea (E:=E) (((E:Int)+1)%256))
 rw [<-hZ] at hz hT;have hl:Z.length=320:=by rw [hZ,aO];rfl
 have hZ0:(Z=[])=False:=eq_false (λh=>by rw [h] at hl;simp at hl)
 have hw:IntKind.i64.wrap ((E:Int)+1)=((E+1:Nat):Int):=by rw [IntKind.wrap_i64];omega
 have PL:=DG (w:=w.setCell ⟨g,323,none⟩ (ab (((E:Int)+1)%256))) (L:=Z) (n:=320) (World.there_setCells h.th g 323 [ab (((E:Int)+1)%256)]) hl (by rw [hZ];exact gQ _)
 have hB:Hid (aj (λk=>k=g) w ((w.setCell ⟨g,323,none⟩ (ab (((E:Int)+1)%256))).setCells g 3 Z)):=aj.setCells (S:=λk=>k=g) rfl Z 3 ((aj.refl (λk=>k=g) w).setCell (p:=⟨g,323,none⟩) rfl _)
 generalize (w.setCell ⟨g,323,none⟩ (ab (((E:Int)+1)%256))).setCells g 3 Z=w3 at hT PL hB
 clear hZ h hv;go_enter Tryz.func274,Tryz.ntmps274
 go_wp2;exact bodyPost_end (by simp [results,Tryz.results274,go_sem]) rfl ⟨rfl,hT.out,hB.out⟩
end Go.Proofs.YtmhinfbkmjdgfaaGreatDoor.K
namespace Go.Proofs.YtmhinfbkmjdgfaaGreatDoor.K
open Go.RowKit
variable {w w':World}{g s n k:Nat}{R:Nat->List Pl}{e hi mi:Int}
variable {b:Nat}{p:Pl}{P:Program}
theorem bM {md:Region.Mode}{ops:Array Oper}{Q:Exit->Act->World->Prop}{S:World->Prop}{fuel f2:Nat}{listed l2:Array Bool}{a:Act}{w:World}(hl:listed=l2)(hf:fuel=f2)(h:wpAnyH P md ops Q S f2 l2 a w):wpAnyH P md ops Q S fuel listed a w:=by
 subst hl hf
 exact h
theorem fD {w:World}{o:Oper}{ρ:Operand->Value}{ty:TypeId}{x:Operand}{p v:Value}
  (ho:o.op=.load ty x) (hx:ρ x=p) (hr:(Instr.loadAt ty p).run P w=.ok v w):(execOp ρ o).run P w=.ok (.value v) w:=by
 unfold execOp;simp only [ho,hx,hr,Sem.run_bind,Sem.run_pure,Result.andThen_ok]
theorem iV {w1 U:World}(h:Below w1.heap.size w1 U)(hb:w1.heap.size<=b)(o:Nat)(L:List Value):Below w1.heap.size w1 (U.setCells b o L) :=
 aj.below h (aj.setCells (S:=λx=>x=b) rfl L o (aj.refl _ _)) (λk hk=>by omega)
theorem AO {w:World}(h:w.rangeAt b 0 (eE p)):Ce w b 0 p:=⟨h 0 _ rfl,h 1 _ rfl,h 2 _ rfl,h 3 _ rfl,h 4 _ rfl⟩
theorem BI:(Tryz.prog.info? 318).map (λi=>(i.zero,i.size,i.bytes))=some (some (.agg (eE fr).toArray),5,40):=by kernel_rfl
theorem ur:(Tryz.prog.info? 318).map (·.size)=some 5:=by kernel_rfl
def tell (c:Cp)(p:Pl):Value:=.tuple #[ab (if fj c p then p.2.2 else 0),.bool (fj c p)]
theorem look_ok (h:Ca w g s n k R e hi mi)(c:Cp)(hc:D3 c)(hs:0<s){r:Nat}(hr:r=fM k s c){i:Nat}(hi_:i=dU (R r) c n)(hp:(R r)[i]?=some p) :
  Calls Tryz.prog 468 #[aq g,.agg #[ab c.1,ai (c.2.1:Int),ai (c.2.2:Int)]] w λe w'=>e=.returned (tell c p)/\Below w.heap.size w w':=by
 obtain⟨w1,hw1⟩:∃w1,w1=w.alloc (Obj.cells #[ab c.1,ai (c.2.1:Int),ai (c.2.2:Int)] 37):=⟨_,rfl⟩
 have hB1:Below w.heap.size w w1:=by rw [hw1];exact ag _ _
 have HH:=ae (h.later hB1)
 have c0:=HH.out.c0
 rw [hw1] at c0;have hz0:((s:Int)==0)=false:=by simp;omega
 have hr16:(r:Int)<16:=by have:=h.ls;have:=uI (k:=k) c hs;omega
 have hrn:r<16:=by omega
 have hi4:(i:Int)<4:=by
  have:=(List.getElem?_eq_some_iff.1 hp).1
  rw [h.len] at this;omega
 have O5:Hid (∀U:World,Below w1.heap.size w1 U->Calls Tryz.prog 437 #[aq g,.agg #[ab c.1,ai (c.2.1:Int),ai (c.2.2:Int)]] U λe w'=>e=.returned (ab (r:Int))/\Below U.heap.size U w'):=λU hU=>by
  rw [hr];exact uQ (HH.out.later hU) c hc hs
 obtain⟨A,hA⟩:∃A,A=ed (R r):=⟨_,rfl⟩
 have PE:Hid (A.length=20):=by rw [hA,aO,h.len];rfl
 have Uf:Hid (A.toArray.size=20):=by rw [List.size_toArray];exact PE.out
 have Sd:Hid (∀v∈A,v.oneCell'=true):=by rw [hA];exact gQ _
 have O4:Hid (∀U:World,Below w1.heap.size w1 U->(Instr.loadAt 320 (.pointer (some ⟨g,3+r*20,none⟩))).run Tryz.prog U=.ok (.agg A.toArray) U):=λU hU=>jl (by rw [hA];exact (HH.out.later hU).at_ r hrn) PE.out
 have QO:Hid (∀U:World,Calls Tryz.prog 439 #[.agg A.toArray,.agg #[ab c.1,ai (c.2.1:Int),ai (c.2.2:Int)],ab (n:Int)] U λe w'=>e=.returned (ab (i:Int))/\Below U.heap.size U w'):=λU=>by
  rw [hi_,hA];exact qE (R r) c n U (h.len r) h.n1 h.n4
 have hz:=λW=>bg oJ W
 obtain⟨Z,hZ⟩:∃Z,Z=(ed (List.replicate 4 fr)).toArray:=⟨_,rfl⟩
 rw [<-hZ] at hz;have QL:Hid (Z.size=20):=by rw [hZ,List.size_toArray,aO];rfl
 have HA:=ae hA
 have HP:=ae hp
 have HI:=ae hi_
 have Q4:Hid (∀U:World,Below w1.heap.size w1 U->U.cell? ⟨w.heap.size,0,none⟩=some (ab c.1)/\U.cell? ⟨w.heap.size,1,none⟩=some (ai (c.2.1:Int))/\U.cell? ⟨w.heap.size,2,none⟩=some (ai (c.2.2:Int))/\U.cell? ⟨g,1,none⟩=some (ab (n:Int))):=λU hU =>
  ⟨cell_later hU (by rw [hw1];simp [go_sem]),cell_later hU (by rw [hw1];simp [go_sem]),cell_later hU (by rw [hw1];simp [go_sem]),(HH.out.later hU).c1⟩
 have hC:=λ(U:World) (hU:Below w1.heap.size w1 U)=>And.intro (Q4.out U hU) hU
 have HC:=ae hC
 clear hA hZ hp hi_ hr h hC;go_enter Tryz.func468,Tryz.ntmps468
 go_upto_region 3 with fail
 rw [<-hw1];have OI:=ae hB1
 clear hw1 hB1 c0 hz0;go_cut [6] (λv W=>∃b,v=aq b/\W.rangeAt b 0 A/\Below w1.heap.size w1 W)
 case first =>
  refine wp_region_held_drew (S:=(λU:World=>(U.cell? ⟨w.heap.size,0,none⟩=some (ab c.1)/\U.cell? ⟨w.heap.size,1,none⟩=some (ai (c.2.1:Int))/\U.cell? ⟨w.heap.size,2,none⟩=some (ai (c.2.2:Int))/\U.cell? ⟨g,1,none⟩=some (ab (n:Int)))/\Below w1.heap.size w1 U)) (by kernel_rfl) (HC.out _ (Below.refl w1.heap.size w1).drew) (λhHeld=>?_)
  refine nm 10 0 10 ?_
  refine tn 0 10 1 9 ?_
  simp only [zz];refine tn 1 10 3 8 ?_
  simp only [zz];refine tn 2 10 7 7 ?_
  simp only [zz];refine tn 4 10 23 6 ?_
  simp only [zz];refine tn 5 10 55 5 ?_
  simp only [zz];refine wpAnyH_ready (rs:=[3,8]) (by kernel_rfl) (by simp) ?_
  refine AllReadyH.cons rfl (λK hK=>?_) ?_
  ·go_simp
   go_wp2_with (first|(go_at_call 437;refine (O5.out _ ((Below.refl w1.heap.size w1).drew)).mono ?_;rintro e w2 ⟨rfl,hb2⟩;have OH:=ae hb2;clear hb2))
   refine zk hK 10 63 4 (HC.out _ (aa (Below.refl w1.heap.size w1).drew OH.out)) λhHeld=>?_
   clear hK K;try simp only [zz]
   refine tn 6 10 127 3 ?_
   simp only [zz];refine tv 7 (v:=.agg A.toArray) ?_ ?_
   ·(intro w hSw;(try dsimp only at hSw);exact fD rfl rfl (O4.out _ hSw.2))
   simp only [zz];refine nm 10 255 2 ?_
   refine zr 8 λK hK=>?_
   go_simp
   refine zk hK 10 511 1 (HC.out _ (aa (aa (Below.refl w1.heap.size w1).drew OH.out) (ag _ _))) λhHeld=>?_
   clear hK K;try simp only [zz]
   refine zr 9 λK hK=>?_
   refine wp_store_mid 320 (.tmp 6) (.tmp 20) rfl _ 0 A.toArray rfl rfl (by rw [Uf.out];exact (bu w2 Z 320 20 QL.out)) (by rw [jg,Uf.out]) (all_oneCell_toArray Sd.out) ?_
   refine zk hK 10 1023 0 (HC.out _ (iV (aa (aa (Below.refl w1.heap.size w1).drew OH.out) (ag _ _)) ((aa (Below.refl w1.heap.size w1).drew OH.out)).size 0 _)) λhHeld=>?_
   clear hK K;try simp only [zz]
   refine zn ?_ _
   go_wp2;go_meet
   case rel=>exact⟨_,rfl,World.rangeAt_setCells_same _ _ _ _ (by rw [PE.out];first|exact bu w2 Z 320 20 QL.out|exact cz (bu w1.drew Z 320 20 QL.out) OH.out),hHeld.2⟩
  refine AllReadyH.cons rfl (λK hK=>?_) AllReadyH.nil
  go_simp
  refine zk hK 10 311 4 (HC.out _ (aa (Below.refl w1.heap.size w1).drew (ag w1.drew _))) λhHeld=>?_
  clear hK K;try simp only [zz]
  refine zr 3 λK hK=>?_
  go_simp
  go_wp2_with (first|(go_at_call 437;refine (O5.out _ (aa (Below.refl w1.heap.size w1).drew (ag w1.drew _))).mono ?_;rintro e w2 ⟨rfl,hb2⟩;have OH:=ae hb2;clear hb2))
  refine zk hK 10 319 3 (HC.out _ (aa (aa (Below.refl w1.heap.size w1).drew (ag w1.drew _)) OH.out)) λhHeld=>?_
  clear hK K;try simp only [zz]
  refine tn 6 10 383 2 ?_
  simp only [zz];refine tv 7 (v:=.agg A.toArray) ?_ ?_
  ·(intro w hSw;(try dsimp only at hSw);exact fD rfl rfl (O4.out _ hSw.2))
  simp only [zz];refine nm 10 511 1 ?_
  refine zr 9 λK hK=>?_
  refine wp_store_mid 320 (.tmp 6) (.tmp 20) rfl _ 0 A.toArray rfl rfl (by rw [Uf.out];exact (cz (bu w1.drew Z 320 20 QL.out) OH.out)) (by rw [jg,Uf.out]) (all_oneCell_toArray Sd.out) ?_
  refine zk hK 10 1023 0 (HC.out _ (iV (aa (aa (Below.refl w1.heap.size w1).drew (ag w1.drew _)) OH.out) (Nat.le_refl _) 0 _)) λhHeld=>?_
  clear hK K;try simp only [zz]
  refine zn ?_ _
  go_wp2;go_meet
  case rel=>exact⟨_,rfl,World.rangeAt_setCells_same _ _ _ _ (by rw [PE.out];first|exact bu w2 Z 320 20 QL.out|exact cz (bu w1.drew Z 320 20 QL.out) OH.out),hHeld.2⟩
 case rest =>
  obtain⟨b,rfl,hR,hB⟩:=hcut
  have HB:=ae hB
  have UL:Hid (∀U:World,Below wc.heap.size wc U->(Instr.loadAt 320 (aq b)).run Tryz.prog U=.ok (.agg A.toArray) U):=λU hU=>jl (eL hR hU) PE.out
  have hX:=qx (by rw [<-HA.out];exact hR) HP.out
  rw [Nat.zero_add] at hX;have Qf:Hid (∀U:World,Below wc.heap.size wc U->(U.cell? ⟨w.heap.size,0,none⟩=some (ab c.1)/\U.cell? ⟨w.heap.size,1,none⟩=some (ai (c.2.1:Int))/\U.cell? ⟨w.heap.size,2,none⟩=some (ai (c.2.2:Int))/\U.cell? ⟨g,1,none⟩=some (ab (n:Int))/\U.cell? ⟨b,i*5,none⟩=some (.bool p.1)/\U.cell? ⟨b,i*5+1,none⟩=some (ab p.2.1.1)/\U.cell? ⟨b,i*5+2,none⟩=some (ai (p.2.1.2.1:Int))/\U.cell? ⟨b,i*5+3,none⟩=some (ai (p.2.1.2.2:Int))/\U.cell? ⟨b,i*5+4,none⟩=some (ab p.2.2))/\Below wc.heap.size wc U):=λU hU=>by
   obtain⟨a1,a2,a3,a4⟩:=Q4.out U (aa HB.out hU)
   have hx:=hX.later hU
   exact⟨⟨a1,a2,a3,a4,hx.c0,hx.c1,hx.c2,hx.c3,hx.c4⟩,hU⟩
  have hz5:=λW=>bg BI W
  obtain⟨Z5,hZ5⟩:∃Z,Z=(eE fr).toArray:=⟨_,rfl⟩
  rw [<-hZ5] at hz5;have Qk:Hid (Z5.size=5):=by rw [hZ5];rfl
  clear hR hB hX hZ5 hz;go_upto_region 4 with fail
  go_cut [7] (λv W=>∃b',v=aq b'/\Ce W b' 0 p/\Below wc.heap.size wc W)
  case first =>
   refine wp_region_held_drew (S:=(λU:World=>(U.cell? ⟨w.heap.size,0,none⟩=some (ab c.1)/\U.cell? ⟨w.heap.size,1,none⟩=some (ai (c.2.1:Int))/\U.cell? ⟨w.heap.size,2,none⟩=some (ai (c.2.2:Int))/\U.cell? ⟨g,1,none⟩=some (ab (n:Int))/\U.cell? ⟨b,i*5,none⟩=some (.bool p.1)/\U.cell? ⟨b,i*5+1,none⟩=some (ab p.2.1.1)/\U.cell? ⟨b,i*5+2,none⟩=some (ai (p.2.1.2.1:Int))/\U.cell? ⟨b,i*5+3,none⟩=some (ai (p.2.1.2.2:Int))/\U.cell? ⟨b,i*5+4,none⟩=some (ab p.2.2))/\Below wc.heap.size wc U)) (by kernel_rfl) (Qf.out _ (Below.refl wc.heap.size wc).drew) (λhHeld=>?_)
   refine nm 11 0 11 ?_
   refine tv 0 (v:=.agg A.toArray) ?_ ?_
   ·(intro w hSw;(try dsimp only at hSw);exact fD rfl rfl (UL.out _ hSw.2))
   simp only [zz];refine nm 11 1 10 ?_
   refine tn 1 11 3 9 ?_
   simp only [zz];refine tn 2 11 7 8 ?_
   simp only [zz];refine tn 3 11 15 7 ?_
   simp only [zz];refine tn 4 11 31 6 ?_
   simp only [zz];refine tn 5 11 63 5 ?_
   simp only [zz];refine wpAnyH_ready (rs:=[6,9]) (by kernel_rfl) (by simp) ?_
   refine AllReadyH.cons rfl (λK hK=>?_) ?_
   ·go_simp
    go_wp2_with (first|(go_at_call 439;refine (QO.out _).mono ?_;rintro e w2 ⟨rfl,hb2⟩;have OH:=ae hb2;clear hb2))
    refine zk hK 11 127 4 (Qf.out _ (aa (Below.refl wc.heap.size wc).drew OH.out)) λhHeld=>?_
    clear hK K;try simp only [zz]
    refine tn 7 11 255 3 ?_
    simp only [zz];refine tn 8 11 511 2 ?_
    simp only [zz];refine zr 9 λK hK=>?_
    go_simp
    refine zk hK 11 1023 1 (Qf.out _ (aa (aa (Below.refl wc.heap.size wc).drew OH.out) (ag _ _))) λhHeld=>?_
    clear hK K;try simp only [zz]
    refine zr 10 λK hK=>?_
    refine wp_store_mid 318 (.tmp 7) (.tmp 29) rfl _ 0 (eE p).toArray rfl rfl (bu w2 Z5 318 5 Qk.out) ur (all_oneCell_toArray (mu p)) ?_
    refine zk hK 11 2047 0 (Qf.out _ (iV (aa (aa (Below.refl wc.heap.size wc).drew OH.out) (ag _ _)) ((aa (Below.refl wc.heap.size wc).drew OH.out)).size 0 _)) λhHeld=>?_
    clear hK K;try simp only [zz]
    refine zn ?_ _
    go_wp2;go_meet
    case rel=>exact⟨_,rfl,AO (World.rangeAt_setCells_same _ _ _ _ (by first|exact bu w2 Z5 318 5 Qk.out|exact cz (bu wc.drew Z5 318 5 Qk.out) OH.out)),hHeld.2⟩
   refine AllReadyH.cons rfl (λK hK=>?_) AllReadyH.nil
   go_simp
   refine zk hK 11 575 4 (Qf.out _ (aa (Below.refl wc.heap.size wc).drew (ag wc.drew _))) λhHeld=>?_
   clear hK K;try simp only [zz]
   refine zr 6 λK hK=>?_
   go_simp
   go_wp2_with (first|(go_at_call 439;refine (QO.out _).mono ?_;rintro e w2 ⟨rfl,hb2⟩;have OH:=ae hb2;clear hb2))
   refine zk hK 11 639 3 (Qf.out _ (aa (aa (Below.refl wc.heap.size wc).drew (ag wc.drew _)) OH.out)) λhHeld=>?_
   clear hK K;try simp only [zz]
   refine tn 7 11 767 2 ?_
   simp only [zz];refine tn 8 11 1023 1 ?_
   simp only [zz];refine zr 10 λK hK=>?_
   refine wp_store_mid 318 (.tmp 7) (.tmp 29) rfl _ 0 (eE p).toArray rfl rfl (cz (bu wc.drew Z5 318 5 Qk.out) OH.out) ur (all_oneCell_toArray (mu p)) ?_
   refine zk hK 11 2047 0 (Qf.out _ (iV (aa (aa (Below.refl wc.heap.size wc).drew (ag wc.drew _)) OH.out) (Nat.le_refl _) 0 _)) λhHeld=>?_
   clear hK K;try simp only [zz]
   refine zn ?_ _
   go_wp2;go_meet
   case rel=>exact⟨_,rfl,AO (World.rangeAt_setCells_same _ _ _ _ (by first|exact bu w2 Z5 318 5 Qk.out|exact cz (bu wc.drew Z5 318 5 Qk.out) OH.out)),hHeld.2⟩
  case rest =>
   rename_i wd
   obtain⟨b',rfl,hX,hB⟩:=hcut
   have OJ:=ae (aa HB.out hB)
   obtain⟨a1,a2,a3,_⟩:=Q4.out _ OJ.out
   obtain⟨x0,x1,x2,x3,x4⟩:=hX
   simp only [Nat.zero_add] at x1 x2 x3 x4;have hHas:=λW=>cI p c W
   have HT:Hid (tell c p=.tuple #[ab (if fj c p then p.2.2 else 0),.bool (fj c p)]):=rfl
   generalize fj c p=q at hHas HT
   have Qb:=ae x4
   clear x4 hB;have x4:=Qb.out
   cases q with
   | true =>
    go_wp2_with (first|(go_at_call 445;refine (hHas _).mono ?_;rintro e w5 ⟨rfl,hb5⟩;have y4:=cell_later hb5 x4;have OS:=ae hb5;clear hb5))
    exact bodyPost_ret (v:=.tuple #[ab p.2.2,.bool true]) (by simp [results,Tryz.results468,go_sem]) rfl ⟨by rw [HT.out];rfl,aa OI.out (aa OJ.out OS.out)⟩
   | false =>
    go_wp2_with (first|(go_at_call 445;refine (hHas _).mono ?_;rintro e w5 ⟨rfl,hb5⟩;have OS:=ae hb5;clear hb5))
    exact bodyPost_ret (v:=.tuple #[ab 0,.bool false]) (by simp [results,Tryz.results468,go_sem]) rfl ⟨by rw [HT.out];rfl,aa OI.out (aa OJ.out OS.out)⟩
theorem jC (h:Ca w g s n k R e hi mi)(c:Cp)(hs:s=0) :
  Calls Tryz.prog 468 #[aq g,.agg #[ab c.1,ai (c.2.1:Int),ai (c.2.2:Int)]] w λe w'=>e=.returned (.tuple #[ab 0,.bool false])/\Below w.heap.size w w':=by
 subst hs;have c0:=(h.later (ag w (Obj.cells #[ab c.1,ai (c.2.1:Int),ai (c.2.2:Int)] 37))).c0
 clear h;go_enter Tryz.func468,Tryz.ntmps468
 go_wp2;exact bodyPost_ret (v:=.tuple #[ab 0,.bool false]) (by simp [results,Tryz.results468,go_sem]) rfl ⟨rfl,ag _ _⟩
end Go.Proofs.YtmhinfbkmjdgfaaGreatDoor.K
namespace Go.Proofs.YtmhinfbkmjdgfaaGreatDoor.K
open Go.RowKit
variable {w w':World}{g s n k:Nat}{R:Nat->List Pl}{e hi mi:Int}
def xj (s n k:Nat)(R:Nat->List Pl)(c:Cp):Int×Bool :=
 if s=0 then (0,false) else
  match (R (fM k s c))[dU (R (fM k s c)) c n]? with
  | some p=>(if fj c p then p.2.2 else 0,fj c p)
  | none=>(0,false)
theorem uE {P:List Pl}{c:Cp}(h:P.length=4)(h1:1<=n)(h4:n<=4):dU P c n<4:=by unfold dU;omega
theorem jh (h:Ca w g s n k R e hi mi)(c:Cp)(hc:D3 c) :
  Calls Tryz.prog 468 #[aq g,.agg #[ab c.1,ai (c.2.1:Int),ai (c.2.2:Int)]] w λe w'=>e=.returned (.tuple #[ab (xj s n k R c).1,.bool (xj s n k R c).2])/\Below w.heap.size w w':=by
 unfold xj;by_cases hs:s=0
 ·rw [if_pos hs]
  exact jC h c hs
 ·rw [if_neg hs]
  have hl:=h.len (fM k s c)
  have hlt:dU (R (fM k s c)) c n<(R (fM k s c)).length:=by rw [hl];exact uE hl h.n1 h.n4
  have hp:=List.getElem?_eq_getElem hlt
  rw [hp];exact look_ok h c hc (by omega) rfl rfl hp
theorem Ca.vL (h:Ca w g s n k R e hi mi)(x:Int):Ca (w.setCell ⟨g,324,none⟩ (ab x)) g s n k R e x mi:=by
 have hn:∀j,j≠324->(w.setCell ⟨g,324,none⟩ (ab x)).cell? ⟨g,j,none⟩=w.cell? ⟨g,j,none⟩:=λj hj=>World.cell?_setCell_other _ _ _ _ (λe=>hj (by cases e;rfl))
 exact⟨by rw [hn _ (by omega)];exact h.c0,by rw [hn _ (by omega)];exact h.c1,by rw [hn _ (by omega)];exact h.c2,λr hr=>World.rangeAt_setCells_apart (h.at_ r hr) g 324 [ab x] (.inr (.inl (by rw [aO,h.len];omega))),World.there_setCells h.th g 324 [ab x],h.len,h.ce.other (by simp),h.ch.put,h.cm.other (by simp),h.ls,h.n1,h.n4,h.lk⟩
theorem Ca.rD (h:Ca w g s n k R e hi mi)(x:Int):Ca (w.setCell ⟨g,325,none⟩ (ab x)) g s n k R e hi x:=by
 have hn:∀j,j≠325->(w.setCell ⟨g,325,none⟩ (ab x)).cell? ⟨g,j,none⟩=w.cell? ⟨g,j,none⟩:=λj hj=>World.cell?_setCell_other _ _ _ _ (λe=>hj (by cases e;rfl))
 exact⟨by rw [hn _ (by omega)];exact h.c0,by rw [hn _ (by omega)];exact h.c1,by rw [hn _ (by omega)];exact h.c2,λr hr=>World.rangeAt_setCells_apart (h.at_ r hr) g 325 [ab x] (.inr (.inl (by rw [aO,h.len];omega))),World.there_setCells h.th g 325 [ab x],h.len,h.ce.other (by simp),h.ch.other (by simp),h.cm.put,h.ls,h.n1,h.n4,h.lk⟩
theorem Bd (h:Ca w g s n k R e hi mi)(c:Cp)(hc:D3 c) :
  Calls Tryz.prog 467 #[aq g,.agg #[ab c.1,ai (c.2.1:Int),ai (c.2.2:Int)]] w λx w'=>x=.returned (.tuple #[ab (xj s n k R c).1,.bool (xj s n k R c).2])/\Ca w' g s n k R e (if (xj s n k R c).2 then wrap64 (hi+1) else hi) (if (xj s n k R c).2 then mi else wrap64 (mi+1))/\aj (λk=>k=g) w w':=by
 have HH:=ae h
 have HL:=ae (λ(U:World) (hU:Below w.heap.size w U)=>jh (h.later hU) c hc)
 clear h;generalize xj s n k R c=x at HL
 obtain⟨x1,q⟩:=x
 cases q with
 | true =>
  go_enter Tryz.func467,Tryz.ntmps467
  go_upto_region 2 with (first|(go_at_call 468;refine (HL.out _ (ag _ _)).mono ?_;rintro e w2 ⟨rfl,hb2⟩;have OH:=ae (aa (ag _ _) hb2);clear hb2))
  have Qy:=ae (HH.out.later OH.out)
  have d:=Qy.out.ch.1
  have f:=Qy.out.ch.2
  have HF:=ae (Qy.out.vL (wrap64 (hi+1)))
  go_wp2;exact bodyPost_ret (v:=.tuple #[ab x1,.bool true]) (by simp [results,Tryz.results467,go_sem]) rfl ⟨rfl,HF.out,(aj.of (S:=λk=>k=g) OH.out).setCell (p:=⟨g,324,none⟩) rfl _⟩
 | false =>
  go_enter Tryz.func467,Tryz.ntmps467
  go_upto_region 2 with (first|(go_at_call 468;refine (HL.out _ (ag _ _)).mono ?_;rintro e w2 ⟨rfl,hb2⟩;have OH:=ae (aa (ag _ _) hb2);clear hb2))
  have Qy:=ae (HH.out.later OH.out)
  have d:=Qy.out.cm.1
  have f:=Qy.out.cm.2
  have HF:=ae (Qy.out.rD (wrap64 (mi+1)))
  go_wp2;exact bodyPost_ret (v:=.tuple #[ab x1,.bool false]) (by simp [results,Tryz.results467,go_sem]) rfl ⟨rfl,HF.out,(aj.of (S:=λk=>k=g) OH.out).setCell (p:=⟨g,325,none⟩) rfl _⟩
end Go.Proofs.YtmhinfbkmjdgfaaGreatDoor.K
namespace Go.Proofs.YtmhinfbkmjdgfaaGreatDoor.K
open Go.RowKit
variable {w w':World}{g s n k:Nat}{R:Nat->List Pl}{e hi mi:Int}
def fE (R:Nat->List Pl)(r:Nat)(Q:List Pl):Nat->List Pl:=λx=>if x=r then Q else R x
def BR (s n k:Nat)(R:Nat->List Pl)(c:Cp)(m:Int):Nat->List Pl :=
 if s=0 then R else fE R (fM k s c) ((true,c,m)::(R (fM k s c)).eraseIdx (dU (R (fM k s c)) c n))
theorem Ca.laid (h:Ca w g s n k R e hi mi){r:Nat}(hr:r<16){Q:List Pl}(hQ:Q.length=4):Ca (w.setCells g (3+r*20) (ed Q)) g s n k (fE R r Q) e hi mi:=by
 have hl:(ed Q).length=20:=by rw [aO,hQ]
 have hn:∀j,j<3+r*20\/3+r*20+20<=j->(w.setCells g (3+r*20) (ed Q)).cell? ⟨g,j,none⟩=w.cell? ⟨g,j,none⟩:=λj hj=>World.cell?_setCells_out g _ _ _ ⟨g,j,none⟩ (λ_ _=>by rw [hl];exact hj)
 have hf:∀j,(w.setCells g (3+r*20) (ed Q)).frozen? ⟨g,j,none⟩=w.frozen? ⟨g,j,none⟩:=λj=>World.frozen?_setCells _ _ _ _ _
 refine⟨by rw [hn _ (by omega)];exact h.c0,by rw [hn _ (by omega)];exact h.c1,by rw [hn _ (by omega)];exact h.c2,λx hx=>?_,World.there_setCells h.th _ _ _,λx=>?_,⟨by rw [hn _ (by omega)];exact h.ce.1,by rw [hf];exact h.ce.2⟩,⟨by rw [hn _ (by omega)];exact h.ch.1,by rw [hf];exact h.ch.2⟩,⟨by rw [hn _ (by omega)];exact h.cm.1,by rw [hf];exact h.cm.2⟩,h.ls,h.n1,h.n4,h.lk⟩
 ·unfold fE
  by_cases e:x=r
  ·subst e
   rw [if_pos rfl];refine World.rangeAt_setCells_same _ _ _ _ (λj hj=>?_)
   rw [hl] at hj;have:=h.th (x*20+j) (by omega)
   rw [<-Nat.add_assoc] at this;exact this
  ·rw [if_neg e]
   refine World.rangeAt_setCells_apart (h.at_ x hx) _ _ _ (.inr ?_)
   rw [aO,h.len,hl];omega
 ·unfold fE
  split
  ·exact hQ
  ·exact h.len x
theorem Aq (h:Ca w g s n k R e hi mi)(c:Cp)(m:Int)(hs:s=0) :
  Calls Tryz.prog 425 #[aq g,.agg #[ab c.1,ai (c.2.1:Int),ai (c.2.2:Int)],ab m] w λe w'=>e=.returned (.tuple #[])/\Below w.heap.size w w':=by
 subst hs;have c0:=(h.later (ag w (Obj.cells #[ab c.1,ai (c.2.1:Int),ai (c.2.2:Int)] 37))).c0
 clear h;go_enter Tryz.func425,Tryz.ntmps425
 go_wp2;exact bodyPost_ret (by simp [results,Tryz.results425,go_sem]) rfl ⟨rfl,ag _ _⟩
theorem sQ (h:Ca w g s n k R e hi mi)(c:Cp)(m:Int)(hc:D3 c)(hs:0<s){r:Nat}(hr:r=fM k s c){i:Nat}(hi_:i=dU (R r) c n) :
  Calls Tryz.prog 425 #[aq g,.agg #[ab c.1,ai (c.2.1:Int),ai (c.2.2:Int)],ab m] w λx w'=>x=.returned (.tuple #[])/\Ca w' g s n k (fE R r ((true,c,m)::(R r).eraseIdx i)) e hi mi/\aj (λk=>k=g) w w':=by
 obtain⟨w1,hw1⟩:∃w1,w1=w.alloc (Obj.cells #[ab c.1,ai (c.2.1:Int),ai (c.2.2:Int)] 37):=⟨_,rfl⟩
 have hB1:Below w.heap.size w w1:=by rw [hw1];exact ag _ _
 have HH:=ae (h.later hB1)
 have c0:=HH.out.c0
 rw [hw1] at c0;have hz0:((s:Int)==0)=false:=by simp;omega
 have hr16:(r:Int)<16:=by have:=h.ls;have:=uI (k:=k) c hs;omega
 have hrn:r<16:=by omega
 have hi4:i<4:=by rw [hi_];exact uE (h.len r) h.n1 h.n4
 have O5:Hid (∀U:World,Below w1.heap.size w1 U->Calls Tryz.prog 437 #[aq g,.agg #[ab c.1,ai (c.2.1:Int),ai (c.2.2:Int)]] U λe w'=>e=.returned (ab (r:Int))/\Below U.heap.size U w'):=λU hU=>by
  rw [hr];exact uQ (HH.out.later hU) c hc hs
 obtain⟨A,hA⟩:∃A,A=ed (R r):=⟨_,rfl⟩
 have PE:Hid (A.length=20):=by rw [hA,aO,h.len];rfl
 have Sd:Hid (∀v∈A,v.oneCell'=true):=by rw [hA];exact gQ _
 have O4:Hid (∀U:World,Below w1.heap.size w1 U->(Instr.loadAt 320 (.pointer (some ⟨g,3+r*20,none⟩))).run Tryz.prog U=.ok (.agg A.toArray) U):=λU hU=>jl (by rw [hA];exact (HH.out.later hU).at_ r hrn) PE.out
 have QO:Hid (∀U:World,Calls Tryz.prog 439 #[.agg A.toArray,.agg #[ab c.1,ai (c.2.1:Int),ai (c.2.2:Int)],ab (n:Int)] U λe w'=>e=.returned (ab (i:Int))/\Below U.heap.size U w'):=λU=>by
  rw [hi_,hA];exact qE (R r) c n U (h.len r) h.n1 h.n4
 obtain⟨N,hN⟩:∃N,N=ed ((true,c,m)::(R r).eraseIdx i):=⟨_,rfl⟩
 have hQ:((true,c,m)::(R r).eraseIdx i).length=4:=by rw [List.length_cons,List.length_eraseIdx,h.len,if_pos hi4]
 have Xj:Hid (N.length=20):=by rw [hN,aO,hQ];rfl
 have WK:Hid (N.toArray.size=20):=by rw [List.size_toArray];exact Xj.out
 have Ts:Hid (∀v∈N,v.oneCell'=true):=by rw [hN];exact gQ _
 have UI:Hid (∀U:World,Calls Tryz.prog 438 #[.agg A.toArray,.agg #[.bool true,ab c.1,ai (c.2.1:Int),ai (c.2.2:Int),ab m],ab (i:Int)] U λe w'=>e=.returned (.agg N.toArray)/\Below U.heap.size U w'):=λU=>by
  rw [hN,hA];exact xS (R r) (true,c,m) i U (h.len r) hi4
 have QE:Hid (∀U:World,Below w1.heap.size w1 U->Ca (U.setCells g (3+r*20) N) g s n k (fE R r ((true,c,m)::(R r).eraseIdx i)) e hi mi/\U.there g (3+r*20) 20):=λU hU=>by
  have hU2:=HH.out.later hU
  refine⟨by rw [hN];exact hU2.laid hrn hQ,λj hj=>?_⟩
  have:=hU2.th (r*20+j) (by omega)
  rw [<-Nat.add_assoc] at this;exact this
 have hz:=λW=>bg oJ W
 obtain⟨Z,hZ⟩:∃Z,Z=(ed (List.replicate 4 fr)).toArray:=⟨_,rfl⟩
 rw [<-hZ] at hz;have QL:Hid (Z.size=20):=by rw [hZ,List.size_toArray,aO];rfl
 have HG:Hid (g<w.heap.size):=h.lt
 have Q4:Hid (∀U:World,Below w1.heap.size w1 U->U.cell? ⟨w.heap.size,0,none⟩=some (ab c.1)/\U.cell? ⟨w.heap.size,1,none⟩=some (ai (c.2.1:Int))/\U.cell? ⟨w.heap.size,2,none⟩=some (ai (c.2.2:Int))/\U.cell? ⟨g,1,none⟩=some (ab (n:Int))):=λU hU =>
  ⟨cell_later hU (by rw [hw1];simp [go_sem]),cell_later hU (by rw [hw1];simp [go_sem]),cell_later hU (by rw [hw1];simp [go_sem]),(HH.out.later hU).c1⟩
 clear hA hZ hi_ hr h hN hQ hi4;go_enter Tryz.func425,Tryz.ntmps425
 go_upto_region 2 with fail
 rw [<-hw1];have OI:=ae hB1
 clear hw1 hB1 c0 hz0;obtain⟨c1,c2,c3,_⟩:=Q4.out w1 (Below.refl _ _)
 go_upto_region 3 with (first|(go_at_call 437;refine (O5.out _ (Below.refl _ _)).mono ?_;rintro e w2 ⟨rfl,hb2⟩;have OH:=ae hb2;clear hb2))
 clear c1 c2 c3;have Pv:=ae (O4.out w2 OH.out)
 have hAl:=PE.out
 have Rw:=ae (bu w2 Z 320 20 QL.out)
 have PL:=DG (L:=A) (n:=20) Rw.out PE.out Sd.out
 have OJ:Hid (Below w1.heap.size w1 ((w2.alloc (Obj.cells Z 320)).setCells w2.heap.size 0 A)):=iV (aa OH.out (ag _ _)) OH.out.size 0 A
 have PW:Hid (((w2.alloc (Obj.cells Z 320)).setCells w2.heap.size 0 A).rangeAt w2.heap.size 0 A):=World.rangeAt_setCells_same _ _ _ _ (by rw [hAl];exact Rw.out)
 generalize (w2.alloc (Obj.cells Z 320)).setCells w2.heap.size 0 A=w3 at PL OJ PW
 clear Rw;go_upto_region 4 with (first|((with_reducible refine aJ Pv.out ?_ ?_);· rfl))
 clear PL Pv hz;have Rm:Hid (∀U:World,aj (λx=>x=g) w3 U->(Instr.loadAt 320 (aq w2.heap.size)).run Tryz.prog U=.ok (.agg A.toArray) U):=λU hU=>jl (nX PW.out hU (by have:=HG.out;have:=OI.out.size;have:=OH.out.size;omega)) PE.out
 have HC:Hid (∀U:World,Below w3.heap.size w3 U->(U.cell? ⟨w.heap.size,0,none⟩=some (ab c.1)/\U.cell? ⟨w.heap.size,1,none⟩=some (ai (c.2.1:Int))/\U.cell? ⟨w.heap.size,2,none⟩=some (ai (c.2.2:Int))/\U.cell? ⟨g,1,none⟩=some (ab (n:Int)))/\aj (λx=>x=g) w3 U):=λU hU=>⟨Q4.out U (aa OJ.out hU),aj.of hU⟩
 have HD:Hid (∀U:World,Below w3.heap.size w3 U->(((U.setCells g (3+r*20) N).cell? ⟨w.heap.size,0,none⟩=some (ab c.1)/\(U.setCells g (3+r*20) N).cell? ⟨w.heap.size,1,none⟩=some (ai (c.2.1:Int))/\(U.setCells g (3+r*20) N).cell? ⟨w.heap.size,2,none⟩=some (ai (c.2.2:Int))/\(U.setCells g (3+r*20) N).cell? ⟨g,1,none⟩=some (ab (n:Int)))/\aj (λx=>x=g) w3 (U.setCells g (3+r*20) N))):=λU hU=>by
  obtain⟨a1,a2,a3,_⟩:=Q4.out U (aa OJ.out hU)
  have hb:aj (λx=>x=g) U (U.setCells g (3+r*20) N):=aj.setCells (S:=λx=>x=g) rfl N _ (aj.refl _ _)
  have hne:¬w.heap.size=g:=by have:=HG.out;omega
  exact⟨⟨an hb a1 hne,an hb a2 hne,an hb a3 hne,(QE.out U (aa OJ.out hU)).1.c1⟩,(aj.of hU).trans hb⟩
 refine wp_region_held_drew (S:=(λU:World=>(U.cell? ⟨w.heap.size,0,none⟩=some (ab c.1)/\U.cell? ⟨w.heap.size,1,none⟩=some (ai (c.2.1:Int))/\U.cell? ⟨w.heap.size,2,none⟩=some (ai (c.2.2:Int))/\U.cell? ⟨g,1,none⟩=some (ab (n:Int)))/\aj (λx=>x=g) w3 U)) (by kernel_rfl) (HC.out _ (Below.refl w3.heap.size w3).drew) (λhHeld=>?_)
 refine nm 18 0 18 ?_
 refine tn 0 18 1 17 ?_
 simp only [zz];refine tn 1 18 3 16 ?_
 simp only [zz];refine tv 2 (v:=.agg A.toArray) ?_ ?_
 ·(intro w hSw;(try dsimp only at hSw);exact fD rfl rfl (Rm.out _ hSw.2))
 simp only [zz];refine nm 18 7 15 ?_
 refine tn 3 18 15 14 ?_
 simp only [zz];refine tn 4 18 31 13 ?_
 simp only [zz];refine tn 5 18 63 12 ?_
 simp only [zz];refine tv 6 (v:=.agg A.toArray) ?_ ?_
 ·(intro w hSw;(try dsimp only at hSw);exact fD rfl rfl (Rm.out _ hSw.2))
 simp only [zz];refine nm 18 127 11 ?_
 refine tn 7 18 255 10 ?_
 simp only [zz];refine tn 8 18 511 9 ?_
 simp only [zz];refine tn 9 18 1023 8 ?_
 simp only [zz];refine tn 10 18 2047 7 ?_
 simp only [zz];refine tn 11 18 4095 6 ?_
 simp only [zz];refine tn 14 18 20479 5 ?_
 simp only [zz];refine tn 15 18 53247 4 ?_
 simp only [zz];refine zr 12 λK hK=>?_
 go_simp
 go_wp2_with (first|(go_at_call 439;refine (QO.out _).mono ?_;rintro e w4 ⟨rfl,hb4⟩;have OM:=ae (aa (Below.refl w3.heap.size w3).drew hb4);clear hb4))
 refine zk hK 18 57343 3 (HC.out _ OM.out) λhHeld=>?_
 clear hK K;try simp only [zz]
 refine zr 13 λK hK=>?_
 go_simp
 go_wp2_with (first|(go_at_call 438;refine (UI.out _).mono ?_;rintro e w5 ⟨rfl,hb5⟩;have OS:=ae (aa OM.out hb5);clear hb5))
 refine zk hK 18 65535 2 (HC.out _ OS.out) λhHeld=>?_
 clear hK K;try simp only [zz]
 refine tn 16 18 131071 1 ?_
 simp only [zz];refine zr 17 λK hK=>?_
 refine wp_store_mid 320 (.tmp 38) (.tmp 35) rfl _ _ N.toArray rfl rfl (by rw [WK.out];exact (QE.out _ (aa OJ.out OS.out)).2) (by rw [jg,WK.out]) (all_oneCell_toArray Ts.out) ?_
 refine zk hK 18 262143 0 (HD.out _ OS.out) λhHeld=>?_
 clear hK K;try simp only [zz]
 refine zn ?_ _
 go_wp2;exact bodyPost_end (by simp [results,Tryz.results425,go_sem]) rfl ⟨rfl,(QE.out _ (aa OJ.out OS.out)).1,(aj.of (S:=λk=>k=g) (aa OI.out OJ.out)).trans hHeld.2⟩
theorem kA (h:Ca w g s n k R e hi mi)(c:Cp)(m:Int)(hc:D3 c) :
  Calls Tryz.prog 425 #[aq g,.agg #[ab c.1,ai (c.2.1:Int),ai (c.2.2:Int)],ab m] w λx w'=>x=.returned (.tuple #[])/\Ca w' g s n k (BR s n k R c m) e hi mi/\aj (λk=>k=g) w w':=by
 unfold BR;by_cases hs:s=0
 ·rw [if_pos hs]
  refine (Aq h c m hs).mono ?_
  rintro x w' ⟨rfl,hb⟩
  exact⟨rfl,h.later hb,aj.of hb⟩
 ·rw [if_neg hs]
  exact sQ h c m hc (by omega) rfl rfl
end Go.Proofs.YtmhinfbkmjdgfaaGreatDoor.K
