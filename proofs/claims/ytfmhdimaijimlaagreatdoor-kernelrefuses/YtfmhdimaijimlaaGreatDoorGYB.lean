import Derived.Test.YtfmhdimaijimlaaGreatDoorG36
import Derived.Test.YtfmhdimaijimlaaGreatDoorGYA
set_option linter.unusedVariables false
set_option linter.unusedSimpArgs false
set_option maxRecDepth 1000000
set_option maxHeartbeats 8000000
namespace Go.Proofs.YtfmhdimaijimlaaGreatDoor.V
open Go.RowKit
open Go.Proofs.YtfmhdimaijimlaaGreatDoor.H (B64 Cp)
open Go.Proofs.YtfmhdimaijimlaaGreatDoor.M (wpAnyH_norm)
section
variable {w w':World}
def RfRel (w:World)(H:Hd)(n:Nat)(v:Value)(U:World):Prop:=∃(i:Nat) (s:Sta) (N:Nat→Prop),v=.int .i64 (i:Int)∧i≤n∧Kn U H s N∧(∀k,N k→w.heap.size≤k)∧Below w.heap.size w U
theorem ldS {b:Nat}{a1:Option Addr}{n1 c1:Nat}{a2:Option Addr}{n2 c2:Nat}{a3:Option Addr}{n3 c3:Nat}{x y z:Int}(h:R.Bx w b (stM a1 n1 c1 a2 n2 c2 a3 n3 c3 x y z)):(Instr.loadAt 53 (.pointer (some ⟨b,0,none⟩))).run Tryz.prog w=.ok (stV a1 n1 c1 a2 n2 c2 a3 n3 c3 x y z) w:=by
 have:=run_loadVar_mid (P:=Tryz.prog) w b 0 53 (stM a1 n1 c1 a2 n2 c2 a3 n3 c3 x y z) _ h.range Tryz.underlying53 rfl (by rw [info53];rfl)
 simp [Instr.loadAt,Instr.sureAddr,this,stM]
theorem ldRp {b:Nat}{r:Rep}{a:Option Addr}{n c:Nat}(h:R.Bx w b (rpL r a n c)):(Instr.loadAt 41 (.pointer (some ⟨b,0,none⟩))).run Tryz.prog w=.ok (rpV r a n c) w:=by
 have:=run_loadVar_mid (P:=Tryz.prog) w b 0 41 (rpL r a n c) _ h.range Tryz.underlying41 rfl (by rw [info6];rfl)
 simp [Instr.loadAt,Instr.sureAddr,this,rpL]
theorem Went.low {N N':Nat→Prop}{b:Nat}(h:Went w N w' N')(hN:∀k,N k→b≤k)(hb:b≤w.heap.size):∀k,N' k→b≤k:=fun k hk=>by
 rcases h.1 k hk with h1|h1
 ·exact hN k h1
 ·omega
theorem Look.tk {p:Ps}{a1 a2 a3:Option Addr}{Q1 Q3:List Ev}(h:Look w p a1 Q1 a2 a3 Q3)(t:Int):Look w { p with t:=t } a1 Q1 a2 a3 Q3:=⟨h.o,h.ok,h.oe,h.t,h.q,h.pk,h.pe⟩
theorem Small.tk {p:Ps}(h:p.Small)(t:Int):Ps.Small { p with t:=t }:=⟨h.o,h.t,h.q,h.oe,h.pe⟩
theorem refuses_law (c:Cf){a0:Option Addr}{n0 cap0:Nat}{f0:Nat→Nat}(hD:D.Ws w a0 n0 cap0 f0){a:Option Addr}{n cap:Nat}{C:List R.Cl}{D' G':Nat→R.Sl}(hC:Cz w a n C D' G')(hn:n≤140737488355328)(hl:D.Laid w)(h0:0<w.heap.size) :
  Calls Tryz.prog 5 #[c.v,.slice a0 n0 cap0,.slice a n cap] w fun e w'=>e=.returned (.bool true)∧Below w.heap.size w w':=by
 obtain⟨W,hW⟩:∃W,W=w.alloc (Obj.cells c.L.toArray 23):=⟨_,rfl⟩
 have HB:Hid (Below w.heap.size w W):=by rw [hW];exact below1 _ _
 have HX:Hid (R.Bx W w.heap.size c.L):=by rw [hW];exact R.Bx.new w _ _
 have HLd:=hid (ldF HX.out)
 have HDs:=hid hD
 have HCz:=hid hC
 have HLa:=hid hl
 have HP:=hid h0
 have HW:=hid hW
 clear hC hl h0 hW hD
 go_enter Tryz.func5,Tryz.ntmps5
 go_upto_region 1 with fail
 have hW:=HW.out
 rw [←hW]
 clear hW HW
 go_upto_region 2 with (first|((with_reducible refine R.ld_arm HLd.out ?_ ?_);(· rfl))|(go_at_call 9;refine (config_any c W).mono ?_;rintro e w1 ⟨c1,rfl,hm,hb⟩;have HM1:=hid hm;have HB1:Hid (Below w.heap.size w w1):=bc HB.out hb;clear hm hb)|(go_at_call 18;refine (words_any (HDs.out.later HB1.out)).mono ?_;rintro e w2 ⟨a1,m1,e1,rfl,hm,hw,-,hb⟩;have HM2:=hid hm;have HWs:=hid hw;have HB2:Hid (Below w.heap.size w w2):=bc HB1.out hb;clear hm hw hb)|(go_at_call 11;refine (new_ok c1 HM1.out a1 m1 e1 f0 w2 HWs.out HM2.out (cell_later HB2.out HLa.out) (by have:=HP.out;have:=HB2.out.size;omega)).mono ?_;rintro e w3 ⟨H,N0,rfl,hk,hp,-,hN,hb⟩;have HK0:=hid hk;have HPm:=hid hp;have HN0:Hid (∀k,N0 k→w.heap.size≤k):=(fun k h=>Nat.le_trans HB2.out.size (hN k h));have HB3:Hid (Below w.heap.size w w3):=bc HB2.out hb;clear hk hp hN hb))
 have HPn:Hid (H.p.n≤4096):=by
  unfold Hid
  rw [HPm.out]
  exact HM2.out
 have HEx:=hid (example_any (cell_later HB3.out HLa.out) (by have:=HP.out;have:=HB3.out.size;omega))
 clear HLd HX HB HB1 HB2 HM1 HWs HPm HDs HM2
 go_upto_region 5 with (first|(go_at_call 12;refine HEx.out.mono ?_;rintro e w4 ⟨rfl,hb⟩;have HB4:=hid hb;clear hb))
 go_loopw [9] (RfRel w H n) (fun v _=>n - S.ivN v)
 case atStart=>exact⟨0,_,_,rfl,Nat.zero_le _,HK0.out.later HB4.out,HN0.out,bc HB3.out HB4.out⟩
 case round =>
  clear HK0 HN0 HB3 HB4 HEx
  obtain⟨i,s,N,rfl,hi,hK,hN,hBr⟩:=hrel
  have HIn:=hid hi
  have HK:=hid hK
  have HN:=hid hN
  have HBr:=hid hBr
  clear hi hK hN hBr
  by_cases hq:i<n∧i<60
  ·obtain⟨hlt,h60⟩:=hq
   have hd:decide ((i:Int)<(n:Int))=true:=decide_eq_true (by omega)
   have hd6:decide ((i:Int)<60)=true:=decide_eq_true (by omega)
   obtain⟨cl,hcl⟩:∃cl,C[i]?=some cl:=⟨_,List.getElem?_eq_getElem (by have:=HCz.out.len;omega)⟩
   obtain⟨b,o,rfl,hrg⟩:=HCz.out.at_ (by omega)
   have hrg:=hrg i cl hcl
   have HIs:=hid (HCz.out.is i cl hcl)
   have HRg:Hid (∀U,Below w.heap.size w U→U.rangeAt b (o+i*13) (R.cC cl (D' i) (G' i))):=fun U hU j v hv=>cell_later hU (hrg j v hv)
   obtain⟨A,hA⟩:∃A,A=doA H.p s cl:=⟨_,rfl⟩
   have HA:=hid hA
   obtain⟨p,hp⟩:∃p,p=psOf H.mo s:=⟨_,rfl⟩
   have HPs:=hid hp
   have HSmall:Hid p.Small:=by rw [hp];exact HK.out.small
   have HSt:Hid (Calls Tryz.prog 17 #[.pointer (some ⟨H.kb,0,none⟩)] wr (StRets wr p)):=by
    obtain⟨d,hdd,ht,hf,_⟩:=HK.out
    rw [hp]
    exact state_any hdd hf
   clear hcl hrg hA hp
   go_upto_region 8 with (first|(go_at_call 17;(with_reducible refine HSt.out.mono ?_);rintro e x1 ⟨a1,e1,Q1,a2,e2,a3,e3,Q3,rfl,hT,hb⟩;have HT:=hid hT;have HXb:=hid hb;clear hT hb))
   obtain⟨y1,hy1⟩:∃y1,y1=x1.alloc (Obj.cells (stM a1 p.O.length e1 a2 p.T.length e2 a3 p.P.length e3 p.nx p.px p.t).toArray 53):=⟨_,rfl⟩
   have HS1:Hid (R.Bx y1 x1.heap.size (stM a1 p.O.length e1 a2 p.T.length e2 a3 p.P.length e3 p.nx p.px p.t)):=by rw [hy1];exact R.Bx.new x1 _ 53
   have HY1:Hid (Below x1.heap.size x1 y1):=by rw [hy1];exact below1 _ _
   simp only [stM] at hy1
   rw [←hy1]
   clear hy1 HSt
   have HSB:Hid (∀U,Below y1.heap.size y1 U→Below w.heap.size w U):=fun U hU=>bc (bc (bc HBr.out HXb.out) HY1.out) hU
   have HBy:Hid (Below w.heap.size w y1):=HSB.out _ (Below.refl _ _)
   have HLd:=hid (ldC_at (HRg.out y1 HBy.out))
   have HCp:=hid (copied_any (HIs.out.1.later HBy.out) HIs.out.2.1 HIs.out.2.2)
   have HKy:=hid ((HK.out.later HXb.out).later HY1.out)
   have HNs:Hid (∀k,N k→k<wr.heap.size):=fun k hk=>(HK.out.rng k hk).2
   go_upto_region 9 with (first|((with_reducible refine R.ld_arm HLd.out ?_ ?_);(· rfl))|(go_at_call 14;refine HCp.out.mono ?_;rintro e u1 ⟨d1,g1,rfl,hm,hb⟩;have HU1:=hid hb;have hdo:=do_any (HKy.out.later hb) hm.is (fun _ j hj e=>by have:=(hm.d j hj).1;have:=HNs.out j e;have:=HXb.out.size;have:=HY1.out.size;omega);rw [←HA.out] at hdo;have HDo:=hid hdo;clear hm hb hdo)|(go_at_call 13;refine HDo.out.mono ?_;rintro e u2 ⟨ra,rn,rc,N',rfl,ho,hk,hw,hq⟩;have HOr:=hid ho;have HKr:=hid hk;have HWr:=hid hw;clear ho hk hw hq))
   obtain⟨u3,hu3⟩:∃u3,u3=u2.alloc (Obj.cells (rpL A.1 ra rn rc).toArray 41):=⟨_,rfl⟩
   have HX3:Hid (R.Bx u3 u2.heap.size (rpL A.1 ra rn rc)):=by rw [hu3];exact R.Bx.new u2 (rpL A.1 ra rn rc) 41
   have HU3:Hid (Below u2.heap.size u2 u3):=by rw [hu3];exact below1 _ _
   simp only [rpL] at hu3
   rw [←hu3]
   have HBu3:Hid (Below w.heap.size w u3):=bc (But.below (HSB.out u1 HU1.out) HWr.out.2 HN.out) HU3.out
   have HZ:Hid (wr.heap.size≤x1.heap.size∧x1.heap.size<y1.heap.size∧y1.heap.size≤u1.heap.size∧u1.heap.size≤u2.heap.size∧u2.heap.size<u3.heap.size):=⟨HXb.out.size,HS1.out.lt (by simp [stM]),HU1.out.size,HWr.out.size,HX3.out.lt (by simp [rpL])⟩
   have HT3:Hid (Tells u3 wr.heap.size p a1 e1 Q1 a2 e2 a3 e3 Q3):=(Tells.but ((HT.out.later HY1.out).later HU1.out) HWr.out.2 (fun j h1 _ h2=>by have:=HNs.out j h2;omega)).later HU3.out
   have HS3:Hid (R.Bx u3 x1.heap.size (stM a1 p.O.length e1 a2 p.T.length e2 a3 p.P.length e3 p.nx p.px p.t)):=R.Bx.later HU3.out (R.Bx.but HWr.out.2 (R.Bx.later HU1.out HS1.out) (fun h2=>by have:=HNs.out _ h2;have:=HZ.out;omega))
   have HS0:Hid (But (fun k=>N k∨x1.heap.size≤k) x1 u3):=(But.of HY1.out).trans ((But.of HU1.out).trans ((But.mono HWr.out.2 (fun k hk=>.inl hk)).trans (But.of HU3.out)))
   have HN4:Hid (∀k,N' k→N k∨u1.heap.size≤k):=HWr.out.1
   have HK3:=hid (HKr.out.later HU3.out)
   have HN3:Hid (∀k,N' k→w.heap.size≤k):=Went.low HWr.out HN.out (by have:=HBr.out.size;have:=HZ.out;omega)
   have hrn:A.1.data.length=rn:=by have:=HOr.out.len;rwa [S.u8s_length] at this
   have HRn:=hid hrn
   obtain⟨cd,hcd⟩:∃cd,cd=A.1.code:=⟨_,rfl⟩
   have HCd:=hid hcd
   have hc0:u3.cell? ⟨u2.heap.size,0,none⟩=some (.int .i64 cd):=by rw [hcd];exact HX3.out.cell 0 rfl
   clear hu3 hrn hcd HLd HCp HDo HS1 HY1 HU1 HOr HKr HWr HU3 HKy HXb HSB HBy
   by_cases hz:cd=0
   ·subst hz
    go_wp2
    exact⟨⟨i+1,A.2,N',rfl,by omega,HK3.out,HN3.out,HBu3.out⟩,by simp [S.ivN];omega⟩
   ·have hzb:(cd==0)=false:=by simpa using hz
    have hrf:Rfd H.p s cl:=refuse HK.out.kf cl (by rw [←HA.out,←HCd.out];exact hz)
    unfold Rfd at hrf
    rw [←HA.out,←HCd.out] at hrf
    obtain⟨hr1,t',hr2,hr3,hr4⟩:=hrf
    have hr0:rn=0:=by have h9:=HRn.out;rw [hr1] at h9;exact h9.symm
    subst hr0
    have HLr:Hid ((Instr.loadAt 41 (.pointer (some ⟨u2.heap.size,0,none⟩))).run Tryz.prog u3=.ok (rpV (rep cd) ra 0 rc) u3):=by rw [←hr1];exact ldRp HX3.out
    have HLR:Hid (∀U,R.Bx U u2.heap.size (rpL A.1 ra 0 rc)→(Instr.loadAt 41 (.pointer (some ⟨u2.heap.size,0,none⟩))).run Tryz.prog U=.ok (rpV (rep cd) ra 0 rc) U):=fun U hU=>by rw [←hr1];exact ldRp hU
    have hps:psOf H.mo A.2={ p with t:=(t':Int) }:=by rw [hr2,HPs.out];rfl
    have ht:p.t=(s.t:Int):=by rw [HPs.out];rfl
    have htn:s.t≤4096:=by have h1:=HK.out.kf.le;have:=HPn.out;omega
    have HSt2:Hid (Calls Tryz.prog 17 #[.pointer (some ⟨H.kb,0,none⟩)] u3 (StRets u3 { p with t:=(t':Int) })):=by
     obtain⟨d,hdd,ht,hf,_⟩:=HK3.out
     rw [←hps]
     exact state_any hdd hf
    rw [ht] at HS3
    obtain⟨tt,htt⟩:∃tt:Nat,tt=s.t:=⟨_,rfl⟩
    rw [←htt] at HS3 hr3 hr4 htn
    have HR3:=hid hr3
    have HR4:=hid hr4
    have HTn:=hid htn
    clear hr1 hr2 hr3 hr4 hps ht htt htn HRn
    go_upto_region 11 with (first|(go_at_call 17;(with_reducible refine HSt2.out.mono ?_);rintro e x4 ⟨b1,f1,R1,b2,f2,b3,f3,R3,rfl,hT,hb⟩;have HT4:=hid hT;have HX4b:=hid hb;clear hT hb))
    obtain⟨y4,hy4⟩:∃y4,y4=x4.alloc (Obj.cells (stM b1 p.O.length f1 b2 p.T.length f2 b3 p.P.length f3 p.nx p.px (t':Int)).toArray 53):=⟨_,rfl⟩
    have HS4:Hid (R.Bx y4 x4.heap.size (stM b1 p.O.length f1 b2 p.T.length f2 b3 p.P.length f3 p.nx p.px (t':Int))):=by rw [hy4];exact R.Bx.new x4 _ 53
    have HY4:Hid (Below u3.heap.size u3 y4):=by rw [hy4];exact bc HX4b.out (below1 _ _)
    have HX4y:Hid (Below x4.heap.size x4 y4):=by rw [hy4];exact below1 _ _
    have HT4y:Hid (Tells y4 u3.heap.size { p with t:=(t':Int) } b1 f1 R1 b2 f2 b3 f3 R3):=by rw [hy4];exact HT4.out.later (below1 _ _)
    simp only [stM] at hy4
    rw [←hy4]
    have HZ4:Hid (u3.heap.size≤x4.heap.size∧x4.heap.size<y4.heap.size):=⟨HX4b.out.size,HS4.out.lt (by simp [stM])⟩
    clear hy4 HSt2 HX4b
    have HXy:Hid (R.Bx y4 u2.heap.size (rpL A.1 ra 0 rc)):=R.Bx.later HY4.out HX3.out
    have HSy:Hid (R.Bx y4 x1.heap.size (stM a1 p.O.length e1 a2 p.T.length e2 a3 p.P.length e3 p.nx p.px (tt:Int))):=R.Bx.later HY4.out HS3.out
    have HLy:Hid (Look y4 p a1 Q1 a2 a3 Q3):=(HT3.out.later HY4.out).look
    have HLn:Hid (Look y4 { p with t:=(t':Int) } b1 R1 b2 b3 R3):=HT4y.out.look
    have HKy4:=hid (HK3.out.later HY4.out)
    have HBy4:Hid (Below w.heap.size w y4):=bc HBu3.out HY4.out
    have hcd0:y4.cell? ⟨u2.heap.size,0,none⟩=some (.int .i64 cd):=by rw [HCd.out];exact HXy.out.cell 0 rfl
    have hop0:y4.cell? ⟨b,o+i*13,none⟩=some (.int .i64 cl.op):=HRg.out y4 HBy4.out 0 _ rfl
    have hst5:y4.cell? ⟨x1.heap.size,5,none⟩=some (.int .i64 (tt:Int)):=HSy.out.cell 5 rfl
    have hfz5:y4.frozen? ⟨x1.heap.size,5,none⟩=false:=(HSy.out.there 5 (by simp [stM])).2
    have hsn5:y4.cell? ⟨x4.heap.size,5,none⟩=some (.int .i64 (t':Int)):=HS4.out.cell 5 rfl
    have HTn2:=HTn.out
    have hcases:(cd=12∧cl.op=3)∨(cd=12∧cl.op≠3)∨(cd=11∧cl.op=3)∨(cd=11∧cl.op≠3)∨(cd≠12∧cd≠11):=by omega
    generalize hgo:cl.op=op at *
    clear hgo HX3 HS3 HT3 HT4y HK3 HBu3 hc0
    rcases hcases with ⟨hc,hq⟩|⟨hc,hq⟩|⟨hc,hq⟩|⟨hc,hq⟩|⟨hc,hq⟩
    ·obtain rfl:(t':Nat)=tt+9:=HR3.out hq hc
     subst hc hq
     go_upto_region 13 with fail
     rw [show (tt:Int)+1+8=((tt+9:Nat):Int) by omega]
     obtain⟨y5,hy5⟩:∃y5,y5=y4.setCell ⟨x1.heap.size,5,none⟩ (.int .i64 ((tt+9:Nat):Int)):=⟨_,rfl⟩
     rw [←hy5]
     have HBo:Hid (But (fun k=>k=x1.heap.size) y4 y5):=by rw [hy5];exact But.own (g:=x1.heap.size) (But.refl _ _) 5 _
     have HSw:Hid (R.Bx y5 x1.heap.size (stM a1 p.O.length e1 a2 p.T.length e2 a3 p.P.length e3 p.nx p.px ((tt+9:Nat):Int))):=by rw [hy5];exact Bx.put HSy.out 5 (by simp [stM]) _
     clear hy5 hst5 hfz5 hsn5 hop0
     have hzz:=HZ.out
     have hz4:=HZ4.out
     have HSn:Hid (R.Bx y5 x4.heap.size (stM b1 p.O.length f1 b2 p.T.length f2 b3 p.P.length f3 p.nx p.px ((tt+9:Nat):Int))):=R.Bx.but HBo.out HS4.out (fun e=>by omega)
     have HXw:Hid (R.Bx y5 u2.heap.size (rpL A.1 ra 0 rc)):=R.Bx.but HBo.out HXy.out (fun e=>by omega)
     have HLw:Hid (Look y5 p a1 Q1 a2 a3 Q3):=(Tells.but HT.out (HS0.out.trans ((But.of HY4.out).trans (But.mono HBo.out (fun k hk=>.inr (by omega))))) (fun j h1 h2 h3=>by rcases h3 with h3|h3;(have:=HNs.out j h3;omega);omega)).look
     have HLn:Hid (Look y5 { p with t:=((tt+9:Nat):Int) } b1 R1 b2 b3 R3):=(Tells.but HT4.out ((But.of HX4y.out).trans HBo.out) (fun j h1 h2 h3=>by omega)).look
     have HKw:Hid (Kn y5 H A.2 N'):=HKy4.out.but HBo.out (fun k hk e=>by rcases HN4.out k hk with h|h;(have:=HNs.out k h;omega);omega) (fun e=>by have:=HBr.out.size;have:=HP.out;omega)
     have HBw:Hid (Below w.heap.size w y5):=But.below HBy4.out HBo.out (fun k e=>by have:=HBr.out.size;omega)
     clear hzz hz4 hcd0
     have hcd0:=HXw.out.cell 0 rfl
     rw [←HCd.out] at hcd0
     go_upto_region 15 with fail
     obtain⟨ce,hce⟩:∃ce:Int,ce=A.1.code:=⟨_,rfl⟩
     have HLR:Hid (∀U,R.Bx U u2.heap.size (rpL A.1 ra 0 rc)→(Instr.loadAt 41 (.pointer (some ⟨u2.heap.size,0,none⟩))).run Tryz.prog U=.ok (rpV (rep ce) ra 0 rc) U):=fun U hU=>by rw [hce,HCd.out.symm];exact HLR.out U hU
     have hcz:y5.cell? ⟨u2.heap.size,0,none⟩=some (.int .i64 ce):=by rw [hce];exact HXw.out.cell 0 rfl
     clear hce hcd0
     have HLs1:=hid (ldS HSw.out)
     have HLs2:=hid (ldS HSn.out)
     have HLr9:=hid (HLR.out _ HXw.out)
     have HSr:=hid (sameReply_eq (w:=y5) (rep ce) (a:=ra) (b:=none) (n:=0) (ca:=rc) (cb:=0) (fun h=>by simp [rep,S.u8s] at h) (fun h=>by simp [rep,S.u8s] at h) rfl (by omega))
     have HSs:=hid (fun (U:World) (hU:Below y5.heap.size y5 U)=>sameState_eq (w:=U) { p with t:=((tt+9:Nat):Int) } (c1:=e1) (c2:=e2) (c3:=e3) (d1:=f1) (d2:=f2) (d3:=f3) ((HLw.out.tk ((tt+9:Nat):Int)).later hU) (HLn.out.later hU) (Small.tk HSmall.out ((tt+9:Nat):Int)))
     go_wp2_with (first|((with_reducible refine R.ld_arm HLr9.out ?_ ?_);(· rfl))|(go_at_call 15;refine HSr.out.mono ?_;rintro e z1 ⟨rfl,hb⟩;have HZ1:=hid hb;have HLs1:=hid (ldS (R.Bx.later hb HSw.out));have HLs2:=hid (ldS (R.Bx.later hb HSn.out));clear hb)|((with_reducible refine R.ld_armg HLs1.out ?_ ?_ ?_);(· rfl);(· rfl))|((with_reducible refine R.ld_armg HLs2.out ?_ ?_ ?_);(· rfl);(· rfl))|(go_at_call 16;refine (HSs.out z1 HZ1.out).mono ?_;rintro e z2 ⟨rfl,hb⟩;have HZ2:=hid hb;clear hb))
     have hbz:Below w.heap.size w z2:=bc HBw.out (bc HZ1.out HZ2.out)
     exact⟨⟨i+1,A.2,N',rfl,by omega,(HKw.out.later HZ1.out).later HZ2.out,HN3.out,hbz⟩,by simp [S.ivN];omega⟩
    ·have hte:t'=tt:=HR4.out (by rintro ⟨h,_⟩;exact hq h)
     subst hte
     subst hc
     have hob:(op==3)=false:=by simpa using hq
     have hob2:decide (op=3)=false:=by simpa using hq
     clear hst5 hfz5 hsn5
     have _ht:=True.intro
     have HSw:=HSy
     have HSn:=HS4
     have HXw:=HXy
     have HLw:=HLy
     have HKw:=HKy4
     have HBw:=HBy4
     go_upto_region 15 with fail
     obtain⟨ce,hce⟩:∃ce:Int,ce=A.1.code:=⟨_,rfl⟩
     have HLR:Hid (∀U,R.Bx U u2.heap.size (rpL A.1 ra 0 rc)→(Instr.loadAt 41 (.pointer (some ⟨u2.heap.size,0,none⟩))).run Tryz.prog U=.ok (rpV (rep ce) ra 0 rc) U):=fun U hU=>by rw [hce,HCd.out.symm];exact HLR.out U hU
     have hcz:y4.cell? ⟨u2.heap.size,0,none⟩=some (.int .i64 ce):=by rw [hce];exact HXw.out.cell 0 rfl
     clear hce hcd0
     have HLs1:=hid (ldS HSw.out)
     have HLs2:=hid (ldS HSn.out)
     have HLr9:=hid (HLR.out _ HXw.out)
     have HSr:=hid (sameReply_eq (w:=y4) (rep ce) (a:=ra) (b:=none) (n:=0) (ca:=rc) (cb:=0) (fun h=>by simp [rep,S.u8s] at h) (fun h=>by simp [rep,S.u8s] at h) rfl (by omega))
     have HSs:=hid (fun (U:World) (hU:Below y4.heap.size y4 U)=>sameState_eq (w:=U) { p with t:=(t':Int) } (c1:=e1) (c2:=e2) (c3:=e3) (d1:=f1) (d2:=f2) (d3:=f3) ((HLw.out.tk t').later hU) (HLn.out.later hU) (Small.tk HSmall.out t'))
     go_wp2_with (first|((with_reducible refine R.ld_arm HLr9.out ?_ ?_);(· rfl))|(go_at_call 15;refine HSr.out.mono ?_;rintro e z1 ⟨rfl,hb⟩;have HZ1:=hid hb;have HLs1:=hid (ldS (R.Bx.later hb HSw.out));have HLs2:=hid (ldS (R.Bx.later hb HSn.out));clear hb)|((with_reducible refine R.ld_armg HLs1.out ?_ ?_ ?_);(· rfl);(· rfl))|((with_reducible refine R.ld_armg HLs2.out ?_ ?_ ?_);(· rfl);(· rfl))|(go_at_call 16;refine (HSs.out z1 HZ1.out).mono ?_;rintro e z2 ⟨rfl,hb⟩;have HZ2:=hid hb;clear hb))
     have hbz:Below w.heap.size w z2:=bc HBw.out (bc HZ1.out HZ2.out)
     exact⟨⟨i+1,A.2,N',rfl,by omega,(HKw.out.later HZ1.out).later HZ2.out,HN3.out,hbz⟩,by simp [S.ivN];omega⟩
    ·subst hc hq
     go_upto_region 15 with fail
     obtain⟨y5,hy5⟩:∃y5,y5=y4.setCell ⟨x1.heap.size,5,none⟩ (.int .i64 ((t':Nat):Int)):=⟨_,rfl⟩
     rw [←hy5]
     have HBo:Hid (But (fun k=>k=x1.heap.size) y4 y5):=by rw [hy5];exact But.own (g:=x1.heap.size) (But.refl _ _) 5 _
     have HSw:Hid (R.Bx y5 x1.heap.size (stM a1 p.O.length e1 a2 p.T.length e2 a3 p.P.length e3 p.nx p.px ((t':Nat):Int))):=by rw [hy5];exact Bx.put HSy.out 5 (by simp [stM]) _
     clear hy5 hst5 hfz5 hsn5 hop0
     have hzz:=HZ.out
     have hz4:=HZ4.out
     have HSn:Hid (R.Bx y5 x4.heap.size (stM b1 p.O.length f1 b2 p.T.length f2 b3 p.P.length f3 p.nx p.px ((t':Nat):Int))):=R.Bx.but HBo.out HS4.out (fun e=>by omega)
     have HXw:Hid (R.Bx y5 u2.heap.size (rpL A.1 ra 0 rc)):=R.Bx.but HBo.out HXy.out (fun e=>by omega)
     have HLw:Hid (Look y5 p a1 Q1 a2 a3 Q3):=(Tells.but HT.out (HS0.out.trans ((But.of HY4.out).trans (But.mono HBo.out (fun k hk=>.inr (by omega))))) (fun j h1 h2 h3=>by rcases h3 with h3|h3;(have:=HNs.out j h3;omega);omega)).look
     have HLn:Hid (Look y5 { p with t:=((t':Nat):Int) } b1 R1 b2 b3 R3):=(Tells.but HT4.out ((But.of HX4y.out).trans HBo.out) (fun j h1 h2 h3=>by omega)).look
     have HKw:Hid (Kn y5 H A.2 N'):=HKy4.out.but HBo.out (fun k hk e=>by rcases HN4.out k hk with h|h;(have:=HNs.out k h;omega);omega) (fun e=>by have:=HBr.out.size;have:=HP.out;omega)
     have HBw:Hid (Below w.heap.size w y5):=But.below HBy4.out HBo.out (fun k e=>by have:=HBr.out.size;omega)
     clear hzz hz4 hcd0
     have hcd0:=HXw.out.cell 0 rfl
     rw [←HCd.out] at hcd0
     obtain⟨ce,hce⟩:∃ce:Int,ce=A.1.code:=⟨_,rfl⟩
     have HLR:Hid (∀U,R.Bx U u2.heap.size (rpL A.1 ra 0 rc)→(Instr.loadAt 41 (.pointer (some ⟨u2.heap.size,0,none⟩))).run Tryz.prog U=.ok (rpV (rep ce) ra 0 rc) U):=fun U hU=>by rw [hce,HCd.out.symm];exact HLR.out U hU
     have hcz:y5.cell? ⟨u2.heap.size,0,none⟩=some (.int .i64 ce):=by rw [hce];exact HXw.out.cell 0 rfl
     clear hce hcd0
     have HLs1:=hid (ldS HSw.out)
     have HLs2:=hid (ldS HSn.out)
     have HLr9:=hid (HLR.out _ HXw.out)
     have HSr:=hid (sameReply_eq (w:=y5) (rep ce) (a:=ra) (b:=none) (n:=0) (ca:=rc) (cb:=0) (fun h=>by simp [rep,S.u8s] at h) (fun h=>by simp [rep,S.u8s] at h) rfl (by omega))
     have HSs:=hid (fun (U:World) (hU:Below y5.heap.size y5 U)=>sameState_eq (w:=U) { p with t:=(t':Int) } (c1:=e1) (c2:=e2) (c3:=e3) (d1:=f1) (d2:=f2) (d3:=f3) ((HLw.out.tk t').later hU) (HLn.out.later hU) (Small.tk HSmall.out t'))
     go_wp2_with (first|((with_reducible refine R.ld_arm HLr9.out ?_ ?_);(· rfl))|(go_at_call 15;refine HSr.out.mono ?_;rintro e z1 ⟨rfl,hb⟩;have HZ1:=hid hb;have HLs1:=hid (ldS (R.Bx.later hb HSw.out));have HLs2:=hid (ldS (R.Bx.later hb HSn.out));clear hb)|((with_reducible refine R.ld_armg HLs1.out ?_ ?_ ?_);(· rfl);(· rfl))|((with_reducible refine R.ld_armg HLs2.out ?_ ?_ ?_);(· rfl);(· rfl))|(go_at_call 16;refine (HSs.out z1 HZ1.out).mono ?_;rintro e z2 ⟨rfl,hb⟩;have HZ2:=hid hb;clear hb))
     have hbz:Below w.heap.size w z2:=bc HBw.out (bc HZ1.out HZ2.out)
     exact⟨⟨i+1,A.2,N',rfl,by omega,(HKw.out.later HZ1.out).later HZ2.out,HN3.out,hbz⟩,by simp [S.ivN];omega⟩
    ·have hte:t'=tt:=HR4.out (by rintro ⟨h,_⟩;exact hq h)
     subst hte
     subst hc
     have hob:(op==3)=false:=by simpa using hq
     have hob2:decide (op=3)=false:=by simpa using hq
     clear hst5 hfz5 hsn5
     have _ht:=True.intro
     have HSw:=HSy
     have HSn:=HS4
     have HXw:=HXy
     have HLw:=HLy
     have HKw:=HKy4
     have HBw:=HBy4
     go_upto_region 15 with fail
     obtain⟨ce,hce⟩:∃ce:Int,ce=A.1.code:=⟨_,rfl⟩
     have HLR:Hid (∀U,R.Bx U u2.heap.size (rpL A.1 ra 0 rc)→(Instr.loadAt 41 (.pointer (some ⟨u2.heap.size,0,none⟩))).run Tryz.prog U=.ok (rpV (rep ce) ra 0 rc) U):=fun U hU=>by rw [hce,HCd.out.symm];exact HLR.out U hU
     have hcz:y4.cell? ⟨u2.heap.size,0,none⟩=some (.int .i64 ce):=by rw [hce];exact HXw.out.cell 0 rfl
     clear hce hcd0
     have HLs1:=hid (ldS HSw.out)
     have HLs2:=hid (ldS HSn.out)
     have HLr9:=hid (HLR.out _ HXw.out)
     have HSr:=hid (sameReply_eq (w:=y4) (rep ce) (a:=ra) (b:=none) (n:=0) (ca:=rc) (cb:=0) (fun h=>by simp [rep,S.u8s] at h) (fun h=>by simp [rep,S.u8s] at h) rfl (by omega))
     have HSs:=hid (fun (U:World) (hU:Below y4.heap.size y4 U)=>sameState_eq (w:=U) { p with t:=(t':Int) } (c1:=e1) (c2:=e2) (c3:=e3) (d1:=f1) (d2:=f2) (d3:=f3) ((HLw.out.tk t').later hU) (HLn.out.later hU) (Small.tk HSmall.out t'))
     go_wp2_with (first|((with_reducible refine R.ld_arm HLr9.out ?_ ?_);(· rfl))|(go_at_call 15;refine HSr.out.mono ?_;rintro e z1 ⟨rfl,hb⟩;have HZ1:=hid hb;have HLs1:=hid (ldS (R.Bx.later hb HSw.out));have HLs2:=hid (ldS (R.Bx.later hb HSn.out));clear hb)|((with_reducible refine R.ld_armg HLs1.out ?_ ?_ ?_);(· rfl);(· rfl))|((with_reducible refine R.ld_armg HLs2.out ?_ ?_ ?_);(· rfl);(· rfl))|(go_at_call 16;refine (HSs.out z1 HZ1.out).mono ?_;rintro e z2 ⟨rfl,hb⟩;have HZ2:=hid hb;clear hb))
     have hbz:Below w.heap.size w z2:=bc HBw.out (bc HZ1.out HZ2.out)
     exact⟨⟨i+1,A.2,N',rfl,by omega,(HKw.out.later HZ1.out).later HZ2.out,HN3.out,hbz⟩,by simp [S.ivN];omega⟩
    ·have hte:t'=tt:=HR4.out (by rintro ⟨_,h|h⟩;exact hc h;exact hq h)
     subst hte
     have hb12:(cd==12)=false:=by simpa using hc
     have hb11:(cd==11)=false:=by simpa using hq
     clear hq hc hst5 hfz5 hsn5
     have _ht:=True.intro
     have HSw:=HSy
     have HSn:=HS4
     have HXw:=HXy
     have HLw:=HLy
     have HKw:=HKy4
     have HBw:=HBy4
     go_upto_region 15 with fail
     obtain⟨ce,hce⟩:∃ce:Int,ce=A.1.code:=⟨_,rfl⟩
     have HLR:Hid (∀U,R.Bx U u2.heap.size (rpL A.1 ra 0 rc)→(Instr.loadAt 41 (.pointer (some ⟨u2.heap.size,0,none⟩))).run Tryz.prog U=.ok (rpV (rep ce) ra 0 rc) U):=fun U hU=>by rw [hce,HCd.out.symm];exact HLR.out U hU
     have hcz:y4.cell? ⟨u2.heap.size,0,none⟩=some (.int .i64 ce):=by rw [hce];exact HXw.out.cell 0 rfl
     clear hce hcd0
     have HLs1:=hid (ldS HSw.out)
     have HLs2:=hid (ldS HSn.out)
     have HLr9:=hid (HLR.out _ HXw.out)
     have HSr:=hid (sameReply_eq (w:=y4) (rep ce) (a:=ra) (b:=none) (n:=0) (ca:=rc) (cb:=0) (fun h=>by simp [rep,S.u8s] at h) (fun h=>by simp [rep,S.u8s] at h) rfl (by omega))
     have HSs:=hid (fun (U:World) (hU:Below y4.heap.size y4 U)=>sameState_eq (w:=U) { p with t:=(t':Int) } (c1:=e1) (c2:=e2) (c3:=e3) (d1:=f1) (d2:=f2) (d3:=f3) ((HLw.out.tk t').later hU) (HLn.out.later hU) (Small.tk HSmall.out t'))
     go_wp2_with (first|((with_reducible refine R.ld_arm HLr9.out ?_ ?_);(· rfl))|(go_at_call 15;refine HSr.out.mono ?_;rintro e z1 ⟨rfl,hb⟩;have HZ1:=hid hb;have HLs1:=hid (ldS (R.Bx.later hb HSw.out));have HLs2:=hid (ldS (R.Bx.later hb HSn.out));clear hb)|((with_reducible refine R.ld_armg HLs1.out ?_ ?_ ?_);(· rfl);(· rfl))|((with_reducible refine R.ld_armg HLs2.out ?_ ?_ ?_);(· rfl);(· rfl))|(go_at_call 16;refine (HSs.out z1 HZ1.out).mono ?_;rintro e z2 ⟨rfl,hb⟩;have HZ2:=hid hb;clear hb))
     have hbz:Below w.heap.size w z2:=bc HBw.out (bc HZ1.out HZ2.out)
     exact⟨⟨i+1,A.2,N',rfl,by omega,(HKw.out.later HZ1.out).later HZ2.out,HN3.out,hbz⟩,by simp [S.ivN];omega⟩
  ·clear HCz HK HN HLa
   have hor:(decide ((i:Int)<(n:Int))=false)∨(decide ((i:Int)<(n:Int))=true∧decide ((i:Int)<60)=false∧¬(i<60)):=by
    by_cases h1:i<n
    ·exact .inr ⟨decide_eq_true (by omega),decide_eq_false (by omega),by omega⟩
    ·exact .inl (decide_eq_false (by omega))
   rcases hor with h1|⟨h1,h2,h3⟩
   ·have h9:¬i<n:=by have:=of_decide_eq_false h1;omega
    clear hq
    go_wp2
    go_ret
    exact⟨rb_ rfl,HBr.out⟩
   ·have h8:i<n:=by have:=of_decide_eq_true h1;omega
    clear hq
    go_wp2
    go_ret
    exact⟨rb_ rfl,HBr.out⟩
end
end Go.Proofs.YtfmhdimaijimlaaGreatDoor.V
