import Derived.Test.YtffmodpgddecnaaGreatDoorZ39
set_option linter.unusedVariables false
set_option linter.unusedSimpArgs false
set_option maxRecDepth 100000
set_option maxHeartbeats 16000000
namespace Go.Proofs.YtffmodpgddecnaaGreatDoor.V
open Go.RowKit
open Go.Proofs.YtffmodpgddecnaaGreatDoor.H (aq Cp)
open Go.Proofs.YtffmodpgddecnaaGreatDoor.M (ba bR)
section
variable {w w':World}
theorem DQ (c:Cf){a0:Option Addr}{n0 cap0:Nat}{f0:Nat->Nat}(hD:D.Ws w a0 n0 cap0 f0){a:Option Addr}{n cap:Nat}{C:List R.Cl}{D' G':Nat->R.Sl}(hC:Cz w a n C D' G')(hn:n<=140737488355328)(hl:D.Laid w)(h0:0<w.heap.size) :
  Calls Tryz.prog 7 #[c.v,.slice a0 n0 cap0,.slice a n cap] w λe w'=>e=.returned (.bool true)/\Below w.heap.size w w':=by
 obtain⟨W,hW⟩:∃W,W=w.alloc (Obj.cells c.L.toArray 23):=⟨_,rfl⟩
 have HB:Hid (Below w.heap.size w W):=by rw [hW];exact ae _ _
 have HX:Hid (R.Bx W w.heap.size c.L):=by rw [hW];exact R.Bx.new w _ _
 have SZ:=ab hD
 have T8:=ab hC
 have Vy:=ab hl
 have HP:=ab h0
 have HW:=ab hW
 have VA:=ab (pQ (cell_later HB.out hl) (by have:=HB.out.size;omega))
 clear hC hl h0 hW hD;go_enter Tryz.func7,Tryz.ntmps7
 go_upto_region 1 with fail
 have hW:=HW.out
 rw [<-hW];clear hW HW;go_upto_region 3 with (first|(go_at_call 32;refine VA.out.mono ?_;rintro e w1 ⟨rfl,hb⟩;have PC:=ab (aa HB.out hb);have Qe:=ab (R.Bx.later hb HX.out);clear hb))
 have P5:=ab (Ia Qe.out)
 clear HB HX VA;go_upto_region 4 with (first|((with_reducible refine R.aV P5.out ?_ ?_);(· rfl))|(go_at_call 9;refine (uu c w1).mono ?_;rintro e w2 ⟨c1,rfl,hm,hb⟩;have UE:=ab hm;have Ry:=ab (R.Bx.later hb Qe.out);have PB:=ab (aa PC.out hb);have PV:=ab (Bx.Jo Ry.out rfl c1);clear hm hb)|((with_reducible refine bm PV.out ?_ ?_ ?_);(· rfl);(· rfl)))
 obtain⟨w3,hw3⟩:∃w3,w3=w2.setCells w.heap.size 0 c1.L:=⟨_,rfl⟩
 have Qp:Hid (R.Bx w3 w.heap.size c1.L):=by rw [hw3];exact R.Bx.set Ry.out rfl
 have PE:Hid (Below w.heap.size w w3):=by rw [hw3];exact ah.below PB.out (R.ay (S:=(·=w.heap.size)) rfl _ 0 (ah.refl _ _)) (λk e=>by omega)
 rw [<-hw3];clear hw3 PV Ry PB P5 Qe PC;go_upto_region 5 with (first|(go_at_call 10;refine (wj (SZ.out.later PE.out)).mono ?_;rintro e w4 ⟨aw,m1,ew,rfl,hm,hw,-,hb⟩;have Qr:=ab hw;have PM:=ab (aa PE.out hb);have QK:=ab (R.Bx.later hb Qp.out);have Wb:=ab hm;clear hm hw hb))
 clear Qp PE SZ;have hm1:=Wb.out
 go_upto_if 26 with fail
 go_cut [1] (λs w'=>(∃m2:Nat,s=.slice aw m2 ew/\m2<=60/\D.Ws w4 aw m2 ew f0)/\w4=w')
 case first =>
  by_cases hm:m1<=60
  ·have hd:decide ((m1:Int)>60)=false:=decide_eq_false (by omega)
   have hd2:decide ((60:Int)<(m1:Int))=false:=decide_eq_false (by omega)
   go_wp2;go_meet
   case rel=>exact⟨⟨m1,rfl,hm,Qr.out⟩,rfl⟩
  ·have hd:decide ((m1:Int)>60)=true:=decide_eq_true (by omega)
   have hd2:decide ((60:Int)<(m1:Int))=true:=decide_eq_true (by omega)
   obtain⟨b,o,rfl,_⟩:=Qr.out.plain (by omega)
   have hcp:=Qr.out.cap_
   go_wp2;go_meet
   case rel=>exact⟨⟨60,rfl,by omega,Qr.out.take (by omega) (by omega)⟩,rfl⟩
 case rest =>
 obtain⟨⟨m2,rfl,hm2,hw2⟩,rfl⟩:=hcut
 have Qd:=ab hw2
 have x0:w4.cell? ⟨w.heap.size,0,none⟩=some (.int .i64 c1.W):=QK.out.cell 0 rfl
 have VP:Hid (1<=c1.W/\c1.W<=128):=(Cf.oD.1 UE.out).1
 obtain⟨ub,hub⟩:∃ub,ub=JI f0 m2 c1.W:=⟨_,rfl⟩
 have TU:=ab (tc Qd.out (by omega) c1.W VP.out)
 rw [<-hub] at TU;have Wa:=ab hub
 clear hw2 hub Qr Wb hm1;cases ub with
 | false =>
  go_wp2_with (first|(go_at_call 33;refine TU.out.mono ?_;rintro e w5 ⟨rfl,hb⟩;have PI:=ab hb;clear hb))
  go_ret;exact⟨au rfl,aa PM.out PI.out⟩
 | true =>
 go_upto_region 9 with (first|(go_at_call 33;refine TU.out.mono ?_;rintro e w5 ⟨rfl,hb⟩;have PI:=ab (aa PM.out hb);have V5:=ab (R.Bx.later hb QK.out);have TO:=ab (Qd.out.later hb);clear hb))
 clear x0 TU QK PM Qd;obtain⟨ap,cp,p1,hrun,hwp,-,hbp⟩:=jK (w:=w5.drew) (show D.Ws w5.drew aw m2 ew f0 from TO.out.later (Below.refl _ _).drew) (by omega)
 have PD:=ab hrun
 have TA:Hid (∀U,Below w5.heap.size w5 U->R.Bx U w.heap.size c1.L):=λU hU=>R.Bx.later hU V5.out
 have SR:Hid (Below w5.heap.size w5 p1):=aa (Below.refl _ _).drew hbp
 have QE:=ab (bU c1 UE.out ap m2 cp f0 p1 hwp (by omega) (cell_later (aa PI.out SR.out) Vy.out) (by have:=HP.out;have:=PI.out.size;have:=SR.out.size;omega))
 clear hrun hwp hbp;refine wp_region_held_drew (S:=(λU:World=>R.Bx U w.heap.size c1.L)) (by kernel_rfl) (TA.out _ (Below.refl _ _).drew) (λhHeld=>?_)
 refine nm 10 0 10 ?_
 refine tv 0 (v:=c1.v) ?_ ?_
 ·(intro w hSw;(try dsimp only at hSw);exact Fz rfl rfl (Ia hSw))
 simp only [zz];refine nm 10 1 9 ?_
 refine tn 2 10 5 8 ?_
 simp only [zz];refine zr 1 λK hK=>?_
 go_simp
 refine zk hK 10 7 7 (TA.out _ ((Below.refl _ _).drew.alloc (Nat.le_refl _) _)) λhHeld=>?_
 clear hK K;try simp only [zz]
 refine zr 3 λK hK=>?_
 refine bR (.tmp 36) (.tmp 37) 24 rfl _ _ rfl rfl _ p1 PD.out ?_
 refine zk hK 10 15 6 (TA.out _ SR.out) λhHeld=>?_
 clear hK K;try simp only [zz]
 refine zr 4 λK hK=>?_
 go_simp
 go_wp2_with (first|(go_at_call 11;refine QE.out.mono ?_;rintro e p2 ⟨H,N0,rfl,hk,hp,-,hN,hb⟩;have SI:=ab hk;have SS:=ab hp;have Vx:Hid (∀k,N0 k->w.heap.size<=k):=(λk h=>by have h1:=hN k h;have h2:=PI.out.size;have h3:=SR.out.size;omega);have Ux:=ab (aa SR.out hb);clear hk hp hN hb))
 refine zk hK 10 31 5 (TA.out _ Ux.out) λhHeld=>?_
 clear hK K;try simp only [zz]
 refine tn 5 10 63 4 ?_
 simp only [zz];refine tn 6 10 127 3 ?_
 simp only [zz];refine tn 7 10 255 2 ?_
 simp only [zz];refine tn 8 10 511 1 ?_
 simp only [zz];refine tn 9 10 1023 0 ?_
 simp only [zz];refine zn ?_ _
 have V7:Hid (JM H.p):=by
  unfold Hid JM;rw [SS.out];intro i j hi hj;exact (of_decide_eq_true Wa.out.symm) i hi j hj
 have TN:Hid (Below w.heap.size w p2):=aa PI.out Ux.out
 have P4:Hid (B_ H.p (sa c1.m.toNat [0]) []):=J2 _ _
 clear TA SR PD QE V5 TO Wa VP UE Ux PI SS;go_upto_region 14 with fail
 go_loopw [9,10] (KO w H n) (λ_ v _=>n - S.fe v)
 case atStart=>exact⟨0,_,_,none,0,[],rfl,rfl,Nat.zero_le _,ab (Nat.zero_le _),SI,Vx,TN,ab (Ow.nil _ _ _ _),ab (λk h=>by obtain⟨_,h,_⟩:=h;cases h),P4⟩
 case round =>
  clear SI Vx TN P4;obtain⟨v0,rfl⟩:∃v0,v0=wr:=⟨_,rfl⟩
  obtain⟨i,s,N,ga,gc,G,rfl,rfl,hi,UJ,HK,HN,PY,R_,HGn,QN⟩:=hrel
  by_cases hq:i<n/\i<100
  ·obtain⟨hlt,h100⟩:=hq
   have hd:decide ((i:Int)<(n:Int))=true:=decide_eq_true (by omega)
   have hd6:decide ((i:Int)<100)=true:=decide_eq_true (by omega)
   obtain⟨cl,hcl⟩:∃cl,C[i]?=some cl:=⟨_,List.getElem?_eq_getElem (by have:=T8.out.len;omega)⟩
   obtain⟨b,o,rfl,hrg⟩:=T8.out.at_ (by omega)
   have hrg:=hrg i cl hcl
   have S9:=ab (T8.out.is i cl hcl)
   have P5:=ab (BU (λj v hv=>cell_later PY.out (hrg j v hv)))
   obtain⟨dd,hdd⟩:∃dd,dd=D' i:=⟨_,rfl⟩
   obtain⟨gg,hgg⟩:∃gg,gg=G' i:=⟨_,rfl⟩
   rw [<-hdd,<-hgg] at P5 S9;obtain⟨A,hA⟩:∃A,A=eZ H.p s cl:=⟨_,rfl⟩
   have HA:=ab hA
   obtain⟨p,hp⟩:∃p,p=eh H.mo s:=⟨_,rfl⟩
   have Qa:=ab hp
   have PG:Hid p.Small:=by rw [hp];exact HK.out.small
   have SY:Hid (∀k,N k->k<v0.heap.size):=λk hk=>(HK.out.pd k hk).2
   have Rw:Hid (∀k,aJ ga k->k<v0.heap.size):=λk hk=>(R_.out.bT k hk).2
   have S_:=ab (Bx.IF (R.Bx.new v0 Gl 44) rfl cl dd gg)
   clear hcl hrg hA hp hdd hgg;go_upto_region 17 with (first|((with_reducible refine R.aV P5.out ?_ ?_);(· rfl))|((with_reducible refine bm S_.out ?_ ?_ ?_);(· rfl);(· rfl)))
   obtain⟨y1,hy1⟩:∃y1,y1=(v0.alloc (Obj.cells Gl.toArray 44)).setCells v0.heap.size 0 (R.cC cl dd gg):=⟨_,rfl⟩
   have Qb:Hid (R.Bx y1 v0.heap.size (R.cC cl dd gg)):=by rw [hy1];exact R.Bx.set (R.Bx.new v0 Gl 44) rfl
   have Uv:Hid (Below v0.heap.size v0 y1):=by rw [hy1];exact ah.below (ae _ _) (R.ay (S:=(·=v0.heap.size)) rfl _ 0 (ah.refl _ _)) (λk e=>by omega)
   rw [<-hy1];have Q5:Hid (Calls Tryz.prog 17 #[.pointer (some ⟨H.kb,0,none⟩)] y1 (uf y1 p)):=by
    obtain⟨d,hdd,ht,hf,_⟩:=HK.out.later Uv.out
    rw [Qa.out];exact nf hdd hf
   clear hy1 P5 S_;go_upto_region 18 with (first|(go_at_call 17;(with_reducible refine Q5.out.mono ?_);rintro e x1 ⟨a1,e1,Q1,a2,e2,a3,e3,Q3,rfl,hT,hb⟩;have HT:=ab hT;have Ta:=ab hb;clear hT hb))
   obtain⟨y2,hy2⟩:∃y2,y2=x1.alloc (Obj.cells (stM a1 p.O.length e1 a2 p.T.length e2 a3 p.P.length e3 p.nx p.px p.t).toArray 52):=⟨_,rfl⟩
   have P_:Hid (R.Bx y2 x1.heap.size (stM a1 p.O.length e1 a2 p.T.length e2 a3 p.P.length e3 p.nx p.px p.t)):=by rw [hy2];exact R.Bx.new x1 _ 52
   have SG:Hid (Below x1.heap.size x1 y2):=by rw [hy2];exact ae _ _
   simp only [stM] at hy2;rw [<-hy2];have Rh:Hid (Below v0.heap.size v0 y2):=aa (aa Uv.out Ta.out) SG.out
   have V4:=ab (BU (R.Bx.later (aa Ta.out SG.out) Qb.out).range)
   have VT:=ab (tA (S9.out.1.later (aa PY.out Rh.out)) S9.out.2.1 S9.out.2.2)
   have Vz:=ab (HK.out.later Rh.out)
   clear hy2 Q5;go_upto_region 19 with (first|((with_reducible refine R.aV V4.out ?_ ?_);(· rfl))|(go_at_call 14;refine VT.out.mono ?_;rintro e u1 ⟨d1,g1,rfl,hm,hb⟩;have Qh:=ab hb;have hdo:=zB (Vz.out.later hb) hm.is (λ_ j hj e=>by have:=(hm.d j hj).1;have:=SY.out j e;have:=Rh.out.size;omega);rw [<-HA.out] at hdo;have P2:=ab hdo;clear hm hb hdo)|(go_at_call 13;refine P2.out.mono ?_;rintro e u2 ⟨ra,rn,rc,N',rfl,ho,hk,hw,hq⟩;have V6:=ab hk;have R8:=ab hw;clear ho hk hw hq))
   obtain⟨u3,hu3⟩:∃u3,u3=u2.alloc (Obj.cells (fM A.1 ra rn rc).toArray 40):=⟨_,rfl⟩
   have Qp:Hid (R.Bx u3 u2.heap.size (fM A.1 ra rn rc)):=by rw [hu3];exact R.Bx.new u2 (fM A.1 ra rn rc) 40
   have QB:Hid (Below u2.heap.size u2 u3):=by rw [hu3];exact ae _ _
   simp only [fM] at hu3;rw [<-hu3];obtain⟨p',hp'⟩:∃p',p'=eh H.mo A.2:=⟨_,rfl⟩
   have RB:=ab hp'
   have Qq:=ab (V6.out.later QB.out)
   have PJ:Hid p'.Small:=by rw [hp'];exact Qq.out.small
   have Q5:Hid (Calls Tryz.prog 17 #[.pointer (some ⟨H.kb,0,none⟩)] u3 (uf u3 p')):=by
    obtain⟨d,hdd,ht,hf,_⟩:=Qq.out
    rw [hp'];exact nf hdd hf
   clear hu3 hp' V4 VT P2 V6 Vz;go_cut [14] (λv U=>∃(x4:World) (b1:Option Addr) (f1:Nat) (R1:List Ev) (b2:Option Addr) (f2:Nat) (b3:Option Addr) (f3:Nat) (R3:List Ev),v=.pointer (some ⟨x4.heap.size,0,none⟩)/\Hid (dL x4 u3.heap.size p' b1 f1 R1 b2 f2 b3 f3 R3)/\Hid (Below u3.heap.size u3 x4)/\Hid (U=x4.alloc (Obj.cells (stM b1 p'.O.length f1 b2 p'.T.length f2 b3 p'.P.length f3 p'.nx p'.px p'.t).toArray 52)))
   case first =>
    go_wp2_with (first|(go_at_call 17;(with_reducible refine Q5.out.mono ?_);rintro e x4 ⟨b1,f1,R1,b2,f2,b3,f3,R3,rfl,hT,hb⟩;have Qm:=ab hT;have QK:=ab hb;clear hT hb))
    go_meet;exact⟨x4,b1,f1,R1,b2,f2,b3,f3,R3,rfl,Qm,QK,ab (by simp only [stM])⟩
   case rest =>
   rename World=>y4
   obtain⟨x4,b1,f1,R1,b2,f2,b3,f3,R3,rfl,Qm,QK,HYe⟩:=hcut
   have RH:Hid (R.Bx y4 x4.heap.size (stM b1 p'.O.length f1 b2 p'.T.length f2 b3 p'.P.length f3 p'.nx p'.px p'.t)):=by rw [HYe.out];exact R.Bx.new x4 _ 52
   have SM:Hid (Below x4.heap.size x4 y4):=by rw [HYe.out];exact ae _ _
   have RG:Hid (Below u3.heap.size u3 y4):=aa QK.out SM.out
   have Rn:Hid (ah N y2 y4):=(ah.of Qh.out).trans (R8.out.2.trans ((ah.of QB.out).trans (ah.of RG.out)))
   have HZ:Hid (v0.heap.size<y1.heap.size/\y1.heap.size<=x1.heap.size/\x1.heap.size<y2.heap.size/\y2.heap.size<=u1.heap.size/\u1.heap.size<=u2.heap.size/\u2.heap.size<u3.heap.size/\u3.heap.size<=x4.heap.size/\x4.heap.size<y4.heap.size):=⟨Qb.out.lt (by simp [R.cC]),Ta.out.size,P_.out.lt (by simp [stM]),Qh.out.size,R8.out.size,Qp.out.lt (by simp [fM]),QK.out.size,RH.out.lt (by simp [stM])⟩
   have PR:Hid (Rb y4 v0.heap.size p p' x1.heap.size v0.heap.size u2.heap.size x4.heap.size cl dd gg A.1 ra rn rc a1 e1 Q1 a2 e2 a3 e3 Q3 b1 f1 R1 b2 f2 b3 f3 R3):=by
    have hn:∀k,v0.heap.size<=k->¬N k:=λk h1 h2=>by have:=SY.out k h2;omega
    have hz:=HZ.out
    exact⟨R.Bx.but Rn.out P_.out (hn _ (by omega)),R.Bx.but Rn.out (R.Bx.later (aa Ta.out SG.out) Qb.out) (hn _ (by omega)),R.Bx.later RG.out Qp.out,RH.out,
     ((HT.out.later SG.out).but Rn.out (λj hj _=>hn j (by omega))).mono (by omega),(Qm.out.later SM.out).mono (by omega),by omega,by omega,by omega,by omega⟩
   have SD:Hid (ah N v0 y4):=(ah.of Rh.out).trans Rn.out
   have Rl:=ab (R_.out.but SD.out HGn.out)
   have TL:Hid (∀k,aJ ga k->¬N' k):=λk hk hn=>by
    have h1:=Rw.out k hk
    have hz:=HZ.out
    rcases R8.out.1 k hn with h2|h2
    ·exact HGn.out k hk h2
    ·omega
   have Ue:=ab (Qq.out.later RG.out)
   have UB:Hid (∀k,N' k->w.heap.size<=k):=aK.low R8.out HN.out (by have:=PY.out.size;have:=HZ.out;omega)
   have PM:Hid (Below w.heap.size w y4):=ah.below PY.out SD.out HN.out
   have R9:Hid (KF H.p s):=(yA HK.out)
   have RJ:Hid (KF H.p A.2):=(yA Qq.out)
   have RK:Hid (fV H.p s A.2 (JC cl A.1.code)):=by rw [HA.out];exact Gi (yA HK.out) cl
   clear Q5 Rn RG SD Qb Uv HT Ta P_ SG Rh Qh R8 Qp QB Qq Qm QK RH SM HK HN PY R_ HGn HZ SY S9 HYe;have SF:Hid (G.length<=104857600):=by have:=UJ.out;unfold Hid;omega
   first|go_upon|go_back|go_step
   refine BC PR.out PG.out PJ.out (λc a d v w h=>by cases d<;>exact h) Rw.out Rl.out PM.out.size SF.out (λt ht hn=>?_) (λt ht=>?_) (λho hg hz=>?_) (λhg hn=>?_) ?_
   ·have haw:=Dx (t:=t) R9.out RJ.out RK.out (by rw [Qa.out] at ht;exact ht) (show jd (eh H.mo A.2).T t.1=false by rw [<-RB.out];exact hn)
    unfold JC at haw;simp only [Bool.and_eq_true,Bool.or_eq_true,decide_eq_true_eq] at haw;rcases haw.1 with h1|h1
    ·exact .inl ⟨h1,haw.2⟩
    ·exact .inr ⟨by rw [h1];rfl,h1,haw.2⟩
   ·have h8:=B_.step V7.out R9.out RJ.out RK.out QN.out
    have h9:=Gb (t:=t) R9.out RJ.out RK.out h8 (by rw [RB.out] at ht;exact ht)
    rw [Qa.out,RB.out];exact h9
   ·have h9:=xd R9.out cl ho hg (by rw [<-HA.out];exact hz)
    rw [Qa.out];exact h9
   ·have h9:=zV R9.out cl (by unfold Av at hg;simp only [Bool.or_eq_true,Bool.and_eq_true,decide_eq_true_eq] at hg;exact hg) (by rw [Qa.out] at hn;exact hn)
    rw [<-HA.out] at h9;exact h9
   rintro gj gcj Gj v1 ⟨h1,h2,h3,h4⟩
   have Rc:=ab h1
   have SA:=ab h2
   have P3:=ab h3
   have Ra:=ab h4
   have Uw:Hid (B_ H.p A.2 Gj):=by
    have h9:=B_.step V7.out R9.out RJ.out RK.out QN.out
    unfold Hid;rw [Rc.out,Qa.out,RB.out];exact h9
   have US:Hid (Gj.length<=(i+1)*1048576):=by
    have h1:=sW p.T p'.T
    have h2:=UJ.out
    have h3:=PG.out.t
    unfold Hid;rw [Rc.out,List.length_append];omega
   have Xl:Hid (Kn v1 H A.2 N'):=Ue.out.but Ra.out (λk hk h=>TL.out k h hk) (λh=>by have:=(Rl.out.bT 0 h).1;have:=HP.out;omega)
   have Ut:Hid (Below w.heap.size w v1):=ah.below PM.out Ra.out (λk hk=>(Rl.out.bT k hk).1)
   have U3:Hid (∀k,aJ gj k->¬N' k):=λk hk hn=>by
    rcases P3.out k hk with h1|h1
    ·exact TL.out k h1 hn
    ·have:=(Ue.out.pd k hn).2;omega
   clear h1 h2 h3 h4;intros;go_wp2;exact⟨⟨i+1,A.2,N',gj,gcj,Gj,rfl,rfl,by omega,US,Xl,UB,Ut,SA,U3,Uw⟩,by simp [S.fe];omega⟩
  ·have hor:(decide ((i:Int)<(n:Int))=false)\/(decide ((i:Int)<(n:Int))=true/\decide ((i:Int)<100)=false/\¬(i<100)):=by
    by_cases h1:i<n
    ·exact .inr ⟨decide_eq_true (by omega),decide_eq_false (by omega),by omega⟩
    ·exact .inl (decide_eq_false (by omega))
   clear T8 HK HN Vy R_ HGn QN UJ;rcases hor with h1|⟨h1,h2,h3⟩
   ·have h9:¬i<n:=by have:=of_decide_eq_false h1;omega
    clear hq;go_wp2;go_ret;exact⟨au rfl,PY.out⟩
   ·have h8:i<n:=by have:=of_decide_eq_true h1;omega
    clear hq;go_wp2;go_ret;exact⟨au rfl,PY.out⟩
end
end Go.Proofs.YtffmodpgddecnaaGreatDoor.V
