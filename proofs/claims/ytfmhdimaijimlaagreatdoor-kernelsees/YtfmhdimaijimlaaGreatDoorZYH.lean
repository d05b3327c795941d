import Derived.Test.YtfmhdimaijimlaaGreatDoorZYL
set_option linter.all false
set_option maxRecDepth 1000000
set_option maxHeartbeats 8000000
open Go.Proofs.Tryz
variable {w w' w1 w2:Go.World}{n m k i j b g base kn:Nat}{a:Option Go.Addr}
namespace Go.Proofs.YtfmhdimaijimlaaGreatDoor.V
open Go.RowKit
open Go.Proofs.YtfmhdimaijimlaaGreatDoor.H (ak Cp)
open Go.Proofs.YtfmhdimaijimlaaGreatDoor.M (bh)
section
variable {w w':World}
theorem yQ {w0 U:World}{S:Nat->Prop}{c:Nat}{L:List Nat}(h:R.Row w0 a n c L)(hb:Below w0.heap.size w0 w1)(hU:ae S w1 U)(hS:∀k,S k->w0.heap.size<=k):R.Row U a n c L :=
 ⟨h.len,h.cap_,h.none_,λx hx j v hv=>aC hU (cell_later hb (h.cells x hx j v hv)) (λe=>by have:=World.block_lt_of_cell? _ _ (h.cells x hx j v hv);have:=hS _ e;omega),h.small⟩
theorem IU {p:Pm}{s:aI}{c:R.Cl}(h:(fU p s c).1.code≠1):(-9223372036854775808<=c.n/\c.n<=9223372036854775807)/\c.data.length<=1025:=by
 have hf:R.fm c=true:=by
  cases hb:R.fm c with
  | true=>rfl
  | false=>unfold fU at h;rw [if_pos hb] at h;exact absurd rfl h
 unfold R.fm at hf
 simp only [Bool.and_eq_true] at hf
 have h2:=hf.1.1.2
 unfold R.dI at h2
 simp only [Bool.and_eq_true,decide_eq_true_eq] at h2
 have h3:=h2.1.1.1.1.1.2
 unfold R.yp at h3
 have h4:=R.fD.1 h3
 exact⟨by omega,h2.1.2⟩
theorem IK {p:Pm}{s:aI}{m:Nat}{c:R.Cl}(h1:(fU p s c).1.code≠1)(h2:(fU p s c).1.code≠2):kx c (eE m s)=qH s c:=by
 unfold kx qH
 cases c.given with
 | true=>rfl
 | false =>
  simp only [Bool.false_eq_true,if_false]
  exact BA _ _ _ (pG h1 h2).2
theorem uW {p:Pm}{s:aI}{c:R.Cl}{need k:Int}(h:FC p m s c need k)(hr:s.V.Pairwise (λa b=>a.1<b.1))(hz:dL c.obj need (eE m s).T (qH s c)=true):∃l,(c.obj,l)∈s.V/\S.kO s.V c.obj=some l/\aN c.obj (eE m s).O=l/\(fU p s c).1.code=if dA c.off k (aN c.obj (eE m s).O).length then 5 else 0:=by
 obtain⟨l,h1,h2⟩:=h.yes hz
 have h3:=at_mem h1
 have h4:aN c.obj (eE m s).O=l:=DZ hr h3
 refine⟨l,h3,h1,h4,?_⟩
 rw [h2,h4]
 by_cases g:0<=c.off/\0<=k/\k<=1024/\c.off+k<=(l.length:Int)
 ·have e:dA c.off k l.length=false:=by unfold dA;simp;omega
  rw [if_pos g,e]
  rfl
 ·have e:dA c.off k l.length=true:=by unfold dA;simp;omega
  rw [if_neg g,e]
  rfl
theorem BJ (c:Cf){a0:Option Addr}{n0 cap0:Nat}{f0:Nat->Nat}(hD:D.Ws w a0 n0 cap0 f0){cap:Nat}{C:List R.Cl}{D' G':Nat->R.Sl}(hC:Cz w a n C D' G')(hn:n<=140737488355328)(hl:D.Laid w)(h0:0<w.heap.size) :
  Calls prog 4 #[c.v,.slice a0 n0 cap0,.slice a n cap] w λe w'=>e=.returned (.bool true)/\Below w.heap.size w w':=by
 obtain⟨W,hW⟩:∃W,W=w.alloc (Obj.cells c.L.toArray 23):=⟨_,rfl⟩
 have HB:Hid (Below w.heap.size w W):=by rw [hW];exact ab _ _
 have HX:Hid (R.Bx W w.heap.size c.L):=by rw [hW];exact R.Bx.new w _ _
 have HLd:=aa (Jo HX.o)
 have HDs:=aa hD
 have HCz:=aa hC
 have HLa:=aa hl
 have HP:=aa h0
 have HW:=aa hW
 clear hC hl h0 hW hD
 go_enter func4,ntmps4
 go_upto_region 1 with fail
 have hW:=HW.o
 rw [<-hW]
 clear hW HW
 go_upto_region 2 with (first|((with_reducible refine R.aP HLd.o ?_ ?_);(· rfl))|(go_at_call 9;refine (tv c W).mono ?_;rintro e w1 ⟨c1,rfl,hm,hb⟩;have HM1:=aa hm;have HB1:Hid (Below w.heap.size w w1):=al HB.o hb;clear hm hb)|(go_at_call 18;refine (wb (HDs.o.later HB1.o)).mono ?_;rintro e w2 ⟨a1,m1,e1,rfl,hm,hw,-,hb⟩;have HM2:=aa hm;have HWs:=aa hw;have HB2:Hid (Below w.heap.size w w2):=al HB1.o hb;clear hm hw hb)|(go_at_call 11;refine (bE c1 HM1.o a1 m1 e1 f0 w2 HWs.o HM2.o (cell_later HB2.o HLa.o) (by have:=HP.o;have:=HB2.o.size;omega)).mono ?_;rintro e w3 ⟨H,N0,rfl,hk,hp,-,hN,hb⟩;have HK0:=aa hk;have HPm:=aa hp;have HN0:Hid (∀k,N0 k->w.heap.size<=k):=(λk h=>Nat.le_trans HB2.o.size (hN k h));have HB3:Hid (Below w.heap.size w w3):=al HB2.o hb;clear hk hp hN hb))
 have HPn:Hid (H.p.n<=4096):=by
  unfold Hid
  rw [HPm.o]
  exact HM2.o
 have HEx:=aa (qV (cell_later HB3.o HLa.o) (by have:=HP.o;have:=HB3.o.size;omega))
 clear HLd HX HB HB1 HB2 HM1 HWs HPm HDs HM2
 go_upto_region 5 with (first|(go_at_call 12;refine HEx.o.mono ?_;rintro e w4 ⟨rfl,hb⟩;have HB4:=aa hb;clear hb))
 go_loopw [9] (Ic w H n) (λv _=>n - S.ef v)
 case atStart=>exact⟨0,_,_,rfl,Nat.zero_le _,HK0.o.later HB4.o,HN0.o,al HB3.o HB4.o⟩
 case round =>
  clear HK0 HN0 HB3 HB4 HEx
  obtain⟨i,s,N,rfl,hi,hK,hN,hBr⟩:=hrel
  have HIn:=aa hi
  have HK:=aa hK
  have HN:=aa hN
  have HBr:=aa hBr
  clear hi hK hN hBr
  by_cases hq:i<n/\i<60
  ·obtain⟨hlt,h60⟩:=hq
   have hd:decide ((i:Int)<(n:Int))=true:=dT (by omega)
   have hd6:decide ((i:Int)<60)=true:=dT (by omega)
   obtain⟨cl,hcl⟩:∃cl,C[i]?=some cl:=⟨_,gE (by have:=HCz.o.len;omega)⟩
   obtain⟨b,o,rfl,hrg⟩:=HCz.o.at_ (by omega)
   have hrg:=hrg i cl hcl
   have HIs:=aa (HCz.o.is i cl hcl)
   have HRg:Hid (∀U,Below w.heap.size w U->U.rangeAt b (o+i*13) (R.cC cl (D' i) (G' i))):=λU hU j v hv=>cell_later hU (hrg j v hv)
   obtain⟨A,hA⟩:∃A,A=fU H.p s cl:=⟨_,rfl⟩
   have HA:=aa hA
   obtain⟨p,hp⟩:∃p,p=eE H.mo s:=⟨_,rfl⟩
   have HPs:=aa hp
   have HSmall:Hid p.Small:=by rw [hp];exact HK.o.small
   clear hcl hrg hA hp
   have HLd:=aa (zM (HRg.o wr HBr.o))
   have HS45:=aa (Bx.Hs (R.Bx.new wr FN 45) rfl cl (D' i) (G' i))
   go_upto_region 8 with (first|((with_reducible refine R.aP HLd.o ?_ ?_);(· rfl))|((with_reducible refine aY HS45.o ?_ ?_ ?_);(· rfl);(· rfl)))
   obtain⟨y1,hy1⟩:∃y1,y1=(wr.alloc (Obj.cells FN.toArray 45)).setCells wr.heap.size 0 (R.cC cl (D' i) (G' i)):=⟨_,rfl⟩
   have HC1:Hid (R.Bx y1 wr.heap.size (R.cC cl (D' i) (G' i))):=by rw [hy1];exact R.Bx.set (R.Bx.new wr FN 45) rfl
   have HY1:Hid (Below wr.heap.size wr y1):=by rw [hy1];exact ae.below (ab _ _) (R.iK (S:=(·=wr.heap.size)) rfl _ 0 (ae.refl _ _)) (λk e=>by omega)
   rw [<-hy1]
   have HBy:Hid (Below w.heap.size w y1):=al HBr.o HY1.o
   have HSt:Hid (Calls prog 17 #[.pointer (some ⟨H.kb,0,none⟩)] y1 (oO y1 p)):=by
    obtain⟨d,hdd,ht,hf,_⟩:=HK.o.later HY1.o
    rw [HPs.o]
    exact j8 hdd hf
   clear hy1 HLd HS45
   go_upto_region 9 with (first|(go_at_call 17;(with_reducible refine HSt.o.mono ?_);rintro e x1 ⟨a1,e1,Q1,a2,e2,a3,e3,Q3,rfl,hT,hb⟩;have HT:=aa hT;have HXb:=aa hb;clear hT hb))
   obtain⟨y2,hy2⟩:∃y2,y2=x1.alloc (Obj.cells (stM a1 p.O.length e1 a2 p.T.length e2 a3 p.P.length e3 p.nx p.px p.t).toArray 53):=⟨_,rfl⟩
   have HS2:Hid (R.Bx y2 x1.heap.size (stM a1 p.O.length e1 a2 p.T.length e2 a3 p.P.length e3 p.nx p.px p.t)):=by rw [hy2];exact R.Bx.new x1 _ 53
   have HY2:Hid (Below x1.heap.size x1 y2):=by rw [hy2];exact ab _ _
   simp only [stM] at hy2
   rw [<-hy2]
   have HBy2:Hid (Below w.heap.size w y2):=al (al HBy.o HXb.o) HY2.o
   have HC2:Hid (R.Bx y2 wr.heap.size (R.cC cl (D' i) (G' i))):=R.Bx.later HY2.o (R.Bx.later HXb.o HC1.o)
   have HLc:=aa (zM HC2.o.range)
   have HCp:=aa (tx (HIs.o.1.later HBy2.o) HIs.o.2.1 HIs.o.2.2)
   have HKy:=aa (((HK.o.later HY1.o).later HXb.o).later HY2.o)
   have HNs:Hid (∀k,N k->k<wr.heap.size):=λk hk=>(HK.o.p6 k hk).2
   clear hy2 HSt
   go_upto_region 10 with (first|((with_reducible refine R.aP HLc.o ?_ ?_);(· rfl))|(go_at_call 14;refine HCp.o.mono ?_;rintro e u1 ⟨d1,g1,rfl,hm,hb⟩;have HU1:=aa hb;have hdo:=AN (HKy.o.later hb) hm.is (λ_ j hj e=>by have:=(hm.d j hj).1;have:=HNs.o j e;have:=HXb.o.size;have:=HY1.o.size;have:=HY2.o.size;omega);rw [<-HA.o] at hdo;have HDo:=aa hdo;clear hm hb hdo)|(go_at_call 13;refine HDo.o.mono ?_;rintro e u2 ⟨ra,rn,rc,N',rfl,ho,hk,hw,hq⟩;have HRo:=aa ho;have HKr:=aa hk;have HWr:=aa hw;clear ho hk hw hq))
   obtain⟨u3,hu3⟩:∃u3,u3=u2.alloc (Obj.cells (fK A.1 ra rn rc).toArray 41):=⟨_,rfl⟩
   have HX3:Hid (R.Bx u3 u2.heap.size (fK A.1 ra rn rc)):=by rw [hu3];exact R.Bx.new u2 (fK A.1 ra rn rc) 41
   have HU3:Hid (Below u2.heap.size u2 u3):=by rw [hu3];exact ab _ _
   simp only [fK] at hu3
   rw [<-hu3]
   have HBu3:Hid (Below w.heap.size w u3):=al (ae.below (al HBy2.o HU1.o) HWr.o.2 HN.o) HU3.o
   have HZ:Hid (wr.heap.size<y1.heap.size/\y1.heap.size<=x1.heap.size/\x1.heap.size<y2.heap.size/\y2.heap.size<=u1.heap.size/\u1.heap.size<=u2.heap.size/\u2.heap.size<u3.heap.size):=⟨HC1.o.lt (by simp [R.cC]),HXb.o.size,HS2.o.lt (by simp [stM]),HU1.o.size,HWr.o.size,HX3.o.lt (by simp [fK])⟩
   have HS0:Hid (ae (λk=>N k) x1 u3):=(ae.of HY2.o).trans ((ae.of HU1.o).trans ((ae.mono HWr.o.2 (λk hk=>hk)).trans (ae.of HU3.o)))
   have HK3:=aa (HKr.o.later HU3.o)
   have HN3:Hid (∀k,N' k->w.heap.size<=k):=aH.low HWr.o HN.o (by have:=HBr.o.size;have:=HZ.o;omega)
   have HN4:Hid (∀k,N' k->N k\/u1.heap.size<=k):=HWr.o.1
   have HT3:Hid (df u3 y1.heap.size p a1 e1 Q1 a2 e2 a3 e3 Q3):=df.but HT.o HS0.o (λj g1 g2 g3=>by have:=HNs.o _ g3;have:=HZ.o;omega)
   have HC3:Hid (R.Bx u3 wr.heap.size (R.cC cl (D' i) (G' i))):=R.Bx.later HU3.o (R.Bx.but HWr.o.2 (R.Bx.later HU1.o HC2.o) (λh=>by have:=HNs.o _ h;omega))
   have HS3:Hid (R.Bx u3 x1.heap.size (stM a1 p.O.length e1 a2 p.T.length e2 a3 p.P.length e3 p.nx p.px p.t)):=R.Bx.later HU3.o (R.Bx.but HWr.o.2 (R.Bx.later HU1.o HS2.o) (λh=>by have:=HNs.o _ h;have:=HZ.o;omega))
   have HRl:=aa (Fl.own (HRo.o.later HU3.o))
   have HRn:Hid (A.1.data.length=rn):=by have:=HRo.o.len;rwa [S.ax] at this
   have HSB:Hid (∀U,Below u3.heap.size u3 U->Sb U p x1.heap.size wr.heap.size u2.heap.size cl (D' i) (G' i) A.1 ra rn rc a1 e1 Q1 a2 e2 a3 e3 Q3):=λU hU=>⟨R.Bx.later hU HS3.o,R.Bx.later hU HC3.o,R.Bx.later hU HX3.o,HT3.o.look.later hU⟩
   obtain⟨cd,hcd⟩:∃cd,cd=A.1.code:=⟨_,rfl⟩
   have HCd:=aa hcd
   have hc0:u3.cell? ⟨u2.heap.size,0,none⟩=some (.int .i64 cd):=by rw [hcd];exact HX3.o.cell 0 rfl
   have hop0:u3.cell? ⟨wr.heap.size,0,none⟩=some (.int .i64 cl.op):=HC3.o.cell 0 rfl
   have HTx:Hid ((∀k,aD a1 k->k<x1.heap.size)/\∀k,ed.B a1 Q1 k->k<x1.heap.size):=⟨λk hk=>(HT.o.os.bD k (.inl hk)).2,λk hk=>(HT.o.os.bD k hk).2⟩
   clear hu3 hcd HLc HCp HDo HKr HKy HC1 HC2 HS2 HT
   go_upto_region 10 with fail
   go_cut [78] from 61 to 78 (λv U=>∃q:Bool,v=.bool q/\(q=false->(cl.op=5\/cl.op=6)/\cd≠1/\cd≠2)/\u3=U)
   case first =>
    by_cases hop:cl.op=5\/cl.op=6
    ·have HOp:=aa hop
     by_cases h1:cd=1
     ·have hb1:(cd==1)=true:=by simp [h1]
      rcases hop with hop|hop
      ·rw [hop] at hop0
       clear hop h1
       go_wp2
       go_meet
       exact⟨true,rfl,(λh=>by cases h),rfl⟩
      ·rw [hop] at hop0
       clear hop h1
       go_wp2
       go_meet
       exact⟨true,rfl,(λh=>by cases h),rfl⟩
     ·by_cases h2:cd=2
      ·have hb1:(cd==1)=false:=by simp [h1]
       have hb2:(cd==2)=true:=by simp [h2]
       rcases hop with hop|hop
       ·rw [hop] at hop0
        clear hop h1 h2
        go_wp2
        go_meet
        exact⟨true,rfl,(λh=>by cases h),rfl⟩
       ·rw [hop] at hop0
        clear hop h1 h2
        go_wp2
        go_meet
        exact⟨true,rfl,(λh=>by cases h),rfl⟩
      ·have hb1:(cd==1)=false:=by simp [h1]
       have hb2:(cd==2)=false:=by simp [h2]
       have H1:=aa h1
       have H2:=aa h2
       rcases hop with hop|hop
       ·rw [hop] at hop0
        clear hop h1 h2
        go_wp2
        go_meet
        exact⟨false,rfl,λ_=>⟨HOp.o,H1.o,H2.o⟩,rfl⟩
       ·rw [hop] at hop0
        clear hop h1 h2
        go_wp2
        go_meet
        exact⟨false,rfl,λ_=>⟨HOp.o,H1.o,H2.o⟩,rfl⟩
    ·have h5:(cl.op != 5)=true:=by simp;omega
     have h6:(cl.op != 6)=true:=by simp;omega
     clear hop
     go_wp2
     go_meet
     exact⟨true,rfl,(λh=>by cases h),rfl⟩
   case rest =>
    obtain⟨q,rfl,hq,hyy⟩:=hcut
    subst hyy
    cases q with
    | true =>
     clear hq
     go_wp2
     exact⟨⟨i+1,A.2,N',rfl,by omega,HK3.o,HN3.o,HBu3.o⟩,by simp [S.ef];omega⟩
    | false =>
     obtain⟨hop,h1,h2⟩:=hq rfl
     have HD1:Hid ((fU H.p s cl).1.code≠1):=by rw [<-HA.o,<-HCd.o];exact h1
     have HD2:Hid ((fU H.p s cl).1.code≠2):=by rw [<-HA.o,<-HCd.o];exact h2
     obtain⟨d0,hd0,_⟩:=HK.o
     obtain⟨-,hv,hr⟩:=Jk hd0
     have HV:Hid (∀v∈s.V,S.kO s.V v.1=some v.2):=λv h=>(hv v h).2.2.2
     have HR:Hid (s.V.Pairwise (λa b=>a.1<b.1)):=hr
     have HKx:Hid (kx cl p=qH s cl):=by have:=IK (m:=H.mo) HD1.o HD2.o;rwa [<-HPs.o] at this
     have HPO:Hid (p.O=s.V):=by rw [HPs.o];rfl
     clear h1 h2 hd0 hv hr hq hc0 hop0
     iterate 5 (first|go_upon|go_back|go_step)
     rcases hop with hop|hop
     ·have HOp:=aa hop
      clear hop
      have HSr:=aa (Bp (p:=H.p) (m:=H.mo) HV.o HK.o.kf.fit cl HOp.o HD1.o HD2.o)
      have hno:dL cl.obj 1 p.T (kx cl p)=false->A.1.code=3\/A.1.code=4:=by
       rw [HKx.o,HPs.o,HA.o]
       exact HSr.o.1.no
      have hyes:dL cl.obj 1 p.T (kx cl p)=true->∃l,(cl.obj,l)∈p.O/\aN cl.obj p.O=l/\A.1.code=(if dA cl.off cl.n (aN cl.obj p.O).length then 5 else 0)/\(A.1.code=0->A.1.data=(l.drop cl.off.toNat).take cl.n.toNat):=by
       rw [HKx.o,HPs.o,HA.o]
       intro hz
       obtain⟨l,g1,g2,g3,g4⟩:=uW HSr.o.1 HR.o hz
       refine⟨l,g1,g3,g4,λhc=>HSr.o.2.2 l g2 hc ?_⟩
       rw [g4] at hc
       have hq:dA cl.off cl.n (aN cl.obj (eE H.mo s).O).length=false:=by
        cases hb:dA cl.off cl.n (aN cl.obj (eE H.mo s).O).length with
        | false=>rfl
        | true=>rw [hb] at hc;simp at hc
       rw [g3] at hq
       unfold dA at hq
       simp at hq
       omega
      have HNo:=aa hno
      have HYes:=aa hyes
      clear hno hyes
      refine xC HSB.o HSmall.o HOp.o HIs.o.1.data.len.symm HT3.o HNo.o HYes.o (λc a d v w h=>by cases d<;>exact h) HRl.o HRn.o (IU HD1.o).1 ?_
      intro w8 hb8
      have HB8:=aa hb8
      clear hb8
      intros
      refine⟨?_,?_⟩
      all_goals
       go_wp2
       exact⟨⟨i+1,A.2,N',rfl,by omega,HK3.o.later HB8.o,HN3.o,al HBu3.o HB8.o⟩,by simp [S.ef];omega⟩
     ·have HOp:=aa hop
      clear hop
      have HSw:=aa (vR (p:=H.p) (m:=H.mo) HV.o HK.o.kf.fit cl HOp.o HD1.o HD2.o)
      have hno:dL cl.obj 2 p.T (kx cl p)=false->A.1.code=3\/A.1.code=4:=by
       rw [HKx.o,HPs.o,HA.o]
       exact HSw.o.1.no
      have hyes:dL cl.obj 2 p.T (kx cl p)=true->∃l,(cl.obj,l)∈p.O/\aN cl.obj p.O=l/\A.1.code=(if dA cl.off (cl.data.length:Int) (aN cl.obj p.O).length then 5 else 0):=by
       rw [HKx.o,HPs.o,HA.o]
       intro hz
       obtain⟨l,g1,g2,g3,g4⟩:=uW HSw.o.1 HR.o hz
       refine⟨l,g1,g3,g4⟩
      have HNo:=aa hno
      have HYes:=aa hyes
      clear hno hyes
      have HNb:Hid (∀ao,(∀k,aD ao k->y1.heap.size<=k/\k<x1.heap.size)->(∀k,N' k->¬aD ao k)/\¬aD ao 0):=λao ha=>by
       have hz:=HZ.o
       refine⟨λk hk hb=>?_,λh=>by have:=ha 0 h;omega⟩
       have h9:=ha k hb
       rcases HN4.o k hk with h|h
       ·have:=HNs.o k h;omega
       ·omega
      refine BF (base:=y1.heap.size) (xe:=x1.heap.size) HSB.o HSmall.o HOp.o HIs.o.1.data.len.symm HT3.o HNo.o HYes.o (λc a d v w h=>by cases d<;>exact h) (IU HD1.o).2 ?_ HTx.o.2 HZ.o.1 (Nat.le_refl _) (λao U ha hU=>?_) (λao U off ha hU hc hof=>?_) ?_
      ·rw [HPO.o];exact HR.o
      ·exact yQ HIs.o.1.data HBu3.o hU (λk h=>by have:=ha _ h;have:=HZ.o;have:=HBr.o.size;omega)
      ·have hA2:A.2={ s with V:=s.V.map (S.iH cl.obj off cl.data) }:=by
        have h9:=HSw.o.2 (by rw [<-HA.o];exact hc)
        rw [hof,Int.toNat_natCast,<-HA.o] at h9
        exact h9
       have hPw:eE H.mo A.2=pw p cl.obj off cl.data:=by rw [hA2,uc,HPs.o]
       obtain⟨d,hdd,ht,hf,_⟩:=HK3.o.but hU (HNb.o ao ha).1 (HNb.o ao ha).2
       rw [<-hPw]
       exact j8 hdd hf
      ·rintro w8 ⟨ao,ha,hb8⟩
       have HK8:=aa (HK3.o.but hb8 (HNb.o ao ha).1 (HNb.o ao ha).2)
       have HB8:Hid (Below w.heap.size w w8):=ae.below HBu3.o hb8 (λk hk=>by have:=ha k hk;have:=HBr.o.size;have:=HZ.o;omega)
       clear hb8 ha
       intros
       refine⟨?_,?_⟩
       all_goals
        go_wp2
        exact⟨⟨i+1,A.2,N',rfl,by omega,HK8.o,HN3.o,HB8.o⟩,by simp [S.ef];omega⟩
  ·clear HCz HK HN HLa
   have hor:(decide ((i:Int)<(n:Int))=false)\/(decide ((i:Int)<(n:Int))=true/\decide ((i:Int)<60)=false/\¬(i<60)):=by
    by_cases h1:i<n
    ·exact .inr ⟨dT (by omega),dF (by omega),by omega⟩
    ·exact .inl (dF (by omega))
   rcases hor with h1|⟨h1,h2,h3⟩
   ·have h9:¬i<n:=by have:=of_decide_eq_false h1;omega
    clear hq
    go_wp2
    go_ret
    exact⟨cW rfl,HBr.o⟩
   ·have h8:i<n:=by have:=of_decide_eq_true h1;omega
    clear hq
    go_wp2
    go_ret
    exact⟨cW rfl,HBr.o⟩
end
end Go.Proofs.YtfmhdimaijimlaaGreatDoor.V
