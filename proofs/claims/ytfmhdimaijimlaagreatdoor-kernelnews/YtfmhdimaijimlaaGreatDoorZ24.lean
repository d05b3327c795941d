import Derived.Test.YtfmhdimaijimlaaGreatDoorZ23
import Derived.Defers
set_option linter.all false
set_option maxRecDepth 1000000
set_option maxHeartbeats 8000000
open Go.Proofs.Tryz
variable {w w' w1 w2:Go.World}{n m k i j b g base kn:Nat}{a:Option Go.Addr}
namespace Go.Proofs.YtfmhdimaijimlaaGreatDoor.V
open Go.RowKit
open Go.Proofs.YtfmhdimaijimlaaGreatDoor.H (ak Cp)
theorem aR (a b:Int)(w:World):Calls prog 197 #[.int .i64 a,.int .i64 b] w λe w'=>e=.returned (.bool (aA b a))/\w'=w:=by
 have hp:=aa (fb b a)
 go_enter func197,ntmps197
 go_wp2_with (first|(go_at_call 178;refine (hp.out _).mono ?_;rintro e w9 ⟨rfl,hw9⟩;obtain rfl:=hw9.symm;clear hw9))
 go_ret
 exact⟨rfl,rfl⟩
def zw (H:Hd):Value:=.agg #[.pointer (some ⟨H.A.g,0,none⟩),.pointer (some ⟨H.qg,0,none⟩),.pointer (some ⟨H.z.s,0,none⟩)]
def cO (s:aI)(c:Cp)(need:Int):Int×Int:=if aK s.X s.l c=false then (0,3) else if aA need (rg s.X (aB s.X s.l c))=false then (0,4) else (aB s.X s.l c,0)
theorem lz {H:Hd}{s:aI}{d:Nat->List K.Pu}{N:Nat->Prop}(h:aF w H s d N)(c:Cp)(need:Int)(hw:c.2.1<ak/\c.2.2<ak) :
  Calls prog 155 #[zw H,ir c,.int .i64 need] w λe w'=>e=.returned (.tuple #[.int .i64 (cO s c need).1,.int .i64 (cO s c need).2])/\Below w.heap.size w w':=by
 obtain⟨o,hi,lo⟩:=c
 obtain⟨w0,hw0⟩:∃w0,w0=(w.alloc (Obj.cells #[.pointer (some ⟨H.A.g,0,none⟩),.pointer (some ⟨H.qg,0,none⟩),.pointer (some ⟨H.z.s,0,none⟩)] 256)).alloc (Obj.cells #[.int .i64 o,.int .u64 (hi:Int),.int .u64 (lo:Int)] 38):=⟨_,rfl⟩
 have hB0:Below w.heap.size w w0:=by rw [hw0];exact aw _ _ _
 have hmk:Tp w0 w.heap.size H.A.g H.qg H.z.s:=by rw [hw0];exact⟨by simp [go_sem],by simp [go_sem],by simp [go_sem]⟩
 have x0:w0.cell? ⟨w.heap.size+1,0,none⟩=some (.int .i64 o):=by rw [hw0];simp [go_sem]
 have x1:w0.cell? ⟨w.heap.size+1,1,none⟩=some (.int .u64 (hi:Int)):=by rw [hw0];simp [go_sem]
 have x2:w0.cell? ⟨w.heap.size+1,2,none⟩=some (.int .u64 (lo:Int)):=by rw [hw0];simp [go_sem]
 have y1:=hmk.c0
 have HM:=aa hmk
 have HB0:=aa hB0
 have HF:=aa (gQ (h.later hB0).cat (o,hi,lo) hw)
 unfold zw cO
 by_cases hc:aK s.X s.l (o,hi,lo)=false
 ·rw [hc] at HF
  simp only [if_pos hc]
  obtain⟨m,hm⟩:∃m,m=aB s.X s.l (o,hi,lo):=⟨_,rfl⟩
  rw [<-hm] at HF
  clear h hB0 hmk hc hm
  go_enter func155,ntmps155
  go_upto_region 1 with fail
  rw [<-hw0]
  clear hw0
  go_wp2_with (first
   | (go_at_call 196;refine HF.o.mono ?_;rintro e w2 ⟨rfl,hb2⟩;have HB2:=aa (al HB0.o hb2);clear hb2))
  exact bodyPost_ret (v:=.tuple #[.int .i64 0,.int .i64 3]) (by simp [results,results155,go_sem]) rfl ⟨rfl,HB2.o⟩
 ·have hc':aK s.X s.l (o,hi,lo)=true:=by simpa using hc
  rw [hc'] at HF
  simp only [if_neg hc]
  obtain⟨hfn,hft⟩:=jw h.inv hc'
  obtain⟨p,hp⟩:=cE.1 hfn
  have HA:=aa (λ(U:World) (hU:Below w.heap.size w U)=>lQ (h.later hU).cat.cm (aB s.X s.l (o,hi,lo)) p hp)
  rw [hft] at HA
  obtain⟨m,hm⟩:∃m,m=aB s.X s.l (o,hi,lo):=⟨_,rfl⟩
  rw [<-hm] at HF HA
  rw [<-hm]
  obtain⟨q,hq⟩:∃q,q=rg s.X m:=⟨_,rfl⟩
  rw [<-hq] at HA
  rw [<-hq]
  have HHs:=aa (aR q need)
  unfold mZ at HA
  clear h hB0 hmk hc hc' hm hq hft hfn hp
  cases hp4:aA need q with
  | false =>
   rw [hp4] at HHs
   simp only [if_true]
   clear hp4
   go_enter func155,ntmps155
   go_upto_region 1 with fail
   rw [<-hw0]
   clear hw0
   go_upto_region 4 with (first
    | (go_at_call 196;refine HF.o.mono ?_;rintro e w2 ⟨rfl,hb2⟩;have HB2:=aa (al HB0.o hb2);have z1:=(HM.o.later hb2).c0;clear hb2))
   go_wp2_with (first
    | (go_at_call 197;refine (HHs.o _).mono ?_;rintro e w9 ⟨rfl,hw9⟩;obtain rfl:=hw9.symm;clear hw9)
    | (go_at_call 122;refine (HA.o w2 HB2.o).mono ?_;rintro e w3 ⟨rfl,hb3⟩;have HB3:=aa (al HB2.o hb3);clear hb3))
   exact bodyPost_ret (v:=.tuple #[.int .i64 0,.int .i64 4]) (by simp [results,results155,go_sem]) rfl ⟨rfl,HB3.o.alloc HB3.o.size _⟩
  | true =>
   rw [hp4] at HHs
   simp only [Bool.true_eq_false,if_false]
   clear hp4
   go_enter func155,ntmps155
   go_upto_region 1 with fail
   rw [<-hw0]
   clear hw0
   go_upto_region 4 with (first
    | (go_at_call 196;refine HF.o.mono ?_;rintro e w2 ⟨rfl,hb2⟩;have HB2:=aa (al HB0.o hb2);have z1:=(HM.o.later hb2).c0;clear hb2))
   go_wp2_with (first
    | (go_at_call 197;refine (HHs.o _).mono ?_;rintro e w9 ⟨rfl,hw9⟩;obtain rfl:=hw9.symm;clear hw9)
    | (go_at_call 122;refine (HA.o w2 HB2.o).mono ?_;rintro e w3 ⟨rfl,hb3⟩;have HB3:=aa (al HB2.o hb3);clear hb3))
   exact bodyPost_ret (v:=.tuple #[.int .i64 m,.int .i64 0]) (by simp [results,results155,go_sem]) rfl ⟨rfl,HB3.o.alloc HB3.o.size _⟩
def I6 (w:World)(X:List Tk)(l:Fo)(o:Int)(g xb:Nat)(t:Value)(w':World):Prop :=
 ∃x p:Int,t=.int .i64 x/\(x,p)∈l/\ob X x=o/\w'.cell? ⟨w.heap.size,0,none⟩=some (.pointer (some ⟨g,0,none⟩))/\(∃c r,BV w' xb 0 (c,r,p))/\(∀j,w'.frozen? ⟨xb,j,none⟩=false)/\Below w.heap.size w w'/\xb<w'.heap.size
def Kz (l:Fo)(t:Value):Nat:=match t with
 | .int _ x=>(U l x).length
 | _=>0
theorem gy {H:Hd}{s:aI}{d:Nat->List K.Pu}{N:Nat->Prop}(h:aF w H s d N)(n:Int)(hn:n∈ah s.l) :
  Calls prog 157 #[zw H,.int .i64 n] w λe w'=>e=.returned (.int .i64 (fN s.X s.l (ob s.X n)))/\Below w.heap.size w w':=by
 obtain⟨w0,hw0⟩:∃w0,w0=w.alloc (Obj.cells #[.pointer (some ⟨H.A.g,0,none⟩),.pointer (some ⟨H.qg,0,none⟩),.pointer (some ⟨H.z.s,0,none⟩)] 256):=⟨_,rfl⟩
 have hB0:Below w.heap.size w w0:=by rw [hw0];exact ab _ _
 have y0:w0.cell? ⟨w.heap.size,0,none⟩=some (.pointer (some ⟨H.A.g,0,none⟩)):=by rw [hw0];simp [go_sem]
 have hsz0:w0.heap.size=w.heap.size+1:=by rw [hw0];simp [go_sem]
 have HS0:=aa hsz0
 have HI:=aa h.inv
 have HA:=aa (λ(U:World) (hU:Below w.heap.size w U) (x p:Int) (hp:(x,p)∈s.l)=>lQ (h.later hU).cat.cm x p hp)
 obtain⟨p,hp⟩:=cE.1 hn
 have HP:=aa hp
 have HB0:=aa hB0
 have HA1:=aa (HA.o w0 hB0 n p hp)
 obtain⟨⟨cx,hx_,lx⟩,hcx⟩:∃c:Cp,c=(tk s.X n).1:=⟨_,rfl⟩
 obtain⟨rx,hrx⟩:∃r,r=rg s.X n:=⟨_,rfl⟩
 rw [<-hcx,<-hrx] at HA1
 unfold mZ at HA1
 obtain⟨R,hR⟩:∃R,R=fN s.X s.l (ob s.X n):=⟨_,rfl⟩
 rw [<-hR]
 have HR:=aa hR
 unfold zw
 clear h hB0 hn hp hcx hrx hR hsz0
 go_enter func157,ntmps157
 go_upto_region 1 with fail
 rw [<-hw0]
 clear hw0
 go_upto_region 2 with (first
  | (go_at_call 122;refine HA1.o.mono ?_;rintro e w2 ⟨rfl,hb2⟩;have HB2:=aa (al HB0.o hb2);have z1:=aa (cell_later hb2 y0);have HS2:=aa (Nat.le_trans (Nat.le_of_eq HS0.o.symm) hb2.size);clear hb2 y0))
 obtain⟨w3,hw3⟩:∃w3,w3=w2.alloc (Obj.cells #[.int .i64 cx,.int .u64 (hx_:Int),.int .u64 (lx:Int),.int .i64 rx,.int .i64 p] 61):=⟨_,rfl⟩
 have hb3:Below w2.heap.size w2 w3:=by rw [hw3];exact ab _ _
 have hct:BV w3 w2.heap.size 0 ((cx,hx_,lx),rx,p):=by rw [hw3];exact⟨by simp [go_sem],by simp [go_sem],by simp [go_sem],by simp [go_sem],by simp [go_sem]⟩
 have hfr:∀j,w3.frozen? ⟨w2.heap.size,j,none⟩=false:=λj=>by rw [hw3];simp [go_sem]
 have hlt:w2.heap.size<w3.heap.size:=by rw [hw3];simp [go_sem]
 rw [<-hw3]
 have HBe:=aa (al HB2.o hb3)
 have HZ:=aa (cell_later hb3 z1.out)
 have HCT:=aa hct
 have HFR:=aa hfr
 have HLT:=aa hlt
 obtain⟨xb,hxb⟩:∃xb,xb=w2.heap.size:=⟨_,rfl⟩
 rw [<-hxb] at HS2 HCT HFR HLT
 rw [<-hxb]
 clear hw3 hb3 hct hfr hlt hxb z1 HB2
 go_loopw [1] (I6 w s.X s.l (ob s.X n) H.A.g xb) (λt _=>Kz s.l t)
 case atStart=>exact⟨n,p,rfl,HP.o,rfl,HZ.o,⟨_,_,HCT.o⟩,HFR.o,HBe.o,HLT.o⟩
 case round =>
  obtain⟨x,p1,rfl,hp1,ho1,y0,⟨c1,r1,hct⟩,hfr,hB,hlt⟩:=hrel
  have t4:=hct.c4
  simp only [Nat.zero_add] at t4
  have HP1:=aa hp1
  have HO1:=aa ho1
  have HB:=aa hB
  have HLT1:=aa hlt
  have HFR1:=aa hfr
  have HCT1:=aa hct
  by_cases hroot:p1=-1
  ·subst hroot
   have HRx:Hid (R=x):=by
    unfold Hid
    rw [HR.o,<-ho1,q_ HI.o hp1]
   clear hct hfr hB hlt hp1 ho1
   go_wp2
   go_ret
   exact⟨by rw [HRx.o];rfl,HB.o⟩
  ·have hb:(p1 != -1)=true:=by simp [hroot]
   have hpn:p1∈ah s.l:=(HI.o.ok.up hp1).resolve_left hroot
   obtain⟨p2,hp2⟩:=cE.1 hpn
   have HP2:=aa hp2
   have HO2:Hid (ob s.X p1=ob s.X n):=by
    unfold Hid
    rw [<-ho1];exact ((HI.o.up x p1 hp1 hroot).1).symm
   have HA2:=aa (HA.o wr hB p1 p2 hp2)
   have HM:Hid ((U s.l p1).length<(U s.l x).length):=by
    unfold Hid
    rw [qO HI.o.ok hp1,List.length_cons];omega
   obtain⟨⟨cy,hy_,ly⟩,hcy⟩:∃c:Cp,c=(tk s.X p1).1:=⟨_,rfl⟩
   obtain⟨ry,hry⟩:∃r,r=rg s.X p1:=⟨_,rfl⟩
   rw [<-hcy,<-hry] at HA2
   unfold mZ at HA2
   clear hct hfr hB hlt hp1 ho1 hroot hpn hp2 hcy hry
   go_upto_region 4 with fail
   go_wp2_with (first
    | (go_at_call 122;refine HA2.o.mono ?_;rintro e w5 ⟨rfl,hb5⟩;have HB5:=aa (al HB.o hb5);have HZ5:=aa (cell_later hb5 y0);have hlt5:=aa hb5;have hf0:=aa (λj=>(hb5.frozen HLT1.o (p:=⟨xb,j,none⟩)).trans (HFR1.o j));have d0:=(HCT1.o.later hb5).c0;have d1:=(HCT1.o.later hb5).c1;have d2:=(HCT1.o.later hb5).c2;have d3:=(HCT1.o.later hb5).c3;have d4:=(HCT1.o.later hb5).c4;simp only [Nat.zero_add] at d0 d1 d2 d3 d4;clear hb5;have q0:=hf0.out 0;have q1:=hf0.out 1;have q2:=hf0.out 2;have q3:=hf0.out 3;have q4:=hf0.out 4))
   have hbut:ae (·=xb) w5 (vu w5 xb 0 ((cy,hy_,ly),ry,p2)):=by
    unfold vu
    exact ((((((ae.refl (·=xb) w5).setCell (p:=⟨xb,0,none⟩) rfl _).setCell (p:=⟨xb,0+1,none⟩) rfl _).setCell (p:=⟨xb,0+2,none⟩) rfl _).setCell (p:=⟨xb,0+3,none⟩) rfl _).setCell (p:=⟨xb,0+4,none⟩) rfl _)
   have hS2:=HS2.o
   have hne:¬(w.heap.size=xb):=by omega
   refine⟨⟨p1,p2,rfl,HP2.o,HO2.o,aC hbut HZ5.o hne,⟨_,_,(HCT1.o.later hlt5.out).set ((cy,hy_,ly),ry,p2)⟩,λj=>?_,ae.below HB5.o hbut (λk hk=>by omega),?_⟩,HM.o⟩
   ·simp only [World.frozen?_setCell];exact hf0.out j
   ·have h1:=HLT1.o
    have h2:=hlt5.out.size
    have h3:=hbut.size
    exact Nat.lt_of_lt_of_le h1 (Nat.le_trans h2 h3)
end Go.Proofs.YtfmhdimaijimlaaGreatDoor.V
namespace Go.Proofs.YtfmhdimaijimlaaGreatDoor.V
open Go.RowKit
open Go.Proofs.YtfmhdimaijimlaaGreatDoor.H (ak Cp)
theorem zK {x:Int}(h:S.aW x):(Lit.int .i64 x).wf=true:=by
 unfold S.aW at h
 simp only [Lit.wf,Bool.and_eq_true,decide_eq_true_eq]
 have e1:IntKind.i64.min=-9223372036854775808:=by decide
 have e2:IntKind.i64.max=9223372036854775807:=by decide
 rw [e1,e2]
 omega
theorem IB {H:Hd}{s:aI}{d:Nat->List K.Pu}{N:Nat->Prop}(h:aF w H s d N)(tb qx gx:Nat)(o:Int)(a:Option Addr)(n c:Nat)(u:FrameMode)(ho:S.aW o)(x1:w.cell? ⟨tb,1,none⟩=some (.pointer (some ⟨H.qg,0,none⟩)))(x2:w.cell? ⟨qx,0,none⟩=some (.int .i64 o))(x3:w.cell? ⟨gx,0,none⟩=some (.slice a n c)) :
  CallsD prog 198 #[.pointer (some ⟨tb,0,none⟩),.pointer (some ⟨qx,0,none⟩),.pointer (some ⟨gx,0,none⟩)] u w λe u' w'=>u'=u/\e=.returned (.tuple #[])/\aF w' H { s with L:=Q.i_ s.L o (n:Int) } d N/\ae N w w':=by
 have HS:=aa (JA h o (n:Int) (zK ho))
 clear h ho
 go_enter_d func198,ntmps198
 go_wp2_with (first
  | (go_at_call 199;refine HS.o.mono ?_;rintro e w2 ⟨rfl,hd2,hb2⟩;have HD:=aa hd2;have HB:=aa hb2;clear hd2 hb2))
 go_end0
 exact⟨rfl,HD.o,HB.o⟩
theorem jA {H:Hd}{s:aI}{d:Nat->List K.Pu}{N:Nat->Prop}(h:aF w H s d N)(n:Int)(hn:n∈ah s.l)(ho:S.aW (ob s.X n)) :
  Calls prog 156 #[zw H,.int .i64 n] w λe w'=>∃a c,e=.returned (.tuple #[.slice a (G true s.l n).length c,.int .i64 0])/\Ow w' w.heap.size 38 3 a (G true s.l n).length c (az ((G true s.l n).map (λk=>(tk s.X k).1)))/\aF w' H (gK s n (ob s.X n)) d N/\ae N w w':=by
 obtain⟨w0,hw0⟩:∃w0,w0=(w.alloc (Obj.cells #[.pointer (some ⟨H.A.g,0,none⟩),.pointer (some ⟨H.qg,0,none⟩),.pointer (some ⟨H.z.s,0,none⟩)] 256)).alloc (Obj.cells #[.slice none 0 0] 57):=⟨_,rfl⟩
 have hB0:Below w.heap.size w w0:=by rw [hw0];exact aw _ _ _
 have htp:Tp w0 w.heap.size H.A.g H.qg H.z.s:=by rw [hw0];exact⟨by simp [go_sem],by simp [go_sem],by simp [go_sem]⟩
 have hgx:aq w0 ⟨w.heap.size+1,0,none⟩ (.slice none 0 0):=by rw [hw0];exact⟨by simp [go_sem],by simp [go_sem]⟩
 have hsz0:w0.heap.size=w.heap.size+2:=by rw [hw0];simp [go_sem]
 obtain⟨p,hp⟩:=cE.1 hn
 have hmf:∀(fn:Fn) (first cap:Array Value) (w:World),(Instr.makeFunc fn first cap).run prog w=.ok (.func fn first cap) w:=λ_ _ _ _=>rfl
 have HA1:=aa (lQ (h.later hB0).cat.cm n p hp)
 obtain⟨⟨cx,hx_,lx⟩,hcx⟩:∃c:Cp,c=(tk s.X n).1:=⟨_,rfl⟩
 obtain⟨rx,hrx⟩:∃r,r=rg s.X n:=⟨_,rfl⟩
 have hox:cx=ob s.X n:=by unfold ob;rw [<-hcx]
 rw [<-hcx,<-hrx] at HA1
 unfold mZ at HA1
 unfold zw
 have y0:=htp.c0
 have HT0:=aa htp
 have HG0:=aa hgx
 have HS0:=aa hsz0
 have HB0:=aa hB0
 have HD:=aa h
 rw [<-hox] at ho
 have HO:=aa ho
 have HOX:=aa hox
 have HN:=aa hn
 have HPar:=aa (fu h.inv.ok hp)
 clear h hn hp hcx hrx hox ho htp hgx hsz0 hB0
 go_enter_defers func156,ntmps156
 go_upto_region 1 with fail
 rw [<-hw0]
 clear hw0
 go_upto_region 2 with (first
  | (go_at_call 122;refine HA1.o.mono ?_;rintro e w2 ⟨rfl,hb2⟩;have HB2:=aa hb2;clear hb2 y0))
 go_upto_region 4 with fail
 obtain⟨w3,hw3⟩:∃w3,w3=(w2.alloc (Obj.cells #[.int .i64 cx,.int .u64 (hx_:Int),.int .u64 (lx:Int),.int .i64 rx,.int .i64 p] 61)).alloc (Obj.cells #[.int .i64 cx] 3):=⟨_,rfl⟩
 have hb3:Below w2.heap.size w2 w3:=by rw [hw3];exact aw _ _ _
 have t4:w3.cell? ⟨w2.heap.size,4,none⟩=some (.int .i64 p):=by rw [hw3];simp [go_sem]
 have hq:w3.cell? ⟨w2.heap.size+1,0,none⟩=some (.int .i64 cx):=by rw [hw3];simp [go_sem]
 rw [<-hw3]
 have hrg:=HD.o.p6
 have hs0:=HS0.o
 have hs2:=HB2.o.size
 have HF:Hid (∀U,ae N w3 U->Tp U w.heap.size H.A.g H.qg H.z.s/\U.cell? ⟨w2.heap.size+1,0,none⟩=some (.int .i64 cx)/\aq U ⟨w.heap.size+1,0,none⟩ (.slice none 0 0)):=λU hU=>by
  have hb23:=al HB2.o hb3
  exact⟨(HT0.o.later hb23).but hU (λe=>by have:=hrg _ e;omega),aC hU hq (λ(e:N (w2.heap.size+1))=>by have:=hrg _ e;omega),(HG0.o.later hb23).but hU (λ(e:N (w.heap.size+1))=>by have:=hrg _ e;omega)⟩
 have HB3:=aa (al HB0.o (al HB2.o hb3))
 have HD3:=aa (HD.o.later HB3.o)
 have hlt3:w2.heap.size+1<w3.heap.size:=World.block_lt_of_cell? _ _ hq
 have HS3:Hid (w.heap.size+2<=w2.heap.size/\w2.heap.size+1<w3.heap.size):=⟨by omega,hlt3⟩
 have HRg:=aa hrg
 have HEnd:Hid (∀(V:List (Int×List Nat)) (w5:World) (a:Option Addr) (c:Nat),V=(if par s.l n=-1 then tC s.V cx else s.V)->Ow w5 w3.heap.size 38 3 a (G true s.l n).length c (az ((G true s.l n).map (λk=>(tk s.X k).1)))->aF w5 H { s with V:=V,X:=fJ s.X (G true s.l n),l:=aT s.l (G true s.l n) } d N->ae N w3 w5 ->
   CallsD prog 198 #[.pointer (some ⟨w.heap.size,0,none⟩),.pointer (some ⟨w2.heap.size+1,0,none⟩),.pointer (some ⟨w.heap.size+1,0,none⟩)] .returning (w5.setCell ⟨w.heap.size+1,0,none⟩ (.slice a (G true s.l n).length c)) λe u' w'=>u'=.returning/\e=.returned (.tuple #[])/\w'.cell? ⟨w.heap.size+1,0,none⟩=some (.slice a (G true s.l n).length c)/\Ow w' w.heap.size 38 3 a (G true s.l n).length c (az ((G true s.l n).map (λk=>(tk s.X k).1)))/\aF w' H (gK s n (ob s.X n)) d N/\ae N w w'):=λV w5 a c hV hO hd5 hb5=>by
  obtain⟨f1,f2,f3⟩:=HF.o w5 hb5
  have hbs:ae (·=w.heap.size+1) w5 (w5.setCell ⟨w.heap.size+1,0,none⟩ (.slice a (G true s.l n).length c)):=(ae.refl (·=w.heap.size+1) w5).setCell (p:=⟨w.heap.size+1,0,none⟩) rfl _
  have s3:=HS3.o
  have hd6:=hd5.but hbs (λk hk e=>by have:=HRg.o k hk;omega) (λe=>absurd e (by show ¬(0=w.heap.size+1);omega))
  have g3:(w5.setCell ⟨w.heap.size+1,0,none⟩ (.slice a (G true s.l n).length c)).cell? ⟨w.heap.size+1,0,none⟩=some (.slice a (G true s.l n).length c):=World.cell?_setCell_same _ _ _ f3.1
  have f1':=f1.but hbs (λe=>by omega)
  have f2':=aC hbs f2 (by show ¬(w2.heap.size+1=w.heap.size+1);omega)
  refine (IB hd6 w.heap.size (w2.heap.size+1) (w.heap.size+1) cx a (G true s.l n).length c .returning HO.o f1'.c1 f2' g3).mono ?_
  rintro e u' w7 ⟨rfl,rfl,hd7,hb7⟩
  have hlist:∀j,aD a j->w3.heap.size<=j:=λj hj=>(hO.bD j hj).1
  refine⟨rfl,rfl,aC hb7 g3 (λ(e:N (w.heap.size+1))=>by have:=HRg.o _ e;omega),((hO.but hbs (λj hj e=>by have:=hlist j hj;omega)).but hb7 (λj hj e=>by have:=hlist j hj;have:=HRg.o _ e;omega)).mono (by omega),?_,?_⟩
  ·rw [hV,HOX.o] at hd7
   exact hd7
  ·refine⟨?_,?_,?_,?_,λk hk hn=>?_⟩
   ·exact hb7.os.trans (hbs.os.trans (hb5.os.trans HB3.o.os))
   ·exact hb7.tape.trans (hbs.tape.trans (hb5.tape.trans HB3.o.tape))
   ·exact hb7.output.trans (hbs.output.trans (hb5.output.trans HB3.o.output))
   ·exact Nat.le_trans HB3.o.size (Nat.le_trans hb5.size (Nat.le_trans hbs.size hb7.size))
   ·have h3:=HB3.o.size
    have h5:=hb5.size
    have h6:=hbs.size
    exact ((hb7.block k (by omega) hn).trans (hbs.block k (by omega) (λe=>by omega))).trans ((hb5.block k (by omega) hn).trans (HB3.o.block k hk))
 clear hw3 hb3 hq hrg hs0 hs2 hlt3 HA1 HT0 HG0
 by_cases hp1:p=-1
 ·subst hp1
  obtain⟨z0,z1,z2⟩:=(HF.o w3 (ae.refl _ _)).1
  obtain⟨q0⟩:=And.intro (HF.o w3 (ae.refl _ _)).2.1 trivial
  have HDs:=aa (yG HD3.o cx HO.o)
  have HV:Hid (tC s.V cx=(if par s.l n=-1 then tC s.V cx else s.V)):=by unfold Hid;rw [if_pos HPar.o]
  go_upto_region 6 with (first
   | (go_at_call 200;refine HDs.o.mono ?_;rintro e w4 ⟨x9,rfl,hd4,hb4⟩;have HD4:=aa hd4;have HB4:=aa hb4;have y0:=(HF.o w4 hb4).1.c0;clear hd4 hb4 z0 z1 z2 q0 t4))
  have HDr:=aa (Fa HD4.o n HN.o)
  go_wp2_with (first
   | (go_at_call 201;refine HDr.o.mono ?_;rintro e w5 ⟨a,c,rfl,hO5,hd5,hb5⟩;have HD5:=aa hd5;have HB5:=aa (HB4.o.trans hb5);have HO5:=aa (hO5.mono HB4.o.size);have gg:=(HF.o w5 HB5.o).2.2.1;have gf:=(HF.o w5 HB5.o).2.2.2;clear hd5 hb5 hO5))
  refine leaves_cons (f:=198) (args:=#[.pointer (some ⟨w.heap.size,0,none⟩),.pointer (some ⟨w2.heap.size+1,0,none⟩),.pointer (some ⟨w.heap.size+1,0,none⟩)]) (by simp) (by simp [go_sem]) ?_
  refine (HEnd.o _ w5 a c HV.o HO5.o HD5.o HB5.o).mono ?_
  rintro e u' w7 ⟨rfl,rfl,g7,r1,r2,r3⟩
  have HR:=aa (And.intro r1 (And.intro r2 r3))
  clear r1 r2 r3
  simp only [Leaves,settle]
  refine⟨.tuple #[.slice a (G true s.l n).length c,.int .i64 0],by simp [results,results156,go_sem,g7],a,c,rfl,HR.o⟩
 ·have hb1:(p==-1)=false:=by simp [hp1]
  obtain⟨z0,z1,z2⟩:=(HF.o w3 (ae.refl _ _)).1
  have HV:Hid (s.V=(if par s.l n=-1 then tC s.V cx else s.V)):=by unfold Hid;rw [if_neg (by rw [HPar.o];exact hp1)]
  have HDr:=aa (Fa HD3.o n HN.o)
  go_wp2_with (first
   | (go_at_call 201;refine HDr.o.mono ?_;rintro e w5 ⟨a,c,rfl,hO5,hd5,hb5⟩;have HD5:=aa hd5;have HB5:=aa hb5;have HO5:=aa hO5;have gg:=(HF.o w5 HB5.o).2.2.1;have gf:=(HF.o w5 HB5.o).2.2.2;clear hd5 hb5 hO5))
  refine leaves_cons (f:=198) (args:=#[.pointer (some ⟨w.heap.size,0,none⟩),.pointer (some ⟨w2.heap.size+1,0,none⟩),.pointer (some ⟨w.heap.size+1,0,none⟩)]) (by simp) (by simp [go_sem]) ?_
  refine (HEnd.o _ w5 a c HV.o HO5.o HD5.o HB5.o).mono ?_
  rintro e u' w7 ⟨rfl,rfl,g7,r1,r2,r3⟩
  have HR:=aa (And.intro r1 (And.intro r2 r3))
  clear r1 r2 r3
  simp only [Leaves,settle]
  refine⟨.tuple #[.slice a (G true s.l n).length c,.int .i64 0],by simp [results,results156,go_sem,g7],a,c,rfl,HR.o⟩
def xM (w:World)(H:Hd)(A:su)(d:Nat->List K.Pu)(N:Nat->Prop)(e:Ending)(w':World):Prop :=
 ∃a c,e=.returned (.tuple #[.slice a A.K.length c,.int .i64 A.code])/\Ow w' w.heap.size 38 3 a A.K.length c (az A.K)/\aF w' H A.s d N/\ae N w w'
theorem vU {H:Hd}{s:aI}{d:Nat->List K.Pu}{N:Nat->Prop}(h:aF w H s d N)(c:Cp)(hw:c.2.1<ak/\c.2.2<ak)(hc1:S.aW c.1) :
  Calls prog 109 #[.pointer (some ⟨H.A.g,0,none⟩),.pointer (some ⟨H.qg,0,none⟩),.pointer (some ⟨H.z.s,0,none⟩),ir c] w (xM w H (fa false s c) d N):=by
 obtain⟨o,hi,lo⟩:=c
 obtain⟨w0,hw0⟩:∃w0,w0=(w.alloc (Obj.cells #[.int .i64 o,.int .u64 (hi:Int),.int .u64 (lo:Int)] 38)).alloc (Obj.cells #[.pointer (some ⟨H.A.g,0,none⟩),.pointer (some ⟨H.qg,0,none⟩),.pointer (some ⟨H.z.s,0,none⟩)] 256):=⟨_,rfl⟩
 have hB0:Below w.heap.size w w0:=by rw [hw0];exact aw _ _ _
 have htp:Tp w0 (w.heap.size+1) H.A.g H.qg H.z.s:=by rw [hw0];exact⟨by simp [go_sem],by simp [go_sem],by simp [go_sem]⟩
 have x0:w0.cell? ⟨w.heap.size,0,none⟩=some (.int .i64 o):=by rw [hw0];simp [go_sem]
 have x1:w0.cell? ⟨w.heap.size,1,none⟩=some (.int .u64 (hi:Int)):=by rw [hw0];simp [go_sem]
 have x2:w0.cell? ⟨w.heap.size,2,none⟩=some (.int .u64 (lo:Int)):=by rw [hw0];simp [go_sem]
 obtain⟨y0,y1,y2⟩:=id htp
 have HT:=aa htp
 have HB0:=aa hB0
 have HD0:=aa (h.later hB0)
 have HH:=aa (lz (h.later hB0) (o,hi,lo) 8 hw)
 have HD:=aa h
 unfold zw at HH
 have hans:fa false s (o,hi,lo)=if (cO s (o,hi,lo) 8).2=0 then ⟨(G true s.l (aB s.X s.l (o,hi,lo))).map (λk=>(tk s.X k).1),0,gK s (aB s.X s.l (o,hi,lo)) o⟩ else ⟨[],(cO s (o,hi,lo) 8).2,s⟩:=by
  unfold fa cO uU pH
  by_cases h1:aK s.X s.l (o,hi,lo)=false
  ·simp [h1]
  ·by_cases h2:aA 8 (rg s.X (aB s.X s.l (o,hi,lo)))=false
   ·simp [h1,h2]
   ·simp [h1,h2]
 rw [hans]
 by_cases hz:(cO s (o,hi,lo) 8).2=0
 ·rw [if_pos hz]
  have hh:aK s.X s.l (o,hi,lo)=true/\(cO s (o,hi,lo) 8).1=aB s.X s.l (o,hi,lo):=by
   unfold cO at hz ⊢
   by_cases h1:aK s.X s.l (o,hi,lo)=false
   ·rw [if_pos h1] at hz;exact absurd hz (by decide)
   ·rw [if_neg h1] at hz ⊢
    refine⟨by simpa using h1,?_⟩
    by_cases h2:aA 8 (rg s.X (aB s.X s.l (o,hi,lo)))=false
    ·rw [if_pos h2] at hz;exact absurd hz (by decide)
    ·rw [if_neg h2]
  rw [hz,hh.2] at HH
  obtain⟨f1,f2⟩:=jw h.inv hh.1
  have fo:ob s.X (aB s.X s.l (o,hi,lo))=o:=by unfold ob;rw [f2]
  have HFl:=aa (λ(U:World) (hU:Below w.heap.size w U)=>jA (h.later hU) (aB s.X s.l (o,hi,lo)) f1 (by rw [fo];exact hc1))
  rw [fo] at HFl
  obtain⟨m,hm⟩:∃m,m=aB s.X s.l (o,hi,lo):=⟨_,rfl⟩
  rw [<-hm] at HH HFl
  rw [<-hm]
  unfold zw at HFl
  obtain⟨KL,hKL⟩:∃KL,KL=(G true s.l m).map (λk=>(tk s.X k).1):=⟨_,rfl⟩
  have hlen:(G true s.l m).length=KL.length:=by rw [hKL,List.length_map]
  rw [<-hKL]
  rw [<-hKL,hlen] at HFl
  obtain⟨kn,hkn⟩:∃kn,kn=KL.length:=⟨_,rfl⟩
  rw [<-hkn] at HFl
  unfold xM
  simp only
  rw [<-hkn]
  obtain⟨S',hS'⟩:∃S',S'=gK s m o:=⟨_,rfl⟩
  rw [<-hS'] at HFl
  rw [<-hS']
  clear h hB0 htp hans hz hh f1 f2 fo hm hKL hlen hkn hS'
  go_enter func109,ntmps109
  go_upto_region 2 with fail
  rw [<-hw0]
  clear hw0
  go_upto_region 5 with (first
   | (go_at_call 155;refine HH.o.mono ?_;rintro e w2 ⟨rfl,hb2⟩;have HB2:=aa (al HB0.o hb2);have z0:=(HT.o.later hb2).c0;have z1:=(HT.o.later hb2).c1;have z2:=(HT.o.later hb2).c2;clear hb2))
  go_wp2_with (first
   | (go_at_call 156;refine (HFl.o w2 HB2.o).mono ?_;rintro e w3 ⟨a,c,rfl,hO3,hd3,hb3⟩;have HR:=aa (And.intro (hO3.mono HB2.o.size) (And.intro hd3 ((ae.of (S:=N) HB2.o).trans hb3)));clear hO3 hd3 hb3))
  exact bodyPost_ret (v:=.tuple #[.slice a kn c,.int .i64 0]) (by simp [results,results109,go_sem]) rfl ⟨a,c,rfl,HR.o⟩
 ·rw [if_neg hz]
  obtain⟨E,hE⟩:∃E,E=(cO s (o,hi,lo) 8).2:=⟨_,rfl⟩
  obtain⟨m,hm⟩:∃m,m=(cO s (o,hi,lo) 8).1:=⟨_,rfl⟩
  rw [<-hE,<-hm] at HH
  rw [<-hE]
  rw [<-hE] at hz
  have hz2:(E != 0)=true:=by simp [hz]
  unfold xM
  clear h hB0 htp hans hE hm
  go_enter func109,ntmps109
  go_upto_region 2 with fail
  rw [<-hw0]
  clear hw0
  go_wp2_with (first
   | (go_at_call 155;refine HH.o.mono ?_;rintro e w2 ⟨rfl,hb2⟩;have HB2:=aa (al HB0.o hb2);clear hb2))
  exact bodyPost_ret (v:=.tuple #[.slice none 0 0,.int .i64 E]) (by simp [results,results109,go_sem]) rfl ⟨none,0,rfl,Ow.nil _ _ _ _,HD.o.later HB2.o,ae.of HB2.o⟩
theorem tE {H:Hd}{s:aI}{d:Nat->List K.Pu}{N:Nat->Prop}(h:aF w H s d N)(c:Cp)(hw:c.2.1<ak/\c.2.2<ak)(hc1:S.aW c.1) :
  Calls prog 106 #[.pointer (some ⟨H.A.g,0,none⟩),.pointer (some ⟨H.qg,0,none⟩),.pointer (some ⟨H.z.s,0,none⟩),ir c] w (xM w H (fa true s c) d N):=by
 obtain⟨o,hi,lo⟩:=c
 obtain⟨w0,hw0⟩:∃w0,w0=(w.alloc (Obj.cells #[.int .i64 o,.int .u64 (hi:Int),.int .u64 (lo:Int)] 38)).alloc (Obj.cells #[.pointer (some ⟨H.A.g,0,none⟩),.pointer (some ⟨H.qg,0,none⟩),.pointer (some ⟨H.z.s,0,none⟩)] 256):=⟨_,rfl⟩
 have hB0:Below w.heap.size w w0:=by rw [hw0];exact aw _ _ _
 have htp:Tp w0 (w.heap.size+1) H.A.g H.qg H.z.s:=by rw [hw0];exact⟨by simp [go_sem],by simp [go_sem],by simp [go_sem]⟩
 have x0:w0.cell? ⟨w.heap.size,0,none⟩=some (.int .i64 o):=by rw [hw0];simp [go_sem]
 have x1:w0.cell? ⟨w.heap.size,1,none⟩=some (.int .u64 (hi:Int)):=by rw [hw0];simp [go_sem]
 have x2:w0.cell? ⟨w.heap.size,2,none⟩=some (.int .u64 (lo:Int)):=by rw [hw0];simp [go_sem]
 obtain⟨y0,y1,y2⟩:=id htp
 have HT:=aa htp
 have HB0:=aa hB0
 have HD0:=aa (h.later hB0)
 have HH:=aa (lz (h.later hB0) (o,hi,lo) 16 hw)
 have HD:=aa h
 unfold zw at HH
 have hans:fa true s (o,hi,lo)=if (cO s (o,hi,lo) 16).2=0 then ⟨(G true s.l (fN s.X s.l o)).map (λk=>(tk s.X k).1),0,gK s (fN s.X s.l o) o⟩ else ⟨[],(cO s (o,hi,lo) 16).2,s⟩:=by
  unfold fa cO uU pH
  by_cases h1:aK s.X s.l (o,hi,lo)=false
  ·simp [h1]
  ·by_cases h2:aA 16 (rg s.X (aB s.X s.l (o,hi,lo)))=false
   ·simp [h1,h2]
   ·simp [h1,h2]
 rw [hans]
 by_cases hz:(cO s (o,hi,lo) 16).2=0
 ·rw [if_pos hz]
  have hh:aK s.X s.l (o,hi,lo)=true/\(cO s (o,hi,lo) 16).1=aB s.X s.l (o,hi,lo):=by
   unfold cO at hz ⊢
   by_cases h1:aK s.X s.l (o,hi,lo)=false
   ·rw [if_pos h1] at hz;exact absurd hz (by decide)
   ·rw [if_neg h1] at hz ⊢
    refine⟨by simpa using h1,?_⟩
    by_cases h2:aA 16 (rg s.X (aB s.X s.l (o,hi,lo)))=false
    ·rw [if_pos h2] at hz;exact absurd hz (by decide)
    ·rw [if_neg h2]
  rw [hz,hh.2] at HH
  obtain⟨f1,f2⟩:=jw h.inv hh.1
  have fo:ob s.X (aB s.X s.l (o,hi,lo))=o:=by unfold ob;rw [f2]
  obtain⟨g1,g2,g3⟩:=uD h.inv hh.1 true
  have e1:pH true s (o,hi,lo)=fN s.X s.l o:=rfl
  rw [e1] at g1 g2
  have g2':ob s.X (fN s.X s.l o)=o:=g2
  have HRt:=aa (λ(U:World) (hU:Below w.heap.size w U)=>gy (h.later hU) (aB s.X s.l (o,hi,lo)) f1)
  rw [fo] at HRt
  have HFl:=aa (λ(U:World) (hU:Below w.heap.size w U)=>jA (h.later hU) (fN s.X s.l o) g1 (by rw [g2'];exact hc1))
  rw [g2'] at HFl
  obtain⟨m0,hm0⟩:∃m,m=aB s.X s.l (o,hi,lo):=⟨_,rfl⟩
  rw [<-hm0] at HH HRt
  obtain⟨m,hm⟩:∃m,m=fN s.X s.l o:=⟨_,rfl⟩
  rw [<-hm] at HRt HFl
  rw [<-hm]
  unfold zw at HRt
  unfold zw at HFl
  obtain⟨KL,hKL⟩:∃KL,KL=(G true s.l m).map (λk=>(tk s.X k).1):=⟨_,rfl⟩
  have hlen:(G true s.l m).length=KL.length:=by rw [hKL,List.length_map]
  rw [<-hKL]
  rw [<-hKL,hlen] at HFl
  obtain⟨kn,hkn⟩:∃kn,kn=KL.length:=⟨_,rfl⟩
  rw [<-hkn] at HFl
  unfold xM
  simp only
  rw [<-hkn]
  obtain⟨S',hS'⟩:∃S',S'=gK s m o:=⟨_,rfl⟩
  rw [<-hS'] at HFl
  rw [<-hS']
  have HRg:=aa h.p6
  clear h hB0 htp hans hz hh f1 f2 fo hm hm0 hKL hlen hkn hS' g1 g2 g3 g2' e1
  go_enter func106,ntmps106
  go_upto_region 2 with fail
  rw [<-hw0]
  clear hw0
  go_upto_region 5 with (first
   | (go_at_call 155;refine HH.o.mono ?_;rintro e w2 ⟨rfl,hb2⟩;have HB2:=aa (al HB0.o hb2);have z0:=(HT.o.later hb2).c0;have z1:=(HT.o.later hb2).c1;have z2:=(HT.o.later hb2).c2;clear hb2))
  have HT2:=aa (Tp.mk z0 z1 z2)
  clear z0 z1 z2 HT
  go_region_held3 (λU=>U.cell? ⟨w.heap.size+1,0,none⟩=some (.pointer (some ⟨H.A.g,0,none⟩))/\U.cell? ⟨w.heap.size+1,1,none⟩=some (.pointer (some ⟨H.qg,0,none⟩))/\U.cell? ⟨w.heap.size+1,2,none⟩=some (.pointer (some ⟨H.z.s,0,none⟩))) (first|exact HT4.o|exact HT3.o|exact⟨HT2.o.later (Below.refl _ _).drew |>.c0,HT2.o.later (Below.refl _ _).drew |>.c1,HT2.o.later (Below.refl _ _).drew |>.c2⟩|exact⟨HT2.o.c0,HT2.o.c1,HT2.o.c2⟩) (first
   | (go_at_call 156;refine (HFl.o w3 HB3.o).mono ?_;rintro e w4 ⟨a,c,rfl,hO4,hd4,hb4⟩;have HT4:=aa (And.intro (aC hb4 HT3.o.1 (λ(e:N (w.heap.size+1))=>by have:=HRg.o _ e;omega)) (And.intro (aC hb4 HT3.o.2.1 (λ(e:N (w.heap.size+1))=>by have:=HRg.o _ e;omega)) (aC hb4 HT3.o.2.2 (λ(e:N (w.heap.size+1))=>by have:=HRg.o _ e;omega))));have HR:=aa (And.intro (hO4.mono HB3.o.size) (And.intro hd4 ((ae.of (S:=N) HB3.o).trans hb4)));clear hO4 hd4 hb4)
   | (go_at_call 157;refine (HRt.o _ (al HB2.o (Below.refl _ _).drew)).mono ?_;rintro e w3 ⟨rfl,hb3⟩;have HB3:=aa (al (al HB2.o (Below.refl _ _).drew) hb3);have HT3:=aa (And.intro ((HT2.o.later (Below.refl _ _).drew).later hb3).c0 (And.intro ((HT2.o.later (Below.refl _ _).drew).later hb3).c1 ((HT2.o.later (Below.refl _ _).drew).later hb3).c2));clear hb3))
  go_wp2
  exact bodyPost_ret (v:=.tuple #[.slice a kn c,.int .i64 0]) (by simp [results,results106,go_sem]) rfl ⟨a,c,rfl,HR.o⟩
 ·rw [if_neg hz]
  obtain⟨E,hE⟩:∃E,E=(cO s (o,hi,lo) 16).2:=⟨_,rfl⟩
  obtain⟨m,hm⟩:∃m,m=(cO s (o,hi,lo) 16).1:=⟨_,rfl⟩
  rw [<-hE,<-hm] at HH
  rw [<-hE]
  rw [<-hE] at hz
  have hz2:(E != 0)=true:=by simp [hz]
  unfold xM
  clear h hB0 htp hans hE hm
  go_enter func106,ntmps106
  go_upto_region 2 with fail
  rw [<-hw0]
  clear hw0
  go_wp2_with (first
   | (go_at_call 155;refine HH.o.mono ?_;rintro e w2 ⟨rfl,hb2⟩;have HB2:=aa (al HB0.o hb2);clear hb2))
  exact bodyPost_ret (v:=.tuple #[.slice none 0 0,.int .i64 E]) (by simp [results,results106,go_sem]) rfl ⟨none,0,rfl,Ow.nil _ _ _ _,HD.o.later HB2.o,ae.of HB2.o⟩
section
variable {w w':World}{H:Hd}{s s':aI}{d d':Nat->List K.Pu}{O:Nat->Nat->Prop}{N:Nat->Prop}{c:R.Cl}{dd gg:R.Sl}{b:Nat}
theorem ke (h:aF w H s d N)(x:Int)(ht:x≠0->L.Tr s.X s.l d):Calls prog 107 #[.pointer (some ⟨H.kb,0,none⟩),.int .i64 x] w λe w'=>e=.returned (dO (rep x) none 0 0)/\∃T,aF w' H s T N/\L.Tr s.X s.l T/\ae N w w':=by
 by_cases hx:x=0
 ·subst hx
  exact sS h
 ·refine (rV h x hx).mono ?_
  rintro e w' ⟨rfl,hb⟩
  exact⟨rfl,d,h.later hb,ht hx,ae.of hb⟩
theorem od {all:Bool}{c:Cp}(h:(fa all s c).code≠0):(fa all s c).s=s:=by
 unfold fa at h ⊢
 split
 ·rfl
 ·rename_i h1
  rw [if_neg h1] at h
  split
  ·rfl
  ·rename_i h2
   rw [if_neg h2] at h
   exact absurd rfl h
theorem sc (h:aF w H s d N)(ht:L.Tr s.X s.l d)(ho:S.aW c.obj)(hw:c.hi<ak/\c.lo<ak) :
  Calls prog 60 #[.pointer (some ⟨H.kb,0,none⟩),.agg (R.cC c dd gg).toArray] w λe w'=>e=.returned (dO (dR true s (bG c)).1 none 0 0)/\∃T,aF w' H (dR true s (bG c)).2 T N/\L.Tr (dR true s (bG c)).2.X (dR true s (bG c)).2.l T/\ae N w w':=by
 obtain⟨W,hW⟩:∃W,W=(w.alloc (Obj.cells (R.cC c dd gg).toArray 45)).alloc z6:=⟨_,rfl⟩
 have hB:Below w.heap.size w W:=by rw [hW];exact aw _ _ _
 have hX:R.Bx W w.heap.size (R.cC c dd gg):=by rw [hW];exact R.Bx.later (ab _ _) (R.Bx.new w (R.cC c dd gg) 45)
 have hZ:Zr W (w.heap.size+1):=by rw [hW];have:=Zr.new (w.alloc (Obj.cells (R.cC c dd gg).toArray 45));simpa using this
 have h2:=h.later hB
 have HC:=aa (λ(U:World) (hU:Below W.heap.size W U)=>tE (h2.later hU) (bG c) hw ho)
 have HQ:Hid ((fa true s (bG c)).code≠0->L.Tr (fa true s (bG c)).s.X (fa true s (bG c)).s.l d):=λe=>by rw [od e];exact ht
 unfold dR
 generalize fa true s (bG c)=A at *
 unfold bG at HC
 have HS:Hid (∀U {s d},aF U H s d N->ae N W U->U.cell? ⟨H.kb,11,none⟩=some (.pointer (some ⟨H.z.s,0,none⟩))/\U.cell? ⟨H.kb,12,none⟩=some (.pointer (some ⟨H.A.g,0,none⟩))/\U.cell? ⟨H.kb,13,none⟩=some (.pointer (some ⟨H.qg,0,none⟩))/\U.cell? ⟨w.heap.size,3,none⟩=some (.int .i64 c.obj)/\U.cell? ⟨w.heap.size,4,none⟩=some (.int .u64 (c.hi:Int))/\U.cell? ⟨w.heap.size,5,none⟩=some (.int .u64 (c.lo:Int))):=λU s d hd hb=>by
  have:=Cb.of (R.Bx.but hb hX (h.new (Nat.le_refl _)))
  exact⟨hd.kb 11 _ rfl,hd.kb 12 _ rfl,hd.kb 13 _ rfl,this.c3,this.c4,this.c5⟩
 have H0:=aa (λU (hU:ae (λ_=>False) W U)=>HS.o U (h2.but hU (λ_ _ h=>h) (λh=>h)) (hU.mono (λ_ h=>h.elim)))
 have HW:=aa hW
 have HB:=aa hB
 have HX:=aa hX
 have HZ:=aa hZ
 have HD:=aa h2
 have HP:Hid (0<w.heap.size):=by have:=h.b0;unfold Hid;omega
 have HN:=aa (λk hk=>h.new (k:=k) hk)
 clear h h2 hB hX hZ hW
 go_enter func60,ntmps60
 go_upto_region 1 with fail
 rw [<-HW.o]
 go_region_held3 (λU=>U.cell? ⟨H.kb,11,none⟩=some (.pointer (some ⟨H.z.s,0,none⟩))/\U.cell? ⟨H.kb,12,none⟩=some (.pointer (some ⟨H.A.g,0,none⟩))/\U.cell? ⟨H.kb,13,none⟩=some (.pointer (some ⟨H.qg,0,none⟩))/\U.cell? ⟨w.heap.size,3,none⟩=some (.int .i64 c.obj)/\U.cell? ⟨w.heap.size,4,none⟩=some (.int .u64 (c.hi:Int))/\U.cell? ⟨w.heap.size,5,none⟩=some (.int .u64 (c.lo:Int))) (first|exact H0.o _ (ae.of (Below.refl _ _).drew)|exact HE.o) (first
   | (go_at_call 106;refine (HC.o _ (Below.refl _ _).drew).mono ?_;rintro e w2 ⟨a_,c_,rfl,-,hd_,hb_⟩;have HB2:Hid (ae N W w2):=(ae.of (S:=N) (Below.refl W.heap.size W).drew).trans hb_;have HE:=aa (HS.o w2 hd_ HB2.o);have HDr:=aa (ke hd_ A.code HQ.o);clear hd_ hb_))
 go_upto_region 2 with fail
 go_upto_region 3 with (first|(go_at_call 107;refine HDr.o.mono ?_;rintro e w3 ⟨rfl,T,hd3,ht3,hb3⟩;have HD3:=aa hd3;have HT3:=aa ht3;have HB3:Hid (ae N W w3):=HB2.o.trans hb3;have HZ9:=aa (HZ.o.but HB3.o (HN.o _ (by omega)));have HS9:=aa (HZ9.o.st (rep A.code) none 0 0);have HL9:=aa (HZ9.o.lv (rep A.code) none 0 0);clear hd3 ht3 hb3)|((with_reducible refine aY HS9.o ?_ ?_ ?_);(· rfl);(· rfl)))
 have HB9:Hid (ae (·=w.heap.size+1) w3 (w3.setCells (w.heap.size+1) 0 (fK (rep A.code) none 0 0))):=R.iK (S:=(·=w.heap.size+1)) rfl _ 0 (ae.refl _ _)
 exact bodyPost_ret (v:=dO (rep A.code) none 0 0) (by simp [results,results60,asAddr,HL9.o]) rfl ⟨rfl,T,HD3.o.but HB9.o (λk hk e=>HN.o k (by omega) hk) (λe=>by have:0=w.heap.size+1:=e;omega),HT3.o,((ae.of HB.o).trans HB3.o).comp HB9.o (λi e=>.inr (by omega))⟩
theorem uk (h:aF w H s d N)(ht:L.Tr s.X s.l d)(ho:S.aW c.obj)(hw:c.hi<ak/\c.lo<ak) :
  Calls prog 62 #[.pointer (some ⟨H.kb,0,none⟩),.agg (R.cC c dd gg).toArray] w λe w'=>e=.returned (dO (dR false s (bG c)).1 none 0 0)/\∃T,aF w' H (dR false s (bG c)).2 T N/\L.Tr (dR false s (bG c)).2.X (dR false s (bG c)).2.l T/\ae N w w':=by
 obtain⟨W,hW⟩:∃W,W=(w.alloc (Obj.cells (R.cC c dd gg).toArray 45)).alloc z6:=⟨_,rfl⟩
 have hB:Below w.heap.size w W:=by rw [hW];exact aw _ _ _
 have hX:R.Bx W w.heap.size (R.cC c dd gg):=by rw [hW];exact R.Bx.later (ab _ _) (R.Bx.new w (R.cC c dd gg) 45)
 have hZ:Zr W (w.heap.size+1):=by rw [hW];have:=Zr.new (w.alloc (Obj.cells (R.cC c dd gg).toArray 45));simpa using this
 have h2:=h.later hB
 have HC:=aa (λ(U:World) (hU:Below W.heap.size W U)=>vU (h2.later hU) (bG c) hw ho)
 have HQ:Hid ((fa false s (bG c)).code≠0->L.Tr (fa false s (bG c)).s.X (fa false s (bG c)).s.l d):=λe=>by rw [od e];exact ht
 unfold dR
 generalize fa false s (bG c)=A at *
 unfold bG at HC
 have HS:Hid (∀U {s d},aF U H s d N->ae N W U->U.cell? ⟨H.kb,11,none⟩=some (.pointer (some ⟨H.z.s,0,none⟩))/\U.cell? ⟨H.kb,12,none⟩=some (.pointer (some ⟨H.A.g,0,none⟩))/\U.cell? ⟨H.kb,13,none⟩=some (.pointer (some ⟨H.qg,0,none⟩))/\U.cell? ⟨w.heap.size,3,none⟩=some (.int .i64 c.obj)/\U.cell? ⟨w.heap.size,4,none⟩=some (.int .u64 (c.hi:Int))/\U.cell? ⟨w.heap.size,5,none⟩=some (.int .u64 (c.lo:Int))):=λU s d hd hb=>by
  have:=Cb.of (R.Bx.but hb hX (h.new (Nat.le_refl _)))
  exact⟨hd.kb 11 _ rfl,hd.kb 12 _ rfl,hd.kb 13 _ rfl,this.c3,this.c4,this.c5⟩
 have H0:=aa (λU (hU:ae (λ_=>False) W U)=>HS.o U (h2.but hU (λ_ _ h=>h) (λh=>h)) (hU.mono (λ_ h=>h.elim)))
 have HW:=aa hW
 have HB:=aa hB
 have HX:=aa hX
 have HZ:=aa hZ
 have HD:=aa h2
 have HP:Hid (0<w.heap.size):=by have:=h.b0;unfold Hid;omega
 have HN:=aa (λk hk=>h.new (k:=k) hk)
 clear h h2 hB hX hZ hW
 go_enter func62,ntmps62
 go_upto_region 1 with fail
 rw [<-HW.o]
 go_region_held3 (λU=>U.cell? ⟨H.kb,11,none⟩=some (.pointer (some ⟨H.z.s,0,none⟩))/\U.cell? ⟨H.kb,12,none⟩=some (.pointer (some ⟨H.A.g,0,none⟩))/\U.cell? ⟨H.kb,13,none⟩=some (.pointer (some ⟨H.qg,0,none⟩))/\U.cell? ⟨w.heap.size,3,none⟩=some (.int .i64 c.obj)/\U.cell? ⟨w.heap.size,4,none⟩=some (.int .u64 (c.hi:Int))/\U.cell? ⟨w.heap.size,5,none⟩=some (.int .u64 (c.lo:Int))) (first|exact H0.o _ (ae.of (Below.refl _ _).drew)|exact HE.o) (first
   | (go_at_call 109;refine (HC.o _ (Below.refl _ _).drew).mono ?_;rintro e w2 ⟨a_,c_,rfl,-,hd_,hb_⟩;have HB2:Hid (ae N W w2):=(ae.of (S:=N) (Below.refl W.heap.size W).drew).trans hb_;have HE:=aa (HS.o w2 hd_ HB2.o);have HDr:=aa (ke hd_ A.code HQ.o);clear hd_ hb_))
 go_upto_region 2 with fail
 go_upto_region 3 with (first|(go_at_call 107;refine HDr.o.mono ?_;rintro e w3 ⟨rfl,T,hd3,ht3,hb3⟩;have HD3:=aa hd3;have HT3:=aa ht3;have HB3:Hid (ae N W w3):=HB2.o.trans hb3;have HZ9:=aa (HZ.o.but HB3.o (HN.o _ (by omega)));have HS9:=aa (HZ9.o.st (rep A.code) none 0 0);have HL9:=aa (HZ9.o.lv (rep A.code) none 0 0);clear hd3 ht3 hb3)|((with_reducible refine aY HS9.o ?_ ?_ ?_);(· rfl);(· rfl)))
 have HB9:Hid (ae (·=w.heap.size+1) w3 (w3.setCells (w.heap.size+1) 0 (fK (rep A.code) none 0 0))):=R.iK (S:=(·=w.heap.size+1)) rfl _ 0 (ae.refl _ _)
 exact bodyPost_ret (v:=dO (rep A.code) none 0 0) (by simp [results,results62,asAddr,HL9.o]) rfl ⟨rfl,T,HD3.o.but HB9.o (λk hk e=>HN.o k (by omega) hk) (λe=>by have:0=w.heap.size+1:=e;omega),HT3.o,((ae.of HB.o).trans HB3.o).comp HB9.o (λi e=>.inr (by omega))⟩
end
section
variable {p:Pm}{s:aI}{d:Nat->List K.Pu}
theorem nO (h:D.Fit p.d s.d)(o:Int)(Dr:Nat×Int×Nat)(q r:Int)(hy:Q.may p.e (p.mo:Int) s.L o=0->Dr.2.1=0->D.EY p.d s.d (D.cap o Dr.1) q r) :
  ((D.fR p.d s.d o Dr q r).code≠0/\(D.fR p.d s.d o Dr q r).c=(0,0,0)/\((D.fR p.d s.d o Dr q r).s=s.d\/(D.fR p.d s.d o Dr q r).s={ s.d with t:=Dr.2.2 })) \/
  ((D.fR p.d s.d o Dr q r).code=0/\(D.fR p.d s.d o Dr q r).c=D.cap o Dr.1/\(D.fR p.d s.d o Dr q r).s=D.qF s.d o Dr.1 q r Dr.2.2/\D.EY p.d s.d (D.cap o Dr.1) q r/\gF p.mo s.X s.l q (D.cap o Dr.1) r=⟨(low s.l:Int),0,s.X.set (low s.l) (D.cap o Dr.1,r),s.l++[((low s.l:Int),q)]⟩/\s.l.length<p.mo):=by
 unfold D.fR
 by_cases hm:Q.may p.d.e p.d.a s.d.L o≠0
 ·rw [if_pos hm];exact .inl ⟨hm,rfl,.inl rfl⟩
 ·rw [if_neg hm]
  have hm0:Q.may p.d.e p.d.a s.d.L o=0:=by simpa using hm
  by_cases hd:Dr.2.1≠0
  ·rw [if_pos hd];exact .inl ⟨hd,rfl,.inr rfl⟩
  ·rw [if_neg hd]
   have hy:=hy hm0 (by simpa using hd)
   exact .inr ⟨rfl,rfl,rfl,hy,D.pQ h hm0 hy.new,h.room hm0⟩
theorem KF.put (h:KF p s){a:D.aI}(hf:D.Fit p.d a)(ho:∀o,dB a.X a.l o=true↔dB s.X s.l o=true):KF p (jM s a) :=
 ⟨⟨hf.inv,hf.mW,hf.len,λo=>(h.fit.obj o).trans (ho o).symm,h.fit.ids⟩,hf.le,h.cs,h.iv,h.ln,h.wd,h.lm,h.ks,h.nx⟩
theorem KF.d_ (h:KF p s):D.Fit p.d s.d:=⟨h.fit.inv,h.fit.mW,h.fit.len,Int.le_refl _,h.le,h.cs⟩
theorem rD (h:KF p s){o:Int}{N:Nat}{q r:Int}{t:Nat}(hl:s.l.length<p.mo)(x:Int):dB (D.qF s.d o N q r t).X (D.qF s.d o N q r t).l x=true↔(x=o\/dB s.X s.l x=true):=by
 rw [D.dx,D.dx]
 have:=D.vA h.fit.inv q (D.cap o N) r (te h.fit.inv.ok hl) (fz s.l) x
 show 0<jE (s.X.set (low s.l) (D.cap o N,r)) (s.l++[((low s.l:Int),q)]) x↔_
 rw [this]
 by_cases e:(D.cap o N).1=x
 ·rw [if_pos e];exact⟨λ_=>.inl e.symm,λ_=>by omega⟩
 ·rw [if_neg e]
  exact⟨λh=>.inr h,λh=>h.elim (λe2=>absurd e2.symm e) (λh=>h)⟩
theorem FG (h:KF p s):¬0<jE s.X s.l s.nx:=λe=>by
 have h1:=(h.fit.obj s.nx).2 (D.dx.2 e)
 obtain⟨x,hx,e2⟩:=h1
 have:=(h.fit.ids x hx).2
 omega
theorem tc (h:KF p s):((D.bg p.d s.d s.nx).code≠0/\jM s (D.bg p.d s.d s.nx).s=s) \/
  ((D.bg p.d s.d s.nx).code=0/\s.t<p.n/\(D.bg p.d s.d s.nx).c=D.cap s.nx (p.c s.t)/\(D.bg p.d s.d s.nx).s=D.qF s.d s.nx (p.c s.t) (-1) 31 (s.t+1)/\D.EY p.d s.d (D.cap s.nx (p.c s.t)) (-1) 31/\gF p.mo s.X s.l (-1) (D.cap s.nx (p.c s.t)) 31=⟨(low s.l:Int),0,s.X.set (low s.l) (D.cap s.nx (p.c s.t),31),s.l++[((low s.l:Int),-1)]⟩/\s.l.length<p.mo):=by
 have hn:=FG h
 unfold D.bg
 rw [if_neg (show ¬0<jE s.d.X s.d.l s.nx from hn)]
 have ht:=nO h.d_ s.nx (D.cL p.d s.t) (-1) 31 (λ_ _=>D.vC h.d_ hn (D.gI h.d_ s.t))
 by_cases hlt:s.t<p.n
 ·have e:D.cL p.d s.t=(p.c s.t,0,s.t+1):=by unfold D.cL;rw [if_pos (show s.t<p.d.n from hlt)];rfl
  have e2:D.cL p.d s.d.t=(p.c s.t,0,s.t+1):=e
  rw [e] at ht
  rw [e2]
  rcases ht with ⟨h1,_,h2|h2⟩|⟨h1,h2,h3,h4,h5,h6⟩
  ·exact .inl ⟨h1,by rw [h2];rfl⟩
  ·by_cases hm:Q.may p.d.e p.d.a s.d.L s.nx≠0
   ·refine .inl ⟨h1,?_⟩
    unfold D.fR
    rw [if_pos hm];rfl
   ·exact absurd (by unfold D.fR;rw [if_neg hm,if_neg (λ(e:(0:Int)≠0)=>e rfl)]) h1
  ·exact .inr ⟨h1,hlt,h2,h3,h4,h5,h6⟩
 ·have e:D.cL p.d s.t=(0,11,s.t):=by unfold D.cL;rw [if_neg (show ¬s.t<p.d.n from hlt)]
  have e2:D.cL p.d s.d.t=(0,11,s.t):=e
  rw [e] at ht
  rw [e2]
  refine .inl ?_
  rcases ht with ⟨h1,_,h2|h2⟩|⟨h1,_⟩
  ·exact⟨h1,by rw [h2];rfl⟩
  ·exact⟨h1,by rw [h2];rfl⟩
  ·exfalso
   unfold D.fR at h1
   by_cases hm:Q.may p.d.e p.d.a s.d.L s.nx≠0
   ·rw [if_pos hm] at h1;exact hm h1
   ·rw [if_neg hm,if_pos (show (11:Int)≠0 by decide)] at h1;exact absurd (show (11:Int)=0 from h1) (by decide)
theorem AL {V:List (Int×List Nat)}{x:Int×List Nat}{o:Int}:(∃q∈V++[x],q.1=o)↔(o=x.1\/∃q∈V,q.1=o):=by
 constructor
 ·rintro ⟨q,hq,e⟩
  rcases List.mem_append.1 hq with h|h
  ·exact .inr ⟨q,h,e⟩
  ·rw [List.mem_singleton.1 h] at e;exact .inl e.symm
 ·rintro (e|⟨q,hq,e⟩)
  ·exact⟨x,by simp,e.symm⟩
  ·exact⟨q,by simp [hq],e⟩
theorem Gb {p:Pm}{size:Int}(hm:S.fF p.room p.sv s.nx s.V size=0):s.nx<=4611686018427387904:=by
 unfold S.fF at hm
 by_cases h1:size<0\/4096<size
 ·rw [if_pos h1] at hm;exact absurd hm (by decide)
 ·rw [if_neg h1] at hm
  by_cases h2:p.room<=s.V.length\/4611686018427387904<s.nx
  ·rw [if_pos h2] at hm;exact absurd hm (by decide)
  ·omega
theorem Gz (h:KF p s)(ht:L.Tr s.X s.l d)(size:Int):KF p (xy p s size).2/\L.Tr (xy p s size).2.X (xy p s size).2.l d:=by
 unfold xy
 by_cases hm:S.fF p.room p.sv s.nx s.V size≠0
 ·rw [if_pos hm];exact⟨h,ht⟩
 ·rw [if_neg hm]
  have hm0:S.fF p.room p.sv s.nx s.V size=0:=by simpa using hm
  rcases tc h with ⟨h1,h2⟩|⟨h1,h2,h3,h4,h5,h6,hl⟩
  ·rw [if_pos h1,h2];exact⟨h,ht⟩
  ·rw [if_neg (by simpa using h1)]
   have hF:=D.Fit.root h.d_ s.nx
   have hnx:=h.nx
   have hnx2:=Gb hm0
   rw [h4] at hF ⊢
   refine⟨⟨⟨hF.inv,hF.mW,hF.len,λo=>?_,λq hq=>?_⟩,hF.le,h.cs,h.iv,h.ln,h.wd,h.lm,h.ks,⟨by show 1<=s.nx+1;omega,by show s.nx+1<=_;omega⟩⟩,?_⟩
   ·show (∃q∈s.V++[(s.nx,List.replicate size.toNat 0)],q.1=o)↔_
    rw [AL]
    exact (or_congr Iff.rfl (h.fit.obj o)).trans (rD (t:=s.t+1) h hl o).symm
   ·show 1<=q.1/\q.1<s.nx+1
    rcases List.mem_append.1 (show q∈s.V++[(s.nx,List.replicate size.toNat 0)] from hq) with h7|h7
    ·have:=h.fit.ids q h7;omega
    ·rw [List.mem_singleton.1 h7];simp;omega
   ·have:=L.Tr.add (m:=p.mo) ht h.fit.inv (-1) (D.cap s.nx (p.c s.t)) 31 (by rw [h6];exact hF.inv)
    rw [h6] at this
    exact this
theorem Gu (h:KF p s)(ht:L.Tr s.X s.l d)(c:Cp)(r:Int):KF p (rY p s c r).2/\L.Tr (rY p s c r).2.X (rY p s c r).2.l d:=by
 unfold rY
 have hF:=D.Fit.child h.d_ c r
 have hcase:((D.bF p.d s.d c r).s=s.d\/∃t,(D.bF p.d s.d c r).s={ s.d with t:=t })\/∃N t,aK s.X s.l c=true/\(D.bF p.d s.d c r).s=D.qF s.d c.1 N (aB s.X s.l c) r t/\D.EY p.d s.d (D.cap c.1 N) (aB s.X s.l c) r/\gF p.mo s.X s.l (aB s.X s.l c) (D.cap c.1 N) r=⟨(low s.l:Int),0,s.X.set (low s.l) (D.cap c.1 N,r),s.l++[((low s.l:Int),aB s.X s.l c)]⟩/\s.l.length<p.mo:=by
  unfold D.bF
  by_cases h1:aK s.d.X s.d.l c=false
  ·rw [if_pos h1];exact .inl (.inl rfl)
  ·rw [if_neg h1]
   by_cases h2:aA 4 (D.eV s.d c)=false\/aA r (D.eV s.d c)=false
   ·rw [if_pos h2];exact .inl (.inl rfl)
   ·rw [if_neg h2]
    have hc:aK s.d.X s.d.l c=true:=by simpa using h1
    have hp:aA r (D.eV s.d c)=true:=by
     cases hq:aA r (D.eV s.d c) with
     | true=>rfl
     | false=>exact absurd (.inr hq) h2
    rcases nO h.d_ c.1 (D.cB p.d s.d c.1) (aB s.X s.l c) r (λ_ hd=>D.rX h.d_ hc hp hd) with ⟨_,_,h3|h3⟩|⟨_,_,h3,h4,h5,h6⟩
    ·exact .inl (.inl h3)
    ·exact .inl (.inr ⟨_,h3⟩)
    ·exact .inr ⟨_,_,hc,h3,h4,h5,h6⟩
 rcases hcase with (h1|⟨t,h1⟩)|⟨N,t,hc,h1,h2,h3,hl⟩
 ·rw [h1] at hF ⊢;exact⟨h.put hF (λ_=>Iff.rfl),ht⟩
 ·rw [h1] at hF ⊢;exact⟨h.put hF (λ_=>Iff.rfl),ht⟩
 ·rw [h1] at hF ⊢
  refine⟨h.put hF (λo=>(rD h hl o).trans ⟨λe=>e.elim (λe=>by rw [e];exact cM hc) (λe=>e),λe=>.inr e⟩),?_⟩
  have:=L.Tr.add (m:=p.mo) ht h.fit.inv (aB s.X s.l c) (D.cap c.1 N) r (by rw [h3];exact hF.inv)
  rw [h3] at this
  exact this
theorem uQ (h:KF p s)(all:Bool)(c:Cp)(hi:Inv p.mo (dR all s c).2.X (dR all s c).2.l):KF p (dR all s c).2:=by
 unfold dR fa at hi ⊢
 by_cases h1:aK s.X s.l c=false
 ·rw [if_pos h1];exact h
 ·rw [if_neg h1] at hi ⊢
  by_cases h2:aA (uU all) (rg s.X (aB s.X s.l c))=false
  ·rw [if_pos h2];exact h
  ·rw [if_neg h2] at hi ⊢
   have hw:=uD h.fit.inv (by simpa using h1) all
   exact⟨(ug h.fit hw.1 hw.2.1 hi).1,h.le,h.cs,h.iv,h.ln,h.wd,h.lm,h.ks,h.nx⟩
theorem vH (V:List (Int×List Nat))(id off:Int)(Q:List Nat):(S.yu V id off Q).map Prod.fst=V.map Prod.fst:=by
 unfold S.yu
 split
 ·rw [List.map_map]
  refine List.map_congr_left (λx _=>?_)
  simp only [Function.comp,S.iH]
  split<;>rfl
 ·rfl
theorem zV {V:List (Int×List Nat)}{P:Int->Prop}:(∃q∈V,P q.1)↔∃i∈V.map Prod.fst,P i:=by simp
theorem zh (h:KF p s)(id off:Int)(Q:List Nat):KF p { s with V:=S.yu s.V id off Q } :=
 ⟨⟨h.fit.inv,h.fit.mW,h.fit.len,λo=>by
   show (∃q∈S.yu s.V id off Q,q.1=o)↔_
   rw [zV (P:=(·=o)),vH,<-zV (P:=(·=o))];exact h.fit.obj o,λq hq=>by
   have h1:q.1∈(S.yu s.V id off Q).map Prod.fst:=List.mem_map.2 ⟨q,hq,rfl⟩
   rw [vH] at h1
   obtain⟨x,hx,e⟩:=List.mem_map.1 h1
   rw [<-e];exact h.fit.ids x hx⟩,h.le,h.cs,h.iv,h.ln,h.wd,h.lm,h.ks,h.nx⟩
theorem uH (h:KF p s)(i:Int)(Q:List Cp)(h1:(Q.length:Int)<=p.lm)(h2:∀c∈Q,c.2.1<ak/\c.2.2<ak):KF p { s with D:=fT s.D i Q } :=
 ⟨⟨h.fit.inv,h.fit.mW,h.fit.len,h.fit.obj,h.fit.ids⟩,h.le,h.cs,h.iv,λj hj=>by
   show ((fT s.D i Q j).length:Int)<=p.lm
   unfold fT;split
   ·exact h1
   ·exact h.ln j hj,λj hj c hc=>by
   have hc':c∈fT s.D i Q j:=hc
   unfold fT at hc';split at hc'
   ·exact h2 c hc'
   ·exact h.wd j hj c hc',h.lm,h.ks,h.nx⟩
theorem G9 (h:KF p s)(i:Int)(hi:i∈s.P)(c:Cp)(hw:c.2.1<ak/\c.2.2<ak):KF p (CZ p s i c).2:=by
 unfold CZ
 by_cases h1:re p.W c=false
 ·rw [if_pos h1];exact h
 ·rw [if_neg h1]
  by_cases h2:p.lm<=((s.D i).length:Int)
  ·rw [if_pos h2];exact h
  ·rw [if_neg h2]
   refine uH h i _ (by simp;omega) (λx hx=>?_)
   rcases List.mem_append.1 hx with h3|h3
   ·exact h.wd i hi x h3
   ·rw [List.mem_singleton.1 h3];exact hw
theorem GY (h:KF p s)(i:Int)(hi:i∈s.P)(x:Int):KF p (fV s i x).2:=by
 unfold fV
 by_cases h1:M.jB (s.D i) x=false
 ·rw [if_pos h1];exact h
 ·rw [if_neg h1]
  refine uH h i _ ?_ (λy hy=>?_)
  ·have:=h.ln i hi
   simp only [List.length_append,List.length_take,List.length_drop]
   omega
  ·rcases List.mem_append.1 hy with h3|h3
   ·exact h.wd i hi y (List.mem_of_mem_take h3)
   ·exact h.wd i hi y (List.mem_of_mem_drop h3)
theorem A_ {m:Int}{Q:List Cp}{G:List Int}(hv:M.bt m Q G=0):((M.cu m Q G).length:Int)<=m:=by
 unfold M.cu
 rw [if_pos hv,List.length_map]
 unfold M.bt at hv
 by_cases ha:G.all (M.jB Q)=true
 ·rw [if_pos ha] at hv
  by_cases hb:m<(G.length:Int)
  ·rw [if_pos hb] at hv;exact absurd hv (by decide)
  ·omega
 ·rw [if_neg ha] at hv;exact absurd hv (by decide)
theorem BK {m:Int}{Q:List Cp}{G:List Int}(hv:M.bt m Q G=0):∀c∈M.cu m Q G,c∈Q:=by
 unfold M.cu
 rw [if_pos hv]
 have ha:G.all (M.jB Q)=true:=by
  cases hq:G.all (M.jB Q) with
  | true=>rfl
  | false=>rw [(M.rC hq).1] at hv;exact absurd hv (by decide)
 intro c hc
 obtain⟨x,hx,rfl⟩:=List.mem_map.1 hc
 obtain⟨k,_,hk,hk2⟩:=M.Ao (List.all_eq_true.1 ha x hx)
 exact List.mem_of_getElem? hk2
theorem FV (h:KF p s)(i:Int)(hi:i∈s.P)(G:List Int):KF p (DO p s i G).2:=by
 unfold DO
 by_cases h1:M.bt p.lm (s.D i) G≠0
 ·rw [if_pos h1];exact h
 ·rw [if_neg h1]
  have h10:M.bt p.lm (s.D i) G=0:=by simpa using h1
  by_cases h2:P.dy p.pm s.px s.P=true
  ·rw [if_pos h2];exact h
  ·rw [if_neg h2]
   have hiv:=h.iv.spawn
   have e3:P.As p.pm s.px s.P=s.px+1:=by unfold P.As;rw [if_neg h2]
   have e4:P.yN p.pm s.px s.P=s.P++[s.px]:=by unfold P.yN;rw [if_neg h2]
   rw [e3,e4] at hiv
   refine⟨⟨h.fit.inv,h.fit.mW,h.fit.len,h.fit.obj,h.fit.ids⟩,h.le,h.cs,hiv,λj hj=>?_,λj hj c hc=>?_,h.lm,by show s.ks++[s.px]=s.P++[s.px];rw [h.ks],h.nx⟩
   ·show ((fT s.D s.px _ j).length:Int)<=p.lm
    unfold fT;split
    ·exact A_ h10
    ·rename_i hne
     rcases List.mem_append.1 hj with h5|h5
     ·exact h.ln j h5
     ·exact absurd (List.mem_singleton.1 h5) hne
   ·have hc':c∈fT s.D s.px (M.cu p.lm (s.D i) G) j:=hc
    unfold fT at hc';split at hc'
    ·exact h.wd i hi c (BK h10 c hc')
    ·rename_i hne
     rcases List.mem_append.1 hj with h5|h5
     ·exact h.wd j h5 c hc'
     ·exact absurd (List.mem_singleton.1 h5) hne
theorem GU (h:KF p s)(i:Int):KF p (EN s i).2 :=
 ⟨⟨h.fit.inv,h.fit.mW,h.fit.len,h.fit.obj,h.fit.ids⟩,h.le,h.cs,h.iv.exit i,λj hj=>h.ln j (P.iZ.1 hj).1,λj hj=>h.wd j (P.iZ.1 hj).1,h.lm,by show P.out s.ks i=P.out s.P i;rw [h.ks],h.nx⟩
end
open Go.Proofs.YtfmhdimaijimlaaGreatDoor.M (bh)
section
variable {w w':World}{H:Hd}{s s':aI}{d d':Nat->List K.Pu}{O:Nat->Nat->Prop}{N:Nat->Prop}{c:R.Cl}{dd gg:R.Sl}{b:Nat}
theorem mr (h:aF w H s d N)(ht:L.Tr s.X s.l d)(hf:KF H.p s)(hw:c.hi<ak/\c.lo<ak)(hby:c.au∈s.P)(ho:S.aW c.obj)(hv:cF s c.given c.au (bG c) 2=0)(hR:Row w dd.a dd.n dd.c (S.aM c.data))(hD:∀x∈c.data,x<256)(hap:0<dd.n->∀j,aD dd.a j->¬N j/\j<w.heap.size) :
  Calls prog 64 #[.pointer (some ⟨H.kb,0,none⟩),.agg (R.cC c dd gg).toArray] w λe w'=>∃T,e=.returned (dO (rep (S.sl s.V c.obj c.off (dd.n:Int))) none 0 0)/\aF w' H { s with V:=S.yu s.V c.obj c.off c.data } T N/\L.Tr s.X s.l T/\ae N w w':=by
 obtain⟨W,hW⟩:∃W,W=(w.alloc (Obj.cells (R.cC c dd gg).toArray 45)).alloc z6:=⟨_,rfl⟩
 have hB:Below w.heap.size w W:=by rw [hW];exact aw _ _ _
 have hX:R.Bx W w.heap.size (R.cC c dd gg):=by rw [hW];exact R.Bx.later (ab _ _) (R.Bx.new w (R.cC c dd gg) 45)
 have hZ:Zr W (w.heap.size+1):=by rw [hW];have:=Zr.new (w.alloc (Obj.cells (R.cC c dd gg).toArray 45));simpa using this
 have h2:=h.later hB
 have HC:=aa (bp (dd:=dd) (gg:=gg) h2 ht hf 2 hw hby)
 have HLd:=aa (EH hX)
 have hq:(cF s c.given c.au (bG c) 2 != 0)=false:=by simpa using hv
 rw [hv] at HC
 have HO:=aa ho
 obtain⟨E,hE⟩:∃E,E=S.sl s.V c.obj c.off (dd.n:Int):=⟨_,rfl⟩
 rw [<-hE]
 have HEq:=aa hE
 have HAp:=aa hap
 have HRw:=aa (Row.later hB hR)
 have HDd:=aa hD
 have HW:=aa hW
 have HB:=aa hB
 have HX:=aa hX
 have HZ:=aa hZ
 have HD:=aa h2
 have HP:Hid (0<w.heap.size):=by have:=h.b0;unfold Hid;omega
 have HN:=aa (λk hk=>h.new (k:=k) hk)
 clear h h2 hB hX hZ hW ht hf hv hq ho hE hap hR hD
 go_enter func64,ntmps64
 go_upto_region 1 with fail
 rw [<-HW.o]
 go_upto_region 2 with (first|((with_reducible refine R.aP HLd.o ?_ ?_);(· rfl))|(go_at_call 110;refine HC.o.mono ?_;rintro e w1 ⟨rfl,T,hd1,ht1,hb1⟩;have HD1:=aa hd1;have HT1:=aa ht1;have HB1:Hid (ae N W w1):=hb1;clear hd1 ht1 hb1))
 have HX1:=aa (R.Bx.but HB1.o HX.o (HN.o _ (Nat.le_refl _)))
 have HZ1:=aa (HZ.o.but HB1.o (HN.o _ (by omega)))
 have HR1:Hid (Row w1 dd.a dd.n dd.c (S.aM c.data)):=AO HRw.o HB1.o (λh0 k hk=>(HAp.o h0 k hk).1)
 have HWr:=aa (λ(U:World) (hU:Below w1.heap.size w1 U)=>FF (HD1.o.later hU) c.obj c.off dd.a dd.n dd.c c.data HO.o (Row.later hU HR1.o) HDd.o (λh0 k hk=>(HAp.o h0 k hk).1))
 rw [<-HEq.o] at HWr
 have HSS:Hid (∀U {s d},aF U H s d N->ae (λk=>N k\/k=w.heap.size+1) w1 U->U.cell? ⟨H.kb,11,none⟩=some (.pointer (some ⟨H.z.s,0,none⟩))/\U.cell? ⟨w.heap.size,3,none⟩=some (.int .i64 c.obj)/\U.cell? ⟨w.heap.size,8,none⟩=some (.int .i64 c.off)/\U.cell? ⟨w.heap.size,10,none⟩=some (dd.v)):=λU s d hd hb=>by
  have:=Cb.of (R.Bx.but hb HX1.o (λe=>e.elim (HN.o _ (Nat.le_refl _)) (λe=>by omega)))
  exact⟨hd.kb 11 _ rfl,this.c3,this.c8,this.JF⟩
 have H01:=aa (λU (hU:ae (λ_=>False) w1 U)=>HSS.o U (HD1.o.but hU (λ_ _ h=>h) (λh=>h)) (hU.mono (λ_ h=>h.elim)))
 clear HC HLd
 go_upto_region 4 with fail
 refine wp_region_held_drew (S:=(λU:World=>U.cell? ⟨H.kb,11,none⟩=some (.pointer (some ⟨H.z.s,0,none⟩))/\U.cell? ⟨w.heap.size,3,none⟩=some (.int .i64 c.obj)/\U.cell? ⟨w.heap.size,8,none⟩=some (.int .i64 c.off)/\U.cell? ⟨w.heap.size,10,none⟩=some (dd.v))) (by kernel_rfl) (H01.o _ (ae.of (Below.refl _ _).drew)) (λhHeld=>?_)
 refine nH (bm 14 0) 14 ?_
 refine tH 0 (v:=?_) rfl (λ_ _ _ h=>h) ?_ ?_;rotate_left
 ·(intro w hSw;(try dsimp only at hSw);go_simp;try with_reducible rfl)
 try simp only [gz,Act.put]
 refine nH (bm 14 1) 13 ?_
 refine tH 1 (v:=?_) rfl (λ_ _ _ h=>h) ?_ ?_;rotate_left
 ·(intro w hSw;(try dsimp only at hSw);go_simp;try with_reducible rfl)
 try simp only [gz,Act.put]
 refine nH (bm 14 3) 12 ?_
 refine tH 2 (v:=?_) rfl (λ_ _ _ h=>h) ?_ ?_;rotate_left
 ·(intro w hSw;(try dsimp only at hSw);go_simp;try with_reducible rfl)
 try simp only [gz,Act.put]
 refine nH (bm 14 7) 11 ?_
 refine tH 3 (v:=?_) rfl (λ_ _ _ h=>h) ?_ ?_;rotate_left
 ·(intro w hSw;(try dsimp only at hSw);go_simp;try with_reducible rfl)
 try simp only [gz,Act.put]
 refine nH (bm 14 15) 10 ?_
 refine tH 4 (v:=?_) rfl (λ_ _ _ h=>h) ?_ ?_;rotate_left
 ·(intro w hSw;(try dsimp only at hSw);go_simp;try with_reducible rfl)
 try simp only [gz,Act.put]
 refine nH (bm 14 31) 9 ?_
 refine tH 5 (v:=?_) rfl (λ_ _ _ h=>h) ?_ ?_;rotate_left
 ·(intro w hSw;(try dsimp only at hSw);go_simp;try with_reducible rfl)
 try simp only [gz,Act.put]
 refine nH (bm 14 63) 8 ?_
 refine tH 6 (v:=?_) rfl (λ_ _ _ h=>h) ?_ ?_;rotate_left
 ·(intro w hSw;(try dsimp only at hSw);go_simp;try with_reducible rfl)
 try simp only [gz,Act.put]
 refine nH (bm 14 127) 7 ?_
 refine tH 7 (v:=?_) rfl (λ_ _ _ h=>h) ?_ ?_;rotate_left
 ·(intro w hSw;(try dsimp only at hSw);go_simp;try with_reducible rfl)
 try simp only [gz,Act.put]
 refine nH (bm 14 255) 6 ?_
 refine tH 8 (v:=?_) rfl (λ_ _ _ h=>h) ?_ ?_;rotate_left
 ·(intro w hSw;(try dsimp only at hSw);go_simp;try with_reducible rfl)
 try simp only [gz,Act.put]
 refine nH (bm 14 511) 5 ?_
 refine tH 9 (v:=?_) rfl (λ_ _ _ h=>h) ?_ ?_;rotate_left
 ·(intro w hSw;(try dsimp only at hSw);go_simp;try with_reducible rfl)
 try simp only [gz,Act.put]
 refine nH (bm 14 1023) 4 ?_
 refine tH 10 (v:=?_) rfl (λ_ _ _ h=>h) ?_ ?_;rotate_left
 ·(intro w hSw;(try dsimp only at hSw);go_simp;try with_reducible rfl)
 try simp only [gz,Act.put]
 refine nH (bm 14 2047) 3 ?_
 refine yH [11] ?_
 refine cH rfl λK hK=>?_
 go_simp
 go_wp2_with (first|(go_at_call 112;refine (HWr.o w1.drew (Below.refl _ _).drew).mono ?_;rintro e w2 ⟨rfl,hd2,hb2⟩;have HD2:=aa hd2;have HB2:Hid (ae N w1 w2):=(ae.of (Below.refl _ _).drew).trans hb2;have HE:=aa (λU (hU:ae (λk=>k=w.heap.size+1) w2 U)=>HSS.o U (hd2.but hU (λk hk e=>HN.o k (by omega) hk) (λe=>by have:=HP.o;omega)) (((HB2.o).mono (λk hk=>Or.inl hk)).comp hU (λi e=>.inl (.inr e))));have HZ9:=aa (HZ1.o.but HB2.o (HN.o _ (by omega)));have HL9:=aa (HZ9.o.lv (rep E) none 0 0);have HS9:=aa (HZ9.o.st (rep E) none 0 0);have HB9:Hid (ae (λk=>k=w.heap.size+1) w2 (w2.setCells (w.heap.size+1) 0 (fK (rep E) none 0 0))):=R.iK (S:=(λk=>k=w.heap.size+1)) rfl _ 0 (ae.refl _ _);clear hd2 hb2))
 refine hK.out _ _ (HE.o w2 (ae.refl _ _)) (λhHeld=>?_)
 clear hK K
 try simp only [gz,Act.put]
 refine nH (bm 14 4095) 2 ?_
 refine tH 12 (v:=?_) rfl (λ_ _ _ h=>h) ?_ ?_;rotate_left
 ·(intro w hSw;(try dsimp only at hSw);go_simp;try with_reducible rfl)
 try simp only [gz,Act.put]
 refine nH (bm 14 8191) 1 ?_
 refine yH [13] ?_
 refine cH rfl λK hK=>?_
 refine bS 41 (.tmp 4) (.tmp 25) rfl _ _ rfl rfl _ HS9.o ?_
 refine hK.out _ _ (HE.o _ HB9.o) (λhHeld=>?_)
 clear hK K
 try simp only [gz,Act.put]
 refine nH (bm 14 16383) 0 ?_
 refine wpAnyH_done (by kernel_rfl) ?_ _
 go_wp2
 exact bodyPost_ret (v:=dO (rep E) none 0 0) (by simp [results,results64,asAddr,HL9.o]) rfl ⟨T,rfl,HD2.o.but HB9.o (λk hk e=>HN.o k (by omega) hk) (λe=>by omega),HT1.o,((ae.of HB.o).trans (HB1.o.trans HB2.o)).comp HB9.o (λi e=>.inr (by omega))⟩
end
section
variable {w w':World}{H:Hd}{s s':aI}{d d':Nat->List K.Pu}{O:Nat->Nat->Prop}{N:Nat->Prop}{c:R.Cl}{dd gg:R.Sl}{b:Nat}
def Kn (w:World)(H:Hd)(s:aI)(N:Nat->Prop):Prop:=∃d,aF w H s d N/\L.Tr s.X s.l d/\KF H.p s/\1<=H.W
theorem Kn.later (h:Kn w H s N)(hb:Below w.heap.size w w'):Kn w' H s N:=by obtain⟨d,h1,h2⟩:=h;exact⟨d,h1.later hb,h2⟩
theorem Kn.but {B:Nat->Prop}(h:Kn w H s N)(hb:ae B w w')(hS:∀k,N k->¬B k)(h0:¬B 0):Kn w' H s N:=by obtain⟨d,h1,h2⟩:=h;exact⟨d,h1.but hb hS h0,h2⟩
theorem Kn.p6 (h:Kn w H s N):∀k,N k->H.base<=k/\k<w.heap.size:=by obtain⟨d,h1,h2⟩:=h;exact h1.p6
theorem Kn.new (h:Kn w H s N){k:Nat}(hk:w.heap.size<=k):¬N k:=by obtain⟨d,h1,h2⟩:=h;exact h1.new hk
theorem Kn.kf (h:Kn w H s N):KF H.p s:=by obtain⟨d,h1,h2,h3,_⟩:=h;exact h3
def cG (w:World)(H:Hd)(N:Nat->Prop)(R:cU×aI)(e:Ending)(w':World):Prop :=
 ∃a n cp N',e=.returned (dO R.1 a n cp)/\Own w' w.heap.size 5 a n cp (S.aM R.1.data)/\Kn w' H R.2 N'/\aH w N w' N'/\∀k,aD a k->¬N' k
theorem cG.plain {r:cU}{x:aI}{e:Ending}{N':Nat->Prop}(he:e=.returned (dO r none 0 0))(hr:r.data=[])(hk:Kn w' H x N')(hw:aH w N w' N'):cG w H N (r,x) e w' :=
 ⟨none,0,0,N',he,by rw [hr];exact Own.nil _ _ _,hk,hw,λk hk=>by obtain⟨_,h,_⟩:=hk;cases h⟩
structure Fd (w:World)(s:aI)(N:Nat->Prop)(c:R.Cl)(dd gg:R.Sl):Prop where
 is:R.Is w c dd gg
 fm:R.fm c=true
 au:c.au∈s.P
 ap:0<dd.n->∀j,aD dd.a j->¬N j
theorem Fd.dI (h:Fd w s N c dd gg):R.dI c=true:=by have:=h.fm;unfold R.fm at this;simp only [Bool.and_eq_true] at this;exact this.1.1.2
theorem Fd.obj (h:Fd w s N c dd gg):S.aW c.obj:=by
 have:=h.dI
 unfold R.dI at this
 simp only [Bool.and_eq_true] at this
 have h1:=R.fD.1 this.1.1.1.1.2
 unfold S.aW
 omega
theorem Fd.gn (h:Fd w s N c dd gg):c.an.length<=255:=by
 have:=h.dI
 unfold R.dI R.vk at this
 simp only [Bool.and_eq_true,decide_eq_true_eq] at this
 exact this.2.1
theorem Fd.hw (h:Fd w s N c dd gg):c.hi<ak/\c.lo<ak:=⟨h.is.hi,h.is.lo⟩
theorem Fd.row (h:Fd w s N c dd gg):Row w dd.a dd.n dd.c (S.aM c.data):=by
 have hd:=h.is.data
 exact⟨by unfold S.aM;rw [List.length_map];exact hd.len,hd.cap_,hd.none_,hd.cells,by unfold S.aM;intro u hu;obtain⟨x,_,rfl⟩:=List.mem_map.1 hu;rfl⟩
theorem Fd.an (h:Fd w s N c dd gg):Row w gg.a gg.n gg.c (ints c.an):=by
 have hd:=h.is.an
 exact⟨by unfold ints;rw [List.length_map];exact hd.len,hd.cap_,hd.none_,hd.cells,by unfold ints;intro u hu;obtain⟨x,_,rfl⟩:=List.mem_map.1 hu;rfl⟩
theorem Fd.op (h:Fd w s N c dd gg):1<=c.op/\c.op<=10:=by have:=h.fm;unfold R.fm at this;simp only [Bool.and_eq_true] at this;exact R.fD.1 this.1.1.1
def jJ:Nat->Nat
 | 1=>59
 | 2=>60
 | 3=>61
 | 4=>62
 | 5=>63
 | 6=>64
 | 7=>65
 | 8=>66
 | 9=>67
 | _=>68
theorem xq (w:World):Calls prog 33 #[] w λe w'=>e=.returned (.slice (some ⟨w.heap.size,0,none⟩) 11 11)/\(∀i,1<=i->i<=10->w'.cell? ⟨w.heap.size,i,none⟩=some (.func (.func (jJ i)) #[] #[]))/\Below w.heap.size w w':=by
 go_enter func33,ntmps33
 go_wp2
 go_ret
 refine⟨rfl,λi h1 h2=>?_,ab _ _⟩
 match i,h1,h2 with
 | 1,_,_=>simp [go_sem,jJ]
 | 2,_,_=>simp [go_sem,jJ]
 | 3,_,_=>simp [go_sem,jJ]
 | 4,_,_=>simp [go_sem,jJ]
 | 5,_,_=>simp [go_sem,jJ]
 | 6,_,_=>simp [go_sem,jJ]
 | 7,_,_=>simp [go_sem,jJ]
 | 8,_,_=>simp [go_sem,jJ]
 | 9,_,_=>simp [go_sem,jJ]
 | 10,_,_=>simp [go_sem,jJ]
theorem Kn.of {d:Nat->List K.Pu}(h:aF w H s d N)(ht:L.Tr s.X s.l d)(hf:KF H.p s)(hW:1<=H.W):Kn w H s N:=⟨d,h,ht,hf,hW⟩
theorem zc (hk:Kn w H s N)(hd:Fd w s N c dd gg)(i:Nat)(hi:c.op=(i:Int)):Calls prog (jJ i) #[.pointer (some ⟨H.kb,0,none⟩),.agg (R.cC c dd gg).toArray] w (cG w H N (fX H.p s c)):=by
 obtain⟨d,h,ht,hf,hW⟩:=id hk
 have hop:=hd.op
 have key:∀k:Nat,i=k->c.op=(k:Int):=λk e=>by rw [<-e];exact hi
 unfold fX
 match i,hi,key with
 | 0,hi,_=>omega
 | 1,hi,_ =>
  rw [if_pos (by omega)]
  have hkf:=Gz hf ht c.size
  unfold xy at hkf ⊢
  by_cases hm:S.fF H.p.room H.p.sv s.nx s.V c.size≠0
  ·rw [if_pos hm] at hkf ⊢
   refine (vX h hf hm).mono ?_
   rintro e w' ⟨rfl,hb⟩
   exact cG.plain rfl rfl (hk.later hb) (aH.later hb)
  ·rw [if_neg hm] at hkf ⊢
   by_cases hr:(D.bg H.p.d s.d s.nx).code≠0
   ·rw [if_pos hr] at hkf ⊢
    refine (tS h hf (Decidable.not_not.1 hm) hr).mono ?_
    rintro e w' ⟨rfl,hd2,hb⟩
    exact cG.plain rfl rfl (Kn.of hd2 hkf.2 hkf.1 hW) (aH.stay hb)
   ·rw [if_neg hr] at hkf ⊢
    refine (jY h hf (Decidable.not_not.1 hm) (Decidable.not_not.1 hr)).mono ?_
    rintro e w' ⟨rfl,N2,hd2,hw2⟩
    exact cG.plain rfl rfl (Kn.of hd2 hkf.2 hkf.1 hW) hw2
 | 2,hi,_ =>
  rw [if_neg (by omega),if_pos (by omega)]
  refine (sc h ht hd.obj hd.hw).mono ?_
  rintro e w' ⟨rfl,T,hd2,ht2,hb⟩
  exact cG.plain rfl rfl (Kn.of hd2 ht2 (uQ hf true _ hd2.inv) hW) (aH.stay hb)
 | 3,hi,_ =>
  rw [if_neg (by omega),if_neg (by omega),if_pos (by omega)]
  refine (uo h hf hd.obj hd.hw).mono ?_
  rintro e w' ⟨rfl,hd2,hb⟩
  have:=Gu hf ht (bG c) c.av
  exact cG.plain rfl rfl (Kn.of hd2 this.2 this.1 hW) (aH.stay hb)
 | 4,hi,_ =>
  rw [if_neg (by omega),if_neg (by omega),if_neg (by omega),if_pos (by omega)]
  refine (uk h ht hd.obj hd.hw).mono ?_
  rintro e w' ⟨rfl,T,hd2,ht2,hb⟩
  exact cG.plain rfl rfl (Kn.of hd2 ht2 (uQ hf false _ hd2.inv) hW) (aH.stay hb)
 | 5,hi,_ =>
  rw [if_neg (by omega),if_neg (by omega),if_neg (by omega),if_neg (by omega),if_pos (by omega)]
  unfold k8
  by_cases hv:cF s c.given c.au (bG c) 1≠0
  ·rw [if_pos hv]
   refine (CN h ht hf hd.hw hd.au hv).mono ?_
   rintro e w' ⟨rfl,T,hd2,ht2,hb⟩
   exact cG.plain rfl rfl (Kn.of hd2 ht2 hf hW) (aH.stay hb)
  ·rw [if_neg hv]
   refine (pS h ht hf hd.hw hd.au hd.obj (by simpa using hv)).mono ?_
   rintro e w' ⟨a,n,cp,T,rfl,hO,hd2,ht2,hb⟩
   exact⟨a,n,cp,N,rfl,hO,Kn.of hd2 ht2 hf hW,aH.stay hb,λk hk e=>by have:=h.new (hO.bD k hk);exact this e⟩
 | 6,hi,_ =>
  rw [if_neg (by omega),if_neg (by omega),if_neg (by omega),if_neg (by omega),if_neg (by omega),if_pos (by omega)]
  unfold jR
  by_cases hv:cF s c.given c.au (bG c) 2≠0
  ·rw [if_pos hv]
   refine (yK h ht hf hd.hw hd.au hv).mono ?_
   rintro e w' ⟨rfl,T,hd2,ht2,hb⟩
   exact cG.plain rfl rfl (Kn.of hd2 ht2 hf hW) (aH.stay hb)
  ·rw [if_neg hv]
   have hrow:=hd.row
   refine (mr h ht hf hd.hw hd.au hd.obj (by simpa using hv) hrow hd.is.data.small (λh0 j hj=>⟨hd.ap h0 j hj,?_⟩)).mono ?_
   ·obtain⟨b,o,e,hc⟩:=hrow.plain h0
    obtain⟨x,hx,rfl⟩:=hj
    rw [e] at hx
    obtain rfl:(⟨b,o,none⟩:Addr)=x:=by simpa using hx
    have hl:=hrow.len
    exact World.block_lt_of_cell? _ _ (hc 0 _ (gE (by omega)))
   ·rintro e w' ⟨T,rfl,hd2,ht2,hb⟩
    have hn:(dd.n:Int)=(c.data.length:Int):=by have:=hd.is.data.len;omega
    rw [hn]
    exact cG.plain rfl rfl (Kn.of hd2 ht2 (zh hf _ _ _) hW) (aH.stay hb)
 | 7,hi,_ =>
  rw [if_neg (by omega),if_neg (by omega),if_neg (by omega),if_neg (by omega),if_neg (by omega),if_neg (by omega),if_pos (by omega)]
  have hkf:=G9 hf c.au hd.au (bG c) hd.hw
  unfold CZ at hkf ⊢
  by_cases hq:re H.p.W (bG c)=false
  ·rw [if_pos hq]
   refine (pj h hW hd.hw hq).mono ?_
   rintro e w' ⟨rfl,hb⟩
   exact cG.plain rfl rfl (hk.later hb) (aH.later hb)
  ·rw [if_neg hq] at hkf ⊢
   refine (sB h hf hW hd.hw hd.au (Bool.not_eq_false _ ▸ hq:re H.W (bG c)=true)).mono ?_
   rintro e w' ⟨rfl,N2,hd2,hw2⟩
   by_cases hl:H.p.lm<=((s.D c.au).length:Int)
   ·rw [if_pos hl] at hkf ⊢
    have hl':H.lm<=((s.D c.au).length:Int):=hl
    simp only [if_pos hl'] at hd2 ⊢
    exact cG.plain rfl rfl (Kn.of hd2 ht hf hW) hw2
   ·rw [if_neg hl] at hkf ⊢
    have hl':¬H.lm<=((s.D c.au).length:Int):=hl
    simp only [if_neg hl'] at hd2 ⊢
    exact cG.plain rfl rfl (Kn.of hd2 ht hkf hW) hw2
 | 8,hi,_ =>
  rw [if_neg (by omega),if_neg (by omega),if_neg (by omega),if_neg (by omega),if_neg (by omega),if_neg (by omega),if_neg (by omega),if_pos (by omega)]
  refine (sy h hf hd.au).mono ?_
  rintro e w' ⟨rfl,N2,hd2,hw2⟩
  have hkf:=GY hf c.au hd.au c.index
  have e1:(fV s c.au c.index).1=rep (fV s c.au c.index).1.code:=by unfold fV;split<;>rfl
  have e2:(fV s c.au c.index).2.X=s.X/\(fV s c.au c.index).2.l=s.l:=by unfold fV;split<;>exact⟨rfl,rfl⟩
  exact cG.plain (r:=(fV s c.au c.index).1) (by rw [<-e1]) (by rw [e1];rfl) (Kn.of (s:=(fV s c.au c.index).2) hd2 (e2.1.symm ▸ e2.2.symm ▸ ht) hkf hW) hw2
 | 9,hi,_ =>
  rw [if_neg (by omega),if_neg (by omega),if_neg (by omega),if_neg (by omega),if_neg (by omega),if_neg (by omega),if_neg (by omega),if_neg (by omega),if_pos (by omega)]
  have hkf:=FV hf c.au hd.au c.an
  have hgn:gg.n<=255:=by have:=hd.is.an.len;have:=hd.gn;omega
  unfold DO at hkf ⊢
  by_cases hv:M.bt H.p.lm (s.D c.au) c.an≠0
  ·rw [if_pos hv]
   refine (AY h hf hd.au hd.an hgn hv).mono ?_
   rintro e w' ⟨rfl,hb⟩
   exact cG.plain rfl rfl (hk.later hb) (aH.later hb)
  ·rw [if_neg hv] at hkf ⊢
   by_cases hp:P.dy H.p.pm s.px s.P=true
   ·rw [if_pos hp]
    refine (iA h hf hd.au hd.an hgn (Decidable.not_not.1 hv) hp).mono ?_
    rintro e w' ⟨rfl,N2,hd2,hw2⟩
    exact cG.plain rfl rfl (Kn.of hd2 ht hf hW) hw2
   ·rw [if_neg hp] at hkf ⊢
    refine (Ay h hf hd.au hd.an hgn (Decidable.not_not.1 hv) (Bool.not_eq_true _ ▸ hp)).mono ?_
    rintro e w' ⟨rfl,N2,hd2,hw2⟩
    exact cG.plain rfl rfl (Kn.of hd2 ht hkf hW) hw2
 | 10,hi,_ =>
  rw [if_neg (by omega),if_neg (by omega),if_neg (by omega),if_neg (by omega),if_neg (by omega),if_neg (by omega),if_neg (by omega),if_neg (by omega),if_neg (by omega)]
  refine (mD h hf hd.au).mono ?_
  rintro e w' ⟨rfl,hd2,hb⟩
  exact cG.plain rfl rfl (Kn.of hd2 ht (GU hf c.au) hW) (aH.stay hb)
 | n+11,hi,_=>omega
end
end Go.Proofs.YtfmhdimaijimlaaGreatDoor.V
