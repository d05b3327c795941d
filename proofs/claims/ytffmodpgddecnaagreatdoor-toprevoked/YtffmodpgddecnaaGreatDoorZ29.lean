import Derived.Defers
import Derived.Test.YtffmodpgddecnaaGreatDoorZ26
set_option linter.unusedVariables false
set_option linter.unusedSimpArgs false
set_option maxRecDepth 100000
set_option maxHeartbeats 2000000
namespace Go.Proofs.YtffmodpgddecnaaGreatDoor.V
open Go.RowKit
open Go.Proofs.YtffmodpgddecnaaGreatDoor.H (aq Cp)
theorem aX (a b:Int)(w:World):Calls Tryz.prog 287 #[.int .i64 a,.int .i64 b] w λe w'=>e=.returned (.bool (aE b a))/\w'=w:=by
 have hp:=ab (eY b a)
 go_enter Tryz.func287,Tryz.ntmps287
 go_wp2_with (first|(go_at_call 279;refine (hp.out _).mono ?_;rintro e w9 ⟨rfl,hw9⟩;obtain rfl:=hw9.symm;clear hw9))
 go_ret;exact⟨rfl,rfl⟩
def yg (H:Hd):Value:=.agg #[.pointer (some ⟨H.A.g,0,none⟩),.pointer (some ⟨H.qg,0,none⟩),.pointer (some ⟨H.z.s,0,none⟩)]
def cU (s:aP)(c:Cp)(need:Int):Int×Int:=if aR s.X s.l c=false then (0,3) else if aE need (rg s.X (aG s.X s.l c))=false then (0,4) else (aG s.X s.l c,0)
theorem mc {w:World}{H:Hd}{s:aP}{d:Nat->List K.Pu}{N:Nat->Prop}(h:aI w H s d N)(c:Cp)(need:Int)(hw:c.2.1<aq/\c.2.2<aq) :
  Calls Tryz.prog 259 #[yg H,iu c,.int .i64 need] w λe w'=>e=.returned (.tuple #[.int .i64 (cU s c need).1,.int .i64 (cU s c need).2])/\Below w.heap.size w w':=by
 obtain⟨o,hi,lo⟩:=c
 obtain⟨w0,hw0⟩:∃w0,w0=(w.alloc (Obj.cells #[.pointer (some ⟨H.A.g,0,none⟩),.pointer (some ⟨H.qg,0,none⟩),.pointer (some ⟨H.z.s,0,none⟩)] 333)).alloc (Obj.cells #[.int .i64 o,.int .u64 (hi:Int),.int .u64 (lo:Int)] 37):=⟨_,rfl⟩
 have hB0:Below w.heap.size w w0:=by rw [hw0];exact aC _ _ _
 have hmk:Tp w0 w.heap.size H.A.g H.qg H.z.s:=by rw [hw0];exact⟨by simp [go_sem],by simp [go_sem],by simp [go_sem]⟩
 have x0:w0.cell? ⟨w.heap.size+1,0,none⟩=some (.int .i64 o):=by rw [hw0];simp [go_sem]
 have x1:w0.cell? ⟨w.heap.size+1,1,none⟩=some (.int .u64 (hi:Int)):=by rw [hw0];simp [go_sem]
 have x2:w0.cell? ⟨w.heap.size+1,2,none⟩=some (.int .u64 (lo:Int)):=by rw [hw0];simp [go_sem]
 have y1:=hmk.c0
 have HM:=ab hmk
 have PL:=ab hB0
 have HF:=ab (gV (h.later hB0).cat (o,hi,lo) hw)
 unfold yg cU;by_cases hc:aR s.X s.l (o,hi,lo)=false
 ·rw [hc] at HF
  simp only [if_pos hc];obtain⟨m,hm⟩:∃m,m=aG s.X s.l (o,hi,lo):=⟨_,rfl⟩
  rw [<-hm] at HF;clear h hB0 hmk hc hm;go_enter Tryz.func259,Tryz.ntmps259
  go_upto_region 1 with fail
  rw [<-hw0];clear hw0;go_wp2_with (first
   | (go_at_call 320;refine HF.out.mono ?_;rintro e w2 ⟨rfl,hb2⟩;have PB:=ab (aa PL.out hb2);clear hb2))
  exact bodyPost_ret (v:=.tuple #[.int .i64 0,.int .i64 3]) (by simp [results,Tryz.results259,go_sem]) rfl ⟨rfl,PB.out⟩
 ·have hc':aR s.X s.l (o,hi,lo)=true:=by simpa using hc
  rw [hc'] at HF;simp only [if_neg hc];obtain⟨hfn,hft⟩:=jy h.inv hc'
  obtain⟨p,hp⟩:=av.1 hfn
  have HA:=ab (λ(U:World) (hU:Below w.heap.size w U)=>lF (h.later hU).cat.cm (aG s.X s.l (o,hi,lo)) p hp)
  rw [hft] at HA;obtain⟨m,hm⟩:∃m,m=aG s.X s.l (o,hi,lo):=⟨_,rfl⟩
  rw [<-hm] at HF HA;rw [<-hm];obtain⟨q,hq⟩:∃q,q=rg s.X m:=⟨_,rfl⟩
  rw [<-hq] at HA;rw [<-hq];have QN:=ab (aX q need)
  unfold mT at HA;clear h hB0 hmk hc hc' hm hq hft hfn hp;cases hp4:aE need q with
  | false =>
   rw [hp4] at QN;simp only [if_true];clear hp4;go_enter Tryz.func259,Tryz.ntmps259
   go_upto_region 1 with fail
   rw [<-hw0];clear hw0;go_upto_region 4 with (first
    | (go_at_call 320;refine HF.out.mono ?_;rintro e w2 ⟨rfl,hb2⟩;have PB:=ab (aa PL.out hb2);have z1:=(HM.out.later hb2).c0;clear hb2))
   go_wp2_with (first
    | (go_at_call 287;refine (QN.out _).mono ?_;rintro e w9 ⟨rfl,hw9⟩;obtain rfl:=hw9.symm;clear hw9)
    | (go_at_call 197;refine (HA.out w2 PB.out).mono ?_;rintro e w3 ⟨rfl,hb3⟩;have PE:=ab (aa PB.out hb3);clear hb3))
   exact bodyPost_ret (v:=.tuple #[.int .i64 0,.int .i64 4]) (by simp [results,Tryz.results259,go_sem]) rfl ⟨rfl,PE.out.alloc PE.out.size _⟩
  | true =>
   rw [hp4] at QN;simp only [Bool.true_eq_false,if_false];clear hp4;go_enter Tryz.func259,Tryz.ntmps259
   go_upto_region 1 with fail
   rw [<-hw0];clear hw0;go_upto_region 4 with (first
    | (go_at_call 320;refine HF.out.mono ?_;rintro e w2 ⟨rfl,hb2⟩;have PB:=ab (aa PL.out hb2);have z1:=(HM.out.later hb2).c0;clear hb2))
   go_wp2_with (first
    | (go_at_call 287;refine (QN.out _).mono ?_;rintro e w9 ⟨rfl,hw9⟩;obtain rfl:=hw9.symm;clear hw9)
    | (go_at_call 197;refine (HA.out w2 PB.out).mono ?_;rintro e w3 ⟨rfl,hb3⟩;have PE:=ab (aa PB.out hb3);clear hb3))
   exact bodyPost_ret (v:=.tuple #[.int .i64 m,.int .i64 0]) (by simp [results,Tryz.results259,go_sem]) rfl ⟨rfl,PE.out.alloc PE.out.size _⟩
def H5 (w:World)(X:List Tk)(l:Fo)(o:Int)(g xb:Nat)(t:Value)(w':World):Prop :=
 ∃x p:Int,t=.int .i64 x/\(x,p)∈l/\ob X x=o/\w'.cell? ⟨w.heap.size,0,none⟩=some (.pointer (some ⟨g,0,none⟩))/\(∃c r,BL w' xb 0 (c,r,p))/\(∀j,w'.frozen? ⟨xb,j,none⟩=false)/\Below w.heap.size w w'/\xb<w'.heap.size
def K0 (l:Fo)(t:Value):Nat:=match t with
 | .int _ x=>(U l x).length
 | _=>0
theorem gG {w:World}{H:Hd}{s:aP}{d:Nat->List K.Pu}{N:Nat->Prop}(h:aI w H s d N)(n:Int)(hn:n∈aj s.l) :
  Calls Tryz.prog 261 #[yg H,.int .i64 n] w λe w'=>e=.returned (.int .i64 (fR s.X s.l (ob s.X n)))/\Below w.heap.size w w':=by
 obtain⟨w0,hw0⟩:∃w0,w0=w.alloc (Obj.cells #[.pointer (some ⟨H.A.g,0,none⟩),.pointer (some ⟨H.qg,0,none⟩),.pointer (some ⟨H.z.s,0,none⟩)] 333):=⟨_,rfl⟩
 have hB0:Below w.heap.size w w0:=by rw [hw0];exact ae _ _
 have y0:w0.cell? ⟨w.heap.size,0,none⟩=some (.pointer (some ⟨H.A.g,0,none⟩)):=by rw [hw0];simp [go_sem]
 have hsz0:w0.heap.size=w.heap.size+1:=by rw [hw0];simp [go_sem]
 have P4:=ab hsz0
 have HI:=ab h.inv
 have HA:=ab (λ(U:World) (hU:Below w.heap.size w U) (x p:Int) (hp:(x,p)∈s.l)=>lF (h.later hU).cat.cm x p hp)
 obtain⟨p,hp⟩:=av.1 hn
 have HP:=ab hp
 have PL:=ab hB0
 have QI:=ab (HA.out w0 hB0 n p hp)
 obtain⟨⟨cx,hx_,lx⟩,hcx⟩:∃c:Cp,c=(tk s.X n).1:=⟨_,rfl⟩
 obtain⟨rx,hrx⟩:∃r,r=rg s.X n:=⟨_,rfl⟩
 rw [<-hcx,<-hrx] at QI;unfold mT at QI;obtain⟨R,hR⟩:∃R,R=fR s.X s.l (ob s.X n):=⟨_,rfl⟩
 rw [<-hR];have HR:=ab hR
 unfold yg;clear h hB0 hn hp hcx hrx hR hsz0;go_enter Tryz.func261,Tryz.ntmps261
 go_upto_region 1 with fail
 rw [<-hw0];clear hw0;go_upto_region 2 with (first
  | (go_at_call 197;refine QI.out.mono ?_;rintro e w2 ⟨rfl,hb2⟩;have PB:=ab (aa PL.out hb2);have z1:=ab (cell_later hb2 y0);have PV:=ab (Nat.le_trans (Nat.le_of_eq P4.out.symm) hb2.size);clear hb2 y0))
 obtain⟨w3,hw3⟩:∃w3,w3=w2.alloc (Obj.cells #[.int .i64 cx,.int .u64 (hx_:Int),.int .u64 (lx:Int),.int .i64 rx,.int .i64 p] 74):=⟨_,rfl⟩
 have hb3:Below w2.heap.size w2 w3:=by rw [hw3];exact ae _ _
 have hct:BL w3 w2.heap.size 0 ((cx,hx_,lx),rx,p):=by rw [hw3];exact⟨by simp [go_sem],by simp [go_sem],by simp [go_sem],by simp [go_sem],by simp [go_sem]⟩
 have hfr:∀j,w3.frozen? ⟨w2.heap.size,j,none⟩=false:=λj=>by rw [hw3];simp [go_sem]
 have hlt:w2.heap.size<w3.heap.size:=by rw [hw3];simp [go_sem]
 rw [<-hw3];have W4:=ab (aa PB.out hb3)
 have HZ:=ab (cell_later hb3 z1.out)
 have V_:=ab hct
 have S8:=ab hfr
 have VR:=ab hlt
 obtain⟨xb,hxb⟩:∃xb,xb=w2.heap.size:=⟨_,rfl⟩
 rw [<-hxb] at PV V_ S8 VR;rw [<-hxb];clear hw3 hb3 hct hfr hlt hxb z1 PB;go_loopw [1] (H5 w s.X s.l (ob s.X n) H.A.g xb) (λt _=>K0 s.l t)
 case atStart=>exact⟨n,p,rfl,HP.out,rfl,HZ.out,⟨_,_,V_.out⟩,S8.out,W4.out,VR.out⟩
 case round =>
  obtain⟨x,p1,rfl,hp1,ho1,y0,⟨c1,r1,hct⟩,hfr,hB,hlt⟩:=hrel
  have t4:=hct.c4
  simp only [Nat.zero_add] at t4;have XA:=ab hp1
  have QP:=ab ho1
  have HB:=ab hB
  have Tx:=ab hlt
  have U_:=ab hfr
  have QU:=ab hct
  by_cases hroot:p1=-1
  ·subst hroot
   have Xe:Hid (R=x):=by
    unfold Hid;rw [HR.out,<-ho1,qA HI.out hp1]
   clear hct hfr hB hlt hp1 ho1;go_wp2;go_ret;exact⟨by rw [Xe.out];rfl,HB.out⟩
  ·have hb:(p1 != -1)=true:=by simp [hroot]
   have hpn:p1∈aj s.l:=(HI.out.ok.up hp1).resolve_left hroot
   obtain⟨p2,hp2⟩:=av.1 hpn
   have Xk:=ab hp2
   have PS:Hid (ob s.X p1=ob s.X n):=by
    unfold Hid;rw [<-ho1];exact ((HI.out.up x p1 hp1 hroot).1).symm
   have QZ:=ab (HA.out wr hB p1 p2 hp2)
   have HM:Hid ((U s.l p1).length<(U s.l x).length):=by
    unfold Hid;rw [ri HI.out.ok hp1,List.length_cons];omega
   obtain⟨⟨cy,hy_,ly⟩,hcy⟩:∃c:Cp,c=(tk s.X p1).1:=⟨_,rfl⟩
   obtain⟨ry,hry⟩:∃r,r=rg s.X p1:=⟨_,rfl⟩
   rw [<-hcy,<-hry] at QZ;unfold mT at QZ;clear hct hfr hB hlt hp1 ho1 hroot hpn hp2 hcy hry;go_upto_region 4 with fail
   go_wp2_with (first
    | (go_at_call 197;refine QZ.out.mono ?_;rintro e w5 ⟨rfl,hb5⟩;have PI:=ab (aa HB.out hb5);have WW:=ab (cell_later hb5 y0);have hlt5:=ab hb5;have hf0:=ab (λj=>(hb5.frozen Tx.out (p:=⟨xb,j,none⟩)).trans (U_.out j));have d0:=(QU.out.later hb5).c0;have d1:=(QU.out.later hb5).c1;have d2:=(QU.out.later hb5).c2;have d3:=(QU.out.later hb5).c3;have d4:=(QU.out.later hb5).c4;simp only [Nat.zero_add] at d0 d1 d2 d3 d4;clear hb5;have q0:=hf0.out 0;have q1:=hf0.out 1;have q2:=hf0.out 2;have q3:=hf0.out 3;have q4:=hf0.out 4))
   have hbut:ah (·=xb) w5 (uX w5 xb 0 ((cy,hy_,ly),ry,p2)):=by
    unfold uX;exact ((((((ah.refl (·=xb) w5).setCell (p:=⟨xb,0,none⟩) rfl _).setCell (p:=⟨xb,0+1,none⟩) rfl _).setCell (p:=⟨xb,0+2,none⟩) rfl _).setCell (p:=⟨xb,0+3,none⟩) rfl _).setCell (p:=⟨xb,0+4,none⟩) rfl _)
   have hS2:=PV.out
   have hne:¬(w.heap.size=xb):=by omega
   refine⟨⟨p1,p2,rfl,Xk.out,PS.out,ag hbut WW.out hne,⟨_,_,(QU.out.later hlt5.out).set ((cy,hy_,ly),ry,p2)⟩,λj=>?_,ah.below PI.out hbut (λk hk=>by omega),?_⟩,HM.out⟩
   ·simp only [World.frozen?_setCell];exact hf0.out j
   ·have h1:=Tx.out
    have h2:=hlt5.out.size
    have h3:=hbut.size
    exact Nat.lt_of_lt_of_le h1 (Nat.le_trans h2 h3)
end Go.Proofs.YtffmodpgddecnaaGreatDoor.V
namespace Go.Proofs.YtffmodpgddecnaaGreatDoor.V
open Go.RowKit
open Go.Proofs.YtffmodpgddecnaaGreatDoor.H (aq Cp)
theorem zO {x:Int}(h:S.bp x):(Lit.int .i64 x).wf=true:=by
 unfold S.bp at h;simp only [Lit.wf,Bool.and_eq_true,decide_eq_true_eq];have e1:IntKind.i64.min=-9223372036854775808:=by decide
 have e2:IntKind.i64.max=9223372036854775807:=by decide
 rw [e1,e2];omega
theorem Jd {w:World}{H:Hd}{s:aP}{d:Nat->List K.Pu}{N:Nat->Prop}(h:aI w H s d N)(tb qx gx:Nat)(o:Int)(a:Option Addr)(n c:Nat)(u:FrameMode)(ho:S.bp o)(x1:w.cell? ⟨tb,1,none⟩=some (.pointer (some ⟨H.qg,0,none⟩)))(x2:w.cell? ⟨qx,0,none⟩=some (.int .i64 o))(x3:w.cell? ⟨gx,0,none⟩=some (.slice a n c)) :
  CallsD Tryz.prog 321 #[.pointer (some ⟨tb,0,none⟩),.pointer (some ⟨qx,0,none⟩),.pointer (some ⟨gx,0,none⟩)] u w λe u' w'=>u'=u/\e=.returned (.tuple #[])/\aI w' H { s with L:=Q.jc s.L o (n:Int) } d N/\ah N w w':=by
 have HS:=ab (JL h o (n:Int) (zO ho))
 clear h ho;go_enter_d Tryz.func321,Tryz.ntmps321
 go_wp2_with (first
  | (go_at_call 322;refine HS.out.mono ?_;rintro e w2 ⟨rfl,hd2,hb2⟩;have HD:=ab hd2;have HB:=ab hb2;clear hd2 hb2))
 go_end0
 exact⟨rfl,HD.out,HB.out⟩
theorem jv {w:World}{H:Hd}{s:aP}{d:Nat->List K.Pu}{N:Nat->Prop}(h:aI w H s d N)(n:Int)(hn:n∈aj s.l)(ho:S.bp (ob s.X n)) :
  Calls Tryz.prog 260 #[yg H,.int .i64 n] w λe w'=>∃a c,e=.returned (.tuple #[.slice a (G true s.l n).length c,.int .i64 0])/\Ow w' w.heap.size 37 3 a (G true s.l n).length c (aF ((G true s.l n).map (λk=>(tk s.X k).1)))/\aI w' H (eR s n (ob s.X n)) d N/\ah N w w':=by
 obtain⟨w0,hw0⟩:∃w0,w0=(w.alloc (Obj.cells #[.pointer (some ⟨H.A.g,0,none⟩),.pointer (some ⟨H.qg,0,none⟩),.pointer (some ⟨H.z.s,0,none⟩)] 333)).alloc (Obj.cells #[.slice none 0 0] 71):=⟨_,rfl⟩
 have hB0:Below w.heap.size w w0:=by rw [hw0];exact aC _ _ _
 have htp:Tp w0 w.heap.size H.A.g H.qg H.z.s:=by rw [hw0];exact⟨by simp [go_sem],by simp [go_sem],by simp [go_sem]⟩
 have hgx:az w0 ⟨w.heap.size+1,0,none⟩ (.slice none 0 0):=by rw [hw0];exact⟨by simp [go_sem],by simp [go_sem]⟩
 have hsz0:w0.heap.size=w.heap.size+2:=by rw [hw0];simp [go_sem]
 obtain⟨p,hp⟩:=av.1 hn
 have hmf:∀(fn:Fn) (first cap:Array Value) (w:World),(Instr.makeFunc fn first cap).run Tryz.prog w=.ok (.func fn first cap) w:=λ_ _ _ _=>rfl
 have QI:=ab (lF (h.later hB0).cat.cm n p hp)
 obtain⟨⟨cx,hx_,lx⟩,hcx⟩:∃c:Cp,c=(tk s.X n).1:=⟨_,rfl⟩
 obtain⟨rx,hrx⟩:∃r,r=rg s.X n:=⟨_,rfl⟩
 have hox:cx=ob s.X n:=by unfold ob;rw [<-hcx]
 rw [<-hcx,<-hrx] at QI;unfold mT at QI;unfold yg;have y0:=htp.c0
 have VM:=ab htp
 have Rw:=ab hgx
 have P4:=ab hsz0
 have PL:=ab hB0
 have HD:=ab h
 rw [<-hox] at ho;have HO:=ab ho
 have Wp:=ab hox
 have HN:=ab hn
 have Tv:=ab (fB h.inv.ok hp)
 clear h hn hp hcx hrx hox ho htp hgx hsz0 hB0;go_enter_defers Tryz.func260,Tryz.ntmps260
 go_upto_region 1 with fail
 rw [<-hw0];clear hw0;go_upto_region 2 with (first
  | (go_at_call 197;refine QI.out.mono ?_;rintro e w2 ⟨rfl,hb2⟩;have PB:=ab hb2;clear hb2 y0))
 go_upto_region 4 with fail
 obtain⟨w3,hw3⟩:∃w3,w3=(w2.alloc (Obj.cells #[.int .i64 cx,.int .u64 (hx_:Int),.int .u64 (lx:Int),.int .i64 rx,.int .i64 p] 74)).alloc (Obj.cells #[.int .i64 cx] 3):=⟨_,rfl⟩
 have hb3:Below w2.heap.size w2 w3:=by rw [hw3];exact aC _ _ _
 have t4:w3.cell? ⟨w2.heap.size,4,none⟩=some (.int .i64 p):=by rw [hw3];simp [go_sem]
 have hq:w3.cell? ⟨w2.heap.size+1,0,none⟩=some (.int .i64 cx):=by rw [hw3];simp [go_sem]
 rw [<-hw3];have hrg:=HD.out.pd
 have hs0:=P4.out
 have hs2:=PB.out.size
 have HF:Hid (∀U,ah N w3 U->Tp U w.heap.size H.A.g H.qg H.z.s/\U.cell? ⟨w2.heap.size+1,0,none⟩=some (.int .i64 cx)/\az U ⟨w.heap.size+1,0,none⟩ (.slice none 0 0)):=λU hU=>by
  have hb23:=aa PB.out hb3
  exact⟨(VM.out.later hb23).but hU (λe=>by have:=hrg _ e;omega),ag hU hq (λ(e:N (w2.heap.size+1))=>by have:=hrg _ e;omega),(Rw.out.later hb23).but hU (λ(e:N (w.heap.size+1))=>by have:=hrg _ e;omega)⟩
 have PE:=ab (aa PL.out (aa PB.out hb3))
 have Qs:=ab (HD.out.later PE.out)
 have hlt3:w2.heap.size+1<w3.heap.size:=World.block_lt_of_cell? _ _ hq
 have QS:Hid (w.heap.size+2<=w2.heap.size/\w2.heap.size+1<w3.heap.size):=⟨by omega,hlt3⟩
 have Sv:=ab hrg
 have Sm:Hid (∀(V:List (Int×List Nat)) (w5:World) (a:Option Addr) (c:Nat),V=(if par s.l n=-1 then sF s.V cx else s.V)->Ow w5 w3.heap.size 37 3 a (G true s.l n).length c (aF ((G true s.l n).map (λk=>(tk s.X k).1)))->aI w5 H { s with V:=V,X:=fQ s.X (G true s.l n),l:=bh s.l (G true s.l n) } d N->ah N w3 w5 ->
   CallsD Tryz.prog 321 #[.pointer (some ⟨w.heap.size,0,none⟩),.pointer (some ⟨w2.heap.size+1,0,none⟩),.pointer (some ⟨w.heap.size+1,0,none⟩)] .returning (w5.setCell ⟨w.heap.size+1,0,none⟩ (.slice a (G true s.l n).length c)) λe u' w'=>u'=.returning/\e=.returned (.tuple #[])/\w'.cell? ⟨w.heap.size+1,0,none⟩=some (.slice a (G true s.l n).length c)/\Ow w' w.heap.size 37 3 a (G true s.l n).length c (aF ((G true s.l n).map (λk=>(tk s.X k).1)))/\aI w' H (eR s n (ob s.X n)) d N/\ah N w w'):=λV w5 a c hV hO hd5 hb5=>by
  obtain⟨f1,f2,f3⟩:=HF.out w5 hb5
  have hbs:ah (·=w.heap.size+1) w5 (w5.setCell ⟨w.heap.size+1,0,none⟩ (.slice a (G true s.l n).length c)):=(ah.refl (·=w.heap.size+1) w5).setCell (p:=⟨w.heap.size+1,0,none⟩) rfl _
  have s3:=QS.out
  have hd6:=hd5.but hbs (λk hk e=>by have:=Sv.out k hk;omega) (λe=>absurd e (by show ¬(0=w.heap.size+1);omega))
  have g3:(w5.setCell ⟨w.heap.size+1,0,none⟩ (.slice a (G true s.l n).length c)).cell? ⟨w.heap.size+1,0,none⟩=some (.slice a (G true s.l n).length c):=World.cell?_setCell_same _ _ _ f3.1
  have f1':=f1.but hbs (λe=>by omega)
  have f2':=ag hbs f2 (by show ¬(w2.heap.size+1=w.heap.size+1);omega)
  refine (Jd hd6 w.heap.size (w2.heap.size+1) (w.heap.size+1) cx a (G true s.l n).length c .returning HO.out f1'.c1 f2' g3).mono ?_
  rintro e u' w7 ⟨rfl,rfl,hd7,hb7⟩
  have hlist:∀j,aJ a j->w3.heap.size<=j:=λj hj=>(hO.bT j hj).1
  refine⟨rfl,rfl,ag hb7 g3 (λ(e:N (w.heap.size+1))=>by have:=Sv.out _ e;omega),((hO.but hbs (λj hj e=>by have:=hlist j hj;omega)).but hb7 (λj hj e=>by have:=hlist j hj;have:=Sv.out _ e;omega)).mono (by omega),?_,?_⟩
  ·rw [hV,Wp.out] at hd7
   exact hd7
  ·refine⟨?_,?_,?_,?_,λk hk hn=>?_⟩
   ·exact hb7.os.trans (hbs.os.trans (hb5.os.trans PE.out.os))
   ·exact hb7.tape.trans (hbs.tape.trans (hb5.tape.trans PE.out.tape))
   ·exact hb7.output.trans (hbs.output.trans (hb5.output.trans PE.out.output))
   ·exact Nat.le_trans PE.out.size (Nat.le_trans hb5.size (Nat.le_trans hbs.size hb7.size))
   ·have h3:=PE.out.size
    have h5:=hb5.size
    have h6:=hbs.size
    exact ((hb7.block k (by omega) hn).trans (hbs.block k (by omega) (λe=>by omega))).trans ((hb5.block k (by omega) hn).trans (PE.out.block k hk))
 clear hw3 hb3 hq hrg hs0 hs2 hlt3 QI VM Rw;by_cases hp1:p=-1
 ·subst hp1
  obtain⟨z0,z1,z2⟩:=(HF.out w3 (ah.refl _ _)).1
  obtain⟨q0⟩:=And.intro (HF.out w3 (ah.refl _ _)).2.1 trivial
  have SZ:=ab (Ab Qs.out cx HO.out)
  have HV:Hid (sF s.V cx=(if par s.l n=-1 then sF s.V cx else s.V)):=by unfold Hid;rw [if_pos Tv.out]
  go_upto_region 6 with (first
   | (go_at_call 323;refine SZ.out.mono ?_;rintro e w4 ⟨x9,rfl,hd4,hb4⟩;have U1:=ab hd4;have PM:=ab hb4;have y0:=(HF.out w4 hb4).1.c0;clear hd4 hb4 z0 z1 z2 q0 t4))
  have QQ:=ab (ET U1.out n HN.out)
  go_wp2_with (first
   | (go_at_call 324;refine QQ.out.mono ?_;rintro e w5 ⟨a,c,rfl,hO5,hd5,hb5⟩;have RM:=ab hd5;have PI:=ab (PM.out.trans hb5);have RA:=ab (hO5.mono PM.out.size);have gg:=(HF.out w5 PI.out).2.2.1;have gf:=(HF.out w5 PI.out).2.2.2;clear hd5 hb5 hO5))
  refine leaves_cons (f:=321) (args:=#[.pointer (some ⟨w.heap.size,0,none⟩),.pointer (some ⟨w2.heap.size+1,0,none⟩),.pointer (some ⟨w.heap.size+1,0,none⟩)]) (by simp) (by simp [go_sem]) ?_
  refine (Sm.out _ w5 a c HV.out RA.out RM.out PI.out).mono ?_
  rintro e u' w7 ⟨rfl,rfl,g7,r1,r2,r3⟩
  have HR:=ab (And.intro r1 (And.intro r2 r3))
  clear r1 r2 r3;simp only [Leaves,settle];refine⟨.tuple #[.slice a (G true s.l n).length c,.int .i64 0],by simp [results,Tryz.results260,go_sem,g7],a,c,rfl,HR.out⟩
 ·have hb1:(p==-1)=false:=by simp [hp1]
  obtain⟨z0,z1,z2⟩:=(HF.out w3 (ah.refl _ _)).1
  have HV:Hid (s.V=(if par s.l n=-1 then sF s.V cx else s.V)):=by unfold Hid;rw [if_neg (by rw [Tv.out];exact hp1)]
  have QQ:=ab (ET Qs.out n HN.out)
  go_wp2_with (first
   | (go_at_call 324;refine QQ.out.mono ?_;rintro e w5 ⟨a,c,rfl,hO5,hd5,hb5⟩;have RM:=ab hd5;have PI:=ab hb5;have RA:=ab hO5;have gg:=(HF.out w5 PI.out).2.2.1;have gf:=(HF.out w5 PI.out).2.2.2;clear hd5 hb5 hO5))
  refine leaves_cons (f:=321) (args:=#[.pointer (some ⟨w.heap.size,0,none⟩),.pointer (some ⟨w2.heap.size+1,0,none⟩),.pointer (some ⟨w.heap.size+1,0,none⟩)]) (by simp) (by simp [go_sem]) ?_
  refine (Sm.out _ w5 a c HV.out RA.out RM.out PI.out).mono ?_
  rintro e u' w7 ⟨rfl,rfl,g7,r1,r2,r3⟩
  have HR:=ab (And.intro r1 (And.intro r2 r3))
  clear r1 r2 r3;simp only [Leaves,settle];refine⟨.tuple #[.slice a (G true s.l n).length c,.int .i64 0],by simp [results,Tryz.results260,go_sem,g7],a,c,rfl,HR.out⟩
def vR (w:World)(H:Hd)(A:rY)(d:Nat->List K.Pu)(N:Nat->Prop)(e:Ending)(w':World):Prop :=
 ∃a c,e=.returned (.tuple #[.slice a A.K.length c,.int .i64 A.code])/\Ow w' w.heap.size 37 3 a A.K.length c (aF A.K)/\aI w' H A.s d N/\ah N w w'
theorem v_ {w:World}{H:Hd}{s:aP}{d:Nat->List K.Pu}{N:Nat->Prop}(h:aI w H s d N)(c:Cp)(hw:c.2.1<aq/\c.2.2<aq)(hc1:S.bp c.1) :
  Calls Tryz.prog 185 #[.pointer (some ⟨H.A.g,0,none⟩),.pointer (some ⟨H.qg,0,none⟩),.pointer (some ⟨H.z.s,0,none⟩),iu c] w (vR w H (eC false s c) d N):=by
 obtain⟨o,hi,lo⟩:=c
 obtain⟨w0,hw0⟩:∃w0,w0=(w.alloc (Obj.cells #[.int .i64 o,.int .u64 (hi:Int),.int .u64 (lo:Int)] 37)).alloc (Obj.cells #[.pointer (some ⟨H.A.g,0,none⟩),.pointer (some ⟨H.qg,0,none⟩),.pointer (some ⟨H.z.s,0,none⟩)] 333):=⟨_,rfl⟩
 have hB0:Below w.heap.size w w0:=by rw [hw0];exact aC _ _ _
 have htp:Tp w0 (w.heap.size+1) H.A.g H.qg H.z.s:=by rw [hw0];exact⟨by simp [go_sem],by simp [go_sem],by simp [go_sem]⟩
 have x0:w0.cell? ⟨w.heap.size,0,none⟩=some (.int .i64 o):=by rw [hw0];simp [go_sem]
 have x1:w0.cell? ⟨w.heap.size,1,none⟩=some (.int .u64 (hi:Int)):=by rw [hw0];simp [go_sem]
 have x2:w0.cell? ⟨w.heap.size,2,none⟩=some (.int .u64 (lo:Int)):=by rw [hw0];simp [go_sem]
 obtain⟨y0,y1,y2⟩:=id htp
 have HT:=ab htp
 have PL:=ab hB0
 have WA:=ab (h.later hB0)
 have HH:=ab (mc (h.later hB0) (o,hi,lo) 8 hw)
 have HD:=ab h
 unfold yg at HH;have hans:eC false s (o,hi,lo)=if (cU s (o,hi,lo) 8).2=0 then ⟨(G true s.l (aG s.X s.l (o,hi,lo))).map (λk=>(tk s.X k).1),0,eR s (aG s.X s.l (o,hi,lo)) o⟩ else ⟨[],(cU s (o,hi,lo) 8).2,s⟩:=by
  unfold eC cU vi pK;by_cases h1:aR s.X s.l (o,hi,lo)=false
  ·simp [h1]
  ·by_cases h2:aE 8 (rg s.X (aG s.X s.l (o,hi,lo)))=false
   ·simp [h1,h2]
   ·simp [h1,h2]
 rw [hans];by_cases hz:(cU s (o,hi,lo) 8).2=0
 ·rw [if_pos hz]
  have hh:aR s.X s.l (o,hi,lo)=true/\(cU s (o,hi,lo) 8).1=aG s.X s.l (o,hi,lo):=by
   unfold cU at hz ⊢
   by_cases h1:aR s.X s.l (o,hi,lo)=false
   ·rw [if_pos h1] at hz;exact absurd hz (by decide)
   ·rw [if_neg h1] at hz ⊢
    refine⟨by simpa using h1,?_⟩
    by_cases h2:aE 8 (rg s.X (aG s.X s.l (o,hi,lo)))=false
    ·rw [if_pos h2] at hz;exact absurd hz (by decide)
    ·rw [if_neg h2]
  rw [hz,hh.2] at HH;obtain⟨f1,f2⟩:=jy h.inv hh.1
  have fo:ob s.X (aG s.X s.l (o,hi,lo))=o:=by unfold ob;rw [f2]
  have Qj:=ab (λ(U:World) (hU:Below w.heap.size w U)=>jv (h.later hU) (aG s.X s.l (o,hi,lo)) f1 (by rw [fo];exact hc1))
  rw [fo] at Qj;obtain⟨m,hm⟩:∃m,m=aG s.X s.l (o,hi,lo):=⟨_,rfl⟩
  rw [<-hm] at HH Qj;rw [<-hm];unfold yg at Qj;obtain⟨KL,hKL⟩:∃KL,KL=(G true s.l m).map (λk=>(tk s.X k).1):=⟨_,rfl⟩
  have hlen:(G true s.l m).length=KL.length:=by rw [hKL,List.length_map]
  rw [<-hKL];rw [<-hKL,hlen] at Qj;obtain⟨kn,hkn⟩:∃kn,kn=KL.length:=⟨_,rfl⟩
  rw [<-hkn] at Qj;unfold vR;simp only
  rw [<-hkn];obtain⟨S',hS'⟩:∃S',S'=eR s m o:=⟨_,rfl⟩
  rw [<-hS'] at Qj;rw [<-hS'];clear h hB0 htp hans hz hh f1 f2 fo hm hKL hlen hkn hS';go_enter Tryz.func185,Tryz.ntmps185
  go_upto_region 2 with fail
  rw [<-hw0];clear hw0;go_upto_region 5 with (first
   | (go_at_call 259;refine HH.out.mono ?_;rintro e w2 ⟨rfl,hb2⟩;have PB:=ab (aa PL.out hb2);have z0:=(HT.out.later hb2).c0;have z1:=(HT.out.later hb2).c1;have z2:=(HT.out.later hb2).c2;clear hb2))
  go_wp2_with (first
   | (go_at_call 260;refine (Qj.out w2 PB.out).mono ?_;rintro e w3 ⟨a,c,rfl,hO3,hd3,hb3⟩;have HR:=ab (And.intro (hO3.mono PB.out.size) (And.intro hd3 ((ah.of (S:=N) PB.out).trans hb3)));clear hO3 hd3 hb3))
  exact bodyPost_ret (v:=.tuple #[.slice a kn c,.int .i64 0]) (by simp [results,Tryz.results185,go_sem]) rfl ⟨a,c,rfl,HR.out⟩
 ·rw [if_neg hz]
  obtain⟨E,hE⟩:∃E,E=(cU s (o,hi,lo) 8).2:=⟨_,rfl⟩
  obtain⟨m,hm⟩:∃m,m=(cU s (o,hi,lo) 8).1:=⟨_,rfl⟩
  rw [<-hE,<-hm] at HH;rw [<-hE];rw [<-hE] at hz;have hz2:(E != 0)=true:=by simp [hz]
  unfold vR;clear h hB0 htp hans hE hm;go_enter Tryz.func185,Tryz.ntmps185
  go_upto_region 2 with fail
  rw [<-hw0];clear hw0;go_wp2_with (first
   | (go_at_call 259;refine HH.out.mono ?_;rintro e w2 ⟨rfl,hb2⟩;have PB:=ab (aa PL.out hb2);clear hb2))
  exact bodyPost_ret (v:=.tuple #[.slice none 0 0,.int .i64 E]) (by simp [results,Tryz.results185,go_sem]) rfl ⟨none,0,rfl,Ow.nil _ _ _ _,HD.out.later PB.out,ah.of PB.out⟩
end Go.Proofs.YtffmodpgddecnaaGreatDoor.V
namespace Go.Proofs.YtffmodpgddecnaaGreatDoor.V
open Go.RowKit
open Go.Proofs.YtffmodpgddecnaaGreatDoor.H (aq Cp)
theorem sf {w:World}{H:Hd}{s:aP}{d:Nat->List K.Pu}{N:Nat->Prop}(h:aI w H s d N)(c:Cp)(hw:c.2.1<aq/\c.2.2<aq)(hc1:S.bp c.1) :
  Calls Tryz.prog 182 #[.pointer (some ⟨H.A.g,0,none⟩),.pointer (some ⟨H.qg,0,none⟩),.pointer (some ⟨H.z.s,0,none⟩),iu c] w (vR w H (eC true s c) d N):=by
 obtain⟨o,hi,lo⟩:=c
 obtain⟨w0,hw0⟩:∃w0,w0=(w.alloc (Obj.cells #[.int .i64 o,.int .u64 (hi:Int),.int .u64 (lo:Int)] 37)).alloc (Obj.cells #[.pointer (some ⟨H.A.g,0,none⟩),.pointer (some ⟨H.qg,0,none⟩),.pointer (some ⟨H.z.s,0,none⟩)] 333):=⟨_,rfl⟩
 have hB0:Below w.heap.size w w0:=by rw [hw0];exact aC _ _ _
 have htp:Tp w0 (w.heap.size+1) H.A.g H.qg H.z.s:=by rw [hw0];exact⟨by simp [go_sem],by simp [go_sem],by simp [go_sem]⟩
 have x0:w0.cell? ⟨w.heap.size,0,none⟩=some (.int .i64 o):=by rw [hw0];simp [go_sem]
 have x1:w0.cell? ⟨w.heap.size,1,none⟩=some (.int .u64 (hi:Int)):=by rw [hw0];simp [go_sem]
 have x2:w0.cell? ⟨w.heap.size,2,none⟩=some (.int .u64 (lo:Int)):=by rw [hw0];simp [go_sem]
 obtain⟨y0,y1,y2⟩:=id htp
 have HT:=ab htp
 have PL:=ab hB0
 have WA:=ab (h.later hB0)
 have HH:=ab (mc (h.later hB0) (o,hi,lo) 16 hw)
 have HD:=ab h
 unfold yg at HH;have hans:eC true s (o,hi,lo)=if (cU s (o,hi,lo) 16).2=0 then ⟨(G true s.l (fR s.X s.l o)).map (λk=>(tk s.X k).1),0,eR s (fR s.X s.l o) o⟩ else ⟨[],(cU s (o,hi,lo) 16).2,s⟩:=by
  unfold eC cU vi pK;by_cases h1:aR s.X s.l (o,hi,lo)=false
  ·simp [h1]
  ·by_cases h2:aE 16 (rg s.X (aG s.X s.l (o,hi,lo)))=false
   ·simp [h1,h2]
   ·simp [h1,h2]
 rw [hans];by_cases hz:(cU s (o,hi,lo) 16).2=0
 ·rw [if_pos hz]
  have hh:aR s.X s.l (o,hi,lo)=true/\(cU s (o,hi,lo) 16).1=aG s.X s.l (o,hi,lo):=by
   unfold cU at hz ⊢
   by_cases h1:aR s.X s.l (o,hi,lo)=false
   ·rw [if_pos h1] at hz;exact absurd hz (by decide)
   ·rw [if_neg h1] at hz ⊢
    refine⟨by simpa using h1,?_⟩
    by_cases h2:aE 16 (rg s.X (aG s.X s.l (o,hi,lo)))=false
    ·rw [if_pos h2] at hz;exact absurd hz (by decide)
    ·rw [if_neg h2]
  rw [hz,hh.2] at HH;obtain⟨f1,f2⟩:=jy h.inv hh.1
  have fo:ob s.X (aG s.X s.l (o,hi,lo))=o:=by unfold ob;rw [f2]
  obtain⟨g1,g2,g3⟩:=uy h.inv hh.1 true
  have e1:pK true s (o,hi,lo)=fR s.X s.l o:=rfl
  rw [e1] at g1 g2;have g2':ob s.X (fR s.X s.l o)=o:=g2
  have QA:=ab (λ(U:World) (hU:Below w.heap.size w U)=>gG (h.later hU) (aG s.X s.l (o,hi,lo)) f1)
  rw [fo] at QA;have Qj:=ab (λ(U:World) (hU:Below w.heap.size w U)=>jv (h.later hU) (fR s.X s.l o) g1 (by rw [g2'];exact hc1))
  rw [g2'] at Qj;obtain⟨m0,hm0⟩:∃m,m=aG s.X s.l (o,hi,lo):=⟨_,rfl⟩
  rw [<-hm0] at HH QA;obtain⟨m,hm⟩:∃m,m=fR s.X s.l o:=⟨_,rfl⟩
  rw [<-hm] at QA Qj;rw [<-hm];unfold yg at QA;unfold yg at Qj;obtain⟨KL,hKL⟩:∃KL,KL=(G true s.l m).map (λk=>(tk s.X k).1):=⟨_,rfl⟩
  have hlen:(G true s.l m).length=KL.length:=by rw [hKL,List.length_map]
  rw [<-hKL];rw [<-hKL,hlen] at Qj;obtain⟨kn,hkn⟩:∃kn,kn=KL.length:=⟨_,rfl⟩
  rw [<-hkn] at Qj;unfold vR;simp only
  rw [<-hkn];obtain⟨S',hS'⟩:∃S',S'=eR s m o:=⟨_,rfl⟩
  rw [<-hS'] at Qj;rw [<-hS'];have Sv:=ab h.pd
  clear h hB0 htp hans hz hh f1 f2 fo hm hm0 hKL hlen hkn hS' g1 g2 g3 g2' e1;go_enter Tryz.func182,Tryz.ntmps182
  go_upto_region 2 with fail
  rw [<-hw0];clear hw0;go_upto_region 5 with (first
   | (go_at_call 259;refine HH.out.mono ?_;rintro e w2 ⟨rfl,hb2⟩;have PB:=ab (aa PL.out hb2);have z0:=(HT.out.later hb2).c0;have z1:=(HT.out.later hb2).c1;have z2:=(HT.out.later hb2).c2;clear hb2))
  have PQ:=ab (Tp.mk z0 z1 z2)
  clear z0 z1 z2 HT;go_region_held3 (λU=>U.cell? ⟨w.heap.size+1,0,none⟩=some (.pointer (some ⟨H.A.g,0,none⟩))/\U.cell? ⟨w.heap.size+1,1,none⟩=some (.pointer (some ⟨H.qg,0,none⟩))/\U.cell? ⟨w.heap.size+1,2,none⟩=some (.pointer (some ⟨H.z.s,0,none⟩))) (first|exact Qm.out|exact PW.out|exact⟨PQ.out.later (Below.refl _ _).drew |>.c0,PQ.out.later (Below.refl _ _).drew |>.c1,PQ.out.later (Below.refl _ _).drew |>.c2⟩|exact⟨PQ.out.c0,PQ.out.c1,PQ.out.c2⟩) (first
   | (go_at_call 260;refine (Qj.out w3 PE.out).mono ?_;rintro e w4 ⟨a,c,rfl,hO4,hd4,hb4⟩;have Qm:=ab (And.intro (ag hb4 PW.out.1 (λ(e:N (w.heap.size+1))=>by have:=Sv.out _ e;omega)) (And.intro (ag hb4 PW.out.2.1 (λ(e:N (w.heap.size+1))=>by have:=Sv.out _ e;omega)) (ag hb4 PW.out.2.2 (λ(e:N (w.heap.size+1))=>by have:=Sv.out _ e;omega))));have HR:=ab (And.intro (hO4.mono PE.out.size) (And.intro hd4 ((ah.of (S:=N) PE.out).trans hb4)));clear hO4 hd4 hb4)
   | (go_at_call 261;refine (QA.out _ (aa PB.out (Below.refl _ _).drew)).mono ?_;rintro e w3 ⟨rfl,hb3⟩;have PE:=ab (aa (aa PB.out (Below.refl _ _).drew) hb3);have PW:=ab (And.intro ((PQ.out.later (Below.refl _ _).drew).later hb3).c0 (And.intro ((PQ.out.later (Below.refl _ _).drew).later hb3).c1 ((PQ.out.later (Below.refl _ _).drew).later hb3).c2));clear hb3))
  go_wp2;exact bodyPost_ret (v:=.tuple #[.slice a kn c,.int .i64 0]) (by simp [results,Tryz.results182,go_sem]) rfl ⟨a,c,rfl,HR.out⟩
 ·rw [if_neg hz]
  obtain⟨E,hE⟩:∃E,E=(cU s (o,hi,lo) 16).2:=⟨_,rfl⟩
  obtain⟨m,hm⟩:∃m,m=(cU s (o,hi,lo) 16).1:=⟨_,rfl⟩
  rw [<-hE,<-hm] at HH;rw [<-hE];rw [<-hE] at hz;have hz2:(E != 0)=true:=by simp [hz]
  unfold vR;clear h hB0 htp hans hE hm;go_enter Tryz.func182,Tryz.ntmps182
  go_upto_region 2 with fail
  rw [<-hw0];clear hw0;go_wp2_with (first
   | (go_at_call 259;refine HH.out.mono ?_;rintro e w2 ⟨rfl,hb2⟩;have PB:=ab (aa PL.out hb2);clear hb2))
  exact bodyPost_ret (v:=.tuple #[.slice none 0 0,.int .i64 E]) (by simp [results,Tryz.results182,go_sem]) rfl ⟨none,0,rfl,Ow.nil _ _ _ _,HD.out.later PB.out,ah.of PB.out⟩
end Go.Proofs.YtffmodpgddecnaaGreatDoor.V
namespace Go.Proofs.YtffmodpgddecnaaGreatDoor.V
open Go.RowKit
open Go.Proofs.YtffmodpgddecnaaGreatDoor.H (aq Cp)
end Go.Proofs.YtffmodpgddecnaaGreatDoor.V
namespace Go.Proofs.YtffmodpgddecnaaGreatDoor.V
open Go.RowKit
open Go.Proofs.YtffmodpgddecnaaGreatDoor.H (aq Cp)
end Go.Proofs.YtffmodpgddecnaaGreatDoor.V
namespace Go.Proofs.YtffmodpgddecnaaGreatDoor.V
open Go.RowKit
open Go.Proofs.YtffmodpgddecnaaGreatDoor.H (aq Cp)
section
variable {w w':World}{H:Hd}{s s':aP}{d d':Nat->List K.Pu}{O:Nat->Nat->Prop}{N:Nat->Prop}{c:R.Cl}{dd gg:R.Sl}{b:Nat}
theorem ko (h:aI w H s d N)(x:Int)(ht:x≠0->L.Tr s.X s.l d):Calls Tryz.prog 183 #[.pointer (some ⟨H.kb,0,none⟩),.int .i64 x] w λe w'=>e=.returned (dw (rep x) none 0 0)/\∃T,aI w' H s T N/\L.Tr s.X s.l T/\ah N w w':=by
 by_cases hx:x=0
 ·subst hx
  exact sc h
 ·refine (rF h x hx).mono ?_
  rintro e w' ⟨rfl,hb⟩
  exact⟨rfl,d,h.later hb,ht hx,ah.of hb⟩
theorem nD {all:Bool}{c:Cp}(h:(eC all s c).code≠0):(eC all s c).s=s:=by
 unfold eC at h ⊢
 split
 ·rfl
 ·rename_i h1
  rw [if_neg h1] at h;split
  ·rfl
  ·rename_i h2
   rw [if_neg h2] at h;exact absurd rfl h
theorem rj (h:aI w H s d N)(ht:L.Tr s.X s.l d)(ho:S.bp c.obj)(hw:c.hi<aq/\c.lo<aq) :
  Calls Tryz.prog 102 #[.pointer (some ⟨H.kb,0,none⟩),.agg (R.cC c dd gg).toArray] w λe w'=>e=.returned (dw (cN true s (bZ c)).1 none 0 0)/\∃T,aI w' H (cN true s (bZ c)).2 T N/\L.Tr (cN true s (bZ c)).2.X (cN true s (bZ c)).2.l T/\ah N w w':=by
 obtain⟨W,hW⟩:∃W,W=(w.alloc (Obj.cells (R.cC c dd gg).toArray 44)).alloc z6:=⟨_,rfl⟩
 have hB:Below w.heap.size w W:=by rw [hW];exact aC _ _ _
 have hX:R.Bx W w.heap.size (R.cC c dd gg):=by rw [hW];exact R.Bx.later (ae _ _) (R.Bx.new w (R.cC c dd gg) 44)
 have hZ:Zr W (w.heap.size+1):=by rw [hW];have:=Zr.new (w.alloc (Obj.cells (R.cC c dd gg).toArray 44));simpa using this
 have h2:=h.later hB
 have HC:=ab (λ(U:World) (hU:Below W.heap.size W U)=>sf (h2.later hU) (bZ c) hw ho)
 have HQ:Hid ((eC true s (bZ c)).code≠0->L.Tr (eC true s (bZ c)).s.X (eC true s (bZ c)).s.l d):=λe=>by rw [nD e];exact ht
 unfold cN;generalize eC true s (bZ c)=A at *
 unfold bZ at HC;have HS:Hid (∀U {s d},aI U H s d N->ah N W U->U.cell? ⟨H.kb,11,none⟩=some (.pointer (some ⟨H.z.s,0,none⟩))/\U.cell? ⟨H.kb,12,none⟩=some (.pointer (some ⟨H.A.g,0,none⟩))/\U.cell? ⟨H.kb,13,none⟩=some (.pointer (some ⟨H.qg,0,none⟩))/\U.cell? ⟨w.heap.size,3,none⟩=some (.int .i64 c.obj)/\U.cell? ⟨w.heap.size,4,none⟩=some (.int .u64 (c.hi:Int))/\U.cell? ⟨w.heap.size,5,none⟩=some (.int .u64 (c.lo:Int))):=λU s d hd hb=>by
  have:=Cb.of (R.Bx.but hb hX (h.new (Nat.le_refl _)))
  exact⟨hd.kb 11 _ rfl,hd.kb 12 _ rfl,hd.kb 13 _ rfl,this.c3,this.c4,this.c5⟩
 have H0:=ab (λU (hU:ah (λ_=>False) W U)=>HS.out U (h2.but hU (λ_ _ h=>h) (λh=>h)) (hU.mono (λ_ h=>h.elim)))
 have HW:=ab hW
 have HB:=ab hB
 have HX:=ab hX
 have HZ:=ab hZ
 have HD:=ab h2
 have HP:Hid (0<w.heap.size):=by have:=h.b0;unfold Hid;omega
 have HN:=ab (λk hk=>h.new (k:=k) hk)
 clear h h2 hB hX hZ hW;go_enter Tryz.func102,Tryz.ntmps102
 go_upto_region 1 with fail
 rw [<-HW.out];go_region_held3 (λU=>U.cell? ⟨H.kb,11,none⟩=some (.pointer (some ⟨H.z.s,0,none⟩))/\U.cell? ⟨H.kb,12,none⟩=some (.pointer (some ⟨H.A.g,0,none⟩))/\U.cell? ⟨H.kb,13,none⟩=some (.pointer (some ⟨H.qg,0,none⟩))/\U.cell? ⟨w.heap.size,3,none⟩=some (.int .i64 c.obj)/\U.cell? ⟨w.heap.size,4,none⟩=some (.int .u64 (c.hi:Int))/\U.cell? ⟨w.heap.size,5,none⟩=some (.int .u64 (c.lo:Int))) (first|exact H0.out _ (ah.of (Below.refl _ _).drew)|exact HE.out) (first
   | (go_at_call 182;refine (HC.out _ (Below.refl _ _).drew).mono ?_;rintro e w2 ⟨a_,c_,rfl,-,hd_,hb_⟩;have PB:Hid (ah N W w2):=(ah.of (S:=N) (Below.refl W.heap.size W).drew).trans hb_;have HE:=ab (HS.out w2 hd_ PB.out);have QQ:=ab (ko hd_ A.code HQ.out);clear hd_ hb_))
 go_upto_region 2 with fail
 go_upto_region 3 with (first|(go_at_call 183;refine QQ.out.mono ?_;rintro e w3 ⟨rfl,T,hd3,ht3,hb3⟩;have Qs:=ab hd3;have PW:=ab ht3;have PE:Hid (ah N W w3):=PB.out.trans hb3;have PO:=ab (HZ.out.but PE.out (HN.out _ (by omega)));have PT:=ab (PO.out.st (rep A.code) none 0 0);have PU:=ab (PO.out.lv (rep A.code) none 0 0);clear hd3 ht3 hb3)|((with_reducible refine bm PT.out ?_ ?_ ?_);(· rfl);(· rfl)))
 have PK:Hid (ah (·=w.heap.size+1) w3 (w3.setCells (w.heap.size+1) 0 (fM (rep A.code) none 0 0))):=R.ay (S:=(·=w.heap.size+1)) rfl _ 0 (ah.refl _ _)
 exact bodyPost_ret (v:=dw (rep A.code) none 0 0) (by simp [results,Tryz.results102,asAddr,PU.out]) rfl ⟨rfl,T,Qs.out.but PK.out (λk hk e=>HN.out k (by omega) hk) (λe=>by have:0=w.heap.size+1:=e;omega),PW.out,((ah.of HB.out).trans PE.out).comp PK.out (λi e=>.inr (by omega))⟩
theorem ug (h:aI w H s d N)(ht:L.Tr s.X s.l d)(ho:S.bp c.obj)(hw:c.hi<aq/\c.lo<aq) :
  Calls Tryz.prog 104 #[.pointer (some ⟨H.kb,0,none⟩),.agg (R.cC c dd gg).toArray] w λe w'=>e=.returned (dw (cN false s (bZ c)).1 none 0 0)/\∃T,aI w' H (cN false s (bZ c)).2 T N/\L.Tr (cN false s (bZ c)).2.X (cN false s (bZ c)).2.l T/\ah N w w':=by
 obtain⟨W,hW⟩:∃W,W=(w.alloc (Obj.cells (R.cC c dd gg).toArray 44)).alloc z6:=⟨_,rfl⟩
 have hB:Below w.heap.size w W:=by rw [hW];exact aC _ _ _
 have hX:R.Bx W w.heap.size (R.cC c dd gg):=by rw [hW];exact R.Bx.later (ae _ _) (R.Bx.new w (R.cC c dd gg) 44)
 have hZ:Zr W (w.heap.size+1):=by rw [hW];have:=Zr.new (w.alloc (Obj.cells (R.cC c dd gg).toArray 44));simpa using this
 have h2:=h.later hB
 have HC:=ab (λ(U:World) (hU:Below W.heap.size W U)=>v_ (h2.later hU) (bZ c) hw ho)
 have HQ:Hid ((eC false s (bZ c)).code≠0->L.Tr (eC false s (bZ c)).s.X (eC false s (bZ c)).s.l d):=λe=>by rw [nD e];exact ht
 unfold cN;generalize eC false s (bZ c)=A at *
 unfold bZ at HC;have HS:Hid (∀U {s d},aI U H s d N->ah N W U->U.cell? ⟨H.kb,11,none⟩=some (.pointer (some ⟨H.z.s,0,none⟩))/\U.cell? ⟨H.kb,12,none⟩=some (.pointer (some ⟨H.A.g,0,none⟩))/\U.cell? ⟨H.kb,13,none⟩=some (.pointer (some ⟨H.qg,0,none⟩))/\U.cell? ⟨w.heap.size,3,none⟩=some (.int .i64 c.obj)/\U.cell? ⟨w.heap.size,4,none⟩=some (.int .u64 (c.hi:Int))/\U.cell? ⟨w.heap.size,5,none⟩=some (.int .u64 (c.lo:Int))):=λU s d hd hb=>by
  have:=Cb.of (R.Bx.but hb hX (h.new (Nat.le_refl _)))
  exact⟨hd.kb 11 _ rfl,hd.kb 12 _ rfl,hd.kb 13 _ rfl,this.c3,this.c4,this.c5⟩
 have H0:=ab (λU (hU:ah (λ_=>False) W U)=>HS.out U (h2.but hU (λ_ _ h=>h) (λh=>h)) (hU.mono (λ_ h=>h.elim)))
 have HW:=ab hW
 have HB:=ab hB
 have HX:=ab hX
 have HZ:=ab hZ
 have HD:=ab h2
 have HP:Hid (0<w.heap.size):=by have:=h.b0;unfold Hid;omega
 have HN:=ab (λk hk=>h.new (k:=k) hk)
 clear h h2 hB hX hZ hW;go_enter Tryz.func104,Tryz.ntmps104
 go_upto_region 1 with fail
 rw [<-HW.out];go_region_held3 (λU=>U.cell? ⟨H.kb,11,none⟩=some (.pointer (some ⟨H.z.s,0,none⟩))/\U.cell? ⟨H.kb,12,none⟩=some (.pointer (some ⟨H.A.g,0,none⟩))/\U.cell? ⟨H.kb,13,none⟩=some (.pointer (some ⟨H.qg,0,none⟩))/\U.cell? ⟨w.heap.size,3,none⟩=some (.int .i64 c.obj)/\U.cell? ⟨w.heap.size,4,none⟩=some (.int .u64 (c.hi:Int))/\U.cell? ⟨w.heap.size,5,none⟩=some (.int .u64 (c.lo:Int))) (first|exact H0.out _ (ah.of (Below.refl _ _).drew)|exact HE.out) (first
   | (go_at_call 185;refine (HC.out _ (Below.refl _ _).drew).mono ?_;rintro e w2 ⟨a_,c_,rfl,-,hd_,hb_⟩;have PB:Hid (ah N W w2):=(ah.of (S:=N) (Below.refl W.heap.size W).drew).trans hb_;have HE:=ab (HS.out w2 hd_ PB.out);have QQ:=ab (ko hd_ A.code HQ.out);clear hd_ hb_))
 go_upto_region 2 with fail
 go_upto_region 3 with (first|(go_at_call 183;refine QQ.out.mono ?_;rintro e w3 ⟨rfl,T,hd3,ht3,hb3⟩;have Qs:=ab hd3;have PW:=ab ht3;have PE:Hid (ah N W w3):=PB.out.trans hb3;have PO:=ab (HZ.out.but PE.out (HN.out _ (by omega)));have PT:=ab (PO.out.st (rep A.code) none 0 0);have PU:=ab (PO.out.lv (rep A.code) none 0 0);clear hd3 ht3 hb3)|((with_reducible refine bm PT.out ?_ ?_ ?_);(· rfl);(· rfl)))
 have PK:Hid (ah (·=w.heap.size+1) w3 (w3.setCells (w.heap.size+1) 0 (fM (rep A.code) none 0 0))):=R.ay (S:=(·=w.heap.size+1)) rfl _ 0 (ah.refl _ _)
 exact bodyPost_ret (v:=dw (rep A.code) none 0 0) (by simp [results,Tryz.results104,asAddr,PU.out]) rfl ⟨rfl,T,Qs.out.but PK.out (λk hk e=>HN.out k (by omega) hk) (λe=>by have:0=w.heap.size+1:=e;omega),PW.out,((ah.of HB.out).trans PE.out).comp PK.out (λi e=>.inr (by omega))⟩
end
end Go.Proofs.YtffmodpgddecnaaGreatDoor.V
