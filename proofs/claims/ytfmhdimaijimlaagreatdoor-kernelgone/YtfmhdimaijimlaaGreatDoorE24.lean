import Derived.Test.YtfmhdimaijimlaaGreatDoorE23
import Derived.Defers
set_option linter.all false
set_option maxRecDepth 1000000
set_option maxHeartbeats 8000000
open Go.Proofs.Tryz
variable {w w' w1 w2:Go.World}{n m k i j b g base kn:Nat}{a:Option Go.Addr}
namespace Go.Proofs.YtfmhdimaijimlaaGreatDoor.V
open Go.RowKit
open Go.Proofs.YtfmhdimaijimlaaGreatDoor.H (B64 Cp)
theorem has_any (a b:Int)(w:World):Calls prog 197 #[.int .i64 a,.int .i64 b] w λe w'=>e=.returned (.bool (partB b a))∧w'=w:=by
 have hp:=hid (part_any b a)
 go_enter func197,ntmps197
 go_wp2_with (first|(go_at_call 178;refine (hp.out _).mono ?_;rintro e w9 ⟨rfl,hw9⟩;obtain rfl:=hw9.symm;clear hw9))
 go_ret
 exact⟨rfl,rfl⟩
def tkr (H:Hd):Value:=.agg #[.pointer (some ⟨H.A.g,0,none⟩),.pointer (some ⟨H.qg,0,none⟩),.pointer (some ⟨H.z.s,0,none⟩)]
def holdR (s:Sta)(c:Cp)(need:Int):Int×Int:=if hasC s.X s.l c=false then (0,3) else if partB need (rg s.X (findN s.X s.l c))=false then (0,4) else (findN s.X s.l c,0)
theorem holder_any {H:Hd}{s:Sta}{d:Nat→List K.Pu}{N:Nat→Prop}(h:Duo w H s d N)(c:Cp)(need:Int)(hw:c.2.1<B64∧c.2.2<B64) :
  Calls prog 155 #[tkr H,cpV c,.int .i64 need] w λe w'=>e=.returned (.tuple #[.int .i64 (holdR s c need).1,.int .i64 (holdR s c need).2])∧Below w.heap.size w w':=by
 obtain⟨o,hi,lo⟩:=c
 obtain⟨w0,hw0⟩:∃w0,w0=(w.alloc (Obj.cells #[.pointer (some ⟨H.A.g,0,none⟩),.pointer (some ⟨H.qg,0,none⟩),.pointer (some ⟨H.z.s,0,none⟩)] 256)).alloc (Obj.cells #[.int .i64 o,.int .u64 (hi:Int),.int .u64 (lo:Int)] 38):=⟨_,rfl⟩
 have hB0:Below w.heap.size w w0:=by rw [hw0];exact below2 _ _ _
 have hmk:Tp w0 w.heap.size H.A.g H.qg H.z.s:=by rw [hw0];exact⟨by simp [go_sem],by simp [go_sem],by simp [go_sem]⟩
 have x0:w0.cell? ⟨w.heap.size+1,0,none⟩=some (.int .i64 o):=by rw [hw0];simp [go_sem]
 have x1:w0.cell? ⟨w.heap.size+1,1,none⟩=some (.int .u64 (hi:Int)):=by rw [hw0];simp [go_sem]
 have x2:w0.cell? ⟨w.heap.size+1,2,none⟩=some (.int .u64 (lo:Int)):=by rw [hw0];simp [go_sem]
 have y1:=hmk.c0
 have HM:=hid hmk
 have HB0:=hid hB0
 have HF:=hid (cfind_any (h.later hB0).cat (o,hi,lo) hw)
 unfold tkr holdR
 by_cases hc:hasC s.X s.l (o,hi,lo)=false
 ·rw [hc] at HF
  simp only [if_pos hc]
  obtain⟨m,hm⟩:∃m,m=findN s.X s.l (o,hi,lo):=⟨_,rfl⟩
  rw [←hm] at HF
  clear h hB0 hmk hc hm
  go_enter func155,ntmps155
  go_upto_region 1 with fail
  rw [←hw0]
  clear hw0
  go_wp2_with (first
   | (go_at_call 196;refine HF.o.mono ?_;rintro e w2 ⟨rfl,hb2⟩;have HB2:=hid (b_c HB0.o hb2);clear hb2))
  exact bodyPost_ret (v:=.tuple #[.int .i64 0,.int .i64 3]) (by simp [results,results155,go_sem]) rfl ⟨rfl,HB2.o⟩
 ·have hc':hasC s.X s.l (o,hi,lo)=true:=by simpa using hc
  rw [hc'] at HF
  simp only [if_neg hc]
  obtain⟨hfn,hft⟩:=findN_of h.inv hc'
  obtain⟨p,hp⟩:=mn_.1 hfn
  have HA:=hid (λ(U:World) (hU:Below w.heap.size w U)=>at_in (h.later hU).cat.cm (findN s.X s.l (o,hi,lo)) p hp)
  rw [hft] at HA
  obtain⟨m,hm⟩:∃m,m=findN s.X s.l (o,hi,lo):=⟨_,rfl⟩
  rw [←hm] at HF HA
  rw [←hm]
  obtain⟨q,hq⟩:∃q,q=rg s.X m:=⟨_,rfl⟩
  rw [←hq] at HA
  rw [←hq]
  have HHs:=hid (has_any q need)
  unfold tokA at HA
  clear h hB0 hmk hc hc' hm hq hft hfn hp
  cases hp4:partB need q with
  | false =>
   rw [hp4] at HHs
   simp only [if_true]
   clear hp4
   go_enter func155,ntmps155
   go_upto_region 1 with fail
   rw [←hw0]
   clear hw0
   go_upto_region 4 with (first
    | (go_at_call 196;refine HF.o.mono ?_;rintro e w2 ⟨rfl,hb2⟩;have HB2:=hid (b_c HB0.o hb2);have z1:=(HM.o.later hb2).c0;clear hb2))
   go_wp2_with (first
    | (go_at_call 197;refine (HHs.o _).mono ?_;rintro e w9 ⟨rfl,hw9⟩;obtain rfl:=hw9.symm;clear hw9)
    | (go_at_call 122;refine (HA.o w2 HB2.o).mono ?_;rintro e w3 ⟨rfl,hb3⟩;have HB3:=hid (b_c HB2.o hb3);clear hb3))
   exact bodyPost_ret (v:=.tuple #[.int .i64 0,.int .i64 4]) (by simp [results,results155,go_sem]) rfl ⟨rfl,HB3.o.alloc HB3.o.size _⟩
  | true =>
   rw [hp4] at HHs
   simp only [Bool.true_eq_false,if_false]
   clear hp4
   go_enter func155,ntmps155
   go_upto_region 1 with fail
   rw [←hw0]
   clear hw0
   go_upto_region 4 with (first
    | (go_at_call 196;refine HF.o.mono ?_;rintro e w2 ⟨rfl,hb2⟩;have HB2:=hid (b_c HB0.o hb2);have z1:=(HM.o.later hb2).c0;clear hb2))
   go_wp2_with (first
    | (go_at_call 197;refine (HHs.o _).mono ?_;rintro e w9 ⟨rfl,hw9⟩;obtain rfl:=hw9.symm;clear hw9)
    | (go_at_call 122;refine (HA.o w2 HB2.o).mono ?_;rintro e w3 ⟨rfl,hb3⟩;have HB3:=hid (b_c HB2.o hb3);clear hb3))
   exact bodyPost_ret (v:=.tuple #[.int .i64 m,.int .i64 0]) (by simp [results,results155,go_sem]) rfl ⟨rfl,HB3.o.alloc HB3.o.size _⟩
def UpRel (w:World)(X:List Tk)(l:Fo)(o:Int)(g xb:Nat)(t:Value)(w':World):Prop :=
 ∃x p:Int,t=.int .i64 x∧(x,p)∈l∧ob X x=o∧w'.cell? ⟨w.heap.size,0,none⟩=some (.pointer (some ⟨g,0,none⟩))∧(∃c r,Cet w' xb 0 (c,r,p))∧(∀j,w'.frozen? ⟨xb,j,none⟩=false)∧Below w.heap.size w w'∧xb<w'.heap.size
def upM (l:Fo)(t:Value):Nat:=match t with
 | .int _ x=>(U l x).length
 | _=>0
theorem root_any {H:Hd}{s:Sta}{d:Nat→List K.Pu}{N:Nat→Prop}(h:Duo w H s d N)(n:Int)(hn:n∈nums s.l) :
  Calls prog 157 #[tkr H,.int .i64 n] w λe w'=>e=.returned (.int .i64 (topOf s.X s.l (ob s.X n)))∧Below w.heap.size w w':=by
 obtain⟨w0,hw0⟩:∃w0,w0=w.alloc (Obj.cells #[.pointer (some ⟨H.A.g,0,none⟩),.pointer (some ⟨H.qg,0,none⟩),.pointer (some ⟨H.z.s,0,none⟩)] 256):=⟨_,rfl⟩
 have hB0:Below w.heap.size w w0:=by rw [hw0];exact below1 _ _
 have y0:w0.cell? ⟨w.heap.size,0,none⟩=some (.pointer (some ⟨H.A.g,0,none⟩)):=by rw [hw0];simp [go_sem]
 have hsz0:w0.heap.size=w.heap.size+1:=by rw [hw0];simp [go_sem]
 have HS0:=hid hsz0
 have HI:=hid h.inv
 have HA:=hid (λ(U:World) (hU:Below w.heap.size w U) (x p:Int) (hp:(x,p)∈s.l)=>at_in (h.later hU).cat.cm x p hp)
 obtain⟨p,hp⟩:=mn_.1 hn
 have HP:=hid hp
 have HB0:=hid hB0
 have HA1:=hid (HA.o w0 hB0 n p hp)
 obtain⟨⟨cx,hx_,lx⟩,hcx⟩:∃c:Cp,c=(tk s.X n).1:=⟨_,rfl⟩
 obtain⟨rx,hrx⟩:∃r,r=rg s.X n:=⟨_,rfl⟩
 rw [←hcx,←hrx] at HA1
 unfold tokA at HA1
 obtain⟨R,hR⟩:∃R,R=topOf s.X s.l (ob s.X n):=⟨_,rfl⟩
 rw [←hR]
 have HR:=hid hR
 unfold tkr
 clear h hB0 hn hp hcx hrx hR hsz0
 go_enter func157,ntmps157
 go_upto_region 1 with fail
 rw [←hw0]
 clear hw0
 go_upto_region 2 with (first
  | (go_at_call 122;refine HA1.o.mono ?_;rintro e w2 ⟨rfl,hb2⟩;have HB2:=hid (b_c HB0.o hb2);have z1:=hid (cell_later hb2 y0);have HS2:=hid (Nat.le_trans (Nat.le_of_eq HS0.o.symm) hb2.size);clear hb2 y0))
 obtain⟨w3,hw3⟩:∃w3,w3=w2.alloc (Obj.cells #[.int .i64 cx,.int .u64 (hx_:Int),.int .u64 (lx:Int),.int .i64 rx,.int .i64 p] 61):=⟨_,rfl⟩
 have hb3:Below w2.heap.size w2 w3:=by rw [hw3];exact below1 _ _
 have hct:Cet w3 w2.heap.size 0 ((cx,hx_,lx),rx,p):=by rw [hw3];exact⟨by simp [go_sem],by simp [go_sem],by simp [go_sem],by simp [go_sem],by simp [go_sem]⟩
 have hfr:∀j,w3.frozen? ⟨w2.heap.size,j,none⟩=false:=λj=>by rw [hw3];simp [go_sem]
 have hlt:w2.heap.size<w3.heap.size:=by rw [hw3];simp [go_sem]
 rw [←hw3]
 have HBe:=hid (b_c HB2.o hb3)
 have HZ:=hid (cell_later hb3 z1.out)
 have HCT:=hid hct
 have HFR:=hid hfr
 have HLT:=hid hlt
 obtain⟨xb,hxb⟩:∃xb,xb=w2.heap.size:=⟨_,rfl⟩
 rw [←hxb] at HS2 HCT HFR HLT
 rw [←hxb]
 clear hw3 hb3 hct hfr hlt hxb z1 HB2
 go_loopw [1] (UpRel w s.X s.l (ob s.X n) H.A.g xb) (λt _=>upM s.l t)
 case atStart=>exact⟨n,p,rfl,HP.o,rfl,HZ.o,⟨_,_,HCT.o⟩,HFR.o,HBe.o,HLT.o⟩
 case round =>
  obtain⟨x,p1,rfl,hp1,ho1,y0,⟨c1,r1,hct⟩,hfr,hB,hlt⟩:=hrel
  have t4:=hct.c4
  simp only [Nat.zero_add] at t4
  have HP1:=hid hp1
  have HO1:=hid ho1
  have HB:=hid hB
  have HLT1:=hid hlt
  have HFR1:=hid hfr
  have HCT1:=hid hct
  by_cases hroot:p1=-1
  ·subst hroot
   have HRx:Hid (R=x):=by
    unfold Hid
    rw [HR.o,←ho1,topOf_eq HI.o hp1]
   clear hct hfr hB hlt hp1 ho1
   go_wp2
   go_ret
   exact⟨by rw [HRx.o];rfl,HB.o⟩
  ·have hb:(p1 != -1)=true:=by simp [hroot]
   have hpn:p1∈nums s.l:=(HI.o.ok.up hp1).resolve_left hroot
   obtain⟨p2,hp2⟩:=mn_.1 hpn
   have HP2:=hid hp2
   have HO2:Hid (ob s.X p1=ob s.X n):=by
    unfold Hid
    rw [←ho1];exact ((HI.o.up x p1 hp1 hroot).1).symm
   have HA2:=hid (HA.o wr hB p1 p2 hp2)
   have HM:Hid ((U s.l p1).length<(U s.l x).length):=by
    unfold Hid
    rw [U_eq HI.o.ok hp1,List.length_cons];omega
   obtain⟨⟨cy,hy_,ly⟩,hcy⟩:∃c:Cp,c=(tk s.X p1).1:=⟨_,rfl⟩
   obtain⟨ry,hry⟩:∃r,r=rg s.X p1:=⟨_,rfl⟩
   rw [←hcy,←hry] at HA2
   unfold tokA at HA2
   clear hct hfr hB hlt hp1 ho1 hroot hpn hp2 hcy hry
   go_upto_region 4 with fail
   go_wp2_with (first
    | (go_at_call 122;refine HA2.o.mono ?_;rintro e w5 ⟨rfl,hb5⟩;have HB5:=hid (b_c HB.o hb5);have HZ5:=hid (cell_later hb5 y0);have hlt5:=hid hb5;have hf0:=hid (λj=>(hb5.frozen HLT1.o (p:=⟨xb,j,none⟩)).trans (HFR1.o j));have d0:=(HCT1.o.later hb5).c0;have d1:=(HCT1.o.later hb5).c1;have d2:=(HCT1.o.later hb5).c2;have d3:=(HCT1.o.later hb5).c3;have d4:=(HCT1.o.later hb5).c4;simp only [Nat.zero_add] at d0 d1 d2 d3 d4;clear hb5;have q0:=hf0.out 0;have q1:=hf0.out 1;have q2:=hf0.out 2;have q3:=hf0.out 3;have q4:=hf0.out 4))
   have hbut:But (·=xb) w5 (set5o w5 xb 0 ((cy,hy_,ly),ry,p2)):=by
    unfold set5o
    exact ((((((But.refl (·=xb) w5).setCell (p:=⟨xb,0,none⟩) rfl _).setCell (p:=⟨xb,0+1,none⟩) rfl _).setCell (p:=⟨xb,0+2,none⟩) rfl _).setCell (p:=⟨xb,0+3,none⟩) rfl _).setCell (p:=⟨xb,0+4,none⟩) rfl _)
   have hS2:=HS2.o
   have hne:¬(w.heap.size=xb):=by omega
   refine⟨⟨p1,p2,rfl,HP2.o,HO2.o,cb_ hbut HZ5.o hne,⟨_,_,(HCT1.o.later hlt5.out).set ((cy,hy_,ly),ry,p2)⟩,λj=>?_,But.below HB5.o hbut (λk hk=>by omega),?_⟩,HM.o⟩
   ·simp only [World.frozen?_setCell];exact hf0.out j
   ·have h1:=HLT1.o
    have h2:=hlt5.out.size
    have h3:=hbut.size
    exact Nat.lt_of_lt_of_le h1 (Nat.le_trans h2 h3)
end Go.Proofs.YtfmhdimaijimlaaGreatDoor.V
namespace Go.Proofs.YtfmhdimaijimlaaGreatDoor.V
open Go.RowKit
open Go.Proofs.YtfmhdimaijimlaaGreatDoor.H (B64 Cp)
theorem wf_of {x:Int}(h:S.i64ok x):(Lit.int .i64 x).wf=true:=by
 unfold S.i64ok at h
 simp only [Lit.wf,Bool.and_eq_true,decide_eq_true_eq]
 have e1:IntKind.i64.min=-9223372036854775808:=by decide
 have e2:IntKind.i64.max=9223372036854775807:=by decide
 rw [e1,e2]
 omega
theorem sub98 {H:Hd}{s:Sta}{d:Nat→List K.Pu}{N:Nat→Prop}(h:Duo w H s d N)(tb qx gx:Nat)(o:Int)(a:Option Addr)(n c:Nat)(u:FrameMode)(ho:S.i64ok o)(x1:w.cell? ⟨tb,1,none⟩=some (.pointer (some ⟨H.qg,0,none⟩)))(x2:w.cell? ⟨qx,0,none⟩=some (.int .i64 o))(x3:w.cell? ⟨gx,0,none⟩=some (.slice a n c)) :
  CallsD prog 198 #[.pointer (some ⟨tb,0,none⟩),.pointer (some ⟨qx,0,none⟩),.pointer (some ⟨gx,0,none⟩)] u w λe u' w'=>u'=u∧e=.returned (.tuple #[])∧Duo w' H { s with L:=Q.subS s.L o (n:Int) } d N∧But N w w':=by
 have HS:=hid (pSub h o (n:Int) (wf_of ho))
 clear h ho
 go_enter_d func198,ntmps198
 go_wp2_with (first
  | (go_at_call 199;refine HS.o.mono ?_;rintro e w2 ⟨rfl,hd2,hb2⟩;have HD:=hid hd2;have HB:=hid hb2;clear hd2 hb2))
 go_end0
 exact⟨rfl,HD.o,HB.o⟩
theorem fell_any {H:Hd}{s:Sta}{d:Nat→List K.Pu}{N:Nat→Prop}(h:Duo w H s d N)(n:Int)(hn:n∈nums s.l)(ho:S.i64ok (ob s.X n)) :
  Calls prog 156 #[tkr H,.int .i64 n] w λe w'=>∃a c,e=.returned (.tuple #[.slice a (G true s.l n).length c,.int .i64 0])∧Ow w' w.heap.size 38 3 a (G true s.l n).length c (caps ((G true s.l n).map (λk=>(tk s.X k).1)))∧Duo w' H (felled s n (ob s.X n)) d N∧But N w w':=by
 obtain⟨w0,hw0⟩:∃w0,w0=(w.alloc (Obj.cells #[.pointer (some ⟨H.A.g,0,none⟩),.pointer (some ⟨H.qg,0,none⟩),.pointer (some ⟨H.z.s,0,none⟩)] 256)).alloc (Obj.cells #[.slice none 0 0] 57):=⟨_,rfl⟩
 have hB0:Below w.heap.size w w0:=by rw [hw0];exact below2 _ _ _
 have htp:Tp w0 w.heap.size H.A.g H.qg H.z.s:=by rw [hw0];exact⟨by simp [go_sem],by simp [go_sem],by simp [go_sem]⟩
 have hgx:Lies w0 ⟨w.heap.size+1,0,none⟩ (.slice none 0 0):=by rw [hw0];exact⟨by simp [go_sem],by simp [go_sem]⟩
 have hsz0:w0.heap.size=w.heap.size+2:=by rw [hw0];simp [go_sem]
 obtain⟨p,hp⟩:=mn_.1 hn
 have hmf:∀(fn:Fn) (first cap:Array Value) (w:World),(Instr.makeFunc fn first cap).run prog w=.ok (.func fn first cap) w:=λ_ _ _ _=>rfl
 have HA1:=hid (at_in (h.later hB0).cat.cm n p hp)
 obtain⟨⟨cx,hx_,lx⟩,hcx⟩:∃c:Cp,c=(tk s.X n).1:=⟨_,rfl⟩
 obtain⟨rx,hrx⟩:∃r,r=rg s.X n:=⟨_,rfl⟩
 have hox:cx=ob s.X n:=by unfold ob;rw [←hcx]
 rw [←hcx,←hrx] at HA1
 unfold tokA at HA1
 unfold tkr
 have y0:=htp.c0
 have HT0:=hid htp
 have HG0:=hid hgx
 have HS0:=hid hsz0
 have HB0:=hid hB0
 have HD:=hid h
 rw [←hox] at ho
 have HO:=hid ho
 have HOX:=hid hox
 have HN:=hid hn
 have HPar:=hid (par_eq h.inv.ok hp)
 clear h hn hp hcx hrx hox ho htp hgx hsz0 hB0
 go_enter_defers func156,ntmps156
 go_upto_region 1 with fail
 rw [←hw0]
 clear hw0
 go_upto_region 2 with (first
  | (go_at_call 122;refine HA1.o.mono ?_;rintro e w2 ⟨rfl,hb2⟩;have HB2:=hid hb2;clear hb2 y0))
 go_upto_region 4 with fail
 obtain⟨w3,hw3⟩:∃w3,w3=(w2.alloc (Obj.cells #[.int .i64 cx,.int .u64 (hx_:Int),.int .u64 (lx:Int),.int .i64 rx,.int .i64 p] 61)).alloc (Obj.cells #[.int .i64 cx] 3):=⟨_,rfl⟩
 have hb3:Below w2.heap.size w2 w3:=by rw [hw3];exact below2 _ _ _
 have t4:w3.cell? ⟨w2.heap.size,4,none⟩=some (.int .i64 p):=by rw [hw3];simp [go_sem]
 have hq:w3.cell? ⟨w2.heap.size+1,0,none⟩=some (.int .i64 cx):=by rw [hw3];simp [go_sem]
 rw [←hw3]
 have hrg:=HD.o.rng
 have hs0:=HS0.o
 have hs2:=HB2.o.size
 have HF:Hid (∀U,But N w3 U→Tp U w.heap.size H.A.g H.qg H.z.s∧U.cell? ⟨w2.heap.size+1,0,none⟩=some (.int .i64 cx)∧Lies U ⟨w.heap.size+1,0,none⟩ (.slice none 0 0)):=λU hU=>by
  have hb23:=b_c HB2.o hb3
  exact⟨(HT0.o.later hb23).but hU (λe=>by have:=hrg _ e;omega),cb_ hU hq (λ(e:N (w2.heap.size+1))=>by have:=hrg _ e;omega),(HG0.o.later hb23).but hU (λ(e:N (w.heap.size+1))=>by have:=hrg _ e;omega)⟩
 have HB3:=hid (b_c HB0.o (b_c HB2.o hb3))
 have HD3:=hid (HD.o.later HB3.o)
 have hlt3:w2.heap.size+1<w3.heap.size:=World.block_lt_of_cell? _ _ hq
 have HS3:Hid (w.heap.size+2≤w2.heap.size∧w2.heap.size+1<w3.heap.size):=⟨by omega,hlt3⟩
 have HRg:=hid hrg
 have HEnd:Hid (∀(V:List (Int×List Nat)) (w5:World) (a:Option Addr) (c:Nat),V=(if par s.l n=-1 then noV s.V cx else s.V)→Ow w5 w3.heap.size 38 3 a (G true s.l n).length c (caps ((G true s.l n).map (λk=>(tk s.X k).1)))→Duo w5 H { s with V:=V,X:=zer s.X (G true s.l n),l:=cuts s.l (G true s.l n) } d N→But N w3 w5 →
   CallsD prog 198 #[.pointer (some ⟨w.heap.size,0,none⟩),.pointer (some ⟨w2.heap.size+1,0,none⟩),.pointer (some ⟨w.heap.size+1,0,none⟩)] .returning (w5.setCell ⟨w.heap.size+1,0,none⟩ (.slice a (G true s.l n).length c)) λe u' w'=>u'=.returning∧e=.returned (.tuple #[])∧w'.cell? ⟨w.heap.size+1,0,none⟩=some (.slice a (G true s.l n).length c)∧Ow w' w.heap.size 38 3 a (G true s.l n).length c (caps ((G true s.l n).map (λk=>(tk s.X k).1)))∧Duo w' H (felled s n (ob s.X n)) d N∧But N w w'):=λV w5 a c hV hO hd5 hb5=>by
  obtain⟨f1,f2,f3⟩:=HF.o w5 hb5
  have hbs:But (·=w.heap.size+1) w5 (w5.setCell ⟨w.heap.size+1,0,none⟩ (.slice a (G true s.l n).length c)):=(But.refl (·=w.heap.size+1) w5).setCell (p:=⟨w.heap.size+1,0,none⟩) rfl _
  have s3:=HS3.o
  have hd6:=hd5.but hbs (λk hk e=>by have:=HRg.o k hk;omega) (λe=>absurd e (by show ¬(0=w.heap.size+1);omega))
  have g3:(w5.setCell ⟨w.heap.size+1,0,none⟩ (.slice a (G true s.l n).length c)).cell? ⟨w.heap.size+1,0,none⟩=some (.slice a (G true s.l n).length c):=World.cell?_setCell_same _ _ _ f3.1
  have f1':=f1.but hbs (λe=>by omega)
  have f2':=cb_ hbs f2 (by show ¬(w2.heap.size+1=w.heap.size+1);omega)
  refine (sub98 hd6 w.heap.size (w2.heap.size+1) (w.heap.size+1) cx a (G true s.l n).length c .returning HO.o f1'.c1 f2' g3).mono ?_
  rintro e u' w7 ⟨rfl,rfl,hd7,hb7⟩
  have hlist:∀j,Blk a j→w3.heap.size≤j:=λj hj=>(hO.blk j hj).1
  refine⟨rfl,rfl,cb_ hb7 g3 (λ(e:N (w.heap.size+1))=>by have:=HRg.o _ e;omega),((hO.but hbs (λj hj e=>by have:=hlist j hj;omega)).but hb7 (λj hj e=>by have:=hlist j hj;have:=HRg.o _ e;omega)).mono (by omega),?_,?_⟩
  ·rw [hV,HOX.o] at hd7
   exact hd7
  ·refine⟨?_,?_,?_,?_,λk hk hn=>?_⟩
   ·exact hb7.os.trans (hbs.os.trans (hb5.os.trans HB3.o.os))
   ·exact hb7.tape.trans (hbs.tape.trans (hb5.tape.trans HB3.o.tape))
   ·exact hb7.output.trans (hbs.output.trans (hb5.output.trans HB3.o.output))
   ·exact Nat.le_trans HB3.o.size (Nat.le_trans hb5.size (Nat.le_trans hbs.size hb7.size))
   ·have h3:=HB3.o.size
    have h5:=hb5.size
    have h6:=hbs.size
    exact ((hb7.block k (by omega) hn).trans (hbs.block k (by omega) (λe=>by omega))).trans ((hb5.block k (by omega) hn).trans (HB3.o.block k hk))
 clear hw3 hb3 hq hrg hs0 hs2 hlt3 HA1 HT0 HG0
 by_cases hp1:p=-1
 ·subst hp1
  obtain⟨z0,z1,z2⟩:=(HF.o w3 (But.refl _ _)).1
  obtain⟨q0⟩:=And.intro (HF.o w3 (But.refl _ _)).2.1 trivial
  have HDs:=hid (pDestroy HD3.o cx HO.o)
  have HV:Hid (noV s.V cx=(if par s.l n=-1 then noV s.V cx else s.V)):=by unfold Hid;rw [if_pos HPar.o]
  go_upto_region 6 with (first
   | (go_at_call 200;refine HDs.o.mono ?_;rintro e w4 ⟨x9,rfl,hd4,hb4⟩;have HD4:=hid hd4;have HB4:=hid hb4;have y0:=(HF.o w4 hb4).1.c0;clear hd4 hb4 z0 z1 z2 q0 t4))
  have HDr:=hid (pDrop HD4.o n HN.o)
  go_wp2_with (first
   | (go_at_call 201;refine HDr.o.mono ?_;rintro e w5 ⟨a,c,rfl,hO5,hd5,hb5⟩;have HD5:=hid hd5;have HB5:=hid (HB4.o.trans hb5);have HO5:=hid (hO5.mono HB4.o.size);have gg:=(HF.o w5 HB5.o).2.2.1;have gf:=(HF.o w5 HB5.o).2.2.2;clear hd5 hb5 hO5))
  refine leaves_cons (f:=198) (args:=#[.pointer (some ⟨w.heap.size,0,none⟩),.pointer (some ⟨w2.heap.size+1,0,none⟩),.pointer (some ⟨w.heap.size+1,0,none⟩)]) (by simp) (by simp [go_sem]) ?_
  refine (HEnd.o _ w5 a c HV.o HO5.o HD5.o HB5.o).mono ?_
  rintro e u' w7 ⟨rfl,rfl,g7,r1,r2,r3⟩
  have HR:=hid (And.intro r1 (And.intro r2 r3))
  clear r1 r2 r3
  simp only [Leaves,settle]
  refine⟨.tuple #[.slice a (G true s.l n).length c,.int .i64 0],by simp [results,results156,go_sem,g7],a,c,rfl,HR.o⟩
 ·have hb1:(p==-1)=false:=by simp [hp1]
  obtain⟨z0,z1,z2⟩:=(HF.o w3 (But.refl _ _)).1
  have HV:Hid (s.V=(if par s.l n=-1 then noV s.V cx else s.V)):=by unfold Hid;rw [if_neg (by rw [HPar.o];exact hp1)]
  have HDr:=hid (pDrop HD3.o n HN.o)
  go_wp2_with (first
   | (go_at_call 201;refine HDr.o.mono ?_;rintro e w5 ⟨a,c,rfl,hO5,hd5,hb5⟩;have HD5:=hid hd5;have HB5:=hid hb5;have HO5:=hid hO5;have gg:=(HF.o w5 HB5.o).2.2.1;have gf:=(HF.o w5 HB5.o).2.2.2;clear hd5 hb5 hO5))
  refine leaves_cons (f:=198) (args:=#[.pointer (some ⟨w.heap.size,0,none⟩),.pointer (some ⟨w2.heap.size+1,0,none⟩),.pointer (some ⟨w.heap.size+1,0,none⟩)]) (by simp) (by simp [go_sem]) ?_
  refine (HEnd.o _ w5 a c HV.o HO5.o HD5.o HB5.o).mono ?_
  rintro e u' w7 ⟨rfl,rfl,g7,r1,r2,r3⟩
  have HR:=hid (And.intro r1 (And.intro r2 r3))
  clear r1 r2 r3
  simp only [Leaves,settle]
  refine⟨.tuple #[.slice a (G true s.l n).length c,.int .i64 0],by simp [results,results156,go_sem,g7],a,c,rfl,HR.o⟩
def Took (w:World)(H:Hd)(A:Ans)(d:Nat→List K.Pu)(N:Nat→Prop)(e:Ending)(w':World):Prop :=
 ∃a c,e=.returned (.tuple #[.slice a A.K.length c,.int .i64 A.code])∧Ow w' w.heap.size 38 3 a A.K.length c (caps A.K)∧Duo w' H A.s d N∧But N w w'
theorem token_any {H:Hd}{s:Sta}{d:Nat→List K.Pu}{N:Nat→Prop}(h:Duo w H s d N)(c:Cp)(hw:c.2.1<B64∧c.2.2<B64)(hc1:S.i64ok c.1) :
  Calls prog 109 #[.pointer (some ⟨H.A.g,0,none⟩),.pointer (some ⟨H.qg,0,none⟩),.pointer (some ⟨H.z.s,0,none⟩),cpV c] w (Took w H (revA false s c) d N):=by
 obtain⟨o,hi,lo⟩:=c
 obtain⟨w0,hw0⟩:∃w0,w0=(w.alloc (Obj.cells #[.int .i64 o,.int .u64 (hi:Int),.int .u64 (lo:Int)] 38)).alloc (Obj.cells #[.pointer (some ⟨H.A.g,0,none⟩),.pointer (some ⟨H.qg,0,none⟩),.pointer (some ⟨H.z.s,0,none⟩)] 256):=⟨_,rfl⟩
 have hB0:Below w.heap.size w w0:=by rw [hw0];exact below2 _ _ _
 have htp:Tp w0 (w.heap.size+1) H.A.g H.qg H.z.s:=by rw [hw0];exact⟨by simp [go_sem],by simp [go_sem],by simp [go_sem]⟩
 have x0:w0.cell? ⟨w.heap.size,0,none⟩=some (.int .i64 o):=by rw [hw0];simp [go_sem]
 have x1:w0.cell? ⟨w.heap.size,1,none⟩=some (.int .u64 (hi:Int)):=by rw [hw0];simp [go_sem]
 have x2:w0.cell? ⟨w.heap.size,2,none⟩=some (.int .u64 (lo:Int)):=by rw [hw0];simp [go_sem]
 obtain⟨y0,y1,y2⟩:=id htp
 have HT:=hid htp
 have HB0:=hid hB0
 have HD0:=hid (h.later hB0)
 have HH:=hid (holder_any (h.later hB0) (o,hi,lo) 8 hw)
 have HD:=hid h
 unfold tkr at HH
 have hans:revA false s (o,hi,lo)=if (holdR s (o,hi,lo) 8).2=0 then ⟨(G true s.l (findN s.X s.l (o,hi,lo))).map (λk=>(tk s.X k).1),0,felled s (findN s.X s.l (o,hi,lo)) o⟩ else ⟨[],(holdR s (o,hi,lo) 8).2,s⟩:=by
  unfold revA holdR needB whom
  by_cases h1:hasC s.X s.l (o,hi,lo)=false
  ·simp [h1]
  ·by_cases h2:partB 8 (rg s.X (findN s.X s.l (o,hi,lo)))=false
   ·simp [h1,h2]
   ·simp [h1,h2]
 rw [hans]
 by_cases hz:(holdR s (o,hi,lo) 8).2=0
 ·rw [if_pos hz]
  have hh:hasC s.X s.l (o,hi,lo)=true∧(holdR s (o,hi,lo) 8).1=findN s.X s.l (o,hi,lo):=by
   unfold holdR at hz ⊢
   by_cases h1:hasC s.X s.l (o,hi,lo)=false
   ·rw [if_pos h1] at hz;exact absurd hz (by decide)
   ·rw [if_neg h1] at hz ⊢
    refine⟨by simpa using h1,?_⟩
    by_cases h2:partB 8 (rg s.X (findN s.X s.l (o,hi,lo)))=false
    ·rw [if_pos h2] at hz;exact absurd hz (by decide)
    ·rw [if_neg h2]
  rw [hz,hh.2] at HH
  obtain⟨f1,f2⟩:=findN_of h.inv hh.1
  have fo:ob s.X (findN s.X s.l (o,hi,lo))=o:=by unfold ob;rw [f2]
  have HFl:=hid (λ(U:World) (hU:Below w.heap.size w U)=>fell_any (h.later hU) (findN s.X s.l (o,hi,lo)) f1 (by rw [fo];exact hc1))
  rw [fo] at HFl
  obtain⟨m,hm⟩:∃m,m=findN s.X s.l (o,hi,lo):=⟨_,rfl⟩
  rw [←hm] at HH HFl
  rw [←hm]
  unfold tkr at HFl
  obtain⟨KL,hKL⟩:∃KL,KL=(G true s.l m).map (λk=>(tk s.X k).1):=⟨_,rfl⟩
  have hlen:(G true s.l m).length=KL.length:=by rw [hKL,List.length_map]
  rw [←hKL]
  rw [←hKL,hlen] at HFl
  obtain⟨kn,hkn⟩:∃kn,kn=KL.length:=⟨_,rfl⟩
  rw [←hkn] at HFl
  unfold Took
  simp only
  rw [←hkn]
  obtain⟨S',hS'⟩:∃S',S'=felled s m o:=⟨_,rfl⟩
  rw [←hS'] at HFl
  rw [←hS']
  clear h hB0 htp hans hz hh f1 f2 fo hm hKL hlen hkn hS'
  go_enter func109,ntmps109
  go_upto_region 2 with fail
  rw [←hw0]
  clear hw0
  go_upto_region 5 with (first
   | (go_at_call 155;refine HH.o.mono ?_;rintro e w2 ⟨rfl,hb2⟩;have HB2:=hid (b_c HB0.o hb2);have z0:=(HT.o.later hb2).c0;have z1:=(HT.o.later hb2).c1;have z2:=(HT.o.later hb2).c2;clear hb2))
  go_wp2_with (first
   | (go_at_call 156;refine (HFl.o w2 HB2.o).mono ?_;rintro e w3 ⟨a,c,rfl,hO3,hd3,hb3⟩;have HR:=hid (And.intro (hO3.mono HB2.o.size) (And.intro hd3 ((But.of (S:=N) HB2.o).trans hb3)));clear hO3 hd3 hb3))
  exact bodyPost_ret (v:=.tuple #[.slice a kn c,.int .i64 0]) (by simp [results,results109,go_sem]) rfl ⟨a,c,rfl,HR.o⟩
 ·rw [if_neg hz]
  obtain⟨E,hE⟩:∃E,E=(holdR s (o,hi,lo) 8).2:=⟨_,rfl⟩
  obtain⟨m,hm⟩:∃m,m=(holdR s (o,hi,lo) 8).1:=⟨_,rfl⟩
  rw [←hE,←hm] at HH
  rw [←hE]
  rw [←hE] at hz
  have hz2:(E != 0)=true:=by simp [hz]
  unfold Took
  clear h hB0 htp hans hE hm
  go_enter func109,ntmps109
  go_upto_region 2 with fail
  rw [←hw0]
  clear hw0
  go_wp2_with (first
   | (go_at_call 155;refine HH.o.mono ?_;rintro e w2 ⟨rfl,hb2⟩;have HB2:=hid (b_c HB0.o hb2);clear hb2))
  exact bodyPost_ret (v:=.tuple #[.slice none 0 0,.int .i64 E]) (by simp [results,results109,go_sem]) rfl ⟨none,0,rfl,Ow.nil _ _ _ _,HD.o.later HB2.o,But.of HB2.o⟩
theorem object_any {H:Hd}{s:Sta}{d:Nat→List K.Pu}{N:Nat→Prop}(h:Duo w H s d N)(c:Cp)(hw:c.2.1<B64∧c.2.2<B64)(hc1:S.i64ok c.1) :
  Calls prog 106 #[.pointer (some ⟨H.A.g,0,none⟩),.pointer (some ⟨H.qg,0,none⟩),.pointer (some ⟨H.z.s,0,none⟩),cpV c] w (Took w H (revA true s c) d N):=by
 obtain⟨o,hi,lo⟩:=c
 obtain⟨w0,hw0⟩:∃w0,w0=(w.alloc (Obj.cells #[.int .i64 o,.int .u64 (hi:Int),.int .u64 (lo:Int)] 38)).alloc (Obj.cells #[.pointer (some ⟨H.A.g,0,none⟩),.pointer (some ⟨H.qg,0,none⟩),.pointer (some ⟨H.z.s,0,none⟩)] 256):=⟨_,rfl⟩
 have hB0:Below w.heap.size w w0:=by rw [hw0];exact below2 _ _ _
 have htp:Tp w0 (w.heap.size+1) H.A.g H.qg H.z.s:=by rw [hw0];exact⟨by simp [go_sem],by simp [go_sem],by simp [go_sem]⟩
 have x0:w0.cell? ⟨w.heap.size,0,none⟩=some (.int .i64 o):=by rw [hw0];simp [go_sem]
 have x1:w0.cell? ⟨w.heap.size,1,none⟩=some (.int .u64 (hi:Int)):=by rw [hw0];simp [go_sem]
 have x2:w0.cell? ⟨w.heap.size,2,none⟩=some (.int .u64 (lo:Int)):=by rw [hw0];simp [go_sem]
 obtain⟨y0,y1,y2⟩:=id htp
 have HT:=hid htp
 have HB0:=hid hB0
 have HD0:=hid (h.later hB0)
 have HH:=hid (holder_any (h.later hB0) (o,hi,lo) 16 hw)
 have HD:=hid h
 unfold tkr at HH
 have hans:revA true s (o,hi,lo)=if (holdR s (o,hi,lo) 16).2=0 then ⟨(G true s.l (topOf s.X s.l o)).map (λk=>(tk s.X k).1),0,felled s (topOf s.X s.l o) o⟩ else ⟨[],(holdR s (o,hi,lo) 16).2,s⟩:=by
  unfold revA holdR needB whom
  by_cases h1:hasC s.X s.l (o,hi,lo)=false
  ·simp [h1]
  ·by_cases h2:partB 16 (rg s.X (findN s.X s.l (o,hi,lo)))=false
   ·simp [h1,h2]
   ·simp [h1,h2]
 rw [hans]
 by_cases hz:(holdR s (o,hi,lo) 16).2=0
 ·rw [if_pos hz]
  have hh:hasC s.X s.l (o,hi,lo)=true∧(holdR s (o,hi,lo) 16).1=findN s.X s.l (o,hi,lo):=by
   unfold holdR at hz ⊢
   by_cases h1:hasC s.X s.l (o,hi,lo)=false
   ·rw [if_pos h1] at hz;exact absurd hz (by decide)
   ·rw [if_neg h1] at hz ⊢
    refine⟨by simpa using h1,?_⟩
    by_cases h2:partB 16 (rg s.X (findN s.X s.l (o,hi,lo)))=false
    ·rw [if_pos h2] at hz;exact absurd hz (by decide)
    ·rw [if_neg h2]
  rw [hz,hh.2] at HH
  obtain⟨f1,f2⟩:=findN_of h.inv hh.1
  have fo:ob s.X (findN s.X s.l (o,hi,lo))=o:=by unfold ob;rw [f2]
  obtain⟨g1,g2,g3⟩:=whom_in h.inv hh.1 true
  have e1:whom true s (o,hi,lo)=topOf s.X s.l o:=rfl
  rw [e1] at g1 g2
  have g2':ob s.X (topOf s.X s.l o)=o:=g2
  have HRt:=hid (λ(U:World) (hU:Below w.heap.size w U)=>root_any (h.later hU) (findN s.X s.l (o,hi,lo)) f1)
  rw [fo] at HRt
  have HFl:=hid (λ(U:World) (hU:Below w.heap.size w U)=>fell_any (h.later hU) (topOf s.X s.l o) g1 (by rw [g2'];exact hc1))
  rw [g2'] at HFl
  obtain⟨m0,hm0⟩:∃m,m=findN s.X s.l (o,hi,lo):=⟨_,rfl⟩
  rw [←hm0] at HH HRt
  obtain⟨m,hm⟩:∃m,m=topOf s.X s.l o:=⟨_,rfl⟩
  rw [←hm] at HRt HFl
  rw [←hm]
  unfold tkr at HRt
  unfold tkr at HFl
  obtain⟨KL,hKL⟩:∃KL,KL=(G true s.l m).map (λk=>(tk s.X k).1):=⟨_,rfl⟩
  have hlen:(G true s.l m).length=KL.length:=by rw [hKL,List.length_map]
  rw [←hKL]
  rw [←hKL,hlen] at HFl
  obtain⟨kn,hkn⟩:∃kn,kn=KL.length:=⟨_,rfl⟩
  rw [←hkn] at HFl
  unfold Took
  simp only
  rw [←hkn]
  obtain⟨S',hS'⟩:∃S',S'=felled s m o:=⟨_,rfl⟩
  rw [←hS'] at HFl
  rw [←hS']
  have HRg:=hid h.rng
  clear h hB0 htp hans hz hh f1 f2 fo hm hm0 hKL hlen hkn hS' g1 g2 g3 g2' e1
  go_enter func106,ntmps106
  go_upto_region 2 with fail
  rw [←hw0]
  clear hw0
  go_upto_region 5 with (first
   | (go_at_call 155;refine HH.o.mono ?_;rintro e w2 ⟨rfl,hb2⟩;have HB2:=hid (b_c HB0.o hb2);have z0:=(HT.o.later hb2).c0;have z1:=(HT.o.later hb2).c1;have z2:=(HT.o.later hb2).c2;clear hb2))
  have HT2:=hid (Tp.mk z0 z1 z2)
  clear z0 z1 z2 HT
  go_region_held3 (λU=>U.cell? ⟨w.heap.size+1,0,none⟩=some (.pointer (some ⟨H.A.g,0,none⟩))∧U.cell? ⟨w.heap.size+1,1,none⟩=some (.pointer (some ⟨H.qg,0,none⟩))∧U.cell? ⟨w.heap.size+1,2,none⟩=some (.pointer (some ⟨H.z.s,0,none⟩))) (first|exact HT4.o|exact HT3.o|exact⟨HT2.o.later (Below.refl _ _).drew |>.c0,HT2.o.later (Below.refl _ _).drew |>.c1,HT2.o.later (Below.refl _ _).drew |>.c2⟩|exact⟨HT2.o.c0,HT2.o.c1,HT2.o.c2⟩) (first
   | (go_at_call 156;refine (HFl.o w3 HB3.o).mono ?_;rintro e w4 ⟨a,c,rfl,hO4,hd4,hb4⟩;have HT4:=hid (And.intro (cb_ hb4 HT3.o.1 (λ(e:N (w.heap.size+1))=>by have:=HRg.o _ e;omega)) (And.intro (cb_ hb4 HT3.o.2.1 (λ(e:N (w.heap.size+1))=>by have:=HRg.o _ e;omega)) (cb_ hb4 HT3.o.2.2 (λ(e:N (w.heap.size+1))=>by have:=HRg.o _ e;omega))));have HR:=hid (And.intro (hO4.mono HB3.o.size) (And.intro hd4 ((But.of (S:=N) HB3.o).trans hb4)));clear hO4 hd4 hb4)
   | (go_at_call 157;refine (HRt.o _ (b_c HB2.o (Below.refl _ _).drew)).mono ?_;rintro e w3 ⟨rfl,hb3⟩;have HB3:=hid (b_c (b_c HB2.o (Below.refl _ _).drew) hb3);have HT3:=hid (And.intro ((HT2.o.later (Below.refl _ _).drew).later hb3).c0 (And.intro ((HT2.o.later (Below.refl _ _).drew).later hb3).c1 ((HT2.o.later (Below.refl _ _).drew).later hb3).c2));clear hb3))
  go_wp2
  exact bodyPost_ret (v:=.tuple #[.slice a kn c,.int .i64 0]) (by simp [results,results106,go_sem]) rfl ⟨a,c,rfl,HR.o⟩
 ·rw [if_neg hz]
  obtain⟨E,hE⟩:∃E,E=(holdR s (o,hi,lo) 16).2:=⟨_,rfl⟩
  obtain⟨m,hm⟩:∃m,m=(holdR s (o,hi,lo) 16).1:=⟨_,rfl⟩
  rw [←hE,←hm] at HH
  rw [←hE]
  rw [←hE] at hz
  have hz2:(E != 0)=true:=by simp [hz]
  unfold Took
  clear h hB0 htp hans hE hm
  go_enter func106,ntmps106
  go_upto_region 2 with fail
  rw [←hw0]
  clear hw0
  go_wp2_with (first
   | (go_at_call 155;refine HH.o.mono ?_;rintro e w2 ⟨rfl,hb2⟩;have HB2:=hid (b_c HB0.o hb2);clear hb2))
  exact bodyPost_ret (v:=.tuple #[.slice none 0 0,.int .i64 E]) (by simp [results,results106,go_sem]) rfl ⟨none,0,rfl,Ow.nil _ _ _ _,HD.o.later HB2.o,But.of HB2.o⟩
section
variable {w w':World}{H:Hd}{s s':Sta}{d d':Nat→List K.Pu}{O:Nat→Nat→Prop}{N:Nat→Prop}{c:R.Cl}{dd gg:R.Sl}{b:Nat}
theorem dropped_any (h:Duo w H s d N)(x:Int)(ht:x≠0→L.Tr s.X s.l d):Calls prog 107 #[.pointer (some ⟨H.kb,0,none⟩),.int .i64 x] w λe w'=>e=.returned (rpV (rep x) none 0 0)∧∃T,Duo w' H s T N∧L.Tr s.X s.l T∧But N w w':=by
 by_cases hx:x=0
 ·subst hx
  exact dropped_ok h
 ·refine (dropped_bad h x hx).mono ?_
  rintro e w' ⟨rfl,hb⟩
  exact⟨rfl,d,h.later hb,ht hx,But.of hb⟩
theorem revA_same {all:Bool}{c:Cp}(h:(revA all s c).code≠0):(revA all s c).s=s:=by
 unfold revA at h ⊢
 split
 ·rfl
 ·rename_i h1
  rw [if_neg h1] at h
  split
  ·rfl
  ·rename_i h2
   rw [if_neg h2] at h
   exact absurd rfl h
theorem destroy_any (h:Duo w H s d N)(ht:L.Tr s.X s.l d)(ho:S.i64ok c.obj)(hw:c.hi<B64∧c.lo<B64) :
  Calls prog 60 #[.pointer (some ⟨H.kb,0,none⟩),.agg (R.cC c dd gg).toArray] w λe w'=>e=.returned (rpV (awayA true s (cpO c)).1 none 0 0)∧∃T,Duo w' H (awayA true s (cpO c)).2 T N∧L.Tr (awayA true s (cpO c)).2.X (awayA true s (cpO c)).2.l T∧But N w w':=by
 obtain⟨W,hW⟩:∃W,W=(w.alloc (Obj.cells (R.cC c dd gg).toArray 45)).alloc z6:=⟨_,rfl⟩
 have hB:Below w.heap.size w W:=by rw [hW];exact below2 _ _ _
 have hX:R.Bx W w.heap.size (R.cC c dd gg):=by rw [hW];exact R.Bx.later (below1 _ _) (R.Bx.new w (R.cC c dd gg) 45)
 have hZ:Zr W (w.heap.size+1):=by rw [hW];have:=Zr.new (w.alloc (Obj.cells (R.cC c dd gg).toArray 45));simpa using this
 have h2:=h.later hB
 have HC:=hid (λ(U:World) (hU:Below W.heap.size W U)=>object_any (h2.later hU) (cpO c) hw ho)
 have HQ:Hid ((revA true s (cpO c)).code≠0→L.Tr (revA true s (cpO c)).s.X (revA true s (cpO c)).s.l d):=λe=>by rw [revA_same e];exact ht
 unfold awayA
 generalize revA true s (cpO c)=A at *
 unfold cpO at HC
 have HS:Hid (∀U {s d},Duo U H s d N→But N W U→U.cell? ⟨H.kb,11,none⟩=some (.pointer (some ⟨H.z.s,0,none⟩))∧U.cell? ⟨H.kb,12,none⟩=some (.pointer (some ⟨H.A.g,0,none⟩))∧U.cell? ⟨H.kb,13,none⟩=some (.pointer (some ⟨H.qg,0,none⟩))∧U.cell? ⟨w.heap.size,3,none⟩=some (.int .i64 c.obj)∧U.cell? ⟨w.heap.size,4,none⟩=some (.int .u64 (c.hi:Int))∧U.cell? ⟨w.heap.size,5,none⟩=some (.int .u64 (c.lo:Int))):=λU s d hd hb=>by
  have:=Cb.of (R.Bx.but hb hX (h.new (Nat.le_refl _)))
  exact⟨hd.kb 11 _ rfl,hd.kb 12 _ rfl,hd.kb 13 _ rfl,this.c3,this.c4,this.c5⟩
 have H0:=hid (λU (hU:But (λ_=>False) W U)=>HS.o U (h2.but hU (λ_ _ h=>h) (λh=>h)) (hU.mono (λ_ h=>h.elim)))
 have HW:=hid hW
 have HB:=hid hB
 have HX:=hid hX
 have HZ:=hid hZ
 have HD:=hid h2
 have HP:Hid (0<w.heap.size):=by have:=h.b0;unfold Hid;omega
 have HN:=hid (λk hk=>h.new (k:=k) hk)
 clear h h2 hB hX hZ hW
 go_enter func60,ntmps60
 go_upto_region 1 with fail
 rw [←HW.o]
 go_region_held3 (λU=>U.cell? ⟨H.kb,11,none⟩=some (.pointer (some ⟨H.z.s,0,none⟩))∧U.cell? ⟨H.kb,12,none⟩=some (.pointer (some ⟨H.A.g,0,none⟩))∧U.cell? ⟨H.kb,13,none⟩=some (.pointer (some ⟨H.qg,0,none⟩))∧U.cell? ⟨w.heap.size,3,none⟩=some (.int .i64 c.obj)∧U.cell? ⟨w.heap.size,4,none⟩=some (.int .u64 (c.hi:Int))∧U.cell? ⟨w.heap.size,5,none⟩=some (.int .u64 (c.lo:Int))) (first|exact H0.o _ (But.of (Below.refl _ _).drew)|exact HE.o) (first
   | (go_at_call 106;refine (HC.o _ (Below.refl _ _).drew).mono ?_;rintro e w2 ⟨a_,c_,rfl,-,hd_,hb_⟩;have HB2:Hid (But N W w2):=(But.of (S:=N) (Below.refl W.heap.size W).drew).trans hb_;have HE:=hid (HS.o w2 hd_ HB2.o);have HDr:=hid (dropped_any hd_ A.code HQ.o);clear hd_ hb_))
 go_upto_region 2 with fail
 go_upto_region 3 with (first|(go_at_call 107;refine HDr.o.mono ?_;rintro e w3 ⟨rfl,T,hd3,ht3,hb3⟩;have HD3:=hid hd3;have HT3:=hid ht3;have HB3:Hid (But N W w3):=HB2.o.trans hb3;have HZ9:=hid (HZ.o.but HB3.o (HN.o _ (by omega)));have HS9:=hid (HZ9.o.st (rep A.code) none 0 0);have HL9:=hid (HZ9.o.lv (rep A.code) none 0 0);clear hd3 ht3 hb3)|((with_reducible refine st_arm HS9.o ?_ ?_ ?_);(· rfl);(· rfl)))
 have HB9:Hid (But (·=w.heap.size+1) w3 (w3.setCells (w.heap.size+1) 0 (rpL (rep A.code) none 0 0))):=R.sb_ (S:=(·=w.heap.size+1)) rfl _ 0 (But.refl _ _)
 exact bodyPost_ret (v:=rpV (rep A.code) none 0 0) (by simp [results,results60,asAddr,HL9.o]) rfl ⟨rfl,T,HD3.o.but HB9.o (λk hk e=>HN.o k (by omega) hk) (λe=>by have:0=w.heap.size+1:=e;omega),HT3.o,((But.of HB.o).trans HB3.o).comp HB9.o (λi e=>.inr (by omega))⟩
theorem revoke_any (h:Duo w H s d N)(ht:L.Tr s.X s.l d)(ho:S.i64ok c.obj)(hw:c.hi<B64∧c.lo<B64) :
  Calls prog 62 #[.pointer (some ⟨H.kb,0,none⟩),.agg (R.cC c dd gg).toArray] w λe w'=>e=.returned (rpV (awayA false s (cpO c)).1 none 0 0)∧∃T,Duo w' H (awayA false s (cpO c)).2 T N∧L.Tr (awayA false s (cpO c)).2.X (awayA false s (cpO c)).2.l T∧But N w w':=by
 obtain⟨W,hW⟩:∃W,W=(w.alloc (Obj.cells (R.cC c dd gg).toArray 45)).alloc z6:=⟨_,rfl⟩
 have hB:Below w.heap.size w W:=by rw [hW];exact below2 _ _ _
 have hX:R.Bx W w.heap.size (R.cC c dd gg):=by rw [hW];exact R.Bx.later (below1 _ _) (R.Bx.new w (R.cC c dd gg) 45)
 have hZ:Zr W (w.heap.size+1):=by rw [hW];have:=Zr.new (w.alloc (Obj.cells (R.cC c dd gg).toArray 45));simpa using this
 have h2:=h.later hB
 have HC:=hid (λ(U:World) (hU:Below W.heap.size W U)=>token_any (h2.later hU) (cpO c) hw ho)
 have HQ:Hid ((revA false s (cpO c)).code≠0→L.Tr (revA false s (cpO c)).s.X (revA false s (cpO c)).s.l d):=λe=>by rw [revA_same e];exact ht
 unfold awayA
 generalize revA false s (cpO c)=A at *
 unfold cpO at HC
 have HS:Hid (∀U {s d},Duo U H s d N→But N W U→U.cell? ⟨H.kb,11,none⟩=some (.pointer (some ⟨H.z.s,0,none⟩))∧U.cell? ⟨H.kb,12,none⟩=some (.pointer (some ⟨H.A.g,0,none⟩))∧U.cell? ⟨H.kb,13,none⟩=some (.pointer (some ⟨H.qg,0,none⟩))∧U.cell? ⟨w.heap.size,3,none⟩=some (.int .i64 c.obj)∧U.cell? ⟨w.heap.size,4,none⟩=some (.int .u64 (c.hi:Int))∧U.cell? ⟨w.heap.size,5,none⟩=some (.int .u64 (c.lo:Int))):=λU s d hd hb=>by
  have:=Cb.of (R.Bx.but hb hX (h.new (Nat.le_refl _)))
  exact⟨hd.kb 11 _ rfl,hd.kb 12 _ rfl,hd.kb 13 _ rfl,this.c3,this.c4,this.c5⟩
 have H0:=hid (λU (hU:But (λ_=>False) W U)=>HS.o U (h2.but hU (λ_ _ h=>h) (λh=>h)) (hU.mono (λ_ h=>h.elim)))
 have HW:=hid hW
 have HB:=hid hB
 have HX:=hid hX
 have HZ:=hid hZ
 have HD:=hid h2
 have HP:Hid (0<w.heap.size):=by have:=h.b0;unfold Hid;omega
 have HN:=hid (λk hk=>h.new (k:=k) hk)
 clear h h2 hB hX hZ hW
 go_enter func62,ntmps62
 go_upto_region 1 with fail
 rw [←HW.o]
 go_region_held3 (λU=>U.cell? ⟨H.kb,11,none⟩=some (.pointer (some ⟨H.z.s,0,none⟩))∧U.cell? ⟨H.kb,12,none⟩=some (.pointer (some ⟨H.A.g,0,none⟩))∧U.cell? ⟨H.kb,13,none⟩=some (.pointer (some ⟨H.qg,0,none⟩))∧U.cell? ⟨w.heap.size,3,none⟩=some (.int .i64 c.obj)∧U.cell? ⟨w.heap.size,4,none⟩=some (.int .u64 (c.hi:Int))∧U.cell? ⟨w.heap.size,5,none⟩=some (.int .u64 (c.lo:Int))) (first|exact H0.o _ (But.of (Below.refl _ _).drew)|exact HE.o) (first
   | (go_at_call 109;refine (HC.o _ (Below.refl _ _).drew).mono ?_;rintro e w2 ⟨a_,c_,rfl,-,hd_,hb_⟩;have HB2:Hid (But N W w2):=(But.of (S:=N) (Below.refl W.heap.size W).drew).trans hb_;have HE:=hid (HS.o w2 hd_ HB2.o);have HDr:=hid (dropped_any hd_ A.code HQ.o);clear hd_ hb_))
 go_upto_region 2 with fail
 go_upto_region 3 with (first|(go_at_call 107;refine HDr.o.mono ?_;rintro e w3 ⟨rfl,T,hd3,ht3,hb3⟩;have HD3:=hid hd3;have HT3:=hid ht3;have HB3:Hid (But N W w3):=HB2.o.trans hb3;have HZ9:=hid (HZ.o.but HB3.o (HN.o _ (by omega)));have HS9:=hid (HZ9.o.st (rep A.code) none 0 0);have HL9:=hid (HZ9.o.lv (rep A.code) none 0 0);clear hd3 ht3 hb3)|((with_reducible refine st_arm HS9.o ?_ ?_ ?_);(· rfl);(· rfl)))
 have HB9:Hid (But (·=w.heap.size+1) w3 (w3.setCells (w.heap.size+1) 0 (rpL (rep A.code) none 0 0))):=R.sb_ (S:=(·=w.heap.size+1)) rfl _ 0 (But.refl _ _)
 exact bodyPost_ret (v:=rpV (rep A.code) none 0 0) (by simp [results,results62,asAddr,HL9.o]) rfl ⟨rfl,T,HD3.o.but HB9.o (λk hk e=>HN.o k (by omega) hk) (λe=>by have:0=w.heap.size+1:=e;omega),HT3.o,((But.of HB.o).trans HB3.o).comp HB9.o (λi e=>.inr (by omega))⟩
end
section
variable {p:Pm}{s:Sta}{d:Nat→List K.Pu}
theorem tok_cases (h:D.Fit p.d s.d)(o:Int)(Dr:Nat×Int×Nat)(q r:Int)(hy:Q.may p.e (p.mo:Int) s.L o=0→Dr.2.1=0→D.May p.d s.d (D.cap o Dr.1) q r) :
  ((D.tokR p.d s.d o Dr q r).code≠0∧(D.tokR p.d s.d o Dr q r).c=(0,0,0)∧((D.tokR p.d s.d o Dr q r).s=s.d∨(D.tokR p.d s.d o Dr q r).s={ s.d with t:=Dr.2.2 })) ∨
  ((D.tokR p.d s.d o Dr q r).code=0∧(D.tokR p.d s.d o Dr q r).c=D.cap o Dr.1∧(D.tokR p.d s.d o Dr q r).s=D.addS s.d o Dr.1 q r Dr.2.2∧D.May p.d s.d (D.cap o Dr.1) q r∧addR p.mo s.X s.l q (D.cap o Dr.1) r=⟨(low s.l:Int),0,s.X.set (low s.l) (D.cap o Dr.1,r),s.l++[((low s.l:Int),q)]⟩∧s.l.length<p.mo):=by
 unfold D.tokR
 by_cases hm:Q.may p.d.e p.d.a s.d.L o≠0
 ·rw [if_pos hm];exact .inl ⟨hm,rfl,.inl rfl⟩
 ·rw [if_neg hm]
  have hm0:Q.may p.d.e p.d.a s.d.L o=0:=by simpa using hm
  by_cases hd:Dr.2.1≠0
  ·rw [if_pos hd];exact .inl ⟨hd,rfl,.inr rfl⟩
  ·rw [if_neg hd]
   have hy:=hy hm0 (by simpa using hd)
   exact .inr ⟨rfl,rfl,rfl,hy,D.addR_ok h hm0 hy.new,h.room hm0⟩
theorem KF.put (h:KF p s){a:D.Sta}(hf:D.Fit p.d a)(ho:∀o,hasO a.X a.l o=true↔hasO s.X s.l o=true):KF p (putD s a) :=
 ⟨⟨hf.inv,hf.cnt,hf.len,λo=>(h.fit.obj o).trans (ho o).symm,h.fit.ids⟩,hf.le,h.cs,h.iv,h.ln,h.wd,h.lm,h.ks,h.nx⟩
theorem KF.d_ (h:KF p s):D.Fit p.d s.d:=⟨h.fit.inv,h.fit.cnt,h.fit.len,Int.le_refl _,h.le,h.cs⟩
theorem hasO_add (h:KF p s){o:Int}{N:Nat}{q r:Int}{t:Nat}(hl:s.l.length<p.mo)(x:Int):hasO (D.addS s.d o N q r t).X (D.addS s.d o N q r t).l x=true↔(x=o∨hasO s.X s.l x=true):=by
 rw [D.hasO_inN,D.hasO_inN]
 have:=D.inN_add h.fit.inv q (D.cap o N) r (low_lt h.fit.inv.ok hl) (low_not s.l) x
 show 0<inN (s.X.set (low s.l) (D.cap o N,r)) (s.l++[((low s.l:Int),q)]) x↔_
 rw [this]
 by_cases e:(D.cap o N).1=x
 ·rw [if_pos e];exact⟨λ_=>.inl e.symm,λ_=>by omega⟩
 ·rw [if_neg e]
  exact⟨λh=>.inr h,λh=>h.elim (λe2=>absurd e2.symm e) (λh=>h)⟩
theorem nx_new (h:KF p s):¬0<inN s.X s.l s.nx:=λe=>by
 have h1:=(h.fit.obj s.nx).2 (D.hasO_inN.2 e)
 obtain⟨x,hx,e2⟩:=h1
 have:=(h.fit.ids x hx).2
 omega
theorem root_cases (h:KF p s):((D.rootA p.d s.d s.nx).code≠0∧putD s (D.rootA p.d s.d s.nx).s=s) ∨
  ((D.rootA p.d s.d s.nx).code=0∧s.t<p.n∧(D.rootA p.d s.d s.nx).c=D.cap s.nx (p.c s.t)∧(D.rootA p.d s.d s.nx).s=D.addS s.d s.nx (p.c s.t) (-1) 31 (s.t+1)∧D.May p.d s.d (D.cap s.nx (p.c s.t)) (-1) 31∧addR p.mo s.X s.l (-1) (D.cap s.nx (p.c s.t)) 31=⟨(low s.l:Int),0,s.X.set (low s.l) (D.cap s.nx (p.c s.t),31),s.l++[((low s.l:Int),-1)]⟩∧s.l.length<p.mo):=by
 have hn:=nx_new h
 unfold D.rootA
 rw [if_neg (show ¬0<inN s.d.X s.d.l s.nx from hn)]
 have ht:=tok_cases h.d_ s.nx (D.drawD p.d s.t) (-1) 31 (λ_ _=>D.rootMay h.d_ hn (D.drawD_small h.d_ s.t))
 by_cases hlt:s.t<p.n
 ·have e:D.drawD p.d s.t=(p.c s.t,0,s.t+1):=by unfold D.drawD;rw [if_pos (show s.t<p.d.n from hlt)];rfl
  have e2:D.drawD p.d s.d.t=(p.c s.t,0,s.t+1):=e
  rw [e] at ht
  rw [e2]
  rcases ht with ⟨h1,_,h2|h2⟩|⟨h1,h2,h3,h4,h5,h6⟩
  ·exact .inl ⟨h1,by rw [h2];rfl⟩
  ·by_cases hm:Q.may p.d.e p.d.a s.d.L s.nx≠0
   ·refine .inl ⟨h1,?_⟩
    unfold D.tokR
    rw [if_pos hm];rfl
   ·exact absurd (by unfold D.tokR;rw [if_neg hm,if_neg (λ(e:(0:Int)≠0)=>e rfl)]) h1
  ·exact .inr ⟨h1,hlt,h2,h3,h4,h5,h6⟩
 ·have e:D.drawD p.d s.t=(0,11,s.t):=by unfold D.drawD;rw [if_neg (show ¬s.t<p.d.n from hlt)]
  have e2:D.drawD p.d s.d.t=(0,11,s.t):=e
  rw [e] at ht
  rw [e2]
  refine .inl ?_
  rcases ht with ⟨h1,_,h2|h2⟩|⟨h1,_⟩
  ·exact⟨h1,by rw [h2];rfl⟩
  ·exact⟨h1,by rw [h2];rfl⟩
  ·exfalso
   unfold D.tokR at h1
   by_cases hm:Q.may p.d.e p.d.a s.d.L s.nx≠0
   ·rw [if_pos hm] at h1;exact hm h1
   ·rw [if_neg hm,if_pos (show (11:Int)≠0 by decide)] at h1;exact absurd (show (11:Int)=0 from h1) (by decide)
theorem mem_snoc {V:List (Int×List Nat)}{x:Int×List Nat}{o:Int}:(∃q∈V++[x],q.1=o)↔(o=x.1∨∃q∈V,q.1=o):=by
 constructor
 ·rintro ⟨q,hq,e⟩
  rcases List.mem_append.1 hq with h|h
  ·exact .inr ⟨q,h,e⟩
  ·rw [List.mem_singleton.1 h] at e;exact .inl e.symm
 ·rintro (e|⟨q,hq,e⟩)
  ·exact⟨x,by simp,e.symm⟩
  ·exact⟨q,by simp [hq],e⟩
theorem may_nx {p:Pm}{size:Int}(hm:S.mayV p.room p.pgs s.nx s.V size=0):s.nx≤4611686018427387904:=by
 unfold S.mayV at hm
 by_cases h1:size<0∨4096<size
 ·rw [if_pos h1] at hm;exact absurd hm (by decide)
 ·rw [if_neg h1] at hm
  by_cases h2:p.room≤s.V.length∨4611686018427387904<s.nx
  ·rw [if_pos h2] at hm;exact absurd hm (by decide)
  ·omega
theorem kf_cre (h:KF p s)(ht:L.Tr s.X s.l d)(size:Int):KF p (creA p s size).2∧L.Tr (creA p s size).2.X (creA p s size).2.l d:=by
 unfold creA
 by_cases hm:S.mayV p.room p.pgs s.nx s.V size≠0
 ·rw [if_pos hm];exact⟨h,ht⟩
 ·rw [if_neg hm]
  have hm0:S.mayV p.room p.pgs s.nx s.V size=0:=by simpa using hm
  rcases root_cases h with ⟨h1,h2⟩|⟨h1,h2,h3,h4,h5,h6,hl⟩
  ·rw [if_pos h1,h2];exact⟨h,ht⟩
  ·rw [if_neg (by simpa using h1)]
   have hF:=D.Fit.root h.d_ s.nx
   have hnx:=h.nx
   have hnx2:=may_nx hm0
   rw [h4] at hF ⊢
   refine⟨⟨⟨hF.inv,hF.cnt,hF.len,λo=>?_,λq hq=>?_⟩,hF.le,h.cs,h.iv,h.ln,h.wd,h.lm,h.ks,⟨by show 1≤s.nx+1;omega,by show s.nx+1≤_;omega⟩⟩,?_⟩
   ·show (∃q∈s.V++[(s.nx,List.replicate size.toNat 0)],q.1=o)↔_
    rw [mem_snoc]
    exact (or_congr Iff.rfl (h.fit.obj o)).trans (hasO_add (t:=s.t+1) h hl o).symm
   ·show 1≤q.1∧q.1<s.nx+1
    rcases List.mem_append.1 (show q∈s.V++[(s.nx,List.replicate size.toNat 0)] from hq) with h7|h7
    ·have:=h.fit.ids q h7;omega
    ·rw [List.mem_singleton.1 h7];simp;omega
   ·have:=L.Tr.add (m:=p.mo) ht h.fit.inv (-1) (D.cap s.nx (p.c s.t)) 31 (by rw [h6];exact hF.inv)
    rw [h6] at this
    exact this
theorem kf_der (h:KF p s)(ht:L.Tr s.X s.l d)(c:Cp)(r:Int):KF p (derA p s c r).2∧L.Tr (derA p s c r).2.X (derA p s c r).2.l d:=by
 unfold derA
 have hF:=D.Fit.child h.d_ c r
 have hcase:((D.childA p.d s.d c r).s=s.d∨∃t,(D.childA p.d s.d c r).s={ s.d with t:=t })∨∃N t,hasC s.X s.l c=true∧(D.childA p.d s.d c r).s=D.addS s.d c.1 N (findN s.X s.l c) r t∧D.May p.d s.d (D.cap c.1 N) (findN s.X s.l c) r∧addR p.mo s.X s.l (findN s.X s.l c) (D.cap c.1 N) r=⟨(low s.l:Int),0,s.X.set (low s.l) (D.cap c.1 N,r),s.l++[((low s.l:Int),findN s.X s.l c)]⟩∧s.l.length<p.mo:=by
  unfold D.childA
  by_cases h1:hasC s.d.X s.d.l c=false
  ·rw [if_pos h1];exact .inl (.inl rfl)
  ·rw [if_neg h1]
   by_cases h2:partB 4 (D.rgt s.d c)=false∨partB r (D.rgt s.d c)=false
   ·rw [if_pos h2];exact .inl (.inl rfl)
   ·rw [if_neg h2]
    have hc:hasC s.d.X s.d.l c=true:=by simpa using h1
    have hp:partB r (D.rgt s.d c)=true:=by
     cases hq:partB r (D.rgt s.d c) with
     | true=>rfl
     | false=>exact absurd (.inr hq) h2
    rcases tok_cases h.d_ c.1 (D.childD p.d s.d c.1) (findN s.X s.l c) r (λ_ hd=>D.childMay h.d_ hc hp hd) with ⟨_,_,h3|h3⟩|⟨_,_,h3,h4,h5,h6⟩
    ·exact .inl (.inl h3)
    ·exact .inl (.inr ⟨_,h3⟩)
    ·exact .inr ⟨_,_,hc,h3,h4,h5,h6⟩
 rcases hcase with (h1|⟨t,h1⟩)|⟨N,t,hc,h1,h2,h3,hl⟩
 ·rw [h1] at hF ⊢;exact⟨h.put hF (λ_=>Iff.rfl),ht⟩
 ·rw [h1] at hF ⊢;exact⟨h.put hF (λ_=>Iff.rfl),ht⟩
 ·rw [h1] at hF ⊢
  refine⟨h.put hF (λo=>(hasO_add h hl o).trans ⟨λe=>e.elim (λe=>by rw [e];exact hasO_of_hasC hc) (λe=>e),λe=>.inr e⟩),?_⟩
  have:=L.Tr.add (m:=p.mo) ht h.fit.inv (findN s.X s.l c) (D.cap c.1 N) r (by rw [h3];exact hF.inv)
  rw [h3] at this
  exact this
theorem kf_away (h:KF p s)(all:Bool)(c:Cp)(hi:Inv p.mo (awayA all s c).2.X (awayA all s c).2.l):KF p (awayA all s c).2:=by
 unfold awayA revA at hi ⊢
 by_cases h1:hasC s.X s.l c=false
 ·rw [if_pos h1];exact h
 ·rw [if_neg h1] at hi ⊢
  by_cases h2:partB (needB all) (rg s.X (findN s.X s.l c))=false
  ·rw [if_pos h2];exact h
  ·rw [if_neg h2] at hi ⊢
   have hw:=whom_in h.fit.inv (by simpa using h1) all
   exact⟨(felled_fit h.fit hw.1 hw.2.1 hi).1,h.le,h.cs,h.iv,h.ln,h.wd,h.lm,h.ks,h.nx⟩
theorem wrV_fst (V:List (Int×List Nat))(id off:Int)(Q:List Nat):(S.wrV V id off Q).map Prod.fst=V.map Prod.fst:=by
 unfold S.wrV
 split
 ·rw [List.map_map]
  refine List.map_congr_left (λx _=>?_)
  simp only [Function.comp,S.setV]
  split<;>rfl
 ·rfl
theorem ex_fst {V:List (Int×List Nat)}{P:Int→Prop}:(∃q∈V,P q.1)↔∃i∈V.map Prod.fst,P i:=by simp
theorem kf_write (h:KF p s)(id off:Int)(Q:List Nat):KF p { s with V:=S.wrV s.V id off Q } :=
 ⟨⟨h.fit.inv,h.fit.cnt,h.fit.len,λo=>by
   show (∃q∈S.wrV s.V id off Q,q.1=o)↔_
   rw [ex_fst (P:=(·=o)),wrV_fst,←ex_fst (P:=(·=o))];exact h.fit.obj o,λq hq=>by
   have h1:q.1∈(S.wrV s.V id off Q).map Prod.fst:=List.mem_map.2 ⟨q,hq,rfl⟩
   rw [wrV_fst] at h1
   obtain⟨x,hx,e⟩:=List.mem_map.1 h1
   rw [←e];exact h.fit.ids x hx⟩,h.le,h.cs,h.iv,h.ln,h.wd,h.lm,h.ks,h.nx⟩
theorem kf_list (h:KF p s)(i:Int)(Q:List Cp)(h1:(Q.length:Int)≤p.lm)(h2:∀c∈Q,c.2.1<B64∧c.2.2<B64):KF p { s with D:=upd s.D i Q } :=
 ⟨⟨h.fit.inv,h.fit.cnt,h.fit.len,h.fit.obj,h.fit.ids⟩,h.le,h.cs,h.iv,λj hj=>by
   show ((upd s.D i Q j).length:Int)≤p.lm
   unfold upd;split
   ·exact h1
   ·exact h.ln j hj,λj hj c hc=>by
   have hc':c∈upd s.D i Q j:=hc
   unfold upd at hc';split at hc'
   ·exact h2 c hc'
   ·exact h.wd j hj c hc',h.lm,h.ks,h.nx⟩
theorem kf_add (h:KF p s)(i:Int)(hi:i∈s.P)(c:Cp)(hw:c.2.1<B64∧c.2.2<B64):KF p (addA p s i c).2:=by
 unfold addA
 by_cases h1:fitB p.W c=false
 ·rw [if_pos h1];exact h
 ·rw [if_neg h1]
  by_cases h2:p.lm≤((s.D i).length:Int)
  ·rw [if_pos h2];exact h
  ·rw [if_neg h2]
   refine kf_list h i _ (by simp;omega) (λx hx=>?_)
   rcases List.mem_append.1 hx with h3|h3
   ·exact h.wd i hi x h3
   ·rw [List.mem_singleton.1 h3];exact hw
theorem kf_rem (h:KF p s)(i:Int)(hi:i∈s.P)(x:Int):KF p (remA s i x).2:=by
 unfold remA
 by_cases h1:M.okI (s.D i) x=false
 ·rw [if_pos h1];exact h
 ·rw [if_neg h1]
  refine kf_list h i _ ?_ (λy hy=>?_)
  ·have:=h.ln i hi
   simp only [List.length_append,List.length_take,List.length_drop]
   omega
  ·rcases List.mem_append.1 hy with h3|h3
   ·exact h.wd i hi y (List.mem_of_mem_take h3)
   ·exact h.wd i hi y (List.mem_of_mem_drop h3)
theorem pick_len {m:Int}{Q:List Cp}{G:List Int}(hv:M.pickE m Q G=0):((M.pickL m Q G).length:Int)≤m:=by
 unfold M.pickL
 rw [if_pos hv,List.length_map]
 unfold M.pickE at hv
 by_cases ha:G.all (M.okI Q)=true
 ·rw [if_pos ha] at hv
  by_cases hb:m<(G.length:Int)
  ·rw [if_pos hb] at hv;exact absurd hv (by decide)
  ·omega
 ·rw [if_neg ha] at hv;exact absurd hv (by decide)
theorem pick_mem {m:Int}{Q:List Cp}{G:List Int}(hv:M.pickE m Q G=0):∀c∈M.pickL m Q G,c∈Q:=by
 unfold M.pickL
 rw [if_pos hv]
 have ha:G.all (M.okI Q)=true:=by
  cases hq:G.all (M.okI Q) with
  | true=>rfl
  | false=>rw [(M.pick_bad hq).1] at hv;exact absurd hv (by decide)
 intro c hc
 obtain⟨x,hx,rfl⟩:=List.mem_map.1 hc
 obtain⟨k,_,hk,hk2⟩:=M.atC_ok (List.all_eq_true.1 ha x hx)
 exact List.mem_of_getElem? hk2
theorem kf_spa (h:KF p s)(i:Int)(hi:i∈s.P)(G:List Int):KF p (spaA p s i G).2:=by
 unfold spaA
 by_cases h1:M.pickE p.lm (s.D i) G≠0
 ·rw [if_pos h1];exact h
 ·rw [if_neg h1]
  have h10:M.pickE p.lm (s.D i) G=0:=by simpa using h1
  by_cases h2:P.fullP p.pm s.px s.P=true
  ·rw [if_pos h2];exact h
  ·rw [if_neg h2]
   have hiv:=h.iv.spawn
   have e3:P.spX p.pm s.px s.P=s.px+1:=by unfold P.spX;rw [if_neg h2]
   have e4:P.spL p.pm s.px s.P=s.P++[s.px]:=by unfold P.spL;rw [if_neg h2]
   rw [e3,e4] at hiv
   refine⟨⟨h.fit.inv,h.fit.cnt,h.fit.len,h.fit.obj,h.fit.ids⟩,h.le,h.cs,hiv,λj hj=>?_,λj hj c hc=>?_,h.lm,by show s.ks++[s.px]=s.P++[s.px];rw [h.ks],h.nx⟩
   ·show ((upd s.D s.px _ j).length:Int)≤p.lm
    unfold upd;split
    ·exact pick_len h10
    ·rename_i hne
     rcases List.mem_append.1 hj with h5|h5
     ·exact h.ln j h5
     ·exact absurd (List.mem_singleton.1 h5) hne
   ·have hc':c∈upd s.D s.px (M.pickL p.lm (s.D i) G) j:=hc
    unfold upd at hc';split at hc'
    ·exact h.wd i hi c (pick_mem h10 c hc')
    ·rename_i hne
     rcases List.mem_append.1 hj with h5|h5
     ·exact h.wd j h5 c hc'
     ·exact absurd (List.mem_singleton.1 h5) hne
theorem kf_exi (h:KF p s)(i:Int):KF p (exiA s i).2 :=
 ⟨⟨h.fit.inv,h.fit.cnt,h.fit.len,h.fit.obj,h.fit.ids⟩,h.le,h.cs,h.iv.exit i,λj hj=>h.ln j (P.out_mem.1 hj).1,λj hj=>h.wd j (P.out_mem.1 hj).1,h.lm,by show P.out s.ks i=P.out s.P i;rw [h.ks],h.nx⟩
end
open Go.Proofs.YtfmhdimaijimlaaGreatDoor.M (wpAnyH_norm)
section
variable {w w':World}{H:Hd}{s s':Sta}{d d':Nat→List K.Pu}{O:Nat→Nat→Prop}{N:Nat→Prop}{c:R.Cl}{dd gg:R.Sl}{b:Nat}
theorem write_ok (h:Duo w H s d N)(ht:L.Tr s.X s.l d)(hf:KF H.p s)(hw:c.hi<B64∧c.lo<B64)(hby:c.by_∈s.P)(ho:S.i64ok c.obj)(hv:valE s c.given c.by_ (cpO c) 2=0)(hR:Row w dd.a dd.n dd.c (S.u8s c.data))(hD:∀x∈c.data,x<256)(hap:0<dd.n→∀j,Blk dd.a j→¬N j∧j<w.heap.size) :
  Calls prog 64 #[.pointer (some ⟨H.kb,0,none⟩),.agg (R.cC c dd gg).toArray] w λe w'=>∃T,e=.returned (rpV (rep (S.rvE s.V c.obj c.off (dd.n:Int))) none 0 0)∧Duo w' H { s with V:=S.wrV s.V c.obj c.off c.data } T N∧L.Tr s.X s.l T∧But N w w':=by
 obtain⟨W,hW⟩:∃W,W=(w.alloc (Obj.cells (R.cC c dd gg).toArray 45)).alloc z6:=⟨_,rfl⟩
 have hB:Below w.heap.size w W:=by rw [hW];exact below2 _ _ _
 have hX:R.Bx W w.heap.size (R.cC c dd gg):=by rw [hW];exact R.Bx.later (below1 _ _) (R.Bx.new w (R.cC c dd gg) 45)
 have hZ:Zr W (w.heap.size+1):=by rw [hW];have:=Zr.new (w.alloc (Obj.cells (R.cC c dd gg).toArray 45));simpa using this
 have h2:=h.later hB
 have HC:=hid (valid_any (dd:=dd) (gg:=gg) h2 ht hf 2 hw hby)
 have HLd:=hid (ldC hX)
 have hq:(valE s c.given c.by_ (cpO c) 2 != 0)=false:=by simpa using hv
 rw [hv] at HC
 have HO:=hid ho
 obtain⟨E,hE⟩:∃E,E=S.rvE s.V c.obj c.off (dd.n:Int):=⟨_,rfl⟩
 rw [←hE]
 have HEq:=hid hE
 have HAp:=hid hap
 have HRw:=hid (Row.later hB hR)
 have HDd:=hid hD
 have HW:=hid hW
 have HB:=hid hB
 have HX:=hid hX
 have HZ:=hid hZ
 have HD:=hid h2
 have HP:Hid (0<w.heap.size):=by have:=h.b0;unfold Hid;omega
 have HN:=hid (λk hk=>h.new (k:=k) hk)
 clear h h2 hB hX hZ hW ht hf hv hq ho hE hap hR hD
 go_enter func64,ntmps64
 go_upto_region 1 with fail
 rw [←HW.o]
 go_upto_region 2 with (first|((with_reducible refine R.ld_arm HLd.o ?_ ?_);(· rfl))|(go_at_call 110;refine HC.o.mono ?_;rintro e w1 ⟨rfl,T,hd1,ht1,hb1⟩;have HD1:=hid hd1;have HT1:=hid ht1;have HB1:Hid (But N W w1):=hb1;clear hd1 ht1 hb1))
 have HX1:=hid (R.Bx.but HB1.o HX.o (HN.o _ (Nat.le_refl _)))
 have HZ1:=hid (HZ.o.but HB1.o (HN.o _ (by omega)))
 have HR1:Hid (Row w1 dd.a dd.n dd.c (S.u8s c.data)):=row_but0 HRw.o HB1.o (λh0 k hk=>(HAp.o h0 k hk).1)
 have HWr:=hid (λ(U:World) (hU:Below w1.heap.size w1 U)=>pWrite (HD1.o.later hU) c.obj c.off dd.a dd.n dd.c c.data HO.o (Row.later hU HR1.o) HDd.o (λh0 k hk=>(HAp.o h0 k hk).1))
 rw [←HEq.o] at HWr
 have HSS:Hid (∀U {s d},Duo U H s d N→But (λk=>N k∨k=w.heap.size+1) w1 U→U.cell? ⟨H.kb,11,none⟩=some (.pointer (some ⟨H.z.s,0,none⟩))∧U.cell? ⟨w.heap.size,3,none⟩=some (.int .i64 c.obj)∧U.cell? ⟨w.heap.size,8,none⟩=some (.int .i64 c.off)∧U.cell? ⟨w.heap.size,10,none⟩=some (dd.v)):=λU s d hd hb=>by
  have:=Cb.of (R.Bx.but hb HX1.o (λe=>e.elim (HN.o _ (Nat.le_refl _)) (λe=>by omega)))
  exact⟨hd.kb 11 _ rfl,this.c3,this.c8,this.c10⟩
 have H01:=hid (λU (hU:But (λ_=>False) w1 U)=>HSS.o U (HD1.o.but hU (λ_ _ h=>h) (λh=>h)) (hU.mono (λ_ h=>h.elim)))
 clear HC HLd
 go_upto_region 4 with fail
 refine wp_region_held_drew (S:=(λU:World=>U.cell? ⟨H.kb,11,none⟩=some (.pointer (some ⟨H.z.s,0,none⟩))∧U.cell? ⟨w.heap.size,3,none⟩=some (.int .i64 c.obj)∧U.cell? ⟨w.heap.size,8,none⟩=some (.int .i64 c.off)∧U.cell? ⟨w.heap.size,10,none⟩=some (dd.v))) (by kernel_rfl) (H01.o _ (But.of (Below.refl _ _).drew)) (λhHeld=>?_)
 refine nH (bm 14 0) 14 ?_
 refine tH 0 (v:=?_) rfl (λ_ _ _ h=>h) ?_ ?_;rotate_left
 ·(intro w hSw;(try dsimp only at hSw);go_simp;try with_reducible rfl)
 try simp only [gz,Act.put]
 refine nH (bm 14 1) 13 ?_
 refine tH 1 (v:=?_) rfl (λ_ _ _ h=>h) ?_ ?_;rotate_left
 ·(intro w hSw;(try dsimp only at hSw);go_simp;try with_reducible rfl)
 try simp only [gz,Act.put]
 refine nH (bm 14 3) 12 ?_
 refine tH 2 (v:=?_) rfl (λ_ _ _ h=>h) ?_ ?_;rotate_left
 ·(intro w hSw;(try dsimp only at hSw);go_simp;try with_reducible rfl)
 try simp only [gz,Act.put]
 refine nH (bm 14 7) 11 ?_
 refine tH 3 (v:=?_) rfl (λ_ _ _ h=>h) ?_ ?_;rotate_left
 ·(intro w hSw;(try dsimp only at hSw);go_simp;try with_reducible rfl)
 try simp only [gz,Act.put]
 refine nH (bm 14 15) 10 ?_
 refine tH 4 (v:=?_) rfl (λ_ _ _ h=>h) ?_ ?_;rotate_left
 ·(intro w hSw;(try dsimp only at hSw);go_simp;try with_reducible rfl)
 try simp only [gz,Act.put]
 refine nH (bm 14 31) 9 ?_
 refine tH 5 (v:=?_) rfl (λ_ _ _ h=>h) ?_ ?_;rotate_left
 ·(intro w hSw;(try dsimp only at hSw);go_simp;try with_reducible rfl)
 try simp only [gz,Act.put]
 refine nH (bm 14 63) 8 ?_
 refine tH 6 (v:=?_) rfl (λ_ _ _ h=>h) ?_ ?_;rotate_left
 ·(intro w hSw;(try dsimp only at hSw);go_simp;try with_reducible rfl)
 try simp only [gz,Act.put]
 refine nH (bm 14 127) 7 ?_
 refine tH 7 (v:=?_) rfl (λ_ _ _ h=>h) ?_ ?_;rotate_left
 ·(intro w hSw;(try dsimp only at hSw);go_simp;try with_reducible rfl)
 try simp only [gz,Act.put]
 refine nH (bm 14 255) 6 ?_
 refine tH 8 (v:=?_) rfl (λ_ _ _ h=>h) ?_ ?_;rotate_left
 ·(intro w hSw;(try dsimp only at hSw);go_simp;try with_reducible rfl)
 try simp only [gz,Act.put]
 refine nH (bm 14 511) 5 ?_
 refine tH 9 (v:=?_) rfl (λ_ _ _ h=>h) ?_ ?_;rotate_left
 ·(intro w hSw;(try dsimp only at hSw);go_simp;try with_reducible rfl)
 try simp only [gz,Act.put]
 refine nH (bm 14 1023) 4 ?_
 refine tH 10 (v:=?_) rfl (λ_ _ _ h=>h) ?_ ?_;rotate_left
 ·(intro w hSw;(try dsimp only at hSw);go_simp;try with_reducible rfl)
 try simp only [gz,Act.put]
 refine nH (bm 14 2047) 3 ?_
 refine yH [11] ?_
 refine cH rfl λK hK=>?_
 go_simp
 go_wp2_with (first|(go_at_call 112;refine (HWr.o w1.drew (Below.refl _ _).drew).mono ?_;rintro e w2 ⟨rfl,hd2,hb2⟩;have HD2:=hid hd2;have HB2:Hid (But N w1 w2):=(But.of (Below.refl _ _).drew).trans hb2;have HE:=hid (λU (hU:But (λk=>k=w.heap.size+1) w2 U)=>HSS.o U (hd2.but hU (λk hk e=>HN.o k (by omega) hk) (λe=>by have:=HP.o;omega)) (((HB2.o).mono (λk hk=>Or.inl hk)).comp hU (λi e=>.inl (.inr e))));have HZ9:=hid (HZ1.o.but HB2.o (HN.o _ (by omega)));have HL9:=hid (HZ9.o.lv (rep E) none 0 0);have HS9:=hid (HZ9.o.st (rep E) none 0 0);have HB9:Hid (But (λk=>k=w.heap.size+1) w2 (w2.setCells (w.heap.size+1) 0 (rpL (rep E) none 0 0))):=R.sb_ (S:=(λk=>k=w.heap.size+1)) rfl _ 0 (But.refl _ _);clear hd2 hb2))
 refine hK.out _ _ (HE.o w2 (But.refl _ _)) (λhHeld=>?_)
 clear hK K
 try simp only [gz,Act.put]
 refine nH (bm 14 4095) 2 ?_
 refine tH 12 (v:=?_) rfl (λ_ _ _ h=>h) ?_ ?_;rotate_left
 ·(intro w hSw;(try dsimp only at hSw);go_simp;try with_reducible rfl)
 try simp only [gz,Act.put]
 refine nH (bm 14 8191) 1 ?_
 refine yH [13] ?_
 refine cH rfl λK hK=>?_
 refine wp_store_known 41 (.tmp 4) (.tmp 25) rfl _ _ rfl rfl _ HS9.o ?_
 refine hK.out _ _ (HE.o _ HB9.o) (λhHeld=>?_)
 clear hK K
 try simp only [gz,Act.put]
 refine nH (bm 14 16383) 0 ?_
 refine wpAnyH_done (by kernel_rfl) ?_ _
 go_wp2
 exact bodyPost_ret (v:=rpV (rep E) none 0 0) (by simp [results,results64,asAddr,HL9.o]) rfl ⟨T,rfl,HD2.o.but HB9.o (λk hk e=>HN.o k (by omega) hk) (λe=>by omega),HT1.o,((But.of HB.o).trans (HB1.o.trans HB2.o)).comp HB9.o (λi e=>.inr (by omega))⟩
end
section
variable {w w':World}{H:Hd}{s s':Sta}{d d':Nat→List K.Pu}{O:Nat→Nat→Prop}{N:Nat→Prop}{c:R.Cl}{dd gg:R.Sl}{b:Nat}
def Kn (w:World)(H:Hd)(s:Sta)(N:Nat→Prop):Prop:=∃d,Duo w H s d N∧L.Tr s.X s.l d∧KF H.p s∧1≤H.W
theorem Kn.later (h:Kn w H s N)(hb:Below w.heap.size w w'):Kn w' H s N:=by obtain⟨d,h1,h2⟩:=h;exact⟨d,h1.later hb,h2⟩
theorem Kn.but {B:Nat→Prop}(h:Kn w H s N)(hb:But B w w')(hS:∀k,N k→¬B k)(h0:¬B 0):Kn w' H s N:=by obtain⟨d,h1,h2⟩:=h;exact⟨d,h1.but hb hS h0,h2⟩
theorem Kn.rng (h:Kn w H s N):∀k,N k→H.base≤k∧k<w.heap.size:=by obtain⟨d,h1,h2⟩:=h;exact h1.rng
theorem Kn.new (h:Kn w H s N){k:Nat}(hk:w.heap.size≤k):¬N k:=by obtain⟨d,h1,h2⟩:=h;exact h1.new hk
theorem Kn.kf (h:Kn w H s N):KF H.p s:=by obtain⟨d,h1,h2,h3,_⟩:=h;exact h3
def Rets (w:World)(H:Hd)(N:Nat→Prop)(R:Rep×Sta)(e:Ending)(w':World):Prop :=
 ∃a n cp N',e=.returned (rpV R.1 a n cp)∧Own w' w.heap.size 5 a n cp (S.u8s R.1.data)∧Kn w' H R.2 N'∧Went w N w' N'∧∀k,Blk a k→¬N' k
theorem Rets.plain {r:Rep}{x:Sta}{e:Ending}{N':Nat→Prop}(he:e=.returned (rpV r none 0 0))(hr:r.data=[])(hk:Kn w' H x N')(hw:Went w N w' N'):Rets w H N (r,x) e w' :=
 ⟨none,0,0,N',he,by rw [hr];exact Own.nil _ _ _,hk,hw,λk hk=>by obtain⟨_,h,_⟩:=hk;cases h⟩
structure Fd (w:World)(s:Sta)(N:Nat→Prop)(c:R.Cl)(dd gg:R.Sl):Prop where
 is:R.Is w c dd gg
 fm:R.fm c=true
 by_:c.by_∈s.P
 ap:0<dd.n→∀j,Blk dd.a j→¬N j
theorem Fd.inB (h:Fd w s N c dd gg):R.inB c=true:=by have:=h.fm;unfold R.fm at this;simp only [Bool.and_eq_true] at this;exact this.1.1.2
theorem Fd.obj (h:Fd w s N c dd gg):S.i64ok c.obj:=by
 have:=h.inB
 unfold R.inB at this
 simp only [Bool.and_eq_true] at this
 have h1:=R.wi_iff.1 this.1.1.1.1.2
 unfold S.i64ok
 omega
theorem Fd.gn (h:Fd w s N c dd gg):c.gifts.length≤255:=by
 have:=h.inB
 unfold R.inB R.gfB at this
 simp only [Bool.and_eq_true,decide_eq_true_eq] at this
 exact this.2.1
theorem Fd.hw (h:Fd w s N c dd gg):c.hi<B64∧c.lo<B64:=⟨h.is.hi,h.is.lo⟩
theorem Fd.row (h:Fd w s N c dd gg):Row w dd.a dd.n dd.c (S.u8s c.data):=by
 have hd:=h.is.data
 exact⟨by unfold S.u8s;rw [List.length_map];exact hd.len,hd.cap_,hd.none_,hd.cells,by unfold S.u8s;intro u hu;obtain⟨x,_,rfl⟩:=List.mem_map.1 hu;rfl⟩
theorem Fd.gifts (h:Fd w s N c dd gg):Row w gg.a gg.n gg.c (ints c.gifts):=by
 have hd:=h.is.gifts
 exact⟨by unfold ints;rw [List.length_map];exact hd.len,hd.cap_,hd.none_,hd.cells,by unfold ints;intro u hu;obtain⟨x,_,rfl⟩:=List.mem_map.1 hu;rfl⟩
theorem Fd.op (h:Fd w s N c dd gg):1≤c.op∧c.op≤10:=by have:=h.fm;unfold R.fm at this;simp only [Bool.and_eq_true] at this;exact R.wi_iff.1 this.1.1.1
def dfn:Nat→Nat
 | 1=>59
 | 2=>60
 | 3=>61
 | 4=>62
 | 5=>63
 | 6=>64
 | 7=>65
 | 8=>66
 | 9=>67
 | _=>68
theorem deeds_any (w:World):Calls prog 33 #[] w λe w'=>e=.returned (.slice (some ⟨w.heap.size,0,none⟩) 11 11)∧(∀i,1≤i→i≤10→w'.cell? ⟨w.heap.size,i,none⟩=some (.func (.func (dfn i)) #[] #[]))∧Below w.heap.size w w':=by
 go_enter func33,ntmps33
 go_wp2
 go_ret
 refine⟨rfl,λi h1 h2=>?_,below1 _ _⟩
 match i,h1,h2 with
 | 1,_,_=>simp [go_sem,dfn]
 | 2,_,_=>simp [go_sem,dfn]
 | 3,_,_=>simp [go_sem,dfn]
 | 4,_,_=>simp [go_sem,dfn]
 | 5,_,_=>simp [go_sem,dfn]
 | 6,_,_=>simp [go_sem,dfn]
 | 7,_,_=>simp [go_sem,dfn]
 | 8,_,_=>simp [go_sem,dfn]
 | 9,_,_=>simp [go_sem,dfn]
 | 10,_,_=>simp [go_sem,dfn]
theorem Kn.of {d:Nat→List K.Pu}(h:Duo w H s d N)(ht:L.Tr s.X s.l d)(hf:KF H.p s)(hW:1≤H.W):Kn w H s N:=⟨d,h,ht,hf,hW⟩
theorem deed_any (hk:Kn w H s N)(hd:Fd w s N c dd gg)(i:Nat)(hi:c.op=(i:Int)):Calls prog (dfn i) #[.pointer (some ⟨H.kb,0,none⟩),.agg (R.cC c dd gg).toArray] w (Rets w H N (deedA H.p s c)):=by
 obtain⟨d,h,ht,hf,hW⟩:=id hk
 have hop:=hd.op
 have key:∀k:Nat,i=k→c.op=(k:Int):=λk e=>by rw [←e];exact hi
 unfold deedA
 match i,hi,key with
 | 0,hi,_=>omega
 | 1,hi,_ =>
  rw [if_pos (by omega)]
  have hkf:=kf_cre hf ht c.size
  unfold creA at hkf ⊢
  by_cases hm:S.mayV H.p.room H.p.pgs s.nx s.V c.size≠0
  ·rw [if_pos hm] at hkf ⊢
   refine (create_no h hf hm).mono ?_
   rintro e w' ⟨rfl,hb⟩
   exact Rets.plain rfl rfl (hk.later hb) (Went.later hb)
  ·rw [if_neg hm] at hkf ⊢
   by_cases hr:(D.rootA H.p.d s.d s.nx).code≠0
   ·rw [if_pos hr] at hkf ⊢
    refine (create_not h hf (Decidable.not_not.1 hm) hr).mono ?_
    rintro e w' ⟨rfl,hd2,hb⟩
    exact Rets.plain rfl rfl (Kn.of hd2 hkf.2 hkf.1 hW) (Went.stay hb)
   ·rw [if_neg hr] at hkf ⊢
    refine (create_ok h hf (Decidable.not_not.1 hm) (Decidable.not_not.1 hr)).mono ?_
    rintro e w' ⟨rfl,N2,hd2,hw2⟩
    exact Rets.plain rfl rfl (Kn.of hd2 hkf.2 hkf.1 hW) hw2
 | 2,hi,_ =>
  rw [if_neg (by omega),if_pos (by omega)]
  refine (destroy_any h ht hd.obj hd.hw).mono ?_
  rintro e w' ⟨rfl,T,hd2,ht2,hb⟩
  exact Rets.plain rfl rfl (Kn.of hd2 ht2 (kf_away hf true _ hd2.inv) hW) (Went.stay hb)
 | 3,hi,_ =>
  rw [if_neg (by omega),if_neg (by omega),if_pos (by omega)]
  refine (derive_any h hf hd.obj hd.hw).mono ?_
  rintro e w' ⟨rfl,hd2,hb⟩
  have:=kf_der hf ht (cpO c) c.rights
  exact Rets.plain rfl rfl (Kn.of hd2 this.2 this.1 hW) (Went.stay hb)
 | 4,hi,_ =>
  rw [if_neg (by omega),if_neg (by omega),if_neg (by omega),if_pos (by omega)]
  refine (revoke_any h ht hd.obj hd.hw).mono ?_
  rintro e w' ⟨rfl,T,hd2,ht2,hb⟩
  exact Rets.plain rfl rfl (Kn.of hd2 ht2 (kf_away hf false _ hd2.inv) hW) (Went.stay hb)
 | 5,hi,_ =>
  rw [if_neg (by omega),if_neg (by omega),if_neg (by omega),if_neg (by omega),if_pos (by omega)]
  unfold readA
  by_cases hv:valE s c.given c.by_ (cpO c) 1≠0
  ·rw [if_pos hv]
   refine (read_no h ht hf hd.hw hd.by_ hv).mono ?_
   rintro e w' ⟨rfl,T,hd2,ht2,hb⟩
   exact Rets.plain rfl rfl (Kn.of hd2 ht2 hf hW) (Went.stay hb)
  ·rw [if_neg hv]
   refine (read_ok h ht hf hd.hw hd.by_ hd.obj (by simpa using hv)).mono ?_
   rintro e w' ⟨a,n,cp,T,rfl,hO,hd2,ht2,hb⟩
   exact⟨a,n,cp,N,rfl,hO,Kn.of hd2 ht2 hf hW,Went.stay hb,λk hk e=>by have:=h.new (hO.blk k hk);exact this e⟩
 | 6,hi,_ =>
  rw [if_neg (by omega),if_neg (by omega),if_neg (by omega),if_neg (by omega),if_neg (by omega),if_pos (by omega)]
  unfold writeA
  by_cases hv:valE s c.given c.by_ (cpO c) 2≠0
  ·rw [if_pos hv]
   refine (write_no h ht hf hd.hw hd.by_ hv).mono ?_
   rintro e w' ⟨rfl,T,hd2,ht2,hb⟩
   exact Rets.plain rfl rfl (Kn.of hd2 ht2 hf hW) (Went.stay hb)
  ·rw [if_neg hv]
   have hrow:=hd.row
   refine (write_ok h ht hf hd.hw hd.by_ hd.obj (by simpa using hv) hrow hd.is.data.small (λh0 j hj=>⟨hd.ap h0 j hj,?_⟩)).mono ?_
   ·obtain⟨b,o,e,hc⟩:=hrow.plain h0
    obtain⟨x,hx,rfl⟩:=hj
    rw [e] at hx
    obtain rfl:(⟨b,o,none⟩:Addr)=x:=by simpa using hx
    have hl:=hrow.len
    exact World.block_lt_of_cell? _ _ (hc 0 _ (gE (by omega)))
   ·rintro e w' ⟨T,rfl,hd2,ht2,hb⟩
    have hn:(dd.n:Int)=(c.data.length:Int):=by have:=hd.is.data.len;omega
    rw [hn]
    exact Rets.plain rfl rfl (Kn.of hd2 ht2 (kf_write hf _ _ _) hW) (Went.stay hb)
 | 7,hi,_ =>
  rw [if_neg (by omega),if_neg (by omega),if_neg (by omega),if_neg (by omega),if_neg (by omega),if_neg (by omega),if_pos (by omega)]
  have hkf:=kf_add hf c.by_ hd.by_ (cpO c) hd.hw
  unfold addA at hkf ⊢
  by_cases hq:fitB H.p.W (cpO c)=false
  ·rw [if_pos hq]
   refine (add_no h hW hd.hw hq).mono ?_
   rintro e w' ⟨rfl,hb⟩
   exact Rets.plain rfl rfl (hk.later hb) (Went.later hb)
  ·rw [if_neg hq] at hkf ⊢
   refine (add_ok h hf hW hd.hw hd.by_ (Bool.not_eq_false _ ▸ hq:fitB H.W (cpO c)=true)).mono ?_
   rintro e w' ⟨rfl,N2,hd2,hw2⟩
   by_cases hl:H.p.lm≤((s.D c.by_).length:Int)
   ·rw [if_pos hl] at hkf ⊢
    have hl':H.lm≤((s.D c.by_).length:Int):=hl
    simp only [if_pos hl'] at hd2 ⊢
    exact Rets.plain rfl rfl (Kn.of hd2 ht hf hW) hw2
   ·rw [if_neg hl] at hkf ⊢
    have hl':¬H.lm≤((s.D c.by_).length:Int):=hl
    simp only [if_neg hl'] at hd2 ⊢
    exact Rets.plain rfl rfl (Kn.of hd2 ht hkf hW) hw2
 | 8,hi,_ =>
  rw [if_neg (by omega),if_neg (by omega),if_neg (by omega),if_neg (by omega),if_neg (by omega),if_neg (by omega),if_neg (by omega),if_pos (by omega)]
  refine (remove_any h hf hd.by_).mono ?_
  rintro e w' ⟨rfl,N2,hd2,hw2⟩
  have hkf:=kf_rem hf c.by_ hd.by_ c.index
  have e1:(remA s c.by_ c.index).1=rep (remA s c.by_ c.index).1.code:=by unfold remA;split<;>rfl
  have e2:(remA s c.by_ c.index).2.X=s.X∧(remA s c.by_ c.index).2.l=s.l:=by unfold remA;split<;>exact⟨rfl,rfl⟩
  exact Rets.plain (r:=(remA s c.by_ c.index).1) (by rw [←e1]) (by rw [e1];rfl) (Kn.of (s:=(remA s c.by_ c.index).2) hd2 (e2.1.symm ▸ e2.2.symm ▸ ht) hkf hW) hw2
 | 9,hi,_ =>
  rw [if_neg (by omega),if_neg (by omega),if_neg (by omega),if_neg (by omega),if_neg (by omega),if_neg (by omega),if_neg (by omega),if_neg (by omega),if_pos (by omega)]
  have hkf:=kf_spa hf c.by_ hd.by_ c.gifts
  have hgn:gg.n≤255:=by have:=hd.is.gifts.len;have:=hd.gn;omega
  unfold spaA at hkf ⊢
  by_cases hv:M.pickE H.p.lm (s.D c.by_) c.gifts≠0
  ·rw [if_pos hv]
   refine (spawn_no h hf hd.by_ hd.gifts hgn hv).mono ?_
   rintro e w' ⟨rfl,hb⟩
   exact Rets.plain rfl rfl (hk.later hb) (Went.later hb)
  ·rw [if_neg hv] at hkf ⊢
   by_cases hp:P.fullP H.p.pm s.px s.P=true
   ·rw [if_pos hp]
    refine (spawn_full h hf hd.by_ hd.gifts hgn (Decidable.not_not.1 hv) hp).mono ?_
    rintro e w' ⟨rfl,N2,hd2,hw2⟩
    exact Rets.plain rfl rfl (Kn.of hd2 ht hf hW) hw2
   ·rw [if_neg hp] at hkf ⊢
    refine (spawn_ok h hf hd.by_ hd.gifts hgn (Decidable.not_not.1 hv) (Bool.not_eq_true _ ▸ hp)).mono ?_
    rintro e w' ⟨rfl,N2,hd2,hw2⟩
    exact Rets.plain rfl rfl (Kn.of hd2 ht hkf hW) hw2
 | 10,hi,_ =>
  rw [if_neg (by omega),if_neg (by omega),if_neg (by omega),if_neg (by omega),if_neg (by omega),if_neg (by omega),if_neg (by omega),if_neg (by omega),if_neg (by omega)]
  refine (exit_any h hf hd.by_).mono ?_
  rintro e w' ⟨rfl,hd2,hb⟩
  exact Rets.plain rfl rfl (Kn.of hd2 ht (kf_exi hf c.by_) hW) (Went.stay hb)
 | n+11,hi,_=>omega
end
end Go.Proofs.YtfmhdimaijimlaaGreatDoor.V
