import Derived.Test.YtfmhdimaijimlaaGreatDoorG26
import Derived.Defers
set_option linter.unusedVariables false
set_option linter.unusedSimpArgs false
set_option maxRecDepth 1000000
set_option maxHeartbeats 8000000
namespace Go.Proofs.YtfmhdimaijimlaaGreatDoor.V
open Go.RowKit
open Go.Proofs.YtfmhdimaijimlaaGreatDoor.H (B64 Cp)
theorem has_any (a b:Int)(w:World):Calls Tryz.prog 197 #[.int .i64 a,.int .i64 b] w fun e w'=>e=.returned (.bool (partB b a))∧w'=w:=by
 have hp:=hid (part_any b a)
 go_enter Tryz.func197,Tryz.ntmps197
 go_wp2_with (first|(go_at_call 178;refine (hp.out _).mono ?_;rintro e w9 ⟨rfl,hw9⟩;obtain rfl:=hw9.symm;clear hw9))
 go_ret
 exact⟨rfl,rfl⟩
def tkr (H:Hd):Value:=.agg #[.pointer (some ⟨H.A.g,0,none⟩),.pointer (some ⟨H.qg,0,none⟩),.pointer (some ⟨H.z.s,0,none⟩)]
def holdR (s:Sta)(c:Cp)(need:Int):Int×Int:=if hasC s.X s.l c=false then (0,3) else if partB need (rg s.X (findN s.X s.l c))=false then (0,4) else (findN s.X s.l c,0)
theorem holder_any {w:World}{H:Hd}{s:Sta}{d:Nat→List K.Pu}{N:Nat→Prop}(h:Duo w H s d N)(c:Cp)(need:Int)(hw:c.2.1<B64∧c.2.2<B64) :
  Calls Tryz.prog 155 #[tkr H,cpV c,.int .i64 need] w fun e w'=>e=.returned (.tuple #[.int .i64 (holdR s c need).1,.int .i64 (holdR s c need).2])∧Below w.heap.size w w':=by
 obtain⟨o,hi,lo⟩:=c
 obtain⟨w0,hw0⟩:∃w0,w0=(w.alloc (Obj.cells #[.pointer (some ⟨H.A.g,0,none⟩),.pointer (some ⟨H.qg,0,none⟩),.pointer (some ⟨H.z.s,0,none⟩)] 256)).alloc (Obj.cells #[.int .i64 o,.int .u64 (hi:Int),.int .u64 (lo:Int)] 38):=⟨_,rfl⟩
 have hB0:Below w.heap.size w w0:=by rw [hw0];exact below2 _ _ _
 have hmk:Tp w0 w.heap.size H.A.g H.qg H.z.s:=by rw [hw0];exact⟨by simp [go_sem],by simp [go_sem],by simp [go_sem]⟩
 have x0:w0.cell? ⟨w.heap.size+1,0,none⟩=some (.int .i64 o):=by rw [hw0];simp [go_sem]
 have x1:w0.cell? ⟨w.heap.size+1,1,none⟩=some (.int .u64 (hi:Int)):=by rw [hw0];simp [go_sem]
 have x2:w0.cell? ⟨w.heap.size+1,2,none⟩=some (.int .u64 (lo:Int)):=by rw [hw0];simp [go_sem]
 have y1:=hmk.c0
 have HM:=hid hmk
 have HB0:=hid hB0
 have HF:=hid (cfind_any (h.later hB0).cat (o,hi,lo) hw)
 unfold tkr holdR
 by_cases hc:hasC s.X s.l (o,hi,lo)=false
 ·rw [hc] at HF
  simp only [if_pos hc]
  obtain⟨m,hm⟩:∃m,m=findN s.X s.l (o,hi,lo):=⟨_,rfl⟩
  rw [←hm] at HF
  clear h hB0 hmk hc hm
  go_enter Tryz.func155,Tryz.ntmps155
  go_upto_region 1 with fail
  rw [←hw0]
  clear hw0
  go_wp2_with (first
   | (go_at_call 196;refine HF.out.mono ?_;rintro e w2 ⟨rfl,hb2⟩;have HB2:=hid (bc HB0.out hb2);clear hb2))
  exact bodyPost_ret (v:=.tuple #[.int .i64 0,.int .i64 3]) (by simp [results,Tryz.results155,go_sem]) rfl ⟨rfl,HB2.out⟩
 ·have hc':hasC s.X s.l (o,hi,lo)=true:=by simpa using hc
  rw [hc'] at HF
  simp only [if_neg hc]
  obtain⟨hfn,hft⟩:=findN_of h.inv hc'
  obtain⟨p,hp⟩:=mn_.1 hfn
  have HA:=hid (fun (U:World) (hU:Below w.heap.size w U)=>at_in (h.later hU).cat.cm (findN s.X s.l (o,hi,lo)) p hp)
  rw [hft] at HA
  obtain⟨m,hm⟩:∃m,m=findN s.X s.l (o,hi,lo):=⟨_,rfl⟩
  rw [←hm] at HF HA
  rw [←hm]
  obtain⟨q,hq⟩:∃q,q=rg s.X m:=⟨_,rfl⟩
  rw [←hq] at HA
  rw [←hq]
  have HHs:=hid (has_any q need)
  unfold tokA at HA
  clear h hB0 hmk hc hc' hm hq hft hfn hp
  cases hp4:partB need q with
  | false =>
   rw [hp4] at HHs
   simp only [if_true]
   clear hp4
   go_enter Tryz.func155,Tryz.ntmps155
   go_upto_region 1 with fail
   rw [←hw0]
   clear hw0
   go_upto_region 4 with (first
    | (go_at_call 196;refine HF.out.mono ?_;rintro e w2 ⟨rfl,hb2⟩;have HB2:=hid (bc HB0.out hb2);have z1:=(HM.out.later hb2).c0;clear hb2))
   go_wp2_with (first
    | (go_at_call 197;refine (HHs.out _).mono ?_;rintro e w9 ⟨rfl,hw9⟩;obtain rfl:=hw9.symm;clear hw9)
    | (go_at_call 122;refine (HA.out w2 HB2.out).mono ?_;rintro e w3 ⟨rfl,hb3⟩;have HB3:=hid (bc HB2.out hb3);clear hb3))
   exact bodyPost_ret (v:=.tuple #[.int .i64 0,.int .i64 4]) (by simp [results,Tryz.results155,go_sem]) rfl ⟨rfl,HB3.out.alloc HB3.out.size _⟩
  | true =>
   rw [hp4] at HHs
   simp only [Bool.true_eq_false,if_false]
   clear hp4
   go_enter Tryz.func155,Tryz.ntmps155
   go_upto_region 1 with fail
   rw [←hw0]
   clear hw0
   go_upto_region 4 with (first
    | (go_at_call 196;refine HF.out.mono ?_;rintro e w2 ⟨rfl,hb2⟩;have HB2:=hid (bc HB0.out hb2);have z1:=(HM.out.later hb2).c0;clear hb2))
   go_wp2_with (first
    | (go_at_call 197;refine (HHs.out _).mono ?_;rintro e w9 ⟨rfl,hw9⟩;obtain rfl:=hw9.symm;clear hw9)
    | (go_at_call 122;refine (HA.out w2 HB2.out).mono ?_;rintro e w3 ⟨rfl,hb3⟩;have HB3:=hid (bc HB2.out hb3);clear hb3))
   exact bodyPost_ret (v:=.tuple #[.int .i64 m,.int .i64 0]) (by simp [results,Tryz.results155,go_sem]) rfl ⟨rfl,HB3.out.alloc HB3.out.size _⟩
def UpRel (w:World)(X:List Tk)(l:Fo)(o:Int)(g xb:Nat)(t:Value)(w':World):Prop :=
 ∃x p:Int,t=.int .i64 x∧(x,p)∈l∧ob X x=o∧w'.cell? ⟨w.heap.size,0,none⟩=some (.pointer (some ⟨g,0,none⟩))∧(∃c r,Cet w' xb 0 (c,r,p))∧(∀j,w'.frozen? ⟨xb,j,none⟩=false)∧Below w.heap.size w w'∧xb<w'.heap.size
def upM (l:Fo)(t:Value):Nat:=match t with
 | .int _ x=>(U l x).length
 | _=>0
theorem root_any {w:World}{H:Hd}{s:Sta}{d:Nat→List K.Pu}{N:Nat→Prop}(h:Duo w H s d N)(n:Int)(hn:n∈nums s.l) :
  Calls Tryz.prog 157 #[tkr H,.int .i64 n] w fun e w'=>e=.returned (.int .i64 (topOf s.X s.l (ob s.X n)))∧Below w.heap.size w w':=by
 obtain⟨w0,hw0⟩:∃w0,w0=w.alloc (Obj.cells #[.pointer (some ⟨H.A.g,0,none⟩),.pointer (some ⟨H.qg,0,none⟩),.pointer (some ⟨H.z.s,0,none⟩)] 256):=⟨_,rfl⟩
 have hB0:Below w.heap.size w w0:=by rw [hw0];exact below1 _ _
 have y0:w0.cell? ⟨w.heap.size,0,none⟩=some (.pointer (some ⟨H.A.g,0,none⟩)):=by rw [hw0];simp [go_sem]
 have hsz0:w0.heap.size=w.heap.size+1:=by rw [hw0];simp [go_sem]
 have HS0:=hid hsz0
 have HI:=hid h.inv
 have HA:=hid (fun (U:World) (hU:Below w.heap.size w U) (x p:Int) (hp:(x,p)∈s.l)=>at_in (h.later hU).cat.cm x p hp)
 obtain⟨p,hp⟩:=mn_.1 hn
 have HP:=hid hp
 have HB0:=hid hB0
 have HA1:=hid (HA.out w0 hB0 n p hp)
 obtain⟨⟨cx,hx_,lx⟩,hcx⟩:∃c:Cp,c=(tk s.X n).1:=⟨_,rfl⟩
 obtain⟨rx,hrx⟩:∃r,r=rg s.X n:=⟨_,rfl⟩
 rw [←hcx,←hrx] at HA1
 unfold tokA at HA1
 obtain⟨R,hR⟩:∃R,R=topOf s.X s.l (ob s.X n):=⟨_,rfl⟩
 rw [←hR]
 have HR:=hid hR
 unfold tkr
 clear h hB0 hn hp hcx hrx hR hsz0
 go_enter Tryz.func157,Tryz.ntmps157
 go_upto_region 1 with fail
 rw [←hw0]
 clear hw0
 go_upto_region 2 with (first
  | (go_at_call 122;refine HA1.out.mono ?_;rintro e w2 ⟨rfl,hb2⟩;have HB2:=hid (bc HB0.out hb2);have z1:=hid (cell_later hb2 y0);have HS2:=hid (Nat.le_trans (Nat.le_of_eq HS0.out.symm) hb2.size);clear hb2 y0))
 obtain⟨w3,hw3⟩:∃w3,w3=w2.alloc (Obj.cells #[.int .i64 cx,.int .u64 (hx_:Int),.int .u64 (lx:Int),.int .i64 rx,.int .i64 p] 61):=⟨_,rfl⟩
 have hb3:Below w2.heap.size w2 w3:=by rw [hw3];exact below1 _ _
 have hct:Cet w3 w2.heap.size 0 ((cx,hx_,lx),rx,p):=by rw [hw3];exact⟨by simp [go_sem],by simp [go_sem],by simp [go_sem],by simp [go_sem],by simp [go_sem]⟩
 have hfr:∀j,w3.frozen? ⟨w2.heap.size,j,none⟩=false:=fun j=>by rw [hw3];simp [go_sem]
 have hlt:w2.heap.size<w3.heap.size:=by rw [hw3];simp [go_sem]
 rw [←hw3]
 have HBe:=hid (bc HB2.out hb3)
 have HZ:=hid (cell_later hb3 z1.out)
 have HCT:=hid hct
 have HFR:=hid hfr
 have HLT:=hid hlt
 obtain⟨xb,hxb⟩:∃xb,xb=w2.heap.size:=⟨_,rfl⟩
 rw [←hxb] at HS2 HCT HFR HLT
 rw [←hxb]
 clear hw3 hb3 hct hfr hlt hxb z1 HB2
 go_loopw [1] (UpRel w s.X s.l (ob s.X n) H.A.g xb) (fun t _=>upM s.l t)
 case atStart=>exact⟨n,p,rfl,HP.out,rfl,HZ.out,⟨_,_,HCT.out⟩,HFR.out,HBe.out,HLT.out⟩
 case round =>
  obtain⟨x,p1,rfl,hp1,ho1,y0,⟨c1,r1,hct⟩,hfr,hB,hlt⟩:=hrel
  have t4:=hct.c4
  simp only [Nat.zero_add] at t4
  have HP1:=hid hp1
  have HO1:=hid ho1
  have HB:=hid hB
  have HLT1:=hid hlt
  have HFR1:=hid hfr
  have HCT1:=hid hct
  by_cases hroot:p1=-1
  ·subst hroot
   have HRx:Hid (R=x):=by
    unfold Hid
    rw [HR.out,←ho1,topOf_eq HI.out hp1]
   clear hct hfr hB hlt hp1 ho1
   go_wp2
   go_ret
   exact⟨by rw [HRx.out];rfl,HB.out⟩
  ·have hb:(p1 != -1)=true:=by simp [hroot]
   have hpn:p1∈nums s.l:=(HI.out.ok.up hp1).resolve_left hroot
   obtain⟨p2,hp2⟩:=mn_.1 hpn
   have HP2:=hid hp2
   have HO2:Hid (ob s.X p1=ob s.X n):=by
    unfold Hid
    rw [←ho1];exact ((HI.out.up x p1 hp1 hroot).1).symm
   have HA2:=hid (HA.out wr hB p1 p2 hp2)
   have HM:Hid ((U s.l p1).length<(U s.l x).length):=by
    unfold Hid
    rw [U_eq HI.out.ok hp1,List.length_cons];omega
   obtain⟨⟨cy,hy_,ly⟩,hcy⟩:∃c:Cp,c=(tk s.X p1).1:=⟨_,rfl⟩
   obtain⟨ry,hry⟩:∃r,r=rg s.X p1:=⟨_,rfl⟩
   rw [←hcy,←hry] at HA2
   unfold tokA at HA2
   clear hct hfr hB hlt hp1 ho1 hroot hpn hp2 hcy hry
   go_upto_region 4 with fail
   go_wp2_with (first
    | (go_at_call 122;refine HA2.out.mono ?_;rintro e w5 ⟨rfl,hb5⟩;have HB5:=hid (bc HB.out hb5);have HZ5:=hid (cell_later hb5 y0);have hlt5:=hid hb5;have hf0:=hid (fun j=>(hb5.frozen HLT1.out (p:=⟨xb,j,none⟩)).trans (HFR1.out j));have d0:=(HCT1.out.later hb5).c0;have d1:=(HCT1.out.later hb5).c1;have d2:=(HCT1.out.later hb5).c2;have d3:=(HCT1.out.later hb5).c3;have d4:=(HCT1.out.later hb5).c4;simp only [Nat.zero_add] at d0 d1 d2 d3 d4;clear hb5;have q0:=hf0.out 0;have q1:=hf0.out 1;have q2:=hf0.out 2;have q3:=hf0.out 3;have q4:=hf0.out 4))
   have hbut:But (·=xb) w5 (set5o w5 xb 0 ((cy,hy_,ly),ry,p2)):=by
    unfold set5o
    exact ((((((But.refl (·=xb) w5).setCell (p:=⟨xb,0,none⟩) rfl _).setCell (p:=⟨xb,0+1,none⟩) rfl _).setCell (p:=⟨xb,0+2,none⟩) rfl _).setCell (p:=⟨xb,0+3,none⟩) rfl _).setCell (p:=⟨xb,0+4,none⟩) rfl _)
   have hS2:=HS2.out
   have hne:¬(w.heap.size=xb):=by omega
   refine⟨⟨p1,p2,rfl,HP2.out,HO2.out,cb_ hbut HZ5.out hne,⟨_,_,(HCT1.out.later hlt5.out).set ((cy,hy_,ly),ry,p2)⟩,fun j=>?_,But.below HB5.out hbut (fun k hk=>by omega),?_⟩,HM.out⟩
   ·simp only [World.frozen?_setCell];exact hf0.out j
   ·have h1:=HLT1.out
    have h2:=hlt5.out.size
    have h3:=hbut.size
    exact Nat.lt_of_lt_of_le h1 (Nat.le_trans h2 h3)
end Go.Proofs.YtfmhdimaijimlaaGreatDoor.V
namespace Go.Proofs.YtfmhdimaijimlaaGreatDoor.V
open Go.RowKit
open Go.Proofs.YtfmhdimaijimlaaGreatDoor.H (B64 Cp)
theorem wf_of {x:Int}(h:S.i64ok x):(Lit.int .i64 x).wf=true:=by
 unfold S.i64ok at h
 simp only [Lit.wf,Bool.and_eq_true,decide_eq_true_eq]
 have e1:IntKind.i64.min=-9223372036854775808:=by decide
 have e2:IntKind.i64.max=9223372036854775807:=by decide
 rw [e1,e2]
 omega
theorem sub98 {w:World}{H:Hd}{s:Sta}{d:Nat→List K.Pu}{N:Nat→Prop}(h:Duo w H s d N)(tb qx gx:Nat)(o:Int)(a:Option Addr)(n c:Nat)(u:FrameMode)(ho:S.i64ok o)(x1:w.cell? ⟨tb,1,none⟩=some (.pointer (some ⟨H.qg,0,none⟩)))(x2:w.cell? ⟨qx,0,none⟩=some (.int .i64 o))(x3:w.cell? ⟨gx,0,none⟩=some (.slice a n c)) :
  CallsD Tryz.prog 198 #[.pointer (some ⟨tb,0,none⟩),.pointer (some ⟨qx,0,none⟩),.pointer (some ⟨gx,0,none⟩)] u w fun e u' w'=>u'=u∧e=.returned (.tuple #[])∧Duo w' H { s with L:=Q.subS s.L o (n:Int) } d N∧But N w w':=by
 have HS:=hid (pSub h o (n:Int) (wf_of ho))
 clear h ho
 go_enter_d Tryz.func198,Tryz.ntmps198
 go_wp2_with (first
  | (go_at_call 199;refine HS.out.mono ?_;rintro e w2 ⟨rfl,hd2,hb2⟩;have HD:=hid hd2;have HB:=hid hb2;clear hd2 hb2))
 go_end0
 exact⟨rfl,HD.out,HB.out⟩
theorem fell_any {w:World}{H:Hd}{s:Sta}{d:Nat→List K.Pu}{N:Nat→Prop}(h:Duo w H s d N)(n:Int)(hn:n∈nums s.l)(ho:S.i64ok (ob s.X n)) :
  Calls Tryz.prog 156 #[tkr H,.int .i64 n] w fun e w'=>∃a c,e=.returned (.tuple #[.slice a (G true s.l n).length c,.int .i64 0])∧Ow w' w.heap.size 38 3 a (G true s.l n).length c (caps ((G true s.l n).map (fun k=>(tk s.X k).1)))∧Duo w' H (felled s n (ob s.X n)) d N∧But N w w':=by
 obtain⟨w0,hw0⟩:∃w0,w0=(w.alloc (Obj.cells #[.pointer (some ⟨H.A.g,0,none⟩),.pointer (some ⟨H.qg,0,none⟩),.pointer (some ⟨H.z.s,0,none⟩)] 256)).alloc (Obj.cells #[.slice none 0 0] 57):=⟨_,rfl⟩
 have hB0:Below w.heap.size w w0:=by rw [hw0];exact below2 _ _ _
 have htp:Tp w0 w.heap.size H.A.g H.qg H.z.s:=by rw [hw0];exact⟨by simp [go_sem],by simp [go_sem],by simp [go_sem]⟩
 have hgx:Lies w0 ⟨w.heap.size+1,0,none⟩ (.slice none 0 0):=by rw [hw0];exact⟨by simp [go_sem],by simp [go_sem]⟩
 have hsz0:w0.heap.size=w.heap.size+2:=by rw [hw0];simp [go_sem]
 obtain⟨p,hp⟩:=mn_.1 hn
 have hmf:∀(fn:Fn) (first cap:Array Value) (w:World),(Instr.makeFunc fn first cap).run Tryz.prog w=.ok (.func fn first cap) w:=fun _ _ _ _=>rfl
 have HA1:=hid (at_in (h.later hB0).cat.cm n p hp)
 obtain⟨⟨cx,hx_,lx⟩,hcx⟩:∃c:Cp,c=(tk s.X n).1:=⟨_,rfl⟩
 obtain⟨rx,hrx⟩:∃r,r=rg s.X n:=⟨_,rfl⟩
 have hox:cx=ob s.X n:=by unfold ob;rw [←hcx]
 rw [←hcx,←hrx] at HA1
 unfold tokA at HA1
 unfold tkr
 have y0:=htp.c0
 have HT0:=hid htp
 have HG0:=hid hgx
 have HS0:=hid hsz0
 have HB0:=hid hB0
 have HD:=hid h
 rw [←hox] at ho
 have HO:=hid ho
 have HOX:=hid hox
 have HN:=hid hn
 have HPar:=hid (par_eq h.inv.ok hp)
 clear h hn hp hcx hrx hox ho htp hgx hsz0 hB0
 go_enter_defers Tryz.func156,Tryz.ntmps156
 go_upto_region 1 with fail
 rw [←hw0]
 clear hw0
 go_upto_region 2 with (first
  | (go_at_call 122;refine HA1.out.mono ?_;rintro e w2 ⟨rfl,hb2⟩;have HB2:=hid hb2;clear hb2 y0))
 go_upto_region 4 with fail
 obtain⟨w3,hw3⟩:∃w3,w3=(w2.alloc (Obj.cells #[.int .i64 cx,.int .u64 (hx_:Int),.int .u64 (lx:Int),.int .i64 rx,.int .i64 p] 61)).alloc (Obj.cells #[.int .i64 cx] 3):=⟨_,rfl⟩
 have hb3:Below w2.heap.size w2 w3:=by rw [hw3];exact below2 _ _ _
 have t4:w3.cell? ⟨w2.heap.size,4,none⟩=some (.int .i64 p):=by rw [hw3];simp [go_sem]
 have hq:w3.cell? ⟨w2.heap.size+1,0,none⟩=some (.int .i64 cx):=by rw [hw3];simp [go_sem]
 rw [←hw3]
 have hrg:=HD.out.rng
 have hs0:=HS0.out
 have hs2:=HB2.out.size
 have HF:Hid (∀U,But N w3 U→Tp U w.heap.size H.A.g H.qg H.z.s∧U.cell? ⟨w2.heap.size+1,0,none⟩=some (.int .i64 cx)∧Lies U ⟨w.heap.size+1,0,none⟩ (.slice none 0 0)):=fun U hU=>by
  have hb23:=bc HB2.out hb3
  exact⟨(HT0.out.later hb23).but hU (fun e=>by have:=hrg _ e;omega),cb_ hU hq (fun (e:N (w2.heap.size+1))=>by have:=hrg _ e;omega),(HG0.out.later hb23).but hU (fun (e:N (w.heap.size+1))=>by have:=hrg _ e;omega)⟩
 have HB3:=hid (bc HB0.out (bc HB2.out hb3))
 have HD3:=hid (HD.out.later HB3.out)
 have hlt3:w2.heap.size+1<w3.heap.size:=World.block_lt_of_cell? _ _ hq
 have HS3:Hid (w.heap.size+2≤w2.heap.size∧w2.heap.size+1<w3.heap.size):=⟨by omega,hlt3⟩
 have HRg:=hid hrg
 have HEnd:Hid (∀(V:List (Int×List Nat)) (w5:World) (a:Option Addr) (c:Nat),V=(if par s.l n=-1 then noV s.V cx else s.V)→Ow w5 w3.heap.size 38 3 a (G true s.l n).length c (caps ((G true s.l n).map (fun k=>(tk s.X k).1)))→Duo w5 H { s with V:=V,X:=zer s.X (G true s.l n),l:=cuts s.l (G true s.l n) } d N→But N w3 w5 →
   CallsD Tryz.prog 198 #[.pointer (some ⟨w.heap.size,0,none⟩),.pointer (some ⟨w2.heap.size+1,0,none⟩),.pointer (some ⟨w.heap.size+1,0,none⟩)] .returning (w5.setCell ⟨w.heap.size+1,0,none⟩ (.slice a (G true s.l n).length c)) fun e u' w'=>u'=.returning∧e=.returned (.tuple #[])∧w'.cell? ⟨w.heap.size+1,0,none⟩=some (.slice a (G true s.l n).length c)∧Ow w' w.heap.size 38 3 a (G true s.l n).length c (caps ((G true s.l n).map (fun k=>(tk s.X k).1)))∧Duo w' H (felled s n (ob s.X n)) d N∧But N w w'):=fun V w5 a c hV hO hd5 hb5=>by
  obtain⟨f1,f2,f3⟩:=HF.out w5 hb5
  have hbs:But (·=w.heap.size+1) w5 (w5.setCell ⟨w.heap.size+1,0,none⟩ (.slice a (G true s.l n).length c)):=(But.refl (·=w.heap.size+1) w5).setCell (p:=⟨w.heap.size+1,0,none⟩) rfl _
  have s3:=HS3.out
  have hd6:=hd5.but hbs (fun k hk e=>by have:=HRg.out k hk;omega) (fun e=>absurd e (by show ¬(0=w.heap.size+1);omega))
  have g3:(w5.setCell ⟨w.heap.size+1,0,none⟩ (.slice a (G true s.l n).length c)).cell? ⟨w.heap.size+1,0,none⟩=some (.slice a (G true s.l n).length c):=World.cell?_setCell_same _ _ _ f3.1
  have f1':=f1.but hbs (fun e=>by omega)
  have f2':=cb_ hbs f2 (by show ¬(w2.heap.size+1=w.heap.size+1);omega)
  refine (sub98 hd6 w.heap.size (w2.heap.size+1) (w.heap.size+1) cx a (G true s.l n).length c .returning HO.out f1'.c1 f2' g3).mono ?_
  rintro e u' w7 ⟨rfl,rfl,hd7,hb7⟩
  have hlist:∀j,Blk a j→w3.heap.size≤j:=fun j hj=>(hO.blk j hj).1
  refine⟨rfl,rfl,cb_ hb7 g3 (fun (e:N (w.heap.size+1))=>by have:=HRg.out _ e;omega),((hO.but hbs (fun j hj e=>by have:=hlist j hj;omega)).but hb7 (fun j hj e=>by have:=hlist j hj;have:=HRg.out _ e;omega)).mono (by omega),?_,?_⟩
  ·rw [hV,HOX.out] at hd7
   exact hd7
  ·refine⟨?_,?_,?_,?_,fun k hk hn=>?_⟩
   ·exact hb7.os.trans (hbs.os.trans (hb5.os.trans HB3.out.os))
   ·exact hb7.tape.trans (hbs.tape.trans (hb5.tape.trans HB3.out.tape))
   ·exact hb7.output.trans (hbs.output.trans (hb5.output.trans HB3.out.output))
   ·exact Nat.le_trans HB3.out.size (Nat.le_trans hb5.size (Nat.le_trans hbs.size hb7.size))
   ·have h3:=HB3.out.size
    have h5:=hb5.size
    have h6:=hbs.size
    exact ((hb7.block k (by omega) hn).trans (hbs.block k (by omega) (fun e=>by omega))).trans ((hb5.block k (by omega) hn).trans (HB3.out.block k hk))
 clear hw3 hb3 hq hrg hs0 hs2 hlt3 HA1 HT0 HG0
 by_cases hp1:p=-1
 ·subst hp1
  obtain⟨z0,z1,z2⟩:=(HF.out w3 (But.refl _ _)).1
  obtain⟨q0⟩:=And.intro (HF.out w3 (But.refl _ _)).2.1 trivial
  have HDs:=hid (pDestroy HD3.out cx HO.out)
  have HV:Hid (noV s.V cx=(if par s.l n=-1 then noV s.V cx else s.V)):=by unfold Hid;rw [if_pos HPar.out]
  go_upto_region 6 with (first
   | (go_at_call 200;refine HDs.out.mono ?_;rintro e w4 ⟨x9,rfl,hd4,hb4⟩;have HD4:=hid hd4;have HB4:=hid hb4;have y0:=(HF.out w4 hb4).1.c0;clear hd4 hb4 z0 z1 z2 q0 t4))
  have HDr:=hid (pDrop HD4.out n HN.out)
  go_wp2_with (first
   | (go_at_call 201;refine HDr.out.mono ?_;rintro e w5 ⟨a,c,rfl,hO5,hd5,hb5⟩;have HD5:=hid hd5;have HB5:=hid (HB4.out.trans hb5);have HO5:=hid (hO5.mono HB4.out.size);have gg:=(HF.out w5 HB5.out).2.2.1;have gf:=(HF.out w5 HB5.out).2.2.2;clear hd5 hb5 hO5))
  refine leaves_cons (f:=198) (args:=#[.pointer (some ⟨w.heap.size,0,none⟩),.pointer (some ⟨w2.heap.size+1,0,none⟩),.pointer (some ⟨w.heap.size+1,0,none⟩)]) (by simp) (by simp [go_sem]) ?_
  refine (HEnd.out _ w5 a c HV.out HO5.out HD5.out HB5.out).mono ?_
  rintro e u' w7 ⟨rfl,rfl,g7,r1,r2,r3⟩
  have HR:=hid (And.intro r1 (And.intro r2 r3))
  clear r1 r2 r3
  simp only [Leaves,settle]
  refine⟨.tuple #[.slice a (G true s.l n).length c,.int .i64 0],by simp [results,Tryz.results156,go_sem,g7],a,c,rfl,HR.out⟩
 ·have hb1:(p==-1)=false:=by simp [hp1]
  obtain⟨z0,z1,z2⟩:=(HF.out w3 (But.refl _ _)).1
  have HV:Hid (s.V=(if par s.l n=-1 then noV s.V cx else s.V)):=by unfold Hid;rw [if_neg (by rw [HPar.out];exact hp1)]
  have HDr:=hid (pDrop HD3.out n HN.out)
  go_wp2_with (first
   | (go_at_call 201;refine HDr.out.mono ?_;rintro e w5 ⟨a,c,rfl,hO5,hd5,hb5⟩;have HD5:=hid hd5;have HB5:=hid hb5;have HO5:=hid hO5;have gg:=(HF.out w5 HB5.out).2.2.1;have gf:=(HF.out w5 HB5.out).2.2.2;clear hd5 hb5 hO5))
  refine leaves_cons (f:=198) (args:=#[.pointer (some ⟨w.heap.size,0,none⟩),.pointer (some ⟨w2.heap.size+1,0,none⟩),.pointer (some ⟨w.heap.size+1,0,none⟩)]) (by simp) (by simp [go_sem]) ?_
  refine (HEnd.out _ w5 a c HV.out HO5.out HD5.out HB5.out).mono ?_
  rintro e u' w7 ⟨rfl,rfl,g7,r1,r2,r3⟩
  have HR:=hid (And.intro r1 (And.intro r2 r3))
  clear r1 r2 r3
  simp only [Leaves,settle]
  refine⟨.tuple #[.slice a (G true s.l n).length c,.int .i64 0],by simp [results,Tryz.results156,go_sem,g7],a,c,rfl,HR.out⟩
def Took (w:World)(H:Hd)(A:Ans)(d:Nat→List K.Pu)(N:Nat→Prop)(e:Ending)(w':World):Prop :=
 ∃a c,e=.returned (.tuple #[.slice a A.K.length c,.int .i64 A.code])∧Ow w' w.heap.size 38 3 a A.K.length c (caps A.K)∧Duo w' H A.s d N∧But N w w'
theorem token_any {w:World}{H:Hd}{s:Sta}{d:Nat→List K.Pu}{N:Nat→Prop}(h:Duo w H s d N)(c:Cp)(hw:c.2.1<B64∧c.2.2<B64)(hc1:S.i64ok c.1) :
  Calls Tryz.prog 109 #[.pointer (some ⟨H.A.g,0,none⟩),.pointer (some ⟨H.qg,0,none⟩),.pointer (some ⟨H.z.s,0,none⟩),cpV c] w (Took w H (revA false s c) d N):=by
 obtain⟨o,hi,lo⟩:=c
 obtain⟨w0,hw0⟩:∃w0,w0=(w.alloc (Obj.cells #[.int .i64 o,.int .u64 (hi:Int),.int .u64 (lo:Int)] 38)).alloc (Obj.cells #[.pointer (some ⟨H.A.g,0,none⟩),.pointer (some ⟨H.qg,0,none⟩),.pointer (some ⟨H.z.s,0,none⟩)] 256):=⟨_,rfl⟩
 have hB0:Below w.heap.size w w0:=by rw [hw0];exact below2 _ _ _
 have htp:Tp w0 (w.heap.size+1) H.A.g H.qg H.z.s:=by rw [hw0];exact⟨by simp [go_sem],by simp [go_sem],by simp [go_sem]⟩
 have x0:w0.cell? ⟨w.heap.size,0,none⟩=some (.int .i64 o):=by rw [hw0];simp [go_sem]
 have x1:w0.cell? ⟨w.heap.size,1,none⟩=some (.int .u64 (hi:Int)):=by rw [hw0];simp [go_sem]
 have x2:w0.cell? ⟨w.heap.size,2,none⟩=some (.int .u64 (lo:Int)):=by rw [hw0];simp [go_sem]
 obtain⟨y0,y1,y2⟩:=id htp
 have HT:=hid htp
 have HB0:=hid hB0
 have HD0:=hid (h.later hB0)
 have HH:=hid (holder_any (h.later hB0) (o,hi,lo) 8 hw)
 have HD:=hid h
 unfold tkr at HH
 have hans:revA false s (o,hi,lo)=if (holdR s (o,hi,lo) 8).2=0 then ⟨(G true s.l (findN s.X s.l (o,hi,lo))).map (fun k=>(tk s.X k).1),0,felled s (findN s.X s.l (o,hi,lo)) o⟩ else ⟨[],(holdR s (o,hi,lo) 8).2,s⟩:=by
  unfold revA holdR needB whom
  by_cases h1:hasC s.X s.l (o,hi,lo)=false
  ·simp [h1]
  ·by_cases h2:partB 8 (rg s.X (findN s.X s.l (o,hi,lo)))=false
   ·simp [h1,h2]
   ·simp [h1,h2]
 rw [hans]
 by_cases hz:(holdR s (o,hi,lo) 8).2=0
 ·rw [if_pos hz]
  have hh:hasC s.X s.l (o,hi,lo)=true∧(holdR s (o,hi,lo) 8).1=findN s.X s.l (o,hi,lo):=by
   unfold holdR at hz ⊢
   by_cases h1:hasC s.X s.l (o,hi,lo)=false
   ·rw [if_pos h1] at hz;exact absurd hz (by decide)
   ·rw [if_neg h1] at hz ⊢
    refine⟨by simpa using h1,?_⟩
    by_cases h2:partB 8 (rg s.X (findN s.X s.l (o,hi,lo)))=false
    ·rw [if_pos h2] at hz;exact absurd hz (by decide)
    ·rw [if_neg h2]
  rw [hz,hh.2] at HH
  obtain⟨f1,f2⟩:=findN_of h.inv hh.1
  have fo:ob s.X (findN s.X s.l (o,hi,lo))=o:=by unfold ob;rw [f2]
  have HFl:=hid (fun (U:World) (hU:Below w.heap.size w U)=>fell_any (h.later hU) (findN s.X s.l (o,hi,lo)) f1 (by rw [fo];exact hc1))
  rw [fo] at HFl
  obtain⟨m,hm⟩:∃m,m=findN s.X s.l (o,hi,lo):=⟨_,rfl⟩
  rw [←hm] at HH HFl
  rw [←hm]
  unfold tkr at HFl
  obtain⟨KL,hKL⟩:∃KL,KL=(G true s.l m).map (fun k=>(tk s.X k).1):=⟨_,rfl⟩
  have hlen:(G true s.l m).length=KL.length:=by rw [hKL,List.length_map]
  rw [←hKL]
  rw [←hKL,hlen] at HFl
  obtain⟨kn,hkn⟩:∃kn,kn=KL.length:=⟨_,rfl⟩
  rw [←hkn] at HFl
  unfold Took
  simp only
  rw [←hkn]
  obtain⟨S',hS'⟩:∃S',S'=felled s m o:=⟨_,rfl⟩
  rw [←hS'] at HFl
  rw [←hS']
  clear h hB0 htp hans hz hh f1 f2 fo hm hKL hlen hkn hS'
  go_enter Tryz.func109,Tryz.ntmps109
  go_upto_region 2 with fail
  rw [←hw0]
  clear hw0
  go_upto_region 5 with (first
   | (go_at_call 155;refine HH.out.mono ?_;rintro e w2 ⟨rfl,hb2⟩;have HB2:=hid (bc HB0.out hb2);have z0:=(HT.out.later hb2).c0;have z1:=(HT.out.later hb2).c1;have z2:=(HT.out.later hb2).c2;clear hb2))
  go_wp2_with (first
   | (go_at_call 156;refine (HFl.out w2 HB2.out).mono ?_;rintro e w3 ⟨a,c,rfl,hO3,hd3,hb3⟩;have HR:=hid (And.intro (hO3.mono HB2.out.size) (And.intro hd3 ((But.of (S:=N) HB2.out).trans hb3)));clear hO3 hd3 hb3))
  exact bodyPost_ret (v:=.tuple #[.slice a kn c,.int .i64 0]) (by simp [results,Tryz.results109,go_sem]) rfl ⟨a,c,rfl,HR.out⟩
 ·rw [if_neg hz]
  obtain⟨E,hE⟩:∃E,E=(holdR s (o,hi,lo) 8).2:=⟨_,rfl⟩
  obtain⟨m,hm⟩:∃m,m=(holdR s (o,hi,lo) 8).1:=⟨_,rfl⟩
  rw [←hE,←hm] at HH
  rw [←hE]
  rw [←hE] at hz
  have hz2:(E != 0)=true:=by simp [hz]
  unfold Took
  clear h hB0 htp hans hE hm
  go_enter Tryz.func109,Tryz.ntmps109
  go_upto_region 2 with fail
  rw [←hw0]
  clear hw0
  go_wp2_with (first
   | (go_at_call 155;refine HH.out.mono ?_;rintro e w2 ⟨rfl,hb2⟩;have HB2:=hid (bc HB0.out hb2);clear hb2))
  exact bodyPost_ret (v:=.tuple #[.slice none 0 0,.int .i64 E]) (by simp [results,Tryz.results109,go_sem]) rfl ⟨none,0,rfl,Ow.nil _ _ _ _,HD.out.later HB2.out,But.of HB2.out⟩
theorem object_any {w:World}{H:Hd}{s:Sta}{d:Nat→List K.Pu}{N:Nat→Prop}(h:Duo w H s d N)(c:Cp)(hw:c.2.1<B64∧c.2.2<B64)(hc1:S.i64ok c.1) :
  Calls Tryz.prog 106 #[.pointer (some ⟨H.A.g,0,none⟩),.pointer (some ⟨H.qg,0,none⟩),.pointer (some ⟨H.z.s,0,none⟩),cpV c] w (Took w H (revA true s c) d N):=by
 obtain⟨o,hi,lo⟩:=c
 obtain⟨w0,hw0⟩:∃w0,w0=(w.alloc (Obj.cells #[.int .i64 o,.int .u64 (hi:Int),.int .u64 (lo:Int)] 38)).alloc (Obj.cells #[.pointer (some ⟨H.A.g,0,none⟩),.pointer (some ⟨H.qg,0,none⟩),.pointer (some ⟨H.z.s,0,none⟩)] 256):=⟨_,rfl⟩
 have hB0:Below w.heap.size w w0:=by rw [hw0];exact below2 _ _ _
 have htp:Tp w0 (w.heap.size+1) H.A.g H.qg H.z.s:=by rw [hw0];exact⟨by simp [go_sem],by simp [go_sem],by simp [go_sem]⟩
 have x0:w0.cell? ⟨w.heap.size,0,none⟩=some (.int .i64 o):=by rw [hw0];simp [go_sem]
 have x1:w0.cell? ⟨w.heap.size,1,none⟩=some (.int .u64 (hi:Int)):=by rw [hw0];simp [go_sem]
 have x2:w0.cell? ⟨w.heap.size,2,none⟩=some (.int .u64 (lo:Int)):=by rw [hw0];simp [go_sem]
 obtain⟨y0,y1,y2⟩:=id htp
 have HT:=hid htp
 have HB0:=hid hB0
 have HD0:=hid (h.later hB0)
 have HH:=hid (holder_any (h.later hB0) (o,hi,lo) 16 hw)
 have HD:=hid h
 unfold tkr at HH
 have hans:revA true s (o,hi,lo)=if (holdR s (o,hi,lo) 16).2=0 then ⟨(G true s.l (topOf s.X s.l o)).map (fun k=>(tk s.X k).1),0,felled s (topOf s.X s.l o) o⟩ else ⟨[],(holdR s (o,hi,lo) 16).2,s⟩:=by
  unfold revA holdR needB whom
  by_cases h1:hasC s.X s.l (o,hi,lo)=false
  ·simp [h1]
  ·by_cases h2:partB 16 (rg s.X (findN s.X s.l (o,hi,lo)))=false
   ·simp [h1,h2]
   ·simp [h1,h2]
 rw [hans]
 by_cases hz:(holdR s (o,hi,lo) 16).2=0
 ·rw [if_pos hz]
  have hh:hasC s.X s.l (o,hi,lo)=true∧(holdR s (o,hi,lo) 16).1=findN s.X s.l (o,hi,lo):=by
   unfold holdR at hz ⊢
   by_cases h1:hasC s.X s.l (o,hi,lo)=false
   ·rw [if_pos h1] at hz;exact absurd hz (by decide)
   ·rw [if_neg h1] at hz ⊢
    refine⟨by simpa using h1,?_⟩
    by_cases h2:partB 16 (rg s.X (findN s.X s.l (o,hi,lo)))=false
    ·rw [if_pos h2] at hz;exact absurd hz (by decide)
    ·rw [if_neg h2]
  rw [hz,hh.2] at HH
  obtain⟨f1,f2⟩:=findN_of h.inv hh.1
  have fo:ob s.X (findN s.X s.l (o,hi,lo))=o:=by unfold ob;rw [f2]
  obtain⟨g1,g2,g3⟩:=whom_in h.inv hh.1 true
  have e1:whom true s (o,hi,lo)=topOf s.X s.l o:=rfl
  rw [e1] at g1 g2
  have g2':ob s.X (topOf s.X s.l o)=o:=g2
  have HRt:=hid (fun (U:World) (hU:Below w.heap.size w U)=>root_any (h.later hU) (findN s.X s.l (o,hi,lo)) f1)
  rw [fo] at HRt
  have HFl:=hid (fun (U:World) (hU:Below w.heap.size w U)=>fell_any (h.later hU) (topOf s.X s.l o) g1 (by rw [g2'];exact hc1))
  rw [g2'] at HFl
  obtain⟨m0,hm0⟩:∃m,m=findN s.X s.l (o,hi,lo):=⟨_,rfl⟩
  rw [←hm0] at HH HRt
  obtain⟨m,hm⟩:∃m,m=topOf s.X s.l o:=⟨_,rfl⟩
  rw [←hm] at HRt HFl
  rw [←hm]
  unfold tkr at HRt
  unfold tkr at HFl
  obtain⟨KL,hKL⟩:∃KL,KL=(G true s.l m).map (fun k=>(tk s.X k).1):=⟨_,rfl⟩
  have hlen:(G true s.l m).length=KL.length:=by rw [hKL,List.length_map]
  rw [←hKL]
  rw [←hKL,hlen] at HFl
  obtain⟨kn,hkn⟩:∃kn,kn=KL.length:=⟨_,rfl⟩
  rw [←hkn] at HFl
  unfold Took
  simp only
  rw [←hkn]
  obtain⟨S',hS'⟩:∃S',S'=felled s m o:=⟨_,rfl⟩
  rw [←hS'] at HFl
  rw [←hS']
  have HRg:=hid h.rng
  clear h hB0 htp hans hz hh f1 f2 fo hm hm0 hKL hlen hkn hS' g1 g2 g3 g2' e1
  go_enter Tryz.func106,Tryz.ntmps106
  go_upto_region 2 with fail
  rw [←hw0]
  clear hw0
  go_upto_region 5 with (first
   | (go_at_call 155;refine HH.out.mono ?_;rintro e w2 ⟨rfl,hb2⟩;have HB2:=hid (bc HB0.out hb2);have z0:=(HT.out.later hb2).c0;have z1:=(HT.out.later hb2).c1;have z2:=(HT.out.later hb2).c2;clear hb2))
  have HT2:=hid (Tp.mk z0 z1 z2)
  clear z0 z1 z2 HT
  go_region_held3 (fun U=>U.cell? ⟨w.heap.size+1,0,none⟩=some (.pointer (some ⟨H.A.g,0,none⟩))∧U.cell? ⟨w.heap.size+1,1,none⟩=some (.pointer (some ⟨H.qg,0,none⟩))∧U.cell? ⟨w.heap.size+1,2,none⟩=some (.pointer (some ⟨H.z.s,0,none⟩))) (first|exact HT4.out|exact HT3.out|exact⟨HT2.out.later (Below.refl _ _).drew |>.c0,HT2.out.later (Below.refl _ _).drew |>.c1,HT2.out.later (Below.refl _ _).drew |>.c2⟩|exact⟨HT2.out.c0,HT2.out.c1,HT2.out.c2⟩) (first
   | (go_at_call 156;refine (HFl.out w3 HB3.out).mono ?_;rintro e w4 ⟨a,c,rfl,hO4,hd4,hb4⟩;have HT4:=hid (And.intro (cb_ hb4 HT3.out.1 (fun (e:N (w.heap.size+1))=>by have:=HRg.out _ e;omega)) (And.intro (cb_ hb4 HT3.out.2.1 (fun (e:N (w.heap.size+1))=>by have:=HRg.out _ e;omega)) (cb_ hb4 HT3.out.2.2 (fun (e:N (w.heap.size+1))=>by have:=HRg.out _ e;omega))));have HR:=hid (And.intro (hO4.mono HB3.out.size) (And.intro hd4 ((But.of (S:=N) HB3.out).trans hb4)));clear hO4 hd4 hb4)
   | (go_at_call 157;refine (HRt.out _ (bc HB2.out (Below.refl _ _).drew)).mono ?_;rintro e w3 ⟨rfl,hb3⟩;have HB3:=hid (bc (bc HB2.out (Below.refl _ _).drew) hb3);have HT3:=hid (And.intro ((HT2.out.later (Below.refl _ _).drew).later hb3).c0 (And.intro ((HT2.out.later (Below.refl _ _).drew).later hb3).c1 ((HT2.out.later (Below.refl _ _).drew).later hb3).c2));clear hb3))
  go_wp2
  exact bodyPost_ret (v:=.tuple #[.slice a kn c,.int .i64 0]) (by simp [results,Tryz.results106,go_sem]) rfl ⟨a,c,rfl,HR.out⟩
 ·rw [if_neg hz]
  obtain⟨E,hE⟩:∃E,E=(holdR s (o,hi,lo) 16).2:=⟨_,rfl⟩
  obtain⟨m,hm⟩:∃m,m=(holdR s (o,hi,lo) 16).1:=⟨_,rfl⟩
  rw [←hE,←hm] at HH
  rw [←hE]
  rw [←hE] at hz
  have hz2:(E != 0)=true:=by simp [hz]
  unfold Took
  clear h hB0 htp hans hE hm
  go_enter Tryz.func106,Tryz.ntmps106
  go_upto_region 2 with fail
  rw [←hw0]
  clear hw0
  go_wp2_with (first
   | (go_at_call 155;refine HH.out.mono ?_;rintro e w2 ⟨rfl,hb2⟩;have HB2:=hid (bc HB0.out hb2);clear hb2))
  exact bodyPost_ret (v:=.tuple #[.slice none 0 0,.int .i64 E]) (by simp [results,Tryz.results106,go_sem]) rfl ⟨none,0,rfl,Ow.nil _ _ _ _,HD.out.later HB2.out,But.of HB2.out⟩
section
variable {w w':World}{H:Hd}{s s':Sta}{d d':Nat→List K.Pu}{O:Nat→Nat→Prop}{N:Nat→Prop}{c:R.Cl}{dd gg:R.Sl}{b:Nat}
theorem dropped_any (h:Duo w H s d N)(x:Int)(ht:x≠0→L.Tr s.X s.l d):Calls Tryz.prog 107 #[.pointer (some ⟨H.kb,0,none⟩),.int .i64 x] w fun e w'=>e=.returned (rpV (rep x) none 0 0)∧∃T,Duo w' H s T N∧L.Tr s.X s.l T∧But N w w':=by
 by_cases hx:x=0
 ·subst hx
  exact dropped_ok h
 ·refine (dropped_bad h x hx).mono ?_
  rintro e w' ⟨rfl,hb⟩
  exact⟨rfl,d,h.later hb,ht hx,But.of hb⟩
theorem revA_same {all:Bool}{c:Cp}(h:(revA all s c).code≠0):(revA all s c).s=s:=by
 unfold revA at h ⊢
 split
 ·rfl
 ·rename_i h1
  rw [if_neg h1] at h
  split
  ·rfl
  ·rename_i h2
   rw [if_neg h2] at h
   exact absurd rfl h
theorem destroy_any (h:Duo w H s d N)(ht:L.Tr s.X s.l d)(ho:S.i64ok c.obj)(hw:c.hi<B64∧c.lo<B64) :
  Calls Tryz.prog 60 #[.pointer (some ⟨H.kb,0,none⟩),.agg (R.cC c dd gg).toArray] w fun e w'=>e=.returned (rpV (awayA true s (cpO c)).1 none 0 0)∧∃T,Duo w' H (awayA true s (cpO c)).2 T N∧L.Tr (awayA true s (cpO c)).2.X (awayA true s (cpO c)).2.l T∧But N w w':=by
 obtain⟨W,hW⟩:∃W,W=(w.alloc (Obj.cells (R.cC c dd gg).toArray 45)).alloc z6:=⟨_,rfl⟩
 have hB:Below w.heap.size w W:=by rw [hW];exact below2 _ _ _
 have hX:R.Bx W w.heap.size (R.cC c dd gg):=by rw [hW];exact R.Bx.later (below1 _ _) (R.Bx.new w (R.cC c dd gg) 45)
 have hZ:Zr W (w.heap.size+1):=by rw [hW];have:=Zr.new (w.alloc (Obj.cells (R.cC c dd gg).toArray 45));simpa using this
 have h2:=h.later hB
 have HC:=hid (fun (U:World) (hU:Below W.heap.size W U)=>object_any (h2.later hU) (cpO c) hw ho)
 have HQ:Hid ((revA true s (cpO c)).code≠0→L.Tr (revA true s (cpO c)).s.X (revA true s (cpO c)).s.l d):=fun e=>by rw [revA_same e];exact ht
 unfold awayA
 generalize revA true s (cpO c)=A at *
 unfold cpO at HC
 have HS:Hid (∀U {s d},Duo U H s d N→But N W U→U.cell? ⟨H.kb,11,none⟩=some (.pointer (some ⟨H.z.s,0,none⟩))∧U.cell? ⟨H.kb,12,none⟩=some (.pointer (some ⟨H.A.g,0,none⟩))∧U.cell? ⟨H.kb,13,none⟩=some (.pointer (some ⟨H.qg,0,none⟩))∧U.cell? ⟨w.heap.size,3,none⟩=some (.int .i64 c.obj)∧U.cell? ⟨w.heap.size,4,none⟩=some (.int .u64 (c.hi:Int))∧U.cell? ⟨w.heap.size,5,none⟩=some (.int .u64 (c.lo:Int))):=fun U s d hd hb=>by
  have:=Cb.of (R.Bx.but hb hX (h.new (Nat.le_refl _)))
  exact⟨hd.kb 11 _ rfl,hd.kb 12 _ rfl,hd.kb 13 _ rfl,this.c3,this.c4,this.c5⟩
 have H0:=hid (fun U (hU:But (fun _=>False) W U)=>HS.out U (h2.but hU (fun _ _ h=>h) (fun h=>h)) (hU.mono (fun _ h=>h.elim)))
 have HW:=hid hW
 have HB:=hid hB
 have HX:=hid hX
 have HZ:=hid hZ
 have HD:=hid h2
 have HP:Hid (0<w.heap.size):=by have:=h.b0;unfold Hid;omega
 have HN:=hid (fun k hk=>h.new (k:=k) hk)
 clear h h2 hB hX hZ hW
 go_enter Tryz.func60,Tryz.ntmps60
 go_upto_region 1 with fail
 rw [←HW.out]
 go_region_held3 (fun U=>U.cell? ⟨H.kb,11,none⟩=some (.pointer (some ⟨H.z.s,0,none⟩))∧U.cell? ⟨H.kb,12,none⟩=some (.pointer (some ⟨H.A.g,0,none⟩))∧U.cell? ⟨H.kb,13,none⟩=some (.pointer (some ⟨H.qg,0,none⟩))∧U.cell? ⟨w.heap.size,3,none⟩=some (.int .i64 c.obj)∧U.cell? ⟨w.heap.size,4,none⟩=some (.int .u64 (c.hi:Int))∧U.cell? ⟨w.heap.size,5,none⟩=some (.int .u64 (c.lo:Int))) (first|exact H0.out _ (But.of (Below.refl _ _).drew)|exact HE.out) (first
   | (go_at_call 106;refine (HC.out _ (Below.refl _ _).drew).mono ?_;rintro e w2 ⟨a_,c_,rfl,-,hd_,hb_⟩;have HB2:Hid (But N W w2):=(But.of (S:=N) (Below.refl W.heap.size W).drew).trans hb_;have HE:=hid (HS.out w2 hd_ HB2.out);have HDr:=hid (dropped_any hd_ A.code HQ.out);clear hd_ hb_))
 go_upto_region 2 with fail
 go_upto_region 3 with (first|(go_at_call 107;refine HDr.out.mono ?_;rintro e w3 ⟨rfl,T,hd3,ht3,hb3⟩;have HD3:=hid hd3;have HT3:=hid ht3;have HB3:Hid (But N W w3):=HB2.out.trans hb3;have HZ9:=hid (HZ.out.but HB3.out (HN.out _ (by omega)));have HS9:=hid (HZ9.out.st (rep A.code) none 0 0);have HL9:=hid (HZ9.out.lv (rep A.code) none 0 0);clear hd3 ht3 hb3)|((with_reducible refine st_arm HS9.out ?_ ?_ ?_);(· rfl);(· rfl)))
 have HB9:Hid (But (·=w.heap.size+1) w3 (w3.setCells (w.heap.size+1) 0 (rpL (rep A.code) none 0 0))):=R.sb_ (S:=(·=w.heap.size+1)) rfl _ 0 (But.refl _ _)
 exact bodyPost_ret (v:=rpV (rep A.code) none 0 0) (by simp [results,Tryz.results60,asAddr,HL9.out]) rfl ⟨rfl,T,HD3.out.but HB9.out (fun k hk e=>HN.out k (by omega) hk) (fun e=>by have:0=w.heap.size+1:=e;omega),HT3.out,((But.of HB.out).trans HB3.out).comp HB9.out (fun i e=>.inr (by omega))⟩
theorem revoke_any (h:Duo w H s d N)(ht:L.Tr s.X s.l d)(ho:S.i64ok c.obj)(hw:c.hi<B64∧c.lo<B64) :
  Calls Tryz.prog 62 #[.pointer (some ⟨H.kb,0,none⟩),.agg (R.cC c dd gg).toArray] w fun e w'=>e=.returned (rpV (awayA false s (cpO c)).1 none 0 0)∧∃T,Duo w' H (awayA false s (cpO c)).2 T N∧L.Tr (awayA false s (cpO c)).2.X (awayA false s (cpO c)).2.l T∧But N w w':=by
 obtain⟨W,hW⟩:∃W,W=(w.alloc (Obj.cells (R.cC c dd gg).toArray 45)).alloc z6:=⟨_,rfl⟩
 have hB:Below w.heap.size w W:=by rw [hW];exact below2 _ _ _
 have hX:R.Bx W w.heap.size (R.cC c dd gg):=by rw [hW];exact R.Bx.later (below1 _ _) (R.Bx.new w (R.cC c dd gg) 45)
 have hZ:Zr W (w.heap.size+1):=by rw [hW];have:=Zr.new (w.alloc (Obj.cells (R.cC c dd gg).toArray 45));simpa using this
 have h2:=h.later hB
 have HC:=hid (fun (U:World) (hU:Below W.heap.size W U)=>token_any (h2.later hU) (cpO c) hw ho)
 have HQ:Hid ((revA false s (cpO c)).code≠0→L.Tr (revA false s (cpO c)).s.X (revA false s (cpO c)).s.l d):=fun e=>by rw [revA_same e];exact ht
 unfold awayA
 generalize revA false s (cpO c)=A at *
 unfold cpO at HC
 have HS:Hid (∀U {s d},Duo U H s d N→But N W U→U.cell? ⟨H.kb,11,none⟩=some (.pointer (some ⟨H.z.s,0,none⟩))∧U.cell? ⟨H.kb,12,none⟩=some (.pointer (some ⟨H.A.g,0,none⟩))∧U.cell? ⟨H.kb,13,none⟩=some (.pointer (some ⟨H.qg,0,none⟩))∧U.cell? ⟨w.heap.size,3,none⟩=some (.int .i64 c.obj)∧U.cell? ⟨w.heap.size,4,none⟩=some (.int .u64 (c.hi:Int))∧U.cell? ⟨w.heap.size,5,none⟩=some (.int .u64 (c.lo:Int))):=fun U s d hd hb=>by
  have:=Cb.of (R.Bx.but hb hX (h.new (Nat.le_refl _)))
  exact⟨hd.kb 11 _ rfl,hd.kb 12 _ rfl,hd.kb 13 _ rfl,this.c3,this.c4,this.c5⟩
 have H0:=hid (fun U (hU:But (fun _=>False) W U)=>HS.out U (h2.but hU (fun _ _ h=>h) (fun h=>h)) (hU.mono (fun _ h=>h.elim)))
 have HW:=hid hW
 have HB:=hid hB
 have HX:=hid hX
 have HZ:=hid hZ
 have HD:=hid h2
 have HP:Hid (0<w.heap.size):=by have:=h.b0;unfold Hid;omega
 have HN:=hid (fun k hk=>h.new (k:=k) hk)
 clear h h2 hB hX hZ hW
 go_enter Tryz.func62,Tryz.ntmps62
 go_upto_region 1 with fail
 rw [←HW.out]
 go_region_held3 (fun U=>U.cell? ⟨H.kb,11,none⟩=some (.pointer (some ⟨H.z.s,0,none⟩))∧U.cell? ⟨H.kb,12,none⟩=some (.pointer (some ⟨H.A.g,0,none⟩))∧U.cell? ⟨H.kb,13,none⟩=some (.pointer (some ⟨H.qg,0,none⟩))∧U.cell? ⟨w.heap.size,3,none⟩=some (.int .i64 c.obj)∧U.cell? ⟨w.heap.size,4,none⟩=some (.int .u64 (c.hi:Int))∧U.cell? ⟨w.heap.size,5,none⟩=some (.int .u64 (c.lo:Int))) (first|exact H0.out _ (But.of (Below.refl _ _).drew)|exact HE.out) (first
   | (go_at_call 109;refine (HC.out _ (Below.refl _ _).drew).mono ?_;rintro e w2 ⟨a_,c_,rfl,-,hd_,hb_⟩;have HB2:Hid (But N W w2):=(But.of (S:=N) (Below.refl W.heap.size W).drew).trans hb_;have HE:=hid (HS.out w2 hd_ HB2.out);have HDr:=hid (dropped_any hd_ A.code HQ.out);clear hd_ hb_))
 go_upto_region 2 with fail
 go_upto_region 3 with (first|(go_at_call 107;refine HDr.out.mono ?_;rintro e w3 ⟨rfl,T,hd3,ht3,hb3⟩;have HD3:=hid hd3;have HT3:=hid ht3;have HB3:Hid (But N W w3):=HB2.out.trans hb3;have HZ9:=hid (HZ.out.but HB3.out (HN.out _ (by omega)));have HS9:=hid (HZ9.out.st (rep A.code) none 0 0);have HL9:=hid (HZ9.out.lv (rep A.code) none 0 0);clear hd3 ht3 hb3)|((with_reducible refine st_arm HS9.out ?_ ?_ ?_);(· rfl);(· rfl)))
 have HB9:Hid (But (·=w.heap.size+1) w3 (w3.setCells (w.heap.size+1) 0 (rpL (rep A.code) none 0 0))):=R.sb_ (S:=(·=w.heap.size+1)) rfl _ 0 (But.refl _ _)
 exact bodyPost_ret (v:=rpV (rep A.code) none 0 0) (by simp [results,Tryz.results62,asAddr,HL9.out]) rfl ⟨rfl,T,HD3.out.but HB9.out (fun k hk e=>HN.out k (by omega) hk) (fun e=>by have:0=w.heap.size+1:=e;omega),HT3.out,((But.of HB.out).trans HB3.out).comp HB9.out (fun i e=>.inr (by omega))⟩
end
end Go.Proofs.YtfmhdimaijimlaaGreatDoor.V
