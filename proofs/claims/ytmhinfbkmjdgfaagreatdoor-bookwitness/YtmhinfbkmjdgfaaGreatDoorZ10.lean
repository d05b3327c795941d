import Derived.Stop.BytesEq
import Derived.Lib.SliceRun
import Derived.Test.YtmhinfbkmjdgfaaGreatDoorZ09
set_option linter.unusedVariables false
set_option linter.unusedSimpArgs false
set_option maxRecDepth 100000
set_option maxHeartbeats 2000000
namespace Go.Proofs.YtmhinfbkmjdgfaaGreatDoor.M
open Go.RowKit
variable {w w':World}{base g:Nat}{m:Int}{pa:Option Addr}{cap:Nat}{K:List Cp}
theorem AB (h:Dm w base g m pa cap K)(c:Cp)(hf:m<=(K.length:Int)) :
  Calls Tryz.prog 210 #[aq g,.agg #[ab c.1,ai (c.2.1:Int),ai (c.2.2:Int)]] w λe w'=>e=.returned (ab 14)/\Below w.heap.size w w':=by
 have hd:decide ((K.length:Int)>=m)=true:=by simp;omega
 have h1:=h.later (ag w (Obj.cells #[ab c.1,ai (c.2.1:Int),ai (c.2.2:Int)] 37))
 have x0:=h1.c0
 have x1:=h1.c1.1
 have HB:=ae (ag w (Obj.cells #[ab c.1,ai (c.2.1:Int),ai (c.2.2:Int)] 37))
 clear h h1 hf;go_enter Tryz.func210,Tryz.ntmps210
 go_upto_region 1 with fail
 go_quiet (fail)
 go_wp2;go_ret;exact⟨rfl,below_drewN HB.out _⟩
theorem rl (h:Dm w base g m pa cap K)(c:Cp)(hf:(K.length:Int)<m)(hm:m<=32) :
  Calls Tryz.prog 210 #[aq g,.agg #[ab c.1,ai (c.2.1:Int),ai (c.2.2:Int)]] w λe w'=>∃pa' cap',e=.returned (ab 0)/\Dm w' base g m pa' cap' (K++[c])/\Wr w w' g pa pa':=by
 have hd:decide ((K.length:Int)>=m)=false:=by simp;omega
 have hL:K.length<=32:=by omega
 have h1:=h.later (ag w (Obj.cells #[ab c.1,ai (c.2.1:Int),ai (c.2.2:Int)] 37))
 have HH:=ae h1
 have x0:=h1.c0
 have x1:=h1.c1.1
 have OI:=ae (ag w (Obj.cells #[ab c.1,ai (c.2.1:Int),ai (c.2.2:Int)] 37))
 have HX:Hid (AA (w.alloc (Obj.cells #[ab c.1,ai (c.2.1:Int),ai (c.2.2:Int)] 37)) w.heap.size 0 c):=⟨by simp [go_sem],by simp [go_sem],by simp [go_sem]⟩
 have WJ:Hid (∀j,aI pa j->j<w.heap.size):=λj hj=>(h.own.dB j hj).2
 have WC:=ae h.lt
 clear h h1 hf;go_enter Tryz.func210,Tryz.ntmps210
 go_upto_region 1 with fail
 go_quiet (fail)
 go_upto_region 3 with fail
 have OJ:=ae (below_drewN OI.out nq)
 have Pw:=ae (HX.out.later (below_drewN (Below.refl _ _) nq))
 have UT:=ae (HH.out.later (below_drewN (Below.refl _ _) nq))
 obtain⟨cb,hcb⟩:∃cb,cb=w.heap.size:=⟨_,rfl⟩
 rw [<-hcb] at Pw WJ WC ⊢
 generalize (w.alloc (Obj.cells #[ab c.1,ai (c.2.1:Int),ai (c.2.2:Int)] 37)).drewN nq=w3 at *
 clear x0 x1 HX HH OI;have x1:w3.drew.cell? ⟨g,1,none⟩=some (.slice pa K.length cap):=UT.out.c1.1
 have hbA:=ag w3 (Obj.cells #[ab c.1,ai (c.2.1:Int),ai (c.2.2:Int)] 37)
 have hBU:Below w3.heap.size w3 (w3.alloc (Obj.cells #[ab c.1,ai (c.2.1:Int),ai (c.2.2:Int)] 37)).drew:=hbA.drew
 have x2:(w3.alloc (Obj.cells #[ab c.1,ai (c.2.1:Int),ai (c.2.2:Int)] 37)).drew.cell? ⟨g,1,none⟩=some (.slice pa K.length cap):=(UT.out.later hbA).c1.1
 have Py:=ae (show (w3.drew.cell? ⟨cb,0,none⟩=some (ab c.1)/\w3.drew.cell? ⟨cb,1,none⟩=some (ai (c.2.1:Int))/\w3.drew.cell? ⟨cb,2,none⟩=some (ai (c.2.2:Int))) from ⟨Pw.out.c0,Pw.out.c1,Pw.out.c2⟩)
 have BXU:=Pw.out.later hBU
 have O2:=ae (And.intro BXU.c0 (And.intro BXU.c1 BXU.c2))
 have hDU:=UT.out.later hBU
 have hcr:Cr (w3.alloc (Obj.cells #[ab c.1,ai (c.2.1:Int),ai (c.2.2:Int)] 37)).drew 3 (some ⟨w3.heap.size,0,none⟩) 1 1 (dP c):=by have h9:=Cr.lit w3 37 (dP c) (p7 c);exact⟨h9.len,h9.none_,h9.cells,h9.one⟩
 obtain⟨a',cap',w4,hrun,hO4,hG4⟩:=An 74 37 _ 3 24 Tryz.underlying74 sZ rfl (by decide) (by decide) hDU.own hcr hDU.hb (by omega)
 have hnb:¬aI pa cb:=λe=>by have:=WJ.out _ e;omega
 have BXA:=BXU.but hG4.but hnb
 have PQ:=ae (And.intro BXA.c0 (And.intro BXA.c1 BXA.c2))
 have hwg:cb≠g:=by have:=WC.out;omega
 have BXB:=BXA.but (S:=(·=g)) ((aj.refl (·=g) _).setCell (p:=⟨g,1,none⟩) (show g=g from rfl) (.slice a' (K.length+1) cap')) hwg
 have TK:=ae (And.intro BXB.c0 (And.intro BXB.c1 BXB.c2))
 have hgn:¬aI pa g:=λe=>hDU.ap g e rfl
 have hL4:=hDU.c1.but hG4.but hgn
 have y1:=hL4.1
 have y2:=hL4.2
 have hfin:Dm (w4.setCell ⟨g,1,none⟩ (.slice a' (K.length+1) cap')) base g m a' cap' (K++[c])/\Wr w (w4.setCell ⟨g,1,none⟩ (.slice a' (K.length+1) cap')) g pa a':=by
  have hlen:(K++[c]).length=K.length+1:=by simp
  have hO5:Ow w4 base 37 3 a' (K++[c]).length cap' (br (K++[c])):=by rw [hlen,vE];exact hO4
  obtain⟨p1,p2⟩:=hDU.put hG4 hO5
  rw [hlen] at p1 p2;exact⟨p1,Wr.pre (aa OJ.out hBU) p2⟩
 have P9:=ae hfin
 have ON:=ae hrun
 clear hbA hBU BXU hrun hO4 hG4 BXA BXB hL4 Pw hDU hcr hfin hnb hwg hgn hcb;refine wp_region_held_drew (S:=(λU:World=>U.cell? ⟨cb,0,none⟩=some (ab c.1)/\U.cell? ⟨cb,1,none⟩=some (ai (c.2.1:Int))/\U.cell? ⟨cb,2,none⟩=some (ai (c.2.2:Int)))) (by kernel_rfl) (Py.out) (λhHeld=>?_)
 refine nm 11 0 11 ?_
 refine tn 0 11 1 10 ?_
 simp only [zz];refine tn 1 11 3 9 ?_
 simp only [zz];refine tn 2 11 7 8 ?_
 simp only [zz];refine tn 3 11 15 7 ?_
 simp only [zz];refine tn 5 11 47 6 ?_
 simp only [zz];refine wpAnyH_ready (rs:=[4,6]) (by kernel_rfl) (by simp) ?_
 refine AllReadyH.cons rfl (λK hK=>?_) (AllReadyH.cons rfl (λK hK=>?_) AllReadyH.nil)
 ·go_simp
  refine zk hK 11 63 5 (Py.out) λhHeld=>?_
  clear hK K;try simp only [zz]
  refine zr 6 λK hK=>?_
  go_simp
  refine zk hK 11 127 4 (O2.out) λhHeld=>?_
  clear hK K;try simp only [zz]
  refine zr 7 λK hK=>?_
  refine bE (.tmp 19) (.tmp 21) 74 rfl _ _ rfl rfl _ w4 ON.out ?_
  refine zk hK 11 255 3 (PQ.out) λhHeld=>?_
  clear hK K;try simp only [zz]
  refine tn 8 11 511 2 ?_
  simp only [zz];refine tn 9 11 1023 1 ?_
  simp only [zz];refine zr 10 λK hK=>?_
  go_simp
  refine zk hK 11 2047 0 (TK.out) λhHeld=>?_
  clear hK K;try simp only [zz]
  refine zn ?_ _
  go_wp2;go_ret;exact⟨a',cap',rfl,P9.out.1,P9.out.2⟩
 ·go_simp
  refine zk hK 11 111 5 (O2.out) λhHeld=>?_
  clear hK K;try simp only [zz]
  refine zr 4 λK hK=>?_
  go_simp
  refine zk hK 11 127 4 (O2.out) λhHeld=>?_
  clear hK K;try simp only [zz]
  refine zr 7 λK hK=>?_
  refine bE (.tmp 19) (.tmp 21) 74 rfl _ _ rfl rfl _ w4 ON.out ?_
  refine zk hK 11 255 3 (PQ.out) λhHeld=>?_
  clear hK K;try simp only [zz]
  refine tn 8 11 511 2 ?_
  simp only [zz];refine tn 9 11 1023 1 ?_
  simp only [zz];refine zr 10 λK hK=>?_
  go_simp
  refine zk hK 11 2047 0 (TK.out) λhHeld=>?_
  clear hK K;try simp only [zz]
  refine zn ?_ _
  go_wp2;go_ret;exact⟨a',cap',rfl,P9.out.1,P9.out.2⟩
end Go.Proofs.YtmhinfbkmjdgfaaGreatDoor.M
namespace Go.Proofs.YtmhinfbkmjdgfaaGreatDoor.M
open Go.RowKit
variable {w w':World}{base g:Nat}{m:Int}{pa:Option Addr}{cap:Nat}{K:List Cp}
structure Bz (w:World)(b:Nat):Prop where
 c0:aM w ⟨b,0,none⟩ (ab 0)
 c1:aM w ⟨b,1,none⟩ (ai 0)
 c2:aM w ⟨b,2,none⟩ (ai 0)
theorem _root_.Go.Proofs.YtmhinfbkmjdgfaaGreatDoor.AA.set {b:Nat}(h:Bz w b)(c:Cp):AA (GF w b 0 c) b 0 c:=by
 unfold GF;have h1:=h.c0.put (u:=ab c.1)
 have h2:=(h.c1.other (q:=⟨b,0,none⟩) (u:=ab c.1) (by simp)).put (u:=ai (c.2.1:Int))
 have h3:=((h.c2.other (q:=⟨b,0,none⟩) (u:=ab c.1) (by simp)).other (q:=⟨b,1,none⟩) (u:=ai (c.2.1:Int)) (by simp)).put (u:=ai (c.2.2:Int))
 exact⟨((h1.other (by simp)).other (by simp)).1,(h2.other (by simp)).1,h3.1⟩
end Go.Proofs.YtmhinfbkmjdgfaaGreatDoor.M
namespace Go.Proofs.YtmhinfbkmjdgfaaGreatDoor.M
open Go.RowKit
variable {w w':World}{base g:Nat}{m:Int}{pa:Option Addr}{cap:Nat}{K:List Cp}
theorem tx {e:TypeId}{gg n:Nat}(h:Ow w base e 3 (some ⟨gg,0,none⟩) n cap (br K))(i:Nat)(j:Nat)(v:Value)(hv:(br (K.drop i))[j]?=some v):w.cell? ((⟨gg,i*3,none⟩:Addr).add j)=some v:=by
 rw [bq];refine h.rv gg rfl _ v ?_
 rw [<-jq,List.getElem?_drop] at hv;exact hv
end Go.Proofs.YtmhinfbkmjdgfaaGreatDoor.M
namespace Go.Proofs.YtmhinfbkmjdgfaaGreatDoor.M
open Go.RowKit
variable {w w':World}{base g:Nat}{m:Int}{pa:Option Addr}{cap:Nat}{K:List Cp}
theorem yP (h:Dm w base g m pa cap K)(f:Nat)(hf:f<=K.length)(hL:K.length<=32) :
  Calls Tryz.prog 243 #[aq g,ab (f:Int),ab 0] w λe w'=>e=.returned (.slice pa 0 0)/\w'=w:=by
 have c1:=h.c1.1
 have hc:=h.GW
 have h1:(f:Int)<=(cap:Int):=by omega
 have hwr:IntKind.i64.wrap (f:Int)=(f:Int):=by rw [IntKind.wrap_i64];omega
 clear h;go_enter Tryz.func243,Tryz.ntmps243
 go_wp2;go_ret;exact⟨rfl,rfl⟩
theorem rK {gg:Nat}(h:Dm w base g m (some ⟨gg,0,none⟩) cap K)(f n:Nat)(hf:f+n<=K.length)(hn:0<n)(hL:K.length<=32) :
  Calls Tryz.prog 243 #[aq g,ab (f:Int),ab (n:Int)] w λe w'=>e=.returned (.slice (some ⟨gg,f*3,none⟩) n n)/\w'=w:=by
 have c1:=h.c1.1
 have hc:=h.GW
 have h1:(f:Int)+(n:Int)<=(cap:Int):=by omega
 have h2:¬n=0:=by omega
 have hwr:IntKind.i64.wrap ((f:Int)+(n:Int))=(f:Int)+(n:Int):=by rw [IntKind.wrap_i64];omega
 clear h;go_enter Tryz.func243,Tryz.ntmps243
 go_wp2;go_ret;refine⟨?_,rfl⟩
 show Ending.returned (Value.slice (some ⟨gg,f*3,none⟩) (f+n - f) (f+n - f))=_
 rw [Nat.add_sub_cancel_left]
theorem all_copy {b gg n:Nat}{M:List Cp}(h:Ow w base 37 3 (some ⟨gg,0,none⟩) n cap (br K))(hl:K.length=n)(ho:Ow w b 37 3 (some ⟨b,0,none⟩) n n (br M))(hm:M.length=n) :
  ∃w',(Builtin.copy_ #[74,74] 3 #[.slice (some ⟨b,0,none⟩) n n,.slice (some ⟨gg,0,none⟩) n n]).run Tryz.prog w=.ok (ab (n:Int)) w'/\aj (·=b) w w'/\Ow w' b 37 3 (some ⟨b,0,none⟩) n n (br K):=by
 have hmin:Nat.min n n=n:=Nat.min_self n
 have hcl:(br K).length=n*3:=by rw [cS,hl]
 have hrun:=kW (P:=Tryz.prog) w 74 74 3 37 3 b 0 n n ⟨gg,0,none⟩ n n (br K) Tryz.underlying74 sX (by rw [hcl,hmin]) (λj v hv=>by rw [aY];exact h.rv gg rfl j v hv) (λj hj=>ho.some_ (by omega)) (λj _=>ho.fr _) (ji _)
 rw [hmin] at hrun;refine⟨_,hrun,aj.setCells (S:=(·=b)) (b:=b) (by rfl) _ _ (aj.refl _ _),?_⟩
 have:=Ow.setCells (br K) (0*3) w _ ho
 rw [nc _ _ _ (by omega)] at this;have hd:M.drop K.length=[]:=List.drop_eq_nil_of_le (by omega)
 simpa [hd] using this
theorem oy (h:Dm w base g m pa cap K)(hL:K.length<=32) :
  Calls Tryz.prog 149 #[aq g] w λe w'=>∃p c,e=.returned (.slice p K.length c)/\Ow w' w.heap.size 37 3 p K.length c (br K)/\Below w.heap.size w w':=by
 obtain⟨w1,hmk,hO1,hB1⟩:=nw w K.length (by omega)
 have h1:=h.later hB1
 have c0:=h.c1.1
 have c1:=h1.c1.1
 obtain⟨b,hb⟩:∃b,b=w.heap.size:=⟨_,rfl⟩
 rw [<-hb] at hmk hO1;have SX:=ae hb
 by_cases h0:K.length=0
 ·have hK:K=[]:=List.eq_nil_of_length_eq_zero h0
  subst hK;simp only [List.length_nil,Int.cast_ofNat_Int] at *
  have hcu:=ae (yP h1 0 (Nat.le_refl _) (by simp))
  have hrun:=(lx (P:=Tryz.prog) w1 74 74 3 37 3 (some ⟨b,0,none⟩) pa 0 0 0 0 Tryz.underlying74 sX (by simp))
  have Ps:=ae hO1
  have OI:=ae hB1
  clear h h1 hO1 hB1 hb;go_enter Tryz.func149,Tryz.ntmps149
  go_wp2_with (first
   | (go_at_call 243;refine hcu.out.mono ?_;rintro e w9 ⟨rfl,hw9⟩;obtain rfl:=hw9.symm;clear hw9))
  go_ret;exact⟨_,_,rfl,by rw [<-SX.out];simpa using Ps.out,OI.out⟩
 ·obtain⟨gg,rfl⟩:∃gg,pa=some ⟨gg,0,none⟩:=by
   rcases h.own.form with ⟨_,h1,_⟩|⟨gg,h1,_⟩
   ·omega
   ·exact⟨gg,h1⟩
  have hcu:Hid (Calls Tryz.prog 243 #[aq g,ab 0,ab (K.length:Int)] w1 λe w'=>e=.returned (.slice (some ⟨gg,0,none⟩) K.length K.length)/\w'=w1):=by
   have:=rK h1 0 K.length (by omega) (by omega) hL
   rw [Nat.zero_mul] at this;exact this
  obtain⟨w2,hrun,hb2,hO2⟩:=all_copy (b:=b) h1.own rfl hO1 (by simp)
  have O0:=ae hO2
  have OH:=ae (aj.below hB1 hb2 (λk e=>by omega))
  clear h h1 hO1 hB1 hb hb2 hO2;go_enter Tryz.func149,Tryz.ntmps149
  go_wp2_with (first
   | (go_at_call 243;refine hcu.out.mono ?_;rintro e w9 ⟨rfl,hw9⟩;obtain rfl:=hw9.symm;clear hw9))
  go_ret;exact⟨_,_,rfl,by rw [<-SX.out];exact O0.out,OH.out⟩
end Go.Proofs.YtmhinfbkmjdgfaaGreatDoor.M
namespace Go.Proofs.YtmhinfbkmjdgfaaGreatDoor.M
open Go.RowKit
variable {w w':World}{base g:Nat}{m:Int}{pa:Option Addr}{cap:Nat}{K:List Cp}
variable {x:Int}{P:List Int}{j:Nat}
def DX (K:List Cp)(i:Int):Cp:=(K[i.toNat]?).getD (0,0,0)
def bX (m:Int)(K:List Cp)(P:List Int):Int:=if P.all (kT K)=true then (if m<(P.length:Int) then 14 else 0) else 15
def cL (m:Int)(K:List Cp)(P:List Int):List Cp:=if bX m K P=0 then P.map (DX K) else []
theorem rN (h:P.all (kT K)=false):bX m K P=15/\cL m K P=[]:=by
 have h1:bX m K P=15:=by unfold bX;rw [if_neg (by rw [h];decide)]
 exact⟨h1,by unfold cL;rw [h1,if_neg (by decide)]⟩
theorem vI (h:P.all (kT K)=true)(hm:m<(P.length:Int)):bX m K P=14/\cL m K P=[]:=by
 have h1:bX m K P=14:=by unfold bX;rw [if_pos h,if_pos hm]
 exact⟨h1,by unfold cL;rw [h1,if_neg (by decide)]⟩
theorem uZ (h:P.all (kT K)=true)(hm:¬m<(P.length:Int)):bX m K P=0/\cL m K P=P.map (DX K):=by
 have h1:bX m K P=0:=by unfold bX;rw [if_pos h,if_neg hm]
 exact⟨h1,by unfold cL;rw [h1,if_pos rfl]⟩
theorem all_false (hx:P[j]?=some x)(hb:kT K x=false):P.all (kT K)=false:=by
 rw [List.all_eq_false];exact⟨x,List.mem_of_getElem? hx,by rw [hb];decide⟩
theorem all_true (h:∀k,k<P.length->∀x,P[k]?=some x->kT K x=true):P.all (kT K)=true:=by
 rw [List.all_eq_true];intro x hx;obtain⟨k,hk⟩:=List.getElem?_of_mem hx
 exact h k (List.getElem?_eq_some_iff.1 hk).1 x hk
theorem zy (h:kT K x=true):∃k:Nat,x=(k:Int)/\k<K.length/\K[k]?=some (DX K x):=by
 obtain⟨h1,h2⟩:=um.1 h
 refine⟨x.toNat,by omega,by omega,?_⟩
 unfold DX;rw [List.getElem?_eq_getElem (show x.toNat<K.length by omega)];rfl
theorem vV {b gg n nK x:Nat}{M:List Cp}{c:Cp}(h:Ow w base 37 3 (some ⟨gg,0,none⟩) nK cap (br K))(hc:K[x]?=some c)(ho:Ow w b 37 3 (some ⟨b,0,none⟩) n n (br M))(hm:M.length=n)(hj:j<n) :
  ∃w',(Builtin.copy_ #[74,74] 3 #[.slice (some ⟨b,j*3,none⟩) (n - j) (n - j),.slice (some ⟨gg,x*3,none⟩) 1 1]).run Tryz.prog w=.ok (ab 1) w'/\aj (·=b) w w'/\Ow w' b 37 3 (some ⟨b,0,none⟩) n n (br (M.set j c)):=by
 have hmin:Nat.min 1 (n - j)=1:=Nat.min_eq_left (by omega)
 have hcl:(br [c]).length=3:=by rw [cS];rfl
 have hrun:=kW (P:=Tryz.prog) w 74 74 3 37 3 b (j*3) (n - j) (n - j) ⟨gg,x*3,none⟩ 1 1 (br [c]) Tryz.underlying74 sX (by rw [hcl,hmin]) (λi v hv=>by
  refine tx h x i v ?_
  have e:K.drop x=[c]++K.drop (x+1):=by
   obtain⟨h1,h2⟩:=List.getElem?_eq_some_iff.1 hc
   rw [List.drop_eq_getElem_cons h1,h2];rfl
  rw [e,gy,List.getElem?_append_left (List.getElem?_eq_some_iff.1 hv).1];exact hv) (λi hi=>ho.some_ (by omega)) (λi _=>ho.fr _) (ji _)
 rw [hmin] at hrun;refine⟨_,hrun,aj.setCells (S:=(·=b)) (b:=b) (by rfl) _ _ (aj.refl _ _),?_⟩
 have:=Ow.setCells (br [c]) (j*3) w _ ho
 rw [nc _ _ _ (by simp;omega)] at this;rw [List.set_eq_take_append_cons_drop,if_pos (by omega)];simpa using this
def Hw (w:World)(K:List Cp)(P:List Int)(t:Value)(w':World):Prop :=
 ∃j:Nat,j<=P.length/\t=ab (j:Int)/\(∀k,k<j->∀x,P[k]?=some x->kT K x=true)/\w=w'
def DK (w:World)(b:Nat)(K:List Cp)(P:List Int)(t:Value)(w':World):Prop :=
 ∃(j:Nat) (M:List Cp),j<=P.length/\t=ab (j:Int)/\M.length=P.length/\(∀k,k<j->∀x,P[k]?=some x->M[k]?=some (DX K x))/\Ow w' b 37 3 (some ⟨b,0,none⟩) P.length P.length (br M)/\Below w.heap.size w w'
theorem lj {a:Option Addr}{np cp:Nat}(h:Dm w base g m pa cap K)(hP:Row w a np cp (ints P))(hn:np<=9223372036854775807)(hL:K.length<=32)(hm:m<=32) :
  Calls Tryz.prog 234 #[aq g,.slice a np cp] w λe w'=>∃p c,e=.returned (.tuple #[.slice p (cL m K P).length c,ab (bX m K P)])/\Ow w' w.heap.size 37 3 p (cL m K P).length c (br (cL m K P))/\Below w.heap.size w w':=by
 have hl:P.length=np:=by have:=hP.len;rwa [eN] at this
 subst hl;have HH:=ae h
 have HP:=ae hP
 have c0:=h.c0
 have hha:=ae (λi=>cI h i)
 clear h hP;obtain⟨E,hE⟩:∃E,E=bX m K P:=⟨_,rfl⟩
 obtain⟨L,hLL⟩:∃L,L=cL m K P:=⟨_,rfl⟩
 rw [<-hE,<-hLL];have HE:=ae hE
 have Sn:=ae hLL
 clear hE hLL;go_enter Tryz.func234,Tryz.ntmps234
 go_wp2;go_loopw [13] (Hw w K P) (λt _=>P.length - (intOf t).toNat)
 case atStart=>exact⟨0,Nat.zero_le _,rfl,λk hk=>absurd hk (Nat.not_lt_zero _),rfl⟩
 case round =>
  obtain⟨j,hj,rfl,hok,rfl⟩:=hrel
  have Wq:=ae hok
  clear hok;by_cases hlt:j<P.length
  ·have hd:decide ((j:Int)<(P.length:Int))=true:=decide_eq_true (by omega)
   obtain⟨b1,o1,rfl,h1⟩:=HP.out.plain (by omega)
   have y1:=h1 j _ (mx P j hlt)
   obtain⟨x,hx⟩:∃x,x=P[j]:=⟨_,rfl⟩
   rw [<-hx] at y1;have HX:Hid (P[j]?=some x):=by rw [hx];exact List.getElem?_eq_getElem hlt
   clear h1 hx;by_cases hb:kT K x=true
   ·have hhx:=ae (hha.out x)
    rw [hb] at hhx;go_wp2_with (first|(go_at_call 306;refine hhx.out.mono ?_;rintro e w9 ⟨rfl,hw9⟩;obtain rfl:=hw9.symm;clear hw9))
    go_roundw
    case rel =>
     refine⟨j+1,by omega,by go_num,λk hk y hy=>?_,rfl⟩
     rcases Nat.lt_or_ge k j with h3|h3
     ·exact Wq.out k h3 y hy
     ·obtain rfl:k=j:=by omega
      rw [HX.out] at hy;cases hy
      exact hb
    case measure=>simp [intOf];omega
   ·have hb2:kT K x=false:=by simpa using hb
    have hhx:=ae (hha.out x)
    rw [hb2] at hhx;obtain⟨e1,e2⟩:=rN (m:=m) (all_false HX.out hb2)
    rw [<-HE.out] at e1;rw [<-Sn.out] at e2;subst e1 e2
    go_wp2_with (first|(go_at_call 306;refine hhx.out.mono ?_;rintro e w9 ⟨rfl,hw9⟩;obtain rfl:=hw9.symm;clear hw9))
    exact bodyPost_ret (v:=.tuple #[.slice none 0 0,ab 15]) (by simp [results,Tryz.results234,go_sem]) rfl ⟨none,0,rfl,Ow.nil _ _ _ _,Below.refl _ _⟩
  ·obtain rfl:j=P.length:=by omega
   have hall:=all_true Wq.out
   have hd:decide ((P.length:Int)<(P.length:Int))=false:=by simp
   by_cases hbig:m<(P.length:Int)
   ·obtain⟨e1,e2⟩:=vI hall hbig
    rw [<-HE.out] at e1;rw [<-Sn.out] at e2;subst e1 e2
    have hd2:decide ((P.length:Int)>m)=true:=decide_eq_true hbig
    go_wp2;exact bodyPost_ret (v:=.tuple #[.slice none 0 0,ab 14]) (by simp [results,Tryz.results234,go_sem]) rfl ⟨none,0,rfl,Ow.nil _ _ _ _,Below.refl _ _⟩
   ·obtain⟨e1,e2⟩:=uZ hall hbig
    rw [<-HE.out] at e1;rw [<-Sn.out] at e2;subst e1 e2
    have hd2:decide ((P.length:Int)>m)=false:=decide_eq_false hbig
    obtain⟨w1,hmk,hO1,hB1⟩:=nw w P.length (by omega)
    obtain⟨b,hbb⟩:∃b,b=w.heap.size:=⟨_,rfl⟩
    rw [<-hbb] at hmk hO1;have SX:=ae hbb
    have hPn:P.length<=32:=by omega
    have W8:=ae hall
    have H0:Hid (DK w b K P (ab 0) w1):=⟨0,List.replicate P.length (0,0,0),Nat.zero_le _,rfl,by simp,λk hk=>absurd hk (Nat.not_lt_zero _),hO1,hB1⟩
    clear hO1 hB1 hbb hall;go_upto_region 11 with fail
    go_loopw [34] (DK w b K P) (λt _=>P.length - (intOf t).toNat)
    case atStart=>exact H0.out
    case round =>
     obtain⟨j,M,hj,rfl,hMl,hM,hO,hB⟩:=hrel
     have HO:=ae hO
     have HB:=ae hB
     have HM:=ae hM
     clear hO hB hM H0 hmk;by_cases hlt:j<P.length
     ·have hd:decide ((j:Int)<(P.length:Int))=true:=decide_eq_true (by omega)
      obtain⟨x,hx⟩:∃x,P[j]?=some x:=⟨_,List.getElem?_eq_getElem hlt⟩
      obtain⟨k,rfl,hk,hkc⟩:=zy ((List.all_eq_true.1 W8.out) x (List.mem_of_getElem? hx))
      obtain⟨b1,o1,rfl,h1⟩:=(HP.out.later HB.out).plain (by omega)
      have y1:=h1 j (ab (k:Int)) (by simp only [ints,List.getElem?_map,hx,Option.map_some])
      have hD:=HH.out.later HB.out
      obtain⟨gg,rfl⟩:∃gg,pa=some ⟨gg,0,none⟩:=by
       rcases hD.own.form with ⟨_,h1,_⟩|⟨gg,h1,_⟩
       ·omega
       ·exact⟨gg,h1⟩
      have hcu:Hid (Calls Tryz.prog 243 #[aq g,ab (k:Int),ab 1] wr.drew λe w'=>e=.returned (.slice (some ⟨gg,k*3,none⟩) 1 1)/\w'=wr.drew):=rK (hD.later (Below.refl _ _).drew) k 1 (by omega) (by omega) hL
      obtain⟨w5,hrun,hb5,ho5⟩:=vV (w:=wr.drew) (hD.later (Below.refl _ _).drew).own hkc (HO.out.later (Below.refl _ _).drew) hMl hlt
      have ON:=ae hrun
      have VR:=ae ho5
      have OS:Hid (Below w.heap.size w w5):=aj.below (HB.out.trans (Below.refl _ _).drew) hb5 (λk e=>by have:=SX.out;omega)
      have HX:=ae hx
      have hne:¬P.length=j:=by omega
      clear h1 hD hkc hrun hb5 ho5 hx;go_upto_region 13 with fail
      go_region_held3 (λU=>True) (first|exact trivial) (first
       | (go_at_call 243;refine hcu.out.mono ?_;rintro e w9 ⟨rfl,hw9⟩;obtain rfl:=hw9.symm;clear hw9)
       | (refine mM (.tmp 41) (.tmp 44) 74 rfl _ _ rfl rfl _ w5 ON.out ?_))
      go_wp2;refine⟨⟨j+1,M.set j (DX K (k:Int)),by omega,by go_num,by simp;omega,λi hi y hy=>?_,VR.out,OS.out⟩,by simp [intOf];omega⟩
      rw [List.getElem?_set];rcases Nat.lt_or_ge i j with h3|h3
      ·rw [if_neg (by omega)]
       exact HM.out i h3 y hy
      ·obtain rfl:i=j:=by omega
       rw [HX.out] at hy;cases hy
       rw [if_pos rfl,if_pos (by omega)]
     ·obtain rfl:j=P.length:=by omega
      have hML:M=P.map (DX K):=by
       apply List.ext_getElem?
       intro i;rcases Nat.lt_or_ge i P.length with h3|h3
       ·rw [HM.out i h3 P[i] (List.getElem?_eq_getElem h3),List.getElem?_map,List.getElem?_eq_getElem h3]
        rfl
       ·rw [List.getElem?_eq_none (by omega),List.getElem?_eq_none (by simp;omega)]
      subst hML;have RJ:Hid ((P.map (DX K)).length=P.length):=by simp [Hid]
      go_wp2;refine bodyPost_ret (v:=.tuple #[.slice (some ⟨b,0,none⟩) P.length P.length,ab 0]) (by simp [results,Tryz.results234,go_sem]) rfl ⟨some ⟨b,0,none⟩,P.length,by rw [RJ.out],?_,HB.out⟩
      rw [RJ.out,<-SX.out];exact HO.out
end Go.Proofs.YtmhinfbkmjdgfaaGreatDoor.M
namespace Go.Proofs.YtmhinfbkmjdgfaaGreatDoor.P
open Go.RowKit
theorem below_drewN {w W:World}{n:Nat}(h:Below n w W)(k:Nat):Below n w (W.drewN k):=by
 exact⟨h.os,h.tape,h.output,h.size,h.block⟩
end Go.Proofs.YtmhinfbkmjdgfaaGreatDoor.P
namespace Go.Proofs.YtmhinfbkmjdgfaaGreatDoor.S
open Go.RowKit
variable {b:Bool}{D:List Nat}{L:List Value}{base cap g m n off p pb:Nat}{t:Nat->Bool}{B:Nat->Nat->Nat}{S:Nat->Prop}{a:Option Addr}{e:TypeId}{w w':World}
theorem gX:(Tryz.prog.info? 5).map (λi=>(i.zero,i.size,i.bytes))=some (some (.int .u8 0),1,1):=by kernel_rfl
def aN (l:List Nat):List Value:=l.map λ(n:Nat)=>Value.int .u8 (n:Int)
theorem ao (l:List Nat):(aN l).length=l.length:=by simp [aN]
theorem ey (l m:List Nat):aN (l++m)=aN l++aN m:=by simp [aN]
theorem bJ (l:List Nat):∀u∈aN l,u.oneCell'=true:=by
 intro u hu;simp only [aN,List.mem_map] at hu;obtain⟨n,_,rfl⟩:=hu
 rfl
theorem oT {b:Option Addr}{c:Nat}{M:List Value}(h:Own w base 5 a n cap L)(k:Row w b m c M)(hb:base<=w.heap.size)(hr:n+m<=140737488355328) :
  ∃a' cap' w',(Builtin.append_ #[38,38] 38 #[.slice a n cap,.slice b m c]).run Tryz.prog w=.ok (.slice a' (n+m) cap') w'/\Own w' base 5 a' (n+m) cap' (L++M)/\Gr a a' w w' :=
 lq 38 5 _ 1 Tryz.underlying38 gX rfl h k hb (by omega) hr
structure fo (w:World)(g pb n:Nat)(t:Nat->Bool)(B:Nat->Nat->Nat):Prop where
 ne:g≠pb
 le:n<=256
 head:w.cell? ⟨g,0,none⟩=some (.slice (some ⟨pb,0,none⟩) n n)
 mark:∀i,i<256->aM w ⟨g,1+i,none⟩ (.bool (t i))
 sV:∀i j,i<n->j<64->aM w ⟨pb,i*64+j,none⟩ (.int .u8 ((B i j:Nat):Int))
 lt:pb<w.heap.size
 only:∀i,t i=true->i<n
 zero:∀i j,t i=false->B i j=0
 small:∀i j,B i j<256
theorem fo.but (hb:aj S w w')(h:fo w g pb n t B)(h1:¬S g)(h2:¬S pb):fo w' g pb n t B :=
 ⟨h.ne,h.le,an hb h.head h1,λi hi=>(h.mark i hi).but hb h1,λi j hi hj=>(h.sV i j hi hj).but hb h2,Nat.lt_of_lt_of_le h.lt hb.size,h.only,h.zero,h.small⟩
theorem fo.later (hb:Below w.heap.size w w')(h:fo w g pb n t B):fo w' g pb n t B :=
 h.but (S:=λ_=>False) (aj.of hb) (λh=>h) (λh=>h)
theorem fo.DU (h:fo w g pb n t B):g<w.heap.size:=World.block_lt_of_cell? _ _ h.head
theorem Bl:(Tryz.prog.info? 403).map (λi=>(i.zero,i.size,i.bytes))=some (some (.agg (#[.slice none 0 0]++Array.replicate 256 (.bool false))),257,280):=by kernel_rfl
theorem bg {t:TypeId}{z:Value}{s b:Nat}(h:(Tryz.prog.info? t).map (λi=>(i.zero,i.size,i.bytes))=some (some z,s,b))(w:World):(zeroValue t).run Tryz.prog w=.ok z w:=by
 obtain⟨i,hi,hz0,hz1,hz2⟩:=info_parts h
 simp [zeroValue,typeInfo,hi,hz0]
theorem CJ:∃Z:Array Value,(∀w,(zeroValue 403).run Tryz.prog w=.ok (.agg Z) w)/\Z.size=257/\∀i,i<256->Z[1+i]?=some (.bool false) :=
 ⟨_,bg Bl,by simp,λi hi=>by
  rw [Array.getElem?_append_right (by simp)];simp [hi]⟩
theorem uP:(Tryz.prog.info? 475).map (λi=>(i.zero,i.size,i.bytes))=some (some (.agg (Array.replicate 64 (.int .u8 0))),64,64):=by kernel_rfl
theorem sY (w:World)(n:Nat)(hn:n<=256):∃w',(Instr.makeSlice 399 (ab (n:Int)) (ab (n:Int))).run Tryz.prog w=.ok (.slice (some ⟨w.heap.size,0,none⟩) n n) w' /\
  (∀j,j<n*64->aM w' ⟨w.heap.size,j,none⟩ (.int .u8 0))/\w.heap.size<w'.heap.size/\Below w.heap.size w w':=by
 obtain⟨i,hi,hz0,hz1,hz2⟩:=info_parts uP
 obtain⟨w',hr,ho,hg⟩:=run_make_full (P:=Tryz.prog) w w.heap.size 399 475 i _ 64 Tryz.underlying399 hi hz0 hz1 .i64 .i64 n (by rw [hz2];omega) (by unfold maxLen;omega) (Nat.le_refl _)
 rcases ho.2 with ⟨h0,_⟩|⟨g,c,cur,hv,hg2,hh,hc,hm,hsz,htk⟩
 ·simp at h0
 ·simp only [Value.slice.injEq,Option.some.injEq,Addr.mk.injEq] at hv
  obtain⟨⟨rfl,_⟩,_,rfl⟩:=hv
  refine⟨w',hr,λj hj=>⟨?_,by simp [World.frozen?,hh]⟩,(Array.getElem?_eq_some_iff.1 hh).1,(Below.refl _ _).grown hg (Nat.le_refl _) (λk hk=>by cases hk)⟩
  have hq:=ho.cells (g:=w.heap.size) rfl j (.int .u8 0) (by
   simp only [madeCells,Array.getElem?_toList,Value.cells];simp [hj,Nat.mod_lt])
  rwa [aY] at hq
theorem cu (n:Nat)(w:World)(hn:n<=256) :
  Calls Tryz.prog 203 #[ab (n:Int)] w λe w'=>∃g pb,e=.returned (.tuple #[aq g,ab 0])/\fo w' g pb n (λ_=>false) (λ_ _=>0)/\w.heap.size<=g/\w.heap.size<=pb/\Below w.heap.size w w':=by
 obtain⟨w1,hmk,hl,hlt,hb⟩:=sY w n hn
 obtain⟨Z,hz,hZs,hZi⟩:=CJ
 have hZ0:(Z=#[])=False:=eq_false (λh=>by rw [h] at hZs;simp at hZs)
 have hd1:decide ((n:Int)<0)=false:=decide_eq_false (by omega)
 have hd2:decide ((n:Int)>256)=false:=decide_eq_false (by omega)
 have HL:Hid (∀j,j<n*64->aM w1 ⟨w.heap.size,j,none⟩ (.int .u8 0)):=hl
 have HB:Hid (Below w.heap.size w w1):=hb
 have HZ:Hid (Z.size=257/\∀i,i<256->Z[1+i]?=some (.bool false)):=⟨hZs,hZi⟩
 clear hl hb hZs hZi;go_enter Tryz.func203,Tryz.ntmps203
 go_wp2;obtain⟨hZs,hZi⟩:=HZ.out
 have hb2:=ag w1 (.cells (Z.setIfInBounds 0 (Value.slice (some ⟨w.heap.size,0,none⟩) n n)) 403)
 have hh:=heap_alloc_new w1 (.cells (Z.setIfInBounds 0 (Value.slice (some ⟨w.heap.size,0,none⟩) n n)) 403)
 refine bodyPost_ret (v:=.tuple #[aq w1.heap.size,ab 0]) (by simp [results,Tryz.results203,go_sem]) rfl ⟨_,w.heap.size,rfl,⟨by omega,hn,?_,λi hi=>⟨?_,?_⟩,λi j hi hj=>?_,(by simp;omega),λ_ h=>(by cases h),λ_ _ _=>rfl,λ_ _=>(by omega)⟩,by omega,Nat.le_refl _,aa HB.out hb2⟩
 ·rw [cell_of_row _ _ _ _ _ _ hh]
  simp [hZs]
 ·rw [cell_of_row _ _ _ _ _ _ hh,Array.getElem?_setIfInBounds_ne (by omega)]
  exact hZi i hi
 ·simp only [World.frozen?,hh]
  simp
 ·exact (HL.out (i*64+j) (by omega)).later hb2
def ED (n:Nat)(p:Int):Bool:=decide (0<=p/\p<(n:Int))
theorem ee (g pb n:Nat)(p:Int)(w:World)(x:w.cell? ⟨g,0,none⟩=some (.slice (some ⟨pb,0,none⟩) n n)) :
  Calls Tryz.prog 395 #[aq g,ab p] w λe w'=>e=.returned (.bool (ED n p))/\w'=w:=by
 unfold ED;by_cases h0:0<=p
 ·have hd:decide (0<=p/\p<(n:Int))=decide (p<(n:Int)):=by simp [h0]
  have hg:decide (p>=0)=true:=decide_eq_true h0
  go_enter Tryz.func395,Tryz.ntmps395
  go_wp2;go_ret;exact⟨aA hd.symm,rfl⟩
 ·have hd:decide (0<=p/\p<(n:Int))=false:=by simp [h0]
  have hg:decide (p>=0)=false:=decide_eq_false h0
  go_enter Tryz.func395,Tryz.ntmps395
  go_wp2;go_ret;exact⟨rfl,rfl⟩
def fA (n:Nat)(t:Nat->Bool)(b:Bool):List Nat:=(List.range n).filter λi=>t i==b
def fN (l:List Nat):List Int:=l.map λ(k:Nat)=>(k:Int)
theorem gD (l:List Nat):(fN l).length=l.length:=by simp [fN]
theorem qD (l m:List Nat):fN (l++m)=fN l++fN m:=by simp [fN]
theorem iS (n:Nat)(t:Nat->Bool)(b:Bool):fA (n+1) t b=fA n t b++(if t n==b then [n] else []):=by
 simp only [fA,List.range_succ,List.filter_append];congr 1
 by_cases h:t n==b<;>simp [h]
theorem te (n:Nat)(t:Nat->Bool)(b:Bool):(fA n t b).length<=n:=by
 have:=List.length_filter_le (λi=>t i==b) (List.range n)
 simpa [fA] using this
theorem pj {i:Nat}:i∈fA n t b↔i<n/\t i=b:=by simp [fA]
def Bq (w:World)(n:Nat)(t:Nat->Bool)(b:Bool)(v k:Value)(w':World):Prop :=
 ∃(i:Nat) (a:Option Addr) (m cap:Nat),v=.slice a m cap/\k=ab (i:Int)/\i<=n/\m<=i/\Own w' w.heap.size 3 a m cap (ints (fN (fA i t b)))/\Below w.heap.size w w'
theorem kN (g pb n:Nat)(t:Nat->Bool)(B:Nat->Nat->Nat)(b:Bool)(w:World)(h:fo w g pb n t B) :
  Calls Tryz.prog 341 #[aq g,.bool b] w λe w'=>∃a m cap,e=.returned (.slice a m cap)/\Own w' w.heap.size 3 a m cap (ints (fN (fA n t b)))/\Below w.heap.size w w':=by
 have x:=h.head
 have HA:Hid (fo w g pb n t B):=h
 have hn:=h.le
 clear h;go_enter Tryz.func341,Tryz.ntmps341
 go_wp2;go_loopw [5,12] (Bq w n t b) (λ_ k _=>n - (intOf k).toNat)
 case atStart=>exact⟨0,none,0,0,rfl,rfl,Nat.zero_le _,Nat.le_refl _,Own.nil _ _ _,Below.refl _ _⟩
 case round =>
  clear x;obtain⟨i,a,m,cap,rfl,rfl,hi,hm,hO,hB⟩:=hrel
  have HO:Hid (Own wr w.heap.size 3 a m cap (ints (fN (fA i t b)))):=hO
  have HB:Hid (Below w.heap.size w wr):=hB
  clear hO hB;by_cases hlt:i<n
  ·have hd:decide ((i:Int)<(n:Int))=true:=decide_eq_true (by omega)
   have y:=((HA.out.later HB.out).mark i (by omega)).1
   cases he:(t i==b) with
   | true =>
    obtain⟨a',cap',w2,hrun,hO2,hG⟩:=j0 (HO.out.alloc (Obj.cells #[Value.int .i64 (i:Int)] 3)) (Row.single wr 3 (ab (i:Int)) rfl) (by have:=HB.out.size;simp;omega) (by omega)
    have ON:=ae hrun
    have hB2:Below w.heap.size w w2:=(HB.out.alloc HB.out.size _).trans (Gr.below (HO.out.alloc _) hG (by have:=HB.out.size;simp;omega))
    have O0:Hid (Own w2 w.heap.size 3 a' (m+1) cap' (ints (fN (fA (i+1) t b)))):=by
     rw [iS,he,qD,fZ];exact hO2
    have OH:=ae hB2
    clear hrun hO2 hG hB2;go_wp2_with (first|(at_builtin;refine aw rfl _ _ 42 rfl _ _ rfl rfl _ w2 ON.out ?_))
    exact⟨⟨i+1,a',m+1,cap',rfl,rfl,by omega,by omega,O0.out,OH.out⟩,by simp [intOf];omega⟩
   | false =>
    have O0:Hid (Own wr w.heap.size 3 a m cap (ints (fN (fA (i+1) t b)))):=by
     refine ae ?_
     rw [iS,he];simpa using HO.out
    go_wp2;exact⟨⟨i+1,a,m,cap,rfl,rfl,by omega,by omega,O0.out,HB.out⟩,by simp [intOf];omega⟩
  ·obtain rfl:i=n:=by omega
   have hd:decide ((i:Int)<(i:Int))=false:=by simp
   go_wp2;go_ret;exact⟨a,m,cap,rfl,HO.out,HB.out⟩
theorem ye (g pb n:Nat)(t:Nat->Bool)(B:Nat->Nat->Nat)(w:World)(h:fo w g pb n t B) :
  Calls Tryz.prog 335 #[aq g] w λe w'=>e=.returned (ab ((fA n t false).length:Int))/\Below w.heap.size w w':=by
 have H:=ae h
 clear h;go_enter Tryz.func335,Tryz.ntmps335
 go_wp2_with (first|(go_at_call 341;refine (kN g pb n t B false _ H.out).mono ?_;rintro e w1 ⟨a,m,cap,rfl,O,hb⟩))
 go_ret;have hl:=O.len
 rw [eN,gD] at hl;exact⟨aQ (by rw [hl]),hb⟩
def jW (n:Nat)(t:Nat->Bool)(p off m:Int):Int:=if ED n p=true/\t p.toNat=true then (if 0<=off/\0<=m/\m<=64 - off then 0 else 5) else 20
theorem jh (g pb n:Nat)(t:Nat->Bool)(B:Nat->Nat->Nat)(p off m:Int)(w:World)(h:fo w g pb n t B)(ho:-9223372036854775808<=off/\off<9223372036854775808) :
  Calls Tryz.prog 353 #[aq g,ab p,ab off,ab m] w λe w'=>e=.returned (ab (jW n t p off m))/\w'=w:=by
 have x:=h.head
 have H:=ae h
 have hn:=h.le
 clear h;have HW:Hid (0<=off->IntKind.i64.wrap (64 - off)=64 - off):=ae (λh=>by rw [IntKind.wrap_i64];omega)
 obtain⟨E,hE⟩:∃E,E=jW n t p off m:=⟨_,rfl⟩
 rw [<-hE];have HE:=ae hE
 clear hE;cases hth:ED n p with
 | false =>
  go_enter Tryz.func353,Tryz.ntmps353
  go_wp2_with (first|(go_at_call 395;refine (ee g pb n p _ x).mono ?_;rintro e w1 ⟨rfl,rfl⟩;rw [hth]))
  go_ret;exact⟨aQ (by rw [HE.out];simp [jW,hth]),rfl⟩
 | true =>
  obtain⟨q,rfl⟩:∃q:Nat,p=(q:Int):=⟨p.toNat,by simp [ED] at hth;omega⟩
  have hq:q<n:=by simp [ED] at hth;omega
  have y:=(H.out.mark q (by omega)).1
  cases htq:t q with
  | false =>
   rw [htq] at y;go_enter Tryz.func353,Tryz.ntmps353
   go_wp2_with (first|(go_at_call 395;refine (ee g pb n (q:Int) _ x).mono ?_;rintro e w1 ⟨rfl,rfl⟩;rw [hth]))
   go_ret;exact⟨aQ (by rw [HE.out];simp [jW,htq]),rfl⟩
  | true =>
   rw [htq] at y;have e1:jW n t (q:Int) off m=if 0<=off/\0<=m/\m<=64 - off then 0 else 5:=by simp [jW,hth,htq]
   rw [e1] at HE;clear e1 ho;by_cases h0:off<0
   ·have hd0:decide (off<0)=true:=decide_eq_true h0
    go_enter Tryz.func353,Tryz.ntmps353
    go_wp2_with (first|(go_at_call 395;refine (ee g pb n (q:Int) _ x).mono ?_;rintro e w1 ⟨rfl,rfl⟩;rw [hth]))
    go_ret;exact⟨aQ (by rw [HE.out,if_neg (by omega)]),rfl⟩
   ·have hd0:decide (off<0)=false:=decide_eq_false h0
    by_cases h1:m<0
    ·have hd1:decide (m<0)=true:=decide_eq_true h1
     go_enter Tryz.func353,Tryz.ntmps353
     go_wp2_with (first|(go_at_call 395;refine (ee g pb n (q:Int) _ x).mono ?_;rintro e w1 ⟨rfl,rfl⟩;rw [hth]))
     go_ret;exact⟨aQ (by rw [HE.out,if_neg (by omega)]),rfl⟩
    ·have hd1:decide (m<0)=false:=decide_eq_false h1
     have ew:IntKind.i64.wrap (64 - off)=64 - off:=HW.out (by omega)
     by_cases h2:m>64 - off
     ·have hd2:decide (m>64 - off)=true:=decide_eq_true h2
      go_enter Tryz.func353,Tryz.ntmps353
      go_wp2_with (first|(go_at_call 395;refine (ee g pb n (q:Int) _ x).mono ?_;rintro e w1 ⟨rfl,rfl⟩;rw [hth]))
      go_ret;exact⟨aQ (by rw [HE.out,if_neg (by omega)]),rfl⟩
     ·have hd2:decide (m>64 - off)=false:=decide_eq_false h2
      go_enter Tryz.func353,Tryz.ntmps353
      go_wp2_with (first|(go_at_call 395;refine (ee g pb n (q:Int) _ x).mono ?_;rintro e w1 ⟨rfl,rfl⟩;rw [hth]))
      go_ret;exact⟨aQ (by rw [HE.out,if_pos (by omega)]),rfl⟩
def zU (w:World)(a:Option Addr):Prop:=∀x,a=some x->∀j,w.frozen? ⟨x.block,j,none⟩=false
theorem _root_.Go.Proofs.YtmhinfbkmjdgfaaGreatDoor.Own.soft (h:Own w base e a n cap L):zU w a:=by
 intro x hx j;rcases h.row.2 with ⟨h1,hn⟩|⟨g,c,cur,hv,_,hh,hc,_⟩
 ·subst hx;simp at h1
 ·subst hx
  simp only [Value.slice.injEq,Option.some.injEq] at hv;obtain⟨rfl,_,rfl⟩:=hv
  simp [World.frozen?,hh]
theorem zU.but (hb:aj S w w')(h:zU w a)(hl:∀k,aI a k->k<w.heap.size)(hn:∀k,aI a k->¬S k):zU w' a:=λx hx j=>by
 have e:w'.frozen? ⟨x.block,j,none⟩=w.frozen? ⟨x.block,j,none⟩:=World.frozen?_of_block (hb.block x.block (hl _ ⟨x,hx,rfl⟩) (hn _ ⟨x,hx,rfl⟩))
 rw [e];exact h x hx j
structure sK (w:World)(base:Nat)(a:Option Addr)(n cap:Nat)(L:List Value):Prop where
 row:Row w a n cap L
 soft:zU w a
 ge:∀k,aI a k->base<=k
 lt:∀k,aI a k->k<w.heap.size
theorem sK.but (hb:aj S w w')(h:sK w base a n cap L)(hn:∀k,aI a k->¬S k):sK w' base a n cap L :=
 ⟨h.row.but hb hn,h.soft.but hb h.lt hn,h.ge,λk hk=>Nat.lt_of_lt_of_le (h.lt k hk) hb.size⟩
theorem _root_.Go.Proofs.YtmhinfbkmjdgfaaGreatDoor.Own.JG (h:Own w base e a n cap L):sK w base a n cap L:=⟨h.read,h.soft,h.dB,h.lt⟩
def tk (t:Nat->Bool)(L:List Nat):Nat->Bool:=λi=>t i||decide (i∈L)
theorem yK (t:Nat->Bool):tk t []=t:=by funext i;simp [tk]
theorem fo.zq {u:Nat->Bool}{k:Nat}(h:fo w g pb n t B)(hk:k<n)(hu:∀i,u i=if i=k then b else t i)(hC:∀i j,u i=false->B i j=0) :
  fo (w.setCell ⟨g,1+k,none⟩ (.bool b)) g pb n u B:=by
 have hn:=h.le
 refine⟨h.ne,h.le,?_,λi hi=>?_,λi j hi hj=>(h.sV i j hi hj).other (λe=>h.ne (congrArg Addr.block e)),by simpa using h.lt,λi hi=>?_,hC,h.small⟩
 ·rw [World.cell?_setCell_other _ _ _ _ (λe=>by have:=congrArg Addr.off e;simp at this)]
  exact h.head
 ·rw [hu i]
  by_cases e:i=k
  ·subst e
   rw [if_pos rfl];exact (h.mark i hi).put
  ·rw [if_neg e]
   exact (h.mark i hi).other (λe2=>e (by have:=congrArg Addr.off e2;simp at this;omega))
 ·rw [hu i] at hi
  split at hi
  ·omega
  ·exact h.only i hi
def C9 (w1:World)(g pb n:Nat)(t:Nat->Bool)(B:Nat->Nat->Nat)(K:Nat)(v:Value)(w':World):Prop :=
 ∃i:Nat,v=ab (i:Int)/\i<=K/\fo w' g pb n (tk t ((fA n t false).take i)) B/\aj (·=g) w1 w'
theorem gW (L:List Nat)(i:Nat)(h:i<L.length):(ints (fN L))[i]?=some (ab ((L[i]:Nat):Int)):=by
 rw [mx _ i (by rw [gD];exact h)]
 simp [fN]
theorem BW (g pb n:Nat)(t:Nat->Bool)(B:Nat->Nat->Nat)(K:Nat)(w:World)(h:fo w g pb n t B)(hk:K<=(fA n t false).length) :
  Calls Tryz.prog 293 #[aq g,ab (K:Int)] w λe w'=>∃a,e=.returned (.tuple #[.slice a K K,ab 0])/\sK w' w.heap.size a K K (ints (fN ((fA n t false).take K))) /\
   fo w' g pb n (tk t ((fA n t false).take K)) B/\aj (·=g) w w':=by
 have hd:decide ((K:Int)<0)=false:=decide_eq_false (by omega)
 have H:=ae h
 have HK:=ae hk
 have hgl:=h.DU
 have hn:=h.le
 have hK2:K<=256:=Nat.le_trans hk (Nat.le_trans (te n t false) hn)
 clear h hk;go_enter Tryz.func293,Tryz.ntmps293
 go_upto_region 4 with (first|(go_at_call 341;refine (kN g pb n t B false _ H.out).mono ?_;rintro e w1 ⟨a,m,cap,rfl,O,hb⟩))
 have hl:=O.len
 rw [eN,gD] at hl;have hKm:K<=m:=by have:=HK.out;omega
 have hd2:decide ((K:Int)>(m:Int))=false:=decide_eq_false (by omega)
 have HL:=ae hl
 have HO:=ae O
 have HB:=ae hb
 have hcap:=O.read.cap_
 clear hl O hb;cases a with
 | none =>
  obtain⟨rfl,rfl⟩:=HO.out.read.none_ rfl
  obtain rfl:K=0:=by omega
  have HZ:Hid (fo w1 g pb n (tk t ((fA n t false).take 0)) B):=ae (by rw [List.take_zero,yK];exact H.out.later HB.out)
  simp only [Int.cast_ofNat_Int];go_wp2;go_loopw [21] (λk w'=>k=ab 0/\w1=w') (λ_ _=>0)
  case atStart=>exact⟨rfl,rfl⟩
  case round =>
   obtain⟨rfl,rfl⟩:=hrel
   go_wp2;refine bodyPost_ret (v:=.tuple #[.slice none 0 0,ab 0]) (by simp [results,Tryz.results293,go_sem]) rfl ⟨none,rfl,⟨?_,λ_ h=>(by cases h),λ_ h=>?_,λ_ h=>?_⟩,HZ.out,aj.of HB.out⟩
   ·exact bh _
   ·obtain⟨_,h,_⟩:=h
    cases h
   ·obtain⟨_,h,_⟩:=h
    cases h
 | some x =>
  obtain⟨gb,rfl,hgb⟩:∃gb,x=⟨gb,0,none⟩/\w.heap.size<=gb:=by
   rcases HO.out.row.2 with ⟨h1,hn⟩|⟨gb,c,cur,hv,hgb,_⟩
   ·simp at h1
   ·simp only [Value.slice.injEq,Option.some.injEq] at hv
    exact⟨gb,hv.1,hgb⟩
  go_upto_region 7 with fail
  go_loopw [21] (C9 w1 g pb n t B K) (λk _=>K - (intOf k).toNat)
  case atStart=>exact⟨0,rfl,Nat.zero_le _,by rw [List.take_zero,yK];exact H.out.later HB.out,aj.refl _ _⟩
  case round =>
   obtain⟨i,rfl,hi,hA,hBt⟩:=hrel
   have HA:=ae hA
   have OQ:=ae hBt
   clear hA hBt;by_cases hlt:i<K
   ·have hd3:decide ((i:Int)<(K:Int))=true:=decide_eq_true (by omega)
    have hil:i<(fA n t false).length:=by have:=HL.out;omega
    obtain⟨q,hq⟩:∃q,q=(fA n t false)[i]:=⟨_,rfl⟩
    have hqm:q<n/\t q=false:=pj.1 (by rw [hq];exact List.getElem_mem _)
    have hqn:=hqm.1
    have y:wr.cell? ⟨gb,i,none⟩=some (ab (q:Int)):=by
     have:=(HO.out.read.but OQ.out (λk hk e=>by obtain⟨z,hz,rfl⟩:=hk;cases hz;simp only at e;omega)).cells _ rfl i _ (gW _ i hil)
     rw [aY] at this;rw [hq];exact this
    have z:=HA.out.mark q (by omega)
    have z1:=z.1
    have z2:=z.2
    have HN:Hid (fo (wr.setCell ⟨g,1+q,none⟩ (.bool true)) g pb n (tk t ((fA n t false).take (i+1))) B):=HA.out.zq hqn (λj=>by
     rw [List.take_add_one,List.getElem?_eq_getElem hil,<-hq];simp only [tk,Option.toList_some,List.mem_append,List.mem_singleton];by_cases e:j=q
     ·simp [e]
     ·simp [e]) (λj b hj=>H.out.zero j b (by simp [tk] at hj;exact hj.1))
    have XU:Hid (aj (·=g) w1 (wr.setCell ⟨g,1+q,none⟩ (.bool true))):=OQ.out.setCell (p:=⟨g,1+q,none⟩) (show g=g from rfl) _
    clear z hq hqm;go_wp2;exact⟨⟨i+1,rfl,by omega,HN.out,XU.out⟩,by simp [intOf];omega⟩
   ·obtain rfl:i=K:=by omega
    go_wp2;have hO:=HO.out.JG.but OQ.out (λk hk e=>by obtain⟨z,hz,rfl⟩:=hk;cases hz;simp only at e;omega)
    have hr:=hO.row.sub (m:=i) (c:=i) hKm (Nat.le_refl _) (λh=>by cases h)
    refine bodyPost_ret (v:=.tuple #[.slice (some ⟨gb,0,none⟩) i i,ab 0]) (by simp [results,Tryz.results293,go_sem]) rfl ⟨_,rfl,⟨?_,hO.soft,hO.ge,hO.lt⟩,HA.out,(aj.of HB.out).trans OQ.out⟩
    simpa [ints,fN,List.map_take] using hr
theorem aJ {P:Program}{ops:Array Oper}{rest:List Oper}{a:Act}{Q:Exit->Act->World->Prop}{d:Option Tmp}{tt:TypeId}{ps:String}{af}{ty:TypeId}{x:Operand}{p v:Value}
  (hr:(Instr.loadAt ty p).run P w=.ok v w) (hx:a.eval x=p) (h:wpList P ops Q rest (a.put d v) w) :
  wpList P ops Q ({ dst:=d,op:=.load ty x,type:=tt,pos:=ps,after:=af,guard:=none }::rest) a w:=by
 refine wpList_plain rfl λK hK=>?_
 unfold Oper.wp execOp;simp only [hx,hr,Sem.run_bind,Sem.run_pure,Result.andThen_ok];exact hK _ _ h
def AW (B:Nat->Nat->Nat)(p off:Nat)(D:List Nat):Nat->Nat->Nat:=λi j=>if i=p/\off<=j/\j<off+D.length then D.getD (j - off) 0 else B i j
theorem sA (h:∀x∈D,x<256)(k:Nat):D.getD k 0<256:=by
 rw [List.getD_eq_getElem?_getD];cases hk:D[k]? with
 | none=>simp
 | some v=>simpa using h v (List.mem_of_getElem? hk)
theorem fo.write (h:fo w g pb n t B)(hp:t p=true)(ho:off+D.length<=64)(hD:∀x∈D,x<256) :
  fo (w.setCells pb (p*64+off) (aN D)) g pb n t (AW B p off D):=by
 have hpn:=h.only p hp
 have hne:=h.ne
 refine⟨h.ne,h.le,?_,λi hi=>⟨?_,?_⟩,λi j hi hj=>⟨?_,?_⟩,by rw [dE];exact h.lt,h.only,λi j hi=>?_,λi j=>?_⟩
 ·rw [World.cell?_setCells_out _ _ _ _ _ (λe=>absurd e hne)]
  exact h.head
 ·rw [World.cell?_setCells_out _ _ _ _ _ (λe=>absurd e hne)]
  exact (h.mark i hi).1
 ·rw [World.frozen?_setCells]
  exact (h.mark i hi).2
 ·unfold AW
  by_cases e:i=p/\off<=j/\j<off+D.length
  ·rw [if_pos e]
   obtain⟨rfl,e1,e2⟩:=e
   have hin:=World.cell?_setCells_in pb (aN D) (i*64+off) w (λk hk=>by
    rw [ao] at hk;have:=(h.sV i (off+k) hi (by omega)).1
    rw [<-Nat.add_assoc] at this;rw [this];rfl) (j - off) (by rw [ao];omega)
   have e3:i*64+off+(j - off)=i*64+j:=by omega
   rw [e3] at hin;rw [hin];simp [aN,List.getD_eq_getElem?_getD,List.getElem?_eq_getElem (show j - off<D.length by omega)]
  ·rw [if_neg e,World.cell?_setCells_out _ _ _ _ _ (λ_ _=>?_)]
   ·exact (h.sV i j hi hj).1
   ·rw [ao]
    show i*64+j<p*64+off\/p*64+off+D.length<=i*64+j
    omega
 ·rw [World.frozen?_setCells]
  exact (h.sV i j hi hj).2
 ·unfold AW
  rw [if_neg (λe=>by rw [e.1,hp] at hi;cases hi)]
  exact h.zero i j hi
 ·unfold AW
  split
  ·exact sA hD _
  ·exact h.small i j
def zT (B:Nat->Nat->Nat)(p off m:Nat):List Nat:=(List.range m).map λk=>B p (off+k)
theorem ek (B:Nat->Nat->Nat)(p off m:Nat):(zT B p off m).length=m:=by simp [zT]
theorem oB (B:Nat->Nat->Nat)(p off m k:Nat)(h:k<m):(aN (zT B p off m))[k]?=some (.int .u8 ((B p (off+k):Nat):Int)):=by simp [aN,zT,h]
theorem fo.range (h:fo w g pb n t B)(hp:p<n):w.rangeAt pb (p*64) (aN (zT B p 0 64)):=λj v hv=>by
 have hj:j<64:=by have:=(List.getElem?_eq_some_iff.1 hv).1;rwa [ao,ek] at this
 rw [oB _ _ _ _ _ hj,Nat.zero_add] at hv;cases hv
 exact (h.sV p j hp hj).1
theorem CQ:(Tryz.prog.info? 475).map (·.size)=some 64:=by kernel_rfl
theorem Cj (h:fo w g pb n t B)(hp:p<n):(Instr.loadAt 475 (.pointer (some ⟨pb,p*64,none⟩))).run Tryz.prog w=.ok (.agg (aN (zT B p 0 64)).toArray) w :=
 run_loadAt_mid (P:=Tryz.prog) w pb (p*64) 475 _ _ (h.range hp) Tryz.underlying475 rfl (by rw [CQ,ao,ek])
theorem fo.congr {C:Nat->Nat->Nat}(h:fo w g pb n t B)(e:B=C):fo w g pb n t C:=e ▸ h
theorem ml (h:t p=true)(hn:p<n)(ho:off+m<=64):jW n t (p:Int) (off:Int) (m:Int)=0:=by
 unfold jW ED;rw [if_pos ⟨decide_eq_true (by omega),by simpa using h⟩,if_pos (by omega)]
theorem rY:Tryz.prog.arrayLen 475=64:=by kernel_rfl
theorem zN:Tryz.prog.underlying 475=some (.array (Tryz.prog.arrayLen 475) (Tryz.prog.elem 475)):=by kernel_rfl
theorem kM (W:World):(sizeOf (Tryz.prog.elem 475)).run Tryz.prog W=.ok 1 W:=by
 have e:Tryz.prog.elem 475=5:=by kernel_rfl
 obtain⟨i,hi,hz0,hz1,hz2⟩:=info_parts gX
 rw [e];simp [sizeOf,typeInfo,hi,hz1]
theorem C7 (b o off m:Nat)(ho:off+m<=64):∃so,(m=0\/so=o+off)/\∀W:World,(Instr.sliceAt 475 (.pointer (some ⟨b,o,none⟩)) (some (ab (off:Int))) (some (ab ((off:Int)+(m:Int)))) (some (ab ((off:Int)+(m:Int))))).run Tryz.prog W=.ok (.slice (some ⟨b,so,none⟩) m m) W:=by
 have h:∀W:World,(Instr.sliceAt 475 (.pointer (some ⟨b,o,none⟩)) (some (ab (off:Int))) (some (ab ((off:Int)+(m:Int)))) (some (ab ((off:Int)+(m:Int))))).run Tryz.prog W=.ok (slicedAt ⟨b,o,none⟩ off (off+m) (off+m) 1) W:=λW=>by
  rw [run_sliceAt_array_lhm (P:=Tryz.prog) W 475 ⟨b,o,none⟩ zN .i64 .i64 .i64 (off:Int) ((off:Int)+(m:Int)) ((off:Int)+(m:Int)) (by omega) (by omega) (by omega) (by rw [rY];omega),kM]
  have e:((off:Int)+(m:Int)).toNat=off+m:=by omega
  simp [e]
 by_cases hm:m=0
 ·subst hm
  exact⟨o,.inl rfl,λW=>by rw [h W];simp [slicedAt]⟩
 ·refine⟨o+off,.inr rfl,λW=>?_⟩
  rw [h W,slicedAt,if_neg (by omega),bq];simp
theorem GS (b o off:Nat)(ho:off<=64):∃so,(off=64\/so=o+off)/\∀W:World,(Instr.sliceAt 475 (.pointer (some ⟨b,o,none⟩)) (some (ab (off:Int))) none none).run Tryz.prog W=.ok (.slice (some ⟨b,so,none⟩) (64 - off) (64 - off)) W:=by
 have h:∀W:World,(Instr.sliceAt 475 (.pointer (some ⟨b,o,none⟩)) (some (ab (off:Int))) none none).run Tryz.prog W=.ok (slicedAt ⟨b,o,none⟩ off 64 64 1) W:=λW=>by
  rw [run_sliceAt_array_l (P:=Tryz.prog) W 475 ⟨b,o,none⟩ zN .i64 (off:Int) (by omega) (by rw [rY];omega),kM,rY]
  simp
 by_cases hm:off=64
 ·subst hm
  exact⟨o,.inl rfl,λW=>by rw [h W];simp [slicedAt]⟩
 ·refine⟨o+off,.inr rfl,λW=>?_⟩
  rw [h W,slicedAt,if_neg (by omega),bq];simp
theorem CA (B:Nat->Nat->Nat)(p off m k:Nat)(h:k<m)(ho:off+m<=64):(aN (zT B p 0 64))[off+k]?=some (.int .u8 ((B p (off+k):Nat):Int)):=by
 rw [oB _ _ _ _ _ (by omega),Nat.zero_add]
theorem oO (g pb n:Nat)(t:Nat->Bool)(B:Nat->Nat->Nat)(p off m:Nat)(w:World)(h:fo w g pb n t B)(hp:t p=true)(ho:off+m<=64) :
  Calls Tryz.prog 303 #[aq g,ab (p:Int),ab (off:Int),ab (m:Int)] w λe w'=>∃a,e=.returned (.tuple #[.slice a m m,ab 0])/\sK w' w.heap.size a m m (aN (zT B p off m))/\Below w.heap.size w w':=by
 have x:=h.head
 have hpn:=h.only p hp
 have HE:=ae (ml hp hpn ho)
 have O4:=ae (Cj h hpn)
 have hz:=bg uP
 obtain⟨Z,hZ⟩:∃Z,Z=Array.replicate 64 (Value.int .u8 0):=⟨_,rfl⟩
 rw [<-hZ] at hz;have H:=ae h
 obtain⟨L,hL⟩:∃L,L=aN (zT B p 0 64):=⟨_,rfl⟩
 rw [<-hL] at O4;have hl:L.length=64:=by rw [hL,ao,ek]
 have ht:(w.alloc (.cells Z 475)).there w.heap.size 0 64:=λj hj=>by
  have hh:=heap_alloc_new w (.cells Z 475)
  exact⟨by rw [cell_of_row _ _ _ _ _ _ hh,hZ];simp [hj],by simp only [World.frozen?,hh];simp⟩
 have hst:(storeCells ⟨w.heap.size,0,none⟩ L).run Tryz.prog (w.alloc (.cells Z 475))=.ok () ((w.alloc (.cells Z 475)).setCells w.heap.size 0 L) :=
  run_storeCells_cells (P:=Tryz.prog) w.heap.size 0 L 0 _ (λj hj=>by rw [Nat.add_zero];exact (ht j (by omega)).1) (λj hj=>by rw [Nat.add_zero];exact (ht j (by omega)).2) (by rw [hL];exact bJ _)
 have HT:=ae ht
 have HL:=ae hL
 have Sn:=ae hl
 have X_:=ae hZ
 clear h ht hL hZ;go_enter Tryz.func303,Tryz.ntmps303
 go_upto_region 4 with (first|(go_at_call 353;refine (jh g pb n t B (p:Int) (off:Int) (m:Int) _ H.out (by omega)).mono ?_;rintro e w1 ⟨rfl,rfl⟩;rw [HE.out]))
 obtain⟨so,hso,hcut⟩:=C7 w1.heap.size 0 off m ho
 have XJ:=ae hso
 clear hso;go_wp2_with (first|((with_reducible refine aJ O4.out ?_ ?_);· rfl))
 have hB:Below w1.heap.size w1 ((w1.alloc (.cells Z 475)).setCells w1.heap.size 0 L):=aj.below (S:=(·=w1.heap.size)) (ag w1 (.cells Z 475)) (aj.setCells (S:=(·=w1.heap.size)) (show w1.heap.size=w1.heap.size from rfl) L 0 (aj.refl _ _)) (λk hk=>by rw [hk];exact Nat.le_refl _)
 refine bodyPost_ret (v:=.tuple #[.slice (some ⟨w1.heap.size,so,none⟩) m m,ab 0]) (by simp [results,Tryz.results303,go_sem]) rfl ⟨_,rfl,⟨Row.at (by rw [ao,ek]) (Nat.le_refl _) (bJ _) (λi v hv=>?_),λx hx j=>?_,λk hk=>?_,λk hk=>?_⟩,hB⟩
 ·have hi:i<m:=by have:=(List.getElem?_eq_some_iff.1 hv).1;rwa [ao,ek] at this
  rw [oB _ _ _ _ _ hi] at hv;have hs:so=off:=by have:=XJ.out;omega
  rw [hs];have:=World.rangeAt_setCells_same (w1.alloc (.cells Z 475)) w1.heap.size 0 L (by rw [hl];exact HT.out) (off+i) v (by rw [HL.out,CA B p off m i hi ho];exact hv)
  rwa [Nat.zero_add] at this
 ·cases hx
  rw [World.frozen?_setCells];have hh:=heap_alloc_new w1 (.cells Z 475)
  simp only [World.frozen?,hh];simp
 ·obtain⟨x,hx,rfl⟩:=hk
  cases hx
  exact Nat.le_refl _
 ·obtain⟨x,hx,rfl⟩:=hk
  cases hx
  rw [dE];simp
theorem fo.copy {so:Nat}(h:fo w g pb n t B)(hp:t p=true)(ho:off+m<=64)(hD:∀x∈D,x<256)(hR:Row w a m cap (aN D))(hso:off=64\/so=p*64+off) :
  ∃v w',(Builtin.copy_ #[38,38] 3 #[.slice (some ⟨pb,so,none⟩) (64 - off) (64 - off),.slice a m cap]).run Tryz.prog w=.ok v w'/\fo w' g pb n t (AW B p off D)/\aj (·=pb) w w':=by
 have hpn:=h.only p hp
 have hlen:=hR.len
 rw [ao] at hlen;by_cases hm:m=0
 ·subst hm
  refine⟨_,w,run_copy_none (P:=Tryz.prog) w 38 38 3 5 _ _ _ _ _ _ Tryz.underlying38 (by kernel_rfl) (by simp),h.congr ?_,aj.refl _ _⟩
  funext i j
  unfold AW;rw [if_neg (by omega)]
 ·obtain⟨b,o,rfl,hc⟩:=hR.plain (by omega)
  have hs:so=p*64+off:=by omega
  subst hs;have hpg:∀j,j<m->aM w ⟨pb,p*64+off+j,none⟩ (.int .u8 ((B p (off+j):Nat):Int)):=λj hj=>by
   have:=h.sV p (off+j) hpn (by omega)
   rwa [<-Nat.add_assoc] at this
  have hlu:(aN D).length=m:=hR.len
  refine⟨_,_,run_copy_cells (P:=Tryz.prog) w 38 38 3 5 pb (p*64+off) (64 - off) (64 - off) ⟨b,o,none⟩ m cap (aN D) Tryz.underlying38 (by kernel_rfl) (by rw [hlu];exact (Nat.min_eq_left (by omega)).symm) (hR.cells _ rfl) (λj hj=>by rw [(hpg j (by omega)).1];rfl) (λj hj=>(hpg j (by omega)).2) (bJ _),h.write hp (by omega) hD,aj.setCells (S:=(·=pb)) (show pb=pb from rfl) _ _ (aj.refl _ _)⟩
theorem mb (g pb n:Nat)(t:Nat->Bool)(B:Nat->Nat->Nat)(p off:Nat)(a:Option Addr)(m cap:Nat)(D:List Nat)(w:World)(h:fo w g pb n t B)(hp:t p=true)(ho:off+m<=64)(hD:∀x∈D,x<256)(hR:Row w a m cap (aN D)) :
  Calls Tryz.prog 304 #[aq g,ab (p:Int),ab (off:Int),.slice a m cap] w λe w'=>e=.returned (ab 0)/\fo w' g pb n t (AW B p off D)/\aj (·=pb) w w':=by
 have x:=h.head
 have hpn:=h.only p hp
 have HE:=ae (ml hp hpn ho)
 obtain⟨so,hso,hcut⟩:=GS pb (p*64) off (by omega)
 obtain⟨v,w2,hrun,hA,hB⟩:=h.copy hp ho hD hR hso
 have H:=ae h
 have HA:=ae hA
 clear h hA hR hso hD;go_enter Tryz.func304,Tryz.ntmps304
 go_upto_region 4 with (first|(go_at_call 353;refine (jh g pb n t B (p:Int) (off:Int) (m:Int) _ H.out (by omega)).mono ?_;rintro e w1 ⟨rfl,rfl⟩;rw [HE.out]))
 go_wp2;go_ret;exact⟨rfl,HA.out,hB⟩
end Go.Proofs.YtmhinfbkmjdgfaaGreatDoor.S
namespace Go.Proofs.YtmhinfbkmjdgfaaGreatDoor.R
def az:Nat:=18446744073709551616
def bj (v k:Nat):List Nat:=(List.range k).map λi=>v / 256 ^ i%256
theorem cN (v:Nat):bj v 0=[]:=rfl
theorem cY (v k:Nat):bj v (k+1)=bj v k++[v / 256 ^ k%256]:=by simp [bj,List.range_succ]
theorem aW (v k:Nat):(bj v k).length=k:=by simp [bj]
theorem gM (v k:Nat):∀x∈bj v k,x<256:=by
 intro x hx;simp only [bj,List.mem_map] at hx;obtain⟨i,_,rfl⟩:=hx
 omega
theorem uN (v k j:Nat)(h:k<=j):bj (v%256 ^ j) k=bj v k:=by
 unfold bj;apply List.map_congr_left
 intro i hi;have hi:i<k:=List.mem_range.1 hi
 have e:(256:Nat) ^ j=256 ^ i*(256*256 ^ (j - i - 1)):=by rw [<-Nat.mul_assoc,<-Nat.pow_succ,<-Nat.pow_add];congr 1;omega
 rw [e,Nat.mod_mul_right_div_self,Nat.mod_mul_right_mod]
end Go.Proofs.YtmhinfbkmjdgfaaGreatDoor.R
