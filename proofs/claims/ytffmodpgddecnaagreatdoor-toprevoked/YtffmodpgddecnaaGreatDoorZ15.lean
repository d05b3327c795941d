import Derived.Shelf.Slices.SearchI
import Derived.Shelf.Slices.Clone
import Derived.Shelf.Slices.Delete
import Derived.Sort.OwnSortedInts
import Derived.Test.YtffmodpgddecnaaGreatDoorZ14
set_option linter.unusedVariables false
set_option linter.unusedSimpArgs false
set_option maxRecDepth 100000
set_option maxHeartbeats 2000000
namespace Go.Proofs.YtffmodpgddecnaaGreatDoor.M
open Go.RowKit
variable {w w':World}{base g:Nat}{m:Int}{pa:Option Addr}{cap:Nat}{K:List Cp}
theorem A1 (h:Dm w base g m pa cap K)(c:Cp)(hf:m<=(K.length:Int)) :
  Calls Tryz.prog 175 #[.pointer (some ⟨g,0,none⟩),.agg #[.int .i64 c.1,.int .u64 (c.2.1:Int),.int .u64 (c.2.2:Int)]] w λe w'=>e=.returned (.int .i64 14)/\Below w.heap.size w w':=by
 have hd:decide ((K.length:Int)>=m)=true:=by simp;omega
 have h1:=h.later (ae w (Obj.cells #[.int .i64 c.1,.int .u64 (c.2.1:Int),.int .u64 (c.2.2:Int)] 37))
 have x0:=h1.c0
 have x1:=h1.c1.1
 have HB:=ab (ae w (Obj.cells #[.int .i64 c.1,.int .u64 (c.2.1:Int),.int .u64 (c.2.2:Int)] 37))
 clear h h1 hf;go_enter Tryz.func175,Tryz.ntmps175
 go_upto_region 1 with fail
 go_quiet (fail)
 go_wp2;go_ret;exact⟨rfl,below_drewN HB.out _⟩
theorem qi (h:Dm w base g m pa cap K)(c:Cp)(hf:(K.length:Int)<m)(hm:m<=32) :
  Calls Tryz.prog 175 #[.pointer (some ⟨g,0,none⟩),.agg #[.int .i64 c.1,.int .u64 (c.2.1:Int),.int .u64 (c.2.2:Int)]] w λe w'=>∃pa' cap',e=.returned (.int .i64 0)/\Dm w' base g m pa' cap' (K++[c])/\Wr w w' g pa pa':=by
 have hd:decide ((K.length:Int)>=m)=false:=by simp;omega
 have hL:K.length<=32:=by omega
 have h1:=h.later (ae w (Obj.cells #[.int .i64 c.1,.int .u64 (c.2.1:Int),.int .u64 (c.2.2:Int)] 37))
 have HH:=ab h1
 have x0:=h1.c0
 have x1:=h1.c1.1
 have PC:=ab (ae w (Obj.cells #[.int .i64 c.1,.int .u64 (c.2.1:Int),.int .u64 (c.2.2:Int)] 37))
 have HX:Hid (wL (w.alloc (Obj.cells #[.int .i64 c.1,.int .u64 (c.2.1:Int),.int .u64 (c.2.2:Int)] 37)) w.heap.size 0 c):=⟨by simp [go_sem],by simp [go_sem],by simp [go_sem]⟩
 have VJ:Hid (∀j,aJ pa j->j<w.heap.size):=λj hj=>(h.own.bT j hj).2
 have VI:=ab h.lt
 clear h h1 hf;go_enter Tryz.func175,Tryz.ntmps175
 go_upto_region 1 with fail
 go_quiet (fail)
 go_upto_region 3 with fail
 have PE:=ab (below_drewN PC.out nq)
 have Qp:=ab (HX.out.later (below_drewN (Below.refl _ _) nq))
 have UN:=ab (HH.out.later (below_drewN (Below.refl _ _) nq))
 obtain⟨cb,hcb⟩:∃cb,cb=w.heap.size:=⟨_,rfl⟩
 rw [<-hcb] at Qp VJ VI ⊢
 generalize (w.alloc (Obj.cells #[.int .i64 c.1,.int .u64 (c.2.1:Int),.int .u64 (c.2.2:Int)] 37)).drewN nq=w3 at *
 clear x0 x1 HX HH PC;have x1:w3.drew.cell? ⟨g,1,none⟩=some (.slice pa K.length cap):=UN.out.c1.1
 have hbA:=ae w3 (Obj.cells #[.int .i64 c.1,.int .u64 (c.2.1:Int),.int .u64 (c.2.2:Int)] 37)
 have hBU:Below w3.heap.size w3 (w3.alloc (Obj.cells #[.int .i64 c.1,.int .u64 (c.2.1:Int),.int .u64 (c.2.2:Int)] 37)).drew:=hbA.drew
 have x2:(w3.alloc (Obj.cells #[.int .i64 c.1,.int .u64 (c.2.1:Int),.int .u64 (c.2.2:Int)] 37)).drew.cell? ⟨g,1,none⟩=some (.slice pa K.length cap):=(UN.out.later hbA).c1.1
 have P4:=ab (show (w3.drew.cell? ⟨cb,0,none⟩=some (.int .i64 c.1)/\w3.drew.cell? ⟨cb,1,none⟩=some (.int .u64 (c.2.1:Int))/\w3.drew.cell? ⟨cb,2,none⟩=some (.int .u64 (c.2.2:Int))) from ⟨Qp.out.c0,Qp.out.c1,Qp.out.c2⟩)
 have BXU:=Qp.out.later hBU
 have P_:=ab (And.intro BXU.c0 (And.intro BXU.c1 BXU.c2))
 have hDU:=UN.out.later hBU
 have hcr:Cr (w3.alloc (Obj.cells #[.int .i64 c.1,.int .u64 (c.2.1:Int),.int .u64 (c.2.2:Int)] 37)).drew 3 (some ⟨w3.heap.size,0,none⟩) 1 1 (cH c):=by have h9:=Cr.lit w3 37 (cH c) (gM c);exact⟨h9.len,h9.none_,h9.cells,h9.one⟩
 obtain⟨a',cap',w4,hrun,hO4,hG4⟩:=er 71 37 _ 3 24 Tryz.underlying71 iz rfl (by decide) (by decide) hDU.own hcr hDU.hb (by omega)
 have hnb:¬aJ pa cb:=λe=>by have:=VJ.out _ e;omega
 have BXA:=BXU.but hG4.but hnb
 have VD:=ab (And.intro BXA.c0 (And.intro BXA.c1 BXA.c2))
 have hwg:cb≠g:=by have:=VI.out;omega
 have BXB:=BXA.but (S:=(·=g)) ((ah.refl (·=g) _).setCell (p:=⟨g,1,none⟩) (show g=g from rfl) (.slice a' (K.length+1) cap')) hwg
 have VS:=ab (And.intro BXB.c0 (And.intro BXB.c1 BXB.c2))
 have hgn:¬aJ pa g:=λe=>hDU.ap g e rfl
 have hL4:=hDU.c1.but hG4.but hgn
 have y1:=hL4.1
 have y2:=hL4.2
 have hfin:Dm (w4.setCell ⟨g,1,none⟩ (.slice a' (K.length+1) cap')) base g m a' cap' (K++[c])/\Wr w (w4.setCell ⟨g,1,none⟩ (.slice a' (K.length+1) cap')) g pa a':=by
  have hlen:(K++[c]).length=K.length+1:=by simp
  have hO5:Ow w4 base 37 3 a' (K++[c]).length cap' (aF (K++[c])):=by rw [hlen,jG];exact hO4
  obtain⟨p1,p2⟩:=hDU.put hG4 hO5
  rw [hlen] at p1 p2;exact⟨p1,Wr.pre (aa PE.out hBU) p2⟩
 have PX:=ab hfin
 have PD:=ab hrun
 clear hbA hBU BXU hrun hO4 hG4 BXA BXB hL4 Qp hDU hcr hfin hnb hwg hgn hcb;refine wp_region_held_drew (S:=(λU:World=>U.cell? ⟨cb,0,none⟩=some (.int .i64 c.1)/\U.cell? ⟨cb,1,none⟩=some (.int .u64 (c.2.1:Int))/\U.cell? ⟨cb,2,none⟩=some (.int .u64 (c.2.2:Int)))) (by kernel_rfl) (P4.out) (λhHeld=>?_)
 refine nm 11 0 11 ?_
 refine tn 0 11 1 10 ?_
 simp only [zz];refine tn 1 11 3 9 ?_
 simp only [zz];refine tn 2 11 7 8 ?_
 simp only [zz];refine tn 3 11 15 7 ?_
 simp only [zz];refine tn 5 11 47 6 ?_
 simp only [zz];refine wpAnyH_ready (rs:=[4,6]) (by kernel_rfl) (by simp) ?_
 refine AllReadyH.cons rfl (λK hK=>?_) (AllReadyH.cons rfl (λK hK=>?_) AllReadyH.nil)
 ·go_simp
  refine zk hK 11 63 5 (P4.out) λhHeld=>?_
  clear hK K;try simp only [zz]
  refine zr 6 λK hK=>?_
  go_simp
  refine zk hK 11 127 4 (P_.out) λhHeld=>?_
  clear hK K;try simp only [zz]
  refine zr 7 λK hK=>?_
  refine bR (.tmp 19) (.tmp 21) 71 rfl _ _ rfl rfl _ w4 PD.out ?_
  refine zk hK 11 255 3 (VD.out) λhHeld=>?_
  clear hK K;try simp only [zz]
  refine tn 8 11 511 2 ?_
  simp only [zz];refine tn 9 11 1023 1 ?_
  simp only [zz];refine zr 10 λK hK=>?_
  go_simp
  refine zk hK 11 2047 0 (VS.out) λhHeld=>?_
  clear hK K;try simp only [zz]
  refine zn ?_ _
  go_wp2;go_ret;exact⟨a',cap',rfl,PX.out.1,PX.out.2⟩
 ·go_simp
  refine zk hK 11 111 5 (P_.out) λhHeld=>?_
  clear hK K;try simp only [zz]
  refine zr 4 λK hK=>?_
  go_simp
  refine zk hK 11 127 4 (P_.out) λhHeld=>?_
  clear hK K;try simp only [zz]
  refine zr 7 λK hK=>?_
  refine bR (.tmp 19) (.tmp 21) 71 rfl _ _ rfl rfl _ w4 PD.out ?_
  refine zk hK 11 255 3 (VD.out) λhHeld=>?_
  clear hK K;try simp only [zz]
  refine tn 8 11 511 2 ?_
  simp only [zz];refine tn 9 11 1023 1 ?_
  simp only [zz];refine zr 10 λK hK=>?_
  go_simp
  refine zk hK 11 2047 0 (VS.out) λhHeld=>?_
  clear hK K;try simp only [zz]
  refine zn ?_ _
  go_wp2;go_ret;exact⟨a',cap',rfl,PX.out.1,PX.out.2⟩
end Go.Proofs.YtffmodpgddecnaaGreatDoor.M
namespace Go.Proofs.YtffmodpgddecnaaGreatDoor.M
open Go.RowKit
variable {w w':World}{base g:Nat}{m:Int}{pa:Option Addr}{cap:Nat}{K:List Cp}
structure Bz (w:World)(b:Nat):Prop where
 c0:az w ⟨b,0,none⟩ (.int .i64 0)
 c1:az w ⟨b,1,none⟩ (.int .u64 0)
 c2:az w ⟨b,2,none⟩ (.int .u64 0)
theorem Bz.new (w:World):Bz (w.alloc (Obj.cells #[.int .i64 0,.int .u64 0,.int .u64 0] 37)) w.heap.size :=
 ⟨⟨by simp [go_sem],by simp [go_sem]⟩,⟨by simp [go_sem],by simp [go_sem]⟩,⟨by simp [go_sem],by simp [go_sem]⟩⟩
theorem Bz.but {S:Nat->Prop}{b:Nat}(h:Bz w b)(hb:ah S w w')(hn:¬S b):Bz w' b:=⟨h.c0.but hb hn,h.c1.but hb hn,h.c2.but hb hn⟩
theorem Bz.later {b:Nat}(h:Bz w b)(hb:Below w.heap.size w w'):Bz w' b:=h.but (S:=λ_=>False) (ah.of hb) (λh=>h)
theorem _root_.Go.Proofs.YtffmodpgddecnaaGreatDoor.wL.set {b:Nat}(h:Bz w b)(c:Cp):wL (Fw w b 0 c) b 0 c:=by
 unfold Fw;have h1:=h.c0.put (u:=.int .i64 c.1)
 have h2:=(h.c1.other (q:=⟨b,0,none⟩) (u:=.int .i64 c.1) (by simp)).put (u:=.int .u64 (c.2.1:Int))
 have h3:=((h.c2.other (q:=⟨b,0,none⟩) (u:=.int .i64 c.1) (by simp)).other (q:=⟨b,1,none⟩) (u:=.int .u64 (c.2.1:Int)) (by simp)).put (u:=.int .u64 (c.2.2:Int))
 exact⟨((h1.other (by simp)).other (by simp)).1,(h2.other (by simp)).1,h3.1⟩
theorem eJ (h:Dm w base g m pa cap K)(i:Nat)(c:Cp)(hc:K[i]?=some c) :
  Calls Tryz.prog 270 #[.pointer (some ⟨g,0,none⟩),.int .i64 (i:Int)] w λe w'=>e=.returned (.tuple #[.agg #[.int .i64 c.1,.int .u64 (c.2.1:Int),.int .u64 (c.2.2:Int)],.int .i64 0])/\Below w.heap.size w w':=by
 have hi:i<K.length:=(List.getElem?_eq_some_iff.1 hc).1
 obtain⟨w0,hw0⟩:∃w0,w0=w.alloc (Obj.cells #[.int .i64 0,.int .u64 0,.int .u64 0] 37):=⟨_,rfl⟩
 have hB0:Below w.heap.size w w0:=by rw [hw0];exact ae _ _
 obtain⟨⟨r0,f0⟩,⟨r1,f1⟩,⟨r2,f2⟩⟩:Bz w0 w.heap.size:=by rw [hw0];exact Bz.new w
 have h0:=h.later hB0
 have hh:=ab (aX h0 (i:Int))
 rw [show jg K (i:Int)=true from kK.2 ⟨by omega,by omega⟩] at hh;obtain⟨b,o,rfl,hcel⟩:=h0.rd.at_ (by omega)
 obtain⟨x0,x1,x2⟩:=hcel i c hc
 have y1:=h0.c1.1
 have HB:Hid (∀W,ah (·=w.heap.size) w0 W->Below w.heap.size w W):=λW hW=>ah.below hB0 hW (λk e=>by omega)
 clear h h0 hB0 hc hcel;go_enter Tryz.func270,Tryz.ntmps270
 go_upto_region 1 with fail
 rw [<-hw0];clear hw0;go_wp2_with (first|(go_at_call 271;refine hh.out.mono ?_;rintro e w9 ⟨rfl,hw9⟩;obtain rfl:=hw9.symm;clear hw9))
 exact bodyPost_ret (v:=.tuple #[.agg #[.int .i64 c.1,.int .u64 (c.2.1:Int),.int .u64 (c.2.2:Int)],.int .i64 0]) (by simp [results,Tryz.results270,go_sem,r0,r1,r2]) rfl ⟨rfl,HB.out _ (jb (S:=(·=w.heap.size)) (ah.refl _ _) (b:=w.heap.size) rfl 0 c)⟩
theorem oV (h:Dm w base g m pa cap K)(i:Int)(hb:jg K i=false) :
  Calls Tryz.prog 270 #[.pointer (some ⟨g,0,none⟩),.int .i64 i] w λe w'=>e=.returned (.tuple #[.agg #[.int .i64 0,.int .u64 0,.int .u64 0],.int .i64 15])/\Below w.heap.size w w':=by
 obtain⟨w0,hw0⟩:∃w0,w0=w.alloc (Obj.cells #[.int .i64 0,.int .u64 0,.int .u64 0] 37):=⟨_,rfl⟩
 have hB0:Below w.heap.size w w0:=by rw [hw0];exact ae _ _
 obtain⟨⟨r0,f0⟩,⟨r1,f1⟩,⟨r2,f2⟩⟩:Bz w0 w.heap.size:=by rw [hw0];exact Bz.new w
 have h0:=h.later hB0
 have hh:=ab (aX h0 i)
 rw [hb] at hh;have y1:=h0.c1.1
 have HB:Hid (∀W,ah (·=w.heap.size) w0 W->Below w.heap.size w W):=λW hW=>ah.below hB0 hW (λk e=>by omega)
 clear h h0 hB0;go_enter Tryz.func270,Tryz.ntmps270
 go_upto_region 1 with fail
 rw [<-hw0];clear hw0;go_wp2_with (first|(go_at_call 271;refine hh.out.mono ?_;rintro e w9 ⟨rfl,hw9⟩;obtain rfl:=hw9.symm;clear hw9))
 exact bodyPost_ret (v:=.tuple #[.agg #[.int .i64 0,.int .u64 0,.int .u64 0],.int .i64 15]) (by simp [results,Tryz.results270,go_sem,r0,r1,r2]) rfl ⟨rfl,HB.out _ (jb (S:=(·=w.heap.size)) (ah.refl _ _) (b:=w.heap.size) rfl 0 (0,0,0))⟩
end Go.Proofs.YtffmodpgddecnaaGreatDoor.M
namespace Go.Proofs.YtffmodpgddecnaaGreatDoor.M
open Go.RowKit
variable {w w':World}{base g:Nat}{m:Int}{pa:Option Addr}{cap:Nat}{K:List Cp}
theorem pV {P:Program}{w:World}{o:Oper}{ρ:Operand->Value}{ty:TypeId}{x:Operand}{lo hi mx:Option Operand}{vx v:Value}{vlo vhi vmx:Option Value}
  (ho:o.op=.slice ty x lo hi mx) (hx:ρ x=vx) (h1:lo.map ρ=vlo) (h2:hi.map ρ=vhi) (h3:mx.map ρ=vmx) (hr:(Instr.sliceAt ty vx vlo vhi vmx).run P w=.ok v w):(execOp ρ o).run P w=.ok (.value v) w:=by
 unfold execOp;simp only [ho,hx,h1,h2,h3,hr,Sem.run_bind,Sem.run_pure,Result.andThen_ok]
theorem oK (gg c l:Nat)(h:c≠l):Dq (some ⟨gg,0,none⟩) c l=some ⟨gg,l*3,none⟩:=by
 unfold Dq;rw [if_neg h,Option.map_some,aQ]
theorem ma {e:TypeId}{gg n:Nat}(h:Ow w base e 3 (some ⟨gg,0,none⟩) n cap (aF K))(i:Nat)(j:Nat)(v:Value)(hv:(aF (K.drop i))[j]?=some v):w.cell? ((⟨gg,i*3,none⟩:Addr).add j)=some v:=by
 rw [bB];refine h.rv gg rfl _ v ?_
 rw [<-jW,List.getElem?_drop] at hv;exact hv
theorem yN {gg i r:Nat}(h:Ow w base 37 3 (some ⟨gg,0,none⟩) (i+r+1) cap (aF K))(hl:K.length=i+r+1)(q:Option Addr)(hq:0<r->q=some ⟨gg,(i+1)*3,none⟩)(c2:Nat) :
  ∃w',(Builtin.copy_ #[71,71] 3 #[.slice (some ⟨gg,i*3,none⟩) (r+1) (cap - i),.slice q r c2]).run Tryz.prog w=.ok (.int .i64 (r:Int)) w'/\ah (·=gg) w w'/\Ow w' base 37 3 (some ⟨gg,0,none⟩) (i+r+1) cap (aF (K.take i++K.drop (i+1)++K.drop (i+r))):=by
 by_cases hr:r=0
 ·subst hr
  refine⟨w,gR w 71 71 3 37 3 _ _ _ _ _ _ Tryz.underlying71 k7 (by simp),ah.refl _ _,?_⟩
  rw [List.drop_eq_nil_of_le (show K.length<=i+1 by omega)];simpa using h
 ·rw [hq (by omega)]
  have hM:(K.drop (i+1)).length=r:=by rw [List.length_drop];omega
  have hmin:Nat.min r (r+1)=r:=Nat.min_eq_left (by omega)
  have hcl:(aF (K.drop (i+1))).length=r*3:=by rw [b_,hM]
  have hrun:=iN (P:=Tryz.prog) w 71 71 3 37 3 gg (i*3) (r+1) (cap - i) ⟨gg,(i+1)*3,none⟩ r c2 (aF (K.drop (i+1))) Tryz.underlying71 k7 (by rw [hcl,hmin]) (λj v hv=>ma h (i+1) j v hv) (λj hj=>h.some_ (by omega)) (λj _=>h.fr _) (lY _)
  rw [hmin] at hrun;refine⟨_,hrun,ah.setCells (S:=(·=gg)) (b:=gg) (by rfl) _ _ (ah.refl _ _),?_⟩
  have:=Ow.setCells (aF (K.drop (i+1))) (i*3) w _ h
  rw [g6 _ _ _ (by omega),hM] at this;exact this
theorem vU {gg i r:Nat}(h:Ow w base 37 3 (some ⟨gg,0,none⟩) (i+r+1) cap (aF (K.take i++K.drop (i+1)++K.drop (i+r))))(hl:K.length=i+r+1)(ty:TypeId)(c2:Nat) :
  ∃w',(Builtin.clear_ #[71] ty #[.slice (some ⟨gg,(i+r)*3,none⟩) 1 c2]).run Tryz.prog w=.ok (.tuple #[]) w'/\ah (·=gg) w w'/\Ow w' base 37 3 (some ⟨gg,0,none⟩) (i+r) cap (aF (K.take i++K.drop (i+1))):=by
 refine⟨_,mR w ty gg ((i+r)*3) c2 (λj hj=>h.some_ (by omega)) (λj _=>h.fr _),ah.setCells (S:=(·=gg)) (b:=gg) (by rfl) _ _ (ah.refl _ _),?_⟩
 have h1:=Ow.setCells (cH (0,0,0)) ((i+r)*3) w _ h
 have e0:cH (0,0,0)=aF [(0,0,0)]:=by simp [aF]
 have hl1:(K.take i++K.drop (i+1)).length=i+r:=by simp;omega
 rw [e0,g6 _ _ _ (by simp;omega)] at h1;have h2:=h1.shrink (m:=i+r) (by omega)
 rw [j0,List.append_assoc,List.take_append_of_le_length (by simp;omega),List.take_take,Nat.min_self,List.take_left' hl1] at h2;rw [e0];exact h2
theorem boxed {b:Nat}(hz:Bz w b)(hB:Below b w' w)(c:Cp):Bz (w.alloc (Obj.cells #[.int .i64 c.1,.int .u64 (c.2.1:Int),.int .u64 (c.2.2:Int)] 37)) b/\wL (w.alloc (Obj.cells #[.int .i64 c.1,.int .u64 (c.2.1:Int),.int .u64 (c.2.2:Int)] 37)) w.heap.size 0 c/\Below b w' (w.alloc (Obj.cells #[.int .i64 c.1,.int .u64 (c.2.1:Int),.int .u64 (c.2.2:Int)] 37)):=by
 have hb:=World.block_lt_of_cell? _ _ hz.c0.1
 exact⟨hz.later (ae _ _),⟨by simp [go_sem],by simp [go_sem],by simp [go_sem]⟩,hB.alloc (by simp at hb;omega) _⟩
theorem CH (h:Dm w base g m pa cap K)(i:Int)(hb:jg K i=false) :
  Calls Tryz.prog 190 #[.pointer (some ⟨g,0,none⟩),.int .i64 i] w λe w'=>e=.returned (.tuple #[.agg #[.int .i64 0,.int .u64 0,.int .u64 0],.int .i64 15])/\Below w.heap.size w w':=by
 obtain⟨w0,hw0⟩:∃w0,w0=w.alloc (Obj.cells #[.int .i64 0,.int .u64 0,.int .u64 0] 37):=⟨_,rfl⟩
 have hB0:Below w.heap.size w w0:=by rw [hw0];exact ae _ _
 have HZ:Hid (Bz w0 w.heap.size):=by rw [hw0];exact Bz.new w
 have hat:=ab (oV (h.later hB0) i hb)
 have HQ:Hid (∀w1,Below w0.heap.size w0 w1->Bz (w1.alloc (Obj.cells #[.int .i64 0,.int .u64 0,.int .u64 0] 37)) w.heap.size/\Below w.heap.size w (w1.alloc (Obj.cells #[.int .i64 0,.int .u64 0,.int .u64 0] 37))):=λw1 hb1=>by
  obtain⟨p1,p2,p3⟩:=boxed (HZ.out.later hb1) (aa hB0 hb1) (0,0,0)
  exact⟨p1,p3⟩
 clear h hB0 HZ;go_enter Tryz.func190,Tryz.ntmps190
 go_upto_region 1 with fail
 rw [<-hw0];clear hw0;go_upto_region 2 with (first|(go_at_call 270;refine hat.out.mono ?_;rintro e w1 ⟨rfl,hb1⟩;have PZ:=ab (HQ.out _ hb1);clear hb1))
 generalize w1.alloc (Obj.cells #[.int .i64 0,.int .u64 0,.int .u64 0] 37)=w3 at *
 obtain⟨⟨⟨r0,f0⟩,⟨r1,f1⟩,⟨r2,f2⟩⟩,HB⟩:=PZ.out
 have PE:=ab HB
 clear HB PZ HQ hat;go_wp2;exact bodyPost_ret (v:=.tuple #[.agg #[.int .i64 0,.int .u64 0,.int .u64 0],.int .i64 15]) (by simp [results,Tryz.results190,go_sem,r0,r1,r2]) rfl ⟨rfl,ah.below PE.out (jb (S:=(·=w.heap.size)) (ah.refl _ _) (b:=w.heap.size) rfl 0 (0,0,0)) (λk e=>by omega)⟩
theorem GV (h:Dm w base g m pa cap K)(i:Nat)(c:Cp)(hc:K[i]?=some c)(hL:K.length<=32) :
  Calls Tryz.prog 190 #[.pointer (some ⟨g,0,none⟩),.int .i64 (i:Int)] w λe w'=>e=.returned (.tuple #[.agg #[.int .i64 c.1,.int .u64 (c.2.1:Int),.int .u64 (c.2.2:Int)],.int .i64 0])/\Dm w' base g m pa cap (K.take i++K.drop (i+1))/\Wr w w' g pa pa:=by
 have hi:i<K.length:=(List.getElem?_eq_some_iff.1 hc).1
 obtain⟨r,hr⟩:∃r,K.length=i+r+1:=⟨K.length - i - 1,by omega⟩
 have hcap:=h.GU
 obtain⟨gg,rfl⟩:∃gg,pa=some ⟨gg,0,none⟩:=by
  rcases h.own.form with ⟨_,h1,_⟩|⟨gg,h1,_⟩
  ·omega
  ·exact⟨gg,h1⟩
 obtain⟨w0,hw0⟩:∃w0,w0=w.alloc (Obj.cells #[.int .i64 0,.int .u64 0,.int .u64 0] 37):=⟨_,rfl⟩
 have hB0:Below w.heap.size w w0:=by rw [hw0];exact ae _ _
 have HZ:Hid (Bz w0 w.heap.size):=by rw [hw0];exact Bz.new w
 have hat:=ab (eJ (h.later hB0) i c hc)
 have hgl:=h.lt
 have hggl:=(h.own.bT gg ⟨_,rfl,rfl⟩).2
 have HH:=ab h
 have hlt0:w.heap.size<w0.heap.size:=by rw [hw0];simp
 have HQ:Hid (∀w1,Below w0.heap.size w0 w1->w.heap.size<w1.heap.size/\Bz (w1.alloc (Obj.cells #[.int .i64 c.1,.int .u64 (c.2.1:Int),.int .u64 (c.2.2:Int)] 37)) w.heap.size/\wL (w1.alloc (Obj.cells #[.int .i64 c.1,.int .u64 (c.2.1:Int),.int .u64 (c.2.2:Int)] 37)) w1.heap.size 0 c/\Below w.heap.size w (w1.alloc (Obj.cells #[.int .i64 c.1,.int .u64 (c.2.1:Int),.int .u64 (c.2.2:Int)] 37))):=λw1 hb1=>⟨by have:=hb1.size;omega,boxed (HZ.out.later hb1) (aa hB0 hb1) c⟩
 have hs1:=λW=>pC W (some ⟨gg,0,none⟩) (i+r+1) cap i (by omega) (by omega)
 rw [oK _ _ _ (by omega),show i+r+1 - i=r+1 by omega] at hs1;obtain⟨q,hq⟩:∃q,q=Dq (some ⟨gg,0,none⟩) cap (i+1):=⟨_,rfl⟩
 have hs2:=λW=>pC W (some ⟨gg,0,none⟩) (i+r+1) cap (i+1) (by omega) (by omega)
 rw [<-hq,show i+r+1 - (i+1)=r by omega] at hs2;rw [show ((i+1:Nat):Int)=(i:Int)+1 by omega] at hs2;have Xs:Hid (0<r->q=some ⟨gg,(i+1)*3,none⟩):=λh0=>by rw [hq];exact oK _ _ _ (by omega)
 have hs3:=λW=>pC W (some ⟨gg,0,none⟩) (i+r+1) cap (i+r) (by omega) (by omega)
 rw [oK _ _ _ (by omega),show i+r+1 - (i+r)=1 by omega] at hs3;simp only [Int.natCast_add] at hs3;have hs4:=λW=>Eo W (some ⟨gg,0,none⟩) (i+r+1) cap (i+r) (by omega)
 simp only [Int.natCast_add] at hs4;have P_:=ab hs1
 have PV:=ab hs2
 have QS:=ab hs3
 have RH:=ab hs4
 have hir:i+r<32:=by omega
 have HR:=ab hr
 clear h hB0 HZ hlt0 hc hq hs1 hs2 hs3 hs4 hr;go_enter Tryz.func190,Tryz.ntmps190
 go_upto_region 1 with fail
 rw [<-hw0];clear hw0;go_upto_region 4 with (first|(go_at_call 270;refine hat.out.mono ?_;rintro e w1 ⟨rfl,hb1⟩;have PZ:=ab (HQ.out _ hb1);clear hb1))
 generalize w1.alloc (Obj.cells #[.int .i64 c.1,.int .u64 (c.2.1:Int),.int .u64 (c.2.2:Int)] 37)=w3 at *
 obtain⟨b6,hb6⟩:∃b6,b6=w1.heap.size:=⟨_,rfl⟩
 obtain⟨b4,hb4⟩:∃b4,b4=w.heap.size:=⟨_,rfl⟩
 have h3:=HH.out.later PZ.out.2.2.2
 have Xn:=ab PZ.out.2.2.2
 rw [<-hb6] at PZ ⊢
 have hb4e:=ab hb4
 rw [<-hb4] at PZ hgl hggl ⊢
 have Sr:=ab PZ.out
 have hb64:=Sr.out.1
 have hB6:Hid (b6<w3.heap.size):=by have:=World.block_lt_of_cell? _ _ Sr.out.2.2.1.c0;exact this
 have Qs:=ab h3
 have Qb:Hid (∀U,ah (·=gg) w3 U->U.cell? ⟨g,1,none⟩=some (.slice (some ⟨gg,0,none⟩) (i+r+1) cap)):=λU hU=>by
  have:=ag hU h3.c1.1 (λe=>h3.ap gg ⟨_,rfl,rfl⟩ e.symm)
  rwa [HR.out] at this
 have V2:Hid (∃w5,(Builtin.copy_ #[71,71] 3 #[.slice (some ⟨gg,i*3,none⟩) (r+1) (cap - i),.slice q r (cap - (i+1))]).run Tryz.prog w3.drew=.ok (.int .i64 (r:Int)) w5/\ah (·=gg) w3.drew w5/\Ow w5 base 37 3 (some ⟨gg,0,none⟩) (i+r+1) cap (aF (K.take i++K.drop (i+1)++K.drop (i+r)))):=by
  have ho:=(h3.later (Below.refl _ _).drew).own
  rw [HR.out] at ho;exact yN ho HR.out q Xs.out _
 have hwr:IntKind.i64.wrap ((i:Int)+(r:Int))=(i:Int)+(r:Int):=by rw [IntKind.wrap_i64];omega
 have hwr1:IntKind.i64.wrap ((i:Int)+1)=(i:Int)+1:=by rw [IntKind.wrap_i64];omega
 obtain⟨w5,hrun,hb5,ho5⟩:=V2.out
 have PD:=ab hrun
 have PI:=ab (show ah (·=gg) w3 w5 from (ah.of (Below.refl w3.heap.size w3).drew).trans hb5)
 have RA:=ab ho5
 clear PZ h3 hb6 hb4 HQ hat hrun hb5 ho5 V2 HH;refine wp_region_held_drew (S:=(λU:World=>U.cell? ⟨g,1,none⟩=some (.slice (some ⟨gg,0,none⟩) (i+r+1) cap))) (by kernel_rfl) (Qb.out _ (ah.of (Below.refl _ _).drew)) (λhHeld=>?_)
 refine nm 17 0 17 ?_
 refine tn 0 17 1 16 ?_
 simp only [zz];refine tn 1 17 3 15 ?_
 simp only [zz];refine tn 2 17 7 14 ?_
 simp only [zz];refine tn 3 17 15 13 ?_
 simp only [zz];refine tn 4 17 31 12 ?_
 simp only [zz];refine tn 5 17 63 11 ?_
 simp only [zz];refine tv 6 (v:=.slice (some ⟨gg,i*3,none⟩) (r+1) (cap - i)) ?_ ?_
 ·(intro w hSw;(try dsimp only at hSw);exact pV rfl rfl rfl rfl rfl (P_.out _))
 simp only [zz];refine nm 17 127 10 ?_
 refine tn 7 17 255 9 ?_
 simp only [zz];refine tn 8 17 511 8 ?_
 simp only [zz];refine tn 9 17 1023 7 ?_
 simp only [zz];refine tn 10 17 2047 6 ?_
 simp only [zz];refine tn 11 17 4095 5 ?_
 simp only [zz];refine tn 12 17 8191 4 ?_
 simp only [zz];refine tv 13 (v:=.slice q r (cap - (i+1))) ?_ ?_
 ·(intro w hSw;(try dsimp only at hSw);exact pV rfl rfl rfl rfl rfl (PV.out _))
 simp only [zz];refine nm 17 16383 3 ?_
 refine zr 14 λK hK=>?_
 refine ix (.tmp 25) (.tmp 32) 71 rfl _ _ rfl rfl _ w5 PD.out ?_
 refine zk hK 17 32767 2 (Qb.out _ PI.out) λhHeld=>?_
 clear hK K;try simp only [zz]
 refine tn 15 17 65535 1 ?_
 simp only [zz];refine tn 16 17 131071 0 ?_
 simp only [zz];refine zn ?_ _
 obtain⟨w6,hcl6,hb6,ho6⟩:=vU RA.out HR.out 0 (cap - (i+r))
 have Ui:=ab hcl6
 have hB56:=PI.out.trans hb6
 have y5:=hHeld
 have y6:=Qb.out w6 hB56
 have z6:w6.frozen? ⟨g,1,none⟩=false:=(Qs.out.c1.but hB56 (λe=>Qs.out.ap gg ⟨_,rfl,rfl⟩ e.symm)).2
 have hG:Gr (some ⟨gg,0,none⟩) (some ⟨gg,0,none⟩) w3 w6:=⟨hB56.mono (λk hk=>⟨_,rfl,hk.symm⟩),λk hk=>.inl hk⟩
 have hlen:(K.take i++K.drop (i+1)).length=i+r:=by have:=HR.out;simp;omega
 rw [<-hlen] at ho6;obtain⟨p1,p2⟩:=Qs.out.put hG ho6
 rw [hlen] at p1 p2;have hgb:∀k,(k=g\/aJ (some ⟨gg,0,none⟩) k)->k<b4:=λk hk=>by
  rcases hk with rfl|⟨_,e,rfl⟩
  ·exact hgl
  ·cases e;exact hggl
 obtain⟨⟨r0,f0⟩,⟨r1,f1⟩,⟨r2,f2⟩⟩:=Sr.out.2.1.but p2.but (λe=>by have:=hgb _ e;omega)
 obtain⟨x0,x1,x2⟩:=Sr.out.2.2.1.but p2.but (λe=>by have:=hgb _ e;omega)
 have PX:Hid (∀W,ah (·=b4) (w6.setCell ⟨g,1,none⟩ (.slice (some ⟨gg,0,none⟩) (i+r) cap)) W->Dm W base g m (some ⟨gg,0,none⟩) cap (K.take i++K.drop (i+1))/\Wr w W g (some ⟨gg,0,none⟩) (some ⟨gg,0,none⟩)):=λW hW=>by
  refine⟨p1.but hW (by omega) (λk hk e=>by obtain⟨_,e1,e2⟩:=hk;cases e1;simp only at e2;omega),?_,λk hk=>.inl hk⟩
  refine ((ah.of Xn.out).trans p2.but).comp hW (λk e=>.inr ?_)
  have:=hb4e.out
  omega
 have hne:¬cap=i+r:=by have:=HR.out;omega
 have hcc:(i:Int)+(r:Int)<=(cap:Int):=by have:=HR.out;omega
 clear p1 p2 hG hb6 ho6 hB56 hlen hgb hHeld;go_wp2_with (first|((with_reducible refine jN Ui.out ?_ ?_);· rfl))
 exact bodyPost_ret (v:=.tuple #[.agg #[.int .i64 c.1,.int .u64 (c.2.1:Int),.int .u64 (c.2.2:Int)],.int .i64 0]) (by simp [results,Tryz.results190,go_sem,r0,r1,r2]) rfl ⟨rfl,PX.out _ (jb (S:=(·=b4)) (ah.refl _ _) (b:=b4) rfl 0 c)⟩
end Go.Proofs.YtffmodpgddecnaaGreatDoor.M
namespace Go.Proofs.YtffmodpgddecnaaGreatDoor.M
open Go.RowKit
variable {w w':World}{base g:Nat}{m:Int}{pa:Option Addr}{cap:Nat}{K:List Cp}
theorem A9 (h:Dm w base g m pa cap K)(f:Nat)(hf:f<=K.length)(hL:K.length<=32) :
  Calls Tryz.prog 199 #[.pointer (some ⟨g,0,none⟩),.int .i64 (f:Int),.int .i64 0] w λe w'=>e=.returned (.slice pa 0 0)/\w'=w:=by
 have c1:=h.c1.1
 have hc:=h.GU
 have h1:(f:Int)<=(cap:Int):=by omega
 have hwr:IntKind.i64.wrap (f:Int)=(f:Int):=by rw [IntKind.wrap_i64];omega
 clear h;go_enter Tryz.func199,Tryz.ntmps199
 go_wp2;go_ret;exact⟨rfl,rfl⟩
theorem q8 {gg:Nat}(h:Dm w base g m (some ⟨gg,0,none⟩) cap K)(f n:Nat)(hf:f+n<=K.length)(hn:0<n)(hL:K.length<=32) :
  Calls Tryz.prog 199 #[.pointer (some ⟨g,0,none⟩),.int .i64 (f:Int),.int .i64 (n:Int)] w λe w'=>e=.returned (.slice (some ⟨gg,f*3,none⟩) n n)/\w'=w:=by
 have c1:=h.c1.1
 have hc:=h.GU
 have h1:(f:Int)+(n:Int)<=(cap:Int):=by omega
 have h2:¬n=0:=by omega
 have hwr:IntKind.i64.wrap ((f:Int)+(n:Int))=(f:Int)+(n:Int):=by rw [IntKind.wrap_i64];omega
 clear h;go_enter Tryz.func199,Tryz.ntmps199
 go_wp2;go_ret;refine⟨?_,rfl⟩
 show Ending.returned (Value.slice (some ⟨gg,f*3,none⟩) (f+n - f) (f+n - f))=_
 rw [Nat.add_sub_cancel_left]
theorem all_copy {b gg n:Nat}{M:List Cp}(h:Ow w base 37 3 (some ⟨gg,0,none⟩) n cap (aF K))(hl:K.length=n)(ho:Ow w b 37 3 (some ⟨b,0,none⟩) n n (aF M))(hm:M.length=n) :
  ∃w',(Builtin.copy_ #[71,71] 3 #[.slice (some ⟨b,0,none⟩) n n,.slice (some ⟨gg,0,none⟩) n n]).run Tryz.prog w=.ok (.int .i64 (n:Int)) w'/\ah (·=b) w w'/\Ow w' b 37 3 (some ⟨b,0,none⟩) n n (aF K):=by
 have hmin:Nat.min n n=n:=Nat.min_self n
 have hcl:(aF K).length=n*3:=by rw [b_,hl]
 have hrun:=iN (P:=Tryz.prog) w 71 71 3 37 3 b 0 n n ⟨gg,0,none⟩ n n (aF K) Tryz.underlying71 k7 (by rw [hcl,hmin]) (λj v hv=>by rw [aQ];exact h.rv gg rfl j v hv) (λj hj=>ho.some_ (by omega)) (λj _=>ho.fr _) (lY _)
 rw [hmin] at hrun;refine⟨_,hrun,ah.setCells (S:=(·=b)) (b:=b) (by rfl) _ _ (ah.refl _ _),?_⟩
 have:=Ow.setCells (aF K) (0*3) w _ ho
 rw [g6 _ _ _ (by omega)] at this;have hd:M.drop K.length=[]:=List.drop_eq_nil_of_le (by omega)
 simpa [hd] using this
theorem gW (h:Dm w base g m pa cap K)(hL:K.length<=32) :
  Calls Tryz.prog 115 #[.pointer (some ⟨g,0,none⟩)] w λe w'=>∃p c,e=.returned (.slice p K.length c)/\Ow w' w.heap.size 37 3 p K.length c (aF K)/\Below w.heap.size w w':=by
 obtain⟨w1,hmk,hO1,hB1⟩:=nW w K.length (by omega)
 have h1:=h.later hB1
 have c0:=h.c1.1
 have c1:=h1.c1.1
 obtain⟨b,hb⟩:∃b,b=w.heap.size:=⟨_,rfl⟩
 rw [<-hb] at hmk hO1;have Tt:=ab hb
 by_cases h0:K.length=0
 ·have hK:K=[]:=List.eq_nil_of_length_eq_zero h0
  subst hK;simp only [List.length_nil,Int.cast_ofNat_Int] at *
  have hcu:=ab (A9 h1 0 (Nat.le_refl _) (by simp))
  have hrun:=(gR (P:=Tryz.prog) w1 71 71 3 37 3 (some ⟨b,0,none⟩) pa 0 0 0 0 Tryz.underlying71 k7 (by simp))
  have QP:=ab hO1
  have PC:=ab hB1
  clear h h1 hO1 hB1 hb;go_enter Tryz.func115,Tryz.ntmps115
  go_wp2_with (first
   | (go_at_call 199;refine hcu.out.mono ?_;rintro e w9 ⟨rfl,hw9⟩;obtain rfl:=hw9.symm;clear hw9))
  go_ret;exact⟨_,_,rfl,by rw [<-Tt.out];simpa using QP.out,PC.out⟩
 ·obtain⟨gg,rfl⟩:∃gg,pa=some ⟨gg,0,none⟩:=by
   rcases h.own.form with ⟨_,h1,_⟩|⟨gg,h1,_⟩
   ·omega
   ·exact⟨gg,h1⟩
  have hcu:Hid (Calls Tryz.prog 199 #[.pointer (some ⟨g,0,none⟩),.int .i64 0,.int .i64 (K.length:Int)] w1 λe w'=>e=.returned (.slice (some ⟨gg,0,none⟩) K.length K.length)/\w'=w1):=by
   have:=q8 h1 0 K.length (by omega) (by omega) hL
   rw [Nat.zero_mul] at this;exact this
  obtain⟨w2,hrun,hb2,hO2⟩:=all_copy (b:=b) h1.own rfl hO1 (by simp)
  have PS:=ab hO2
  have PB:=ab (ah.below hB1 hb2 (λk e=>by omega))
  clear h h1 hO1 hB1 hb hb2 hO2;go_enter Tryz.func115,Tryz.ntmps115
  go_wp2_with (first
   | (go_at_call 199;refine hcu.out.mono ?_;rintro e w9 ⟨rfl,hw9⟩;obtain rfl:=hw9.symm;clear hw9))
  go_ret;exact⟨_,_,rfl,by rw [<-Tt.out];exact PS.out,PB.out⟩
end Go.Proofs.YtffmodpgddecnaaGreatDoor.M
namespace Go.Proofs.YtffmodpgddecnaaGreatDoor.M
open Go.RowKit
variable {w w':World}{base g:Nat}{m:Int}{pa:Option Addr}{cap:Nat}{K:List Cp}
def EV (K:List Cp)(i:Int):Cp:=(K[i.toNat]?).getD (0,0,0)
def bL (m:Int)(K:List Cp)(P:List Int):Int:=if P.all (jg K)=true then (if m<(P.length:Int) then 14 else 0) else 15
def cM (m:Int)(K:List Cp)(P:List Int):List Cp:=if bL m K P=0 then P.map (EV K) else []
theorem qE {P:List Int}(h:P.all (jg K)=false):bL m K P=15/\cM m K P=[]:=by
 have h1:bL m K P=15:=by unfold bL;rw [if_neg (by rw [h];decide)]
 exact⟨h1,by unfold cM;rw [h1,if_neg (by decide)]⟩
theorem wv {P:List Int}(h:P.all (jg K)=true)(hm:m<(P.length:Int)):bL m K P=14/\cM m K P=[]:=by
 have h1:bL m K P=14:=by unfold bL;rw [if_pos h,if_pos hm]
 exact⟨h1,by unfold cM;rw [h1,if_neg (by decide)]⟩
theorem xf {P:List Int}(h:P.all (jg K)=true)(hm:¬m<(P.length:Int)):bL m K P=0/\cM m K P=P.map (EV K):=by
 have h1:bL m K P=0:=by unfold bL;rw [if_pos h,if_neg hm]
 exact⟨h1,by unfold cM;rw [h1,if_pos rfl]⟩
theorem all_false {P:List Int}{j:Nat}{x:Int}(hx:P[j]?=some x)(hb:jg K x=false):P.all (jg K)=false:=by
 rw [List.all_eq_false];exact⟨x,List.mem_of_getElem? hx,by rw [hb];decide⟩
theorem all_true {P:List Int}(h:∀k,k<P.length->∀x,P[k]?=some x->jg K x=true):P.all (jg K)=true:=by
 rw [List.all_eq_true];intro x hx;obtain⟨k,hk⟩:=List.getElem?_of_mem hx
 exact h k (List.getElem?_eq_some_iff.1 hk).1 x hk
theorem zh {x:Int}(h:jg K x=true):∃k:Nat,x=(k:Int)/\k<K.length/\K[k]?=some (EV K x):=by
 obtain⟨h1,h2⟩:=kK.1 h
 refine⟨x.toNat,by omega,by omega,?_⟩
 unfold EV;rw [List.getElem?_eq_getElem (show x.toNat<K.length by omega)];rfl
theorem vN {b gg n nK j x:Nat}{M:List Cp}{c:Cp}(h:Ow w base 37 3 (some ⟨gg,0,none⟩) nK cap (aF K))(hc:K[x]?=some c)(ho:Ow w b 37 3 (some ⟨b,0,none⟩) n n (aF M))(hm:M.length=n)(hj:j<n) :
  ∃w',(Builtin.copy_ #[71,71] 3 #[.slice (some ⟨b,j*3,none⟩) (n - j) (n - j),.slice (some ⟨gg,x*3,none⟩) 1 1]).run Tryz.prog w=.ok (.int .i64 1) w'/\ah (·=b) w w'/\Ow w' b 37 3 (some ⟨b,0,none⟩) n n (aF (M.set j c)):=by
 have hmin:Nat.min 1 (n - j)=1:=Nat.min_eq_left (by omega)
 have hcl:(aF [c]).length=3:=by rw [b_];rfl
 have hrun:=iN (P:=Tryz.prog) w 71 71 3 37 3 b (j*3) (n - j) (n - j) ⟨gg,x*3,none⟩ 1 1 (aF [c]) Tryz.underlying71 k7 (by rw [hcl,hmin]) (λi v hv=>by
  refine ma h x i v ?_
  have e:K.drop x=[c]++K.drop (x+1):=by
   obtain⟨h1,h2⟩:=List.getElem?_eq_some_iff.1 hc
   rw [List.drop_eq_getElem_cons h1,h2];rfl
  rw [e,gD,List.getElem?_append_left (List.getElem?_eq_some_iff.1 hv).1];exact hv) (λi hi=>ho.some_ (by omega)) (λi _=>ho.fr _) (lY _)
 rw [hmin] at hrun;refine⟨_,hrun,ah.setCells (S:=(·=b)) (b:=b) (by rfl) _ _ (ah.refl _ _),?_⟩
 have:=Ow.setCells (aF [c]) (j*3) w _ ho
 rw [g6 _ _ _ (by simp;omega)] at this;rw [List.set_eq_take_append_cons_drop,if_pos (by omega)];simpa using this
def Io (w:World)(K:List Cp)(P:List Int)(t:Value)(w':World):Prop :=
 ∃j:Nat,j<=P.length/\t=.int .i64 (j:Int)/\(∀k,k<j->∀x,P[k]?=some x->jg K x=true)/\w=w'
def EA (w:World)(b:Nat)(K:List Cp)(P:List Int)(t:Value)(w':World):Prop :=
 ∃(j:Nat) (M:List Cp),j<=P.length/\t=.int .i64 (j:Int)/\M.length=P.length/\(∀k,k<j->∀x,P[k]?=some x->M[k]?=some (EV K x))/\Ow w' b 37 3 (some ⟨b,0,none⟩) P.length P.length (aF M)/\Below w.heap.size w w'
theorem lI {a:Option Addr}{np cp:Nat}{P:List Int}(h:Dm w base g m pa cap K)(hP:Row w a np cp (ints P))(hn:np<=9223372036854775807)(hL:K.length<=32)(hm:m<=32) :
  Calls Tryz.prog 191 #[.pointer (some ⟨g,0,none⟩),.slice a np cp] w λe w'=>∃p c,e=.returned (.tuple #[.slice p (cM m K P).length c,.int .i64 (bL m K P)])/\Ow w' w.heap.size 37 3 p (cM m K P).length c (aF (cM m K P))/\Below w.heap.size w w':=by
 have hl:P.length=np:=by have:=hP.len;rwa [aL] at this
 subst hl;have HH:=ab h
 have HP:=ab hP
 have c0:=h.c0
 have hha:=ab (λi=>aX h i)
 clear h hP;obtain⟨E,hE⟩:∃E,E=bL m K P:=⟨_,rfl⟩
 obtain⟨L,hLL⟩:∃L,L=cM m K P:=⟨_,rfl⟩
 rw [<-hE,<-hLL];have HE:=ab hE
 have TV:=ab hLL
 clear hE hLL;go_enter Tryz.func191,Tryz.ntmps191
 go_wp2;go_loopw [13] (Io w K P) (λt _=>P.length - (intOf t).toNat)
 case atStart=>exact⟨0,Nat.zero_le _,rfl,λk hk=>absurd hk (Nat.not_lt_zero _),rfl⟩
 case round =>
  obtain⟨j,hj,rfl,hok,rfl⟩:=hrel
  have RQ:=ab hok
  clear hok;by_cases hlt:j<P.length
  ·have hd:decide ((j:Int)<(P.length:Int))=true:=decide_eq_true (by omega)
   obtain⟨b1,o1,rfl,h1⟩:=HP.out.plain (by omega)
   have y1:=h1 j _ (ef P j hlt)
   obtain⟨x,hx⟩:∃x,x=P[j]:=⟨_,rfl⟩
   rw [<-hx] at y1;have HX:Hid (P[j]?=some x):=by rw [hx];exact List.getElem?_eq_getElem hlt
   clear h1 hx;by_cases hb:jg K x=true
   ·have hhx:=ab (hha.out x)
    rw [hb] at hhx;go_wp2_with (first|(go_at_call 271;refine hhx.out.mono ?_;rintro e w9 ⟨rfl,hw9⟩;obtain rfl:=hw9.symm;clear hw9))
    go_roundw
    case rel =>
     refine⟨j+1,by omega,by go_num,λk hk y hy=>?_,rfl⟩
     rcases Nat.lt_or_ge k j with h3|h3
     ·exact RQ.out k h3 y hy
     ·obtain rfl:k=j:=by omega
      rw [HX.out] at hy;cases hy
      exact hb
    case measure=>simp [intOf];omega
   ·have hb2:jg K x=false:=by simpa using hb
    have hhx:=ab (hha.out x)
    rw [hb2] at hhx;obtain⟨e1,e2⟩:=qE (m:=m) (all_false HX.out hb2)
    rw [<-HE.out] at e1;rw [<-TV.out] at e2;subst e1 e2
    go_wp2_with (first|(go_at_call 271;refine hhx.out.mono ?_;rintro e w9 ⟨rfl,hw9⟩;obtain rfl:=hw9.symm;clear hw9))
    exact bodyPost_ret (v:=.tuple #[.slice none 0 0,.int .i64 15]) (by simp [results,Tryz.results191,go_sem]) rfl ⟨none,0,rfl,Ow.nil _ _ _ _,Below.refl _ _⟩
  ·obtain rfl:j=P.length:=by omega
   have hall:=all_true RQ.out
   have hd:decide ((P.length:Int)<(P.length:Int))=false:=by simp
   by_cases hbig:m<(P.length:Int)
   ·obtain⟨e1,e2⟩:=wv hall hbig
    rw [<-HE.out] at e1;rw [<-TV.out] at e2;subst e1 e2
    have hd2:decide ((P.length:Int)>m)=true:=decide_eq_true hbig
    go_wp2;exact bodyPost_ret (v:=.tuple #[.slice none 0 0,.int .i64 14]) (by simp [results,Tryz.results191,go_sem]) rfl ⟨none,0,rfl,Ow.nil _ _ _ _,Below.refl _ _⟩
   ·obtain⟨e1,e2⟩:=xf hall hbig
    rw [<-HE.out] at e1;rw [<-TV.out] at e2;subst e1 e2
    have hd2:decide ((P.length:Int)>m)=false:=decide_eq_false hbig
    obtain⟨w1,hmk,hO1,hB1⟩:=nW w P.length (by omega)
    obtain⟨b,hbb⟩:∃b,b=w.heap.size:=⟨_,rfl⟩
    rw [<-hbb] at hmk hO1;have Tt:=ab hbb
    have hPn:P.length<=32:=by omega
    have WK:=ab hall
    have H0:Hid (EA w b K P (.int .i64 0) w1):=⟨0,List.replicate P.length (0,0,0),Nat.zero_le _,rfl,by simp,λk hk=>absurd hk (Nat.not_lt_zero _),hO1,hB1⟩
    clear hO1 hB1 hbb hall;go_upto_region 11 with fail
    go_loopw [34] (EA w b K P) (λt _=>P.length - (intOf t).toNat)
    case atStart=>exact H0.out
    case round =>
     obtain⟨j,M,hj,rfl,hMl,hM,hO,hB⟩:=hrel
     have HO:=ab hO
     have HB:=ab hB
     have HM:=ab hM
     clear hO hB hM H0 hmk;by_cases hlt:j<P.length
     ·have hd:decide ((j:Int)<(P.length:Int))=true:=decide_eq_true (by omega)
      obtain⟨x,hx⟩:∃x,P[j]?=some x:=⟨_,List.getElem?_eq_getElem hlt⟩
      obtain⟨k,rfl,hk,hkc⟩:=zh ((List.all_eq_true.1 WK.out) x (List.mem_of_getElem? hx))
      obtain⟨b1,o1,rfl,h1⟩:=(HP.out.later HB.out).plain (by omega)
      have y1:=h1 j (.int .i64 (k:Int)) (by simp only [ints,List.getElem?_map,hx,Option.map_some])
      have hD:=HH.out.later HB.out
      obtain⟨gg,rfl⟩:∃gg,pa=some ⟨gg,0,none⟩:=by
       rcases hD.own.form with ⟨_,h1,_⟩|⟨gg,h1,_⟩
       ·omega
       ·exact⟨gg,h1⟩
      have hcu:Hid (Calls Tryz.prog 199 #[.pointer (some ⟨g,0,none⟩),.int .i64 (k:Int),.int .i64 1] wr.drew λe w'=>e=.returned (.slice (some ⟨gg,k*3,none⟩) 1 1)/\w'=wr.drew):=q8 (hD.later (Below.refl _ _).drew) k 1 (by omega) (by omega) hL
      obtain⟨w5,hrun,hb5,ho5⟩:=vN (w:=wr.drew) (hD.later (Below.refl _ _).drew).own hkc (HO.out.later (Below.refl _ _).drew) hMl hlt
      have PD:=ab hrun
      have RA:=ab ho5
      have PI:Hid (Below w.heap.size w w5):=ah.below (HB.out.trans (Below.refl _ _).drew) hb5 (λk e=>by have:=Tt.out;omega)
      have HX:=ab hx
      have hne:¬P.length=j:=by omega
      clear h1 hD hkc hrun hb5 ho5 hx;go_upto_region 13 with fail
      go_region_held3 (λU=>True) (first|exact trivial) (first
       | (go_at_call 199;refine hcu.out.mono ?_;rintro e w9 ⟨rfl,hw9⟩;obtain rfl:=hw9.symm;clear hw9)
       | (refine ix (.tmp 41) (.tmp 44) 71 rfl _ _ rfl rfl _ w5 PD.out ?_))
      go_wp2;refine⟨⟨j+1,M.set j (EV K (k:Int)),by omega,by go_num,by simp;omega,λi hi y hy=>?_,RA.out,PI.out⟩,by simp [intOf];omega⟩
      rw [List.getElem?_set];rcases Nat.lt_or_ge i j with h3|h3
      ·rw [if_neg (by omega)]
       exact HM.out i h3 y hy
      ·obtain rfl:i=j:=by omega
       rw [HX.out] at hy;cases hy
       rw [if_pos rfl,if_pos (by omega)]
     ·obtain rfl:j=P.length:=by omega
      have hML:M=P.map (EV K):=by
       apply List.ext_getElem?
       intro i;rcases Nat.lt_or_ge i P.length with h3|h3
       ·rw [HM.out i h3 P[i] (List.getElem?_eq_getElem h3),List.getElem?_map,List.getElem?_eq_getElem h3]
        rfl
       ·rw [List.getElem?_eq_none (by omega),List.getElem?_eq_none (by simp;omega)]
      subst hML;have Sf:Hid ((P.map (EV K)).length=P.length):=by simp [Hid]
      go_wp2;refine bodyPost_ret (v:=.tuple #[.slice (some ⟨b,0,none⟩) P.length P.length,.int .i64 0]) (by simp [results,Tryz.results191,go_sem]) rfl ⟨some ⟨b,0,none⟩,P.length,by rw [Sf.out],?_,HB.out⟩
      rw [Sf.out,<-Tt.out];exact HO.out
end Go.Proofs.YtffmodpgddecnaaGreatDoor.M
namespace Go.Proofs.YtffmodpgddecnaaGreatDoor.P
open Go.RowKit
theorem below_drewN {w W:World}{n:Nat}(h:Below n w W)(k:Nat):Below n w (W.drewN k):=by
 exact⟨h.os,h.tape,h.output,h.size,h.block⟩
end Go.Proofs.YtffmodpgddecnaaGreatDoor.P
namespace Go.Proofs.YtffmodpgddecnaaGreatDoor.P
open Go.Shelf Go.RowKit Go.Sort
def Ke:Go.Shelf.Ren:=⟨fun|25=>178|31=>252|32=>253|37=>312|23=>341|15=>277|n=>n,fun|40=>62|22=>42|n=>n,fun|n=>n⟩
theorem I6:Lays2.n25 Tryz.prog Ke:={
 mixed:=by kernel_rfl,
 f25:=Tryz.func178.trans (congrArg some (by kernel_rfl)),
 f31:=Tryz.func252.trans (congrArg some (by kernel_rfl)),
 f32:=Tryz.func253.trans (congrArg some (by kernel_rfl)),
 f37:=Tryz.func312.trans (congrArg some (by kernel_rfl)),
 t0:=Tryz.underlying0,a0:=Tryz.isAgg0,z0:=Tryz.sizeOf0,v0:=Tryz.zeroValue0,
 t3:=Tryz.underlying3,a3:=Tryz.isAgg3,z3:=Tryz.sizeOf3,v3:=Tryz.zeroValue3,
 t4:=Tryz.underlying4,a4:=Tryz.isAgg4,z4:=Tryz.sizeOf4,v4:=Tryz.zeroValue4,
 t22:=Tryz.underlying42,a22:=Tryz.isAgg42,z22:=Tryz.sizeOf42,v22:=Tryz.zeroValue42,
 t40:=Tryz.underlying62,a40:=Tryz.isAgg62,z40:=Tryz.sizeOf62,v40:=Tryz.zeroValue62 }
theorem EF:Lays2.n15 Tryz.prog Ke:={
 mixed:=by kernel_rfl,
 f15:=Tryz.func277.trans (congrArg some (by kernel_rfl)),
 t3:=Tryz.underlying3,a3:=Tryz.isAgg3,z3:=Tryz.sizeOf3,v3:=Tryz.zeroValue3,
 t4:=Tryz.underlying4,a4:=Tryz.isAgg4,z4:=Tryz.sizeOf4,v4:=Tryz.zeroValue4,
 t22:=Tryz.underlying42,a22:=Tryz.isAgg42,z22:=Tryz.sizeOf42,v22:=Tryz.zeroValue42,
 i3:=qR }
theorem Jh:Lays2.n23 Tryz.prog Ke:={
 mixed:=by kernel_rfl,
 f23:=Tryz.func341.trans (congrArg some (by kernel_rfl)),
 t0:=Tryz.underlying0,a0:=Tryz.isAgg0,z0:=Tryz.sizeOf0,v0:=Tryz.zeroValue0,
 t3:=Tryz.underlying3,a3:=Tryz.isAgg3,z3:=Tryz.sizeOf3,v3:=Tryz.zeroValue3,
 t4:=Tryz.underlying4,a4:=Tryz.isAgg4,z4:=Tryz.sizeOf4,v4:=Tryz.zeroValue4,
 t22:=Tryz.underlying42,a22:=Tryz.isAgg42,z22:=Tryz.sizeOf42,v22:=Tryz.zeroValue42,
 i3:=qR }
theorem eW {w:World}{base g n cap:Nat}{L:List Int}(h:Own w base 3 (some ⟨g,0,none⟩) n cap (ints L)):∀j,j<L.length->w.cell? ⟨g,0+j,none⟩=some (.int .i64 (L.getD j 0)):=λj hj=>by
 have h1:=h.read.cells _ rfl j _ (ef L j hj)
 rw [bB] at h1;rw [h1];simp [List.getD,hj]
theorem kP {w:World}{base n cap:Nat}{a:Option Addr}{L:List Int}(h:Own w base 3 a n cap (ints L)):L.length=n:=by have:=h.len;rwa [aL] at this
theorem vm {w:World}{base n cap:Nat}{L:List Int}(h:Own w base 3 none n cap (ints L)):n=0/\cap=0/\L=[]:=by
 have h1:=h.read.none_ rfl
 exact⟨h1.1,h1.2,List.eq_nil_of_length_eq_zero (by rw [kP h];exact h1.1)⟩
theorem qo {w:World}{base n cap:Nat}{a:Addr}{L:List Value}(h:Own w base 3 (some a) n cap L):∃g,a=⟨g,0,none⟩:=by
 rcases h.row.2 with ⟨h1,h2⟩|⟨g,c,cur,hv,_⟩
 ·simp at h1
 ·simp only [Value.slice.injEq,Option.some.injEq] at hv
  exact⟨g,hv.1⟩
theorem sG (x:Int)(w:World):Calls Tryz.prog 178 #[.slice none 0 0,.int .i64 x] w λe w'=>e=.returned (.tuple #[.int .i64 0,.bool false])/\∃q,w'=w.drewN q:=by
 go_enter Tryz.func178,Tryz.ntmps178
 go_wp2;go_loopw [7,8] (λs t w'=>s=.int .i64 0/\t=.int .i64 0/\w=w') (λ_ _ _=>0)
 case atStart=>exact⟨rfl,rfl,rfl⟩
 case round =>
  obtain⟨rfl,rfl,rfl⟩:=hrel
  go_wp2;exact bodyPost_ret (v:=.tuple #[.int .i64 0,.bool false]) (by simp [results,Tryz.results178,go_sem]) rfl ⟨rfl,0,rfl⟩
theorem fF {w:World}{base n cap:Nat}{a:Option Addr}{L:List Int}(h:Own w base 3 a n cap (ints L))(hn:n<4611686018427387904)(hs:L.Pairwise (·<=·))(x:Int) :
  Calls Tryz.prog 178 #[.slice a n cap,.int .i64 x] w λe w'=>e=.returned (.tuple #[.int .i64 (L.countP (·<x):Nat),.bool (L.contains x)])/\∃q,w'=w.drewN q:=by
 cases a with
 | none =>
  obtain⟨rfl,rfl,rfl⟩:=vm h
  exact sG x w
 | some p =>
  obtain⟨g,rfl⟩:=qo h
  have hl:=kP h
  have h2:=Any.slices_BinarySearch_int I6 g 0 n cap L x w (by omega) hn (eW h) (by rw [List.take_of_length_le (by omega)];exact hs)
  rw [List.take_of_length_le (by omega)] at h2;exact h2
theorem uk {w:World}{base n cap:Nat}{a:Option Addr}{L:List Int}(h:Own w base 3 a n cap (ints L))(hb:base<=w.heap.size)(hn:n<=4096)(x:Int) :
  Calls Tryz.prog 243 #[.slice a n cap,.int .i64 n,.slice (some ⟨w.heap.size,0,none⟩) 1 1] (w.alloc (Obj.cells #[.int .i64 x] 3)) λe w'=>∃a' cap',e=.returned (.slice a' (n+1) cap')/\Own w' base 3 a' (n+1) cap' (ints (L++[x]))/\Gr a a' w w':=by
 have hc:=h.read.cap_
 have hm:cap<=maxLen:=by
  rcases h.row.2 with ⟨h1,h2⟩|⟨g,c,cur,hv,_,_,_,h4,_⟩
  ·simp only [Value.slice.injEq] at h1;unfold maxLen;omega
  ·simp only [Value.slice.injEq] at hv;omega
 unfold maxLen at hm;obtain⟨a',cap',w',hrun,hO,hG⟩:=lB x (.inl h) hb (by omega)
 have PD:=ab hrun
 have HO:=ab hO
 have HG:=ab hG
 clear hrun hO hG h;obtain⟨w1,hw1⟩:∃w1,w1=w.alloc (Obj.cells #[.int .i64 x] 3):=⟨_,rfl⟩
 obtain⟨vb,hvb⟩:∃vb,vb=w.heap.size:=⟨_,rfl⟩
 rw [<-hw1,<-hvb] at PD;rw [<-hw1,<-hvb];clear hw1 hvb;go_enter Tryz.func243,Tryz.ntmps243
 go_wp2_with (first|(at_builtin;refine al rfl _ _ 42 rfl _ _ rfl rfl _ w' PD.out ?_))
 all_goals
  go_ret;exact⟨a',cap',rfl,HO.out,HG.out⟩
theorem _root_.Go.Proofs.YtffmodpgddecnaaGreatDoor.Own.cut {w:World}{base:Nat}{e:TypeId}{g n cap m:Nat}{L:List Value}(h:Own w base e (some ⟨g,0,none⟩) n cap L)(hm:m<=n):Own w base e (some ⟨g,0,none⟩) m cap (L.take m):=by
 have hl:=h.len
 refine⟨⟨by rw [List.length_take];omega,?_⟩,λu hu=>h.one u (List.mem_of_mem_take hu)⟩
 rcases h.row.2 with ⟨h1,h2⟩|⟨g',c,cur,hv,h1,h2,h3,h4,h5,h6⟩
 ·simp at h1
 ·simp only [Value.slice.injEq] at hv
  obtain⟨hg,_,rfl⟩:=hv
  refine .inr ⟨g',cap,cur,by rw [hg],h1,h2,by omega,h4,h5,?_⟩
  rw [<-h6,List.take_take];congr 1
  omega
theorem nT (W:World):grow W #[]=W:=by simp [grow]
theorem tM {w:World}{base g n cap:Nat}{L:List Int}(h:Own w base 3 (some ⟨g,0,none⟩) n cap (ints L))(i:Nat)(hi:i<n) :
  Calls Tryz.prog 341 #[.slice (some ⟨g,0,none⟩) n cap,.int .i64 (i:Nat),.int .i64 (i+1:Nat)] w λe w'=>e=.returned (.slice (some ⟨g,0,none⟩) (n - 1) cap)/\Own w' base 3 (some ⟨g,0,none⟩) (n - 1) cap (ints (L.take i++L.drop (i+1)))/\ah (λk=>k=g) w w':=by
 have hl:=kP h
 subst hl;rcases h.row.2 with ⟨h1,_⟩|⟨g',c,cur,hv,hg,hh,h1,h2,h3,h4⟩
 ·simp at h1
 ·simp only [Value.slice.injEq,Option.some.injEq] at hv
  obtain⟨hg1,_,rfl⟩:=hv
  obtain rfl:g=g':=by simpa using hg1
  have hH:Holds (Value.int .i64) w g 0 L.toArray:=holds_of_blockI hh (by simpa [ints] using h4)
  have hd:=Any.slices_Delete_int Jh g 0 cap i (i+1) L w hH h1 (by unfold maxLen at h2;omega) (by omega) (by omega)
  refine hd.mono ?_
  rintro e w' ⟨rfl,q,rfl⟩
  have hone:i+1 - i=1:=by omega
  rw [hone];have hlen:(L.take i++L.drop (i+1)++List.replicate 1 0).length=L.length:=by simp;omega
  have ho:Own (putRow (Value.int .i64) (Sort.ahead w q) g 0 (L.take i++L.drop (i+1)++List.replicate 1 0).toArray) base 3 (some ⟨g,0,none⟩) L.length cap (ints (L.take i++L.drop (i+1)++List.replicate 1 0)):=by
   have:=ownsRow_sortedI (n:=q) (os:=#[]) hlen hg hh h1 h2 h3
   rw [nT] at this;exact⟨this,ep _⟩
  have hg2:w.grownBy (putRow (Value.int .i64) (Sort.ahead w q) g 0 (L.take i++L.drop (i+1)++List.replicate 1 0).toArray) (some g):=by
   have:=grownBy_sortedI (w:=w) (g:=g) (n:=q) (os:=#[]) (L.take i++L.drop (i+1)++List.replicate 1 0).toArray
   rw [nT] at this;exact this
  refine⟨rfl,?_,⟨hg2.os,hg2.tape,hg2.output,hg2.size,λk hk hn=>hg2.block k hk (λe=>hn (by simpa using e))⟩⟩
  have hcut:=ho.cut (m:=L.length - 1) (by omega)
  rw [bA,List.take_left' (by rw [aL];simp;omega)] at hcut
  exact hcut
theorem vZ {w:World}{base n cap:Nat}{a:Option Addr}{L:List Int}(h:Own w base 3 a n cap (ints L))(hn:n<=4096) :
  Calls Tryz.prog 277 #[.slice a n cap] w λe w'=>∃p c,e=.returned (.slice p n c)/\Own w' w.heap.size 3 p n c (ints L)/\Below w.heap.size w w':=by
 cases a with
 | none =>
  obtain⟨rfl,rfl,rfl⟩:=vm h
  refine (Any.slices_Clone_int_nil EF 0 0 w).mono ?_
  rintro e w' ⟨rfl,rfl⟩
  exact⟨none,0,rfl,Own.nil _ _ _,Below.refl _ _⟩
 | some p =>
  obtain⟨g,rfl⟩:=qo h
  have hl:=kP h
  refine (Any.slices_Clone_int EF g 0 n cap L w (by omega) (by omega) (eW h)).mono ?_
  rintro e w' ⟨v',rfl,ho,_,hb⟩
  rw [List.take_of_length_le (by omega)] at ho;rcases ho.2 with ⟨h1,h2⟩|⟨g',c,cur,hv,h3⟩
  ·subst h1
   exact⟨none,0,by rw [h2],⟨by rw [h2] at ho ⊢;exact ho,ep _⟩,hb⟩
  ·subst hv
   exact⟨_,c,rfl,⟨ho,ep _⟩,hb⟩
end Go.Proofs.YtffmodpgddecnaaGreatDoor.P
