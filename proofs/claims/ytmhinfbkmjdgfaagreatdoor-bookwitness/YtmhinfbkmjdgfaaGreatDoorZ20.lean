import Derived.Deep.CutBlock
import Derived.Test.YtmhinfbkmjdgfaaGreatDoorZ19
set_option linter.unusedVariables false
set_option linter.unusedSimpArgs false
set_option maxRecDepth 100000
set_option maxHeartbeats 8000000
namespace Go.Proofs.YtmhinfbkmjdgfaaGreatDoor.B
open Go.RowKit
variable {P:Nat->Prop}
theorem Row.rg {w:World}{b o n c:Nat}{L:List Nat}(h:Row w (some ⟨b,o,none⟩) n c L)(k:Nat):w.rangeAt b (o+k) (aN ((L.drop k).take 24)):=λj v hv=>by
 have hj:=(List.getElem?_eq_some_iff.1 hv).1
 rw [ao,List.length_take,List.length_drop] at hj;have hkj:k+j<L.length:=by omega
 have:=h.cells _ rfl (k+j) _ (dV L (k+j) hkj)
 rw [bq,<-Nat.add_assoc] at this;rw [this];rw [dV _ j (by rw [List.length_take,List.length_drop];omega)] at hv
 rw [<-hv];simp [List.getElem_take,List.getElem_drop]
theorem uT (m:Bm)(B:Bv)(p:Int)(F:List Nat)(w:World)(h:Bk P w m B)(hp:bQ p)(hl:F.length=24)(hs:∀x∈F,x<256) :
  ∃v,(∀U,Below w.heap.size w U->Calls Tryz.prog 171 #[.map (some m.bt),ab p,dk F] U λe w'=>e=.returned (.tuple #[.pointer v,.bool (B.told p F).isSome])/\Below U.heap.size U w')/\∀ls,B.told p F=some ls->RT P w (.pointer v) ls:=by
 rcases h.told.look p F (λj _ e=>iQ e) with ⟨hn,hg⟩|⟨a,v,hsm,hr,hg⟩
 ·rw [hn]
  exact⟨none,λU hU=>fe m.bt m.T p F none U (h.bw.later hU).told hp hl hs hg,λls e=>by cases e⟩
 ·rw [hsm]
  obtain⟨k,rfl,h1,h2⟩:=hr
  exact⟨_,λU hU=>fe m.bt m.T p F _ U (h.bw.later hU).told hp hl hs hg,λls e=>by cases e;exact⟨k,rfl,h1,h2⟩⟩
theorem Kept.bx {w w':World}{m:Bm}(h:Bw w m){p:Int}{k v:Value}(hk:Kept 3 w w' m.ba m.A p k v):Bx w' m.g m.cells:=by
 obtain⟨G',h1,h2,h3,h4,_⟩:=hk
 exact h.bx.but h4 (λhj=>(GV h.cr).2.2.2.2 _ hj rfl)
theorem pf (x:Int):wrap64 x=IntKind.i64.wrap x:=by unfold wrap64;rw [IntKind.wrap_i64]
def E3 (obj i:Int)(B:Bv):Bv:={ B with laid:=dN B.laid obj i none }
def kh (obj off:Int)(B:Bv):Nat->Bv
 | 0=>B
 | k+1=>E3 obj (wrap64 (wrap64 (off - 23)+(k:Int))) (kh obj off B k)
theorem yn (obj off:Int)(B:Bv)(k:Nat):(kh obj off B k).n=B.n/\(kh obj off B k).told=B.told/\(kh obj off B k).lists=B.lists/\(kh obj off B k).known=B.known/\(kh obj off B k).live=B.live:=by
 induction k with
 | zero=>exact⟨rfl,rfl,rfl,rfl,rfl⟩
 | succ k ih=>exact ih
theorem xM (m:Bm)(B:Bv)(p i:Int)(w:World)(h:Bk P w m B)(hp:bQ p)(hi:bQ i) :
  ∃mv w' m',(∀U,Below w.heap.size w U->(Instr.lookup 158 (.map (some m.ba)) (ab p) false).run Tryz.prog U=.ok (.map mv) U)/\(Builtin.delete_ #[267,3] 0 #[.map mv,ab i]).run Tryz.prog w=.ok (.tuple #[]) w'/\Bk P w' m' (E3 p i B)/\Tr w w' m m'/\m'.cells=m.cells/\(Instr.lookup 158 (.map (some m.ba)) (ab p) false).run Tryz.prog w'=.ok (.map mv) w':=by
 by_cases hx:∃g∈m.A,g.p=p
 ·obtain⟨g,hg,rfl⟩:=hx
  obtain⟨w',G',r,m2,e2,hin,b2,_⟩:=h.bw.laid.del dy Tryz.underlying267 hg (gS hi) 0 3
  have hS:∀j,j=g.b->j∈kk m.ba m.A:=λj e=>by subst e;exact List.mem_cons_of_mem _ (List.mem_map.2 ⟨g,hg,rfl⟩)
  obtain⟨k1,t1⟩:=h.kH b2 hS m2 (λx hx=>.inl (by rw [<-e2];exact List.mem_map.2 ⟨x,hx,rfl⟩)) ((h.laid.mono (λv a hr=>hr.but h.bw (b2.mono (λj hj=>.inl (by rw [g9];exact List.mem_append.2 (.inr (List.mem_append.2 (.inl (hS j hj)))):_∈_))) (λ_ h=>h))).del hin (λj e=>oA e))
  exact⟨some g.b,w',_,λU hU=>(h.bw.laid.later hU).out.vL dy Tryz.underlying158 (List.mem_map.2 ⟨g,hg,rfl⟩) false,r,k1,t1,rfl,(h.bw.laid.out.but b2 (λe=>(List.nodup_cons.1 h.bw.laid.cr).1 (by rw [e];exact List.mem_map.2 ⟨g,hg,rfl⟩))).vL dy Tryz.underlying158 (List.mem_map.2 ⟨g,hg,rfl⟩) false⟩
 ·have hn:∀g∈m.A,g.p≠p:=λg hg e=>hx ⟨g,hg,e⟩
  have e:E3 p i B=B:=by
   have:dN B.laid p i none=B.laid:=by
    funext q j
    unfold dN;split
    ·rename_i e
     cases hb:B.laid q j with
     | none=>rfl
     | some a =>
      obtain⟨x,⟨g,hg,e2,_⟩,_⟩:=h.laid.bwd q j a hb
      exact absurd (e2.trans e.1) (hn g hg)
    ·rfl
   unfold E3;rw [this]
  rw [e];have hlk:∀U,Below w.heap.size w U->(Instr.lookup 158 (.map (some m.ba)) (ab p) false).run Tryz.prog U=.ok (.map none) U:=λU hU=>(h.bw.laid.later hU).out.rD dy Tryz.underlying158 (gS hp) (λx hx=>by
   obtain⟨g,hg,rfl⟩:=List.mem_map.1 hx
   intro e;simp at e
   exact hn g hg e) (xw U) false
  exact⟨none,w,m,hlk,CG w dy Tryz.underlying267 (gS hi) 0 3,h,Tr.refl _ _,rfl,hlk w (Below.refl _ _)⟩
def Bj (b obj off:Int)(bs:List Nat)(B:Bv)(k:Nat):Bv:=match B.told b ((bs.drop k).take 24) with
 | some ls=>{ B with laid:=dN B.laid obj (wrap64 (off+(k:Int))) (some ls) }
 | none=>B
def fT (b obj off:Int)(bs:List Nat)(B:Bv):Nat->Bv
 | 0=>B
 | k+1=>Bj b obj off bs (fT b obj off bs B k) k
theorem GQ (b obj off:Int)(bs:List Nat)(B:Bv)(k:Nat):(fT b obj off bs B k).n=B.n/\(fT b obj off bs B k).told=B.told/\(fT b obj off bs B k).lists=B.lists/\(fT b obj off bs B k).known=B.known/\(fT b obj off bs B k).live=B.live:=by
 induction k with
 | zero=>exact⟨rfl,rfl,rfl,rfl,rfl⟩
 | succ k ih =>
  unfold fT Bj;split<;>exact ih
def G6 (P:Nat->Prop)(W:World)(m:Bm)(obj off:Int)(B:Bv)(N:Nat)(v:Value)(U:World):Prop:=∃k:Nat,v=ab (k:Int)/\k<=N/\∃m',Bk P U m' (kh obj off B k)/\Tr W U m m'
def Az (P:Nat->Prop)(W:World)(m:Bm)(b obj off:Int)(bs:List Nat)(B:Bv)(N:Nat)(v:Value)(U:World):Prop:=∃k:Nat,v=ab (k:Int)/\k<=N/\∃m',Bk P U m' (fT b obj off bs B k)/\Tr W U m m'
def lL (x:Cq)(bs:List Nat)(B:Bv):Bv:=if bs.length=0 then B else fT x.b x.c.o x.off bs (kh x.c.o x.off B (23+bs.length)) (bs.length - 23)
theorem tD (m:Bm)(B:Bv)(x:Cq)(bs:List Nat)(w:World)(h:Bk P w m B)(hx:x.ok)(hr:Row w x.d.a x.d.n x.d.c bs)(hd:∀j,aI x.d.a j->j<w.heap.size/\¬cA m j)(hn:bs.length<=100000000)(hcap:x.d.c<=9223372036854775807) :
  Calls Tryz.prog 101 #[aq m.g,x.v] w λe w'=>e=.returned (.tuple #[])/\∃m',Bk P w' m' (lL x bs B)/\Tr w w' m m':=by
 obtain⟨W,hW⟩:∃W,W=w.alloc (Obj.cells x.L.toArray 44):=⟨_,rfl⟩
 have hB:Below w.heap.size w W:=by rw [hW];exact ag _ _
 have OK:Hid (Bx W w.heap.size x.L):=by rw [hW];exact Bx.new w x.L _
 have O8:=ae (h.later hB)
 have PH:=ae h.bw.cK
 have HB:=ae hB
 have HW:=ae hW
 have QI:Hid (w.heap.size<W.heap.size):=OK.out.lt (by simp)
 have QK:=ae hx
 have Rs:=ae (hr.later hB)
 have T4:=ae hd
 have hlen:=hr.len
 have hc0:=hr.cap_
 obtain⟨xop,xb,xsz,⟨xo,xh,xl⟩,xgv,xrt,xoff,xnn,⟨xda,xdn,xdc⟩,xix,⟨xga,xgn,xgc⟩⟩:=x
 simp only at OK HW Rs T4 hlen hc0 hcap ⊢
 unfold lL;rw [hlen] at hn ⊢
 have UI:=ae hlen
 have hc1:(xdn:Int)<=(xdc:Int):=by omega
 have x10:=OK.out.cell 10 rfl
 clear h hB hW hx hr hd hlen;by_cases h0:xdn=0
 ·rw [if_pos h0]
  subst h0;go_enter Tryz.func101,Tryz.ntmps101
  go_upto_region 1 with fail
  rw [<-HW.out];go_wp2;exact bodyPost_ret (v:=.tuple #[]) (by simp [results,Tryz.results101,go_sem]) rfl ⟨rfl,m,O8.out,Tr.fh HB.out (Tr.refl _ _)⟩
 ·rw [if_neg h0]
  have h0':((xdn:Int)==0)=false:=by simp;omega
  have x3:=OK.out.cell 3 rfl
  simp only
  obtain⟨N,hN⟩:∃N,N=xdn - 23:=⟨_,rfl⟩
  rw [<-hN];have Xt:=ae hN
  clear hN;go_enter Tryz.func101,Tryz.ntmps101
  go_upto_region 1 with fail
  rw [<-HW.out];go_upto_region 4 with fail
  go_upto_block 0 with fail
  clear x10 x3;go_cut [4,5] (λa b U=>a=ab xo/\b=ab 23/\∃m',Bk P U m' (kh xo xoff B (23+xdn))/\Tr W U m m')
  case first =>
   go_wp2_with fail
   go_loopw [23] (G6 P W m xo xoff B (23+xdn)) (λv _=>23+xdn - jv v)
   case atStart=>exact⟨0,rfl,Nat.zero_le _,m,O8.out,Tr.refl _ _⟩
   case round =>
    obtain⟨k,rfl,hk,m1,hb1,ht1⟩:=hrel
    by_cases hkN:k<23+xdn
    ·have OI:=ae hb1
     have OV:=ae ht1
     have hlt:decide ((k:Int)<23+(xdn:Int))=true:=by simp;omega
     have OZ:=ae (OK.out.but OV.out.bt (λhj=>by have:=PH.out _ hj;omega))
     obtain⟨mv,w2,m2,hlk,hdl,hb2,ht2,hcl,hlk2⟩:=xM m1 _ xo (wrap64 (wrap64 (xoff - 23)+(k:Int))) wr.drew (hb1.drew) QK.out.c.1 (sS _)
     have Uq:Hid (∀U,Below wr.heap.size wr U->(Instr.lookup 158 (.map (some m1.ba)) (ab xo) false).run Tryz.prog U=.ok (.map mv) U):=λU hU=>hlk U ⟨hU.os,hU.tape,hU.output,hU.size,hU.block⟩
     simp only [pf] at hdl;have SR:=ae hdl
     have OH:Hid (Bk P w2 m2 (kh xo xoff B (k+1))):=hb2
     have OO:Hid (Tr wr w2 m1 m2):=Tr.fh (Below.refl _ _).drew ht2
     have HS:Hid (∀U,Below wr.heap.size wr U->(U.rangeAt m.g 0 m1.cells/\U.rangeAt w.heap.size 0 [ab xop,ab xb,ab xsz,ab xo,ai (xh:Int),ai (xl:Int),.bool xgv,ab xrt,ab xoff,ab xnn,.slice xda xdn xdc,ab xix,.slice xga xgn xgc]/\(Instr.lookup 158 (.map (some m1.ba)) (ab xo) false).run Tryz.prog U=.ok (.map mv) U)):=λU hU=>⟨by have:=(OI.out.bw.bx.later hU).range;rwa [OV.out.g] at this,(OZ.out.later hU).range,Uq.out U hU⟩
     have QS:Hid (w2.rangeAt m.g 0 m1.cells/\w2.rangeAt w.heap.size 0 [ab xop,ab xb,ab xsz,ab xo,ai (xh:Int),ai (xl:Int),.bool xgv,ab xrt,ab xoff,ab xnn,.slice xda xdn xdc,ab xix,.slice xga xgn xgc]/\(Instr.lookup 158 (.map (some m1.ba)) (ab xo) false).run Tryz.prog w2=.ok (.map mv) w2):=⟨by have:=OH.out.bw.bx.range;rw [hcl] at this;rw [<-OV.out.g,<-OO.out.g];exact this,(OZ.out.but OO.out.bt (λhj=>by rcases OV.out.gr _ hj with h1|h1;(have:=PH.out _ h1;omega);(have h2:=QI.out;omega))).range,hlk2⟩
     clear hlk hlk2 hdl hb2 ht2 hcl hb1 ht1;go_upto_region 7 with fail
     refine wp_region_held_drew (S:=(λU:World=>U.rangeAt m.g 0 m1.cells/\U.rangeAt w.heap.size 0 [ab xop,ab xb,ab xsz,ab xo,ai (xh:Int),ai (xl:Int),.bool xgv,ab xrt,ab xoff,ab xnn,.slice xda xdn xdc,ab xix,.slice xga xgn xgc]/\(Instr.lookup 158 (.map (some m1.ba)) (ab xo) false).run Tryz.prog U=.ok (.map mv) U)) (by kernel_rfl) (HS.out _ (Below.refl _ _).drew) (λhHeld=>?_)
     refine nm 13 0 13 ?_
     refine tn 0 13 1 12 ?_
     simp only [zz];refine tn 1 13 3 11 ?_
     simp only [zz];refine tn 2 13 7 10 ?_
     simp only [zz];refine wpAnyH_take (i:=3) (oi:=_) (v:=?_) rfl (by kernel_rfl) (by kernel_rfl) (by kernel_rfl) (λ_ _ _ h=>h) (Or.inl ⟨by rfl,?_⟩) (by assumption) ?_
     rotate_left
     ·(intro w hSw;have z3:=aG (j:=3) hSw.1 rfl;go_simp;try with_reducible rfl)
     simp only [zz];refine nm 13 15 9 ?_
     refine tn 4 13 31 8 ?_
     simp only [zz];refine tv 5 (v:=.map mv) ?_ ?_
     ·(intro w hSw;(try dsimp only at hSw);exact DY rfl rfl rfl hSw.2.2)
     simp only [zz];refine nm 13 63 7 ?_
     refine tn 6 13 127 6 ?_
     simp only [zz];refine wpAnyH_take (i:=7) (oi:=_) (v:=?_) rfl (by kernel_rfl) (by kernel_rfl) (by kernel_rfl) (λ_ _ _ h=>h) (Or.inl ⟨by rfl,?_⟩) (by assumption) ?_
     rotate_left
     ·(intro w hSw;have z8:=aG (j:=8) hSw.2.1 rfl;go_simp;try with_reducible rfl)
     simp only [zz];refine nm 13 255 5 ?_
     refine tn 8 13 511 4 ?_
     simp only [zz];refine tn 9 13 1023 3 ?_
     simp only [zz];refine tn 10 13 2047 2 ?_
     simp only [zz];refine tn 11 13 4095 1 ?_
     simp only [zz];refine zr 12 λK hK=>?_
     refine Ei rfl rfl rfl SR.out ?_
     refine zk hK 13 8191 0 (QS.out) λhHeld=>?_
     clear hK K;try simp only [zz]
     refine zn ?_ _
     go_wp2;exact⟨⟨k+1,rfl,by omega,m2,OH.out,OV.out.trans OO.out⟩,by simp [jv];omega⟩
    ·obtain rfl:k=23+xdn:=by omega
     have OI:=ae hb1
     have OV:=ae ht1
     have hlt:¬(((23+xdn:Nat):Int)<23+(xdn:Int)):=by omega
     clear hb1 ht1;go_wp2;go_meet;exact⟨rfl,rfl,m1,OI.out,OV.out⟩
  case rest =>
   rename World=>V0
   obtain⟨rfl,rfl,m1,hb1,ht1⟩:=hcut
   have OI:=ae hb1
   have OV:=ae ht1
   have OL:=ae (OK.out.but OV.out.bt (λhj=>by have:=PH.out _ hj;omega))
   have Ve:=ae (Rs.out.but OV.out.bt (λj hj=>(T4.out j hj).2))
   have RR:Hid (∀j,cA m1 j->j≠w.heap.size/\(∀i,aI xda i->j≠i)):=λj hj=>by
    have h2:=QI.out
    rcases OV.out.gr j hj with h1|h1
    ·have:=PH.out _ h1
     exact⟨by omega,λi hi e=>(T4.out i hi).2 (by rw [<-e];exact h1)⟩
    ·exact⟨by omega,λi hi e=>by have:=(T4.out i hi).1;omega⟩
   obtain⟨gb,gq,rfl,-⟩:=Rs.out.plain (by omega)
   have x10:=OL.out.cell 10 rfl
   have RS:Hid (∀U,Calls Tryz.prog 178 #[.slice (some ⟨gb,gq,none⟩) xdn xdc] U λe w'=>e=.returned (ab ((xdn - 23:Nat):Int))/\U=w'):=λU=>(lK _ xdn xdc U (by omega)).mono (λe w' h=>⟨h.1,h.2.symm⟩)
   have hN:=Xt.out
   rw [<-hN] at RS;have hN2:N<=100000000:=by omega
   have HN:Hid (∀k,k<N->k+24<=xdn):=λk hk=>by omega
   clear hb1 ht1 hN;go_wp2_with (first|(go_at_call 178;refine (RS.out _).mono ?_;rintro e w2 ⟨rfl,rfl⟩))
   clear x10 RS;go_loopw [42] (Az P V0 m1 xb xo xoff bs (kh xo xoff B (23+xdn)) N) (λv _=>N - jv v)
   case atStart=>exact⟨0,rfl,Nat.zero_le _,m1,OI.out,Tr.refl _ _⟩
   case round =>
    obtain⟨k,rfl,hk,m2,hb2,ht2⟩:=hrel
    by_cases hkN:k<N
    ·have OH:=ae hb2
     have OO:=ae ht2
     have hlt:decide ((k:Int)<(N:Int))=true:=by simp;omega
     have OZ:=ae (OL.out.but OO.out.bt (λhj=>(RR.out _ hj).1 rfl))
     have US:=ae (Ve.out.but OO.out.bt (λj hj hs=>(RR.out _ hs).2 j hj rfl))
     have Vq:Hid (∀j,cA m2 j->j≠w.heap.size):=λj hj=>by
      have h2:=QI.out
      rcases OO.out.gr j hj with h1|h1
      ·exact (RR.out j h1).1
      ·have:=OV.out.bt.size;omega
     have hk24:=HN.out k hkN
     obtain⟨F,hF⟩:∃F,F=(bs.drop k).take 24:=⟨_,rfl⟩
     have O1:Hid (F.length=24):=by unfold Hid;rw [hF,List.length_take,List.length_drop,UI.out];omega
     have Xe:Hid (∀x∈F,x<256):=λx hx=>by rw [hF] at hx;exact Rs.out.small x (List.mem_of_mem_drop (List.mem_of_mem_take hx))
     have O4:Hid ((Instr.loadAt 249 (.pointer (some ⟨gb,gq+k,none⟩))).run Tryz.prog wr=.ok (dk F) wr):=by
      have:=US.out.rg k
      rw [<-hF] at this;exact j6 this (by rw [ao];exact O1.out)
     obtain⟨vt,hlo,hrt⟩:=uT m2 _ xb F wr hb2 QK.out.b O1.out Xe.out
     have htd:=(GQ xb xo xoff bs (kh xo xoff B (23+xdn)) k).2.1
     have Pd:=ae hlo
     have Pt:Hid (Bx (wr.alloc (Obj.cells #[.int .u8 0,.int .u8 0,.int .u8 0,.int .u8 0,.int .u8 0,.int .u8 0,.int .u8 0,.int .u8 0,.int .u8 0,.int .u8 0,.int .u8 0,.int .u8 0,.int .u8 0,.int .u8 0,.int .u8 0,.int .u8 0,.int .u8 0,.int .u8 0,.int .u8 0,.int .u8 0,.int .u8 0,.int .u8 0,.int .u8 0,.int .u8 0] 249)) wr.heap.size (aN zF)):=Bx.new wr (aN zF) _
     have O6:=ae (pA (L:=aN F) (w:=wr.alloc (Obj.cells #[.int .u8 0,.int .u8 0,.int .u8 0,.int .u8 0,.int .u8 0,.int .u8 0,.int .u8 0,.int .u8 0,.int .u8 0,.int .u8 0,.int .u8 0,.int .u8 0,.int .u8 0,.int .u8 0,.int .u8 0,.int .u8 0,.int .u8 0,.int .u8 0,.int .u8 0,.int .u8 0,.int .u8 0,.int .u8 0,.int .u8 0,.int .u8 0] 249)) (b:=wr.heap.size) (o:=0) (by have:=Pt.out.there;rwa [ao,show zF.length=24 from rfl] at this) (by rw [ao];exact O1.out) (bJ F))
     have x10:=OZ.out.cell 10 rfl
     have hk1:(k:Int)<=(k:Int)+24:=by omega
     have hk2:(k:Int)+24<=(xdc:Int):=by omega
     have hk3:(k:Int)+24<=(xdn:Int):=by omega
     have harr:∀c U,(Instr.arrayAt 249 (.slice (some ⟨gb,gq+k,none⟩) 24 c)).run Tryz.prog U=.ok (.pointer (some ⟨gb,gq+k,none⟩)) U:=λc U=>by
      simp [Instr.arrayAt,run_underlying Tryz.underlying249]
     have UA:Hid (∀ls,B.told xb F=some ls->fT xb xo xoff bs (kh xo xoff B (23+xdn)) (k+1)={ fT xb xo xoff bs (kh xo xoff B (23+xdn)) k with laid:=dN (fT xb xo xoff bs (kh xo xoff B (23+xdn)) k).laid xo (wrap64 (xoff+(k:Int))) (some ls) }):=λls e=>by
      rw [fT];unfold Bj;have hm:(fT xb xo xoff bs (kh xo xoff B (23+xdn)) k).told xb ((bs.drop k).take 24)=some ls:=by rw [htd,<-hF,(yn xo xoff B (23+xdn)).2.1,e]
      rw [hm]
     have Xl:Hid (B.told xb F=none->fT xb xo xoff bs (kh xo xoff B (23+xdn)) (k+1)=fT xb xo xoff bs (kh xo xoff B (23+xdn)) k):=λe=>by
      rw [fT];unfold Bj;have hm:(fT xb xo xoff bs (kh xo xoff B (23+xdn)) k).told xb ((bs.drop k).take 24)=none:=by rw [htd,<-hF,(yn xo xoff B (23+xdn)).2.1,e]
      rw [hm]
     rw [htd,(yn xo xoff B (23+xdn)).2.1] at Pd hrt;have Q3:=ae hrt
     clear hb2 ht2 hlo hrt htd hF;go_upto_region 13 with (first|((with_reducible refine aJ O4.out ?_ ?_);(· rfl))|((with_reducible refine a_ O6.out ?_ ?_ ?_);(· rfl);(· rfl)))
     obtain⟨V2,hV2⟩:∃V,V=(wr.alloc (Obj.cells #[.int .u8 0,.int .u8 0,.int .u8 0,.int .u8 0,.int .u8 0,.int .u8 0,.int .u8 0,.int .u8 0,.int .u8 0,.int .u8 0,.int .u8 0,.int .u8 0,.int .u8 0,.int .u8 0,.int .u8 0,.int .u8 0,.int .u8 0,.int .u8 0,.int .u8 0,.int .u8 0,.int .u8 0,.int .u8 0,.int .u8 0,.int .u8 0] 249)).setCells wr.heap.size 0 (aN F):=⟨_,rfl⟩
     rw [<-hV2];obtain⟨kf,hkf⟩:∃k,k=wr.heap.size:=⟨_,rfl⟩
     have OT:Hid (Below wr.heap.size wr V2):=by rw [hV2];exact aj.below (ag _ _) (au (S:=(·=wr.heap.size)) rfl (aN F) 0 (aj.refl _ _)) (λk hk=>by omega)
     have Qc:Hid (Bx V2 kf (aN F)):=by rw [hkf,hV2];exact Pt.out.set (by rw [ao,ao,O1.out];rfl)
     rw [<-hkf];have UJ:Hid (m2.g=m.g):=OO.out.g.trans OV.out.g
     have HS:Hid (∀U,Below V2.heap.size V2 U->(U.rangeAt m.g 0 m2.cells/\U.rangeAt w.heap.size 0 [ab xop,ab xb,ab xsz,ab xo,ai (xh:Int),ai (xl:Int),.bool xgv,ab xrt,ab xoff,ab xnn,.slice (some ⟨gb,gq,none⟩) xdn xdc,ab xix,.slice xga xgn xgc]/\U.rangeAt kf 0 (aN F))):=λU hU=>⟨by have:=((OH.out.later OT.out).bw.bx.later hU).range;rwa [UJ.out] at this,((OZ.out.later OT.out).later hU).range,(Qc.out.later hU).range⟩
     clear x10 hV2 hkf Pt O6 O4 harr hk1 hk2 hk3 hk24;generalize kj:(B.told xb F).isSome=rb at Pd
     refine wp_region_held_drew (S:=(λU:World=>U.rangeAt m.g 0 m2.cells/\U.rangeAt w.heap.size 0 [ab xop,ab xb,ab xsz,ab xo,ai (xh:Int),ai (xl:Int),.bool xgv,ab xrt,ab xoff,ab xnn,.slice (some ⟨gb,gq,none⟩) xdn xdc,ab xix,.slice xga xgn xgc]/\U.rangeAt kf 0 (aN F))) (by kernel_rfl) (HS.out _ (Below.refl _ _).drew) (λhHeld=>?_)
     refine nm 13 0 13 ?_
     refine tn 0 13 1 12 ?_
     simp only [zz];refine tn 1 13 3 11 ?_
     simp only [zz];refine tn 2 13 7 10 ?_
     simp only [zz];refine wpAnyH_take (i:=3) (oi:=_) (v:=?_) rfl (by kernel_rfl) (by kernel_rfl) (by kernel_rfl) (λ_ _ _ h=>h) (Or.inl ⟨by rfl,?_⟩) (by assumption) ?_
     rotate_left
     ·(intro w hSw;have z4:=aG (j:=4) hSw.1 rfl;go_simp;try with_reducible rfl)
     simp only [zz];refine nm 13 15 9 ?_
     refine tn 4 13 31 8 ?_
     simp only [zz];refine wpAnyH_take (i:=5) (oi:=_) (v:=?_) rfl (by kernel_rfl) (by kernel_rfl) (by kernel_rfl) (λ_ _ _ h=>h) (Or.inl ⟨by rfl,?_⟩) (by assumption) ?_
     rotate_left
     ·(intro w hSw;have z1:=aG (j:=1) hSw.2.1 rfl;go_simp;try with_reducible rfl)
     simp only [zz];refine nm 13 63 7 ?_
     refine tv 6 (v:=dk F) ?_ ?_
     ·(intro w hSw;(try dsimp only at hSw);exact df rfl rfl (j6 hSw.2.2 (by rw [ao];exact O1.out)))
     simp only [zz];refine nm 13 127 6 ?_
     refine zr 7 λK hK=>?_
     go_simp
     go_wp2_with (first|(go_at_call 171;refine (Pd.out _ (aa OT.out (Below.refl _ _).drew)).mono ?_;rintro e w3 ⟨rfl,hb3⟩))
     have OJ:Hid (Below V2.heap.size V2 w3):=aa (Below.refl _ _).drew hb3
     clear hb3;refine zk hK 13 255 5 (HS.out _ OJ.out) λhHeld=>?_
     clear hK K;try simp only [zz]
     refine tn 8 13 511 4 ?_
     simp only [zz];refine tn 9 13 1023 3 ?_
     simp only [zz];refine tn 10 13 2047 2 ?_
     simp only [zz];refine tn 11 13 4095 1 ?_
     simp only [zz];refine tn 12 13 8191 0 ?_
     simp only [zz];refine zn ?_ _
     have Po:Hid (Below wr.heap.size wr w3):=aa OT.out OJ.out
     cases rb with
     | false =>
      have hnone:B.told xb F=none:=by
       cases e:B.told xb F with
       | none=>rfl
       | some a=>rw [e] at kj;cases kj
      go_wp2;exact⟨⟨k+1,rfl,by omega,m2,by rw [Xl.out hnone];exact OH.out.later Po.out,OO.out.later Po.out⟩,by simp [jv];omega⟩
     | true =>
      obtain⟨ls,hsome⟩:∃ls,B.told xb F=some ls:=Option.isSome_iff_exists.1 kj
      have Tx:Hid (∀U,Below w3.heap.size w3 U->Calls Tryz.prog 180 #[.map (some m2.ba),ab xo,ab (IntKind.i64.wrap (xoff+(k:Int))),.pointer vt] U λe w'=>e=.returned (.tuple #[])/\Bx w' m2.g m2.cells/\∃m',Bk P w' m' (fT xb xo xoff bs (kh xo xoff B (23+xdn)) (k+1))/\Tr U w' m2 m'):=λU hU=>by
       have hb:=(OH.out.later Po.out).later hU
       have hwi:bQ (IntKind.i64.wrap (xoff+(k:Int))):=by rw [<-pf];exact sS _
       refine (uS m2.ba m2.A xo _ vt hwi U hb.bw.laid QK.out.c.1).mono ?_
       rintro e w' ⟨rfl,hkp⟩
       have hrt:=(Q3.out ls hsome).but OH.out.bw (aj.of (S:=λ_=>False) (aa Po.out hU)) (λ_ h=>h.elim)
       obtain⟨m',q1,q2⟩:=Kept.laid hb hkp hwi hrt
       refine⟨rfl,hkp.bx hb.bw,m',?_,q2⟩
       rw [UA.out ls hsome,pf];exact q1
      clear kj hsome;have OW:Hid (∀U,Below w3.heap.size w3 U->(U.rangeAt m.g 0 m2.cells/\U.rangeAt w.heap.size 0 [ab xop,ab xb,ab xsz,ab xo,ai (xh:Int),ai (xl:Int),.bool xgv,ab xrt,ab xoff,ab xnn,.slice (some ⟨gb,gq,none⟩) xdn xdc,ab xix,.slice xga xgn xgc])):=λU hU=>⟨by have:=(((OH.out.later Po.out)).bw.bx.later hU).range;rwa [UJ.out] at this,((OZ.out.later Po.out).later hU).range⟩
      go_upto_region 15 with fail
      refine wp_region_held_drew (S:=(λU:World=>U.rangeAt m.g 0 m2.cells/\U.rangeAt w.heap.size 0 [ab xop,ab xb,ab xsz,ab xo,ai (xh:Int),ai (xl:Int),.bool xgv,ab xrt,ab xoff,ab xnn,.slice (some ⟨gb,gq,none⟩) xdn xdc,ab xix,.slice xga xgn xgc])) (by kernel_rfl) (OW.out _ (Below.refl _ _).drew) (λhHeld=>?_)
      refine nm 11 0 11 ?_
      refine tn 0 11 1 10 ?_
      simp only [zz];refine tn 1 11 3 9 ?_
      simp only [zz];refine tn 2 11 7 8 ?_
      simp only [zz];refine wpAnyH_take (i:=3) (oi:=_) (v:=?_) rfl (by kernel_rfl) (by kernel_rfl) (by kernel_rfl) (λ_ _ _ h=>h) (Or.inl ⟨by rfl,?_⟩) (by assumption) ?_
      rotate_left
      ·(intro w hSw;have z3:=aG (j:=3) hSw.1 rfl;go_simp;try with_reducible rfl)
      simp only [zz];refine nm 11 15 7 ?_
      refine tn 4 11 31 6 ?_
      simp only [zz];refine tn 5 11 63 5 ?_
      simp only [zz];refine wpAnyH_take (i:=6) (oi:=_) (v:=?_) rfl (by kernel_rfl) (by kernel_rfl) (by kernel_rfl) (λ_ _ _ h=>h) (Or.inl ⟨by rfl,?_⟩) (by assumption) ?_
      rotate_left
      ·(intro w hSw;have z8:=aG (j:=8) hSw.2 rfl;go_simp;try with_reducible rfl)
      simp only [zz];refine nm 11 127 4 ?_
      refine tn 7 11 255 3 ?_
      simp only [zz];refine tn 8 11 511 2 ?_
      simp only [zz];refine tn 9 11 1023 1 ?_
      simp only [zz];refine zr 10 λK hK=>?_
      go_simp
      go_wp2_with (first|(go_at_call 180;refine (Tx.out _ (Below.refl _ _).drew).mono ?_;rintro e w4 ⟨rfl,hbx3,m3,hb3,ht3⟩))
      have OM:=ae hb3
      have O_:Hid (Tr wr w4 m2 m3):=Tr.fh Po.out (Tr.fh (Below.refl _ _).drew ht3)
      have QS:Hid (w4.rangeAt m.g 0 m2.cells/\w4.rangeAt w.heap.size 0 [ab xop,ab xb,ab xsz,ab xo,ai (xh:Int),ai (xl:Int),.bool xgv,ab xrt,ab xoff,ab xnn,.slice (some ⟨gb,gq,none⟩) xdn xdc,ab xix,.slice xga xgn xgc]):=⟨by have:=hbx3.range;rwa [UJ.out] at this,((OZ.out.later Po.out).but (Tr.fh (Below.refl _ _).drew ht3).bt (λhj=>Vq.out _ hj rfl)).range⟩
      clear hb3 ht3 hbx3;refine zk hK 11 2047 0 (QS.out) λhHeld=>?_
      clear hK K;try simp only [zz]
      refine zn ?_ _
      go_wp2;exact⟨⟨k+1,rfl,by omega,m3,OM.out,OO.out.trans O_.out⟩,by simp [jv];omega⟩
    ·obtain rfl:k=N:=by omega
     have hlt:decide ((k:Int)<(k:Int))=false:=by simp
     have OH:=ae hb2
     have OO:=ae ht2
     clear hb2 ht2;go_wp2;exact bodyPost_end (v:=.tuple #[]) (by simp [results,Tryz.results101,go_sem]) rfl ⟨rfl,m2,OH.out,Tr.fh HB.out (OV.out.trans OO.out)⟩
end Go.Proofs.YtmhinfbkmjdgfaaGreatDoor.B
namespace Go.Proofs.YtmhinfbkmjdgfaaGreatDoor.B
open Go.RowKit
variable {P:Nat->Prop}
theorem Bk.wO {S:Nat->Prop}{U w7:World}{m:Bm}{B:Bv}(h:Bk P U m B){p:Int}(hp:bQ p){s s':Sl}{l l':List Cp}(hs:CV m.I p s l)(hb:aj S U w7)(hS:∀j,S j->aI s.a j)(ho:Ow w7 (m.g+1) 37 3 s'.a s'.n s'.c (aU l'))(hl':l'.length=s'.n)(hf:∀c∈l',c.eY)(hd:∀j,aI s'.a j->aI s.a j\/¬cA m j) :
  ∃w8 m',(Instr.mapUpdate 157 (.map (some m.bi)) (ab p) (.slice s'.a s'.n s'.c)).run Tryz.prog w7=.ok () w8/\Bk P w8 m' { B with lists:=ke B.lists p l' }/\m'.g=m.g/\aj (cA m) U w8/\(∀j,cA m' j->cA m j\/aI s'.a j)/\m'.cells=m.cells/\aj (cA m) U w7:=by
 have hsI:∀j,aI s.a j->∃k∈m.I,aI k.s.a j:=λj hj=>by
  rcases hs with hk|⟨rfl,_,_⟩
  ·exact⟨_,hk,hj⟩
  ·obtain⟨x,hx,_⟩:=hj
   cases hx
 have hgl:m.g<U.heap.size:=h.bw.lo m.g (by simp)
 obtain⟨w8,I',r8,m8,hin,b8⟩:=h.bw.lists.set hp (s':=s') (l':=l') hs hb (λhj=>by
  obtain⟨k,hk,hj2⟩:=hsI _ (hS _ hj)
  obtain⟨es,clk,h1,_⟩:=h.bw.lists.out.ex
  exact jo h1 (h.bw.lists.each k hk).1 hj2) hS ho hl' (λj hj=>(hd j hj).imp id (λh1 k hk hj2=>h1 (.inr (.inl ⟨k,hk,hj2⟩))))
 have hb7:aj (λj=>j=m.bi\/∃k∈m.I,aI k.s.a j) U w7:=hb.mono (λj hj=>.inr (hsI j (hS j hj)))
 have hb8:aj (λj=>j=m.bi\/∃k∈m.I,aI k.s.a j) U w8:=hb7.trans (b8.mono (λj e=>.inl e))
 have hown:∀j,(j=m.bi\/∃k∈m.I,aI k.s.a j)->cA m j:=λj hj=>by
  rcases hj with rfl|hj
  ·exact .inl (by simp [Bm.aR])
  ·exact .inr (.inl hj)
 obtain⟨q1,q2,q3⟩:=h.bw.qm hb8 (λj hj=>hj) m8 (λx hx j hj=>by
  rcases (hin x).1 hx with rfl|⟨h1,_⟩
  ·rcases hd j hj with h1|h1
   ·exact .inl (hsI j h1)
   ·exact .inr h1
  ·exact .inl ⟨x,h1,hj⟩)
 refine⟨w8,{ m with I:=I' },r8,⟨q1,h.n,h.live,h.laid.mono (λv a hr=>hr.but h.bw q2 (λ_ h=>h)),h.told.mono (λv a hr=>hr.but h.bw q2 (λ_ h=>h)),h.lists.set hin hf,h.known,h.Df,h.jU,λk hk=>h.pn k (Nat.le_trans q2.size hk)⟩,rfl,q2,λj hj=>?_,rfl,hb7.mono hown⟩
 rcases q3 j hj with h1|⟨x,hx,hj2⟩
 ·exact .inl h1
 ·rcases (hin x).1 hx with rfl|⟨h2,_⟩
  ·exact .inr hj2
  ·exact .inl (.inr (.inl ⟨x,h2,hj2⟩))
def j_ (L:List Cp)(b nu:Int)(r:List Cp×Bv)(g:Int):List Cp×Bv :=
 if 0<=g/\g<(L.length:Int) then
  match L[g.toNat]? with
  | some x=>(r.1++[x],match dR r.2 b x with|some ls=>bo r.2 4 b nu x ls|none=>r.2)
  | none=>r
 else r
def fI (L:List Cp)(b nu:Int)(B:Bv)(gs:List Int):List Cp×Bv:=gs.foldl (j_ L b nu) ([],B)
theorem Hm (L:List Cp)(b nu:Int)(r:List Cp×Bv)(g:Int):(j_ L b nu r g).2.n=r.2.n/\(j_ L b nu r g).2.lists=r.2.lists/\(j_ L b nu r g).2.laid=r.2.laid/\(j_ L b nu r g).2.live=r.2.live/\(∀p,((j_ L b nu r g).2.known p).length<=(r.2.known p).length+1)/\(j_ L b nu r g).1.length<=r.1.length+1/\∀c∈(j_ L b nu r g).1,c∈r.1\/c∈L:=by
 unfold j_;split
 ·split
  ·rename_i x hx
   simp only [List.length_append,List.length_singleton];refine⟨?_,?_,?_,?_,λp=>?_,by omega,λc hc=>?_⟩
   ·split
    ·exact (iR _ _ _ _ _ _).1
    ·rfl
   ·split
    ·exact (iR _ _ _ _ _ _).2.2.1
    ·rfl
   ·split
    ·exact (iR _ _ _ _ _ _).2.1
    ·rfl
   ·split
    ·exact (iR _ _ _ _ _ _).2.2.2
    ·rfl
   ·split
    ·exact mZ _ _ _ _ _ _ _
    ·omega
   ·rcases List.mem_append.1 hc with hc|hc
    ·exact .inl hc
    ·rw [List.mem_singleton.1 hc]
     exact .inr (List.mem_of_getElem? hx)
  ·exact⟨rfl,rfl,rfl,rfl,λp=>by omega,by omega,λc hc=>.inl hc⟩
 ·exact⟨rfl,rfl,rfl,rfl,λp=>by omega,by omega,λc hc=>.inl hc⟩
theorem D4 (L:List Cp)(b nu:Int):∀(gs:List Int) (r:List Cp×Bv),(gs.foldl (j_ L b nu) r).2.n=r.2.n/\(gs.foldl (j_ L b nu) r).2.lists=r.2.lists/\(gs.foldl (j_ L b nu) r).2.laid=r.2.laid/\(gs.foldl (j_ L b nu) r).2.live=r.2.live/\(∀p,((gs.foldl (j_ L b nu) r).2.known p).length<=(r.2.known p).length+gs.length)/\(gs.foldl (j_ L b nu) r).1.length<=r.1.length+gs.length/\∀c∈(gs.foldl (j_ L b nu) r).1,c∈r.1\/c∈L
 | [],r=>⟨rfl,rfl,rfl,rfl,λp=>by simp,by simp,λc hc=>.inl hc⟩
 | g::gs,r=>by
  obtain⟨h1,h2,h3,h4,h5,h6,h7⟩:=D4 L b nu gs (j_ L b nu r g)
  obtain⟨k1,k2,k3,k4,k5,k6,k7⟩:=Hm L b nu r g
  simp only [List.foldl_cons,List.length_cons];exact⟨h1.trans k1,h2.trans k2,h3.trans k3,h4.trans k4,λp=>by have:=h5 p;have:=k5 p;omega,by omega,λc hc=>(h7 c hc).elim (λh=>k7 c h) .inr⟩
theorem Ay (L:List Cp)(b nu:Int)(B:Bv)(gs:List Int):(fI L b nu B gs).2.n=B.n/\(fI L b nu B gs).2.lists=B.lists/\(fI L b nu B gs).2.laid=B.laid/\(fI L b nu B gs).2.live=B.live/\(∀p,((fI L b nu B gs).2.known p).length<=(B.known p).length+gs.length)/\(fI L b nu B gs).1.length<=gs.length/\∀c∈(fI L b nu B gs).1,c∈L:=by
 obtain⟨h1,h2,h3,h4,h5,h6,h7⟩:=D4 L b nu gs ([],B)
 exact⟨h1,h2,h3,h4,h5,by have h:=h6;simp only [List.length_nil,Nat.zero_add] at h;exact h,λc hc=>(h7 c hc).elim (λh=>by cases h) id⟩
theorem yU (L:List Cp)(b nu:Int)(B:Bv)(gs:List Int)(k:Nat)(g:Int)(hk:gs[k]?=some g):fI L b nu B (gs.take (k+1))=j_ L b nu (fI L b nu B (gs.take k)) g:=by
 unfold fI;have hkl:=(List.getElem?_eq_some_iff.1 hk)
 obtain⟨h1,h2⟩:=hkl
 rw [List.take_succ_eq_append_getElem h1,List.foldl_append,h2];rfl
end Go.Proofs.YtmhinfbkmjdgfaaGreatDoor.B
namespace Go.Proofs.YtmhinfbkmjdgfaaGreatDoor.B
open Go.RowKit
variable {P:Nat->Prop}
variable {L:List Value}{base cap n:Nat}{a:Option Addr}{w w':World}
theorem gK.row (ho:Ow w base 37 3 a n cap L)(hb:aj (aI a) w w'):∀{ls:List Lk} {p:Option Addr},gK P w p ls->gK P w' p ls
 | [],p,h'=>h'
 | x::ls,p,⟨k,ah,e,hp,ht,hr⟩=>⟨k,ah,e,hp,ht.but hb (ht.row ho),gK.row ho hb hr⟩
theorem Bk.row {m:Bm}{B:Bv}(h:Bk P w m B)(ho:Ow w base 37 3 a n cap L)(hn:∀j,aI a j->¬cA m j)(hb:aj (aI a) w w'):Bk P w' m B:=by
 have hr:∀v ls,RT P w v ls->RT P w' v ls:=λv ls ⟨k,e,ht,hk⟩=>⟨k,e,ht.row ho hb,hk⟩
 have h1:∀j∈m.aR,¬aI a j:=λj hj hb=>hn j hb (.inl hj)
 have h2:∀x∈m.I,∀j,aI x.s.a j->¬aI a j:=λx hx j hj hb=>hn j hb (.inr (.inl ⟨x,hx,hj⟩))
 have h3:∀x∈m.K,∀j,aI x.s.a j->¬aI a j:=λx hx j hj hb=>hn j hb (.inr (.inr ⟨x,hx,hj⟩))
 have hw:=h.bw
 refine⟨⟨hw.bx.but hb (h1 _ (by simp [Bm.aR])),hw.live.but hb (λj hj=>h1 j (List.mem_append.2 (.inl hj))),hw.laid.but hb (λj hj=>h1 j (List.mem_append.2 (.inr (List.mem_append.2 (.inr (gj hj)))))),hw.told.but hb (λj hj=>h1 j (List.mem_append.2 (.inr (List.mem_append.2 (.inl hj))))),⟨hw.lists.out.but hb (h1 _ (by simp [Bm.aR])),λk hk=>⟨(hw.lists.each k hk).1.but hb (h2 k hk),(hw.lists.each k hk).2⟩,hw.lists.cr⟩,⟨hw.known.out.but hb (h1 _ (by simp [Bm.aR])),λk hk=>⟨(hw.known.each k hk).1.but hb (h3 k hk),(hw.known.each k hk).2⟩,hw.known.cr⟩,hw.cr,λj hj=>Nat.lt_of_lt_of_le (hw.lo j hj) hb.size,hw.ap⟩,h.n,h.live,h.laid.mono hr,h.told.mono hr,h.lists,h.known,h.Df,h.jU,λk hk=>h.pn k (Nat.le_trans hb.size hk)⟩
abbrev fv (B:Bv)(b nu:Int)(gs:List Int):Bv:={ (fI (B.lists b) b nu B gs).2 with lists:=ke (fI (B.lists b) b nu B gs).2.lists nu (fI (B.lists b) b nu B gs).1 }
def xv (P:Nat->Prop)(V:World)(m:Bm)(L:List Cp)(b nu:Int)(B:Bv)(gs:List Int)(vk vl:Value)(U:World):Prop :=
 ∃(k:Nat) (la:Option Addr) (lc:Nat) (m':Bm),vk=ab (k:Int)/\k<=gs.length/\vl=.slice la (fI L b nu B (gs.take k)).1.length lc/\Bk P U m' (fI L b nu B (gs.take k)).2/\Tr V U m m'/\m'.I=m.I/\Ow U V.heap.size 37 3 la (fI L b nu B (gs.take k)).1.length lc (aU (fI L b nu B (gs.take k)).1)/\∀j,aI la j->¬cA m' j
theorem se (m:Bm)(B:Bv)(x:Cq)(cd nu:Int)(c:Cp)(d:Sl)(gs:List Int)(w:World)(h:Bk P w m B)(hx:x.ok)(jn:bQ nu)(hnn:bQ B.n)(hg:RI w x.gs.a x.gs.n x.gs.c gs)(hgb:∀j,aI x.gs.a j->j<w.heap.size/\¬cA m j)(hn:gs.length<=100000000)(hln:(B.lists x.b).length<=100000000)(hl:(B.known nu).length+gs.length<=100000000) :
  Calls Tryz.prog 103 #[aq m.g,x.v,bR cd c d nu] w λe w'=>e=.returned (.tuple #[])/\∃m',Bk P w' m' (fv B x.b nu gs)/\Tr w w' m m':=by
 obtain⟨o,ch,cl⟩:=c
 obtain⟨W,hW⟩:∃W,W=(w.alloc (Obj.cells x.L.toArray 44)).alloc (Obj.cells #[ab cd,ab o,ai (ch:Int),ai (cl:Int),.slice d.a d.n d.c,ab nu] 40):=⟨_,rfl⟩
 have hB:Below w.heap.size w W:=by rw [hW];exact aB _ _ _
 have OK:Hid (Bx W w.heap.size x.L):=by rw [hW];exact (Bx.new w x.L _).later (ag _ _)
 have OL:Hid (Bx W (w.heap.size+1) (aZ cd ⟨o,ch,cl⟩ d nu)):=by rw [hW];have:=Bx.new (w.alloc (Obj.cells x.L.toArray 44)) (aZ cd ⟨o,ch,cl⟩ d nu) 40;simp at this;exact this
 have QI:Hid (w.heap.size+1<W.heap.size):=OL.out.lt (by simp)
 obtain⟨s,hs,hfar⟩:=h.lists.look x.b
 obtain⟨L,hL⟩:∃L,L=B.lists x.b:=⟨_,rfl⟩
 unfold fv;rw [<-hL] at hs hfar hln ⊢
 have hsn:=(h.bw.lists.look hx.b hs).2.2
 obtain⟨sa,sn,sc⟩:=s
 have Sw:Hid (∀U,Below w.heap.size w U->(Instr.lookup 157 (.map (some m.bi)) (ab x.b) false).run Tryz.prog U=.ok (.slice sa sn sc) U):=λU hU=>((h.bw.lists.later hU).look hx.b hs).1
 have PH:=ae h.bw.cK
 have HH:=ae h
 have HB:=ae hB
 have HW:=ae hW
 have QK:=ae hx
 have R6:=ae hnn
 have Wg:=ae jn
 have TX:=ae hl
 have HG:=ae (hg.later hB)
 have Wk:=ae hgb
 have WA:=ae hs
 have TT:=ae hfar
 have Tt:=ae hsn
 have hgl:=hg.len
 have hgn:(x.gs.n:Int)<=100000000:=by omega
 have Vj:=ae hln
 obtain⟨xop,xb,xsz,⟨xo,xh,xl⟩,xgv,xrt,xoff,xnn,⟨xda,xdn,xdc⟩,xix,⟨xga,xgn,xgc⟩⟩:=x
 simp only at OK HW Sw HG Wk WA TX hgl hgn hL ⊢
 have HS:Hid (∀U,Below W.heap.size W U->(U.rangeAt m.g 0 m.cells/\U.rangeAt w.heap.size 0 [ab xop,ab xb,ab xsz,ab xo,ai (xh:Int),ai (xl:Int),.bool xgv,ab xrt,ab xoff,ab xnn,.slice xda xdn xdc,ab xix,.slice xga xgn xgc]/\(Instr.lookup 157 (.map (some m.bi)) (ab xb) false).run Tryz.prog U=.ok (.slice sa sn sc) U)):=λU hU=>⟨((HH.out.later HB.out).bw.bx.later hU).range,(OK.out.later hU).range,Sw.out _ (aa HB.out hU)⟩
 have Vv:=ae hgl
 have Xa:=ae hn
 clear h hB hW hx hnn jn hl hg hgb hs hfar hn hln hsn hgl hL;go_enter Tryz.func103,Tryz.ntmps103
 go_upto_region 1 with fail
 rw [<-HW.out];refine wp_region_held_drew (S:=(λU:World=>U.rangeAt m.g 0 m.cells/\U.rangeAt w.heap.size 0 [ab xop,ab xb,ab xsz,ab xo,ai (xh:Int),ai (xl:Int),.bool xgv,ab xrt,ab xoff,ab xnn,.slice xda xdn xdc,ab xix,.slice xga xgn xgc]/\(Instr.lookup 157 (.map (some m.bi)) (ab xb) false).run Tryz.prog U=.ok (.slice sa sn sc) U)) (by kernel_rfl) (HS.out _ (Below.refl _ _).drew) (λhHeld=>?_)
 refine nm 8 0 8 ?_
 refine tn 0 8 1 7 ?_
 simp only [zz];refine tn 1 8 3 6 ?_
 simp only [zz];refine tn 2 8 7 5 ?_
 simp only [zz];refine wpAnyH_take (i:=3) (oi:=_) (v:=?_) rfl (by kernel_rfl) (by kernel_rfl) (by kernel_rfl) (λ_ _ _ h=>h) (Or.inl ⟨by rfl,?_⟩) (by assumption) ?_
 rotate_left
 ·(intro w hSw;have z2:=aG (j:=2) hSw.1 rfl;go_simp;try with_reducible rfl)
 simp only [zz];refine nm 8 15 4 ?_
 refine tn 4 8 31 3 ?_
 simp only [zz];refine wpAnyH_take (i:=5) (oi:=_) (v:=?_) rfl (by kernel_rfl) (by kernel_rfl) (by kernel_rfl) (λ_ _ _ h=>h) (Or.inl ⟨by rfl,?_⟩) (by assumption) ?_
 rotate_left
 ·(intro w hSw;have z1:=aG (j:=1) hSw.2.1 rfl;go_simp;try with_reducible rfl)
 simp only [zz];refine nm 8 63 2 ?_
 refine tv 6 (v:=.slice sa sn sc) ?_ ?_
 ·(intro w hSw;(try dsimp only at hSw);exact DY rfl rfl rfl hSw.2.2)
 simp only [zz];refine nm 8 127 1 ?_
 refine tn 7 8 255 0 ?_
 simp only [zz];refine zn ?_ _
 obtain⟨V,hV⟩:∃V,V=W.drew:=⟨_,rfl⟩
 have Uo:Hid (Below w.heap.size w V):=by rw [hV];exact HB.out.drew
 have S9:Hid (Bx V w.heap.size [ab xop,ab xb,ab xsz,ab xo,ai (xh:Int),ai (xl:Int),.bool xgv,ab xrt,ab xoff,ab xnn,.slice xda xdn xdc,ab xix,.slice xga xgn xgc]):=by rw [hV];exact OK.out.later (Below.refl _ _).drew
 have Ux:Hid (Bx V (w.heap.size+1) (aZ cd ⟨o,ch,cl⟩ d nu)):=by rw [hV];exact OL.out.later (Below.refl _ _).drew
 have UR:Hid (RI V xga xgn xgc gs):=by rw [hV];exact HG.out.later (Below.refl _ _).drew
 have QQ:Hid (w.heap.size+1<V.heap.size):=by rw [hV];exact QI.out
 have XA:=ae (HH.out.later Uo.out)
 rw [<-hV];clear hV OK OL HG HS Sw QI HB HW;have x12:=S9.out.cell 12 rfl
 go_upto_region 4 with fail
 clear x12;go_loopw [23,7] (xv P V m L xb nu B gs) (λi _ _=>gs.length - jv i)
 case atStart=>exact⟨0,none,0,m,rfl,Nat.zero_le _,rfl,XA.out,Tr.refl _ _,rfl,Ow.nil _ _ _ _,λj hj=>by obtain⟨y,hy,_⟩:=hj;cases hy⟩
 case round =>
  obtain⟨k,la,lc,m1,rfl,hk,rfl,hb1,ht1,hI1,ho1,hd1⟩:=hrel
  have OI:=ae hb1
  have OV:=ae ht1
  have TW:=ae hI1
  have Ps:=ae ho1
  have Ph:=ae hd1
  have Qg:=ae (S9.out.but ht1.bt (λhj=>by have:=PH.out _ hj;omega))
  have QF:=ae (Ux.out.but ht1.bt (λhj=>by have:=PH.out _ hj;omega))
  have Tl:Hid (∀j,cA m1 j->j≠w.heap.size/\j≠w.heap.size+1):=λj hj=>by
   have h2:=QQ.out
   rcases ht1.gr j hj with h1|h1
   ·have:=PH.out _ h1;omega
   ·omega
  have Ra:=ae ht1.g
  clear hb1 ht1 hI1 ho1 hd1;by_cases hkN:k<gs.length
  ·have hkx:(k:Int)<(xgn:Int):=by have:=Vv.out;omega
   have hlt:decide ((k:Int)<(xgn:Int))=true:=by simp;omega
   obtain⟨g,hgk⟩:∃g,gs[k]?=some g:=⟨_,List.getElem?_eq_getElem hkN⟩
   have Ya:=ae hgk
   have hg1:=UR.out.but OV.out.bt (λj hj hs=>(Wk.out j hj).2 hs)
   obtain⟨gb,gq,hgeq,hgc⟩:=hg1.plain (by have:=Vv.out;omega)
   have hgx:=hgc k hkN
   have hgx2:wr.cell? ⟨gb,gq+k,none⟩=some (ab g):=by rw [hgx];rw [<-(List.getElem?_eq_some_iff.1 hgk).2]
   subst hgeq;have Q5:=ae (yU L xb nu B gs k g hgk)
   clear hgk hgc hgx hg1;by_cases hgi:0<=g/\g<(sn:Int)
   ·obtain⟨gn,rfl⟩:∃gn:Nat,g=(gn:Int):=⟨g.toNat,by omega⟩
    have hgd:decide (0<=(gn:Int)/\(gn:Int)<(sn:Int))=true:=decide_eq_true hgi
    obtain⟨⟨c0o,c0h,c0l⟩,hc0⟩:∃c0,L[gn]?=some c0:=⟨_,List.getElem?_eq_getElem (by have:=Tt.out;omega)⟩
    have Rc:=ae (TT.out _ (List.mem_of_getElem? hc0))
    have hSL1:CV m1.I xb ⟨sa,sn,sc⟩ L:=by rw [TW.out];exact WA.out
    have hok:=(OI.out.bw.lists.look QK.out.b hSL1).2.1
    obtain⟨sb,hsb⟩:=hok.cJ (by simp only;omega)
    simp only at hsb;subst hsb;have r0:=hok.cells rfl
    obtain⟨q0,q1,q2⟩:=rO hc0
    have z0:=aG r0 q0
    have z1:=aG r0 q1
    have z2:=aG r0 q2
    have hgi2:(gn:Int)<(sn:Int):=hgi.2
    have O9:Hid (fI L xb nu B (gs.take (k+1))=((fI L xb nu B (gs.take k)).1++[⟨c0o,c0h,c0l⟩],match dR (fI L xb nu B (gs.take k)).2 xb ⟨c0o,c0h,c0l⟩ with|some ls=>bo (fI L xb nu B (gs.take k)).2 4 xb nu ⟨c0o,c0h,c0l⟩ ls|none=>(fI L xb nu B (gs.take k)).2)):=by
     unfold Hid;rw [Q5.out];unfold j_;rw [if_pos ⟨by omega,by have:=Tt.out;omega⟩];simp only [Int.toNat_natCast];rw [hc0]
    have Tg:=ae (Ay L xb nu B (gs.take k))
    have Qs:Hid (((fI L xb nu B (gs.take k)).2.known nu).length+1<=1000000000/\(fI L xb nu B (gs.take k)).1.length+1<=1000000000/\bQ (fI L xb nu B (gs.take k)).2.n):=by
     obtain⟨a1,a2,a3,a4,a5,a6,a7⟩:=Tg.out
     have h1:=a5 nu
     rw [List.length_take] at h1 a6;have h2:=TX.out
     have h3:=Xa.out
     exact⟨by omega,by omega,by rw [a1];exact R6.out⟩
    clear hok r0 q0 q1 q2 hc0 hSL1 Q5 Tg;generalize hS2:fI L xb nu B (gs.take (k+1))=S2 at O9
    have Rz:=ae hS2.symm
    clear hS2;generalize fI L xb nu B (gs.take k)=S1 at OI Ps O9 Qs ⊢
    obtain⟨S1l,S1b⟩:=S1
    simp only at OI Ps O9 Qs ⊢
    go_upto_region 8 with (first|(go_at_call 181;refine (gf _ _ _ _ _).mono ?_;rintro e w' ⟨rfl,hw'⟩;obtain rfl:=hw'.symm;clear hw'))
    clear z0 z1 z2 hgx2;obtain⟨V1,hV1⟩:∃V1,V1=wr.alloc (Obj.cells #[ab c0o,ai (c0h:Int),ai (c0l:Int)] 37):=⟨_,rfl⟩
    rw [<-hV1];obtain⟨kx,hkx2⟩:∃k,k=wr.heap.size:=⟨_,rfl⟩
    rw [<-hkx2];have hbe1:Below wr.heap.size wr V1:=by rw [hV1];exact ag _ _
    have QN:Hid (Bx V1 kx [ab c0o,ai (c0h:Int),ai (c0l:Int)]):=by rw [hkx2,hV1];exact Bx.new wr [ab c0o,ai (c0h:Int),ai (c0l:Int)] _
    have Xz:=ae hbe1
    obtain⟨a',c',w7,r7,o7,b7,n7⟩:=iD 74 37 _ 3 24 Tryz.underlying74 ir rfl (by omega) (w:=V1) (cs:=[ab c0o,ai (c0h:Int),ai (c0l:Int)]) (Ps.out.later hbe1) rfl (sO _ _ _) (Nat.le_trans OV.out.bt.size hbe1.size) Qs.out.2.1 (by omega)
    have hkxl:kx<V1.heap.size:=QN.out.lt (by simp)
    have PR:Hid (Bk P w7 m1 S1b):=(OI.out.later hbe1).row (Ps.out.later hbe1) Ph.out b7
    have Q9:Hid ((Builtin.append_ #[74,74] 74 #[.slice la S1l.length lc,.slice (some ⟨V1.heap.size,0,none⟩) 1 1]).run Tryz.prog (V1.alloc (Obj.cells #[ab c0o,ai (c0h:Int),ai (c0l:Int)] 37))=.ok (.slice a' (S1l.length+1) c') w7):=r7
    have RN:Hid (Ow w7 V.heap.size 37 3 a' (S1l.length+1) c' (aU (S1l++[⟨c0o,c0h,c0l⟩]))):=by unfold Hid;simpa [aU,dP] using o7
    have hlaV:∀j,aI la j->V.heap.size<=j/\j<wr.heap.size:=λj hj=>Ps.out.dB j hj
    have Vr:Hid (∀j,aI a' j->¬cA m1 j):=λj hj hs=>by
     rcases n7 j hj with h1|h1
     ·exact Ph.out j h1 hs
     ·have h2:=OI.out.bw.cK j hs
      have h3:=hbe1.size
      omega
    have Vu:Hid (aj (λj=>V.heap.size<=j) wr w7):=(aj.of hbe1).trans (b7.mono (λj hj=>(hlaV j hj).1))
    have Qw:=ae (Qg.out.but Vu.out (λhj=>by have:=QQ.out;omega))
    have RQ:Hid (Bx w7 (w.heap.size+1) (aZ cd ⟨o,ch,cl⟩ d nu)):=QF.out.but Vu.out (λhj=>by have:=QQ.out;omega)
    have PJ:Hid (Bx w7 kx [ab c0o,ai (c0h:Int),ai (c0l:Int)]):=QN.out.but b7 (λhj=>by have:=(hlaV kx hj).2;omega)
    have S8:Hid (Tr V w7 m m1):=⟨OV.out.g,OV.out.bt.comp Vu.out (λj hj=>.inr hj),OV.out.gr⟩
    clear hbe1 r7 o7 b7 n7 hkx2 hV1 hkxl hlaV;have c0:=QN.out.cell 0 rfl
    have c1:=QN.out.cell 1 rfl
    have c2:=QN.out.cell 2 rfl
    go_upto_region 9 with (first|(at_builtin;refine aw rfl _ _ 74 rfl _ _ rfl rfl _ w7 Q9.out ?_))
    clear c0 c1 c2;have c0:=PJ.out.cell 0 rfl
    have c1:=PJ.out.cell 1 rfl
    have c2:=PJ.out.cell 2 rfl
    have x1:=Qw.out.cell 1 rfl
    obtain⟨at_,htl0,hls0,hcal⟩:=fs m1 S1b xb ⟨c0o,c0h,c0l⟩ w7 PR.out Rc.out QK.out.b
    rw [Ra.out] at hcal;have Q1:=ae htl0
    have Uc:=ae hls0
    have P5:=ae (hcal w7 (Below.refl _ _))
    clear htl0 hls0 hcal;have P1:Hid (∀ls U,dR S1b xb ⟨c0o,c0h,c0l⟩=some ls->Below w7.heap.size w7 U->Calls Tryz.prog 174 #[aq m.g,s9 0 4 xb nu ⟨c0o,c0h,c0l⟩,.pointer at_] U λe w'=>e=.returned (.tuple #[])/\∃m',Bk P w' m' (bo S1b 4 xb nu ⟨c0o,c0h,c0l⟩ ls)/\Tr U w' m1 m'/\m'.I=m1.I):=λls U e hU=>by
     have h1:=Q1.out
     have h2:=Uc.out
     rw [e] at h1 h2;have:=oh m1 S1b 0 4 xb nu ⟨c0o,c0h,c0l⟩ at_ ls U (PR.out.later hU) Rc.out Wg.out QK.out.b (by constructor<;>omega) Qs.out.2.2 (h1.later hU) h2 Qs.out.1
     rwa [Ra.out] at this
    clear Q1 Uc;generalize htg:dR S1b xb ⟨c0o,c0h,c0l⟩=tg at P5 P1 O9
    cases tg with
    | none =>
     go_upto_region 10 with (first|(go_at_call 90;refine P5.out.mono ?_;rintro e w8 ⟨rfl,hb8⟩;have Pb:=ae hb8;clear hb8))
     clear c0 c1 c2 x1;go_wp2;refine⟨⟨k+1,a',c',m1,rfl,by omega,?_⟩,by simp [jv];omega⟩
     rw [<-Rz.out,O9.out];simp only [List.length_append,List.length_singleton];exact⟨by trivial,PR.out.later Pb.out,S8.out.later Pb.out,TW.out,RN.out.later Pb.out,Vr.out⟩
    | some ls =>
     have Qz:=ae (λU hU=>P1.out ls U rfl hU)
     go_upto_region 10 with (first|(go_at_call 90;refine P5.out.mono ?_;rintro e w8 ⟨rfl,hb8⟩;have Pb:=ae hb8;clear hb8))
     clear c0 c1 c2 x1;have P4:=ae (PJ.out.later Pb.out)
     have VM:=ae (Qw.out.later Pb.out)
     have QZ:=ae (RQ.out.later Pb.out)
     have c0:=P4.out.cell 0 rfl
     have c1:=P4.out.cell 1 rfl
     have c2:=P4.out.cell 2 rfl
     have x1:=VM.out.cell 1 rfl
     have y5:=QZ.out.cell 5 rfl
     go_wp2_with (first|(go_at_call 174;refine (Qz.out _ Pb.out).mono ?_;rintro e w9 ⟨rfl,m2,hb2,ht2,hI2⟩;have OH:=ae hb2;have OO:=ae ht2;have U5:=ae hI2;clear hb2 ht2 hI2))
     refine⟨⟨k+1,a',c',m2,rfl,by omega,?_⟩,by simp [jv];omega⟩
     rw [<-Rz.out,O9.out];simp only [List.length_append,List.length_singleton];refine⟨by trivial,OH.out,(S8.out.later Pb.out).trans OO.out,U5.out.trans TW.out,(RN.out.later Pb.out).but OO.out.bt (λj hj hs=>Vr.out j hj hs),λj hj hs=>?_⟩
     rcases OO.out.gr j hs with h1|h1
     ·exact Vr.out j hj h1
     ·have h2:=(RN.out.dB j hj).2
      have h3:=Pb.out.size
      omega
   ·have hgd:decide (0<=g/\g<(sn:Int))=false:=decide_eq_false hgi
    have O9:Hid (fI L xb nu B (gs.take (k+1))=fI L xb nu B (gs.take k)):=by
     unfold Hid;rw [Q5.out];unfold j_;rw [if_neg (by have:=Tt.out;rw [this];exact hgi)]
    clear Q5;generalize hS2:fI L xb nu B (gs.take (k+1))=S2 at O9
    have OW:=ae hS2
    clear hS2;generalize fI L xb nu B (gs.take k)=S1 at OI Ps O9 ⊢
    go_wp2_with (first|(go_at_call 181;refine (gf _ _ _ _ _).mono ?_;rintro e w' ⟨rfl,hw'⟩;obtain rfl:=hw'.symm;clear hw'))
    refine⟨⟨k+1,la,lc,m1,rfl,by omega,?_⟩,by simp [jv];omega⟩
    rw [OW.out,O9.out];exact⟨rfl,OI.out,OV.out,TW.out,Ps.out,Ph.out⟩
  ·obtain rfl:xgn=k:=by have:=Vv.out;omega
   have hlt:decide ((xgn:Int)<(xgn:Int))=false:=by simp
   have hfull:gs.take xgn=gs:=List.take_of_length_le (by omega)
   rw [hfull] at OI Ps;simp only [hfull];clear hfull;obtain⟨a1,a2,a3,a4,a5,a6,a7⟩:=Ay L xb nu B gs
   obtain⟨s0,l0,hs0⟩:=CV.cJ m1.I nu
   have hml:m1.g<V.heap.size:=by rw [OV.out.g];have:=HH.out.bw.lo m.g (by simp);have:=QQ.out;omega
   obtain⟨w8,m2,r8,hb8,hg8,ht8,hgr8,hcl8,ht7⟩:=(OI.out.drew).wO (S:=λ_=>False) Wg.out (s':=⟨la,(fI L xb nu B gs).1.length,lc⟩) (l':=(fI L xb nu B gs).1) hs0 (aj.refl _ _) (λj hj=>hj.elim) ((Ps.out.later (Below.refl _ _).drew).mono (by omega)) rfl (λc hc=>TT.out c (a7 c hc)) (λj hj=>.inr (Ph.out j hj))
   have Re:=ae r8
   have Qm:Hid (∃m',Bk P w8 m' { (fI L xb nu B gs).2 with lists:=ke (fI L xb nu B gs).2.lists nu (fI L xb nu B gs).1 }/\Tr V w8 m m'):=⟨m2,hb8,hg8.trans OV.out.g,(OV.out.bt.comp (aj.of (Below.refl _ _).drew) (λ_ h=>h)).comp ht8 (λj hj=>OV.out.gr j hj),λj hj=>by
    rcases hgr8 j hj with h1|h1
    ·exact OV.out.gr j h1
    ·exact .inr (Ps.out.dB j h1).1⟩
   have O3:Hid (∀U,Below wr.heap.size wr U->(U.rangeAt m.g 0 m1.cells/\U.rangeAt (w.heap.size+1) 0 (aZ cd ⟨o,ch,cl⟩ d nu))):=λU hU=>⟨by have:=(OI.out.bw.bx.later hU).range;rwa [Ra.out] at this,(QF.out.later hU).range⟩
   have QS:Hid (w8.rangeAt m.g 0 m1.cells/\w8.rangeAt (w.heap.size+1) 0 (aZ cd ⟨o,ch,cl⟩ d nu)):=⟨by have:=hb8.bw.bx.range;rw [hcl8,hg8,Ra.out] at this;exact this,(QF.out.but ((aj.of (Below.refl _ _).drew).trans ht8) (λhj=>(Tl.out _ hj).2 rfl)).range⟩
   clear r8 hb8 hg8 ht8 hgr8 hcl8 ht7 a1 a2 a3 a4 a5 a6 a7 hs0 hml;go_upto_region 13 with fail
   refine wp_region_held_drew (S:=(λU:World=>U.rangeAt m.g 0 m1.cells/\U.rangeAt (w.heap.size+1) 0 (aZ cd ⟨o,ch,cl⟩ d nu))) (by kernel_rfl) (O3.out _ (Below.refl _ _).drew) (λhHeld=>?_)
   refine nm 8 0 8 ?_
   refine tn 0 8 1 7 ?_
   simp only [zz];refine tn 1 8 3 6 ?_
   simp only [zz];refine tn 2 8 7 5 ?_
   simp only [zz];refine wpAnyH_take (i:=3) (oi:=_) (v:=?_) rfl (by kernel_rfl) (by kernel_rfl) (by kernel_rfl) (λ_ _ _ h=>h) (Or.inl ⟨by rfl,?_⟩) (by assumption) ?_
   rotate_left
   ·(intro w hSw;have z2:=aG (j:=2) hSw.1 rfl;go_simp;try with_reducible rfl)
   simp only [zz];refine nm 8 15 4 ?_
   refine tn 4 8 31 3 ?_
   simp only [zz];refine wpAnyH_take (i:=5) (oi:=_) (v:=?_) rfl (by kernel_rfl) (by kernel_rfl) (by kernel_rfl) (λ_ _ _ h=>h) (Or.inl ⟨by rfl,?_⟩) (by assumption) ?_
   rotate_left
   ·(intro w hSw;have z5:=aG (j:=5) hSw.2 rfl;go_simp;try with_reducible rfl)
   simp only [zz];refine nm 8 63 2 ?_
   refine tn 6 8 127 1 ?_
   simp only [zz];refine zr 7 λK hK=>?_
   refine jK rfl rfl rfl rfl Re.out ?_
   refine zk hK 8 255 0 (QS.out) λhHeld=>?_
   clear hK K;try simp only [zz]
   refine zn ?_ _
   go_wp2;exact bodyPost_end (v:=.tuple #[]) (by simp [results,Tryz.results103,go_sem]) rfl ⟨rfl,by obtain⟨m9,h8,h9⟩:=Qm.out;exact⟨m9,h8,Tr.fh Uo.out h9⟩⟩
end Go.Proofs.YtmhinfbkmjdgfaaGreatDoor.B
namespace Go.Proofs.YtmhinfbkmjdgfaaGreatDoor.B
open Go.RowKit
variable {P P' S:Nat->Prop}{w w':World}{m:Bm}{B:Bv}
theorem gK.v_ (hb:aj S w w')(hP:∀k,k<w.heap.size->P k->¬S k/\P' k):∀{ls:List Lk} {p:Option Addr},gK P w p ls->gK P' w' p ls
 | [],p,h=>h
 | x::ls,p,⟨k,ah,e,hp,ht,hr⟩=>⟨k,ah,e,(hP k ht.lt hp).2,ht.but hb (hP k ht.lt hp).1,gK.v_ hb hP hr⟩
theorem Bk.v_ (h:Bk P w m B)(hb:aj S w w')(hn:∀j,S j->¬cA m j)(hP:∀k,k<w.heap.size->P k->¬S k/\P' k)(hN:∀k,w'.heap.size<=k->P' k):Bk P' w' m B:=by
 have hr:∀v ls,RT P w v ls->RT P' w' v ls:=λv ls ⟨k,e,ht,hk⟩=>⟨k,e,ht.v_ hb hP,hk⟩
 have h1:∀j∈m.aR,¬S j:=λj hj hs=>hn j hs (.inl hj)
 have h2:∀x∈m.I,∀j,aI x.s.a j->¬S j:=λx hx j hj hs=>hn j hs (.inr (.inl ⟨x,hx,hj⟩))
 have h3:∀x∈m.K,∀j,aI x.s.a j->¬S j:=λx hx j hj hs=>hn j hs (.inr (.inr ⟨x,hx,hj⟩))
 have hw:=h.bw
 exact⟨⟨hw.bx.but hb (h1 _ (by simp [Bm.aR])),hw.live.but hb (λj hj=>h1 j (List.mem_append.2 (.inl hj))),hw.laid.but hb (λj hj=>h1 j (List.mem_append.2 (.inr (List.mem_append.2 (.inr (gj hj)))))),hw.told.but hb (λj hj=>h1 j (List.mem_append.2 (.inr (List.mem_append.2 (.inl hj))))),⟨hw.lists.out.but hb (h1 _ (by simp [Bm.aR])),λk hk=>⟨(hw.lists.each k hk).1.but hb (h2 k hk),(hw.lists.each k hk).2⟩,hw.lists.cr⟩,⟨hw.known.out.but hb (h1 _ (by simp [Bm.aR])),λk hk=>⟨(hw.known.each k hk).1.but hb (h3 k hk),(hw.known.each k hk).2⟩,hw.known.cr⟩,hw.cr,λj hj=>Nat.lt_of_lt_of_le (hw.lo j hj) hb.size,hw.ap⟩,h.n,h.live,h.laid.mono hr,h.told.mono hr,h.lists,h.known,h.Df,h.jU,hN⟩
end Go.Proofs.YtmhinfbkmjdgfaaGreatDoor.B
namespace Go.Proofs.YtmhinfbkmjdgfaaGreatDoor.B
open Go.RowKit
variable {P:Nat->Prop}
variable {N:Nat}
structure Sz (B:Bv)(N:Nat):Prop where
 lists:∀p,(B.lists p).length<=N
 known:∀p,(B.known p).length<=N
 told:∀p F ls,B.told p F=some ls->ls.length<=N
 laid:∀o i ls,B.laid o i=some ls->ls.length<=N
 ct:B.ct<=N
 n0:0<=B.n
 n1:B.n<=(N:Int)
theorem Sz.mono {B:Bv}{M:Nat}(h:Sz B N)(hm:N<=M):Sz B M :=
 ⟨λp=>Nat.le_trans (h.lists p) hm,λp=>Nat.le_trans (h.known p) hm,λp F ls e=>Nat.le_trans (h.told p F ls e) hm,λo i ls e=>Nat.le_trans (h.laid o i ls e) hm,Nat.le_trans h.ct hm,h.n0,by have:=h.n1;omega⟩
theorem Sz.tell {B:Bv}(h:Sz B N)(kd b t:Int)(c:Cp){ls:List Lk}(hl:ls.length<=N):Sz (bo B kd b t c ls) (N+1):=by
 unfold bo;split
 ·refine⟨λp=>Nat.le_trans (h.lists p) (by omega),λp=>?_,λp F l e=>?_,λo i l e=>Nat.le_trans (h.laid o i l e) (by omega),Nat.le_trans h.ct (by omega),h.n0,by have:=h.n1;show B.n<=_;omega⟩
  ·simp only [ke]
   split
   ·have:=h.known t;simp;omega
   ·have:=h.known p;omega
  ·simp only [dN] at e
   split at e
   ·cases e
    simp
    omega
   ·have:=h.told p F l e;omega
 ·exact h.mono (by omega)
theorem Sz.tg {B:Bv}(h:Sz B N)(p:Int)(c:Cp):((dR B p c).getD []).length<=N:=by
 unfold dR;split
 ·cases e:B.told p (bP c) with
  | none=>simp
  | some ls=>exact h.told _ _ _ e
 ·simp
theorem Sz.Jw {B:Bv}(h:Sz B N)(c:Cp)(ph pl:Nat)(r:Int):Sz (ig B c ph pl r) (N+1) :=
 ⟨λp=>Nat.le_trans (h.lists p) (by omega),λp=>Nat.le_trans (h.known p) (by omega),λp F ls e=>Nat.le_trans (h.told p F ls e) (by omega),λo i ls e=>Nat.le_trans (h.laid o i ls e) (by omega),Nat.succ_le_succ h.ct,h.n0,by have:=h.n1;show B.n<=_;omega⟩
theorem Sz.rd {B:Bv}(h:Sz B N)(b obj off:Int)(k:Nat):Sz (j7 b obj off B k) (N+k):=by
 induction k with
 | zero=>exact h
 | succ k ih =>
  unfold j7 FZ;split
  ·rename_i x ls e
   have hl:=h.laid obj (wrap64 (off+(k:Int))) (x::ls) (by rw [<-(zK b obj off B k).2.1];exact e)
   exact ih.tell 3 x.t b x.c (by omega)
  ·exact ih.mono (by omega)
theorem Sz.dl {B:Bv}(h:Sz B N)(obj off:Int)(k:Nat):Sz (kh obj off B k) N:=by
 induction k with
 | zero=>exact h
 | succ k ih =>
  refine⟨ih.lists,ih.known,ih.told,λo i ls e=>?_,ih.ct,ih.n0,ih.n1⟩
  unfold kh E3 dN at e;simp only at e;split at e
  ·cases e
  ·exact ih.laid o i ls e
theorem Sz.wr {B:Bv}(h:Sz B N)(b obj off:Int)(bs:List Nat)(k:Nat):Sz (fT b obj off bs B k) N:=by
 induction k with
 | zero=>exact h
 | succ k ih =>
  unfold fT Bj;split
  ·rename_i ls e
   refine⟨ih.lists,ih.known,ih.told,λo i l e2=>?_,ih.ct,ih.n0,ih.n1⟩
   unfold dN at e2;simp only at e2;split at e2
   ·cases e2
    exact ih.told _ _ _ e
   ·exact ih.laid o i l e2
  ·exact ih
theorem Sz.I9 {B:Bv}(h:Sz B N)(x:Cq)(bs:List Nat):Sz (lL x bs B) N:=by
 unfold lL;split
 ·exact h
 ·exact (h.dl _ _ _).wr _ _ _ _ _
theorem Sz.list {B:Bv}(h:Sz B N)(p:Int)(l:List Cp)(hl:l.length<=N):Sz { B with lists:=ke B.lists p l } N:=by
 refine⟨λq=>?_,h.known,h.told,h.laid,h.ct,h.n0,h.n1⟩
 simp only [ke];split
 ·exact hl
 ·exact h.lists q
theorem Sz.sp {B:Bv}(h:Sz B N)(L:List Cp)(b nu:Int):∀(gs:List Int) (r:List Cp×Bv) (k:Nat),Sz r.2 (N+k)->Sz (gs.foldl (j_ L b nu) r).2 (N+k+gs.length)
 | [],r,k,hr=>hr
 | g::gs,r,k,hr=>by
  have hs:Sz (j_ L b nu r g).2 (N+(k+1)):=by
   unfold j_;split
   ·split
    ·simp only
     split
     ·rename_i x _ _ ls e
      have:=hr.tg b x
      rw [e] at this;exact hr.tell 4 b nu x this
     ·exact hr.mono (by omega)
    ·exact hr.mono (by omega)
   ·exact hr.mono (by omega)
  have:=Sz.sp h L b nu gs (j_ L b nu r g) (k+1) hs
  rw [List.foldl_cons,List.length_cons];exact this.mono (by omega)
theorem Sz.JT {B:Bv}(h:Sz B N)(b nu:Int)(gs:List Int):Sz (fv B b nu gs) (N+gs.length):=by
 have h1:=Sz.sp h (B.lists b) b nu gs ([],B) 0 h
 have h2:=(Ay (B.lists b) b nu B gs).2.2.2.2.2.1
 exact (h1.mono (by omega)).list _ _ (by omega)
theorem Sz.step {B:Bv}(h:Sz B N):Sz { B with n:=B.n+1 } (N+1) :=
 ⟨λp=>Nat.le_trans (h.lists p) (by omega),λp=>Nat.le_trans (h.known p) (by omega),λp F ls e=>Nat.le_trans (h.told p F ls e) (by omega),λo i ls e=>Nat.le_trans (h.laid o i ls e) (by omega),Nat.le_trans h.ct (by omega),by have:=h.n0;show 0<=B.n+1;omega,by have:=h.n1;show B.n+1<=_;omega⟩
end Go.Proofs.YtmhinfbkmjdgfaaGreatDoor.B
namespace Go.Proofs.YtmhinfbkmjdgfaaGreatDoor.B
open Go.RowKit
variable {P:Nat->Prop}
theorem Bk.step {W:World}{m:Bm}{B:Bv}(h:Bk P W m B):Bk P (W.setCell ⟨m.g,0,none⟩ (ab (m.n+1))) { m with n:=m.n+1 } { B with n:=B.n+1 }/\Tr W (W.setCell ⟨m.g,0,none⟩ (ab (m.n+1))) m { m with n:=m.n+1 }:=by
 have hb:aj (·=m.g) W (W.setCell ⟨m.g,0,none⟩ (ab (m.n+1))):=(aj.refl (·=m.g) W).setCell (p:=⟨m.g,0,none⟩) rfl _
 have hg:∀j,j=m.g->cA m j:=λj e=>by subst e;exact .inl (by simp [Bm.aR])
 exact⟨⟨h.bw.step _,by show m.n+1=B.n+1;rw [h.n],h.live,h.laid.mono (λv a hr=>hr.but h.bw hb hg),h.told.mono (λv a hr=>hr.but h.bw hb hg),h.lists,h.known,h.Df,h.jU,λk hk=>h.pn k (Nat.le_trans hb.size hk)⟩,rfl,hb.mono hg,λj hj=>.inl hj⟩
structure DZ (P:Nat->Prop)(w:World)(m:Bm)(B:Bv)(x:Cq)(c:Cp)(d:Sl)(nu:Int)(bs:List Nat)(gs:List Int)(N:Nat):Prop where
 hb:Bk P w m B
 hx:x.ok
 hc:c.eY
 jn:bQ nu
 sz:Sz B N
 hN:N+3+x.gs.n+d.n+x.d.n<=50000000
 ri:Row w x.d.a x.d.n x.d.c bs
 kj:∀j,aI x.d.a j->j<w.heap.size/\¬cA m j
 uG:x.d.c<=9223372036854775807
 iL:RI w x.gs.a x.gs.n x.gs.c gs
 fa:∀j,aI x.gs.a j->j<w.heap.size/\¬cA m j
end Go.Proofs.YtmhinfbkmjdgfaaGreatDoor.B
