import Derived.Test.YtmhinfbkmjdgfaaGreatDoorZ18
set_option linter.unusedVariables false
set_option linter.unusedSimpArgs false
set_option maxRecDepth 100000
set_option maxHeartbeats 8000000
namespace Go.Proofs.YtmhinfbkmjdgfaaGreatDoor.B
open Go.RowKit
variable {P:Nat->Prop}
variable {m:Bm}{p:Int}{f:Int->List Cp}{U:World}
theorem iD (t e:TypeId)(z:Value)(k aE:Nat)(ht:Tryz.prog.underlying t=some (.slice e))(hinf:(Tryz.prog.info? e).map (λi=>(i.zero,i.size,i.bytes))=some (some z,k,aE))(hzs:z.cells.size=k)(hk:0<k)
  {w:World} {base:Nat} {a:Option Addr} {n cap:Nat} {L cs:List Value} (h:Ow w base e k a n cap L) (hl:cs.length=k) (h1:∀u∈cs,u.oneCell'=true) (hb:base<=w.heap.size) (hn:n+1<=1000000000) (hby:aE<=1000) :
  ∃a' c' w',(Builtin.append_ #[t,t] t #[.slice a n cap,.slice (some ⟨w.heap.size,0,none⟩) 1 1]).run Tryz.prog (w.alloc (Obj.cells cs.toArray e))=.ok (.slice a' (n+1) c') w'/\Ow w' base e k a' (n+1) c' (L++cs)/\aj (aI a) w w'/\∀j,aI a' j->aI a j\/w.heap.size<=j:=by
 obtain⟨i,hi,hz0,hz1,hz2⟩:=info_parts hinf
 have hb1:=ag w (Obj.cells cs.toArray e)
 have hbyt:(n+1)*aE<=140737488355328:=by
  have:=Nat.mul_le_mul hn hby
  omega
 obtain⟨v',w',hr,h2,h3,_,h5⟩:=run_append_own_at (P:=Tryz.prog) (w.alloc (Obj.cells cs.toArray e)) base t t e i z k aE ht hi hz0 hz1 hz2 hzs hk _ n _ (h.later hb1) ⟨w.heap.size,0,none⟩ 1 1 cs (by rw [hl,Nat.one_mul]) (λj u hu=>by
  rw [aY];have:=bA w cs e j u hu
  rw [Nat.zero_add] at this;exact this) h1 (by unfold maxLen;omega) hbyt (by simp;omega)
 obtain⟨a',c',rfl⟩:∃a' c',v'=.slice a' (n+1) c':=by
  rcases h2.2 with ⟨h,h'⟩|⟨g',cap',_,h,_⟩
  ·exact⟨.none,0,by rw [h,h']⟩
  ·exact⟨_,cap',h⟩
 have hbut:aj (aI a) (w.alloc (Obj.cells cs.toArray e)) w':=⟨h3.os,h3.tape,h3.output,h3.size,λj hj hn=>h3.block j hj (λe=>hn (aI.of.1 e.symm))⟩
 refine⟨a',c',w',hr,h2,(aj.of hb1).trans hbut,λj hj=>?_⟩
 rcases h5 with h5|h5
 ·rw [aI.of.2 hj] at h5
  exact .inl (aI.of.1 h5.symm)
 ·rw [aI.of.2 hj] at h5
  right
  simp at h5
  omega
theorem Bw.sL (h:Bw U m)(hv:Vl m.K f)(hp:bQ p)(c:Cp)(hc:c.eY)(hl:(f p).length+1<=1000000000) :
  ∃v0 v7 w7 w8,(∀U',Below U.heap.size U U'->(Instr.lookup 157 (.map (some m.bk)) (ab p) false).run Tryz.prog U'=.ok v0 U')/\(Builtin.append_ #[74,74] 74 #[v0,.slice (some ⟨U.heap.size,0,none⟩) 1 1]).run Tryz.prog (U.alloc (Obj.cells #[ab c.o,ai (c.h:Int),ai (c.l:Int)] 37))=.ok v7 w7/\(Instr.mapUpdate 157 (.map (some m.bk)) (ab p) v7).run Tryz.prog w7=.ok () w8 /\
   (∃K',Bw w8 { m with K:=K' }/\Vl K' (ke f p (f p++[c]))/\(∀j,cA { m with K:=K' } j->cA m j\/U.heap.size<=j)/\∀x∈K',x∈m.K\/0<x.s.n)/\aj (λj=>j=m.bk\/∃k∈m.K,aI k.s.a j) U w8/\aj (λj=>j=m.bk\/∃k∈m.K,aI k.s.a j) U w7:=by
 obtain⟨s,hs,hf⟩:=hv.look p
 obtain⟨hlk,ho,hn⟩:=h.known.look hp hs
 have hgl:m.g<U.heap.size:=h.lo m.g (by simp)
 obtain⟨a',c',w7,r7,o7,b7,n7⟩:=iD 74 37 _ 3 24 Tryz.underlying74 ir rfl (by omega) (cs:=[ab c.o,ai (c.h:Int),ai (c.l:Int)]) ho rfl (sO _ _ _) (by omega) (by omega) (by omega)
 have ho7:Ow w7 (m.g+1) 37 3 a' (s.n+1) c' (aU (f p++[c])):=by simpa [aU,dP] using o7
 have hSK:∀j,aI s.a j->∃k∈m.K,aI k.s.a j:=λj hj=>by
  rcases hs with hk|⟨rfl,_,_⟩
  ·exact⟨_,hk,hj⟩
  ·obtain⟨x,hx,_⟩:=hj
   cases hx
 have hold:∀k∈m.K,∀j,aI k.s.a j->j<U.heap.size:=λk hk j hj=>((h.known.each k hk).1.dB j hj).2
 obtain⟨w8,K',r8,m8,hin,b8⟩:=h.known.set hp (s':=⟨a',s.n+1,c'⟩) (l':=f p++[c]) hs b7 (λhj=>by
  obtain⟨es,clk,h1,_⟩:=h.known.out.ex
  exact jo h1 ho hj) (λj hj=>hj) ho7 (by simp [hn]) (λj hj=>by
  rcases n7 j hj with h1|h1
  ·exact .inl h1
  ·exact .inr (λk hk hj2=>by have:=hold k hk j hj2;omega))
 have hb7:aj (λj=>j=m.bk\/∃k∈m.K,aI k.s.a j) U w7:=b7.mono (λj hj=>.inr (hSK j hj))
 have hb8:aj (λj=>j=m.bk\/∃k∈m.K,aI k.s.a j) U w8:=hb7.trans (b8.mono (λj e=>.inl e))
 have hnew:∀x∈K',∀j,aI x.s.a j->(∃k∈m.K,aI k.s.a j)\/U.heap.size<=j:=λx hx j hj=>by
  rcases (hin x).1 hx with rfl|⟨h1,_⟩
  ·exact (n7 j hj).imp (hSK j) id
  ·exact .inl ⟨x,h1,hj⟩
 obtain⟨q1,q2,q3⟩:=h.ym hb8 (λj hj=>hj) m8 (λx hx j hj=>(hnew x hx j hj).imp id (λh1 h2=>by have:=h.cK j h2;omega))
 refine⟨_,_,w7,w8,λU' hU'=>((h.known.later hU').look hp hs).1,r7,r8,⟨K',q1,hv.set hin (λx hx=>?_),λj hj=>?_,λx hx=>?_⟩,hb8,hb7⟩
 ·rcases List.mem_append.1 hx with hx|hx
  ·exact hf x hx
  ·rw [List.mem_singleton.1 hx]
   exact hc
 ·rcases q3 j hj with h1|⟨x,hx,hj2⟩
  ·exact .inl h1
  ·rcases hnew x hx j hj2 with h1|h1
   ·exact .inl (.inr (.inr h1))
   ·exact .inr h1
 ·rcases (hin x).1 hx with rfl|⟨h1,_⟩
  ·exact .inr (Nat.succ_pos _)
  ·exact .inl h1
theorem Bw.sC (h:Bw U m)(hv:Vl m.I f)(hp:bQ p)(c:Cp)(hc:c.eY)(hl:(f p).length+1<=1000000000) :
  ∃v0 v7 w7 w8,(∀U',Below U.heap.size U U'->(Instr.lookup 157 (.map (some m.bi)) (ab p) false).run Tryz.prog U'=.ok v0 U')/\(Builtin.append_ #[74,74] 74 #[v0,.slice (some ⟨U.heap.size,0,none⟩) 1 1]).run Tryz.prog (U.alloc (Obj.cells #[ab c.o,ai (c.h:Int),ai (c.l:Int)] 37))=.ok v7 w7/\(Instr.mapUpdate 157 (.map (some m.bi)) (ab p) v7).run Tryz.prog w7=.ok () w8 /\
   (∃K',Bw w8 { m with I:=K' }/\Vl K' (ke f p (f p++[c]))/\(∀j,cA { m with I:=K' } j->cA m j\/U.heap.size<=j)/\∀x∈K',x∈m.I\/0<x.s.n)/\aj (λj=>j=m.bi\/∃k∈m.I,aI k.s.a j) U w8/\aj (λj=>j=m.bi\/∃k∈m.I,aI k.s.a j) U w7:=by
 obtain⟨s,hs,hf⟩:=hv.look p
 obtain⟨hlk,ho,hn⟩:=h.lists.look hp hs
 have hgl:m.g<U.heap.size:=h.lo m.g (by simp)
 obtain⟨a',c',w7,r7,o7,b7,n7⟩:=iD 74 37 _ 3 24 Tryz.underlying74 ir rfl (by omega) (cs:=[ab c.o,ai (c.h:Int),ai (c.l:Int)]) ho rfl (sO _ _ _) (by omega) (by omega) (by omega)
 have ho7:Ow w7 (m.g+1) 37 3 a' (s.n+1) c' (aU (f p++[c])):=by simpa [aU,dP] using o7
 have hSK:∀j,aI s.a j->∃k∈m.I,aI k.s.a j:=λj hj=>by
  rcases hs with hk|⟨rfl,_,_⟩
  ·exact⟨_,hk,hj⟩
  ·obtain⟨x,hx,_⟩:=hj
   cases hx
 have hold:∀k∈m.I,∀j,aI k.s.a j->j<U.heap.size:=λk hk j hj=>((h.lists.each k hk).1.dB j hj).2
 obtain⟨w8,K',r8,m8,hin,b8⟩:=h.lists.set hp (s':=⟨a',s.n+1,c'⟩) (l':=f p++[c]) hs b7 (λhj=>by
  obtain⟨es,clk,h1,_⟩:=h.lists.out.ex
  exact jo h1 ho hj) (λj hj=>hj) ho7 (by simp [hn]) (λj hj=>by
  rcases n7 j hj with h1|h1
  ·exact .inl h1
  ·exact .inr (λk hk hj2=>by have:=hold k hk j hj2;omega))
 have hb7:aj (λj=>j=m.bi\/∃k∈m.I,aI k.s.a j) U w7:=b7.mono (λj hj=>.inr (hSK j hj))
 have hb8:aj (λj=>j=m.bi\/∃k∈m.I,aI k.s.a j) U w8:=hb7.trans (b8.mono (λj e=>.inl e))
 have hnew:∀x∈K',∀j,aI x.s.a j->(∃k∈m.I,aI k.s.a j)\/U.heap.size<=j:=λx hx j hj=>by
  rcases (hin x).1 hx with rfl|⟨h1,_⟩
  ·exact (n7 j hj).imp (hSK j) id
  ·exact .inl ⟨x,h1,hj⟩
 obtain⟨q1,q2,q3⟩:=h.qm hb8 (λj hj=>hj) m8 (λx hx j hj=>(hnew x hx j hj).imp id (λh1 h2=>by have:=h.cK j h2;omega))
 refine⟨_,_,w7,w8,λU' hU'=>((h.lists.later hU').look hp hs).1,r7,r8,⟨K',q1,hv.set hin (λx hx=>?_),λj hj=>?_,λx hx=>?_⟩,hb8,hb7⟩
 ·rcases List.mem_append.1 hx with hx|hx
  ·exact hf x hx
  ·rw [List.mem_singleton.1 hx]
   exact hc
 ·rcases q3 j hj with h1|⟨x,hx,hj2⟩
  ·exact .inl h1
  ·rcases hnew x hx j hj2 with h1|h1
   ·exact .inl (.inr (.inl h1))
   ·exact .inr h1
 ·rcases (hin x).1 hx with rfl|⟨h1,_⟩
  ·exact .inr (Nat.succ_pos _)
  ·exact .inl h1
theorem oc (m:Bm)(s0 kd aE tt o:Int)(ch cl:Nat)(ah:Option Addr)(r:Option Value)(w:World)(h:Bw w m)(hc:Cp.eY ⟨o,ch,cl⟩)(hp:bQ tt)(hg:Gt m.T tt (dk (mz ⟨o,ch,cl⟩)) r)(hh:(r.isSome||!dm ⟨o,ch,cl⟩)=true) :
  Calls Tryz.prog 174 #[aq m.g,.agg #[ab s0,ab kd,ab aE,ab tt,ab o,ai (ch:Int),ai (cl:Int)],.pointer ah] w λe w'=>e=.returned (.tuple #[])/\Below w.heap.size w w':=by
 obtain⟨W,hW⟩:∃W,W=w.alloc (Obj.cells #[ab s0,ab kd,ab aE,ab tt,ab o,ai (ch:Int),ai (cl:Int)] 72):=⟨_,rfl⟩
 have hB:Below w.heap.size w W:=by rw [hW];exact ag _ _
 have OK:Hid (Bx W w.heap.size [ab s0,ab kd,ab aE,ab tt,ab o,ai (ch:Int),ai (cl:Int)]):=by rw [hW];exact Bx.new w [ab s0,ab kd,ab aE,ab tt,ab o,ai (ch:Int),ai (cl:Int)] _
 have c4:=OK.out.cell 4 rfl
 have c5:=OK.out.cell 5 rfl
 have c6:=OK.out.cell 6 rfl
 have PD:=ae (fz ⟨o,ch,cl⟩ hc W)
 have hFl:(mz ⟨o,ch,cl⟩).length=24:=by unfold mz;split;exact cG _;rfl
 have hFs:∀x∈mz ⟨o,ch,cl⟩,x<256:=by
  unfold mz;split
  ·exact fp _
  ·intro x hx
   have:=(List.mem_replicate.1 hx).2
   omega
 have Pd:Hid (∀U,Below w.heap.size w U->Calls Tryz.prog 171 #[.map (some m.bt),ab tt,dk (mz ⟨o,ch,cl⟩)] U λe w'=>e=.returned (.tuple #[r.getD (.pointer none),.bool r.isSome])/\Below U.heap.size U w'):=λU hU=>fe m.bt m.T tt (mz ⟨o,ch,cl⟩) r U ((h.later hU).told) hp hFl hFs hg
 have HH:=ae h
 have HB:=ae hB
 have HW:=ae hW
 have O1:=ae hFl
 generalize mz ⟨o,ch,cl⟩=F at PD Pd O1
 generalize dm ⟨o,ch,cl⟩=hb at PD hh
 generalize r.getD (.pointer none)=rv at Pd
 generalize r.isSome=rb at Pd hh
 clear h hB hW hg hc hFl hFs;cases rb with
 | true =>
  cases hb with
  | true =>
   clear hh;go_enter Tryz.func174,Tryz.ntmps174
   go_upto_region 1 with fail
   rw [<-HW.out];go_upto_region 2 with (first|(go_at_call 170;refine PD.out.mono ?_;rintro x w2 ⟨rfl,hb2⟩;have OH:=ae hb2;(have Pt:Hid (Bx (w2.alloc (Obj.cells #[.int .u8 0,.int .u8 0,.int .u8 0,.int .u8 0,.int .u8 0,.int .u8 0,.int .u8 0,.int .u8 0,.int .u8 0,.int .u8 0,.int .u8 0,.int .u8 0,.int .u8 0,.int .u8 0,.int .u8 0,.int .u8 0,.int .u8 0,.int .u8 0,.int .u8 0,.int .u8 0,.int .u8 0,.int .u8 0,.int .u8 0,.int .u8 0] 249)) w2.heap.size (aN zF)):=Bx.new w2 (aN zF) _);(have O6:=ae (pA (L:=aN F) (w:=w2.alloc (Obj.cells #[.int .u8 0,.int .u8 0,.int .u8 0,.int .u8 0,.int .u8 0,.int .u8 0,.int .u8 0,.int .u8 0,.int .u8 0,.int .u8 0,.int .u8 0,.int .u8 0,.int .u8 0,.int .u8 0,.int .u8 0,.int .u8 0,.int .u8 0,.int .u8 0,.int .u8 0,.int .u8 0,.int .u8 0,.int .u8 0,.int .u8 0,.int .u8 0] 249)) (b:=w2.heap.size) (o:=0) (by have:=Pt.out.there;rwa [ao,show zF.length=24 from rfl] at this) (by rw [ao];exact O1.out) (bJ F)));clear hb2)|((with_reducible refine a_ O6.out ?_ ?_ ?_);(· rfl);(· rfl)))
   obtain⟨V2,hV2⟩:∃V,V=(w2.alloc (Obj.cells #[.int .u8 0,.int .u8 0,.int .u8 0,.int .u8 0,.int .u8 0,.int .u8 0,.int .u8 0,.int .u8 0,.int .u8 0,.int .u8 0,.int .u8 0,.int .u8 0,.int .u8 0,.int .u8 0,.int .u8 0,.int .u8 0,.int .u8 0,.int .u8 0,.int .u8 0,.int .u8 0,.int .u8 0,.int .u8 0,.int .u8 0,.int .u8 0] 249)).setCells w2.heap.size 0 (aN F):=⟨_,rfl⟩
   rw [<-hV2];obtain⟨kf,hkf⟩:∃k,k=w2.heap.size:=⟨_,rfl⟩
   have OT:Hid (Below w2.heap.size w2 V2):=by rw [hV2];exact aj.below (ag _ _) (au (S:=(·=w2.heap.size)) rfl (aN F) 0 (aj.refl _ _)) (λk hk=>by omega)
   have Qc:Hid (Bx V2 kf (aN F)):=by rw [hkf,hV2];exact Pt.out.set (by rw [ao,ao,O1.out];rfl)
   have OZ:Hid (Bx V2 w.heap.size [ab s0,ab kd,ab aE,ab tt,ab o,ai (ch:Int),ai (cl:Int)]):=(OK.out.later OH.out).later OT.out
   have Pq:Hid (Below w.heap.size w V2):=aa HB.out (aa OH.out OT.out)
   rw [<-hkf];clear c4 c5 c6 hV2 hkf Pt O6 OH OT OK PD HW HB;have PQ:Hid (∀U,Below V2.heap.size V2 U->(U.rangeAt m.g 0 m.cells/\U.rangeAt w.heap.size 0 [ab s0,ab kd,ab aE,ab tt,ab o,ai (ch:Int),ai (cl:Int)]/\U.rangeAt kf 0 (aN F))):=λU hU=>⟨((HH.out.later Pq.out).bx.later hU).range,(OZ.out.later hU).range,(Qc.out.later hU).range⟩
   refine wp_region_held_drew (S:=(λU:World=>U.rangeAt m.g 0 m.cells/\U.rangeAt w.heap.size 0 [ab s0,ab kd,ab aE,ab tt,ab o,ai (ch:Int),ai (cl:Int)]/\U.rangeAt kf 0 (aN F))) (by kernel_rfl) (PQ.out _ (Below.refl _ _).drew) (λhHeld=>?_)
   refine nm 13 0 13 ?_
   refine tn 0 13 1 12 ?_
   simp only [zz];refine tn 1 13 3 11 ?_
   simp only [zz];refine tn 2 13 7 10 ?_
   simp only [zz];refine wpAnyH_take (i:=3) (oi:=_) (v:=?_) rfl (by kernel_rfl) (by kernel_rfl) (by kernel_rfl) (λ_ _ _ h=>h) (Or.inl ⟨by rfl,?_⟩) (by assumption) ?_
   rotate_left
   ·(intro w hSw;have z1:=aG (j:=4) hSw.1 rfl;go_simp;try with_reducible rfl)
   simp only [zz];refine nm 13 15 9 ?_
   refine tn 4 13 31 8 ?_
   simp only [zz];refine wpAnyH_take (i:=5) (oi:=_) (v:=?_) rfl (by kernel_rfl) (by kernel_rfl) (by kernel_rfl) (λ_ _ _ h=>h) (Or.inl ⟨by rfl,?_⟩) (by assumption) ?_
   rotate_left
   ·(intro w hSw;have z0:=aG (j:=3) hSw.2.1 rfl;go_simp;try with_reducible rfl)
   simp only [zz];refine nm 13 63 7 ?_
   refine tv 6 (v:=dk F) ?_ ?_
   ·(intro w hSw;(try dsimp only at hSw);exact df rfl rfl (j6 hSw.2.2 (by rw [ao];exact O1.out)))
   simp only [zz];refine nm 13 127 6 ?_
   refine zr 7 λK hK=>?_
   go_simp
   go_wp2_with (first|(go_at_call 171;refine (Pd.out _ (aa Pq.out (Below.refl _ _).drew)).mono ?_;rintro e w3 ⟨rfl,hb3⟩))
   have OJ:Hid (Below V2.heap.size V2 w3):=aa (Below.refl _ _).drew hb3
   clear hb3;refine zk hK 13 255 5 (PQ.out _ OJ.out) λhHeld=>?_
   clear hK K;try simp only [zz]
   refine tn 8 13 511 4 ?_
   simp only [zz];refine tn 9 13 1023 3 ?_
   simp only [zz];refine tn 10 13 2047 2 ?_
   simp only [zz];refine tn 11 13 4095 1 ?_
   simp only [zz];refine tn 12 13 8191 0 ?_
   simp only [zz];refine zn ?_ _
   go_wp2;exact bodyPost_ret (v:=.tuple #[]) (by simp [results,Tryz.results174,go_sem]) rfl ⟨rfl,aa Pq.out OJ.out⟩
  | false =>
   clear hh;go_enter Tryz.func174,Tryz.ntmps174
   go_upto_region 1 with fail
   rw [<-HW.out];go_upto_region 2 with (first|(go_at_call 170;refine PD.out.mono ?_;rintro x w2 ⟨rfl,hb2⟩;have OH:=ae hb2;(have Pt:Hid (Bx (w2.alloc (Obj.cells #[.int .u8 0,.int .u8 0,.int .u8 0,.int .u8 0,.int .u8 0,.int .u8 0,.int .u8 0,.int .u8 0,.int .u8 0,.int .u8 0,.int .u8 0,.int .u8 0,.int .u8 0,.int .u8 0,.int .u8 0,.int .u8 0,.int .u8 0,.int .u8 0,.int .u8 0,.int .u8 0,.int .u8 0,.int .u8 0,.int .u8 0,.int .u8 0] 249)) w2.heap.size (aN zF)):=Bx.new w2 (aN zF) _);(have O6:=ae (pA (L:=aN F) (w:=w2.alloc (Obj.cells #[.int .u8 0,.int .u8 0,.int .u8 0,.int .u8 0,.int .u8 0,.int .u8 0,.int .u8 0,.int .u8 0,.int .u8 0,.int .u8 0,.int .u8 0,.int .u8 0,.int .u8 0,.int .u8 0,.int .u8 0,.int .u8 0,.int .u8 0,.int .u8 0,.int .u8 0,.int .u8 0,.int .u8 0,.int .u8 0,.int .u8 0,.int .u8 0] 249)) (b:=w2.heap.size) (o:=0) (by have:=Pt.out.there;rwa [ao,show zF.length=24 from rfl] at this) (by rw [ao];exact O1.out) (bJ F)));clear hb2)|((with_reducible refine a_ O6.out ?_ ?_ ?_);(· rfl);(· rfl)))
   obtain⟨V2,hV2⟩:∃V,V=(w2.alloc (Obj.cells #[.int .u8 0,.int .u8 0,.int .u8 0,.int .u8 0,.int .u8 0,.int .u8 0,.int .u8 0,.int .u8 0,.int .u8 0,.int .u8 0,.int .u8 0,.int .u8 0,.int .u8 0,.int .u8 0,.int .u8 0,.int .u8 0,.int .u8 0,.int .u8 0,.int .u8 0,.int .u8 0,.int .u8 0,.int .u8 0,.int .u8 0,.int .u8 0] 249)).setCells w2.heap.size 0 (aN F):=⟨_,rfl⟩
   rw [<-hV2];obtain⟨kf,hkf⟩:∃k,k=w2.heap.size:=⟨_,rfl⟩
   have OT:Hid (Below w2.heap.size w2 V2):=by rw [hV2];exact aj.below (ag _ _) (au (S:=(·=w2.heap.size)) rfl (aN F) 0 (aj.refl _ _)) (λk hk=>by omega)
   have Qc:Hid (Bx V2 kf (aN F)):=by rw [hkf,hV2];exact Pt.out.set (by rw [ao,ao,O1.out];rfl)
   have OZ:Hid (Bx V2 w.heap.size [ab s0,ab kd,ab aE,ab tt,ab o,ai (ch:Int),ai (cl:Int)]):=(OK.out.later OH.out).later OT.out
   have Pq:Hid (Below w.heap.size w V2):=aa HB.out (aa OH.out OT.out)
   rw [<-hkf];clear c4 c5 c6 hV2 hkf Pt O6 OH OT OK PD HW HB;have PQ:Hid (∀U,Below V2.heap.size V2 U->(U.rangeAt m.g 0 m.cells/\U.rangeAt w.heap.size 0 [ab s0,ab kd,ab aE,ab tt,ab o,ai (ch:Int),ai (cl:Int)]/\U.rangeAt kf 0 (aN F))):=λU hU=>⟨((HH.out.later Pq.out).bx.later hU).range,(OZ.out.later hU).range,(Qc.out.later hU).range⟩
   refine wp_region_held_drew (S:=(λU:World=>U.rangeAt m.g 0 m.cells/\U.rangeAt w.heap.size 0 [ab s0,ab kd,ab aE,ab tt,ab o,ai (ch:Int),ai (cl:Int)]/\U.rangeAt kf 0 (aN F))) (by kernel_rfl) (PQ.out _ (Below.refl _ _).drew) (λhHeld=>?_)
   refine nm 13 0 13 ?_
   refine tn 0 13 1 12 ?_
   simp only [zz];refine tn 1 13 3 11 ?_
   simp only [zz];refine tn 2 13 7 10 ?_
   simp only [zz];refine wpAnyH_take (i:=3) (oi:=_) (v:=?_) rfl (by kernel_rfl) (by kernel_rfl) (by kernel_rfl) (λ_ _ _ h=>h) (Or.inl ⟨by rfl,?_⟩) (by assumption) ?_
   rotate_left
   ·(intro w hSw;have z1:=aG (j:=4) hSw.1 rfl;go_simp;try with_reducible rfl)
   simp only [zz];refine nm 13 15 9 ?_
   refine tn 4 13 31 8 ?_
   simp only [zz];refine wpAnyH_take (i:=5) (oi:=_) (v:=?_) rfl (by kernel_rfl) (by kernel_rfl) (by kernel_rfl) (λ_ _ _ h=>h) (Or.inl ⟨by rfl,?_⟩) (by assumption) ?_
   rotate_left
   ·(intro w hSw;have z0:=aG (j:=3) hSw.2.1 rfl;go_simp;try with_reducible rfl)
   simp only [zz];refine nm 13 63 7 ?_
   refine tv 6 (v:=dk F) ?_ ?_
   ·(intro w hSw;(try dsimp only at hSw);exact df rfl rfl (j6 hSw.2.2 (by rw [ao];exact O1.out)))
   simp only [zz];refine nm 13 127 6 ?_
   refine zr 7 λK hK=>?_
   go_simp
   go_wp2_with (first|(go_at_call 171;refine (Pd.out _ (aa Pq.out (Below.refl _ _).drew)).mono ?_;rintro e w3 ⟨rfl,hb3⟩))
   have OJ:Hid (Below V2.heap.size V2 w3):=aa (Below.refl _ _).drew hb3
   clear hb3;refine zk hK 13 255 5 (PQ.out _ OJ.out) λhHeld=>?_
   clear hK K;try simp only [zz]
   refine tn 8 13 511 4 ?_
   simp only [zz];refine tn 9 13 1023 3 ?_
   simp only [zz];refine tn 10 13 2047 2 ?_
   simp only [zz];refine tn 11 13 4095 1 ?_
   simp only [zz];refine tn 12 13 8191 0 ?_
   simp only [zz];refine zn ?_ _
   go_wp2;exact bodyPost_ret (v:=.tuple #[]) (by simp [results,Tryz.results174,go_sem]) rfl ⟨rfl,aa Pq.out OJ.out⟩
 | false =>
  cases hb with
  | true=>cases hh
  | false =>
   clear hh;go_enter Tryz.func174,Tryz.ntmps174
   go_upto_region 1 with fail
   rw [<-HW.out];go_upto_region 2 with (first|(go_at_call 170;refine PD.out.mono ?_;rintro x w2 ⟨rfl,hb2⟩;have OH:=ae hb2;(have Pt:Hid (Bx (w2.alloc (Obj.cells #[.int .u8 0,.int .u8 0,.int .u8 0,.int .u8 0,.int .u8 0,.int .u8 0,.int .u8 0,.int .u8 0,.int .u8 0,.int .u8 0,.int .u8 0,.int .u8 0,.int .u8 0,.int .u8 0,.int .u8 0,.int .u8 0,.int .u8 0,.int .u8 0,.int .u8 0,.int .u8 0,.int .u8 0,.int .u8 0,.int .u8 0,.int .u8 0] 249)) w2.heap.size (aN zF)):=Bx.new w2 (aN zF) _);(have O6:=ae (pA (L:=aN F) (w:=w2.alloc (Obj.cells #[.int .u8 0,.int .u8 0,.int .u8 0,.int .u8 0,.int .u8 0,.int .u8 0,.int .u8 0,.int .u8 0,.int .u8 0,.int .u8 0,.int .u8 0,.int .u8 0,.int .u8 0,.int .u8 0,.int .u8 0,.int .u8 0,.int .u8 0,.int .u8 0,.int .u8 0,.int .u8 0,.int .u8 0,.int .u8 0,.int .u8 0,.int .u8 0] 249)) (b:=w2.heap.size) (o:=0) (by have:=Pt.out.there;rwa [ao,show zF.length=24 from rfl] at this) (by rw [ao];exact O1.out) (bJ F)));clear hb2)|((with_reducible refine a_ O6.out ?_ ?_ ?_);(· rfl);(· rfl)))
   obtain⟨V2,hV2⟩:∃V,V=(w2.alloc (Obj.cells #[.int .u8 0,.int .u8 0,.int .u8 0,.int .u8 0,.int .u8 0,.int .u8 0,.int .u8 0,.int .u8 0,.int .u8 0,.int .u8 0,.int .u8 0,.int .u8 0,.int .u8 0,.int .u8 0,.int .u8 0,.int .u8 0,.int .u8 0,.int .u8 0,.int .u8 0,.int .u8 0,.int .u8 0,.int .u8 0,.int .u8 0,.int .u8 0] 249)).setCells w2.heap.size 0 (aN F):=⟨_,rfl⟩
   rw [<-hV2];obtain⟨kf,hkf⟩:∃k,k=w2.heap.size:=⟨_,rfl⟩
   have OT:Hid (Below w2.heap.size w2 V2):=by rw [hV2];exact aj.below (ag _ _) (au (S:=(·=w2.heap.size)) rfl (aN F) 0 (aj.refl _ _)) (λk hk=>by omega)
   have Qc:Hid (Bx V2 kf (aN F)):=by rw [hkf,hV2];exact Pt.out.set (by rw [ao,ao,O1.out];rfl)
   have OZ:Hid (Bx V2 w.heap.size [ab s0,ab kd,ab aE,ab tt,ab o,ai (ch:Int),ai (cl:Int)]):=(OK.out.later OH.out).later OT.out
   have Pq:Hid (Below w.heap.size w V2):=aa HB.out (aa OH.out OT.out)
   rw [<-hkf];clear c4 c5 c6 hV2 hkf Pt O6 OH OT OK PD HW HB;have PQ:Hid (∀U,Below V2.heap.size V2 U->(U.rangeAt m.g 0 m.cells/\U.rangeAt w.heap.size 0 [ab s0,ab kd,ab aE,ab tt,ab o,ai (ch:Int),ai (cl:Int)]/\U.rangeAt kf 0 (aN F))):=λU hU=>⟨((HH.out.later Pq.out).bx.later hU).range,(OZ.out.later hU).range,(Qc.out.later hU).range⟩
   refine wp_region_held_drew (S:=(λU:World=>U.rangeAt m.g 0 m.cells/\U.rangeAt w.heap.size 0 [ab s0,ab kd,ab aE,ab tt,ab o,ai (ch:Int),ai (cl:Int)]/\U.rangeAt kf 0 (aN F))) (by kernel_rfl) (PQ.out _ (Below.refl _ _).drew) (λhHeld=>?_)
   refine nm 13 0 13 ?_
   refine tn 0 13 1 12 ?_
   simp only [zz];refine tn 1 13 3 11 ?_
   simp only [zz];refine tn 2 13 7 10 ?_
   simp only [zz];refine wpAnyH_take (i:=3) (oi:=_) (v:=?_) rfl (by kernel_rfl) (by kernel_rfl) (by kernel_rfl) (λ_ _ _ h=>h) (Or.inl ⟨by rfl,?_⟩) (by assumption) ?_
   rotate_left
   ·(intro w hSw;have z1:=aG (j:=4) hSw.1 rfl;go_simp;try with_reducible rfl)
   simp only [zz];refine nm 13 15 9 ?_
   refine tn 4 13 31 8 ?_
   simp only [zz];refine wpAnyH_take (i:=5) (oi:=_) (v:=?_) rfl (by kernel_rfl) (by kernel_rfl) (by kernel_rfl) (λ_ _ _ h=>h) (Or.inl ⟨by rfl,?_⟩) (by assumption) ?_
   rotate_left
   ·(intro w hSw;have z0:=aG (j:=3) hSw.2.1 rfl;go_simp;try with_reducible rfl)
   simp only [zz];refine nm 13 63 7 ?_
   refine tv 6 (v:=dk F) ?_ ?_
   ·(intro w hSw;(try dsimp only at hSw);exact df rfl rfl (j6 hSw.2.2 (by rw [ao];exact O1.out)))
   simp only [zz];refine nm 13 127 6 ?_
   refine zr 7 λK hK=>?_
   go_simp
   go_wp2_with (first|(go_at_call 171;refine (Pd.out _ (aa Pq.out (Below.refl _ _).drew)).mono ?_;rintro e w3 ⟨rfl,hb3⟩))
   have OJ:Hid (Below V2.heap.size V2 w3):=aa (Below.refl _ _).drew hb3
   clear hb3;refine zk hK 13 255 5 (PQ.out _ OJ.out) λhHeld=>?_
   clear hK K;try simp only [zz]
   refine tn 8 13 511 4 ?_
   simp only [zz];refine tn 9 13 1023 3 ?_
   simp only [zz];refine tn 10 13 2047 2 ?_
   simp only [zz];refine tn 11 13 4095 1 ?_
   simp only [zz];refine tn 12 13 8191 0 ?_
   simp only [zz];refine zn ?_ _
   go_wp2;exact bodyPost_ret (v:=.tuple #[]) (by simp [results,Tryz.results174,go_sem]) rfl ⟨rfl,aa Pq.out OJ.out⟩
def bo (B:Bv)(kd b t:Int)(c:Cp)(ls:List Lk):Bv:=if dm c=true/\B.told t (bP c)=none then { B with told:=dN B.told t (bP c) (some (⟨B.n,kd,b,t,c⟩::ls)),known:=ke B.known t (B.known t++[c]) } else B
theorem oh (m:Bm)(B:Bv)(s0 kd b tt:Int)(c:Cp)(ah:Option Addr)(ls:List Lk)(w:World)(h:Bk P w m B)(hc:c.eY)(hp:bQ tt)(hb:bQ b)(hkd:bQ kd)(hn:bQ B.n)(ha:gK P w ah ls)(hls:∀x∈ls,sN x)(hl:(B.known tt).length+1<=1000000000) :
  Calls Tryz.prog 174 #[aq m.g,s9 s0 kd b tt c,.pointer ah] w λe w'=>e=.returned (.tuple #[])/\∃m',Bk P w' m' (bo B kd b tt c ls)/\Tr w w' m m'/\m'.I=m.I:=by
 cases hF:dm c with
 | false =>
  obtain⟨r,hr⟩:=Gt.cJ (G:=m.T) tt (dk (mz c))
  refine (oc m s0 kd b tt c.o c.h c.l ah r w h.bw hc hp hr (by have:dm ⟨c.o,c.h,c.l⟩=false:=hF;rw [this];simp)).mono ?_
  rintro e w' ⟨rfl,hbe⟩
  refine⟨rfl,m,?_,(Tr.refl w m).later hbe,rfl⟩
  unfold bo;rw [if_neg (by rw [hF];simp)]
  exact h.later hbe
 | true =>
  have efm:mz c=bP c:=by unfold mz;rw [if_pos hF]
  rcases h.told.look tt (bP c) (λj _ e=>iQ e) with ⟨hnone,hg⟩|⟨a,v,hsome,hRv,hg⟩
  ·have hnone':=hnone
   refine (pF m s0 kd b tt c.o c.h c.l ah w h.bw hc hF hp hg (λj=>j∈kk m.bt m.T) (λj=>j=m.bk\/∃k∈m.K,aI k.s.a j)
    (λm1 kt=>∃L',m1={ m with T:=L' }/\(∀g∈L',g.b∈m.T.map Im.b\/w.heap.size<=g.b)/\∀q x,In L' q x↔(q=tt/\x=(dk (bP c),aq kt))\/(In m.T q x/\¬(q=tt/\x.1=dk (bP c))))
    (λw' kt=>∃L' K',Bw w' { m with T:=L',K:=K' }/\(∀q x,In L' q x↔(q=tt/\x=(dk (bP c),aq kt))\/(In m.T q x/\¬(q=tt/\x.1=dk (bP c))))/\Vl K' (ke B.known tt (B.known tt++[c]))/\(∀x∈K',x∈m.K\/0<x.s.n)/\∀j,cA { m with T:=L',K:=K' } j->cA m j\/w.heap.size<=j) ?_ ?_ ?_ ?_).mono ?_
   ·intro U kt hU
    refine (vu m.bt m.T tt (bP c) (some ⟨kt,0,none⟩) (cG _) (fp _) U ((h.bw.later hU).told) hp).mono ?_
    rintro e w' ⟨rfl,G',k1,k2,k3,k4,_⟩
    obtain⟨q1,q2⟩:=(h.bw.later hU).Cz k4 (λj hj=>hj) k1 k2
    exact⟨rfl,_,q1,⟨G',rfl,λg hg=>(k2 g hg).imp id (Nat.le_trans hU.size),k3⟩,rfl,rfl,k4⟩
   ·exact λj hj=>h.bw.told.lt j hj
   ·intro j hj
    rcases hj with rfl|⟨k,hk,hj⟩
    ·exact⟨h.bw.lo _ (by simp [Bm.aR]),λe=>(uv h.bw.cr).2.2.1 e.symm⟩
    ·have:=(h.bw.known.each k hk).1.dB j hj
     exact⟨this.2,by omega⟩
   ·rintro U m1 kt hU hB ⟨L',rfl,k2,k3⟩ hcl
    obtain⟨v0,v7,w7,w8,l0,r7,r8,⟨K',q1,q2,q3,q4⟩,b8,b7⟩:=hB.sL (f:=B.known) h.known hp c hc hl
    refine⟨v0,v7,w7,w8,l0,r7,r8,⟨L',K',q1,k3,q2,q4,λj hj=>?_⟩,b8,b7⟩
    rcases q3 j hj with h1|h1
    ·rcases h1 with h1|h1|h1
     ·rcases List.mem_append.1 h1 with h2|h2
      ·exact .inl (.inl (List.mem_append.2 (.inl h2)))
      ·rcases List.mem_append.1 h2 with h2|h2
       ·exact (eu k2 j h2).imp (λh3=>.inl (List.mem_append.2 (.inr (List.mem_append.2 (.inl h3))))) id
       ·exact .inl (.inl (List.mem_append.2 (.inr (List.mem_append.2 (.inr h2)))))
     ·exact .inl (.inr (.inl h1))
     ·exact .inl (.inr (.inr h1))
    ·exact .inr (Nat.le_trans hU h1)
   ·rintro e w' ⟨rfl,kt,hkt,⟨L',K',q1,q2,q3,q5,q4⟩,hx,hty,hbt⟩
    have hbo:aj (cA m) w w':=hbt.mono (λj hj=>by
     rcases hj with hj|rfl|hj
     ·exact .inl (List.mem_append.2 (.inr (List.mem_append.2 (.inl hj))))
     ·exact .inl (by simp [Bm.aR])
     ·exact .inr (.inr hj))
    refine⟨rfl,{ m with T:=L',K:=K' },?_,⟨rfl,hbo,q4⟩,rfl⟩
    unfold bo;rw [if_pos ⟨hF,hnone⟩];have hty':kq w' kt B.n kd b tt c ah:=by rw [<-h.n];exact hty
    exact⟨q1,h.n,h.live,h.laid.mono (λv a hr=>hr.but h.bw hbo (λ_ h=>h)),(h.told.mono (λv a hr=>hr.but h.bw hbo (λ_ h=>h))).put q2 (λj _ e=>iQ e) ⟨cG _,fp _⟩ ⟨kt,rfl,⟨kt,ah,rfl,h.pn kt hkt,hty',gK.but h.bw hbo (λ_ h=>h) ha⟩,λx hx=>by
     rcases List.mem_cons.1 hx with rfl|hx
     ·exact⟨hc,hF,hp,hb,hn,hkd⟩
     ·exact hls x hx⟩ (λj e=>iQ e),h.lists,q3,λk hk=>(q5 k hk).elim (λh1=>h.Df k h1) id,h.jU,λk hk=>h.pn k (Nat.le_trans hbo.size hk)⟩
  ·rw [<-efm] at hg
   refine (oc m s0 kd b tt c.o c.h c.l ah (some v) w h.bw hc hp hg rfl).mono ?_
   rintro e w' ⟨rfl,hbe⟩
   refine⟨rfl,m,?_,(Tr.refl w m).later hbe,rfl⟩
   unfold bo;rw [if_neg (by rw [hsome];simp)]
   exact h.later hbe
theorem lJ (m:Bm)(B:Bv)(s0 kd b tt:Int)(c:Cp)(ah:Option Addr)(ls:List Lk)(w:World)(h:Bk P w m B)(hc:c.eY)(hp:bQ tt)(hb:bQ b)(hkd:bQ kd)(hn:bQ B.n)(ha:gK P w ah ls)(hls:∀x∈ls,sN x)(hl:(B.known tt).length+1<=1000000000) :
  Calls Tryz.prog 174 #[aq m.g,s9 s0 kd b tt c,.pointer ah] w λe w'=>e=.returned (.tuple #[])/\∃m',Bk P w' m' (bo B kd b tt c ls)/\Tr w w' m m' :=
 (oh m B s0 kd b tt c ah ls w h hc hp hb hkd hn ha hls hl).mono (λe w' ⟨h1,m',h2,h3,_⟩=>⟨h1,m',h2,h3⟩)
end Go.Proofs.YtmhinfbkmjdgfaaGreatDoor.B
namespace Go.Proofs.YtmhinfbkmjdgfaaGreatDoor.B
open Go.RowKit
variable {P:Nat->Prop}
theorem FV (p:Option Addr)(ls:List Lk)(w:World)(h:gK P w p ls)(hn:ls.length<1000000000) :
  Calls Tryz.prog 91 #[.pointer p] w λe w'=>∃a' c',e=.returned (.slice a' ls.length c')/\Ow w' w.heap.size 72 7 a' ls.length c' (bO ls.reverse)/\Below w.heap.size w w':=by
 have HT:=ae h
 clear h;go_enter Tryz.func91,Tryz.ntmps91
 go_wp2;go_loopw [0,3] (DV P w ls) (λ_ o _=>ls.length - Ih o)
 case atStart=>exact⟨0,p,none,0,rfl,rfl,Nat.zero_le _,HT.out,Ow.nil _ _ _ _,Below.refl _ _⟩
 case round =>
  obtain⟨i,p',a,c,rfl,rfl,hi,hT,hO,hB⟩:=hrel
  by_cases hlt:i<ls.length
  ·obtain⟨x,hx⟩:∃x,ls[i]?=some x:=⟨_,List.getElem?_eq_getElem hlt⟩
   have hd:ls.drop i=x::ls.drop (i+1):=by rw [List.drop_eq_getElem_cons hlt];congr 1;rw [List.getElem?_eq_getElem hlt] at hx;exact Option.some.inj hx
   rw [hd] at hT;obtain⟨k,ah,rfl,_,ht,hr⟩:=hT
   obtain⟨s,kd,b,t,cp⟩:=x
   have hbx:=ht.bx
   obtain⟨a',c',w1,hap,ho,hb,hnw⟩:=iD 68 72 _ 7 56 Tryz.underlying68 yI rfl (by omega) (cs:=Gh s kd b t cp) hO rfl (EA _ _ _ _ _) hB.size (by omega) (by omega)
   have hB1:Below w.heap.size w w1:=aj.below hB hb (λj hj=>(hO.dB j hj).1)
   have hk1:¬aI a k:=λhj=>by
    obtain⟨y,hy,e1⟩:=hj
    rcases hO.2 with ⟨h1,h2⟩|⟨g,cp,cur,hv,hg,hh,r⟩
    ·simp only [Value.slice.injEq] at h1
     rw [hy] at h1;exact absurd h1.1 (by simp)
    ·simp only [Value.slice.injEq] at hv
     rw [hy] at hv;have e2:=Option.some.inj hv.1
     rw [e2] at e1;simp only at e1;subst e1;have h':wr.heap[g]?=_:=ht
     rw [hh] at h';simp at h'
   have hall:∀{q:List Lk} {z:Option Addr},gK P wr z q->gK P w1 z q:=by
    intro q;induction q with
    | nil=>intro z h;exact h
    | cons y q ih =>
     intro z ⟨k2,ah2,e,hp2,ht2,hr2⟩
     refine⟨k2,ah2,e,hp2,ht2.but hb (λhj=>?_),ih hr2⟩
     obtain⟨y,hy,e1⟩:=hj
     rcases hO.2 with ⟨h1,h2⟩|⟨g,cp,cur,hv,hg,hh,r⟩
     ·simp only [Value.slice.injEq] at h1
      rw [hy] at h1;exact absurd h1.1 (by simp)
     ·simp only [Value.slice.injEq] at hv
      rw [hy] at hv;have e2:=Option.some.inj hv.1
      rw [e2] at e1;simp only at e1;subst e1;have h':wr.heap[g]?=_:=ht2
      rw [hh] at h';simp at h'
   have HR:Hid ((Builtin.append_ #[68,68] 68 #[.slice a i c,.slice (some ⟨wr.heap.size,0,none⟩) 1 1]).run Tryz.prog (wr.alloc (Obj.cells #[ab s,ab kd,ab b,ab t,ab cp.o,ai (cp.h:Int),ai (cp.l:Int)] 72))=.ok (.slice a' (i+1) c') w1):=hap
   have HO:Hid (Ow w1 w.heap.size 72 7 a' (i+1) c' (bO (ls.take (i+1)))):=by
    have e:ls.take (i+1)=ls.take i++[⟨s,kd,b,t,cp⟩]:=by rw [List.take_add_one,hx];rfl
    unfold Hid;rw [e,qW];have e2:bO [⟨s,kd,b,t,cp⟩]=Gh s kd b t cp:=by simp [bO]
    rw [e2];exact ho
   have HB:=ae hB1
   have VO:=ae (hall hr)
   have HX:=ae (hbx.but hb hk1)
   have x0:=hbx.cell 0 rfl
   have x1:=hbx.cell 1 rfl
   have x2:=hbx.cell 2 rfl
   have x3:=hbx.cell 3 rfl
   have x4:=hbx.cell 4 rfl
   have x5:=hbx.cell 5 rfl
   have x6:=hbx.cell 6 rfl
   clear hr ho hb hnw hB1 hB hO hk1 hall ht hbx hap hd hx HT;go_wp2_with (first|(at_builtin;refine aw rfl _ _ 68 rfl _ _ rfl rfl _ w1 HR.out ?_;(have x7:=HX.out.cell 7 rfl)))
   exact⟨⟨i+1,ah,a',c',rfl,rfl,hlt,VO.out,HO.out,HB.out⟩,by simp [Ih];omega⟩
  ·obtain rfl:i=ls.length:=by omega
   rw [List.drop_length] at hT;have hT':p'=none:=hT
   subst hT';rw [List.take_length] at hO;have VB:=ae (uq hO (by omega))
   have HO:=ae hO
   have HB:=ae hB
   clear hO hB hT HT;go_wp2_with (first|(go_at_call 172;refine VB.out.mono ?_;rintro e w2 ⟨rfl,ho2,hb2⟩;have O0:=ae ho2;have OH:=ae hb2;clear ho2 hb2))
   go_ret;exact⟨a,c,rfl,O0.out,aj.below HB.out OH.out (λj hj=>(HO.out.dB j hj).1)⟩
theorem pC (m:Bm)(p:Int)(c:Cp)(w:World)(hc:c.eY)(hF:dm c=false) :
  Calls Tryz.prog 90 #[aq m.g,ab p,dw c] w λe w'=>e=.returned (.tuple #[.pointer none,.bool false])/\Below w.heap.size w w':=by
 obtain⟨o,ch,cl⟩:=c
 obtain⟨W,hW⟩:∃W,W=w.alloc (Obj.cells #[ab o,ai (ch:Int),ai (cl:Int)] 37):=⟨_,rfl⟩
 have hB:Below w.heap.size w W:=by rw [hW];exact ag _ _
 have OK:Hid (Bx W w.heap.size [ab o,ai (ch:Int),ai (cl:Int)]):=by rw [hW];exact Bx.new w [ab o,ai (ch:Int),ai (cl:Int)] _
 have c4:=OK.out.cell 0 rfl
 have c5:=OK.out.cell 1 rfl
 have c6:=OK.out.cell 2 rfl
 have PD:=ae (fz ⟨o,ch,cl⟩ hc W)
 have eF:mz ⟨o,ch,cl⟩=zF:=by unfold mz;rw [if_neg (by rw [hF];simp)]
 rw [eF,hF] at PD;have HB:=ae hB
 have HW:=ae hW
 have O1:=ae (show zF.length=24 from rfl)
 generalize zF=F at PD O1
 clear hB hW eF hF hc;go_enter Tryz.func90,Tryz.ntmps90
 go_upto_region 1 with fail
 rw [<-HW.out];go_upto_region 2 with (first|(go_at_call 170;refine PD.out.mono ?_;rintro x w2 ⟨rfl,hb2⟩;have OH:=ae hb2;(have Pt:Hid (Bx (w2.alloc (Obj.cells #[.int .u8 0,.int .u8 0,.int .u8 0,.int .u8 0,.int .u8 0,.int .u8 0,.int .u8 0,.int .u8 0,.int .u8 0,.int .u8 0,.int .u8 0,.int .u8 0,.int .u8 0,.int .u8 0,.int .u8 0,.int .u8 0,.int .u8 0,.int .u8 0,.int .u8 0,.int .u8 0,.int .u8 0,.int .u8 0,.int .u8 0,.int .u8 0] 249)) w2.heap.size (aN zF)):=Bx.new w2 (aN zF) _);(have O6:=ae (pA (L:=aN F) (w:=w2.alloc (Obj.cells #[.int .u8 0,.int .u8 0,.int .u8 0,.int .u8 0,.int .u8 0,.int .u8 0,.int .u8 0,.int .u8 0,.int .u8 0,.int .u8 0,.int .u8 0,.int .u8 0,.int .u8 0,.int .u8 0,.int .u8 0,.int .u8 0,.int .u8 0,.int .u8 0,.int .u8 0,.int .u8 0,.int .u8 0,.int .u8 0,.int .u8 0,.int .u8 0] 249)) (b:=w2.heap.size) (o:=0) (by have:=Pt.out.there;rwa [ao,show zF.length=24 from rfl] at this) (by rw [ao];exact O1.out) (bJ F)));clear hb2)|((with_reducible refine a_ O6.out ?_ ?_ ?_);(· rfl);(· rfl)))
 obtain⟨V2,hV2⟩:∃V,V=(w2.alloc (Obj.cells #[.int .u8 0,.int .u8 0,.int .u8 0,.int .u8 0,.int .u8 0,.int .u8 0,.int .u8 0,.int .u8 0,.int .u8 0,.int .u8 0,.int .u8 0,.int .u8 0,.int .u8 0,.int .u8 0,.int .u8 0,.int .u8 0,.int .u8 0,.int .u8 0,.int .u8 0,.int .u8 0,.int .u8 0,.int .u8 0,.int .u8 0,.int .u8 0] 249)).setCells w2.heap.size 0 (aN F):=⟨_,rfl⟩
 rw [<-hV2];obtain⟨kf,hkf⟩:∃k,k=w2.heap.size:=⟨_,rfl⟩
 have OT:Hid (Below w2.heap.size w2 V2):=by rw [hV2];exact aj.below (ag _ _) (au (S:=(·=w2.heap.size)) rfl (aN F) 0 (aj.refl _ _)) (λk hk=>by omega)
 have Pq:Hid (Below w.heap.size w V2):=aa HB.out (aa OH.out OT.out)
 clear c4 c5 c6 hV2 hkf Pt O6 OH OT OK PD HW HB;go_wp2;exact bodyPost_ret (v:=.tuple #[.pointer none,.bool false]) (by simp [results,Tryz.results90,go_sem]) rfl ⟨rfl,Pq.out⟩
def dR (B:Bv)(p:Int)(c:Cp):Option (List Lk):=if dm c=true then B.told p (bP c) else none
theorem fs (m:Bm)(B:Bv)(p:Int)(c:Cp)(w:World)(h:Bk P w m B)(hc:c.eY)(hp:bQ p) :
  ∃a,gK P w a ((dR B p c).getD [])/\(∀x∈(dR B p c).getD [],sN x)/\∀U,Below w.heap.size w U->Calls Tryz.prog 90 #[aq m.g,ab p,dw c] U λe w'=>e=.returned (.tuple #[.pointer a,.bool (dR B p c).isSome])/\Below U.heap.size U w':=by
 cases hF:dm c with
 | false =>
  have e:dR B p c=none:=by unfold dR;rw [if_neg (by rw [hF];simp)]
  rw [e];exact⟨none,rfl,λx hx=>(by cases hx),λU hU=>pC m p c U hc hF⟩
 | true =>
  have e:dR B p c=B.told p (bP c):=by unfold dR;rw [if_pos hF]
  rw [e];rcases h.told.look p (bP c) (λj _ e=>iQ e) with ⟨hn,hg⟩|⟨a,v,hs,⟨k,rfl,ht,ho⟩,hg⟩
  ·rw [hn]
   exact⟨none,rfl,λx hx=>(by cases hx),λU hU=>dK m p c none U (h.bw.later hU) hc hF hp hg⟩
  ·rw [hs]
   exact⟨some ⟨k,0,none⟩,ht,ho,λU hU=>dK m p c _ U (h.bw.later hU) hc hF hp hg⟩
theorem Cg (m:Bm)(B:Bv)(p:Int)(c:Cp)(w:World)(h:Bk P w m B)(hc:c.eY)(hp:bQ p) :
  Calls Tryz.prog 30 #[aq m.g,ab p,dw c] w λe w'=>e=.returned (.bool (dR B p c).isSome)/\Below w.heap.size w w':=by
 obtain⟨a,-,-,hT⟩:=fs m B p c w h hc hp
 obtain⟨W,hW⟩:∃W,W=w.alloc (Obj.cells #[ab c.o,ai (c.h:Int),ai (c.l:Int)] 37):=⟨_,rfl⟩
 have hB:Below w.heap.size w W:=by rw [hW];exact ag _ _
 have OK:Hid (Bx W w.heap.size [ab c.o,ai (c.h:Int),ai (c.l:Int)]):=by rw [hW];exact Bx.new w [ab c.o,ai (c.h:Int),ai (c.l:Int)] _
 have c4:=OK.out.cell 0 rfl
 have c5:=OK.out.cell 1 rfl
 have c6:=OK.out.cell 2 rfl
 have HT:=ae (hT W hB)
 have HB:=ae hB
 have HW:=ae hW
 generalize (dR B p c).isSome=rb at HT ⊢
 clear h hB hW hc hT;go_enter Tryz.func30,Tryz.ntmps30
 go_upto_region 1 with fail
 rw [<-HW.out];go_wp2_with (first|(go_at_call 90;refine HT.out.mono ?_;rintro e w2 ⟨rfl,hb2⟩;have OH:=ae hb2;clear hb2))
 go_ret;exact⟨rfl,aa HB.out OH.out⟩
theorem EU (m:Bm)(B:Bv)(p:Int)(c:Cp)(w:World)(h:Bk P w m B)(hc:c.eY)(hp:bQ p)(hn:((dR B p c).getD []).length<1000000000) :
  Calls Tryz.prog 32 #[aq m.g,ab p,dw c] w λe w'=>∃a' c',e=.returned (.tuple #[.slice a' ((dR B p c).getD []).length c',.bool (dR B p c).isSome])/\Ow w' w.heap.size 72 7 a' ((dR B p c).getD []).length c' (bO ((dR B p c).getD []).reverse)/\Below w.heap.size w w':=by
 obtain⟨a,ht,-,hT⟩:=fs m B p c w h hc hp
 obtain⟨W,hW⟩:∃W,W=w.alloc (Obj.cells #[ab c.o,ai (c.h:Int),ai (c.l:Int)] 37):=⟨_,rfl⟩
 have hB:Below w.heap.size w W:=by rw [hW];exact ag _ _
 have OK:Hid (Bx W w.heap.size [ab c.o,ai (c.h:Int),ai (c.l:Int)]):=by rw [hW];exact Bx.new w [ab c.o,ai (c.h:Int),ai (c.l:Int)] _
 have c4:=OK.out.cell 0 rfl
 have c5:=OK.out.cell 1 rfl
 have c6:=OK.out.cell 2 rfl
 have HT:=ae (hT W hB)
 generalize (dR B p c).getD []=ls at ht hn HT ⊢
 generalize (dR B p c).isSome=rb at HT ⊢
 have HC:=ae (λ(U:World) (hU:Below w.heap.size w U)=>FV a ls U (ht.later hU) hn)
 have HB:=ae hB
 have HW:=ae hW
 clear h hB hW hc ht hT;go_enter Tryz.func32,Tryz.ntmps32
 go_upto_region 1 with fail
 rw [<-HW.out];go_wp2_with (first|(go_at_call 90;refine HT.out.mono ?_;rintro e w2 ⟨rfl,hb2⟩;have OH:=ae (aa HB.out hb2);clear hb2)|(go_at_call 91;refine (HC.out _ OH.out).mono ?_;rintro e w3 ⟨a',c',rfl,ho,hb3⟩;have HO:=ae ho;have OJ:=ae (aa OH.out hb3);clear ho hb3))
 exact bodyPost_ret (v:=.tuple #[.slice a' ls.length c',.bool rb]) (by simp [results,Tryz.results32,go_sem]) rfl ⟨a',c',rfl,HO.out.mono OH.out.size,OJ.out⟩
end Go.Proofs.YtmhinfbkmjdgfaaGreatDoor.B
namespace Go.Proofs.YtmhinfbkmjdgfaaGreatDoor.B
open Go.RowKit
variable {P:Nat->Prop}
variable {cap n:Nat}{S:Nat->Prop}{a:Option Addr}{w w':World}
structure Cq where
 op:Int
 b:Int
 sz:Int
 c:Cp
 gv:Bool
 rt:Int
 off:Int
 nn:Int
 d:Sl
 ix:Int
 gs:Sl
abbrev Cq.L (x:Cq):List Value:=[ab x.op,ab x.b,ab x.sz,ab x.c.o,ai (x.c.h:Int),ai (x.c.l:Int),.bool x.gv,ab x.rt,ab x.off,ab x.nn,.slice x.d.a x.d.n x.d.c,ab x.ix,.slice x.gs.a x.gs.n x.gs.c]
abbrev Cq.v (x:Cq):Value:=.agg #[ab x.op,ab x.b,ab x.sz,ab x.c.o,ai (x.c.h:Int),ai (x.c.l:Int),.bool x.gv,ab x.rt,ab x.off,ab x.nn,.slice x.d.a x.d.n x.d.c,ab x.ix,.slice x.gs.a x.gs.n x.gs.c]
structure Cq.ok (x:Cq):Prop where
 op:bQ x.op
 b:bQ x.b
 c:x.c.eY
 rt:bQ x.rt
 off:bQ x.off
 ix:bQ x.ix
theorem Row.but {L:List Nat}(h:Row w a n cap L)(hb:aj S w w')(hn:∀j,aI a j->¬S j):Row w' a n cap L :=
 ⟨h.len,h.cap_,h.none_,λx hx j u hu=>by
  have hc:=h.cells x hx j u hu
  have hbl:(x.add j).block=x.block:=by unfold Addr.add;split<;>rfl
  rw [World.cell?_of_block (w:=w) (hb.block _ (World.block_lt_of_cell? _ _ hc) (λhs=>hn x.block ⟨x,hx,rfl⟩ (by rw [<-hbl];exact hs)))]
  exact hc,h.small⟩
theorem RI.but {L:List Int}(h:RI w a n cap L)(hb:aj S w w')(hn:∀j,aI a j->¬S j):RI w' a n cap L :=
 ⟨h.len,h.cap_,h.none_,λx hx j u hu=>by
  have hc:=h.cells x hx j u hu
  have hbl:(x.add j).block=x.block:=by unfold Addr.add;split<;>rfl
  rw [World.cell?_of_block (w:=w) (hb.block _ (World.block_lt_of_cell? _ _ hc) (λhs=>hn x.block ⟨x,hx,rfl⟩ (by rw [<-hbl];exact hs)))]
  exact hc⟩
abbrev ig (B:Bv)(c:Cp)(ph pl:Nat)(r:Int):Bv:={ B with live:=dN B.live c.o (c.h,c.l) (some ⟨c.h,c.l,ph,pl,r,B.n⟩),ct:=B.ct+1 }
theorem tB (m:Bm)(B:Bv)(x:Cq)(cd nu:Int)(c:Cp)(d:Sl)(w:World)(h:Bk P w m B)(hx:x.ok)(hc:c.eY)(hnn:bQ B.n)(hl:(B.known x.b).length+1<=1000000000) :
  Calls Tryz.prog 96 #[aq m.g,x.v,bR cd c d nu] w λe w'=>e=.returned (.tuple #[])/\∃m',Bk P w' m' (bo (ig B c c.h c.l 31) 1 x.b x.b c [])/\Tr w w' m m':=by
 obtain⟨o,ch,cl⟩:=c
 obtain⟨W,hW⟩:∃W,W=(w.alloc (Obj.cells x.L.toArray 44)).alloc (Obj.cells #[ab cd,ab o,ai (ch:Int),ai (cl:Int),.slice d.a d.n d.c,ab nu] 40):=⟨_,rfl⟩
 have hB:Below w.heap.size w W:=by rw [hW];exact aB _ _ _
 have OK:Hid (Bx W w.heap.size x.L):=by rw [hW];exact (Bx.new w x.L _).later (ag _ _)
 have OL:Hid (Bx W (w.heap.size+1) (aZ cd ⟨o,ch,cl⟩ d nu)):=by rw [hW];have:=Bx.new (w.alloc (Obj.cells x.L.toArray 44)) (aZ cd ⟨o,ch,cl⟩ d nu) 40;simp at this;exact this
 have y1:=OL.out.cell 1 rfl
 have y2:=OL.out.cell 2 rfl
 have y3:=OL.out.cell 3 rfl
 have HI:=ae (oe m B ⟨o,ch,cl⟩ hc ch cl 31 W (h.later hB) hc.2.1 hc.2.2 (by constructor<;>omega) hnn)
 have PH:=ae h.bw.cK
 have HB:=ae hB
 have HW:=ae hW
 have P1:Hid (∀U m1,Bk P U m1 (ig B ⟨o,ch,cl⟩ ch cl 31)->Calls Tryz.prog 174 #[aq m1.g,s9 0 1 x.b x.b ⟨o,ch,cl⟩,.pointer none] U λe w'=>e=.returned (.tuple #[])/\∃m',Bk P w' m' (bo (ig B ⟨o,ch,cl⟩ ch cl 31) 1 x.b x.b ⟨o,ch,cl⟩ [])/\Tr U w' m1 m'):=λU m1 h1=>lJ m1 _ 0 1 x.b x.b ⟨o,ch,cl⟩ none [] U h1 hc hx.b hx.b (by constructor<;>omega) hnn rfl (λy hy=>by cases hy) hl
 obtain⟨xop,xb,xsz,⟨xo,xh,xl⟩,xgv,xrt,xoff,xnn,⟨xda,xdn,xdc⟩,xix,⟨xga,xgn,xgc⟩⟩:=x
 simp only at P1 OK HW ⊢
 clear h hB hW hc hnn hx hl;go_enter Tryz.func96,Tryz.ntmps96
 go_upto_region 1 with fail
 rw [<-HW.out];go_upto_region 2 with (first|(go_at_call 173;refine HI.out.mono ?_;rintro x w1 ⟨rfl,m1,hb1,ht1⟩;have OI:=ae hb1;have OV:=ae ht1;clear hb1 ht1))
 have HY:=ae (OL.out.but OV.out.bt (λhj=>by have:=PH.out _ hj;omega))
 have HX:=ae (OK.out.but OV.out.bt (λhj=>by have:=PH.out _ hj;omega))
 clear y1 y2 y3;have y1:=HY.out.cell 1 rfl
 have y2:=HY.out.cell 2 rfl
 have y3:=HY.out.cell 3 rfl
 have x1:=HX.out.cell 1 rfl
 have hte:=P1.out w1 m1 OI.out
 rw [OV.out.g] at hte;have Qz:=ae hte
 clear hte;go_wp2_with (first|(go_at_call 174;refine Qz.out.mono ?_;rintro x w2 ⟨rfl,m2,hb2,ht2⟩;have OH:=ae hb2;have OO:=ae ht2;clear hb2 ht2))
 exact bodyPost_end (v:=.tuple #[]) (by simp [results,Tryz.results96,go_sem]) rfl ⟨rfl,m2,OH.out,Tr.fh HB.out (OV.out.trans OO.out)⟩
theorem tQ (m:Bm)(B:Bv)(x:Cq)(cd nu:Int)(c:Cp)(d:Sl)(w:World)(h:Bk P w m B)(hx:x.ok)(hc:c.eY)(hnn:bQ B.n)(hl:(B.known x.b).length+1<=1000000000) :
  Calls Tryz.prog 98 #[aq m.g,x.v,bR cd c d nu] w λe w'=>e=.returned (.tuple #[])/\∃m',Bk P w' m' (bo (ig B c x.c.h x.c.l x.rt) 2 x.b x.b c ((dR B x.b x.c).getD []))/\Tr w w' m m':=by
 obtain⟨o,ch,cl⟩:=c
 obtain⟨W,hW⟩:∃W,W=(w.alloc (Obj.cells x.L.toArray 44)).alloc (Obj.cells #[ab cd,ab o,ai (ch:Int),ai (cl:Int),.slice d.a d.n d.c,ab nu] 40):=⟨_,rfl⟩
 have hB:Below w.heap.size w W:=by rw [hW];exact aB _ _ _
 have OK:Hid (Bx W w.heap.size x.L):=by rw [hW];exact (Bx.new w x.L _).later (ag _ _)
 have OL:Hid (Bx W (w.heap.size+1) (aZ cd ⟨o,ch,cl⟩ d nu)):=by rw [hW];have:=Bx.new (w.alloc (Obj.cells x.L.toArray 44)) (aZ cd ⟨o,ch,cl⟩ d nu) 40;simp at this;exact this
 have y1:=OL.out.cell 1 rfl
 have y2:=OL.out.cell 2 rfl
 have y3:=OL.out.cell 3 rfl
 have x4:=OK.out.cell 4 rfl
 have x5:=OK.out.cell 5 rfl
 have x7:=OK.out.cell 7 rfl
 have HI:=ae (oe m B ⟨o,ch,cl⟩ hc x.c.h x.c.l x.rt W (h.later hB) hx.c.2.1 hx.c.2.2 hx.rt hnn)
 have PH:=ae h.bw.cK
 have HB:=ae hB
 have HW:=ae hW
 have P5:Hid (∀U m1,Bk P U m1 (ig B ⟨o,ch,cl⟩ x.c.h x.c.l x.rt)->∃a,gK P U a ((dR B x.b x.c).getD [])/\(∀y∈(dR B x.b x.c).getD [],sN y)/\∀V,Below U.heap.size U V->Calls Tryz.prog 90 #[aq m1.g,ab x.b,dw x.c] V λe w'=>e=.returned (.tuple #[.pointer a,.bool (dR B x.b x.c).isSome])/\Below V.heap.size V w'):=λU m1 h1=>fs m1 (ig B ⟨o,ch,cl⟩ x.c.h x.c.l x.rt) x.b x.c U h1 hx.c hx.b
 have P1:Hid (∀U m1 a,Bk P U m1 (ig B ⟨o,ch,cl⟩ x.c.h x.c.l x.rt)->gK P U a ((dR B x.b x.c).getD [])->(∀y∈(dR B x.b x.c).getD [],sN y)->Calls Tryz.prog 174 #[aq m1.g,s9 0 2 x.b x.b ⟨o,ch,cl⟩,.pointer a] U λe w'=>e=.returned (.tuple #[])/\∃m',Bk P w' m' (bo (ig B ⟨o,ch,cl⟩ x.c.h x.c.l x.rt) 2 x.b x.b ⟨o,ch,cl⟩ ((dR B x.b x.c).getD []))/\Tr U w' m1 m'):=λU m1 a h1 h2 h3=>lJ m1 _ 0 2 x.b x.b ⟨o,ch,cl⟩ a _ U h1 hc hx.b hx.b (by constructor<;>omega) hnn h2 h3 hl
 obtain⟨xop,xb,xsz,⟨xo,xh,xl⟩,xgv,xrt,xoff,xnn,⟨xda,xdn,xdc⟩,xix,⟨xga,xgn,xgc⟩⟩:=x
 simp only at P1 P5 HI OK HW ⊢
 generalize (dR B xb ⟨xo,xh,xl⟩).getD []=ls at P1 P5 ⊢
 generalize (dR B xb ⟨xo,xh,xl⟩).isSome=rb at P5
 clear h hB hW hc hnn hx hl;go_enter Tryz.func98,Tryz.ntmps98
 go_upto_region 1 with fail
 rw [<-HW.out];go_upto_region 2 with (first|(go_at_call 173;refine HI.out.mono ?_;rintro x w1 ⟨rfl,m1,hb1,ht1⟩;have OI:=ae hb1;have OV:=ae ht1;clear hb1 ht1))
 have HY:=ae (OL.out.but OV.out.bt (λhj=>by have:=PH.out _ hj;omega))
 have HX:=ae (OK.out.but OV.out.bt (λhj=>by have:=PH.out _ hj;omega))
 clear y1 y2 y3 x4 x5 x7;have x1:=HX.out.cell 1 rfl
 have x3:=HX.out.cell 3 rfl
 have x4:=HX.out.cell 4 rfl
 have x5:=HX.out.cell 5 rfl
 obtain⟨a,ht0,hls0,htl⟩:=P5.out w1 m1 OI.out
 rw [OV.out.g] at htl;have Q1:=ae ht0
 have Uc:=ae hls0
 have Vy:=ae (htl w1 (Below.refl _ _))
 clear htl ht0 hls0 P5;go_upto_region 3 with (first|(go_at_call 90;refine Vy.out.mono ?_;rintro x w2 ⟨rfl,hb2⟩;have OH:=ae hb2;clear hb2))
 have T2:=ae (HY.out.later OH.out)
 have OZ:=ae (HX.out.later OH.out)
 clear x1 x3 x4 x5;have y1:=T2.out.cell 1 rfl
 have y2:=T2.out.cell 2 rfl
 have y3:=T2.out.cell 3 rfl
 have x1:=OZ.out.cell 1 rfl
 have hte:=P1.out w2 m1 a (OI.out.later OH.out) (Q1.out.later OH.out) Uc.out
 rw [OV.out.g] at hte;have Qz:=ae hte
 clear hte;go_wp2_with (first|(go_at_call 174;refine Qz.out.mono ?_;rintro x w3 ⟨rfl,m2,hb2,ht2⟩;have OJ:=ae hb2;have OO:=ae ht2;clear hb2 ht2))
 exact bodyPost_end (v:=.tuple #[]) (by simp [results,Tryz.results98,go_sem]) rfl ⟨rfl,m2,OJ.out,Tr.fh HB.out ((OV.out.later OH.out).trans OO.out)⟩
end Go.Proofs.YtmhinfbkmjdgfaaGreatDoor.B
namespace Go.Proofs.YtmhinfbkmjdgfaaGreatDoor.B
open Go.RowKit
variable {P:Nat->Prop}
theorem lK (a:Option Addr)(n c:Nat)(w:World)(hn:n<=1099511627776):Calls Tryz.prog 178 #[.slice a n c] w λe w'=>e=.returned (ab ((n - 23:Nat):Int))/\w'=w:=by
 by_cases h:23<=n
 ·have e:((n - 23:Nat):Int)=(n:Int) - 24+1:=by omega
  have hm:¬((n:Int) - 24+1<0):=by omega
  rw [e];go_enter Tryz.func178,Tryz.ntmps178
  go_wp2;all_goals (go_ret;exact⟨aQ (by omega),rfl⟩)
 ·have e:((n - 23:Nat):Int)=0:=by omega
  rw [e];go_enter Tryz.func178,Tryz.ntmps178
  go_wp2;all_goals (go_ret;exact⟨aQ (by omega),rfl⟩)
theorem sS (x:Int):bQ (wrap64 x):=by
 unfold wrap64;constructor<;>omega
def FZ (b obj off:Int)(B:Bv)(k:Nat):Bv:=match B.laid obj (wrap64 (off+(k:Int))) with
 | some (x::ls)=>bo B 3 x.t b x.c (x::ls)
 | _=>B
def j7 (b obj off:Int)(B:Bv):Nat->Bv
 | 0=>B
 | k+1=>FZ b obj off (j7 b obj off B k) k
theorem iR (B:Bv)(kd b t:Int)(c:Cp)(ls:List Lk):(bo B kd b t c ls).n=B.n/\(bo B kd b t c ls).laid=B.laid/\(bo B kd b t c ls).lists=B.lists/\(bo B kd b t c ls).live=B.live:=by
 unfold bo;split<;>exact⟨rfl,rfl,rfl,rfl⟩
theorem mZ (B:Bv)(kd b t:Int)(c:Cp)(ls:List Lk)(p:Int):((bo B kd b t c ls).known p).length<=(B.known p).length+1:=by
 unfold bo;split
 ·simp only [ke]
  split
  ·rename_i e
   subst e;simp
  ·omega
 ·omega
theorem zK (b obj off:Int)(B:Bv)(k:Nat):(j7 b obj off B k).n=B.n/\(j7 b obj off B k).laid=B.laid/\(j7 b obj off B k).lists=B.lists/\∀p,((j7 b obj off B k).known p).length<=(B.known p).length+k:=by
 induction k with
 | zero=>exact⟨rfl,rfl,rfl,λp=>Nat.le_refl _⟩
 | succ k ih =>
  obtain⟨h1,h2,h3,h4⟩:=ih
  unfold j7 FZ;split
  ·rename_i x ls _
   obtain⟨k1,k2,k3,_⟩:=iR (j7 b obj off B k) 3 x.t b x.c (x::ls)
   exact⟨k1.trans h1,k2.trans h2,k3.trans h3,λp=>by have:=mZ (j7 b obj off B k) 3 x.t b x.c (x::ls) p;have:=h4 p;omega⟩
  ·exact⟨h1,h2,h3,λp=>by have:=h4 p;omega⟩
theorem BB (m:Bm)(B:Bv)(p i:Int)(w:World)(h:Bk P w m B)(hp:bQ p)(hi:bQ i) :
  (∀U,Below w.heap.size w U->Calls Tryz.prog 179 #[.map (some m.ba),ab p,ab i] U λe w'=>e=.returned (.tuple #[.pointer none,.bool false])/\w'=U)/\(∀x ls,B.laid p i≠some (x::ls)) \/
  ∃kt x ls ah,B.laid p i=some (x::ls)/\kq w kt x.s x.kd x.b x.t x.c ah/\gK P w (some ⟨kt,0,none⟩) (x::ls)/\(∀y∈x::ls,sN y)/\∀U,Below w.heap.size w U->Calls Tryz.prog 179 #[.map (some m.ba),ab p,ab i] U λe w'=>e=.returned (.tuple #[aq kt,.bool true])/\w'=U:=by
 rcases h.laid.look p i (λj _ e=>oA e) with ⟨hn,hg⟩|⟨a,v,hs,⟨k,rfl,ht,ho⟩,hg⟩
 ·exact .inl ⟨λU hU=>nQ m.ba m.A p i none U (h.bw.later hU).laid hp hi hg,λx ls e=>by rw [hn] at e;cases e⟩
 ·cases a with
  | nil=>exact absurd ht (by intro e;cases e)
  | cons x ls =>
   have ht':=ht
   obtain⟨k',ah,e,_,hty,_⟩:=ht
   simp only [Option.some.injEq,Addr.mk.injEq,and_true] at e;subst e;exact .inr ⟨k,x,ls,ah,hs,hty,ht',ho,λU hU=>nQ m.ba m.A p i _ U (h.bw.later hU).laid hp hi hg⟩
def yC (P:Nat->Prop)(W:World)(m:Bm)(b obj off:Int)(B:Bv)(N:Nat)(v:Value)(U:World):Prop:=∃k:Nat,v=ab (k:Int)/\k<=N/\∃m',Bk P U m' (j7 b obj off B k)/\Tr W U m m'
theorem tM (m:Bm)(B:Bv)(x:Cq)(cd nu:Int)(c:Cp)(d:Sl)(w:World)(h:Bk P w m B)(hx:x.ok)(hnn:bQ B.n)(hd:d.n<=100000000)(hl:(B.known x.b).length+d.n<=100000000) :
  Calls Tryz.prog 100 #[aq m.g,x.v,bR cd c d nu] w λe w'=>e=.returned (.tuple #[])/\∃m',Bk P w' m' (j7 x.b x.c.o x.off B (d.n - 23))/\Tr w w' m m':=by
 obtain⟨o,ch,cl⟩:=c
 obtain⟨W,hW⟩:∃W,W=(w.alloc (Obj.cells x.L.toArray 44)).alloc (Obj.cells #[ab cd,ab o,ai (ch:Int),ai (cl:Int),.slice d.a d.n d.c,ab nu] 40):=⟨_,rfl⟩
 have hB:Below w.heap.size w W:=by rw [hW];exact aB _ _ _
 have OK:Hid (Bx W w.heap.size x.L):=by rw [hW];exact (Bx.new w x.L _).later (ag _ _)
 have OL:Hid (Bx W (w.heap.size+1) (aZ cd ⟨o,ch,cl⟩ d nu)):=by rw [hW];have:=Bx.new (w.alloc (Obj.cells x.L.toArray 44)) (aZ cd ⟨o,ch,cl⟩ d nu) 40;simp at this;exact this
 have y4:=OL.out.cell 4 rfl
 have O8:=ae (h.later hB)
 have PH:=ae h.bw.cK
 have HB:=ae hB
 have HW:=ae hW
 have QI:Hid (w.heap.size<W.heap.size):=OK.out.lt (by simp)
 have QK:=ae hx
 have R6:=ae hnn
 have HL:=ae hl
 obtain⟨da,dn,dc⟩:=d
 have RS:Hid (∀U,Calls Tryz.prog 178 #[.slice da dn dc] U λe w'=>e=.returned (ab ((dn - 23:Nat):Int))/\U=w'):=λU=>(lK da dn dc U (by simp only at hd;omega)).mono (λe w' h=>⟨h.1,h.2.symm⟩)
 obtain⟨xop,xb,xsz,⟨xo,xh,xl⟩,xgv,xrt,xoff,xnn,⟨xda,xdn,xdc⟩,xix,⟨xga,xgn,xgc⟩⟩:=x
 simp only at OK HW HL hd ⊢
 obtain⟨N,hN⟩:∃N,N=dn - 23:=⟨_,rfl⟩
 rw [<-hN] at RS ⊢
 have hN2:N<=100000000:=by omega
 have HN:Hid (N<=dn):=by unfold Hid;omega
 clear h hB hW hx hnn hl hd hN;go_enter Tryz.func100,Tryz.ntmps100
 go_upto_region 1 with fail
 rw [<-HW.out];go_wp2_with (first|(go_at_call 178;refine (RS.out _).mono ?_;rintro e w2 ⟨rfl,rfl⟩))
 clear y4 RS;go_loopw [12] (yC P W m xb xo xoff B N) (λv _=>N - jv v)
 case atStart=>exact⟨0,rfl,Nat.zero_le _,m,O8.out,Tr.refl _ _⟩
 case round =>
  obtain⟨k,rfl,hk,m1,hb1,ht1⟩:=hrel
  by_cases hkN:k<N
  ·have OI:=ae hb1
   have OV:=ae ht1
   have OQ:=ae (ht1.bt)
   have hlt:decide ((k:Int)<(N:Int))=true:=by simp;omega
   have hko:bQ xo:=QK.out.c.1
   have OZ:=ae (OK.out.but OQ.out (λhj=>by have:=PH.out _ hj;omega))
   have q3:=hb1.bw.bx.cell 3 rfl
   rw [ht1.g] at q3;have x1:=OZ.out.cell 1 rfl
   have x3:=OZ.out.cell 3 rfl
   have x8:=OZ.out.cell 8 rfl
   obtain⟨r1,r2,r3,r4⟩:=zK xb xo xoff B k
   rcases BB m1 _ xo (wrap64 (xoff+(k:Int))) _ hb1 hko (sS _) with ⟨hlk,hno⟩|⟨kt,y,ls,ah,hs,hty,htl,hls,hlk⟩
   ·have SW:=ae hlk
    have P0:Hid (j7 xb xo xoff B (k+1)=j7 xb xo xoff B k):=by
     unfold Hid;rw [j7];unfold FZ;split
     ·rename_i y ls e
      exact absurd e (hno y ls)
     ·rfl
    clear hlk hno hb1 ht1 hko r1 r2 r3 r4;go_upto_region 4 with fail
    go_quiet (first|(go_at_call 179;refine Calls.quiet_of_same (SW.out _ (below_drewN (Below.refl _ _) _))))
    go_wp2;exact⟨⟨k+1,rfl,by omega,m1,by rw [P0.out];exact OI.out.later (below_drewN (Below.refl _ _) _),OV.out.later (below_drewN (Below.refl _ _) _)⟩,by simp [jv];omega⟩
   ·have SW:=ae hlk
    have PY:=ae hty
    have WL:=ae (hls y List.mem_cons_self)
    have P1:Hid (∀U,Below wr.heap.size wr U->Calls Tryz.prog 174 #[aq m1.g,s9 0 3 y.t xb y.c,aq kt] U λe w'=>e=.returned (.tuple #[])/\∃m',Bk P w' m' (j7 xb xo xoff B (k+1))/\Tr U w' m1 m'):=λU hU=>by
     have he:j7 xb xo xoff B (k+1)=bo (j7 xb xo xoff B k) 3 y.t xb y.c (y::ls):=by
      rw [j7];unfold FZ;rw [hs]
     rw [he];have hn1:bQ (j7 xb xo xoff B k).n:=by rw [r1];exact R6.out
     have hl1:=r4 xb
     exact lJ m1 _ 0 3 y.t xb y.c (some ⟨kt,0,none⟩) (y::ls) U (OI.out.later hU) WL.out.1 QK.out.b WL.out.2.2.1 (by constructor<;>omega) hn1 (htl.later hU) hls (by have:=HL.out;have:=HN.out;omega)
    rw [OV.out.g] at P1;clear hlk hs hty htl hls hb1 ht1 hko r1 r2 r3 r4;go_upto_region 4 with fail
    go_quiet (first|(go_at_call 179;refine Calls.quiet_of_same (SW.out _ (below_drewN (Below.refl _ _) _))))
    go_upto_region 6 with fail
    clear q3 x1 x3 x8;obtain⟨U1,hU1⟩:∃U,U=wr.drewN nq:=⟨_,rfl⟩
    rw [<-hU1];have QG:Hid (Below wr.heap.size wr U1):=by rw [hU1];exact below_drewN (Below.refl _ _) _
    have HS:Hid (∀U,Below U1.heap.size U1 U->(U.rangeAt kt 0 (xm y.s y.kd y.b y.t y.c ah)/\U.rangeAt w.heap.size 0 [ab xop,ab xb,ab xsz,ab xo,ai (xh:Int),ai (xl:Int),.bool xgv,ab xrt,ab xoff,ab xnn,.slice xda xdn xdc,ab xix,.slice xga xgn xgc])):=λU hU=>⟨((PY.out.bx.later QG.out).later hU).range,((OZ.out.later QG.out).later hU).range⟩
    clear hU1;refine wp_region_held_drew (S:=(λU:World=>U.rangeAt kt 0 (xm y.s y.kd y.b y.t y.c ah)/\U.rangeAt w.heap.size 0 [ab xop,ab xb,ab xsz,ab xo,ai (xh:Int),ai (xl:Int),.bool xgv,ab xrt,ab xoff,ab xnn,.slice xda xdn xdc,ab xix,.slice xga xgn xgc])) (by kernel_rfl) (HS.out _ (Below.refl _ _).drew) (λhHeld=>?_)
    refine nm 16 0 16 ?_
    refine tn 0 16 1 15 ?_
    simp only [zz];refine tn 1 16 3 14 ?_
    simp only [zz];refine tn 2 16 7 13 ?_
    simp only [zz];refine tn 3 16 15 12 ?_
    simp only [zz];refine tn 4 16 31 11 ?_
    simp only [zz];refine wpAnyH_take (i:=5) (oi:=_) (v:=?_) rfl (by kernel_rfl) (by kernel_rfl) (by kernel_rfl) (λ_ _ _ h=>h) (Or.inl ⟨by rfl,?_⟩) (by assumption) ?_
    rotate_left
    ·(intro w hSw;have z3:=aG (j:=3) hSw.1 rfl;go_simp;try with_reducible rfl)
    simp only [zz];refine nm 16 63 10 ?_
    refine tn 6 16 127 9 ?_
    simp only [zz];refine wpAnyH_take (i:=7) (oi:=_) (v:=?_) rfl (by kernel_rfl) (by kernel_rfl) (by kernel_rfl) (λ_ _ _ h=>h) (Or.inl ⟨by rfl,?_⟩) (by assumption) ?_
    rotate_left
    ·(intro w hSw;have z1:=aG (j:=1) hSw.2 rfl;go_simp;try with_reducible rfl)
    simp only [zz];refine nm 16 255 8 ?_
    refine tn 8 16 511 7 ?_
    simp only [zz];refine tn 9 16 1023 6 ?_
    simp only [zz];refine tn 10 16 2047 5 ?_
    simp only [zz];refine tn 11 16 4095 4 ?_
    simp only [zz];refine wpAnyH_take (i:=12) (oi:=_) (v:=?_) rfl (by kernel_rfl) (by kernel_rfl) (by kernel_rfl) (λ_ _ _ h=>h) (Or.inl ⟨by rfl,?_⟩) (by assumption) ?_
    rotate_left
    ·(intro w hSw;have z4:=aG (j:=4) hSw.1 rfl;have z5:=aG (j:=5) hSw.1 rfl;have z6:=aG (j:=6) hSw.1 rfl;go_simp;try with_reducible rfl)
    simp only [zz];refine nm 16 8191 3 ?_
    refine tn 13 16 16383 2 ?_
    simp only [zz];refine tn 14 16 32767 1 ?_
    simp only [zz];refine zr 15 λK hK=>?_
    go_simp
    go_wp2_with (first|(go_at_call 174;refine (P1.out _ (aa QG.out (Below.refl _ _).drew)).mono ?_;rintro e w3 ⟨rfl,m2,hb2,ht2⟩))
    have OH:=ae hb2
    have OO:Hid (Tr wr w3 m1 m2):=Tr.fh (aa QG.out (Below.refl _ _).drew) ht2
    have QS:Hid (w3.rangeAt kt 0 (xm y.s y.kd y.b y.t y.c ah)/\w3.rangeAt w.heap.size 0 [ab xop,ab xb,ab xsz,ab xo,ai (xh:Int),ai (xl:Int),.bool xgv,ab xrt,ab xoff,ab xnn,.slice xda xdn xdc,ab xix,.slice xga xgn xgc]):=⟨(PY.out.bx.but OO.out.bt (OI.out.bw.JA PY.out)).range,(OZ.out.but OO.out.bt (λhj=>by rcases OV.out.gr _ hj with h1|h1;(have:=PH.out _ h1;omega);(have h2:=QI.out;omega))).range⟩
    clear hb2 ht2;refine zk hK 16 65535 0 (QS.out) λhHeld=>?_
    clear hK K;try simp only [zz]
    refine zn ?_ _
    go_wp2;exact⟨⟨k+1,rfl,by omega,m2,OH.out,OV.out.trans OO.out⟩,by simp [jv];omega⟩
  ·obtain rfl:k=N:=by omega
   have hlt:decide ((k:Int)<(k:Int))=false:=by simp
   have OI:=ae hb1
   have OV:=ae ht1
   clear hb1 ht1;go_wp2;exact bodyPost_end (v:=.tuple #[]) (by simp [results,Tryz.results100,go_sem]) rfl ⟨rfl,m1,OI.out,Tr.fh HB.out OV.out⟩
end Go.Proofs.YtmhinfbkmjdgfaaGreatDoor.B
