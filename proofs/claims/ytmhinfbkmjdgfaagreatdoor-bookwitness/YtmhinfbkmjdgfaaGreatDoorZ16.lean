import Derived.Test.YtmhinfbkmjdgfaaGreatDoorZ15
set_option linter.unusedVariables false
set_option linter.unusedSimpArgs false
set_option maxRecDepth 100000
set_option maxHeartbeats 4000000
namespace Go.Proofs.YtmhinfbkmjdgfaaGreatDoor.B
open Go.RowKit
variable {K:Act->World->Prop}{m:Bm}{c:Cp}{Q:Exit->Act->World->Prop}{b kd s t:Int}{l:List Cp}{base cap i j k n o:Nat}{a ah:Option Addr}{P:Program}{e:TypeId}{p v:Value}{w w':World}
abbrev s9 (s kd b t:Int)(c:Cp):Value:=.agg #[ab s,ab kd,ab b,ab t,ab c.o,ai (c.h:Int),ai (c.l:Int)]
abbrev xm (s kd b t:Int)(c:Cp)(ah:Option Addr):List Value:=[ab s,ab kd,ab b,ab t,ab c.o,ai (c.h:Int),ai (c.l:Int),.pointer ah]
theorem wI (m:Bm)(s0 kd b t:Int)(c:Cp)(ah:Option Addr)(w:World)(h:Bw w m)(hc:c.eY)(hF:dm c=true)(hp:bQ t)(hT:∀g∈m.T,g.p≠t)(hK:∀k∈m.K,k.p≠t) :
  Calls Tryz.prog 174 #[aq m.g,s9 s0 kd b t c,.pointer ah] w λe w'=>e=.returned (.tuple #[])/\∃kt ki s,w.heap.size<=ki/\w.heap.size<=kt/\(s.n=1/\∀j,aI s.a j->w.heap.size<=j)/\Bw w' { m with T:=m.T++[⟨t,ki,[(dk (bP c),aq kt)]⟩],K:=m.K++[⟨t,s,[c]⟩] }/\Bx w' kt (xm m.n kd b t c ah)/\w'.heap[kt]?=some (Obj.cells (xm m.n kd b t c ah).toArray 254)/\aj (λj=>j=m.bt\/j=m.bk) w w':=by
 obtain⟨o,ch,cl⟩:=c
 have hd:=h.cr
 have hbt:=h.lo m.bt (by simp [Bm.aR])
 have hbk:=h.lo m.bk (by simp [Bm.aR])
 refine (pF m s0 kd b t o ch cl ah w h hc hF hp (λg hg e=>absurd e (hT g hg)) (·=m.bt) (·=m.bk) (λm1 kt=>∃ki,w.heap.size<=ki/\m1={ m with T:=m.T++[⟨t,ki,[(dk (bP ⟨o,ch,cl⟩),aq kt)]⟩] }) (λw' kt=>∃ki s,w.heap.size<=ki/\(s.n=1/\∀j,aI s.a j->w.heap.size<=j)/\Bw w' { m with T:=m.T++[⟨t,ki,[(dk (bP ⟨o,ch,cl⟩),aq kt)]⟩],K:=m.K++[⟨t,s,[⟨o,ch,cl⟩]⟩] }) ?_ (λj e=>by omega) (λj e=>⟨by omega,λe2=>(uv hd).2.2.1 (by omega)⟩) ?_).mono ?_
 ·intro U kt hU
  refine (jS m.bt m.T t (bP ⟨o,ch,cl⟩) (some ⟨kt,0,none⟩) U ((h.later hU).told) hp (cG _) (fp _) hT).mono ?_
  rintro e w' ⟨rfl,k,hk,hm,hb⟩
  exact⟨rfl,_,(h.later hU).yW hk hm hb,⟨k,Nat.le_trans hU.size hk,rfl⟩,rfl,rfl,hb⟩
 ·rintro U m1 kt hUs hB ⟨ki,hki,rfl⟩ hcl
  obtain⟨l0,a',c',w7,w8,r7,r8,hw8,hb8,hb7,hnw⟩:=hB.ou hp hK ⟨o,ch,cl⟩
  exact⟨.slice none 0 0,.slice a' 1 c',w7,w8,λU' hU'=>((hB.later hU').ou hp hK ⟨o,ch,cl⟩).1,r7,r8,⟨ki,⟨a',1,c'⟩,hki,⟨rfl,λj hj=>Nat.le_trans hUs (hnw j hj)⟩,hw8⟩,hb8,aj.of hb7⟩
 ·rintro e w' ⟨rfl,kt,hkt,⟨ki,s,hki,hs,hw⟩,hx,hty,hb⟩
  exact⟨rfl,kt,ki,s,hki,hkt,hs,hw,hx,hty,hb⟩
theorem pK (m:Bm)(s0 kd b t:Int)(c:Cp)(ah:Option Addr)(w:World)(h:Bw w m)(hc:c.eY)(hF:dm c=true)(hp:bQ t)(hT:∀g∈m.T,g.p≠t)(hK:∀k∈m.K,k.p≠t) :
  Calls Tryz.prog 174 #[aq m.g,s9 s0 kd b t c,.pointer ah] w λe w'=>e=.returned (.tuple #[])/\∃kt ki s,w.heap.size<=kt/\(s.n=1/\∀j,aI s.a j->w.heap.size<=j)/\Bw w' { m with T:=m.T++[⟨t,ki,[(dk (bP c),aq kt)]⟩],K:=m.K++[⟨t,s,[c]⟩] }/\Bx w' kt (xm m.n kd b t c ah)/\w'.heap[kt]?=some (Obj.cells (xm m.n kd b t c ah).toArray 254)/\aj (λj=>j=m.bt\/j=m.bk) w w':=by
 refine (wI m s0 kd b t c ah w h hc hF hp hT hK).mono ?_
 rintro e w' ⟨rfl,kt,ki,s,hki,hkt,hs,hw,hx,hty,hb⟩
 exact⟨rfl,kt,ki,s,hkt,hs,hw,hx,hty,hb⟩
abbrev aZ (cd:Int)(c:Cp)(d:Sl)(nu:Int):List Value:=[ab cd,ab c.o,ai (c.h:Int),ai (c.l:Int),.slice d.a d.n d.c,ab nu]
abbrev bR (cd:Int)(c:Cp)(d:Sl)(nu:Int):Value:=.agg #[ab cd,ab c.o,ai (c.h:Int),ai (c.l:Int),.slice d.a d.n d.c,ab nu]
abbrev Bm.Jg (m:Bm)(k:Nat)(c:Cp)(ph pl:Nat)(r:Int):Bm:={ m with L:=m.L++[⟨c.o,k,[(jj c.h c.l,Tn.v ⟨c.h,c.l,ph,pl,r,m.n⟩)]⟩] }
theorem rH (m:Bm)(C:List Value)(aE cd nu:Int)(c:Cp)(d:Sl)(w:World)(h:Bw w m)(hc:c.eY)(hC:C.length=13)(h1:C[1]?=some (ab aE))(hn:∀g∈m.L,g.p≠c.o)(Q:World->Prop)
  (ht:∀(U:World) (k:Nat),w.heap.size<=k->aj (·=m.bl) w U->Bw U (m.Jg k c c.h c.l 31)->Calls Tryz.prog 174 #[aq m.g,s9 0 1 aE aE c,.pointer none] U λe w'=>e=.returned (.tuple #[])/\Q w') :
  Calls Tryz.prog 96 #[aq m.g,.agg C.toArray,bR cd c d nu] w λe w'=>e=.returned (.tuple #[])/\Q w':=by
 obtain⟨o,ch,cl⟩:=c
 obtain⟨W,hW⟩:∃W,W=(w.alloc (Obj.cells C.toArray 44)).alloc (Obj.cells #[ab cd,ab o,ai (ch:Int),ai (cl:Int),.slice d.a d.n d.c,ab nu] 40):=⟨_,rfl⟩
 have hB:Below w.heap.size w W:=by rw [hW];exact aB _ _ _
 have OK:Hid (Bx W w.heap.size C):=by rw [hW];exact (Bx.new w C _).later (ag _ _)
 have OL:Hid (Bx W (w.heap.size+1) (aZ cd ⟨o,ch,cl⟩ d nu)):=by rw [hW];have:=Bx.new (w.alloc (Obj.cells C.toArray 44)) (aZ cd ⟨o,ch,cl⟩ d nu) 40;simp at this;exact this
 have y1:=OL.out.cell 1 rfl
 have y2:=OL.out.cell 2 rfl
 have y3:=OL.out.cell 3 rfl
 have HI:=ae (vR m ⟨o,ch,cl⟩ hc ch cl 31 W (h.later hB) hn)
 have hbl:=h.lo m.bl (by simp [Bm.aR])
 have HH:=ae h
 have HB:=ae hB
 have HW:=ae hW
 have HT:=ae ht
 have H1:=ae h1
 clear h hB hW ht hn hc h1;go_enter Tryz.func96,Tryz.ntmps96
 go_upto_region 1 with fail
 rw [<-HW.out];go_upto_region 2 with (first|(go_at_call 173;refine HI.out.mono ?_;rintro x w1 ⟨rfl,k,hk,hw1,hb1⟩;have XQ:=ae hk;have SS:=ae hw1;have OI:=ae hb1;clear hk hw1 hb1))
 have HY:=ae (OL.out.but OI.out (by omega))
 have HX:=ae (OK.out.but OI.out (by omega))
 clear y1 y2 y3;have y1:=HY.out.cell 1 rfl
 have y2:=HY.out.cell 2 rfl
 have y3:=HY.out.cell 3 rfl
 have x1:=HX.out.cell 1 H1.out
 have P1:=ae (HT.out w1 k (Nat.le_trans HB.out.size XQ.out) ((aj.of HB.out).trans OI.out) SS.out)
 go_wp2_with (first|(go_at_call 174;refine P1.out.mono ?_;rintro x w2 ⟨rfl,hq⟩;have HQ:=ae hq;clear hq))
 exact bodyPost_end (v:=.tuple #[]) (by simp [results,Tryz.results96,go_sem]) rfl ⟨rfl,HQ.out⟩
theorem GV (hd:m.aR.Nodup):(∀i∈m.bl::m.L.map Im.b,i≠m.g)/\(∀i∈m.bt::m.T.map Im.b,i≠m.g)/\m.bi≠m.g/\m.bk≠m.g/\∀i∈m.ba::m.A.map Im.b,i≠m.g:=by
 have h1:=List.nodup_append.1 hd
 have h2:=List.nodup_append.1 h1.2.1
 have h3:=List.nodup_cons.1 h2.2.1
 refine⟨λi hi e=>h1.2.2 i hi m.g (by simp) e,λi hi e=>h2.2.2 i hi m.g (by simp) e,λe=>h3.1 (by rw [<-e];simp),λe=>h3.1 (by rw [<-e];simp),λi hi e=>h3.1 (by rw [<-e];exact List.mem_cons_of_mem _ (List.mem_cons_of_mem _ hi))⟩
theorem Bw.step (h:Bw w m)(n:Int):Bw (w.setCell ⟨m.g,0,none⟩ (ab n)) { m with n:=n }:=by
 have hb:aj (·=m.g) w (w.setCell ⟨m.g,0,none⟩ (ab n)):=(aj.refl (·=m.g) w).setCell (p:=⟨m.g,0,none⟩) rfl _
 obtain⟨n1,n2,n3,n4,n5⟩:=GV h.cr
 exact⟨h.bx.jO 0 _ (by simp),h.live.but hb n1,h.laid.but hb n5,h.told.but hb n2,h.lists.but hb n3 (λj hj e=>by omega),h.known.but hb n4 (λj hj e=>by omega),h.cr,λj hj=>Nat.lt_of_lt_of_le (h.lo j hj) hb.size,h.ap⟩
theorem qe (m:Bm)(C:List Value)(aE nu:Int)(c:Cp)(d:Sl)(w:World)(h:Bw w m)(hc:c.eY)(hC:C.length=13)(h0:C[0]?=some (ab 1))(h1:C[1]?=some (ab aE))(hn:∀g∈m.L,g.p≠c.o)(hnn:0<=m.n/\m.n<1000000)(Q:World->Prop)
  (ht:∀(V U:World) (k:Nat),w.heap.size<=k->aj (·=m.g) w V->aj (·=m.bl) V U->Bw U (Bm.Jg { m with n:=m.n+1 } k c c.h c.l 31)->Calls Tryz.prog 174 #[aq m.g,s9 0 1 aE aE c,.pointer none] U λe w'=>e=.returned (.tuple #[])/\Q w') :
  Calls Tryz.prog 38 #[aq m.g,.agg C.toArray,bR 0 c d nu] w λe w'=>e=.returned (.tuple #[])/\Q w':=by
 obtain⟨o,ch,cl⟩:=c
 obtain⟨W,hW⟩:∃W,W=(w.alloc (Obj.cells C.toArray 44)).alloc (Obj.cells #[ab 0,ab o,ai (ch:Int),ai (cl:Int),.slice d.a d.n d.c,ab nu] 40):=⟨_,rfl⟩
 have hB:Below w.heap.size w W:=by rw [hW];exact aB _ _ _
 have OK:Hid (Bx W w.heap.size C):=by rw [hW];exact (Bx.new w C _).later (ag _ _)
 have OL:Hid (Bx W (w.heap.size+1) (aZ 0 ⟨o,ch,cl⟩ d nu)):=by rw [hW];have:=Bx.new (w.alloc (Obj.cells C.toArray 44)) (aZ 0 ⟨o,ch,cl⟩ d nu) 40;simp at this;exact this
 have hBW:=h.later hB
 have q0:=hBW.bx.cell 0 rfl
 have q0f:W.frozen? ⟨m.g,0,none⟩=false:=by have:=(hBW.bx.there 0 (by simp)).2;rwa [Nat.zero_add] at this
 have ew:IntKind.i64.wrap (m.n+1)=m.n+1:=by rw [IntKind.wrap_i64];omega
 have hgl:=h.lo m.g (by simp [Bm.aR])
 have O8:=ae hBW
 have HB:=ae hB
 have HW:=ae hW
 have HT:=ae ht
 have H0:=ae h0
 have H1:=ae h1
 have PZ:=ae hC
 have HN:=ae hn
 have HC:=ae hc
 clear hBW h hB hW ht hn hc h0 h1 hC;go_enter Tryz.func38,Tryz.ntmps38
 go_upto_region 1 with fail
 rw [<-HW.out];go_upto_region 2 with fail
 obtain⟨U,hU⟩:∃U,U=W.setCell ⟨m.g,0,none⟩ (ab (m.n+1)):=⟨_,rfl⟩
 rw [<-hU];have Qe:Hid (aj (·=m.g) W U):=by rw [hU];exact (aj.refl (·=m.g) W).setCell (p:=⟨m.g,0,none⟩) rfl _
 have Sj:Hid (Bw U { m with n:=m.n+1 }):=by rw [hU];exact O8.out.step _
 have HY:=ae (OL.out.but Qe.out (by omega))
 have HX:=ae (OK.out.but Qe.out (by omega))
 clear q0 q0f hU;have y0:=HY.out.cell 0 rfl
 have x0:=HX.out.cell 0 H0.out
 have Px:Hid ((Instr.loadAt 44 (aq w.heap.size)).run Tryz.prog U=.ok (.agg C.toArray) U):=run_loadAt_mid U w.heap.size 0 44 C _ HX.out.range Tryz.underlying44 rfl (by rw [PZ.out];kernel_rfl)
 have PX:Hid ((Instr.loadAt 40 (.pointer (some ⟨w.heap.size+1,0,none⟩))).run Tryz.prog U=.ok (bR 0 ⟨o,ch,cl⟩ d nu) U):=run_loadAt_mid U (w.heap.size+1) 0 40 (aZ 0 ⟨o,ch,cl⟩ d nu) _ HY.out.range Tryz.underlying40 rfl (by kernel_rfl)
 have SV:=ae (rH { m with n:=m.n+1 } C aE 0 nu ⟨o,ch,cl⟩ d U Sj.out HC.out PZ.out H1.out HN.out Q (λU' k hk hb hbw=>HT.out U U' k (Nat.le_trans (Nat.le_trans HB.out.size Qe.out.size) hk) ((aj.of HB.out).trans Qe.out) hb hbw))
 go_wp2_with (first|((with_reducible refine aJ Px.out ?_ ?_);(· rfl))|((with_reducible refine aJ PX.out ?_ ?_);(· rfl))|(go_at_call 96;refine SV.out.mono ?_;rintro x w2 ⟨rfl,hq⟩;have HQ:=ae hq;clear hq))
 exact bodyPost_end (v:=.tuple #[]) (by simp [results,Tryz.results38,go_sem]) rfl ⟨rfl,HQ.out⟩
abbrev m0 (s:Nat):Bm:=⟨s+5,s,s+1,s+2,s+3,s+4,0,[],[],[],[],[]⟩
def AU:Obj:=.map #[] 0
theorem Eu (w:World):Bw ((((((w.alloc AU).alloc AU).alloc AU).alloc AU).alloc AU).alloc (Obj.cells #[ab 0,.map (some w.heap.size),.map (some (w.heap.size+1)),.map (some (w.heap.size+2)),.map (some (w.heap.size+3)),.map (some (w.heap.size+4))] 161)) (m0 w.heap.size):=by
 obtain⟨w1,h1⟩:∃U,U=w.alloc AU:=⟨_,rfl⟩
 obtain⟨w2,h2⟩:∃U,U=w1.alloc AU:=⟨_,rfl⟩
 obtain⟨w3,h3⟩:∃U,U=w2.alloc AU:=⟨_,rfl⟩
 obtain⟨w4,h4⟩:∃U,U=w3.alloc AU:=⟨_,rfl⟩
 obtain⟨w5,h5⟩:∃U,U=w4.alloc AU:=⟨_,rfl⟩
 have z1:w1.heap.size=w.heap.size+1:=by rw [h1];simp
 have z2:w2.heap.size=w.heap.size+2:=by rw [h2];simp [z1]
 have z3:w3.heap.size=w.heap.size+3:=by rw [h3];simp [z2]
 have z4:w4.heap.size=w.heap.size+4:=by rw [h4];simp [z3]
 have z5:w5.heap.size=w.heap.size+5:=by rw [h5];simp [z4]
 have b2:Below w1.heap.size w1 w2:=by rw [h2];exact ag _ _
 have b3:Below w2.heap.size w2 w3:=by rw [h3];exact ag _ _
 have b4:Below w3.heap.size w3 w4:=by rw [h4];exact ag _ _
 have b5:Below w4.heap.size w4 w5:=by rw [h5];exact ag _ _
 rw [<-h1,<-h2,<-h3,<-h4,<-h5];obtain⟨W,hW⟩:∃U,U=w5.alloc (Obj.cells #[ab 0,.map (some w.heap.size),.map (some (w.heap.size+1)),.map (some (w.heap.size+2)),.map (some (w.heap.size+3)),.map (some (w.heap.size+4))] 161):=⟨_,rfl⟩
 have b6:Below w5.heap.size w5 W:=by rw [hW];exact ag _ _
 have c5:Below w4.heap.size w4 W:=aa b5 b6
 have c4:Below w3.heap.size w3 W:=aa b4 c5
 have c3:Below w2.heap.size w2 W:=aa b3 c4
 have c2:Below w1.heap.size w1 W:=aa b2 c3
 rw [<-hW];have hbx:Bx W (w.heap.size+5) (m0 w.heap.size).cells:=by
  have:=Bx.new w5 (m0 w.heap.size).cells 161
  rw [z5] at this;rw [hW];exact this
 have g1:Mm W 30 w.heap.size []:=by have:=Mm.new w 30;rw [show w.alloc (.map #[] 0)=w1 from h1.symm] at this;exact this.later c2
 have g2:Mc W (w.heap.size+6) (w.heap.size+1) []:=by have:=Mc.new w1 (w.heap.size+6);rw [show w1.alloc (.map #[] 0)=w2 from h2.symm,z1] at this;exact this.later c3
 have g3:Mm W 3 (w.heap.size+2) []:=by have:=Mm.new w2 3;rw [show w2.alloc (.map #[] 0)=w3 from h3.symm,z2] at this;exact this.later c4
 have g4:Mm W 249 (w.heap.size+3) []:=by have:=Mm.new w3 249;rw [show w3.alloc (.map #[] 0)=w4 from h4.symm,z3] at this;exact this.later c5
 have g5:Mc W (w.heap.size+6) (w.heap.size+4) []:=by have:=Mc.new w4 (w.heap.size+6);rw [show w4.alloc (.map #[] 0)=w5 from h5.symm,z4] at this;exact this.later b6
 have zW:W.heap.size=w.heap.size+6:=by rw [hW];simp [z5]
 refine⟨hbx,g1,g3,g4,g2,g5,?_,?_,λx hx=>by cases hx⟩
 ·simp [Bm.aR]
 ·intro j hj
  simp [Bm.aR] at hj;omega
theorem py (w:World):Calls Tryz.prog 26 #[] w λe w'=>e=.returned (.pointer (some ⟨w.heap.size+5,0,none⟩))/\Bw w' (m0 w.heap.size)/\Below w.heap.size w w':=by
 have k1:=λU=>dq (t:=156) Tryz.underlying156 U
 have k2:=λU=>dq (t:=157) Tryz.underlying157 U
 have k3:=λU=>dq (t:=158) Tryz.underlying158 U
 have k4:=λU=>dq (t:=159) Tryz.underlying159 U
 go_enter Tryz.func26,Tryz.ntmps26
 go_wp2;go_ret;refine⟨rfl,Eu w,?_⟩
 exact ((((((Below.refl _ _).alloc (Nat.le_refl _) _).alloc (by simp) _).alloc (by simp;omega) _).alloc (by simp;omega) _).alloc (by simp;omega) _).alloc (by simp;omega) _
theorem Ow.cJ {L:List Value}(h:Ow w base e k a n cap L)(hn:0<n):∃g,a=some ⟨g,0,none⟩:=by
 rcases h.2 with ⟨h1,h2⟩|⟨g,cp,cur,hv,hg,hh,r⟩
 ·omega
 ·simp only [Value.slice.injEq] at hv
  exact⟨g,hv.1⟩
theorem Ow.cells {L:List Value}(h:Ow w base e k a n cap L){g:Nat}(ha:a=some ⟨g,0,none⟩):w.rangeAt g 0 L:=λj v hv=>by
 rcases h.2 with ⟨h1,h2⟩|⟨g',cp,cur,hv2,hg,hh,r⟩
 ·simp only [Value.slice.injEq] at h1
  rw [ha] at h1;exact absurd h1.1 (by simp)
 ·have h':w.ownsRow base e k (.slice a n cap) n L:=h
  simp only [Value.slice.injEq] at hv2;obtain⟨e1,-,e3⟩:=hv2
  rw [ha] at e1;have e2:g=g':=by simpa using e1
  subst e2;subst ha;have:=h'.cells (g:=g) rfl j v hv
  rw [aY] at this;rw [Nat.zero_add];exact this
theorem ji (l:List Cp):∀u∈aU l,u.oneCell'=true:=by
 intro u hu;simp only [aU,List.mem_flatten,List.mem_map] at hu;obtain⟨x,⟨c,_,rfl⟩,hu⟩:=hu
 exact sO _ _ _ u hu
theorem wY (l:List Cp):(aU l).length=l.length*3:=by
 induction l with
 | nil=>rfl
 | cons c l ih=>simp only [aU,List.map_cons,List.flatten_cons,List.length_append] at *;rw [ih];simp [dP];omega
theorem Ir (x:Addr)(n c:Nat)(w:World):(binOp .eql 74 (.slice (some x) n c) (.slice none 0 0)).run Tryz.prog w=.ok (.bool false) w:=by kernel_rfl
theorem vY {c:Nat}(h:Ow w base 37 3 a n c (aU l))(hl:l.length=n)(hn:0<n)(hb:n<=100000) :
  ∃a' c' w',(Builtin.append_ #[74,74] 74 #[.slice (some ⟨w.heap.size,0,none⟩) 0 0,.slice a n c]).run Tryz.prog (w.alloc (Obj.cells #[] 37))=.ok (.slice a' n c') w'/\Ow w' w.heap.size 37 3 a' n c' (aU l)/\Below w.heap.size w w':=by
 obtain⟨g,hg⟩:=h.cJ hn
 have hb1:=ag w (Obj.cells #[] 37)
 obtain⟨i,hi,hz0,hz1,hz2⟩:=info_parts ir
 have ho:(w.alloc (Obj.cells #[] 37)).ownsRow w.heap.size 37 3 (.slice (some ⟨w.heap.size,0,none⟩) 0 0) 0 []:=⟨by simp,.inr ⟨w.heap.size,0,#[],rfl,Nat.le_refl _,Array.getElem?_push_size,Nat.le_refl _,Nat.zero_le _,by simp,by simp⟩⟩
 have hcell:=(h.later hb1).cells hg
 obtain⟨v',w',hr,h2,h3,_,h5⟩:=run_append_own_at (P:=Tryz.prog) (w.alloc (Obj.cells #[] 37)) w.heap.size 74 74 37 i _ 3 24 Tryz.underlying74 hi hz0 hz1 hz2 rfl (by omega) _ 0 _ ho ⟨g,0,none⟩ n c (aU l) (by rw [wY,hl]) (λj u hu=>by
  rw [aY];have:=hcell j u hu
  rw [Nat.zero_add] at this;exact this) (ji l) (by unfold maxLen;omega) (by omega) (by simp)
 simp only [Nat.zero_add,List.nil_append] at h2;obtain⟨a',c',rfl⟩:∃a' c',v'=.slice a' n c':=by
  rcases h2.2 with ⟨h,h'⟩|⟨g',cap',_,h,_⟩
  ·exact⟨.none,0,by rw [h,h']⟩
  ·exact⟨_,cap',h⟩
 refine⟨a',c',w',by rw [hg];exact hr,h2,?_⟩
 have hbut:aj (aI (some ⟨w.heap.size,0,none⟩)) (w.alloc (Obj.cells #[] 37)) w':=⟨h3.os,h3.tape,h3.output,h3.size,λj hj hn=>h3.block j hj (λe=>hn (aI.of.1 e.symm))⟩
 exact aj.below hb1 hbut (λk hk=>by obtain⟨x,hx,e⟩:=hk;cases hx;simp at e;omega)
theorem wN {c:Nat}(h:Ow w base 37 3 a n c (aU l))(hl:l.length=n)(hn:0<n)(hb:n<=100000) :
  Calls Tryz.prog 169 #[.slice a n c] w λe w'=>∃a' c',e=.returned (.slice a' n c')/\Ow w' w.heap.size 37 3 a' n c' (aU l)/\Below w.heap.size w w':=by
 obtain⟨g,rfl⟩:=h.cJ hn
 obtain⟨a',c',w',hr,ho,hbe⟩:=vY h hl hn hb
 have HR:=ae hr
 have HO:=ae ho
 have HB:=ae hbe
 have hnil:=Ir ⟨g,0,none⟩ n c w
 clear hr ho hbe h;go_enter Tryz.func169,Tryz.ntmps169
 go_wp2_with (first|(at_builtin;refine aw rfl _ _ 74 rfl _ _ rfl rfl _ w' HR.out ?_))
 go_ret;exact⟨a',c',rfl,HO.out,HB.out⟩
theorem ve (m:Bm)(k:Kn)(w:World)(h:Bw w m)(hk:k∈m.K)(hn:0<k.s.n)(hb:k.s.n<=100000) :
  Calls Tryz.prog 89 #[aq m.g,ab k.p] w λe w'=>∃a' c',e=.returned (.slice a' k.s.n c')/\Ow w' w.heap.size 37 3 a' k.s.n c' (aU k.l)/\Below w.heap.size w w':=by
 obtain⟨ho,hl⟩:=h.known.each k hk
 have HC:=ae (wN ho hl hn hb)
 have HL:=ae (h.known.out.vL dy Tryz.underlying157 (List.mem_map.2 ⟨k,hk,rfl⟩) false)
 have q5:=h.bx.cell 5 rfl
 obtain⟨kp,⟨ka,kn,kc⟩,kl⟩:=k
 simp only at HC HL hn hb ⊢
 clear ho hl h hk;go_enter Tryz.func89,Tryz.ntmps89
 go_wp2_with (first|((with_reducible refine bF HL.out ?_ ?_ ?_);(· rfl);(· rfl))|(go_at_call 169;refine HC.out.mono ?_;rintro e w' ⟨a',c',rfl,ho',hb'⟩;have HO:=ae ho';have HB:=ae hb';clear ho' hb'))
 go_ret;exact⟨a',c',rfl,HO.out,HB.out⟩
theorem dK (m:Bm)(p:Int)(c:Cp)(r:Option Value)(w:World)(h:Bw w m)(hc:c.eY)(hF:dm c=true)(hp:bQ p)(hg:Gt m.T p (dk (bP c)) r) :
  Calls Tryz.prog 90 #[aq m.g,ab p,dw c] w λe w'=>e=.returned (.tuple #[r.getD (.pointer none),.bool r.isSome])/\Below w.heap.size w w':=by
 obtain⟨o,ch,cl⟩:=c
 obtain⟨W,hW⟩:∃W,W=w.alloc (Obj.cells #[ab o,ai (ch:Int),ai (cl:Int)] 37):=⟨_,rfl⟩
 have hB:Below w.heap.size w W:=by rw [hW];exact ag _ _
 have OK:Hid (Bx W w.heap.size [ab o,ai (ch:Int),ai (cl:Int)]):=by rw [hW];exact Bx.new w [ab o,ai (ch:Int),ai (cl:Int)] _
 have c4:=OK.out.cell 0 rfl
 have c5:=OK.out.cell 1 rfl
 have c6:=OK.out.cell 2 rfl
 have PD:=ae (fz ⟨o,ch,cl⟩ hc W)
 have eF:mz ⟨o,ch,cl⟩=bP ⟨o,ch,cl⟩:=by unfold mz;rw [if_pos hF]
 rw [eF,hF] at PD;have Pd:Hid (∀U,Below w.heap.size w U->Calls Tryz.prog 171 #[.map (some m.bt),ab p,dk (bP ⟨o,ch,cl⟩)] U λe w'=>e=.returned (.tuple #[r.getD (.pointer none),.bool r.isSome])/\Below U.heap.size U w'):=λU hU=>fe m.bt m.T p (bP ⟨o,ch,cl⟩) r U ((h.later hU).told) hp (cG _) (fp _) hg
 have HH:=ae h
 have HB:=ae hB
 have HW:=ae hW
 have O1:=ae (cG ⟨o,ch,cl⟩)
 generalize bP ⟨o,ch,cl⟩=F at PD Pd O1
 generalize r.getD (.pointer none)=rv at Pd ⊢
 generalize r.isSome=rb at Pd ⊢
 clear h hB hW hg eF hF hc;go_enter Tryz.func90,Tryz.ntmps90
 go_upto_region 1 with fail
 rw [<-HW.out];go_upto_region 2 with (first|(go_at_call 170;refine PD.out.mono ?_;rintro x w2 ⟨rfl,hb2⟩;have OH:=ae hb2;(have Pt:Hid (Bx (w2.alloc (Obj.cells #[.int .u8 0,.int .u8 0,.int .u8 0,.int .u8 0,.int .u8 0,.int .u8 0,.int .u8 0,.int .u8 0,.int .u8 0,.int .u8 0,.int .u8 0,.int .u8 0,.int .u8 0,.int .u8 0,.int .u8 0,.int .u8 0,.int .u8 0,.int .u8 0,.int .u8 0,.int .u8 0,.int .u8 0,.int .u8 0,.int .u8 0,.int .u8 0] 249)) w2.heap.size (aN zF)):=Bx.new w2 (aN zF) _);(have O6:=ae (pA (L:=aN F) (w:=w2.alloc (Obj.cells #[.int .u8 0,.int .u8 0,.int .u8 0,.int .u8 0,.int .u8 0,.int .u8 0,.int .u8 0,.int .u8 0,.int .u8 0,.int .u8 0,.int .u8 0,.int .u8 0,.int .u8 0,.int .u8 0,.int .u8 0,.int .u8 0,.int .u8 0,.int .u8 0,.int .u8 0,.int .u8 0,.int .u8 0,.int .u8 0,.int .u8 0,.int .u8 0] 249)) (b:=w2.heap.size) (o:=0) (by have:=Pt.out.there;rwa [ao,show zF.length=24 from rfl] at this) (by rw [ao];exact O1.out) (bJ F)));clear hb2)|((with_reducible refine a_ O6.out ?_ ?_ ?_);(· rfl);(· rfl)))
 obtain⟨V2,hV2⟩:∃V,V=(w2.alloc (Obj.cells #[.int .u8 0,.int .u8 0,.int .u8 0,.int .u8 0,.int .u8 0,.int .u8 0,.int .u8 0,.int .u8 0,.int .u8 0,.int .u8 0,.int .u8 0,.int .u8 0,.int .u8 0,.int .u8 0,.int .u8 0,.int .u8 0,.int .u8 0,.int .u8 0,.int .u8 0,.int .u8 0,.int .u8 0,.int .u8 0,.int .u8 0,.int .u8 0] 249)).setCells w2.heap.size 0 (aN F):=⟨_,rfl⟩
 rw [<-hV2];obtain⟨kf,hkf⟩:∃k,k=w2.heap.size:=⟨_,rfl⟩
 have OT:Hid (Below w2.heap.size w2 V2):=by rw [hV2];exact aj.below (ag _ _) (au (S:=(·=w2.heap.size)) rfl (aN F) 0 (aj.refl _ _)) (λk hk=>by omega)
 have Qc:Hid (Bx V2 kf (aN F)):=by rw [hkf,hV2];exact Pt.out.set (by rw [ao,ao,O1.out];rfl)
 have Pq:Hid (Below w.heap.size w V2):=aa HB.out (aa OH.out OT.out)
 rw [<-hkf];clear c4 c5 c6 hV2 hkf Pt O6 OH OT OK PD HW HB;have PQ:Hid (∀U,Below V2.heap.size V2 U->(U.rangeAt m.g 0 m.cells/\U.rangeAt kf 0 (aN F))):=λU hU=>⟨((HH.out.later Pq.out).bx.later hU).range,(Qc.out.later hU).range⟩
 go_upto_region 4 with fail
 refine wp_region_held_drew (S:=(λU:World=>U.rangeAt m.g 0 m.cells/\U.rangeAt kf 0 (aN F))) (by kernel_rfl) (PQ.out _ (Below.refl _ _).drew) (λhHeld=>?_)
 refine nm 11 0 11 ?_
 refine tn 0 11 1 10 ?_
 simp only [zz];refine tn 1 11 3 9 ?_
 simp only [zz];refine tn 2 11 7 8 ?_
 simp only [zz];refine wpAnyH_take (i:=3) (oi:=_) (v:=?_) rfl (by kernel_rfl) (by kernel_rfl) (by kernel_rfl) (λ_ _ _ h=>h) (Or.inl ⟨by rfl,?_⟩) (by assumption) ?_
 rotate_left
 ·(intro w hSw;have z1:=aG (j:=4) hSw.1 rfl;go_simp;try with_reducible rfl)
 simp only [zz];refine nm 11 15 7 ?_
 refine tn 4 11 31 6 ?_
 simp only [zz];refine tv 5 (v:=dk F) ?_ ?_
 ·(intro w hSw;(try dsimp only at hSw);exact df rfl rfl (j6 hSw.2 (by rw [ao];exact O1.out)))
 simp only [zz];refine nm 11 63 5 ?_
 refine zr 6 λK hK=>?_
 go_simp
 go_wp2_with (first|(go_at_call 171;refine (Pd.out _ (aa Pq.out (Below.refl _ _).drew)).mono ?_;rintro e w3 ⟨rfl,hb3⟩))
 have OJ:Hid (Below V2.heap.size V2 w3):=aa (Below.refl _ _).drew hb3
 clear hb3;refine zk hK 11 127 4 (PQ.out _ OJ.out) λhHeld=>?_
 clear hK K;try simp only [zz]
 refine tn 7 11 255 3 ?_
 simp only [zz];refine tn 8 11 511 2 ?_
 simp only [zz];refine tn 9 11 1023 1 ?_
 simp only [zz];refine tn 10 11 2047 0 ?_
 simp only [zz];refine zn ?_ _
 go_wp2;exact bodyPost_ret (v:=.tuple #[rv,.bool rb]) (by simp [results,Tryz.results90,go_sem]) rfl ⟨rfl,aa Pq.out OJ.out⟩
theorem pM (m:Bm)(p:Int)(c:Cp)(r:Option Value)(w:World)(h:Bw w m)(hc:c.eY)(hF:dm c=true)(hp:bQ p)(hg:Gt m.T p (dk (bP c)) r) :
  Calls Tryz.prog 30 #[aq m.g,ab p,dw c] w λe w'=>e=.returned (.bool r.isSome)/\Below w.heap.size w w':=by
 obtain⟨W,hW⟩:∃W,W=w.alloc (Obj.cells #[ab c.o,ai (c.h:Int),ai (c.l:Int)] 37):=⟨_,rfl⟩
 have hB:Below w.heap.size w W:=by rw [hW];exact ag _ _
 have OK:Hid (Bx W w.heap.size [ab c.o,ai (c.h:Int),ai (c.l:Int)]):=by rw [hW];exact Bx.new w [ab c.o,ai (c.h:Int),ai (c.l:Int)] _
 have c4:=OK.out.cell 0 rfl
 have c5:=OK.out.cell 1 rfl
 have c6:=OK.out.cell 2 rfl
 have HT:=ae (dK m p c r W (h.later hB) hc hF hp hg)
 have HB:=ae hB
 have HW:=ae hW
 generalize r.getD (.pointer none)=rv at HT
 generalize r.isSome=rb at HT ⊢
 clear h hB hW hg hF hc;go_enter Tryz.func30,Tryz.ntmps30
 go_upto_region 1 with fail
 rw [<-HW.out];go_wp2_with (first|(go_at_call 90;refine HT.out.mono ?_;rintro e w2 ⟨rfl,hb2⟩;have OH:=ae hb2;clear hb2))
 go_ret;exact⟨rfl,aa HB.out OH.out⟩
abbrev Gh (s kd b t:Int)(c:Cp):List Value:=[ab s,ab kd,ab b,ab t,ab c.o,ai (c.h:Int),ai (c.l:Int)]
theorem yI:(Tryz.prog.info? 72).map (λi=>(i.zero,i.size,i.bytes))=some (some (.agg #[ab 0,ab 0,ab 0,ab 0,ab 0,ai 0,ai 0]),7,56):=by kernel_rfl
theorem EA (s kd b t:Int)(c:Cp):∀u∈Gh s kd b t c,u.oneCell'=true:=by
 intro u hu;simp only [List.mem_cons,List.not_mem_nil,or_false] at hu;rcases hu with rfl|rfl|rfl|rfl|rfl|rfl|rfl<;>rfl
def jv:Value->Nat|.int _ q=>q.toNat|_=>0
theorem rO (h:l[i]?=some c):(aU l)[i*3]?=some (ab c.o)/\(aU l)[i*3+1]?=some (ai (c.h:Int))/\(aU l)[i*3+2]?=some (ai (c.l:Int)):=by
 induction l generalizing i with
 | nil=>simp at h
 | cons x l ih =>
  have e:aU (x::l)=dP x++aU l:=by simp [aU]
  rw [e];cases i with
  | zero =>
   simp at h
   subst h;simp [dP]
  | succ i =>
   have:=ih (by simpa using h)
   have e3:(dP x).length=3:=rfl
   refine⟨?_,?_,?_⟩<;>rw [List.getElem?_append_right (by rw [e3];omega),e3]
   ·rw [show (i+1)*3 - 3=i*3 by omega];exact this.1
   ·rw [show (i+1)*3+1 - 3=i*3+1 by omega];exact this.2.1
   ·rw [show (i+1)*3+2 - 3=i*3+2 by omega];exact this.2.2
theorem Hl (a:Int)(b c:Int)(w:World):(binOp .neq 37 (.agg #[ab a,ai b,ai c]) (.agg #[ab a,ai b,ai c])).run Tryz.prog w=.ok (.bool false) w:=by simp [go_sem]
theorem oq {b1 b2:Nat}{a':Option Addr}{c c':Nat}(h:Ow w b1 37 3 a n c (aU l))(h':Ow w b2 37 3 a' n c' (aU l))(hl:l.length=n)(hn:n<=100000) :
  Calls Tryz.prog 88 #[.slice a n c,.slice a' n c'] w λe w'=>e=.returned (.bool true)/\Below w.heap.size w w':=by
 have HO:=ae h
 have VT:=ae h'
 have HL:=ae hl
 clear h h' hl;go_enter Tryz.func88,Tryz.ntmps88
 go_wp2;go_loopw [5] (λi U=>∃j:Nat,i=ab (j:Int)/\j<=n/\Below w.heap.size w U) (λi _=>n - jv i)
 case atStart=>exact⟨0,rfl,Nat.zero_le _,Below.refl _ _⟩
 case round =>
  obtain⟨j,rfl,hj,hB⟩:=hrel
  have HB:=ae hB
  by_cases hlt:j<n
  ·have hd:decide ((j:Int)<(n:Int))=true:=by simp;omega
   have hjn:(j:Int)<(n:Int):=by omega
   obtain⟨g,rfl⟩:=HO.out.cJ (by omega)
   obtain⟨g',rfl⟩:=VT.out.cJ (by omega)
   have hx:l[j]?=some (l[j]'(by rw [HL.out];exact hlt)):=List.getElem?_eq_getElem _
   generalize l[j]'(by rw [HL.out];exact hlt)=x at hx
   obtain⟨q0,q1,q2⟩:=rO hx
   have r1:=(HO.out.later hB).cells rfl
   have r2:=(VT.out.later hB).cells rfl
   have x0:=aG r1 q0
   have x1:=aG r1 q1
   have x2:=aG r1 q2
   have y0:=aG r2 q0
   have y1:=aG r2 q1
   have y2:=aG r2 q2
   have hne:=Hl x.o (x.h:Int) (x.l:Int)
   clear r1 r2 q0 q1 q2 hx hB;go_upto_region 6 with fail
   go_quiet (fail)
   go_wp2;exact⟨⟨j+1,rfl,by omega,below_drewN HB.out _⟩,by simp [jv];omega⟩
  ·obtain rfl:j=n:=by omega
   go_wp2;go_ret;exact⟨rfl,HB.out⟩
abbrev kq (w:World)(k:Nat)(s kd b t:Int)(c:Cp)(ah:Option Addr):Prop:=w.heap[k]?=some (Obj.cells (xm s kd b t c ah).toArray 254)
theorem kq.but {S:Nat->Prop}(h:kq w k s kd b t c ah)(hb:aj S w w')(hn:¬S k):kq w' k s kd b t c ah:=by
 show w'.heap[k]?=_
 rw [hb.block k (Array.getElem?_eq_some_iff.1 h).1 hn];exact h
theorem kq.lt (h:kq w k s kd b t c ah):k<w.heap.size:=(Array.getElem?_eq_some_iff.1 h).1
theorem kq.map (h:kq w k s kd b t c ah){tk:TypeId}{bm:Nat}{E:List (Value×Value)}(hm:Mg w tk bm E):k≠bm:=λe=>by
 obtain⟨es,clk,h1,_⟩:=hm.ex
 subst e;have h':w.heap[k]?=_:=h
 rw [h1] at h';cases h'
theorem kq.row (h:kq w k s kd b t c ah){L:List Value}(ho:Ow w base 37 3 a n cap L):¬aI a k:=λhk=>by
 obtain⟨x,hx,e1⟩:=hk
 rcases ho.2 with ⟨h1,h2⟩|⟨g,cp,cur,hv,hg,hh,r⟩
 ·simp only [Value.slice.injEq] at h1
  rw [hx] at h1;exact absurd h1.1 (by simp)
 ·simp only [Value.slice.injEq] at hv
  rw [hx] at hv;have e2:=Option.some.inj hv.1
  rw [e2] at e1;simp only at e1;subst e1;have h':w.heap[g]?=_:=h
  rw [hh] at h';simp at h'
theorem kq.bx (h:kq w k s kd b t c ah):Bx w k (xm s kd b t c ah):=by
 have h':w.heap[k]?=some (Obj.cells (xm s kd b t c ah).toArray 254):=h
 refine⟨λj v hv=>?_,λj hj=>⟨?_,?_⟩⟩
 ·rw [Nat.zero_add]
  simp [World.cell?,h',hv]
 ·rw [Nat.zero_add]
  simp [World.cell?,h'];simpa using hj
 ·simp [World.frozen?,h']
theorem CH {a b:Nat}(ha:a<18446744073709551616)(hb:b<18446744073709551616)(h:bj a 8=bj b 8):a=b:=by
 have h1:=rB a 8
 have h2:=rB b 8
 rw [h,h2] at h1;have e:(256:Nat) ^ 8=18446744073709551616:=by decide
 rw [e,Nat.mod_eq_of_lt ha,Nat.mod_eq_of_lt hb] at h1;exact h1.symm
theorem kq.g (h:kq w k s kd b t c ah)(hb:Bx w m.g m.cells):k≠m.g:=λe=>by
 have h1:=hb.cell 1 rfl
 have h2:=h.bx.cell 1 rfl
 rw [e,h1] at h2;simp at h2
theorem FY {b:Nat}{L:List Value}(h:w.there b o 6)(hl:L.length=6)(h1:∀v∈L,v.oneCell'=true):(Instr.storeAt 244 (.pointer (some ⟨b,o,none⟩)) (.agg L.toArray)).run Tryz.prog w=.ok () (w.setCells b o L) :=
 run_storeAt_mid w b o 244 L.toArray (by simpa [hl] using h) (by rw [tS];simp [hl]) (all_oneCell_toArray h1)
theorem Je {b:Nat}{L:List Value}(h:w.rangeAt b o L)(hl:L.length=6):(loadVar 244 ⟨b,o,none⟩).run Tryz.prog w=.ok (.agg L.toArray) w :=
 run_loadVar_mid w b o 244 L _ h Tryz.underlying244 rfl (by rw [tS,hl])
theorem Tn.one (t:Tn):∀v∈t.L,v.oneCell'=true:=by
 intro v hv;simp only [List.mem_cons,List.not_mem_nil,or_false] at hv;rcases hv with rfl|rfl|rfl|rfl|rfl|rfl<;>rfl
def H6 (G:List Im)(p:Int)(h l:Nat)(t:Tn)(ok:Bool):Prop:=Gt G p (jj h l) (if ok then some t.v else none)/\(ok=false->t=D1)
theorem xc (b:Nat)(G:List Im)(p:Int)(hi lo:Nat)(t:Tn)(ok:Bool)(w:World)(h:Mm w 30 b G)(hp:bQ p)(h1:nv hi)(h2:nv lo)(hr:H6 G p hi lo t ok) :
  Calls Tryz.prog 168 #[.map (some b),ab p,jj hi lo] w λe w'=>e=.returned (.tuple #[t.v,.bool ok])/\Below w.heap.size w w':=by
 obtain⟨W,hW⟩:∃W,W=(w.alloc (Obj.cells #[ai (hi:Int),ai (lo:Int)] 30)).alloc (Obj.cells #[ai 0,ai 0,ai 0,ai 0,ab 0,ab 0] 244):=⟨_,rfl⟩
 have hB:Below w.heap.size w W:=by rw [hW];exact aB _ _ _
 have O4:Hid ((Instr.loadAt 30 (aq w.heap.size)).run Tryz.prog W=.ok (jj hi lo) W):=by rw [hW];exact Ga ((Bx.new w [ai (hi:Int),ai (lo:Int)] _).later (ag _ _)).range rfl
 have OL:Hid (Bx W (w.heap.size+1) D1.L):=by rw [hW];have:=Bx.new (w.alloc (Obj.cells #[ai (hi:Int),ai (lo:Int)] 30)) D1.L 244;simp at this;exact this
 obtain⟨m,-,r1,r2⟩:=(h.later hB).look BL Tryz.underlying156 Tryz.underlying258 Dv GG hp (uB h1 h2) hr.1
 have e2:(if ok then some t.v else none).getD Jp=t.v/\(if ok then some t.v else none).isSome=ok:=by
  cases ok with
  | true=>exact⟨rfl,rfl⟩
  | false=>rw [hr.2 rfl];exact⟨rfl,rfl⟩
 rw [e2.1,e2.2] at r2;obtain⟨V,hV⟩:∃V,V=W.alloc (Obj.cells #[ai (t.h:Int),ai (t.l:Int),ai (t.ph:Int),ai (t.pl:Int),ab t.r,ab t.s] 244):=⟨_,rfl⟩
 have hBV:Below W.heap.size W V:=by rw [hV];exact ag _ _
 have Sm:Hid ((Instr.loadAt 244 (aq W.heap.size)).run Tryz.prog V=.ok t.v V):=by rw [hV];exact Fe (Bx.new W t.L _).range rfl
 have hx1:=OL.out.later hBV
 have PL:=ae (FY (L:=t.L) (by have:=hx1.there;exact this) rfl t.one)
 have hx3:=hx1.set (M:=t.L) rfl
 have hlv:=Je hx3.range rfl
 have HF:Hid (Below w.heap.size w (V.setCells (w.heap.size+1) 0 t.L)):=aj.below (aa hB hBV) (au (S:=(·=w.heap.size+1)) rfl t.L 0 (aj.refl _ _)) (λk hk=>by omega)
 have H1:=ae r1
 have H2:=ae r2
 have HW:=ae hW
 have HV:=ae hV
 obtain⟨th,tl,tph,tpl,tr,ts⟩:=t
 simp only at H2 Sm PL HV hlv HF;clear r1 r2 hW hB h hr hx1 hx3 hV hBV e2;go_enter Tryz.func168,Tryz.ntmps168
 go_upto_region 1 with fail
 rw [<-HW.out];go_upto_region 2 with (first|((with_reducible refine bF H1.out ?_ ?_ ?_);(· rfl);(· rfl))|((with_reducible refine bF H2.out ?_ ?_ ?_);(· rfl);(· rfl))|((with_reducible refine aJ O4.out ?_ ?_);(· rfl)))
 rw [<-HV.out];go_wp2_with (first|((with_reducible refine aJ Sm.out ?_ ?_);(· rfl))|((with_reducible refine a_ PL.out ?_ ?_ ?_);(· rfl);(· rfl)))
 exact bodyPost_ret (v:=.tuple #[Tn.v ⟨th,tl,tph,tpl,tr,ts⟩,.bool ok]) (by simp [results,Tryz.results168,asAddr,Act.put,hlv]) rfl ⟨rfl,HF.out⟩
theorem nD (hd:m.aR.Nodup):(∀i∈m.bl::m.L.map Im.b,i≠m.bi)/\(∀i∈m.bt::m.T.map Im.b,i≠m.bi)/\m.g≠m.bi/\m.bk≠m.bi/\∀i∈m.ba::m.A.map Im.b,i≠m.bi:=by
 have h1:=List.nodup_append.1 hd
 have h2:=List.nodup_append.1 h1.2.1
 have h3:=List.nodup_cons.1 h2.2.1
 have h4:=List.nodup_cons.1 h3.2
 refine⟨λi hi e=>h1.2.2 i hi m.bi (by simp) e,λi hi e=>h2.2.2 i hi m.bi (by simp) e,λe=>h3.1 (by rw [e];simp),λe=>h4.1 (by rw [<-e];simp),λi hi e=>h4.1 (by rw [<-e];exact List.mem_cons_of_mem _ hi)⟩
theorem Bw.nz (h:Bw w m){p:Int}(hp:bQ p)(hn:∀k∈m.I,k.p≠p)(c:Cp) :
  (Instr.lookup 157 (.map (some m.bi)) (ab p) false).run Tryz.prog w=.ok (.slice none 0 0) w /\
  ∃a' c' w7 w8,(Builtin.append_ #[74,74] 74 #[.slice none 0 0,.slice (some ⟨w.heap.size,0,none⟩) 1 1]).run Tryz.prog (w.alloc (Obj.cells #[ab c.o,ai (c.h:Int),ai (c.l:Int)] 37))=.ok (.slice a' 1 c') w7 /\
   (Instr.mapUpdate 157 (.map (some m.bi)) (ab p) (.slice a' 1 c')).run Tryz.prog w7=.ok () w8/\Bw w8 { m with I:=m.I++[⟨p,⟨a',1,c'⟩,[c]⟩] }/\aj (·=m.bi) w w8/\Below w.heap.size w w7/\∀j,aI a' j->w.heap.size<=j:=by
 have hmk:∀x∈m.I.map (λk=>(Value.int .i64 k.p,Value.slice k.s.a k.s.n k.s.c)),x.1≠Value.int .i64 p:=λx hx=>by
  obtain⟨k,hk,rfl⟩:=List.mem_map.1 hx
  intro e;simp at e
  exact hn k hk e
 have hgl:m.g<w.heap.size:=h.lo m.g (by simp)
 refine⟨h.lists.out.rD dy Tryz.underlying157 (gS hp) hmk (xL w) false,?_⟩
 obtain⟨a',c',w7,r7,o7,b7,n7⟩:=kJ 74 37 _ 3 24 Tryz.underlying74 ir rfl (by omega) (w:=w) (base:=m.g+1) (cs:=[ab c.o,ai (c.h:Int),ai (c.l:Int)]) (Ow.nil w (m.g+1) _ _) rfl (sO _ _ _) (by omega) (by omega) (by omega)
 have hB7:Below w.heap.size w w7:=aj.below (Below.refl _ _) b7 (λk hk=>by obtain⟨x,hx,_⟩:=hk;cases hx)
 have hw7:=h.later hB7
 obtain⟨w8,r8,m8,b8,s8⟩:=hw7.lists.out.add dy Tryz.underlying157 (gS hp) hmk (.slice a' 1 c')
 obtain⟨n1,n2,n3,n4,n5⟩:=nD h.cr
 have hnew:∀j,aI a' j->w.heap.size<=j:=λj hj=>by
  rcases n7 j hj with ⟨x,hx,_⟩|h'
  ·cases hx
  ·exact h'
 have ho8:Ow w8 (m.g+1) 37 3 a' 1 c' (aU [c]):=by
  have:Ow w7 (m.g+1) 37 3 a' 1 c' (aU [c]):=by simpa [aU,dP] using o7
  exact this.but b8 (λj hj e=>hw7.cells this (by omega) j hj (by subst e;simp [Bm.aR]))
 have hk8:∀k∈m.I,Ow w8 (m.g+1) 37 3 k.s.a k.s.n k.s.c (aU k.l):=λk hk=>(hw7.lists.each k hk).1.but b8 (λj hj e=>hw7.cells (hw7.lists.each k hk).1 (by omega) j hj (by subst e;simp [Bm.aR]))
 refine⟨a',c',w7,w8,by simpa using r7,r8,⟨hw7.bx.but b8 n3,hw7.live.but b8 n1,hw7.laid.but b8 n5,hw7.told.but b8 n2,⟨by rw [List.map_append];exact m8,λk hk=>?_,?_⟩,hw7.known.map hw7.lists.out b8 n4,h.cr,λj hj=>Nat.lt_of_lt_of_le (hw7.lo j hj) b8.size,λy hy x hx j hj2 hj=>?_⟩,(aj.of hB7).trans b8,hB7,hnew⟩
 ·rcases List.mem_append.1 hk with hk|hk
  ·exact⟨hk8 k hk,(h.lists.each k hk).2⟩
  ·rw [List.mem_singleton.1 hk]
   exact⟨ho8,rfl⟩
 ·show (m.I++[_]).Pairwise _
  rw [List.pairwise_append];refine⟨h.lists.cr,List.pairwise_singleton _ _,λx hx y hy j hj hj2=>?_⟩
  rw [List.mem_singleton.1 hy] at hj2;have h1:=((h.lists.each x hx).1.dB j hj).2
  have h2:=hnew j hj2
  omega
 ·rcases List.mem_append.1 hy with hy|hy
  ·exact h.ap y hy x hx j hj2 hj
  ·rw [List.mem_singleton.1 hy] at hj2
   have h1:=((h.known.each x hx).1.dB j hj).2
   have h2:=hnew j hj2
   omega
theorem qi (m:Bm)(C:List Value)(aE nu:Int)(c c2:Cp)(d:Sl)(w:World)(h:Bw w m)(hC:C.length=13)(h0:C[0]?=some (ab 7))(h1:C[1]?=some (ab aE))(h3:C[3]?=some (ab c.o))(h4:C[4]?=some (ai (c.h:Int)))(h5:C[5]?=some (ai (c.l:Int)))(hnn:0<=m.n/\m.n<4611686018427387904)(S2:Nat->Prop)(Q:World->Prop)(hS2:∀j,S2 j->j<w.heap.size/\j≠m.g)
  (hn:∀(U:World),w.heap.size<=U.heap.size->aj (·=m.g) w U->Bw U { m with n:=m.n+1 }->∃v0 v7 w7 w8,(∀U',Below U.heap.size U U'->(Instr.lookup 157 (.map (some m.bi)) (ab aE) false).run Tryz.prog U'=.ok v0 U')/\(Builtin.append_ #[74,74] 74 #[v0,.slice (some ⟨U.heap.size,0,none⟩) 1 1]).run Tryz.prog (U.alloc (Obj.cells #[ab c.o,ai (c.h:Int),ai (c.l:Int)] 37))=.ok v7 w7/\(Instr.mapUpdate 157 (.map (some m.bi)) (ab aE) v7).run Tryz.prog w7=.ok () w8/\Q w8/\aj S2 U w8/\aj S2 U w7) :
  Calls Tryz.prog 38 #[aq m.g,.agg C.toArray,bR 0 c2 d nu] w λe w'=>e=.returned (.tuple #[])/\Q w':=by
 obtain⟨o,ch,cl⟩:=c
 obtain⟨o2,ch2,cl2⟩:=c2
 obtain⟨W,hW⟩:∃W,W=(w.alloc (Obj.cells C.toArray 44)).alloc (Obj.cells #[ab 0,ab o2,ai (ch2:Int),ai (cl2:Int),.slice d.a d.n d.c,ab nu] 40):=⟨_,rfl⟩
 have hB:Below w.heap.size w W:=by rw [hW];exact aB _ _ _
 have OK:Hid (Bx W w.heap.size C):=by rw [hW];exact (Bx.new w C _).later (ag _ _)
 have OL:Hid (Bx W (w.heap.size+1) (aZ 0 ⟨o2,ch2,cl2⟩ d nu)):=by rw [hW];have:=Bx.new (w.alloc (Obj.cells C.toArray 44)) (aZ 0 ⟨o2,ch2,cl2⟩ d nu) 40;simp at this;exact this
 have hBW:=h.later hB
 have q0:=hBW.bx.cell 0 rfl
 have q0f:W.frozen? ⟨m.g,0,none⟩=false:=by have:=(hBW.bx.there 0 (by simp)).2;rwa [Nat.zero_add] at this
 have ew:IntKind.i64.wrap (m.n+1)=m.n+1:=by rw [IntKind.wrap_i64];omega
 have hgl:=h.lo m.g (by simp [Bm.aR])
 have O8:=ae hBW
 have HB:=ae hB
 have HW:=ae hW
 have H0:=ae h0
 have H1:=ae h1
 have H3:=ae h3
 have H4:=ae h4
 have H5:=ae h5
 have PZ:=ae hC
 have HN:=ae hn
 have OW:=ae hS2
 clear hBW h hB hW hn h0 h1 hC h3 h4 h5 hS2;go_enter Tryz.func38,Tryz.ntmps38
 go_upto_region 1 with fail
 rw [<-HW.out];go_upto_region 2 with fail
 obtain⟨U,hU⟩:∃U,U=W.setCell ⟨m.g,0,none⟩ (ab (m.n+1)):=⟨_,rfl⟩
 rw [<-hU];have Qe:Hid (aj (·=m.g) W U):=by rw [hU];exact (aj.refl (·=m.g) W).setCell (p:=⟨m.g,0,none⟩) rfl _
 have Sj:Hid (Bw U { m with n:=m.n+1 }):=by rw [hU];exact O8.out.step _
 have HY:=ae (OL.out.but Qe.out (by omega))
 have HX:=ae (OK.out.but Qe.out (by omega))
 clear q0 q0f hU;have y0:=HY.out.cell 0 rfl
 have x0:=HX.out.cell 0 H0.out
 obtain⟨v0,v7,w7,w8,l0,r7,r8,hQ,b8,b7⟩:=HN.out U.drew (Nat.le_trans HB.out.size Qe.out.size) (((aj.of HB.out).trans Qe.out).trans (aj.of (Below.refl _ _).drew)) (Sj.out.later (Below.refl _ _).drew)
 have QJ:=ae l0
 have Q9:=ae r7
 have Re:=ae r8
 have HQ:=ae hQ
 have Pb:=ae b8
 have PR:=ae b7
 have PK:Hid (∀V,aj S2 U.drew V->(V.rangeAt m.g 0 [ab (m.n+1),.map (some m.bl),.map (some m.bi),.map (some m.ba),.map (some m.bt),.map (some m.bk)]/\V.rangeAt w.heap.size 0 C)):=λV hV=>⟨((Sj.out.bx.later (Below.refl _ _).drew).but hV (λhj=>(OW.out _ hj).2 rfl)).range,((HX.out.later (Below.refl _ _).drew).but hV (λhj=>by have:=(OW.out _ hj).1;omega)).range⟩
 clear l0 r7 r8 hQ b8 b7 HN;go_upto_region 17 with fail
 refine wp_region_held_drew (S:=(λU:World=>U.rangeAt m.g 0 [ab (m.n+1),.map (some m.bl),.map (some m.bi),.map (some m.ba),.map (some m.bt),.map (some m.bk)]/\U.rangeAt w.heap.size 0 C)) (by kernel_rfl) (PK.out _ (aj.refl _ _)) (λhHeld=>?_)
 refine nm 18 0 18 ?_
 refine tn 0 18 1 17 ?_
 simp only [zz];refine tn 1 18 3 16 ?_
 simp only [zz];refine tn 2 18 7 15 ?_
 simp only [zz];refine wpAnyH_take (i:=3) (oi:=_) (v:=?_) rfl (by kernel_rfl) (by kernel_rfl) (by kernel_rfl) (λ_ _ _ h=>h) (Or.inl ⟨by rfl,?_⟩) (by assumption) ?_
 rotate_left
 ·(intro w hSw;have z1:=aG (j:=2) hSw.1 rfl;go_simp;try with_reducible rfl)
 simp only [zz];refine nm 18 15 14 ?_
 refine tn 4 18 31 13 ?_
 simp only [zz];refine wpAnyH_take (i:=5) (oi:=_) (v:=?_) rfl (by kernel_rfl) (by kernel_rfl) (by kernel_rfl) (λ_ _ _ h=>h) (Or.inl ⟨by rfl,?_⟩) (by assumption) ?_
 rotate_left
 ·(intro w hSw;have z0:=aG (j:=1) hSw.2 H1.out;go_simp;try with_reducible rfl)
 simp only [zz];refine nm 18 63 12 ?_
 refine tn 6 18 127 11 ?_
 simp only [zz];refine tn 7 18 255 10 ?_
 simp only [zz];refine tn 8 18 511 9 ?_
 simp only [zz];refine wpAnyH_take (i:=9) (oi:=_) (v:=?_) rfl (by kernel_rfl) (by kernel_rfl) (by kernel_rfl) (λ_ _ _ h=>h) (Or.inl ⟨by rfl,?_⟩) (by assumption) ?_
 rotate_left
 ·(intro w hSw;have z1:=aG (j:=2) hSw.1 rfl;go_simp;try with_reducible rfl)
 simp only [zz];refine nm 18 1023 8 ?_
 refine tn 10 18 2047 7 ?_
 simp only [zz];refine wpAnyH_take (i:=11) (oi:=_) (v:=?_) rfl (by kernel_rfl) (by kernel_rfl) (by kernel_rfl) (λ_ _ _ h=>h) (Or.inl ⟨by rfl,?_⟩) (by assumption) ?_
 rotate_left
 ·(intro w hSw;have z0:=aG (j:=1) hSw.2 H1.out;go_simp;try with_reducible rfl)
 simp only [zz];refine nm 18 4095 6 ?_
 refine tn 13 18 12287 5 ?_
 simp only [zz];refine wpAnyH_take (i:=14) (oi:=_) (v:=?_) rfl (by kernel_rfl) (by kernel_rfl) (by kernel_rfl) (λ_ _ _ h=>h) (Or.inl ⟨by rfl,?_⟩) (by assumption) ?_
 rotate_left
 ·(intro w hSw;have z4:=aG (j:=3) hSw.2 H3.out;have z5:=aG (j:=4) hSw.2 H4.out;have z6:=aG (j:=5) hSw.2 H5.out;go_simp;try with_reducible rfl)
 simp only [zz];refine nm 18 28671 4 ?_
 refine wpAnyH_ready (rs:=[12,15]) (by kernel_rfl) (by simp) ?_
 refine AllReadyH.cons rfl (λK hK=>?_) ?_
 ·refine qA rfl rfl rfl (QJ.out _ (Below.refl _ _)) ?_
  refine zk hK 18 32767 3 (PK.out _ (aj.refl _ _)) λhHeld=>?_
  clear hK K;try simp only [zz]
  refine zr 15 λK hK=>?_
  go_simp
  rw [kv];refine zk hK 18 65535 2 (PK.out _ (aj.of (ag _ _))) λhHeld=>?_
  clear hK K;try simp only [zz]
  refine zr 16 λK hK=>?_
  refine bE (.tmp 68) (.tmp 71) 74 rfl _ _ rfl rfl _ w7 Q9.out ?_
  refine zk hK 18 131071 1 (PK.out _ PR.out) λhHeld=>?_
  clear hK K;try simp only [zz]
  refine zr 17 λK hK=>?_
  refine jK rfl rfl rfl rfl Re.out ?_
  refine zk hK 18 262143 0 (PK.out _ Pb.out) λhHeld=>?_
  clear hK K;try simp only [zz]
  refine zn ?_ _
  go_wp2;exact bodyPost_end (v:=.tuple #[]) (by simp [results,Tryz.results38,go_sem]) rfl ⟨rfl,HQ.out⟩
 refine AllReadyH.cons rfl (λK hK=>?_) AllReadyH.nil
 go_simp
 rw [kv];refine zk hK 18 61439 3 (PK.out _ (aj.of (ag _ _))) λhHeld=>?_
 clear hK K;try simp only [zz]
 refine zr 12 λK hK=>?_
 refine qA rfl rfl rfl (QJ.out _ (ag _ _)) ?_
 refine zk hK 18 65535 2 (PK.out _ (aj.of (ag _ _))) λhHeld=>?_
 clear hK K;try simp only [zz]
 refine zr 16 λK hK=>?_
 refine bE (.tmp 68) (.tmp 71) 74 rfl _ _ rfl rfl _ w7 Q9.out ?_
 refine zk hK 18 131071 1 (PK.out _ PR.out) λhHeld=>?_
 clear hK K;try simp only [zz]
 refine zr 17 λK hK=>?_
 refine jK rfl rfl rfl rfl Re.out ?_
 refine zk hK 18 262143 0 (PK.out _ Pb.out) λhHeld=>?_
 clear hK K;try simp only [zz]
 refine zn ?_ _
 go_wp2;exact bodyPost_end (v:=.tuple #[]) (by simp [results,Tryz.results38,go_sem]) rfl ⟨rfl,HQ.out⟩
theorem uM {o:Oper}{a:Act}{t:TypeId}{x:Operand}(ho:o.op=.load t x)(hx:a.eval x=p)(hr:(Instr.loadAt t p).run P w=.ok v w)(h:K (a.put o.dst v) w):o.wp P a w K Q:=by
 unfold Oper.wp execOp;simp only [ho,hx,hr,Sem.run_bind,Sem.run_pure,Result.andThen_ok];exact h
theorem jJ {o:Oper}{a:Act}{t:TypeId}{x y:Operand}(ho:o.op=.store t x y)(hx:a.eval x=p)(hy:a.eval y=v)(hr:(Instr.storeAt t p v).run P w=.ok () w')(h:K (a.put o.dst undef) w'):o.wp P a w K Q:=by
 unfold Oper.wp execOp;simp only [ho,hx,hy,hr,Sem.run_bind,Sem.run_pure,Result.andThen_ok];exact h
structure Lk where
 s:Int
 kd:Int
 b:Int
 t:Int
 c:Cp
abbrev Lk.L (x:Lk):List Value:=Gh x.s x.kd x.b x.t x.c
def bO (l:List Lk):List Value:=(l.map Lk.L).flatten
theorem p9 (l:List Lk):(bO l).length=l.length*7:=by
 induction l with
 | nil=>rfl
 | cons c l ih=>simp only [bO,List.map_cons,List.flatten_cons,List.length_append] at *;rw [ih];simp;omega
theorem qW (l m:List Lk):bO (l++m)=bO l++bO m:=by simp [bO]
theorem A3 {l:List Lk}{x:Lk}(h:l[i]?=some x)(hv:x.L[j]?=some v):(bO l)[i*7+j]?=some v:=by
 have hj:=(List.getElem?_eq_some_iff.1 hv).1
 have h7:x.L.length=7:=rfl
 induction l generalizing i with
 | nil=>simp at h
 | cons y l ih =>
  have e:bO (y::l)=y.L++bO l:=by simp [bO]
  rw [e];cases i with
  | zero =>
   simp at h
   subst h;rw [List.getElem?_append_left (by omega),Nat.zero_mul,Nat.zero_add];exact hv
  | succ i =>
   have:=ih (by simpa using h)
   have e3:y.L.length=7:=rfl
   rw [List.getElem?_append_right (by rw [e3];omega),e3,show (i+1)*7+j - 7=i*7+j by omega]
   exact this
theorem Ow.jO {g:Nat}{L:List Value}(h:Ow w base e k (some ⟨g,0,none⟩) n cap L)(j:Nat)(u:Value):Ow (w.setCell ⟨g,j,none⟩ u) base e k (some ⟨g,0,none⟩) n cap (L.set j u):=(World.ownsRow.stored h j u).1
def gT (L:List Value):Nat->List Value->List Value
 | _,[]=>L
 | o,v::r=>gT (L.set o v) (o+1) r
theorem Ow.setCells {g:Nat}:∀(vs:List Value) (o:Nat) (w:World) (L:List Value),Ow w base e k (some ⟨g,0,none⟩) n cap L->Ow (w.setCells g o vs) base e k (some ⟨g,0,none⟩) n cap (gT L o vs)
 | [],_,_,_,h=>h
 | v::r,o,w,L,h=>Ow.setCells r (o+1) _ _ (h.jO o v)
theorem mc:∀(vs:List Value) (X L:List Value) (o:Nat),gT (X++L) (X.length+o) vs=X++gT L o vs
 | [],X,L,o=>rfl
 | v::r,X,L,o=>by
  have e:(X++L).set (X.length+o) v=X++L.set o v:=by rw [List.set_append_right _ _ (by omega),show X.length+o - X.length=o by omega]
  rw [gT,gT,e,show X.length+o+1=X.length+(o+1) by omega];exact mc r X _ _
theorem kP:∀(vs Y L:List Value),Y.length=vs.length->gT (Y++L) 0 vs=vs++L
 | [],[],L,_=>rfl
 | v::r,y::Y,L,h=>by
  rw [gT,List.cons_append,List.set_cons_zero,List.cons_append];have:=mc r [v] (Y++L) 0
  simp only [List.length_singleton,List.singleton_append,Nat.add_zero] at this;rw [Nat.zero_add,this,kP r Y L (by simpa using h)]
theorem zY {l:List Lk}(hi:i<l.length)(x:Lk):gT (bO l) (i*7) x.L=bO (l.set i x):=by
 induction l generalizing i with
 | nil=>simp at hi
 | cons y l ih =>
  have e:bO (y::l)=y.L++bO l:=by simp [bO]
  rw [e];cases i with
  | zero =>
   rw [Nat.zero_mul,kP x.L y.L _ rfl];simp [bO]
  | succ i =>
   have h7:y.L.length=7:=rfl
   have:=mc x.L y.L (bO l) (i*7)
   rw [h7,show 7+i*7=(i+1)*7 by omega] at this;rw [this,ih (by simpa using hi)];simp [bO]
theorem Ow.there {g:Nat}{L:List Value}(h:Ow w base e k (some ⟨g,0,none⟩) n cap L){m:Nat}(hm:o+m<=n*k):w.there g o m:=λj hj=>by
 rcases h.2 with ⟨h1,h2⟩|⟨g',cp,cur,hv,hg,hh,h3,h4,h5,h6⟩
 ·simp at h1
 ·simp only [Value.slice.injEq,Option.some.injEq,Addr.mk.injEq] at hv
  obtain⟨⟨rfl,_⟩,_,rfl⟩:=hv
  have:n*k<=cap*k:=Nat.mul_le_mul_right k h3
  refine⟨?_,?_⟩
  ·simp [World.cell?,hh];omega
  ·simp [World.frozen?,hh]
theorem IW {b:Nat}{L:List Value}(h:w.there b o 7)(hl:L.length=7)(h1:∀v∈L,v.oneCell'=true):(Instr.storeAt 72 (.pointer (some ⟨b,o,none⟩)) (.agg L.toArray)).run Tryz.prog w=.ok () (w.setCells b o L) :=
 run_storeAt_mid w b o 72 L.toArray (by simpa [hl] using h) (by rw [yj];simp [hl]) (all_oneCell_toArray h1)
theorem Ow.len {L:List Value}(h:Ow w base e k a n cap L):L.length=n*k:=h.1
theorem Ow.Jq {g:Nat}{l:List Lk}(h:Ow w base 72 7 (some ⟨g,0,none⟩) n cap (bO l)){x:Lk}(hx:l[i]?=some x):w.rangeAt g (i*7) x.L:=λj v hv=>by
 have:=h.cells rfl (i*7+j) v (A3 hx hv)
 rwa [Nat.zero_add] at this
theorem Ow.Io {g:Nat}{l:List Lk}(h:Ow w base 72 7 (some ⟨g,0,none⟩) n cap (bO l))(hi:i<l.length)(x:Lk):(Instr.storeAt 72 (.pointer (some ⟨g,i*7,none⟩)) (.agg x.L.toArray)).run Tryz.prog w=.ok () (w.setCells g (i*7) x.L)/\Ow (w.setCells g (i*7) x.L) base 72 7 (some ⟨g,0,none⟩) n cap (bO (l.set i x)):=by
 have hl:=h.len
 rw [p9] at hl;refine⟨IW (h.there (by omega)) rfl (EA _ _ _ _ _),?_⟩
 have:=Ow.setCells x.L (i*7) w _ h
 rwa [zY hi] at this
def nN (L M:List Lk)(i:Nat):Prop:=M.length=L.length/\∀k,k<L.length->M[k]?=if k<i\/L.length<=k+i then L[L.length - 1 - k]? else L[k]?
theorem nN.step {L M:List Lk}{x y:Lk}(h:nN L M i)(hj:i+j+1=L.length)(hij:i<j)(hx:M[i]?=some x)(hy:M[j]?=some y):nN L ((M.set i y).set j x) (i+1):=by
 obtain⟨h1,h2⟩:=h
 refine⟨by simp [h1],λk hk=>?_⟩
 have hi2:=h2 i (by omega)
 rw [if_neg (by omega),hx] at hi2;have hj2:=h2 j (by omega)
 rw [if_neg (by omega),hy] at hj2;rw [List.getElem?_set];split
 ·next e =>
  subst e;rw [if_pos (by simp;omega),if_pos (by omega),show L.length - 1 - j=i by omega];exact hi2
 ·rw [List.getElem?_set]
  split
  ·next e =>
   subst e;rw [if_pos (by omega),if_pos (by omega),show L.length - 1 - i=j by omega];exact hj2
  ·rw [h2 k hk]
   by_cases hc:k<i\/L.length<=k+i
   ·rw [if_pos hc,if_pos (by omega)]
   ·rw [if_neg hc,if_neg (by omega)]
theorem nN.end_ {L M:List Lk}(h:nN L M i)(hi:L.length<=2*i+1):M=L.reverse:=by
 obtain⟨h1,h2⟩:=h
 apply List.ext_getElem?
 intro k;by_cases hk:k<L.length
 ·rw [h2 k hk,List.getElem?_reverse hk]
  split
  ·rfl
  ·rw [show L.length - 1 - k=k by omega]
 ·rw [List.getElem?_eq_none (by omega),List.getElem?_eq_none (by simp;omega)]
def Fs (w:World)(base:Nat)(a:Option Addr)(n cap:Nat)(L:List Lk)(t u:Value)(w':World):Prop :=
 ∃(i:Nat) (M:List Lk),t=ab (i:Int)/\u=ab ((n:Int) - 1 - i)/\nN L M i/\Ow w' base 72 7 a n cap (bO M)/\aj (aI a) w w'
theorem uq {L:List Lk}(h:Ow w base 72 7 a n cap (bO L))(hn:n<=1099511627776) :
  Calls Tryz.prog 172 #[.slice a n cap] w λe w'=>e=.returned (.tuple #[])/\Ow w' base 72 7 a n cap (bO L.reverse)/\aj (aI a) w w':=by
 have hl:L.length=n:=by have:=h.len;rw [p9] at this;omega
 have HO:=ae h
 have HL:=ae hl
 clear h hl;go_enter Tryz.func172,Tryz.ntmps172
 go_upto_region 1 with fail
 go_loopw [2,3] (Fs w base a n cap L) (λt _ _=>n - jv t)
 case atStart=>exact⟨0,L,rfl,by go_num,⟨rfl,λk hk=>by rw [if_neg (by omega)]⟩,HO.out,aj.refl _ _⟩
 case round =>
  obtain⟨i,M,rfl,rfl,hR,hO,hB⟩:=hrel
  have hll:=HL.out
  by_cases hlt:2*i+1<n
  ·obtain⟨g,rfl⟩:=hO.cJ (by omega)
   obtain⟨j,hj⟩:∃j:Nat,i+j+1=n:=⟨n - 1 - i,by omega⟩
   have hje:((n:Int) - 1 - i)=(j:Int):=by omega
   rw [hje];have hlM:M.length=n:=by rw [hR.1];exact hll
   have hij:i<j:=by omega
   obtain⟨x,hx⟩:∃x,M[i]?=some x:=⟨_,List.getElem?_eq_getElem (by omega)⟩
   obtain⟨y,hy⟩:∃x,M[j]?=some x:=⟨_,List.getElem?_eq_getElem (by omega)⟩
   have hO':=hO.later (Below.refl wr.heap.size wr).drew
   have T_:=ae (EK (hO'.Jq hx) rfl)
   have WB:=ae (EK (hO'.Jq hy) rfl)
   obtain⟨hs1,ho1⟩:=hO'.Io (i:=i) (by omega) y
   have hb1:aj (aI (some ⟨g,0,none⟩)) w (wr.drew.setCells g (i*7) y.L):=au ⟨_,rfl,rfl⟩ y.L (i*7) (hB.trans (aj.of (Below.refl _ _).drew))
   generalize wr.drew.setCells g (i*7) y.L=W1 at hs1 ho1 hb1
   obtain⟨hs2,ho2⟩:=ho1.Io (i:=j) (by simp;omega) x
   have hb2:aj (aI (some ⟨g,0,none⟩)) w (W1.setCells g (j*7) x.L):=au ⟨_,rfl,rfl⟩ x.L (j*7) hb1
   generalize W1.setCells g (j*7) x.L=W2 at hs2 ho2 hb2
   have O2:=ae hs1
   have OW:=ae hs2
   have O0:=ae ho2
   have Pp:=ae (hR.step (by omega) hij hx hy)
   have OH:=ae hb2
   have hjn:(j:Int)<(n:Int):=by omega
   have hin:(i:Int)<(n:Int):=by omega
   have hijI:(i:Int)<(j:Int):=by omega
   clear hO hB hR hO' hs1 hs2 ho1 ho2 hb1 hb2 HO hx hy hje hlM hlt hll;go_upto_region 3 with fail
   refine wp_region_held_drew (S:=(λ_:World=>True)) (by kernel_rfl) (trivial) (λhHeld=>?_)
   refine nm 16 0 16 ?_
   refine tn 0 16 1 15 ?_
   simp only [zz];refine tn 1 16 3 14 ?_
   simp only [zz];refine tn 2 16 7 13 ?_
   simp only [zz];refine tn 3 16 15 12 ?_
   simp only [zz];refine tn 4 16 31 11 ?_
   simp only [zz];refine tn 5 16 63 10 ?_
   simp only [zz];refine tn 6 16 127 9 ?_
   simp only [zz];refine tn 8 16 383 8 ?_
   simp only [zz];refine tn 9 16 895 7 ?_
   simp only [zz];refine tn 10 16 1919 6 ?_
   simp only [zz];refine wpAnyH_ready (rs:=[7,11]) (by kernel_rfl) (by simp) ?_
   refine AllReadyH.cons rfl (λK hK=>?_) ?_
   ·refine uM rfl rfl WB.out ?_
    refine zk hK 16 2047 5 (trivial) λhHeld=>?_
    clear hK K;try simp only [zz]
    refine zr 11 λK hK=>?_
    refine uM rfl rfl T_.out ?_
    refine zk hK 16 4095 4 (trivial) λhHeld=>?_
    clear hK K;try simp only [zz]
    refine tn 12 16 8191 3 ?_
    simp only [zz];refine zr 13 λK hK=>?_
    refine jJ rfl rfl rfl O2.out ?_
    refine zk hK 16 16383 2 (trivial) λhHeld=>?_
    clear hK K;try simp only [zz]
    refine tn 14 16 32767 1 ?_
    simp only [zz];refine zr 15 λK hK=>?_
    refine jJ rfl rfl rfl OW.out ?_
    refine zk hK 16 65535 0 (trivial) λhHeld=>?_
    clear hK K;try simp only [zz]
    refine zn ?_ _
    go_wp2;refine⟨⟨i+1,_,by go_num,by go_num,Pp.out,O0.out,OH.out⟩,by simp [jv];omega⟩
   refine AllReadyH.cons rfl (λK hK=>?_) AllReadyH.nil
   refine uM rfl rfl T_.out ?_
   refine zk hK 16 3967 5 (trivial) λhHeld=>?_
   clear hK K;try simp only [zz]
   refine zr 7 λK hK=>?_
   refine uM rfl rfl WB.out ?_
   refine zk hK 16 4095 4 (trivial) λhHeld=>?_
   clear hK K;try simp only [zz]
   refine tn 12 16 8191 3 ?_
   simp only [zz];refine zr 13 λK hK=>?_
   refine jJ rfl rfl rfl O2.out ?_
   refine zk hK 16 16383 2 (trivial) λhHeld=>?_
   clear hK K;try simp only [zz]
   refine tn 14 16 32767 1 ?_
   simp only [zz];refine zr 15 λK hK=>?_
   refine jJ rfl rfl rfl OW.out ?_
   refine zk hK 16 65535 0 (trivial) λhHeld=>?_
   clear hK K;try simp only [zz]
   refine zn ?_ _
   go_wp2;refine⟨⟨i+1,_,by go_num,by go_num,Pp.out,O0.out,OH.out⟩,by simp [jv];omega⟩
  ·have hge:¬((i:Int)<(n:Int) - 1 - i):=by omega
   have O0:=ae hO
   have OH:=ae hB
   have HE:=ae (hR.end_ (by omega))
   clear hO hB hR HO hlt hll;go_wp2;exact bodyPost_end (v:=.tuple #[]) (by simp [results,Tryz.results172,go_sem]) rfl ⟨rfl,by have:=O0.out;rwa [HE.out] at this,OH.out⟩
end Go.Proofs.YtmhinfbkmjdgfaaGreatDoor.B
