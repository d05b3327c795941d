import Derived.Test.YtmhinfbkmjdgfaaGreatDoorZ20
set_option linter.unusedVariables false
set_option linter.unusedSimpArgs false
set_option maxRecDepth 100000
set_option maxHeartbeats 4000000
namespace Go.Proofs.YtmhinfbkmjdgfaaGreatDoor.B
open Go.RowKit
variable {P:Nat->Prop}
def Nx (P:Nat->Prop)(w w':World)(m:Bm)(B':Bv)(N:Nat):Prop:=∃m',Bk P w' m' B'/\Tr w w' m m'/\Sz B' N
theorem vW (m:Bm)(B:Bv)(x:Cq)(cd nu:Int)(c:Cp)(d:Sl)(bs:List Nat)(gs:List Int)(N:Nat)(w:World)(ha:DZ P w m B x c d nu bs gs N)(hcd:cd=0)(hop:x.op=1) :
  Calls Tryz.prog 38 #[aq m.g,x.v,bR cd c d nu] w λe w'=>e=.returned (.tuple #[])/\Nx P w w' m (bo (ig { B with n:=B.n+1 } c c.h c.l 31) 1 x.b x.b c []) (N+3+x.gs.n+d.n):=by
 obtain⟨h,hx,hc,jn,hsz,hN,ri,kj,uG,iL,fa⟩:=ha
 obtain⟨o,ch,cl⟩:=c
 obtain⟨W,hW⟩:∃W,W=(w.alloc (Obj.cells x.L.toArray 44)).alloc (Obj.cells #[ab cd,ab o,ai (ch:Int),ai (cl:Int),.slice d.a d.n d.c,ab nu] 40):=⟨_,rfl⟩
 have hB:Below w.heap.size w W:=by rw [hW];exact aB _ _ _
 have OK:Hid (Bx W w.heap.size x.L):=by rw [hW];exact (Bx.new w x.L _).later (ag _ _)
 have OL:Hid (Bx W (w.heap.size+1) (aZ cd ⟨o,ch,cl⟩ d nu)):=by rw [hW];have:=Bx.new (w.alloc (Obj.cells x.L.toArray 44)) (aZ cd ⟨o,ch,cl⟩ d nu) 40;simp at this;exact this
 have hBW:=h.later hB
 have q0:=hBW.bw.bx.cell 0 rfl
 have q0f:W.frozen? ⟨m.g,0,none⟩=false:=by have:=(hBW.bw.bx.there 0 (by simp)).2;rwa [Nat.zero_add] at this
 have hn0:0<=m.n/\m.n<=50000000:=by rw [h.n];have:=hsz.n0;have:=hsz.n1;omega
 have ew:IntKind.i64.wrap (m.n+1)=m.n+1:=by rw [IntKind.wrap_i64];omega
 obtain⟨hs1,hs2⟩:=hBW.step
 have hBe:Hid (B.n=m.n):=h.n.symm
 obtain⟨U,hU⟩:∃U,U=W.setCell ⟨m.g,0,none⟩ (ab (m.n+1)):=⟨_,rfl⟩
 rw [<-hU] at hs1 hs2;have hOw:∀j,cA m j->j<w.heap.size:=h.bw.cK
 have HX:=ae (OK.out.but hs2.bt (λhj=>by have:=hOw _ hj;omega))
 have HY:=ae (OL.out.but hs2.bt (λhj=>by have:=hOw _ hj;omega))
 have hszU:=hsz.step
 have PS:Hid (∀w' m' B',Bk P w' m' B'->Tr U w' { m with n:=m.n+1 } m'->Sz B' (N+3+x.gs.n+d.n)->Nx P w w' m B' (N+3+x.gs.n+d.n)):=λw' m' B' k1 k2 k3=>⟨m',k1,Tr.fh hB (hs2.trans k2),k3⟩
 have Px:Hid ((Instr.loadAt 44 (aq w.heap.size)).run Tryz.prog U=.ok x.v U):=run_loadAt_mid U w.heap.size 0 44 x.L _ HX.out.range Tryz.underlying44 rfl (by kernel_rfl)
 have PX:Hid ((Instr.loadAt 40 (.pointer (some ⟨w.heap.size+1,0,none⟩))).run Tryz.prog U=.ok (bR cd ⟨o,ch,cl⟩ d nu) U):=run_loadAt_mid U (w.heap.size+1) 0 40 (aZ cd ⟨o,ch,cl⟩ d nu) _ HY.out.range Tryz.underlying40 rfl (by kernel_rfl)
 have Pz:Hid (Calls Tryz.prog 96 #[aq m.g,x.v,bR cd ⟨o,ch,cl⟩ d nu] U λe w'=>e=.returned (.tuple #[])/\Nx P w w' m (bo (ig { B with n:=B.n+1 } ⟨o,ch,cl⟩ ch cl 31) 1 x.b x.b ⟨o,ch,cl⟩ []) (N+3+x.gs.n+d.n)):=(tB _ _ x cd nu ⟨o,ch,cl⟩ d U hs1 hx hc (by show bQ (B.n+1);rw [hBe.out];constructor<;>omega) (by have:=hsz.known x.b;show (B.known x.b).length+1<=_;omega)).mono (λe w' h1=>by obtain⟨h2,m',h3,h4⟩:=h1;exact⟨h2,PS.out _ _ _ h3 h4 (((hsz.step.Jw _ _ _ _).tell _ _ _ _ (Nat.zero_le _)).mono (by omega))⟩)
 have HW:=ae hW
 have PT:=ae hU
 clear hBW hB hW h hx hc jn hsz hN ri kj uG iL fa hs1 hs2 hU hOw hszU;obtain⟨xop,xb,xsz,⟨xo,xh,xl⟩,xgv,xrt,xoff,xnn,⟨xda,xdn,xdc⟩,xix,⟨xga,xgn,xgc⟩⟩:=x
 simp only at OK HX HW Px PS Pz hop ⊢
 subst hcd;subst hop;go_enter Tryz.func38,Tryz.ntmps38
 go_upto_region 1 with fail
 rw [<-HW.out];go_upto_region 2 with fail
 rw [<-PT.out];clear q0 q0f PT;have y0:=HY.out.cell 0 rfl
 have x0:=HX.out.cell 0 rfl
 go_wp2_with (first|((with_reducible refine aJ Px.out ?_ ?_);(· rfl))|((with_reducible refine aJ PX.out ?_ ?_);(· rfl))|(go_at_call 96;refine Pz.out.mono ?_;rintro e w2 ⟨rfl,hq⟩;have HQ:=ae hq;clear hq))
 exact bodyPost_end (v:=.tuple #[]) (by simp [results,Tryz.results38,go_sem]) rfl ⟨rfl,HQ.out⟩
theorem wR (m:Bm)(B:Bv)(x:Cq)(cd nu:Int)(c:Cp)(d:Sl)(bs:List Nat)(gs:List Int)(N:Nat)(w:World)(ha:DZ P w m B x c d nu bs gs N)(hcd:cd=0)(hop:x.op=3) :
  Calls Tryz.prog 38 #[aq m.g,x.v,bR cd c d nu] w λe w'=>e=.returned (.tuple #[])/\Nx P w w' m (bo (ig { B with n:=B.n+1 } c x.c.h x.c.l x.rt) 2 x.b x.b c ((dR { B with n:=B.n+1 } x.b x.c).getD [])) (N+3+x.gs.n+d.n):=by
 obtain⟨h,hx,hc,jn,hsz,hN,ri,kj,uG,iL,fa⟩:=ha
 obtain⟨o,ch,cl⟩:=c
 obtain⟨W,hW⟩:∃W,W=(w.alloc (Obj.cells x.L.toArray 44)).alloc (Obj.cells #[ab cd,ab o,ai (ch:Int),ai (cl:Int),.slice d.a d.n d.c,ab nu] 40):=⟨_,rfl⟩
 have hB:Below w.heap.size w W:=by rw [hW];exact aB _ _ _
 have OK:Hid (Bx W w.heap.size x.L):=by rw [hW];exact (Bx.new w x.L _).later (ag _ _)
 have OL:Hid (Bx W (w.heap.size+1) (aZ cd ⟨o,ch,cl⟩ d nu)):=by rw [hW];have:=Bx.new (w.alloc (Obj.cells x.L.toArray 44)) (aZ cd ⟨o,ch,cl⟩ d nu) 40;simp at this;exact this
 have hBW:=h.later hB
 have q0:=hBW.bw.bx.cell 0 rfl
 have q0f:W.frozen? ⟨m.g,0,none⟩=false:=by have:=(hBW.bw.bx.there 0 (by simp)).2;rwa [Nat.zero_add] at this
 have hn0:0<=m.n/\m.n<=50000000:=by rw [h.n];have:=hsz.n0;have:=hsz.n1;omega
 have ew:IntKind.i64.wrap (m.n+1)=m.n+1:=by rw [IntKind.wrap_i64];omega
 obtain⟨hs1,hs2⟩:=hBW.step
 have hBe:Hid (B.n=m.n):=h.n.symm
 obtain⟨U,hU⟩:∃U,U=W.setCell ⟨m.g,0,none⟩ (ab (m.n+1)):=⟨_,rfl⟩
 rw [<-hU] at hs1 hs2;have hOw:∀j,cA m j->j<w.heap.size:=h.bw.cK
 have HX:=ae (OK.out.but hs2.bt (λhj=>by have:=hOw _ hj;omega))
 have HY:=ae (OL.out.but hs2.bt (λhj=>by have:=hOw _ hj;omega))
 have hszU:=hsz.step
 have PS:Hid (∀w' m' B',Bk P w' m' B'->Tr U w' { m with n:=m.n+1 } m'->Sz B' (N+3+x.gs.n+d.n)->Nx P w w' m B' (N+3+x.gs.n+d.n)):=λw' m' B' k1 k2 k3=>⟨m',k1,Tr.fh hB (hs2.trans k2),k3⟩
 have Px:Hid ((Instr.loadAt 44 (aq w.heap.size)).run Tryz.prog U=.ok x.v U):=run_loadAt_mid U w.heap.size 0 44 x.L _ HX.out.range Tryz.underlying44 rfl (by kernel_rfl)
 have PX:Hid ((Instr.loadAt 40 (.pointer (some ⟨w.heap.size+1,0,none⟩))).run Tryz.prog U=.ok (bR cd ⟨o,ch,cl⟩ d nu) U):=run_loadAt_mid U (w.heap.size+1) 0 40 (aZ cd ⟨o,ch,cl⟩ d nu) _ HY.out.range Tryz.underlying40 rfl (by kernel_rfl)
 have Pz:Hid (Calls Tryz.prog 98 #[aq m.g,x.v,bR cd ⟨o,ch,cl⟩ d nu] U λe w'=>e=.returned (.tuple #[])/\Nx P w w' m (bo (ig { B with n:=B.n+1 } ⟨o,ch,cl⟩ x.c.h x.c.l x.rt) 2 x.b x.b ⟨o,ch,cl⟩ ((dR { B with n:=B.n+1 } x.b x.c).getD [])) (N+3+x.gs.n+d.n)):=(tQ _ _ x cd nu ⟨o,ch,cl⟩ d U hs1 hx hc (by show bQ (B.n+1);rw [hBe.out];constructor<;>omega) (by have:=hsz.known x.b;show (B.known x.b).length+1<=_;omega)).mono (λe w' h1=>by obtain⟨h2,m',h3,h4⟩:=h1;exact⟨h2,PS.out _ _ _ h3 h4 (((hsz.step.Jw _ _ _ _).tell _ _ _ _ (Nat.le_trans (hsz.step.tg _ _) (by omega))).mono (by omega))⟩)
 have HW:=ae hW
 have PT:=ae hU
 clear hBW hB hW h hx hc jn hsz hN ri kj uG iL fa hs1 hs2 hU hOw hszU;obtain⟨xop,xb,xsz,⟨xo,xh,xl⟩,xgv,xrt,xoff,xnn,⟨xda,xdn,xdc⟩,xix,⟨xga,xgn,xgc⟩⟩:=x
 simp only at OK HX HW Px PS Pz hop ⊢
 subst hcd;subst hop;go_enter Tryz.func38,Tryz.ntmps38
 go_upto_region 1 with fail
 rw [<-HW.out];go_upto_region 2 with fail
 rw [<-PT.out];clear q0 q0f PT;have y0:=HY.out.cell 0 rfl
 have x0:=HX.out.cell 0 rfl
 go_wp2_with (first|((with_reducible refine aJ Px.out ?_ ?_);(· rfl))|((with_reducible refine aJ PX.out ?_ ?_);(· rfl))|(go_at_call 98;refine Pz.out.mono ?_;rintro e w2 ⟨rfl,hq⟩;have HQ:=ae hq;clear hq))
 exact bodyPost_end (v:=.tuple #[]) (by simp [results,Tryz.results38,go_sem]) rfl ⟨rfl,HQ.out⟩
theorem BM (m:Bm)(B:Bv)(x:Cq)(cd nu:Int)(c:Cp)(d:Sl)(bs:List Nat)(gs:List Int)(N:Nat)(w:World)(ha:DZ P w m B x c d nu bs gs N)(hcd:cd=0)(hop:x.op=5) :
  Calls Tryz.prog 38 #[aq m.g,x.v,bR cd c d nu] w λe w'=>e=.returned (.tuple #[])/\Nx P w w' m (j7 x.b x.c.o x.off { B with n:=B.n+1 } (d.n - 23)) (N+3+x.gs.n+d.n):=by
 obtain⟨h,hx,hc,jn,hsz,hN,ri,kj,uG,iL,fa⟩:=ha
 obtain⟨o,ch,cl⟩:=c
 obtain⟨W,hW⟩:∃W,W=(w.alloc (Obj.cells x.L.toArray 44)).alloc (Obj.cells #[ab cd,ab o,ai (ch:Int),ai (cl:Int),.slice d.a d.n d.c,ab nu] 40):=⟨_,rfl⟩
 have hB:Below w.heap.size w W:=by rw [hW];exact aB _ _ _
 have OK:Hid (Bx W w.heap.size x.L):=by rw [hW];exact (Bx.new w x.L _).later (ag _ _)
 have OL:Hid (Bx W (w.heap.size+1) (aZ cd ⟨o,ch,cl⟩ d nu)):=by rw [hW];have:=Bx.new (w.alloc (Obj.cells x.L.toArray 44)) (aZ cd ⟨o,ch,cl⟩ d nu) 40;simp at this;exact this
 have hBW:=h.later hB
 have q0:=hBW.bw.bx.cell 0 rfl
 have q0f:W.frozen? ⟨m.g,0,none⟩=false:=by have:=(hBW.bw.bx.there 0 (by simp)).2;rwa [Nat.zero_add] at this
 have hn0:0<=m.n/\m.n<=50000000:=by rw [h.n];have:=hsz.n0;have:=hsz.n1;omega
 have ew:IntKind.i64.wrap (m.n+1)=m.n+1:=by rw [IntKind.wrap_i64];omega
 obtain⟨hs1,hs2⟩:=hBW.step
 have hBe:Hid (B.n=m.n):=h.n.symm
 obtain⟨U,hU⟩:∃U,U=W.setCell ⟨m.g,0,none⟩ (ab (m.n+1)):=⟨_,rfl⟩
 rw [<-hU] at hs1 hs2;have hOw:∀j,cA m j->j<w.heap.size:=h.bw.cK
 have HX:=ae (OK.out.but hs2.bt (λhj=>by have:=hOw _ hj;omega))
 have HY:=ae (OL.out.but hs2.bt (λhj=>by have:=hOw _ hj;omega))
 have hszU:=hsz.step
 have PS:Hid (∀w' m' B',Bk P w' m' B'->Tr U w' { m with n:=m.n+1 } m'->Sz B' (N+3+x.gs.n+d.n)->Nx P w w' m B' (N+3+x.gs.n+d.n)):=λw' m' B' k1 k2 k3=>⟨m',k1,Tr.fh hB (hs2.trans k2),k3⟩
 have Px:Hid ((Instr.loadAt 44 (aq w.heap.size)).run Tryz.prog U=.ok x.v U):=run_loadAt_mid U w.heap.size 0 44 x.L _ HX.out.range Tryz.underlying44 rfl (by kernel_rfl)
 have PX:Hid ((Instr.loadAt 40 (.pointer (some ⟨w.heap.size+1,0,none⟩))).run Tryz.prog U=.ok (bR cd ⟨o,ch,cl⟩ d nu) U):=run_loadAt_mid U (w.heap.size+1) 0 40 (aZ cd ⟨o,ch,cl⟩ d nu) _ HY.out.range Tryz.underlying40 rfl (by kernel_rfl)
 have Pz:Hid (Calls Tryz.prog 100 #[aq m.g,x.v,bR cd ⟨o,ch,cl⟩ d nu] U λe w'=>e=.returned (.tuple #[])/\Nx P w w' m (j7 x.b x.c.o x.off { B with n:=B.n+1 } (d.n - 23)) (N+3+x.gs.n+d.n)):=(tM _ _ x cd nu ⟨o,ch,cl⟩ d U hs1 hx (by show bQ (B.n+1);rw [hBe.out];constructor<;>omega) (by omega) (by have:=hsz.known x.b;show (B.known x.b).length+d.n<=_;omega)).mono (λe w' h1=>by obtain⟨h2,m',h3,h4⟩:=h1;exact⟨h2,PS.out _ _ _ h3 h4 ((hsz.step.rd _ _ _ _).mono (by omega))⟩)
 have HW:=ae hW
 have PT:=ae hU
 clear hBW hB hW h hx hc jn hsz hN ri kj uG iL fa hs1 hs2 hU hOw hszU;obtain⟨xop,xb,xsz,⟨xo,xh,xl⟩,xgv,xrt,xoff,xnn,⟨xda,xdn,xdc⟩,xix,⟨xga,xgn,xgc⟩⟩:=x
 simp only at OK HX HW Px PS Pz hop ⊢
 subst hcd;subst hop;go_enter Tryz.func38,Tryz.ntmps38
 go_upto_region 1 with fail
 rw [<-HW.out];go_upto_region 2 with fail
 rw [<-PT.out];clear q0 q0f PT;have y0:=HY.out.cell 0 rfl
 have x0:=HX.out.cell 0 rfl
 go_wp2_with (first|((with_reducible refine aJ Px.out ?_ ?_);(· rfl))|((with_reducible refine aJ PX.out ?_ ?_);(· rfl))|(go_at_call 100;refine Pz.out.mono ?_;rintro e w2 ⟨rfl,hq⟩;have HQ:=ae hq;clear hq))
 exact bodyPost_end (v:=.tuple #[]) (by simp [results,Tryz.results38,go_sem]) rfl ⟨rfl,HQ.out⟩
theorem pD (m:Bm)(B:Bv)(x:Cq)(cd nu:Int)(c:Cp)(d:Sl)(bs:List Nat)(gs:List Int)(N:Nat)(w:World)(ha:DZ P w m B x c d nu bs gs N)(hcd:cd=0)(hop:x.op=6) :
  Calls Tryz.prog 38 #[aq m.g,x.v,bR cd c d nu] w λe w'=>e=.returned (.tuple #[])/\Nx P w w' m (lL x bs { B with n:=B.n+1 }) (N+3+x.gs.n+d.n):=by
 obtain⟨h,hx,hc,jn,hsz,hN,ri,kj,uG,iL,fa⟩:=ha
 obtain⟨o,ch,cl⟩:=c
 obtain⟨W,hW⟩:∃W,W=(w.alloc (Obj.cells x.L.toArray 44)).alloc (Obj.cells #[ab cd,ab o,ai (ch:Int),ai (cl:Int),.slice d.a d.n d.c,ab nu] 40):=⟨_,rfl⟩
 have hB:Below w.heap.size w W:=by rw [hW];exact aB _ _ _
 have OK:Hid (Bx W w.heap.size x.L):=by rw [hW];exact (Bx.new w x.L _).later (ag _ _)
 have OL:Hid (Bx W (w.heap.size+1) (aZ cd ⟨o,ch,cl⟩ d nu)):=by rw [hW];have:=Bx.new (w.alloc (Obj.cells x.L.toArray 44)) (aZ cd ⟨o,ch,cl⟩ d nu) 40;simp at this;exact this
 have hBW:=h.later hB
 have q0:=hBW.bw.bx.cell 0 rfl
 have q0f:W.frozen? ⟨m.g,0,none⟩=false:=by have:=(hBW.bw.bx.there 0 (by simp)).2;rwa [Nat.zero_add] at this
 have hn0:0<=m.n/\m.n<=50000000:=by rw [h.n];have:=hsz.n0;have:=hsz.n1;omega
 have ew:IntKind.i64.wrap (m.n+1)=m.n+1:=by rw [IntKind.wrap_i64];omega
 obtain⟨hs1,hs2⟩:=hBW.step
 have hBe:Hid (B.n=m.n):=h.n.symm
 obtain⟨U,hU⟩:∃U,U=W.setCell ⟨m.g,0,none⟩ (ab (m.n+1)):=⟨_,rfl⟩
 rw [<-hU] at hs1 hs2;have hOw:∀j,cA m j->j<w.heap.size:=h.bw.cK
 have HX:=ae (OK.out.but hs2.bt (λhj=>by have:=hOw _ hj;omega))
 have HY:=ae (OL.out.but hs2.bt (λhj=>by have:=hOw _ hj;omega))
 have hszU:=hsz.step
 have PS:Hid (∀w' m' B',Bk P w' m' B'->Tr U w' { m with n:=m.n+1 } m'->Sz B' (N+3+x.gs.n+d.n)->Nx P w w' m B' (N+3+x.gs.n+d.n)):=λw' m' B' k1 k2 k3=>⟨m',k1,Tr.fh hB (hs2.trans k2),k3⟩
 have Px:Hid ((Instr.loadAt 44 (aq w.heap.size)).run Tryz.prog U=.ok x.v U):=run_loadAt_mid U w.heap.size 0 44 x.L _ HX.out.range Tryz.underlying44 rfl (by kernel_rfl)
 have PX:Hid ((Instr.loadAt 40 (.pointer (some ⟨w.heap.size+1,0,none⟩))).run Tryz.prog U=.ok (bR cd ⟨o,ch,cl⟩ d nu) U):=run_loadAt_mid U (w.heap.size+1) 0 40 (aZ cd ⟨o,ch,cl⟩ d nu) _ HY.out.range Tryz.underlying40 rfl (by kernel_rfl)
 have Pz:Hid (Calls Tryz.prog 101 #[aq m.g,x.v] U λe w'=>e=.returned (.tuple #[])/\Nx P w w' m (lL x bs { B with n:=B.n+1 }) (N+3+x.gs.n+d.n)):=(tD _ _ x bs U hs1 hx ((ri.later hB).but hs2.bt (λj hj=>(kj j hj).2)) (λj hj=>⟨Nat.lt_of_lt_of_le (kj j hj).1 (Nat.le_trans hB.size hs2.bt.size),(kj j hj).2⟩) (by have:=ri.len;omega) uG).mono (λe w' h1=>by obtain⟨h2,m',h3,h4⟩:=h1;exact⟨h2,PS.out _ _ _ h3 h4 ((hsz.step.I9 _ _).mono (by omega))⟩)
 have HW:=ae hW
 have PT:=ae hU
 clear hBW hB hW h hx hc jn hsz hN ri kj uG iL fa hs1 hs2 hU hOw hszU;obtain⟨xop,xb,xsz,⟨xo,xh,xl⟩,xgv,xrt,xoff,xnn,⟨xda,xdn,xdc⟩,xix,⟨xga,xgn,xgc⟩⟩:=x
 simp only at OK HX HW Px PS Pz hop ⊢
 subst hcd;subst hop;go_enter Tryz.func38,Tryz.ntmps38
 go_upto_region 1 with fail
 rw [<-HW.out];go_upto_region 2 with fail
 rw [<-PT.out];clear q0 q0f PT;have y0:=HY.out.cell 0 rfl
 have x0:=HX.out.cell 0 rfl
 go_wp2_with (first|((with_reducible refine aJ Px.out ?_ ?_);(· rfl))|((with_reducible refine aJ PX.out ?_ ?_);(· rfl))|(go_at_call 101;refine Pz.out.mono ?_;rintro e w2 ⟨rfl,hq⟩;have HQ:=ae hq;clear hq))
 exact bodyPost_end (v:=.tuple #[]) (by simp [results,Tryz.results38,go_sem]) rfl ⟨rfl,HQ.out⟩
theorem qX (m:Bm)(B:Bv)(x:Cq)(cd nu:Int)(c:Cp)(d:Sl)(bs:List Nat)(gs:List Int)(N:Nat)(w:World)(ha:DZ P w m B x c d nu bs gs N)(hcd:cd=0)(hop:x.op=9) :
  Calls Tryz.prog 38 #[aq m.g,x.v,bR cd c d nu] w λe w'=>e=.returned (.tuple #[])/\Nx P w w' m (fv { B with n:=B.n+1 } x.b nu gs) (N+3+x.gs.n+d.n):=by
 obtain⟨h,hx,hc,jn,hsz,hN,ri,kj,uG,iL,fa⟩:=ha
 obtain⟨o,ch,cl⟩:=c
 obtain⟨W,hW⟩:∃W,W=(w.alloc (Obj.cells x.L.toArray 44)).alloc (Obj.cells #[ab cd,ab o,ai (ch:Int),ai (cl:Int),.slice d.a d.n d.c,ab nu] 40):=⟨_,rfl⟩
 have hB:Below w.heap.size w W:=by rw [hW];exact aB _ _ _
 have OK:Hid (Bx W w.heap.size x.L):=by rw [hW];exact (Bx.new w x.L _).later (ag _ _)
 have OL:Hid (Bx W (w.heap.size+1) (aZ cd ⟨o,ch,cl⟩ d nu)):=by rw [hW];have:=Bx.new (w.alloc (Obj.cells x.L.toArray 44)) (aZ cd ⟨o,ch,cl⟩ d nu) 40;simp at this;exact this
 have hBW:=h.later hB
 have q0:=hBW.bw.bx.cell 0 rfl
 have q0f:W.frozen? ⟨m.g,0,none⟩=false:=by have:=(hBW.bw.bx.there 0 (by simp)).2;rwa [Nat.zero_add] at this
 have hn0:0<=m.n/\m.n<=50000000:=by rw [h.n];have:=hsz.n0;have:=hsz.n1;omega
 have ew:IntKind.i64.wrap (m.n+1)=m.n+1:=by rw [IntKind.wrap_i64];omega
 obtain⟨hs1,hs2⟩:=hBW.step
 have hBe:Hid (B.n=m.n):=h.n.symm
 obtain⟨U,hU⟩:∃U,U=W.setCell ⟨m.g,0,none⟩ (ab (m.n+1)):=⟨_,rfl⟩
 rw [<-hU] at hs1 hs2;have hOw:∀j,cA m j->j<w.heap.size:=h.bw.cK
 have HX:=ae (OK.out.but hs2.bt (λhj=>by have:=hOw _ hj;omega))
 have HY:=ae (OL.out.but hs2.bt (λhj=>by have:=hOw _ hj;omega))
 have hszU:=hsz.step
 have PS:Hid (∀w' m' B',Bk P w' m' B'->Tr U w' { m with n:=m.n+1 } m'->Sz B' (N+3+x.gs.n+d.n)->Nx P w w' m B' (N+3+x.gs.n+d.n)):=λw' m' B' k1 k2 k3=>⟨m',k1,Tr.fh hB (hs2.trans k2),k3⟩
 have Px:Hid ((Instr.loadAt 44 (aq w.heap.size)).run Tryz.prog U=.ok x.v U):=run_loadAt_mid U w.heap.size 0 44 x.L _ HX.out.range Tryz.underlying44 rfl (by kernel_rfl)
 have PX:Hid ((Instr.loadAt 40 (.pointer (some ⟨w.heap.size+1,0,none⟩))).run Tryz.prog U=.ok (bR cd ⟨o,ch,cl⟩ d nu) U):=run_loadAt_mid U (w.heap.size+1) 0 40 (aZ cd ⟨o,ch,cl⟩ d nu) _ HY.out.range Tryz.underlying40 rfl (by kernel_rfl)
 have Pz:Hid (Calls Tryz.prog 103 #[aq m.g,x.v,bR cd ⟨o,ch,cl⟩ d nu] U λe w'=>e=.returned (.tuple #[])/\Nx P w w' m (fv { B with n:=B.n+1 } x.b nu gs) (N+3+x.gs.n+d.n)):=(se _ _ x cd nu ⟨o,ch,cl⟩ d gs U hs1 hx jn (by show bQ (B.n+1);rw [hBe.out];constructor<;>omega) ((iL.later hB).but hs2.bt (λj hj=>(fa j hj).2)) (λj hj=>⟨Nat.lt_of_lt_of_le (fa j hj).1 (Nat.le_trans hB.size hs2.bt.size),(fa j hj).2⟩) (by have:=iL.len;omega) (by have:=hsz.lists x.b;show (B.lists x.b).length<=_;omega) (by have:=hsz.known nu;have:=iL.len;show (B.known nu).length+_<=_;omega)).mono (λe w' h1=>by obtain⟨h2,m',h3,h4⟩:=h1;exact⟨h2,PS.out _ _ _ h3 h4 ((hsz.step.JT _ _ _).mono (by have:=iL.len;omega))⟩)
 have HW:=ae hW
 have PT:=ae hU
 clear hBW hB hW h hx hc jn hsz hN ri kj uG iL fa hs1 hs2 hU hOw hszU;obtain⟨xop,xb,xsz,⟨xo,xh,xl⟩,xgv,xrt,xoff,xnn,⟨xda,xdn,xdc⟩,xix,⟨xga,xgn,xgc⟩⟩:=x
 simp only at OK HX HW Px PS Pz hop ⊢
 subst hcd;subst hop;go_enter Tryz.func38,Tryz.ntmps38
 go_upto_region 1 with fail
 rw [<-HW.out];go_upto_region 2 with fail
 rw [<-PT.out];clear q0 q0f PT;have y0:=HY.out.cell 0 rfl
 have x0:=HX.out.cell 0 rfl
 go_wp2_with (first|((with_reducible refine aJ Px.out ?_ ?_);(· rfl))|((with_reducible refine aJ PX.out ?_ ?_);(· rfl))|(go_at_call 103;refine Pz.out.mono ?_;rintro e w2 ⟨rfl,hq⟩;have HQ:=ae hq;clear hq))
 exact bodyPost_end (v:=.tuple #[]) (by simp [results,Tryz.results38,go_sem]) rfl ⟨rfl,HQ.out⟩
theorem iw (m:Bm)(B:Bv)(x:Cq)(cd nu:Int)(c:Cp)(d:Sl)(bs:List Nat)(gs:List Int)(N:Nat)(w:World)(ha:DZ P w m B x c d nu bs gs N)(hcd:cd≠0) :
  Calls Tryz.prog 38 #[aq m.g,x.v,bR cd c d nu] w λe w'=>e=.returned (.tuple #[])/\Nx P w w' m ({ B with n:=B.n+1 }) (N+3+x.gs.n+d.n):=by
 obtain⟨h,hx,hc,jn,hsz,hN,ri,kj,uG,iL,fa⟩:=ha
 obtain⟨o,ch,cl⟩:=c
 obtain⟨W,hW⟩:∃W,W=(w.alloc (Obj.cells x.L.toArray 44)).alloc (Obj.cells #[ab cd,ab o,ai (ch:Int),ai (cl:Int),.slice d.a d.n d.c,ab nu] 40):=⟨_,rfl⟩
 have hB:Below w.heap.size w W:=by rw [hW];exact aB _ _ _
 have OK:Hid (Bx W w.heap.size x.L):=by rw [hW];exact (Bx.new w x.L _).later (ag _ _)
 have OL:Hid (Bx W (w.heap.size+1) (aZ cd ⟨o,ch,cl⟩ d nu)):=by rw [hW];have:=Bx.new (w.alloc (Obj.cells x.L.toArray 44)) (aZ cd ⟨o,ch,cl⟩ d nu) 40;simp at this;exact this
 have hBW:=h.later hB
 have q0:=hBW.bw.bx.cell 0 rfl
 have q0f:W.frozen? ⟨m.g,0,none⟩=false:=by have:=(hBW.bw.bx.there 0 (by simp)).2;rwa [Nat.zero_add] at this
 have hn0:0<=m.n/\m.n<=50000000:=by rw [h.n];have:=hsz.n0;have:=hsz.n1;omega
 have ew:IntKind.i64.wrap (m.n+1)=m.n+1:=by rw [IntKind.wrap_i64];omega
 obtain⟨hs1,hs2⟩:=hBW.step
 have hBe:Hid (B.n=m.n):=h.n.symm
 obtain⟨U,hU⟩:∃U,U=W.setCell ⟨m.g,0,none⟩ (ab (m.n+1)):=⟨_,rfl⟩
 rw [<-hU] at hs1 hs2;have hOw:∀j,cA m j->j<w.heap.size:=h.bw.cK
 have HX:=ae (OK.out.but hs2.bt (λhj=>by have:=hOw _ hj;omega))
 have HY:=ae (OL.out.but hs2.bt (λhj=>by have:=hOw _ hj;omega))
 have hszU:=hsz.step
 have PS:Hid (∀w' m' B',Bk P w' m' B'->Tr U w' { m with n:=m.n+1 } m'->Sz B' (N+3+x.gs.n+d.n)->Nx P w w' m B' (N+3+x.gs.n+d.n)):=λw' m' B' k1 k2 k3=>⟨m',k1,Tr.fh hB (hs2.trans k2),k3⟩
 have Px:Hid ((Instr.loadAt 44 (aq w.heap.size)).run Tryz.prog U=.ok x.v U):=run_loadAt_mid U w.heap.size 0 44 x.L _ HX.out.range Tryz.underlying44 rfl (by kernel_rfl)
 have PX:Hid ((Instr.loadAt 40 (.pointer (some ⟨w.heap.size+1,0,none⟩))).run Tryz.prog U=.ok (bR cd ⟨o,ch,cl⟩ d nu) U):=run_loadAt_mid U (w.heap.size+1) 0 40 (aZ cd ⟨o,ch,cl⟩ d nu) _ HY.out.range Tryz.underlying40 rfl (by kernel_rfl)
 have Pz:Hid (Nx P w U m { B with n:=B.n+1 } (N+3+x.gs.n+d.n)):=PS.out _ _ _ hs1 (Tr.refl _ _) (hsz.step.mono (by omega))
 have HW:=ae hW
 have PT:=ae hU
 clear hBW hB hW h hx hc jn hsz hN ri kj uG iL fa hs1 hs2 hU hOw hszU;obtain⟨xop,xb,xsz,⟨xo,xh,xl⟩,xgv,xrt,xoff,xnn,⟨xda,xdn,xdc⟩,xix,⟨xga,xgn,xgc⟩⟩:=x
 simp only at OK HX HW Px PS Pz ⊢
 have hq:(cd==0)=false:=by simp [hcd]
 have hq2:(cd != 0)=true:=by simp [hcd]
 go_enter Tryz.func38,Tryz.ntmps38
 go_upto_region 1 with fail
 rw [<-HW.out];go_upto_region 2 with fail
 rw [<-PT.out];clear q0 q0f PT;have y0:=HY.out.cell 0 rfl
 have x0:=HX.out.cell 0 rfl
 go_wp2;exact bodyPost_ret (v:=.tuple #[]) (by simp [results,Tryz.results38,go_sem]) rfl ⟨rfl,Pz.out⟩
theorem Fk (m:Bm)(B:Bv)(x:Cq)(nu:Int)(c:Cp)(d:Sl)(bs:List Nat)(gs:List Int)(N:Nat)(w:World)(ha:DZ P w m B x c d nu bs gs N)(hop:x.op=7) :
  Calls Tryz.prog 38 #[aq m.g,x.v,bR 0 c d nu] w λe w'=>e=.returned (.tuple #[])/\Nx P w w' m { B with n:=B.n+1,lists:=ke B.lists x.b (B.lists x.b++[x.c]) } (N+3+x.gs.n+d.n):=by
 obtain⟨h,hx,hc,jn,hsz,hN,ri,kj,uG,iL,fa⟩:=ha
 have hn0:0<=m.n/\m.n<=50000000:=by rw [h.n];have:=hsz.n0;have:=hsz.n1;omega
 refine qi m x.L x.b nu x.c c d w h.bw rfl (by rw [<-hop];rfl) rfl rfl rfl rfl ⟨hn0.1,by omega⟩ (λj=>j=m.bi\/∃k∈m.I,aI k.s.a j) (λw8=>Nx P w w8 m { B with n:=B.n+1,lists:=ke B.lists x.b (B.lists x.b++[x.c]) } (N+3+x.gs.n+d.n)) (λj hj=>?_) (λU hUs hbU hbw=>?_)
 ·rcases hj with rfl|⟨k,hk,hj⟩
  ·exact⟨h.bw.lo _ (by simp [Bm.aR]),λe=>(nD h.bw.cr).2.2.1 e.symm⟩
  ·have:=(h.bw.lists.each k hk).1.dB j hj
   exact⟨this.2,by omega⟩
 ·obtain⟨v0,v7,w7,w8,l0,r7,r8,⟨I',q1,q2,q3,q4⟩,b8,b7⟩:=hbw.sC (f:=B.lists) h.lists hx.b x.c hx.c (by have:=hsz.lists x.b;omega)
  have hbo:aj (cA m) w w8:=(hbU.mono (λj e=>by subst e;exact .inl (by simp [Bm.aR]))).trans (b8.mono (λj hj=>by
   rcases hj with rfl|hj
   ·exact .inl (by simp [Bm.aR])
   ·exact .inr (.inl hj)))
  refine⟨v0,v7,w7,w8,l0,r7,r8,⟨{ m with n:=m.n+1,I:=I' },⟨q1,by show m.n+1=B.n+1;rw [h.n],h.live,h.laid.mono (λv a hr=>hr.but h.bw hbo (λ_ h=>h)),h.told.mono (λv a hr=>hr.but h.bw hbo (λ_ h=>h)),q2,h.known,h.Df,h.jU,λk hk=>h.pn k (Nat.le_trans hbo.size hk)⟩,⟨rfl,hbo,λj hj=>?_⟩,?_⟩,b8,b7⟩
  ·rcases q3 j hj with h1|h1
   ·exact .inl h1
   ·exact .inr (Nat.le_trans hUs h1)
  ·exact ((hsz.step).list x.b (B.lists x.b++[x.c]) (by have:=hsz.lists x.b;simp;omega)).mono (by omega)
end Go.Proofs.YtmhinfbkmjdgfaaGreatDoor.B
namespace Go.Proofs.YtmhinfbkmjdgfaaGreatDoor.B
open Go.RowKit
def B0:Bv:=⟨0,λ_ _=>none,λ_ _=>none,λ_ _=>none,λ_=>[],λ_=>[],0⟩
theorem Bk.zero {P:Nat->Prop}{w:World}{b:Nat}(h:Bw w (m0 b))(hP:∀k,w.heap.size<=k->P k):Bk P w (m0 b) B0 :=
 ⟨h,rfl,Vw.nil,Vw.nil,Vw.nil,Vl.nil,Vl.nil,λk hk=>(by cases hk),λg hg=>(by cases hg),hP⟩
theorem Sz.zero:Sz B0 0:=⟨λ_=>Nat.le_refl _,λ_=>Nat.le_refl _,λ_ _ _ h=>(by cases h),λ_ _ _ h=>(by cases h),Nat.le_refl _,Int.le_refl _,Int.le_refl _⟩
theorem eK (x:Int)(w:World):Calls Tryz.prog 27 #[ab x] w λe w'=>e=.returned (ab x)/\w'=w:=by
 go_enter Tryz.func27,Tryz.ntmps27
 go_wp2;go_ret;exact⟨rfl,rfl⟩
abbrev iz (B:Bv):Bv:={ B with n:=B.n+1 }
def mJ (a:Cp):Bv:=bo (ig (iz B0) a a.h a.l 31) 1 0 0 a []
def qz (a d:Cp):Bv:=bo (ig (iz (mJ a)) d a.h a.l 1) 2 0 0 d ((dR (iz (mJ a)) 0 a).getD [])
def qV (a d:Cp):Bv:={ qz a d with n:=(qz a d).n+1,lists:=ke (qz a d).lists 0 ((qz a d).lists 0++[d]) }
def pI (a d:Cp):Bv:=fv (iz (qV a d)) 0 1 [0]
def po (a d:Cp):Bv:=fv (iz (pI a d)) 0 2 [0]
abbrev kI (a:Cp):Lk:=⟨1,1,0,0,a⟩
abbrev Fy (d:Cp):Lk:=⟨2,2,0,0,d⟩
section
variable {a d:Cp}(ha:dm a=true)(hd:dm d=true)(hne:bP a≠bP d)
include ha
theorem i_:(mJ a).told=dN (λ_ _=>none) 0 (bP a) (some [kI a]):=by
 unfold mJ bo;rw [if_pos ⟨ha,rfl⟩];rfl
theorem q_:(mJ a).n=1/\(mJ a).laid=(λ_ _=>none)/\(mJ a).lists=λ_=>[]:=by
 unfold mJ bo;rw [if_pos ⟨ha,rfl⟩];exact⟨rfl,rfl,rfl⟩
theorem Ed:dR (iz (mJ a)) 0 a=some [kI a]:=by
 unfold dR;rw [if_pos ha];show (mJ a).told 0 (bP a)=_
 rw [i_ ha];simp [dN]
include hd hne
theorem yf:(qz a d).told=dN (dN (λ_ _=>none) 0 (bP a) (some [kI a])) 0 (bP d) (some [Fy d,kI a]):=by
 have h:(mJ a).told 0 (bP d)=none:=by rw [i_ ha];simp [dN,Ne.symm hne]
 unfold qz;rw [Ed ha];unfold bo;rw [if_pos ⟨hd,h⟩];show dN (mJ a).told 0 (bP d) (some (⟨(mJ a).n+1,2,0,0,d⟩::[kI a]))=_
 rw [i_ ha,(q_ ha).1];rfl
theorem yg:(qz a d).n=2/\(qz a d).laid=(λ_ _=>none)/\(qz a d).lists=λ_=>[]:=by
 have h:(mJ a).told 0 (bP d)=none:=by rw [i_ ha];simp [dN,Ne.symm hne]
 obtain⟨h1,h2,h3⟩:=q_ ha
 unfold qz bo;rw [if_pos ⟨hd,h⟩];exact⟨by show (mJ a).n+1=2;rw [h1];rfl,h2,h3⟩
def zu (a d:Cp):Int->List Nat->Option (List Lk):=dN (dN (λ_ _=>none) 0 (bP a) (some [kI a])) 0 (bP d) (some [Fy d,kI a])
omit ha hd hne in
theorem uk {B:Bv}{nu:Int}{ls:List Lk}(hd:dm d=true)(hl:B.lists 0=[d])(ht:B.told 0 (bP d)=some ls)(hn:B.told nu (bP d)=none) :
  (fv B 0 nu [0]).told=dN B.told nu (bP d) (some (⟨B.n,4,0,nu,d⟩::ls))/\(fv B 0 nu [0]).lists=ke B.lists nu [d]/\(fv B 0 nu [0]).n=B.n/\(fv B 0 nu [0]).laid=B.laid:=by
 have hg:dR B 0 d=some ls:=by unfold dR;rw [if_pos hd,ht]
 have hs:fI [d] 0 nu B [0]=([d],bo B 4 0 nu d ls):=by
  unfold fI;simp only [List.foldl_cons,List.foldl_nil];unfold j_;rw [if_pos (by simp)];simp [hg]
 unfold fv;rw [hl,hs];have he:bo B 4 0 nu d ls={ B with told:=dN B.told nu (bP d) (some (⟨B.n,4,0,nu,d⟩::ls)),known:=ke B.known nu (B.known nu++[d]) }:=by unfold bo;rw [if_pos ⟨hd,hn⟩]
 rw [he];exact⟨rfl,rfl,rfl,rfl⟩
theorem yr:(qV a d).told=zu a d/\(qV a d).n=3/\(qV a d).laid=(λ_ _=>none)/\(qV a d).lists=ke (λ_=>[]) 0 [d]:=by
 obtain⟨h1,h2,h3⟩:=yg ha hd hne
 refine⟨yf ha hd hne,?_,h2,?_⟩
 ·show (qz a d).n+1=3;rw [h1];rfl
 ·show ke (qz a d).lists 0 ((qz a d).lists 0++[d])=_
  rw [h3];rfl
theorem Au:(pI a d).told=dN (zu a d) 1 (bP d) (some [⟨4,4,0,1,d⟩,Fy d,kI a])/\(pI a d).n=4/\(pI a d).laid=(λ_ _=>none)/\(pI a d).lists=ke (ke (λ_=>[]) 0 [d]) 1 [d]:=by
 obtain⟨h0,h1,h2,h3⟩:=yr ha hd hne
 obtain⟨e1,e2,e3,e4⟩:=uk (B:=iz (qV a d)) (nu:=1) (ls:=[Fy d,kI a]) hd (by show (qV a d).lists 0=_;rw [h3];rfl) (by show (qV a d).told 0 _=_;rw [h0];simp [zu,dN]) (by show (qV a d).told 1 _=_;rw [h0];simp [zu,dN])
 refine⟨?_,?_,?_,?_⟩
 ·show (fv _ _ _ _).told=_
  rw [e1];show dN (qV a d).told 1 _ (some (⟨(qV a d).n+1,_,_,_,_⟩::_))=_;rw [h0,h1];rfl
 ·show (fv _ _ _ _).n=_
  rw [e3];show (qV a d).n+1=4;rw [h1];rfl
 ·show (fv _ _ _ _).laid=_
  rw [e4];exact h2
 ·show (fv _ _ _ _).lists=_
  rw [e2];show ke (qV a d).lists 1 _=_;rw [h3]
def DP (a d:Cp):Int->List Nat->Option (List Lk):=dN (dN (zu a d) 1 (bP d) (some [⟨4,4,0,1,d⟩,Fy d,kI a])) 2 (bP d) (some [⟨5,4,0,2,d⟩,Fy d,kI a])
theorem lU:(po a d).told=DP a d/\(po a d).n=5/\(po a d).laid=(λ_ _=>none):=by
 obtain⟨h0,h1,h2,h3⟩:=Au ha hd hne
 obtain⟨e1,e2,e3,e4⟩:=uk (B:=iz (pI a d)) (nu:=2) (ls:=[Fy d,kI a]) hd (by show (pI a d).lists 0=_;rw [h3];rfl) (by show (pI a d).told 0 _=_;rw [h0];simp [zu,dN]) (by show (pI a d).told 2 _=_;rw [h0];simp [zu,dN])
 refine⟨?_,?_,?_⟩
 ·show (fv _ _ _ _).told=_
  rw [e1];show dN (pI a d).told 2 _ (some (⟨(pI a d).n+1,_,_,_,_⟩::_))=_;rw [h0,h1];rfl
 ·show (fv _ _ _ _).n=_
  rw [e3];show (pI a d).n+1=5;rw [h1];rfl
 ·show (fv _ _ _ _).laid=_
  rw [e4];exact h2
theorem EB:dR (po a d) 1 a=none:=by
 unfold dR;rw [if_pos ha,(lU ha hd hne).1];simp [DP,zu,dN,hne]
theorem BH:(dR (po a d) 2 d).isSome=true:=by
 unfold dR;rw [if_pos hd,(lU ha hd hne).1];simp [DP,dN]
end
def ui (a d:Cp)(off:Int):Bv:=if (bP a).length=0 then iz (po a d) else fT 0 1 off (bP a) (kh 1 off (iz (po a d)) (23+(bP a).length)) ((bP a).length - 23)
def Ep (a d:Cp)(off:Int):Bv:=j7 2 1 0 (iz (ui a d off)) 217
theorem BK {B:Bv}(h:B.laid=λ_ _=>none)(o off:Int)(k:Nat):kh o off B k=B:=by
 induction k with
 | zero=>rfl
 | succ k ih =>
  show E3 o _ (kh o off B k)=B
  rw [ih];unfold E3;have:dN B.laid o (wrap64 (wrap64 (off - 23)+(k:Int))) none=B.laid:=by
   rw [h];funext q j
   simp [dN]
  rw [this]
theorem FM {B:Bv}{o i b:Int}{x:Lk}{ls:List Lk}(h:B.laid o=λj=>if j=i then some (x::ls) else none)(k:Nat)(hk:k<=100000)(hi:0<=i):j7 b o 0 B k=if i<(k:Int) then bo B 3 x.t b x.c (x::ls) else B:=by
 induction k with
 | zero=>rw [if_neg (by omega)];rfl
 | succ k ih =>
  show FZ b o 0 (j7 b o 0 B k) k=_
  have hw:wrap64 (0+(k:Int))=(k:Int):=by rw [Int.zero_add];unfold wrap64;omega
  unfold FZ;rw [(zK b o 0 B k).2.1,hw,h];by_cases e:(k:Int)=i
  ·simp only [e,if_true]
   rw [ih (by omega),if_neg (by omega),if_pos (by omega)]
  ·simp only [e,if_false]
   rw [ih (by omega)];by_cases h2:i<(k:Int)
   ·rw [if_pos h2,if_pos (by omega)]
   ·rw [if_neg h2,if_neg (by omega)]
section
variable {a d:Cp}{off:Int}(ha:dm a=true)(hd:dm d=true)(hne:bP a≠bP d)(h0:0<=off)(h1:off<200)
include ha hd hne h0 h1
theorem p6:(ui a d off).told=DP a d/\(ui a d off).n=6/\(ui a d off).laid 1=λj=>if j=off then some [kI a] else none:=by
 obtain⟨e1,e2,e3⟩:=lU ha hd hne
 have hl:(bP a).length=24:=cG a
 unfold ui;rw [if_neg (by omega),BK (B:=iz (po a d)) e3,hl];show (Bj 0 1 off (bP a) (iz (po a d)) 0).told=_/\(Bj 0 1 off (bP a) (iz (po a d)) 0).n=_/\(Bj 0 1 off (bP a) (iz (po a d)) 0).laid 1=_
 have ht:(iz (po a d)).told 0 (((bP a).drop 0).take 24)=some [kI a]:=by
  rw [List.drop_zero,List.take_of_length_le (by omega)];show (po a d).told 0 (bP a)=_
  rw [e1];simp [DP,zu,dN,hne]
 have hw:wrap64 (off+((0:Nat):Int))=off:=by unfold wrap64;omega
 unfold Bj;rw [ht,hw];refine⟨e1,by show (po a d).n+1=6;rw [e2];rfl,?_⟩
 show dN (po a d).laid 1 off (some [kI a]) 1=_
 rw [e3];funext j
 simp [dN]
theorem Fx:Ep a d off=bo (iz (ui a d off)) 3 0 2 a [kI a]:=by
 obtain⟨e1,e2,e3⟩:=p6 ha hd hne h0 h1
 unfold Ep;rw [FM (B:=iz (ui a d off)) (o:=1) (i:=off) (x:=kI a) (ls:=[]) e3 217 (by omega) h0,if_pos (by omega)]
theorem qO:(Ep a d off).told=dN (DP a d) 2 (bP a) (some [⟨7,3,0,2,a⟩,kI a]):=by
 obtain⟨e1,e2,e3⟩:=p6 ha hd hne h0 h1
 rw [Fx ha hd hne h0 h1];unfold bo;rw [if_pos ⟨ha,by show (ui a d off).told 2 (bP a)=none;rw [e1];simp [DP,zu,dN,hne]⟩]
 show dN (ui a d off).told 2 (bP a) (some (⟨(ui a d off).n+1,3,0,2,a⟩::[kI a]))=_
 rw [e1,e2];rfl
theorem Ex:dR (Ep a d off) 1 a=none:=by
 unfold dR;rw [if_pos ha,qO ha hd hne h0 h1];simp [DP,zu,dN,hne]
theorem AZ:dR (Ep a d off) 2 a=some [⟨7,3,0,2,a⟩,kI a]:=by
 unfold dR;rw [if_pos ha,qO ha hd hne h0 h1];simp [dN]
end
variable {L:List Value}{b c m o:Nat}{w:World}
def Ik:List Value:=[ab 0,ab 0,ab 0,ab 0,ai 0,ai 0,.bool false,ab 0,ab 0,ab 0,.slice none 0 0,ab 0,.slice none 0 0]
abbrev Jb:Obj:=Obj.cells #[ab 0,ab 0,ab 0,ab 0,ai 0,ai 0,.bool false,ab 0,ab 0,ab 0,.slice none 0 0,ab 0,.slice none 0 0] 44
theorem tT:(Tryz.prog.info? 44).map (·.size)=some 13:=by kernel_rfl
theorem Hj (h:w.there b o 13)(hl:L.length=13)(h1:∀v∈L,v.oneCell'=true):(Instr.storeAt 44 (.pointer (some ⟨b,o,none⟩)) (.agg L.toArray)).run Tryz.prog w=.ok () (w.setCells b o L) :=
 run_storeAt_mid w b o 44 L.toArray (by simpa [hl] using h) (by rw [tT];simp [hl]) (all_oneCell_toArray h1)
theorem IC (h:w.rangeAt b o L)(hl:L.length=13):(loadVar 44 ⟨b,o,none⟩).run Tryz.prog w=.ok (.agg L.toArray) w :=
 run_loadVar_mid w b o 44 L _ h Tryz.underlying44 rfl (by rw [tT,hl])
theorem GM (h:w.rangeAt b o L)(hl:L.length=13):(Instr.loadAt 44 (.pointer (some ⟨b,o,none⟩))).run Tryz.prog w=.ok (.agg L.toArray) w :=
 run_loadAt_mid w b o 44 L _ h Tryz.underlying44 rfl (by rw [tT,hl])
theorem Cq.one (x:Cq):∀v∈x.L,v.oneCell'=true:=by
 intro u hu;simp only [List.mem_cons,List.not_mem_nil,or_false] at hu;rcases hu with rfl|rfl|rfl|rfl|rfl|rfl|rfl|rfl|rfl|rfl|rfl|rfl|rfl<;>rfl
theorem Ek:(Tryz.prog.info? 3).map (λi=>(i.zero,i.size,i.bytes))=some (some (ab 0),1,8):=by kernel_rfl
theorem yq (l:List Int):∀u∈iW l,u.oneCell'=true:=by
 intro u hu;obtain⟨n,_,rfl⟩:=List.mem_map.1 hu
 rfl
theorem wE {b:Option Addr}{M:List Int}(k:RI w b m c M)(hm:m<=100000000) :
  ∃a' c' w',(Builtin.append_ #[42,42] 42 #[.slice none 0 0,.slice b m c]).run Tryz.prog w=.ok (.slice a' m c') w'/\RI w' a' m c' M/\Below w.heap.size w w'/\∀j,aI a' j->w.heap.size<=j/\j<w'.heap.size:=by
 obtain⟨i,hi,hz0,hz1,hz2⟩:=info_parts Ek
 have hown:w.ownsRow w.heap.size 3 1 (.slice none 0 0) 0 []:=⟨by simp,.inl ⟨rfl,rfl⟩⟩
 cases b with
 | none =>
  obtain⟨rfl,rfl⟩:=k.none_ rfl
  have hM:M=[]:=List.eq_nil_of_length_eq_zero k.len
  subst hM;exact⟨none,0,w,run_append_owned_none (P:=Tryz.prog) (w:=w) w.heap.size 42 42 3 i 1 Tryz.underlying42 hi _ 0 _ hown,RI.nil w,Below.refl _ _,λj hj=>by obtain⟨x,hx,_⟩:=hj;cases hx⟩
 | some x =>
  obtain⟨v',w',hr,h2,h3,_,h5⟩:=run_append_own_at (P:=Tryz.prog) w w.heap.size 42 42 3 i _ 1 8 Tryz.underlying42 hi hz0 hz1 hz2 rfl (by decide) _ 0 _ hown x m c (iW M) (by rw [eQ,k.len,Nat.mul_one]) (k.cells x rfl) (yq M) (by unfold maxLen;omega) (by omega) (Nat.le_refl _)
  rw [Nat.zero_add] at h2;obtain⟨a',cap',rfl⟩:∃a' cap',v'=.slice a' m cap':=by
   rcases h2.2 with ⟨h,h'⟩|⟨g',cap',_,h,_⟩
   ·exact⟨.none,0,by rw [h,h']⟩
   ·exact⟨_,cap',h⟩
  have ho:Ow w' w.heap.size 3 1 a' m cap' (iW M):=by rw [List.nil_append] at h2;exact h2
  have hb:Below w.heap.size w w':=⟨h3.os,h3.tape,h3.output,h3.size,λj hj=>h3.block j hj (λe=>by cases e)⟩
  refine⟨a',cap',w',hr,?_,hb,ho.dB⟩
  rcases ho.2 with ⟨e1,e2⟩|⟨g',cp,cur,hv,hg,hh,e3,e4,e5,e6⟩
  ·simp only [Value.slice.injEq] at e1
   obtain⟨rfl,rfl,rfl⟩:=e1
   have hM:M=[]:=List.eq_nil_of_length_eq_zero k.len
   subst hM;exact RI.nil _
  ·simp only [Value.slice.injEq] at hv
   obtain⟨rfl,_,rfl⟩:=hv
   refine RI.at k.len e3 (λi hi=>?_)
   have:=aG (ho.cells rfl) (j:=i) (dH M i hi)
   rw [Nat.zero_add];exact this
theorem lF {b:Option Addr}{M:List Nat}(k:Row w b m c M)(hm:m<=100000000) :
  ∃a' c' w',(Builtin.append_ #[38,38] 38 #[.slice none 0 0,.slice b m c]).run Tryz.prog w=.ok (.slice a' m c') w'/\Row w' a' m c' M/\Below w.heap.size w w'/\(∀j,aI a' j->w.heap.size<=j/\j<w'.heap.size)/\c'<=9223372036854775807:=by
 obtain⟨a',c',w',hr,ho,hg⟩:=dv (Own.nil w w.heap.size) k (Nat.le_refl _) (by omega)
 rw [Nat.zero_add] at hr ho;rw [List.nil_append] at ho;refine⟨a',c',w',hr,ho.read,hg.below (Own.nil w w.heap.size) (Nat.le_refl _),λj hj=>⟨ho.dB j hj,ho.lt j hj⟩,?_⟩
 rcases ho.row.2 with ⟨e1,e2⟩|⟨g',cp,cur,hv,_,hh,e3,e4,_⟩
 ·simp only [Value.slice.injEq] at e1
  omega
 ·simp only [Value.slice.injEq] at hv
  obtain⟨_,_,rfl⟩:=hv
  unfold maxLen at e4;omega
abbrev Cq.with (x:Cq)(d g:Sl):Cq:=⟨x.op,x.b,x.sz,x.c,x.gv,x.rt,x.off,x.nn,d,x.ix,g⟩
structure Cn (w0 w:World)(x:Cq)(bs:List Nat)(gs:List Int):Prop where
 d:Row w x.d.a x.d.n x.d.c bs
 g:RI w x.gs.a x.gs.n x.gs.c gs
 db:∀j,aI x.d.a j->w0.heap.size<=j/\j<w.heap.size
 gb:∀j,aI x.gs.a j->w0.heap.size<=j/\j<w.heap.size
 dc:x.d.c<=9223372036854775807
theorem lY (x:Cq)(bs:List Nat)(gs:List Int)(w:World)(hr:Row w x.d.a x.d.n x.d.c bs)(hg:RI w x.gs.a x.gs.n x.gs.c gs)(hd1:x.d.n<=100000000)(hg1:x.gs.n<=100000000) :
  Calls Tryz.prog 35 #[x.v] w λe w'=>∃d' g':Sl,e=.returned (x.with d' g').v/\d'.n=x.d.n/\g'.n=x.gs.n/\Cn w w' (x.with d' g') bs gs/\Below w.heap.size w w':=by
 obtain⟨W,hW⟩:∃W,W=(w.alloc (Obj.cells x.L.toArray 44)).alloc Jb:=⟨_,rfl⟩
 have HB:Hid (Below w.heap.size w W):=by unfold Hid;rw [hW];exact aB _ _ _
 have QT:Hid (W.heap.size=w.heap.size+2):=by unfold Hid;rw [hW];simp
 have OK:Hid (Bx W w.heap.size x.L):=by rw [hW];exact (Bx.new w x.L _).later (ag _ _)
 have OL:Hid (Bx W (w.heap.size+1) Ik):=by rw [hW];have:=Bx.new (w.alloc (Obj.cells x.L.toArray 44)) Ik 44;rw [World.size_alloc] at this;exact this
 obtain⟨A,hA⟩:∃A,A=(W.alloc Jb).setCells W.heap.size 0 x.L:=⟨_,rfl⟩
 have hZ:Bx (W.alloc Jb) W.heap.size Ik:=Bx.new W Ik _
 have Pf:=ae (Hj (L:=x.L) hZ.there rfl x.one)
 have hbA:Below W.heap.size W A:=by rw [hA];exact aj.below (ag _ _) (au (S:=(·=W.heap.size)) rfl x.L 0 (aj.refl _ _)) (λk hk=>by omega)
 have hXA:Bx A W.heap.size x.L:=by rw [hA];exact hZ.set rfl
 have QB:=ae (GM OK.out.range rfl)
 rw [<-hA] at Pf;have Vs:=ae (And.intro (hXA.cell 10 rfl) (hXA.there 10 (by simp)).2)
 obtain⟨A2,hA2⟩:∃A2,A2=A.setCell ⟨W.heap.size,10,none⟩ (.slice none 0 0):=⟨_,rfl⟩
 have hXA2:Bx A2 W.heap.size (x.with ⟨none,0,0⟩ x.gs).L:=by rw [hA2];exact hXA.jO 10 _ (by simp)
 have hbA2:Below W.heap.size W A2:=by rw [hA2];exact aj.below hbA ((aj.refl (·=W.heap.size) A).setCell (p:=⟨W.heap.size,10,none⟩) rfl _) (λk hk=>by omega)
 obtain⟨a1,c1,w3,r3,row3,b3,n3,cc3⟩:=lF ((hr.later HB.out).later hbA2) hd1
 have hX3:=hXA2.later b3
 have hX03:=(OK.out.later hbA2).later b3
 obtain⟨A4,hA4⟩:∃A4,A4=w3.setCell ⟨W.heap.size,10,none⟩ (.slice a1 x.d.n c1):=⟨_,rfl⟩
 have hXA4:Bx A4 W.heap.size (x.with ⟨a1,x.d.n,c1⟩ x.gs).L:=by rw [hA4];exact hX3.jO 10 _ (by simp)
 have hl3:=hXA2.lt (by simp)
 have hb4:aj (·=W.heap.size) w3 A4:=by rw [hA4];exact (aj.refl (·=W.heap.size) w3).setCell (p:=⟨W.heap.size,10,none⟩) rfl _
 obtain⟨A5,hA5⟩:∃A5,A5=A4.setCell ⟨W.heap.size,12,none⟩ (.slice none 0 0):=⟨_,rfl⟩
 have hXA5:Bx A5 W.heap.size (x.with ⟨a1,x.d.n,c1⟩ ⟨none,0,0⟩).L:=by rw [hA5];exact hXA4.jO 12 _ (by simp)
 have hb5:aj (·=W.heap.size) w3 A5:=hb4.trans (by rw [hA5];exact (aj.refl (·=W.heap.size) A4).setCell (p:=⟨W.heap.size,12,none⟩) rfl _)
 have hBe5:Below W.heap.size W A5:=aj.below (aa hbA2 b3) hb5 (λk hk=>by omega)
 obtain⟨a2,c2,w6,r6,row6,b6,n6⟩:=wE ((hg.later HB.out).later hBe5) hg1
 have hX6:=hXA5.later b6
 have hX05:=OK.out.later hBe5
 obtain⟨A7,hA7⟩:∃A7,A7=w6.setCell ⟨W.heap.size,12,none⟩ (.slice a2 x.gs.n c2):=⟨_,rfl⟩
 have hXA7:Bx A7 W.heap.size (x.with ⟨a1,x.d.n,c1⟩ ⟨a2,x.gs.n,c2⟩).L:=by rw [hA7];exact hX6.jO 12 _ (by simp)
 have hb7:aj (·=W.heap.size) w6 A7:=by rw [hA7];exact (aj.refl (·=W.heap.size) w6).setCell (p:=⟨W.heap.size,12,none⟩) rfl _
 have hBe7:Below W.heap.size W A7:=aj.below (aa hBe5 b6) hb7 (λk hk=>by omega)
 have QD:=ae (GM hXA7.range rfl)
 have hX17:=OL.out.later hBe7
 have P7:=ae (Hj (L:=(x.with ⟨a1,x.d.n,c1⟩ ⟨a2,x.gs.n,c2⟩).L) hX17.there rfl (Cq.one _))
 obtain⟨A8,hA8⟩:∃A8,A8=A7.setCells (w.heap.size+1) 0 (x.with ⟨a1,x.d.n,c1⟩ ⟨a2,x.gs.n,c2⟩).L:=⟨_,rfl⟩
 have hb8:aj (·=w.heap.size+1) A7 A8:=by rw [hA8];exact au (S:=(·=w.heap.size+1)) rfl _ 0 (aj.refl _ _)
 have hXA8:Bx A8 (w.heap.size+1) (x.with ⟨a1,x.d.n,c1⟩ ⟨a2,x.gs.n,c2⟩).L:=by rw [hA8];exact hX17.set rfl
 have Qp:=ae (IC hXA8.range rfl)
 have Sc:Hid (Below w.heap.size w A8):=aj.below (aa HB.out hBe7) hb8 (λk hk=>by omega)
 rw [<-hA8] at P7;have hWs:=QT.out
 have s3:=b3.size
 have s2:=hbA2.size
 have s5:=hb5.size
 have s6:=b6.size
 have s7:=hb7.size
 have s8:=hb8.size
 have hrow8:Row A8 a1 x.d.n c1 bs:=(((row3.but hb5 (λj hj=>by have:=n3 j hj;omega)).later b6).but hb7 (λj hj=>by have:=n3 j hj;omega)).but hb8 (λj hj=>by have:=n3 j hj;omega)
 have hri8:RI A8 a2 x.gs.n c2 gs:=(row6.but hb7 (λj hj=>by have:=n6 j hj;omega)).but hb8 (λj hj=>by have:=n6 j hj;omega)
 have PZ:Hid (Cn w A8 (x.with ⟨a1,x.d.n,c1⟩ ⟨a2,x.gs.n,c2⟩) bs gs):=⟨hrow8,hri8,λj hj=>by have:=n3 j hj;omega,λj hj=>by have:=n6 j hj;omega,cc3⟩
 have h10:=Vs.out.1
 have f10:=Vs.out.2
 rw [Nat.zero_add] at f10;have hA2c:=hXA2.cell 10 rfl
 have x010:=(OK.out.later hbA2).cell 10 rfl
 have h310:=hX3.cell 10 rfl
 have f310:=(hX3.there 10 (by simp)).2
 rw [Nat.zero_add] at f310;have h412:=hXA4.cell 12 rfl
 have f412:=(hXA4.there 12 (by simp)).2
 rw [Nat.zero_add] at f412;have h512:=hXA5.cell 12 rfl
 have x012:=hX05.cell 12 rfl
 have h612:=hX6.cell 12 rfl
 have f612:=(hX6.there 12 (by simp)).2
 rw [Nat.zero_add] at f612;have PW:=ae r3
 have Ul:=ae r6
 have HW:=ae hW
 have X8:=ae hA
 have Qa:=ae hA2
 have RU:=ae hA4
 have SI:=ae hA5
 have WD:=ae hA7
 obtain⟨xop,xb,xsz,⟨xo,xh,xl⟩,xgv,xrt,xoff,xnn,⟨xda,xdn,xdc⟩,xix,⟨xga,xgn,xgc⟩⟩:=x
 clear hr hg hd1 hg1 hZ hbA hXA hXA2 hbA2 r3 row3 b3 n3 cc3 hX3 hX03 hXA4 hl3 hb4 hXA5 hb5 hBe5 r6 row6 b6 n6 hX6 hX05 hXA7 hb7 hBe7 hX17 hb8 hXA8 hWs s3 s2 s5 s6 s7 s8 hrow8 hri8 hW hA hA2 hA4 hA5 hA7 hA8 Vs;simp only at PW Ul QB Pf QD P7 Qp PZ HW h10 hA2c x010 h310 h412 h512 x012 h612 RU WD ⊢
 go_enter Tryz.func35,Tryz.ntmps35
 go_upto_region 1 with fail
 rw [<-HW.out];go_upto_region 2 with (first|((with_reducible refine aJ QB.out ?_ ?_);(· rfl))|((with_reducible refine a_ Pf.out ?_ ?_ ?_);(· rfl);(· rfl)))
 go_upto_region 3 with fail
 rw [<-Qa.out];clear h10 f10;go_upto_region 4 with (first|(at_builtin;refine aw rfl _ _ 38 rfl _ _ rfl rfl _ w3 PW.out ?_))
 rw [<-RU.out];clear hA2c x010 h310 f310;go_upto_region 5 with fail
 rw [<-SI.out];clear h412 f412;go_upto_region 6 with (first|(at_builtin;refine aw rfl _ _ 42 rfl _ _ rfl rfl _ w6 Ul.out ?_))
 rw [<-WD.out];clear h512 x012 h612 f612;go_wp2_with (first|((with_reducible refine aJ QD.out ?_ ?_);(· rfl))|((with_reducible refine a_ P7.out ?_ ?_ ?_);(· rfl);(· rfl)))
 exact bodyPost_ret (v:=_) (by simp [results,Tryz.results35,asAddr,Act.put,Qp.out]) rfl ⟨⟨a1,xdn,c1⟩,⟨a2,xgn,c2⟩,rfl,rfl,rfl,PZ.out,Sc.out⟩
def z6:List Value:=[ab 0,ab 0,ai 0,ai 0,.slice none 0 0,ab 0]
abbrev Z6:Obj:=Obj.cells #[ab 0,ab 0,ai 0,ai 0,.slice none 0 0,ab 0] 40
theorem tH:(Tryz.prog.info? 40).map (·.size)=some 6:=by kernel_rfl
theorem Gn (h:w.there b o 6)(hl:L.length=6)(h1:∀v∈L,v.oneCell'=true):(Instr.storeAt 40 (.pointer (some ⟨b,o,none⟩)) (.agg L.toArray)).run Tryz.prog w=.ok () (w.setCells b o L) :=
 run_storeAt_mid w b o 40 L.toArray (by simpa [hl] using h) (by rw [tH];simp [hl]) (all_oneCell_toArray h1)
theorem ID (h:w.rangeAt b o L)(hl:L.length=6):(loadVar 40 ⟨b,o,none⟩).run Tryz.prog w=.ok (.agg L.toArray) w :=
 run_loadVar_mid w b o 40 L _ h Tryz.underlying40 rfl (by rw [tH,hl])
theorem Hi (h:w.rangeAt b o L)(hl:L.length=6):(Instr.loadAt 40 (.pointer (some ⟨b,o,none⟩))).run Tryz.prog w=.ok (.agg L.toArray) w :=
 run_loadAt_mid w b o 40 L _ h Tryz.underlying40 rfl (by rw [tH,hl])
theorem ko (cd:Int)(c:Cp)(d:Sl)(nu:Int):∀v∈aZ cd c d nu,v.oneCell'=true:=by
 intro u hu;simp only [List.mem_cons,List.not_mem_nil,or_false] at hu;rcases hu with rfl|rfl|rfl|rfl|rfl|rfl<;>rfl
theorem oZ (cd nu:Int)(c:Cp)(d:Sl)(rs:List Nat)(w:World)(hr:Row w d.a d.n d.c rs)(hd1:d.n<=100000000) :
  Calls Tryz.prog 39 #[bR cd c d nu] w λe w'=>∃d':Sl,e=.returned (bR cd c d' nu)/\d'.n=d.n/\Below w.heap.size w w':=by
 obtain⟨W,hW⟩:∃W,W=(w.alloc (Obj.cells (aZ cd c d nu).toArray 40)).alloc Z6:=⟨_,rfl⟩
 have HB:Hid (Below w.heap.size w W):=by unfold Hid;rw [hW];exact aB _ _ _
 have QT:Hid (W.heap.size=w.heap.size+2):=by unfold Hid;rw [hW];simp
 have OK:Hid (Bx W w.heap.size (aZ cd c d nu)):=by rw [hW];exact (Bx.new w (aZ cd c d nu) _).later (ag _ _)
 have OL:Hid (Bx W (w.heap.size+1) z6):=by rw [hW];have:=Bx.new (w.alloc (Obj.cells (aZ cd c d nu).toArray 40)) z6 40;rw [World.size_alloc] at this;exact this
 obtain⟨A,hA⟩:∃A,A=(W.alloc Z6).setCells W.heap.size 0 (aZ cd c d nu):=⟨_,rfl⟩
 have hZ:Bx (W.alloc Z6) W.heap.size z6:=Bx.new W z6 _
 have Pf:=ae (Gn (L:=aZ cd c d nu) hZ.there rfl (ko _ _ _ _))
 have hbA:Below W.heap.size W A:=by rw [hA];exact aj.below (ag _ _) (au (S:=(·=W.heap.size)) rfl (aZ cd c d nu) 0 (aj.refl _ _)) (λk hk=>by omega)
 have hXA:Bx A W.heap.size (aZ cd c d nu):=by rw [hA];exact hZ.set rfl
 have QB:=ae (Hi OK.out.range rfl)
 rw [<-hA] at Pf;have h10:=hXA.cell 4 rfl
 have f10:=(hXA.there 4 (by simp)).2
 rw [Nat.zero_add] at f10;obtain⟨A2,hA2⟩:∃A2,A2=A.setCell ⟨W.heap.size,4,none⟩ (.slice none 0 0):=⟨_,rfl⟩
 have hXA2:Bx A2 W.heap.size (aZ cd c ⟨none,0,0⟩ nu):=by rw [hA2];exact hXA.jO 4 _ (by simp)
 have hbA2:Below W.heap.size W A2:=by rw [hA2];exact aj.below hbA ((aj.refl (·=W.heap.size) A).setCell (p:=⟨W.heap.size,4,none⟩) rfl _) (λk hk=>by omega)
 obtain⟨a1,c1,w3,r3,row3,b3,n3,cc3⟩:=lF ((hr.later HB.out).later hbA2) hd1
 have hX3:=hXA2.later b3
 obtain⟨A4,hA4⟩:∃A4,A4=w3.setCell ⟨W.heap.size,4,none⟩ (.slice a1 d.n c1):=⟨_,rfl⟩
 have hXA4:Bx A4 W.heap.size (aZ cd c ⟨a1,d.n,c1⟩ nu):=by rw [hA4];exact hX3.jO 4 _ (by simp)
 have hb4:aj (·=W.heap.size) w3 A4:=by rw [hA4];exact (aj.refl (·=W.heap.size) w3).setCell (p:=⟨W.heap.size,4,none⟩) rfl _
 have hBe4:Below W.heap.size W A4:=aj.below (aa hbA2 b3) hb4 (λk hk=>by omega)
 have QD:=ae (Hi hXA4.range rfl)
 have hX17:=OL.out.later hBe4
 have P7:=ae (Gn (L:=aZ cd c ⟨a1,d.n,c1⟩ nu) hX17.there rfl (ko _ _ _ _))
 obtain⟨A8,hA8⟩:∃A8,A8=A4.setCells (w.heap.size+1) 0 (aZ cd c ⟨a1,d.n,c1⟩ nu):=⟨_,rfl⟩
 have hb8:aj (·=w.heap.size+1) A4 A8:=by rw [hA8];exact au (S:=(·=w.heap.size+1)) rfl _ 0 (aj.refl _ _)
 have hXA8:Bx A8 (w.heap.size+1) (aZ cd c ⟨a1,d.n,c1⟩ nu):=by rw [hA8];exact hX17.set rfl
 have Qp:=ae (ID hXA8.range rfl)
 have Sc:Hid (Below w.heap.size w A8):=aj.below (aa HB.out hBe4) hb8 (λk hk=>by omega)
 rw [<-hA8] at P7;have hA2c:=hXA2.cell 4 rfl
 have x010:=(OK.out.later hbA2).cell 4 rfl
 have h310:=hX3.cell 4 rfl
 have f310:=(hX3.there 4 (by simp)).2
 rw [Nat.zero_add] at f310;have PW:=ae r3
 have HW:=ae hW
 have Qa:=ae hA2
 have RU:=ae hA4
 obtain⟨co,ch,cl⟩:=c
 obtain⟨da,dn,dc⟩:=d
 clear hr hd1 hZ hbA hXA hXA2 hbA2 r3 row3 b3 n3 cc3 hX3 hXA4 hb4 hBe4 hX17 hb8 hXA8 hW hA hA2 hA4 hA8;simp only at PW QB Pf QD P7 Qp HW h10 hA2c x010 h310 RU ⊢
 go_enter Tryz.func39,Tryz.ntmps39
 go_upto_region 1 with fail
 rw [<-HW.out];go_upto_region 2 with (first|((with_reducible refine aJ QB.out ?_ ?_);(· rfl))|((with_reducible refine a_ Pf.out ?_ ?_ ?_);(· rfl);(· rfl)))
 go_upto_region 3 with fail
 rw [<-Qa.out];clear h10 f10;go_upto_region 4 with (first|(at_builtin;refine aw rfl _ _ 38 rfl _ _ rfl rfl _ w3 PW.out ?_))
 rw [<-RU.out];clear hA2c x010 h310 f310;go_wp2_with (first|((with_reducible refine aJ QD.out ?_ ?_);(· rfl))|((with_reducible refine a_ P7.out ?_ ?_ ?_);(· rfl);(· rfl)))
 exact bodyPost_ret (v:=_) (by simp [results,Tryz.results39,asAddr,Act.put,Qp.out]) rfl ⟨⟨a1,dn,c1⟩,rfl,rfl,Sc.out⟩
def wv (c:Cp)(k:Nat):Nat:=if k=0 then c.o.toNat else if k=1 then c.l else c.h
def wL (c:Cp):Nat->List Nat
 | 0=>[]
 | k+1=>wL c k++bj (wv c k) 8
theorem J4 (c:Cp):wL c 3=bP c:=by simp [wL,wv,bP]
def lZ (L:List Nat):List Value:=L.map (λ(n:Nat)=>Value.int .u64 (n:Int))
def D7 (w:World)(A:Nat)(c:Cp)(i j:Nat)(o:Value)(U:World):Prop :=
 ∃a cap L,o=.slice a (8*i+j) cap/\Own U (A+1) a (8*i+j) cap (wL c i++bj (wv c i) j)/\(Below w.heap.size w U/\A+1<=U.heap.size)/\Bx U A (lZ L)/\L.length=3/\(i<3->L[i]?=some (wv c i / 256 ^ j))/\∀k,i<k->k<3->L[k]?=some (wv c k)
theorem D7.turn {U:World}{A i:Nat}{c:Cp}{o:Value}(h:D7 w A c i 8 o U):D7 w A c (i+1) 0 o U:=by
 obtain⟨a,cap,L,rfl,h1,h2,h3,h4,h5,h6⟩:=h
 refine⟨a,cap,L,by rw [show 8*(i+1)+0=8*i+8 by omega],?_,h2,h3,h4,λhi=>by rw [h6 (i+1) (by omega) hi];simp,λk hk=>h6 k (by omega)⟩
 rw [show 8*(i+1)+0=8*i+8 by omega,cN,List.append_nil];exact h1
theorem jB (c:Cp)(w:World)(hc:c.eY)(ho:0<=c.o):Calls Tryz.prog 31 #[dw c] w λe w'=>∃a cp,e=.returned (.slice a 24 cp)/\Own w' w.heap.size a 24 cp (bP c)/\Below w.heap.size w w':=by
 obtain⟨o,h,l⟩:=c
 obtain⟨⟨h1,h2⟩,h3,h4⟩:=hc
 simp only at h1 h2 h3 h4 ho;obtain⟨o,rfl⟩:∃k:Nat,o=(k:Int):=⟨o.toNat,by omega⟩
 have ew:IntKind.u64.wrap (o:Int)=(o:Int):=by rw [IntKind.wrap_u64];omega
 obtain⟨W,hW⟩:∃W,W=(w.alloc (Obj.cells #[ab (o:Int),ai (h:Int),ai (l:Int)] 37)).alloc (Obj.cells #[ai (o:Int),ai (l:Int),ai (h:Int)] 168):=⟨_,rfl⟩
 have HW:=ae hW
 obtain⟨A,hA⟩:∃A,A=w.heap.size+1:=⟨_,rfl⟩
 have HB:Hid (Below w.heap.size w W):=by rw [hW];exact aB _ _ _
 have hWs:W.heap.size=A+1:=by rw [hW,hA];simp
 have HX:Hid (Bx W A (lZ [o,l,h])):=by
  unfold Hid;have:=Bx.new (w.alloc (Obj.cells #[ab (o:Int),ai (h:Int),ai (l:Int)] 37)) (lZ [o,l,h]) 168
  rw [hW,hA];simpa [lZ] using this
 have HR:Hid (D7 w A ⟨(o:Int),h,l⟩ 0 0 (.slice none 0 0) W):=⟨none,0,[o,l,h],rfl,Own.nil _ _,⟨HB.out,by omega⟩,HX.out,rfl,λ_=>by simp [wv],λk hk h3=>by
  rcases (by omega:k=1\/k=2) with rfl|rfl<;>rfl⟩
 have HV:Hid (∀k,wv ⟨(o:Int),h,l⟩ k<18446744073709551616):=λk=>by
  unfold wv;split
  ·simp;omega
  ·split
   ·exact h4
   ·exact h3
 have HA:=ae hA
 have QT:=ae hWs
 clear hW hA hWs HX HB h1 h2 h3 h4 ho;go_enter Tryz.func31,Tryz.ntmps31
 go_upto_region 3 with fail
 rw [<-HW.out];simp only [<-HA.out];clear HW;go_wp2;go_loopw [4,5] (λv4 v5 U=>∃i:Nat,i<=3/\v5=ab (i:Int)/\Hid (D7 w A ⟨(o:Int),h,l⟩ i 0 v4 U)) (λ_ v5 _=>3 - (intOf v5).toNat)
 case atStart=>exact⟨0,by omega,rfl,HR⟩
 case round =>
  clear HR;obtain⟨i,hi,rfl,HB⟩:=hrel
  by_cases hlt:i<3
  ·have hd:decide ((i:Int)<3)=true:=by simp;omega
   go_wp2;go_loopw [4,6] (λv4 v6 U=>∃j:Nat,j<=8/\v6=ab (j:Int)/\Hid (D7 w A ⟨(o:Int),h,l⟩ i j v4 U)) (λ_ v6 _=>8 - (intOf v6).toNat)
   case atStart=>exact⟨0,by omega,rfl,HB⟩
   case round =>
    rename World=>U
    obtain⟨j,hj,rfl,HJ⟩:=hrel
    clear HB;by_cases hlt2:j<8
    ·have hd2:decide ((j:Int)<8)=true:=by simp;omega
     obtain⟨a,cap,L,rfl,k1,k2,k3,k4,k5,k6⟩:=HJ.out
     have hbw:=k2.2
     have e1:=eM (wv ⟨(o:Int),h,l⟩ i) j
     have e2:=eJ (wv ⟨(o:Int),h,l⟩ i) j
     have hLi:(lZ L)[i]?=some (ai ((wv ⟨(o:Int),h,l⟩ i / 256 ^ j:Nat):Int)):=by simp [lZ,k5 hlt]
     have y1:=k3.cell i hLi
     obtain⟨a2,c2,w2,hrun,hown2,hB2⟩:=bY (b:=wv ⟨(o:Int),h,l⟩ i / 256 ^ j%256) k1 hbw (by omega) (by omega)
     have hX2:=k3.but hB2.but (λe=>by have:=k1.dB _ e;omega)
     have y2:=hX2.cell i hLi
     have y2f:w2.frozen? ⟨A,i,none⟩=false:=by have:=(hX2.there i (by simp [lZ,k4];omega)).2;rwa [Nat.zero_add] at this
     have hX3:=hX2.jO i (ai ((wv ⟨(o:Int),h,l⟩ i / 256 ^ (j+1):Nat):Int)) (by simp [lZ,k4];omega)
     have hB3:aj (·=A) w2 (w2.setCell ⟨A,i,none⟩ (ai ((wv ⟨(o:Int),h,l⟩ i / 256 ^ (j+1):Nat):Int))):=aj.setCell (S:=(·=A)) (aj.refl _ _) rfl _
     have VV:Hid (D7 w A ⟨(o:Int),h,l⟩ i (j+1) (.slice a2 (8*i+(j+1)) c2) (w2.setCell ⟨A,i,none⟩ (ai ((wv ⟨(o:Int),h,l⟩ i / 256 ^ (j+1):Nat):Int)))):=by
      refine⟨a2,c2,L.set i (wv ⟨(o:Int),h,l⟩ i / 256 ^ (j+1)),rfl,?_,?_,?_,by simpa using k4,λ_=>List.getElem?_set_self (by omega),λk hk h3=>by rw [List.getElem?_set_ne (by omega)];exact k6 k hk h3⟩
      ·rw [cY,<-List.append_assoc]
       exact hown2.but hB3 (λk hk e=>by omega)
      ·have hA:=HA.out
       exact⟨aj.below (aj.below k2.1 hB2.but (λk hk=>by have:=k1.dB k hk;omega)) hB3 (λk hk=>by omega),Nat.le_trans hbw (Nat.le_trans hB2.but.size hB3.size)⟩
      ·have:(lZ L).set i (ai ((wv ⟨(o:Int),h,l⟩ i / 256 ^ (j+1):Nat):Int))=lZ (L.set i (wv ⟨(o:Int),h,l⟩ i / 256 ^ (j+1))):=by simp [lZ,List.map_set]
       rw [<-this];exact hX3
     have ON:=ae hrun
     rw [<-e2] at VV;have hx:wv ⟨(o:Int),h,l⟩ i / 256 ^ j<18446744073709551616:=Nat.lt_of_le_of_lt (Nat.div_le_self _ _) (HV.out i)
     generalize wv ⟨(o:Int),h,l⟩ i / 256 ^ j=x at *
     have e4:((x%256:Nat):Int)=(x:Int)%256:=by omega
     rw [e4] at ON;clear e1 e2 e4;clear hrun hown2 hB2 k1 k2 k3 k5 k6 hX2 hX3 hB3 HJ;go_wp2_with (first|(at_builtin;refine aw rfl _ _ 38 rfl _ _ rfl rfl _ w2 ON.out ?_))
     exact⟨⟨j+1,by omega,by go_num,VV⟩,by simp [intOf];omega⟩
    ·obtain rfl:j=8:=by omega
     have hd2:decide (((8:Nat):Int)<8)=false:=by simp
     have HT:Hid (D7 w A ⟨(o:Int),h,l⟩ (i+1) 0 u4 U):=HJ.out.turn
     clear HJ;go_wp2;exact⟨⟨i+1,by omega,by go_num,HT⟩,by simp [intOf];omega⟩
  ·obtain rfl:i=3:=by omega
   have hd:decide (((3:Nat):Int)<3)=false:=by simp
   obtain⟨a,cap,L,rfl,k1,k2,k3,k4,k5,k6⟩:=HB.out
   rw [J4,cN,List.append_nil] at k1;have K1:=ae k1
   have K2:=ae k2.1
   clear k1 k2 k3 k4 k5 k6 HB;go_wp2;go_ret;exact⟨a,cap,rfl,K1.out.mono (by have:=HA.out;omega),K2.out⟩
end Go.Proofs.YtmhinfbkmjdgfaaGreatDoor.B
