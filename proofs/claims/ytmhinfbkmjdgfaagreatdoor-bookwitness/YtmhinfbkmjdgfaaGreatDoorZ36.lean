import Derived.Test.YtmhinfbkmjdgfaaGreatDoorZ35
import Derived.Test.YtmhinfbkmjdgfaaGreatDoorZ22
set_option linter.unusedVariables false
set_option linter.unusedSimpArgs false
set_option maxRecDepth 100000
set_option maxHeartbeats 4000000
namespace Go.Proofs.YtmhinfbkmjdgfaaGreatDoor.V
open Go.RowKit
open Go.Proofs.YtmhinfbkmjdgfaaGreatDoor.H (az Cp)
open Go.Proofs.YtmhinfbkmjdgfaaGreatDoor.M (bM)
section
variable {w:World}
def dW (q:Int):Cf:=⟨64,2,8,8,8,4,4,q,1,64⟩
theorem Fh {q:Int}(h0:0<=q)(h1:q<=16):(dW q).may=true:=by
 rw [Cf.pt];simp only [dW];omega
theorem J0 {b:Nat}{c:Cf}(h:R.Bx w b c.L):(Instr.loadAt 23 (aq b)).run Tryz.prog w=.ok c.v w:=run_loadAt_mid w b 0 23 c.L _ h.range Tryz.underlying23 rfl (by kernel_rfl)
theorem y_ (x m:Int)(hm:0<m)(hm2:m<=1000):0<=(wrap64 (x.tmod m+m)).tmod m/\(wrap64 (x.tmod m+m)).tmod m<m:=by
 have h1:-m<x.tmod m/\x.tmod m<m:=by
  rcases Int.le_total 0 x with h|h
  ·rw [Int.tmod_eq_emod_of_nonneg h]
   have a1:=Int.emod_nonneg x (by omega:m≠0)
   have a2:=Int.emod_lt_of_pos x hm
   omega
  ·have e:x.tmod m=-((-x).tmod m):=by rw [Int.neg_tmod];simp
   rw [e,Int.tmod_eq_emod_of_nonneg (by omega)];have a1:=Int.emod_nonneg (-x) (by omega:m≠0)
   have a2:=Int.emod_lt_of_pos (-x) hm
   omega
 have h2:wrap64 (x.tmod m+m)=x.tmod m+m:=by unfold wrap64;omega
 rw [h2,Int.tmod_eq_emod_of_nonneg (by omega)];exact⟨Int.emod_nonneg _ (by omega),Int.emod_lt_of_pos _ hm⟩
theorem eT {U:World}{b:Nat}{r:dZ}{a:Option Addr}{n c:Nat}(h:R.Bx U b (aZ r a n c)):(Instr.loadAt 37 (.pointer (some ⟨b,1,none⟩))).run Tryz.prog U=.ok (B.dw (mT r.cap)) U :=
 run_loadAt_mid U b 1 37 [ab r.cap.1,ai (r.cap.2.1:Int),ai (r.cap.2.2:Int)] _ (λj v hv=>by
  have hj:j<3:=(List.getElem?_eq_some_iff.1 hv).1
  refine h.range (1+j) v ?_ |> λe=>by rwa [Nat.zero_add] at e
  rcases (by omega:j=0\/j=1\/j=2) with rfl|rfl|rfl<;>exact hv) Tryz.underlying37 rfl (by kernel_rfl)
section
variable {u u':World}{lo g Z:Nat}{H:Hd}{s:bc}{Q:B.Bv}{bs:List Nat}
variable {x y:B.Lk}{b base c n:Nat}{f:Nat->Nat}{a:Option Addr}
theorem In.box (h:In u lo H s g Q Z bs)(r:dZ)(a:Option Addr)(n c:Nat):In (u.alloc (Obj.cells (aZ r a n c).toArray 40)) lo H s g Q Z (u.heap.size::bs):=h.new (ag _ _) (Nat.le_refl _) (by simp)
theorem In.row (h:In u lo H s g Q Z bs)(L:List Value)(t:TypeId):In (u.alloc (Obj.cells L.toArray t)) lo H s g Q Z (u.heap.size::bs):=h.new (ag _ _) (Nat.le_refl _) (by simp)
theorem cH {L:List Value}(h:R.Bx u b L)(hb:aj (λj=>lo<=j/\¬j∈bs) u u')(hm:b∈bs):R.Bx u' b L:=R.Bx.but hb h (λe=>e.2 hm)
theorem dG (h:Below w.heap.size w u)(hb:aj (λj=>w.heap.size<=j/\¬j∈bs) u u'):Below w.heap.size w u':=aj.below h hb (λk hk=>hk.1)
theorem In.told (h:In u lo H s g Q Z bs)(p:Int)(c:B.Cp)(hc:c.eY)(hp:B.bQ p):Calls Tryz.prog 30 #[aq g,ab p,B.dw c] u λe w'=>e=.returned (.bool (B.dR Q p c).isSome)/\Below u.heap.size u w':=by
 obtain⟨N,m,k1,k2,k3,k4,k5,rfl,k7,k8,k9⟩:=h
 exact B.Cg m Q p c u k2 hc hp
theorem In.xk (h:In u lo H s g Q Z bs)(p:Int)(c:B.Cp)(hc:c.eY)(hp:B.bQ p)(hZ:Z<=100000):Calls Tryz.prog 32 #[aq g,ab p,B.dw c] u λe w'=>∃a' c',e=.returned (.tuple #[.slice a' ((B.dR Q p c).getD []).length c',.bool (B.dR Q p c).isSome])/\B.Ow w' u.heap.size 72 7 a' ((B.dR Q p c).getD []).length c' (B.bO ((B.dR Q p c).getD []).reverse)/\Below u.heap.size u w':=by
 obtain⟨N,m,k1,k2,k3,k4,k5,rfl,k7,k8,k9⟩:=h
 exact B.EU m Q p c u k2 hc hp (by have:=k3.tg p c;omega)
theorem yB (u:World)(x:Int):B.RI (u.alloc (Obj.cells #[ab x] 3)) (some ⟨u.heap.size,0,none⟩) 1 1 [x]:=⟨rfl,Nat.le_refl _,λh=>by (cases h),λy hy j v hv=>by
 obtain rfl:=Option.some.inj hy
 have hj:j<1:=(List.getElem?_eq_some_iff.1 hv).1
 obtain rfl:j=0:=by omega
 obtain rfl:=Option.some.inj hv
 exact (R.Bx.new u [ab x] 3).cell 0 rfl⟩
theorem GD {N M t o:Nat}(h:In u lo H (nr N M t (fB N) o) g Q 263 bs)(hp:H.p=pW n f)(hN:N<az)(ho:o<200)(a:Option Addr)(cp:Nat)(hg:B.Row u a 1 cp [1])(hb:∀j,B.aI a j->j∈bs):Calls Tryz.prog 29 #[aq H.kb,aq g,(x6 2 (cB N) 0 ⟨a,1,cp⟩).v] u (λe w'=>∃s Q',xr u lo H s g Q' 266 bs ⟨0,(0,0,0),[],0⟩ e w'):=I2 h hp hN ho a cp hg hb
theorem GX (h:In u lo H jk g B.B0 0 bs)(hp:H.p=pW 0 f):Calls Tryz.prog 29 #[aq H.kb,aq g,x1.v] u (xr u lo H jk g (B.iz B.B0) 3 bs ⟨11,(0,0,0),[],0⟩):=GC h hp
theorem G4 (h:In u lo H jk g (B.iz B.B0) 3 bs):Calls Tryz.prog 29 #[aq H.kb,aq g,(x2 (mT (0,0,0))).v] u (xr u lo H jk g (B.iz (B.iz B.B0)) 6 bs ⟨3,(0,0,0),[],0⟩):=Hq h
theorem B_ {L:List Nat}(h:B.Own u base a n c L)(hn:0<n):∃k,(∀j,B.aI a j->j=k)/\base<=k/\k<u.heap.size:=by
 rcases h.row.2 with ⟨h1,h2⟩|⟨g,c,cur,hv,hb,hh,_⟩
 ·omega
 ·simp only [Value.slice.injEq] at hv
  obtain⟨rfl,_⟩:=hv
  exact⟨g,λj ⟨x,hx,e⟩=>by cases hx;exact e.symm,hb,(Array.getElem?_eq_some_iff.1 hh).1⟩
theorem EH {cs:List Value}(h:B.Ow u base 72 7 a 2 c cs):∃k,a=some ⟨k,0,none⟩/\base<=k/\k<u.heap.size/\u.rangeAt k 0 cs:=by
 have h0:=h
 rcases h.2 with ⟨h1,h2⟩|⟨g,c2,cur,hv,hb,hh,_⟩
 ·omega
 ·simp only [Value.slice.injEq] at hv
  obtain⟨rfl,_⟩:=hv
  exact⟨g,rfl,hb,(Array.getElem?_eq_some_iff.1 hh).1,λj v hv=>h0.cells (g:=g) rfl j v hv⟩
theorem A_ {r:dZ}(h:R.Bx u b (aZ r a n c)):(Instr.loadAt 32 (aq b)).run Tryz.prog u=.ok (ab r.code) u:=by
 have y:=h.cell 0 rfl
 go_simp
theorem I4 (x y o:Int)(h l n c:Nat)(a:Option Addr)(w:World):(Instr.field 40 (.agg #[ab x,ab o,ai (h:Int),ai (l:Int),.slice a n c,ab y]) 0).run Tryz.prog w=.ok (ab x) w:=by kernel_rfl
theorem Hc (h:u.rangeAt b 0 (B.bO [x,y])):(Instr.loadAt 72 (aq b)).run Tryz.prog u=.ok (B.s9 x.s x.kd x.b x.t x.c) u :=
 run_loadAt_mid u b 0 72 (B.Lk.L x) _ (λj v hv=>h j v (by have hj:j<7:=(List.getElem?_eq_some_iff.1 hv).1;simp only [B.bO,List.map_cons,List.flatten_cons];rw [List.getElem?_append_left hj];exact hv)) Tryz.underlying72 rfl (by kernel_rfl)
theorem Hx (h:u.rangeAt b 0 (B.bO [x,y])):(Instr.loadAt 72 (.pointer (some ⟨b,7,none⟩))).run Tryz.prog u=.ok (B.s9 y.s y.kd y.b y.t y.c) u :=
 run_loadAt_mid u b 7 72 (B.Lk.L y) _ (λj v hv=>by
  have hj:j<7:=(List.getElem?_eq_some_iff.1 hv).1
  have:=h (7+j) v (by rcases (by omega:j=0\/j=1\/j=2\/j=3\/j=4\/j=5\/j=6) with rfl|rfl|rfl|rfl|rfl|rfl|rfl<;>exact hv)
  rwa [Nat.zero_add] at this) Tryz.underlying72 rfl (by kernel_rfl)
end
theorem CZ (c:Cf)(off:Int){a0:Option Addr}{n0 cap0:Nat}{f0:Nat->Nat}(hD:D.Ws w a0 n0 cap0 f0)(hl:D.Laid w)(h0:0<w.heap.size) :
  Calls Tryz.prog 5 #[c.v,.slice a0 n0 cap0,ab off] w λe w'=>e=.returned (.bool true)/\Below w.heap.size w w':=by
 obtain⟨W,hW⟩:∃W,W=w.alloc (Obj.cells c.L.toArray 23):=⟨_,rfl⟩
 have hB:Below w.heap.size w W:=by rw [hW];exact ag _ _
 have hX:R.Bx W w.heap.size c.L:=by rw [hW];exact R.Bx.new w c.L 23
 have y7:=hX.cell 7 rfl
 have HB:=ae hB
 have HW:=ae hW
 have Xm:=ae hD
 have QJ:=ae hl
 have U9:=ae h0
 clear hX hB hW hD hl h0;go_enter Tryz.func5,Tryz.ntmps5
 go_upto_region 1 with fail
 rw [<-HW.out];go_upto_region 3 with fail
 clear y7 HW;obtain⟨q,hq⟩:∃q,q=(wrap64 (c.s.tmod 17+17)).tmod 17:=⟨_,rfl⟩
 obtain⟨at_,hat⟩:∃at_,at_=(wrap64 (off.tmod 200+200)).tmod 200:=⟨_,rfl⟩
 have hq2:=y_ c.s 17 (by omega) (by omega)
 have hat2:=y_ off 200 (by omega) (by omega)
 rw [<-hq] at hq2;rw [<-hat] at hat2;simp only [<-hq,<-hat];clear hq hat;obtain⟨W2,hW2⟩:∃W2,W2=W.alloc (Obj.cells (dW q).L.toArray 23):=⟨_,rfl⟩
 have OH:Hid (Below w.heap.size w W2):=by unfold Hid;rw [hW2];exact aa HB.out (ag _ _)
 have hX2:R.Bx W2 W.heap.size (dW q).L:=by rw [hW2];exact R.Bx.new W (dW q).L 23
 have Pg:=ae (J0 hX2)
 rw [show W.alloc (Obj.cells #[ab 64,ab 2,ab 8,ab 8,ab 8,ab 4,ab 4,ab q,ab 1,ab 64] 23)=W2 from hW2.symm]
 clear hW2 hX2;have hmay:=Fh hq2.1 (by omega)
 clear hq2;by_cases hn:n0<=4096
 ·have PA:=ae (cu (dW q) hmay a0 n0 cap0 f0 W2 (Xm.out.later OH.out) hn (QJ.out.later OH.out) (Nat.lt_of_lt_of_le U9.out OH.out.size))
  clear hmay;go_upto_region 4 with (first|((with_reducible refine R.aJ Pg.out ?_ ?_);(· rfl))|(go_at_call 12;refine PA.out.mono ?_;rintro e w3 ⟨H,N,rfl,hk,hp,hcf,hlo,hb⟩;have HK:=ae hk;have HP:=ae hp;have Pd:=ae hlo;have OJ:=ae hb;clear hk hp hcf hlo hb))
  clear PA Pg;have Qt:=ae (B.py w3)
  have hp2:H.p=pW n0 (λj=>D.cE (f0 j) 64):=HP.out
  obtain⟨f,hf⟩:∃f,f=(λj=>D.cE (f0 j) 64):=⟨_,rfl⟩
  rw [<-hf] at hp2;have hfs:∀i,f i<az:=λi=>by rw [hf];exact Nat.mod_lt _ (by decide)
  clear hf;go_upto_region 5 with (first|(go_at_call 26;refine Qt.out.mono ?_;rintro e w4 ⟨rfl,hbw,hb⟩;have Pq:=ae hbw;have OM:=ae hb;clear hbw hb))
  have Uw:Hid (In w4 w.heap.size H jk (w3.heap.size+5) B.B0 0 []):=In.start HK.out (λk hk=>Nat.le_trans OH.out.size (Pd.out k hk)) (Nat.le_trans OH.out.size OJ.out.size) (λb hb=>by cases hb) Pq.out OM.out
  have Q_:Hid (Below w.heap.size w w4):=aa (aa OH.out OJ.out) OM.out
  clear Qt Pq HK Pd HP;go_upto_region 7 with (first|(go_at_call 27;refine (B.eK _ _).mono ?_;rintro e w5 ⟨rfl,rfl⟩)|(go_at_call 28;refine (B.nL _).mono ?_;rintro e w5 ⟨rfl,hb⟩;have OS:=ae hb;clear hb))
  obtain⟨g,hg⟩:∃g,g=w3.heap.size+5:=⟨_,rfl⟩
  rw [<-hg] at Uw;simp only [<-hg];have Rj:=ae (Uw.out.later OS.out)
  have Rn:Hid (Below w.heap.size w w5):=aa Q_.out OS.out
  clear hg Uw Q_ OS OM OJ;by_cases hn0:0<n0
  ·have O2:=ae (IG Rj.out hp2 hn0 (hfs 0))
   go_upto_region 8 with (first|(go_at_call 29;refine O2.out.mono ?_;rintro e w6 ⟨a1,m1,c1,rfl,hin,hbt⟩;have TA:=ae hin;have Qd:=ae hbt;clear hin hbt))
   obtain⟨V7,hV7⟩:∃V,V=w6.alloc (Obj.cells (aZ ⟨0,D.cap 1 (f 0),[],0⟩ a1 m1 c1).toArray 40):=⟨_,rfl⟩
   obtain⟨b1,hb1⟩:∃b,b=w6.heap.size:=⟨_,rfl⟩
   have TL:Hid (In V7 w.heap.size H (ft (f 0)) g (B.mJ (cB (f 0))) 3 [b1]):=by rw [hV7,hb1];exact TA.out.box _ _ _ _
   have Sf:Hid (R.Bx V7 b1 (aZ ⟨0,D.cap 1 (f 0),[],0⟩ a1 m1 c1)):=by rw [hV7,hb1];exact R.Bx.new w6 _ 40
   have Qr:Hid (Below w.heap.size w V7):=by rw [hV7];exact aa (dG Rn.out Qd.out) (ag _ _)
   have hf1:w6.alloc (Obj.cells #[ab 0,ab (D.cap 1 (f 0)).1,ai ((D.cap 1 (f 0)).2.1:Int),ai ((D.cap 1 (f 0)).2.2:Int),.slice a1 m1 c1,ab 0] 40)=V7:=hV7.symm
   rw [hf1];simp only [<-hb1];clear hf1 hV7 hb1 TA Qd Rn Rj O2;have SD:=ae (eT Sf.out)
   have OW:=ae (Ip TL.out hp2 hn0 (λi _=>hfs i) (hfs 0))
   go_upto_region 9 with (first|((with_reducible refine R.aJ SD.out ?_ ?_);(· rfl))|(go_at_call 29;refine OW.out.mono ?_;rintro e w8 ⟨rr,s2,Q2,⟨a2,m2,c2,rfl,hin,hbt⟩,hor⟩;have Uh:=ae hin;have RZ:=ae hbt;have HOr:=ae hor;clear hin hbt hor))
   obtain⟨V8,hV8⟩:∃V,V=w8.alloc (Obj.cells (aZ rr a2 m2 c2).toArray 40):=⟨_,rfl⟩
   obtain⟨b2,hb2⟩:∃b,b=w8.heap.size:=⟨_,rfl⟩
   have Wm:Hid (In V8 w.heap.size H s2 g Q2 6 [b2,b1]):=by rw [hV8,hb2];exact Uh.out.box _ _ _ _
   have Sq:Hid (R.Bx V8 b2 (aZ rr a2 m2 c2)):=by rw [hV8,hb2];exact R.Bx.new w8 _ 40
   have Tv:Hid (R.Bx V8 b1 (aZ ⟨0,D.cap 1 (f 0),[],0⟩ a1 m1 c1)):=by rw [hV8];exact (cH Sf.out RZ.out (by simp)).later (ag _ _)
   have Qi:Hid (Below w.heap.size w V8):=by rw [hV8];exact aa (dG Qr.out RZ.out) (ag _ _)
   have hf1:w8.alloc (Obj.cells #[ab rr.code,ab rr.cap.1,ai (rr.cap.2.1:Int),ai (rr.cap.2.2:Int),.slice a2 m2 c2,ab rr.num] 40)=V8:=hV8.symm
   rw [hf1];simp only [<-hb2];clear hf1 hV8 hb2 Uh RZ Qr TL Sf OW SD;have x9:=Tv.out.cell 0 rfl
   have x8:=Sq.out.cell 0 rfl
   rcases HOr.out with ⟨hcd,M,t,rfl,hM,hne,rfl,rfl⟩|hcd|hcd
   ·clear HOr
    go_upto_region 11 with (first|(go_at_call 27;refine (B.eK _ _).mono ?_;rintro e w5 ⟨rfl,rfl⟩))
    clear x9 x8 hcd;have SB:=ae (eT Sq.out)
    have Qo:=ae (sl Wm.out hp2 hM)
    go_upto_region 12 with (first|((with_reducible refine R.aJ SB.out ?_ ?_);(· rfl))|(go_at_call 29;refine Qo.out.mono ?_;rintro e w9 ⟨a3,m3,c3,rfl,hin,hbt⟩;have Wn:=ae hin;have Q1:=ae hbt;clear hin hbt))
    have Qg:Hid (R.Bx w9 b1 (aZ ⟨0,D.cap 1 (f 0),[],0⟩ a1 m1 c1)):=cH Tv.out Q1.out (by simp)
    have Th:Hid (R.Bx w9 b2 (aZ ⟨0,D.cap 1 M,[],0⟩ a2 m2 c2)):=cH Sq.out Q1.out (by simp)
    have TC:Hid (Below w.heap.size w w9):=dG Qi.out Q1.out
    clear Tv Sq Qi Q1 Wm Qo SB;obtain⟨Va,hVa⟩:∃V,V=w9.alloc (Obj.cells #[ab 0] 3):=⟨_,rfl⟩
    have VY:Hid (In Va w.heap.size H (DS (f 0) M t) g (B.qV (cB (f 0)) (cB M)) 9 [w9.heap.size,b2,b1]):=by rw [hVa];exact Wn.out.row [ab 0] 3
    have VZ:=ae (Jl VY.out hp2 (some ⟨w9.heap.size,0,none⟩) 1 (by rw [hVa];exact yB w9 0) (by rintro j ⟨x,hx,rfl⟩;cases hx;simp))
    have T5:Hid (Below w9.heap.size w9 Va):=by rw [hVa];exact ag _ _
    have RC:=ae hVa.symm
    clear hVa Wn;go_upto_region 13 with (first|(rw [RC.out];go_at_call 29;refine VZ.out.mono ?_;rintro e wb ⟨a4,m4,c4,rfl,hin,hbt⟩;have UY:=ae hin;have S5:=ae hbt;clear hin hbt))
    obtain⟨Vc,hVc⟩:∃V,V=wb.alloc (Obj.cells (aZ ⟨0,(0,0,0),[],1⟩ a4 m4 c4).toArray 40):=⟨_,rfl⟩
    obtain⟨b4,hb4⟩:∃b,b=wb.heap.size:=⟨_,rfl⟩
    obtain⟨r4,hr4⟩:∃b,b=w9.heap.size:=⟨_,rfl⟩
    rw [<-hr4] at UY S5;have WQ:Hid (In Vc w.heap.size H (DH (f 0) M t) g (B.pI (cB (f 0)) (cB M)) 13 [b4,r4,b2,b1]):=by rw [hVc,hb4];exact UY.out.box _ _ _ _
    have TI:Hid (R.Bx Vc b4 (aZ ⟨0,(0,0,0),[],1⟩ a4 m4 c4)):=by rw [hVc,hb4];exact R.Bx.new wb _ 40
    have TP:Hid (R.Bx Vc b1 (aZ ⟨0,D.cap 1 (f 0),[],0⟩ a1 m1 c1)):=by rw [hVc];exact (cH (Qg.out.later T5.out) S5.out (by simp)).later (ag _ _)
    have Tz:Hid (R.Bx Vc b2 (aZ ⟨0,D.cap 1 M,[],0⟩ a2 m2 c2)):=by rw [hVc];exact (cH (Th.out.later T5.out) S5.out (by simp)).later (ag _ _)
    have TU:Hid (Below w.heap.size w Vc):=by rw [hVc];exact aa (dG (aa TC.out T5.out) S5.out) (ag _ _)
    have hf1:wb.alloc (Obj.cells #[ab 0,ab 0,ai 0,ai 0,.slice a4 m4 c4,ab 1] 40)=Vc:=hVc.symm
    rw [hf1];simp only [<-hb4];clear hf1 hVc hb4 hr4 UY S5 TC Qg Th T5 RC VZ VY;obtain⟨Vd,hVd⟩:∃V,V=Vc.alloc (Obj.cells #[ab 0] 3):=⟨_,rfl⟩
    have WN:Hid (In Vd w.heap.size H (DH (f 0) M t) g (B.pI (cB (f 0)) (cB M)) 13 [Vc.heap.size,b4,r4,b2,b1]):=by rw [hVd];exact WQ.out.row [ab 0] 3
    have QS:=ae (I7 WN.out hp2 (some ⟨Vc.heap.size,0,none⟩) 1 (by rw [hVd];exact yB Vc 0) (by rintro j ⟨x,hx,rfl⟩;cases hx;simp))
    have SF:Hid (Below Vc.heap.size Vc Vd):=by rw [hVd];exact ag _ _
    have WX:=ae hVd.symm
    clear hVd WQ;go_upto_region 14 with (first|(rw [WX.out];go_at_call 29;refine QS.out.mono ?_;rintro e we ⟨a5,m5,c5,rfl,hin,hbt⟩;have Vp:=ae hin;have Sk:=ae hbt;clear hin hbt))
    obtain⟨Vf,hVf⟩:∃V,V=we.alloc (Obj.cells (aZ ⟨0,(0,0,0),[],2⟩ a5 m5 c5).toArray 40):=⟨_,rfl⟩
    obtain⟨b5,hb5⟩:∃b,b=we.heap.size:=⟨_,rfl⟩
    obtain⟨r5,hr5⟩:∃b,b=Vc.heap.size:=⟨_,rfl⟩
    rw [<-hr5] at Vp Sk;have TZ:Hid (In Vf w.heap.size H (BO (f 0) M t) g (B.po (cB (f 0)) (cB M)) 17 [b5,r5,b4,r4,b2,b1]):=by rw [hVf,hb5];exact Vp.out.box _ _ _ _
    have TE:Hid (R.Bx Vf b5 (aZ ⟨0,(0,0,0),[],2⟩ a5 m5 c5)):=by rw [hVf,hb5];exact R.Bx.new we _ 40
    have Qq:Hid (R.Bx Vf b4 (aZ ⟨0,(0,0,0),[],1⟩ a4 m4 c4)):=by rw [hVf];exact (cH (TI.out.later SF.out) Sk.out (by simp)).later (ag _ _)
    have QH:Hid (R.Bx Vf b1 (aZ ⟨0,D.cap 1 (f 0),[],0⟩ a1 m1 c1)):=by rw [hVf];exact (cH (TP.out.later SF.out) Sk.out (by simp)).later (ag _ _)
    have Rf:Hid (R.Bx Vf b2 (aZ ⟨0,D.cap 1 M,[],0⟩ a2 m2 c2)):=by rw [hVf];exact (cH (Tz.out.later SF.out) Sk.out (by simp)).later (ag _ _)
    have SU:Hid (Below w.heap.size w Vf):=by rw [hVf];exact aa (dG (aa TU.out SF.out) Sk.out) (ag _ _)
    have hf1:we.alloc (Obj.cells #[ab 0,ab 0,ai 0,ai 0,.slice a5 m5 c5,ab 2] 40)=Vf:=hVf.symm
    rw [hf1];simp only [<-hb5];clear hf1 hVf hb5 hr5 Vp Sk TU TP Tz TI SF WX QS WN;have z4:=Qq.out.cell 5 rfl
    have z5:=TE.out.cell 5 rfl
    have SA:=ae (hfs 0)
    have QR:=ae (Ff (hfs 0) hM hne)
    have OV:Hid (∀U,Below Vf.heap.size Vf U->Calls Tryz.prog 30 #[aq g,ab 1,(.agg #[ab (D.cap 1 (f 0)).1,ai ((D.cap 1 (f 0)).2.1:Int),ai ((D.cap 1 (f 0)).2.2:Int)])] U λe w'=>e=.returned (.bool false)/\Below U.heap.size U w'):=λU hU=>((TZ.out.later hU).told 1 (cB (f 0)) (fK SA.out) (by constructor<;>simp)).mono (λe w' h=>by rw [B.EB (jV _) (jV _) QR.out] at h;exact h)
    have OO:Hid (∀U,Below Vf.heap.size Vf U->Calls Tryz.prog 30 #[aq g,ab 2,(.agg #[ab (D.cap 1 M).1,ai ((D.cap 1 M).2.1:Int),ai ((D.cap 1 M).2.2:Int)])] U λe w'=>e=.returned (.bool true)/\Below U.heap.size U w'):=λU hU=>((TZ.out.later hU).told 2 (cB M) (fK hM) (by constructor<;>simp)).mono (λe w' h=>by rw [B.BH (jV _) (jV _) QR.out] at h;exact h)
    have p1:=QH.out.cell 1 rfl
    have p2:=QH.out.cell 2 rfl
    have p3:=QH.out.cell 3 rfl
    go_upto_region 16 with (first|(have hq_:=Q7;clear hq_;go_at_call 30;refine (OO.out _ Q7.out).mono ?_;rintro e wg ⟨rfl,hb⟩;have Ri:=ae (aa Q7.out hb);clear hb)|(go_at_call 30;refine (OV.out _ (Below.refl _ _)).mono ?_;rintro e wf ⟨rfl,hb⟩;have Q7:=ae hb;have q1:=(Rf.out.later hb).cell 1 rfl;have q2:=(Rf.out.later hb).cell 2 rfl;have q3:=(Rf.out.later hb).cell 3 rfl;clear hb))
    clear z4 z5 p1 p2 p3 q1 q2 q3 OV OO Q7;have Wy:=ae (TZ.out.later Ri.out)
    have Ti:=ae (QH.out.later Ri.out)
    have SE:Hid (Below w.heap.size w wg):=aa SU.out Ri.out
    clear TZ TE Qq Rf QH SU Ri;have S6:Hid (∀U:World,aj (λj=>w.heap.size<=j/\¬j∈[b5,r5,b4,r4,b2,b1]) wg U->R.Bx U b1 (aZ ⟨0,D.cap 1 (f 0),[],0⟩ a1 m1 c1)):=λU hU=>cH Ti.out hU (by simp)
    have RX:Hid (∀U:World,Below wg.heap.size wg U->Calls Tryz.prog 31 #[B.dw (cB (f 0))] U λe w'=>∃a cp,e=.returned (.slice a 24 cp)/\B.Own w' U.heap.size a 24 cp (fB (f 0))/\Below U.heap.size U w'):=λU hU=>B.jB (cB (f 0)) U (fK SA.out) (by show (0:Int)<=1;decide)
    go_cut [139] (λv U=>∃k,Hid (In U w.heap.size H (nr (f 0) M t (fB (f 0)) at_.toNat) g (B.ui (cB (f 0)) (cB M) at_) 20 [k,b5,r5,b4,r4,b2,b1])/\Hid (aj (λj=>w.heap.size<=j/\¬j∈[b5,r5,b4,r4,b2,b1]) wg U))
    case first =>
     refine wp_region_held_drew (S:=(λU:World=>R.Bx U b1 (aZ ⟨0,D.cap 1 (f 0),[],0⟩ a1 m1 c1))) (by kernel_rfl) (S6.out _ (aj.of (Below.refl _ _).drew)) (λhHeld=>?_)
     refine nm 10 0 10 ?_
     refine tn 0 10 1 9 ?_
     simp only [zz];refine tn 1 10 3 8 ?_
     simp only [zz];refine tn 2 10 7 7 ?_
     simp only [zz];refine tv 3 (v:=B.dw (cB (f 0))) ?_ ?_
     ·(intro w hSw;(try dsimp only at hSw);exact B.df rfl rfl (eT hSw))
     simp only [zz];refine nm 10 15 6 ?_
     refine tn 4 10 31 5 ?_
     simp only [zz];refine tn 5 10 63 4 ?_
     simp only [zz];refine tv 6 (v:=B.dw (cB (f 0))) ?_ ?_
     ·(intro w hSw;(try dsimp only at hSw);exact B.df rfl rfl (eT hSw))
     simp only [zz];refine nm 10 127 3 ?_
     refine zr 7 λK hK=>?_
     go_simp
     go_wp2_with (first|(go_at_call 31;refine (RX.out wg.drew (Below.refl _ _).drew).mono ?_;rintro e u1 ⟨ay,cy,rfl,ho,hb⟩;have Ps:=ae ho;have PF:Hid (Below wg.heap.size wg u1):=aa (Below.refl _ _).drew hb;clear ho hb))
     refine zk hK 10 255 2 (S6.out u1 (aj.of PF.out)) λhHeld=>?_
     clear hK K;try simp only [zz]
     refine tn 8 10 511 1 ?_
     simp only [zz];refine zr 9 λK hK=>?_
     obtain⟨k,hk1,hk2,hk3⟩:=B_ Ps.out (by omega)
     have UE:=ae (Ja (Wy.out.new PF.out hk2 hk3) hp2 SA.out at_ hat2.1 hat2.2 ay cy Ps.out.read (λj hj=>by rw [hk1 j hj];simp))
     clear hk1 hk2 hk3;go_simp
     go_wp2_with (first|(go_at_call 29;refine UE.out.mono ?_;rintro e u2 ⟨a6,m6,c6,rfl,hin,hbt⟩;have U5:=ae hin;have PY:Hid (aj (λj=>w.heap.size<=j/\¬j∈[b5,r5,b4,r4,b2,b1]) wg u2):=(aj.of PF.out).trans (hbt.mono (λj hj=>⟨hj.1,λhm=>hj.2 (List.mem_cons_of_mem _ hm)⟩));clear hin hbt))
     refine zk hK 10 1023 0 (S6.out u2 PY.out) λhHeld=>?_
     clear hK K;try simp only [zz]
     refine zn ?_ _
     (try go_wp2)
     go_meet;exact⟨k,U5,PY⟩
    case rest =>
     obtain⟨k,Wv,Rk⟩:=hcut
     have Tp:=ae (S6.out wc Rk.out)
     have Ty:Hid (Below w.heap.size w wc):=dG SE.out Rk.out
     have U_:=ae (Ji (o:=at_.toNat) (off:=at_) Wv.out hp2 hne (by omega))
     clear S6 RX Wy Ti SE Rk Wv;obtain⟨dt,hdt⟩:∃dt,dt=(S.dM iq (fB (f 0)) at_.toNat).take 240:=⟨_,rfl⟩
     rw [<-hdt] at U_;clear hdt;go_upto_region 18 with (first|(go_at_call 29;refine U_.out.mono ?_;rintro e w7 ⟨a7,m7,c7,rfl,hin,hbt⟩;have Wt:=ae hin;have P5:=ae hbt;clear hin hbt))
     obtain⟨Vm,hVm⟩:∃V,V=w7.alloc (Obj.cells (aZ ⟨0,(0,0,0),dt,0⟩ a7 m7 c7).toArray 40):=⟨_,rfl⟩
     obtain⟨b7,hb7⟩:∃b,b=w7.heap.size:=⟨_,rfl⟩
     have Uv:Hid (In Vm w.heap.size H (nr (f 0) M t (fB (f 0)) at_.toNat) g (B.Ep (cB (f 0)) (cB M) at_) 263 [b7,k,b5,r5,b4,r4,b2,b1]):=by rw [hVm,hb7];exact Wt.out.box _ _ _ _
     have SY:Hid (R.Bx Vm b7 (aZ ⟨0,(0,0,0),dt,0⟩ a7 m7 c7)):=by rw [hVm,hb7];exact R.Bx.new w7 _ 40
     have R1:Hid (R.Bx Vm b1 (aZ ⟨0,D.cap 1 (f 0),[],0⟩ a1 m1 c1)):=by rw [hVm];exact (cH Tp.out P5.out (by simp)).later (ag _ _)
     have SM:Hid (Below w.heap.size w Vm):=by rw [hVm];exact aa (dG Ty.out P5.out) (ag _ _)
     have hf1:w7.alloc (Obj.cells #[ab 0,ab 0,ai 0,ai 0,.slice a7 m7 c7,ab 0] 40)=Vm:=hVm.symm
     rw [hf1];simp only [<-hb7];clear hf1 hVm hb7 Wt P5 Ty Tp U_;have Wh:=ae (eT R1.out)
     have Wc:Hid (Calls Tryz.prog 32 #[aq g,ab 2,B.dw (cB (f 0))] Vm λe w'=>∃k8 c8,e=.returned (.tuple #[.slice (some ⟨k8,0,none⟩) 2 c8,.bool true])/\(Vm.heap.size<=k8/\k8<w'.heap.size/\w'.rangeAt k8 0 (B.bO [B.kI (cB (f 0)),⟨7,3,0,2,cB (f 0)⟩]))/\Below Vm.heap.size Vm w'):=(Uv.out.xk 2 (cB (f 0)) (fK SA.out) (by constructor<;>simp) (by omega)).mono (λe w' h=>by
      rw [B.AZ (jV _) (jV _) QR.out hat2.1 hat2.2] at h;obtain⟨a8,c8,he,hO,hb⟩:=h
      obtain⟨k8,rfl,h1,h2,h3⟩:=EH (cs:=B.bO [B.kI (cB (f 0)),⟨7,3,0,2,cB (f 0)⟩]) hO
      exact⟨k8,c8,he,⟨h1,h2,h3⟩,hb⟩)
     go_upto_region 19 with (first|((with_reducible refine R.aJ Wh.out ?_ ?_);(· rfl))|(go_at_call 32;refine Wc.out.mono ?_;rintro e wz ⟨k8,c8,rfl,⟨h1,h2,h3⟩,hb⟩;have WI:=ae (Uv.out.new hb h1 h2);have Wj:=ae h3;have T7:=ae hb;clear h1 h2 h3 hb))
     have VA:Hid (Below w.heap.size w wz):=aa SM.out T7.out
     have SN:=ae (R1.out.later T7.out)
     have TS:=ae (SY.out.later T7.out)
     have Qv:Hid (∀U:World,aj (λj=>w.heap.size<=j/\¬j∈[k8,b7,k,b5,r5,b4,r4,b2,b1]) wz U->R.Bx U b1 (aZ ⟨0,D.cap 1 (f 0),[],0⟩ a1 m1 c1)/\R.Bx U b7 (aZ ⟨0,(0,0,0),dt,0⟩ a7 m7 c7)/\U.rangeAt k8 0 (B.bO [B.kI (cB (f 0)),⟨7,3,0,2,cB (f 0)⟩])):=λU hU=>⟨cH SN.out hU (by simp),cH TS.out hU (by simp),mf Wj.out hU (λe=>e.2 (by simp))⟩
     have Um:Hid (∀U,Below wz.heap.size wz U->Calls Tryz.prog 30 #[aq g,ab 1,B.dw (cB (f 0))] U λe w'=>e=.returned (.bool false)/\Below U.heap.size U w'):=λU hU=>((WI.out.later hU).told 1 (cB (f 0)) (fK SA.out) (by constructor<;>simp)).mono (λe w' h=>by rw [B.Ex (jV _) (jV _) QR.out hat2.1 hat2.2] at h;exact h)
     clear Wc Wh Uv SY R1 SM T7 Wj SN TS;go_cut [6] (λv U=>v=.bool true/\Hid (Below w.heap.size w U))
     case first =>
      refine wp_region_held_drew (S:=(λU:World=>R.Bx U b1 (aZ ⟨0,D.cap 1 (f 0),[],0⟩ a1 m1 c1)/\R.Bx U b7 (aZ ⟨0,(0,0,0),dt,0⟩ a7 m7 c7)/\U.rangeAt k8 0 (B.bO [B.kI (cB (f 0)),⟨7,3,0,2,cB (f 0)⟩]))) (by kernel_rfl) (Qv.out _ (aj.of (Below.refl _ _).drew)) (λhHeld=>?_)
      refine nm 50 0 50 ?_
      refine tn 0 50 1 49 ?_
      simp only [zz];refine tv 1 (v:=ab 0) ?_ ?_
      ·(intro w hSw;(try dsimp only at hSw);exact B.df rfl rfl (A_ hSw.2.1))
      simp only [zz];refine nm 50 3 48 ?_
      refine zr 2 λK hK=>?_
      go_simp
      go_wp2_with (first|(go_at_call 27;refine (B.eK _ _).mono ?_;rintro e w5 ⟨rfl,rfl⟩))
      refine zk hK 50 7 47 (Qv.out _ (aj.of (Below.refl _ _).drew)) λhHeld=>?_
      clear hK K;try simp only [zz]
      refine tn 3 50 15 46 ?_
      simp only [zz];refine tn 4 50 31 45 ?_
      simp only [zz];refine tn 5 50 63 44 ?_
      simp only [zz];refine tn 6 50 127 43 ?_
      simp only [zz];refine tn 7 50 255 42 ?_
      simp only [zz];refine tn 8 50 511 41 ?_
      simp only [zz];refine tn 9 50 1023 40 ?_
      simp only [zz];refine tv 10 (v:=B.dw (cB (f 0))) ?_ ?_
      ·(intro w hSw;(try dsimp only at hSw);exact B.df rfl rfl (eT hSw.1))
      simp only [zz];refine nm 50 2047 39 ?_
      refine zr 11 λK hK=>?_
      go_simp
      go_wp2_with (first|(go_at_call 30;refine (Um.out wz.drew (Below.refl _ _).drew).mono ?_;rintro e u1 ⟨rfl,hb⟩;have PF:Hid (Below wz.heap.size wz u1):=aa (Below.refl _ _).drew hb;clear hb))
      refine zk hK 50 4095 38 (Qv.out u1 (aj.of PF.out)) λhHeld=>?_
      clear hK K;try simp only [zz]
      refine tn 12 50 8191 37 ?_
      simp only [zz];refine tn 13 50 16383 36 ?_
      simp only [zz];refine tn 14 50 32767 35 ?_
      simp only [zz];refine tn 15 50 65535 34 ?_
      simp only [zz];refine tn 16 50 131071 33 ?_
      simp only [zz];refine tn 17 50 262143 32 ?_
      simp only [zz];refine tn 18 50 524287 31 ?_
      simp only [zz];refine tn 19 50 1048575 30 ?_
      simp only [zz];refine tn 20 50 2097151 29 ?_
      simp only [zz];refine tn 21 50 4194303 28 ?_
      simp only [zz];refine tv 22 (v:=B.s9 1 1 0 0 (cB (f 0))) ?_ ?_
      ·(intro w hSw;(try dsimp only at hSw);exact B.df rfl rfl (Hc hSw.2.2))
      simp only [zz];refine nm 50 8388607 27 ?_
      refine tn 23 50 16777215 26 ?_
      simp only [zz];refine tv 24 (v:=B.dw (cB (f 0))) ?_ ?_
      ·(intro w hSw;(try dsimp only at hSw);exact B.df rfl rfl (eT hSw.1))
      simp only [zz];refine nm 50 33554431 25 ?_
      refine tn 25 50 67108863 24 ?_
      simp only [zz];refine tn 26 50 134217727 23 ?_
      simp only [zz];refine tn 27 50 268435455 22 ?_
      simp only [zz];refine tn 28 50 536870911 21 ?_
      simp only [zz];refine tn 29 50 1073741823 20 ?_
      simp only [zz];refine tn 30 50 2147483647 19 ?_
      simp only [zz];refine tv 31 (v:=B.s9 7 3 0 2 (cB (f 0))) ?_ ?_
      ·(intro w hSw;(try dsimp only at hSw);exact B.df rfl rfl (Hx hSw.2.2))
      simp only [zz];refine nm 50 4294967295 18 ?_
      refine tn 32 50 8589934591 17 ?_
      simp only [zz];refine tv 33 (v:=B.dw (cB (f 0))) ?_ ?_
      ·(intro w hSw;(try dsimp only at hSw);exact B.df rfl rfl (eT hSw.1))
      simp only [zz];refine nm 50 17179869183 16 ?_
      refine tn 34 50 34359738367 15 ?_
      simp only [zz];refine tn 35 50 68719476735 14 ?_
      simp only [zz];refine tn 36 50 137438953471 13 ?_
      simp only [zz];refine tn 37 50 274877906943 12 ?_
      simp only [zz];refine tn 38 50 549755813887 11 ?_
      simp only [zz];refine tn 39 50 1099511627775 10 ?_
      simp only [zz];refine tn 40 50 2199023255551 9 ?_
      simp only [zz];refine tv 41 (v:=B.dw (cB (f 0))) ?_ ?_
      ·(intro w hSw;(try dsimp only at hSw);exact B.df rfl rfl (eT hSw.1))
      simp only [zz];refine nm 50 4398046511103 8 ?_
      refine zr 42 λK hK=>?_
      go_simp
      refine zk hK 50 8796093022207 7 (Qv.out _ ((aj.of PF.out).trans (aj.of (ag _ _)))) λhHeld=>?_
      clear hK K;try simp only [zz]
      refine tn 43 50 17592186044415 6 ?_
      simp only [zz];refine zr 44 λK hK=>?_
      have UE:=ae (GD ((WI.out.later PF.out).row [.int .u8 1] 5) hp2 SA.out (by omega) (some ⟨u1.heap.size,0,none⟩) 1 (B.Row.one u1 1 (by omega)) (by rintro j ⟨x,hx,rfl⟩;cases hx;simp))
      go_simp
      go_wp2_with (first|(go_at_call 29;refine UE.out.mono ?_;rintro e u2 ⟨s8,Q8,a8,m8,c9,rfl,hin,hbt⟩;have PY:Hid (aj (λj=>w.heap.size<=j/\¬j∈[k8,b7,k,b5,r5,b4,r4,b2,b1]) wz u2):=((aj.of PF.out).trans (aj.of (ag _ _))).trans (hbt.mono (λj hj=>⟨hj.1,λhm=>hj.2 (List.mem_cons_of_mem _ hm)⟩));clear hin hbt))
      refine zk hK 50 35184372088831 5 (Qv.out u2 PY.out) λhHeld=>?_
      clear hK K;try simp only [zz]
      refine tv 45 (v:=ab 0) ?_ ?_
      ·(intro w hSw;(try dsimp only at hSw);go_simp;rw [I4];rfl)
      simp only [zz];refine nm 50 70368744177663 4 ?_
      refine zr 46 λK hK=>?_
      go_simp
      go_wp2_with (first|(go_at_call 27;refine (B.eK _ _).mono ?_;rintro e w5 ⟨rfl,rfl⟩))
      refine zk hK 50 140737488355327 3 (Qv.out _ PY.out) λhHeld=>?_
      clear hK K;try simp only [zz]
      refine tn 47 50 281474976710655 2 ?_
      simp only [zz];refine tn 48 50 562949953421311 1 ?_
      simp only [zz];refine tn 49 50 1125899906842623 0 ?_
      simp only [zz];refine zn ?_ _
      (try go_wp2)
      go_meet;exact⟨rfl,dG VA.out PY.out⟩
     case rest =>
      obtain⟨rfl,HF⟩:=hcut
      go_wp2;go_ret;exact⟨rfl,HF.out⟩
   ·rw [hcd] at x8
    clear HOr;go_wp2_with (first|(go_at_call 27;refine (B.eK _ _).mono ?_;rintro e w5 ⟨rfl,rfl⟩))
    go_ret;exact⟨rfl,Qi.out⟩
   ·rw [hcd] at x8
    clear HOr;go_wp2_with (first|(go_at_call 27;refine (B.eK _ _).mono ?_;rintro e w5 ⟨rfl,rfl⟩))
    go_ret;exact⟨rfl,Qi.out⟩
  ·obtain rfl:n0=0:=by omega
   have O2:=ae (GX Rj.out hp2)
   go_upto_region 8 with (first|(go_at_call 29;refine O2.out.mono ?_;rintro e w6 ⟨a1,m1,c1,rfl,hin,hbt⟩;have TA:=ae hin;have Qd:=ae hbt;clear hin hbt))
   obtain⟨V7,hV7⟩:∃V,V=w6.alloc (Obj.cells (aZ ⟨11,(0,0,0),[],0⟩ a1 m1 c1).toArray 40):=⟨_,rfl⟩
   obtain⟨b1,hb1⟩:∃b,b=w6.heap.size:=⟨_,rfl⟩
   have TL:Hid (In V7 w.heap.size H jk g (B.iz B.B0) 3 [b1]):=by rw [hV7,hb1];exact TA.out.box _ _ _ _
   have Sf:Hid (R.Bx V7 b1 (aZ ⟨11,(0,0,0),[],0⟩ a1 m1 c1)):=by rw [hV7,hb1];exact R.Bx.new w6 _ 40
   have Qr:Hid (Below w.heap.size w V7):=by rw [hV7];exact aa (dG Rn.out Qd.out) (ag _ _)
   have hf1:w6.alloc (Obj.cells #[ab 11,ab 0,ai 0,ai 0,.slice a1 m1 c1,ab 0] 40)=V7:=hV7.symm
   rw [hf1];simp only [<-hb1];clear hf1 hV7 hb1 TA Qd Rn Rj O2;have SD:=ae (eT Sf.out)
   have OW:=ae (G4 TL.out)
   go_upto_region 9 with (first|((with_reducible refine R.aJ SD.out ?_ ?_);(· rfl))|(go_at_call 29;refine OW.out.mono ?_;rintro e w8 ⟨a2,m2,c2,rfl,hin,hbt⟩;have Uh:=ae hin;have RZ:=ae hbt;clear hin hbt))
   obtain⟨V8,hV8⟩:∃V,V=w8.alloc (Obj.cells (aZ ⟨3,(0,0,0),[],0⟩ a2 m2 c2).toArray 40):=⟨_,rfl⟩
   have Sq:Hid (R.Bx V8 w8.heap.size (aZ ⟨3,(0,0,0),[],0⟩ a2 m2 c2)):=by rw [hV8];exact R.Bx.new w8 _ 40
   have Tv:Hid (R.Bx V8 b1 (aZ ⟨11,(0,0,0),[],0⟩ a1 m1 c1)):=by rw [hV8];exact (cH Sf.out RZ.out (by simp)).later (ag _ _)
   have Qi:Hid (Below w.heap.size w V8):=by rw [hV8];exact aa (dG Qr.out RZ.out) (ag _ _)
   have hf1:w8.alloc (Obj.cells #[ab 3,ab 0,ai 0,ai 0,.slice a2 m2 c2,ab 0] 40)=V8:=hV8.symm
   rw [hf1];clear hf1 hV8 Uh RZ Qr TL Sf OW SD;have x9:=Tv.out.cell 0 rfl
   have x8:=Sq.out.cell 0 rfl
   go_wp2_with (first|(go_at_call 27;refine (B.eK _ _).mono ?_;rintro e w5 ⟨rfl,rfl⟩))
   go_ret;exact⟨rfl,Qi.out⟩
 ·have PA:=ae (xD (dW q) hmay a0 n0 cap0 W2 (by omega))
  have hd:decide ((n0:Int)>4096)=true:=by simp;omega
  clear hmay;go_upto_region 4 with (first|((with_reducible refine R.aJ Pg.out ?_ ?_);(· rfl))|(go_at_call 12;refine PA.out.mono ?_;rintro e w3 ⟨rfl,hb⟩;have OJ:=ae hb;clear hb))
  have Qt:=ae (B.py w3)
  clear PA Pg;go_upto_region 5 with (first|(go_at_call 26;refine Qt.out.mono ?_;rintro e w4 ⟨rfl,hbw,hb⟩;have OM:=ae hb;clear hbw hb))
  have Q_:Hid (Below w.heap.size w w4):=aa (aa OH.out OJ.out) OM.out
  clear Qt OJ OM;go_wp2_with (first|(go_at_call 27;refine (B.eK _ _).mono ?_;rintro e w5 ⟨rfl,rfl⟩)|(go_at_call 28;refine (B.nL _).mono ?_;rintro e w5 ⟨rfl,hb⟩;have OS:=ae hb;clear hb))
  go_ret;exact⟨rfl,aa Q_.out OS.out⟩
end
end Go.Proofs.YtmhinfbkmjdgfaaGreatDoor.V
