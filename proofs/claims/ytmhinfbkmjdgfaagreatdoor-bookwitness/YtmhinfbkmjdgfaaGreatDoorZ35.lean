import Derived.Test.YtmhinfbkmjdgfaaGreatDoorZ34
set_option linter.unusedVariables false
set_option linter.unusedSimpArgs false
set_option maxRecDepth 100000
set_option maxHeartbeats 2000000
namespace Go.Proofs.YtmhinfbkmjdgfaaGreatDoor.V
open Go.RowKit
open Go.Proofs.YtmhinfbkmjdgfaaGreatDoor.H (az Cp)
open Go.Proofs.YtmhinfbkmjdgfaaGreatDoor.M (bM)
section
variable {w w':World}{H:Hd}{s s':bc}{d d':Nat->List K.Pu}{O:Nat->Nat->Prop}{N:Nat->Prop}{c:R.Cl}{dd gg:R.Sl}{b:Nat}
theorem vG (hk:Kn w H s N)(hd:Fd w s N c dd gg)(hv2:c.op≠2/\c.op≠4/\c.op≠8/\c.op≠10)(i:Nat)(hi:c.op=(i:Int)):Calls Tryz.prog (jw i) #[aq H.kb,.agg (R.cC c dd gg).toArray] w (eD w H N (lD H.p s c)):=by
 obtain⟨d,h,ht,hf,hW⟩:=id hk
 have hop:=hd.op
 have key:∀k:Nat,i=k->c.op=(k:Int):=λk e=>by rw [<-e];exact hi
 unfold lD;match i,hi,key with
 | 0,hi,_=>omega
 | 1,hi,_ =>
  rw [if_pos (by omega)];have hkf:=EJ hf ht c.size
  unfold rh at hkf ⊢
  by_cases hm:S.eW H.p.room H.p.qN s.nx s.V c.size≠0
  ·rw [if_pos hm] at hkf ⊢
   refine (vO h hf hm).mono ?_
   rintro e w' ⟨rfl,hb⟩
   exact eD.plain rfl rfl (hk.later hb) (bd.later hb)
  ·rw [if_neg hm] at hkf ⊢
   by_cases hr:(D.bH H.p.d s.d s.nx).code≠0
   ·rw [if_pos hr] at hkf ⊢
    refine (tC h hf (Decidable.not_not.1 hm) hr).mono ?_
    rintro e w' ⟨rfl,hd2,hb⟩
    exact eD.plain rfl rfl (Kn.of hd2 hkf.2 hkf.1 hW) (bd.stay hb)
   ·rw [if_neg hr] at hkf ⊢
    refine (ju h hf (Decidable.not_not.1 hm) (Decidable.not_not.1 hr)).mono ?_
    rintro e w' ⟨rfl,N2,hd2,hw2⟩
    exact eD.plain rfl rfl (Kn.of hd2 hkf.2 hkf.1 hW) hw2
 | 2,hi,_=>omega
 | 3,hi,_ =>
  rw [if_neg (by omega),if_neg (by omega),if_pos (by omega)];refine (tf h hf hd.obj hd.hw).mono ?_
  rintro e w' ⟨rfl,hd2,hb⟩
  have:=F_ hf ht (fq c) c.aD
  exact eD.plain rfl rfl (Kn.of hd2 this.2 this.1 hW) (bd.stay hb)
 | 4,hi,_=>omega
 | 5,hi,_ =>
  rw [if_neg (by omega),if_neg (by omega),if_neg (by omega),if_neg (by omega),if_pos (by omega)];unfold uJ;by_cases hv:eS s c.given c.aE (fq c) 1≠0
  ·rw [if_pos hv]
   refine (Cs h ht hf hd.hw hd.aE hv).mono ?_
   rintro e w' ⟨rfl,T,hd2,ht2,hb⟩
   exact eD.plain rfl rfl (Kn.of hd2 ht2 hf hW) (bd.stay hb)
  ·rw [if_neg hv]
   refine (oO h ht hf hd.hw hd.aE hd.obj (by simpa using hv)).mono ?_
   rintro e w' ⟨a,n,cp,T,rfl,hO,hd2,ht2,hb⟩
   exact⟨a,n,cp,N,rfl,hO,Kn.of hd2 ht2 hf hW,bd.stay hb,λk hk e=>by have:=h.new (hO.dB k hk);exact this e⟩
 | 6,hi,_ =>
  rw [if_neg (by omega),if_neg (by omega),if_neg (by omega),if_neg (by omega),if_neg (by omega),if_pos (by omega)];unfold jN;by_cases hv:eS s c.given c.aE (fq c) 2≠0
  ·rw [if_pos hv]
   refine (za h ht hf hd.hw hd.aE hv).mono ?_
   rintro e w' ⟨rfl,T,hd2,ht2,hb⟩
   exact eD.plain rfl rfl (Kn.of hd2 ht2 hf hW) (bd.stay hb)
  ·rw [if_neg hv]
   have hrow:=hd.row
   refine (mb h ht hf hd.hw hd.aE hd.obj (by simpa using hv) hrow hd.is.data.small (λh0 j hj=>⟨hd.ap h0 j hj,?_⟩)).mono ?_
   ·obtain⟨b,o,e,hc⟩:=hrow.plain h0
    obtain⟨x,hx,rfl⟩:=hj
    rw [e] at hx;obtain rfl:(⟨b,o,none⟩:Addr)=x:=by simpa using hx
    have hl:=hrow.len
    exact World.block_lt_of_cell? _ _ (hc 0 _ (List.getElem?_eq_getElem (by omega)))
   ·rintro e w' ⟨T,rfl,hd2,ht2,hb⟩
    have hn:(dd.n:Int)=(c.data.length:Int):=by have:=hd.is.data.len;omega
    rw [hn];exact eD.plain rfl rfl (Kn.of hd2 ht2 (xQ hf _ _ _) hW) (bd.stay hb)
 | 7,hi,_ =>
  rw [if_neg (by omega),if_neg (by omega),if_neg (by omega),if_neg (by omega),if_neg (by omega),if_neg (by omega),if_pos (by omega)];have hkf:=Fz hf c.aE hd.aE (fq c) hd.hw
  unfold wC at hkf ⊢
  by_cases hq:lO H.p.W (fq c)=false
  ·rw [if_pos hq]
   refine (oM h hW hd.hw hq).mono ?_
   rintro e w' ⟨rfl,hb⟩
   exact eD.plain rfl rfl (hk.later hb) (bd.later hb)
  ·rw [if_neg hq] at hkf ⊢
   refine (sB h hf hW hd.hw hd.aE (Bool.not_eq_false _ ▸ hq:lO H.W (fq c)=true)).mono ?_
   rintro e w' ⟨rfl,N2,hd2,hw2⟩
   by_cases hl:H.p.lm<=((s.D c.aE).length:Int)
   ·rw [if_pos hl] at hkf ⊢
    have hl':H.lm<=((s.D c.aE).length:Int):=hl
    simp only [if_pos hl'] at hd2 ⊢
    exact eD.plain rfl rfl (Kn.of hd2 ht hf hW) hw2
   ·rw [if_neg hl] at hkf ⊢
    have hl':¬H.lm<=((s.D c.aE).length:Int):=hl
    simp only [if_neg hl'] at hd2 ⊢
    exact eD.plain rfl rfl (Kn.of hd2 ht hkf hW) hw2
 | 8,hi,_=>omega
 | 9,hi,_ =>
  rw [if_neg (by omega),if_neg (by omega),if_neg (by omega),if_neg (by omega),if_neg (by omega),if_neg (by omega),if_neg (by omega),if_neg (by omega),if_pos (by omega)];have hkf:=EG hf c.aE hd.aE c.aH
  have hgn:gg.n<=255:=by have:=hd.is.aH.len;have:=hd.gn;omega
  unfold BF at hkf ⊢
  by_cases hv:M.bX H.p.lm (s.D c.aE) c.aH≠0
  ·rw [if_pos hv]
   refine (Ae h hf hd.aE hd.aH hgn hv).mono ?_
   rintro e w' ⟨rfl,hb⟩
   exact eD.plain rfl rfl (hk.later hb) (bd.later hb)
  ·rw [if_neg hv] at hkf ⊢
   by_cases hp:P.dI H.p.pm s.px s.P=true
   ·rw [if_pos hp]
    refine (hJ h hf hd.aE hd.aH hgn (Decidable.not_not.1 hv) hp).mono ?_
    rintro e w' ⟨rfl,N2,hd2,hw2⟩
    exact eD.plain rfl rfl (Kn.of hd2 ht hf hW) hw2
   ·rw [if_neg hp] at hkf ⊢
    refine (zO h hf hd.aE hd.aH hgn (Decidable.not_not.1 hv) (Bool.not_eq_true _ ▸ hp)).mono ?_
    rintro e w' ⟨rfl,N2,hd2,hw2⟩
    exact eD.plain rfl rfl (Kn.of hd2 ht hkf hW) hw2
 | 10,hi,_=>omega
 | n+11,hi,_=>omega
theorem FA (hk:Kn w H s N)(hi:R.Is w c dd gg)(hb:R.fm c=true)(hl:s.P.contains c.aE=true)(hv2:c.op≠2/\c.op≠4/\c.op≠8/\c.op≠10)(hap:0<dd.n->∀j,aI dd.a j->¬N j) :
  Calls Tryz.prog 14 #[aq H.kb,.agg (R.cC c dd gg).toArray] w (eD w H N (lD H.p s c)):=by
 have QV:Hid (c.op≠2/\c.op≠4/\c.op≠8/\c.op≠10):=hv2
 obtain⟨d,h,ht,hf,hWd⟩:=id hk
 obtain⟨W,hW⟩:∃W,W=(w.alloc (Obj.cells (R.cC c dd gg).toArray 44)).alloc z6:=⟨_,rfl⟩
 have hB:Below w.heap.size w W:=by rw [hW];exact aB _ _ _
 have hX:R.Bx W w.heap.size (R.cC c dd gg):=by rw [hW];exact R.Bx.later (ag _ _) (R.Bx.new w (R.cC c dd gg) 44)
 have hZ:Zr W (w.heap.size+1):=by rw [hW];have:=Zr.new (w.alloc (Obj.cells (R.cC c dd gg).toArray 44));simpa using this
 have h2:=h.later hB
 have Pg:=ae (Dx hX)
 have HC:=ae (R.qf (R.cC c dd gg) c W ⟨_,_,rfl,hi.later hB⟩ hb)
 have Rt:=ae hf.iv
 have Pz:=ae hl
 have hfd:Fd w s N c dd gg:=⟨hi,hb,by simpa using hl,hap⟩
 obtain⟨i,hiq⟩:=Int.eq_ofNat_of_zero_le (show 0<=c.op by have:=hfd.op;omega)
 have h10:1<=i/\i<=10:=by have:=hfd.op;omega
 have XY:Hid (c.op=(i:Int)):=hiq
 have UP:=ae h10
 have We:Hid (∀U,Below w.heap.size w U->Calls Tryz.prog (jw i) #[aq H.kb,.agg (R.cC c dd gg).toArray] U (eD U H N (lD H.p s c))):=λU hU=>vG (hk.later hU) ⟨hfd.is.later hU,hfd.fm,hfd.aE,hfd.ap⟩ QV.out i hiq
 obtain⟨F,hF⟩:∃F,F=jw i:=⟨_,rfl⟩
 have HF:=ae hF
 have UB:Hid (∀a b u,Sem.run Tryz.prog (callFunc F #[a,b]) u=.ok (.enter F #[a,b]) u):=λa b u=>by rw [hF];exact AG i h10.1 h10.2 a b u
 rw [<-hF] at We;generalize lD H.p s c=A at *
 have HW:=ae hW
 have HB:=ae hB
 have HX:=ae hX
 have HZ:=ae hZ
 have HD:=ae h2
 have HP:Hid (0<w.heap.size):=by have:=h.b0;unfold Hid;omega
 have HN:=ae (λk hk=>h.new (k:=k) hk)
 clear h h2 hB hX hZ hW hk hf ht hi hb hl hap hfd hiq h10 hF;go_enter Tryz.func14,Tryz.ntmps14
 go_upto_region 1 with fail
 rw [<-HW.out];go_upto_region 2 with (first|((with_reducible refine R.aJ Pg.out ?_ ?_);(· rfl))|(go_at_call 60;refine HC.out.mono ?_;rintro e w1 ⟨a1,n1,c1,rfl,-,hb1⟩;have OI:=ae hb1;clear hb1))
 have Qp:Hid (∀U:World,Below w1.heap.size w1 U->Calls Tryz.prog 62 #[aq H.pg,ab c.aE] U λe w'=>e=.returned (.bool true)/\Below w1.heap.size w1 w'):=λU hU=>by
  have:=DW ((HD.out.later OI.out).later hU) Rt.out c.aE
  rw [Pz.out] at this;refine this.mono ?_
  rintro e w' ⟨he,q,hq⟩
  exact⟨he,by rw [hq];exact below_drewN hU _⟩
 have OL:=ae (R.Bx.later OI.out HX.out)
 have PM:Hid (∀U,aj (λ_=>False) w1 U->U.cell? ⟨H.kb,14,none⟩=some (aq H.pg)/\U.cell? ⟨w.heap.size,1,none⟩=some (ab c.aE)):=λU hU=>by
  have:=Cb.of (R.Bx.but hU OL.out (λh=>h))
  exact⟨an hU ((HD.out.later OI.out).kb 14 _ rfl) (λh=>h),this.c1⟩
 go_upto_region 4 with fail
 go_region_held3 (λU=>U.cell? ⟨H.kb,14,none⟩=some (aq H.pg)/\U.cell? ⟨w.heap.size,1,none⟩=some (ab c.aE)) (first|exact PM.out _ (aj.of (Below.refl _ _).drew)|exact HE.out) (first
   | (go_at_call 62;refine (Qp.out _ (Below.refl _ _).drew).mono ?_;rintro e w3 ⟨rfl,hb3⟩;have OJ:=ae hb3;have HE:=ae (PM.out w3 (aj.of OJ.out));clear hb3))
 have Pw:=ae (R.Bx.later OJ.out OL.out)
 have Po:Hid (Below w.heap.size w w3):=aa HB.out (aa OI.out OJ.out)
 have Sx:=ae (HZ.out.later (aa OI.out OJ.out))
 have SQ:Hid (∀U,aj (λk=>k≠w.heap.size) w3 U->(U.cell? ⟨w.heap.size,0,none⟩=some (ab (i:Int))/\R.Bx U w.heap.size (R.cC c dd gg))):=λU hU=>by
  have hx:=R.Bx.but hU Pw.out (λe=>e rfl)
  have:=(Cb.of hx).c0
  rw [XY.out] at this;exact⟨this,hx⟩
 have hi10:=UP.out
 clear HC Pg Qp;go_upto_region 6 with fail
 refine wp_region_held_drew (S:=(λU:World=>(U.cell? ⟨w.heap.size,0,none⟩=some (ab (i:Int))/\R.Bx U w.heap.size (R.cC c dd gg)))) (by kernel_rfl) (SQ.out _ (aj.of (Below.refl _ _).drew)) (λhHeld=>?_)
 refine nm 9 0 9 ?_
 refine tn 1 9 2 8 ?_
 simp only [zz];refine tn 2 9 6 7 ?_
 simp only [zz];refine tn 5 9 38 6 ?_
 simp only [zz];refine tv 6 (v:=.agg (R.cC c dd gg).toArray) ?_ ?_
 ·(intro w hSw;(try dsimp only at hSw);exact K.fD rfl rfl (Dx hSw.2))
 simp only [zz];refine nm 9 102 5 ?_
 refine zr 0 λK hK=>?_
 go_simp
 go_wp2_with (first|(go_at_call 63;refine (wq w3.drew).mono ?_;rintro e u1 ⟨rfl,hc1,hb1⟩;have PF:Hid (Below w3.heap.size w3 u1):=aa (Below.refl _ _).drew hb1;have yF:u1.cell? ⟨w3.heap.size,i,none⟩=some (.func (.func (jw i)) #[] #[]):=hc1 i UP.out.1 UP.out.2;rw [<-HF.out] at yF;clear hc1 hb1))
 refine zk hK 9 103 4 (SQ.out u1 (aj.of PF.out)) λhHeld=>?_
 clear hK K;try simp only [zz]
 refine tv 3 (v:=.pointer (some ⟨w3.heap.size,i,none⟩)) ?_ ?_
 ·(intro w hSw;(try dsimp only at hSw);go_simp;intro hh;exfalso;omega)
 simp only [zz];refine nm 9 111 3 ?_
 refine zr 4 λK hK=>?_
 go_simp
 refine zk hK 9 127 2 (SQ.out u1 (aj.of PF.out)) λhHeld=>?_
 clear hK K;try simp only [zz]
 refine zr 7 λK hK=>?_
 go_simp
 rw [UB.out,Oper.upon_enter];go_wp2_with (first|((with_reducible refine (We.out u1 (aa Po.out PF.out)).mono ?_);rintro e u2 ⟨a,n,cp,N2,rfl,ho2,hk2,hw2,hd2⟩;have O0:=ae ho2;have PG:=ae hk2;have PC:=ae hw2;have PO:=ae hd2;have Sr:Hid (aj (λk=>k≠w.heap.size) w3 u2):=(aj.of PF.out).trans (aj.mono (T:=λk=>k≠w.heap.size) hw2.2 (λk hk e=>HN.out k (by omega) hk));have OY:=ae ((Sx.out.later PF.out).but hw2.2 (HN.out _ (by omega)));have Pc:=ae (OY.out.lv A.1 a n cp);have O3:=ae (OY.out.st A.1 a n cp);have OU:Hid (aj (λk=>k=w.heap.size+1) u2 (u2.setCells (w.heap.size+1) 0 (aZ A.1 a n cp))):=R.au (S:=(λk=>k=w.heap.size+1)) rfl _ 0 (aj.refl _ _);have Xy:Hid (aj (λk=>k≠w.heap.size) w3 (u2.setCells (w.heap.size+1) 0 (aZ A.1 a n cp))):=Sr.out.trans (aj.mono (T:=λk=>k≠w.heap.size) OU.out (λk hk e=>by omega));clear ho2 hk2 hw2 hd2))
 refine zk hK 9 255 1 (SQ.out u2 Sr.out) λhHeld=>?_
 clear hK K;try simp only [zz]
 refine zr 8 λK hK=>?_
 rw [if_pos (by kernel_rfl)];refine eh 40 (.tmp 4) (.tmp 32) rfl _ _ rfl rfl _ O3.out ?_
 refine zk hK 9 511 0 (SQ.out _ Xy.out) λhHeld=>?_
 clear hK K;try simp only [zz]
 refine zn ?_ _
 go_wp2;have hlt:w.heap.size+1<u1.heap.size:=Nat.lt_of_lt_of_le Sx.out.lt PF.out.size
 have h1:=(bd.later (N:=N) (aa Po.out PF.out)).trans PC.out
 refine bodyPost_ret (v:=bR A.1 a n cp) (by simp [results,Tryz.results14,asAddr,Pc.out]) rfl ⟨a,n,cp,N2,rfl,?_,?_,⟨h1.1,h1.2.comp OU.out (λi e=>.inr (by omega))⟩,PO.out⟩
 ·exact Own.but OU.out (O0.out.mono (by omega)) (λk hk e=>by have:=O0.out.dB k hk;omega)
 ·exact PG.out.but OU.out (λk hk e=>PC.out.out (b:=k) (by omega) (HN.out _ (by omega)) hk) (λe=>by omega)
theorem Bi (hk:Kn w H s N)(hi:R.Is w c dd gg)(hv2:c.op≠2/\c.op≠4/\c.op≠8/\c.op≠10)(hap:0<dd.n->∀j,aI dd.a j->¬N j) :
  Calls Tryz.prog 14 #[aq H.kb,.agg (R.cC c dd gg).toArray] w (eD w H N (tU H.p s c)):=by
 unfold tU;by_cases hb:R.fm c=true
 ·rw [if_neg (by simp [hb])]
  by_cases hl:s.P.contains c.aE=true
  ·rw [if_neg (by simp only [hl];decide)]
   exact FA hk hi hb hl hv2 hap
  ·rw [if_pos (by simpa using hl)]
   refine (Cd hk hi hb (by simpa using hl)).mono ?_
   rintro e w' ⟨rfl,hw⟩
   exact eD.plain rfl rfl (hk.later hw) (bd.later hw)
 ·rw [if_pos (by simpa using hb)]
  refine (Fv hk hi (by simpa using hb)).mono ?_
  rintro e w' ⟨rfl,hw⟩
  exact eD.plain rfl rfl (hk.later hw) (bd.later hw)
end
end Go.Proofs.YtmhinfbkmjdgfaaGreatDoor.V
namespace Go.Proofs.YtmhinfbkmjdgfaaGreatDoor.V
open Go.RowKit
open Go.Proofs.YtmhinfbkmjdgfaaGreatDoor.H (az Cp)
def In (w:World)(lo:Nat)(H:Hd)(s:bc)(g:Nat)(Q:B.Bv)(Z:Nat)(bs:List Nat):Prop :=
 ∃N m,Kn w H s N/\B.Bk (λj=>¬N j/\¬j∈bs) w m Q/\B.Sz Q Z/\(∀j,N j->¬B.cA m j)/\¬B.cA m 0/\m.g=g/\(∀b∈bs,0<b/\b<w.heap.size/\¬N b/\¬B.cA m b)/\(∀j,N j\/B.cA m j->lo<=j)/\lo<=w.heap.size
section
variable {w w':World}{H:Hd}{s s':bc}{g Z Z' b lo:Nat}{Q Q':B.Bv}{bs:List Nat}
theorem In.later (h:In w lo H s g Q Z bs)(hb:Below w.heap.size w w'):In w' lo H s g Q Z bs:=by
 obtain⟨N,m,h1,h2,h3,h4,h5,h6,h7,h8,h9⟩:=h
 exact⟨N,m,h1.later hb,h2.later hb,h3,h4,h5,h6,λb hm=>⟨(h7 b hm).1,Nat.lt_of_lt_of_le (h7 b hm).2.1 hb.size,(h7 b hm).2.2⟩,h8,Nat.le_trans h9 hb.size⟩
theorem In.new (h:In w lo H s g Q Z bs)(hb:Below w.heap.size w w')(h1:w.heap.size<=b)(h2:b<w'.heap.size):In w' lo H s g Q Z (b::bs):=by
 obtain⟨N,m,k1,k2,k3,k4,k5,k6,k7,k8,k9⟩:=h
 have h0:=k1.b0
 refine⟨N,m,k1.later hb,k2.v_ (S:=λ_=>False) (B.aj.of hb) (λ_ h=>h.elim) (λk hk hp=>⟨λh=>h,hp.1,λhm=>?_⟩) (λk hk=>⟨k1.new (Nat.le_trans hb.size hk),λhm=>?_⟩),k3,k4,k5,k6,λc hc=>?_,k8,Nat.le_trans k9 hb.size⟩
 ·rcases List.mem_cons.1 hm with rfl|hm
  ·omega
  ·exact hp.2 hm
 ·have:=hb.size
  rcases List.mem_cons.1 hm with rfl|hm
  ·omega
  ·have:=(k7 k hm).2.1;omega
 ·rcases List.mem_cons.1 hc with rfl|hc
  ·exact⟨by omega,h2,k1.new h1,λe=>by have:=k2.bw.cK _ e;omega⟩
  ·exact⟨(k7 c hc).1,Nat.lt_of_lt_of_le (k7 c hc).2.1 hb.size,(k7 c hc).2.2⟩
theorem In.start {N:Nat->Prop}(k:Kn w H s N)(hN:∀k,N k->lo<=k)(hlo:lo<=w.heap.size)(hbs:∀b∈bs,0<b/\b<w.heap.size/\¬N b)(hB:B.Bw w' (B.m0 w.heap.size))(hb:Below w.heap.size w w'):In w' lo H s (w.heap.size+5) B.B0 0 bs:=by
 have h0:=k.b0
 have hO:∀j,B.cA (B.m0 w.heap.size) j->w.heap.size<=j:=by
  rintro j (h|⟨k,hk,_⟩|⟨k,hk,_⟩)
  ·simp [B.Bm.aR,B.m0,B.kk] at h
   omega
  ·cases hk
  ·cases hk
 have hs:=hb.size
 refine⟨N,_,k.later hb,B.Bk.zero hB (λj hj=>⟨k.new (Nat.le_trans hs hj),λhm=>by have:=(hbs j hm).2.1;omega⟩),B.Sz.zero,λj hj e=>by have:=hO j e;have:=(k.mQ j hj).2;omega,λe=>by have:=hO _ e;omega,rfl,λb hm=>⟨(hbs b hm).1,by have:=(hbs b hm).2.1;omega,(hbs b hm).2.2,λe=>by have:=hO _ e;have:=(hbs b hm).2.1;omega⟩,λj hj=>hj.elim (hN j) (λe=>by have:=hO j e;omega),by omega⟩
theorem In.step (h:In w lo H s g Q Z bs)(x:B.Cq)(ds:List Nat)(gs:List Int)(rr:dZ)(hx:x.ok)(hr:B.Row w x.d.a x.d.n x.d.c ds)(hg:B.RI w x.gs.a x.gs.n x.gs.c gs)(hdb:∀j,B.aI x.d.a j->j∈bs)(hgb:∀j,B.aI x.gs.a j->j∈bs)
  (hd1:x.d.n<=100000) (hg1:x.gs.n<=100000) (hrd:rr.data.length<=100000) (hZ:Z<=100000) (hsm:∀x∈rr.data,x<256) (hc:(mT rr.cap).eY) (jn:B.bQ rr.num) (hv2:x.op≠2/\x.op≠4/\x.op≠8/\x.op≠10) (hdo:tU H.p s (H8 x ds gs)=(rr,s'))
  (hno:∀(P:Nat->Prop) (U:World) (m:B.Bm) (d gl d':B.Sl),gl.n=x.gs.n->d'.n=rr.data.length->B.DZ P U m Q (x.with d gl) (mT rr.cap) d' rr.num ds gs Z->Calls Tryz.prog 38 #[aq m.g,(x.with d gl).v,B.bR rr.code (mT rr.cap) d' rr.num] U λe w'=>e=.returned (.tuple #[])/\B.Nx P U w' m Q' Z') :
  Calls Tryz.prog 29 #[aq H.kb,aq g,x.v] w λe w'=>∃a n cp,e=.returned (bR rr a n cp)/\In w' lo H s' g Q' Z' bs/\aj (λj=>lo<=j/\¬j∈bs) w w':=by
 obtain⟨N,m,k1,k2,k3,k4,k5,rfl,k7,k8,k9⟩:=h
 refine (fW (X:=λj=>j∈bs) (rr:=rr) (s':=s') (Q':=Q') (Z':=Z') k1 k2 (λj hj=>(k7 j hj).2.1) k4 k5 hx hr hg (λj hj=>(k7 j (hdb j hj)).2.2.1) (λj hj=>(k7 j (hgb j hj)).2.2.1) (by omega) (by omega) (by omega) hsm (λU dd gg hU hi hp=>?_) (λP U d gl d' hB h1 h2 h3 h4 h5 h6 h7 h8 h9 h10=>hno P U m d gl d' h8 h9 ⟨hB,⟨hx.op,hx.b,hx.c,hx.rt,hx.off,hx.ix⟩,hc,jn,k3,?_,h1,λj hj=>⟨h3 j hj,h5 j hj⟩,h10,h2,λj hj=>⟨h4 j hj,h6 j hj⟩⟩)).mono ?_
 ·have:=Bi hU hi hv2 hp
  rw [hdo] at this;exact this
 ·show Z+3+gl.n+d'.n+d.n<=50000000
  omega
 ·rintro e w' ⟨a,n,cp,N',m',he,hO,q1,q2,q3,q4,q5,hbt,q6,q7,q8,q9⟩
  have hs:=hbt.size
  refine⟨a,n,cp,he,⟨N',m',q1,q2,q3,q4,q7,q5,λb hb=>?_,λj hj=>?_,by omega⟩,hbt.mono (λj hj=>⟨k8 j hj,λhm=>hj.elim (k7 j hm).2.2.1 (k7 j hm).2.2.2⟩)⟩
  ·obtain⟨a1,a2,a3,a4⟩:=k7 b hb
   exact⟨a1,by omega,λe=>(q6 b e).elim a3 (λh=>by omega),λe=>(q9 b e).elim a4 (λh=>by omega)⟩
  ·rcases hj with h|h
   ·exact (q6 j h).elim (λh=>k8 j (.inl h)) (λh=>by omega)
   ·exact (q9 j h).elim (λh=>k8 j (.inr h)) (λh=>by omega)
end
abbrev cB (N:Nat):B.Cp:=mT (D.cap 1 N)
abbrev nl:B.Sl:=⟨none,0,0⟩
abbrev x1:B.Cq:=⟨1,0,300,⟨0,0,0⟩,false,0,0,0,nl,0,nl⟩
abbrev x2 (c:B.Cp):B.Cq:=⟨3,0,0,c,false,1,0,0,nl,0,nl⟩
abbrev x3 (c:B.Cp):B.Cq:=⟨7,0,0,c,false,0,0,0,nl,0,nl⟩
abbrev x4 (s:B.Sl):B.Cq:=⟨9,0,0,⟨0,0,0⟩,false,0,0,0,nl,0,s⟩
abbrev x6 (b:Int)(c:B.Cp)(off:Int)(s:B.Sl):B.Cq:=⟨6,b,0,c,true,0,off,0,s,0,nl⟩
abbrev x7:B.Cq:=⟨5,2,0,⟨1,0,0⟩,false,0,0,240,nl,0,nl⟩
section
variable {w:World}{H:Hd}{g lo n t N M o:Nat}{off:Int}{Q:B.Bv}{f:Nat->Nat}{bs:List Nat}
theorem fK (h:N<az):(cB N).eY:=by
 show B.Cp.eY ⟨1,N / az,N%az⟩
 rw [Nat.div_eq_of_lt h,Nat.mod_eq_of_lt h];exact⟨by constructor<;>simp,by show 0<18446744073709551616;decide,h⟩
theorem iG:B.Cp.eY ⟨0,0,0⟩:=⟨by constructor<;>simp,by show 0<18446744073709551616;decide,by show 0<18446744073709551616;decide⟩
theorem jV (N:Nat):B.dm (cB N)=true:=rfl
theorem Ff (h1:N<az)(h2:M<az)(h:D.cap 1 M≠D.cap 1 N):B.bP (cB N)≠B.bP (cB M):=by
 intro e;refine h ?_
 have e2:=congrArg (λL=>(L.drop 8).take 8) e
 have e3:B.bj (N%az) 8=B.bj (M%az) 8:=by
  have q:∀x y z:Nat,((B.bj x 8++B.bj y 8++B.bj z 8).drop 8).take 8=B.bj y 8:=λx y z=>by
   rw [List.append_assoc,List.drop_append_of_le_length (by rw [B.aW];omega),List.drop_of_length_le (by rw [B.aW];omega),List.nil_append,List.take_append_of_le_length (by rw [B.aW];omega),List.take_of_length_le (by rw [B.aW];omega)]
  have a1:=q 1 (N%az) (N / az)
  have a2:=q 1 (M%az) (M / az)
  rw [<-a1,<-a2];exact e2
 have e4:N%az=M%az:=B.CH (Nat.mod_lt _ (by decide)) (Nat.mod_lt _ (by decide)) e3
 rw [Nat.mod_eq_of_lt h1,Nat.mod_eq_of_lt h2] at e4;rw [e4]
theorem bh (w:World):B.Row w none 0 0 []:=⟨rfl,Nat.le_refl _,λ_=>⟨rfl,rfl⟩,λx hx=>by (cases hx),λx hx=>by cases hx⟩
theorem fu (w:World):B.RI w none 0 0 []:=⟨rfl,Nat.le_refl _,λ_=>⟨rfl,rfl⟩,λx hx=>by cases hx⟩
theorem bI {P:Nat->Prop}:∀j,B.aI none j->P j:=λj ⟨x,h,_⟩=>by cases h
theorem gi {P:Nat->Prop}{U:World}{m:B.Bm}{Q:B.Bv}{Z1 Z2:Nat}{fn:Nat}{av:Array Value}(h:Calls Tryz.prog fn av U λe w'=>e=.returned (.tuple #[])/\B.Nx P U w' m Q Z1)(hz:Z1<=Z2):Calls Tryz.prog fn av U λe w'=>e=.returned (.tuple #[])/\B.Nx P U w' m Q Z2 :=
 h.mono (λe w' ⟨h1,m',k1,k2,k3⟩=>⟨h1,m',k1,k2,k3.mono hz⟩)
abbrev xr (w:World)(lo:Nat)(H:Hd)(s:bc)(g:Nat)(Q:B.Bv)(Z:Nat)(bs:List Nat)(rr:dZ)(e:Ending)(w':World):Prop:=∃a n cp,e=.returned (bR rr a n cp)/\In w' lo H s g Q Z bs/\aj (λj=>lo<=j/\¬j∈bs) w w'
theorem aT:B.bQ 0:=by constructor<;>simp
theorem IG (h:In w lo H jk g B.B0 0 bs)(hp:H.p=pW n f)(hn:0<n)(hf:f 0<az):Calls Tryz.prog 29 #[aq H.kb,aq g,x1.v] w (xr w lo H (ft (f 0)) g (B.mJ (cB (f 0))) 3 bs ⟨0,D.cap 1 (f 0),[],0⟩) :=
 h.step x1 [] [] ⟨0,D.cap 1 (f 0),[],0⟩ ⟨by constructor<;>simp,aT,iG,aT,aT,aT⟩ (bh w) (fu w) bI bI (by simp) (by simp) (by simp) (by simp) (λx hx=>by cases hx) (fK hf) aT (by simp) (by rw [hp];exact JQ hn)
  (λP U m d gl d' e1 e2 ha=>gi (B.vW m B.B0 (x1.with d gl) 0 0 (cB (f 0)) d' [] [] 0 U ha rfl rfl) (by show 0+3+gl.n+d'.n<=3;simp at e1 e2;omega))
theorem GC (h:In w lo H jk g B.B0 0 bs)(hp:H.p=pW 0 f):Calls Tryz.prog 29 #[aq H.kb,aq g,x1.v] w (xr w lo H jk g (B.iz B.B0) 3 bs (rep 11)) :=
 h.step x1 [] [] (rep 11) ⟨by constructor<;>simp,aT,iG,aT,aT,aT⟩ (bh w) (fu w) bI bI (by simp) (by simp) (by simp [rep]) (by simp) (λx hx=>by cases hx) iG aT (by simp) (by rw [hp];exact Jm)
  (λP U m d gl d' e1 e2 ha=>gi (B.iw m B.B0 (x1.with d gl) 11 0 ⟨0,0,0⟩ d' [] [] 0 U ha (by decide)) (by show 0+3+gl.n+d'.n<=3;simp [rep] at e1 e2;omega))
theorem Hq (h:In w lo H jk g (B.iz B.B0) 3 bs):Calls Tryz.prog 29 #[aq H.kb,aq g,(x2 ⟨0,0,0⟩).v] w (xr w lo H jk g (B.iz (B.iz B.B0)) 6 bs (rep 3)) :=
 h.step (x2 ⟨0,0,0⟩) [] [] (rep 3) ⟨by constructor<;>simp,aT,iG,by constructor<;>simp,aT,aT⟩ (bh w) (fu w) bI bI (by simp) (by simp) (by simp [rep]) (by simp) (λx hx=>by cases hx) iG aT (by simp) IB
  (λP U m d gl d' e1 e2 ha=>gi (B.iw m (B.iz B.B0) ((x2 ⟨0,0,0⟩).with d gl) 3 0 ⟨0,0,0⟩ d' [] [] 3 U ha (by decide)) (by show 3+3+gl.n+d'.n<=6;simp [rep] at e1 e2;omega))
def JR (w:World)(lo:Nat)(H:Hd)(g:Nat)(N:Nat)(bs:List Nat)(e:Ending)(w':World):Prop :=
 ∃rr s Q,(∃a n cp,e=.returned (bR rr a n cp)/\In w' lo H s g Q 6 bs/\aj (λj=>lo<=j/\¬j∈bs) w w')/\((rr.code=0/\∃M t,rr=⟨0,D.cap 1 M,[],0⟩/\M<az/\D.cap 1 M≠D.cap 1 N/\s=jM N M t/\Q=B.qz (cB N) (cB M))\/rr.code=11\/rr.code=12)
theorem Ip (h:In w lo H (ft N) g (B.mJ (cB N)) 3 bs)(hp:H.p=pW n f)(hn:0<n)(hf:∀i,i<n->f i<az)(hN:N<az):Calls Tryz.prog 29 #[aq H.kb,aq g,(x2 (cB N)).v] w (JR w lo H g N bs):=by
 obtain⟨r,s',hd,h1,h2,h3⟩:=JE (N:=N) hf hn
 obtain⟨cd,cp,dt,nu⟩:=r
 simp only at h1 h2;subst h1;subst h2;rcases h3 with ⟨h4,M,t,h5,h6,h7,rfl⟩|⟨h4,h5⟩
 ·simp only at h4 h5
  subst h4;subst h5;refine (h.step (Q':=B.qz (cB N) (cB M)) (Z':=6) (x2 (cB N)) [] [] ⟨0,D.cap 1 M,[],0⟩ ⟨by constructor<;>simp,aT,fK hN,by constructor<;>simp,aT,aT⟩ (bh w) (fu w) bI bI (by simp) (by simp) (by simp) (by simp) (λx hx=>by cases hx) (fK h6) aT (by simp) (by rw [hp];exact hd)
   (λP U m d gl d' e1 e2 ha=>gi (B.wR m (B.mJ (cB N)) ((x2 (cB N)).with d gl) 0 0 (cB M) d' [] [] 3 U ha rfl rfl) (by show 3+3+gl.n+d'.n<=6;simp at e1 e2;omega))).mono ?_
  exact λe w' hx=>⟨_,_,_,hx,.inl ⟨rfl,M,t,rfl,h6,h7,rfl,rfl⟩⟩
 ·simp only at h4 h5
  subst h4;have h6:cd≠0:=by omega
  refine (h.step (Q':=B.iz (B.mJ (cB N))) (Z':=6) (x2 (cB N)) [] [] ⟨cd,(0,0,0),[],0⟩ ⟨by constructor<;>simp,aT,fK hN,by constructor<;>simp,aT,aT⟩ (bh w) (fu w) bI bI (by simp) (by simp) (by simp) (by simp) (λx hx=>by cases hx) iG aT (by simp) (by rw [hp];exact hd)
   (λP U m d gl d' e1 e2 ha=>gi (B.iw m (B.mJ (cB N)) ((x2 (cB N)).with d gl) cd 0 ⟨0,0,0⟩ d' [] [] 3 U ha h6) (by show 3+3+gl.n+d'.n<=6;simp at e1 e2;omega))).mono ?_
  exact λe w' hx=>⟨_,_,_,hx,.inr h5⟩
theorem sl (h:In w lo H (jM N M t) g (B.qz (cB N) (cB M)) 6 bs)(hp:H.p=pW n f)(hM:M<az):Calls Tryz.prog 29 #[aq H.kb,aq g,(x3 (cB M)).v] w (xr w lo H (DS N M t) g (B.qV (cB N) (cB M)) 9 bs (rep 0)) :=
 h.step (x3 (cB M)) [] [] (rep 0) ⟨by constructor<;>simp,aT,fK hM,aT,aT,aT⟩ (bh w) (fu w) bI bI (by simp) (by simp) (by simp [rep]) (by simp) (λx hx=>by cases hx) iG aT (by simp) (by rw [hp];exact JK hM)
  (λP U m d gl d' e1 e2 ha=>gi (B.Fk m (B.qz (cB N) (cB M)) ((x3 (cB M)).with d gl) 0 ⟨0,0,0⟩ d' [] [] 6 U ha rfl) (by show 6+3+gl.n+d'.n<=9;simp [rep] at e1 e2;omega))
theorem Jl (h:In w lo H (DS N M t) g (B.qV (cB N) (cB M)) 9 bs)(hp:H.p=pW n f)(a:Option Addr)(cp:Nat)(hg:B.RI w a 1 cp [0])(hb:∀j,B.aI a j->j∈bs):Calls Tryz.prog 29 #[aq H.kb,aq g,(x4 ⟨a,1,cp⟩).v] w (xr w lo H (DH N M t) g (B.pI (cB N) (cB M)) 13 bs ⟨0,(0,0,0),[],1⟩) :=
 h.step (x4 ⟨a,1,cp⟩) [] [0] ⟨0,(0,0,0),[],1⟩ ⟨by constructor<;>simp,aT,iG,aT,aT,aT⟩ (bh w) hg bI hb (by simp) (by simp) (by simp) (by simp) (λx hx=>by cases hx) iG (by constructor<;>simp) (by simp) (by rw [hp];exact JU)
  (λP U m d gl d' e1 e2 ha=>gi (B.qX m (B.qV (cB N) (cB M)) ((x4 ⟨a,1,cp⟩).with d gl) 0 1 ⟨0,0,0⟩ d' [] [0] 9 U ha rfl rfl) (by show 9+3+gl.n+d'.n<=13;simp at e1 e2;omega))
theorem I7 (h:In w lo H (DH N M t) g (B.pI (cB N) (cB M)) 13 bs)(hp:H.p=pW n f)(a:Option Addr)(cp:Nat)(hg:B.RI w a 1 cp [0])(hb:∀j,B.aI a j->j∈bs):Calls Tryz.prog 29 #[aq H.kb,aq g,(x4 ⟨a,1,cp⟩).v] w (xr w lo H (BO N M t) g (B.po (cB N) (cB M)) 17 bs ⟨0,(0,0,0),[],2⟩) :=
 h.step (x4 ⟨a,1,cp⟩) [] [0] ⟨0,(0,0,0),[],2⟩ ⟨by constructor<;>simp,aT,iG,aT,aT,aT⟩ (bh w) hg bI hb (by simp) (by simp) (by simp) (by simp) (λx hx=>by cases hx) iG (by constructor<;>simp) (by simp) (by rw [hp];exact JC)
  (λP U m d gl d' e1 e2 ha=>gi (B.qX m (B.pI (cB N) (cB M)) ((x4 ⟨a,1,cp⟩).with d gl) 0 2 ⟨0,0,0⟩ d' [] [0] 13 U ha rfl rfl) (by show 13+3+gl.n+d'.n<=17;simp at e1 e2;omega))
abbrev fB (N:Nat):List Nat:=B.bP (cB N)
theorem Ja (h:In w lo H (BO N M t) g (B.po (cB N) (cB M)) 17 bs)(hp:H.p=pW n f)(hN:N<az)(off:Int)(h0:0<=off)(h1:off<200)(a:Option Addr)(cp:Nat)(hg:B.Row w a 24 cp (fB N))(hb:∀j,B.aI a j->j∈bs):Calls Tryz.prog 29 #[aq H.kb,aq g,(x6 0 (cB N) off ⟨a,24,cp⟩).v] w (xr w lo H (nr N M t (fB N) off.toNat) g (B.ui (cB N) (cB M) off) 20 bs (rep 0)) :=
 h.step (x6 0 (cB N) off ⟨a,24,cp⟩) (fB N) [] (rep 0) ⟨by constructor<;>simp,aT,fK hN,aT,by constructor<;>simp<;>omega,aT⟩ hg (fu w) hb bI (by simp) (by simp) (by simp [rep]) (by simp) (λx hx=>by cases hx) iG aT (by simp) (by rw [hp];exact JW h0 h1 (B.cG _))
  (λP U m d gl d' e1 e2 ha=>gi (B.pD m (B.po (cB N) (cB M)) ((x6 0 (cB N) off ⟨a,24,cp⟩).with d gl) 0 0 ⟨0,0,0⟩ d' (fB N) [] 17 U ha rfl rfl) (by show 17+3+gl.n+d'.n<=20;simp [rep] at e1 e2;omega))
theorem Ji (h:In w lo H (nr N M t (fB N) o) g (B.ui (cB N) (cB M) off) 20 bs)(hp:H.p=pW n f)(hne:D.cap 1 M≠D.cap 1 N)(ho:o<200):Calls Tryz.prog 29 #[aq H.kb,aq g,x7.v] w (xr w lo H (nr N M t (fB N) o) g (B.Ep (cB N) (cB M) off) 263 bs ⟨0,(0,0,0),(S.dM iq (fB N) o).take 240,0⟩):=by
 have hl:(fB N).length=24:=B.cG _
 have h2:((S.dM iq (fB N) o).take 240).length=240:=by rw [List.length_take,oF (by omega)];rfl
 refine h.step x7 [] [] ⟨0,(0,0,0),(S.dM iq (fB N) o).take 240,0⟩ ⟨by constructor<;>simp,by constructor<;>simp,⟨by constructor<;>simp,by show 0<18446744073709551616;decide,by show 0<18446744073709551616;decide⟩,aT,aT,aT⟩ (bh w) (fu w) bI bI (by simp) (by simp) (by show _<=100000;rw [h2];omega) (by simp) (λx hx=>wM (B.fp _) x (List.mem_of_mem_take hx)) iG aT (by simp) (by rw [hp];exact J9 hne (by omega))
  (λP U m d gl d' e1 e2 ha=>?_)
 have e3:d'.n=240:=e2.trans h2
 have:=gi (B.BM m (B.ui (cB N) (cB M) off) (x7.with d gl) 0 0 ⟨0,0,0⟩ d' [] [] 20 U ha rfl rfl) (Z2:=263) (by show 20+3+gl.n+d'.n<=263;simp at e1;omega)
 rw [e3] at this;exact this
theorem I2 (h:In w lo H (nr N M t (fB N) o) g Q 263 bs)(hp:H.p=pW n f)(hN:N<az)(ho:o<200)(a:Option Addr)(cp:Nat)(hg:B.Row w a 1 cp [1])(hb:∀j,B.aI a j->j∈bs):Calls Tryz.prog 29 #[aq H.kb,aq g,(x6 2 (cB N) 0 ⟨a,1,cp⟩).v] w (λe w'=>∃s Q',xr w lo H s g Q' 266 bs (rep 0) e w'):=by
 have hl:(fB N).length=24:=B.cG _
 obtain⟨s',hs⟩:=JB (n:=n) (f:=f) (N:=N) (M:=M) (t:=t) (K:=fB N) (o:=o) (by omega)
 exact (h.step (Q':=B.lL (x6 2 (cB N) 0 ⟨a,1,cp⟩) [1] (B.iz Q)) (Z':=266) (x6 2 (cB N) 0 ⟨a,1,cp⟩) [1] [] (rep 0) ⟨by constructor<;>simp,by constructor<;>simp,fK hN,aT,aT,aT⟩ hg (fu w) hb bI (by simp) (by simp) (by simp [rep]) (by simp) (λx hx=>by cases hx) iG aT (by simp) (by rw [hp];exact hs)
  (λP U m d gl d' e1 e2 ha=>gi (B.pD m Q ((x6 2 (cB N) 0 ⟨a,1,cp⟩).with d gl) 0 0 ⟨0,0,0⟩ d' [1] [] 263 U ha rfl rfl) (by show 263+3+gl.n+d'.n<=266;simp [rep] at e1 e2;omega))).mono (λe w' h=>⟨_,_,h⟩)
end
end Go.Proofs.YtmhinfbkmjdgfaaGreatDoor.V
