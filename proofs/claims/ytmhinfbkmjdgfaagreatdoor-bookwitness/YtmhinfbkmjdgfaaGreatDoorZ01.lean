import Derived.Deep.LoopGhost
import Derived.BigRegion
import Derived.Test.YtmhinfbkmjdgfaaGreatDoorZ00
set_option linter.unusedVariables false
set_option linter.unusedSimpArgs false
set_option maxRecDepth 100000
set_option maxHeartbeats 2000000
namespace Go.Proofs.YtmhinfbkmjdgfaaGreatDoor
open Go.RowKit
variable {l:Fo}{c:List Int}{N:List Nd}{b g gb i m o o' p:Nat}{x y:Nd}{u:Value}{w:World}
abbrev Gd (g:Nat):Value:=.func (.func 404) #[aq g] #[]
theorem uU (h:Ki w g gb m l)(n p:Int)(hn:(n,p)∈l) :
  Calls Tryz.prog 357 #[aq g,ab n] w λe w'=>e=.returned (.tuple #[ab p,.bool true])/\w'=w:=by
 have hm:=aL.2 ⟨p,hn⟩
 have hh:=cI h n
 rw [decide_eq_true hm] at hh;obtain⟨N,hT,hR⟩:=h
 obtain⟨k,x,rfl,hk,hx⟩:=hR.get hm
 have hc:=lG hT k hk
 have c1:=(hT.at_ k x hx).c1
 rw [(hR.pU k x p hx hn).2] at c1;clear hT hR hn hm;go_enter Tryz.func357,Tryz.ntmps357
 go_wp2_with (first|(go_at_call 356;refine hh.mono ?_;rintro e w1 ⟨rfl,rfl⟩)|(go_at_call 404;refine hc.mono ?_;rintro e w1 ⟨rfl,rfl⟩))
 exact bodyPost_ret (v:=.tuple #[ab p,.bool true]) (by simp [results,Tryz.results357,go_sem]) rfl ⟨rfl,rfl⟩
def EO (gb p:Nat)(c:List Int)(i:Nat):Value:=.pointer (some ⟨gb,my p c i*4+pw i,none⟩)
def Bb (gb p:Nat)(c:List Int)(s:Nat)(w:World)(k:Nat)(t:Value)(w':World):Prop:=∃i,i+k=s/\t=EO gb p c i/\w'=w
theorem fb.cell (h:Tm w g gb m N)(hc:fb N p c)(hi:i<=c.length) :
  my p c i<m/\w.cell? ⟨gb,my p c i*4+pw i,none⟩=some (ab (nx c i)):=by
 cases i with
 | zero =>
  obtain⟨x,hx,hx2⟩:=hc.top
  have:=(List.getElem?_eq_some_iff.1 hx).1
  rw [<-hx2];exact⟨by rw [<-h.len];exact this,(h.at_ p x hx).c2⟩
 | succ j =>
  obtain⟨k,x,hk,hx,hx2⟩:=hc.Jv j _ (List.getElem?_eq_getElem (by omega))
  have:=(List.getElem?_eq_some_iff.1 hx).1
  have e:my p c (j+1)=k:=by
   show (nx c j).toNat=k
   rw [gY (by omega)];omega
  rw [e,<-hx2];exact⟨by rw [<-h.len];exact this,(h.at_ k x hx).c3⟩
theorem fb.num (hc:fb N p c)(hm:N.length=m)(hi:i<c.length):∃k:Nat,nx c i=(k:Int)/\k<m/\my p c (i+1)=k:=by
 obtain⟨k,x,hk,hx,hx2⟩:=hc.Jv i _ (List.getElem?_eq_getElem hi)
 have:=(List.getElem?_eq_some_iff.1 hx).1
 refine⟨k,by rw [gY hi];exact hk,by omega,?_⟩
 show (nx c i).toNat=k
 rw [gY hi];omega
theorem r9 (h:Tm w g gb m N)(hc:fb N p c)(v:Int)(s:Nat)(hs:s<=c.length)(hv:nx c s=v)(hn:∀i,i<s->nx c i≠v) :
  Calls Tryz.prog 434 #[Gd g,ab (p:Int),ab v] w λe w'=>e=.returned (EO gb p c s)/\w'=w:=by
 have HT:=ae h
 have HC:=ae hc
 have HN:=ae hn
 have HV:=ae hv
 have hp:=(fb.cell h hc (Nat.zero_le _)).1
 have HM:=ae h.len
 clear h hc hn hv;go_enter Tryz.func434,Tryz.ntmps434
 go_upto_region 2 with (first|(go_at_call 404;refine (lG HT.out p hp).mono ?_;rintro e w1 ⟨rfl,rfl⟩))
 go_loopg [7] s (Bb gb p c s w1)
 case atStart=>exact⟨0,by omega,by simp [EO,my,pw],rfl⟩
 case round =>
  obtain⟨i,hi,rfl,rfl⟩:=hrel
  obtain⟨h1,h2⟩:=fb.cell HT.out HC.out (i:=i) (by omega)
  by_cases hlt:i<s
  ·have hne:=HN.out i hlt
   obtain⟨k,hk,hk2,hk3⟩:=HC.out.num HM.out (i:=i) (by omega)
   have hK3:=ae hk3
   rw [hk] at h2 hne;clear h1 hk hk3;unfold EO;have hne2:((k:Int)==v)=false:=by simpa using hne
   go_wp2_with (first|(go_at_call 404;refine (lG HT.out k hk2).mono ?_;rintro e w1 ⟨rfl,rfl⟩))
   go_roundg (gk - 1)
   case measure=>omega
   case rel=>exact⟨i+1,by omega,by simp [EO,pw,hK3.out],rfl⟩
  ·obtain rfl:i=s:=by omega
   rw [HV.out] at h2;unfold EO;go_wp2;go_ret;exact⟨rfl,rfl⟩
theorem j0 {base:Nat}{a:Option Addr}{n cap:Nat}{L:List Value}{b:Option Addr}{c:Nat}{M:List Value}(h:Own w base 3 a n cap L)(k:Row w b m c M)(hb:base<=w.heap.size)(hr:(n+m)*8<=140737488355328) :
  ∃a' cap' w',(Builtin.append_ #[42,42] 42 #[.slice a n cap,.slice b m c]).run Tryz.prog w=.ok (.slice a' (n+m) cap') w'/\Own w' base 3 a' (n+m) cap' (L++M)/\Gr a a' w w' :=
 lq 42 3 _ 8 Tryz.underlying42 DF rfl h k hb hr (by omega)
theorem Gj (A:List Int)(i:Nat)(h:i<A.length):A.take (i+1)=A.take i++[A[i]]:=by
 rw [List.take_succ_eq_append_getElem h]
theorem Tm.cell {N':List Nd}(h:Tm w g gb m N)(hl:N'.length=m)
  (hat:∀(i:Nat) (x:Nd),N'[i]?=some x->Pn (w.setCell ⟨gb,o,none⟩ u) gb (i*4) x):Tm (w.setCell ⟨gb,o,none⟩ u) g gb m N' :=
 ⟨iC h.a0 h.ne,λj=>by simpa using h.fr j,hat,h.ne,by simpa [World.setCell] using h.pB,hl,h.gJ⟩
theorem Pn.off (h:Pn w b o x)(hne:o'<o\/o+4<=o'):Pn (w.setCell ⟨b,o',none⟩ u) b o x :=
 ⟨ax h.c0 (by omega),ax h.c1 (by omega),ax h.c2 (by omega),ax h.c3 (by omega)⟩
theorem Tm.Hu (h:Tm w g gb m N)(hx:N[i]?=some x)(v:Int):Tm (w.setCell ⟨gb,i*4+1,none⟩ (ab v)) g gb m (N.set i ⟨x.th,v,x.fi,x.be⟩):=by
 refine h.cell (by rw [List.length_set];exact h.len) (λj q hq=>?_)
 rcases aP hq with ⟨rfl,rfl⟩|⟨hne,h3⟩
 ·have hP:=h.at_ _ _ hx
  exact⟨ax hP.c0 (by omega),World.cell?_setCell_same _ _ _ hP.c1,ax hP.c2 (by omega),ax hP.c3 (by omega)⟩
 ·exact (h.at_ _ _ h3).off (by omega)
theorem Tm.H7 (h:Tm w g gb m N)(hc:fb N p c)(hi:i<=c.length)(v:Int) :
  Tm (w.setCell ⟨gb,my p c i*4+pw i,none⟩ (ab v)) g gb m (dM N p c i v):=by
 obtain⟨h1,h2⟩:=fb.cell h hc hi
 obtain⟨x,hx⟩:=get_some (L:=N) (i:=my p c i) (by rw [h.len];exact h1)
 unfold dM;rw [hx];generalize my p c i=k at *
 refine h.cell (by rw [List.length_set];exact h.len) (λj q hq=>?_)
 rcases aP hq with ⟨rfl,rfl⟩|⟨hne,h3⟩
 ·have hP:=h.at_ _ _ hx
  cases i with
  | zero=>exact⟨ax hP.c0 (by simp [pw]),ax hP.c1 (by simp [pw]),World.cell?_setCell_same _ _ _ hP.c2,ax hP.c3 (by simp [pw])⟩
  | succ i=>exact⟨ax hP.c0 (by simp [pw]),ax hP.c1 (by simp [pw]),ax hP.c2 (by simp [pw]),World.cell?_setCell_same _ _ _ hP.c3⟩
 ·have:pw i<4:=by cases i<;>simp [pw]
  exact (h.at_ _ _ h3).off (by omega)
def mL (w:World)(b o:Nat)(x:Nd):World :=
 (((w.setCell ⟨b,o,none⟩ (.bool x.th)).setCell ⟨b,o+1,none⟩ (ab x.pa)).setCell ⟨b,o+2,none⟩ (ab x.fi)).setCell ⟨b,o+3,none⟩ (ab x.be)
theorem qh {S:Nat->Prop}{a:World}(h:aj S a w)(hb:S b)(o:Nat)(x:Nd):aj S a (mL w b o x) :=
 (((h.setCell (p:=⟨b,o,none⟩) hb _).setCell (p:=⟨b,o+1,none⟩) hb _).setCell (p:=⟨b,o+2,none⟩) hb _).setCell (p:=⟨b,o+3,none⟩) hb _
theorem Pn.set (h:Pn w b o y)(x:Nd):Pn (mL w b o x) b o x:=by
 have s0:=World.cell?_setCell_same w ⟨b,o,none⟩ (.bool x.th) h.c0
 have s1:=World.cell?_setCell_same (w.setCell ⟨b,o,none⟩ (.bool x.th)) ⟨b,o+1,none⟩ (ab x.pa) (ax h.c1 (by omega))
 have s2:=World.cell?_setCell_same ((w.setCell ⟨b,o,none⟩ (.bool x.th)).setCell ⟨b,o+1,none⟩ (ab x.pa)) ⟨b,o+2,none⟩ (ab x.fi) (ax (ax h.c2 (by omega)) (by omega))
 unfold mL;exact⟨ax (ax (ax s0 (by omega)) (by omega)) (by omega),ax (ax s1 (by omega)) (by omega),ax s2 (by omega),World.cell?_setCell_same _ _ _ (ax (ax (ax h.c3 (by omega)) (by omega)) (by omega))⟩
theorem Pn.mj (h:Pn w b o y)(x:Nd)(hne:o'+4<=o\/o+4<=o'):Pn (mL w b o' x) b o y:=by
 unfold mL;exact (((h.off (by omega)).off (by omega)).off (by omega)).off (by omega)
theorem Tm.set (h:Tm w g gb m N)(hy:N[i]?=some y)(x:Nd):Tm (mL w gb (i*4) x) g gb m (N.set i x):=by
 have hb:aj (·=gb) w (mL w gb (i*4) x):=qh (S:=(·=gb)) (aj.refl _ _) (b:=gb) (by rfl) _ _
 refine⟨an hb h.a0 h.ne,λj=>by have:=h.fr j;unfold mL;simpa using this,λj q hq=>?_,h.ne,Nat.lt_of_lt_of_le h.pB hb.size,by rw [List.length_set];exact h.len,h.gJ⟩
 rcases aP hq with ⟨rfl,rfl⟩|⟨hne,h3⟩
 ·exact (h.at_ _ _ hy).set _
 ·exact (h.at_ _ _ h3).mj _ (by omega)
def fg (m:Nat)(l:Fo)(n:Int):Int:=if 0<=n/\n<m then (if n∈aF l then 19 else 0) else 20
def rI (m:Nat)(l:Fo)(n:Int):Fo:=if (0<=n/\n<m)/\n∉aF l then l++[(n,-1)] else l
theorem p5 (hT:Tm w g gb m N)(hR:dZ m l N)(k:Nat)(hk:k<m)(hn:(k:Int)∉aF l) :
  Calls Tryz.prog 409 #[aq g,ab (k:Int)] w λe w'=>e=.returned (ab 0)/\Tm w' g gb m (N.set k ⟨true,-1,-1,-1⟩)/\aj (·=gb) w w':=by
 obtain⟨x,hx⟩:=get_some (L:=N) (i:=k) (by rw [hT.len];exact hk)
 have hc:=lG hT k hk
 have hP:=hT.at_ k x hx
 have c0:=hP.c0
 have c1:=hP.c1
 have c2:=hP.c2
 have c3:=hP.c3
 rw [hR.there hx,decide_eq_false hn] at c0;have f0:=hT.fr (k*4)
 have f1:=hT.fr (k*4+1)
 have f2:=hT.fr (k*4+2)
 have f3:=hT.fr (k*4+3)
 have HT:=ae (hT.set hx ⟨true,-1,-1,-1⟩)
 have HB:Hid (aj (·=gb) w (mL w gb (k*4) ⟨true,-1,-1,-1⟩)):=qh (S:=(·=gb)) (aj.refl _ _) (b:=gb) (by rfl) _ _
 unfold mL at HT HB;clear hT hR hn hP hx;go_enter Tryz.func409,Tryz.ntmps409
 go_wp2_with (first|(go_at_call 404;refine hc.mono ?_;rintro e w1 ⟨rfl,rfl⟩))
 go_ret;exact⟨rfl,HT.out,HB.out⟩
theorem uC (h:Ki w g gb m l)(n:Int)(hn:(n<0\/(m:Int)<=n)\/n∈aF l) :
  Calls Tryz.prog 409 #[aq g,ab n] w λe w'=>e=.returned (ab (fg m l n))/\w'=w:=by
 obtain⟨N,hT,hR⟩:=h
 by_cases h1:n<0\/(m:Int)<=n
 ·rw [show fg m l n=20 by unfold fg;rw [if_neg (by omega)]]
  have hc:=xO hT n h1
  clear hT hR hn h1;go_enter Tryz.func409,Tryz.ntmps409
  go_wp2_with (first|(go_at_call 404;refine hc.mono ?_;rintro e w1 ⟨rfl,rfl⟩))
  go_ret;exact⟨rfl,rfl⟩
 ·have h2:n∈aF l:=by
   rcases hn with hn|hn
   ·exact absurd hn h1
   ·exact hn
  rw [show fg m l n=19 by unfold fg;rw [if_pos (by omega),if_pos h2]]
  obtain⟨k,x,rfl,hk,hx⟩:=hR.get h2
  have hc:=lG hT k hk
  have c0:=(hT.at_ k x hx).c0
  rw [hR.there hx,decide_eq_true h2] at c0;clear hT hR hn h1 h2 hx;go_enter Tryz.func409,Tryz.ntmps409
  go_wp2_with (first|(go_at_call 404;refine hc.mono ?_;rintro e w1 ⟨rfl,rfl⟩))
  go_ret;exact⟨rfl,rfl⟩
def Ix (w:World)(g gb m:Nat)(c:Int)(l:Fo)(e:Ending)(w':World):Prop:=e=.returned (ab c)/\Ki w' g gb m l/\aj (·=gb) w w'
theorem ma (h:Ki w g gb m l)(n:Int) :
  Calls Tryz.prog 409 #[aq g,ab n] w (Ix w g gb m (fg m l n) (rI m l n)):=by
 by_cases hn:(0<=n/\n<m)/\n∉aF l
 ·obtain⟨k,rfl⟩:∃k:Nat,n=(k:Int):=⟨n.toNat,by omega⟩
  obtain⟨N,hT,hR⟩:=h
  refine (p5 hT hR k (by omega) hn.2).mono ?_
  rintro e w' ⟨rfl,h1,h2⟩
  refine⟨by unfold fg;rw [if_pos hn.1,if_neg hn.2],⟨_,h1,?_⟩,h2⟩
  unfold rI;rw [if_pos hn];exact hR.root (by omega) hn.2
 ·refine (uC h n (by
   by_cases h1:n∈aF l
   ·exact .inr h1
   ·left
    have:¬(0<=n/\n<m):=λh2=>hn ⟨h2,h1⟩
    omega)).mono ?_
  rintro e w' ⟨rfl,rfl⟩
  refine⟨rfl,?_,aj.refl _ _⟩
  unfold rI;rw [if_neg hn];exact h
def kX (m:Nat)(l:Fo)(p n:Int):Int:=if p∈aF l then fg m l n else 20
def kY (m:Nat)(l:Fo)(p n:Int):Fo:=if p∈aF l/\((0<=n/\n<m)/\n∉aF l) then l++[(n,p)] else l
theorem xZ (h:Ki w g gb m l)(p k:Nat)(hp:(p:Int)∈aF l)(hk:k<m)(hn:(k:Int)∉aF l) :
  Calls Tryz.prog 410 #[aq g,ab (p:Int),ab (k:Int)] w (Ix w g gb m 0 (l++[((k:Int),(p:Int))])):=by
 have hh:=cI h (p:Int)
 rw [decide_eq_true hp] at hh;obtain⟨N,hT,hR⟩:=h
 have HR:=ae hR
 have hroot:=ae (p5 hT hR k hk hn)
 obtain⟨y,hy⟩:=get_some (L:=N.set k ⟨true,-1,-1,-1⟩) (i:=k) (by rw [List.length_set,hT.len];exact hk)
 have HY:=ae hy
 have hy2:y=⟨true,-1,-1,-1⟩:=by
  rcases aP hy with ⟨_,h⟩|⟨h,_⟩
  ·exact h
  ·exact absurd rfl h
 have T2:=ae hy2
 have HC:Hid (fb ((N.set k ⟨true,-1,-1,-1⟩).set k ⟨y.th,(p:Int),y.fi,y.be⟩) p (ch l p)):=by
  rw [hy2,List.set_set];exact hR.xY hp hn _
 have HP:=ae hp
 have HN:=ae hn
 have hcl:=ae (λi (hi:i<(ch l p).length)=>show nx (ch l p) i≠-1 from by
  rw [gY hi];have:=hR.ok.range _ (g8 (List.getElem_mem hi))
  omega)
 have HZ:Hid (dZ m (l++[((k:Int),(p:Int))]) (dM ((N.set k ⟨true,-1,-1,-1⟩).set k ⟨y.th,(p:Int),y.fi,y.be⟩) p (ch l p) (ch l p).length (k:Int))):=by
  rw [hy2,List.set_set];exact hR.child hk hp hn
 clear hT hR hn hy hy2 hp;go_enter Tryz.func410,Tryz.ntmps410
 go_upto_region 6 with (first|(go_at_call 356;refine hh.mono ?_;rintro e wA ⟨rfl,rfl⟩)|(go_at_call 409;refine hroot.out.mono ?_;rintro e w2 ⟨rfl,hT2,hB2⟩;have OO:=ae hT2;have OH:=ae hB2;clear hT2 hB2))
 have hP:=OO.out.at_ k y HY.out
 have c1:=hP.c1
 have f1:=OO.out.fr (k*4+1)
 have O_:=ae (OO.out.Hu HY.out (p:Int))
 have hc2:=lG OO.out k hk
 clear hP;go_upto_region 7 with (first|(go_at_call 404;refine hc2.mono ?_;rintro e wB ⟨rfl,rfl⟩))
 obtain⟨w3,hw3⟩:∃w3:World,w3=wB.setCell ⟨gb,k*4+1,none⟩ (ab (p:Int)):=⟨_,rfl⟩
 rw [<-hw3] at O_ ⊢
 have OJ:Hid (aj (·=gb) wA w3):=by rw [hw3];exact OH.out.setCell (S:=(·=gb)) (p:=⟨gb,k*4+1,none⟩) (show gb=gb from rfl) _
 have hlk:=r9 O_.out HC.out (-1) (ch l p).length (Nat.le_refl _) (Dp (Nat.le_refl _)) hcl.out
 obtain⟨_,hcell⟩:=fb.cell O_.out HC.out (i:=(ch l p).length) (Nat.le_refl _)
 have ff:=O_.out.fr (my p (ch l p) (ch l p).length*4+pw (ch l p).length)
 have Qn:=ae (O_.out.H7 HC.out (Nat.le_refl _) (k:Int))
 unfold EO at hlk;have OM:Hid (aj (·=gb) wA (w3.setCell ⟨gb,my p (ch l p) (ch l p).length*4+pw (ch l p).length,none⟩ (ab (k:Int)))):=OJ.out.setCell (S:=(·=gb)) (p:=⟨gb,_,none⟩) (show gb=gb from rfl) _
 generalize my p (ch l p) (ch l p).length*4+pw (ch l p).length=o at *
 clear hw3 f1 c1 hc2 hh;go_wp2_with (first|(go_at_call 434;refine hlk.mono ?_;rintro e w5 ⟨rfl,rfl⟩))
 go_ret;exact⟨rfl,⟨_,Qn.out,HZ.out⟩,OM.out⟩
theorem ya (h:Ki w g gb m l)(p n:Int)(hn:p∉aF l\/(n<0\/(m:Int)<=n)\/n∈aF l) :
  Calls Tryz.prog 410 #[aq g,ab p,ab n] w λe w'=>e=.returned (ab (kX m l p n))/\w'=w:=by
 have hh:=cI h p
 by_cases hp:p∈aF l
 ·rw [decide_eq_true hp] at hh
  unfold kX;rw [if_pos hp];have hn2:(n<0\/(m:Int)<=n)\/n∈aF l:=by
   rcases hn with hn|hn
   ·exact absurd hp hn
   ·exact hn
  have hr:=uC h n hn2
  have hE:fg m l n=19\/fg m l n=20:=by
   unfold fg;split
   ·split
    ·exact .inl rfl
    ·next h1 h2=>rcases hn2 with h3|h3;omega;exact absurd h3 h2
   ·exact .inr rfl
  clear h hn hp hn2;rcases hE with hE|hE
  ·rw [hE] at hr ⊢
   go_enter Tryz.func410,Tryz.ntmps410
   go_wp2_with (first|(go_at_call 356;refine hh.mono ?_;rintro e w1 ⟨rfl,rfl⟩)|(go_at_call 409;refine hr.mono ?_;rintro e w1 ⟨rfl,rfl⟩))
   go_ret;exact⟨rfl,rfl⟩
  ·rw [hE] at hr ⊢
   go_enter Tryz.func410,Tryz.ntmps410
   go_wp2_with (first|(go_at_call 356;refine hh.mono ?_;rintro e w1 ⟨rfl,rfl⟩)|(go_at_call 409;refine hr.mono ?_;rintro e w1 ⟨rfl,rfl⟩))
   go_ret;exact⟨rfl,rfl⟩
 ·rw [decide_eq_false hp] at hh
  unfold kX;rw [if_neg hp];clear h hn hp;go_enter Tryz.func410,Tryz.ntmps410
  go_wp2_with (first|(go_at_call 356;refine hh.mono ?_;rintro e w1 ⟨rfl,rfl⟩))
  go_ret;exact⟨rfl,rfl⟩
theorem vm (h:Ki w g gb m l)(p n:Int) :
  Calls Tryz.prog 410 #[aq g,ab p,ab n] w (Ix w g gb m (kX m l p n) (kY m l p n)):=by
 by_cases hn:p∈aF l/\((0<=n/\n<m)/\n∉aF l)
 ·have hp2:=h.ok.range p hn.1
  obtain⟨k,rfl⟩:∃k:Nat,n=(k:Int):=⟨n.toNat,by omega⟩
  obtain⟨p,rfl⟩:∃k:Nat,p=(k:Int):=⟨p.toNat,by omega⟩
  unfold kX kY;rw [if_pos hn,if_pos hn.1];rw [show fg m l (k:Int)=0 by unfold fg;rw [if_pos hn.2.1,if_neg hn.2.2]]
  exact xZ h p k hn.1 (by omega) hn.2.2
 ·refine (ya h p n (by
   by_cases h0:p∈aF l
   ·right
    by_cases h1:n∈aF l
    ·exact .inr h1
    ·left
     have:¬(0<=n/\n<m):=λh2=>hn ⟨h0,h2,h1⟩
     omega
   ·exact .inl h0)).mono ?_
  rintro e w' ⟨rfl,rfl⟩
  refine⟨rfl,?_,aj.refl _ _⟩
  unfold kY;rw [if_neg hn];exact h
theorem CK:(Tryz.prog.info? 520).map (λi=>(i.zero,i.size,i.bytes))=some (some (.agg #[.bool false,ab 0,ab 0,ab 0]),4,32):=by kernel_rfl
theorem cW (w:World)(n:Nat)(hn:n<=1024) :
  ∃w',(Instr.makeSlice 407 (ab (n:Int)) (ab (n:Int))).run Tryz.prog w=.ok (.slice (some ⟨w.heap.size,0,none⟩) n n) w'/\(∀(i:Nat) (p:Nd),(List.replicate n Ic)[i]?=some p->Pn w' w.heap.size (i*4) p)/\(∀j,w'.frozen? ⟨w.heap.size,j,none⟩=false)/\w.heap.size<w'.heap.size/\Below w.heap.size w w':=by
 obtain⟨i,hi,hz0,hz1,hz2⟩:=info_parts CK
 obtain⟨w',hr,ho,hg⟩:=run_make_full (P:=Tryz.prog) w w.heap.size 407 520 i _ 4 Tryz.underlying407 hi hz0 hz1 .i64 .i64 n (by rw [hz2];omega) (by unfold maxLen;omega) (Nat.le_refl _)
 have hcell:∀j c u,j<n->c<4->(#[.bool false,ab 0,ab 0,ab 0]:Array Value)[c]! = u->w'.cell? ⟨w.heap.size,j*4+c,none⟩=some u:=by
  intro j c u hj hc hu;have hm:(j*4+c)%4=c:=by omega
  have:=ho.cells (g:=w.heap.size) rfl (j*4+c) u (by
   rw [Array.getElem?_toList];simp only [madeCells,Value.cells,Array.getElem?_map,Array.getElem?_range];rw [if_pos (by omega)];simp only [Option.map_some,Option.some.injEq,Array.size,List.length,hm];exact hu)
  rw [aY] at this;exact this
 refine⟨w',hr,λj p hp=>?_,λj=>?_,?_,(Below.refl _ _).grown hg (Nat.le_refl _) (λk hk=>by cases hk)⟩
 ·rw [List.getElem?_replicate] at hp
  split at hp
  ·next hj =>
   have:=(Option.some.inj hp).symm
   subst this;exact⟨hcell j 0 _ hj (by omega) rfl,hcell j 1 _ hj (by omega) rfl,hcell j 2 _ hj (by omega) rfl,hcell j 3 _ hj (by omega) rfl⟩
  ·cases hp
 ·rcases ho.2 with ⟨h0,_⟩|⟨g,c,cur,hv,_,hh,hc,_⟩
  ·simp at h0
  ·simp only [Value.slice.injEq,Option.some.injEq,Addr.mk.injEq] at hv
   obtain⟨⟨rfl,_⟩,_,rfl⟩:=hv
   simp [World.frozen?,hh]
 ·exact (bD ho _ rfl).2
def zl (w:World)(m:Nat)(e:Ending)(w':World):Prop :=
 ∃g gb:Nat,e=.returned (.tuple #[aq g,ab 0])/\Ki w' g gb m []/\w.heap.size<=g/\w.heap.size<=gb/\Below w.heap.size w w'
theorem cu (w:World)(m:Nat)(h1:m<=1024):Calls Tryz.prog 205 #[ab (m:Int)] w (zl w m):=by
 have hk1:¬(m:Int)<0:=by omega
 have hk2:¬(1024:Int)<(m:Int):=by omega
 obtain⟨w2,hr,hA,hF,hsz,hb⟩:=cW w m h1
 have HA:=ae hA
 have QR:=ae hF
 have HB:=ae hb
 clear hA hF hb;go_enter Tryz.func205,Tryz.ntmps205
 go_wp2;refine bodyPost_ret (v:=.tuple #[aq w2.heap.size,ab 0]) (by simp [results,Tryz.results205,go_sem]) rfl ⟨w2.heap.size,w.heap.size,rfl,?_,HB.out.size,Nat.le_refl _,HB.out.alloc HB.out.size _⟩
 have hsh:aj (λ_=>False) w2 (w2.alloc (Obj.cells #[.slice (some ⟨w.heap.size,0,none⟩) m m] 409)):=aj.of (ag _ _)
 refine⟨List.replicate m Ic,⟨by simp [go_sem],λj=>?_,λi p hp=>(HA.out i p hp).but hsh (λh=>h),by omega,by simp;omega,by simp,h1⟩,dZ.init m⟩
 rw [World.frozen?_of_block (w:=w2) (hsh.block w.heap.size hsz (λh=>h))];exact QR.out j
end Go.Proofs.YtmhinfbkmjdgfaaGreatDoor
namespace Go.Proofs.YtmhinfbkmjdgfaaGreatDoor.H
open Go.RowKit
variable {k:Int}{h:Nat}
theorem lp (h v:Nat)(hh:h<az)(hv:v<az) :
  bits .xor .u64 (IntKind.u64.wrap (bits .xor .u64 (h:Int) (v:Int)*11400714819323198485)) (IntKind.u64.wrap (bits .xor .u64 (h:Int) (v:Int)*11400714819323198485) / 536870912)=(cM h v:Int):=by
 have e1:IntKind.u64.wrap (bits .xor .u64 (h:Int) (v:Int)*11400714819323198485)=(jL (h ^^^ v):Int):=by
  rw [u64_xor_nat h v hh hv,IntKind.wrap_u64];unfold jL KF az;omega
 have e2:((jL (h ^^^ v):Nat):Int) / 536870912=((jL (h ^^^ v) / 2 ^ 29:Nat):Int):=by omega
 rw [e1,e2,u64_xor_nat _ _ (fF _) (Nat.lt_of_le_of_lt (Nat.div_le_self _ _) (fF _))];rfl
theorem fW (h v:Nat)(w:World)(hh:h<az)(hv:v<az) :
  Calls Tryz.prog 446 #[ai (h:Int),ai (v:Int)] w λe w'=>e=.returned (ai (cM h v:Int))/\w'=w:=by
 have HS:Hid _:=lp h v hh hv
 go_enter Tryz.func446,Tryz.ntmps446
 go_wp2;go_ret;exact⟨aQ HS.out,rfl⟩
theorem iO (h n:Nat)(hh:h<az)(hn:n<=63) :
  bits .and .u64 (h:Int) (IntKind.u64.wrap (IntKind.u64.wrap (2 ^ n) - 1))=((h%2 ^ n:Nat):Int):=by
 have h2:(2:Nat) ^ n<=2 ^ 63:=Nat.pow_le_pow_right (by omega) hn
 have hp:0<(2:Nat) ^ n:=Nat.two_pow_pos n
 have e1:((2:Int) ^ n)=((2 ^ n:Nat):Int):=by simp
 have e2:IntKind.u64.wrap (IntKind.u64.wrap (2 ^ n) - 1)=((2 ^ n - 1:Nat):Int):=by
  rw [e1,IntKind.wrap_u64,IntKind.wrap_u64];omega
 rw [e2,u64_and_nat _ _ hh (by omega),Nat.and_two_pow_sub_one_eq_mod]
theorem jz (h1:k<=0):cQ h k=0:=by unfold cQ;rw [if_pos h1]
theorem lu (h1:64<=k):cQ h k=h:=by unfold cQ;rw [if_neg (by omega),if_pos h1]
theorem jF (h1:¬k<=0)(h2:¬64<=k):cQ h k=h%2 ^ k.toNat:=by unfold cQ;rw [if_neg h1,if_neg h2]
theorem dz (h:Nat)(k:Int)(w:World)(hh:h<az) :
  Calls Tryz.prog 447 #[ai (h:Int),ab k] w λe w'=>e=.returned (ai (cQ h k:Int))/\w'=w:=by
 by_cases h1:k<=0
 ·rw [jz h1]
  go_enter Tryz.func447,Tryz.ntmps447
  go_wp2;go_ret;exact⟨rfl,rfl⟩
 ·by_cases h2:64<=k
  ·rw [lu h2]
   go_enter Tryz.func447,Tryz.ntmps447
   go_wp2;go_ret;exact⟨rfl,rfl⟩
  ·rw [jF h1 h2]
   have HL:Hid _:=iO h k.toNat hh (by omega)
   go_enter Tryz.func447,Tryz.ntmps447
   go_wp2;go_ret;exact⟨aQ HL.out,rfl⟩
def eg (o:Int):Nat:=(o%18446744073709551616).toNat
theorem oR (o:Int):eg o<az:=by unfold eg az;omega
theorem ld (o:Int):IntKind.u64.wrap o=(eg o:Int):=by rw [IntKind.wrap_u64];unfold eg;omega
def oD (W:World)(x1 x2 x3:Nat)(s t:Value)(w':World):Prop :=
 w'=W/\((t=ab 0/\s=ai 5903417616801668165)\/(t=ab 1/\s=ai (x1:Int))\/(t=ab 2/\s=ai (x2:Int))\/(t=ab 3/\s=ai (x3:Int)))
theorem fC {y x:Int}{v:Nat}(w:World)(r:Nat)(hr:r=cM h v)(hy:y=(h:Int))(hx:x=(v:Int))(hh:h<az)(hv:v<az) :
  Calls Tryz.prog 446 #[ai y,ai x] w λe w'=>e=.returned (ai (r:Int))/\w'=w:=by
 subst hy hx hr;exact fW h v w hh hv
theorem jt:(5903417616801668165:Int)=((5903417616801668165:Nat):Int):=rfl
theorem lN:(5903417616801668165:Nat)<az:=by decide
theorem jr (o:Int)(n a b x1 x2 x3:Nat)(k:Int)(w:World)(ha:a<az)(hb:b<az)(hn:n<az)
  (h1:x1<az) (h2:x2<az) (h3:x3<az) (ho:Hid (IntKind.u64.wrap o=(n:Int))) (e1:Hid (x1=cM 5903417616801668165 n)) (e2:Hid (x2=cM x1 a)) (e3:Hid (x3=cM x2 b)) :
  Calls Tryz.prog 444 #[ab o,.agg #[ai (a:Int),ai (b:Int)],ab k] w λe w'=>e=.returned (ai (cQ x3 k:Int))/\Below w.heap.size w w':=by
 go_enter Tryz.func444,Tryz.ntmps444
 go_wp2;go_step3
 go_wp2;go_step3
 go_wp2;go_loopw [7,8] (oD (w.alloc (Obj.cells #[ai (a:Int),ai (b:Int)] 30)) x1 x2 x3) (λ_ t _=>(3 - intOf t).toNat)
 case atStart=>exact⟨rfl,.inl ⟨rfl,rfl⟩⟩
 case round =>
  obtain⟨rfl,⟨rfl,rfl⟩|⟨rfl,rfl⟩|⟨rfl,rfl⟩|⟨rfl,rfl⟩⟩:=hrel
  ·go_wp2_with (first|(go_at_call 446;refine (fC _ x1 e1.out jt ho.out lN hn).mono ?_;rintro e w1 ⟨rfl,rfl⟩))
   go_roundw
   case rel=>exact⟨rfl,.inr (.inl ⟨rfl,rfl⟩)⟩
   case measure=>simp [intOf]
  ·go_wp2_with (first|(go_at_call 446;refine (fC _ x2 e2.out rfl rfl h1 ha).mono ?_;rintro e w1 ⟨rfl,rfl⟩))
   go_roundw
   case rel=>exact⟨rfl,.inr (.inr (.inl ⟨rfl,rfl⟩))⟩
   case measure=>simp [intOf]
  ·go_wp2_with (first|(go_at_call 446;refine (fC _ x3 e3.out rfl rfl h2 hb).mono ?_;rintro e w1 ⟨rfl,rfl⟩))
   go_roundw
   case rel=>exact⟨rfl,.inr (.inr (.inr ⟨rfl,rfl⟩))⟩
   case measure=>simp [intOf]
  ·go_wp2_with (first|(go_at_call 447;refine (dz _ _ _ h3).mono ?_;rintro e w1 ⟨rfl,rfl⟩))
   try rw [Exit.noGoto_ret]
   go_ret;exact⟨rfl,ag _ _⟩
theorem lf (o:Int)(a b:Nat)(k:Int)(w:World)(ha:a<az)(hb:b<az) :
  Calls Tryz.prog 444 #[ab o,.agg #[ai (a:Int),ai (b:Int)],ab k] w λe w'=>e=.returned (ai (cQ (eC (eg o) a b) k:Int))/\Below w.heap.size w w' :=
 jr o (eg o) a b _ _ (eC (eg o) a b) k w ha hb (oR o) (ez _ _) (ez _ _) (fV _ _ _) (ld o) rfl rfl rfl
end Go.Proofs.YtmhinfbkmjdgfaaGreatDoor.H
namespace Go.Proofs.YtmhinfbkmjdgfaaGreatDoor.H.I
open Go.RowKit
variable {li sp:Int}{N g gb kn mo:Nat}{S:Nat->Prop}{w w':World}
abbrev Q:=Pl Int
structure Pa (w:World)(b o:Nat)(p:Q):Prop where
 c0:w.cell? ⟨b,o,none⟩=some (ab p.k)
 c1:w.cell? ⟨b,o+1,none⟩=some (ab p.c.1)
 c2:w.cell? ⟨b,o+2,none⟩=some (ai (p.c.2.1:Int))
 c3:w.cell? ⟨b,o+3,none⟩=some (ai (p.c.2.2:Int))
 c4:w.cell? ⟨b,o+4,none⟩=some (ab p.v)
theorem Pa.but {b o:Nat}{p:Q}(hb:aj S w w')(h:Pa w b o p)(hn:¬S b):Pa w' b o p :=
 ⟨an hb h.c0 hn,an hb h.c1 hn,an hb h.c2 hn,an hb h.c3 hn,an hb h.c4 hn⟩
structure Tm (w:World)(g gb:Nat)(kn mo:Nat)(li sp:Int)(N:Nat)(L:List Q):Prop where
 a0:w.cell? ⟨g,0,none⟩=some (.slice (some ⟨gb,0,none⟩) N N)
 a1:w.cell? ⟨g,1,none⟩=some (ab (kn:Int))
 a2:w.cell? ⟨g,2,none⟩=some (ab (mo:Int))
 a3:aM w ⟨g,3,none⟩ (ab li)
 a4:aM w ⟨g,4,none⟩ (ab sp)
 fr:∀j,w.frozen? ⟨gb,j,none⟩=false
 at_:∀(i:Nat) (p:Q),L[i]?=some p->Pa w gb (i*5) p
 ne:g≠gb
 len:L.length=N
 pos:0<N
 gJ:N<=1024
 ok:∀(i:Nat) (p:Q),L[i]?=some p->p.c.2.1<az/\p.c.2.2<az
theorem Tm.lt {L:List Q}(h:Tm w g gb kn mo li sp N L):g<w.heap.size:=World.block_lt_of_cell? _ _ h.a1
theorem Tm.pB {L:List Q}(h:Tm w g gb kn mo li sp N L):gb<w.heap.size:=by
 obtain⟨p,hp⟩:=get_some (L:=L) (i:=0) (by rw [h.len];exact h.pos)
 exact World.block_lt_of_cell? _ _ (h.at_ 0 p hp).c0
theorem Tm.but {L:List Q}(hb:aj S w w')(h:Tm w g gb kn mo li sp N L)(h1:¬S g)(h2:¬S gb):Tm w' g gb kn mo li sp N L :=
 ⟨an hb h.a0 h1,an hb h.a1 h1,an hb h.a2 h1,h.a3.but hb h1,h.a4.but hb h1,λj=>by rw [World.frozen?_of_block (w:=w) (hb.block gb h.pB h2)];exact h.fr j,λi p hp=>(h.at_ i p hp).but hb h2,h.ne,h.len,h.pos,h.gJ,h.ok⟩
theorem Tm.later {L:List Q}(hb:Below w.heap.size w w')(h:Tm w g gb kn mo li sp N L):Tm w' g gb kn mo li sp N L:=h.but (S:=λ_=>False) (aj.of hb) (λh=>h) (λh=>h)
theorem Tm.alloc {L:List Q}(h:Tm w g gb kn mo li sp N L)(o:Obj):Tm (w.alloc o) g gb kn mo li sp N L:=h.later (ag _ _)
def hm (kn N:Nat)(c:Cp):Nat:=cQ (eC (eg c.1) c.2.1 c.2.2) (kn:Int)%N
theorem D6 (c:Cp)(h:0<N):hm kn N c<N:=Nat.mod_lt _ h
theorem kK (x N:Nat)(hx:x<az)(h:0<N)(hN:N<=1024):IntKind.i64.wrap ((x:Int)%(N:Int))=((x%N:Nat):Int):=by
 have h2:x%N<N:=Nat.mod_lt _ h
 rw [<-Int.natCast_emod,IntKind.wrap_i64];omega
theorem ja {L:List Q}(h:Tm w g gb kn mo li sp N L)(at_:Nat)(ha:at_<N) :
  Calls Tryz.prog 442 #[aq g,ab (at_:Int)] w λe w'=>e=.returned (ab (((at_+1)%N:Nat):Int))/\w'=w:=by
 have x:=h.a0
 have hp:=h.pos
 have hb:=h.gJ
 have HE:Hid (((at_+1)%N:Nat)=((((at_+1:Nat):Int).tmod (N:Int)))):=by unfold Hid;rw [Int.tmod_eq_emod_of_nonneg (by omega)];rfl
 clear h;go_enter Tryz.func442,Tryz.ntmps442
 go_wp2;go_ret;exact⟨aQ (by rw [HE.out];rfl),rfl⟩
theorem qc {sp:Nat}{L:List Q}(h:Tm w g gb kn mo li sp N L)(hs:sp<=1024) :
  Calls Tryz.prog 431 #[aq g] w λe w'=>e=.returned (.bool (decide (4*sp<N)))/\Below w.heap.size w w':=by
 have x:=h.a0
 have y:=h.a4.1
 have hb:=h.gJ
 clear h;go_enter Tryz.func431,Tryz.ntmps431
 go_wp2;go_quiet (fail)
 go_wp2;go_ret;exact⟨aA (by simp;omega),below_drewN (Below.refl _ _) _⟩
theorem nR {L:List Q}(h:Tm w g gb kn mo li sp N L)(o:Int)(hi lo:Nat)(h1:hi<az)(h2:lo<az) :
  Calls Tryz.prog 441 #[aq g,.agg #[ab o,ai (hi:Int),ai (lo:Int)]] w λe w'=>e=.returned (ab (hm kn N (o,hi,lo):Int))/\Below w.heap.size w w':=by
 obtain⟨w1,hw1⟩:∃w1,w1=w.alloc (Obj.cells #[ab o,ai (hi:Int),ai (lo:Int)] 37):=⟨_,rfl⟩
 have hB1:Below w.heap.size w w1:=by rw [hw1];exact ag _ _
 have hh:=h.later hB1
 have hC:Hid (∀U:World,Below w1.heap.size w1 U->(U.cell? ⟨w.heap.size,0,none⟩=some (ab o)/\U.cell? ⟨w.heap.size,1,none⟩=some (ai (hi:Int))/\U.cell? ⟨w.heap.size,2,none⟩=some (ai (lo:Int))/\U.cell? ⟨g,0,none⟩=some (.slice (some ⟨gb,0,none⟩) N N)/\U.cell? ⟨g,1,none⟩=some (ab (kn:Int)))/\Below w1.heap.size w1 U):=λU hU =>
  ⟨⟨cell_later hU (by rw [hw1];simp [go_sem]),cell_later hU (by rw [hw1];simp [go_sem]),cell_later hU (by rw [hw1];simp [go_sem]),cell_later hU hh.a0,cell_later hU hh.a1⟩,hU⟩
 have hp:=h.pos
 have hb:=h.gJ
 have HX:Hid (cQ (eC (eg o) hi lo) (kn:Int)<az):=oG _ (fV _ _ _)
 have HM:Hid (hm kn N (o,hi,lo)=cQ (eC (eg o) hi lo) (kn:Int)%N):=rfl
 have hH:=λW=>lf o hi lo (kn:Int) W h1 h2
 generalize cQ (eC (eg o) hi lo) (kn:Int)=x at HX HM hH
 have HR:=ae (kK x N HX.out hp hb)
 have hu:IntKind.u64.wrap (N:Int)=(N:Int):=by rw [IntKind.wrap_u64];omega
 have hz:¬N=0:=by omega
 clear h hh;go_enter Tryz.func441,Tryz.ntmps441
 go_wp2;rw [<-hw1];have OI:=ae hB1
 clear hw1 hB1;go_region_held3 (λU=>(U.cell? ⟨w.heap.size,0,none⟩=some (ab o)/\U.cell? ⟨w.heap.size,1,none⟩=some (ai (hi:Int))/\U.cell? ⟨w.heap.size,2,none⟩=some (ai (lo:Int))/\U.cell? ⟨g,0,none⟩=some (.slice (some ⟨gb,0,none⟩) N N)/\U.cell? ⟨g,1,none⟩=some (ab (kn:Int)))/\Below w1.heap.size w1 U) (first|exact hC.out _ (Below.refl _ _).drew|exact hC.out _ hb2.out) (first|(go_at_call 444;refine (hH _).mono ?_;rintro e w2 ⟨rfl,hb2'⟩;have hb2:=ae (aa (Below.refl w1.heap.size w1).drew hb2')))
 go_wp2;go_ret;exact⟨aQ (by rw [HM.out];exact HR.out),aa OI.out (And.right (by assumption))⟩
end Go.Proofs.YtmhinfbkmjdgfaaGreatDoor.H.I
namespace Go.Proofs.YtmhinfbkmjdgfaaGreatDoor.H
open Go.RowKit
variable {o:Int}{b hi lo:Nat}{w w':World}
theorem below_drewN {k:Nat}{W:World}(h:Below k w W)(q:Nat):Below k w (W.drewN q):=⟨h.os,h.tape,h.output,h.size,h.block⟩
structure Bx (w:World)(b:Nat)(o:Int)(hi lo:Nat):Prop where
 c0:w.cell? ⟨b,0,none⟩=some (ab o)
 c1:w.cell? ⟨b,1,none⟩=some (ai (hi:Int))
 c2:w.cell? ⟨b,2,none⟩=some (ai (lo:Int))
theorem Bx.new (w:World)(o:Int)(hi lo:Nat):Bx (w.alloc (Obj.cells #[ab o,ai (hi:Int),ai (lo:Int)] 37)) w.heap.size o hi lo :=
 ⟨by simp [go_sem],by simp [go_sem],by simp [go_sem]⟩
theorem Bx.but {S:Nat->Prop}(hb:aj S w w')(h:Bx w b o hi lo)(hn:¬S b):Bx w' b o hi lo:=⟨an hb h.c0 hn,an hb h.c1 hn,an hb h.c2 hn⟩
theorem Bx.later (hb:Below w.heap.size w w')(h:Bx w b o hi lo):Bx w' b o hi lo:=h.but (S:=λ_=>False) (aj.of hb) (λh=>h)
def mB (a b c d e f:Int):Bool:=decide (a=d/\b=e/\c=f)
theorem pN (a b c d e f:Int)(w:World):(binOp .eql 37 (.agg #[ab a,ai b,ai c]) (.agg #[ab d,ai e,ai f])).run Tryz.prog w=.ok (.bool (mB a b c d e f)) w:=by
 unfold mB;by_cases h1:a=d
 ·subst h1
  by_cases h2:b=e
  ·subst h2
   by_cases h3:c=f
   ·subst h3;simp [go_sem]
   ·simp [go_sem,h3]
  ·simp [go_sem,h2]
 ·simp [go_sem,h1]
end Go.Proofs.YtmhinfbkmjdgfaaGreatDoor.H
namespace Go.Proofs.YtmhinfbkmjdgfaaGreatDoor.H.I
open Go.RowKit
variable {li sp:Int}{N b g gb i kn mo o o':Nat}{u v:Value}{w:World}
def CL (w:World)(h N:Nat)(L:List Q)(o:Int)(hi lo:Nat)(s t:Value)(w':World):Prop :=
 ∃d:Nat,d<=N/\s=ab (((h+d)%N:Nat):Int)/\t=ab (d:Int)/\(∀e,e<d->∀p:Q,L[(h+e)%N]?=some p->p.k=1->p.c≠(o,hi,lo))/\Below w.heap.size w w'/\Bx w' w.heap.size o hi lo
theorem rF {L:List Q}(h:Tm w g gb kn mo li sp N L)(hw:Way (hm kn N) (·≠0) L)(o:Int)(hi lo:Nat)(h1:hi<az)(h2:lo<az) :
  Calls Tryz.prog 430 #[aq g,.agg #[ab o,ai (hi:Int),ai (lo:Int)]] w λe w'=>((∃(i:Nat) (p:Q),L[i]?=some p/\p.k=1/\p.c=(o,hi,lo)/\e=.returned (.tuple #[ab (i:Int),.bool true]))\/((∀(i:Nat) (p:Q),L[i]?=some p->p.k=1->p.c≠(o,hi,lo))/\e=.returned (.tuple #[ab 0,.bool false])))/\Below w.heap.size w w':=by
 have HH:=ae h
 have HW:=ae hw
 have hpos:=h.pos
 have hbig:=h.gJ
 have hlen:=ae h.len
 have hx0:=(h.alloc (Obj.cells #[ab o,ai (hi:Int),ai (lo:Int)] 37)).a0
 have hf:=λ(W:World) (hW:Tm W g gb kn mo li sp N L)=>nR hW o hi lo h1 h2
 have hlt:=ae (D6 (kn:=kn) (o,hi,lo) hpos)
 obtain⟨hs,hE'⟩:∃hs,hs=hm kn N (o,hi,lo):=⟨_,rfl⟩
 rw [<-hE'] at hf hlt;have hE:=ae hE'
 clear hE';clear h hw;go_enter Tryz.func430,Tryz.ntmps430
 go_upto_region 3 with (first|(go_at_call 441;refine (hf _ (HH.out.alloc _)).mono ?_;rintro e w2 ⟨rfl,hb2⟩;have OH:=ae (aa (ag _ _) hb2);have X0:=cell_later hb2 hx0;have HX:=ae ((Bx.new w o hi lo).later hb2);clear hb2))
 clear hx0;go_loopw [6,16] (CL w hs N L o hi lo) (λ_ t _=>N - (intOf t).toNat)
 case atStart=>exact⟨0,Nat.zero_le _,by rw [Nat.add_zero,Nat.mod_eq_of_lt hlt.out],rfl,λe he=>absurd he (Nat.not_lt_zero _),OH.out,HX.out⟩
 case round =>
  obtain⟨d,hd,rfl,rfl,hno,hB,X⟩:=hrel
  have P0:=ae hno
  clear hno;by_cases hlt2:d<N
  ·have hT:=HH.out.later hB
   have hm1:(hs+d)%N<N:=Nat.mod_lt _ hpos
   obtain⟨p,hp⟩:=get_some (L:=L) (i:=(hs+d)%N) (by rw [hlen.out];exact hm1)
   have hP:=hT.at_ _ p hp
   have y0:=hT.a0
   have hnx:=ae (pY hs d N)
   have HP:=ae hp
   clear hp;obtain⟨c0,c1,c2,c3⟩:=(⟨hP.c0,hP.c1,hP.c2,hP.c3⟩:_/\_/\_/\_)
   obtain⟨b0,b1,b2⟩:=(⟨X.c0,X.c1,X.c2⟩:_/\_/\_)
   have HT:=ae hT
   clear hT hP;generalize hat:(hs+d)%N=at_ at *
   have hme:p.k=0\/p.k=1\/(p.k≠0/\p.k≠1):=by omega
   rcases hme with hk|hk|⟨hk,hk'⟩
   ·rw [hk] at c0
    go_wp2;refine bodyPost_ret (v:=.tuple #[ab 0,.bool false]) (by simp [results,Tryz.results430,go_sem]) rfl ⟨.inr ⟨?_,rfl⟩,hB⟩
    have hq:L[(hm kn N (o,hi,lo)+d)%L.length]?=some p:=by rw [<-hE.out,hlen.out,hat];exact HP.out
    exact HW.out.none (λe he q hq'=>P0.out e he q (by rw [hE.out];rw [hlen.out] at hq';exact hq')) hq hk
   ·rw [hk] at c0
    by_cases hc:p.c=(o,hi,lo)
    ·have hd1:mB p.c.1 (p.c.2.1:Int) (p.c.2.2:Int) o (hi:Int) (lo:Int)=true:=by rw [hc];simp [mB]
     have heq:=λW=>pN p.c.1 (p.c.2.1:Int) (p.c.2.2:Int) o (hi:Int) (lo:Int) W
     simp only [hd1] at heq;go_upto_region 7 with fail
     go_quiet (fail)
     go_wp2;refine bodyPost_ret (v:=.tuple #[ab (at_:Int),.bool true]) (by simp [results,Tryz.results430,go_sem]) rfl ⟨.inl ⟨at_,p,HP.out,hk,hc,rfl⟩,?_⟩
     exact below_drewN hB _
    ·have hd1:mB p.c.1 (p.c.2.1:Int) (p.c.2.2:Int) o (hi:Int) (lo:Int)=false:=by
      refine decide_eq_false λhq=>hc ?_
      obtain⟨q1,q2,q3⟩:=hq
      exact Prod.ext q1 (Prod.ext (Int.ofNat.inj q2) (Int.ofNat.inj q3))
     have heq:=λW=>pN p.c.1 (p.c.2.1:Int) (p.c.2.2:Int) o (hi:Int) (lo:Int) W
     simp only [hd1] at heq;go_upto_region 7 with fail
     go_quiet (fail)
     go_wp2_with (first|(go_at_call 442;refine (ja (HT.out.later (below_drewN (Below.refl _ _) _)) _ (by assumption)).mono ?_;rintro e w3 ⟨rfl,rfl⟩))
     refine⟨⟨d+1,by omega,by rw [<-hnx.out];simp,by go_num,?_,below_drewN hB _,X.later (below_drewN (Below.refl _ _) _)⟩,by simp [intOf];omega⟩
     intro e he q hq hqk;rcases Nat.lt_or_ge e d with h3|h3
     ·exact P0.out e h3 q hq hqk
     ·obtain rfl:e=d:=by omega
      rw [hat,HP.out] at hq;cases hq
      exact hc
   ·have hn0:(p.k==0)=false:=by simpa using hk
    have hn1:(p.k==1)=false:=by simpa using hk'
    go_upto_region 7 with fail
    go_quiet (fail)
    go_wp2_with (first|(go_at_call 442;refine (ja (HT.out.later (below_drewN (Below.refl _ _) _)) _ (by assumption)).mono ?_;rintro e w3 ⟨rfl,rfl⟩))
    refine⟨⟨d+1,by omega,by rw [<-hnx.out];simp,by go_num,?_,below_drewN hB _,X.later (below_drewN (Below.refl _ _) _)⟩,by simp [intOf];omega⟩
    intro e he q hq hqk;rcases Nat.lt_or_ge e d with h3|h3
    ·exact P0.out e h3 q hq hqk
    ·obtain rfl:e=d:=by omega
     rw [hat,HP.out] at hq;cases hq
     exact absurd hqk hk'
  ·obtain rfl:d=N:=by omega
   go_wp2;refine bodyPost_ret (v:=.tuple #[ab 0,.bool false]) (by simp [results,Tryz.results430,go_sem]) rfl ⟨.inr ⟨?_,rfl⟩,hB⟩
   exact HW.out.Gq (λe he q hq'=>P0.out e (by rw [<-hlen.out];exact he) q (by rw [hE.out];rw [hlen.out] at hq';exact hq'))
theorem back {h d:Nat}(hh:h<N)(hd:d<N):((h+d)%N+N - h)%N=d:=by
 rcases Nat.lt_or_ge (h+d) N with h1|h1
 ·rw [Nat.mod_eq_of_lt h1]
  have:h+d+N - h=d+N:=by omega
  rw [this,Nat.add_mod_right,Nat.mod_eq_of_lt hd]
 ·rw [Nat.mod_eq_sub_mod h1,Nat.mod_eq_of_lt (a:=h+d - N) (by omega)]
  have:h+d - N+N - h=d:=by omega
  rw [this,Nat.mod_eq_of_lt hd]
def uF (w:World)(h N:Nat)(L:List Q)(s:Value)(w':World):Prop :=
 ∃d:Nat,d<N/\s=ab (((h+d)%N:Nat):Int)/\(∀e,e<d->∀p:Q,L[(h+e)%N]?=some p->p.k=1\/p.k=2)/\Below w.heap.size w w'
theorem lH {L:List Q}(h:Tm w g gb kn mo li sp N L)(hex:∃(i:Nat) (p:Q),L[i]?=some p/\p.k≠1/\p.k≠2)(o:Int)(hi lo:Nat)(h1:hi<az)(h2:lo<az) :
  Calls Tryz.prog 433 #[aq g,.agg #[ab o,ai (hi:Int),ai (lo:Int)]] w λe w'=>(∃(to_ d:Nat) (q:Q),d<N/\to_=(hm kn N (o,hi,lo)+d)%N/\L[to_]?=some q/\q.k≠1/\q.k≠2/\(∀e,e<d->∀p:Q,L[(hm kn N (o,hi,lo)+e)%N]?=some p->p.k=1\/p.k=2)/\e=.returned (ab (to_:Int)))/\Below w.heap.size w w':=by
 have HH:=ae h
 have hpos:=h.pos
 have hbig:=h.gJ
 have hlen:=ae h.len
 have hf:=λ(W:World) (hW:Tm W g gb kn mo li sp N L)=>nR hW o hi lo h1 h2
 have hlt:=ae (D6 (kn:=kn) (o,hi,lo) hpos)
 generalize hm kn N (o,hi,lo)=hs at hf hlt ⊢
 obtain⟨i0,p0,hp0,hk0,hk0'⟩:=hex
 obtain⟨d0,hd0,hi0⟩:=eY hlt.out (by rw [<-hlen.out];exact eA hp0:i0<N)
 have H0:Hid (L[(hs+d0)%N]?=some p0):=by unfold Hid;rw [<-hi0];exact hp0
 clear h hp0 hi0;go_enter Tryz.func433,Tryz.ntmps433
 go_upto_region 2 with (first|(go_at_call 441;refine (hf _ (HH.out.alloc _)).mono ?_;rintro e w2 ⟨rfl,hb2⟩;have OH:=ae (aa (ag _ _) hb2);clear hb2))
 go_loopw [5] (uF w hs N L) (λt _=>N - ((intOf t).toNat+N - hs)%N)
 case atStart=>exact⟨0,by omega,by rw [Nat.add_zero,Nat.mod_eq_of_lt hlt.out],λe he=>absurd he (Nat.not_lt_zero _),OH.out⟩
 case round =>
  obtain⟨d,hd,rfl,hno,hB⟩:=hrel
  have P0:=ae hno
  clear hno;have hT:=HH.out.later hB
  have hm1:(hs+d)%N<N:=Nat.mod_lt _ hpos
  obtain⟨p,hp⟩:=get_some (L:=L) (i:=(hs+d)%N) (by rw [hlen.out];exact hm1)
  have c0:=(hT.at_ _ p hp).c0
  have y0:=hT.a0
  have hnx:=ae (pY hs d N)
  have HP:=ae hp
  clear hp;have HT:=ae hT
  clear hT;have hle:d<=d0:=by
   rcases Nat.lt_or_ge d0 d with h3|h3
   ·have:=P0.out d0 h3 p0 H0.out
    omega
   ·exact h3
  have hback:=ae (back hlt.out hd)
  generalize hat:(hs+d)%N=at_ at *
  have hme:p.k=1\/p.k=2\/(p.k≠1/\p.k≠2):=by omega
  by_cases hkk:p.k=1\/p.k=2
  ·have hlt3:d<d0:=by
    rcases Nat.lt_or_ge d d0 with h3|h3
    ·exact h3
    ·obtain rfl:d=d0:=by omega
     have:=H0.out
     rw [hat,HP.out] at this;cases this
     omega
   have hfin:∀W,Below wr.heap.size wr W->uF w hs N L (ab (((at_:Int)+1)%(N:Int))) W/\N - ((intOf (ab (((at_:Int)+1)%(N:Int)))).toNat+N - hs)%N<N - ((intOf (ab (at_:Int))).toNat+N - hs)%N:=by
    intro W hW;have e1:((at_:Int)+1)%(N:Int)=(((hs+(d+1))%N:Nat):Int):=by rw [<-hnx.out];simp
    rw [e1];refine⟨⟨d+1,by omega,rfl,?_,aa hB hW⟩,?_⟩
    ·intro e he q hq
     rcases Nat.lt_or_ge e d with h3|h3
     ·exact P0.out e h3 q hq
     ·obtain rfl:e=d:=by omega
      rw [hat,HP.out] at hq;cases hq
      exact hkk
    ·simp only [intOf,Int.toNat_natCast]
     rw [back hlt.out (by omega),hback.out];omega
   have HF:=ae hfin
   clear hfin hme;rcases hkk with hk|hk
   ·rw [hk] at c0
    go_wp2_with (first|(go_at_call 442;refine (ja HT.out _ (by assumption)).mono ?_;rintro e w3 ⟨rfl,rfl⟩))
    exact HF.out _ (Below.refl _ _)
   ·rw [hk] at c0
    go_wp2_with (first|(go_at_call 442;refine (ja HT.out _ (by assumption)).mono ?_;rintro e w3 ⟨rfl,rfl⟩))
    exact HF.out _ (Below.refl _ _)
  ·have hn1:(p.k==1)=false:=by simp;omega
   have hn2:(p.k==2)=false:=by simp;omega
   have HK:=ae hkk
   clear hkk hme;go_wp2;go_ret;exact⟨⟨at_,d,p,hd,hat.symm,HP.out,λh=>HK.out (.inl h),λh=>HK.out (.inr h),P0.out,rfl⟩,hB⟩
theorem ax (h:w.cell? ⟨b,o,none⟩=some v)(hne:o≠o'):(w.setCell ⟨b,o',none⟩ u).cell? ⟨b,o,none⟩=some v:=by
 rw [World.cell?_setCell_other _ _ _ _ (λe=>hne (by cases e;rfl))];exact h
theorem iC {b':Nat}(h:w.cell? ⟨b,o,none⟩=some v)(hne:b≠b'):(w.setCell ⟨b',o',none⟩ u).cell? ⟨b,o,none⟩=some v:=by
 rw [World.cell?_setCell_other _ _ _ _ (λe=>hne (by cases e;rfl))];exact h
theorem Tm.cell {L L':List Q}(h:Tm w g gb kn mo li sp N L)(hl:L'.length=N)(hok:∀(i:Nat) (p:Q),L'[i]?=some p->p.c.2.1<az/\p.c.2.2<az)
  (hat:∀(i:Nat) (p:Q),L'[i]?=some p->Pa (w.setCell ⟨gb,o,none⟩ u) gb (i*5) p):Tm (w.setCell ⟨gb,o,none⟩ u) g gb kn mo li sp N L' :=
 ⟨iC h.a0 h.ne,iC h.a1 h.ne,iC h.a2 h.ne,h.a3.other (λe=>h.ne (by cases e;rfl)),h.a4.other (λe=>h.ne (by cases e;rfl)),λj=>by simpa using h.fr j,hat,h.ne,hl,h.pos,h.gJ,hok⟩
theorem Pa.off {p:Q}(h:Pa w b o p)(hne:o'<o\/o+5<=o'):Pa (w.setCell ⟨b,o',none⟩ u) b o p :=
 ⟨ax h.c0 (by omega),ax h.c1 (by omega),ax h.c2 (by omega),ax h.c3 (by omega),ax h.c4 (by omega)⟩
theorem Tm.vP {L:List Q}{p:Q}(h:Tm w g gb kn mo li sp N L)(hp:L[i]?=some p)(k:Int):Tm (w.setCell ⟨gb,i*5,none⟩ (ab k)) g gb kn mo li sp N (L.set i ⟨k,p.c,p.v⟩):=by
 refine h.cell (by rw [List.length_set];exact h.len) (λj q hq=>?_) (λj q hq=>?_)
 ·rcases aP hq with ⟨rfl,rfl⟩|⟨_,h3⟩
  ·exact h.ok _ p hp
  ·exact h.ok _ _ h3
 ·rcases aP hq with ⟨rfl,rfl⟩|⟨hne,h3⟩
  ·have hP:=h.at_ _ _ hp
   exact⟨World.cell?_setCell_same _ _ _ hP.c0,ax hP.c1 (by omega),ax hP.c2 (by omega),ax hP.c3 (by omega),ax hP.c4 (by omega)⟩
  ·exact (h.at_ _ _ h3).off (by omega)
def jy (w:World)(b o:Nat)(x:Q):World :=
 ((((w.setCell ⟨b,o,none⟩ (ab x.k)).setCell ⟨b,o+1,none⟩ (ab x.c.1)).setCell ⟨b,o+2,none⟩ (ai (x.c.2.1:Int))).setCell ⟨b,o+3,none⟩ (ai (x.c.2.2:Int))).setCell ⟨b,o+4,none⟩ (ab x.v)
theorem ej {S:Nat->Prop}{a:World}(h:aj S a w)(hb:S b)(o:Nat)(x:Q):aj S a (jy w b o x) :=
 ((((h.setCell (p:=⟨b,o,none⟩) hb _).setCell (p:=⟨b,o+1,none⟩) hb _).setCell (p:=⟨b,o+2,none⟩) hb _).setCell (p:=⟨b,o+3,none⟩) hb _).setCell (p:=⟨b,o+4,none⟩) hb _
theorem Pa.set {p:Q}(h:Pa w b o p)(x:Q):Pa (jy w b o x) b o x:=by
 have s0:=World.cell?_setCell_same w ⟨b,o,none⟩ (ab x.k) h.c0
 have s1:=World.cell?_setCell_same (w.setCell ⟨b,o,none⟩ (ab x.k)) ⟨b,o+1,none⟩ (ab x.c.1) (ax h.c1 (by omega))
 have s2:=World.cell?_setCell_same ((w.setCell ⟨b,o,none⟩ (ab x.k)).setCell ⟨b,o+1,none⟩ (ab x.c.1)) ⟨b,o+2,none⟩ (ai (x.c.2.1:Int)) (ax (ax h.c2 (by omega)) (by omega))
 have s3:=World.cell?_setCell_same (((w.setCell ⟨b,o,none⟩ (ab x.k)).setCell ⟨b,o+1,none⟩ (ab x.c.1)).setCell ⟨b,o+2,none⟩ (ai (x.c.2.1:Int))) ⟨b,o+3,none⟩ (ai (x.c.2.2:Int)) (ax (ax (ax h.c3 (by omega)) (by omega)) (by omega))
 unfold jy;exact⟨ax (ax (ax (ax s0 (by omega)) (by omega)) (by omega)) (by omega),ax (ax (ax s1 (by omega)) (by omega)) (by omega),ax (ax s2 (by omega)) (by omega),ax s3 (by omega),World.cell?_setCell_same _ _ _ (ax (ax (ax (ax h.c4 (by omega)) (by omega)) (by omega)) (by omega))⟩
theorem Pa.mj {p:Q}(h:Pa w b o p)(x:Q)(hne:o'+5<=o\/o+5<=o'):Pa (jy w b o' x) b o p:=by
 unfold jy;exact ((((h.off (by omega)).off (by omega)).off (by omega)).off (by omega)).off (by omega)
theorem Tm.set {L:List Q}{p:Q}(h:Tm w g gb kn mo li sp N L)(hp:L[i]?=some p)(x:Q)(hx:x.c.2.1<az/\x.c.2.2<az):Tm (jy w gb (i*5) x) g gb kn mo li sp N (L.set i x):=by
 have hb:aj (·=gb) w (jy w gb (i*5) x):=ej (S:=(·=gb)) (aj.refl _ _) (b:=gb) (by rfl) _ _
 refine⟨an hb h.a0 h.ne,an hb h.a1 h.ne,an hb h.a2 h.ne,h.a3.but hb h.ne,h.a4.but hb h.ne,λj=>by have:=h.fr j;unfold jy;simpa using this,λj q hq=>?_,h.ne,by rw [List.length_set];exact h.len,h.pos,h.gJ,λj q hq=>?_⟩
 ·rcases aP hq with ⟨rfl,rfl⟩|⟨hne,h3⟩
  ·exact (h.at_ _ _ hp).set _
  ·exact (h.at_ _ _ h3).mj _ (by omega)
 ·rcases aP hq with ⟨rfl,rfl⟩|⟨_,h3⟩
  ·exact hx
  ·exact h.ok _ _ h3
theorem Tm.live {L:List Q}(h:Tm w g gb kn mo li sp N L)(v:Int):Tm (w.setCell ⟨g,3,none⟩ (ab v)) g gb kn mo v sp N L:=by
 have hb:aj (·=g) w (w.setCell ⟨g,3,none⟩ (ab v)):=(aj.refl (·=g) _).setCell (p:=⟨g,3,none⟩) (show g=g from rfl) _
 have hne:¬gb=g:=λe=>h.ne e.symm
 exact⟨ax h.a0 (by omega),ax h.a1 (by omega),ax h.a2 (by omega),h.a3.put,h.a4.other (λe=>by cases e),λj=>by simpa using h.fr j,λi p hp=>(h.at_ i p hp).but hb hne,h.ne,h.len,h.pos,h.gJ,h.ok⟩
theorem Tm.spare {L:List Q}(h:Tm w g gb kn mo li sp N L)(v:Int):Tm (w.setCell ⟨g,4,none⟩ (ab v)) g gb kn mo li v N L:=by
 have hb:aj (·=g) w (w.setCell ⟨g,4,none⟩ (ab v)):=(aj.refl (·=g) _).setCell (p:=⟨g,4,none⟩) (show g=g from rfl) _
 have hne:¬gb=g:=λe=>h.ne e.symm
 exact⟨ax h.a0 (by omega),ax h.a1 (by omega),ax h.a2 (by omega),h.a3.other (λe=>by cases e),h.a4.put,λj=>by simpa using h.fr j,λi p hp=>(h.at_ i p hp).but hb hne,h.ne,h.len,h.pos,h.gJ,h.ok⟩
def In (g gb:Nat)(k:Nat):Prop:=k=g\/k=gb
def t_ (w:World)(g gb kn mo:Nat)(li sp:Int)(N:Nat)(L:List Q)(at_:Nat)(pc:Cp)(pv:Int)(W:World):Prop :=
 ∃(to_ d:Nat) (q:Q),d<N/\to_=(hm kn N pc+d)%N/\L[to_]?=some q/\q.k≠1/\q.k≠2/\(∀e,e<d->∀p':Q,L[(hm kn N pc+e)%N]?=some p'->p'.k=1\/p'.k=2)/\Tm W g gb kn mo li sp N ((L.set at_ q).set to_ ⟨1,pc,pv⟩)/\aj (In g gb) w W
theorem rR {L:List Q}(h:Tm w g gb kn mo li sp N L)(at_:Nat)(p:Q)(hp:L[at_]?=some p)(hk:p.k=3) :
  Calls Tryz.prog 443 #[aq g,ab (at_:Int)] w λe w'=>e=.returned (.tuple #[])/\t_ w g gb kn mo li sp N L at_ p.c p.v w':=by
 obtain⟨pk,pc,pv⟩:=p
 obtain rfl:pk=3:=hk
 have hat:at_<N:=by rw [<-h.len];exact eA hp
 have hP:=h.at_ _ _ hp
 obtain⟨c1,c2,c3⟩:=(⟨hP.c1,hP.c2,hP.c3⟩:_/\_/\_)
 have y0:=h.a0
 have hbig:=h.gJ
 have HH:=ae h
 have T1:=ae hp
 have hok:=h.ok _ _ hp
 have hop:=λ(W:World) (hW:Tm W g gb kn mo li sp N L)=>lH hW ⟨at_,_,hp,by simp,by simp⟩ pc.1 pc.2.1 pc.2.2 hok.1 hok.2
 clear h hP hp;go_enter Tryz.func443,Tryz.ntmps443
 go_upto_region 1 with (first|(go_at_call 433;refine (hop _ HH.out).mono ?_;rintro e w2 ⟨⟨to_,d,q,hd,hto,hq,hq1,hq2,hpath,rfl⟩,hb2⟩;have Um:=ae hto;have S_:=ae hpath;have HQ:=ae hq;have OH:=ae hb2;clear hto hpath hq hb2))
 have hT2:=HH.out.later OH.out
 have hto2:to_<N:=by rw [Um.out];exact Nat.mod_lt _ (by omega)
 have hP:=hT2.at_ _ _ T1.out
 have hQ:=hT2.at_ _ _ HQ.out
 have z0:=hT2.a0
 obtain⟨p0,p1,p2,p3,p4⟩:=hP
 obtain⟨q0,q1,q2,q3,q4⟩:=hQ
 have hfr:=hT2.fr
 have hne:=hT2.ne
 have OO:=ae hT2
 clear hT2 y0 c1 c2 c3;have hfin:∀W:World,W=((jy (jy w2 gb (at_*5) q) gb (to_*5) ⟨3,pc,pv⟩).setCell ⟨gb,to_*5,none⟩ (ab 1)).drew ->
   t_ w g gb kn mo li sp N L at_ pc pv W:=by
  rintro W rfl
  have e1:(L.set at_ q)[to_]?=some q:=by
   rw [List.getElem?_set];split
   ·next he=>rw [if_pos (eA T1.out)]
   ·exact HQ.out
  have t1:=OO.out.set T1.out q (OO.out.ok _ _ HQ.out)
  have t2:=t1.set e1 ⟨3,pc,pv⟩ hok
  have e2:((L.set at_ q).set to_ (⟨3,pc,pv⟩:Q))[to_]?=some ⟨3,pc,pv⟩:=by
   rw [List.getElem?_set,if_pos rfl,if_pos (eA e1)]
  have t3:=t2.vP e2 1
  rw [List.set_set] at t3;exact⟨to_,d,q,hd,Um.out,HQ.out,hq1,hq2,S_.out,t3.later (Below.refl _ _).drew,((ej (ej (aj.of OH.out) (.inr rfl) _ _) (.inr rfl) _ _).setCell (p:=⟨gb,to_*5,none⟩) (.inr rfl) _).call (Below.refl _ _).drew⟩
 have HF:=ae hfin
 clear hfin;by_cases hat2:at_=to_
 ·subst hat2
  obtain rfl:q=⟨3,pc,pv⟩:=by have:=HQ.out;rw [T1.out] at this;exact (Option.some.inj this).symm
  clear q0 q1 q2 q3 q4;go_region
  go_wp2;go_end0
  exact⟨rfl,HF.out _ rfl⟩
 ·have hat3:to_≠at_:=λe=>hat2 e.symm
  go_region
  go_wp2;go_end0
  exact⟨rfl,HF.out _ rfl⟩
end Go.Proofs.YtmhinfbkmjdgfaaGreatDoor.H.I
namespace Go.Proofs.YtmhinfbkmjdgfaaGreatDoor.H
variable {V:Type}
variable {h:Cp->Nat}{i:Nat}
theorem CN {E:List (Cp×V)}(h:(E.map Prod.fst).Nodup){c:Cp}{u v:V}(hu:(c,u)∈E)(hv:(c,v)∈E):u=v:=by
 induction E with
 | nil=>cases hu
 | cons a r ih =>
  rw [List.map_cons,List.nodup_cons] at h;rcases List.mem_cons.1 hu with h1|h1
  ·rcases List.mem_cons.1 hv with h2|h2
   ·rw [<-h1] at h2;exact (Prod.mk.inj h2).2.symm
   ·exact absurd (List.mem_map.2 ⟨_,h2,by rw [<-h1]⟩) h.1
  ·rcases List.mem_cons.1 hv with h2|h2
   ·exact absurd (List.mem_map.2 ⟨_,h1,by rw [<-h2]⟩) h.1
   ·exact ih h.2 h1 h2
def relabel (p:Pl V):Pl V:=if p.k=1 then ⟨3,p.c,p.v⟩ else if p.k=2 then ⟨0,p.c,p.v⟩ else p
theorem ie {p:Pl V}(h:p.k=1):relabel p=⟨3,p.c,p.v⟩:=by unfold relabel;rw [if_pos h]
theorem im {p:Pl V}(h:p.k=2):relabel p=⟨0,p.c,p.v⟩:=by unfold relabel;rw [if_neg (by omega),if_pos h]
theorem gZ {p:Pl V}(h:p.k≠1)(h2:p.k≠2):relabel p=p:=by unfold relabel;rw [if_neg h,if_neg h2]
theorem pJ {p:Pl V}(h:p.k=0\/p.k=1\/p.k=2):fH (relabel p)=fH p:=by
 rcases h with h|h|h
 ·rw [gZ (by omega) (by omega)]
 ·rw [ie h];simp [fH,h]
 ·rw [im h];simp [fH,h]
theorem oC {L:List (Pl V)}(h:∀(i:Nat) (p:Pl V),L[i]?=some p->p.k=0\/p.k=1\/p.k=2):eI (L.map relabel)=eI L:=by
 induction L with
 | nil=>rfl
 | cons a r ih =>
  have h0:=pJ (h 0 a rfl)
  have h1:=ih (λi p hp=>h (i+1) p hp)
  unfold eI at h1 ⊢
  rw [List.map_cons,List.filterMap_cons,List.filterMap_cons,h0,h1]
def Up (i:Nat)(L M:List (Pl V)):Prop:=M.length=L.length/\∀j:Nat,M[j]?=if j<i then (L[j]?).map relabel else L[j]?
theorem Up.zero (L:List (Pl V)):Up 0 L L:=⟨rfl,λj=>by simp⟩
theorem Up.at_ {L M:List (Pl V)}(h:Up i L M):M[i]?=L[i]?:=by rw [h.2 i,if_neg (Nat.lt_irrefl _)]
theorem Up.step {L M:List (Pl V)}(h:Up i L M){p x:Pl V}(hp:L[i]?=some p)(hx:x=relabel p):Up (i+1) L (M.set i x):=by
 refine⟨by rw [List.length_set];exact h.1,λj=>?_⟩
 rw [List.getElem?_set];by_cases he:i=j
 ·subst he
  rw [if_pos rfl,if_pos (by rw [h.1];exact eA hp),if_pos (by omega),hp,hx]
  rfl
 ·rw [if_neg he,h.2 j]
  by_cases h1:j<i
  ·rw [if_pos h1,if_pos (by omega)]
  ·rw [if_neg h1,if_neg (by omega)]
theorem Up.same {L M:List (Pl V)}(h:Up i L M){p:Pl V}(hp:L[i]?=some p)(hx:relabel p=p):Up (i+1) L M:=by
 refine⟨h.1,λj=>?_⟩
 rw [h.2 j];by_cases h1:j<i
 ·rw [if_pos h1,if_pos (by omega)]
 ·rw [if_neg h1]
  by_cases h2:j=i
  ·subst h2
   rw [if_pos (by omega),hp];simp [hx]
  ·rw [if_neg (by omega)]
theorem Up.EV {L M:List (Pl V)}(h:Up i L M)(hi:L.length<=i):M=L.map relabel:=by
 apply List.ext_getElem?
 intro j;rw [h.2 j,List.getElem?_map];by_cases h1:j<i
 ·rw [if_pos h1]
 ·rw [if_neg h1,List.getElem?_eq_none (by omega)]
  rfl
structure vN (h:Cp->Nat)(L M:List (Pl V))(i:Nat):Prop where
 kinds:∀(j:Nat) (p:Pl V),M[j]?=some p->p.k=0\/p.k=1\/p.k=3
 xk:Way h (·=1) M
 perm:(eI M).Perm (eI L)
 gone:∀(j:Nat) (p:Pl V),j<i->M[j]?=some p->p.k≠3
theorem vN.start (h:Cp->Nat){L:List (Pl V)}(hk:∀(i:Nat) (p:Pl V),L[i]?=some p->p.k=0\/p.k=1\/p.k=2):vN h L (L.map relabel) 0:=by
 have key:∀(j:Nat) (p:Pl V),(L.map relabel)[j]?=some p->p.k=0\/p.k=3:=by
  intro j p hp;rw [List.getElem?_map] at hp;cases hq:L[j]? with
  | none=>rw [hq] at hp;cases hp
  | some q =>
   rw [hq] at hp;simp only [Option.map_some,Option.some.injEq] at hp;subst hp;rcases hk j q hq with h1|h1|h1
   ·rw [gZ (by omega) (by omega)];exact .inl h1
   ·rw [ie h1];exact .inr rfl
   ·rw [im h1];exact .inl rfl
 refine⟨λj p hp=>?_,λj p hp h1=>?_,by rw [oC hk],λj p hj=>absurd hj (Nat.not_lt_zero _)⟩
 ·rcases key j p hp with h1|h1
  ·exact .inl h1
  ·exact .inr (.inr h1)
 ·rcases key j p hp with h2|h2<;>omega
theorem vN.next {L M:List (Pl V)}(m:vN h L M i){p:Pl V}(hp:M[i]?=some p)(hk:p.k≠3):vN h L M (i+1) :=
 ⟨m.kinds,m.xk,m.perm,λj q hj hq=>by
  rcases Nat.lt_or_ge j i with h1|h1
  ·exact m.gone j q h1 hq
  ·obtain rfl:j=i:=by omega
   rw [hp] at hq;cases hq
   exact hk⟩
theorem vN.settle {L M:List (Pl V)}(m:vN h L M i){p q:Pl V}(hp:M[i]?=some p)(hk:p.k=3){to_ d:Nat}(hd:d<M.length)(hto:to_=(h p.c+d)%M.length)(hq:M[to_]?=some q)(h1:q.k≠1)(h2:q.k≠2)
  (hpath:∀e,e<d->∀p':Pl V,M[(h p.c+e)%M.length]?=some p'->p'.k=1\/p'.k=2):vN h L ((M.set i q).set to_ ⟨1,p.c,p.v⟩) i/\Cv ((M.set i q).set to_ ⟨1,p.c,p.v⟩)<Cv M:=by
 have e1:(M.set i q)[to_]?=some q:=by
  rw [List.getElem?_set];split
  ·rw [if_pos (eA hp)]
  ·exact hq
 refine⟨⟨?_,?_,?_,?_⟩,?_⟩
 ·intro j x hx
  rcases aP hx with ⟨rfl,rfl⟩|⟨_,h3⟩
  ·exact .inr (.inl rfl)
  ·rcases aP h3 with ⟨rfl,rfl⟩|⟨_,h4⟩
   ·exact m.kinds _ _ hq
   ·exact m.kinds _ _ h4
 ·have w1:Way h (·=1) (M.set i q):=m.xk.set (λx hx hx1=>by rw [hp] at hx;cases hx;omega) (λhx=>absurd hx h1)
  refine w1.set (λ_ _ _=>rfl) (λ_=>?_)
  rw [List.length_set];refine⟨d,hd,hto,λe he x hx=>?_⟩
  rcases aP hx with ⟨h3,rfl⟩|⟨_,h3⟩
  ·have:=hpath e he p (by rw [h3];exact hp)
   omega
  ·rcases hpath e he x h3 with h4|h4
   ·exact h4
   ·have:=m.kinds _ _ h3
    omega
 ·refine List.Perm.trans (wa hp hq (x:=⟨1,p.c,p.v⟩) ?_) m.perm
  simp [fH,hk]
 ·intro j x hj hx
  rcases aP hx with ⟨rfl,rfl⟩|⟨_,h3⟩
  ·simp
  ·rcases aP h3 with ⟨rfl,rfl⟩|⟨_,h4⟩
   ·omega
   ·exact m.gone _ _ hj h4
 ·have a1:=uu (x:=q) hp
  have a2:=uu (x:=(⟨1,p.c,p.v⟩:Pl V)) e1
  simp only [hk,if_true] at a1;simp only [show ¬((1:Int)=3) by omega,if_false] at a2;omega
theorem vN.EV {L M:List (Pl V)}(m:vN h L M i)(hi:M.length<=i):(∀(j:Nat) (p:Pl V),M[j]?=some p->p.k=0\/p.k=1)/\Way h (·≠0) M:=by
 have hk:∀(j:Nat) (p:Pl V),M[j]?=some p->p.k=0\/p.k=1:=λj p hp=>by
  have h1:=m.gone j p (by have:=eA hp;omega) hp
  rcases m.kinds j p hp with h2|h2|h2
  ·exact .inl h2
  ·exact .inr h2
  ·exact absurd h2 h1
 refine⟨hk,λj p hp h1=>?_⟩
 obtain⟨d,a,b,c⟩:=m.xk j p hp h1
 exact⟨d,a,b,λe he q hq=>by rw [c e he q hq];decide⟩
end Go.Proofs.YtmhinfbkmjdgfaaGreatDoor.H
