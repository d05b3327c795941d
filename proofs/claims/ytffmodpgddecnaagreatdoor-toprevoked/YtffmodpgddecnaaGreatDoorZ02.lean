import Derived.BigRegion
import Derived.Test.YtffmodpgddecnaaGreatDoorZ01
set_option linter.unusedVariables false
set_option linter.unusedSimpArgs false
set_option maxRecDepth 100000
set_option maxHeartbeats 1000000
namespace Go.Proofs.YtffmodpgddecnaaGreatDoor
open Go.RowKit
theorem Tm.cell {w:World}{g gb m:Nat}{N N':List Nd}{o:Nat}{u:Value}(h:Tm w g gb m N)(hl:N'.length=m)
  (hat:∀(i:Nat) (x:Nd),N'[i]?=some x->Pn (w.setCell ⟨gb,o,none⟩ u) gb (i*4) x):Tm (w.setCell ⟨gb,o,none⟩ u) g gb m N' :=
 ⟨bO h.a0 h.ne,λj=>by simpa using h.fr j,hat,h.ne,by simpa [World.setCell] using h.po,hl,h.eI⟩
theorem Pn.off {w:World}{b o o':Nat}{x:Nd}{u:Value}(h:Pn w b o x)(hne:o'<o\/o+4<=o'):Pn (w.setCell ⟨b,o',none⟩ u) b o x :=
 ⟨ak h.c0 (by omega),ak h.c1 (by omega),ak h.c2 (by omega),ak h.c3 (by omega)⟩
theorem Tm.Jp {w:World}{g gb m:Nat}{N:List Nd}{i:Nat}{x:Nd}(h:Tm w g gb m N)(hx:N[i]?=some x)(v:Int):Tm (w.setCell ⟨gb,i*4+1,none⟩ (.int .i64 v)) g gb m (N.set i ⟨x.th,v,x.fi,x.be⟩):=by
 refine h.cell (by rw [List.length_set];exact h.len) (λj q hq=>?_)
 rcases aD hq with ⟨rfl,rfl⟩|⟨hne,h3⟩
 ·have hP:=h.at_ _ _ hx
  exact⟨ak hP.c0 (by omega),World.cell?_setCell_same _ _ _ hP.c1,ak hP.c2 (by omega),ak hP.c3 (by omega)⟩
 ·exact (h.at_ _ _ h3).off (by omega)
theorem Tm.ER {w:World}{g gb m:Nat}{N:List Nd}(h:Tm w g gb m N){p:Nat}{c:List Int}(hc:dy N p c){i:Nat}(hi:i<=c.length)(v:Int) :
  Tm (w.setCell ⟨gb,j_ p c i*4+mN i,none⟩ (.int .i64 v)) g gb m (gJ N p c i v):=by
 obtain⟨h1,h2⟩:=dy.cell h hc hi
 obtain⟨x,hx⟩:=get_some (L:=N) (i:=j_ p c i) (by rw [h.len];exact h1)
 unfold gJ;rw [hx];generalize j_ p c i=k at *
 refine h.cell (by rw [List.length_set];exact h.len) (λj q hq=>?_)
 rcases aD hq with ⟨rfl,rfl⟩|⟨hne,h3⟩
 ·have hP:=h.at_ _ _ hx
  cases i with
  | zero=>exact⟨ak hP.c0 (by simp [mN]),ak hP.c1 (by simp [mN]),World.cell?_setCell_same _ _ _ hP.c2,ak hP.c3 (by simp [mN])⟩
  | succ i=>exact⟨ak hP.c0 (by simp [mN]),ak hP.c1 (by simp [mN]),ak hP.c2 (by simp [mN]),World.cell?_setCell_same _ _ _ hP.c3⟩
 ·have:mN i<4:=by cases i<;>simp [mN]
  exact (h.at_ _ _ h3).off (by omega)
def i_ (w:World)(b o:Nat)(x:Nd):World :=
 (((w.setCell ⟨b,o,none⟩ (.bool x.th)).setCell ⟨b,o+1,none⟩ (.int .i64 x.pa)).setCell ⟨b,o+2,none⟩ (.int .i64 x.fi)).setCell ⟨b,o+3,none⟩ (.int .i64 x.be)
theorem jq {S:Nat->Prop}{a w:World}(h:ah S a w){b:Nat}(hb:S b)(o:Nat)(x:Nd):ah S a (i_ w b o x) :=
 (((h.setCell (p:=⟨b,o,none⟩) hb _).setCell (p:=⟨b,o+1,none⟩) hb _).setCell (p:=⟨b,o+2,none⟩) hb _).setCell (p:=⟨b,o+3,none⟩) hb _
theorem Pn.set {w:World}{b o:Nat}{y:Nd}(h:Pn w b o y)(x:Nd):Pn (i_ w b o x) b o x:=by
 have s0:=World.cell?_setCell_same w ⟨b,o,none⟩ (.bool x.th) h.c0
 have s1:=World.cell?_setCell_same (w.setCell ⟨b,o,none⟩ (.bool x.th)) ⟨b,o+1,none⟩ (.int .i64 x.pa) (ak h.c1 (by omega))
 have s2:=World.cell?_setCell_same ((w.setCell ⟨b,o,none⟩ (.bool x.th)).setCell ⟨b,o+1,none⟩ (.int .i64 x.pa)) ⟨b,o+2,none⟩ (.int .i64 x.fi) (ak (ak h.c2 (by omega)) (by omega))
 unfold i_;exact⟨ak (ak (ak s0 (by omega)) (by omega)) (by omega),ak (ak s1 (by omega)) (by omega),ak s2 (by omega),World.cell?_setCell_same _ _ _ (ak (ak (ak h.c3 (by omega)) (by omega)) (by omega))⟩
theorem Pn.mJ {w:World}{b o o':Nat}{y:Nd}(h:Pn w b o y)(x:Nd)(hne:o'+4<=o\/o+4<=o'):Pn (i_ w b o' x) b o y:=by
 unfold i_;exact (((h.off (by omega)).off (by omega)).off (by omega)).off (by omega)
theorem Tm.set {w:World}{g gb m:Nat}{N:List Nd}{i:Nat}{y:Nd}(h:Tm w g gb m N)(hy:N[i]?=some y)(x:Nd):Tm (i_ w gb (i*4) x) g gb m (N.set i x):=by
 have hb:ah (·=gb) w (i_ w gb (i*4) x):=jq (S:=(·=gb)) (ah.refl _ _) (b:=gb) (by rfl) _ _
 refine⟨ag hb h.a0 h.ne,λj=>by have:=h.fr j;unfold i_;simpa using this,λj q hq=>?_,h.ne,Nat.lt_of_lt_of_le h.po hb.size,by rw [List.length_set];exact h.len,h.eI⟩
 rcases aD hq with ⟨rfl,rfl⟩|⟨hne,h3⟩
 ·exact (h.at_ _ _ hy).set _
 ·exact (h.at_ _ _ h3).mJ _ (by omega)
def e_ (m:Nat)(l:Fo)(n:Int):Int:=if 0<=n/\n<m then (if n∈aj l then 19 else 0) else 20
def qS (m:Nat)(l:Fo)(n:Int):Fo:=if (0<=n/\n<m)/\n∉aj l then l++[(n,-1)] else l
theorem pU {w:World}{g gb m:Nat}{N:List Nd}{l:Fo}(hT:Tm w g gb m N)(hR:dk m l N)(k:Nat)(hk:k<m)(hn:(k:Int)∉aj l) :
  Calls Tryz.prog 378 #[.pointer (some ⟨g,0,none⟩),.int .i64 (k:Int)] w λe w'=>e=.returned (.int .i64 0)/\Tm w' g gb m (N.set k ⟨true,-1,-1,-1⟩)/\ah (·=gb) w w':=by
 obtain⟨x,hx⟩:=get_some (L:=N) (i:=k) (by rw [hT.len];exact hk)
 have hc:=eJ hT k hk
 have hP:=hT.at_ k x hx
 have c0:=hP.c0
 have c1:=hP.c1
 have c2:=hP.c2
 have c3:=hP.c3
 rw [hR.there hx,decide_eq_false hn] at c0;have f0:=hT.fr (k*4)
 have f1:=hT.fr (k*4+1)
 have f2:=hT.fr (k*4+2)
 have f3:=hT.fr (k*4+3)
 have HT:=ab (hT.set hx ⟨true,-1,-1,-1⟩)
 have HB:Hid (ah (·=gb) w (i_ w gb (k*4) ⟨true,-1,-1,-1⟩)):=jq (S:=(·=gb)) (ah.refl _ _) (b:=gb) (by rfl) _ _
 unfold i_ at HT HB;clear hT hR hn hP hx;go_enter Tryz.func378,Tryz.ntmps378
 go_wp2_with (first|(go_at_call 373;refine hc.mono ?_;rintro e w1 ⟨rfl,rfl⟩))
 go_ret;exact⟨rfl,HT.out,HB.out⟩
theorem uE {w:World}{g gb m:Nat}{l:Fo}(h:Ki w g gb m l)(n:Int)(hn:(n<0\/(m:Int)<=n)\/n∈aj l) :
  Calls Tryz.prog 378 #[.pointer (some ⟨g,0,none⟩),.int .i64 n] w λe w'=>e=.returned (.int .i64 (e_ m l n))/\w'=w:=by
 obtain⟨N,hT,hR⟩:=h
 by_cases h1:n<0\/(m:Int)<=n
 ·rw [show e_ m l n=20 by unfold e_;rw [if_neg (by omega)]]
  have hc:=oV hT n h1
  clear hT hR hn h1;go_enter Tryz.func378,Tryz.ntmps378
  go_wp2_with (first|(go_at_call 373;refine hc.mono ?_;rintro e w1 ⟨rfl,rfl⟩))
  go_ret;exact⟨rfl,rfl⟩
 ·have h2:n∈aj l:=by
   rcases hn with hn|hn
   ·exact absurd hn h1
   ·exact hn
  rw [show e_ m l n=19 by unfold e_;rw [if_pos (by omega),if_pos h2]]
  obtain⟨k,x,rfl,hk,hx⟩:=hR.get h2
  have hc:=eJ hT k hk
  have c0:=(hT.at_ k x hx).c0
  rw [hR.there hx,decide_eq_true h2] at c0;clear hT hR hn h1 h2 hx;go_enter Tryz.func378,Tryz.ntmps378
  go_wp2_with (first|(go_at_call 373;refine hc.mono ?_;rintro e w1 ⟨rfl,rfl⟩))
  go_ret;exact⟨rfl,rfl⟩
def Hs (w:World)(g gb m:Nat)(c:Int)(l:Fo)(e:Ending)(w':World):Prop:=e=.returned (.int .i64 c)/\Ki w' g gb m l/\ah (·=gb) w w'
theorem gG {w:World}{g gb m:Nat}{l:Fo}(h:Ki w g gb m l)(n:Int) :
  Calls Tryz.prog 378 #[.pointer (some ⟨g,0,none⟩),.int .i64 n] w (Hs w g gb m (e_ m l n) (qS m l n)):=by
 by_cases hn:(0<=n/\n<m)/\n∉aj l
 ·obtain⟨k,rfl⟩:∃k:Nat,n=(k:Int):=⟨n.toNat,by omega⟩
  obtain⟨N,hT,hR⟩:=h
  refine (pU hT hR k (by omega) hn.2).mono ?_
  rintro e w' ⟨rfl,h1,h2⟩
  refine⟨by unfold e_;rw [if_pos hn.1,if_neg hn.2],⟨_,h1,?_⟩,h2⟩
  unfold qS;rw [if_pos hn];exact hR.root (by omega) hn.2
 ·refine (uE h n (by
   by_cases h1:n∈aj l
   ·exact .inr h1
   ·left
    have:¬(0<=n/\n<m):=λh2=>hn ⟨h2,h1⟩
    omega)).mono ?_
  rintro e w' ⟨rfl,rfl⟩
  refine⟨rfl,?_,ah.refl _ _⟩
  unfold qS;rw [if_neg hn];exact h
def lP (m:Nat)(l:Fo)(p n:Int):Int:=if p∈aj l then e_ m l n else 20
def kY (m:Nat)(l:Fo)(p n:Int):Fo:=if p∈aj l/\((0<=n/\n<m)/\n∉aj l) then l++[(n,p)] else l
theorem yW {w:World}{g gb m:Nat}{l:Fo}(h:Ki w g gb m l)(p k:Nat)(hp:(p:Int)∈aj l)(hk:k<m)(hn:(k:Int)∉aj l) :
  Calls Tryz.prog 379 #[.pointer (some ⟨g,0,none⟩),.int .i64 (p:Int),.int .i64 (k:Int)] w (Hs w g gb m 0 (l++[((k:Int),(p:Int))])):=by
 have hh:=aX h (p:Int)
 rw [decide_eq_true hp] at hh;obtain⟨N,hT,hR⟩:=h
 have HR:=ab hR
 have hroot:=ab (pU hT hR k hk hn)
 obtain⟨y,hy⟩:=get_some (L:=N.set k ⟨true,-1,-1,-1⟩) (i:=k) (by rw [List.length_set,hT.len];exact hk)
 have HY:=ab hy
 have hy2:y=⟨true,-1,-1,-1⟩:=by
  rcases aD hy with ⟨_,h⟩|⟨h,_⟩
  ·exact h
  ·exact absurd rfl h
 have SG:=ab hy2
 have HC:Hid (dy ((N.set k ⟨true,-1,-1,-1⟩).set k ⟨y.th,(p:Int),y.fi,y.be⟩) p (ch l p)):=by
  rw [hy2,List.set_set];exact hR.A_ hp hn _
 have HP:=ab hp
 have HN:=ab hn
 have hcl:=ab (λi (hi:i<(ch l p).length)=>show nx (ch l p) i≠-1 from by
  rw [eO hi];have:=hR.ok.range _ (cG (List.getElem_mem hi))
  omega)
 have HZ:Hid (dk m (l++[((k:Int),(p:Int))]) (gJ ((N.set k ⟨true,-1,-1,-1⟩).set k ⟨y.th,(p:Int),y.fi,y.be⟩) p (ch l p) (ch l p).length (k:Int))):=by
  rw [hy2,List.set_set];exact hR.child hk hp hn
 clear hT hR hn hy hy2 hp;go_enter Tryz.func379,Tryz.ntmps379
 go_upto_region 6 with (first|(go_at_call 331;refine hh.mono ?_;rintro e wA ⟨rfl,rfl⟩)|(go_at_call 378;refine hroot.out.mono ?_;rintro e w2 ⟨rfl,hT2,hB2⟩;have PQ:=ab hT2;have PB:=ab hB2;clear hT2 hB2))
 have hP:=PQ.out.at_ k y HY.out
 have c1:=hP.c1
 have f1:=PQ.out.fr (k*4+1)
 have PW:=ab (PQ.out.Jp HY.out (p:Int))
 have hc2:=eJ PQ.out k hk
 clear hP;go_upto_region 7 with (first|(go_at_call 373;refine hc2.mono ?_;rintro e wB ⟨rfl,rfl⟩))
 obtain⟨w3,hw3⟩:∃w3:World,w3=wB.setCell ⟨gb,k*4+1,none⟩ (.int .i64 (p:Int)):=⟨_,rfl⟩
 rw [<-hw3] at PW ⊢
 have PE:Hid (ah (·=gb) wA w3):=by rw [hw3];exact PB.out.setCell (S:=(·=gb)) (p:=⟨gb,k*4+1,none⟩) (show gb=gb from rfl) _
 have hlk:=lD PW.out HC.out (-1) (ch l p).length (Nat.le_refl _) (AQ (Nat.le_refl _)) hcl.out
 obtain⟨_,hcell⟩:=dy.cell PW.out HC.out (i:=(ch l p).length) (Nat.le_refl _)
 have ff:=PW.out.fr (j_ p (ch l p) (ch l p).length*4+mN (ch l p).length)
 have Qm:=ab (PW.out.ER HC.out (Nat.le_refl _) (k:Int))
 unfold Eu at hlk;have PM:Hid (ah (·=gb) wA (w3.setCell ⟨gb,j_ p (ch l p) (ch l p).length*4+mN (ch l p).length,none⟩ (.int .i64 (k:Int)))):=PE.out.setCell (S:=(·=gb)) (p:=⟨gb,_,none⟩) (show gb=gb from rfl) _
 generalize j_ p (ch l p) (ch l p).length*4+mN (ch l p).length=o at *
 clear hw3 f1 c1 hc2 hh;go_wp2_with (first|(go_at_call 399;refine hlk.mono ?_;rintro e w5 ⟨rfl,rfl⟩))
 go_ret;exact⟨rfl,⟨_,Qm.out,HZ.out⟩,PM.out⟩
theorem Ah {w:World}{g gb m:Nat}{l:Fo}(h:Ki w g gb m l)(p n:Int)(hn:p∉aj l\/(n<0\/(m:Int)<=n)\/n∈aj l) :
  Calls Tryz.prog 379 #[.pointer (some ⟨g,0,none⟩),.int .i64 p,.int .i64 n] w λe w'=>e=.returned (.int .i64 (lP m l p n))/\w'=w:=by
 have hh:=aX h p
 by_cases hp:p∈aj l
 ·rw [decide_eq_true hp] at hh
  unfold lP;rw [if_pos hp];have hn2:(n<0\/(m:Int)<=n)\/n∈aj l:=by
   rcases hn with hn|hn
   ·exact absurd hp hn
   ·exact hn
  have hr:=uE h n hn2
  have hE:e_ m l n=19\/e_ m l n=20:=by
   unfold e_;split
   ·split
    ·exact .inl rfl
    ·next h1 h2=>rcases hn2 with h3|h3;omega;exact absurd h3 h2
   ·exact .inr rfl
  clear h hn hp hn2;rcases hE with hE|hE
  ·rw [hE] at hr ⊢
   go_enter Tryz.func379,Tryz.ntmps379
   go_wp2_with (first|(go_at_call 331;refine hh.mono ?_;rintro e w1 ⟨rfl,rfl⟩)|(go_at_call 378;refine hr.mono ?_;rintro e w1 ⟨rfl,rfl⟩))
   go_ret;exact⟨rfl,rfl⟩
  ·rw [hE] at hr ⊢
   go_enter Tryz.func379,Tryz.ntmps379
   go_wp2_with (first|(go_at_call 331;refine hh.mono ?_;rintro e w1 ⟨rfl,rfl⟩)|(go_at_call 378;refine hr.mono ?_;rintro e w1 ⟨rfl,rfl⟩))
   go_ret;exact⟨rfl,rfl⟩
 ·rw [decide_eq_false hp] at hh
  unfold lP;rw [if_neg hp];clear h hn hp;go_enter Tryz.func379,Tryz.ntmps379
  go_wp2_with (first|(go_at_call 331;refine hh.mono ?_;rintro e w1 ⟨rfl,rfl⟩))
  go_ret;exact⟨rfl,rfl⟩
theorem wX {w:World}{g gb m:Nat}{l:Fo}(h:Ki w g gb m l)(p n:Int) :
  Calls Tryz.prog 379 #[.pointer (some ⟨g,0,none⟩),.int .i64 p,.int .i64 n] w (Hs w g gb m (lP m l p n) (kY m l p n)):=by
 by_cases hn:p∈aj l/\((0<=n/\n<m)/\n∉aj l)
 ·have hp2:=h.ok.range p hn.1
  obtain⟨k,rfl⟩:∃k:Nat,n=(k:Int):=⟨n.toNat,by omega⟩
  obtain⟨p,rfl⟩:∃k:Nat,p=(k:Int):=⟨p.toNat,by omega⟩
  unfold lP kY;rw [if_pos hn,if_pos hn.1];rw [show e_ m l (k:Int)=0 by unfold e_;rw [if_pos hn.2.1,if_neg hn.2.2]]
  exact yW h p k hn.1 (by omega) hn.2.2
 ·refine (Ah h p n (by
   by_cases h0:p∈aj l
   ·right
    by_cases h1:n∈aj l
    ·exact .inr h1
    ·left
     have:¬(0<=n/\n<m):=λh2=>hn ⟨h0,h2,h1⟩
     omega
   ·exact .inl h0)).mono ?_
  rintro e w' ⟨rfl,rfl⟩
  refine⟨rfl,?_,ah.refl _ _⟩
  unfold kY;rw [if_neg hn];exact h
def tY (l:Fo)(n:Int):Int:=if n∈aj l then (if ch l n=[] then 0 else 19) else 20
def zR (l:Fo)(n:Int):Fo:=if n∈aj l/\ch l n=[] then cut l n else l
theorem G0 {w:World}{g gb m:Nat}{l:Fo}(h:Ki w g gb m l)(n:Int)(hn:n∉aj l\/ch l n≠[]) :
  Calls Tryz.prog 392 #[.pointer (some ⟨g,0,none⟩),.int .i64 n] w λe w'=>e=.returned (.int .i64 (tY l n))/\w'=w:=by
 have hh:=aX h n
 by_cases h1:n∈aj l
 ·have h2:ch l n≠[]:=by
   rcases hn with hn|hn
   ·exact absurd h1 hn
   ·exact hn
  rw [show tY l n=19 by unfold tY;rw [if_pos h1,if_neg h2]]
  rw [decide_eq_true h1] at hh;obtain⟨N,hT,hR⟩:=h
  obtain⟨k,x,rfl,hk,hx⟩:=hR.get h1
  have hc:=eJ hT k hk
  have c2:=(hT.at_ k x hx).c2
  have hf:=hR.fi k x hx h1
  have hpos:0<(ch l k).length:=List.length_pos_iff.2 h2
  rw [eO hpos] at hf;have hr:=hR.ok.range _ (cG (List.getElem_mem hpos))
  rw [<-hf] at hr;have hne:(x.fi==-1)=false:=by simp;omega
  clear hT hR hn h1 h2 hx hpos hf;go_enter Tryz.func392,Tryz.ntmps392
  go_wp2_with (first|(go_at_call 331;refine hh.mono ?_;rintro e w1 ⟨rfl,rfl⟩)|(go_at_call 373;refine hc.mono ?_;rintro e w1 ⟨rfl,rfl⟩))
  go_ret;exact⟨rfl,rfl⟩
 ·rw [decide_eq_false h1] at hh
  rw [show tY l n=20 by unfold tY;rw [if_neg h1]]
  clear h hn h1;go_enter Tryz.func392,Tryz.ntmps392
  go_wp2_with (first|(go_at_call 331;refine hh.mono ?_;rintro e w1 ⟨rfl,rfl⟩))
  go_ret;exact⟨rfl,rfl⟩
theorem Aa {w:World}{g gb m:Nat}{l:Fo}(h:Ki w g gb m l)(k:Nat)(hn:((k:Int),-1)∈l)(hc:ch l k=[]) :
  Calls Tryz.prog 392 #[.pointer (some ⟨g,0,none⟩),.int .i64 (k:Int)] w (Hs w g gb m 0 (cut l k)):=by
 have h1:=av.2 ⟨_,hn⟩
 have hh:=aX h (k:Int)
 rw [decide_eq_true h1] at hh;obtain⟨N,hT,hR⟩:=h
 obtain⟨k',x,hk',hk,hx⟩:=hR.get h1
 obtain rfl:k=k':=by omega
 have ha:=eJ hT k hk
 have hP:=hT.at_ k x hx
 have c0:=hP.c0
 have c1:=hP.c1
 have c2:=hP.c2
 have c3:=hP.c3
 rw [hR.fi k x hx h1,hc] at c2;rw [(hR.vT k x _ hx hn).2] at c1;have c2':w.cell? ⟨gb,k*4+2,none⟩=some (.int .i64 (-1)):=c2
 have f0:=hT.fr (k*4)
 have f1:=hT.fr (k*4+1)
 have f2:=hT.fr (k*4+2)
 have f3:=hT.fr (k*4+3)
 have HT:=ab (hT.set hx xO)
 have HB:Hid (ah (·=gb) w (i_ w gb (k*4) xO)):=jq (S:=(·=gb)) (ah.refl _ _) (b:=gb) (by rfl) _ _
 unfold i_ at HT HB;simp only [xO] at HT HB;have HR:=ab (hR.CN hn hc)
 clear hT hR hn hP hx h1 c2 hk' hc;go_enter Tryz.func392,Tryz.ntmps392
 go_wp2_with (first|(go_at_call 331;refine hh.mono ?_;rintro e w1 ⟨rfl,rfl⟩)|(go_at_call 373;refine ha.mono ?_;rintro e w1 ⟨rfl,rfl⟩))
 go_ret;exact⟨rfl,⟨_,HT.out,HR.out⟩,HB.out⟩
theorem wD {w:World}{g gb m:Nat}{l:Fo}(h:Ki w g gb m l)(k p:Nat)(hn:((k:Int),(p:Int))∈l)(hc:ch l k=[]) :
  Calls Tryz.prog 392 #[.pointer (some ⟨g,0,none⟩),.int .i64 (k:Int)] w (Hs w g gb m 0 (cut l k)):=by
 have h1:=av.2 ⟨_,hn⟩
 have hh:=aX h (k:Int)
 rw [decide_eq_true h1] at hh;obtain⟨N,hT,hR⟩:=h
 obtain⟨k',x,hk',hk,hx⟩:=hR.get h1
 obtain rfl:k=k':=by omega
 have hp:(p:Int)∈aj l:=by
  rcases hR.ok.up hn with h|h
  ·omega
  ·exact h
 obtain⟨i,hi⟩:=List.getElem?_of_mem (bJ.2 hn)
 have hil:=(List.getElem?_eq_some_iff.1 hi).1
 have ha:=eJ hT k hk
 have hP:=hT.at_ k x hx
 have c1:=hP.c1
 have c2:=hP.c2
 have c3:=hP.c3
 rw [hR.fi k x hx h1,hc] at c2;rw [(hR.vT k x _ hx hn).2] at c1;rw [hR.be p (by omega) i k x hi hx] at c3;have c2':w.cell? ⟨gb,k*4+2,none⟩=some (.int .i64 (-1)):=c2
 have hC:=hR.chain hp
 have hlk:=ab (λ(W:World) (hW:Below w.heap.size w W)=>lD (hT.later hW) hC (k:Int) i (by omega) (by rw [nx,hi];rfl) (λj hj e=>by
  have:(ch l p)[j]?=some (k:Int):=by
   rw [eO (by omega)] at e;rw [<-e];exact List.getElem?_eq_getElem (by omega)
  have:=gi (hR.ok.kD p) this hi
  omega))
 obtain⟨_,hcell⟩:=dy.cell hT hC (i:=i) (by omega)
 have ff:=hT.fr (j_ p (ch l p) i*4+mN i)
 have hT2:=hT.ER hC (Nat.le_of_lt hil) (nx (ch l p) (i+1))
 unfold Eu at hlk;have hB2:ah (·=gb) w (w.setCell ⟨gb,j_ p (ch l p) i*4+mN i,none⟩ (.int .i64 (nx (ch l p) (i+1)))):=(ah.refl (·=gb) w).setCell (p:=⟨gb,_,none⟩) (show gb=gb from rfl) _
 have HR:=ab (hR.cut hi hp hc)
 have hl2:=hT2.len
 generalize gJ N p (ch l p) i (nx (ch l p) (i+1))=N2 at *
 generalize j_ p (ch l p) i*4+mN i=o at *
 generalize nx (ch l p) (i+1)=v at *
 have PQ:=ab hT2
 have PB:=ab hB2
 clear hT hR hn hP hx h1 c2 hk' hc hC hi hil hp hT2 hB2;go_enter Tryz.func392,Tryz.ntmps392
 go_upto_region 7 with (first|(go_at_call 331;refine hh.mono ?_;rintro e w1 ⟨rfl,rfl⟩)|(go_at_call 373;refine ha.mono ?_;rintro e w1 ⟨rfl,rfl⟩))
 go_cut [] (λW=>Tm W g gb m N2/\ah (·=gb) w1 W)
 case first =>
  go_region_with (first|(go_at_call 399;refine (hlk.out _ (by first|exact Below.refl _ _|exact (Below.refl _ _).drew|exact below_drewN (Below.refl _ _) _)).mono ?_;rintro e w3 ⟨rfl,rfl⟩))
  all_goals (go_wp2_with fail)
  all_goals go_meet
  all_goals exact⟨PQ.out.later (Below.refl _ _).drew,PB.out.call (Below.refl _ _).drew⟩
 case rest =>
  obtain⟨hT3,hB3⟩:=hcut
  obtain⟨y,hy⟩:=get_some (L:=N2) (i:=k) (by rw [hl2];exact hk)
  have hP:=hT3.at_ k y hy
  have d0:=hP.c0
  have d1:=hP.c1
  have d2:=hP.c2
  have d3:=hP.c3
  have f0:=hT3.fr (k*4)
  have f1:=hT3.fr (k*4+1)
  have f2:=hT3.fr (k*4+2)
  have f3:=hT3.fr (k*4+3)
  have HT:=ab (hT3.set hy xO)
  have HB:Hid (ah (·=gb) w1 (i_ wc gb (k*4) xO)):=jq (S:=(·=gb)) hB3 (b:=gb) (by rfl) _ _
  unfold i_ at HT HB;simp only [xO] at HT HB;clear hT3 hB3 hP hy;go_wp2;go_ret;exact⟨rfl,⟨_,HT.out,HR.out⟩,HB.out⟩
theorem kH {w:World}{g gb m:Nat}{l:Fo}(h:Ki w g gb m l)(n:Int) :
  Calls Tryz.prog 392 #[.pointer (some ⟨g,0,none⟩),.int .i64 n] w (Hs w g gb m (tY l n) (zR l n)):=by
 by_cases hn:n∈aj l/\ch l n=[]
 ·unfold tY zR
  rw [if_pos hn,if_pos hn.1,if_pos hn.2];have hr:=h.ok.range n hn.1
  obtain⟨k,rfl⟩:∃k:Nat,n=(k:Int):=⟨n.toNat,by omega⟩
  obtain⟨p,hp⟩:=av.1 hn.1
  rcases h.ok.up hp with rfl|h2
  ·exact Aa h k hp hn.2
  ·have hr2:=h.ok.range p h2
   obtain⟨p,rfl⟩:∃k:Nat,p=(k:Int):=⟨p.toNat,by omega⟩
   exact wD h k p hp hn.2
 ·refine (G0 h n (by
   by_cases h0:n∈aj l
   ·exact .inr (λh1=>hn ⟨h0,h1⟩)
   ·exact .inl h0)).mono ?_
  rintro e w' ⟨rfl,rfl⟩
  refine⟨rfl,?_,ah.refl _ _⟩
  unfold zR;rw [if_neg hn];exact h
theorem C3:(Tryz.prog.info? 430).map (λi=>(i.zero,i.size,i.bytes))=some (some (.agg #[.bool false,.int .i64 0,.int .i64 0,.int .i64 0]),4,32):=by kernel_rfl
theorem ey (w:World)(n:Nat)(hn:n<=1024) :
  ∃w',(Instr.makeSlice 315 (.int .i64 (n:Int)) (.int .i64 (n:Int))).run Tryz.prog w=.ok (.slice (some ⟨w.heap.size,0,none⟩) n n) w'/\(∀(i:Nat) (p:Nd),(List.replicate n xO)[i]?=some p->Pn w' w.heap.size (i*4) p)/\(∀j,w'.frozen? ⟨w.heap.size,j,none⟩=false)/\w.heap.size<w'.heap.size/\Below w.heap.size w w':=by
 obtain⟨i,hi,hz0,hz1,hz2⟩:=info_parts C3
 obtain⟨w',hr,ho,hg⟩:=run_make_full (P:=Tryz.prog) w w.heap.size 315 430 i _ 4 Tryz.underlying315 hi hz0 hz1 .i64 .i64 n (by rw [hz2];omega) (by unfold maxLen;omega) (Nat.le_refl _)
 have hcell:∀j c u,j<n->c<4->(#[.bool false,.int .i64 0,.int .i64 0,.int .i64 0]:Array Value)[c]! = u->w'.cell? ⟨w.heap.size,j*4+c,none⟩=some u:=by
  intro j c u hj hc hu;have hm:(j*4+c)%4=c:=by omega
  have:=ho.cells (g:=w.heap.size) rfl (j*4+c) u (by
   rw [Array.getElem?_toList];simp only [madeCells,Value.cells,Array.getElem?_map,Array.getElem?_range];rw [if_pos (by omega)];simp only [Option.map_some,Option.some.injEq,Array.size,List.length,hm];exact hu)
  rw [aQ] at this;exact this
 refine⟨w',hr,λj p hp=>?_,λj=>?_,?_,(Below.refl _ _).grown hg (Nat.le_refl _) (λk hk=>by cases hk)⟩
 ·rw [List.getElem?_replicate] at hp
  split at hp
  ·next hj =>
   have:=(Option.some.inj hp).symm
   subst this;exact⟨hcell j 0 _ hj (by omega) rfl,hcell j 1 _ hj (by omega) rfl,hcell j 2 _ hj (by omega) rfl,hcell j 3 _ hj (by omega) rfl⟩
  ·cases hp
 ·rcases ho.2 with ⟨h0,_⟩|⟨g,c,cur,hv,_,hh,hc,_⟩
  ·simp at h0
  ·simp only [Value.slice.injEq,Option.some.injEq,Addr.mk.injEq] at hv
   obtain⟨⟨rfl,_⟩,_,rfl⟩:=hv
   simp [World.frozen?,hh]
 ·exact (bu ho _ rfl).2
def yP (w:World)(m:Nat)(e:Ending)(w':World):Prop :=
 ∃g gb:Nat,e=.returned (.tuple #[.pointer (some ⟨g,0,none⟩),.int .i64 0])/\Ki w' g gb m []/\w.heap.size<=g/\w.heap.size<=gb/\Below w.heap.size w w'
theorem bU (w:World)(m:Nat)(h1:m<=1024):Calls Tryz.prog 170 #[.int .i64 (m:Int)] w (yP w m):=by
 have hk1:¬(m:Int)<0:=by omega
 have hk2:¬(1024:Int)<(m:Int):=by omega
 obtain⟨w2,hr,hA,hF,hsz,hb⟩:=ey w m h1
 have HA:=ab hA
 have TT:=ab hF
 have HB:=ab hb
 clear hA hF hb;go_enter Tryz.func170,Tryz.ntmps170
 go_wp2;refine bodyPost_ret (v:=.tuple #[.pointer (some ⟨w2.heap.size,0,none⟩),.int .i64 0]) (by simp [results,Tryz.results170,go_sem]) rfl ⟨w2.heap.size,w.heap.size,rfl,?_,HB.out.size,Nat.le_refl _,HB.out.alloc HB.out.size _⟩
 have hsh:ah (λ_=>False) w2 (w2.alloc (Obj.cells #[.slice (some ⟨w.heap.size,0,none⟩) m m] 317)):=ah.of (ae _ _)
 refine⟨List.replicate m xO,⟨by simp [go_sem],λj=>?_,λi p hp=>(HA.out i p hp).but hsh (λh=>h),by omega,by simp;omega,by simp,h1⟩,dk.init m⟩
 rw [World.frozen?_of_block (w:=w2) (hsh.block w.heap.size hsz (λh=>h))];exact TT.out j
end Go.Proofs.YtffmodpgddecnaaGreatDoor
namespace Go.Proofs.YtffmodpgddecnaaGreatDoor.H
open Go.RowKit
theorem mF (h v:Nat)(hh:h<aq)(hv:v<aq) :
  bits .xor .u64 (IntKind.u64.wrap (bits .xor .u64 (h:Int) (v:Int)*11400714819323198485)) (IntKind.u64.wrap (bits .xor .u64 (h:Int) (v:Int)*11400714819323198485) / 536870912)=(cL h v:Int):=by
 have e1:IntKind.u64.wrap (bits .xor .u64 (h:Int) (v:Int)*11400714819323198485)=(jX (h ^^^ v):Int):=by
  rw [u64_xor_nat h v hh hv,IntKind.wrap_u64];unfold jX KF aq;omega
 have e2:((jX (h ^^^ v):Nat):Int) / 536870912=((jX (h ^^^ v) / 2 ^ 29:Nat):Int):=by omega
 rw [e1,e2,u64_xor_nat _ _ (ft _) (Nat.lt_of_le_of_lt (Nat.div_le_self _ _) (ft _))];rfl
theorem lC (h v:Nat)(w:World)(hh:h<aq)(hv:v<aq) :
  Calls Tryz.prog 409 #[.int .u64 (h:Int),.int .u64 (v:Int)] w λe w'=>e=.returned (.int .u64 (cL h v:Int))/\w'=w:=by
 have HS:Hid _:=mF h v hh hv
 go_enter Tryz.func409,Tryz.ntmps409
 go_wp2;go_ret;exact⟨aT HS.out,rfl⟩
theorem fu (h n:Nat)(hh:h<aq)(hn:n<=63) :
  bits .and .u64 (h:Int) (IntKind.u64.wrap (IntKind.u64.wrap (2 ^ n) - 1))=((h%2 ^ n:Nat):Int):=by
 have h2:(2:Nat) ^ n<=2 ^ 63:=Nat.pow_le_pow_right (by omega) hn
 have hp:0<(2:Nat) ^ n:=Nat.two_pow_pos n
 have e1:((2:Int) ^ n)=((2 ^ n:Nat):Int):=by simp
 have e2:IntKind.u64.wrap (IntKind.u64.wrap (2 ^ n) - 1)=((2 ^ n - 1:Nat):Int):=by
  rw [e1,IntKind.wrap_u64,IntKind.wrap_u64];omega
 rw [e2,u64_and_nat _ _ hh (by omega),Nat.and_two_pow_sub_one_eq_mod]
theorem jM {h:Nat}{k:Int}(h1:k<=0):cR h k=0:=by unfold cR;rw [if_pos h1]
theorem lr {h:Nat}{k:Int}(h1:64<=k):cR h k=h:=by unfold cR;rw [if_neg (by omega),if_pos h1]
theorem jI {h:Nat}{k:Int}(h1:¬k<=0)(h2:¬64<=k):cR h k=h%2 ^ k.toNat:=by unfold cR;rw [if_neg h1,if_neg h2]
theorem du (h:Nat)(k:Int)(w:World)(hh:h<aq) :
  Calls Tryz.prog 410 #[.int .u64 (h:Int),.int .i64 k] w λe w'=>e=.returned (.int .u64 (cR h k:Int))/\w'=w:=by
 by_cases h1:k<=0
 ·rw [jM h1]
  go_enter Tryz.func410,Tryz.ntmps410
  go_wp2;go_ret;exact⟨rfl,rfl⟩
 ·by_cases h2:64<=k
  ·rw [lr h2]
   go_enter Tryz.func410,Tryz.ntmps410
   go_wp2;go_ret;exact⟨rfl,rfl⟩
  ·rw [jI h1 h2]
   have HL:Hid _:=fu h k.toNat hh (by omega)
   go_enter Tryz.func410,Tryz.ntmps410
   go_wp2;go_ret;exact⟨aT HL.out,rfl⟩
def eA (o:Int):Nat:=(o%18446744073709551616).toNat
theorem pj (o:Int):eA o<aq:=by unfold eA aq;omega
theorem mn (o:Int):IntKind.u64.wrap o=(eA o:Int):=by rw [IntKind.wrap_u64];unfold eA;omega
def pJ (W:World)(x1 x2 x3:Nat)(s t:Value)(w':World):Prop :=
 w'=W/\((t=.int .i64 0/\s=.int .u64 5903417616801668165)\/(t=.int .i64 1/\s=.int .u64 (x1:Int))\/(t=.int .i64 2/\s=.int .u64 (x2:Int))\/(t=.int .i64 3/\s=.int .u64 (x3:Int)))
theorem fJ {y x:Int}{h v:Nat}(w:World)(r:Nat)(hr:r=cL h v)(hy:y=(h:Int))(hx:x=(v:Int))(hh:h<aq)(hv:v<aq) :
  Calls Tryz.prog 409 #[.int .u64 y,.int .u64 x] w λe w'=>e=.returned (.int .u64 (r:Int))/\w'=w:=by
 subst hy hx hr;exact lC h v w hh hv
theorem jQ:(5903417616801668165:Int)=((5903417616801668165:Nat):Int):=rfl
theorem mg:(5903417616801668165:Nat)<aq:=by decide
theorem j2 (o:Int)(n a b x1 x2 x3:Nat)(k:Int)(w:World)(ha:a<aq)(hb:b<aq)(hn:n<aq)
  (h1:x1<aq) (h2:x2<aq) (h3:x3<aq) (ho:Hid (IntKind.u64.wrap o=(n:Int))) (e1:Hid (x1=cL 5903417616801668165 n)) (e2:Hid (x2=cL x1 a)) (e3:Hid (x3=cL x2 b)) :
  Calls Tryz.prog 407 #[.int .i64 o,.agg #[.int .u64 (a:Int),.int .u64 (b:Int)],.int .i64 k] w λe w'=>e=.returned (.int .u64 (cR x3 k:Int))/\Below w.heap.size w w':=by
 go_enter Tryz.func407,Tryz.ntmps407
 go_wp2;go_step3
 go_wp2;go_step3
 go_wp2;go_loopw [7,8] (pJ (w.alloc (Obj.cells #[.int .u64 (a:Int),.int .u64 (b:Int)] 30)) x1 x2 x3) (λ_ t _=>(3 - intOf t).toNat)
 case atStart=>exact⟨rfl,.inl ⟨rfl,rfl⟩⟩
 case round =>
  obtain⟨rfl,⟨rfl,rfl⟩|⟨rfl,rfl⟩|⟨rfl,rfl⟩|⟨rfl,rfl⟩⟩:=hrel
  ·go_wp2_with (first|(go_at_call 409;refine (fJ _ x1 e1.out jQ ho.out mg hn).mono ?_;rintro e w1 ⟨rfl,rfl⟩))
   go_roundw
   case rel=>exact⟨rfl,.inr (.inl ⟨rfl,rfl⟩)⟩
   case measure=>simp [intOf]
  ·go_wp2_with (first|(go_at_call 409;refine (fJ _ x2 e2.out rfl rfl h1 ha).mono ?_;rintro e w1 ⟨rfl,rfl⟩))
   go_roundw
   case rel=>exact⟨rfl,.inr (.inr (.inl ⟨rfl,rfl⟩))⟩
   case measure=>simp [intOf]
  ·go_wp2_with (first|(go_at_call 409;refine (fJ _ x3 e3.out rfl rfl h2 hb).mono ?_;rintro e w1 ⟨rfl,rfl⟩))
   go_roundw
   case rel=>exact⟨rfl,.inr (.inr (.inr ⟨rfl,rfl⟩))⟩
   case measure=>simp [intOf]
  ·go_wp2_with (first|(go_at_call 410;refine (du _ _ _ h3).mono ?_;rintro e w1 ⟨rfl,rfl⟩))
   try rw [Exit.noGoto_ret]
   go_ret;exact⟨rfl,ae _ _⟩
theorem me (o:Int)(a b:Nat)(k:Int)(w:World)(ha:a<aq)(hb:b<aq) :
  Calls Tryz.prog 407 #[.int .i64 o,.agg #[.int .u64 (a:Int),.int .u64 (b:Int)],.int .i64 k] w λe w'=>e=.returned (.int .u64 (cR (eu (eA o) a b) k:Int))/\Below w.heap.size w w' :=
 j2 o (eA o) a b _ _ (eu (eA o) a b) k w ha hb (pj o) (eB _ _) (eB _ _) (gz _ _ _) (mn o) rfl rfl rfl
end Go.Proofs.YtffmodpgddecnaaGreatDoor.H
namespace Go.Proofs.YtffmodpgddecnaaGreatDoor.H.I
open Go.RowKit
abbrev Q:=Pl Int
structure Pa (w:World)(b o:Nat)(p:Q):Prop where
 c0:w.cell? ⟨b,o,none⟩=some (.int .i64 p.k)
 c1:w.cell? ⟨b,o+1,none⟩=some (.int .i64 p.c.1)
 c2:w.cell? ⟨b,o+2,none⟩=some (.int .u64 (p.c.2.1:Int))
 c3:w.cell? ⟨b,o+3,none⟩=some (.int .u64 (p.c.2.2:Int))
 c4:w.cell? ⟨b,o+4,none⟩=some (.int .i64 p.v)
theorem Pa.but {S:Nat->Prop}{w w':World}{b o:Nat}{p:Q}(hb:ah S w w')(h:Pa w b o p)(hn:¬S b):Pa w' b o p :=
 ⟨ag hb h.c0 hn,ag hb h.c1 hn,ag hb h.c2 hn,ag hb h.c3 hn,ag hb h.c4 hn⟩
structure Tm (w:World)(g gb:Nat)(kn mo:Nat)(li sp:Int)(N:Nat)(L:List Q):Prop where
 a0:w.cell? ⟨g,0,none⟩=some (.slice (some ⟨gb,0,none⟩) N N)
 a1:w.cell? ⟨g,1,none⟩=some (.int .i64 (kn:Int))
 a2:w.cell? ⟨g,2,none⟩=some (.int .i64 (mo:Int))
 a3:az w ⟨g,3,none⟩ (.int .i64 li)
 a4:az w ⟨g,4,none⟩ (.int .i64 sp)
 fr:∀j,w.frozen? ⟨gb,j,none⟩=false
 at_:∀(i:Nat) (p:Q),L[i]?=some p->Pa w gb (i*5) p
 ne:g≠gb
 len:L.length=N
 pos:0<N
 eI:N<=1024
 ok:∀(i:Nat) (p:Q),L[i]?=some p->p.c.2.1<aq/\p.c.2.2<aq
theorem Tm.lt {w:World}{g gb kn mo:Nat}{li sp:Int}{N:Nat}{L:List Q}(h:Tm w g gb kn mo li sp N L):g<w.heap.size:=World.block_lt_of_cell? _ _ h.a1
theorem Tm.po {w:World}{g gb kn mo:Nat}{li sp:Int}{N:Nat}{L:List Q}(h:Tm w g gb kn mo li sp N L):gb<w.heap.size:=by
 obtain⟨p,hp⟩:=get_some (L:=L) (i:=0) (by rw [h.len];exact h.pos)
 exact World.block_lt_of_cell? _ _ (h.at_ 0 p hp).c0
theorem Tm.but {S:Nat->Prop}{w w':World}{g gb kn mo:Nat}{li sp:Int}{N:Nat}{L:List Q}(hb:ah S w w')(h:Tm w g gb kn mo li sp N L)(h1:¬S g)(h2:¬S gb):Tm w' g gb kn mo li sp N L :=
 ⟨ag hb h.a0 h1,ag hb h.a1 h1,ag hb h.a2 h1,h.a3.but hb h1,h.a4.but hb h1,λj=>by rw [World.frozen?_of_block (w:=w) (hb.block gb h.po h2)];exact h.fr j,λi p hp=>(h.at_ i p hp).but hb h2,h.ne,h.len,h.pos,h.eI,h.ok⟩
theorem Tm.later {w w':World}{g gb kn mo:Nat}{li sp:Int}{N:Nat}{L:List Q}(hb:Below w.heap.size w w')(h:Tm w g gb kn mo li sp N L):Tm w' g gb kn mo li sp N L:=h.but (S:=λ_=>False) (ah.of hb) (λh=>h) (λh=>h)
theorem Tm.alloc {w:World}{g gb kn mo:Nat}{li sp:Int}{N:Nat}{L:List Q}(h:Tm w g gb kn mo li sp N L)(o:Obj):Tm (w.alloc o) g gb kn mo li sp N L:=h.later (ae _ _)
def hm (kn N:Nat)(c:Cp):Nat:=cR (eu (eA c.1) c.2.1 c.2.2) (kn:Int)%N
theorem E4 {kn N:Nat}(c:Cp)(h:0<N):hm kn N c<N:=Nat.mod_lt _ h
theorem lJ (x N:Nat)(hx:x<aq)(h:0<N)(hN:N<=1024):IntKind.i64.wrap ((x:Int)%(N:Int))=((x%N:Nat):Int):=by
 have h2:x%N<N:=Nat.mod_lt _ h
 rw [<-Int.natCast_emod,IntKind.wrap_i64];omega
theorem fa {w:World}{g gb kn mo:Nat}{li sp:Int}{N:Nat}{L:List Q}(h:Tm w g gb kn mo li sp N L)(at_:Nat)(ha:at_<N) :
  Calls Tryz.prog 405 #[.pointer (some ⟨g,0,none⟩),.int .i64 (at_:Int)] w λe w'=>e=.returned (.int .i64 (((at_+1)%N:Nat):Int))/\w'=w:=by
 have x:=h.a0
 have hp:=h.pos
 have hb:=h.eI
 have HE:Hid (((at_+1)%N:Nat)=((((at_+1:Nat):Int).tmod (N:Int)))):=by unfold Hid;rw [Int.tmod_eq_emod_of_nonneg (by omega)];rfl
 clear h;go_enter Tryz.func405,Tryz.ntmps405
 go_wp2;go_ret;exact⟨aT (by rw [HE.out];rfl),rfl⟩
theorem qO {w:World}{g gb kn mo:Nat}{li:Int}{sp:Nat}{N:Nat}{L:List Q}(h:Tm w g gb kn mo li sp N L)(hs:sp<=1024) :
  Calls Tryz.prog 396 #[.pointer (some ⟨g,0,none⟩)] w λe w'=>e=.returned (.bool (decide (4*sp<N)))/\Below w.heap.size w w':=by
 have x:=h.a0
 have y:=h.a4.1
 have hb:=h.eI
 clear h;go_enter Tryz.func396,Tryz.ntmps396
 go_wp2;go_quiet (fail)
 go_wp2;go_ret;exact⟨au (by simp;omega),below_drewN (Below.refl _ _) _⟩
theorem nr {w:World}{g gb kn mo:Nat}{li sp:Int}{N:Nat}{L:List Q}(h:Tm w g gb kn mo li sp N L)(o:Int)(hi lo:Nat)(h1:hi<aq)(h2:lo<aq) :
  Calls Tryz.prog 404 #[.pointer (some ⟨g,0,none⟩),.agg #[.int .i64 o,.int .u64 (hi:Int),.int .u64 (lo:Int)]] w λe w'=>e=.returned (.int .i64 (hm kn N (o,hi,lo):Int))/\Below w.heap.size w w':=by
 obtain⟨w1,hw1⟩:∃w1,w1=w.alloc (Obj.cells #[.int .i64 o,.int .u64 (hi:Int),.int .u64 (lo:Int)] 37):=⟨_,rfl⟩
 have hB1:Below w.heap.size w w1:=by rw [hw1];exact ae _ _
 have hh:=h.later hB1
 have hC:Hid (∀U:World,Below w1.heap.size w1 U->(U.cell? ⟨w.heap.size,0,none⟩=some (.int .i64 o)/\U.cell? ⟨w.heap.size,1,none⟩=some (.int .u64 (hi:Int))/\U.cell? ⟨w.heap.size,2,none⟩=some (.int .u64 (lo:Int))/\U.cell? ⟨g,0,none⟩=some (.slice (some ⟨gb,0,none⟩) N N)/\U.cell? ⟨g,1,none⟩=some (.int .i64 (kn:Int)))/\Below w1.heap.size w1 U):=λU hU =>
  ⟨⟨cell_later hU (by rw [hw1];simp [go_sem]),cell_later hU (by rw [hw1];simp [go_sem]),cell_later hU (by rw [hw1];simp [go_sem]),cell_later hU hh.a0,cell_later hU hh.a1⟩,hU⟩
 have hp:=h.pos
 have hb:=h.eI
 have HX:Hid (cR (eu (eA o) hi lo) (kn:Int)<aq):=oQ _ (gz _ _ _)
 have HM:Hid (hm kn N (o,hi,lo)=cR (eu (eA o) hi lo) (kn:Int)%N):=rfl
 have hH:=λW=>me o hi lo (kn:Int) W h1 h2
 generalize cR (eu (eA o) hi lo) (kn:Int)=x at HX HM hH
 have HR:=ab (lJ x N HX.out hp hb)
 have hu:IntKind.u64.wrap (N:Int)=(N:Int):=by rw [IntKind.wrap_u64];omega
 have hz:¬N=0:=by omega
 clear h hh;go_enter Tryz.func404,Tryz.ntmps404
 go_wp2;rw [<-hw1];have PC:=ab hB1
 clear hw1 hB1;go_region_held3 (λU=>(U.cell? ⟨w.heap.size,0,none⟩=some (.int .i64 o)/\U.cell? ⟨w.heap.size,1,none⟩=some (.int .u64 (hi:Int))/\U.cell? ⟨w.heap.size,2,none⟩=some (.int .u64 (lo:Int))/\U.cell? ⟨g,0,none⟩=some (.slice (some ⟨gb,0,none⟩) N N)/\U.cell? ⟨g,1,none⟩=some (.int .i64 (kn:Int)))/\Below w1.heap.size w1 U) (first|exact hC.out _ (Below.refl _ _).drew|exact hC.out _ hb2.out) (first|(go_at_call 407;refine (hH _).mono ?_;rintro e w2 ⟨rfl,hb2'⟩;have hb2:=ab (aa (Below.refl w1.heap.size w1).drew hb2')))
 go_wp2;go_ret;exact⟨aT (by rw [HM.out];exact HR.out),aa PC.out (And.right (by assumption))⟩
end Go.Proofs.YtffmodpgddecnaaGreatDoor.H.I
namespace Go.Proofs.YtffmodpgddecnaaGreatDoor.H
open Go.RowKit
theorem below_drewN {k:Nat}{w W:World}(h:Below k w W)(q:Nat):Below k w (W.drewN q):=⟨h.os,h.tape,h.output,h.size,h.block⟩
structure Bx (w:World)(b:Nat)(o:Int)(hi lo:Nat):Prop where
 c0:w.cell? ⟨b,0,none⟩=some (.int .i64 o)
 c1:w.cell? ⟨b,1,none⟩=some (.int .u64 (hi:Int))
 c2:w.cell? ⟨b,2,none⟩=some (.int .u64 (lo:Int))
theorem Bx.new (w:World)(o:Int)(hi lo:Nat):Bx (w.alloc (Obj.cells #[.int .i64 o,.int .u64 (hi:Int),.int .u64 (lo:Int)] 37)) w.heap.size o hi lo :=
 ⟨by simp [go_sem],by simp [go_sem],by simp [go_sem]⟩
theorem Bx.but {S:Nat->Prop}{w w':World}{b:Nat}{o:Int}{hi lo:Nat}(hb:ah S w w')(h:Bx w b o hi lo)(hn:¬S b):Bx w' b o hi lo:=⟨ag hb h.c0 hn,ag hb h.c1 hn,ag hb h.c2 hn⟩
theorem Bx.later {w w':World}{b:Nat}{o:Int}{hi lo:Nat}(hb:Below w.heap.size w w')(h:Bx w b o hi lo):Bx w' b o hi lo:=h.but (S:=λ_=>False) (ah.of hb) (λh=>h)
def rW (a b c d e f:Int):Bool:=decide (a=d/\b=e/\c=f)
theorem xw (a b c d e f:Int)(w:World):(binOp .eql 37 (.agg #[.int .i64 a,.int .u64 b,.int .u64 c]) (.agg #[.int .i64 d,.int .u64 e,.int .u64 f])).run Tryz.prog w=.ok (.bool (rW a b c d e f)) w:=by
 unfold rW;by_cases h1:a=d
 ·subst h1
  by_cases h2:b=e
  ·subst h2
   by_cases h3:c=f
   ·subst h3;simp [go_sem]
   ·simp [go_sem,h3]
  ·simp [go_sem,h2]
 ·simp [go_sem,h1]
end Go.Proofs.YtffmodpgddecnaaGreatDoor.H
namespace Go.Proofs.YtffmodpgddecnaaGreatDoor.H.I
open Go.RowKit
def CA (w:World)(h N:Nat)(L:List Q)(o:Int)(hi lo:Nat)(s t:Value)(w':World):Prop :=
 ∃d:Nat,d<=N/\s=.int .i64 (((h+d)%N:Nat):Int)/\t=.int .i64 (d:Int)/\(∀e,e<d->∀p:Q,L[(h+e)%N]?=some p->p.k=1->p.c≠(o,hi,lo))/\Below w.heap.size w w'/\Bx w' w.heap.size o hi lo
theorem qy {w:World}{g gb kn mo:Nat}{li sp:Int}{N:Nat}{L:List Q}(h:Tm w g gb kn mo li sp N L)(hw:Way (hm kn N) (·≠0) L)(o:Int)(hi lo:Nat)(h1:hi<aq)(h2:lo<aq) :
  Calls Tryz.prog 395 #[.pointer (some ⟨g,0,none⟩),.agg #[.int .i64 o,.int .u64 (hi:Int),.int .u64 (lo:Int)]] w λe w'=>((∃(i:Nat) (p:Q),L[i]?=some p/\p.k=1/\p.c=(o,hi,lo)/\e=.returned (.tuple #[.int .i64 (i:Int),.bool true]))\/((∀(i:Nat) (p:Q),L[i]?=some p->p.k=1->p.c≠(o,hi,lo))/\e=.returned (.tuple #[.int .i64 0,.bool false])))/\Below w.heap.size w w':=by
 have HH:=ab h
 have HW:=ab hw
 have hpos:=h.pos
 have hbig:=h.eI
 have hlen:=ab h.len
 have hx0:=(h.alloc (Obj.cells #[.int .i64 o,.int .u64 (hi:Int),.int .u64 (lo:Int)] 37)).a0
 have hf:=λ(W:World) (hW:Tm W g gb kn mo li sp N L)=>nr hW o hi lo h1 h2
 have hlt:=ab (E4 (kn:=kn) (o,hi,lo) hpos)
 obtain⟨hs,hE'⟩:∃hs,hs=hm kn N (o,hi,lo):=⟨_,rfl⟩
 rw [<-hE'] at hf hlt;have hE:=ab hE'
 clear hE';clear h hw;go_enter Tryz.func395,Tryz.ntmps395
 go_upto_region 3 with (first|(go_at_call 404;refine (hf _ (HH.out.alloc _)).mono ?_;rintro e w2 ⟨rfl,hb2⟩;have PB:=ab (aa (ae _ _) hb2);have X0:=cell_later hb2 hx0;have HX:=ab ((Bx.new w o hi lo).later hb2);clear hb2))
 clear hx0;go_loopw [6,16] (CA w hs N L o hi lo) (λ_ t _=>N - (intOf t).toNat)
 case atStart=>exact⟨0,Nat.zero_le _,by rw [Nat.add_zero,Nat.mod_eq_of_lt hlt.out],rfl,λe he=>absurd he (Nat.not_lt_zero _),PB.out,HX.out⟩
 case round =>
  obtain⟨d,hd,rfl,rfl,hno,hB,X⟩:=hrel
  have Q_:=ab hno
  clear hno;by_cases hlt2:d<N
  ·have hT:=HH.out.later hB
   have hm1:(hs+d)%N<N:=Nat.mod_lt _ hpos
   obtain⟨p,hp⟩:=get_some (L:=L) (i:=(hs+d)%N) (by rw [hlen.out];exact hm1)
   have hP:=hT.at_ _ p hp
   have y0:=hT.a0
   have hnx:=ab (qW hs d N)
   have HP:=ab hp
   clear hp;obtain⟨c0,c1,c2,c3⟩:=(⟨hP.c0,hP.c1,hP.c2,hP.c3⟩:_/\_/\_/\_)
   obtain⟨b0,b1,b2⟩:=(⟨X.c0,X.c1,X.c2⟩:_/\_/\_)
   have HT:=ab hT
   clear hT hP;generalize hat:(hs+d)%N=at_ at *
   have hme:p.k=0\/p.k=1\/(p.k≠0/\p.k≠1):=by omega
   rcases hme with hk|hk|⟨hk,hk'⟩
   ·rw [hk] at c0
    go_wp2;refine bodyPost_ret (v:=.tuple #[.int .i64 0,.bool false]) (by simp [results,Tryz.results395,go_sem]) rfl ⟨.inr ⟨?_,rfl⟩,hB⟩
    have hq:L[(hm kn N (o,hi,lo)+d)%L.length]?=some p:=by rw [<-hE.out,hlen.out,hat];exact HP.out
    exact HW.out.none (λe he q hq'=>Q_.out e he q (by rw [hE.out];rw [hlen.out] at hq';exact hq')) hq hk
   ·rw [hk] at c0
    by_cases hc:p.c=(o,hi,lo)
    ·have hd1:rW p.c.1 (p.c.2.1:Int) (p.c.2.2:Int) o (hi:Int) (lo:Int)=true:=by rw [hc];simp [rW]
     have heq:=λW=>xw p.c.1 (p.c.2.1:Int) (p.c.2.2:Int) o (hi:Int) (lo:Int) W
     simp only [hd1] at heq;go_upto_region 7 with fail
     go_quiet (fail)
     go_wp2;refine bodyPost_ret (v:=.tuple #[.int .i64 (at_:Int),.bool true]) (by simp [results,Tryz.results395,go_sem]) rfl ⟨.inl ⟨at_,p,HP.out,hk,hc,rfl⟩,?_⟩
     exact below_drewN hB _
    ·have hd1:rW p.c.1 (p.c.2.1:Int) (p.c.2.2:Int) o (hi:Int) (lo:Int)=false:=by
      refine decide_eq_false λhq=>hc ?_
      obtain⟨q1,q2,q3⟩:=hq
      exact Prod.ext q1 (Prod.ext (Int.ofNat.inj q2) (Int.ofNat.inj q3))
     have heq:=λW=>xw p.c.1 (p.c.2.1:Int) (p.c.2.2:Int) o (hi:Int) (lo:Int) W
     simp only [hd1] at heq;go_upto_region 7 with fail
     go_quiet (fail)
     go_wp2_with (first|(go_at_call 405;refine (fa (HT.out.later (below_drewN (Below.refl _ _) _)) _ (by assumption)).mono ?_;rintro e w3 ⟨rfl,rfl⟩))
     refine⟨⟨d+1,by omega,by rw [<-hnx.out];simp,by go_num,?_,below_drewN hB _,X.later (below_drewN (Below.refl _ _) _)⟩,by simp [intOf];omega⟩
     intro e he q hq hqk;rcases Nat.lt_or_ge e d with h3|h3
     ·exact Q_.out e h3 q hq hqk
     ·obtain rfl:e=d:=by omega
      rw [hat,HP.out] at hq;cases hq
      exact hc
   ·have hn0:(p.k==0)=false:=by simpa using hk
    have hn1:(p.k==1)=false:=by simpa using hk'
    go_upto_region 7 with fail
    go_quiet (fail)
    go_wp2_with (first|(go_at_call 405;refine (fa (HT.out.later (below_drewN (Below.refl _ _) _)) _ (by assumption)).mono ?_;rintro e w3 ⟨rfl,rfl⟩))
    refine⟨⟨d+1,by omega,by rw [<-hnx.out];simp,by go_num,?_,below_drewN hB _,X.later (below_drewN (Below.refl _ _) _)⟩,by simp [intOf];omega⟩
    intro e he q hq hqk;rcases Nat.lt_or_ge e d with h3|h3
    ·exact Q_.out e h3 q hq hqk
    ·obtain rfl:e=d:=by omega
     rw [hat,HP.out] at hq;cases hq
     exact absurd hqk hk'
  ·obtain rfl:d=N:=by omega
   go_wp2;refine bodyPost_ret (v:=.tuple #[.int .i64 0,.bool false]) (by simp [results,Tryz.results395,go_sem]) rfl ⟨.inr ⟨?_,rfl⟩,hB⟩
   exact HW.out.Ji (λe he q hq'=>Q_.out e (by rw [<-hlen.out];exact he) q (by rw [hE.out];rw [hlen.out] at hq';exact hq'))
theorem back {h d N:Nat}(hh:h<N)(hd:d<N):((h+d)%N+N - h)%N=d:=by
 rcases Nat.lt_or_ge (h+d) N with h1|h1
 ·rw [Nat.mod_eq_of_lt h1]
  have:h+d+N - h=d+N:=by omega
  rw [this,Nat.add_mod_right,Nat.mod_eq_of_lt hd]
 ·rw [Nat.mod_eq_sub_mod h1,Nat.mod_eq_of_lt (a:=h+d - N) (by omega)]
  have:h+d - N+N - h=d:=by omega
  rw [this,Nat.mod_eq_of_lt hd]
def uJ (w:World)(h N:Nat)(L:List Q)(s:Value)(w':World):Prop :=
 ∃d:Nat,d<N/\s=.int .i64 (((h+d)%N:Nat):Int)/\(∀e,e<d->∀p:Q,L[(h+e)%N]?=some p->p.k=1\/p.k=2)/\Below w.heap.size w w'
theorem k8 {w:World}{g gb kn mo:Nat}{li sp:Int}{N:Nat}{L:List Q}(h:Tm w g gb kn mo li sp N L)(hex:∃(i:Nat) (p:Q),L[i]?=some p/\p.k≠1/\p.k≠2)(o:Int)(hi lo:Nat)(h1:hi<aq)(h2:lo<aq) :
  Calls Tryz.prog 398 #[.pointer (some ⟨g,0,none⟩),.agg #[.int .i64 o,.int .u64 (hi:Int),.int .u64 (lo:Int)]] w λe w'=>(∃(to_ d:Nat) (q:Q),d<N/\to_=(hm kn N (o,hi,lo)+d)%N/\L[to_]?=some q/\q.k≠1/\q.k≠2/\(∀e,e<d->∀p:Q,L[(hm kn N (o,hi,lo)+e)%N]?=some p->p.k=1\/p.k=2)/\e=.returned (.int .i64 (to_:Int)))/\Below w.heap.size w w':=by
 have HH:=ab h
 have hpos:=h.pos
 have hbig:=h.eI
 have hlen:=ab h.len
 have hf:=λ(W:World) (hW:Tm W g gb kn mo li sp N L)=>nr hW o hi lo h1 h2
 have hlt:=ab (E4 (kn:=kn) (o,hi,lo) hpos)
 generalize hm kn N (o,hi,lo)=hs at hf hlt ⊢
 obtain⟨i0,p0,hp0,hk0,hk0'⟩:=hex
 obtain⟨d0,hd0,hi0⟩:=KR hlt.out (by rw [<-hlen.out];exact cY hp0:i0<N)
 have H0:Hid (L[(hs+d0)%N]?=some p0):=by unfold Hid;rw [<-hi0];exact hp0
 clear h hp0 hi0;go_enter Tryz.func398,Tryz.ntmps398
 go_upto_region 2 with (first|(go_at_call 404;refine (hf _ (HH.out.alloc _)).mono ?_;rintro e w2 ⟨rfl,hb2⟩;have PB:=ab (aa (ae _ _) hb2);clear hb2))
 go_loopw [5] (uJ w hs N L) (λt _=>N - ((intOf t).toNat+N - hs)%N)
 case atStart=>exact⟨0,by omega,by rw [Nat.add_zero,Nat.mod_eq_of_lt hlt.out],λe he=>absurd he (Nat.not_lt_zero _),PB.out⟩
 case round =>
  obtain⟨d,hd,rfl,hno,hB⟩:=hrel
  have Q_:=ab hno
  clear hno;have hT:=HH.out.later hB
  have hm1:(hs+d)%N<N:=Nat.mod_lt _ hpos
  obtain⟨p,hp⟩:=get_some (L:=L) (i:=(hs+d)%N) (by rw [hlen.out];exact hm1)
  have c0:=(hT.at_ _ p hp).c0
  have y0:=hT.a0
  have hnx:=ab (qW hs d N)
  have HP:=ab hp
  clear hp;have HT:=ab hT
  clear hT;have hle:d<=d0:=by
   rcases Nat.lt_or_ge d0 d with h3|h3
   ·have:=Q_.out d0 h3 p0 H0.out
    omega
   ·exact h3
  have hback:=ab (back hlt.out hd)
  generalize hat:(hs+d)%N=at_ at *
  have hme:p.k=1\/p.k=2\/(p.k≠1/\p.k≠2):=by omega
  by_cases hkk:p.k=1\/p.k=2
  ·have hlt3:d<d0:=by
    rcases Nat.lt_or_ge d d0 with h3|h3
    ·exact h3
    ·obtain rfl:d=d0:=by omega
     have:=H0.out
     rw [hat,HP.out] at this;cases this
     omega
   have hfin:∀W,Below wr.heap.size wr W->uJ w hs N L (.int .i64 (((at_:Int)+1)%(N:Int))) W/\N - ((intOf (.int .i64 (((at_:Int)+1)%(N:Int)))).toNat+N - hs)%N<N - ((intOf (.int .i64 (at_:Int))).toNat+N - hs)%N:=by
    intro W hW;have e1:((at_:Int)+1)%(N:Int)=(((hs+(d+1))%N:Nat):Int):=by rw [<-hnx.out];simp
    rw [e1];refine⟨⟨d+1,by omega,rfl,?_,aa hB hW⟩,?_⟩
    ·intro e he q hq
     rcases Nat.lt_or_ge e d with h3|h3
     ·exact Q_.out e h3 q hq
     ·obtain rfl:e=d:=by omega
      rw [hat,HP.out] at hq;cases hq
      exact hkk
    ·simp only [intOf,Int.toNat_natCast]
     rw [back hlt.out (by omega),hback.out];omega
   have HF:=ab hfin
   clear hfin hme;rcases hkk with hk|hk
   ·rw [hk] at c0
    go_wp2_with (first|(go_at_call 405;refine (fa HT.out _ (by assumption)).mono ?_;rintro e w3 ⟨rfl,rfl⟩))
    exact HF.out _ (Below.refl _ _)
   ·rw [hk] at c0
    go_wp2_with (first|(go_at_call 405;refine (fa HT.out _ (by assumption)).mono ?_;rintro e w3 ⟨rfl,rfl⟩))
    exact HF.out _ (Below.refl _ _)
  ·have hn1:(p.k==1)=false:=by simp;omega
   have hn2:(p.k==2)=false:=by simp;omega
   have HK:=ab hkk
   clear hkk hme;go_wp2;go_ret;exact⟨⟨at_,d,p,hd,hat.symm,HP.out,λh=>HK.out (.inl h),λh=>HK.out (.inr h),Q_.out,rfl⟩,hB⟩
theorem ak {w:World}{b o o':Nat}{u v:Value}(h:w.cell? ⟨b,o,none⟩=some v)(hne:o≠o'):(w.setCell ⟨b,o',none⟩ u).cell? ⟨b,o,none⟩=some v:=by
 rw [World.cell?_setCell_other _ _ _ _ (λe=>hne (by cases e;rfl))];exact h
theorem bO {w:World}{b b' o o':Nat}{u v:Value}(h:w.cell? ⟨b,o,none⟩=some v)(hne:b≠b'):(w.setCell ⟨b',o',none⟩ u).cell? ⟨b,o,none⟩=some v:=by
 rw [World.cell?_setCell_other _ _ _ _ (λe=>hne (by cases e;rfl))];exact h
theorem Tm.cell {w:World}{g gb kn mo:Nat}{li sp:Int}{N:Nat}{L L':List Q}{o:Nat}{u:Value}(h:Tm w g gb kn mo li sp N L)(hl:L'.length=N)(hok:∀(i:Nat) (p:Q),L'[i]?=some p->p.c.2.1<aq/\p.c.2.2<aq)
  (hat:∀(i:Nat) (p:Q),L'[i]?=some p->Pa (w.setCell ⟨gb,o,none⟩ u) gb (i*5) p):Tm (w.setCell ⟨gb,o,none⟩ u) g gb kn mo li sp N L' :=
 ⟨bO h.a0 h.ne,bO h.a1 h.ne,bO h.a2 h.ne,h.a3.other (λe=>h.ne (by cases e;rfl)),h.a4.other (λe=>h.ne (by cases e;rfl)),λj=>by simpa using h.fr j,hat,h.ne,hl,h.pos,h.eI,hok⟩
theorem Pa.off {w:World}{b o o':Nat}{p:Q}{u:Value}(h:Pa w b o p)(hne:o'<o\/o+5<=o'):Pa (w.setCell ⟨b,o',none⟩ u) b o p :=
 ⟨ak h.c0 (by omega),ak h.c1 (by omega),ak h.c2 (by omega),ak h.c3 (by omega),ak h.c4 (by omega)⟩
theorem Tm.tF {w:World}{g gb kn mo:Nat}{li sp:Int}{N:Nat}{L:List Q}{i:Nat}{p:Q}(h:Tm w g gb kn mo li sp N L)(hp:L[i]?=some p)(k:Int):Tm (w.setCell ⟨gb,i*5,none⟩ (.int .i64 k)) g gb kn mo li sp N (L.set i ⟨k,p.c,p.v⟩):=by
 refine h.cell (by rw [List.length_set];exact h.len) (λj q hq=>?_) (λj q hq=>?_)
 ·rcases aD hq with ⟨rfl,rfl⟩|⟨_,h3⟩
  ·exact h.ok _ p hp
  ·exact h.ok _ _ h3
 ·rcases aD hq with ⟨rfl,rfl⟩|⟨hne,h3⟩
  ·have hP:=h.at_ _ _ hp
   exact⟨World.cell?_setCell_same _ _ _ hP.c0,ak hP.c1 (by omega),ak hP.c2 (by omega),ak hP.c3 (by omega),ak hP.c4 (by omega)⟩
  ·exact (h.at_ _ _ h3).off (by omega)
def iH (w:World)(b o:Nat)(x:Q):World :=
 ((((w.setCell ⟨b,o,none⟩ (.int .i64 x.k)).setCell ⟨b,o+1,none⟩ (.int .i64 x.c.1)).setCell ⟨b,o+2,none⟩ (.int .u64 (x.c.2.1:Int))).setCell ⟨b,o+3,none⟩ (.int .u64 (x.c.2.2:Int))).setCell ⟨b,o+4,none⟩ (.int .i64 x.v)
theorem dC {S:Nat->Prop}{a w:World}(h:ah S a w){b:Nat}(hb:S b)(o:Nat)(x:Q):ah S a (iH w b o x) :=
 ((((h.setCell (p:=⟨b,o,none⟩) hb _).setCell (p:=⟨b,o+1,none⟩) hb _).setCell (p:=⟨b,o+2,none⟩) hb _).setCell (p:=⟨b,o+3,none⟩) hb _).setCell (p:=⟨b,o+4,none⟩) hb _
theorem Pa.set {w:World}{b o:Nat}{p:Q}(h:Pa w b o p)(x:Q):Pa (iH w b o x) b o x:=by
 have s0:=World.cell?_setCell_same w ⟨b,o,none⟩ (.int .i64 x.k) h.c0
 have s1:=World.cell?_setCell_same (w.setCell ⟨b,o,none⟩ (.int .i64 x.k)) ⟨b,o+1,none⟩ (.int .i64 x.c.1) (ak h.c1 (by omega))
 have s2:=World.cell?_setCell_same ((w.setCell ⟨b,o,none⟩ (.int .i64 x.k)).setCell ⟨b,o+1,none⟩ (.int .i64 x.c.1)) ⟨b,o+2,none⟩ (.int .u64 (x.c.2.1:Int)) (ak (ak h.c2 (by omega)) (by omega))
 have s3:=World.cell?_setCell_same (((w.setCell ⟨b,o,none⟩ (.int .i64 x.k)).setCell ⟨b,o+1,none⟩ (.int .i64 x.c.1)).setCell ⟨b,o+2,none⟩ (.int .u64 (x.c.2.1:Int))) ⟨b,o+3,none⟩ (.int .u64 (x.c.2.2:Int)) (ak (ak (ak h.c3 (by omega)) (by omega)) (by omega))
 unfold iH;exact⟨ak (ak (ak (ak s0 (by omega)) (by omega)) (by omega)) (by omega),ak (ak (ak s1 (by omega)) (by omega)) (by omega),ak (ak s2 (by omega)) (by omega),ak s3 (by omega),World.cell?_setCell_same _ _ _ (ak (ak (ak (ak h.c4 (by omega)) (by omega)) (by omega)) (by omega))⟩
theorem Pa.mJ {w:World}{b o o':Nat}{p:Q}(h:Pa w b o p)(x:Q)(hne:o'+5<=o\/o+5<=o'):Pa (iH w b o' x) b o p:=by
 unfold iH;exact ((((h.off (by omega)).off (by omega)).off (by omega)).off (by omega)).off (by omega)
theorem Tm.set {w:World}{g gb kn mo:Nat}{li sp:Int}{N:Nat}{L:List Q}{i:Nat}{p:Q}(h:Tm w g gb kn mo li sp N L)(hp:L[i]?=some p)(x:Q)(hx:x.c.2.1<aq/\x.c.2.2<aq):Tm (iH w gb (i*5) x) g gb kn mo li sp N (L.set i x):=by
 have hb:ah (·=gb) w (iH w gb (i*5) x):=dC (S:=(·=gb)) (ah.refl _ _) (b:=gb) (by rfl) _ _
 refine⟨ag hb h.a0 h.ne,ag hb h.a1 h.ne,ag hb h.a2 h.ne,h.a3.but hb h.ne,h.a4.but hb h.ne,λj=>by have:=h.fr j;unfold iH;simpa using this,λj q hq=>?_,h.ne,by rw [List.length_set];exact h.len,h.pos,h.eI,λj q hq=>?_⟩
 ·rcases aD hq with ⟨rfl,rfl⟩|⟨hne,h3⟩
  ·exact (h.at_ _ _ hp).set _
  ·exact (h.at_ _ _ h3).mJ _ (by omega)
 ·rcases aD hq with ⟨rfl,rfl⟩|⟨_,h3⟩
  ·exact hx
  ·exact h.ok _ _ h3
theorem Tm.live {w:World}{g gb kn mo:Nat}{li sp:Int}{N:Nat}{L:List Q}(h:Tm w g gb kn mo li sp N L)(v:Int):Tm (w.setCell ⟨g,3,none⟩ (.int .i64 v)) g gb kn mo v sp N L:=by
 have hb:ah (·=g) w (w.setCell ⟨g,3,none⟩ (.int .i64 v)):=(ah.refl (·=g) _).setCell (p:=⟨g,3,none⟩) (show g=g from rfl) _
 have hne:¬gb=g:=λe=>h.ne e.symm
 exact⟨ak h.a0 (by omega),ak h.a1 (by omega),ak h.a2 (by omega),h.a3.put,h.a4.other (λe=>by cases e),λj=>by simpa using h.fr j,λi p hp=>(h.at_ i p hp).but hb hne,h.ne,h.len,h.pos,h.eI,h.ok⟩
theorem Tm.spare {w:World}{g gb kn mo:Nat}{li sp:Int}{N:Nat}{L:List Q}(h:Tm w g gb kn mo li sp N L)(v:Int):Tm (w.setCell ⟨g,4,none⟩ (.int .i64 v)) g gb kn mo li v N L:=by
 have hb:ah (·=g) w (w.setCell ⟨g,4,none⟩ (.int .i64 v)):=(ah.refl (·=g) _).setCell (p:=⟨g,4,none⟩) (show g=g from rfl) _
 have hne:¬gb=g:=λe=>h.ne e.symm
 exact⟨ak h.a0 (by omega),ak h.a1 (by omega),ak h.a2 (by omega),h.a3.other (λe=>by cases e),h.a4.put,λj=>by simpa using h.fr j,λi p hp=>(h.at_ i p hp).but hb hne,h.ne,h.len,h.pos,h.eI,h.ok⟩
def In (g gb:Nat)(k:Nat):Prop:=k=g\/k=gb
end Go.Proofs.YtffmodpgddecnaaGreatDoor.H.I
