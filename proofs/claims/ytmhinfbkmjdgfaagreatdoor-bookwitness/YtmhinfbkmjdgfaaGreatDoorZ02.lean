import Derived.Laws.Bits128
import Derived.Test.YtmhinfbkmjdgfaaGreatDoorZ01
set_option linter.unusedVariables false
set_option linter.unusedSimpArgs false
set_option maxRecDepth 100000
set_option maxHeartbeats 20000000
namespace Go.Proofs.YtmhinfbkmjdgfaaGreatDoor.H.I
open Go.RowKit
variable {o v:Int}{E:List (Cp×Int)}{L M:List Q}{N g gb hi i kn lo mo sp sq:Nat}{S:Nat->Prop}{p:Q}{w w' w5:World}
def Jh (w:World)(g gb kn mo:Nat)(li:Int)(N:Nat)(L:List Q)(W:World):Prop :=
 ∃M:List Q,Tm W g gb kn mo li ((N:Int) - li) N M/\(∀(j:Nat) (p:Q),M[j]?=some p->p.k=0\/p.k=1)/\Way (hm kn N) (·≠0) M/\(eI M).Perm (eI L)/\aj (In g gb) w W
def Ct (w:World)(g gb kn mo:Nat)(li sp:Int)(N:Nat)(L:List Q)(t:Value)(W:World):Prop :=
 ∃(i:Nat) (M:List Q),i<=N/\t=ab (i:Int)/\Up i L M/\Tm W g gb kn mo li sp N M/\aj (In g gb) w W
def CB (w:World)(g gb kn mo:Nat)(li sp:Int)(N:Nat)(L:List Q)(t:Value)(W:World):Prop :=
 ∃(i:Nat) (M:List Q),i<=N/\t=ab (i:Int)/\vN (hm kn N) L M i/\Tm W g gb kn mo li sp N M/\aj (In g gb) w W
def Et (w:World)(g gb kn mo:Nat)(li sp:Int)(N:Nat)(L:List Q)(i k:Nat)(t:Value)(W:World):Prop :=
 ∃M:List Q,Cv M=k/\vN (hm kn N) L M i/\Tm W g gb kn mo li sp N M/\aj (In g gb) w W
theorem sE {li sp:Int}(h:Tm w g gb kn mo li sp N L)(hk:∀(i:Nat) (p:Q),L[i]?=some p->p.k=0\/p.k=1\/p.k=2)(hl0:0<=li)(hl1:li<=1024) :
  Calls Tryz.prog 432 #[aq g] w λe w'=>e=.returned (.tuple #[])/\Jh w g gb kn mo li N L w':=by
 have HH:=ae h
 have HK:=ae hk
 have hpos:=h.pos
 have hbig:=h.gJ
 have hlen:=ae h.len
 have x0:=h.a0
 have hne:=h.ne
 clear h hk;go_enter Tryz.func432,Tryz.ntmps432
 go_upto_region 1 with fail
 go_loopw [9] (Ct w g gb kn mo li sp N L) (λt _=>N - (intOf t).toNat)
 case atStart=>exact⟨0,L,Nat.zero_le _,rfl,Up.zero _,HH.out,aj.refl _ _⟩
 case round =>
  obtain⟨i,M,hi,rfl,hU,hT,hB⟩:=hrel
  have HU:=ae hU
  have HT:=ae hT
  have HB:=ae hB
  clear hU hB;by_cases hlt:i<N
  ·obtain⟨p,hp⟩:=get_some (L:=M) (i:=i) (by rw [hT.len];exact hlt)
   have hpL:Hid (L[i]?=some p):=by unfold Hid;rw [<-HU.out.at_];exact hp
   have y0:=hT.a0
   have c0:=(hT.at_ _ _ hp).c0
   have f0:=hT.fr (i*5)
   have HP:=ae hp
   clear hp hT;have hc:p.k=1\/p.k=2\/(p.k≠1/\p.k≠2):=by omega
   rcases hc with hk1|hk2|⟨hk1,hk2⟩
   ·have hrl:=ae (ie hk1)
    have hst:=ae (HT.out.vP HP.out 3)
    rw [hk1] at c0;go_wp2;refine⟨⟨i+1,_,by omega,by go_num,HU.out.step hpL.out hrl.out.symm,hst.out,HB.out.setCell (p:=⟨gb,i*5,none⟩) (.inr rfl) _⟩,by simp [intOf];omega⟩
   ·have hrl:=ae (im hk2)
    have hst:=ae (HT.out.vP HP.out 0)
    rw [hk2] at c0;go_wp2;refine⟨⟨i+1,_,by omega,by go_num,HU.out.step hpL.out hrl.out.symm,hst.out,HB.out.setCell (p:=⟨gb,i*5,none⟩) (.inr rfl) _⟩,by simp [intOf];omega⟩
   ·have hrl:=ae (gZ hk1 hk2)
    have hn1:(p.k==1)=false:=by simpa using hk1
    have hn2:(p.k==2)=false:=by simpa using hk2
    go_wp2;refine⟨⟨i+1,M,by omega,by go_num,HU.out.same hpL.out hrl.out,HT.out,HB.out⟩,by simp [intOf];omega⟩
  ·obtain rfl:i=N:=by omega
   have hM:=HU.out.EV (by rw [hlen.out];exact Nat.le_refl _)
   have y0:=hT.a0
   have HM:=ae hM
   clear hT hM;go_upto_region 10 with fail
   go_loopw [44] (CB w g gb kn mo li sp i L) (λt _=>i - (intOf t).toNat)
   case atStart=>exact⟨0,M,Nat.zero_le _,rfl,by rw [HM.out];exact vN.start _ HK.out,HT.out,HB.out⟩
   case round =>
    obtain⟨j,M2,hj,rfl,hMi,hT2,hB2⟩:=hrel
    have Vo:=ae hMi
    have OO:=ae hT2
    have OH:=ae hB2
    clear hMi hB2;by_cases hlt2:j<i
    ·clear hT2
     go_upto_region 12 with fail
     go_loopg [55] (Cv M2) (Et w g gb kn mo li sp i L j)
     case atStart=>exact⟨M2,rfl,Vo.out,OO.out,OH.out⟩
     case round =>
      obtain⟨M3,hlo,hMi3,hT3,hB3⟩:=hrel
      obtain⟨p,hp⟩:=get_some (L:=M3) (i:=j) (by rw [hT3.len];exact hlt2)
      have z0:=hT3.a0
      have c0:=(hT3.at_ _ _ hp).c0
      have HP:=ae hp
      have Pd:=ae hlo
      have TJ:=ae hMi3
      have O_:=ae hT3
      have OJ:=ae hB3
      clear hp hlo hMi3 hT3 hB3;by_cases hk3:p.k=3
      ·have QW:=ae hk3
       rw [hk3] at c0;clear hk3;go_wp2_with (first|(go_at_call 443;refine (rR O_.out j p HP.out QW.out).mono ?_;rintro e w5 ⟨rfl,hS⟩;have HS:=ae hS;clear hS))
       obtain⟨to_,d,q,s1,s2,s3,s4,s5,s6,s7,s8⟩:=HS.out
       have hl3:=O_.out.len
       obtain⟨m1,m2⟩:=TJ.out.settle HP.out QW.out (by rw [hl3];exact s1) (by rw [hl3];exact s2) s3 s4 s5 (by rw [hl3];exact s6)
       go_roundg (Cv ((M3.set j q).set to_ ⟨1,p.c,p.v⟩))
       case measure=>rw [<-Pd.out];exact m2
       case rel=>exact⟨_,rfl,m1,s7,OJ.out.trans s8⟩
      ·have hn3:(p.k==3)=false:=by simpa using hk3
       have SZ:=ae hk3
       clear hk3;go_wp2;exact⟨⟨j+1,M3,by omega,by go_num,TJ.out.next HP.out SZ.out,O_.out,OJ.out⟩,by simp [intOf];omega⟩
    ·obtain rfl:j=i:=by omega
     have z0:=hT2.a0
     have z3:=hT2.a3.1
     have z4:=hT2.a4.1
     have z4':=hT2.a4.2
     have hsp:=ae (hT2.spare ((j:Int) - li))
     clear hT2;go_wp2;go_region
     go_wp2;go_end0
     have hl2:=OO.out.len
     have he:=Vo.out.EV (by rw [hl2];exact Nat.le_refl _)
     exact⟨rfl,M2,hsp.out.later (Below.refl _ _).drew,he.1,he.2,Vo.out.perm,(OH.out.setCell (p:=⟨g,4,none⟩) (.inl rfl) _).call (Below.refl _ _).drew⟩
structure Sl (w:World)(g gb kn mo N:Nat)(L:List Q)(sp:Nat)(E:List (Cp×Int)):Prop where
 tm:Tm w g gb kn mo (E.length:Int) (sp:Int) N L
 kinds:∀(i:Nat) (p:Q),L[i]?=some p->p.k=0\/p.k=1\/p.k=2
 xk:Way (hm kn N) (·≠0) L
 perm:(eI L).Perm E
 nodup:(E.map Prod.fst).Nodup
 free:xq L=sp
 most:E.length<=mo
 m1:1<=mo
 m2:2*mo<=N
def Tb (w:World)(g gb kn mo N:Nat)(E:List (Cp×Int)):Prop:=∃L sp,Sl w g gb kn mo N L sp E
theorem Sl.but (hb:aj S w w')(h:Sl w g gb kn mo N L sp E)(h1:¬S g)(h2:¬S gb):Sl w' g gb kn mo N L sp E :=
 ⟨h.tm.but hb h1 h2,h.kinds,h.xk,h.perm,h.nodup,h.free,h.most,h.m1,h.m2⟩
theorem Sl.later (hb:Below w.heap.size w w')(h:Sl w g gb kn mo N L sp E):Sl w' g gb kn mo N L sp E:=h.but (S:=λ_=>False) (aj.of hb) (λh=>h) (λh=>h)
theorem Sl.alloc (h:Sl w g gb kn mo N L sp E)(o:Obj):Sl (w.alloc o) g gb kn mo N L sp E:=h.later (ag _ _)
theorem Tb.but (hb:aj S w w')(h:Tb w g gb kn mo N E)(h1:¬S g)(h2:¬S gb):Tb w' g gb kn mo N E:=by
 obtain⟨L,sp,h⟩:=h;exact⟨L,sp,h.but hb h1 h2⟩
theorem Tb.later (hb:Below w.heap.size w w')(h:Tb w g gb kn mo N E):Tb w' g gb kn mo N E:=by
 obtain⟨L,sp,h⟩:=h;exact⟨L,sp,h.later hb⟩
theorem Tb.lt (h:Tb w g gb kn mo N E):g<w.heap.size:=by obtain⟨L,sp,h⟩:=h;exact h.tm.lt
theorem Tb.pB (h:Tb w g gb kn mo N E):gb<w.heap.size:=by obtain⟨L,sp,h⟩:=h;exact h.tm.pB
theorem Tb.small (h:Tb w g gb kn mo N E):mo<=512:=by obtain⟨L,sp,h⟩:=h;have:=h.tm.gJ;have:=h.m2;omega
theorem Sl.mem (h:Sl w g gb kn mo N L sp E)(hp:L[i]?=some p)(hk:p.k=1):(p.c,p.v)∈E:=h.perm.mem_iff.1 (Ak hp hk)
theorem Sl.there (h:Sl w g gb kn mo N L sp E){c:Cp}(hc:c∈E.map Prod.fst):∃(i:Nat) (p:Q),L[i]?=some p/\p.k=1/\p.c=c:=by
 obtain⟨y,hy,rfl⟩:=List.mem_map.1 hc
 obtain⟨i,p,hp,hk,rfl⟩:=xP (h.perm.mem_iff.2 hy) h.kinds
 exact⟨i,p,hp,hk,rfl⟩
theorem kQ (h:Sl w g gb kn mo N L sp E)(o:Int)(hi lo:Nat)(h1:hi<az)(h2:lo<az)(hc:(o,hi,lo)∈E.map Prod.fst) :
  Calls Tryz.prog 430 #[aq g,.agg #[ab o,ai (hi:Int),ai (lo:Int)]] w λe w'=>∃(i:Nat) (v:Int),L[i]?=some ⟨1,(o,hi,lo),v⟩/\e=.returned (.tuple #[ab (i:Int),.bool true])/\Below w.heap.size w w':=by
 refine (rF h.tm h.xk o hi lo h1 h2).mono ?_
 rintro e w' ⟨⟨i,p,hp,hk,hpc,he⟩|⟨hn,he⟩,hb⟩
 ·refine⟨i,p.v,?_,he,hb⟩
  rw [hp,<-hk,<-hpc]
 ·obtain⟨i,p,hp,hk,hpc⟩:=h.there hc
  exact absurd hpc (hn i p hp hk)
theorem jx (h:Sl w g gb kn mo N L sp E)(o:Int)(hi lo:Nat)(h1:hi<az)(h2:lo<az)(hc:(o,hi,lo)∉E.map Prod.fst) :
  Calls Tryz.prog 430 #[aq g,.agg #[ab o,ai (hi:Int),ai (lo:Int)]] w λe w'=>e=.returned (.tuple #[ab 0,.bool false])/\Below w.heap.size w w':=by
 refine (rF h.tm h.xk o hi lo h1 h2).mono ?_
 rintro e w' ⟨⟨i,p,hp,hk,hpc,he⟩|⟨hn,he⟩,hb⟩
 ·exact absurd (List.mem_map.2 ⟨_,h.mem hp hk,hpc⟩) hc
 ·exact⟨he,hb⟩
theorem get_none (h:Tb w g gb kn mo N E)(o:Int)(hi lo:Nat)(h1:hi<az)(h2:lo<az)(hc:(o,hi,lo)∉E.map Prod.fst) :
  Calls Tryz.prog 420 #[aq g,.agg #[ab o,ai (hi:Int),ai (lo:Int)]] w λe w'=>e=.returned (.tuple #[ab 0,.bool false])/\Below w.heap.size w w':=by
 obtain⟨L,sp,h⟩:=h
 have HH:=ae h
 have HC:=ae hc
 clear h hc;go_enter Tryz.func420,Tryz.ntmps420
 go_wp2_with (first|(go_at_call 430;refine (jx (HH.out.alloc _) o hi lo h1 h2 HC.out).mono ?_;rintro e w2 ⟨rfl,hb2⟩;have OH:=ae (aa (ag _ _) hb2);clear hb2))
 exact bodyPost_ret (v:=.tuple #[ab 0,.bool false]) (by simp [results,Tryz.results420,go_sem]) rfl ⟨rfl,OH.out⟩
theorem EZ (h:Tb w g gb kn mo N E)(o:Int)(hi lo:Nat)(h1:hi<az)(h2:lo<az)(v:Int)(hc:((o,hi,lo),v)∈E) :
  Calls Tryz.prog 420 #[aq g,.agg #[ab o,ai (hi:Int),ai (lo:Int)]] w λe w'=>e=.returned (.tuple #[ab v,.bool true])/\Below w.heap.size w w':=by
 obtain⟨L,sp,h⟩:=h
 have HH:=ae h
 have HM:=ae hc
 have HC:Hid ((o,hi,lo)∈E.map Prod.fst):=List.mem_map.2 ⟨_,hc,rfl⟩
 clear h hc;go_enter Tryz.func420,Tryz.ntmps420
 go_upto_region 5 with (first|(go_at_call 430;refine (kQ (HH.out.alloc _) o hi lo h1 h2 HC.out).mono ?_;rintro e w2 ⟨i,u,hi_,rfl,hb2⟩;have HI:=ae hi_;have OH:=ae (aa (ag _ _) hb2);clear hb2 hi_))
 have hS:=HH.out.later OH.out
 have hilt:i<N:=by rw [<-hS.tm.len];exact eA HI.out
 have hbig:=hS.tm.gJ
 have hP:=hS.tm.at_ _ _ HI.out
 have p4:=hP.c4
 have z0:=hS.tm.a0
 have hu:u=v:=by
  have m1:=hS.mem HI.out rfl
  exact CN hS.nodup m1 HM.out
 subst hu;clear hS hP;go_wp2;exact bodyPost_ret (v:=.tuple #[ab u,.bool true]) (by simp [results,Tryz.results420,go_sem]) rfl ⟨rfl,OH.out⟩
structure vM (w w5:World)(g gb kn mo N:Nat)(E:List (Cp×Int))(M:List Q)(sq:Nat)(o:Int)(hi lo:Nat)(v:Int):Prop where
 tm:Tm w5 g gb kn mo (E.length:Int) (sq:Int) N M
 kinds:∀(i:Nat) (p:Q),M[i]?=some p->p.k=0\/p.k=1\/p.k=2
 xk:Way (hm kn N) (·≠0) M
 perm:(eI M).Perm E
 nodup:(E.map Prod.fst).Nodup
 free:xq M=sq
 pos:1<=sq
 m1:1<=mo
 m2:2*mo<=N
 but:aj (In g gb) w w5
 bx:Bx w5 w.heap.size o hi lo
theorem vM.some (h:vM w w5 g gb kn mo N E M sq o hi lo v):∃(i:Nat) (p:Q),M[i]?=some p/\p.k≠1/\p.k≠2:=by
 obtain⟨i,p,hp,hk⟩:=AR (L:=M) (by rw [h.free];exact h.pos)
 exact⟨i,p,hp,by omega,by omega⟩
theorem vM.put {w6:World}(h:vM w w5 g gb kn mo N E M sq o hi lo v)(hb:Below w5.heap.size w5 w6)(h1:hi<az)(h2:lo<az)(hc:(o,hi,lo)∉E.map Prod.fst)(hl:E.length<mo){to_ d:Nat}{q:Q}(hd:d<N)(hto:to_=(hm kn N (o,hi,lo)+d)%N)(hq:M[to_]?=Option.some q)(hq1:q.k≠1)(hq2:q.k≠2)
  (hpath:∀e,e<d->∀p:Q,M[(hm kn N (o,hi,lo)+e)%N]?=Option.some p->p.k=1\/p.k=2) :
  Tb (((jy w6 gb (to_*5) ⟨1,(o,hi,lo),v⟩).setCell ⟨g,3,none⟩ (ab ((E.length:Int)+1))).setCell ⟨g,4,none⟩ (ab ((sq:Int) - 1))) g gb kn mo N (E++[((o,hi,lo),v)]):=by
 have hk0:q.k=0:=by
  rcases h.kinds _ _ hq with h3|h3|h3<;>omega
 have hlen:=h.tm.len
 refine⟨M.set to_ ⟨1,(o,hi,lo),v⟩,sq - 1,?_,?_,?_,?_,?_,?_,?_,h.m1,h.m2⟩
 ·have t:=(((h.tm.later hb).set hq ⟨1,(o,hi,lo),v⟩ ⟨h1,h2⟩).live ((E.length:Int)+1)).spare ((sq:Int) - 1)
  have e1:((E++[((o,hi,lo),v)]).length:Int)=(E.length:Int)+1:=by simp
  have e2:((sq - 1:Nat):Int)=(sq:Int) - 1:=by have:=h.pos;omega
  rw [e1,e2];exact t
 ·intro j x hx
  rcases aP hx with ⟨rfl,rfl⟩|⟨_,h3⟩
  ·exact .inr (.inl rfl)
  ·exact h.kinds _ _ h3
 ·refine h.xk.set (λ_ _ _=>show (1:Int)≠0 by decide) (λ_=>?_)
  rw [hlen];refine⟨d,hd,hto,λe he p hp=>?_⟩
  rcases hpath e he p hp with h3|h3<;>(show p.k≠0)<;>omega
 ·have ha:=Ac (x:=(⟨1,(o,hi,lo),v⟩:Q)) (y:=((o,hi,lo),v)) hq (by simp [fH,hk0]) (by simp [fH])
  exact (ha.trans (h.perm.cons _)).trans (List.perm_append_comm (l₁:=[((o,hi,lo),v)]))
 ·rw [List.map_append,List.nodup_append]
  refine⟨h.nodup,by simp,?_⟩
  intro a ha b hb2 heq;simp only [List.map_cons,List.map_nil,List.mem_singleton] at hb2;subst hb2 heq
  exact hc ha
 ·have hf:=Ch (x:=(⟨1,(o,hi,lo),v⟩:Q)) hq hk0 (show (1:Int)≠0 by decide)
  have hf2:=h.free
  omega
 ·rw [List.length_append]
  simp
  omega
theorem vg (h:Tb w g gb kn mo N E)(o:Int)(hi lo:Nat)(v:Int)(h1:hi<az)(h2:lo<az)(hc:(o,hi,lo)∈E.map Prod.fst) :
  Calls Tryz.prog 408 #[aq g,.agg #[ab o,ai (hi:Int),ai (lo:Int)],ab v] w λe w'=>e=.returned (ab 19)/\Below w.heap.size w w':=by
 obtain⟨L,sp,h⟩:=h
 have HH:=ae h
 have HC:=ae hc
 clear h hc;go_enter Tryz.func408,Tryz.ntmps408
 go_wp2_with (first|(go_at_call 430;refine (kQ (HH.out.later (ag _ _)) o hi lo h1 h2 HC.out).mono ?_;rintro e w2 ⟨i,u,hi_,rfl,hb2⟩;have OH:=ae (aa (ag _ _) hb2);clear hb2 hi_))
 go_ret;exact⟨rfl,OH.out⟩
theorem AP (h:Tb w g gb kn mo N E)(o:Int)(hi lo:Nat)(v:Int)(h1:hi<az)(h2:lo<az)(hc:(o,hi,lo)∉E.map Prod.fst)(hlt:E.length=mo) :
  Calls Tryz.prog 408 #[aq g,.agg #[ab o,ai (hi:Int),ai (lo:Int)],ab v] w λe w'=>e=.returned (ab 10)/\Below w.heap.size w w':=by
 obtain⟨L,sp,h⟩:=h
 have HH:=ae h
 have HC:=ae hc
 clear h hc;have HL:=ae hlt
 clear hlt;go_enter Tryz.func408,Tryz.ntmps408
 go_upto_region 4 with (first|(go_at_call 430;refine (jx (HH.out.later (ag _ _)) o hi lo h1 h2 HC.out).mono ?_;rintro e w2 ⟨rfl,hb2⟩;have OH:=ae (aa (ag _ _) hb2);clear hb2))
 have hS:=HH.out.later OH.out
 have z3:=hS.tm.a3.1
 rw [HL.out] at z3;have z2:=hS.tm.a2
 clear hS;go_quiet (fail)
 go_wp2;go_ret;exact⟨rfl,below_drewN OH.out _⟩
theorem sQ (h:Tb w g gb kn mo N E)(o:Int)(hi lo:Nat)(v:Int)(h1:hi<az)(h2:lo<az)(hc:(o,hi,lo)∉E.map Prod.fst)(hlt:E.length<mo) :
  Calls Tryz.prog 408 #[aq g,.agg #[ab o,ai (hi:Int),ai (lo:Int)],ab v] w λe w'=>e=.returned (ab 0)/\Tb w' g gb kn mo N (E++[((o,hi,lo),v)])/\aj (In g gb) w w':=by
 obtain⟨L,sp,h⟩:=h
 have HH:=ae h
 have HC:=ae hc
 have hpos:=h.tm.pos
 have hbig:=h.tm.gJ
 have hm2:=h.m2
 have hne:¬g=gb:=h.tm.ne
 have hl1:=h.tm.lt
 have hl2:=h.tm.pB
 have hsp:sp<=1024:=by have:=sF L;rw [h.free,h.tm.len] at this;omega
 have hnb:¬w.heap.size=gb:=by omega
 have hnin:Hid (¬In g gb w.heap.size):=by rintro (h3|h3)<;>omega
 clear h hc;go_enter Tryz.func408,Tryz.ntmps408
 go_upto_region 4 with (first|(go_at_call 430;refine (jx (HH.out.later (ag _ _)) o hi lo h1 h2 HC.out).mono ?_;rintro e w2 ⟨rfl,hb2⟩;have OH:=ae (aa (ag _ _) hb2);have BX:=ae ((Bx.new w o hi lo).later hb2);clear hb2))
 have hS:=HH.out.later OH.out
 have z3:=hS.tm.a3.1
 have z2:=hS.tm.a2
 have OW:=ae hS
 clear hS;go_quiet (fail)
 by_cases hrare:4*sp<N
 ·have hd:decide (4*sp<N)=true:=decide_eq_true hrare
  clear hrare;go_upto_region 8 with (first|(go_at_call 432;refine (sE O_.out OW.out.kinds (by omega) (by omega)).mono ?_;rintro e w4 ⟨rfl,hA⟩;have HA:=ae hA;clear hA)|(go_at_call 431;refine (qc (OW.out.tm.later (below_drewN (Below.refl _ _) _)) hsp).mono ?_;rintro e w3 ⟨rfl,hb3⟩;rw [hd];have OJ:=ae (aa (below_drewN (Below.refl _ _) _) hb3);have O_:=ae (OW.out.tm.later OJ.out);clear hb3))
  obtain⟨w5,sq,M,hw5,RP⟩:∃(w5:World) (sq:Nat) (M:List Q),w5=w4/\Hid (vM w w5 g gb kn mo N E M sq o hi lo v):=by
   obtain⟨M,hT4,hk4,hw4,hp4,hb4⟩:=HA.out
   have hl4:=(hp4.trans OW.out.perm).length_eq
   have hfa:=A9 hk4
   rw [hT4.len,hl4] at hfa;refine⟨w4,N - E.length,M,rfl,⟨?_,λi p hp=>?_,hw4,hp4.trans OW.out.perm,OW.out.nodup,by omega,by omega,OW.out.m1,hm2,(aj.of (aa OH.out OJ.out)).trans hb4,(BX.out.later OJ.out).but hb4 hnin.out⟩⟩
   ·have e1:((N - E.length:Nat):Int)=(N:Int) - (E.length:Int):=by omega
    rw [e1];exact hT4
   ·rcases hk4 i p hp with h3|h3
    ·exact .inl h3
    ·exact .inr (.inl h3)
  rw [<-hw5];clear hw5 HA z3 z2;have hfin:∀(W w6:World) (to_ d:Nat) (q:Q),Below w5.heap.size w5 w6->d<N->to_=(hm kn N (o,hi,lo)+d)%N->M[to_]?=some q->q.k≠1->q.k≠2->(∀e,e<d->∀p:Q,M[(hm kn N (o,hi,lo)+e)%N]?=some p->p.k=1\/p.k=2) ->
    W=((jy w6 gb (to_*5) ⟨1,(o,hi,lo),v⟩).setCell ⟨g,3,none⟩ (ab ((E.length:Int)+1))).setCell ⟨g,4,none⟩ (ab ((sq:Int) - 1))->Tb W g gb kn mo N (E++[((o,hi,lo),v)])/\aj (In g gb) w W:=by
   rintro W w6 to_ d q hb hd hto hq hq1 hq2 hpath rfl
   exact⟨RP.out.put hb h1 h2 HC.out hlt hd hto hq hq1 hq2 hpath,((ej (RP.out.but.call hb) (.inr rfl) _ _).setCell (p:=⟨g,3,none⟩) (.inl rfl) _).setCell (p:=⟨g,4,none⟩) (.inl rfl) _⟩
  have HF:=ae hfin
  clear hfin;have hex:=ae RP.out.some
  have hsq1:1<=sq:=RP.out.pos
  have hsq2:sq<=1024:=by have h3:=sF M;rw [RP.out.free,RP.out.tm.len] at h3;omega
  have hC:Hid (∀U:World,aj (·=gb) w5 U->(U.cell? ⟨g,0,none⟩=some (.slice (some ⟨gb,0,none⟩) N N)/\U.cell? ⟨w.heap.size,0,none⟩=some (ab o)/\U.cell? ⟨w.heap.size,1,none⟩=some (ai (hi:Int))/\U.cell? ⟨w.heap.size,2,none⟩=some (ai (lo:Int)))/\aj (·=gb) w5 U):=λU hU=>⟨⟨an hU RP.out.tm.a0 hne,an hU RP.out.bx.c0 hnb,an hU RP.out.bx.c1 hnb,an hU RP.out.bx.c2 hnb⟩,hU⟩
  obtain⟨z0,b0,b1,b2⟩:=(hC.out w5 (aj.refl _ _)).1
  go_region_held3 (λU=>(U.cell? ⟨g,0,none⟩=some (.slice (some ⟨gb,0,none⟩) N N)/\U.cell? ⟨w.heap.size,0,none⟩=some (ab o)/\U.cell? ⟨w.heap.size,1,none⟩=some (ai (hi:Int))/\U.cell? ⟨w.heap.size,2,none⟩=some (ai (lo:Int)))/\aj (·=gb) w5 U) (first|exact hC.out _ hst.out|exact hC.out _ hb6.out|exact hC.out _ (aj.of (Below.refl _ _).drew)) (first|(go_at_call 433;refine (lH (RP.out.tm.later (Below.refl _ _).drew) hex.out o hi lo h1 h2).mono ?_;rintro e w6 ⟨⟨to_,d,q,s1,s2,s3,s4,s5,s6,rfl⟩,hb6'⟩;have HS:=ae (And.intro s1 (And.intro s2 (And.intro s3 (And.intro s4 (And.intro s5 s6)))));have hb7:=ae (aa (Below.refl w5.heap.size w5).drew hb6');have hb6:=ae (aj.of (S:=(·=gb)) hb7.out);have hst:=ae (ej (S:=(·=gb)) hb6.out (b:=gb) (by rfl) (to_*5) ⟨1,(o,hi,lo),v⟩);have hto2:to_<N:=(by rw [s2];exact Nat.mod_lt _ hpos);have T6:=ae (RP.out.tm.later hb7.out);clear s1 s2 s4 s5 s6 hb6';obtain⟨p0,p1,p2,p3,p4⟩:=T6.out.at_ _ _ s3;have y3:=T6.out.a3.1;have y3':=T6.out.a3.2;have y4:=T6.out.a4.1;have y4':=T6.out.a4.2;have hfr:=T6.out.fr;clear s3))
  go_wp2;go_ret;obtain⟨s1,s2,s3,s4,s5,s6⟩:=HS.out
  exact⟨rfl,HF.out _ w6 to_ d q hb7.out s1 s2 s3 s4 s5 s6 rfl⟩
 ·have hd:decide (4*sp<N)=false:=decide_eq_false hrare
  have hsp1:1<=sp:=by omega
  clear hrare;go_upto_region 8 with (first|(go_at_call 431;refine (qc (OW.out.tm.later (below_drewN (Below.refl _ _) _)) hsp).mono ?_;rintro e w3 ⟨rfl,hb3⟩;rw [hd];have OJ:=ae (aa (below_drewN (Below.refl _ _) _) hb3);clear hb3))
  obtain⟨w5,sq,M,hw5,RP⟩:∃(w5:World) (sq:Nat) (M:List Q),w5=w3/\Hid (vM w w5 g gb kn mo N E M sq o hi lo v) :=
   ⟨w3,sp,L,rfl,⟨OW.out.tm.later OJ.out,OW.out.kinds,OW.out.xk,OW.out.perm,OW.out.nodup,OW.out.free,hsp1,OW.out.m1,hm2,aj.of (aa OH.out OJ.out),BX.out.later OJ.out⟩⟩
  rw [<-hw5];clear hw5 z3 z2;have hfin:∀(W w6:World) (to_ d:Nat) (q:Q),Below w5.heap.size w5 w6->d<N->to_=(hm kn N (o,hi,lo)+d)%N->M[to_]?=some q->q.k≠1->q.k≠2->(∀e,e<d->∀p:Q,M[(hm kn N (o,hi,lo)+e)%N]?=some p->p.k=1\/p.k=2) ->
    W=((jy w6 gb (to_*5) ⟨1,(o,hi,lo),v⟩).setCell ⟨g,3,none⟩ (ab ((E.length:Int)+1))).setCell ⟨g,4,none⟩ (ab ((sq:Int) - 1))->Tb W g gb kn mo N (E++[((o,hi,lo),v)])/\aj (In g gb) w W:=by
   rintro W w6 to_ d q hb hd hto hq hq1 hq2 hpath rfl
   exact⟨RP.out.put hb h1 h2 HC.out hlt hd hto hq hq1 hq2 hpath,((ej (RP.out.but.call hb) (.inr rfl) _ _).setCell (p:=⟨g,3,none⟩) (.inl rfl) _).setCell (p:=⟨g,4,none⟩) (.inl rfl) _⟩
  have HF:=ae hfin
  clear hfin;have hex:=ae RP.out.some
  have hsq1:1<=sq:=RP.out.pos
  have hsq2:sq<=1024:=by have h3:=sF M;rw [RP.out.free,RP.out.tm.len] at h3;omega
  have hC:Hid (∀U:World,aj (·=gb) w5 U->(U.cell? ⟨g,0,none⟩=some (.slice (some ⟨gb,0,none⟩) N N)/\U.cell? ⟨w.heap.size,0,none⟩=some (ab o)/\U.cell? ⟨w.heap.size,1,none⟩=some (ai (hi:Int))/\U.cell? ⟨w.heap.size,2,none⟩=some (ai (lo:Int)))/\aj (·=gb) w5 U):=λU hU=>⟨⟨an hU RP.out.tm.a0 hne,an hU RP.out.bx.c0 hnb,an hU RP.out.bx.c1 hnb,an hU RP.out.bx.c2 hnb⟩,hU⟩
  obtain⟨z0,b0,b1,b2⟩:=(hC.out w5 (aj.refl _ _)).1
  go_region_held3 (λU=>(U.cell? ⟨g,0,none⟩=some (.slice (some ⟨gb,0,none⟩) N N)/\U.cell? ⟨w.heap.size,0,none⟩=some (ab o)/\U.cell? ⟨w.heap.size,1,none⟩=some (ai (hi:Int))/\U.cell? ⟨w.heap.size,2,none⟩=some (ai (lo:Int)))/\aj (·=gb) w5 U) (first|exact hC.out _ hst.out|exact hC.out _ hb6.out|exact hC.out _ (aj.of (Below.refl _ _).drew)) (first|(go_at_call 433;refine (lH (RP.out.tm.later (Below.refl _ _).drew) hex.out o hi lo h1 h2).mono ?_;rintro e w6 ⟨⟨to_,d,q,s1,s2,s3,s4,s5,s6,rfl⟩,hb6'⟩;have HS:=ae (And.intro s1 (And.intro s2 (And.intro s3 (And.intro s4 (And.intro s5 s6)))));have hb7:=ae (aa (Below.refl w5.heap.size w5).drew hb6');have hb6:=ae (aj.of (S:=(·=gb)) hb7.out);have hst:=ae (ej (S:=(·=gb)) hb6.out (b:=gb) (by rfl) (to_*5) ⟨1,(o,hi,lo),v⟩);have hto2:to_<N:=(by rw [s2];exact Nat.mod_lt _ hpos);have T6:=ae (RP.out.tm.later hb7.out);clear s1 s2 s4 s5 s6 hb6';obtain⟨p0,p1,p2,p3,p4⟩:=T6.out.at_ _ _ s3;have y3:=T6.out.a3.1;have y3':=T6.out.a3.2;have y4:=T6.out.a4.1;have y4':=T6.out.a4.2;have hfr:=T6.out.fr;clear s3))
  go_wp2;go_ret;obtain⟨s1,s2,s3,s4,s5,s6⟩:=HS.out
  exact⟨rfl,HF.out _ w6 to_ d q hb7.out s1 s2 s3 s4 s5 s6 rfl⟩
def EM (w:World)(mo:Nat)(t:Value)(w':World):Prop:=∃n:Nat,2<=n/\n<4*mo/\t=ab (n:Int)/\w'=w
theorem sj (w:World)(mo:Nat)(h1:1<=mo)(h2:mo<=256) :
  Calls Tryz.prog 272 #[ab (mo:Int)] w λe w'=>(∃N:Nat,2*mo<=N/\N<=1024/\e=.returned (ab (N:Int)))/\w'=w:=by
 go_enter Tryz.func272,Tryz.ntmps272
 go_wp2;go_loopw [3] (EM w mo) (λt _=>1024 - (intOf t).toNat)
 case atStart=>exact⟨2,by omega,by omega,rfl,rfl⟩
 case round =>
  obtain⟨n,hn,hn2,rfl,rfl⟩:=hrel
  by_cases hlt:n<2*mo
  ·have hlt2:(n:Int)<2*(mo:Int):=by omega
   go_wp2;exact⟨⟨n*2,by omega,by omega,by go_num,rfl⟩,by simp [intOf];omega⟩
  ·have hlt2:¬(n:Int)<2*(mo:Int):=by omega
   go_wp2;go_ret;exact⟨⟨n,by omega,by omega,rfl⟩,rfl⟩
theorem Bo:(Tryz.prog.info? 552).map (λi=>(i.zero,i.size,i.bytes))=some (some (.agg #[ab 0,ab 0,ai 0,ai 0,ab 0]),5,40):=by kernel_rfl
def pz:Q:=⟨0,(0,0,0),0⟩
theorem kD {n:Nat}(h:(List.replicate n pz)[i]?=some p):i<n/\p=pz:=by
 rw [List.getElem?_replicate] at h;split at h
 ·next h1=>exact⟨h1,(Option.some.inj h).symm⟩
 ·cases h
theorem cW (w:World)(n:Nat)(hn:n<=1024) :
  ∃w',(Instr.makeSlice 404 (ab (n:Int)) (ab (n:Int))).run Tryz.prog w=.ok (.slice (some ⟨w.heap.size,0,none⟩) n n) w'/\(∀(i:Nat) (p:Q),(List.replicate n pz)[i]?=some p->Pa w' w.heap.size (i*5) p)/\(∀j,w'.frozen? ⟨w.heap.size,j,none⟩=false)/\w.heap.size<w'.heap.size/\Below w.heap.size w w':=by
 obtain⟨i,hi,hz0,hz1,hz2⟩:=info_parts Bo
 obtain⟨w',hr,ho,hg⟩:=run_make_full (P:=Tryz.prog) w w.heap.size 404 552 i _ 5 Tryz.underlying404 hi hz0 hz1 .i64 .i64 n (by rw [hz2];omega) (by unfold maxLen;omega) (Nat.le_refl _)
 have hcell:∀j c u,j<n->c<5->(#[ab 0,ab 0,ai 0,ai 0,ab 0]:Array Value)[c]! = u->w'.cell? ⟨w.heap.size,j*5+c,none⟩=some u:=by
  intro j c u hj hc hu;have hm:(j*5+c)%5=c:=by omega
  have:=ho.cells (g:=w.heap.size) rfl (j*5+c) u (by
   rw [Array.getElem?_toList];simp only [madeCells,Value.cells,Array.getElem?_map,Array.getElem?_range];rw [if_pos (by omega)];simp only [Option.map_some,Option.some.injEq,Array.size,List.length,hm];exact hu)
  rw [aY] at this;exact this
 refine⟨w',hr,λj p hp=>?_,λj=>?_,?_,(Below.refl _ _).grown hg (Nat.le_refl _) (λk hk=>by cases hk)⟩
 ·obtain⟨hj,rfl⟩:=kD hp
  exact⟨hcell j 0 _ hj (by omega) rfl,hcell j 1 _ hj (by omega) rfl,hcell j 2 _ hj (by omega) rfl,hcell j 3 _ hj (by omega) rfl,hcell j 4 _ hj (by omega) rfl⟩
 ·rcases ho.2 with ⟨h0,_⟩|⟨g,c,cur,hv,_,hh,hc,_⟩
  ·simp at h0
  ·simp only [Value.slice.injEq,Option.some.injEq,Addr.mk.injEq] at hv
   obtain⟨⟨rfl,_⟩,_,rfl⟩:=hv
   simp [World.frozen?,hh]
 ·exact (bD ho _ rfl).2
theorem CU (n:Nat):xq (List.replicate n pz)=n:=by
 unfold xq;rw [List.countP_replicate];simp [pz]
theorem yZ (n:Nat):eI (List.replicate n pz)=[]:=by
 unfold eI;rw [List.filterMap_eq_nil_iff];intro a ha;rw [(List.mem_replicate.1 ha).2];simp [fH,pz]
def zl (w:World)(kn mo:Nat)(e:Ending)(w':World):Prop :=
 ∃g gb N:Nat,e=.returned (.tuple #[aq g,ab 0])/\Tb w' g gb kn mo N []/\w.heap.size<=g/\w.heap.size<=gb/\Below w.heap.size w w'
theorem cu (w:World)(mo kn:Nat)(h1:1<=mo)(h2:mo<=256)(h3:kn<=64) :
  Calls Tryz.prog 204 #[ab (mo:Int),ab (kn:Int)] w (zl w kn mo):=by
 have hk1:¬(mo:Int)<1:=by omega
 have hk2:¬(256:Int)<(mo:Int):=by omega
 have hk3:¬(kn:Int)<0:=by omega
 have hk4:¬(64:Int)<(kn:Int):=by omega
 go_enter Tryz.func204,Tryz.ntmps204
 go_upto_region 4 with (first|(go_at_call 272;refine (sj _ mo h1 h2).mono ?_;rintro e w1 ⟨⟨N,hN1,hN2,rfl⟩,rfl⟩))
 obtain⟨w2,hr,hA,hF,hsz,hb⟩:=cW w1 N hN2
 have HA:=ae hA
 have QR:=ae hF
 have HB:=ae hb
 clear hA hF hb;go_wp2;refine bodyPost_ret (v:=.tuple #[aq w2.heap.size,ab 0]) (by simp [results,Tryz.results204,go_sem]) rfl ⟨w2.heap.size,w1.heap.size,N,rfl,?_,HB.out.size,Nat.le_refl _,HB.out.alloc HB.out.size _⟩
 have hal:=λ(p:Addr) (v:Value) (hv:w2.cell? p=some v)=>cell_later (ag w2 (Obj.cells #[.slice (some ⟨w1.heap.size,0,none⟩) N N,ab (kn:Int),ab (mo:Int),ab 0,ab (N:Int)] 406)) hv
 have hsh:aj (λ_=>False) w2 (w2.alloc (Obj.cells #[.slice (some ⟨w1.heap.size,0,none⟩) N N,ab (kn:Int),ab (mo:Int),ab 0,ab (N:Int)] 406)):=aj.of (ag _ _)
 refine⟨List.replicate N pz,N,⟨by simp [go_sem],by simp [go_sem],by simp [go_sem],⟨by simp [go_sem],by simp [go_sem]⟩,⟨by simp [go_sem],by simp [go_sem]⟩,λj=>?_,λi p hp=>(HA.out i p hp).but hsh (λh=>h),by omega,by simp,by omega,hN2,λi p hp=>?_⟩,λi p hp=>?_,λi p hp hk=>?_,by rw [yZ],by simp,CU N,Nat.zero_le _,h1,hN1⟩
 ·rw [World.frozen?_of_block (w:=w2) (hsh.block w1.heap.size hsz (λh=>h))]
  exact QR.out j
 ·rw [(kD hp).2]
  exact⟨show (0:Nat)<az by decide,show (0:Nat)<az by decide⟩
 ·rw [(kD hp).2]
  exact .inl rfl
 ·rw [(kD hp).2] at hk
  exact absurd hk (show ¬(0:Int)=1 by decide)
end Go.Proofs.YtmhinfbkmjdgfaaGreatDoor.H.I
namespace Go.Proofs.YtmhinfbkmjdgfaaGreatDoor
open Go.RowKit H
variable {l:Fo}{T T':List (Cp×Int)}{X:List Tk}{b i kn mo o o':Nat}{S:Nat->Prop}{x y:Tk}{a w w':World}
theorem p_ (a b:Nat)(ha:a<32)(hb:b<32):bits .and .i64 (a:Int) (b:Int)=((a &&& b:Nat):Int):=by
 have hx:a &&& b<2 ^ 5:=Nat.and_lt_two_pow _ (by omega)
 show IntKind.i64.wrap ((BitVec.ofInt 64 (a:Int) &&& BitVec.ofInt 64 (b:Int)).toNat:Int)=_
 rw [BitVec.toNat_and,BitVec.ofInt_natCast,BitVec.ofInt_natCast,BitVec.toNat_ofNat,BitVec.toNat_ofNat,Nat.mod_eq_of_lt (a:=a) (by omega),Nat.mod_eq_of_lt (a:=b) (by omega),IntKind.wrap_i64];omega
theorem nB {r:Int}(h:bK r=true):∃n:Nat,r=(n:Int)/\1<=n/\n<32:=by
 have:=tR.1 h
 exact⟨r.toNat,by omega,by omega,by omega⟩
theorem CC (x y:Nat):((x:Int)==(y:Int))=decide (x=y):=by
 by_cases h:x=y
 ·subst h;simp
 ·rw [decide_eq_false h]
  simp
  omega
theorem bU (r:Int)(w:World) :
  Calls Tryz.prog 318 #[ab r] w λe w'=>e=.returned (.bool (bK r))/\w'=w:=by
 by_cases h1:0<r
 ·by_cases h2:r<=31
  ·have hz:bK r=true:=decide_eq_true (by omega)
   rw [hz];clear hz
   go_enter Tryz.func318,Tryz.ntmps318
   go_wp2;go_ret;exact⟨rfl,rfl⟩
  ·have hz:bK r=false:=decide_eq_false (by omega)
   rw [hz];clear hz
   go_enter Tryz.func318,Tryz.ntmps318
   go_wp2;go_ret;exact⟨rfl,rfl⟩
 ·have hz:bK r=false:=decide_eq_false (by omega)
  rw [hz];clear hz
  go_enter Tryz.func318,Tryz.ntmps318
  go_wp2;go_ret;exact⟨rfl,rfl⟩
theorem gA (a b:Int)(w:World) :
  Calls Tryz.prog 316 #[ab a,ab b] w λe w'=>e=.returned (.bool (aS a b))/\w'=w:=by
 by_cases h1:bK a=true
 ·by_cases h2:bK b=true
  ·obtain⟨n,rfl,_,hn⟩:=nB h1
   obtain⟨m,rfl,_,hm⟩:=nB h2
   have hb:=p_ n m hn hm
   have HP:Hid (aS (n:Int) (m:Int)=decide (n &&& m=n)):=by unfold Hid aS;rw [h1,h2];simp
   go_enter Tryz.func316,Tryz.ntmps316
   go_wp2_with (first|(go_at_call 318;refine (bU _ _).mono ?_;rintro e w1 ⟨rfl,rfl⟩))
   go_ret;refine⟨?_,rfl⟩
   rw [HP.out];apply aA
   exact CC _ _
  ·have h2:bK b=false:=by simpa using h2
   have hz:aS a b=false:=by unfold aS;rw [h2];simp
   rw [hz];clear hz
   go_enter Tryz.func316,Tryz.ntmps316
   go_wp2_with (first|(go_at_call 318;refine (bU _ _).mono ?_;rintro e w1 ⟨rfl,rfl⟩))
   go_ret;exact⟨rfl,rfl⟩
 ·have h1:bK a=false:=by simpa using h1
  have hz:aS a b=false:=by unfold aS;rw [h1];simp
  rw [hz];clear hz
  go_enter Tryz.func316,Tryz.ntmps316
  go_wp2_with (first|(go_at_call 318;refine (bU _ _).mono ?_;rintro e w1 ⟨rfl,rfl⟩))
  go_ret;exact⟨rfl,rfl⟩
structure Ad where
 g:Nat
 tg:Nat
 tb:Nat
 eb:Nat
 kg:Nat
 kb:Nat
 N:Nat
def Ad.Wr (A:Ad)(k:Nat):Prop:=k=A.tg\/k=A.tb\/k=A.eb\/k=A.kb
def Ad.jP (A:Ad)(k:Nat):Prop:=k=A.g\/k=A.kg\/A.Wr k
structure Ad.IJ (A:Ad):Prop where
 d1:A.tg≠A.g
 d2:A.tb≠A.g
 d3:A.eb≠A.g
 d4:A.kb≠A.g
 d5:A.tg≠A.eb
 d6:A.tb≠A.eb
 d7:A.tg≠A.kg
 d8:A.tb≠A.kg
 d9:A.tg≠A.kb
 da:A.tb≠A.kb
 db:A.eb≠A.kg
 dc:A.eb≠A.kb
structure Pe (w:World)(b o:Nat)(x:Tk):Prop where
 c0:w.cell? ⟨b,o,none⟩=some (ab x.1.1)
 c1:w.cell? ⟨b,o+1,none⟩=some (ai (x.1.2.1:Int))
 c2:w.cell? ⟨b,o+2,none⟩=some (ai (x.1.2.2:Int))
 c3:w.cell? ⟨b,o+3,none⟩=some (ab x.2)
theorem Pe.but (hb:aj S w w')(h:Pe w b o x)(hn:¬S b):Pe w' b o x :=
 ⟨an hb h.c0 hn,an hb h.c1 hn,an hb h.c2 hn,an hb h.c3 hn⟩
theorem Pe.later (hb:Below w.heap.size w w')(h:Pe w b o x):Pe w' b o x:=h.but (S:=λ_=>False) (aj.of hb) (λh=>h)
theorem Pe.off {u:Value}(h:Pe w b o x)(hne:o'<o\/o+4<=o'):Pe (w.setCell ⟨b,o',none⟩ u) b o x :=
 ⟨ax h.c0 (by omega),ax h.c1 (by omega),ax h.c2 (by omega),ax h.c3 (by omega)⟩
def pd (w:World)(b o:Nat)(x:Tk):World :=
 (((w.setCell ⟨b,o,none⟩ (ab x.1.1)).setCell ⟨b,o+1,none⟩ (ai (x.1.2.1:Int))).setCell ⟨b,o+2,none⟩ (ai (x.1.2.2:Int))).setCell ⟨b,o+3,none⟩ (ab x.2)
theorem qG (h:aj S a w)(hb:S b)(o:Nat)(x:Tk):aj S a (pd w b o x) :=
 (((h.setCell (p:=⟨b,o,none⟩) hb _).setCell (p:=⟨b,o+1,none⟩) hb _).setCell (p:=⟨b,o+2,none⟩) hb _).setCell (p:=⟨b,o+3,none⟩) hb _
theorem Pe.set (h:Pe w b o y)(x:Tk):Pe (pd w b o x) b o x:=by
 unfold pd;refine⟨?_,?_,?_,?_⟩
 ·exact ax (ax (ax (World.cell?_setCell_same _ _ _ h.c0) (by omega)) (by omega)) (by omega)
 ·exact ax (ax (World.cell?_setCell_same _ _ _ (ax h.c1 (by omega))) (by omega)) (by omega)
 ·exact ax (World.cell?_setCell_same _ _ _ (ax (ax h.c2 (by omega)) (by omega))) (by omega)
 ·exact World.cell?_setCell_same _ _ _ (ax (ax (ax h.c3 (by omega)) (by omega)) (by omega))
theorem Pe.mj (h:Pe w b o y)(x:Tk)(hne:o'+4<=o\/o+4<=o'):Pe (pd w b o' x) b o y:=by
 unfold pd;exact (((h.off (by omega)).off (by omega)).off (by omega)).off (by omega)
structure Cm (w:World)(A:Ad)(kn mo:Nat)(T:List (Cp×Int))(X:List Tk)(l:Fo):Prop where
 c0:w.cell? ⟨A.g,0,none⟩=some (aq A.tg)
 c1:w.cell? ⟨A.g,1,none⟩=some (.slice (some ⟨A.eb,0,none⟩) mo mo)
 c2:w.cell? ⟨A.g,2,none⟩=some (aq A.kg)
 AK:I.Tb w A.tg A.tb kn mo A.N T
 wW:Ki w A.kg A.kb mo l
 fH:∀(i:Nat) (x:Tk),X[i]?=some x->Pe w A.eb (i*4) x
 fr:∀j,w.frozen? ⟨A.eb,j,none⟩=false
 Br:A.eb<w.heap.size
 len:X.length=mo
 cr:A.IJ
theorem Cm.but {A:Ad}(hb:aj S w w')(h:Cm w A kn mo T X l)(hS:∀k,A.jP k->¬S k):Cm w' A kn mo T X l :=
 ⟨an hb h.c0 (hS _ (.inl rfl)),an hb h.c1 (hS _ (.inl rfl)),an hb h.c2 (hS _ (.inl rfl)),h.AK.but hb (hS _ (.inr (.inr (.inl rfl)))) (hS _ (.inr (.inr (.inr (.inl rfl))))),h.wW.but hb (hS _ (.inr (.inl rfl))) (hS _ (.inr (.inr (.inr (.inr (.inr rfl)))))),
  λi x hx=>(h.fH i x hx).but hb (hS _ (.inr (.inr (.inr (.inr (.inl rfl)))))),λj=>by rw [World.frozen?_of_block (w:=w) (hb.block A.eb h.Br (hS _ (.inr (.inr (.inr (.inr (.inl rfl)))))))];exact h.fr j,Nat.lt_of_lt_of_le h.Br hb.size,h.len,h.cr⟩
theorem Cm.later {A:Ad}(hb:Below w.heap.size w w')(h:Cm w A kn mo T X l):Cm w' A kn mo T X l:=h.but (S:=λ_=>False) (aj.of hb) (λ_ _ h=>h)
theorem Ki.GZ {g gb m:Nat}(h:Ki w g gb m l):g<w.heap.size/\gb<w.heap.size:=by
 obtain⟨N,h1,h2⟩:=h
 exact⟨h1.lt,h1.pB⟩
theorem Cm.lt {A:Ad}(h:Cm w A kn mo T X l):∀k,A.jP k->k<w.heap.size:=by
 rintro k (rfl|rfl|rfl|rfl|rfl|rfl)
 ·exact World.block_lt_of_cell? _ _ h.c0
 ·exact h.wW.GZ.1
 ·exact h.AK.lt
 ·exact h.AK.pB
 ·exact h.Br
 ·exact h.wW.GZ.2
theorem Cm.small {A:Ad}(h:Cm w A kn mo T X l):mo<=512:=h.AK.small
theorem Cm.IY {A:Ad}(h:Cm w A kn mo T X l)(hb:aj (I.In A.tg A.tb) w w')(ht:I.Tb w' A.tg A.tb kn mo A.N T'):Cm w' A kn mo T' X l:=by
 have d:=h.cr
 have n1:¬I.In A.tg A.tb A.g:=by rintro (e|e);exact d.d1 e.symm;exact d.d2 e.symm
 have n2:¬I.In A.tg A.tb A.eb:=by rintro (e|e);exact d.d5 e.symm;exact d.d6 e.symm
 exact⟨an hb h.c0 n1,an hb h.c1 n1,an hb h.c2 n1,ht,h.wW.but hb (by rintro (e|e);exact d.d7 e.symm;exact d.d8 e.symm) (by rintro (e|e);exact d.d9 e.symm;exact d.da e.symm),
  λi x hx=>(h.fH i x hx).but hb n2,λj=>by rw [World.frozen?_of_block (w:=w) (hb.block A.eb h.Br n2)];exact h.fr j,Nat.lt_of_lt_of_le h.Br hb.size,h.len,d⟩
theorem Cm.vP {A:Ad}{l':Fo}(h:Cm w A kn mo T X l)(hb:aj (·=A.kb) w w')(hk:Ki w' A.kg A.kb mo l'):Cm w' A kn mo T X l':=by
 have d:=h.cr
 exact⟨an hb h.c0 (λe=>d.d4 e.symm),an hb h.c1 (λe=>d.d4 e.symm),an hb h.c2 (λe=>d.d4 e.symm),h.AK.but hb d.d9 d.da,hk,
  λi x hx=>(h.fH i x hx).but hb d.dc,λj=>by rw [World.frozen?_of_block (w:=w) (hb.block A.eb h.Br d.dc)];exact h.fr j,Nat.lt_of_lt_of_le h.Br hb.size,h.len,d⟩
theorem Cm.El {A:Ad}(h:Cm w A kn mo T X l)(hi:i<mo)(x:Tk):Cm (pd w A.eb (i*4) x) A kn mo T (X.set i x) l:=by
 have d:=h.cr
 have hb:aj (·=A.eb) w (pd w A.eb (i*4) x):=qG (S:=(·=A.eb)) (aj.refl _ _) rfl _ _
 obtain⟨y,hy⟩:=get_some (L:=X) (i:=i) (by rw [h.len];exact hi)
 refine⟨an hb h.c0 (λe=>d.d3 e.symm),an hb h.c1 (λe=>d.d3 e.symm),an hb h.c2 (λe=>d.d3 e.symm),h.AK.but hb d.d5 d.d6,h.wW.but hb (λe=>d.db e.symm) (λe=>d.dc e.symm),λj z hz=>?_,λj=>by simpa [pd] using h.fr j,Nat.lt_of_lt_of_le h.Br hb.size,by rw [List.length_set];exact h.len,d⟩
 rcases Go.Proofs.YtmhinfbkmjdgfaaGreatDoor.aP hz with ⟨rfl,rfl⟩|⟨hne,h3⟩
 ·exact (h.fH _ y hy).set _
 ·exact (h.fH _ _ h3).mj _ (by omega)
theorem Cm.at_ {A:Ad}(h:Cm w A kn mo T X l)(hi:i<mo):Pe w A.eb (i*4) (tk X (i:Int)):=by
 obtain⟨y,hy⟩:=get_some (L:=X) (i:=i) (by rw [h.len];exact hi)
 have:tk X (i:Int)=y:=by unfold tk;simp [hy]
 rw [this];exact h.fH i y hy
theorem fP {A:Ad}(h:Cm w A kn mo T X l)(n:Int) :
  Calls Tryz.prog 311 #[.pointer (some ⟨A.g,2,none⟩),ab n] w λe w'=>e=.returned (.bool (decide (n∈aF l)))/\w'=w:=by
 have hc:=ae (cI h.wW n)
 have x2:=h.c2
 clear h;go_enter Tryz.func311,Tryz.ntmps311
 go_wp2_with (first|(go_at_call 356;refine hc.out.mono ?_;rintro e w1 ⟨rfl,rfl⟩))
 go_ret;exact⟨rfl,rfl⟩
theorem qR {A:Ad}(h:Cm w A kn mo T X l)(n p:Int)(hp:(n,p)∈l) :
  Calls Tryz.prog 312 #[.pointer (some ⟨A.g,2,none⟩),ab n] w λe w'=>e=.returned (ab p)/\w'=w:=by
 have hc:=ae (uU h.wW n p hp)
 have x2:=h.c2
 clear h hp;go_enter Tryz.func312,Tryz.ntmps312
 go_wp2_with (first|(go_at_call 357;refine hc.out.mono ?_;rintro e w1 ⟨rfl,rfl⟩))
 go_ret;exact⟨rfl,rfl⟩
abbrev j5 (c:Cp):Value:=.agg #[ab c.1,ai (c.2.1:Int),ai (c.2.2:Int)]
theorem uO {A:Ad}(h:Cm w A kn mo T X l)(o:Int)(hi lo:Nat)(v:Int)(b:Bool)
  (hG:∀W,Below w.heap.size w W->Calls Tryz.prog 420 #[aq A.tg,.agg #[ab o,ai (hi:Int),ai (lo:Int)]] W (λe w'=>e=.returned (.tuple #[ab v,.bool b])/\Below W.heap.size W w')) :
  Calls Tryz.prog 342 #[aq A.g,.agg #[ab o,ai (hi:Int),ai (lo:Int)]] w λe w'=>e=.returned (.tuple #[ab v,.bool b])/\Below w.heap.size w w':=by
 have hN:Hid (∀W,Below w.heap.size w W->Calls Tryz.prog 388 #[aq A.g,.agg #[ab o,ai (hi:Int),ai (lo:Int)]] W (λe w'=>e=.returned (.tuple #[ab v,.bool b])/\Below W.heap.size W w')):=by
  intro W hW;have x0:=(h.later hW).c0
  clear h;obtain⟨w1,hw1⟩:∃w1,w1=W.alloc (Obj.cells #[ab o,ai (hi:Int),ai (lo:Int)] 37):=⟨_,rfl⟩
  have hB1:Below W.heap.size W w1:=by rw [hw1];exact ag _ _
  have hC:Hid (∀U:World,Below w1.heap.size w1 U->(U.cell? ⟨W.heap.size,0,none⟩=some (ab o)/\U.cell? ⟨W.heap.size,1,none⟩=some (ai (hi:Int))/\U.cell? ⟨W.heap.size,2,none⟩=some (ai (lo:Int))/\U.cell? ⟨A.g,0,none⟩=some (aq A.tg))/\Below w1.heap.size w1 U):=λU hU =>
   ⟨⟨cell_later hU (by rw [hw1];simp [go_sem]),cell_later hU (by rw [hw1];simp [go_sem]),cell_later hU (by rw [hw1];simp [go_sem]),cell_later hU (cell_later hB1 x0)⟩,hU⟩
  have HG:=ae (λ(U:World) (hU:Below w1.heap.size w1 U)=>hG U (aa (aa hW hB1) hU))
  have OI:=ae hB1
  clear hG hB1 hW;go_enter Tryz.func388,Tryz.ntmps388
  go_upto_region 1 with fail
  rw [<-hw1];clear hw1;go_region_held3 (λU=>(U.cell? ⟨W.heap.size,0,none⟩=some (ab o)/\U.cell? ⟨W.heap.size,1,none⟩=some (ai (hi:Int))/\U.cell? ⟨W.heap.size,2,none⟩=some (ai (lo:Int))/\U.cell? ⟨A.g,0,none⟩=some (aq A.tg))/\Below w1.heap.size w1 U) (first|exact hC.out _ OH.out|exact hC.out _ (Below.refl _ _).drew) (first
   | (go_at_call 420;refine (HG.out _ (Below.refl _ _).drew).mono ?_;rintro e w2 ⟨rfl,hb2⟩;have OH:=ae (aa (Below.refl w1.heap.size w1).drew hb2);clear hb2))
  go_wp2;exact bodyPost_ret (v:=.tuple #[ab v,.bool b]) (by simp [results,Tryz.results388,go_sem]) rfl ⟨rfl,aa OI.out OH.out⟩
 obtain⟨w1,hw1⟩:∃w1,w1=w.alloc (Obj.cells #[ab o,ai (hi:Int),ai (lo:Int)] 37):=⟨_,rfl⟩
 have hB1:Below w.heap.size w w1:=by rw [hw1];exact ag _ _
 have hC:Hid (∀U:World,Below w1.heap.size w1 U->(U.cell? ⟨w.heap.size,0,none⟩=some (ab o)/\U.cell? ⟨w.heap.size,1,none⟩=some (ai (hi:Int))/\U.cell? ⟨w.heap.size,2,none⟩=some (ai (lo:Int)))/\Below w1.heap.size w1 U):=λU hU =>
  ⟨⟨cell_later hU (by rw [hw1];simp [go_sem]),cell_later hU (by rw [hw1];simp [go_sem]),cell_later hU (by rw [hw1];simp [go_sem])⟩,hU⟩
 have OI:=ae hB1
 clear hG hB1 h;go_enter Tryz.func342,Tryz.ntmps342
 go_upto_region 1 with fail
 rw [<-hw1];clear hw1;go_region_held3 (λU=>(U.cell? ⟨w.heap.size,0,none⟩=some (ab o)/\U.cell? ⟨w.heap.size,1,none⟩=some (ai (hi:Int))/\U.cell? ⟨w.heap.size,2,none⟩=some (ai (lo:Int)))/\Below w1.heap.size w1 U) (first|exact hC.out _ OH.out|exact hC.out _ (Below.refl _ _).drew) (first
  | (go_at_call 388;refine (hN.out _ (aa OI.out (Below.refl _ _).drew)).mono ?_;rintro e w2 ⟨rfl,hb2⟩;have OH:=ae (aa (Below.refl w1.heap.size w1).drew hb2);clear hb2))
 go_wp2;exact bodyPost_ret (v:=.tuple #[ab v,.bool b]) (by simp [results,Tryz.results342,go_sem]) rfl ⟨rfl,aa OI.out OH.out⟩
theorem tW {A:Ad}(h:Cm w A kn mo T X l)(n o:Int)(hi lo:Nat)(r code:Int)(hc:code≠0)
  (hG:∀W,Below w.heap.size w W->Calls Tryz.prog 408 #[aq A.tg,.agg #[ab o,ai (hi:Int),ai (lo:Int)],ab n] W (λe w'=>e=.returned (ab code)/\Below W.heap.size W w')) :
  Calls Tryz.prog 364 #[aq A.g,ab n,.agg #[ab o,ai (hi:Int),ai (lo:Int),ab r]] w λe w'=>e=.returned (ab code)/\Below w.heap.size w w':=by
 have x0:=h.c0
 clear h;obtain⟨w1,hw1⟩:∃w1,w1=w.alloc (Obj.cells #[ab o,ai (hi:Int),ai (lo:Int),ab r] 440):=⟨_,rfl⟩
 have hB1:Below w.heap.size w w1:=by rw [hw1];exact ag _ _
 have hC:Hid (∀U:World,Below w1.heap.size w1 U->(U.cell? ⟨w.heap.size,0,none⟩=some (ab o)/\U.cell? ⟨w.heap.size,1,none⟩=some (ai (hi:Int))/\U.cell? ⟨w.heap.size,2,none⟩=some (ai (lo:Int))/\U.cell? ⟨A.g,0,none⟩=some (aq A.tg))/\Below w1.heap.size w1 U):=λU hU =>
  ⟨⟨cell_later hU (by rw [hw1];simp [go_sem]),cell_later hU (by rw [hw1];simp [go_sem]),cell_later hU (by rw [hw1];simp [go_sem]),cell_later hU (cell_later hB1 x0)⟩,hU⟩
 have HG:=ae (λ(U:World) (hU:Below w1.heap.size w1 U)=>hG U (aa hB1 hU))
 have OI:=ae hB1
 clear hG hB1;go_enter Tryz.func364,Tryz.ntmps364
 go_upto_region 1 with fail
 rw [<-hw1];clear hw1;go_region_held3 (λU=>(U.cell? ⟨w.heap.size,0,none⟩=some (ab o)/\U.cell? ⟨w.heap.size,1,none⟩=some (ai (hi:Int))/\U.cell? ⟨w.heap.size,2,none⟩=some (ai (lo:Int))/\U.cell? ⟨A.g,0,none⟩=some (aq A.tg))/\Below w1.heap.size w1 U) (first|exact hC.out _ OH.out|exact hC.out _ (Below.refl _ _).drew) (first
  | (go_at_call 408;refine (HG.out _ (Below.refl _ _).drew).mono ?_;rintro e w2 ⟨rfl,hb2⟩;have OH:=ae (aa (Below.refl w1.heap.size w1).drew hb2);clear hb2))
 go_wp2;go_ret;exact⟨rfl,aa OI.out OH.out⟩
theorem B9 {A:Ad}(h:Cm w A kn mo T X l)(n:Nat)(hn:n<mo)(o:Int)(hi lo:Nat)(r:Int)
  (hG:∀W,Below w.heap.size w W->Calls Tryz.prog 408 #[aq A.tg,.agg #[ab o,ai (hi:Int),ai (lo:Int)],ab (n:Int)] W (λe w'=>e=.returned (ab 0)/\I.Tb w' A.tg A.tb kn mo A.N T'/\aj (I.In A.tg A.tb) W w')) :
  Calls Tryz.prog 364 #[aq A.g,ab (n:Int),.agg #[ab o,ai (hi:Int),ai (lo:Int),ab r]] w λe w'=>e=.returned (ab 0)/\Cm w' A kn mo T' (X.set n ((o,hi,lo),r)) l/\aj A.Wr w w':=by
 have x0:=h.c0
 have hl:=h.lt
 obtain⟨w1,hw1⟩:∃w1,w1=w.alloc (Obj.cells #[ab o,ai (hi:Int),ai (lo:Int),ab r] 440):=⟨_,rfl⟩
 have hB1:Below w.heap.size w w1:=by rw [hw1];exact ag _ _
 have hni:∀k,I.In A.tg A.tb k->k<w.heap.size:=by
  rintro k (rfl|rfl)
  ·exact hl _ (.inr (.inr (.inl rfl)))
  ·exact hl _ (.inr (.inr (.inr (.inl rfl))))
 have hng:¬I.In A.tg A.tb A.g:=by rintro (e|e);exact h.cr.d1 e.symm;exact h.cr.d2 e.symm
 have hns:¬I.In A.tg A.tb w.heap.size:=λhs=>by have:=hni _ hs;omega
 have hC:Hid (∀U:World,aj (I.In A.tg A.tb) w1 U->(U.cell? ⟨w.heap.size,0,none⟩=some (ab o)/\U.cell? ⟨w.heap.size,1,none⟩=some (ai (hi:Int))/\U.cell? ⟨w.heap.size,2,none⟩=some (ai (lo:Int))/\U.cell? ⟨w.heap.size,3,none⟩=some (ab r)/\U.cell? ⟨A.g,0,none⟩=some (aq A.tg))/\aj (I.In A.tg A.tb) w1 U):=λU hU =>
  ⟨⟨an hU (by rw [hw1];simp [go_sem]) hns,an hU (by rw [hw1];simp [go_sem]) hns,an hU (by rw [hw1];simp [go_sem]) hns,an hU (by rw [hw1];simp [go_sem]) hns,an hU (cell_later hB1 x0) hng⟩,hU⟩
 have HG:=ae (λ(U:World) (hU:Below w1.heap.size w1 U)=>hG U (aa hB1 hU))
 have OI:=ae hB1
 have HH:=ae h
 have uA:=h.small
 have hne:=h.cr.d3
 have hse:¬w.heap.size=A.eb:=by have:=h.Br;omega
 clear hG hB1 h hni hng hns hl;go_enter Tryz.func364,Tryz.ntmps364
 go_upto_region 1 with fail
 rw [<-hw1];clear hw1;go_region_held3 (λU=>(U.cell? ⟨w.heap.size,0,none⟩=some (ab o)/\U.cell? ⟨w.heap.size,1,none⟩=some (ai (hi:Int))/\U.cell? ⟨w.heap.size,2,none⟩=some (ai (lo:Int))/\U.cell? ⟨w.heap.size,3,none⟩=some (ab r)/\U.cell? ⟨A.g,0,none⟩=some (aq A.tg))/\aj (I.In A.tg A.tb) w1 U) (first|exact hC.out _ OH.out|exact hC.out _ (aj.of (Below.refl _ _).drew)) (first
  | (go_at_call 408;refine (HG.out _ (Below.refl _ _).drew).mono ?_;rintro e w2 ⟨rfl,ht2,hb2⟩;have OH:=ae ((aj.of (S:=I.In A.tg A.tb) (Below.refl w1.heap.size w1).drew).trans hb2);have OO:=ae ht2;clear hb2 ht2))
 obtain⟨⟨y0,y1,y2,y3,_⟩,_⟩:=hC.out _ OH.out
 have hM:=(HH.out.later OI.out).IY OH.out OO.out
 have z1:=hM.c1
 obtain⟨p0,p1,p2,p3⟩:=hM.at_ hn
 have hfr:=hM.fr
 have hfin:∀W:World,W=(pd w2 A.eb (n*4) ((o,hi,lo),r)).drew->Cm W A kn mo T' (X.set n ((o,hi,lo),r)) l/\aj A.Wr w W:=by
  rintro W rfl
  refine⟨(hM.El hn _).later (Below.refl _ _).drew,(qG ((aj.of OI.out).trans (OH.out.mono ?_)) (.inr (.inr (.inl rfl))) _ _).call (Below.refl _ _).drew⟩
  rintro k (rfl|rfl)
  ·exact .inl rfl
  ·exact .inr (.inl rfl)
 have HF:=ae hfin
 clear hM hfin;go_wp2;go_region
 go_wp2;go_ret;exact⟨rfl,HF.out _ rfl⟩
theorem gh {A:Ad}(h:Cm w A kn mo T X l)(p:Int)(n:Nat)(hn:n<mo)(hl:(n:Int)∉aF l)(hp:p=-1\/p∈aF l) :
  Calls Tryz.prog 365 #[.pointer (some ⟨A.g,2,none⟩),ab p,ab (n:Int)] w λe w'=>e=.returned (.tuple #[])/\Cm w' A kn mo T X (l++[((n:Int),p)])/\aj A.Wr w w':=by
 have x2:=h.c2
 have HH:=ae h
 by_cases hq:p=-1
 ·subst hq
  have hc:=ae (ma h.wW (n:Int))
  have HL:Hid (rI mo l (n:Int)=l++[((n:Int),-1)]):=by unfold Hid rI;rw [if_pos ⟨by omega,hl⟩]
  clear h hl hp;go_enter Tryz.func365,Tryz.ntmps365
  go_wp2_with (first|(go_at_call 409;refine hc.out.mono ?_;rintro e w1 ⟨rfl,hk,hb⟩;have HK:=ae hk;have HB:=ae hb;clear hk hb))
  refine bodyPost_ret (results_none rfl _ _ _) rfl ⟨rfl,?_,HB.out.mono (λk e=>.inr (.inr (.inr e)))⟩
  rw [<-HL.out];exact HH.out.vP HB.out HK.out
 ·have hp':p∈aF l:=hp.resolve_left hq
  have hc:=ae (vm h.wW p (n:Int))
  have HL:Hid (kY mo l p (n:Int)=l++[((n:Int),p)]):=by unfold Hid kY;rw [if_pos ⟨hp',by omega,hl⟩]
  have hb1:(p==(-1:Int))=false:=by simp [hq]
  clear h hl hp hp';go_enter Tryz.func365,Tryz.ntmps365
  go_wp2_with (first|(go_at_call 410;refine hc.out.mono ?_;rintro e w1 ⟨rfl,hk,hb⟩;have HK:=ae hk;have HB:=ae hb;clear hk hb))
  go_end0
  refine⟨rfl,?_,HB.out.mono (λk e=>.inr (.inr (.inr e)))⟩
  rw [<-HL.out];exact HH.out.vP HB.out HK.out
theorem dz {A:Ad}(h:Cm w A kn mo T X l) :
  Calls Tryz.prog 363 #[aq A.g] w λe w'=>e=.returned (ab (low l:Int))/\w'=w:=by
 have hok:=ae h.wW.ok
 have uA:=h.small
 have hlen:=hok.out.len
 have hH:=λn:Int=>ae (fP h n)
 clear h;go_enter Tryz.func363,Tryz.ntmps363
 go_upto_region 2 with fail
 go_loopw [3] (λv w'=>∃(i:Nat),v=ab (i:Int)/\i<=l.length/\Hid (∀j:Nat,j<i->(j:Int)∈aF l)/\w=w') (λk _=>l.length - (intOf k).toNat)
 case atStart=>exact⟨0,rfl,Nat.zero_le _,λj hj=>by omega,rfl⟩
 case round =>
  obtain⟨i,rfl,hi,hx,rfl⟩:=hrel
  have hh:=(hH (i:Int)).out
  by_cases hin:(i:Int)∈aF l
  ·rw [decide_eq_true hin] at hh
   have hx1:Hid (∀j:Nat,j<i+1->(j:Int)∈aF l):=λj hj=>by
    by_cases e:j=i
    ·rw [e];exact hin
    ·exact hx.out j (by omega)
   have hlt:i+1<=l.length:=gI hx1.out
   clear hin;go_wp2_with (first|(go_at_call 311;refine hh.mono ?_;rintro e w1 ⟨rfl,rfl⟩))
   refine⟨⟨i+1,by go_num,by omega,hx1,trivial⟩,by simp [intOf];omega⟩
  ·rw [decide_eq_false hin] at hh
   have HE:Hid (low l=i):=sR hin hx.out
   clear hin;go_wp2_with (first|(go_at_call 311;refine hh.mono ?_;rintro e w1 ⟨rfl,rfl⟩))
   go_ret;exact⟨by rw [HE.out];rfl,rfl⟩
abbrev wP (c:Cp)(r p:Int):Value:=.agg #[ab c.1,ai (c.2.1:Int),ai (c.2.2:Int),ab r,ab p]
def It (w:World)(b:Nat)(c:Cp)(r p:Int):World :=
 ((((w.setCell ⟨b,0,none⟩ (ab c.1)).setCell ⟨b,1,none⟩ (ai (c.2.1:Int))).setCell ⟨b,2,none⟩ (ai (c.2.2:Int))).setCell ⟨b,3,none⟩ (ab r)).setCell ⟨b,4,none⟩ (ab p)
theorem pT (h:aj S a w)(hb:S b)(c:Cp)(r p:Int):aj S a (It w b c r p) :=
 ((((h.setCell (p:=⟨b,0,none⟩) hb _).setCell (p:=⟨b,1,none⟩) hb _).setCell (p:=⟨b,2,none⟩) hb _).setCell (p:=⟨b,3,none⟩) hb _).setCell (p:=⟨b,4,none⟩) hb _
theorem AH {A:Ad}(h:Cm w A kn mo T X l)(n p:Int)(hp:(n,p)∈l) :
  Calls Tryz.prog 241 #[aq A.g,ab n] w λe w'=>e=.returned (.tuple #[wP (tk X n).1 (rg X n) p,.bool true])/\Below w.heap.size w w':=by
 have hnl:=aL.2 ⟨p,hp⟩
 have hrn:=h.wW.ok.range n hnl
 obtain⟨k,rfl⟩:∃k:Nat,n=(k:Int):=⟨n.toNat,by omega⟩
 have hk:k<mo:=by omega
 obtain⟨w0,hw0⟩:∃w0,w0=w.alloc (Obj.cells #[ab 0,ai 0,ai 0,ab 0,ab 0] 138):=⟨_,rfl⟩
 have hB0:Below w.heap.size w w0:=by rw [hw0];exact ag _ _
 have h0:=h.later hB0
 have hh:=ae (fP h0 (k:Int))
 rw [decide_eq_true hnl] at hh;have x1:=h0.c1
 obtain⟨c,r,hxx⟩:∃c r,tk X (k:Int)=(c,r):=⟨_,_,rfl⟩
 have hE:=h0.at_ hk
 rw [hxx] at hE;have fa:rg X (k:Int)=r:=by unfold rg;rw [hxx]
 rw [fa,hxx];obtain⟨o,hi,lo⟩:=c
 obtain⟨e0,e1,e2,e3⟩:=hE
 simp only at e0 e1 e2 e3;obtain⟨w1,hw1⟩:∃w1,w1=w0.alloc (Obj.cells #[ab o,ai (hi:Int),ai (lo:Int),ab r] 440):=⟨_,rfl⟩
 have hB1:Below w0.heap.size w0 w1:=by rw [hw1];exact ag _ _
 have hP:=λ(W:World) (hW:Below w1.heap.size w1 W)=>qR (h0.later (aa hB1 hW)) (k:Int) p hp
 have hlt0:w.heap.size<w0.heap.size:=by rw [hw0];simp
 have hL0:aM w0 ⟨w.heap.size,0,none⟩ (ab 0)/\aM w0 ⟨w.heap.size,1,none⟩ (ai 0)/\aM w0 ⟨w.heap.size,2,none⟩ (ai 0)/\aM w0 ⟨w.heap.size,3,none⟩ (ab 0)/\aM w0 ⟨w.heap.size,4,none⟩ (ab 0):=by
  rw [hw0];exact⟨⟨by simp [go_sem],by simp [go_sem]⟩,⟨by simp [go_sem],by simp [go_sem]⟩,⟨by simp [go_sem],by simp [go_sem]⟩,⟨by simp [go_sem],by simp [go_sem]⟩,⟨by simp [go_sem],by simp [go_sem]⟩⟩
 have z0:w1.cell? ⟨w0.heap.size,0,none⟩=some (ab o):=by rw [hw1];simp [go_sem]
 have z1:w1.cell? ⟨w0.heap.size,1,none⟩=some (ai (hi:Int)):=by rw [hw1];simp [go_sem]
 have z2:w1.cell? ⟨w0.heap.size,2,none⟩=some (ai (lo:Int)):=by rw [hw1];simp [go_sem]
 have z3:w1.cell? ⟨w0.heap.size,3,none⟩=some (ab r):=by rw [hw1];simp [go_sem]
 have hL:Hid (∀U,Below w1.heap.size w1 U->aM U ⟨w.heap.size,0,none⟩ (ab 0)/\aM U ⟨w.heap.size,1,none⟩ (ai 0)/\aM U ⟨w.heap.size,2,none⟩ (ai 0)/\aM U ⟨w.heap.size,3,none⟩ (ab 0)/\aM U ⟨w.heap.size,4,none⟩ (ab 0)):=λU hU =>
  ⟨(hL0.1.later hB1).later hU,(hL0.2.1.later hB1).later hU,(hL0.2.2.1.later hB1).later hU,(hL0.2.2.2.1.later hB1).later hU,(hL0.2.2.2.2.later hB1).later hU⟩
 have hC:Hid (∀U:World,aj (·=w.heap.size) w1 U->(U.cell? ⟨w0.heap.size,0,none⟩=some (ab o)/\U.cell? ⟨w0.heap.size,1,none⟩=some (ai (hi:Int))/\U.cell? ⟨w0.heap.size,2,none⟩=some (ai (lo:Int))/\U.cell? ⟨w0.heap.size,3,none⟩=some (ab r))/\aj (·=w.heap.size) w1 U):=λU hU =>
  ⟨⟨an hU z0 (λe=>by simp at e;omega),an hU z1 (λe=>by simp at e;omega),an hU z2 (λe=>by simp at e;omega),an hU z3 (λe=>by simp at e;omega)⟩,hU⟩
 have HP:=ae hP
 have hslt:¬w.heap.size=w0.heap.size:=by omega
 have HB:Hid (∀W,aj (·=w.heap.size) w1 W->Below w.heap.size w W):=λW hW=>aj.below (aa hB0 hB1) hW (λk e=>by omega)
 have uA:=h.small
 clear h h0 hL0 hP hB0 hB1 hlt0 hxx fa hp hnl;go_enter Tryz.func241,Tryz.ntmps241
 go_upto_region 1 with fail
 rw [<-hw0];clear hw0;go_upto_region 4 with (first|(go_at_call 311;refine hh.out.mono ?_;rintro e w9 ⟨rfl,hw9⟩;obtain rfl:=hw9.symm;clear hw9))
 rw [<-hw1];clear hw1 e0 e1 e2 e3 x1;go_region_held3 (λU=>(U.cell? ⟨w0.heap.size,0,none⟩=some (ab o)/\U.cell? ⟨w0.heap.size,1,none⟩=some (ai (hi:Int))/\U.cell? ⟨w0.heap.size,2,none⟩=some (ai (lo:Int))/\U.cell? ⟨w0.heap.size,3,none⟩=some (ab r))/\aj (·=w.heap.size) w1 U) (first|exact hC.out _ PL.out|exact hC.out _ OH.out|exact hC.out _ (aj.of (Below.refl _ _).drew)) (first
  | (go_at_call 312;refine (HP.out _ (Below.refl _ _).drew).mono ?_;rintro e w2 ⟨rfl,hw2⟩;have hb2:Below w1.heap.size w1 w2:=(by rw [hw2];exact (Below.refl _ _).drew);have OH:=ae (aj.of (S:=(·=w.heap.size)) hb2);have PL:=ae (pT (S:=(·=w.heap.size)) OH.out (b:=w.heap.size) (by rfl) (o,hi,lo) r p);obtain⟨⟨r0,f0⟩,⟨r1,f1⟩,⟨r2,f2⟩,⟨r3,f3⟩,⟨r4,f4⟩⟩:=hL.out w2 hb2;clear hw2 hb2))
 go_wp2;exact bodyPost_ret (v:=.tuple #[wP (o,hi,lo) r p,.bool true]) (by simp [results,Tryz.results241,go_sem,r0,r1,r2,r3,r4]) rfl ⟨rfl,HB.out _ PL.out⟩
end Go.Proofs.YtmhinfbkmjdgfaaGreatDoor
