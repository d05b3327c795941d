import Derived.Test.YtffmodpgddecnaaGreatDoorZ02
set_option linter.unusedVariables false
set_option linter.unusedSimpArgs false
set_option maxRecDepth 100000
set_option maxHeartbeats 20000000
namespace Go.Proofs.YtffmodpgddecnaaGreatDoor.H.I
open Go.RowKit
def vh (w:World)(g gb kn mo:Nat)(li sp:Int)(N:Nat)(L:List Q)(at_:Nat)(pc:Cp)(pv:Int)(W:World):Prop :=
 ∃(to_ d:Nat) (q:Q),d<N/\to_=(hm kn N pc+d)%N/\L[to_]?=some q/\q.k≠1/\q.k≠2/\(∀e,e<d->∀p':Q,L[(hm kn N pc+e)%N]?=some p'->p'.k=1\/p'.k=2)/\Tm W g gb kn mo li sp N ((L.set at_ q).set to_ ⟨1,pc,pv⟩)/\ah (In g gb) w W
theorem tE {w:World}{g gb kn mo:Nat}{li sp:Int}{N:Nat}{L:List Q}(h:Tm w g gb kn mo li sp N L)(at_:Nat)(p:Q)(hp:L[at_]?=some p)(hk:p.k=3) :
  Calls Tryz.prog 406 #[.pointer (some ⟨g,0,none⟩),.int .i64 (at_:Int)] w λe w'=>e=.returned (.tuple #[])/\vh w g gb kn mo li sp N L at_ p.c p.v w':=by
 obtain⟨pk,pc,pv⟩:=p
 obtain rfl:pk=3:=hk
 have hat:at_<N:=by rw [<-h.len];exact cY hp
 have hP:=h.at_ _ _ hp
 obtain⟨c1,c2,c3⟩:=(⟨hP.c1,hP.c2,hP.c3⟩:_/\_/\_)
 have y0:=h.a0
 have hbig:=h.eI
 have HH:=ab h
 have T9:=ab hp
 have hok:=h.ok _ _ hp
 have hop:=λ(W:World) (hW:Tm W g gb kn mo li sp N L)=>k8 hW ⟨at_,_,hp,by simp,by simp⟩ pc.1 pc.2.1 pc.2.2 hok.1 hok.2
 clear h hP hp;go_enter Tryz.func406,Tryz.ntmps406
 go_upto_region 1 with (first|(go_at_call 398;refine (hop _ HH.out).mono ?_;rintro e w2 ⟨⟨to_,d,q,hd,hto,hq,hq1,hq2,hpath,rfl⟩,hb2⟩;have V1:=ab hto;have TD:=ab hpath;have HQ:=ab hq;have PB:=ab hb2;clear hto hpath hq hb2))
 have hT2:=HH.out.later PB.out
 have hto2:to_<N:=by rw [V1.out];exact Nat.mod_lt _ (by omega)
 have hP:=hT2.at_ _ _ T9.out
 have hQ:=hT2.at_ _ _ HQ.out
 have z0:=hT2.a0
 obtain⟨p0,p1,p2,p3,p4⟩:=hP
 obtain⟨q0,q1,q2,q3,q4⟩:=hQ
 have hfr:=hT2.fr
 have hne:=hT2.ne
 have PQ:=ab hT2
 clear hT2 y0 c1 c2 c3;have hfin:∀W:World,W=((iH (iH w2 gb (at_*5) q) gb (to_*5) ⟨3,pc,pv⟩).setCell ⟨gb,to_*5,none⟩ (.int .i64 1)).drew ->
   vh w g gb kn mo li sp N L at_ pc pv W:=by
  rintro W rfl
  have e1:(L.set at_ q)[to_]?=some q:=by
   rw [List.getElem?_set];split
   ·next he=>rw [if_pos (cY T9.out)]
   ·exact HQ.out
  have t1:=PQ.out.set T9.out q (PQ.out.ok _ _ HQ.out)
  have t2:=t1.set e1 ⟨3,pc,pv⟩ hok
  have e2:((L.set at_ q).set to_ (⟨3,pc,pv⟩:Q))[to_]?=some ⟨3,pc,pv⟩:=by
   rw [List.getElem?_set,if_pos rfl,if_pos (cY e1)]
  have t3:=t2.tF e2 1
  rw [List.set_set] at t3;exact⟨to_,d,q,hd,V1.out,HQ.out,hq1,hq2,TD.out,t3.later (Below.refl _ _).drew,((dC (dC (ah.of PB.out) (.inr rfl) _ _) (.inr rfl) _ _).setCell (p:=⟨gb,to_*5,none⟩) (.inr rfl) _).call (Below.refl _ _).drew⟩
 have HF:=ab hfin
 clear hfin;by_cases hat2:at_=to_
 ·subst hat2
  obtain rfl:q=⟨3,pc,pv⟩:=by have:=HQ.out;rw [T9.out] at this;exact (Option.some.inj this).symm
  clear q0 q1 q2 q3 q4;go_region
  go_wp2;go_end0
  exact⟨rfl,HF.out _ rfl⟩
 ·have hat3:to_≠at_:=λe=>hat2 e.symm
  go_region
  go_wp2;go_end0
  exact⟨rfl,HF.out _ rfl⟩
end Go.Proofs.YtffmodpgddecnaaGreatDoor.H.I
namespace Go.Proofs.YtffmodpgddecnaaGreatDoor.H
variable {V:Type}
theorem Dh {E:List (Cp×V)}(h:(E.map Prod.fst).Nodup){c:Cp}{u v:V}(hu:(c,u)∈E)(hv:(c,v)∈E):u=v:=by
 induction E with
 | nil=>cases hu
 | cons a r ih =>
  rw [List.map_cons,List.nodup_cons] at h;rcases List.mem_cons.1 hu with h1|h1
  ·rcases List.mem_cons.1 hv with h2|h2
   ·rw [<-h1] at h2;exact (Prod.mk.inj h2).2.symm
   ·exact absurd (List.mem_map.2 ⟨_,h2,by rw [<-h1]⟩) h.1
  ·rcases List.mem_cons.1 hv with h2|h2
   ·exact absurd (List.mem_map.2 ⟨_,h1,by rw [<-h2]⟩) h.1
   ·exact ih h.2 h1 h2
def relabel (p:Pl V):Pl V:=if p.k=1 then ⟨3,p.c,p.v⟩ else if p.k=2 then ⟨0,p.c,p.v⟩ else p
theorem iO {p:Pl V}(h:p.k=1):relabel p=⟨3,p.c,p.v⟩:=by unfold relabel;rw [if_pos h]
theorem iB {p:Pl V}(h:p.k=2):relabel p=⟨0,p.c,p.v⟩:=by unfold relabel;rw [if_neg (by omega),if_pos h]
theorem iy {p:Pl V}(h:p.k≠1)(h2:p.k≠2):relabel p=p:=by unfold relabel;rw [if_neg h,if_neg h2]
theorem ql {p:Pl V}(h:p.k=0\/p.k=1\/p.k=2):eN (relabel p)=eN p:=by
 rcases h with h|h|h
 ·rw [iy (by omega) (by omega)]
 ·rw [iO h];simp [eN,h]
 ·rw [iB h];simp [eN,h]
theorem oU {L:List (Pl V)}(h:∀(i:Nat) (p:Pl V),L[i]?=some p->p.k=0\/p.k=1\/p.k=2):dP (L.map relabel)=dP L:=by
 induction L with
 | nil=>rfl
 | cons a r ih =>
  have h0:=ql (h 0 a rfl)
  have h1:=ih (λi p hp=>h (i+1) p hp)
  unfold dP at h1 ⊢
  rw [List.map_cons,List.filterMap_cons,List.filterMap_cons,h0,h1]
def Up (i:Nat)(L M:List (Pl V)):Prop:=M.length=L.length/\∀j:Nat,M[j]?=if j<i then (L[j]?).map relabel else L[j]?
theorem Up.zero (L:List (Pl V)):Up 0 L L:=⟨rfl,λj=>by simp⟩
theorem Up.at_ {i:Nat}{L M:List (Pl V)}(h:Up i L M):M[i]?=L[i]?:=by rw [h.2 i,if_neg (Nat.lt_irrefl _)]
theorem Up.step {i:Nat}{L M:List (Pl V)}(h:Up i L M){p x:Pl V}(hp:L[i]?=some p)(hx:x=relabel p):Up (i+1) L (M.set i x):=by
 refine⟨by rw [List.length_set];exact h.1,λj=>?_⟩
 rw [List.getElem?_set];by_cases he:i=j
 ·subst he
  rw [if_pos rfl,if_pos (by rw [h.1];exact cY hp),if_pos (by omega),hp,hx]
  rfl
 ·rw [if_neg he,h.2 j]
  by_cases h1:j<i
  ·rw [if_pos h1,if_pos (by omega)]
  ·rw [if_neg h1,if_neg (by omega)]
theorem Up.same {i:Nat}{L M:List (Pl V)}(h:Up i L M){p:Pl V}(hp:L[i]?=some p)(hx:relabel p=p):Up (i+1) L M:=by
 refine⟨h.1,λj=>?_⟩
 rw [h.2 j];by_cases h1:j<i
 ·rw [if_pos h1,if_pos (by omega)]
 ·rw [if_neg h1]
  by_cases h2:j=i
  ·subst h2
   rw [if_pos (by omega),hp];simp [hx]
  ·rw [if_neg (by omega)]
theorem Up.GJ {i:Nat}{L M:List (Pl V)}(h:Up i L M)(hi:L.length<=i):M=L.map relabel:=by
 apply List.ext_getElem?
 intro j;rw [h.2 j,List.getElem?_map];by_cases h1:j<i
 ·rw [if_pos h1]
 ·rw [if_neg h1,List.getElem?_eq_none (by omega)]
  rfl
structure wb (h:Cp->Nat)(L M:List (Pl V))(i:Nat):Prop where
 kinds:∀(j:Nat) (p:Pl V),M[j]?=some p->p.k=0\/p.k=1\/p.k=3
 AE:Way h (·=1) M
 perm:(dP M).Perm (dP L)
 gone:∀(j:Nat) (p:Pl V),j<i->M[j]?=some p->p.k≠3
theorem wb.start (h:Cp->Nat){L:List (Pl V)}(hk:∀(i:Nat) (p:Pl V),L[i]?=some p->p.k=0\/p.k=1\/p.k=2):wb h L (L.map relabel) 0:=by
 have key:∀(j:Nat) (p:Pl V),(L.map relabel)[j]?=some p->p.k=0\/p.k=3:=by
  intro j p hp;rw [List.getElem?_map] at hp;cases hq:L[j]? with
  | none=>rw [hq] at hp;cases hp
  | some q =>
   rw [hq] at hp;simp only [Option.map_some,Option.some.injEq] at hp;subst hp;rcases hk j q hq with h1|h1|h1
   ·rw [iy (by omega) (by omega)];exact .inl h1
   ·rw [iO h1];exact .inr rfl
   ·rw [iB h1];exact .inl rfl
 refine⟨λj p hp=>?_,λj p hp h1=>?_,by rw [oU hk],λj p hj=>absurd hj (Nat.not_lt_zero _)⟩
 ·rcases key j p hp with h1|h1
  ·exact .inl h1
  ·exact .inr (.inr h1)
 ·rcases key j p hp with h2|h2<;>omega
theorem wb.next {h:Cp->Nat}{L M:List (Pl V)}{i:Nat}(m:wb h L M i){p:Pl V}(hp:M[i]?=some p)(hk:p.k≠3):wb h L M (i+1) :=
 ⟨m.kinds,m.AE,m.perm,λj q hj hq=>by
  rcases Nat.lt_or_ge j i with h1|h1
  ·exact m.gone j q h1 hq
  ·obtain rfl:j=i:=by omega
   rw [hp] at hq;cases hq
   exact hk⟩
theorem wb.settle {h:Cp->Nat}{L M:List (Pl V)}{i:Nat}(m:wb h L M i){p q:Pl V}(hp:M[i]?=some p)(hk:p.k=3){to_ d:Nat}(hd:d<M.length)(hto:to_=(h p.c+d)%M.length)(hq:M[to_]?=some q)(h1:q.k≠1)(h2:q.k≠2)
  (hpath:∀e,e<d->∀p':Pl V,M[(h p.c+e)%M.length]?=some p'->p'.k=1\/p'.k=2):wb h L ((M.set i q).set to_ ⟨1,p.c,p.v⟩) i/\CW ((M.set i q).set to_ ⟨1,p.c,p.v⟩)<CW M:=by
 have e1:(M.set i q)[to_]?=some q:=by
  rw [List.getElem?_set];split
  ·rw [if_pos (cY hp)]
  ·exact hq
 refine⟨⟨?_,?_,?_,?_⟩,?_⟩
 ·intro j x hx
  rcases aD hx with ⟨rfl,rfl⟩|⟨_,h3⟩
  ·exact .inr (.inl rfl)
  ·rcases aD h3 with ⟨rfl,rfl⟩|⟨_,h4⟩
   ·exact m.kinds _ _ hq
   ·exact m.kinds _ _ h4
 ·have w1:Way h (·=1) (M.set i q):=m.AE.set (λx hx hx1=>by rw [hp] at hx;cases hx;omega) (λhx=>absurd hx h1)
  refine w1.set (λ_ _ _=>rfl) (λ_=>?_)
  rw [List.length_set];refine⟨d,hd,hto,λe he x hx=>?_⟩
  rcases aD hx with ⟨h3,rfl⟩|⟨_,h3⟩
  ·have:=hpath e he p (by rw [h3];exact hp)
   omega
  ·rcases hpath e he x h3 with h4|h4
   ·exact h4
   ·have:=m.kinds _ _ h3
    omega
 ·refine List.Perm.trans (wy hp hq (x:=⟨1,p.c,p.v⟩) ?_) m.perm
  simp [eN,hk]
 ·intro j x hj hx
  rcases aD hx with ⟨rfl,rfl⟩|⟨_,h3⟩
  ·simp
  ·rcases aD h3 with ⟨rfl,rfl⟩|⟨_,h4⟩
   ·omega
   ·exact m.gone _ _ hj h4
 ·have a1:=uv (x:=q) hp
  have a2:=uv (x:=(⟨1,p.c,p.v⟩:Pl V)) e1
  simp only [hk,if_true] at a1;simp only [show ¬((1:Int)=3) by omega,if_false] at a2;omega
theorem wb.GJ {h:Cp->Nat}{L M:List (Pl V)}{i:Nat}(m:wb h L M i)(hi:M.length<=i):(∀(j:Nat) (p:Pl V),M[j]?=some p->p.k=0\/p.k=1)/\Way h (·≠0) M:=by
 have hk:∀(j:Nat) (p:Pl V),M[j]?=some p->p.k=0\/p.k=1:=λj p hp=>by
  have h1:=m.gone j p (by have:=cY hp;omega) hp
  rcases m.kinds j p hp with h2|h2|h2
  ·exact .inl h2
  ·exact .inr h2
  ·exact absurd h2 h1
 refine⟨hk,λj p hp h1=>?_⟩
 obtain⟨d,a,b,c⟩:=m.AE j p hp h1
 exact⟨d,a,b,λe he q hq=>by rw [c e he q hq];decide⟩
end Go.Proofs.YtffmodpgddecnaaGreatDoor.H
namespace Go.Proofs.YtffmodpgddecnaaGreatDoor.H.I
open Go.RowKit
def J5 (w:World)(g gb kn mo:Nat)(li:Int)(N:Nat)(L:List Q)(W:World):Prop :=
 ∃M:List Q,Tm W g gb kn mo li ((N:Int) - li) N M/\(∀(j:Nat) (p:Q),M[j]?=some p->p.k=0\/p.k=1)/\Way (hm kn N) (·≠0) M/\(dP M).Perm (dP L)/\ah (In g gb) w W
def DJ (w:World)(g gb kn mo:Nat)(li sp:Int)(N:Nat)(L:List Q)(t:Value)(W:World):Prop :=
 ∃(i:Nat) (M:List Q),i<=N/\t=.int .i64 (i:Int)/\Up i L M/\Tm W g gb kn mo li sp N M/\ah (In g gb) w W
def Ds (w:World)(g gb kn mo:Nat)(li sp:Int)(N:Nat)(L:List Q)(t:Value)(W:World):Prop :=
 ∃(i:Nat) (M:List Q),i<=N/\t=.int .i64 (i:Int)/\wb (hm kn N) L M i/\Tm W g gb kn mo li sp N M/\ah (In g gb) w W
def Gn (w:World)(g gb kn mo:Nat)(li sp:Int)(N:Nat)(L:List Q)(i k:Nat)(t:Value)(W:World):Prop :=
 ∃M:List Q,CW M=k/\wb (hm kn N) L M i/\Tm W g gb kn mo li sp N M/\ah (In g gb) w W
theorem s_ {w:World}{g gb kn mo:Nat}{li sp:Int}{N:Nat}{L:List Q}(h:Tm w g gb kn mo li sp N L)(hk:∀(i:Nat) (p:Q),L[i]?=some p->p.k=0\/p.k=1\/p.k=2)(hl0:0<=li)(hl1:li<=1024) :
  Calls Tryz.prog 397 #[.pointer (some ⟨g,0,none⟩)] w λe w'=>e=.returned (.tuple #[])/\J5 w g gb kn mo li N L w':=by
 have HH:=ab h
 have HK:=ab hk
 have hpos:=h.pos
 have hbig:=h.eI
 have hlen:=ab h.len
 have x0:=h.a0
 have hne:=h.ne
 clear h hk;go_enter Tryz.func397,Tryz.ntmps397
 go_upto_region 1 with fail
 go_loopw [9] (DJ w g gb kn mo li sp N L) (λt _=>N - (intOf t).toNat)
 case atStart=>exact⟨0,L,Nat.zero_le _,rfl,Up.zero _,HH.out,ah.refl _ _⟩
 case round =>
  obtain⟨i,M,hi,rfl,hU,hT,hB⟩:=hrel
  have HU:=ab hU
  have HT:=ab hT
  have HB:=ab hB
  clear hU hB;by_cases hlt:i<N
  ·obtain⟨p,hp⟩:=get_some (L:=M) (i:=i) (by rw [hT.len];exact hlt)
   have hpL:Hid (L[i]?=some p):=by unfold Hid;rw [<-HU.out.at_];exact hp
   have y0:=hT.a0
   have c0:=(hT.at_ _ _ hp).c0
   have f0:=hT.fr (i*5)
   have HP:=ab hp
   clear hp hT;have hc:p.k=1\/p.k=2\/(p.k≠1/\p.k≠2):=by omega
   rcases hc with hk1|hk2|⟨hk1,hk2⟩
   ·have hrl:=ab (iO hk1)
    have hst:=ab (HT.out.tF HP.out 3)
    rw [hk1] at c0;go_wp2;refine⟨⟨i+1,_,by omega,by go_num,HU.out.step hpL.out hrl.out.symm,hst.out,HB.out.setCell (p:=⟨gb,i*5,none⟩) (.inr rfl) _⟩,by simp [intOf];omega⟩
   ·have hrl:=ab (iB hk2)
    have hst:=ab (HT.out.tF HP.out 0)
    rw [hk2] at c0;go_wp2;refine⟨⟨i+1,_,by omega,by go_num,HU.out.step hpL.out hrl.out.symm,hst.out,HB.out.setCell (p:=⟨gb,i*5,none⟩) (.inr rfl) _⟩,by simp [intOf];omega⟩
   ·have hrl:=ab (iy hk1 hk2)
    have hn1:(p.k==1)=false:=by simpa using hk1
    have hn2:(p.k==2)=false:=by simpa using hk2
    go_wp2;refine⟨⟨i+1,M,by omega,by go_num,HU.out.same hpL.out hrl.out,HT.out,HB.out⟩,by simp [intOf];omega⟩
  ·obtain rfl:i=N:=by omega
   have hM:=HU.out.GJ (by rw [hlen.out];exact Nat.le_refl _)
   have y0:=hT.a0
   have HM:=ab hM
   clear hT hM;go_upto_region 10 with fail
   go_loopw [44] (Ds w g gb kn mo li sp i L) (λt _=>i - (intOf t).toNat)
   case atStart=>exact⟨0,M,Nat.zero_le _,rfl,by rw [HM.out];exact wb.start _ HK.out,HT.out,HB.out⟩
   case round =>
    obtain⟨j,M2,hj,rfl,hMi,hT2,hB2⟩:=hrel
    have Vh:=ab hMi
    have PQ:=ab hT2
    have PB:=ab hB2
    clear hMi hB2;by_cases hlt2:j<i
    ·clear hT2
     go_upto_region 12 with fail
     go_loopg [55] (CW M2) (Gn w g gb kn mo li sp i L j)
     case atStart=>exact⟨M2,rfl,Vh.out,PQ.out,PB.out⟩
     case round =>
      obtain⟨M3,hlo,hMi3,hT3,hB3⟩:=hrel
      obtain⟨p,hp⟩:=get_some (L:=M3) (i:=j) (by rw [hT3.len];exact hlt2)
      have z0:=hT3.a0
      have c0:=(hT3.at_ _ _ hp).c0
      have HP:=ab hp
      have Ub:=ab hlo
      have Td:=ab hMi3
      have PW:=ab hT3
      have PE:=ab hB3
      clear hp hlo hMi3 hT3 hB3;by_cases hk3:p.k=3
      ·have Qq:=ab hk3
       rw [hk3] at c0;clear hk3;go_wp2_with (first|(go_at_call 406;refine (tE PW.out j p HP.out Qq.out).mono ?_;rintro e w5 ⟨rfl,hS⟩;have HS:=ab hS;clear hS))
       obtain⟨to_,d,q,s1,s2,s3,s4,s5,s6,s7,s8⟩:=HS.out
       have hl3:=PW.out.len
       obtain⟨m1,m2⟩:=Td.out.settle HP.out Qq.out (by rw [hl3];exact s1) (by rw [hl3];exact s2) s3 s4 s5 (by rw [hl3];exact s6)
       go_roundg (CW ((M3.set j q).set to_ ⟨1,p.c,p.v⟩))
       case measure=>rw [<-Ub.out];exact m2
       case rel=>exact⟨_,rfl,m1,s7,PE.out.trans s8⟩
      ·have hn3:(p.k==3)=false:=by simpa using hk3
       have Sj:=ab hk3
       clear hk3;go_wp2;exact⟨⟨j+1,M3,by omega,by go_num,Td.out.next HP.out Sj.out,PW.out,PE.out⟩,by simp [intOf];omega⟩
    ·obtain rfl:j=i:=by omega
     have z0:=hT2.a0
     have z3:=hT2.a3.1
     have z4:=hT2.a4.1
     have z4':=hT2.a4.2
     have hsp:=ab (hT2.spare ((j:Int) - li))
     clear hT2;go_wp2;go_region
     go_wp2;go_end0
     have hl2:=PQ.out.len
     have he:=Vh.out.GJ (by rw [hl2];exact Nat.le_refl _)
     exact⟨rfl,M2,hsp.out.later (Below.refl _ _).drew,he.1,he.2,Vh.out.perm,(PB.out.setCell (p:=⟨g,4,none⟩) (.inl rfl) _).call (Below.refl _ _).drew⟩
structure Sl (w:World)(g gb kn mo N:Nat)(L:List Q)(sp:Nat)(E:List (Cp×Int)):Prop where
 tm:Tm w g gb kn mo (E.length:Int) (sp:Int) N L
 kinds:∀(i:Nat) (p:Q),L[i]?=some p->p.k=0\/p.k=1\/p.k=2
 AE:Way (hm kn N) (·≠0) L
 perm:(dP L).Perm E
 nodup:(E.map Prod.fst).Nodup
 free:rX L=sp
 most:E.length<=mo
 m1:1<=mo
 m2:2*mo<=N
def Tb (w:World)(g gb kn mo N:Nat)(E:List (Cp×Int)):Prop:=∃L sp,Sl w g gb kn mo N L sp E
theorem Sl.but {S:Nat->Prop}{w w':World}{g gb kn mo N:Nat}{L:List Q}{sp:Nat}{E:List (Cp×Int)}(hb:ah S w w')(h:Sl w g gb kn mo N L sp E)(h1:¬S g)(h2:¬S gb):Sl w' g gb kn mo N L sp E :=
 ⟨h.tm.but hb h1 h2,h.kinds,h.AE,h.perm,h.nodup,h.free,h.most,h.m1,h.m2⟩
theorem Sl.later {w w':World}{g gb kn mo N:Nat}{L:List Q}{sp:Nat}{E:List (Cp×Int)}(hb:Below w.heap.size w w')(h:Sl w g gb kn mo N L sp E):Sl w' g gb kn mo N L sp E:=h.but (S:=λ_=>False) (ah.of hb) (λh=>h) (λh=>h)
theorem Sl.alloc {w:World}{g gb kn mo N:Nat}{L:List Q}{sp:Nat}{E:List (Cp×Int)}(h:Sl w g gb kn mo N L sp E)(o:Obj):Sl (w.alloc o) g gb kn mo N L sp E:=h.later (ae _ _)
theorem Tb.but {S:Nat->Prop}{w w':World}{g gb kn mo N:Nat}{E:List (Cp×Int)}(hb:ah S w w')(h:Tb w g gb kn mo N E)(h1:¬S g)(h2:¬S gb):Tb w' g gb kn mo N E:=by
 obtain⟨L,sp,h⟩:=h;exact⟨L,sp,h.but hb h1 h2⟩
theorem Tb.later {w w':World}{g gb kn mo N:Nat}{E:List (Cp×Int)}(hb:Below w.heap.size w w')(h:Tb w g gb kn mo N E):Tb w' g gb kn mo N E:=by
 obtain⟨L,sp,h⟩:=h;exact⟨L,sp,h.later hb⟩
theorem Tb.lt {w:World}{g gb kn mo N:Nat}{E:List (Cp×Int)}(h:Tb w g gb kn mo N E):g<w.heap.size:=by obtain⟨L,sp,h⟩:=h;exact h.tm.lt
theorem Tb.po {w:World}{g gb kn mo N:Nat}{E:List (Cp×Int)}(h:Tb w g gb kn mo N E):gb<w.heap.size:=by obtain⟨L,sp,h⟩:=h;exact h.tm.po
theorem Tb.nodup {w:World}{g gb kn mo N:Nat}{E:List (Cp×Int)}(h:Tb w g gb kn mo N E):(E.map Prod.fst).Nodup:=by obtain⟨L,sp,h⟩:=h;exact h.nodup
theorem Tb.small {w:World}{g gb kn mo N:Nat}{E:List (Cp×Int)}(h:Tb w g gb kn mo N E):mo<=512:=by obtain⟨L,sp,h⟩:=h;have:=h.tm.eI;have:=h.m2;omega
theorem Sl.mem {w:World}{g gb kn mo N:Nat}{L:List Q}{sp:Nat}{E:List (Cp×Int)}(h:Sl w g gb kn mo N L sp E){i:Nat}{p:Q}(hp:L[i]?=some p)(hk:p.k=1):(p.c,p.v)∈E:=h.perm.mem_iff.1 (zX hp hk)
theorem Sl.there {w:World}{g gb kn mo N:Nat}{L:List Q}{sp:Nat}{E:List (Cp×Int)}(h:Sl w g gb kn mo N L sp E){c:Cp}(hc:c∈E.map Prod.fst):∃(i:Nat) (p:Q),L[i]?=some p/\p.k=1/\p.c=c:=by
 obtain⟨y,hy,rfl⟩:=List.mem_map.1 hc
 obtain⟨i,p,hp,hk,rfl⟩:=AH (h.perm.mem_iff.2 hy) h.kinds
 exact⟨i,p,hp,hk,rfl⟩
theorem iG {w:World}{g gb kn mo N:Nat}{L:List Q}{sp:Nat}{E:List (Cp×Int)}(h:Sl w g gb kn mo N L sp E)(o:Int)(hi lo:Nat)(h1:hi<aq)(h2:lo<aq)(hc:(o,hi,lo)∈E.map Prod.fst) :
  Calls Tryz.prog 395 #[.pointer (some ⟨g,0,none⟩),.agg #[.int .i64 o,.int .u64 (hi:Int),.int .u64 (lo:Int)]] w λe w'=>∃(i:Nat) (v:Int),L[i]?=some ⟨1,(o,hi,lo),v⟩/\e=.returned (.tuple #[.int .i64 (i:Int),.bool true])/\Below w.heap.size w w':=by
 refine (qy h.tm h.AE o hi lo h1 h2).mono ?_
 rintro e w' ⟨⟨i,p,hp,hk,hpc,he⟩|⟨hn,he⟩,hb⟩
 ·refine⟨i,p.v,?_,he,hb⟩
  rw [hp,<-hk,<-hpc]
 ·obtain⟨i,p,hp,hk,hpc⟩:=h.there hc
  exact absurd hpc (hn i p hp hk)
theorem ia {w:World}{g gb kn mo N:Nat}{L:List Q}{sp:Nat}{E:List (Cp×Int)}(h:Sl w g gb kn mo N L sp E)(o:Int)(hi lo:Nat)(h1:hi<aq)(h2:lo<aq)(hc:(o,hi,lo)∉E.map Prod.fst) :
  Calls Tryz.prog 395 #[.pointer (some ⟨g,0,none⟩),.agg #[.int .i64 o,.int .u64 (hi:Int),.int .u64 (lo:Int)]] w λe w'=>e=.returned (.tuple #[.int .i64 0,.bool false])/\Below w.heap.size w w':=by
 refine (qy h.tm h.AE o hi lo h1 h2).mono ?_
 rintro e w' ⟨⟨i,p,hp,hk,hpc,he⟩|⟨hn,he⟩,hb⟩
 ·exact absurd (List.mem_map.2 ⟨_,h.mem hp hk,hpc⟩) hc
 ·exact⟨he,hb⟩
theorem get_none {w:World}{g gb kn mo N:Nat}{E:List (Cp×Int)}(h:Tb w g gb kn mo N E)(o:Int)(hi lo:Nat)(h1:hi<aq)(h2:lo<aq)(hc:(o,hi,lo)∉E.map Prod.fst) :
  Calls Tryz.prog 388 #[.pointer (some ⟨g,0,none⟩),.agg #[.int .i64 o,.int .u64 (hi:Int),.int .u64 (lo:Int)]] w λe w'=>e=.returned (.tuple #[.int .i64 0,.bool false])/\Below w.heap.size w w':=by
 obtain⟨L,sp,h⟩:=h
 have HH:=ab h
 have HC:=ab hc
 clear h hc;go_enter Tryz.func388,Tryz.ntmps388
 go_wp2_with (first|(go_at_call 395;refine (ia (HH.out.alloc _) o hi lo h1 h2 HC.out).mono ?_;rintro e w2 ⟨rfl,hb2⟩;have PB:=ab (aa (ae _ _) hb2);clear hb2))
 exact bodyPost_ret (v:=.tuple #[.int .i64 0,.bool false]) (by simp [results,Tryz.results388,go_sem]) rfl ⟨rfl,PB.out⟩
theorem vQ {w:World}{g gb kn mo N:Nat}{E:List (Cp×Int)}(h:Tb w g gb kn mo N E)(o:Int)(hi lo:Nat)(h1:hi<aq)(h2:lo<aq)(hc:(o,hi,lo)∉E.map Prod.fst) :
  Calls Tryz.prog 390 #[.pointer (some ⟨g,0,none⟩),.agg #[.int .i64 o,.int .u64 (hi:Int),.int .u64 (lo:Int)]] w λe w'=>e=.returned (.bool false)/\Below w.heap.size w w':=by
 obtain⟨L,sp,h⟩:=h
 have HH:=ab h
 have HC:=ab hc
 clear h hc;go_enter Tryz.func390,Tryz.ntmps390
 go_wp2_with (first|(go_at_call 395;refine (ia (HH.out.alloc _) o hi lo h1 h2 HC.out).mono ?_;rintro e w2 ⟨rfl,hb2⟩;have PB:=ab (aa (ae _ _) hb2);clear hb2))
 go_ret;exact⟨rfl,PB.out⟩
theorem Sl.drop {w:World}{g gb kn mo N:Nat}{L:List Q}{sp:Nat}{E E':List (Cp×Int)}(h:Sl w g gb kn mo N L sp E){i:Nat}{c:Cp}{v:Int}(hp:L[i]?=some ⟨1,c,v⟩)(z:Int){n:Int}(hn:n=(E.length:Int) - 1)(hE:E.Perm ((c,v)::E')) :
  Sl ((iH w gb (i*5) ⟨2,(0,0,0),z⟩).setCell ⟨g,3,none⟩ (.int .i64 n)) g gb kn mo N (L.set i ⟨2,(0,0,0),z⟩) sp E':=by
 have hl:=hE.length_eq
 rw [List.length_cons] at hl;have hn':n=(E'.length:Int):=by omega
 have hnd:=(hE.map Prod.fst).nodup_iff.1 h.nodup
 rw [List.map_cons,List.nodup_cons] at hnd;have hm:=h.most
 refine⟨?_,?_,?_,?_,hnd.2,?_,by omega,h.m1,h.m2⟩
 ·have t:=(h.tm.set hp ⟨2,(0,0,0),z⟩ ⟨show (0:Nat)<aq by decide,show (0:Nat)<aq by decide⟩).live n
  rw [<-hn'];exact t
 ·intro j x hx
  rcases aD hx with ⟨rfl,rfl⟩|⟨_,h3⟩
  ·exact .inr (.inr rfl)
  ·exact h.kinds _ _ h3
 ·exact h.AE.set (λ_ _ _=>show (2:Int)≠0 by decide) (λhx=>absurd hx (show ¬(2:Int)=1 by decide))
 ·have hd:=Af (x:=(⟨2,(0,0,0),z⟩:Q)) (y:=(c,v)) hp (by simp [eN]) (by simp [eN])
  exact (hd.symm.trans (h.perm.trans hE)).cons_inv
 ·rw [yk hp (show (1:Int)≠0 by decide) (show (2:Int)≠0 by decide)]
  exact h.free
theorem pH {w:World}{g gb kn mo N:Nat}{E:List (Cp×Int)}(h:Tb w g gb kn mo N E)(o:Int)(hi lo:Nat)(h1:hi<aq)(h2:lo<aq)(v:Int)(hc:((o,hi,lo),v)∈E)(E':List (Cp×Int))(hE:E.Perm (((o,hi,lo),v)::E')) :
  Calls Tryz.prog 390 #[.pointer (some ⟨g,0,none⟩),.agg #[.int .i64 o,.int .u64 (hi:Int),.int .u64 (lo:Int)]] w λe w'=>e=.returned (.bool true)/\Tb w' g gb kn mo N E'/\ah (In g gb) w w':=by
 obtain⟨L,sp,h⟩:=h
 have HH:=ab h
 have HC:Hid ((o,hi,lo)∈E.map Prod.fst):=List.mem_map.2 ⟨_,hc,rfl⟩
 have hne:=h.tm.ne
 have hbig:=h.tm.eI
 have hm:=h.most
 have hm2:=h.m2
 clear h hc;go_enter Tryz.func390,Tryz.ntmps390
 go_upto_region 4 with (first|(go_at_call 395;refine (iG (HH.out.alloc _) o hi lo h1 h2 HC.out).mono ?_;rintro e w2 ⟨i,u,hi_,rfl,hb2⟩;have HI:=ab hi_;have PB:=ab (aa (ae _ _) hb2);clear hb2 hi_))
 have hS:=HH.out.later PB.out
 have hilt:i<N:=by rw [<-hS.tm.len];exact cY HI.out
 obtain⟨p0,p1,p2,p3,p4⟩:=hS.tm.at_ _ _ HI.out
 have z0:=hS.tm.a0
 have z3:=hS.tm.a3.1
 have z3':=hS.tm.a3.2
 have hfr:=hS.tm.fr
 have HS:=ab hS
 have hu:u=v:=by
  have m1:=HS.out.mem HI.out rfl
  rcases List.mem_cons.1 (hE.mem_iff.1 m1) with h3|h3
  ·exact (Prod.mk.inj h3).2
  ·have hnd:=(hE.map Prod.fst).nodup_iff.1 HS.out.nodup
   rw [List.map_cons,List.nodup_cons] at hnd;exact absurd (List.mem_map.2 ⟨_,h3,rfl⟩) hnd.1
 subst hu;have hfin:∀W:World,W=(iH w2 gb (i*5) ⟨2,(0,0,0),0⟩).setCell ⟨g,3,none⟩ (.int .i64 ((E.length:Int) - 1))->Tb W g gb kn mo N E'/\ah (In g gb) w W:=by
  rintro W rfl
  exact⟨⟨_,_,HS.out.drop HI.out 0 rfl hE⟩,(dC (ah.of PB.out) (.inr rfl) _ _).setCell (p:=⟨g,3,none⟩) (.inl rfl) _⟩
 have HF:=ab hfin
 clear hS hE hfin;go_wp2;go_ret;exact⟨rfl,HF.out _ rfl⟩
theorem Gx {w:World}{g gb kn mo N:Nat}{E:List (Cp×Int)}(h:Tb w g gb kn mo N E)(o:Int)(hi lo:Nat)(h1:hi<aq)(h2:lo<aq)(v:Int)(hc:((o,hi,lo),v)∈E) :
  Calls Tryz.prog 388 #[.pointer (some ⟨g,0,none⟩),.agg #[.int .i64 o,.int .u64 (hi:Int),.int .u64 (lo:Int)]] w λe w'=>e=.returned (.tuple #[.int .i64 v,.bool true])/\Below w.heap.size w w':=by
 obtain⟨L,sp,h⟩:=h
 have HH:=ab h
 have HM:=ab hc
 have HC:Hid ((o,hi,lo)∈E.map Prod.fst):=List.mem_map.2 ⟨_,hc,rfl⟩
 clear h hc;go_enter Tryz.func388,Tryz.ntmps388
 go_upto_region 5 with (first|(go_at_call 395;refine (iG (HH.out.alloc _) o hi lo h1 h2 HC.out).mono ?_;rintro e w2 ⟨i,u,hi_,rfl,hb2⟩;have HI:=ab hi_;have PB:=ab (aa (ae _ _) hb2);clear hb2 hi_))
 have hS:=HH.out.later PB.out
 have hilt:i<N:=by rw [<-hS.tm.len];exact cY HI.out
 have hbig:=hS.tm.eI
 have hP:=hS.tm.at_ _ _ HI.out
 have p4:=hP.c4
 have z0:=hS.tm.a0
 have hu:u=v:=by
  have m1:=hS.mem HI.out rfl
  exact Dh hS.nodup m1 HM.out
 subst hu;clear hS hP;go_wp2;exact bodyPost_ret (v:=.tuple #[.int .i64 u,.bool true]) (by simp [results,Tryz.results388,go_sem]) rfl ⟨rfl,PB.out⟩
structure wG (w w5:World)(g gb kn mo N:Nat)(E:List (Cp×Int))(M:List Q)(sq:Nat)(o:Int)(hi lo:Nat)(v:Int):Prop where
 tm:Tm w5 g gb kn mo (E.length:Int) (sq:Int) N M
 kinds:∀(i:Nat) (p:Q),M[i]?=some p->p.k=0\/p.k=1\/p.k=2
 AE:Way (hm kn N) (·≠0) M
 perm:(dP M).Perm E
 nodup:(E.map Prod.fst).Nodup
 free:rX M=sq
 pos:1<=sq
 m1:1<=mo
 m2:2*mo<=N
 but:ah (In g gb) w w5
 bx:Bx w5 w.heap.size o hi lo
theorem wG.some {w w5:World}{g gb kn mo N:Nat}{E:List (Cp×Int)}{M:List Q}{sq:Nat}{o:Int}{hi lo:Nat}{v:Int}(h:wG w w5 g gb kn mo N E M sq o hi lo v):∃(i:Nat) (p:Q),M[i]?=some p/\p.k≠1/\p.k≠2:=by
 obtain⟨i,p,hp,hk⟩:=Bf (L:=M) (by rw [h.free];exact h.pos)
 exact⟨i,p,hp,by omega,by omega⟩
theorem wG.put {w w5 w6:World}{g gb kn mo N:Nat}{E:List (Cp×Int)}{M:List Q}{sq:Nat}{o:Int}{hi lo:Nat}{v:Int}(h:wG w w5 g gb kn mo N E M sq o hi lo v)(hb:Below w5.heap.size w5 w6)(h1:hi<aq)(h2:lo<aq)(hc:(o,hi,lo)∉E.map Prod.fst)(hl:E.length<mo){to_ d:Nat}{q:Q}(hd:d<N)(hto:to_=(hm kn N (o,hi,lo)+d)%N)(hq:M[to_]?=Option.some q)(hq1:q.k≠1)(hq2:q.k≠2)
  (hpath:∀e,e<d->∀p:Q,M[(hm kn N (o,hi,lo)+e)%N]?=Option.some p->p.k=1\/p.k=2) :
  Tb (((iH w6 gb (to_*5) ⟨1,(o,hi,lo),v⟩).setCell ⟨g,3,none⟩ (.int .i64 ((E.length:Int)+1))).setCell ⟨g,4,none⟩ (.int .i64 ((sq:Int) - 1))) g gb kn mo N (E++[((o,hi,lo),v)]):=by
 have hk0:q.k=0:=by
  rcases h.kinds _ _ hq with h3|h3|h3<;>omega
 have hlen:=h.tm.len
 refine⟨M.set to_ ⟨1,(o,hi,lo),v⟩,sq - 1,?_,?_,?_,?_,?_,?_,?_,h.m1,h.m2⟩
 ·have t:=(((h.tm.later hb).set hq ⟨1,(o,hi,lo),v⟩ ⟨h1,h2⟩).live ((E.length:Int)+1)).spare ((sq:Int) - 1)
  have e1:((E++[((o,hi,lo),v)]).length:Int)=(E.length:Int)+1:=by simp
  have e2:((sq - 1:Nat):Int)=(sq:Int) - 1:=by have:=h.pos;omega
  rw [e1,e2];exact t
 ·intro j x hx
  rcases aD hx with ⟨rfl,rfl⟩|⟨_,h3⟩
  ·exact .inr (.inl rfl)
  ·exact h.kinds _ _ h3
 ·refine h.AE.set (λ_ _ _=>show (1:Int)≠0 by decide) (λ_=>?_)
  rw [hlen];refine⟨d,hd,hto,λe he p hp=>?_⟩
  rcases hpath e he p hp with h3|h3<;>(show p.k≠0)<;>omega
 ·have ha:=qN (x:=(⟨1,(o,hi,lo),v⟩:Q)) (y:=((o,hi,lo),v)) hq (by simp [eN,hk0]) (by simp [eN])
  exact (ha.trans (h.perm.cons _)).trans (List.perm_append_comm (l₁:=[((o,hi,lo),v)]))
 ·rw [List.map_append,List.nodup_append]
  refine⟨h.nodup,by simp,?_⟩
  intro a ha b hb2 heq;simp only [List.map_cons,List.map_nil,List.mem_singleton] at hb2;subst hb2 heq
  exact hc ha
 ·have hf:=Ec (x:=(⟨1,(o,hi,lo),v⟩:Q)) hq hk0 (show (1:Int)≠0 by decide)
  have hf2:=h.free
  omega
 ·rw [List.length_append]
  simp
  omega
theorem wH {w:World}{g gb kn mo N:Nat}{E:List (Cp×Int)}(h:Tb w g gb kn mo N E)(o:Int)(hi lo:Nat)(v:Int)(h1:hi<aq)(h2:lo<aq)(hc:(o,hi,lo)∈E.map Prod.fst) :
  Calls Tryz.prog 377 #[.pointer (some ⟨g,0,none⟩),.agg #[.int .i64 o,.int .u64 (hi:Int),.int .u64 (lo:Int)],.int .i64 v] w λe w'=>e=.returned (.int .i64 19)/\Below w.heap.size w w':=by
 obtain⟨L,sp,h⟩:=h
 have HH:=ab h
 have HC:=ab hc
 clear h hc;go_enter Tryz.func377,Tryz.ntmps377
 go_wp2_with (first|(go_at_call 395;refine (iG (HH.out.later (ae _ _)) o hi lo h1 h2 HC.out).mono ?_;rintro e w2 ⟨i,u,hi_,rfl,hb2⟩;have PB:=ab (aa (ae _ _) hb2);clear hb2 hi_))
 go_ret;exact⟨rfl,PB.out⟩
theorem BG {w:World}{g gb kn mo N:Nat}{E:List (Cp×Int)}(h:Tb w g gb kn mo N E)(o:Int)(hi lo:Nat)(v:Int)(h1:hi<aq)(h2:lo<aq)(hc:(o,hi,lo)∉E.map Prod.fst)(hlt:E.length=mo) :
  Calls Tryz.prog 377 #[.pointer (some ⟨g,0,none⟩),.agg #[.int .i64 o,.int .u64 (hi:Int),.int .u64 (lo:Int)],.int .i64 v] w λe w'=>e=.returned (.int .i64 10)/\Below w.heap.size w w':=by
 obtain⟨L,sp,h⟩:=h
 have HH:=ab h
 have HC:=ab hc
 clear h hc;have HL:=ab hlt
 clear hlt;go_enter Tryz.func377,Tryz.ntmps377
 go_upto_region 4 with (first|(go_at_call 395;refine (ia (HH.out.later (ae _ _)) o hi lo h1 h2 HC.out).mono ?_;rintro e w2 ⟨rfl,hb2⟩;have PB:=ab (aa (ae _ _) hb2);clear hb2))
 have hS:=HH.out.later PB.out
 have z3:=hS.tm.a3.1
 rw [HL.out] at z3;have z2:=hS.tm.a2
 clear hS;go_quiet (fail)
 go_wp2;go_ret;exact⟨rfl,below_drewN PB.out _⟩
theorem sY {w:World}{g gb kn mo N:Nat}{E:List (Cp×Int)}(h:Tb w g gb kn mo N E)(o:Int)(hi lo:Nat)(v:Int)(h1:hi<aq)(h2:lo<aq)(hc:(o,hi,lo)∉E.map Prod.fst)(hlt:E.length<mo) :
  Calls Tryz.prog 377 #[.pointer (some ⟨g,0,none⟩),.agg #[.int .i64 o,.int .u64 (hi:Int),.int .u64 (lo:Int)],.int .i64 v] w λe w'=>e=.returned (.int .i64 0)/\Tb w' g gb kn mo N (E++[((o,hi,lo),v)])/\ah (In g gb) w w':=by
 obtain⟨L,sp,h⟩:=h
 have HH:=ab h
 have HC:=ab hc
 have hpos:=h.tm.pos
 have hbig:=h.tm.eI
 have hm2:=h.m2
 have hne:¬g=gb:=h.tm.ne
 have hl1:=h.tm.lt
 have hl2:=h.tm.po
 have hsp:sp<=1024:=by have:=ur L;rw [h.free,h.tm.len] at this;omega
 have hnb:¬w.heap.size=gb:=by omega
 have hnin:Hid (¬In g gb w.heap.size):=by rintro (h3|h3)<;>omega
 clear h hc;go_enter Tryz.func377,Tryz.ntmps377
 go_upto_region 4 with (first|(go_at_call 395;refine (ia (HH.out.later (ae _ _)) o hi lo h1 h2 HC.out).mono ?_;rintro e w2 ⟨rfl,hb2⟩;have PB:=ab (aa (ae _ _) hb2);have BX:=ab ((Bx.new w o hi lo).later hb2);clear hb2))
 have hS:=HH.out.later PB.out
 have z3:=hS.tm.a3.1
 have z2:=hS.tm.a2
 have PV:=ab hS
 clear hS;go_quiet (fail)
 by_cases hrare:4*sp<N
 ·have hd:decide (4*sp<N)=true:=decide_eq_true hrare
  clear hrare;go_upto_region 8 with (first|(go_at_call 397;refine (s_ PW.out PV.out.kinds (by omega) (by omega)).mono ?_;rintro e w4 ⟨rfl,hA⟩;have HA:=ab hA;clear hA)|(go_at_call 396;refine (qO (PV.out.tm.later (below_drewN (Below.refl _ _) _)) hsp).mono ?_;rintro e w3 ⟨rfl,hb3⟩;rw [hd];have PE:=ab (aa (below_drewN (Below.refl _ _) _) hb3);have PW:=ab (PV.out.tm.later PE.out);clear hb3))
  obtain⟨w5,sq,M,hw5,RP⟩:∃(w5:World) (sq:Nat) (M:List Q),w5=w4/\Hid (wG w w5 g gb kn mo N E M sq o hi lo v):=by
   obtain⟨M,hT4,hk4,hw4,hp4,hb4⟩:=HA.out
   have hl4:=(hp4.trans PV.out.perm).length_eq
   have hfa:=Eb hk4
   rw [hT4.len,hl4] at hfa;refine⟨w4,N - E.length,M,rfl,⟨?_,λi p hp=>?_,hw4,hp4.trans PV.out.perm,PV.out.nodup,by omega,by omega,PV.out.m1,hm2,(ah.of (aa PB.out PE.out)).trans hb4,(BX.out.later PE.out).but hb4 hnin.out⟩⟩
   ·have e1:((N - E.length:Nat):Int)=(N:Int) - (E.length:Int):=by omega
    rw [e1];exact hT4
   ·rcases hk4 i p hp with h3|h3
    ·exact .inl h3
    ·exact .inr (.inl h3)
  rw [<-hw5];clear hw5 HA z3 z2;have hfin:∀(W w6:World) (to_ d:Nat) (q:Q),Below w5.heap.size w5 w6->d<N->to_=(hm kn N (o,hi,lo)+d)%N->M[to_]?=some q->q.k≠1->q.k≠2->(∀e,e<d->∀p:Q,M[(hm kn N (o,hi,lo)+e)%N]?=some p->p.k=1\/p.k=2) ->
    W=((iH w6 gb (to_*5) ⟨1,(o,hi,lo),v⟩).setCell ⟨g,3,none⟩ (.int .i64 ((E.length:Int)+1))).setCell ⟨g,4,none⟩ (.int .i64 ((sq:Int) - 1))->Tb W g gb kn mo N (E++[((o,hi,lo),v)])/\ah (In g gb) w W:=by
   rintro W w6 to_ d q hb hd hto hq hq1 hq2 hpath rfl
   exact⟨RP.out.put hb h1 h2 HC.out hlt hd hto hq hq1 hq2 hpath,((dC (RP.out.but.call hb) (.inr rfl) _ _).setCell (p:=⟨g,3,none⟩) (.inl rfl) _).setCell (p:=⟨g,4,none⟩) (.inl rfl) _⟩
  have HF:=ab hfin
  clear hfin;have hex:=ab RP.out.some
  have hsq1:1<=sq:=RP.out.pos
  have hsq2:sq<=1024:=by have h3:=ur M;rw [RP.out.free,RP.out.tm.len] at h3;omega
  have hC:Hid (∀U:World,ah (·=gb) w5 U->(U.cell? ⟨g,0,none⟩=some (.slice (some ⟨gb,0,none⟩) N N)/\U.cell? ⟨w.heap.size,0,none⟩=some (.int .i64 o)/\U.cell? ⟨w.heap.size,1,none⟩=some (.int .u64 (hi:Int))/\U.cell? ⟨w.heap.size,2,none⟩=some (.int .u64 (lo:Int)))/\ah (·=gb) w5 U):=λU hU=>⟨⟨ag hU RP.out.tm.a0 hne,ag hU RP.out.bx.c0 hnb,ag hU RP.out.bx.c1 hnb,ag hU RP.out.bx.c2 hnb⟩,hU⟩
  obtain⟨z0,b0,b1,b2⟩:=(hC.out w5 (ah.refl _ _)).1
  go_region_held3 (λU=>(U.cell? ⟨g,0,none⟩=some (.slice (some ⟨gb,0,none⟩) N N)/\U.cell? ⟨w.heap.size,0,none⟩=some (.int .i64 o)/\U.cell? ⟨w.heap.size,1,none⟩=some (.int .u64 (hi:Int))/\U.cell? ⟨w.heap.size,2,none⟩=some (.int .u64 (lo:Int)))/\ah (·=gb) w5 U) (first|exact hC.out _ hst.out|exact hC.out _ hb6.out|exact hC.out _ (ah.of (Below.refl _ _).drew)) (first|(go_at_call 398;refine (k8 (RP.out.tm.later (Below.refl _ _).drew) hex.out o hi lo h1 h2).mono ?_;rintro e w6 ⟨⟨to_,d,q,s1,s2,s3,s4,s5,s6,rfl⟩,hb6'⟩;have HS:=ab (And.intro s1 (And.intro s2 (And.intro s3 (And.intro s4 (And.intro s5 s6)))));have hb7:=ab (aa (Below.refl w5.heap.size w5).drew hb6');have hb6:=ab (ah.of (S:=(·=gb)) hb7.out);have hst:=ab (dC (S:=(·=gb)) hb6.out (b:=gb) (by rfl) (to_*5) ⟨1,(o,hi,lo),v⟩);have hto2:to_<N:=(by rw [s2];exact Nat.mod_lt _ hpos);have T6:=ab (RP.out.tm.later hb7.out);clear s1 s2 s4 s5 s6 hb6';obtain⟨p0,p1,p2,p3,p4⟩:=T6.out.at_ _ _ s3;have y3:=T6.out.a3.1;have y3':=T6.out.a3.2;have y4:=T6.out.a4.1;have y4':=T6.out.a4.2;have hfr:=T6.out.fr;clear s3))
  go_wp2;go_ret;obtain⟨s1,s2,s3,s4,s5,s6⟩:=HS.out
  exact⟨rfl,HF.out _ w6 to_ d q hb7.out s1 s2 s3 s4 s5 s6 rfl⟩
 ·have hd:decide (4*sp<N)=false:=decide_eq_false hrare
  have hsp1:1<=sp:=by omega
  clear hrare;go_upto_region 8 with (first|(go_at_call 396;refine (qO (PV.out.tm.later (below_drewN (Below.refl _ _) _)) hsp).mono ?_;rintro e w3 ⟨rfl,hb3⟩;rw [hd];have PE:=ab (aa (below_drewN (Below.refl _ _) _) hb3);clear hb3))
  obtain⟨w5,sq,M,hw5,RP⟩:∃(w5:World) (sq:Nat) (M:List Q),w5=w3/\Hid (wG w w5 g gb kn mo N E M sq o hi lo v) :=
   ⟨w3,sp,L,rfl,⟨PV.out.tm.later PE.out,PV.out.kinds,PV.out.AE,PV.out.perm,PV.out.nodup,PV.out.free,hsp1,PV.out.m1,hm2,ah.of (aa PB.out PE.out),BX.out.later PE.out⟩⟩
  rw [<-hw5];clear hw5 z3 z2;have hfin:∀(W w6:World) (to_ d:Nat) (q:Q),Below w5.heap.size w5 w6->d<N->to_=(hm kn N (o,hi,lo)+d)%N->M[to_]?=some q->q.k≠1->q.k≠2->(∀e,e<d->∀p:Q,M[(hm kn N (o,hi,lo)+e)%N]?=some p->p.k=1\/p.k=2) ->
    W=((iH w6 gb (to_*5) ⟨1,(o,hi,lo),v⟩).setCell ⟨g,3,none⟩ (.int .i64 ((E.length:Int)+1))).setCell ⟨g,4,none⟩ (.int .i64 ((sq:Int) - 1))->Tb W g gb kn mo N (E++[((o,hi,lo),v)])/\ah (In g gb) w W:=by
   rintro W w6 to_ d q hb hd hto hq hq1 hq2 hpath rfl
   exact⟨RP.out.put hb h1 h2 HC.out hlt hd hto hq hq1 hq2 hpath,((dC (RP.out.but.call hb) (.inr rfl) _ _).setCell (p:=⟨g,3,none⟩) (.inl rfl) _).setCell (p:=⟨g,4,none⟩) (.inl rfl) _⟩
  have HF:=ab hfin
  clear hfin;have hex:=ab RP.out.some
  have hsq1:1<=sq:=RP.out.pos
  have hsq2:sq<=1024:=by have h3:=ur M;rw [RP.out.free,RP.out.tm.len] at h3;omega
  have hC:Hid (∀U:World,ah (·=gb) w5 U->(U.cell? ⟨g,0,none⟩=some (.slice (some ⟨gb,0,none⟩) N N)/\U.cell? ⟨w.heap.size,0,none⟩=some (.int .i64 o)/\U.cell? ⟨w.heap.size,1,none⟩=some (.int .u64 (hi:Int))/\U.cell? ⟨w.heap.size,2,none⟩=some (.int .u64 (lo:Int)))/\ah (·=gb) w5 U):=λU hU=>⟨⟨ag hU RP.out.tm.a0 hne,ag hU RP.out.bx.c0 hnb,ag hU RP.out.bx.c1 hnb,ag hU RP.out.bx.c2 hnb⟩,hU⟩
  obtain⟨z0,b0,b1,b2⟩:=(hC.out w5 (ah.refl _ _)).1
  go_region_held3 (λU=>(U.cell? ⟨g,0,none⟩=some (.slice (some ⟨gb,0,none⟩) N N)/\U.cell? ⟨w.heap.size,0,none⟩=some (.int .i64 o)/\U.cell? ⟨w.heap.size,1,none⟩=some (.int .u64 (hi:Int))/\U.cell? ⟨w.heap.size,2,none⟩=some (.int .u64 (lo:Int)))/\ah (·=gb) w5 U) (first|exact hC.out _ hst.out|exact hC.out _ hb6.out|exact hC.out _ (ah.of (Below.refl _ _).drew)) (first|(go_at_call 398;refine (k8 (RP.out.tm.later (Below.refl _ _).drew) hex.out o hi lo h1 h2).mono ?_;rintro e w6 ⟨⟨to_,d,q,s1,s2,s3,s4,s5,s6,rfl⟩,hb6'⟩;have HS:=ab (And.intro s1 (And.intro s2 (And.intro s3 (And.intro s4 (And.intro s5 s6)))));have hb7:=ab (aa (Below.refl w5.heap.size w5).drew hb6');have hb6:=ab (ah.of (S:=(·=gb)) hb7.out);have hst:=ab (dC (S:=(·=gb)) hb6.out (b:=gb) (by rfl) (to_*5) ⟨1,(o,hi,lo),v⟩);have hto2:to_<N:=(by rw [s2];exact Nat.mod_lt _ hpos);have T6:=ab (RP.out.tm.later hb7.out);clear s1 s2 s4 s5 s6 hb6';obtain⟨p0,p1,p2,p3,p4⟩:=T6.out.at_ _ _ s3;have y3:=T6.out.a3.1;have y3':=T6.out.a3.2;have y4:=T6.out.a4.1;have y4':=T6.out.a4.2;have hfr:=T6.out.fr;clear s3))
  go_wp2;go_ret;obtain⟨s1,s2,s3,s4,s5,s6⟩:=HS.out
  exact⟨rfl,HF.out _ w6 to_ d q hb7.out s1 s2 s3 s4 s5 s6 rfl⟩
def Gf (w:World)(mo:Nat)(t:Value)(w':World):Prop:=∃n:Nat,2<=n/\n<4*mo/\t=.int .i64 (n:Int)/\w'=w
theorem uq (w:World)(mo:Nat)(h1:1<=mo)(h2:mo<=256) :
  Calls Tryz.prog 242 #[.int .i64 (mo:Int)] w λe w'=>(∃N:Nat,2*mo<=N/\N<=1024/\e=.returned (.int .i64 (N:Int)))/\w'=w:=by
 go_enter Tryz.func242,Tryz.ntmps242
 go_wp2;go_loopw [3] (Gf w mo) (λt _=>1024 - (intOf t).toNat)
 case atStart=>exact⟨2,by omega,by omega,rfl,rfl⟩
 case round =>
  obtain⟨n,hn,hn2,rfl,rfl⟩:=hrel
  by_cases hlt:n<2*mo
  ·have hlt2:(n:Int)<2*(mo:Int):=by omega
   go_wp2;exact⟨⟨n*2,by omega,by omega,by go_num,rfl⟩,by simp [intOf];omega⟩
  ·have hlt2:¬(n:Int)<2*(mo:Int):=by omega
   go_wp2;go_ret;exact⟨⟨n,by omega,by omega,rfl⟩,rfl⟩
theorem Ej:(Tryz.prog.info? 459).map (λi=>(i.zero,i.size,i.bytes))=some (some (.agg #[.int .i64 0,.int .i64 0,.int .u64 0,.int .u64 0,.int .i64 0]),5,40):=by kernel_rfl
def pz:Q:=⟨0,(0,0,0),0⟩
theorem kN {n i:Nat}{p:Q}(h:(List.replicate n pz)[i]?=some p):i<n/\p=pz:=by
 rw [List.getElem?_replicate] at h;split at h
 ·next h1=>exact⟨h1,(Option.some.inj h).symm⟩
 ·cases h
theorem ey (w:World)(n:Nat)(hn:n<=1024) :
  ∃w',(Instr.makeSlice 312 (.int .i64 (n:Int)) (.int .i64 (n:Int))).run Tryz.prog w=.ok (.slice (some ⟨w.heap.size,0,none⟩) n n) w'/\(∀(i:Nat) (p:Q),(List.replicate n pz)[i]?=some p->Pa w' w.heap.size (i*5) p)/\(∀j,w'.frozen? ⟨w.heap.size,j,none⟩=false)/\w.heap.size<w'.heap.size/\Below w.heap.size w w':=by
 obtain⟨i,hi,hz0,hz1,hz2⟩:=info_parts Ej
 obtain⟨w',hr,ho,hg⟩:=run_make_full (P:=Tryz.prog) w w.heap.size 312 459 i _ 5 Tryz.underlying312 hi hz0 hz1 .i64 .i64 n (by rw [hz2];omega) (by unfold maxLen;omega) (Nat.le_refl _)
 have hcell:∀j c u,j<n->c<5->(#[.int .i64 0,.int .i64 0,.int .u64 0,.int .u64 0,.int .i64 0]:Array Value)[c]! = u->w'.cell? ⟨w.heap.size,j*5+c,none⟩=some u:=by
  intro j c u hj hc hu;have hm:(j*5+c)%5=c:=by omega
  have:=ho.cells (g:=w.heap.size) rfl (j*5+c) u (by
   rw [Array.getElem?_toList];simp only [madeCells,Value.cells,Array.getElem?_map,Array.getElem?_range];rw [if_pos (by omega)];simp only [Option.map_some,Option.some.injEq,Array.size,List.length,hm];exact hu)
  rw [aQ] at this;exact this
 refine⟨w',hr,λj p hp=>?_,λj=>?_,?_,(Below.refl _ _).grown hg (Nat.le_refl _) (λk hk=>by cases hk)⟩
 ·obtain⟨hj,rfl⟩:=kN hp
  exact⟨hcell j 0 _ hj (by omega) rfl,hcell j 1 _ hj (by omega) rfl,hcell j 2 _ hj (by omega) rfl,hcell j 3 _ hj (by omega) rfl,hcell j 4 _ hj (by omega) rfl⟩
 ·rcases ho.2 with ⟨h0,_⟩|⟨g,c,cur,hv,_,hh,hc,_⟩
  ·simp at h0
  ·simp only [Value.slice.injEq,Option.some.injEq,Addr.mk.injEq] at hv
   obtain⟨⟨rfl,_⟩,_,rfl⟩:=hv
   simp [World.frozen?,hh]
 ·exact (bu ho _ rfl).2
theorem Ek (n:Nat):rX (List.replicate n pz)=n:=by
 unfold rX;rw [List.countP_replicate];simp [pz]
theorem AZ (n:Nat):dP (List.replicate n pz)=[]:=by
 unfold dP;rw [List.filterMap_eq_nil_iff];intro a ha;rw [(List.mem_replicate.1 ha).2];simp [eN,pz]
def yP (w:World)(kn mo:Nat)(e:Ending)(w':World):Prop :=
 ∃g gb N:Nat,e=.returned (.tuple #[.pointer (some ⟨g,0,none⟩),.int .i64 0])/\Tb w' g gb kn mo N []/\w.heap.size<=g/\w.heap.size<=gb/\Below w.heap.size w w'
theorem bU (w:World)(mo kn:Nat)(h1:1<=mo)(h2:mo<=256)(h3:kn<=64) :
  Calls Tryz.prog 169 #[.int .i64 (mo:Int),.int .i64 (kn:Int)] w (yP w kn mo):=by
 have hk1:¬(mo:Int)<1:=by omega
 have hk2:¬(256:Int)<(mo:Int):=by omega
 have hk3:¬(kn:Int)<0:=by omega
 have hk4:¬(64:Int)<(kn:Int):=by omega
 go_enter Tryz.func169,Tryz.ntmps169
 go_upto_region 4 with (first|(go_at_call 242;refine (uq _ mo h1 h2).mono ?_;rintro e w1 ⟨⟨N,hN1,hN2,rfl⟩,rfl⟩))
 obtain⟨w2,hr,hA,hF,hsz,hb⟩:=ey w1 N hN2
 have HA:=ab hA
 have TT:=ab hF
 have HB:=ab hb
 clear hA hF hb;go_wp2;refine bodyPost_ret (v:=.tuple #[.pointer (some ⟨w2.heap.size,0,none⟩),.int .i64 0]) (by simp [results,Tryz.results169,go_sem]) rfl ⟨w2.heap.size,w1.heap.size,N,rfl,?_,HB.out.size,Nat.le_refl _,HB.out.alloc HB.out.size _⟩
 have hal:=λ(p:Addr) (v:Value) (hv:w2.cell? p=some v)=>cell_later (ae w2 (Obj.cells #[.slice (some ⟨w1.heap.size,0,none⟩) N N,.int .i64 (kn:Int),.int .i64 (mo:Int),.int .i64 0,.int .i64 (N:Int)] 314)) hv
 have hsh:ah (λ_=>False) w2 (w2.alloc (Obj.cells #[.slice (some ⟨w1.heap.size,0,none⟩) N N,.int .i64 (kn:Int),.int .i64 (mo:Int),.int .i64 0,.int .i64 (N:Int)] 314)):=ah.of (ae _ _)
 refine⟨List.replicate N pz,N,⟨by simp [go_sem],by simp [go_sem],by simp [go_sem],⟨by simp [go_sem],by simp [go_sem]⟩,⟨by simp [go_sem],by simp [go_sem]⟩,λj=>?_,λi p hp=>(HA.out i p hp).but hsh (λh=>h),by omega,by simp,by omega,hN2,λi p hp=>?_⟩,λi p hp=>?_,λi p hp hk=>?_,by rw [AZ],by simp,Ek N,Nat.zero_le _,h1,hN1⟩
 ·rw [World.frozen?_of_block (w:=w2) (hsh.block w1.heap.size hsz (λh=>h))]
  exact TT.out j
 ·rw [(kN hp).2]
  exact⟨show (0:Nat)<aq by decide,show (0:Nat)<aq by decide⟩
 ·rw [(kN hp).2]
  exact .inl rfl
 ·rw [(kN hp).2] at hk
  exact absurd hk (show ¬(0:Int)=1 by decide)
end Go.Proofs.YtffmodpgddecnaaGreatDoor.H.I
