import Derived.Test.YtfmhdimaijimlaaGreatDoorG03
set_option linter.unusedVariables false
set_option linter.unusedSimpArgs false
set_option maxRecDepth 1000000
set_option maxHeartbeats 8000000
namespace Go.Proofs.YtfmhdimaijimlaaGreatDoor.H.I
open Go.RowKit
def Settled (w:World)(g gb kn mo:Nat)(li sp:Int)(N:Nat)(L:List Q)(at_:Nat)(pc:Cp)(pv:Int)(W:World):Prop :=
 ∃(to_ d:Nat) (q:Q),d<N∧to_=(hm kn N pc+d)%N∧L[to_]?=some q∧q.k≠1∧q.k≠2∧(∀e,e<d→∀p':Q,L[(hm kn N pc+e)%N]?=some p'→p'.k=1∨p'.k=2)∧Tm W g gb kn mo li sp N ((L.set at_ q).set to_ ⟨1,pc,pv⟩)∧But (In g gb) w W
theorem settle_any {w:World}{g gb kn mo:Nat}{li sp:Int}{N:Nat}{L:List Q}(h:Tm w g gb kn mo li sp N L)(at_:Nat)(p:Q)(hp:L[at_]?=some p)(hk:p.k=3) :
  Calls Tryz.prog 281 #[.pointer (some ⟨g,0,none⟩),.int .i64 (at_:Int)] w fun e w'=>e=.returned (.tuple #[])∧Settled w g gb kn mo li sp N L at_ p.c p.v w':=by
 obtain⟨pk,pc,pv⟩:=p
 obtain rfl:pk=3:=hk
 have hat:at_<N:=by rw [←h.len];exact get_lt hp
 have hP:=h.at_ _ _ hp
 obtain⟨c1,c2,c3⟩:=(⟨hP.c1,hP.c2,hP.c3⟩:_∧_∧_)
 have y0:=h.a0
 have hbig:=h.big
 have HH:=hid h
 have HPl:=hid hp
 have hok:=h.ok _ _ hp
 have hop:=fun (W:World) (hW:Tm W g gb kn mo li sp N L)=>open_any hW ⟨at_,_,hp,by simp,by simp⟩ pc.1 pc.2.1 pc.2.2 hok.1 hok.2
 clear h hP hp
 go_enter Tryz.func281,Tryz.ntmps281
 go_upto_region 1 with (first|(go_at_call 273;refine (hop _ HH.out).mono ?_;rintro e w2 ⟨⟨to_,d,q,hd,hto,hq,hq1,hq2,hpath,rfl⟩,hb2⟩;have HTo:=hid hto;have HPath:=hid hpath;have HQ:=hid hq;have HB2:=hid hb2;clear hto hpath hq hb2))
 have hT2:=HH.out.later HB2.out
 have hto2:to_<N:=by rw [HTo.out];exact Nat.mod_lt _ (by omega)
 have hP:=hT2.at_ _ _ HPl.out
 have hQ:=hT2.at_ _ _ HQ.out
 have z0:=hT2.a0
 obtain⟨p0,p1,p2,p3,p4⟩:=hP
 obtain⟨q0,q1,q2,q3,q4⟩:=hQ
 have hfr:=hT2.fr
 have hne:=hT2.ne
 have HT2:=hid hT2
 clear hT2 y0 c1 c2 c3
 have hfin:∀W:World,W=((setP (setP w2 gb (at_*5) q) gb (to_*5) ⟨3,pc,pv⟩).setCell ⟨gb,to_*5,none⟩ (.int .i64 1)).drew →
   Settled w g gb kn mo li sp N L at_ pc pv W:=by
  rintro W rfl
  have e1:(L.set at_ q)[to_]?=some q:=by
   rw [List.getElem?_set]
   split
   ·next he=>rw [if_pos (get_lt HPl.out)]
   ·exact HQ.out
  have t1:=HT2.out.set HPl.out q (HT2.out.ok _ _ HQ.out)
  have t2:=t1.set e1 ⟨3,pc,pv⟩ hok
  have e2:((L.set at_ q).set to_ (⟨3,pc,pv⟩:Q))[to_]?=some ⟨3,pc,pv⟩:=by
   rw [List.getElem?_set,if_pos rfl,if_pos (get_lt e1)]
  have t3:=t2.setK e2 1
  rw [List.set_set] at t3
  exact⟨to_,d,q,hd,HTo.out,HQ.out,hq1,hq2,HPath.out,t3.later (Below.refl _ _).drew,((setP_but (setP_but (But.of HB2.out) (.inr rfl) _ _) (.inr rfl) _ _).setCell (p:=⟨gb,to_*5,none⟩) (.inr rfl) _).call (Below.refl _ _).drew⟩
 have HF:=hid hfin
 clear hfin
 by_cases hat2:at_=to_
 ·subst hat2
  obtain rfl:q=⟨3,pc,pv⟩:=by have:=HQ.out;rw [HPl.out] at this;exact (Option.some.inj this).symm
  clear q0 q1 q2 q3 q4
  go_region
  go_wp2
  go_end0
  exact⟨rfl,HF.out _ rfl⟩
 ·have hat3:to_≠at_:=fun e=>hat2 e.symm
  go_region
  go_wp2
  go_end0
  exact⟨rfl,HF.out _ rfl⟩
end Go.Proofs.YtfmhdimaijimlaaGreatDoor.H.I
namespace Go.Proofs.YtfmhdimaijimlaaGreatDoor.H
variable {V:Type}
theorem one_val {E:List (Cp×V)}(h:(E.map Prod.fst).Nodup){c:Cp}{u v:V}(hu:(c,u)∈E)(hv:(c,v)∈E):u=v:=by
 induction E with
 | nil=>cases hu
 | cons a r ih =>
  rw [List.map_cons,List.nodup_cons] at h
  rcases List.mem_cons.1 hu with h1|h1
  ·rcases List.mem_cons.1 hv with h2|h2
   ·rw [←h1] at h2;exact (Prod.mk.inj h2).2.symm
   ·exact absurd (List.mem_map.2 ⟨_,h2,by rw [←h1]⟩) h.1
  ·rcases List.mem_cons.1 hv with h2|h2
   ·exact absurd (List.mem_map.2 ⟨_,h1,by rw [←h2]⟩) h.1
   ·exact ih h.2 h1 h2
def relabel (p:Pl V):Pl V:=if p.k=1 then ⟨3,p.c,p.v⟩ else if p.k=2 then ⟨0,p.c,p.v⟩ else p
theorem relab_used {p:Pl V}(h:p.k=1):relabel p=⟨3,p.c,p.v⟩:=by unfold relabel;rw [if_pos h]
theorem relab_tomb {p:Pl V}(h:p.k=2):relabel p=⟨0,p.c,p.v⟩:=by unfold relabel;rw [if_neg (by omega),if_pos h]
theorem relab_same {p:Pl V}(h:p.k≠1)(h2:p.k≠2):relabel p=p:=by unfold relabel;rw [if_neg h,if_neg h2]
theorem ent_relabel {p:Pl V}(h:p.k=0∨p.k=1∨p.k=2):ent (relabel p)=ent p:=by
 rcases h with h|h|h
 ·rw [relab_same (by omega) (by omega)]
 ·rw [relab_used h];simp [ent,h]
 ·rw [relab_tomb h];simp [ent,h]
theorem ents_relabel {L:List (Pl V)}(h:∀(i:Nat) (p:Pl V),L[i]?=some p→p.k=0∨p.k=1∨p.k=2):ents (L.map relabel)=ents L:=by
 induction L with
 | nil=>rfl
 | cons a r ih =>
  have h0:=ent_relabel (h 0 a rfl)
  have h1:=ih (fun i p hp=>h (i+1) p hp)
  unfold ents at h1 ⊢
  rw [List.map_cons,List.filterMap_cons,List.filterMap_cons,h0,h1]
def Up (i:Nat)(L M:List (Pl V)):Prop:=M.length=L.length∧∀j:Nat,M[j]?=if j<i then (L[j]?).map relabel else L[j]?
theorem Up.zero (L:List (Pl V)):Up 0 L L:=⟨rfl,fun j=>by simp⟩
theorem Up.at_ {i:Nat}{L M:List (Pl V)}(h:Up i L M):M[i]?=L[i]?:=by rw [h.2 i,if_neg (Nat.lt_irrefl _)]
theorem Up.step {i:Nat}{L M:List (Pl V)}(h:Up i L M){p x:Pl V}(hp:L[i]?=some p)(hx:x=relabel p):Up (i+1) L (M.set i x):=by
 refine⟨by rw [List.length_set];exact h.1,fun j=>?_⟩
 rw [List.getElem?_set]
 by_cases he:i=j
 ·subst he
  rw [if_pos rfl,if_pos (by rw [h.1];exact get_lt hp),if_pos (by omega),hp,hx]
  rfl
 ·rw [if_neg he,h.2 j]
  by_cases h1:j<i
  ·rw [if_pos h1,if_pos (by omega)]
  ·rw [if_neg h1,if_neg (by omega)]
theorem Up.same {i:Nat}{L M:List (Pl V)}(h:Up i L M){p:Pl V}(hp:L[i]?=some p)(hx:relabel p=p):Up (i+1) L M:=by
 refine⟨h.1,fun j=>?_⟩
 rw [h.2 j]
 by_cases h1:j<i
 ·rw [if_pos h1,if_pos (by omega)]
 ·rw [if_neg h1]
  by_cases h2:j=i
  ·subst h2
   rw [if_pos (by omega),hp]
   simp [hx]
  ·rw [if_neg (by omega)]
theorem Up.fin_ {i:Nat}{L M:List (Pl V)}(h:Up i L M)(hi:L.length≤i):M=L.map relabel:=by
 apply List.ext_getElem?
 intro j
 rw [h.2 j,List.getElem?_map]
 by_cases h1:j<i
 ·rw [if_pos h1]
 ·rw [if_neg h1,List.getElem?_eq_none (by omega)]
  rfl
structure Mid (h:Cp→Nat)(L M:List (Pl V))(i:Nat):Prop where
 kinds:∀(j:Nat) (p:Pl V),M[j]?=some p→p.k=0∨p.k=1∨p.k=3
 way:Way h (·=1) M
 perm:(ents M).Perm (ents L)
 gone:∀(j:Nat) (p:Pl V),j<i→M[j]?=some p→p.k≠3
theorem Mid.start (h:Cp→Nat){L:List (Pl V)}(hk:∀(i:Nat) (p:Pl V),L[i]?=some p→p.k=0∨p.k=1∨p.k=2):Mid h L (L.map relabel) 0:=by
 have key:∀(j:Nat) (p:Pl V),(L.map relabel)[j]?=some p→p.k=0∨p.k=3:=by
  intro j p hp
  rw [List.getElem?_map] at hp
  cases hq:L[j]? with
  | none=>rw [hq] at hp;cases hp
  | some q =>
   rw [hq] at hp
   simp only [Option.map_some,Option.some.injEq] at hp
   subst hp
   rcases hk j q hq with h1|h1|h1
   ·rw [relab_same (by omega) (by omega)];exact .inl h1
   ·rw [relab_used h1];exact .inr rfl
   ·rw [relab_tomb h1];exact .inl rfl
 refine⟨fun j p hp=>?_,fun j p hp h1=>?_,by rw [ents_relabel hk],fun j p hj=>absurd hj (Nat.not_lt_zero _)⟩
 ·rcases key j p hp with h1|h1
  ·exact .inl h1
  ·exact .inr (.inr h1)
 ·rcases key j p hp with h2|h2<;>omega
theorem Mid.next {h:Cp→Nat}{L M:List (Pl V)}{i:Nat}(m:Mid h L M i){p:Pl V}(hp:M[i]?=some p)(hk:p.k≠3):Mid h L M (i+1) :=
 ⟨m.kinds,m.way,m.perm,fun j q hj hq=>by
  rcases Nat.lt_or_ge j i with h1|h1
  ·exact m.gone j q h1 hq
  ·obtain rfl:j=i:=by omega
   rw [hp] at hq
   cases hq
   exact hk⟩
theorem Mid.settle {h:Cp→Nat}{L M:List (Pl V)}{i:Nat}(m:Mid h L M i){p q:Pl V}(hp:M[i]?=some p)(hk:p.k=3){to_ d:Nat}(hd:d<M.length)(hto:to_=(h p.c+d)%M.length)(hq:M[to_]?=some q)(h1:q.k≠1)(h2:q.k≠2)
  (hpath:∀e,e<d→∀p':Pl V,M[(h p.c+e)%M.length]?=some p'→p'.k=1∨p'.k=2):Mid h L ((M.set i q).set to_ ⟨1,p.c,p.v⟩) i∧loo ((M.set i q).set to_ ⟨1,p.c,p.v⟩)<loo M:=by
 have e1:(M.set i q)[to_]?=some q:=by
  rw [List.getElem?_set]
  split
  ·rw [if_pos (get_lt hp)]
  ·exact hq
 refine⟨⟨?_,?_,?_,?_⟩,?_⟩
 ·intro j x hx
  rcases get_set hx with ⟨rfl,rfl⟩|⟨_,h3⟩
  ·exact .inr (.inl rfl)
  ·rcases get_set h3 with ⟨rfl,rfl⟩|⟨_,h4⟩
   ·exact m.kinds _ _ hq
   ·exact m.kinds _ _ h4
 ·have w1:Way h (·=1) (M.set i q):=m.way.set (fun x hx hx1=>by rw [hp] at hx;cases hx;omega) (fun hx=>absurd hx h1)
  refine w1.set (fun _ _ _=>rfl) (fun _=>?_)
  rw [List.length_set]
  refine⟨d,hd,hto,fun e he x hx=>?_⟩
  rcases get_set hx with ⟨h3,rfl⟩|⟨_,h3⟩
  ·have:=hpath e he p (by rw [h3];exact hp)
   omega
  ·rcases hpath e he x h3 with h4|h4
   ·exact h4
   ·have:=m.kinds _ _ h3
    omega
 ·refine List.Perm.trans (ents_swap hp hq (x:=⟨1,p.c,p.v⟩) ?_) m.perm
  simp [ent,hk]
 ·intro j x hj hx
  rcases get_set hx with ⟨rfl,rfl⟩|⟨_,h3⟩
  ·simp
  ·rcases get_set h3 with ⟨rfl,rfl⟩|⟨_,h4⟩
   ·omega
   ·exact m.gone _ _ hj h4
 ·have a1:=loo_set (x:=q) hp
  have a2:=loo_set (x:=(⟨1,p.c,p.v⟩:Pl V)) e1
  simp only [hk,if_true] at a1
  simp only [show ¬((1:Int)=3) by omega,if_false] at a2
  omega
theorem Mid.fin_ {h:Cp→Nat}{L M:List (Pl V)}{i:Nat}(m:Mid h L M i)(hi:M.length≤i):(∀(j:Nat) (p:Pl V),M[j]?=some p→p.k=0∨p.k=1)∧Way h (·≠0) M:=by
 have hk:∀(j:Nat) (p:Pl V),M[j]?=some p→p.k=0∨p.k=1:=fun j p hp=>by
  have h1:=m.gone j p (by have:=get_lt hp;omega) hp
  rcases m.kinds j p hp with h2|h2|h2
  ·exact .inl h2
  ·exact .inr h2
  ·exact absurd h2 h1
 refine⟨hk,fun j p hp h1=>?_⟩
 obtain⟨d,a,b,c⟩:=m.way j p hp h1
 exact⟨d,a,b,fun e he q hq=>by rw [c e he q hq];decide⟩
end Go.Proofs.YtfmhdimaijimlaaGreatDoor.H
namespace Go.Proofs.YtfmhdimaijimlaaGreatDoor.H.I
open Go.RowKit
def Anew (w:World)(g gb kn mo:Nat)(li:Int)(N:Nat)(L:List Q)(W:World):Prop :=
 ∃M:List Q,Tm W g gb kn mo li ((N:Int) - li) N M∧(∀(j:Nat) (p:Q),M[j]?=some p→p.k=0∨p.k=1)∧Way (hm kn N) (·≠0) M∧(ents M).Perm (ents L)∧But (In g gb) w W
def LoosRel (w:World)(g gb kn mo:Nat)(li sp:Int)(N:Nat)(L:List Q)(t:Value)(W:World):Prop :=
 ∃(i:Nat) (M:List Q),i≤N∧t=.int .i64 (i:Int)∧Up i L M∧Tm W g gb kn mo li sp N M∧But (In g gb) w W
def SetsRel (w:World)(g gb kn mo:Nat)(li sp:Int)(N:Nat)(L:List Q)(t:Value)(W:World):Prop :=
 ∃(i:Nat) (M:List Q),i≤N∧t=.int .i64 (i:Int)∧Mid (hm kn N) L M i∧Tm W g gb kn mo li sp N M∧But (In g gb) w W
def SetRel (w:World)(g gb kn mo:Nat)(li sp:Int)(N:Nat)(L:List Q)(i k:Nat)(t:Value)(W:World):Prop :=
 ∃M:List Q,loo M=k∧Mid (hm kn N) L M i∧Tm W g gb kn mo li sp N M∧But (In g gb) w W
theorem remake_any {w:World}{g gb kn mo:Nat}{li sp:Int}{N:Nat}{L:List Q}(h:Tm w g gb kn mo li sp N L)(hk:∀(i:Nat) (p:Q),L[i]?=some p→p.k=0∨p.k=1∨p.k=2)(hl0:0≤li)(hl1:li≤1024) :
  Calls Tryz.prog 272 #[.pointer (some ⟨g,0,none⟩)] w fun e w'=>e=.returned (.tuple #[])∧Anew w g gb kn mo li N L w':=by
 have HH:=hid h
 have HK:=hid hk
 have hpos:=h.pos
 have hbig:=h.big
 have hlen:=hid h.len
 have x0:=h.a0
 have hne:=h.ne
 clear h hk
 go_enter Tryz.func272,Tryz.ntmps272
 go_upto_region 1 with fail
 go_loopw [9] (LoosRel w g gb kn mo li sp N L) (fun t _=>N - (intOf t).toNat)
 case atStart=>exact⟨0,L,Nat.zero_le _,rfl,Up.zero _,HH.out,But.refl _ _⟩
 case round =>
  obtain⟨i,M,hi,rfl,hU,hT,hB⟩:=hrel
  have HU:=hid hU
  have HT:=hid hT
  have HB:=hid hB
  clear hU hB
  by_cases hlt:i<N
  ·obtain⟨p,hp⟩:=get_some (L:=M) (i:=i) (by rw [hT.len];exact hlt)
   have hpL:Hid (L[i]?=some p):=by unfold Hid;rw [←HU.out.at_];exact hp
   have y0:=hT.a0
   have c0:=(hT.at_ _ _ hp).c0
   have f0:=hT.fr (i*5)
   have HP:=hid hp
   clear hp hT
   have hc:p.k=1∨p.k=2∨(p.k≠1∧p.k≠2):=by omega
   rcases hc with hk1|hk2|⟨hk1,hk2⟩
   ·have hrl:=hid (relab_used hk1)
    have hst:=hid (HT.out.setK HP.out 3)
    rw [hk1] at c0
    go_wp2
    refine⟨⟨i+1,_,by omega,by go_num,HU.out.step hpL.out hrl.out.symm,hst.out,HB.out.setCell (p:=⟨gb,i*5,none⟩) (.inr rfl) _⟩,by simp [intOf];omega⟩
   ·have hrl:=hid (relab_tomb hk2)
    have hst:=hid (HT.out.setK HP.out 0)
    rw [hk2] at c0
    go_wp2
    refine⟨⟨i+1,_,by omega,by go_num,HU.out.step hpL.out hrl.out.symm,hst.out,HB.out.setCell (p:=⟨gb,i*5,none⟩) (.inr rfl) _⟩,by simp [intOf];omega⟩
   ·have hrl:=hid (relab_same hk1 hk2)
    have hn1:(p.k==1)=false:=by simpa using hk1
    have hn2:(p.k==2)=false:=by simpa using hk2
    go_wp2
    refine⟨⟨i+1,M,by omega,by go_num,HU.out.same hpL.out hrl.out,HT.out,HB.out⟩,by simp [intOf];omega⟩
  ·obtain rfl:i=N:=by omega
   have hM:=HU.out.fin_ (by rw [hlen.out];exact Nat.le_refl _)
   have y0:=hT.a0
   have HM:=hid hM
   clear hT hM
   go_upto_region 10 with fail
   go_loopw [44] (SetsRel w g gb kn mo li sp i L) (fun t _=>i - (intOf t).toNat)
   case atStart=>exact⟨0,M,Nat.zero_le _,rfl,by rw [HM.out];exact Mid.start _ HK.out,HT.out,HB.out⟩
   case round =>
    obtain⟨j,M2,hj,rfl,hMi,hT2,hB2⟩:=hrel
    have HMi:=hid hMi
    have HT2:=hid hT2
    have HB2:=hid hB2
    clear hMi hB2
    by_cases hlt2:j<i
    ·clear hT2
     go_upto_region 12 with fail
     go_loopg [55] (loo M2) (SetRel w g gb kn mo li sp i L j)
     case atStart=>exact⟨M2,rfl,HMi.out,HT2.out,HB2.out⟩
     case round =>
      obtain⟨M3,hlo,hMi3,hT3,hB3⟩:=hrel
      obtain⟨p,hp⟩:=get_some (L:=M3) (i:=j) (by rw [hT3.len];exact hlt2)
      have z0:=hT3.a0
      have c0:=(hT3.at_ _ _ hp).c0
      have HP:=hid hp
      have HLo:=hid hlo
      have HMi3:=hid hMi3
      have HT3:=hid hT3
      have HB3:=hid hB3
      clear hp hlo hMi3 hT3 hB3
      by_cases hk3:p.k=3
      ·have HK3:=hid hk3
       rw [hk3] at c0
       clear hk3
       go_wp2_with (first|(go_at_call 281;refine (settle_any HT3.out j p HP.out HK3.out).mono ?_;rintro e w5 ⟨rfl,hS⟩;have HS:=hid hS;clear hS))
       obtain⟨to_,d,q,s1,s2,s3,s4,s5,s6,s7,s8⟩:=HS.out
       have hl3:=HT3.out.len
       obtain⟨m1,m2⟩:=HMi3.out.settle HP.out HK3.out (by rw [hl3];exact s1) (by rw [hl3];exact s2) s3 s4 s5 (by rw [hl3];exact s6)
       go_roundg (loo ((M3.set j q).set to_ ⟨1,p.c,p.v⟩))
       case measure=>rw [←HLo.out];exact m2
       case rel=>exact⟨_,rfl,m1,s7,HB3.out.trans s8⟩
      ·have hn3:(p.k==3)=false:=by simpa using hk3
       have HN3:=hid hk3
       clear hk3
       go_wp2
       exact⟨⟨j+1,M3,by omega,by go_num,HMi3.out.next HP.out HN3.out,HT3.out,HB3.out⟩,by simp [intOf];omega⟩
    ·obtain rfl:j=i:=by omega
     have z0:=hT2.a0
     have z3:=hT2.a3.1
     have z4:=hT2.a4.1
     have z4':=hT2.a4.2
     have hsp:=hid (hT2.spare ((j:Int) - li))
     clear hT2
     go_wp2
     go_region
     go_wp2
     go_end0
     have hl2:=HT2.out.len
     have he:=HMi.out.fin_ (by rw [hl2];exact Nat.le_refl _)
     exact⟨rfl,M2,hsp.out.later (Below.refl _ _).drew,he.1,he.2,HMi.out.perm,(HB2.out.setCell (p:=⟨g,4,none⟩) (.inl rfl) _).call (Below.refl _ _).drew⟩
structure Sl (w:World)(g gb kn mo N:Nat)(L:List Q)(sp:Nat)(E:List (Cp×Int)):Prop where
 tm:Tm w g gb kn mo (E.length:Int) (sp:Int) N L
 kinds:∀(i:Nat) (p:Q),L[i]?=some p→p.k=0∨p.k=1∨p.k=2
 way:Way (hm kn N) (·≠0) L
 perm:(ents L).Perm E
 nodup:(E.map Prod.fst).Nodup
 free:fre L=sp
 most:E.length≤mo
 m1:1≤mo
 m2:2*mo≤N
def Tb (w:World)(g gb kn mo N:Nat)(E:List (Cp×Int)):Prop:=∃L sp,Sl w g gb kn mo N L sp E
theorem Sl.but {S:Nat→Prop}{w w':World}{g gb kn mo N:Nat}{L:List Q}{sp:Nat}{E:List (Cp×Int)}(hb:But S w w')(h:Sl w g gb kn mo N L sp E)(h1:¬S g)(h2:¬S gb):Sl w' g gb kn mo N L sp E :=
 ⟨h.tm.but hb h1 h2,h.kinds,h.way,h.perm,h.nodup,h.free,h.most,h.m1,h.m2⟩
theorem Sl.later {w w':World}{g gb kn mo N:Nat}{L:List Q}{sp:Nat}{E:List (Cp×Int)}(hb:Below w.heap.size w w')(h:Sl w g gb kn mo N L sp E):Sl w' g gb kn mo N L sp E:=h.but (S:=fun _=>False) (But.of hb) (fun h=>h) (fun h=>h)
theorem Sl.alloc {w:World}{g gb kn mo N:Nat}{L:List Q}{sp:Nat}{E:List (Cp×Int)}(h:Sl w g gb kn mo N L sp E)(o:Obj):Sl (w.alloc o) g gb kn mo N L sp E:=h.later (below1 _ _)
theorem Tb.but {S:Nat→Prop}{w w':World}{g gb kn mo N:Nat}{E:List (Cp×Int)}(hb:But S w w')(h:Tb w g gb kn mo N E)(h1:¬S g)(h2:¬S gb):Tb w' g gb kn mo N E:=by
 obtain⟨L,sp,h⟩:=h;exact⟨L,sp,h.but hb h1 h2⟩
theorem Tb.later {w w':World}{g gb kn mo N:Nat}{E:List (Cp×Int)}(hb:Below w.heap.size w w')(h:Tb w g gb kn mo N E):Tb w' g gb kn mo N E:=by
 obtain⟨L,sp,h⟩:=h;exact⟨L,sp,h.later hb⟩
theorem Tb.lt {w:World}{g gb kn mo N:Nat}{E:List (Cp×Int)}(h:Tb w g gb kn mo N E):g<w.heap.size:=by obtain⟨L,sp,h⟩:=h;exact h.tm.lt
theorem Tb.lt2 {w:World}{g gb kn mo N:Nat}{E:List (Cp×Int)}(h:Tb w g gb kn mo N E):gb<w.heap.size:=by obtain⟨L,sp,h⟩:=h;exact h.tm.lt2
theorem Tb.nodup {w:World}{g gb kn mo N:Nat}{E:List (Cp×Int)}(h:Tb w g gb kn mo N E):(E.map Prod.fst).Nodup:=by obtain⟨L,sp,h⟩:=h;exact h.nodup
theorem Tb.small {w:World}{g gb kn mo N:Nat}{E:List (Cp×Int)}(h:Tb w g gb kn mo N E):mo≤512:=by obtain⟨L,sp,h⟩:=h;have:=h.tm.big;have:=h.m2;omega
theorem Sl.mem {w:World}{g gb kn mo N:Nat}{L:List Q}{sp:Nat}{E:List (Cp×Int)}(h:Sl w g gb kn mo N L sp E){i:Nat}{p:Q}(hp:L[i]?=some p)(hk:p.k=1):(p.c,p.v)∈E:=h.perm.mem_iff.1 (ents_mem hp hk)
theorem Sl.there {w:World}{g gb kn mo N:Nat}{L:List Q}{sp:Nat}{E:List (Cp×Int)}(h:Sl w g gb kn mo N L sp E){c:Cp}(hc:c∈E.map Prod.fst):∃(i:Nat) (p:Q),L[i]?=some p∧p.k=1∧p.c=c:=by
 obtain⟨y,hy,rfl⟩:=List.mem_map.1 hc
 obtain⟨i,p,hp,hk,rfl⟩:=mem_ents (h.perm.mem_iff.2 hy) h.kinds
 exact⟨i,p,hp,hk,rfl⟩
theorem find_there {w:World}{g gb kn mo N:Nat}{L:List Q}{sp:Nat}{E:List (Cp×Int)}(h:Sl w g gb kn mo N L sp E)(o:Int)(hi lo:Nat)(h1:hi<B64)(h2:lo<B64)(hc:(o,hi,lo)∈E.map Prod.fst) :
  Calls Tryz.prog 270 #[.pointer (some ⟨g,0,none⟩),.agg #[.int .i64 o,.int .u64 (hi:Int),.int .u64 (lo:Int)]] w fun e w'=>∃(i:Nat) (v:Int),L[i]?=some ⟨1,(o,hi,lo),v⟩∧e=.returned (.tuple #[.int .i64 (i:Int),.bool true])∧Below w.heap.size w w':=by
 refine (find_any h.tm h.way o hi lo h1 h2).mono ?_
 rintro e w' ⟨⟨i,p,hp,hk,hpc,he⟩|⟨hn,he⟩,hb⟩
 ·refine⟨i,p.v,?_,he,hb⟩
  rw [hp,←hk,←hpc]
 ·obtain⟨i,p,hp,hk,hpc⟩:=h.there hc
  exact absurd hpc (hn i p hp hk)
theorem find_none {w:World}{g gb kn mo N:Nat}{L:List Q}{sp:Nat}{E:List (Cp×Int)}(h:Sl w g gb kn mo N L sp E)(o:Int)(hi lo:Nat)(h1:hi<B64)(h2:lo<B64)(hc:(o,hi,lo)∉E.map Prod.fst) :
  Calls Tryz.prog 270 #[.pointer (some ⟨g,0,none⟩),.agg #[.int .i64 o,.int .u64 (hi:Int),.int .u64 (lo:Int)]] w fun e w'=>e=.returned (.tuple #[.int .i64 0,.bool false])∧Below w.heap.size w w':=by
 refine (find_any h.tm h.way o hi lo h1 h2).mono ?_
 rintro e w' ⟨⟨i,p,hp,hk,hpc,he⟩|⟨hn,he⟩,hb⟩
 ·exact absurd (List.mem_map.2 ⟨_,h.mem hp hk,hpc⟩) hc
 ·exact⟨he,hb⟩
theorem get_none {w:World}{g gb kn mo N:Nat}{E:List (Cp×Int)}(h:Tb w g gb kn mo N E)(o:Int)(hi lo:Nat)(h1:hi<B64)(h2:lo<B64)(hc:(o,hi,lo)∉E.map Prod.fst) :
  Calls Tryz.prog 258 #[.pointer (some ⟨g,0,none⟩),.agg #[.int .i64 o,.int .u64 (hi:Int),.int .u64 (lo:Int)]] w fun e w'=>e=.returned (.tuple #[.int .i64 0,.bool false])∧Below w.heap.size w w':=by
 obtain⟨L,sp,h⟩:=h
 have HH:=hid h
 have HC:=hid hc
 clear h hc
 go_enter Tryz.func258,Tryz.ntmps258
 go_wp2_with (first|(go_at_call 270;refine (find_none (HH.out.alloc _) o hi lo h1 h2 HC.out).mono ?_;rintro e w2 ⟨rfl,hb2⟩;have HB2:=hid (bc (below1 _ _) hb2);clear hb2))
 exact bodyPost_ret (v:=.tuple #[.int .i64 0,.bool false]) (by simp [results,Tryz.results258,go_sem]) rfl ⟨rfl,HB2.out⟩
theorem drop_none {w:World}{g gb kn mo N:Nat}{E:List (Cp×Int)}(h:Tb w g gb kn mo N E)(o:Int)(hi lo:Nat)(h1:hi<B64)(h2:lo<B64)(hc:(o,hi,lo)∉E.map Prod.fst) :
  Calls Tryz.prog 260 #[.pointer (some ⟨g,0,none⟩),.agg #[.int .i64 o,.int .u64 (hi:Int),.int .u64 (lo:Int)]] w fun e w'=>e=.returned (.bool false)∧Below w.heap.size w w':=by
 obtain⟨L,sp,h⟩:=h
 have HH:=hid h
 have HC:=hid hc
 clear h hc
 go_enter Tryz.func260,Tryz.ntmps260
 go_wp2_with (first|(go_at_call 270;refine (find_none (HH.out.alloc _) o hi lo h1 h2 HC.out).mono ?_;rintro e w2 ⟨rfl,hb2⟩;have HB2:=hid (bc (below1 _ _) hb2);clear hb2))
 go_ret
 exact⟨rfl,HB2.out⟩
theorem Sl.drop {w:World}{g gb kn mo N:Nat}{L:List Q}{sp:Nat}{E E':List (Cp×Int)}(h:Sl w g gb kn mo N L sp E){i:Nat}{c:Cp}{v:Int}(hp:L[i]?=some ⟨1,c,v⟩)(z:Int){n:Int}(hn:n=(E.length:Int) - 1)(hE:E.Perm ((c,v)::E')) :
  Sl ((setP w gb (i*5) ⟨2,(0,0,0),z⟩).setCell ⟨g,3,none⟩ (.int .i64 n)) g gb kn mo N (L.set i ⟨2,(0,0,0),z⟩) sp E':=by
 have hl:=hE.length_eq
 rw [List.length_cons] at hl
 have hn':n=(E'.length:Int):=by omega
 have hnd:=(hE.map Prod.fst).nodup_iff.1 h.nodup
 rw [List.map_cons,List.nodup_cons] at hnd
 have hm:=h.most
 refine⟨?_,?_,?_,?_,hnd.2,?_,by omega,h.m1,h.m2⟩
 ·have t:=(h.tm.set hp ⟨2,(0,0,0),z⟩ ⟨show (0:Nat)<B64 by decide,show (0:Nat)<B64 by decide⟩).live n
  rw [←hn']
  exact t
 ·intro j x hx
  rcases get_set hx with ⟨rfl,rfl⟩|⟨_,h3⟩
  ·exact .inr (.inr rfl)
  ·exact h.kinds _ _ h3
 ·exact h.way.set (fun _ _ _=>show (2:Int)≠0 by decide) (fun hx=>absurd hx (show ¬(2:Int)=1 by decide))
 ·have hd:=ents_del (x:=(⟨2,(0,0,0),z⟩:Q)) (y:=(c,v)) hp (by simp [ent]) (by simp [ent])
  exact (hd.symm.trans (h.perm.trans hE)).cons_inv
 ·rw [fre_same hp (show (1:Int)≠0 by decide) (show (2:Int)≠0 by decide)]
  exact h.free
theorem drop_ok {w:World}{g gb kn mo N:Nat}{E:List (Cp×Int)}(h:Tb w g gb kn mo N E)(o:Int)(hi lo:Nat)(h1:hi<B64)(h2:lo<B64)(v:Int)(hc:((o,hi,lo),v)∈E)(E':List (Cp×Int))(hE:E.Perm (((o,hi,lo),v)::E')) :
  Calls Tryz.prog 260 #[.pointer (some ⟨g,0,none⟩),.agg #[.int .i64 o,.int .u64 (hi:Int),.int .u64 (lo:Int)]] w fun e w'=>e=.returned (.bool true)∧Tb w' g gb kn mo N E'∧But (In g gb) w w':=by
 obtain⟨L,sp,h⟩:=h
 have HH:=hid h
 have HC:Hid ((o,hi,lo)∈E.map Prod.fst):=List.mem_map.2 ⟨_,hc,rfl⟩
 have hne:=h.tm.ne
 have hbig:=h.tm.big
 have hm:=h.most
 have hm2:=h.m2
 clear h hc
 go_enter Tryz.func260,Tryz.ntmps260
 go_upto_region 4 with (first|(go_at_call 270;refine (find_there (HH.out.alloc _) o hi lo h1 h2 HC.out).mono ?_;rintro e w2 ⟨i,u,hi_,rfl,hb2⟩;have HI:=hid hi_;have HB2:=hid (bc (below1 _ _) hb2);clear hb2 hi_))
 have hS:=HH.out.later HB2.out
 have hilt:i<N:=by rw [←hS.tm.len];exact get_lt HI.out
 obtain⟨p0,p1,p2,p3,p4⟩:=hS.tm.at_ _ _ HI.out
 have z0:=hS.tm.a0
 have z3:=hS.tm.a3.1
 have z3':=hS.tm.a3.2
 have hfr:=hS.tm.fr
 have HS:=hid hS
 have hu:u=v:=by
  have m1:=HS.out.mem HI.out rfl
  rcases List.mem_cons.1 (hE.mem_iff.1 m1) with h3|h3
  ·exact (Prod.mk.inj h3).2
  ·have hnd:=(hE.map Prod.fst).nodup_iff.1 HS.out.nodup
   rw [List.map_cons,List.nodup_cons] at hnd
   exact absurd (List.mem_map.2 ⟨_,h3,rfl⟩) hnd.1
 subst hu
 have hfin:∀W:World,W=(setP w2 gb (i*5) ⟨2,(0,0,0),0⟩).setCell ⟨g,3,none⟩ (.int .i64 ((E.length:Int) - 1))→Tb W g gb kn mo N E'∧But (In g gb) w W:=by
  rintro W rfl
  exact⟨⟨_,_,HS.out.drop HI.out 0 rfl hE⟩,(setP_but (But.of HB2.out) (.inr rfl) _ _).setCell (p:=⟨g,3,none⟩) (.inl rfl) _⟩
 have HF:=hid hfin
 clear hS hE hfin
 go_wp2
 go_ret
 exact⟨rfl,HF.out _ rfl⟩
theorem get_ok {w:World}{g gb kn mo N:Nat}{E:List (Cp×Int)}(h:Tb w g gb kn mo N E)(o:Int)(hi lo:Nat)(h1:hi<B64)(h2:lo<B64)(v:Int)(hc:((o,hi,lo),v)∈E) :
  Calls Tryz.prog 258 #[.pointer (some ⟨g,0,none⟩),.agg #[.int .i64 o,.int .u64 (hi:Int),.int .u64 (lo:Int)]] w fun e w'=>e=.returned (.tuple #[.int .i64 v,.bool true])∧Below w.heap.size w w':=by
 obtain⟨L,sp,h⟩:=h
 have HH:=hid h
 have HM:=hid hc
 have HC:Hid ((o,hi,lo)∈E.map Prod.fst):=List.mem_map.2 ⟨_,hc,rfl⟩
 clear h hc
 go_enter Tryz.func258,Tryz.ntmps258
 go_upto_region 5 with (first|(go_at_call 270;refine (find_there (HH.out.alloc _) o hi lo h1 h2 HC.out).mono ?_;rintro e w2 ⟨i,u,hi_,rfl,hb2⟩;have HI:=hid hi_;have HB2:=hid (bc (below1 _ _) hb2);clear hb2 hi_))
 have hS:=HH.out.later HB2.out
 have hilt:i<N:=by rw [←hS.tm.len];exact get_lt HI.out
 have hbig:=hS.tm.big
 have hP:=hS.tm.at_ _ _ HI.out
 have p4:=hP.c4
 have z0:=hS.tm.a0
 have hu:u=v:=by
  have m1:=hS.mem HI.out rfl
  exact one_val hS.nodup m1 HM.out
 subst hu
 clear hS hP
 go_wp2
 exact bodyPost_ret (v:=.tuple #[.int .i64 u,.bool true]) (by simp [results,Tryz.results258,go_sem]) rfl ⟨rfl,HB2.out⟩
end Go.Proofs.YtfmhdimaijimlaaGreatDoor.H.I
