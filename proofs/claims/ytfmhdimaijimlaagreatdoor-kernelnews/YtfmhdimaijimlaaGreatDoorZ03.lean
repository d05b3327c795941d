import Derived.Test.YtfmhdimaijimlaaGreatDoorZ02
import Derived.BigRegion
import Derived.Laws.Bits128
set_option linter.all false
set_option maxRecDepth 1000000
set_option maxHeartbeats 8000000
open Go.Proofs.Tryz
variable {w w' w1 w2:Go.World}{n m k i j b g base kn:Nat}{a:Option Go.Addr}
namespace Go.Proofs.YtfmhdimaijimlaaGreatDoor.H.I
open Go.RowKit
theorem back {h d N:Nat}(hh:h<N)(hd:d<N):((h+d)%N+N - h)%N=d:=by
 rcases Nat.lt_or_ge (h+d) N with h1|h1
 ·rw [Nat.mod_eq_of_lt h1]
  have:h+d+N - h=d+N:=by omega
  rw [this,Nat.add_mod_right,Nat.mod_eq_of_lt hd]
 ·rw [Nat.mod_eq_sub_mod h1,Nat.mod_eq_of_lt (a:=h+d - N) (by omega)]
  have:h+d - N+N - h=d:=by omega
  rw [this,Nat.mod_eq_of_lt hd]
def vp (w:World)(h N:Nat)(L:List Q)(s:Value)(w':World):Prop :=
 ∃d:Nat,d<N/\s=.int .i64 (((h+d)%N:Nat):Int)/\(∀e,e<d->∀p:Q,L[(h+e)%N]?=some p->p.k=1\/p.k=2)/\Below w.heap.size w w'
theorem me {gb mo:Nat}{li sp:Int}{N:Nat}{L:List Q}(h:Tm w g gb kn mo li sp N L)(hex:∃(i:Nat) (p:Q),L[i]?=some p/\p.k≠1/\p.k≠2)(o:Int)(hi lo:Nat)(h1:hi<ak)(h2:lo<ak) :
  Calls prog 273 #[.pointer (some ⟨g,0,none⟩),.agg #[.int .i64 o,.int .u64 (hi:Int),.int .u64 (lo:Int)]] w λe w'=>(∃(to_ d:Nat) (q:Q),d<N/\to_=(hm kn N (o,hi,lo)+d)%N/\L[to_]?=some q/\q.k≠1/\q.k≠2/\(∀e,e<d->∀p:Q,L[(hm kn N (o,hi,lo)+e)%N]?=some p->p.k=1\/p.k=2)/\e=.returned (.int .i64 (to_:Int)))/\Below w.heap.size w w':=by
 have HH:=aa h
 have hpos:=h.pos
 have hbig:=h.eK
 have hlen:=aa h.len
 have hf:=λ(W:World) (hW:Tm W g gb kn mo li sp N L)=>n_ hW o hi lo h1 h2
 have hlt:=aa (Fu (kn:=kn) (o,hi,lo) hpos)
 generalize hm kn N (o,hi,lo)=hs at hf hlt ⊢
 obtain⟨i0,p0,hp0,hk0,hk0'⟩:=hex
 obtain⟨d0,hd0,hi0⟩:=J8 hlt.out (by rw [<-hlen.out];exact cN hp0:i0<N)
 have H0:Hid (L[(hs+d0)%N]?=some p0):=by unfold Hid;rw [<-hi0];exact hp0
 clear h hp0 hi0
 go_enter func273,ntmps273
 go_upto_region 2 with (first|(go_at_call 279;refine (hf _ (HH.o.alloc _)).mono ?_;rintro e w2 ⟨rfl,hb2⟩;have HB2:=aa (al (ab _ _) hb2);clear hb2))
 go_loopw [5] (vp w hs N L) (λt _=>N - ((intOf t).toNat+N - hs)%N)
 case atStart=>exact⟨0,by omega,by rw [Nat.add_zero,Nat.mod_eq_of_lt hlt.out],λe he=>absurd he (Nat.not_lt_zero _),HB2.o⟩
 case round =>
  obtain⟨d,hd,rfl,hno,hB⟩:=hrel
  have HNo:=aa hno
  clear hno
  have hT:=HH.o.later hB
  have hm1:(hs+d)%N<N:=Nat.mod_lt _ hpos
  obtain⟨p,hp⟩:=get_some (L:=L) (i:=(hs+d)%N) (by rw [hlen.out];exact hm1)
  have c0:=(hT.at_ _ p hp).c0
  have y0:=hT.a0
  have hnx:=aa (ri hs d N)
  have HP:=aa hp
  clear hp
  have HT:=aa hT
  clear hT
  have hle:d<=d0:=by
   rcases Nat.lt_or_ge d0 d with h3|h3
   ·have:=HNo.o d0 h3 p0 H0.o
    omega
   ·exact h3
  have hback:=aa (back hlt.out hd)
  generalize hat:(hs+d)%N=at_ at *
  have hme:p.k=1\/p.k=2\/(p.k≠1/\p.k≠2):=by omega
  by_cases hkk:p.k=1\/p.k=2
  ·have hlt3:d<d0:=by
    rcases Nat.lt_or_ge d d0 with h3|h3
    ·exact h3
    ·obtain rfl:d=d0:=by omega
     have:=H0.o
     rw [hat,HP.o] at this
     cases this
     omega
   have hfin:∀W,Below wr.heap.size wr W->vp w hs N L (.int .i64 (((at_:Int)+1)%(N:Int))) W/\N - ((intOf (.int .i64 (((at_:Int)+1)%(N:Int)))).toNat+N - hs)%N<N - ((intOf (.int .i64 (at_:Int))).toNat+N - hs)%N:=by
    intro W hW
    have e1:((at_:Int)+1)%(N:Int)=(((hs+(d+1))%N:Nat):Int):=by rw [<-hnx.out];simp
    rw [e1]
    refine⟨⟨d+1,by omega,rfl,?_,al hB hW⟩,?_⟩
    ·intro e he q hq
     rcases Nat.lt_or_ge e d with h3|h3
     ·exact HNo.o e h3 q hq
     ·obtain rfl:e=d:=by omega
      rw [hat,HP.o] at hq
      cases hq
      exact hkk
    ·simp only [intOf,Int.toNat_natCast]
     rw [back hlt.out (by omega),hback.out]
     omega
   have HF:=aa hfin
   clear hfin hme
   rcases hkk with hk|hk
   ·rw [hk] at c0
    go_wp2_with (first|(go_at_call 280;refine (fs HT.o _ (by assumption)).mono ?_;rintro e w3 ⟨rfl,rfl⟩))
    exact HF.o _ (Below.refl _ _)
   ·rw [hk] at c0
    go_wp2_with (first|(go_at_call 280;refine (fs HT.o _ (by assumption)).mono ?_;rintro e w3 ⟨rfl,rfl⟩))
    exact HF.o _ (Below.refl _ _)
  ·have hn1:(p.k==1)=false:=by simp;omega
   have hn2:(p.k==2)=false:=by simp;omega
   have HK:=aa hkk
   clear hkk hme
   go_wp2
   go_ret
   exact⟨⟨at_,d,p,hd,hat.symm,HP.o,λh=>HK.o (.inl h),λh=>HK.o (.inr h),HNo.o,rfl⟩,hB⟩
theorem ag {o o':Nat}{u v:Value}(h:w.cell? ⟨b,o,none⟩=some v)(hne:o≠o'):(w.setCell ⟨b,o',none⟩ u).cell? ⟨b,o,none⟩=some v:=by
 rw [World.cell?_setCell_other _ _ _ _ (λe=>hne (by cases e;rfl))];exact h
theorem bA {b' o o':Nat}{u v:Value}(h:w.cell? ⟨b,o,none⟩=some v)(hne:b≠b'):(w.setCell ⟨b',o',none⟩ u).cell? ⟨b,o,none⟩=some v:=by
 rw [World.cell?_setCell_other _ _ _ _ (λe=>hne (by cases e;rfl))];exact h
theorem Tm.cell {gb mo:Nat}{li sp:Int}{N:Nat}{L L':List Q}{o:Nat}{u:Value}(h:Tm w g gb kn mo li sp N L)(hl:L'.length=N)(hok:∀(i:Nat) (p:Q),L'[i]?=some p->p.c.2.1<ak/\p.c.2.2<ak)
  (hat:∀(i:Nat) (p:Q),L'[i]?=some p->Pa (w.setCell ⟨gb,o,none⟩ u) gb (i*5) p):Tm (w.setCell ⟨gb,o,none⟩ u) g gb kn mo li sp N L' :=
 ⟨bA h.a0 h.ne,bA h.a1 h.ne,bA h.a2 h.ne,h.a3.other (λe=>h.ne (by cases e;rfl)),h.a4.other (λe=>h.ne (by cases e;rfl)),λj=>by simpa using h.fr j,hat,h.ne,hl,h.pos,h.eK,hok⟩
theorem Pa.off {o o':Nat}{p:Q}{u:Value}(h:Pa w b o p)(hne:o'<o\/o+5<=o'):Pa (w.setCell ⟨b,o',none⟩ u) b o p :=
 ⟨ag h.c0 (by omega),ag h.c1 (by omega),ag h.c2 (by omega),ag h.c3 (by omega),ag h.c4 (by omega)⟩
theorem Tm.sD {gb mo:Nat}{li sp:Int}{N:Nat}{L:List Q}{p:Q}(h:Tm w g gb kn mo li sp N L)(hp:L[i]?=some p)(k:Int):Tm (w.setCell ⟨gb,i*5,none⟩ (.int .i64 k)) g gb kn mo li sp N (L.set i ⟨k,p.c,p.v⟩):=by
 refine h.cell (by rw [List.length_set];exact h.len) (λj q hq=>?_) (λj q hq=>?_)
 ·rcases ay hq with ⟨rfl,rfl⟩|⟨_,h3⟩
  ·exact h.ok _ p hp
  ·exact h.ok _ _ h3
 ·rcases ay hq with ⟨rfl,rfl⟩|⟨hne,h3⟩
  ·have hP:=h.at_ _ _ hp
   exact⟨World.cell?_setCell_same _ _ _ hP.c0,ag hP.c1 (by omega),ag hP.c2 (by omega),ag hP.c3 (by omega),ag hP.c4 (by omega)⟩
  ·exact (h.at_ _ _ h3).off (by omega)
def iC (w:World)(b o:Nat)(x:Q):World :=
 ((((w.setCell ⟨b,o,none⟩ (.int .i64 x.k)).setCell ⟨b,o+1,none⟩ (.int .i64 x.c.1)).setCell ⟨b,o+2,none⟩ (.int .u64 (x.c.2.1:Int))).setCell ⟨b,o+3,none⟩ (.int .u64 (x.c.2.2:Int))).setCell ⟨b,o+4,none⟩ (.int .i64 x.v)
theorem dw {S:Nat->Prop}{a:World}(h:ae S a w)(hb:S b)(o:Nat)(x:Q):ae S a (iC w b o x) :=
 ((((h.setCell (p:=⟨b,o,none⟩) hb _).setCell (p:=⟨b,o+1,none⟩) hb _).setCell (p:=⟨b,o+2,none⟩) hb _).setCell (p:=⟨b,o+3,none⟩) hb _).setCell (p:=⟨b,o+4,none⟩) hb _
theorem Pa.set {w:World}{b o:Nat}{p:Q}(h:Pa w b o p)(x:Q):Pa (iC w b o x) b o x:=by
 have s0:=World.cell?_setCell_same w ⟨b,o,none⟩ (.int .i64 x.k) h.c0
 have s1:=World.cell?_setCell_same (w.setCell ⟨b,o,none⟩ (.int .i64 x.k)) ⟨b,o+1,none⟩ (.int .i64 x.c.1) (ag h.c1 (by omega))
 have s2:=World.cell?_setCell_same ((w.setCell ⟨b,o,none⟩ (.int .i64 x.k)).setCell ⟨b,o+1,none⟩ (.int .i64 x.c.1)) ⟨b,o+2,none⟩ (.int .u64 (x.c.2.1:Int)) (ag (ag h.c2 (by omega)) (by omega))
 have s3:=World.cell?_setCell_same (((w.setCell ⟨b,o,none⟩ (.int .i64 x.k)).setCell ⟨b,o+1,none⟩ (.int .i64 x.c.1)).setCell ⟨b,o+2,none⟩ (.int .u64 (x.c.2.1:Int))) ⟨b,o+3,none⟩ (.int .u64 (x.c.2.2:Int)) (ag (ag (ag h.c3 (by omega)) (by omega)) (by omega))
 unfold iC
 exact⟨ag (ag (ag (ag s0 (by omega)) (by omega)) (by omega)) (by omega),ag (ag (ag s1 (by omega)) (by omega)) (by omega),ag (ag s2 (by omega)) (by omega),ag s3 (by omega),World.cell?_setCell_same _ _ _ (ag (ag (ag (ag h.c4 (by omega)) (by omega)) (by omega)) (by omega))⟩
theorem Pa.lJ {o o':Nat}{p:Q}(h:Pa w b o p)(x:Q)(hne:o'+5<=o\/o+5<=o'):Pa (iC w b o' x) b o p:=by
 unfold iC
 exact ((((h.off (by omega)).off (by omega)).off (by omega)).off (by omega)).off (by omega)
theorem Tm.set {w:World}{g gb kn mo:Nat}{li sp:Int}{N:Nat}{L:List Q}{i:Nat}{p:Q}(h:Tm w g gb kn mo li sp N L)(hp:L[i]?=some p)(x:Q)(hx:x.c.2.1<ak/\x.c.2.2<ak):Tm (iC w gb (i*5) x) g gb kn mo li sp N (L.set i x):=by
 have hb:ae (·=gb) w (iC w gb (i*5) x):=dw (S:=(·=gb)) (ae.refl _ _) (b:=gb) (by rfl) _ _
 refine⟨aC hb h.a0 h.ne,aC hb h.a1 h.ne,aC hb h.a2 h.ne,h.a3.but hb h.ne,h.a4.but hb h.ne,λj=>by have:=h.fr j;unfold iC;simpa using this,λj q hq=>?_,h.ne,by rw [List.length_set];exact h.len,h.pos,h.eK,λj q hq=>?_⟩
 ·rcases ay hq with ⟨rfl,rfl⟩|⟨hne,h3⟩
  ·exact (h.at_ _ _ hp).set _
  ·exact (h.at_ _ _ h3).lJ _ (by omega)
 ·rcases ay hq with ⟨rfl,rfl⟩|⟨_,h3⟩
  ·exact hx
  ·exact h.ok _ _ h3
theorem Tm.live {gb mo:Nat}{li sp:Int}{N:Nat}{L:List Q}(h:Tm w g gb kn mo li sp N L)(v:Int):Tm (w.setCell ⟨g,3,none⟩ (.int .i64 v)) g gb kn mo v sp N L:=by
 have hb:ae (·=g) w (w.setCell ⟨g,3,none⟩ (.int .i64 v)):=(ae.refl (·=g) _).setCell (p:=⟨g,3,none⟩) (show g=g from rfl) _
 have hne:¬gb=g:=λe=>h.ne e.symm
 exact⟨ag h.a0 (by omega),ag h.a1 (by omega),ag h.a2 (by omega),h.a3.put,h.a4.other (λe=>by cases e),λj=>by simpa using h.fr j,λi p hp=>(h.at_ i p hp).but hb hne,h.ne,h.len,h.pos,h.eK,h.ok⟩
theorem Tm.spare {gb mo:Nat}{li sp:Int}{N:Nat}{L:List Q}(h:Tm w g gb kn mo li sp N L)(v:Int):Tm (w.setCell ⟨g,4,none⟩ (.int .i64 v)) g gb kn mo li v N L:=by
 have hb:ae (·=g) w (w.setCell ⟨g,4,none⟩ (.int .i64 v)):=(ae.refl (·=g) _).setCell (p:=⟨g,4,none⟩) (show g=g from rfl) _
 have hne:¬gb=g:=λe=>h.ne e.symm
 exact⟨ag h.a0 (by omega),ag h.a1 (by omega),ag h.a2 (by omega),h.a3.other (λe=>by cases e),h.a4.put,λj=>by simpa using h.fr j,λi p hp=>(h.at_ i p hp).but hb hne,h.ne,h.len,h.pos,h.eK,h.ok⟩
def In (g gb:Nat)(k:Nat):Prop:=k=g\/k=gb
def vL (w:World)(g gb kn mo:Nat)(li sp:Int)(N:Nat)(L:List Q)(at_:Nat)(pc:Cp)(pv:Int)(W:World):Prop :=
 ∃(to_ d:Nat) (q:Q),d<N/\to_=(hm kn N pc+d)%N/\L[to_]?=some q/\q.k≠1/\q.k≠2/\(∀e,e<d->∀p':Q,L[(hm kn N pc+e)%N]?=some p'->p'.k=1\/p'.k=2)/\Tm W g gb kn mo li sp N ((L.set at_ q).set to_ ⟨1,pc,pv⟩)/\ae (In g gb) w W
theorem uB {gb mo:Nat}{li sp:Int}{N:Nat}{L:List Q}(h:Tm w g gb kn mo li sp N L)(at_:Nat)(p:Q)(hp:L[at_]?=some p)(hk:p.k=3) :
  Calls prog 281 #[.pointer (some ⟨g,0,none⟩),.int .i64 (at_:Int)] w λe w'=>e=.returned (.tuple #[])/\vL w g gb kn mo li sp N L at_ p.c p.v w':=by
 obtain⟨pk,pc,pv⟩:=p
 obtain rfl:pk=3:=hk
 have hat:at_<N:=by rw [<-h.len];exact cN hp
 have hP:=h.at_ _ _ hp
 obtain⟨c1,c2,c3⟩:=(⟨hP.c1,hP.c2,hP.c3⟩:_/\_/\_)
 have y0:=h.a0
 have hbig:=h.eK
 have HH:=aa h
 have HPl:=aa hp
 have hok:=h.ok _ _ hp
 have hop:=λ(W:World) (hW:Tm W g gb kn mo li sp N L)=>me hW ⟨at_,_,hp,by simp,by simp⟩ pc.1 pc.2.1 pc.2.2 hok.1 hok.2
 clear h hP hp
 go_enter func281,ntmps281
 go_upto_region 1 with (first|(go_at_call 273;refine (hop _ HH.o).mono ?_;rintro e w2 ⟨⟨to_,d,q,hd,hto,hq,hq1,hq2,hpath,rfl⟩,hb2⟩;have HTo:=aa hto;have HPath:=aa hpath;have HQ:=aa hq;have HB2:=aa hb2;clear hto hpath hq hb2))
 have hT2:=HH.o.later HB2.o
 have hto2:to_<N:=by rw [HTo.o];exact Nat.mod_lt _ (by omega)
 have hP:=hT2.at_ _ _ HPl.o
 have hQ:=hT2.at_ _ _ HQ.o
 have z0:=hT2.a0
 obtain⟨p0,p1,p2,p3,p4⟩:=hP
 obtain⟨q0,q1,q2,q3,q4⟩:=hQ
 have hfr:=hT2.fr
 have hne:=hT2.ne
 have HT2:=aa hT2
 clear hT2 y0 c1 c2 c3
 have hfin:∀W:World,W=((iC (iC w2 gb (at_*5) q) gb (to_*5) ⟨3,pc,pv⟩).setCell ⟨gb,to_*5,none⟩ (.int .i64 1)).drew ->
   vL w g gb kn mo li sp N L at_ pc pv W:=by
  rintro W rfl
  have e1:(L.set at_ q)[to_]?=some q:=by
   rw [List.getElem?_set]
   split
   ·next he=>rw [if_pos (cN HPl.o)]
   ·exact HQ.o
  have t1:=HT2.o.set HPl.o q (HT2.o.ok _ _ HQ.o)
  have t2:=t1.set e1 ⟨3,pc,pv⟩ hok
  have e2:((L.set at_ q).set to_ (⟨3,pc,pv⟩:Q))[to_]?=some ⟨3,pc,pv⟩:=by
   rw [List.getElem?_set,if_pos rfl,if_pos (cN e1)]
  have t3:=t2.sD e2 1
  rw [List.set_set] at t3
  exact⟨to_,d,q,hd,HTo.o,HQ.o,hq1,hq2,HPath.o,t3.later (Below.refl _ _).drew,((dw (dw (ae.of HB2.o) (.inr rfl) _ _) (.inr rfl) _ _).setCell (p:=⟨gb,to_*5,none⟩) (.inr rfl) _).call (Below.refl _ _).drew⟩
 have HF:=aa hfin
 clear hfin
 by_cases hat2:at_=to_
 ·subst hat2
  obtain rfl:q=⟨3,pc,pv⟩:=by have:=HQ.o;rw [HPl.o] at this;exact (Option.some.inj this).symm
  clear q0 q1 q2 q3 q4
  go_region
  go_wp2
  go_end0
  exact⟨rfl,HF.o _ rfl⟩
 ·have hat3:to_≠at_:=λe=>hat2 e.symm
  go_region
  go_wp2
  go_end0
  exact⟨rfl,HF.o _ rfl⟩
end Go.Proofs.YtfmhdimaijimlaaGreatDoor.H.I
namespace Go.Proofs.YtfmhdimaijimlaaGreatDoor.H
variable {V:Type}
theorem D6 {E:List (Cp×V)}(h:(E.map Prod.fst).Nodup){c:Cp}{u v:V}(hu:(c,u)∈E)(hv:(c,v)∈E):u=v:=by
 induction E with
 | nil=>cases hu
 | cons a r ih =>
  rw [List.map_cons,List.nodup_cons] at h
  rcases List.mem_cons.1 hu with h1|h1
  ·rcases List.mem_cons.1 hv with h2|h2
   ·rw [<-h1] at h2;exact (Prod.mk.inj h2).2.symm
   ·exact absurd (List.mem_map.2 ⟨_,h2,by rw [<-h1]⟩) h.1
  ·rcases List.mem_cons.1 hv with h2|h2
   ·exact absurd (List.mem_map.2 ⟨_,h1,by rw [<-h2]⟩) h.1
   ·exact ih h.2 h1 h2
def relabel (p:Pl V):Pl V:=if p.k=1 then ⟨3,p.c,p.v⟩ else if p.k=2 then ⟨0,p.c,p.v⟩ else p
theorem iF {p:Pl V}(h:p.k=1):relabel p=⟨3,p.c,p.v⟩:=by unfold relabel;rw [if_pos h]
theorem iI {p:Pl V}(h:p.k=2):relabel p=⟨0,p.c,p.v⟩:=by unfold relabel;rw [if_neg (by omega),if_pos h]
theorem iB {p:Pl V}(h:p.k≠1)(h2:p.k≠2):relabel p=p:=by unfold relabel;rw [if_neg h,if_neg h2]
theorem qo {p:Pl V}(h:p.k=0\/p.k=1\/p.k=2):eR (relabel p)=eR p:=by
 rcases h with h|h|h
 ·rw [iB (by omega) (by omega)]
 ·rw [iF h];simp [eR,h]
 ·rw [iI h];simp [eR,h]
theorem pt {L:List (Pl V)}(h:∀(i:Nat) (p:Pl V),L[i]?=some p->p.k=0\/p.k=1\/p.k=2):dU (L.map relabel)=dU L:=by
 induction L with
 | nil=>rfl
 | cons a r ih =>
  have h0:=qo (h 0 a rfl)
  have h1:=ih (λi p hp=>h (i+1) p hp)
  unfold dU at h1 ⊢
  rw [List.map_cons,List.filterMap_cons,List.filterMap_cons,h0,h1]
def Up (i:Nat)(L M:List (Pl V)):Prop:=M.length=L.length/\∀j:Nat,M[j]?=if j<i then (L[j]?).map relabel else L[j]?
theorem Up.zero (L:List (Pl V)):Up 0 L L:=⟨rfl,λj=>by simp⟩
theorem Up.at_ {L M:List (Pl V)}(h:Up i L M):M[i]?=L[i]?:=by rw [h.2 i,if_neg (Nat.lt_irrefl _)]
theorem Up.step {i:Nat}{L M:List (Pl V)}(h:Up i L M){p x:Pl V}(hp:L[i]?=some p)(hx:x=relabel p):Up (i+1) L (M.set i x):=by
 refine⟨by rw [List.length_set];exact h.1,λj=>?_⟩
 rw [List.getElem?_set]
 by_cases he:i=j
 ·subst he
  rw [if_pos rfl,if_pos (by rw [h.1];exact cN hp),if_pos (by omega),hp,hx]
  rfl
 ·rw [if_neg he,h.2 j]
  by_cases h1:j<i
  ·rw [if_pos h1,if_pos (by omega)]
  ·rw [if_neg h1,if_neg (by omega)]
theorem Up.same {L M:List (Pl V)}(h:Up i L M){p:Pl V}(hp:L[i]?=some p)(hx:relabel p=p):Up (i+1) L M:=by
 refine⟨h.1,λj=>?_⟩
 rw [h.2 j]
 by_cases h1:j<i
 ·rw [if_pos h1,if_pos (by omega)]
 ·rw [if_neg h1]
  by_cases h2:j=i
  ·subst h2
   rw [if_pos (by omega),hp]
   simp [hx]
  ·rw [if_neg (by omega)]
theorem Up.Gf {L M:List (Pl V)}(h:Up i L M)(hi:L.length<=i):M=L.map relabel:=by
 apply List.ext_getElem?
 intro j
 rw [h.2 j,List.getElem?_map]
 by_cases h1:j<i
 ·rw [if_pos h1]
 ·rw [if_neg h1,List.getElem?_eq_none (by omega)]
  rfl
structure xG (h:Cp->Nat)(L M:List (Pl V))(i:Nat):Prop where
 kinds:∀(j:Nat) (p:Pl V),M[j]?=some p->p.k=0\/p.k=1\/p.k=3
 za:Way h (·=1) M
 perm:(dU M).Perm (dU L)
 gone:∀(j:Nat) (p:Pl V),j<i->M[j]?=some p->p.k≠3
theorem xG.start (h:Cp->Nat){L:List (Pl V)}(hk:∀(i:Nat) (p:Pl V),L[i]?=some p->p.k=0\/p.k=1\/p.k=2):xG h L (L.map relabel) 0:=by
 have key:∀(j:Nat) (p:Pl V),(L.map relabel)[j]?=some p->p.k=0\/p.k=3:=by
  intro j p hp
  rw [List.getElem?_map] at hp
  cases hq:L[j]? with
  | none=>rw [hq] at hp;cases hp
  | some q =>
   rw [hq] at hp
   simp only [Option.map_some,Option.some.injEq] at hp
   subst hp
   rcases hk j q hq with h1|h1|h1
   ·rw [iB (by omega) (by omega)];exact .inl h1
   ·rw [iF h1];exact .inr rfl
   ·rw [iI h1];exact .inl rfl
 refine⟨λj p hp=>?_,λj p hp h1=>?_,by rw [pt hk],λj p hj=>absurd hj (Nat.not_lt_zero _)⟩
 ·rcases key j p hp with h1|h1
  ·exact .inl h1
  ·exact .inr (.inr h1)
 ·rcases key j p hp with h2|h2<;>omega
theorem xG.next {h:Cp->Nat}{L M:List (Pl V)}(m:xG h L M i){p:Pl V}(hp:M[i]?=some p)(hk:p.k≠3):xG h L M (i+1) :=
 ⟨m.kinds,m.za,m.perm,λj q hj hq=>by
  rcases Nat.lt_or_ge j i with h1|h1
  ·exact m.gone j q h1 hq
  ·obtain rfl:j=i:=by omega
   rw [hp] at hq
   cases hq
   exact hk⟩
theorem xG.settle {h:Cp->Nat}{L M:List (Pl V)}(m:xG h L M i){p q:Pl V}(hp:M[i]?=some p)(hk:p.k=3){to_ d:Nat}(hd:d<M.length)(hto:to_=(h p.c+d)%M.length)(hq:M[to_]?=some q)(h1:q.k≠1)(h2:q.k≠2)
  (hpath:∀e,e<d->∀p':Pl V,M[(h p.c+e)%M.length]?=some p'->p'.k=1\/p'.k=2):xG h L ((M.set i q).set to_ ⟨1,p.c,p.v⟩) i/\DG ((M.set i q).set to_ ⟨1,p.c,p.v⟩)<DG M:=by
 have e1:(M.set i q)[to_]?=some q:=by
  rw [List.getElem?_set]
  split
  ·rw [if_pos (cN hp)]
  ·exact hq
 refine⟨⟨?_,?_,?_,?_⟩,?_⟩
 ·intro j x hx
  rcases ay hx with ⟨rfl,rfl⟩|⟨_,h3⟩
  ·exact .inr (.inl rfl)
  ·rcases ay h3 with ⟨rfl,rfl⟩|⟨_,h4⟩
   ·exact m.kinds _ _ hq
   ·exact m.kinds _ _ h4
 ·have w1:Way h (·=1) (M.set i q):=m.za.set (λx hx hx1=>by rw [hp] at hx;cases hx;omega) (λhx=>absurd hx h1)
  refine w1.set (λ_ _ _=>rfl) (λ_=>?_)
  rw [List.length_set]
  refine⟨d,hd,hto,λe he x hx=>?_⟩
  rcases ay hx with ⟨h3,rfl⟩|⟨_,h3⟩
  ·have:=hpath e he p (by rw [h3];exact hp)
   omega
  ·rcases hpath e he x h3 with h4|h4
   ·exact h4
   ·have:=m.kinds _ _ h3
    omega
 ·refine List.Perm.trans (yh hp hq (x:=⟨1,p.c,p.v⟩) ?_) m.perm
  simp [eR,hk]
 ·intro j x hj hx
  rcases ay hx with ⟨rfl,rfl⟩|⟨_,h3⟩
  ·simp
  ·rcases ay h3 with ⟨rfl,rfl⟩|⟨_,h4⟩
   ·omega
   ·exact m.gone _ _ hj h4
 ·have a1:=vj (x:=q) hp
  have a2:=vj (x:=(⟨1,p.c,p.v⟩:Pl V)) e1
  simp only [hk,if_true] at a1
  simp only [show ¬((1:Int)=3) by omega,if_false] at a2
  omega
theorem xG.Gf {h:Cp->Nat}{L M:List (Pl V)}(m:xG h L M i)(hi:M.length<=i):(∀(j:Nat) (p:Pl V),M[j]?=some p->p.k=0\/p.k=1)/\Way h (·≠0) M:=by
 have hk:∀(j:Nat) (p:Pl V),M[j]?=some p->p.k=0\/p.k=1:=λj p hp=>by
  have h1:=m.gone j p (by have:=cN hp;omega) hp
  rcases m.kinds j p hp with h2|h2|h2
  ·exact .inl h2
  ·exact .inr h2
  ·exact absurd h2 h1
 refine⟨hk,λj p hp h1=>?_⟩
 obtain⟨d,a,b,c⟩:=m.za j p hp h1
 exact⟨d,a,b,λe he q hq=>by rw [c e he q hq];decide⟩
end Go.Proofs.YtfmhdimaijimlaaGreatDoor.H
namespace Go.Proofs.YtfmhdimaijimlaaGreatDoor.H.I
open Go.RowKit
def Jr (w:World)(g gb kn mo:Nat)(li:Int)(N:Nat)(L:List Q)(W:World):Prop :=
 ∃M:List Q,Tm W g gb kn mo li ((N:Int) - li) N M/\(∀(j:Nat) (p:Q),M[j]?=some p->p.k=0\/p.k=1)/\Way (hm kn N) (·≠0) M/\(dU M).Perm (dU L)/\ae (In g gb) w W
def D1 (w:World)(g gb kn mo:Nat)(li sp:Int)(N:Nat)(L:List Q)(t:Value)(W:World):Prop :=
 ∃(i:Nat) (M:List Q),i<=N/\t=.int .i64 (i:Int)/\Up i L M/\Tm W g gb kn mo li sp N M/\ae (In g gb) w W
def Eg (w:World)(g gb kn mo:Nat)(li sp:Int)(N:Nat)(L:List Q)(t:Value)(W:World):Prop :=
 ∃(i:Nat) (M:List Q),i<=N/\t=.int .i64 (i:Int)/\xG (hm kn N) L M i/\Tm W g gb kn mo li sp N M/\ae (In g gb) w W
def G7 (w:World)(g gb kn mo:Nat)(li sp:Int)(N:Nat)(L:List Q)(i k:Nat)(t:Value)(W:World):Prop :=
 ∃M:List Q,DG M=k/\xG (hm kn N) L M i/\Tm W g gb kn mo li sp N M/\ae (In g gb) w W
theorem sI {gb mo:Nat}{li sp:Int}{N:Nat}{L:List Q}(h:Tm w g gb kn mo li sp N L)(hk:∀(i:Nat) (p:Q),L[i]?=some p->p.k=0\/p.k=1\/p.k=2)(hl0:0<=li)(hl1:li<=1024) :
  Calls prog 272 #[.pointer (some ⟨g,0,none⟩)] w λe w'=>e=.returned (.tuple #[])/\Jr w g gb kn mo li N L w':=by
 have HH:=aa h
 have HK:=aa hk
 have hpos:=h.pos
 have hbig:=h.eK
 have hlen:=aa h.len
 have x0:=h.a0
 have hne:=h.ne
 clear h hk
 go_enter func272,ntmps272
 go_upto_region 1 with fail
 go_loopw [9] (D1 w g gb kn mo li sp N L) (λt _=>N - (intOf t).toNat)
 case atStart=>exact⟨0,L,Nat.zero_le _,rfl,Up.zero _,HH.o,ae.refl _ _⟩
 case round =>
  obtain⟨i,M,hi,rfl,hU,hT,hB⟩:=hrel
  have HU:=aa hU
  have HT:=aa hT
  have HB:=aa hB
  clear hU hB
  by_cases hlt:i<N
  ·obtain⟨p,hp⟩:=get_some (L:=M) (i:=i) (by rw [hT.len];exact hlt)
   have hpL:Hid (L[i]?=some p):=by unfold Hid;rw [<-HU.o.at_];exact hp
   have y0:=hT.a0
   have c0:=(hT.at_ _ _ hp).c0
   have f0:=hT.fr (i*5)
   have HP:=aa hp
   clear hp hT
   have hc:p.k=1\/p.k=2\/(p.k≠1/\p.k≠2):=by omega
   rcases hc with hk1|hk2|⟨hk1,hk2⟩
   ·have hrl:=aa (iF hk1)
    have hst:=aa (HT.o.sD HP.o 3)
    rw [hk1] at c0
    go_wp2
    refine⟨⟨i+1,_,by omega,by go_num,HU.o.step hpL.out hrl.out.symm,hst.out,HB.o.setCell (p:=⟨gb,i*5,none⟩) (.inr rfl) _⟩,by simp [intOf];omega⟩
   ·have hrl:=aa (iI hk2)
    have hst:=aa (HT.o.sD HP.o 0)
    rw [hk2] at c0
    go_wp2
    refine⟨⟨i+1,_,by omega,by go_num,HU.o.step hpL.out hrl.out.symm,hst.out,HB.o.setCell (p:=⟨gb,i*5,none⟩) (.inr rfl) _⟩,by simp [intOf];omega⟩
   ·have hrl:=aa (iB hk1 hk2)
    have hn1:(p.k==1)=false:=by simpa using hk1
    have hn2:(p.k==2)=false:=by simpa using hk2
    go_wp2
    refine⟨⟨i+1,M,by omega,by go_num,HU.o.same hpL.out hrl.out,HT.o,HB.o⟩,by simp [intOf];omega⟩
  ·obtain rfl:i=N:=by omega
   have hM:=HU.o.Gf (by rw [hlen.out];exact Nat.le_refl _)
   have y0:=hT.a0
   have HM:=aa hM
   clear hT hM
   go_upto_region 10 with fail
   go_loopw [44] (Eg w g gb kn mo li sp i L) (λt _=>i - (intOf t).toNat)
   case atStart=>exact⟨0,M,Nat.zero_le _,rfl,by rw [HM.o];exact xG.start _ HK.o,HT.o,HB.o⟩
   case round =>
    obtain⟨j,M2,hj,rfl,hMi,hT2,hB2⟩:=hrel
    have HMi:=aa hMi
    have HT2:=aa hT2
    have HB2:=aa hB2
    clear hMi hB2
    by_cases hlt2:j<i
    ·clear hT2
     go_upto_region 12 with fail
     go_loopg [55] (DG M2) (G7 w g gb kn mo li sp i L j)
     case atStart=>exact⟨M2,rfl,HMi.o,HT2.o,HB2.o⟩
     case round =>
      obtain⟨M3,hlo,hMi3,hT3,hB3⟩:=hrel
      obtain⟨p,hp⟩:=get_some (L:=M3) (i:=j) (by rw [hT3.len];exact hlt2)
      have z0:=hT3.a0
      have c0:=(hT3.at_ _ _ hp).c0
      have HP:=aa hp
      have HLo:=aa hlo
      have HMi3:=aa hMi3
      have HT3:=aa hT3
      have HB3:=aa hB3
      clear hp hlo hMi3 hT3 hB3
      by_cases hk3:p.k=3
      ·have HK3:=aa hk3
       rw [hk3] at c0
       clear hk3
       go_wp2_with (first|(go_at_call 281;refine (uB HT3.o j p HP.o HK3.o).mono ?_;rintro e w5 ⟨rfl,hS⟩;have HS:=aa hS;clear hS))
       obtain⟨to_,d,q,s1,s2,s3,s4,s5,s6,s7,s8⟩:=HS.o
       have hl3:=HT3.o.len
       obtain⟨m1,m2⟩:=HMi3.o.settle HP.o HK3.o (by rw [hl3];exact s1) (by rw [hl3];exact s2) s3 s4 s5 (by rw [hl3];exact s6)
       go_roundg (DG ((M3.set j q).set to_ ⟨1,p.c,p.v⟩))
       case measure=>rw [<-HLo.o];exact m2
       case rel=>exact⟨_,rfl,m1,s7,HB3.o.trans s8⟩
      ·have hn3:(p.k==3)=false:=by simpa using hk3
       have HN3:=aa hk3
       clear hk3
       go_wp2
       exact⟨⟨j+1,M3,by omega,by go_num,HMi3.o.next HP.o HN3.o,HT3.o,HB3.o⟩,by simp [intOf];omega⟩
    ·obtain rfl:j=i:=by omega
     have z0:=hT2.a0
     have z3:=hT2.a3.1
     have z4:=hT2.a4.1
     have z4':=hT2.a4.2
     have hsp:=aa (hT2.spare ((j:Int) - li))
     clear hT2
     go_wp2
     go_region
     go_wp2
     go_end0
     have hl2:=HT2.o.len
     have he:=HMi.o.Gf (by rw [hl2];exact Nat.le_refl _)
     exact⟨rfl,M2,hsp.out.later (Below.refl _ _).drew,he.1,he.2,HMi.o.perm,(HB2.o.setCell (p:=⟨g,4,none⟩) (.inl rfl) _).call (Below.refl _ _).drew⟩
structure Sl (w:World)(g gb kn mo N:Nat)(L:List Q)(sp:Nat)(E:List (Cp×Int)):Prop where
 tm:Tm w g gb kn mo (E.length:Int) (sp:Int) N L
 kinds:∀(i:Nat) (p:Q),L[i]?=some p->p.k=0\/p.k=1\/p.k=2
 za:Way (hm kn N) (·≠0) L
 perm:(dU L).Perm E
 nodup:(E.map Prod.fst).Nodup
 free:sw L=sp
 GG:E.length<=mo
 m1:1<=mo
 m2:2*mo<=N
def Tb (w:World)(g gb kn mo N:Nat)(E:List (Cp×Int)):Prop:=∃L sp,Sl w g gb kn mo N L sp E
theorem Sl.but {S:Nat->Prop}{gb mo N:Nat}{L:List Q}{sp:Nat}{E:List (Cp×Int)}(hb:ae S w w')(h:Sl w g gb kn mo N L sp E)(h1:¬S g)(h2:¬S gb):Sl w' g gb kn mo N L sp E :=
 ⟨h.tm.but hb h1 h2,h.kinds,h.za,h.perm,h.nodup,h.free,h.GG,h.m1,h.m2⟩
theorem Sl.later {gb mo N:Nat}{L:List Q}{sp:Nat}{E:List (Cp×Int)}(hb:Below w.heap.size w w')(h:Sl w g gb kn mo N L sp E):Sl w' g gb kn mo N L sp E:=h.but (S:=λ_=>False) (ae.of hb) (λh=>h) (λh=>h)
theorem Sl.alloc {gb mo N:Nat}{L:List Q}{sp:Nat}{E:List (Cp×Int)}(h:Sl w g gb kn mo N L sp E)(o:Obj):Sl (w.alloc o) g gb kn mo N L sp E:=h.later (ab _ _)
theorem Tb.but {S:Nat->Prop}{gb mo N:Nat}{E:List (Cp×Int)}(hb:ae S w w')(h:Tb w g gb kn mo N E)(h1:¬S g)(h2:¬S gb):Tb w' g gb kn mo N E:=by
 obtain⟨L,sp,h⟩:=h;exact⟨L,sp,h.but hb h1 h2⟩
theorem Tb.later {gb mo N:Nat}{E:List (Cp×Int)}(hb:Below w.heap.size w w')(h:Tb w g gb kn mo N E):Tb w' g gb kn mo N E:=by
 obtain⟨L,sp,h⟩:=h;exact⟨L,sp,h.later hb⟩
theorem Tb.lt {gb mo N:Nat}{E:List (Cp×Int)}(h:Tb w g gb kn mo N E):g<w.heap.size:=by obtain⟨L,sp,h⟩:=h;exact h.tm.lt
theorem Tb.oN {gb mo N:Nat}{E:List (Cp×Int)}(h:Tb w g gb kn mo N E):gb<w.heap.size:=by obtain⟨L,sp,h⟩:=h;exact h.tm.oN
theorem Tb.nodup {gb mo N:Nat}{E:List (Cp×Int)}(h:Tb w g gb kn mo N E):(E.map Prod.fst).Nodup:=by obtain⟨L,sp,h⟩:=h;exact h.nodup
theorem Tb.small {gb mo N:Nat}{E:List (Cp×Int)}(h:Tb w g gb kn mo N E):mo<=512:=by obtain⟨L,sp,h⟩:=h;have:=h.tm.eK;have:=h.m2;omega
theorem Sl.mem {gb mo N:Nat}{L:List Q}{sp:Nat}{E:List (Cp×Int)}(h:Sl w g gb kn mo N L sp E){p:Q}(hp:L[i]?=some p)(hk:p.k=1):(p.c,p.v)∈E:=h.perm.mem_iff.1 (AG hp hk)
theorem Sl.there {gb mo N:Nat}{L:List Q}{sp:Nat}{E:List (Cp×Int)}(h:Sl w g gb kn mo N L sp E){c:Cp}(hc:c∈E.map Prod.fst):∃(i:Nat) (p:Q),L[i]?=some p/\p.k=1/\p.c=c:=by
 obtain⟨y,hy,rfl⟩:=List.mem_map.1 hc
 obtain⟨i,p,hp,hk,rfl⟩:=zY (h.perm.mem_iff.2 hy) h.kinds
 exact⟨i,p,hp,hk,rfl⟩
theorem iE {gb mo N:Nat}{L:List Q}{sp:Nat}{E:List (Cp×Int)}(h:Sl w g gb kn mo N L sp E)(o:Int)(hi lo:Nat)(h1:hi<ak)(h2:lo<ak)(hc:(o,hi,lo)∈E.map Prod.fst) :
  Calls prog 270 #[.pointer (some ⟨g,0,none⟩),.agg #[.int .i64 o,.int .u64 (hi:Int),.int .u64 (lo:Int)]] w λe w'=>∃(i:Nat) (v:Int),L[i]?=some ⟨1,(o,hi,lo),v⟩/\e=.returned (.tuple #[.int .i64 (i:Int),.bool true])/\Below w.heap.size w w':=by
 refine (q5 h.tm h.za o hi lo h1 h2).mono ?_
 rintro e w' ⟨⟨i,p,hp,hk,hpc,he⟩|⟨hn,he⟩,hb⟩
 ·refine⟨i,p.v,?_,he,hb⟩
  rw [hp,<-hk,<-hpc]
 ·obtain⟨i,p,hp,hk,hpc⟩:=h.there hc
  exact absurd hpc (hn i p hp hk)
theorem gV {gb mo N:Nat}{L:List Q}{sp:Nat}{E:List (Cp×Int)}(h:Sl w g gb kn mo N L sp E)(o:Int)(hi lo:Nat)(h1:hi<ak)(h2:lo<ak)(hc:(o,hi,lo)∉E.map Prod.fst) :
  Calls prog 270 #[.pointer (some ⟨g,0,none⟩),.agg #[.int .i64 o,.int .u64 (hi:Int),.int .u64 (lo:Int)]] w λe w'=>e=.returned (.tuple #[.int .i64 0,.bool false])/\Below w.heap.size w w':=by
 refine (q5 h.tm h.za o hi lo h1 h2).mono ?_
 rintro e w' ⟨⟨i,p,hp,hk,hpc,he⟩|⟨hn,he⟩,hb⟩
 ·exact absurd (List.mem_map.2 ⟨_,h.mem hp hk,hpc⟩) hc
 ·exact⟨he,hb⟩
theorem get_none {gb mo N:Nat}{E:List (Cp×Int)}(h:Tb w g gb kn mo N E)(o:Int)(hi lo:Nat)(h1:hi<ak)(h2:lo<ak)(hc:(o,hi,lo)∉E.map Prod.fst) :
  Calls prog 258 #[.pointer (some ⟨g,0,none⟩),.agg #[.int .i64 o,.int .u64 (hi:Int),.int .u64 (lo:Int)]] w λe w'=>e=.returned (.tuple #[.int .i64 0,.bool false])/\Below w.heap.size w w':=by
 obtain⟨L,sp,h⟩:=h
 have HH:=aa h
 have HC:=aa hc
 clear h hc
 go_enter func258,ntmps258
 go_wp2_with (first|(go_at_call 270;refine (gV (HH.o.alloc _) o hi lo h1 h2 HC.o).mono ?_;rintro e w2 ⟨rfl,hb2⟩;have HB2:=aa (al (ab _ _) hb2);clear hb2))
 exact bodyPost_ret (v:=.tuple #[.int .i64 0,.bool false]) (by simp [results,results258,go_sem]) rfl ⟨rfl,HB2.o⟩
theorem yb {gb mo N:Nat}{E:List (Cp×Int)}(h:Tb w g gb kn mo N E)(o:Int)(hi lo:Nat)(h1:hi<ak)(h2:lo<ak)(hc:(o,hi,lo)∉E.map Prod.fst) :
  Calls prog 260 #[.pointer (some ⟨g,0,none⟩),.agg #[.int .i64 o,.int .u64 (hi:Int),.int .u64 (lo:Int)]] w λe w'=>e=.returned (.bool false)/\Below w.heap.size w w':=by
 obtain⟨L,sp,h⟩:=h
 have HH:=aa h
 have HC:=aa hc
 clear h hc
 go_enter func260,ntmps260
 go_wp2_with (first|(go_at_call 270;refine (gV (HH.o.alloc _) o hi lo h1 h2 HC.o).mono ?_;rintro e w2 ⟨rfl,hb2⟩;have HB2:=aa (al (ab _ _) hb2);clear hb2))
 go_ret
 exact⟨rfl,HB2.o⟩
theorem Sl.drop {gb mo N:Nat}{L:List Q}{sp:Nat}{E E':List (Cp×Int)}(h:Sl w g gb kn mo N L sp E){c:Cp}{v:Int}(hp:L[i]?=some ⟨1,c,v⟩)(z:Int){n:Int}(hn:n=(E.length:Int) - 1)(hE:E.Perm ((c,v)::E')) :
  Sl ((iC w gb (i*5) ⟨2,(0,0,0),z⟩).setCell ⟨g,3,none⟩ (.int .i64 n)) g gb kn mo N (L.set i ⟨2,(0,0,0),z⟩) sp E':=by
 have hl:=hE.length_eq
 rw [List.length_cons] at hl
 have hn':n=(E'.length:Int):=by omega
 have hnd:=(hE.map Prod.fst).nodup_iff.1 h.nodup
 rw [List.map_cons,List.nodup_cons] at hnd
 have hm:=h.GG
 refine⟨?_,?_,?_,?_,hnd.2,?_,by omega,h.m1,h.m2⟩
 ·have t:=(h.tm.set hp ⟨2,(0,0,0),z⟩ ⟨show (0:Nat)<ak by decide,show (0:Nat)<ak by decide⟩).live n
  rw [<-hn']
  exact t
 ·intro j x hx
  rcases ay hx with ⟨rfl,rfl⟩|⟨_,h3⟩
  ·exact .inr (.inr rfl)
  ·exact h.kinds _ _ h3
 ·exact h.za.set (λ_ _ _=>show (2:Int)≠0 by decide) (λhx=>absurd hx (show ¬(2:Int)=1 by decide))
 ·have hd:=A8 (x:=(⟨2,(0,0,0),z⟩:Q)) (y:=(c,v)) hp (by simp [eR]) (by simp [eR])
  exact (hd.symm.trans (h.perm.trans hE)).cons_inv
 ·rw [zI hp (show (1:Int)≠0 by decide) (show (2:Int)≠0 by decide)]
  exact h.free
theorem o_ {gb mo N:Nat}{E:List (Cp×Int)}(h:Tb w g gb kn mo N E)(o:Int)(hi lo:Nat)(h1:hi<ak)(h2:lo<ak)(v:Int)(hc:((o,hi,lo),v)∈E)(E':List (Cp×Int))(hE:E.Perm (((o,hi,lo),v)::E')) :
  Calls prog 260 #[.pointer (some ⟨g,0,none⟩),.agg #[.int .i64 o,.int .u64 (hi:Int),.int .u64 (lo:Int)]] w λe w'=>e=.returned (.bool true)/\Tb w' g gb kn mo N E'/\ae (In g gb) w w':=by
 obtain⟨L,sp,h⟩:=h
 have HH:=aa h
 have HC:Hid ((o,hi,lo)∈E.map Prod.fst):=List.mem_map.2 ⟨_,hc,rfl⟩
 have hne:=h.tm.ne
 have hbig:=h.tm.eK
 have hm:=h.GG
 have hm2:=h.m2
 clear h hc
 go_enter func260,ntmps260
 go_upto_region 4 with (first|(go_at_call 270;refine (iE (HH.o.alloc _) o hi lo h1 h2 HC.o).mono ?_;rintro e w2 ⟨i,u,hi_,rfl,hb2⟩;have HI:=aa hi_;have HB2:=aa (al (ab _ _) hb2);clear hb2 hi_))
 have hS:=HH.o.later HB2.o
 have hilt:i<N:=by rw [<-hS.tm.len];exact cN HI.o
 obtain⟨p0,p1,p2,p3,p4⟩:=hS.tm.at_ _ _ HI.o
 have z0:=hS.tm.a0
 have z3:=hS.tm.a3.1
 have z3':=hS.tm.a3.2
 have hfr:=hS.tm.fr
 have HS:=aa hS
 have hu:u=v:=by
  have m1:=HS.o.mem HI.o rfl
  rcases List.mem_cons.1 (hE.mem_iff.1 m1) with h3|h3
  ·exact (Prod.mk.inj h3).2
  ·have hnd:=(hE.map Prod.fst).nodup_iff.1 HS.o.nodup
   rw [List.map_cons,List.nodup_cons] at hnd
   exact absurd (List.mem_map.2 ⟨_,h3,rfl⟩) hnd.1
 subst hu
 have hfin:∀W:World,W=(iC w2 gb (i*5) ⟨2,(0,0,0),0⟩).setCell ⟨g,3,none⟩ (.int .i64 ((E.length:Int) - 1))->Tb W g gb kn mo N E'/\ae (In g gb) w W:=by
  rintro W rfl
  exact⟨⟨_,_,HS.o.drop HI.o 0 rfl hE⟩,(dw (ae.of HB2.o) (.inr rfl) _ _).setCell (p:=⟨g,3,none⟩) (.inl rfl) _⟩
 have HF:=aa hfin
 clear hS hE hfin
 go_wp2
 go_ret
 exact⟨rfl,HF.o _ rfl⟩
theorem GH {gb mo N:Nat}{E:List (Cp×Int)}(h:Tb w g gb kn mo N E)(o:Int)(hi lo:Nat)(h1:hi<ak)(h2:lo<ak)(v:Int)(hc:((o,hi,lo),v)∈E) :
  Calls prog 258 #[.pointer (some ⟨g,0,none⟩),.agg #[.int .i64 o,.int .u64 (hi:Int),.int .u64 (lo:Int)]] w λe w'=>e=.returned (.tuple #[.int .i64 v,.bool true])/\Below w.heap.size w w':=by
 obtain⟨L,sp,h⟩:=h
 have HH:=aa h
 have HM:=aa hc
 have HC:Hid ((o,hi,lo)∈E.map Prod.fst):=List.mem_map.2 ⟨_,hc,rfl⟩
 clear h hc
 go_enter func258,ntmps258
 go_upto_region 5 with (first|(go_at_call 270;refine (iE (HH.o.alloc _) o hi lo h1 h2 HC.o).mono ?_;rintro e w2 ⟨i,u,hi_,rfl,hb2⟩;have HI:=aa hi_;have HB2:=aa (al (ab _ _) hb2);clear hb2 hi_))
 have hS:=HH.o.later HB2.o
 have hilt:i<N:=by rw [<-hS.tm.len];exact cN HI.o
 have hbig:=hS.tm.eK
 have hP:=hS.tm.at_ _ _ HI.o
 have p4:=hP.c4
 have z0:=hS.tm.a0
 have hu:u=v:=by
  have m1:=hS.mem HI.o rfl
  exact D6 hS.nodup m1 HM.o
 subst hu
 clear hS hP
 go_wp2
 exact bodyPost_ret (v:=.tuple #[.int .i64 u,.bool true]) (by simp [results,results258,go_sem]) rfl ⟨rfl,HB2.o⟩
structure x_ (w w5:World)(g gb kn mo N:Nat)(E:List (Cp×Int))(M:List Q)(sq:Nat)(o:Int)(hi lo:Nat)(v:Int):Prop where
 tm:Tm w5 g gb kn mo (E.length:Int) (sq:Int) N M
 kinds:∀(i:Nat) (p:Q),M[i]?=some p->p.k=0\/p.k=1\/p.k=2
 za:Way (hm kn N) (·≠0) M
 perm:(dU M).Perm E
 nodup:(E.map Prod.fst).Nodup
 free:sw M=sq
 pos:1<=sq
 m1:1<=mo
 m2:2*mo<=N
 but:ae (In g gb) w w5
 bx:Bx w5 w.heap.size o hi lo
theorem x_.some {w5:World}{gb mo N:Nat}{E:List (Cp×Int)}{M:List Q}{sq:Nat}{o:Int}{hi lo:Nat}{v:Int}(h:x_ w w5 g gb kn mo N E M sq o hi lo v):∃(i:Nat) (p:Q),M[i]?=some p/\p.k≠1/\p.k≠2:=by
 obtain⟨i,p,hp,hk⟩:=Ba (L:=M) (by rw [h.free];exact h.pos)
 exact⟨i,p,hp,by omega,by omega⟩
theorem x_.put {w w5 w6:World}{g gb kn mo N:Nat}{E:List (Cp×Int)}{M:List Q}{sq:Nat}{o:Int}{hi lo:Nat}{v:Int}(h:x_ w w5 g gb kn mo N E M sq o hi lo v)(hb:Below w5.heap.size w5 w6)(h1:hi<ak)(h2:lo<ak)(hc:(o,hi,lo)∉E.map Prod.fst)(hl:E.length<mo){to_ d:Nat}{q:Q}(hd:d<N)(hto:to_=(hm kn N (o,hi,lo)+d)%N)(hq:M[to_]?=Option.some q)(hq1:q.k≠1)(hq2:q.k≠2)
  (hpath:∀e,e<d->∀p:Q,M[(hm kn N (o,hi,lo)+e)%N]?=Option.some p->p.k=1\/p.k=2) :
  Tb (((iC w6 gb (to_*5) ⟨1,(o,hi,lo),v⟩).setCell ⟨g,3,none⟩ (.int .i64 ((E.length:Int)+1))).setCell ⟨g,4,none⟩ (.int .i64 ((sq:Int) - 1))) g gb kn mo N (E++[((o,hi,lo),v)]):=by
 have hk0:q.k=0:=by
  rcases h.kinds _ _ hq with h3|h3|h3<;>omega
 have hlen:=h.tm.len
 refine⟨M.set to_ ⟨1,(o,hi,lo),v⟩,sq - 1,?_,?_,?_,?_,?_,?_,?_,h.m1,h.m2⟩
 ·have t:=(((h.tm.later hb).set hq ⟨1,(o,hi,lo),v⟩ ⟨h1,h2⟩).live ((E.length:Int)+1)).spare ((sq:Int) - 1)
  have e1:((E++[((o,hi,lo),v)]).length:Int)=(E.length:Int)+1:=by simp
  have e2:((sq - 1:Nat):Int)=(sq:Int) - 1:=by have:=h.pos;omega
  rw [e1,e2]
  exact t
 ·intro j x hx
  rcases ay hx with ⟨rfl,rfl⟩|⟨_,h3⟩
  ·exact .inr (.inl rfl)
  ·exact h.kinds _ _ h3
 ·refine h.za.set (λ_ _ _=>show (1:Int)≠0 by decide) (λ_=>?_)
  rw [hlen]
  refine⟨d,hd,hto,λe he p hp=>?_⟩
  rcases hpath e he p hp with h3|h3<;>(show p.k≠0)<;>omega
 ·have ha:=qT (x:=(⟨1,(o,hi,lo),v⟩:Q)) (y:=((o,hi,lo),v)) hq (by simp [eR,hk0]) (by simp [eR])
  exact (ha.trans (h.perm.cons _)).trans (List.perm_append_comm (l₁:=[((o,hi,lo),v)]))
 ·rw [List.map_append,List.nodup_append]
  refine⟨h.nodup,by simp,?_⟩
  intro a ha b hb2 heq
  simp only [List.map_cons,List.map_nil,List.mem_singleton] at hb2
  subst hb2 heq
  exact hc ha
 ·have hf:=DW (x:=(⟨1,(o,hi,lo),v⟩:Q)) hq hk0 (show (1:Int)≠0 by decide)
  have hf2:=h.free
  omega
 ·rw [List.length_append]
  simp
  omega
theorem wV {gb mo N:Nat}{E:List (Cp×Int)}(h:Tb w g gb kn mo N E)(o:Int)(hi lo:Nat)(v:Int)(h1:hi<ak)(h2:lo<ak)(hc:(o,hi,lo)∈E.map Prod.fst) :
  Calls prog 252 #[.pointer (some ⟨g,0,none⟩),.agg #[.int .i64 o,.int .u64 (hi:Int),.int .u64 (lo:Int)],.int .i64 v] w λe w'=>e=.returned (.int .i64 19)/\Below w.heap.size w w':=by
 obtain⟨L,sp,h⟩:=h
 have HH:=aa h
 have HC:=aa hc
 clear h hc
 go_enter func252,ntmps252
 go_wp2_with (first|(go_at_call 270;refine (iE (HH.o.later (ab _ _)) o hi lo h1 h2 HC.o).mono ?_;rintro e w2 ⟨i,u,hi_,rfl,hb2⟩;have HB2:=aa (al (ab _ _) hb2);clear hb2 hi_))
 go_ret
 exact⟨rfl,HB2.o⟩
theorem Ci {gb mo N:Nat}{E:List (Cp×Int)}(h:Tb w g gb kn mo N E)(o:Int)(hi lo:Nat)(v:Int)(h1:hi<ak)(h2:lo<ak)(hc:(o,hi,lo)∉E.map Prod.fst)(hlt:E.length=mo) :
  Calls prog 252 #[.pointer (some ⟨g,0,none⟩),.agg #[.int .i64 o,.int .u64 (hi:Int),.int .u64 (lo:Int)],.int .i64 v] w λe w'=>e=.returned (.int .i64 10)/\Below w.heap.size w w':=by
 obtain⟨L,sp,h⟩:=h
 have HH:=aa h
 have HC:=aa hc
 clear h hc
 have HL:=aa hlt
 clear hlt
 go_enter func252,ntmps252
 go_upto_region 4 with (first|(go_at_call 270;refine (gV (HH.o.later (ab _ _)) o hi lo h1 h2 HC.o).mono ?_;rintro e w2 ⟨rfl,hb2⟩;have HB2:=aa (al (ab _ _) hb2);clear hb2))
 have hS:=HH.o.later HB2.o
 have z3:=hS.tm.a3.1
 rw [HL.o] at z3
 have z2:=hS.tm.a2
 clear hS
 go_quiet (fail)
 go_wp2
 go_ret
 exact⟨rfl,below_drewN HB2.o _⟩
theorem tw {gb mo N:Nat}{E:List (Cp×Int)}(h:Tb w g gb kn mo N E)(o:Int)(hi lo:Nat)(v:Int)(h1:hi<ak)(h2:lo<ak)(hc:(o,hi,lo)∉E.map Prod.fst)(hlt:E.length<mo) :
  Calls prog 252 #[.pointer (some ⟨g,0,none⟩),.agg #[.int .i64 o,.int .u64 (hi:Int),.int .u64 (lo:Int)],.int .i64 v] w λe w'=>e=.returned (.int .i64 0)/\Tb w' g gb kn mo N (E++[((o,hi,lo),v)])/\ae (In g gb) w w':=by
 obtain⟨L,sp,h⟩:=h
 have HH:=aa h
 have HC:=aa hc
 have hpos:=h.tm.pos
 have hbig:=h.tm.eK
 have hm2:=h.m2
 have hne:¬g=gb:=h.tm.ne
 have hl1:=h.tm.lt
 have hl2:=h.tm.oN
 have hsp:sp<=1024:=by have:=sC L;rw [h.free,h.tm.len] at this;omega
 have hnb:¬w.heap.size=gb:=by omega
 have hnin:Hid (¬In g gb w.heap.size):=by rintro (h3|h3)<;>omega
 clear h hc
 go_enter func252,ntmps252
 go_upto_region 4 with (first|(go_at_call 270;refine (gV (HH.o.later (ab _ _)) o hi lo h1 h2 HC.o).mono ?_;rintro e w2 ⟨rfl,hb2⟩;have HB2:=aa (al (ab _ _) hb2);have BX:=aa ((Bx.new w o hi lo).later hb2);clear hb2))
 have hS:=HH.o.later HB2.o
 have z3:=hS.tm.a3.1
 have z2:=hS.tm.a2
 have HS2:=aa hS
 clear hS
 go_quiet (fail)
 by_cases hrare:4*sp<N
 ·have hd:decide (4*sp<N)=true:=dT hrare
  clear hrare
  go_upto_region 8 with (first|(go_at_call 272;refine (sI HT3.o HS2.o.kinds (by omega) (by omega)).mono ?_;rintro e w4 ⟨rfl,hA⟩;have HA:=aa hA;clear hA)|(go_at_call 271;refine (rW (HS2.o.tm.later (below_drewN (Below.refl _ _) _)) hsp).mono ?_;rintro e w3 ⟨rfl,hb3⟩;rw [hd];have HB3:=aa (al (below_drewN (Below.refl _ _) _) hb3);have HT3:=aa (HS2.o.tm.later HB3.o);clear hb3))
  obtain⟨w5,sq,M,hw5,RP⟩:∃(w5:World) (sq:Nat) (M:List Q),w5=w4/\Hid (x_ w w5 g gb kn mo N E M sq o hi lo v):=by
   obtain⟨M,hT4,hk4,hw4,hp4,hb4⟩:=HA.o
   have hl4:=(hp4.trans HS2.o.perm).length_eq
   have hfa:=Dt hk4
   rw [hT4.len,hl4] at hfa
   refine⟨w4,N - E.length,M,rfl,⟨?_,λi p hp=>?_,hw4,hp4.trans HS2.o.perm,HS2.o.nodup,by omega,by omega,HS2.o.m1,hm2,(ae.of (al HB2.o HB3.o)).trans hb4,(BX.out.later HB3.o).but hb4 hnin.out⟩⟩
   ·have e1:((N - E.length:Nat):Int)=(N:Int) - (E.length:Int):=by omega
    rw [e1]
    exact hT4
   ·rcases hk4 i p hp with h3|h3
    ·exact .inl h3
    ·exact .inr (.inl h3)
  rw [<-hw5]
  clear hw5 HA z3 z2
  have hfin:∀(W w6:World) (to_ d:Nat) (q:Q),Below w5.heap.size w5 w6->d<N->to_=(hm kn N (o,hi,lo)+d)%N->M[to_]?=some q->q.k≠1->q.k≠2->(∀e,e<d->∀p:Q,M[(hm kn N (o,hi,lo)+e)%N]?=some p->p.k=1\/p.k=2) ->
    W=((iC w6 gb (to_*5) ⟨1,(o,hi,lo),v⟩).setCell ⟨g,3,none⟩ (.int .i64 ((E.length:Int)+1))).setCell ⟨g,4,none⟩ (.int .i64 ((sq:Int) - 1))->Tb W g gb kn mo N (E++[((o,hi,lo),v)])/\ae (In g gb) w W:=by
   rintro W w6 to_ d q hb hd hto hq hq1 hq2 hpath rfl
   exact⟨RP.out.put hb h1 h2 HC.o hlt hd hto hq hq1 hq2 hpath,((dw (RP.out.but.call hb) (.inr rfl) _ _).setCell (p:=⟨g,3,none⟩) (.inl rfl) _).setCell (p:=⟨g,4,none⟩) (.inl rfl) _⟩
  have HF:=aa hfin
  clear hfin
  have hex:=aa RP.out.some
  have hsq1:1<=sq:=RP.out.pos
  have hsq2:sq<=1024:=by have h3:=sC M;rw [RP.out.free,RP.out.tm.len] at h3;omega
  have hC:Hid (∀U:World,ae (·=gb) w5 U->(U.cell? ⟨g,0,none⟩=some (.slice (some ⟨gb,0,none⟩) N N)/\U.cell? ⟨w.heap.size,0,none⟩=some (.int .i64 o)/\U.cell? ⟨w.heap.size,1,none⟩=some (.int .u64 (hi:Int))/\U.cell? ⟨w.heap.size,2,none⟩=some (.int .u64 (lo:Int)))/\ae (·=gb) w5 U):=λU hU=>⟨⟨aC hU RP.out.tm.a0 hne,aC hU RP.out.bx.c0 hnb,aC hU RP.out.bx.c1 hnb,aC hU RP.out.bx.c2 hnb⟩,hU⟩
  obtain⟨z0,b0,b1,b2⟩:=(hC.out w5 (ae.refl _ _)).1
  go_region_held3 (λU=>(U.cell? ⟨g,0,none⟩=some (.slice (some ⟨gb,0,none⟩) N N)/\U.cell? ⟨w.heap.size,0,none⟩=some (.int .i64 o)/\U.cell? ⟨w.heap.size,1,none⟩=some (.int .u64 (hi:Int))/\U.cell? ⟨w.heap.size,2,none⟩=some (.int .u64 (lo:Int)))/\ae (·=gb) w5 U) (first|exact hC.out _ hst.out|exact hC.out _ hb6.out|exact hC.out _ (ae.of (Below.refl _ _).drew)) (first|(go_at_call 273;refine (me (RP.out.tm.later (Below.refl _ _).drew) hex.out o hi lo h1 h2).mono ?_;rintro e w6 ⟨⟨to_,d,q,s1,s2,s3,s4,s5,s6,rfl⟩,hb6'⟩;have HS:=aa (And.intro s1 (And.intro s2 (And.intro s3 (And.intro s4 (And.intro s5 s6)))));have hb7:=aa (al (Below.refl w5.heap.size w5).drew hb6');have hb6:=aa (ae.of (S:=(·=gb)) hb7.out);have hst:=aa (dw (S:=(·=gb)) hb6.out (b:=gb) (by rfl) (to_*5) ⟨1,(o,hi,lo),v⟩);have hto2:to_<N:=(by rw [s2];exact Nat.mod_lt _ hpos);have T6:=aa (RP.out.tm.later hb7.out);clear s1 s2 s4 s5 s6 hb6';obtain⟨p0,p1,p2,p3,p4⟩:=T6.out.at_ _ _ s3;have y3:=T6.out.a3.1;have y3':=T6.out.a3.2;have y4:=T6.out.a4.1;have y4':=T6.out.a4.2;have hfr:=T6.out.fr;clear s3))
  go_wp2
  go_ret
  obtain⟨s1,s2,s3,s4,s5,s6⟩:=HS.o
  exact⟨rfl,HF.o _ w6 to_ d q hb7.out s1 s2 s3 s4 s5 s6 rfl⟩
 ·have hd:decide (4*sp<N)=false:=dF hrare
  have hsp1:1<=sp:=by omega
  clear hrare
  go_upto_region 8 with (first|(go_at_call 271;refine (rW (HS2.o.tm.later (below_drewN (Below.refl _ _) _)) hsp).mono ?_;rintro e w3 ⟨rfl,hb3⟩;rw [hd];have HB3:=aa (al (below_drewN (Below.refl _ _) _) hb3);clear hb3))
  obtain⟨w5,sq,M,hw5,RP⟩:∃(w5:World) (sq:Nat) (M:List Q),w5=w3/\Hid (x_ w w5 g gb kn mo N E M sq o hi lo v) :=
   ⟨w3,sp,L,rfl,⟨HS2.o.tm.later HB3.o,HS2.o.kinds,HS2.o.za,HS2.o.perm,HS2.o.nodup,HS2.o.free,hsp1,HS2.o.m1,hm2,ae.of (al HB2.o HB3.o),BX.out.later HB3.o⟩⟩
  rw [<-hw5]
  clear hw5 z3 z2
  have hfin:∀(W w6:World) (to_ d:Nat) (q:Q),Below w5.heap.size w5 w6->d<N->to_=(hm kn N (o,hi,lo)+d)%N->M[to_]?=some q->q.k≠1->q.k≠2->(∀e,e<d->∀p:Q,M[(hm kn N (o,hi,lo)+e)%N]?=some p->p.k=1\/p.k=2) ->
    W=((iC w6 gb (to_*5) ⟨1,(o,hi,lo),v⟩).setCell ⟨g,3,none⟩ (.int .i64 ((E.length:Int)+1))).setCell ⟨g,4,none⟩ (.int .i64 ((sq:Int) - 1))->Tb W g gb kn mo N (E++[((o,hi,lo),v)])/\ae (In g gb) w W:=by
   rintro W w6 to_ d q hb hd hto hq hq1 hq2 hpath rfl
   exact⟨RP.out.put hb h1 h2 HC.o hlt hd hto hq hq1 hq2 hpath,((dw (RP.out.but.call hb) (.inr rfl) _ _).setCell (p:=⟨g,3,none⟩) (.inl rfl) _).setCell (p:=⟨g,4,none⟩) (.inl rfl) _⟩
  have HF:=aa hfin
  clear hfin
  have hex:=aa RP.out.some
  have hsq1:1<=sq:=RP.out.pos
  have hsq2:sq<=1024:=by have h3:=sC M;rw [RP.out.free,RP.out.tm.len] at h3;omega
  have hC:Hid (∀U:World,ae (·=gb) w5 U->(U.cell? ⟨g,0,none⟩=some (.slice (some ⟨gb,0,none⟩) N N)/\U.cell? ⟨w.heap.size,0,none⟩=some (.int .i64 o)/\U.cell? ⟨w.heap.size,1,none⟩=some (.int .u64 (hi:Int))/\U.cell? ⟨w.heap.size,2,none⟩=some (.int .u64 (lo:Int)))/\ae (·=gb) w5 U):=λU hU=>⟨⟨aC hU RP.out.tm.a0 hne,aC hU RP.out.bx.c0 hnb,aC hU RP.out.bx.c1 hnb,aC hU RP.out.bx.c2 hnb⟩,hU⟩
  obtain⟨z0,b0,b1,b2⟩:=(hC.out w5 (ae.refl _ _)).1
  go_region_held3 (λU=>(U.cell? ⟨g,0,none⟩=some (.slice (some ⟨gb,0,none⟩) N N)/\U.cell? ⟨w.heap.size,0,none⟩=some (.int .i64 o)/\U.cell? ⟨w.heap.size,1,none⟩=some (.int .u64 (hi:Int))/\U.cell? ⟨w.heap.size,2,none⟩=some (.int .u64 (lo:Int)))/\ae (·=gb) w5 U) (first|exact hC.out _ hst.out|exact hC.out _ hb6.out|exact hC.out _ (ae.of (Below.refl _ _).drew)) (first|(go_at_call 273;refine (me (RP.out.tm.later (Below.refl _ _).drew) hex.out o hi lo h1 h2).mono ?_;rintro e w6 ⟨⟨to_,d,q,s1,s2,s3,s4,s5,s6,rfl⟩,hb6'⟩;have HS:=aa (And.intro s1 (And.intro s2 (And.intro s3 (And.intro s4 (And.intro s5 s6)))));have hb7:=aa (al (Below.refl w5.heap.size w5).drew hb6');have hb6:=aa (ae.of (S:=(·=gb)) hb7.out);have hst:=aa (dw (S:=(·=gb)) hb6.out (b:=gb) (by rfl) (to_*5) ⟨1,(o,hi,lo),v⟩);have hto2:to_<N:=(by rw [s2];exact Nat.mod_lt _ hpos);have T6:=aa (RP.out.tm.later hb7.out);clear s1 s2 s4 s5 s6 hb6';obtain⟨p0,p1,p2,p3,p4⟩:=T6.out.at_ _ _ s3;have y3:=T6.out.a3.1;have y3':=T6.out.a3.2;have y4:=T6.out.a4.1;have y4':=T6.out.a4.2;have hfr:=T6.out.fr;clear s3))
  go_wp2
  go_ret
  obtain⟨s1,s2,s3,s4,s5,s6⟩:=HS.o
  exact⟨rfl,HF.o _ w6 to_ d q hb7.out s1 s2 s3 s4 s5 s6 rfl⟩
def Hg (w:World)(mo:Nat)(t:Value)(w':World):Prop:=∃n:Nat,2<=n/\n<4*mo/\t=.int .i64 (n:Int)/\w'=w
theorem tM (w:World)(mo:Nat)(h1:1<=mo)(h2:mo<=256) :
  Calls prog 132 #[.int .i64 (mo:Int)] w λe w'=>(∃N:Nat,2*mo<=N/\N<=1024/\e=.returned (.int .i64 (N:Int)))/\w'=w:=by
 go_enter func132,ntmps132
 go_wp2
 go_loopw [3] (Hg w mo) (λt _=>1024 - (intOf t).toNat)
 case atStart=>exact⟨2,by omega,by omega,rfl,rfl⟩
 case round =>
  obtain⟨n,hn,hn2,rfl,rfl⟩:=hrel
  by_cases hlt:n<2*mo
  ·have hlt2:(n:Int)<2*(mo:Int):=by omega
   go_wp2
   exact⟨⟨n*2,by omega,by omega,by go_num,rfl⟩,by simp [intOf];omega⟩
  ·have hlt2:¬(n:Int)<2*(mo:Int):=by omega
   go_wp2
   go_ret
   exact⟨⟨n,by omega,by omega,rfl⟩,rfl⟩
theorem D_:(prog.info? 365).map (λi=>(i.zero,i.size,i.bytes))=some (some (.agg #[.int .i64 0,.int .i64 0,.int .u64 0,.int .u64 0,.int .i64 0]),5,40):=by kernel_rfl
def pz:Q:=⟨0,(0,0,0),0⟩
theorem kX {p:Q}(h:(List.replicate n pz)[i]?=some p):i<n/\p=pz:=by
 rw [List.getElem?_replicate] at h
 split at h
 ·next h1=>exact⟨h1,(Option.some.inj h).symm⟩
 ·cases h
theorem eg (w:World)(n:Nat)(hn:n<=1024) :
  ∃w',(Instr.makeSlice 231 (.int .i64 (n:Int)) (.int .i64 (n:Int))).run prog w=.ok (.slice (some ⟨w.heap.size,0,none⟩) n n) w'/\(∀(i:Nat) (p:Q),(List.replicate n pz)[i]?=some p->Pa w' w.heap.size (i*5) p)/\(∀j,w'.frozen? ⟨w.heap.size,j,none⟩=false)/\w.heap.size<w'.heap.size/\Below w.heap.size w w':=by
 obtain⟨i,hi,hz0,hz1,hz2⟩:=info_parts D_
 obtain⟨w',hr,ho,hg⟩:=run_make_full (P:=prog) w w.heap.size 231 365 i _ 5 underlying231 hi hz0 hz1 .i64 .i64 n (by rw [hz2];omega) (by unfold maxLen;omega) (Nat.le_refl _)
 have hcell:∀j c u,j<n->c<5->(#[.int .i64 0,.int .i64 0,.int .u64 0,.int .u64 0,.int .i64 0]:Array Value)[c]! = u->w'.cell? ⟨w.heap.size,j*5+c,none⟩=some u:=by
  intro j c u hj hc hu
  have hm:(j*5+c)%5=c:=by omega
  have:=ho.cells (g:=w.heap.size) rfl (j*5+c) u (by
   rw [Array.getElem?_toList]
   simp only [madeCells,Value.cells,Array.getElem?_map,Array.getElem?_range]
   rw [if_pos (by omega)]
   simp only [Option.map_some,Option.some.injEq,Array.size,List.length,hm]
   exact hu)
  rw [nj] at this
  exact this
 refine⟨w',hr,λj p hp=>?_,λj=>?_,?_,(Below.refl _ _).grown hg (Nat.le_refl _) (λk hk=>by cases hk)⟩
 ·obtain⟨hj,rfl⟩:=kX hp
  exact⟨hcell j 0 _ hj (by omega) rfl,hcell j 1 _ hj (by omega) rfl,hcell j 2 _ hj (by omega) rfl,hcell j 3 _ hj (by omega) rfl,hcell j 4 _ hj (by omega) rfl⟩
 ·rcases ho.2 with ⟨h0,_⟩|⟨g,c,cur,hv,_,hh,hc,_⟩
  ·simp at h0
  ·simp only [Value.slice.injEq,Option.some.injEq,Addr.mk.injEq] at hv
   obtain⟨⟨rfl,_⟩,_,rfl⟩:=hv
   simp [World.frozen?,hh]
 ·exact (aZ ho _ rfl).2
theorem Ed (n:Nat):sw (List.replicate n pz)=n:=by
 unfold sw
 rw [List.countP_replicate]
 simp [pz]
theorem Bf (n:Nat):dU (List.replicate n pz)=[]:=by
 unfold dU
 rw [List.filterMap_eq_nil_iff]
 intro a ha
 rw [(List.mem_replicate.1 ha).2]
 simp [eR,pz]
def BH (w:World)(kn mo:Nat)(e:Ending)(w':World):Prop :=
 ∃g gb N:Nat,e=.returned (.tuple #[.pointer (some ⟨g,0,none⟩),.int .i64 0])/\Tb w' g gb kn mo N []/\w.heap.size<=g/\w.heap.size<=gb/\Below w.heap.size w w'
theorem bE (w:World)(mo kn:Nat)(h1:1<=mo)(h2:mo<=256)(h3:kn<=64) :
  Calls prog 85 #[.int .i64 (mo:Int),.int .i64 (kn:Int)] w (BH w kn mo):=by
 have hk1:¬(mo:Int)<1:=by omega
 have hk2:¬(256:Int)<(mo:Int):=by omega
 have hk3:¬(kn:Int)<0:=by omega
 have hk4:¬(64:Int)<(kn:Int):=by omega
 go_enter func85,ntmps85
 go_upto_region 4 with (first|(go_at_call 132;refine (tM _ mo h1 h2).mono ?_;rintro e w1 ⟨⟨N,hN1,hN2,rfl⟩,rfl⟩))
 obtain⟨w2,hr,hA,hF,hsz,hb⟩:=eg w1 N hN2
 have HA:=aa hA
 have HFr:=aa hF
 have HB:=aa hb
 clear hA hF hb
 go_wp2
 refine bodyPost_ret (v:=.tuple #[.pointer (some ⟨w2.heap.size,0,none⟩),.int .i64 0]) (by simp [results,results85,go_sem]) rfl ⟨w2.heap.size,w1.heap.size,N,rfl,?_,HB.o.size,Nat.le_refl _,HB.o.alloc HB.o.size _⟩
 have hal:=λ(p:Addr) (v:Value) (hv:w2.cell? p=some v)=>cell_later (ab w2 (Obj.cells #[.slice (some ⟨w1.heap.size,0,none⟩) N N,.int .i64 (kn:Int),.int .i64 (mo:Int),.int .i64 0,.int .i64 (N:Int)] 233)) hv
 have hsh:ae (λ_=>False) w2 (w2.alloc (Obj.cells #[.slice (some ⟨w1.heap.size,0,none⟩) N N,.int .i64 (kn:Int),.int .i64 (mo:Int),.int .i64 0,.int .i64 (N:Int)] 233)):=ae.of (ab _ _)
 refine⟨List.replicate N pz,N,⟨by simp [go_sem],by simp [go_sem],by simp [go_sem],⟨by simp [go_sem],by simp [go_sem]⟩,⟨by simp [go_sem],by simp [go_sem]⟩,λj=>?_,λi p hp=>(HA.o i p hp).but hsh (λh=>h),by omega,by simp,by omega,hN2,λi p hp=>?_⟩,λi p hp=>?_,λi p hp hk=>?_,by rw [Bf],by simp,Ed N,Nat.zero_le _,h1,hN1⟩
 ·rw [World.frozen?_of_block (w:=w2) (hsh.block w1.heap.size hsz (λh=>h))]
  exact HFr.o j
 ·rw [(kX hp).2]
  exact⟨show (0:Nat)<ak by decide,show (0:Nat)<ak by decide⟩
 ·rw [(kX hp).2]
  exact .inl rfl
 ·rw [(kX hp).2] at hk
  exact absurd hk (show ¬(0:Int)=1 by decide)
end Go.Proofs.YtfmhdimaijimlaaGreatDoor.H.I
namespace Go.Proofs.YtfmhdimaijimlaaGreatDoor
open Go.RowKit H
theorem sa (a b:Nat)(ha:a<32)(hb:b<32):bits .and .i64 (a:Int) (b:Int)=((a &&& b:Nat):Int):=by
 have hx:a &&& b<2 ^ 5:=Nat.and_lt_two_pow _ (by omega)
 show IntKind.i64.wrap ((BitVec.ofInt 64 (a:Int) &&& BitVec.ofInt 64 (b:Int)).toNat:Int)=_
 rw [BitVec.toNat_and,BitVec.ofInt_natCast,BitVec.ofInt_natCast,BitVec.toNat_ofNat,BitVec.toNat_ofNat,Nat.mod_eq_of_lt (a:=a) (by omega),Nat.mod_eq_of_lt (a:=b) (by omega),IntKind.wrap_i64]
 omega
theorem nm {r:Int}(h:aX r=true):∃n:Nat,r=(n:Int)/\1<=n/\n<32:=by
 have:=mC.1 h
 exact⟨r.toNat,by omega,by omega,by omega⟩
theorem ES (x y:Nat):((x:Int)==(y:Int))=decide (x=y):=by
 by_cases h:x=y
 ·subst h;simp
 ·rw [dF h]
  simp
  omega
theorem bp (r:Int)(w:World) :
  Calls prog 180 #[.int .i64 r] w λe w'=>e=.returned (.bool (aX r))/\w'=w:=by
 by_cases h1:0<r
 ·by_cases h2:r<=31
  ·have hz:aX r=true:=dT (by omega)
   rw [hz];clear hz
   go_enter func180,ntmps180
   go_wp2
   go_ret
   exact⟨rfl,rfl⟩
  ·have hz:aX r=false:=dF (by omega)
   rw [hz];clear hz
   go_enter func180,ntmps180
   go_wp2
   go_ret
   exact⟨rfl,rfl⟩
 ·have hz:aX r=false:=dF (by omega)
  rw [hz];clear hz
  go_enter func180,ntmps180
  go_wp2
  go_ret
  exact⟨rfl,rfl⟩
theorem fb (a b:Int)(w:World) :
  Calls prog 178 #[.int .i64 a,.int .i64 b] w λe w'=>e=.returned (.bool (aA a b))/\w'=w:=by
 by_cases h1:aX a=true
 ·by_cases h2:aX b=true
  ·obtain⟨n,rfl,_,hn⟩:=nm h1
   obtain⟨m,rfl,_,hm⟩:=nm h2
   have hb:=sa n m hn hm
   have HP:Hid (aA (n:Int) (m:Int)=decide (n &&& m=n)):=by unfold Hid aA;rw [h1,h2];simp
   go_enter func178,ntmps178
   go_wp2_with (first|(go_at_call 180;refine (bp _ _).mono ?_;rintro e w1 ⟨rfl,rfl⟩))
   go_ret
   refine⟨?_,rfl⟩
   rw [HP.o]
   apply cW
   exact ES _ _
  ·have h2:aX b=false:=by simpa using h2
   have hz:aA a b=false:=by unfold aA;rw [h2];simp
   rw [hz];clear hz
   go_enter func178,ntmps178
   go_wp2_with (first|(go_at_call 180;refine (bp _ _).mono ?_;rintro e w1 ⟨rfl,rfl⟩))
   go_ret
   exact⟨rfl,rfl⟩
 ·have h1:aX a=false:=by simpa using h1
  have hz:aA a b=false:=by unfold aA;rw [h1];simp
  rw [hz];clear hz
  go_enter func178,ntmps178
  go_wp2_with (first|(go_at_call 180;refine (bp _ _).mono ?_;rintro e w1 ⟨rfl,rfl⟩))
  go_ret
  exact⟨rfl,rfl⟩
structure Ad where
 g:Nat
 tg:Nat
 tb:Nat
 eb:Nat
 kg:Nat
 kb:Nat
 N:Nat
def Ad.Wr (A:Ad)(k:Nat):Prop:=k=A.tg\/k=A.tb\/k=A.eb\/k=A.kb
def Ad.jC (A:Ad)(k:Nat):Prop:=k=A.g\/k=A.kg\/A.Wr k
structure Ad.JD (A:Ad):Prop where
 d1:A.tg≠A.g
 d2:A.tb≠A.g
 d3:A.eb≠A.g
 d4:A.kb≠A.g
 d5:A.tg≠A.eb
 d6:A.tb≠A.eb
 d7:A.tg≠A.kg
 d8:A.tb≠A.kg
 d9:A.tg≠A.kb
 da:A.tb≠A.kb
 db:A.eb≠A.kg
 dc:A.eb≠A.kb
structure Pe (w:World)(b o:Nat)(x:Tk):Prop where
 c0:w.cell? ⟨b,o,none⟩=some (.int .i64 x.1.1)
 c1:w.cell? ⟨b,o+1,none⟩=some (.int .u64 (x.1.2.1:Int))
 c2:w.cell? ⟨b,o+2,none⟩=some (.int .u64 (x.1.2.2:Int))
 c3:w.cell? ⟨b,o+3,none⟩=some (.int .i64 x.2)
theorem Pe.but {S:Nat->Prop}{o:Nat}{x:Tk}(hb:ae S w w')(h:Pe w b o x)(hn:¬S b):Pe w' b o x :=
 ⟨aC hb h.c0 hn,aC hb h.c1 hn,aC hb h.c2 hn,aC hb h.c3 hn⟩
theorem Pe.later {o:Nat}{x:Tk}(hb:Below w.heap.size w w')(h:Pe w b o x):Pe w' b o x:=h.but (S:=λ_=>False) (ae.of hb) (λh=>h)
theorem Pe.off {o o':Nat}{x:Tk}{u:Value}(h:Pe w b o x)(hne:o'<o\/o+4<=o'):Pe (w.setCell ⟨b,o',none⟩ u) b o x :=
 ⟨ag h.c0 (by omega),ag h.c1 (by omega),ag h.c2 (by omega),ag h.c3 (by omega)⟩
def kA (w:World)(b o:Nat)(x:Tk):World :=
 (((w.setCell ⟨b,o,none⟩ (.int .i64 x.1.1)).setCell ⟨b,o+1,none⟩ (.int .u64 (x.1.2.1:Int))).setCell ⟨b,o+2,none⟩ (.int .u64 (x.1.2.2:Int))).setCell ⟨b,o+3,none⟩ (.int .i64 x.2)
theorem lH {S:Nat->Prop}{a:World}(h:ae S a w)(hb:S b)(o:Nat)(x:Tk):ae S a (kA w b o x) :=
 (((h.setCell (p:=⟨b,o,none⟩) hb _).setCell (p:=⟨b,o+1,none⟩) hb _).setCell (p:=⟨b,o+2,none⟩) hb _).setCell (p:=⟨b,o+3,none⟩) hb _
theorem Pe.set {w:World}{b o:Nat}{y:Tk}(h:Pe w b o y)(x:Tk):Pe (kA w b o x) b o x:=by
 unfold kA
 refine⟨?_,?_,?_,?_⟩
 ·exact ag (ag (ag (World.cell?_setCell_same _ _ _ h.c0) (by omega)) (by omega)) (by omega)
 ·exact ag (ag (World.cell?_setCell_same _ _ _ (ag h.c1 (by omega))) (by omega)) (by omega)
 ·exact ag (World.cell?_setCell_same _ _ _ (ag (ag h.c2 (by omega)) (by omega))) (by omega)
 ·exact World.cell?_setCell_same _ _ _ (ag (ag (ag h.c3 (by omega)) (by omega)) (by omega))
theorem Pe.lJ {o o':Nat}{y:Tk}(h:Pe w b o y)(x:Tk)(hne:o'+4<=o\/o+4<=o'):Pe (kA w b o' x) b o y:=by
 unfold kA
 exact (((h.off (by omega)).off (by omega)).off (by omega)).off (by omega)
structure Cm (w:World)(A:Ad)(kn mo:Nat)(T:List (Cp×Int))(X:List Tk)(l:Fo):Prop where
 c0:w.cell? ⟨A.g,0,none⟩=some (.pointer (some ⟨A.tg,0,none⟩))
 c1:w.cell? ⟨A.g,1,none⟩=some (.slice (some ⟨A.eb,0,none⟩) mo mo)
 c2:w.cell? ⟨A.g,2,none⟩=some (.pointer (some ⟨A.kg,0,none⟩))
 uj:I.Tb w A.tg A.tb kn mo A.N T
 nB:Ki w A.kg A.kb mo l
 eR:∀(i:Nat) (x:Tk),X[i]?=some x->Pe w A.eb (i*4) x
 fr:∀j,w.frozen? ⟨A.eb,j,none⟩=false
 BQ:A.eb<w.heap.size
 len:X.length=mo
 p_:A.JD
theorem Cm.but {S:Nat->Prop}{A:Ad}{mo:Nat}{T:List (Cp×Int)}{X:List Tk}{l:Fo}(hb:ae S w w')(h:Cm w A kn mo T X l)(hS:∀k,A.jC k->¬S k):Cm w' A kn mo T X l :=
 ⟨aC hb h.c0 (hS _ (.inl rfl)),aC hb h.c1 (hS _ (.inl rfl)),aC hb h.c2 (hS _ (.inl rfl)),h.uj.but hb (hS _ (.inr (.inr (.inl rfl)))) (hS _ (.inr (.inr (.inr (.inl rfl))))),h.nB.but hb (hS _ (.inr (.inl rfl))) (hS _ (.inr (.inr (.inr (.inr (.inr rfl)))))),
  λi x hx=>(h.eR i x hx).but hb (hS _ (.inr (.inr (.inr (.inr (.inl rfl)))))),λj=>by rw [World.frozen?_of_block (w:=w) (hb.block A.eb h.BQ (hS _ (.inr (.inr (.inr (.inr (.inl rfl)))))))];exact h.fr j,Nat.lt_of_lt_of_le h.BQ hb.size,h.len,h.p_⟩
theorem Cm.later {A:Ad}{mo:Nat}{T:List (Cp×Int)}{X:List Tk}{l:Fo}(hb:Below w.heap.size w w')(h:Cm w A kn mo T X l):Cm w' A kn mo T X l:=h.but (S:=λ_=>False) (ae.of hb) (λ_ _ h=>h)
theorem Ki.Jb {gb:Nat}{l:Fo}(h:Ki w g gb m l):g<w.heap.size/\gb<w.heap.size:=by
 obtain⟨N,h1,h2⟩:=h
 exact⟨h1.lt,h1.oN⟩
theorem Cm.lt {A:Ad}{mo:Nat}{T:List (Cp×Int)}{X:List Tk}{l:Fo}(h:Cm w A kn mo T X l):∀k,A.jC k->k<w.heap.size:=by
 rintro k (rfl|rfl|rfl|rfl|rfl|rfl)
 ·exact World.block_lt_of_cell? _ _ h.c0
 ·exact h.nB.Jb.1
 ·exact h.uj.lt
 ·exact h.uj.oN
 ·exact h.BQ
 ·exact h.nB.Jb.2
theorem Cm.small {A:Ad}{mo:Nat}{T:List (Cp×Int)}{X:List Tk}{l:Fo}(h:Cm w A kn mo T X l):mo<=512:=h.uj.small
theorem Cm.IW {A:Ad}{mo:Nat}{T T':List (Cp×Int)}{X:List Tk}{l:Fo}(h:Cm w A kn mo T X l)(hb:ae (I.In A.tg A.tb) w w')(ht:I.Tb w' A.tg A.tb kn mo A.N T'):Cm w' A kn mo T' X l:=by
 have d:=h.p_
 have n1:¬I.In A.tg A.tb A.g:=by rintro (e|e);exact d.d1 e.symm;exact d.d2 e.symm
 have n2:¬I.In A.tg A.tb A.eb:=by rintro (e|e);exact d.d5 e.symm;exact d.d6 e.symm
 exact⟨aC hb h.c0 n1,aC hb h.c1 n1,aC hb h.c2 n1,ht,h.nB.but hb (by rintro (e|e);exact d.d7 e.symm;exact d.d8 e.symm) (by rintro (e|e);exact d.d9 e.symm;exact d.da e.symm),
  λi x hx=>(h.eR i x hx).but hb n2,λj=>by rw [World.frozen?_of_block (w:=w) (hb.block A.eb h.BQ n2)];exact h.fr j,Nat.lt_of_lt_of_le h.BQ hb.size,h.len,d⟩
theorem Cm.sD {A:Ad}{mo:Nat}{T:List (Cp×Int)}{X:List Tk}{l l':Fo}(h:Cm w A kn mo T X l)(hb:ae (·=A.kb) w w')(hk:Ki w' A.kg A.kb mo l'):Cm w' A kn mo T X l':=by
 have d:=h.p_
 exact⟨aC hb h.c0 (λe=>d.d4 e.symm),aC hb h.c1 (λe=>d.d4 e.symm),aC hb h.c2 (λe=>d.d4 e.symm),h.uj.but hb d.d9 d.da,hk,
  λi x hx=>(h.eR i x hx).but hb d.dc,λj=>by rw [World.frozen?_of_block (w:=w) (hb.block A.eb h.BQ d.dc)];exact h.fr j,Nat.lt_of_lt_of_le h.BQ hb.size,h.len,d⟩
theorem Cm.CQ {A:Ad}{mo:Nat}{T:List (Cp×Int)}{X:List Tk}{l:Fo}(h:Cm w A kn mo T X l)(hi:i<mo)(x:Tk):Cm (kA w A.eb (i*4) x) A kn mo T (X.set i x) l:=by
 have d:=h.p_
 have hb:ae (·=A.eb) w (kA w A.eb (i*4) x):=lH (S:=(·=A.eb)) (ae.refl _ _) rfl _ _
 obtain⟨y,hy⟩:=get_some (L:=X) (i:=i) (by rw [h.len];exact hi)
 refine⟨aC hb h.c0 (λe=>d.d3 e.symm),aC hb h.c1 (λe=>d.d3 e.symm),aC hb h.c2 (λe=>d.d3 e.symm),h.uj.but hb d.d5 d.d6,h.nB.but hb (λe=>d.db e.symm) (λe=>d.dc e.symm),λj z hz=>?_,λj=>by simpa [kA] using h.fr j,Nat.lt_of_lt_of_le h.BQ hb.size,by rw [List.length_set];exact h.len,d⟩
 rcases Go.Proofs.YtfmhdimaijimlaaGreatDoor.ay hz with ⟨rfl,rfl⟩|⟨hne,h3⟩
 ·exact (h.eR _ y hy).set _
 ·exact (h.eR _ _ h3).lJ _ (by omega)
theorem Cm.at_ {A:Ad}{mo:Nat}{T:List (Cp×Int)}{X:List Tk}{l:Fo}(h:Cm w A kn mo T X l)(hi:i<mo):Pe w A.eb (i*4) (tk X (i:Int)):=by
 obtain⟨y,hy⟩:=get_some (L:=X) (i:=i) (by rw [h.len];exact hi)
 have:tk X (i:Int)=y:=by unfold tk;simp [hy]
 rw [this]
 exact h.eR i y hy
theorem fh {A:Ad}{mo:Nat}{T:List (Cp×Int)}{X:List Tk}{l:Fo}(h:Cm w A kn mo T X l)(n:Int) :
  Calls prog 173 #[.pointer (some ⟨A.g,2,none⟩),.int .i64 n] w λe w'=>e=.returned (.bool (decide (n∈ah l)))/\w'=w:=by
 have hc:=aa (aR h.nB n)
 have x2:=h.c2
 clear h
 go_enter func173,ntmps173
 go_wp2_with (first|(go_at_call 211;refine hc.out.mono ?_;rintro e w1 ⟨rfl,rfl⟩))
 go_ret
 exact⟨rfl,rfl⟩
theorem rE {A:Ad}{mo:Nat}{T:List (Cp×Int)}{X:List Tk}{l:Fo}(h:Cm w A kn mo T X l)(n p:Int)(hp:(n,p)∈l) :
  Calls prog 174 #[.pointer (some ⟨A.g,2,none⟩),.int .i64 n] w λe w'=>e=.returned (.int .i64 p)/\w'=w:=by
 have hc:=aa (xQ h.nB n p hp)
 have x2:=h.c2
 clear h hp
 go_enter func174,ntmps174
 go_wp2_with (first|(go_at_call 212;refine hc.out.mono ?_;rintro e w1 ⟨rfl,rfl⟩))
 go_ret
 exact⟨rfl,rfl⟩
abbrev ir (c:Cp):Value:=.agg #[.int .i64 c.1,.int .u64 (c.2.1:Int),.int .u64 (c.2.2:Int)]
end Go.Proofs.YtfmhdimaijimlaaGreatDoor
