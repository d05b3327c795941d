import Derived.Test.YtfmhdimaijimlaaGreatDoorG04
import Derived.Test.YtfmhdimaijimlaaGreatDoorG02
import Derived.Laws.Bits128
set_option linter.unusedVariables false
set_option linter.unusedSimpArgs false
set_option maxRecDepth 1000000
set_option maxHeartbeats 8000000
namespace Go.Proofs.YtfmhdimaijimlaaGreatDoor.H.I
open Go.RowKit
structure Ripe (w w5:World)(g gb kn mo N:Nat)(E:List (Cp×Int))(M:List Q)(sq:Nat)(o:Int)(hi lo:Nat)(v:Int):Prop where
 tm:Tm w5 g gb kn mo (E.length:Int) (sq:Int) N M
 kinds:∀(i:Nat) (p:Q),M[i]?=some p→p.k=0∨p.k=1∨p.k=2
 way:Way (hm kn N) (·≠0) M
 perm:(ents M).Perm E
 nodup:(E.map Prod.fst).Nodup
 free:fre M=sq
 pos:1≤sq
 m1:1≤mo
 m2:2*mo≤N
 but:But (In g gb) w w5
 bx:Bx w5 w.heap.size o hi lo
theorem Ripe.some {w w5:World}{g gb kn mo N:Nat}{E:List (Cp×Int)}{M:List Q}{sq:Nat}{o:Int}{hi lo:Nat}{v:Int}(h:Ripe w w5 g gb kn mo N E M sq o hi lo v):∃(i:Nat) (p:Q),M[i]?=some p∧p.k≠1∧p.k≠2:=by
 obtain⟨i,p,hp,hk⟩:=fre_some (L:=M) (by rw [h.free];exact h.pos)
 exact⟨i,p,hp,by omega,by omega⟩
theorem Ripe.put {w w5 w6:World}{g gb kn mo N:Nat}{E:List (Cp×Int)}{M:List Q}{sq:Nat}{o:Int}{hi lo:Nat}{v:Int}(h:Ripe w w5 g gb kn mo N E M sq o hi lo v)(hb:Below w5.heap.size w5 w6)(h1:hi<B64)(h2:lo<B64)(hc:(o,hi,lo)∉E.map Prod.fst)(hl:E.length<mo){to_ d:Nat}{q:Q}(hd:d<N)(hto:to_=(hm kn N (o,hi,lo)+d)%N)(hq:M[to_]?=Option.some q)(hq1:q.k≠1)(hq2:q.k≠2)
  (hpath:∀e,e<d→∀p:Q,M[(hm kn N (o,hi,lo)+e)%N]?=Option.some p→p.k=1∨p.k=2) :
  Tb (((setP w6 gb (to_*5) ⟨1,(o,hi,lo),v⟩).setCell ⟨g,3,none⟩ (.int .i64 ((E.length:Int)+1))).setCell ⟨g,4,none⟩ (.int .i64 ((sq:Int) - 1))) g gb kn mo N (E++[((o,hi,lo),v)]):=by
 have hk0:q.k=0:=by
  rcases h.kinds _ _ hq with h3|h3|h3<;>omega
 have hlen:=h.tm.len
 refine⟨M.set to_ ⟨1,(o,hi,lo),v⟩,sq - 1,?_,?_,?_,?_,?_,?_,?_,h.m1,h.m2⟩
 ·have t:=(((h.tm.later hb).set hq ⟨1,(o,hi,lo),v⟩ ⟨h1,h2⟩).live ((E.length:Int)+1)).spare ((sq:Int) - 1)
  have e1:((E++[((o,hi,lo),v)]).length:Int)=(E.length:Int)+1:=by simp
  have e2:((sq - 1:Nat):Int)=(sq:Int) - 1:=by have:=h.pos;omega
  rw [e1,e2]
  exact t
 ·intro j x hx
  rcases get_set hx with ⟨rfl,rfl⟩|⟨_,h3⟩
  ·exact .inr (.inl rfl)
  ·exact h.kinds _ _ h3
 ·refine h.way.set (fun _ _ _=>show (1:Int)≠0 by decide) (fun _=>?_)
  rw [hlen]
  refine⟨d,hd,hto,fun e he p hp=>?_⟩
  rcases hpath e he p hp with h3|h3<;>(show p.k≠0)<;>omega
 ·have ha:=ents_add (x:=(⟨1,(o,hi,lo),v⟩:Q)) (y:=((o,hi,lo),v)) hq (by simp [ent,hk0]) (by simp [ent])
  exact (ha.trans (h.perm.cons _)).trans (List.perm_append_comm (l₁:=[((o,hi,lo),v)]))
 ·rw [List.map_append,List.nodup_append]
  refine⟨h.nodup,by simp,?_⟩
  intro a ha b hb2 heq
  simp only [List.map_cons,List.map_nil,List.mem_singleton] at hb2
  subst hb2 heq
  exact hc ha
 ·have hf:=fre_put (x:=(⟨1,(o,hi,lo),v⟩:Q)) hq hk0 (show (1:Int)≠0 by decide)
  have hf2:=h.free
  omega
 ·rw [List.length_append]
  simp
  omega
theorem put_there {w:World}{g gb kn mo N:Nat}{E:List (Cp×Int)}(h:Tb w g gb kn mo N E)(o:Int)(hi lo:Nat)(v:Int)(h1:hi<B64)(h2:lo<B64)(hc:(o,hi,lo)∈E.map Prod.fst) :
  Calls Tryz.prog 252 #[.pointer (some ⟨g,0,none⟩),.agg #[.int .i64 o,.int .u64 (hi:Int),.int .u64 (lo:Int)],.int .i64 v] w fun e w'=>e=.returned (.int .i64 19)∧Below w.heap.size w w':=by
 obtain⟨L,sp,h⟩:=h
 have HH:=hid h
 have HC:=hid hc
 clear h hc
 go_enter Tryz.func252,Tryz.ntmps252
 go_wp2_with (first|(go_at_call 270;refine (find_there (HH.out.later (below1 _ _)) o hi lo h1 h2 HC.out).mono ?_;rintro e w2 ⟨i,u,hi_,rfl,hb2⟩;have HB2:=hid (bc (below1 _ _) hb2);clear hb2 hi_))
 go_ret
 exact⟨rfl,HB2.out⟩
theorem put_full {w:World}{g gb kn mo N:Nat}{E:List (Cp×Int)}(h:Tb w g gb kn mo N E)(o:Int)(hi lo:Nat)(v:Int)(h1:hi<B64)(h2:lo<B64)(hc:(o,hi,lo)∉E.map Prod.fst)(hlt:E.length=mo) :
  Calls Tryz.prog 252 #[.pointer (some ⟨g,0,none⟩),.agg #[.int .i64 o,.int .u64 (hi:Int),.int .u64 (lo:Int)],.int .i64 v] w fun e w'=>e=.returned (.int .i64 10)∧Below w.heap.size w w':=by
 obtain⟨L,sp,h⟩:=h
 have HH:=hid h
 have HC:=hid hc
 clear h hc
 have HL:=hid hlt
 clear hlt
 go_enter Tryz.func252,Tryz.ntmps252
 go_upto_region 4 with (first|(go_at_call 270;refine (find_none (HH.out.later (below1 _ _)) o hi lo h1 h2 HC.out).mono ?_;rintro e w2 ⟨rfl,hb2⟩;have HB2:=hid (bc (below1 _ _) hb2);clear hb2))
 have hS:=HH.out.later HB2.out
 have z3:=hS.tm.a3.1
 rw [HL.out] at z3
 have z2:=hS.tm.a2
 clear hS
 go_quiet (fail)
 go_wp2
 go_ret
 exact⟨rfl,below_drewN HB2.out _⟩
theorem put_ok {w:World}{g gb kn mo N:Nat}{E:List (Cp×Int)}(h:Tb w g gb kn mo N E)(o:Int)(hi lo:Nat)(v:Int)(h1:hi<B64)(h2:lo<B64)(hc:(o,hi,lo)∉E.map Prod.fst)(hlt:E.length<mo) :
  Calls Tryz.prog 252 #[.pointer (some ⟨g,0,none⟩),.agg #[.int .i64 o,.int .u64 (hi:Int),.int .u64 (lo:Int)],.int .i64 v] w fun e w'=>e=.returned (.int .i64 0)∧Tb w' g gb kn mo N (E++[((o,hi,lo),v)])∧But (In g gb) w w':=by
 obtain⟨L,sp,h⟩:=h
 have HH:=hid h
 have HC:=hid hc
 have hpos:=h.tm.pos
 have hbig:=h.tm.big
 have hm2:=h.m2
 have hne:¬g=gb:=h.tm.ne
 have hl1:=h.tm.lt
 have hl2:=h.tm.lt2
 have hsp:sp≤1024:=by have:=fre_le L;rw [h.free,h.tm.len] at this;omega
 have hnb:¬w.heap.size=gb:=by omega
 have hnin:Hid (¬In g gb w.heap.size):=by rintro (h3|h3)<;>omega
 clear h hc
 go_enter Tryz.func252,Tryz.ntmps252
 go_upto_region 4 with (first|(go_at_call 270;refine (find_none (HH.out.later (below1 _ _)) o hi lo h1 h2 HC.out).mono ?_;rintro e w2 ⟨rfl,hb2⟩;have HB2:=hid (bc (below1 _ _) hb2);have BX:=hid ((Bx.new w o hi lo).later hb2);clear hb2))
 have hS:=HH.out.later HB2.out
 have z3:=hS.tm.a3.1
 have z2:=hS.tm.a2
 have HS2:=hid hS
 clear hS
 go_quiet (fail)
 by_cases hrare:4*sp<N
 ·have hd:decide (4*sp<N)=true:=decide_eq_true hrare
  clear hrare
  go_upto_region 8 with (first|(go_at_call 272;refine (remake_any HT3.out HS2.out.kinds (by omega) (by omega)).mono ?_;rintro e w4 ⟨rfl,hA⟩;have HA:=hid hA;clear hA)|(go_at_call 271;refine (rare_any (HS2.out.tm.later (below_drewN (Below.refl _ _) _)) hsp).mono ?_;rintro e w3 ⟨rfl,hb3⟩;rw [hd];have HB3:=hid (bc (below_drewN (Below.refl _ _) _) hb3);have HT3:=hid (HS2.out.tm.later HB3.out);clear hb3))
  obtain⟨w5,sq,M,hw5,RP⟩:∃(w5:World) (sq:Nat) (M:List Q),w5=w4∧Hid (Ripe w w5 g gb kn mo N E M sq o hi lo v):=by
   obtain⟨M,hT4,hk4,hw4,hp4,hb4⟩:=HA.out
   have hl4:=(hp4.trans HS2.out.perm).length_eq
   have hfa:=fre_all hk4
   rw [hT4.len,hl4] at hfa
   refine⟨w4,N - E.length,M,rfl,⟨?_,fun i p hp=>?_,hw4,hp4.trans HS2.out.perm,HS2.out.nodup,by omega,by omega,HS2.out.m1,hm2,(But.of (bc HB2.out HB3.out)).trans hb4,(BX.out.later HB3.out).but hb4 hnin.out⟩⟩
   ·have e1:((N - E.length:Nat):Int)=(N:Int) - (E.length:Int):=by omega
    rw [e1]
    exact hT4
   ·rcases hk4 i p hp with h3|h3
    ·exact .inl h3
    ·exact .inr (.inl h3)
  rw [←hw5]
  clear hw5 HA z3 z2
  have hfin:∀(W w6:World) (to_ d:Nat) (q:Q),Below w5.heap.size w5 w6→d<N→to_=(hm kn N (o,hi,lo)+d)%N→M[to_]?=some q→q.k≠1→q.k≠2→(∀e,e<d→∀p:Q,M[(hm kn N (o,hi,lo)+e)%N]?=some p→p.k=1∨p.k=2) →
    W=((setP w6 gb (to_*5) ⟨1,(o,hi,lo),v⟩).setCell ⟨g,3,none⟩ (.int .i64 ((E.length:Int)+1))).setCell ⟨g,4,none⟩ (.int .i64 ((sq:Int) - 1))→Tb W g gb kn mo N (E++[((o,hi,lo),v)])∧But (In g gb) w W:=by
   rintro W w6 to_ d q hb hd hto hq hq1 hq2 hpath rfl
   exact⟨RP.out.put hb h1 h2 HC.out hlt hd hto hq hq1 hq2 hpath,((setP_but (RP.out.but.call hb) (.inr rfl) _ _).setCell (p:=⟨g,3,none⟩) (.inl rfl) _).setCell (p:=⟨g,4,none⟩) (.inl rfl) _⟩
  have HF:=hid hfin
  clear hfin
  have hex:=hid RP.out.some
  have hsq1:1≤sq:=RP.out.pos
  have hsq2:sq≤1024:=by have h3:=fre_le M;rw [RP.out.free,RP.out.tm.len] at h3;omega
  have hC:Hid (∀U:World,But (·=gb) w5 U→(U.cell? ⟨g,0,none⟩=some (.slice (some ⟨gb,0,none⟩) N N)∧U.cell? ⟨w.heap.size,0,none⟩=some (.int .i64 o)∧U.cell? ⟨w.heap.size,1,none⟩=some (.int .u64 (hi:Int))∧U.cell? ⟨w.heap.size,2,none⟩=some (.int .u64 (lo:Int)))∧But (·=gb) w5 U):=fun U hU=>⟨⟨cb_ hU RP.out.tm.a0 hne,cb_ hU RP.out.bx.c0 hnb,cb_ hU RP.out.bx.c1 hnb,cb_ hU RP.out.bx.c2 hnb⟩,hU⟩
  obtain⟨z0,b0,b1,b2⟩:=(hC.out w5 (But.refl _ _)).1
  go_region_held3 (fun U=>(U.cell? ⟨g,0,none⟩=some (.slice (some ⟨gb,0,none⟩) N N)∧U.cell? ⟨w.heap.size,0,none⟩=some (.int .i64 o)∧U.cell? ⟨w.heap.size,1,none⟩=some (.int .u64 (hi:Int))∧U.cell? ⟨w.heap.size,2,none⟩=some (.int .u64 (lo:Int)))∧But (·=gb) w5 U) (first|exact hC.out _ hst.out|exact hC.out _ hb6.out|exact hC.out _ (But.of (Below.refl _ _).drew)) (first|(go_at_call 273;refine (open_any (RP.out.tm.later (Below.refl _ _).drew) hex.out o hi lo h1 h2).mono ?_;rintro e w6 ⟨⟨to_,d,q,s1,s2,s3,s4,s5,s6,rfl⟩,hb6'⟩;have HS:=hid (And.intro s1 (And.intro s2 (And.intro s3 (And.intro s4 (And.intro s5 s6)))));have hb7:=hid (bc (Below.refl w5.heap.size w5).drew hb6');have hb6:=hid (But.of (S:=(·=gb)) hb7.out);have hst:=hid (setP_but (S:=(·=gb)) hb6.out (b:=gb) (by rfl) (to_*5) ⟨1,(o,hi,lo),v⟩);have hto2:to_<N:=(by rw [s2];exact Nat.mod_lt _ hpos);have T6:=hid (RP.out.tm.later hb7.out);clear s1 s2 s4 s5 s6 hb6';obtain⟨p0,p1,p2,p3,p4⟩:=T6.out.at_ _ _ s3;have y3:=T6.out.a3.1;have y3':=T6.out.a3.2;have y4:=T6.out.a4.1;have y4':=T6.out.a4.2;have hfr:=T6.out.fr;clear s3))
  go_wp2
  go_ret
  obtain⟨s1,s2,s3,s4,s5,s6⟩:=HS.out
  exact⟨rfl,HF.out _ w6 to_ d q hb7.out s1 s2 s3 s4 s5 s6 rfl⟩
 ·have hd:decide (4*sp<N)=false:=decide_eq_false hrare
  have hsp1:1≤sp:=by omega
  clear hrare
  go_upto_region 8 with (first|(go_at_call 271;refine (rare_any (HS2.out.tm.later (below_drewN (Below.refl _ _) _)) hsp).mono ?_;rintro e w3 ⟨rfl,hb3⟩;rw [hd];have HB3:=hid (bc (below_drewN (Below.refl _ _) _) hb3);clear hb3))
  obtain⟨w5,sq,M,hw5,RP⟩:∃(w5:World) (sq:Nat) (M:List Q),w5=w3∧Hid (Ripe w w5 g gb kn mo N E M sq o hi lo v) :=
   ⟨w3,sp,L,rfl,⟨HS2.out.tm.later HB3.out,HS2.out.kinds,HS2.out.way,HS2.out.perm,HS2.out.nodup,HS2.out.free,hsp1,HS2.out.m1,hm2,But.of (bc HB2.out HB3.out),BX.out.later HB3.out⟩⟩
  rw [←hw5]
  clear hw5 z3 z2
  have hfin:∀(W w6:World) (to_ d:Nat) (q:Q),Below w5.heap.size w5 w6→d<N→to_=(hm kn N (o,hi,lo)+d)%N→M[to_]?=some q→q.k≠1→q.k≠2→(∀e,e<d→∀p:Q,M[(hm kn N (o,hi,lo)+e)%N]?=some p→p.k=1∨p.k=2) →
    W=((setP w6 gb (to_*5) ⟨1,(o,hi,lo),v⟩).setCell ⟨g,3,none⟩ (.int .i64 ((E.length:Int)+1))).setCell ⟨g,4,none⟩ (.int .i64 ((sq:Int) - 1))→Tb W g gb kn mo N (E++[((o,hi,lo),v)])∧But (In g gb) w W:=by
   rintro W w6 to_ d q hb hd hto hq hq1 hq2 hpath rfl
   exact⟨RP.out.put hb h1 h2 HC.out hlt hd hto hq hq1 hq2 hpath,((setP_but (RP.out.but.call hb) (.inr rfl) _ _).setCell (p:=⟨g,3,none⟩) (.inl rfl) _).setCell (p:=⟨g,4,none⟩) (.inl rfl) _⟩
  have HF:=hid hfin
  clear hfin
  have hex:=hid RP.out.some
  have hsq1:1≤sq:=RP.out.pos
  have hsq2:sq≤1024:=by have h3:=fre_le M;rw [RP.out.free,RP.out.tm.len] at h3;omega
  have hC:Hid (∀U:World,But (·=gb) w5 U→(U.cell? ⟨g,0,none⟩=some (.slice (some ⟨gb,0,none⟩) N N)∧U.cell? ⟨w.heap.size,0,none⟩=some (.int .i64 o)∧U.cell? ⟨w.heap.size,1,none⟩=some (.int .u64 (hi:Int))∧U.cell? ⟨w.heap.size,2,none⟩=some (.int .u64 (lo:Int)))∧But (·=gb) w5 U):=fun U hU=>⟨⟨cb_ hU RP.out.tm.a0 hne,cb_ hU RP.out.bx.c0 hnb,cb_ hU RP.out.bx.c1 hnb,cb_ hU RP.out.bx.c2 hnb⟩,hU⟩
  obtain⟨z0,b0,b1,b2⟩:=(hC.out w5 (But.refl _ _)).1
  go_region_held3 (fun U=>(U.cell? ⟨g,0,none⟩=some (.slice (some ⟨gb,0,none⟩) N N)∧U.cell? ⟨w.heap.size,0,none⟩=some (.int .i64 o)∧U.cell? ⟨w.heap.size,1,none⟩=some (.int .u64 (hi:Int))∧U.cell? ⟨w.heap.size,2,none⟩=some (.int .u64 (lo:Int)))∧But (·=gb) w5 U) (first|exact hC.out _ hst.out|exact hC.out _ hb6.out|exact hC.out _ (But.of (Below.refl _ _).drew)) (first|(go_at_call 273;refine (open_any (RP.out.tm.later (Below.refl _ _).drew) hex.out o hi lo h1 h2).mono ?_;rintro e w6 ⟨⟨to_,d,q,s1,s2,s3,s4,s5,s6,rfl⟩,hb6'⟩;have HS:=hid (And.intro s1 (And.intro s2 (And.intro s3 (And.intro s4 (And.intro s5 s6)))));have hb7:=hid (bc (Below.refl w5.heap.size w5).drew hb6');have hb6:=hid (But.of (S:=(·=gb)) hb7.out);have hst:=hid (setP_but (S:=(·=gb)) hb6.out (b:=gb) (by rfl) (to_*5) ⟨1,(o,hi,lo),v⟩);have hto2:to_<N:=(by rw [s2];exact Nat.mod_lt _ hpos);have T6:=hid (RP.out.tm.later hb7.out);clear s1 s2 s4 s5 s6 hb6';obtain⟨p0,p1,p2,p3,p4⟩:=T6.out.at_ _ _ s3;have y3:=T6.out.a3.1;have y3':=T6.out.a3.2;have y4:=T6.out.a4.1;have y4':=T6.out.a4.2;have hfr:=T6.out.fr;clear s3))
  go_wp2
  go_ret
  obtain⟨s1,s2,s3,s4,s5,s6⟩:=HS.out
  exact⟨rfl,HF.out _ w6 to_ d q hb7.out s1 s2 s3 s4 s5 s6 rfl⟩
def ForRel (w:World)(mo:Nat)(t:Value)(w':World):Prop:=∃n:Nat,2≤n∧n<4*mo∧t=.int .i64 (n:Int)∧w'=w
theorem places_any (w:World)(mo:Nat)(h1:1≤mo)(h2:mo≤256) :
  Calls Tryz.prog 132 #[.int .i64 (mo:Int)] w fun e w'=>(∃N:Nat,2*mo≤N∧N≤1024∧e=.returned (.int .i64 (N:Int)))∧w'=w:=by
 go_enter Tryz.func132,Tryz.ntmps132
 go_wp2
 go_loopw [3] (ForRel w mo) (fun t _=>1024 - (intOf t).toNat)
 case atStart=>exact⟨2,by omega,by omega,rfl,rfl⟩
 case round =>
  obtain⟨n,hn,hn2,rfl,rfl⟩:=hrel
  by_cases hlt:n<2*mo
  ·have hlt2:(n:Int)<2*(mo:Int):=by omega
   go_wp2
   exact⟨⟨n*2,by omega,by omega,by go_num,rfl⟩,by simp [intOf];omega⟩
  ·have hlt2:¬(n:Int)<2*(mo:Int):=by omega
   go_wp2
   go_ret
   exact⟨⟨n,by omega,by omega,rfl⟩,rfl⟩
theorem info365:(Tryz.prog.info? 365).map (fun i=>(i.zero,i.size,i.bytes))=some (some (.agg #[.int .i64 0,.int .i64 0,.int .u64 0,.int .u64 0,.int .i64 0]),5,40):=by kernel_rfl
def pz:Q:=⟨0,(0,0,0),0⟩
theorem get_rep {n i:Nat}{p:Q}(h:(List.replicate n pz)[i]?=some p):i<n∧p=pz:=by
 rw [List.getElem?_replicate] at h
 split at h
 ·next h1=>exact⟨h1,(Option.some.inj h).symm⟩
 ·cases h
theorem make_run (w:World)(n:Nat)(hn:n≤1024) :
  ∃w',(Instr.makeSlice 231 (.int .i64 (n:Int)) (.int .i64 (n:Int))).run Tryz.prog w=.ok (.slice (some ⟨w.heap.size,0,none⟩) n n) w'∧(∀(i:Nat) (p:Q),(List.replicate n pz)[i]?=some p→Pa w' w.heap.size (i*5) p)∧(∀j,w'.frozen? ⟨w.heap.size,j,none⟩=false)∧w.heap.size<w'.heap.size∧Below w.heap.size w w':=by
 obtain⟨i,hi,hz0,hz1,hz2⟩:=info_parts info365
 obtain⟨w',hr,ho,hg⟩:=run_make_full (P:=Tryz.prog) w w.heap.size 231 365 i _ 5 Tryz.underlying231 hi hz0 hz1 .i64 .i64 n (by rw [hz2];omega) (by unfold maxLen;omega) (Nat.le_refl _)
 have hcell:∀j c u,j<n→c<5→(#[.int .i64 0,.int .i64 0,.int .u64 0,.int .u64 0,.int .i64 0]:Array Value)[c]! = u→w'.cell? ⟨w.heap.size,j*5+c,none⟩=some u:=by
  intro j c u hj hc hu
  have hm:(j*5+c)%5=c:=by omega
  have:=ho.cells (g:=w.heap.size) rfl (j*5+c) u (by
   rw [Array.getElem?_toList]
   simp only [madeCells,Value.cells,Array.getElem?_map,Array.getElem?_range]
   rw [if_pos (by omega)]
   simp only [Option.map_some,Option.some.injEq,Array.size,List.length,hm]
   exact hu)
  rw [aa_] at this
  exact this
 refine⟨w',hr,fun j p hp=>?_,fun j=>?_,?_,(Below.refl _ _).grown hg (Nat.le_refl _) (fun k hk=>by cases hk)⟩
 ·obtain⟨hj,rfl⟩:=get_rep hp
  exact⟨hcell j 0 _ hj (by omega) rfl,hcell j 1 _ hj (by omega) rfl,hcell j 2 _ hj (by omega) rfl,hcell j 3 _ hj (by omega) rfl,hcell j 4 _ hj (by omega) rfl⟩
 ·rcases ho.2 with ⟨h0,_⟩|⟨g,c,cur,hv,_,hh,hc,_⟩
  ·simp at h0
  ·simp only [Value.slice.injEq,Option.some.injEq,Addr.mk.injEq] at hv
   obtain⟨⟨rfl,_⟩,_,rfl⟩:=hv
   simp [World.frozen?,hh]
 ·exact (own_block ho _ rfl).2
theorem fre_rep (n:Nat):fre (List.replicate n pz)=n:=by
 unfold fre
 rw [List.countP_replicate]
 simp [pz]
theorem ents_rep (n:Nat):ents (List.replicate n pz)=[]:=by
 unfold ents
 rw [List.filterMap_eq_nil_iff]
 intro a ha
 rw [(List.mem_replicate.1 ha).2]
 simp [ent,pz]
def Fresh (w:World)(kn mo:Nat)(e:Ending)(w':World):Prop :=
 ∃g gb N:Nat,e=.returned (.tuple #[.pointer (some ⟨g,0,none⟩),.int .i64 0])∧Tb w' g gb kn mo N []∧w.heap.size≤g∧w.heap.size≤gb∧Below w.heap.size w w'
theorem new_ok (w:World)(mo kn:Nat)(h1:1≤mo)(h2:mo≤256)(h3:kn≤64) :
  Calls Tryz.prog 85 #[.int .i64 (mo:Int),.int .i64 (kn:Int)] w (Fresh w kn mo):=by
 have hk1:¬(mo:Int)<1:=by omega
 have hk2:¬(256:Int)<(mo:Int):=by omega
 have hk3:¬(kn:Int)<0:=by omega
 have hk4:¬(64:Int)<(kn:Int):=by omega
 go_enter Tryz.func85,Tryz.ntmps85
 go_upto_region 4 with (first|(go_at_call 132;refine (places_any _ mo h1 h2).mono ?_;rintro e w1 ⟨⟨N,hN1,hN2,rfl⟩,rfl⟩))
 obtain⟨w2,hr,hA,hF,hsz,hb⟩:=make_run w1 N hN2
 have HA:=hid hA
 have HFr:=hid hF
 have HB:=hid hb
 clear hA hF hb
 go_wp2
 refine bodyPost_ret (v:=.tuple #[.pointer (some ⟨w2.heap.size,0,none⟩),.int .i64 0]) (by simp [results,Tryz.results85,go_sem]) rfl ⟨w2.heap.size,w1.heap.size,N,rfl,?_,HB.out.size,Nat.le_refl _,HB.out.alloc HB.out.size _⟩
 have hal:=fun (p:Addr) (v:Value) (hv:w2.cell? p=some v)=>cell_later (below1 w2 (Obj.cells #[.slice (some ⟨w1.heap.size,0,none⟩) N N,.int .i64 (kn:Int),.int .i64 (mo:Int),.int .i64 0,.int .i64 (N:Int)] 233)) hv
 have hsh:But (fun _=>False) w2 (w2.alloc (Obj.cells #[.slice (some ⟨w1.heap.size,0,none⟩) N N,.int .i64 (kn:Int),.int .i64 (mo:Int),.int .i64 0,.int .i64 (N:Int)] 233)):=But.of (below1 _ _)
 refine⟨List.replicate N pz,N,⟨by simp [go_sem],by simp [go_sem],by simp [go_sem],⟨by simp [go_sem],by simp [go_sem]⟩,⟨by simp [go_sem],by simp [go_sem]⟩,fun j=>?_,fun i p hp=>(HA.out i p hp).but hsh (fun h=>h),by omega,by simp,by omega,hN2,fun i p hp=>?_⟩,fun i p hp=>?_,fun i p hp hk=>?_,by rw [ents_rep],by simp,fre_rep N,Nat.zero_le _,h1,hN1⟩
 ·rw [World.frozen?_of_block (w:=w2) (hsh.block w1.heap.size hsz (fun h=>h))]
  exact HFr.out j
 ·rw [(get_rep hp).2]
  exact⟨show (0:Nat)<B64 by decide,show (0:Nat)<B64 by decide⟩
 ·rw [(get_rep hp).2]
  exact .inl rfl
 ·rw [(get_rep hp).2] at hk
  exact absurd hk (show ¬(0:Int)=1 by decide)
end Go.Proofs.YtfmhdimaijimlaaGreatDoor.H.I
namespace Go.Proofs.YtfmhdimaijimlaaGreatDoor
open Go.RowKit H
theorem i64_and_nat (a b:Nat)(ha:a<32)(hb:b<32):bits .and .i64 (a:Int) (b:Int)=((a &&& b:Nat):Int):=by
 have hx:a &&& b<2 ^ 5:=Nat.and_lt_two_pow _ (by omega)
 show IntKind.i64.wrap ((BitVec.ofInt 64 (a:Int) &&& BitVec.ofInt 64 (b:Int)).toNat:Int)=_
 rw [BitVec.toNat_and,BitVec.ofInt_natCast,BitVec.ofInt_natCast,BitVec.toNat_ofNat,BitVec.toNat_ofNat,Nat.mod_eq_of_lt (a:=a) (by omega),Nat.mod_eq_of_lt (a:=b) (by omega),IntKind.wrap_i64]
 omega
theorem valid_nat {r:Int}(h:validB r=true):∃n:Nat,r=(n:Int)∧1≤n∧n<32:=by
 have:=validB_iff.1 h
 exact⟨r.toNat,by omega,by omega,by omega⟩
theorem beq_nat (x y:Nat):((x:Int)==(y:Int))=decide (x=y):=by
 by_cases h:x=y
 ·subst h;simp
 ·rw [decide_eq_false h]
  simp
  omega
theorem valid_any (r:Int)(w:World) :
  Calls Tryz.prog 180 #[.int .i64 r] w fun e w'=>e=.returned (.bool (validB r))∧w'=w:=by
 by_cases h1:0<r
 ·by_cases h2:r≤31
  ·have hz:validB r=true:=decide_eq_true (by omega)
   rw [hz];clear hz
   go_enter Tryz.func180,Tryz.ntmps180
   go_wp2
   go_ret
   exact⟨rfl,rfl⟩
  ·have hz:validB r=false:=decide_eq_false (by omega)
   rw [hz];clear hz
   go_enter Tryz.func180,Tryz.ntmps180
   go_wp2
   go_ret
   exact⟨rfl,rfl⟩
 ·have hz:validB r=false:=decide_eq_false (by omega)
  rw [hz];clear hz
  go_enter Tryz.func180,Tryz.ntmps180
  go_wp2
  go_ret
  exact⟨rfl,rfl⟩
theorem part_any (a b:Int)(w:World) :
  Calls Tryz.prog 178 #[.int .i64 a,.int .i64 b] w fun e w'=>e=.returned (.bool (partB a b))∧w'=w:=by
 by_cases h1:validB a=true
 ·by_cases h2:validB b=true
  ·obtain⟨n,rfl,_,hn⟩:=valid_nat h1
   obtain⟨m,rfl,_,hm⟩:=valid_nat h2
   have hb:=i64_and_nat n m hn hm
   have HP:Hid (partB (n:Int) (m:Int)=decide (n &&& m=n)):=by unfold Hid partB;rw [h1,h2];simp
   go_enter Tryz.func178,Tryz.ntmps178
   go_wp2_with (first|(go_at_call 180;refine (valid_any _ _).mono ?_;rintro e w1 ⟨rfl,rfl⟩))
   go_ret
   refine⟨?_,rfl⟩
   rw [HP.out]
   apply rb_
   exact beq_nat _ _
  ·have h2:validB b=false:=by simpa using h2
   have hz:partB a b=false:=by unfold partB;rw [h2];simp
   rw [hz];clear hz
   go_enter Tryz.func178,Tryz.ntmps178
   go_wp2_with (first|(go_at_call 180;refine (valid_any _ _).mono ?_;rintro e w1 ⟨rfl,rfl⟩))
   go_ret
   exact⟨rfl,rfl⟩
 ·have h1:validB a=false:=by simpa using h1
  have hz:partB a b=false:=by unfold partB;rw [h1];simp
  rw [hz];clear hz
  go_enter Tryz.func178,Tryz.ntmps178
  go_wp2_with (first|(go_at_call 180;refine (valid_any _ _).mono ?_;rintro e w1 ⟨rfl,rfl⟩))
  go_ret
  exact⟨rfl,rfl⟩
structure Ad where
 g:Nat
 tg:Nat
 tb:Nat
 eb:Nat
 kg:Nat
 kb:Nat
 N:Nat
def Ad.Wr (A:Ad)(k:Nat):Prop:=k=A.tg∨k=A.tb∨k=A.eb∨k=A.kb
def Ad.All (A:Ad)(k:Nat):Prop:=k=A.g∨k=A.kg∨A.Wr k
structure Ad.Dis (A:Ad):Prop where
 d1:A.tg≠A.g
 d2:A.tb≠A.g
 d3:A.eb≠A.g
 d4:A.kb≠A.g
 d5:A.tg≠A.eb
 d6:A.tb≠A.eb
 d7:A.tg≠A.kg
 d8:A.tb≠A.kg
 d9:A.tg≠A.kb
 da:A.tb≠A.kb
 db:A.eb≠A.kg
 dc:A.eb≠A.kb
structure Pe (w:World)(b o:Nat)(x:Tk):Prop where
 c0:w.cell? ⟨b,o,none⟩=some (.int .i64 x.1.1)
 c1:w.cell? ⟨b,o+1,none⟩=some (.int .u64 (x.1.2.1:Int))
 c2:w.cell? ⟨b,o+2,none⟩=some (.int .u64 (x.1.2.2:Int))
 c3:w.cell? ⟨b,o+3,none⟩=some (.int .i64 x.2)
theorem Pe.but {S:Nat→Prop}{w w':World}{b o:Nat}{x:Tk}(hb:But S w w')(h:Pe w b o x)(hn:¬S b):Pe w' b o x :=
 ⟨cb_ hb h.c0 hn,cb_ hb h.c1 hn,cb_ hb h.c2 hn,cb_ hb h.c3 hn⟩
theorem Pe.later {w w':World}{b o:Nat}{x:Tk}(hb:Below w.heap.size w w')(h:Pe w b o x):Pe w' b o x:=h.but (S:=fun _=>False) (But.of hb) (fun h=>h)
theorem Pe.off {w:World}{b o o':Nat}{x:Tk}{u:Value}(h:Pe w b o x)(hne:o'<o∨o+4≤o'):Pe (w.setCell ⟨b,o',none⟩ u) b o x :=
 ⟨cell_ne h.c0 (by omega),cell_ne h.c1 (by omega),cell_ne h.c2 (by omega),cell_ne h.c3 (by omega)⟩
def setE (w:World)(b o:Nat)(x:Tk):World :=
 (((w.setCell ⟨b,o,none⟩ (.int .i64 x.1.1)).setCell ⟨b,o+1,none⟩ (.int .u64 (x.1.2.1:Int))).setCell ⟨b,o+2,none⟩ (.int .u64 (x.1.2.2:Int))).setCell ⟨b,o+3,none⟩ (.int .i64 x.2)
theorem setE_but {S:Nat→Prop}{a w:World}(h:But S a w){b:Nat}(hb:S b)(o:Nat)(x:Tk):But S a (setE w b o x) :=
 (((h.setCell (p:=⟨b,o,none⟩) hb _).setCell (p:=⟨b,o+1,none⟩) hb _).setCell (p:=⟨b,o+2,none⟩) hb _).setCell (p:=⟨b,o+3,none⟩) hb _
theorem Pe.set {w:World}{b o:Nat}{y:Tk}(h:Pe w b o y)(x:Tk):Pe (setE w b o x) b o x:=by
 unfold setE
 refine⟨?_,?_,?_,?_⟩
 ·exact cell_ne (cell_ne (cell_ne (World.cell?_setCell_same _ _ _ h.c0) (by omega)) (by omega)) (by omega)
 ·exact cell_ne (cell_ne (World.cell?_setCell_same _ _ _ (cell_ne h.c1 (by omega))) (by omega)) (by omega)
 ·exact cell_ne (World.cell?_setCell_same _ _ _ (cell_ne (cell_ne h.c2 (by omega)) (by omega))) (by omega)
 ·exact World.cell?_setCell_same _ _ _ (cell_ne (cell_ne (cell_ne h.c3 (by omega)) (by omega)) (by omega))
theorem Pe.setOff {w:World}{b o o':Nat}{y:Tk}(h:Pe w b o y)(x:Tk)(hne:o'+4≤o∨o+4≤o'):Pe (setE w b o' x) b o y:=by
 unfold setE
 exact (((h.off (by omega)).off (by omega)).off (by omega)).off (by omega)
structure Cm (w:World)(A:Ad)(kn mo:Nat)(T:List (Cp×Int))(X:List Tk)(l:Fo):Prop where
 c0:w.cell? ⟨A.g,0,none⟩=some (.pointer (some ⟨A.tg,0,none⟩))
 c1:w.cell? ⟨A.g,1,none⟩=some (.slice (some ⟨A.eb,0,none⟩) mo mo)
 c2:w.cell? ⟨A.g,2,none⟩=some (.pointer (some ⟨A.kg,0,none⟩))
 tab:I.Tb w A.tg A.tb kn mo A.N T
 kin:Ki w A.kg A.kb mo l
 ent:∀(i:Nat) (x:Tk),X[i]?=some x→Pe w A.eb (i*4) x
 fr:∀j,w.frozen? ⟨A.eb,j,none⟩=false
 lte:A.eb<w.heap.size
 len:X.length=mo
 dis:A.Dis
theorem Cm.but {S:Nat→Prop}{w w':World}{A:Ad}{kn mo:Nat}{T:List (Cp×Int)}{X:List Tk}{l:Fo}(hb:But S w w')(h:Cm w A kn mo T X l)(hS:∀k,A.All k→¬S k):Cm w' A kn mo T X l :=
 ⟨cb_ hb h.c0 (hS _ (.inl rfl)),cb_ hb h.c1 (hS _ (.inl rfl)),cb_ hb h.c2 (hS _ (.inl rfl)),h.tab.but hb (hS _ (.inr (.inr (.inl rfl)))) (hS _ (.inr (.inr (.inr (.inl rfl))))),h.kin.but hb (hS _ (.inr (.inl rfl))) (hS _ (.inr (.inr (.inr (.inr (.inr rfl)))))),
  fun i x hx=>(h.ent i x hx).but hb (hS _ (.inr (.inr (.inr (.inr (.inl rfl)))))),fun j=>by rw [World.frozen?_of_block (w:=w) (hb.block A.eb h.lte (hS _ (.inr (.inr (.inr (.inr (.inl rfl)))))))];exact h.fr j,Nat.lt_of_lt_of_le h.lte hb.size,h.len,h.dis⟩
theorem Cm.later {w w':World}{A:Ad}{kn mo:Nat}{T:List (Cp×Int)}{X:List Tk}{l:Fo}(hb:Below w.heap.size w w')(h:Cm w A kn mo T X l):Cm w' A kn mo T X l:=h.but (S:=fun _=>False) (But.of hb) (fun _ _ h=>h)
theorem Ki.lt1 {w:World}{g gb m:Nat}{l:Fo}(h:Ki w g gb m l):g<w.heap.size∧gb<w.heap.size:=by
 obtain⟨N,h1,h2⟩:=h
 exact⟨h1.lt,h1.lt2⟩
theorem Cm.lt {w:World}{A:Ad}{kn mo:Nat}{T:List (Cp×Int)}{X:List Tk}{l:Fo}(h:Cm w A kn mo T X l):∀k,A.All k→k<w.heap.size:=by
 rintro k (rfl|rfl|rfl|rfl|rfl|rfl)
 ·exact World.block_lt_of_cell? _ _ h.c0
 ·exact h.kin.lt1.1
 ·exact h.tab.lt
 ·exact h.tab.lt2
 ·exact h.lte
 ·exact h.kin.lt1.2
theorem Cm.small {w:World}{A:Ad}{kn mo:Nat}{T:List (Cp×Int)}{X:List Tk}{l:Fo}(h:Cm w A kn mo T X l):mo≤512:=h.tab.small
theorem Cm.setT {w w':World}{A:Ad}{kn mo:Nat}{T T':List (Cp×Int)}{X:List Tk}{l:Fo}(h:Cm w A kn mo T X l)(hb:But (I.In A.tg A.tb) w w')(ht:I.Tb w' A.tg A.tb kn mo A.N T'):Cm w' A kn mo T' X l:=by
 have d:=h.dis
 have n1:¬I.In A.tg A.tb A.g:=by rintro (e|e);exact d.d1 e.symm;exact d.d2 e.symm
 have n2:¬I.In A.tg A.tb A.eb:=by rintro (e|e);exact d.d5 e.symm;exact d.d6 e.symm
 exact⟨cb_ hb h.c0 n1,cb_ hb h.c1 n1,cb_ hb h.c2 n1,ht,h.kin.but hb (by rintro (e|e);exact d.d7 e.symm;exact d.d8 e.symm) (by rintro (e|e);exact d.d9 e.symm;exact d.da e.symm),
  fun i x hx=>(h.ent i x hx).but hb n2,fun j=>by rw [World.frozen?_of_block (w:=w) (hb.block A.eb h.lte n2)];exact h.fr j,Nat.lt_of_lt_of_le h.lte hb.size,h.len,d⟩
theorem Cm.setK {w w':World}{A:Ad}{kn mo:Nat}{T:List (Cp×Int)}{X:List Tk}{l l':Fo}(h:Cm w A kn mo T X l)(hb:But (·=A.kb) w w')(hk:Ki w' A.kg A.kb mo l'):Cm w' A kn mo T X l':=by
 have d:=h.dis
 exact⟨cb_ hb h.c0 (fun e=>d.d4 e.symm),cb_ hb h.c1 (fun e=>d.d4 e.symm),cb_ hb h.c2 (fun e=>d.d4 e.symm),h.tab.but hb d.d9 d.da,hk,
  fun i x hx=>(h.ent i x hx).but hb d.dc,fun j=>by rw [World.frozen?_of_block (w:=w) (hb.block A.eb h.lte d.dc)];exact h.fr j,Nat.lt_of_lt_of_le h.lte hb.size,h.len,d⟩
theorem Cm.setX {w:World}{A:Ad}{kn mo:Nat}{T:List (Cp×Int)}{X:List Tk}{l:Fo}(h:Cm w A kn mo T X l){i:Nat}(hi:i<mo)(x:Tk):Cm (setE w A.eb (i*4) x) A kn mo T (X.set i x) l:=by
 have d:=h.dis
 have hb:But (·=A.eb) w (setE w A.eb (i*4) x):=setE_but (S:=(·=A.eb)) (But.refl _ _) rfl _ _
 obtain⟨y,hy⟩:=get_some (L:=X) (i:=i) (by rw [h.len];exact hi)
 refine⟨cb_ hb h.c0 (fun e=>d.d3 e.symm),cb_ hb h.c1 (fun e=>d.d3 e.symm),cb_ hb h.c2 (fun e=>d.d3 e.symm),h.tab.but hb d.d5 d.d6,h.kin.but hb (fun e=>d.db e.symm) (fun e=>d.dc e.symm),fun j z hz=>?_,fun j=>by simpa [setE] using h.fr j,Nat.lt_of_lt_of_le h.lte hb.size,by rw [List.length_set];exact h.len,d⟩
 rcases Go.Proofs.YtfmhdimaijimlaaGreatDoor.get_set hz with ⟨rfl,rfl⟩|⟨hne,h3⟩
 ·exact (h.ent _ y hy).set _
 ·exact (h.ent _ _ h3).setOff _ (by omega)
theorem Cm.at_ {w:World}{A:Ad}{kn mo:Nat}{T:List (Cp×Int)}{X:List Tk}{l:Fo}(h:Cm w A kn mo T X l){i:Nat}(hi:i<mo):Pe w A.eb (i*4) (tk X (i:Int)):=by
 obtain⟨y,hy⟩:=get_some (L:=X) (i:=i) (by rw [h.len];exact hi)
 have:tk X (i:Int)=y:=by unfold tk;simp [hy]
 rw [this]
 exact h.ent i y hy
theorem chas_any {w:World}{A:Ad}{kn mo:Nat}{T:List (Cp×Int)}{X:List Tk}{l:Fo}(h:Cm w A kn mo T X l)(n:Int) :
  Calls Tryz.prog 173 #[.pointer (some ⟨A.g,2,none⟩),.int .i64 n] w fun e w'=>e=.returned (.bool (decide (n∈nums l)))∧w'=w:=by
 have hc:=hid (has_any h.kin n)
 have x2:=h.c2
 clear h
 go_enter Tryz.func173,Tryz.ntmps173
 go_wp2_with (first|(go_at_call 211;refine hc.out.mono ?_;rintro e w1 ⟨rfl,rfl⟩))
 go_ret
 exact⟨rfl,rfl⟩
theorem cpar_any {w:World}{A:Ad}{kn mo:Nat}{T:List (Cp×Int)}{X:List Tk}{l:Fo}(h:Cm w A kn mo T X l)(n p:Int)(hp:(n,p)∈l) :
  Calls Tryz.prog 174 #[.pointer (some ⟨A.g,2,none⟩),.int .i64 n] w fun e w'=>e=.returned (.int .i64 p)∧w'=w:=by
 have hc:=hid (parent_in h.kin n p hp)
 have x2:=h.c2
 clear h hp
 go_enter Tryz.func174,Tryz.ntmps174
 go_wp2_with (first|(go_at_call 212;refine hc.out.mono ?_;rintro e w1 ⟨rfl,rfl⟩))
 go_ret
 exact⟨rfl,rfl⟩
abbrev cpV (c:Cp):Value:=.agg #[.int .i64 c.1,.int .u64 (c.2.1:Int),.int .u64 (c.2.2:Int)]
theorem find_of {w:World}{A:Ad}{kn mo:Nat}{T:List (Cp×Int)}{X:List Tk}{l:Fo}(h:Cm w A kn mo T X l)(o:Int)(hi lo:Nat)(v:Int)(b:Bool)
  (hG:∀W,Below w.heap.size w W→Calls Tryz.prog 258 #[.pointer (some ⟨A.tg,0,none⟩),.agg #[.int .i64 o,.int .u64 (hi:Int),.int .u64 (lo:Int)]] W (fun e w'=>e=.returned (.tuple #[.int .i64 v,.bool b])∧Below W.heap.size W w')) :
  Calls Tryz.prog 196 #[.pointer (some ⟨A.g,0,none⟩),.agg #[.int .i64 o,.int .u64 (hi:Int),.int .u64 (lo:Int)]] w fun e w'=>e=.returned (.tuple #[.int .i64 v,.bool b])∧Below w.heap.size w w':=by
 have hN:Hid (∀W,Below w.heap.size w W→Calls Tryz.prog 230 #[.pointer (some ⟨A.g,0,none⟩),.agg #[.int .i64 o,.int .u64 (hi:Int),.int .u64 (lo:Int)]] W (fun e w'=>e=.returned (.tuple #[.int .i64 v,.bool b])∧Below W.heap.size W w')):=by
  intro W hW
  have x0:=(h.later hW).c0
  clear h
  obtain⟨w1,hw1⟩:∃w1,w1=W.alloc (Obj.cells #[.int .i64 o,.int .u64 (hi:Int),.int .u64 (lo:Int)] 38):=⟨_,rfl⟩
  have hB1:Below W.heap.size W w1:=by rw [hw1];exact below1 _ _
  have hC:Hid (∀U:World,Below w1.heap.size w1 U→(U.cell? ⟨W.heap.size,0,none⟩=some (.int .i64 o)∧U.cell? ⟨W.heap.size,1,none⟩=some (.int .u64 (hi:Int))∧U.cell? ⟨W.heap.size,2,none⟩=some (.int .u64 (lo:Int))∧U.cell? ⟨A.g,0,none⟩=some (.pointer (some ⟨A.tg,0,none⟩)))∧Below w1.heap.size w1 U):=fun U hU =>
   ⟨⟨cell_later hU (by rw [hw1];simp [go_sem]),cell_later hU (by rw [hw1];simp [go_sem]),cell_later hU (by rw [hw1];simp [go_sem]),cell_later hU (cell_later hB1 x0)⟩,hU⟩
  have HG:=hid (fun (U:World) (hU:Below w1.heap.size w1 U)=>hG U (bc (bc hW hB1) hU))
  have HB1:=hid hB1
  clear hG hB1 hW
  go_enter Tryz.func230,Tryz.ntmps230
  go_upto_region 1 with fail
  rw [←hw1]
  clear hw1
  go_region_held3 (fun U=>(U.cell? ⟨W.heap.size,0,none⟩=some (.int .i64 o)∧U.cell? ⟨W.heap.size,1,none⟩=some (.int .u64 (hi:Int))∧U.cell? ⟨W.heap.size,2,none⟩=some (.int .u64 (lo:Int))∧U.cell? ⟨A.g,0,none⟩=some (.pointer (some ⟨A.tg,0,none⟩)))∧Below w1.heap.size w1 U) (first|exact hC.out _ HB2.out|exact hC.out _ (Below.refl _ _).drew) (first
   | (go_at_call 258;refine (HG.out _ (Below.refl _ _).drew).mono ?_;rintro e w2 ⟨rfl,hb2⟩;have HB2:=hid (bc (Below.refl w1.heap.size w1).drew hb2);clear hb2))
  go_wp2
  exact bodyPost_ret (v:=.tuple #[.int .i64 v,.bool b]) (by simp [results,Tryz.results230,go_sem]) rfl ⟨rfl,bc HB1.out HB2.out⟩
 obtain⟨w1,hw1⟩:∃w1,w1=w.alloc (Obj.cells #[.int .i64 o,.int .u64 (hi:Int),.int .u64 (lo:Int)] 38):=⟨_,rfl⟩
 have hB1:Below w.heap.size w w1:=by rw [hw1];exact below1 _ _
 have hC:Hid (∀U:World,Below w1.heap.size w1 U→(U.cell? ⟨w.heap.size,0,none⟩=some (.int .i64 o)∧U.cell? ⟨w.heap.size,1,none⟩=some (.int .u64 (hi:Int))∧U.cell? ⟨w.heap.size,2,none⟩=some (.int .u64 (lo:Int)))∧Below w1.heap.size w1 U):=fun U hU =>
  ⟨⟨cell_later hU (by rw [hw1];simp [go_sem]),cell_later hU (by rw [hw1];simp [go_sem]),cell_later hU (by rw [hw1];simp [go_sem])⟩,hU⟩
 have HB1:=hid hB1
 clear hG hB1 h
 go_enter Tryz.func196,Tryz.ntmps196
 go_upto_region 1 with fail
 rw [←hw1]
 clear hw1
 go_region_held3 (fun U=>(U.cell? ⟨w.heap.size,0,none⟩=some (.int .i64 o)∧U.cell? ⟨w.heap.size,1,none⟩=some (.int .u64 (hi:Int))∧U.cell? ⟨w.heap.size,2,none⟩=some (.int .u64 (lo:Int)))∧Below w1.heap.size w1 U) (first|exact hC.out _ HB2.out|exact hC.out _ (Below.refl _ _).drew) (first
  | (go_at_call 230;refine (hN.out _ (bc HB1.out (Below.refl _ _).drew)).mono ?_;rintro e w2 ⟨rfl,hb2⟩;have HB2:=hid (bc (Below.refl w1.heap.size w1).drew hb2);clear hb2))
 go_wp2
 exact bodyPost_ret (v:=.tuple #[.int .i64 v,.bool b]) (by simp [results,Tryz.results196,go_sem]) rfl ⟨rfl,bc HB1.out HB2.out⟩
theorem note_no {w:World}{A:Ad}{kn mo:Nat}{T:List (Cp×Int)}{X:List Tk}{l:Fo}(h:Cm w A kn mo T X l)(n o:Int)(hi lo:Nat)(r code:Int)(hc:code≠0)
  (hG:∀W,Below w.heap.size w W→Calls Tryz.prog 252 #[.pointer (some ⟨A.tg,0,none⟩),.agg #[.int .i64 o,.int .u64 (hi:Int),.int .u64 (lo:Int)],.int .i64 n] W (fun e w'=>e=.returned (.int .i64 code)∧Below W.heap.size W w')) :
  Calls Tryz.prog 219 #[.pointer (some ⟨A.g,0,none⟩),.int .i64 n,.agg #[.int .i64 o,.int .u64 (hi:Int),.int .u64 (lo:Int),.int .i64 r]] w fun e w'=>e=.returned (.int .i64 code)∧Below w.heap.size w w':=by
 have x0:=h.c0
 clear h
 obtain⟨w1,hw1⟩:∃w1,w1=w.alloc (Obj.cells #[.int .i64 o,.int .u64 (hi:Int),.int .u64 (lo:Int),.int .i64 r] 271):=⟨_,rfl⟩
 have hB1:Below w.heap.size w w1:=by rw [hw1];exact below1 _ _
 have hC:Hid (∀U:World,Below w1.heap.size w1 U→(U.cell? ⟨w.heap.size,0,none⟩=some (.int .i64 o)∧U.cell? ⟨w.heap.size,1,none⟩=some (.int .u64 (hi:Int))∧U.cell? ⟨w.heap.size,2,none⟩=some (.int .u64 (lo:Int))∧U.cell? ⟨A.g,0,none⟩=some (.pointer (some ⟨A.tg,0,none⟩)))∧Below w1.heap.size w1 U):=fun U hU =>
  ⟨⟨cell_later hU (by rw [hw1];simp [go_sem]),cell_later hU (by rw [hw1];simp [go_sem]),cell_later hU (by rw [hw1];simp [go_sem]),cell_later hU (cell_later hB1 x0)⟩,hU⟩
 have HG:=hid (fun (U:World) (hU:Below w1.heap.size w1 U)=>hG U (bc hB1 hU))
 have HB1:=hid hB1
 clear hG hB1
 go_enter Tryz.func219,Tryz.ntmps219
 go_upto_region 1 with fail
 rw [←hw1]
 clear hw1
 go_region_held3 (fun U=>(U.cell? ⟨w.heap.size,0,none⟩=some (.int .i64 o)∧U.cell? ⟨w.heap.size,1,none⟩=some (.int .u64 (hi:Int))∧U.cell? ⟨w.heap.size,2,none⟩=some (.int .u64 (lo:Int))∧U.cell? ⟨A.g,0,none⟩=some (.pointer (some ⟨A.tg,0,none⟩)))∧Below w1.heap.size w1 U) (first|exact hC.out _ HB2.out|exact hC.out _ (Below.refl _ _).drew) (first
  | (go_at_call 252;refine (HG.out _ (Below.refl _ _).drew).mono ?_;rintro e w2 ⟨rfl,hb2⟩;have HB2:=hid (bc (Below.refl w1.heap.size w1).drew hb2);clear hb2))
 go_wp2
 go_ret
 exact⟨rfl,bc HB1.out HB2.out⟩
theorem note_ok {w:World}{A:Ad}{kn mo:Nat}{T T':List (Cp×Int)}{X:List Tk}{l:Fo}(h:Cm w A kn mo T X l)(n:Nat)(hn:n<mo)(o:Int)(hi lo:Nat)(r:Int)
  (hG:∀W,Below w.heap.size w W→Calls Tryz.prog 252 #[.pointer (some ⟨A.tg,0,none⟩),.agg #[.int .i64 o,.int .u64 (hi:Int),.int .u64 (lo:Int)],.int .i64 (n:Int)] W (fun e w'=>e=.returned (.int .i64 0)∧I.Tb w' A.tg A.tb kn mo A.N T'∧But (I.In A.tg A.tb) W w')) :
  Calls Tryz.prog 219 #[.pointer (some ⟨A.g,0,none⟩),.int .i64 (n:Int),.agg #[.int .i64 o,.int .u64 (hi:Int),.int .u64 (lo:Int),.int .i64 r]] w fun e w'=>e=.returned (.int .i64 0)∧Cm w' A kn mo T' (X.set n ((o,hi,lo),r)) l∧But A.Wr w w':=by
 have x0:=h.c0
 have hl:=h.lt
 obtain⟨w1,hw1⟩:∃w1,w1=w.alloc (Obj.cells #[.int .i64 o,.int .u64 (hi:Int),.int .u64 (lo:Int),.int .i64 r] 271):=⟨_,rfl⟩
 have hB1:Below w.heap.size w w1:=by rw [hw1];exact below1 _ _
 have hni:∀k,I.In A.tg A.tb k→k<w.heap.size:=by
  rintro k (rfl|rfl)
  ·exact hl _ (.inr (.inr (.inl rfl)))
  ·exact hl _ (.inr (.inr (.inr (.inl rfl))))
 have hng:¬I.In A.tg A.tb A.g:=by rintro (e|e);exact h.dis.d1 e.symm;exact h.dis.d2 e.symm
 have hns:¬I.In A.tg A.tb w.heap.size:=fun hs=>by have:=hni _ hs;omega
 have hC:Hid (∀U:World,But (I.In A.tg A.tb) w1 U→(U.cell? ⟨w.heap.size,0,none⟩=some (.int .i64 o)∧U.cell? ⟨w.heap.size,1,none⟩=some (.int .u64 (hi:Int))∧U.cell? ⟨w.heap.size,2,none⟩=some (.int .u64 (lo:Int))∧U.cell? ⟨w.heap.size,3,none⟩=some (.int .i64 r)∧U.cell? ⟨A.g,0,none⟩=some (.pointer (some ⟨A.tg,0,none⟩)))∧But (I.In A.tg A.tb) w1 U):=fun U hU =>
  ⟨⟨cb_ hU (by rw [hw1];simp [go_sem]) hns,cb_ hU (by rw [hw1];simp [go_sem]) hns,cb_ hU (by rw [hw1];simp [go_sem]) hns,cb_ hU (by rw [hw1];simp [go_sem]) hns,cb_ hU (cell_later hB1 x0) hng⟩,hU⟩
 have HG:=hid (fun (U:World) (hU:Below w1.heap.size w1 U)=>hG U (bc hB1 hU))
 have HB1:=hid hB1
 have HH:=hid h
 have hmo:=h.small
 have hne:=h.dis.d3
 have hse:¬w.heap.size=A.eb:=by have:=h.lte;omega
 clear hG hB1 h hni hng hns hl
 go_enter Tryz.func219,Tryz.ntmps219
 go_upto_region 1 with fail
 rw [←hw1]
 clear hw1
 go_region_held3 (fun U=>(U.cell? ⟨w.heap.size,0,none⟩=some (.int .i64 o)∧U.cell? ⟨w.heap.size,1,none⟩=some (.int .u64 (hi:Int))∧U.cell? ⟨w.heap.size,2,none⟩=some (.int .u64 (lo:Int))∧U.cell? ⟨w.heap.size,3,none⟩=some (.int .i64 r)∧U.cell? ⟨A.g,0,none⟩=some (.pointer (some ⟨A.tg,0,none⟩)))∧But (I.In A.tg A.tb) w1 U) (first|exact hC.out _ HB2.out|exact hC.out _ (But.of (Below.refl _ _).drew)) (first
  | (go_at_call 252;refine (HG.out _ (Below.refl _ _).drew).mono ?_;rintro e w2 ⟨rfl,ht2,hb2⟩;have HB2:=hid ((But.of (S:=I.In A.tg A.tb) (Below.refl w1.heap.size w1).drew).trans hb2);have HT2:=hid ht2;clear hb2 ht2))
 obtain⟨⟨y0,y1,y2,y3,_⟩,_⟩:=hC.out _ HB2.out
 have hM:=(HH.out.later HB1.out).setT HB2.out HT2.out
 have z1:=hM.c1
 obtain⟨p0,p1,p2,p3⟩:=hM.at_ hn
 have hfr:=hM.fr
 have hfin:∀W:World,W=(setE w2 A.eb (n*4) ((o,hi,lo),r)).drew→Cm W A kn mo T' (X.set n ((o,hi,lo),r)) l∧But A.Wr w W:=by
  rintro W rfl
  refine⟨(hM.setX hn _).later (Below.refl _ _).drew,(setE_but ((But.of HB1.out).trans (HB2.out.mono ?_)) (.inr (.inr (.inl rfl))) _ _).call (Below.refl _ _).drew⟩
  rintro k (rfl|rfl)
  ·exact .inl rfl
  ·exact .inr (.inl rfl)
 have HF:=hid hfin
 clear hM hfin
 go_wp2
 go_region
 go_wp2
 go_ret
 exact⟨rfl,HF.out _ rfl⟩
theorem wr_in {A:Ad}{k:Nat}(h:I.In A.tg A.tb k):A.Wr k:=by
 rcases h with rfl|rfl
 ·exact .inl rfl
 ·exact .inr (.inl rfl)
theorem forget_of {w:World}{A:Ad}{kn mo:Nat}{T T':List (Cp×Int)}{X:List Tk}{l:Fo}(h:Cm w A kn mo T X l)(n:Nat)(hn:n<mo)(o:Int)(hi lo:Nat)(r:Int)(hx:tk X (n:Int)=((o,hi,lo),r))
  (hG:∀W,Below w.heap.size w W→Calls Tryz.prog 260 #[.pointer (some ⟨A.tg,0,none⟩),.agg #[.int .i64 o,.int .u64 (hi:Int),.int .u64 (lo:Int)]] W (fun e w'=>(∃b,e=.returned (.bool b))∧I.Tb w' A.tg A.tb kn mo A.N T'∧But (I.In A.tg A.tb) W w')) :
  Calls Tryz.prog 232 #[.pointer (some ⟨A.g,0,none⟩),.int .i64 (n:Int)] w fun e w'=>e=.returned (cpV (o,hi,lo))∧Cm w' A kn mo T' (X.set n tz) l∧But A.Wr w w':=by
 have hl:=h.lt
 have hE:=h.at_ hn
 rw [hx] at hE
 obtain⟨w0,hw0⟩:∃w0,w0=w.alloc (Obj.cells #[.int .i64 0,.int .u64 0,.int .u64 0] 38):=⟨_,rfl⟩
 have hB0:Below w.heap.size w w0:=by rw [hw0];exact below1 _ _
 have x0:=cell_later hB0 h.c0
 have x1:=cell_later hB0 h.c1
 obtain⟨e0,e1,e2,e3⟩:=hE.later hB0
 simp only at e0 e1 e2 e3
 have hlt0:w.heap.size<w0.heap.size:=by rw [hw0];simp
 obtain⟨w1,hw1⟩:∃w1,w1=w0.alloc (Obj.cells #[.int .i64 o,.int .u64 (hi:Int),.int .u64 (lo:Int)] 38):=⟨_,rfl⟩
 have hB01:Below w0.heap.size w0 w1:=by rw [hw1];exact below1 _ _
 have hB1:Below w.heap.size w w1:=bc hB0 hB01
 have hni:∀k,I.In A.tg A.tb k→k<w.heap.size:=by
  rintro k (rfl|rfl)
  ·exact hl _ (.inr (.inr (.inl rfl)))
  ·exact hl _ (.inr (.inr (.inr (.inl rfl))))
 have hng:¬I.In A.tg A.tb A.g:=by rintro (e|e);exact h.dis.d1 e.symm;exact h.dis.d2 e.symm
 have hns:¬I.In A.tg A.tb w.heap.size:=fun hs=>by have:=hni _ hs;omega
 have hns1:¬I.In A.tg A.tb w0.heap.size:=fun hs=>by have:=hni _ hs;omega
 have hC:Hid (∀U:World,But (I.In A.tg A.tb) w1 U→(U.cell? ⟨w0.heap.size,0,none⟩=some (.int .i64 o)∧U.cell? ⟨w0.heap.size,1,none⟩=some (.int .u64 (hi:Int))∧U.cell? ⟨w0.heap.size,2,none⟩=some (.int .u64 (lo:Int))∧U.cell? ⟨A.g,0,none⟩=some (.pointer (some ⟨A.tg,0,none⟩)))∧But (I.In A.tg A.tb) w1 U):=fun U hU =>
  ⟨⟨cb_ hU (by rw [hw1];simp [go_sem]) hns1,cb_ hU (by rw [hw1];simp [go_sem]) hns1,cb_ hU (by rw [hw1];simp [go_sem]) hns1,cb_ hU (cell_later hB01 x0) hng⟩,hU⟩
 have hL0:Lies w0 ⟨w.heap.size,0,none⟩ (.int .i64 0)∧Lies w0 ⟨w.heap.size,1,none⟩ (.int .u64 0)∧Lies w0 ⟨w.heap.size,2,none⟩ (.int .u64 0):=by
  rw [hw0];exact⟨⟨by simp [go_sem],by simp [go_sem]⟩,⟨by simp [go_sem],by simp [go_sem]⟩,⟨by simp [go_sem],by simp [go_sem]⟩⟩
 have hD:Hid (∀U:World,But (I.In A.tg A.tb) w1 U→Lies U ⟨w.heap.size,0,none⟩ (.int .i64 0)∧Lies U ⟨w.heap.size,1,none⟩ (.int .u64 0)∧Lies U ⟨w.heap.size,2,none⟩ (.int .u64 0)):=fun U hU =>
  ⟨(hL0.1.later hB01).but hU hns,(hL0.2.1.later hB01).but hU hns,(hL0.2.2.later hB01).but hU hns⟩
 have HG:=hid (fun (U:World) (hU:Below w1.heap.size w1 U)=>hG U (bc hB1 hU))
 have HB1:=hid hB1
 have HH:=hid h
 have hmo:=h.small
 have hse:¬w.heap.size=A.eb:=by have:=h.lte;omega
 have hse1:¬w0.heap.size=A.eb:=by have:=h.lte;omega
 have hge:¬A.g=A.eb:=fun e=>h.dis.d3 e.symm
 have hslt:¬w.heap.size=w0.heap.size:=by omega
 clear hG hB1 h hni hng hns hns1 hl hx hE hL0 hB01 hB0 hlt0
 go_enter Tryz.func232,Tryz.ntmps232
 go_upto_region 1 with fail
 rw [←hw0]
 clear hw0
 go_upto_region 2 with fail
 rw [←hw1]
 clear hw1 x0 x1 e0 e1 e2 e3
 go_region_held3 (fun U=>(U.cell? ⟨w0.heap.size,0,none⟩=some (.int .i64 o)∧U.cell? ⟨w0.heap.size,1,none⟩=some (.int .u64 (hi:Int))∧U.cell? ⟨w0.heap.size,2,none⟩=some (.int .u64 (lo:Int))∧U.cell? ⟨A.g,0,none⟩=some (.pointer (some ⟨A.tg,0,none⟩)))∧But (I.In A.tg A.tb) w1 U) (first|exact hC.out _ HB2.out|exact hC.out _ (But.of (Below.refl _ _).drew)) (first
  | (go_at_call 260;refine (HG.out _ (Below.refl _ _).drew).mono ?_;rintro e w2 ⟨⟨b,rfl⟩,ht2,hb2⟩;have HB2:=hid ((But.of (S:=I.In A.tg A.tb) (Below.refl w1.heap.size w1).drew).trans hb2);have HT2:=hid ht2;clear hb2 ht2))
 obtain⟨⟨y0,y1,y2,_⟩,_⟩:=hC.out _ HB2.out
 obtain⟨⟨r0,q0⟩,⟨r1,q1⟩,⟨r2,q2⟩⟩:=hD.out _ HB2.out
 have hM:=(HH.out.later HB1.out).setT HB2.out HT2.out
 have z1:=hM.c1
 obtain⟨p0,p1,p2,p3⟩:=hM.at_ hn
 have hfr:=hM.fr
 have hfin:∀W:World,W=(((setE w2 A.eb (n*4) tz).setCell ⟨w.heap.size,0,none⟩ (.int .i64 o)).setCell ⟨w.heap.size,1,none⟩ (.int .u64 (hi:Int))).setCell ⟨w.heap.size,2,none⟩ (.int .u64 (lo:Int))→Cm W A kn mo T' (X.set n tz) l∧But A.Wr w W:=by
  rintro W rfl
  have hb:But (·=w.heap.size) (setE w2 A.eb (n*4) tz) ((((setE w2 A.eb (n*4) tz).setCell ⟨w.heap.size,0,none⟩ (.int .i64 o)).setCell ⟨w.heap.size,1,none⟩ (.int .u64 (hi:Int))).setCell ⟨w.heap.size,2,none⟩ (.int .u64 (lo:Int))) :=
   (((But.refl (·=w.heap.size) _).setCell (p:=⟨w.heap.size,0,none⟩) rfl _).setCell (p:=⟨w.heap.size,1,none⟩) rfl _).setCell (p:=⟨w.heap.size,2,none⟩) rfl _
  refine⟨(hM.setX hn _).but hb (fun k hk e=>by have:=HH.out.lt k hk;omega),But.comp (setE_but ((But.of HB1.out).trans (HB2.out.mono fun k hk=>wr_in hk)) (.inr (.inr (.inl rfl))) _ _) hb (fun i e=>.inr (by omega))⟩
 have HF:=hid hfin
 clear hM hfin
 go_wp2
 exact bodyPost_ret (v:=cpV (o,hi,lo)) (by simp [results,Tryz.results232,go_sem,r0,r1,r2]) rfl ⟨rfl,HF.out _ rfl⟩
def dropT (T:List (Cp×Int))(c:Cp):List (Cp×Int):=T.filter (fun e=>decide (e.1≠c))
theorem dropT_perm:∀{T:List (Cp×Int)} {c:Cp} {v:Int},(T.map Prod.fst).Nodup→(c,v)∈T→T.Perm ((c,v)::dropT T c)
 | [],_,_,_,h=>by cases h
 | (d,u)::T,c,v,hn,h=>by
  rw [List.map_cons,List.nodup_cons] at hn
  by_cases e:d=c
  ·subst e
   have hu:v=u:=by
    rcases List.mem_cons.1 h with h|h
    ·exact (Prod.mk.inj h).2
    ·exact absurd (List.mem_map.2 ⟨_,h,rfl⟩) hn.1
   subst hu
   have hT:dropT T d=T:=List.filter_eq_self.2 (fun x hx=>decide_eq_true (fun e=>hn.1 (List.mem_map.2 ⟨x,hx,e⟩)))
   have:dropT ((d,v)::T) d=T:=by unfold dropT;rw [List.filter_cons_of_neg (by simp)];exact hT
   rw [this]
  ·have h':(c,v)∈T:=by
    rcases List.mem_cons.1 h with h|h
    ·exact absurd (Prod.mk.inj h).1.symm e
    ·exact h
   have:dropT ((d,u)::T) c=(d,u)::dropT T c:=by unfold dropT;rw [List.filter_cons_of_pos (by simpa using e)]
   rw [this]
   exact ((dropT_perm hn.2 h').cons _).trans (List.Perm.swap _ _ _)
theorem dropT_none {T:List (Cp×Int)}{c:Cp}(h:c∉T.map Prod.fst):dropT T c=T:=List.filter_eq_self.2 (fun x hx=>decide_eq_true (fun e=>h (List.mem_map.2 ⟨x,hx,e⟩)))
theorem forget_tot {w:World}{A:Ad}{kn mo:Nat}{T:List (Cp×Int)}{X:List Tk}{l:Fo}(h:Cm w A kn mo T X l)(n:Nat)(hn:n<mo)(hw:(tk X (n:Int)).1.2.1<B64∧(tk X (n:Int)).1.2.2<B64) :
  Calls Tryz.prog 232 #[.pointer (some ⟨A.g,0,none⟩),.int .i64 (n:Int)] w fun e w'=>e=.returned (cpV (tk X (n:Int)).1)∧Cm w' A kn mo (dropT T (tk X (n:Int)).1) (X.set n tz) l∧But A.Wr w w':=by
 obtain⟨⟨o,hi,lo⟩,r,hx⟩:∃c r,tk X (n:Int)=(c,r):=⟨_,_,rfl⟩
 rw [hx] at hw ⊢
 refine forget_of h n hn o hi lo r hx (fun W hW=>?_)
 by_cases hc:(o,hi,lo)∈T.map Prod.fst
 ·obtain⟨⟨c,v⟩,hm,rfl⟩:=List.mem_map.1 hc
  exact (I.drop_ok (h.tab.later hW) _ _ _ hw.1 hw.2 v hm _ (dropT_perm h.tab.nodup hm)).mono (fun e w' he=>⟨⟨_,he.1⟩,he.2⟩)
 ·rw [dropT_none hc]
  exact (I.drop_none (h.tab.later hW) _ _ _ hw.1 hw.2 hc).mono (fun e w' he=>⟨⟨_,he.1⟩,(h.tab.later hW).later he.2,But.of he.2⟩)
theorem join_any {w:World}{A:Ad}{kn mo:Nat}{T:List (Cp×Int)}{X:List Tk}{l:Fo}(h:Cm w A kn mo T X l)(p:Int)(n:Nat)(hn:n<mo)(hl:(n:Int)∉nums l)(hp:p=-1∨p∈nums l) :
  Calls Tryz.prog 220 #[.pointer (some ⟨A.g,2,none⟩),.int .i64 p,.int .i64 (n:Int)] w fun e w'=>e=.returned (.tuple #[])∧Cm w' A kn mo T X (l++[((n:Int),p)])∧But A.Wr w w':=by
 have x2:=h.c2
 have HH:=hid h
 by_cases hq:p=-1
 ·subst hq
  have hc:=hid (root_any h.kin (n:Int))
  have HL:Hid (rootL mo l (n:Int)=l++[((n:Int),-1)]):=by unfold Hid rootL;rw [if_pos ⟨by omega,hl⟩]
  clear h hl hp
  go_enter Tryz.func220,Tryz.ntmps220
  go_wp2_with (first|(go_at_call 253;refine hc.out.mono ?_;rintro e w1 ⟨rfl,hk,hb⟩;have HK:=hid hk;have HB:=hid hb;clear hk hb))
  refine bodyPost_ret (results_none rfl _ _ _) rfl ⟨rfl,?_,HB.out.mono (fun k e=>.inr (.inr (.inr e)))⟩
  rw [←HL.out]
  exact HH.out.setK HB.out HK.out
 ·have hp':p∈nums l:=hp.resolve_left hq
  have hc:=hid (child_any h.kin p (n:Int))
  have HL:Hid (childL mo l p (n:Int)=l++[((n:Int),p)]):=by unfold Hid childL;rw [if_pos ⟨hp',by omega,hl⟩]
  have hb1:(p==(-1:Int))=false:=by simp [hq]
  clear h hl hp hp'
  go_enter Tryz.func220,Tryz.ntmps220
  go_wp2_with (first|(go_at_call 254;refine hc.out.mono ?_;rintro e w1 ⟨rfl,hk,hb⟩;have HK:=hid hk;have HB:=hid hb;clear hk hb))
  go_end0
  refine⟨rfl,?_,HB.out.mono (fun k e=>.inr (.inr (.inr e)))⟩
  rw [←HL.out]
  exact HH.out.setK HB.out HK.out
theorem lowest_any {w:World}{A:Ad}{kn mo:Nat}{T:List (Cp×Int)}{X:List Tk}{l:Fo}(h:Cm w A kn mo T X l) :
  Calls Tryz.prog 218 #[.pointer (some ⟨A.g,0,none⟩)] w fun e w'=>e=.returned (.int .i64 (low l:Int))∧w'=w:=by
 have hok:=hid h.kin.ok
 have hmo:=h.small
 have hlen:=hok.out.len
 have hH:=fun n:Int=>hid (chas_any h n)
 clear h
 go_enter Tryz.func218,Tryz.ntmps218
 go_upto_region 2 with fail
 go_loopw [3] (fun v w'=>∃(i:Nat),v=.int .i64 (i:Int)∧i≤l.length∧Hid (∀j:Nat,j<i→(j:Int)∈nums l)∧w=w') (fun k _=>l.length - (intOf k).toNat)
 case atStart=>exact⟨0,rfl,Nat.zero_le _,fun j hj=>by omega,rfl⟩
 case round =>
  obtain⟨i,rfl,hi,hx,rfl⟩:=hrel
  have hh:=(hH (i:Int)).out
  by_cases hin:(i:Int)∈nums l
  ·rw [decide_eq_true hin] at hh
   have hx1:Hid (∀j:Nat,j<i+1→(j:Int)∈nums l):=fun j hj=>by
    by_cases e:j=i
    ·rw [e];exact hin
    ·exact hx.out j (by omega)
   have hlt:i+1≤l.length:=low_bound hx1.out
   clear hin
   go_wp2_with (first|(go_at_call 173;refine hh.mono ?_;rintro e w1 ⟨rfl,rfl⟩))
   refine⟨⟨i+1,by go_num,by omega,hx1,trivial⟩,by simp [intOf];omega⟩
  ·rw [decide_eq_false hin] at hh
   have HE:Hid (low l=i):=low_eq hin hx.out
   clear hin
   go_wp2_with (first|(go_at_call 173;refine hh.mono ?_;rintro e w1 ⟨rfl,rfl⟩))
   go_ret
   exact⟨by rw [HE.out];rfl,rfl⟩
abbrev tokA (c:Cp)(r p:Int):Value:=.agg #[.int .i64 c.1,.int .u64 (c.2.1:Int),.int .u64 (c.2.2:Int),.int .i64 r,.int .i64 p]
def set5 (w:World)(b:Nat)(c:Cp)(r p:Int):World :=
 ((((w.setCell ⟨b,0,none⟩ (.int .i64 c.1)).setCell ⟨b,1,none⟩ (.int .u64 (c.2.1:Int))).setCell ⟨b,2,none⟩ (.int .u64 (c.2.2:Int))).setCell ⟨b,3,none⟩ (.int .i64 r)).setCell ⟨b,4,none⟩ (.int .i64 p)
theorem set5_but {S:Nat→Prop}{a w:World}(h:But S a w){b:Nat}(hb:S b)(c:Cp)(r p:Int):But S a (set5 w b c r p) :=
 ((((h.setCell (p:=⟨b,0,none⟩) hb _).setCell (p:=⟨b,1,none⟩) hb _).setCell (p:=⟨b,2,none⟩) hb _).setCell (p:=⟨b,3,none⟩) hb _).setCell (p:=⟨b,4,none⟩) hb _
theorem at_in {w:World}{A:Ad}{kn mo:Nat}{T:List (Cp×Int)}{X:List Tk}{l:Fo}(h:Cm w A kn mo T X l)(n p:Int)(hp:(n,p)∈l) :
  Calls Tryz.prog 122 #[.pointer (some ⟨A.g,0,none⟩),.int .i64 n] w fun e w'=>e=.returned (.tuple #[tokA (tk X n).1 (rg X n) p,.bool true])∧Below w.heap.size w w':=by
 have hnl:=mn_.2 ⟨p,hp⟩
 have hrn:=h.kin.ok.range n hnl
 obtain⟨k,rfl⟩:∃k:Nat,n=(k:Int):=⟨n.toNat,by omega⟩
 have hk:k<mo:=by omega
 obtain⟨w0,hw0⟩:∃w0,w0=w.alloc (Obj.cells #[.int .i64 0,.int .u64 0,.int .u64 0,.int .i64 0,.int .i64 0] 61):=⟨_,rfl⟩
 have hB0:Below w.heap.size w w0:=by rw [hw0];exact below1 _ _
 have h0:=h.later hB0
 have hh:=hid (chas_any h0 (k:Int))
 rw [decide_eq_true hnl] at hh
 have x1:=h0.c1
 obtain⟨c,r,hxx⟩:∃c r,tk X (k:Int)=(c,r):=⟨_,_,rfl⟩
 have hE:=h0.at_ hk
 rw [hxx] at hE
 have hrg:rg X (k:Int)=r:=by unfold rg;rw [hxx]
 rw [hrg,hxx]
 obtain⟨o,hi,lo⟩:=c
 obtain⟨e0,e1,e2,e3⟩:=hE
 simp only at e0 e1 e2 e3
 obtain⟨w1,hw1⟩:∃w1,w1=w0.alloc (Obj.cells #[.int .i64 o,.int .u64 (hi:Int),.int .u64 (lo:Int),.int .i64 r] 271):=⟨_,rfl⟩
 have hB1:Below w0.heap.size w0 w1:=by rw [hw1];exact below1 _ _
 have hP:=fun (W:World) (hW:Below w1.heap.size w1 W)=>cpar_any (h0.later (bc hB1 hW)) (k:Int) p hp
 have hlt0:w.heap.size<w0.heap.size:=by rw [hw0];simp
 have hL0:Lies w0 ⟨w.heap.size,0,none⟩ (.int .i64 0)∧Lies w0 ⟨w.heap.size,1,none⟩ (.int .u64 0)∧Lies w0 ⟨w.heap.size,2,none⟩ (.int .u64 0)∧Lies w0 ⟨w.heap.size,3,none⟩ (.int .i64 0)∧Lies w0 ⟨w.heap.size,4,none⟩ (.int .i64 0):=by
  rw [hw0];exact⟨⟨by simp [go_sem],by simp [go_sem]⟩,⟨by simp [go_sem],by simp [go_sem]⟩,⟨by simp [go_sem],by simp [go_sem]⟩,⟨by simp [go_sem],by simp [go_sem]⟩,⟨by simp [go_sem],by simp [go_sem]⟩⟩
 have z0:w1.cell? ⟨w0.heap.size,0,none⟩=some (.int .i64 o):=by rw [hw1];simp [go_sem]
 have z1:w1.cell? ⟨w0.heap.size,1,none⟩=some (.int .u64 (hi:Int)):=by rw [hw1];simp [go_sem]
 have z2:w1.cell? ⟨w0.heap.size,2,none⟩=some (.int .u64 (lo:Int)):=by rw [hw1];simp [go_sem]
 have z3:w1.cell? ⟨w0.heap.size,3,none⟩=some (.int .i64 r):=by rw [hw1];simp [go_sem]
 have hL:Hid (∀U,Below w1.heap.size w1 U→Lies U ⟨w.heap.size,0,none⟩ (.int .i64 0)∧Lies U ⟨w.heap.size,1,none⟩ (.int .u64 0)∧Lies U ⟨w.heap.size,2,none⟩ (.int .u64 0)∧Lies U ⟨w.heap.size,3,none⟩ (.int .i64 0)∧Lies U ⟨w.heap.size,4,none⟩ (.int .i64 0)):=fun U hU =>
  ⟨(hL0.1.later hB1).later hU,(hL0.2.1.later hB1).later hU,(hL0.2.2.1.later hB1).later hU,(hL0.2.2.2.1.later hB1).later hU,(hL0.2.2.2.2.later hB1).later hU⟩
 have hC:Hid (∀U:World,But (·=w.heap.size) w1 U→(U.cell? ⟨w0.heap.size,0,none⟩=some (.int .i64 o)∧U.cell? ⟨w0.heap.size,1,none⟩=some (.int .u64 (hi:Int))∧U.cell? ⟨w0.heap.size,2,none⟩=some (.int .u64 (lo:Int))∧U.cell? ⟨w0.heap.size,3,none⟩=some (.int .i64 r))∧But (·=w.heap.size) w1 U):=fun U hU =>
  ⟨⟨cb_ hU z0 (fun e=>by simp at e;omega),cb_ hU z1 (fun e=>by simp at e;omega),cb_ hU z2 (fun e=>by simp at e;omega),cb_ hU z3 (fun e=>by simp at e;omega)⟩,hU⟩
 have HP:=hid hP
 have hslt:¬w.heap.size=w0.heap.size:=by omega
 have HB:Hid (∀W,But (·=w.heap.size) w1 W→Below w.heap.size w W):=fun W hW=>But.below (bc hB0 hB1) hW (fun k e=>by omega)
 have hmo:=h.small
 clear h h0 hL0 hP hB0 hB1 hlt0 hxx hrg hp hnl
 go_enter Tryz.func122,Tryz.ntmps122
 go_upto_region 1 with fail
 rw [←hw0]
 clear hw0
 go_upto_region 4 with (first|(go_at_call 173;refine hh.out.mono ?_;rintro e w9 ⟨rfl,hw9⟩;obtain rfl:=hw9.symm;clear hw9))
 rw [←hw1]
 clear hw1 e0 e1 e2 e3 x1
 go_region_held3 (fun U=>(U.cell? ⟨w0.heap.size,0,none⟩=some (.int .i64 o)∧U.cell? ⟨w0.heap.size,1,none⟩=some (.int .u64 (hi:Int))∧U.cell? ⟨w0.heap.size,2,none⟩=some (.int .u64 (lo:Int))∧U.cell? ⟨w0.heap.size,3,none⟩=some (.int .i64 r))∧But (·=w.heap.size) w1 U) (first|exact hC.out _ HST.out|exact hC.out _ HB2.out|exact hC.out _ (But.of (Below.refl _ _).drew)) (first
  | (go_at_call 174;refine (HP.out _ (Below.refl _ _).drew).mono ?_;rintro e w2 ⟨rfl,hw2⟩;have hb2:Below w1.heap.size w1 w2:=(by rw [hw2];exact (Below.refl _ _).drew);have HB2:=hid (But.of (S:=(·=w.heap.size)) hb2);have HST:=hid (set5_but (S:=(·=w.heap.size)) HB2.out (b:=w.heap.size) (by rfl) (o,hi,lo) r p);obtain⟨⟨r0,f0⟩,⟨r1,f1⟩,⟨r2,f2⟩,⟨r3,f3⟩,⟨r4,f4⟩⟩:=hL.out w2 hb2;clear hw2 hb2))
 go_wp2
 exact bodyPost_ret (v:=.tuple #[tokA (o,hi,lo) r p,.bool true]) (by simp [results,Tryz.results122,go_sem,r0,r1,r2,r3,r4]) rfl ⟨rfl,HB.out _ HST.out⟩
end Go.Proofs.YtfmhdimaijimlaaGreatDoor
