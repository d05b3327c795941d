import Derived.Test.YtffmodpgddecnaaGreatZ23
set_option linter.unusedVariables false
set_option linter.unusedSimpArgs false
namespace Go.Proofs.YtffmodpgddecnaaGreat.V.E
open Go.RowKit Go.Maps
open Go.Proofs.YtffmodpgddecnaaGreat.H (B64 Cp)
structure CO (w:World)(base:Nat)(c:R.Cl)(dd gg:R.Sl):Prop where
 d:Own w base 5 dd.a dd.n dd.c (S.u8s c.data)
 g:Own w base 3 gg.a gg.n gg.c (ints c.gifts)
 sm:∀x∈c.data,x<256
 hi:c.hi<18446744073709551616
 lo:c.lo<18446744073709551616
 ap:∀j,Blk dd.a j→¬Blk gg.a j
section
variable {w w':World}{c:R.Cl}{dd gg:R.Sl}{base:Nat}
theorem CO.is (h:CO w base c dd gg):R.Is w c dd gg:=by
 have hr:=h.g.read
 exact⟨R_row h.d.read h.sm,⟨by have:=hr.len;unfold ints at this;rwa [List.length_map] at this,hr.cap_,hr.none_,hr.cells⟩,h.hi,h.lo⟩
theorem CO.but {S:Nat→Prop}(h:CO w base c dd gg)(hb:But S w w')(hn:∀j,Blk dd.a j∨Blk gg.a j→¬S j):CO w' base c dd gg :=
 ⟨Own.but hb h.d (fun j hj=>hn j (.inl hj)),Own.but hb h.g (fun j hj=>hn j (.inr hj)),h.sm,h.hi,h.lo,h.ap⟩
theorem CO.mono {b:Nat}(h:CO w base c dd gg)(hb:b≤base):CO w b c dd gg:=⟨h.d.mono hb,h.g.mono hb,h.sm,h.hi,h.lo,h.ap⟩
theorem CO.rng (h:CO w base c dd gg)(j:Nat)(hj:Blk dd.a j∨Blk gg.a j):base≤j∧j<w.heap.size:=by
 rcases hj with hj|hj
 ·exact⟨h.d.blk j hj,h.d.lt j hj⟩
 ·exact⟨h.g.blk j hj,h.g.lt j hj⟩
end
section
variable {w w':World}{c:R.Cl}{dd gg:R.Sl}
set_option maxRecDepth 100000 in
set_option maxHeartbeats 2000000 in
theorem copied_own (h:R.Is w c dd gg)(hb1:dd.n≤140737488355328)(hb2:gg.n*8≤140737488355328) :
  Calls Tryz.prog 9 #[.agg (R.cC c dd gg).toArray] w fun e w'=>∃d' g',e=.returned (.agg (R.cC c d' g').toArray)∧CO w' w.heap.size c d' g'∧Below w.heap.size w w':=by
 obtain⟨W,hW⟩:∃W,W=(w.alloc (Obj.cells (R.cC c dd gg).toArray 45)).alloc (Obj.cells z13.toArray 45):=⟨_,rfl⟩
 have HB:Hid (Below w.heap.size w W):=by rw [hW];exact below2 _ _ _
 have HWs:Hid (W.heap.size=w.heap.size+2):=by unfold Hid;rw [hW];simp
 have hX:R.Bx W w.heap.size (R.cC c dd gg):=by rw [hW];exact R.Bx.later (below1 _ _) (R.Bx.new w _ _)
 have hZ:R.Bx W (w.heap.size+1) z13:=by
  rw [hW]
  have:=R.Bx.new (w.alloc (Obj.cells (R.cC c dd gg).toArray 45)) z13 45
  rwa [World.size_alloc] at this
 have h2:=h.later HB.out
 have hr1:Row W dd.a dd.n dd.c (S.u8s c.data):=⟨by rw [S.u8s_length];exact h2.data.len,h2.data.cap_,h2.data.none_,h2.data.cells,S.u8s_one _⟩
 have hr2:Row W gg.a gg.n gg.c (ints c.gifts):=⟨by unfold ints;rw [List.length_map];exact h2.gifts.len,h2.gifts.cap_,h2.gifts.none_,h2.gifts.cells,by unfold ints;intro u hu;obtain⟨x,_,rfl⟩:=List.mem_map.1 hu;rfl⟩
 have hB1:=below1 W (Obj.cells #[] 5)
 have hO1:=own_empty W 5
 obtain⟨a1,c1,W2,hrun1,hO2,hG1⟩:=S.append_bytes hO1 (hr1.later hB1) hB1.size (by omega)
 rw [Nat.zero_add] at hrun1 hO2
 rw [List.nil_append] at hO2
 have hB2:Below W.heap.size W W2:=But.below hB1 hG1.but (fun k hk=>hO1.blk k hk)
 have hX2:=R.Bx.later hB2 hX
 have xD:W2.cell? ⟨w.heap.size,10,none⟩=some dd.v:=hX2.cell 10 rfl
 have xF:W2.frozen? ⟨w.heap.size,10,none⟩=false:=(hX2.there 10 (by simp [R.cC])).2
 have x10:(W.alloc (Obj.cells #[] 5)).cell? ⟨w.heap.size,10,none⟩=some dd.v:=(R.Bx.later hB1 hX).cell 10 rfl
 obtain⟨W3,hW3⟩:∃W3,W3=W2.setCell ⟨w.heap.size,10,none⟩ (.slice a1 dd.n c1):=⟨_,rfl⟩
 have hX3:R.Bx W3 w.heap.size (R.cC c ⟨a1,dd.n,c1⟩ gg):=by rw [hW3];exact Bx.put hX2 10 (by simp [R.cC]) (.slice a1 dd.n c1)
 have hB3:Below w.heap.size w W3:=by rw [hW3];exact But.below (below_call HB.out hB2) (But.own (g:=w.heap.size) (But.refl _ _) 10 _) (fun k e=>by omega)
 have hS3:W3.heap.size=W2.heap.size:=by rw [hW3];simp
 have hW2s:=hB2.size
 have hO3:Own W3 W.heap.size 5 a1 dd.n c1 (S.u8s c.data):=by rw [hW3];exact Own.but (S:=(·=w.heap.size)) (But.own (But.refl _ _) 10 _) hO2 (fun k hk e=>by have:=hO2.blk k hk;have:=HWs.out;omega)
 have hB4:=below1 W3 (Obj.cells #[] 3)
 have hO4:=own_empty W3 3
 have hr3:Row w gg.a gg.n gg.c (ints c.gifts):=⟨by unfold ints;rw [List.length_map];exact h.gifts.len,h.gifts.cap_,h.gifts.none_,h.gifts.cells,by unfold ints;intro u hu;obtain⟨x,_,rfl⟩:=List.mem_map.1 hu;rfl⟩
 obtain⟨a2,c2,W5,hrun2,hO5,hG2⟩:=append_ints hO4 ((hr3.later hB3).later hB4) hB4.size (by omega)
 rw [Nat.zero_add] at hrun2 hO5
 rw [List.nil_append] at hO5
 have hB5:Below W3.heap.size W3 W5:=But.below hB4 hG2.but (fun k hk=>hO4.blk k hk)
 have hX5:=R.Bx.later hB5 hX3
 have yD:W5.cell? ⟨w.heap.size,12,none⟩=some gg.v:=hX5.cell 12 rfl
 have yF:W5.frozen? ⟨w.heap.size,12,none⟩=false:=(hX5.there 12 (by simp [R.cC])).2
 have y12:(W3.alloc (Obj.cells #[] 3)).cell? ⟨w.heap.size,12,none⟩=some gg.v:=(R.Bx.later hB4 hX3).cell 12 rfl
 obtain⟨W6,hW6⟩:∃W6,W6=W5.setCell ⟨w.heap.size,12,none⟩ (.slice a2 gg.n c2):=⟨_,rfl⟩
 have hX6:R.Bx W6 w.heap.size (R.cC c ⟨a1,dd.n,c1⟩ ⟨a2,gg.n,c2⟩):=by rw [hW6];exact Bx.put hX5 12 (by simp [R.cC]) (.slice a2 gg.n c2)
 have b6:But (·=w.heap.size) W5 W6:=by rw [hW6];exact But.own (But.refl _ _) 12 _
 have b3:But (·=w.heap.size) W2 W3:=by rw [hW3];exact But.own (But.refl _ _) 10 _
 have hZ6:R.Bx W6 (w.heap.size+1) z13:=R.Bx.but b6 (R.Bx.later hB5 (R.Bx.but b3 (R.Bx.later hB2 hZ) (by omega))) (by omega)
 have HLd:=hid (ldC hX6)
 have HS9:=hid (Bx.st45 hZ6 rfl c ⟨a1,dd.n,c1⟩ ⟨a2,gg.n,c2⟩)
 obtain⟨W7,hW7⟩:∃W7,W7=W6.setCells (w.heap.size+1) 0 (R.cC c ⟨a1,dd.n,c1⟩ ⟨a2,gg.n,c2⟩):=⟨_,rfl⟩
 have b7:But (·=w.heap.size+1) W6 W7:=by rw [hW7];exact R.setCells_but (S:=(·=w.heap.size+1)) rfl _ 0 (But.refl _ _)
 have hX7:R.Bx W7 (w.heap.size+1) (R.cC c ⟨a1,dd.n,c1⟩ ⟨a2,gg.n,c2⟩):=by rw [hW7];exact R.Bx.set hZ6 rfl
 have HL9:Hid ((loadVar 45 ⟨w.heap.size+1,0,none⟩).run Tryz.prog W7=.ok (.agg (R.cC c ⟨a1,dd.n,c1⟩ ⟨a2,gg.n,c2⟩).toArray) W7):=R.lv41 hX7.range (by rfl)
 rw [←hW7] at HS9
 have s5:=hB5.size
 have hO7:Own W7 W.heap.size 5 a1 dd.n c1 (S.u8s c.data):=Own.but b7 (Own.but b6 (hO3.later hB5) (fun k hk e=>by have:=hO2.blk k hk;have:=HWs.out;omega)) (fun k hk e=>by have:=hO2.blk k hk;have:=HWs.out;omega)
 have hP7:Own W7 W3.heap.size 3 a2 gg.n c2 (ints c.gifts):=Own.but b7 (Own.but b6 hO5 (fun k hk e=>by have:=hO5.blk k hk;have:=HWs.out;omega)) (fun k hk e=>by have:=hO5.blk k hk;have:=HWs.out;omega)
 have HMn:Hid (CO W7 w.heap.size c ⟨a1,dd.n,c1⟩ ⟨a2,gg.n,c2⟩):=by
  refine⟨hO7.mono (by have:=HWs.out;omega),hP7.mono (by have:=HWs.out;omega),h.data.small,h.hi,h.lo,fun j h1 h2=>?_⟩
  have e1:=hO2.lt j h1
  have e2:=hP7.blk j h2
  omega
 have HB7:Hid (Below w.heap.size w W7):=But.below (But.below (below_call hB3 hB5) b6 (fun k e=>by omega)) b7 (fun k e=>by omega)
 have HW:=hid hW
 have HW3:=hid hW3
 have HW6:=hid hW6
 have HR1:=hid hrun1
 have HR2:=hid hrun2
 clear h h2 hr1 hr2 hr3 hX hZ hB1 hO1 hO2 hG1 hB2 hX2 hX3 hB3 hS3 hW2s hO3 hB4 hO4 hO5 hG2 hB5 hX5 hX6 b6 b3 hZ6 hW7 b7 hX7 s5 hO7 hP7 hW hW3 hW6 hrun1 hrun2 hb1 hb2
 go_enter Tryz.func9,Tryz.ntmps9
 go_upto_region 1 with fail
 have hW:=HW.out
 rw [←hW]
 clear hW
 go_upto_region 2 with (first|(at_builtin;refine wpList_append_known rfl _ _ 39 rfl _ _ rfl rfl _ W2 HR1.out ?_))
 rw [←HW3.out]
 clear x10 xD xF
 go_upto_region 3 with (first|(at_builtin;refine wpList_append_known rfl _ _ 43 rfl _ _ rfl rfl _ W5 HR2.out ?_))
 rw [←HW6.out]
 clear y12 yD yF
 go_wp2_with (first|((with_reducible refine R.ld_arm HLd.out ?_ ?_);(· rfl))|((with_reducible refine st_arm HS9.out ?_ ?_ ?_);(· rfl);(· rfl)))
 exact bodyPost_ret (v:=.agg (R.cC c ⟨a1,dd.n,c1⟩ ⟨a2,gg.n,c2⟩).toArray) (by simp [results,Tryz.results9,asAddr,Act.put,HL9.out]) rfl ⟨⟨a1,dd.n,c1⟩,⟨a2,gg.n,c2⟩,rfl,HMn.out,HB7.out⟩
end
structure Kd (α:Type) where
 cel:α→List Value
 own:World→Nat→α→Prop
 blk:α→Nat→Prop
structure KdOk {α:Type}(K:Kd α)(k:Nat):Prop where
 len:∀x,(K.cel x).length=k
 one:∀x,∀u∈K.cel x,u.oneCell'=true
 but:∀{S:Nat→Prop} {w w':World} {base:Nat} {x:α},K.own w base x→But S w w'→(∀j,K.blk x j→¬S j)→K.own w' base x
 mono:∀{w:World} {base b:Nat} {x:α},K.own w base x→b≤base→K.own w b x
 rng:∀{w:World} {base:Nat} {x:α},K.own w base x→∀j,K.blk x j→base≤j∧j<w.heap.size
structure Bag {α:Type}(K:Kd α)(w:World)(base:Nat)(E k:Nat)(a:Option Addr)(n cap:Nat)(X:List α):Prop where
 row:Ow w base E k a n cap (X.flatMap K.cel)
 len:X.length=n
 each:∀x∈X,K.own w base x
 ap:X.Pairwise (fun x y=>∀j,K.blk x j→¬K.blk y j)
 top:∀x∈X,∀j,K.blk x j→¬Blk a j
section
variable {α:Type}{K:Kd α}{w w' U:World}{base E k:Nat}{a:Option Addr}{n cap:Nat}{X:List α}
def Bag.B (K:Kd α)(a:Option Addr)(X:List α)(j:Nat):Prop:=Blk a j∨∃x∈X,K.blk x j
theorem Bag.nil (K:Kd α)(w:World)(base E k:Nat):Bag K w base E k none 0 0 []:=⟨Ow.nil _ _ _ _,rfl,fun x h=>(by cases h),List.Pairwise.nil,fun x h=>(by cases h)⟩
theorem Bag.but {S:Nat→Prop}(ko:KdOk K k)(h:Bag K w base E k a n cap X)(hb:But S w w')(hn:∀j,Bag.B K a X j→¬S j):Bag K w' base E k a n cap X :=
 ⟨h.row.but hb (fun j hj=>hn j (.inl hj)),h.len,fun x hx=>ko.but (h.each x hx) hb (fun j hj=>hn j (.inr ⟨x,hx,hj⟩)),h.ap,h.top⟩
theorem Bag.later (ko:KdOk K k)(h:Bag K w base E k a n cap X)(hb:Below w.heap.size w w'):Bag K w' base E k a n cap X:=h.but ko (S:=fun _=>False) (But.of hb) (fun _ _ h=>h)
theorem Bag.mono (ko:KdOk K k){b:Nat}(h:Bag K w base E k a n cap X)(hb:b≤base):Bag K w b E k a n cap X:=⟨h.row.mono hb,h.len,fun x hx=>ko.mono (h.each x hx) hb,h.ap,h.top⟩
theorem Bag.rng (ko:KdOk K k)(h:Bag K w base E k a n cap X)(j:Nat)(hj:Bag.B K a X j):base≤j∧j<w.heap.size:=by
 rcases hj with hj|⟨x,hx,hj⟩
 ·exact h.row.blk j hj
 ·exact ko.rng (h.each x hx) j hj
theorem Bag.snoc (ko:KdOk K k)(t:TypeId)(z:Value)(by_:Nat)(ht:Tryz.prog.underlying t=some (.slice E))(hinf:(Tryz.prog.info? E).map (fun i=>(i.zero,i.size,i.bytes))=some (some z,k,by_))(hzs:z.cells.size=k)(hk:0<k)(hby:0<by_)
  (h:Bag K U base E k a n cap X) (hb:base≤U.heap.size) (x:α) (hx:K.own U base x) (hap:∀j,K.blk x j→¬Bag.B K a X j) (hn:(n+1)*by_≤140737488355328) :
  ∃a' c' w3,(Builtin.append_ #[t,t] t #[.slice a n cap,.slice (some ⟨U.heap.size,0,none⟩) 1 1]).run Tryz.prog (U.alloc (Obj.cells (K.cel x).toArray E))=.ok (.slice a' (n+1) c') w3∧Bag K w3 base E k a' (n+1) c' (X++[x])∧But (Blk a) U w3∧∀j,Blk a' j→Blk a j∨U.heap.size≤j:=by
 have hcr:=Cr.lit U E (K.cel x) (ko.one x)
 rw [ko.len] at hcr
 obtain⟨a',c',w3,hrun,hO3,hG0⟩:=append_k t E z k by_ ht hinf hzs hk hby (h.row.later (below1 U (Obj.cells (K.cel x).toArray E))) hcr (by simp;omega) hn
 have hG:=hG0.pre (below1 U (Obj.cells (K.cel x).toArray E))
 refine⟨a',c',w3,hrun,⟨?_,by simp [h.len],?_,?_,?_⟩,hG.but,hG.on⟩
 ·rw [List.flatMap_append]
  simp only [List.flatMap_cons,List.flatMap_nil,List.append_nil]
  exact hO3
 ·intro p hp
  rcases List.mem_append.1 hp with hp|hp
  ·exact ko.but (h.each p hp) hG.but (fun j hj hj2=>h.top p hp j hj hj2)
  ·rw [List.mem_singleton.1 hp]
   exact ko.but hx hG.but (fun j hj hj2=>hap j hj (.inl hj2))
 ·rw [List.pairwise_append]
  refine⟨h.ap,List.pairwise_singleton _ _,fun p hp q hq j h1 h2=>?_⟩
  rw [List.mem_singleton.1 hq] at h2
  exact hap j h2 (.inr ⟨p,hp,h1⟩)
 ·intro p hp j h1 h2
  rcases List.mem_append.1 hp with hp|hp
  ·rcases hG.on j h2 with h3|h3
   ·exact h.top p hp j h1 h3
   ·have:=(ko.rng (h.each p hp) j h1).2
    omega
  ·rw [List.mem_singleton.1 hp] at h1
   rcases hG.on j h2 with h3|h3
   ·exact hap j h1 (.inl h3)
   ·have:=(ko.rng hx j h1).2
    omega
end
section
variable {w w':World}
end
end Go.Proofs.YtffmodpgddecnaaGreat.V.E
namespace Go.Proofs.YtffmodpgddecnaaGreat.V.E
open Go.RowKit Go.Maps
open Go.Proofs.YtffmodpgddecnaaGreat.H (B64 Cp)
abbrev Rq:=Rep×R.Sl
def MdB (g bo bl:Nat)(N:Nat→Prop)(j:Nat):Prop:=N j∨j=bo∨j=bl∨j=g
section
variable {w w' U U1 u2:World}{h:Hm}{C:List R.Cl}{i:Nat}{a:Option Addr}{c:Nat}{X:List Rq}{bo bl:Nat}{N:Nat→Prop}
theorem Mw.lt {q:Pl}(k:Mw w h q N)(j:Nat)(hj:MdB h.g h.bo h.bl N j):j<w.heap.size:=by
 obtain⟨Es,Ls,k⟩:=k
 rcases hj with hj|rfl|rfl|rfl
 ·exact k.lt j hj
 ·exact k.olt
 ·exact k.llt
 ·exact k.glt
theorem Mw.but {B:Nat→Prop}{q:Pl}(k:Mw w h q N)(hb:But B w w')(hn:∀j,MdB h.g h.bo h.bl N j→¬B j):Mw w' h q N:=by
 obtain⟨Es,Ls,k⟩:=k
 exact⟨Es,Ls,k.but hb (fun j hj=>hn j (.inl hj)) (hn _ (.inr (.inr (.inr rfl)))) (hn _ (.inr (.inl rfl))) (hn _ (.inr (.inr (.inl rfl))))⟩
theorem fit_is {p:Pm}{q:Pl}{cl:R.Cl}{dd gg:R.Sl}(hf:Fit p q)(hi:R.Is w cl dd gg):Fit p (pDo p q cl).2:=by
 refine fit_do hf cl (fun hm=>?_) ⟨hi.hi,hi.lo⟩ hi.data.small
 refine⟨(att_of hi hm).ob,?_⟩
 unfold R.fm R.inB R.wi at hm
 simp only [Bool.and_eq_true,decide_eq_true_eq] at hm
 unfold S.i64ok
 omega
end
end Go.Proofs.YtffmodpgddecnaaGreat.V.E
namespace Go.Proofs.YtffmodpgddecnaaGreat.V.E
open Go.RowKit Go.Maps
open Go.Proofs.YtffmodpgddecnaaGreat.H (B64 Cp)
def TreA (q:Pl):Prop:=∀e∈q.O,Tre e.2.T
section
variable {p:Pm}{q:Pl}
theorem dr_new {P:Nat→Bool}{c:Nat→Nat}{n:Nat}:∀{k t:Nat},(D.drawR P c n k t).2.1=0→P (D.drawR P c n k t).1=false
 | 0,t,h=>by simp [D.drawR] at h
 | k+1,t,h=>by
  rw [D.drawR] at h ⊢
  split at h
  ·rename_i h1
   rw [if_pos h1]
   split at h
   ·rename_i h2
    rw [if_pos h2]
    exact dr_new h
   ·rename_i h2
    rw [if_neg h2]
    simpa using h2
  ·simp at h
theorem tre_stO (h:TreA q)(o:Int)(f:Ob→Ob)(hf:∀e∈q.O,e.1=o→Tre (f e.2).T):∀e∈stO q.O o f,Tre e.2.T:=fun e he=>by
 unfold stO at he
 obtain⟨x,hx,rfl⟩:=List.mem_map.1 he
 by_cases e1:x.1=o
 ·rw [if_pos e1];exact hf x hx e1
 ·rw [if_neg e1];exact h x hx
theorem tre_noO (h:TreA q)(o:Int):∀e∈noO q.O o,Tre e.2.T:=fun e he=>h e (List.mem_filter.1 he).1
theorem tk_mem (hr:q.O.Pairwise (fun a b=>a.1<b.1)){e:Int×Ob}(he:e∈q.O):tkO q.O e.1=e.2.T:=by
 unfold tkO
 rw [ob_mem hr e he]
 rfl
theorem fnd_no {T:List Tn}{hi lo:Nat}(h:(fnd T hi lo).isSome=false):∀a∈T,a.w≠(hi,lo):=fun a ha e=>by
 have h2:fnd T hi lo=none:=by simpa using h
 unfold fnd at h2
 have:=List.find?_eq_none.1 h2 a ha
 simp only [decide_eq_true_eq] at this
 unfold Tn.w at e
 exact this ⟨congrArg Prod.fst e,congrArg Prod.snd e⟩
theorem tre_der (h:TreA q)(hr:q.O.Pairwise (fun a b=>a.1<b.1))(c:Cp)(rt:Int):TreA (pDer p q c rt).2:=by
 unfold pDer
 split
 ·exact h
 ·rename_i h1
  split
  ·exact h
  ·rename_i h2
   have h2:(pDrw p q c.1).2.1=0:=by simpa using h2
   have hn:∀a∈tkO q.O c.1,a.w≠((pDrw p q c.1).1 / B64,(pDrw p q c.1).1%B64):=fnd_no (dr_new h2)
   have hs:∃t,fnd (tkO q.O c.1) c.2.1 c.2.2=some t:=by
    unfold srE at h1
    cases hf:fnd (tkO q.O c.1) c.2.1 c.2.2 with
    | none=>rw [hf] at h1;simp at h1
    | some t=>exact⟨t,rfl⟩
   obtain⟨t,ht⟩:=hs
   obtain⟨hm,e1,e2⟩:=fnd_is ht
   intro e he
   dsimp only at he
   refine tre_stO h _ _ (fun e he e3=>?_) e he
   have e4:=tk_mem hr he
   rw [e3] at e4
   rw [e4] at hm
   refine (h e he).snoc (fun a ha=>hn a (by rw [e4];exact ha)) (fun _=>⟨t,hm,?_⟩)
   unfold Tn.w Tn.u
   rw [e1,e2]
theorem tre_rev (h:TreA q)(c:Cp):TreA (pRev q c).2:=by
 unfold pRev
 split
 ·exact h
 ·split
  ·exact h
  ·split
   ·exact tre_noO h _
   ·intro e he
    dsimp only at he
    refine tre_stO h _ _ (fun e he _=>?_) e he
    exact (h e he).wsT _
theorem tre_cre (h:TreA q)(s:Int):TreA (pCre p q s).2:=by
 unfold pCre
 split
 ·exact h
 ·split
  ·exact h
  ·intro e he
   rcases List.mem_append.1 he with he|he
   ·exact h e he
   ·rw [List.mem_singleton.1 he]
    exact Tre.one _
theorem tre_do (h:TreA q)(hr:q.O.Pairwise (fun a b=>a.1<b.1))(c:R.Cl):TreA (pDo p q c).2:=by
 unfold pDo
 split
 ·exact h
 ·split
  ·exact h
  ·unfold pDeed
   split
   ·exact tre_cre h _
   split
   ·unfold pDes
    split
    ·exact h
    ·exact tre_noO h _
   split
   ·exact tre_der h hr _ _
   split
   ·exact tre_rev h _
   split
   ·unfold pRead
    split
    ·exact h
    ·split
     ·exact h
     ·exact h
   split
   ·unfold pWrite
    split
    ·exact h
    ·split
     ·intro e he
      dsimp only at he
      refine tre_stO h _ _ (fun e he _=>?_) e he
      exact h e he
     ·exact h
   split
   ·unfold pAdd
    split
    ·exact h
    ·split
     ·exact h
     ·exact h
   split
   ·unfold pRem
    split
    ·exact h
    ·exact h
   split
   ·unfold pSpa
    split
    ·exact h
    ·split
     ·exact h
     ·exact h
   ·exact h
theorem tre_new:TreA pl0:=fun e he=>by cases he
def tlO (acc:List Tok)(e:Int×Ob):List Tok:=match e.2.T.head? with
 | none=>acc
 | some r=>tel e.2.T e.1 e.2.T.length acc r (-1)
def psP (q:Pl):Ps:=⟨vO q.O,q.O.foldl tlO [],q.X,q.nx,q.px,(q.t:Int)⟩
theorem tlO_len {O:List (Int×Ob)}(h:∀e∈O,Tre e.2.T):∀(acc:List Tok),(O.foldl tlO acc).length≤acc.length+lvN O:=by
 induction O with
 | nil=>intro acc;exact Nat.le_add_right _ _
 | cons e O ih =>
  intro acc
  rw [List.foldl_cons]
  have h1:=ih (fun e he=>h e (by simp [he])) (tlO acc e)
  have h2:(tlO acc e).length≤acc.length+e.2.T.length:=by
   unfold tlO
   cases hr:e.2.T.head? with
   | none=>simp only;omega
   | some r =>
    simp only
    rw [tel_len]
    have:=(h e (by simp)).sz hr e.2.T.length
    omega
  have h3:lvN (e::O)=e.2.T.length+lvN O:=by simp [lvN]
  omega
end
end Go.Proofs.YtffmodpgddecnaaGreat.V.E
namespace Go.Proofs.YtffmodpgddecnaaGreat.V.E
open Go.RowKit Go.Maps
open Go.Proofs.YtffmodpgddecnaaGreat.H (B64 Cp)
theorem infoTk:(Tryz.prog.info? 57).map (fun i=>(i.zero,i.size,i.bytes))=some (some (.agg #[.int .i64 0,.int .u64 0,.int .u64 0,.int .i64 0,.int .i64 0]),5,40):=by kernel_rfl
def TlOut (w:World)(base:Nat)(a:Option Addr)(L:List Tok)(e:Ending)(w':World):Prop :=
 ∃a' c',e=.returned (.slice a' L.length c')∧Ow w' base 57 5 a' L.length c' (toks L)∧Gr a a' w w'
def TlRel (W:World)(base:Nat)(a:Option Addr)(T:List Tn)(id:Int)(k:Nat)(t:Tn)(at_:Int)(s0:List Tok)(n:Nat)(v1 v31:Value)(U:World):Prop :=
 ∃(i:Nat) (a2:Option Addr) (c2:Nat) (s2:List Tok),v1=.slice a2 s2.length c2∧v31=.int .i64 (i:Int)∧i≤n - 1∧s2=((T.drop 1).take i).foldl (telS T id k t at_) s0∧Ow U base 57 5 a2 s2.length c2 (toks s2)∧Gr a a2 W U
theorem fold_take {T:List Tn}(F:List Tok→Tn→List Tok)(s0:List Tok){i:Nat}{c:Tn}(h:T[i+1]?=some c):((T.drop 1).take (i+1)).foldl F s0=F (((T.drop 1).take i).foldl F s0) c:=by
 have h1:(T.drop 1)[i]?=some c:=by rw [List.getElem?_drop,Nat.add_comm];exact h
 rw [List.take_add_one,h1,List.foldl_append]
 rfl
theorem fold_grow (F:List Tok→Tn→List Tok)(hF:∀a c,a.length≤(F a c).length):∀(L:List Tn) (a:List Tok),a.length≤(L.foldl F a).length
 | [],a=>Nat.le_refl _
 | x::r,a=>Nat.le_trans (hF a x) (fold_grow F hF r _)
theorem telS_len (T:List Tn)(id:Int)(k:Nat)(t:Tn)(at_:Int)(a:List Tok)(c:Tn):a.length≤(telS T id k t at_ a c).length:=by
 unfold telS
 split
 ·rw [tel_len];omega
 ·exact Nat.le_refl _
theorem tel_fold (T:List Tn)(id:Int)(k:Nat)(s:List Tok)(t:Tn)(par:Int):tel T id (k+1) s t par=(T.drop 1).foldl (telS T id k t (s.length:Int)) (s++[tokT id t par]):=rfl
theorem fold_le (F:List Tok→Tn→List Tok)(hF:∀a c,a.length≤(F a c).length)(L:List Tn)(a:List Tok)(i:Nat):((L.take i).foldl F a).length≤(L.foldl F a).length:=by
 conv=>rhs;rw [←List.take_append_drop i L,List.foldl_append]
 exact fold_grow F hF _ _
section
set_option maxRecDepth 100000 in
set_option maxHeartbeats 4000000 in
theorem tell_any {T:List Tn}(hT:Tre T){n:Nat}(hn:T.length=n)(hn2:n≤1024)(ba ta:Option Addr)(bl bc tc:Nat)(id:Int):∀(k i:Nat) (t:Tn) (s:List Tok) (par:Int) (w:World) (base:Nat) (a:Option Addr) (c:Nat),
  T[i]?=some t→n≤i+k→s.length+sz T k t≤1048576→Ow w 0 88 5 ta n tc (tns T)→Ow w base 57 5 a s.length c (toks s)→base≤w.heap.size→(∀j,Blk a j→¬Blk ta j) →
  Calls Tryz.prog 33 #[.agg #[.slice ba bl bc,.slice ta n tc],.slice a s.length c,.int .i64 id,.agg #[.int .u64 (t.hi:Int),.int .u64 (t.lo:Int),.int .i64 t.r,.int .u64 (t.uh:Int),.int .u64 (t.ul:Int)],.int .i64 par] w (TlOut w base a (tel T id k s t par))
 | 0,i,t,s,par,w,base,a,c,ht,hk,_,_,_,_,_=>by
  have:=(List.getElem?_eq_some_iff.1 ht).1
  omega
 | k+1,i,t,s,par,w,base,a,c,ht,hk,hM,hTo,hO,hb,hap=>by
  have ih:=tell_any hT hn hn2 ba ta bl bc tc id k
  obtain⟨W,hW⟩:∃W,W=(w.alloc (.cells #[.slice ba bl bc,.slice ta n tc] 85)).alloc (.cells #[.int .u64 (t.hi:Int),.int .u64 (t.lo:Int),.int .i64 t.r,.int .u64 (t.uh:Int),.int .u64 (t.ul:Int)] 88):=⟨_,rfl⟩
  have hB:Below w.heap.size w W:=by rw [hW];exact below2 _ _ _
  have hWs:W.heap.size=w.heap.size+2:=by rw [hW];simp
  have c0:W.cell? ⟨w.heap.size,0,none⟩=some (.slice ba bl bc):=by rw [hW];simp [go_sem]
  have c1:W.cell? ⟨w.heap.size,1,none⟩=some (.slice ta n tc):=by rw [hW];simp [go_sem]
  have hTc:Tc W (w.heap.size+1) 0 t:=by rw [hW];exact⟨by simp [go_sem],by simp [go_sem],by simp [go_sem],by simp [go_sem],by simp [go_sem]⟩
  have hil:=(List.getElem?_eq_some_iff.1 ht).1
  have hab:=fun j hj=>hO.blk j hj
  have hTb:=fun j hj=>hTo.blk j hj
  have hst:∀U,But (Blk a) W U→U.cell? ⟨w.heap.size,0,none⟩=some (.slice ba bl bc)∧U.cell? ⟨w.heap.size,1,none⟩=some (.slice ta n tc)∧Tc U (w.heap.size+1) 0 t∧Ow U 0 88 5 ta n tc (tns T):=fun U hU=>by
   have n0:¬Blk a w.heap.size:=fun e=>by have:=(hab _ e).2;omega
   have n1:¬Blk a (w.heap.size+1):=fun e=>by have:=(hab _ e).2;omega
   exact⟨cell_but hU c0 n0,cell_but hU c1 n0,⟨cell_but hU hTc.c0 n1,cell_but hU hTc.c1 n1,cell_but hU hTc.c2 n1,cell_but hU hTc.c3 n1,cell_but hU hTc.c4 n1⟩,(hTo.later hB).but hU (fun j hj e=>hap j e hj)⟩
  have hOW:=hO.later hB
  have hcr:=Cr.lit W 57 (encT (tokT id t par)) (fun u hu=>by simp only [encT,List.mem_cons,List.not_mem_nil,or_false] at hu;rcases hu with h|h|h|h|h<;>(rw [h];rfl))
  obtain⟨a1,c1_,V,hrun,hO1,hG0⟩:=append_k 50 57 _ 5 40 Tryz.underlying50 infoTk rfl (by omega) (by omega) (hOW.later (below1 W (Obj.cells (encT (tokT id t par)).toArray 57))) hcr (by have:=hB.size;simp;omega) (by have:=hM;omega)
  have hG1:=hG0.pre (below1 W (Obj.cells (encT (tokT id t par)).toArray 57))
  have hs1:(s++[tokT id t par]).length=s.length+1:=by simp
  have hO1:Ow V base 57 5 a1 (s++[tokT id t par]).length c1_ (toks (s++[tokT id t par])):=by
   rw [hs1]
   have:toks (s++[tokT id t par])=toks s++encT (tokT id t par):=by simp [toks]
   rw [this]
   exact hO1
  simp only [encT,tokT] at hrun
  obtain⟨t0,t1,t2,t3,t4⟩:=hTc
  have HRUN:=hid hrun
  have hfin:=tel_fold T id k s t par
  obtain⟨s0,hs0⟩:∃s0,s0=s++[tokT id t par]:=⟨_,rfl⟩
  rw [←hs0] at hfin hO1 hs1
  obtain⟨at_,hat⟩:∃at_:Int,at_=(s.length:Int):=⟨_,rfl⟩
  have hMf:((T.drop 1).foldl (telS T id k t at_) s0).length≤1048576:=by
   have:=tel_len T id (k+1) s t par
   rw [hfin,←hat] at this
   omega
  have HM:=hid hMf
  have HFin:Hid (tel T id (k+1) s t par=(T.drop 1).foldl (telS T id k t at_) s0):=by rw [hat];exact hfin
  have HAt:=hid hat
  have HW:=hid hW
  have HB:=hid hB
  have HSt:=hid hst
  have HWs:=hid hWs
  have HO1:=hid hO1
  have HG1:=hid hG1
  have HIh:=hid ih
  have HN:=hid hn
  have HT:=hid hT
  have HTi:=hid ht
  have HK:=hid hk
  have HTb:=hid hTb
  have HAb:=hid hab
  have HS1:=hid hs1
  have HAp:=hid hap
  clear hTb hab hs0
  rw [HFin.out]
  clear hfin hMf hrun hO1 hG1 hG0 hOW hcr hst hB hW ih ht hk hM hTo hO hap hT
  have hbW:base≤W.heap.size:=by omega
  rw [hn] at hil
  clear hb hWs hat hs1 hn
  go_enter Tryz.func33,Tryz.ntmps33
  go_upto_region 1 with fail
  rw [←HW.out]
  clear c0 c1
  go_upto_region 2 with fail
  go_upto_region 3 with (first|(at_builtin;refine wpList_append_known rfl _ _ 50 rfl _ _ rfl rfl _ V HRUN.out ?_))
  rw [←HAt.out]
  clear t0 t1 t2 t3 t4
  obtain⟨x0,x1,-,hTo2⟩:=HSt.out V HG1.out.but
  obtain⟨b,hta,-⟩:=ow_tok hTo2 HN.out (by omega)
  have hncap:n≤tc:=by
   rcases hTo2.2 with ⟨h2,h3⟩|⟨g,c,cur,hv,_,_,hc,_⟩
   ·omega
   ·simp only [Value.slice.injEq] at hv;omega
  obtain⟨A,hA⟩:∃A,A=cutK ta tc 1 5:=⟨_,rfl⟩
  have hsl:=fun U=>sliceT_l U ta n tc 1 (by omega) hncap
  rw [←hA] at hsl
  simp only [Int.cast_ofNat_Int,Int.natCast_one] at hsl
  have HAx:Hid (2≤n→A=some ⟨b,5,none⟩):=fun h2=>by rw [hA,hta];unfold cutK;rw [if_neg (by omega)];simp [Addr.add]
  have HTa:=hid hta
  have hs1:=HS1.out
  rw [←hs1]
  clear hA hTo2 hncap hs1 hta
  go_upto_region 4 with fail
  clear x0 x1 hsl
  go_loopw [1,31] (TlRel W base a T id k t at_ s0 n) (fun _ v _=>n - (intOf v).toNat)
  case atStart=>exact⟨0,a1,c1_,s0,rfl,rfl,Nat.zero_le _,by simp,HO1.out,HG1.out⟩
  case round =>
   obtain⟨j,a2,c2,s2,rfl,rfl,hj,hs2,hO2,hG2⟩:=hrel
   rename World=>U
   have HO2:=hid hO2
   have HG2:=hid hG2
   have HS2:=hid hs2
   obtain⟨x0,x1,hTc,hTo⟩:=HSt.out U hG2.but
   obtain⟨y0,y1,y2,y3,y4⟩:=hTc
   have HTo:=hid hTo
   clear hO2 hG2 hs2 hTo
   by_cases hx:j<n - 1
   ·have hd:decide ((j:Int)<((n - 1:Nat):Int))=true:=decide_eq_true (by omega)
    obtain⟨ch,hch⟩:∃ch,T[j+1]?=some ch:=⟨T[j+1]'(by have:=HN.out;omega),List.getElem?_eq_getElem (by have:=HN.out;omega)⟩
    have hAe:=HAx.out (by omega)
    obtain⟨b',hb',htc⟩:=ow_tok HTo.out HN.out (by omega)
    obtain rfl:b'=b:=by have:=HTa.out;rw [hb'] at this;simpa using this
    have tc_:=htc (j+1) ch hch
    have e5:(j+1)*5=5+j*5:=by omega
    rw [e5] at tc_
    obtain⟨t0,t1,t2,t3,t4⟩:=tc_
    obtain⟨U1,hU1⟩:∃U1,U1=U.alloc (.cells #[.int .u64 (ch.hi:Int),.int .u64 (ch.lo:Int),.int .i64 ch.r,.int .u64 (ch.uh:Int),.int .u64 (ch.ul:Int)] 88):=⟨_,rfl⟩
    have hb1:Below U.heap.size U U1:=by rw [hU1];exact below1 _ _
    have HTn:Hid (Tc U1 U.heap.size 0 ch):=by rw [hU1];exact⟨by simp [go_sem],by simp [go_sem],by simp [go_sem],by simp [go_sem],by simp [go_sem]⟩
    obtain⟨n0,n1,n2,n3,n4⟩:=HTn.out
    have z0:=cell_later hb1 y0
    have z1:=cell_later hb1 y1
    have w0:=cell_later hb1 x0
    have w1:=cell_later hb1 x1
    have HU1:=hid hU1
    have HB1:=hid hb1
    have hii:(j:Int)<((n - 1:Nat):Int):=by omega
    have h0i:(0:Int)≤(j:Int):=by omega
    have hwi:wrap64 ((j:Int)+1)=(j:Int)+1:=by unfold wrap64;omega
    have HCh:=hid hch
    subst hAe
    have hstep:((T.drop 1).take (j+1)).foldl (telS T id k t at_) s0=telS T id k t at_ s2 ch:=by rw [fold_take _ _ hch,HS2.out]
    have hG3:Gr a a2 W U1:=⟨HG2.out.but.call hb1,HG2.out.on⟩
    have HG3:=hid hG3
    have HStep:=hid hstep
    clear hstep hG3 hch hb' htc hb1 hU1 e5
    by_cases h1:ch.uh=t.hi∧ch.ul=t.lo
    ·have hq:=fun U=>eqlWd ch.uh ch.ul t.hi t.lo U
     rw [decide_eq_true h1] at hq
     have hu:ch.u=t.w:=by unfold Tn.u Tn.w;rw [h1.1,h1.2]
     have hts:telS T id k t at_ s2 ch=tel T id k s2 ch at_:=by unfold telS;rw [if_pos hu]
     have hlen:(tel T id k s2 ch at_).length≤1048576:=by
      have h5:=fold_le (telS T id k t at_) (telS_len T id k t at_) (T.drop 1) s0 (j+1)
      rw [HStep.out,hts] at h5
      exact Nat.le_trans h5 HM.out
     have HCall:=hid (HIh.out (j+1) ch s2 at_ U1 base a2 c2 HCh.out (by have:=HT.out.behind HTi.out HCh.out hu;have:=HK.out;omega) (by rw [←tel_len T id k s2 ch at_];exact hlen) (HTo.out.later HB1.out) (HO2.out.later HB1.out) (by have:=HG2.out.but.size;have:=HB1.out.size;omega) (fun l h3 h4=>by
      rcases HG2.out.on l h3 with h5|h5
      ·exact HAp.out l h5 h4
      ·have h6:=HTb.out l h4
       have:=HWs.out
       omega))
     have HTs:Hid (((T.drop 1).take (j+1)).foldl (telS T id k t at_) s0=tel T id k s2 ch at_):=HStep.out.trans hts
     clear h1 hu hts hlen
     go_upto_region 6 with fail
     rw [←HU1.out]
     clear t0 t1 t2 t3 t4 y0 y1 y2 y3 y4 x0 x1
     go_upto_region 8 with (first|(go_at_call 33;refine HCall.out.mono ?_;rintro e u2 ⟨a3,c3,rfl,hO3,hG4⟩;have HO3:=hid hO3;have HG4:=hid hG4;clear hO3 hG4))
     have hfin:TlRel W base a T id k t at_ s0 n (.slice a3 (tel T id k s2 ch at_).length c3) (.int .i64 ((j:Int)+1)) u2:=⟨j+1,a3,c3,_,rfl,by simp,by omega,HTs.out.symm,HO3.out,HG3.out.trans HG4.out⟩
     have HF:=hid hfin
     clear hfin
     go_wp2
     exact⟨HF.out,by simp [intOf];omega⟩
    ·have hq:=fun U=>eqlWd ch.uh ch.ul t.hi t.lo U
     rw [decide_eq_false h1] at hq
     have hts:telS T id k t at_ s2 ch=s2:=by
      unfold telS
      rw [if_neg]
      intro e
      unfold Tn.u Tn.w at e
      exact h1 ⟨congrArg Prod.fst e,congrArg Prod.snd e⟩
     have hfin:TlRel W base a T id k t at_ s0 n (.slice a2 s2.length c2) (.int .i64 ((j:Int)+1)) U1:=⟨j+1,a2,c2,s2,rfl,by simp,by omega,(HStep.out.trans hts).symm,HO2.out.later HB1.out,HG3.out⟩
     have HF:=hid hfin
     clear hfin h1 hts
     go_upto_region 6 with fail
     rw [←HU1.out]
     clear t0 t1 t2 t3 t4 y0 y1 y2 y3 y4 x0 x1
     go_wp2
     exact⟨HF.out,by simp [intOf];omega⟩
   ·obtain rfl:j=n - 1:=by omega
    have hd:decide (((n - 1:Nat):Int)<((n - 1:Nat):Int))=false:=by simp
    have hs2:=HS2.out
    rw [List.take_of_length_le (by rw [List.length_drop];have:=HN.out;omega)] at hs2
    have hfin:TlOut w base a ((T.drop 1).foldl (telS T id k t at_) s0) (.returned (.slice a2 s2.length c2)) U:=⟨a2,c2,by rw [←hs2],by rw [←hs2];exact HO2.out,⟨(But.of HB.out).trans HG2.out.but,fun l hl=>by
     rcases HG2.out.on l hl with h5|h5
     ·exact .inl h5
     ·exact .inr (Nat.le_trans HB.out.size h5)⟩⟩
    have HF:=hid hfin
    clear hfin hs2
    go_wp2
    go_ret
    exact HF.out
end
end Go.Proofs.YtffmodpgddecnaaGreat.V.E
namespace Go.Proofs.YtffmodpgddecnaaGreat.V.E
open Go.RowKit Go.Maps Go.Sort Go.Shelf
open Go.Proofs.YtffmodpgddecnaaGreat.H (B64 Cp)
open Go.Proofs.YtffmodpgddecnaaGreat.S (hr sortedA sortsA)
theorem sorted_keys {l:List Int}(h:l.Pairwise (·<·)):l.mergeSort leI=l:=by
 refine List.mergeSort_of_pairwise ?_
 rw [List.pairwise_iff_getElem] at h ⊢
 intro i j hi hj hij
 have:=h i j hi hj hij
 simp only [leI,decide_eq_true_eq]
 omega
def keysO_ren:Go.Shelf.Ren:=⟨fun|7=>61|10=>83|n=>n,fun|23=>58|26=>3|3=>85|28=>110|0=>0|27=>109|33=>93|4=>4|n=>n,fun|n=>n⟩
theorem keysO:SlLaysZI.n7 Tryz.prog keysO_ren where
 mixed:=by kernel_rfl
 f7:=⟨ "maps.Keys[map[int]sesame/plain.object,int,sesame/plain.object]",by decide,Tryz.func61.trans (congrArg some (by kernel_rfl))⟩
 f10:=⟨ "maps.Keys[map[int]sesame/plain.object,int,sesame/plain.object]$1",by decide,Tryz.func83.trans (congrArg some (by kernel_rfl))⟩
 t0:=Tryz.underlying0
 a0:=Tryz.isAgg0
 z0:=Tryz.sizeOf0
 v0:=Tryz.zeroValue0
 t4:=Tryz.underlying4
 a4:=Tryz.isAgg4
 z4:=Tryz.sizeOf4
 v4:=Tryz.zeroValue4
 t23:=Tryz.underlying58
 a23:=Tryz.isAgg58
 z23:=Tryz.sizeOf58
 v23:=Tryz.zeroValue58
 t26:=Tryz.underlying3
 a26:=Tryz.isAgg3
 z26:=Tryz.sizeOf3
 v26:=Tryz.zeroValue3
 t27:=Tryz.underlying109
 a27:=Tryz.isAgg109
 z27:=Tryz.sizeOf109
 v27:=Tryz.zeroValue109
 t28:=Tryz.underlying110
 a28:=Tryz.isAgg110
 z28:=Tryz.sizeOf110
 v28:=Tryz.zeroValue110
 t33:=Tryz.underlying93
 a33:=Tryz.isAgg93
 z33:=Tryz.sizeOf93
 v33:=Tryz.zeroValue93
set_option maxRecDepth 100000 in
set_option maxHeartbeats 1000000 in
theorem riseO_raw (b nn:Nat)(D0:DataW Value)(w:World)(hown:w.ownsMap Tryz.prog 3 hr b nn D0)(hmax:Maps.size D0≤maxLen)(hbytes:Maps.size D0*8≤140737488355328) :
  Calls Tryz.prog 32 #[.map (some b)] w fun e w'=>∃(v:Value) (ss:List Int),e=.returned v∧ss.Perm (intKeys D0) ∧
   w'.ownsRow w.heap.size 3 1 v ss.length ((ss.mergeSort leI).map encZ)∧(v=.slice none 0 0↔ss=[])∧Below w.heap.size w w':=by
 refine (callsIn_wide (n:=6)).1 ?_
 have hbl:=hown.lt
 have hseq:SeqGives Fence.wide 2 Tryz.prog 83 #[.pointer (some ⟨w.heap.size,0,none⟩)] encZ (fun ss=>ss.Perm (intKeys D0)) (Maps.size D0) (w.alloc (.cells #[.map (some b)] 58)) :=
  AnyZI.keys_gives (ρ:=keysO_ren) { keysO with } Fence.wide _ trivial rfl (by omega) w.heap.size b nn D0 _ (by simp) (by simp) (by
   obtain⟨es,clock,hb,Ft,hs,hD⟩:=hown
   exact⟨es,clock,(Below.heap_alloc _ _ b hbl).trans hb,Ft,hs,hD⟩)
 have cK:∀mb W,CallsIn Fence.wide 5 Tryz.prog 61 #[.map mb] W fun e w'=>e=.returned (.func (.func 83) #[] #[.pointer (some ⟨W.heap.size,0,none⟩)])∧w'=W.alloc (.cells #[.map mb] 58):=fun mb W=>AnyZI.keys_in keysO Fence.wide 5 trivial rfl mb W
 have cS:=AnyZI.sorted_in sortedA Fence.wide 5 trivial trivial trivial trivial rfl (by omega) (sortsA _) (enters_of Tryz.func82 (by kernel_rfl) rfl) 83 #[.pointer (some ⟨w.heap.size,0,none⟩)] trivial (enters_of Tryz.func83 (by kernel_rfl) rfl) _ _ hmax hbytes _ hseq
 change CallsIn _ _ Tryz.prog 60 _ _ _ at cS
 have hfK:Fence.wide.fn 61:=trivial
 have hfS:Fence.wide.fn 60:=trivial
 clear hseq hown
 refine callsIn_of_wp Tryz.func32 rfl trivial ?_ rfl
 simp only [Tryz.ntmps32,List.size_toArray,List.length_cons,List.length_nil,Nat.reduceAdd,Nat.reduceSub,Array.replicate_succ,Array.replicate_zero,List.push_toArray,List.append_toArray,List.nil_append,List.cons_append]
 gi_wp2_with (first
  | (gi_at_call 61;refine (cK _ _).mono ?_;rintro e w' ⟨rfl,rfl⟩)
  | (gi_at_call 60;refine cS.mono ?_;rintro e w' ⟨v,ss,rfl,hS,hrow,hnil,hb⟩))
 go_ret
 exact⟨v,ss,rfl,hS,own_mono hrow (by simp),hnil,((Below.refl _ w).alloc (Nat.le_refl _) _).trans (hb.mono (by simp))⟩
theorem riseO_any {b:Nat}{L:List (Int×Value)}{w:World}(k:Mo w b L)(hr:Ris L)(hn:L.length≤1024) :
  Calls Tryz.prog 32 #[.map (some b)] w fun e w'=>∃a cap,e=.returned (.slice a L.length cap)∧Own w' w.heap.size 3 a L.length cap (ints (L.map Prod.fst))∧Below w.heap.size w w':=by
 refine (riseO_raw b L.length (mapV L) w k (by rw [size_mapV];unfold maxLen;omega) (by rw [size_mapV];omega)).mono ?_
 rintro e w' ⟨v,ss,rfl,hS,hrow,hnil,hb⟩
 rw [keys_mapV] at hS
 have hl:ss.length=L.length:=by rw [hS.length_eq];simp
 have hsort:ss.mergeSort leI=L.map Prod.fst:=by
  rw [mergeSort_of_perm_i hS]
  refine sorted_keys ?_
  rw [List.pairwise_map]
  exact hr
 rw [hsort,hl] at hrow
 obtain⟨a,cap,rfl⟩:∃a cap,v=.slice a L.length cap:=by
  rcases hrow.2 with ⟨h1,h2⟩|⟨g',cap',_,h1,_⟩
  ·exact⟨none,0,by rw [h1,h2]⟩
  ·exact⟨_,cap',h1⟩
 exact⟨a,cap,rfl,⟨hrow,ints_one _⟩,hb⟩
def keysX_ren:Go.Shelf.Ren:=⟨fun|7=>62|10=>84|n=>n,fun|23=>59|26=>3|3=>63|28=>110|0=>0|27=>109|33=>93|4=>4|n=>n,fun|n=>n⟩
theorem keysX:SlLaysZI.n7 Tryz.prog keysX_ren where
 mixed:=by kernel_rfl
 f7:=⟨ "maps.Keys[map[int][]sesame/api.Cap,int,[]sesame/api.Cap]",by decide,Tryz.func62.trans (congrArg some (by kernel_rfl))⟩
 f10:=⟨ "maps.Keys[map[int][]sesame/api.Cap,int,[]sesame/api.Cap]$1",by decide,Tryz.func84.trans (congrArg some (by kernel_rfl))⟩
 t0:=Tryz.underlying0
 a0:=Tryz.isAgg0
 z0:=Tryz.sizeOf0
 v0:=Tryz.zeroValue0
 t4:=Tryz.underlying4
 a4:=Tryz.isAgg4
 z4:=Tryz.sizeOf4
 v4:=Tryz.zeroValue4
 t23:=Tryz.underlying59
 a23:=Tryz.isAgg59
 z23:=Tryz.sizeOf59
 v23:=Tryz.zeroValue59
 t26:=Tryz.underlying3
 a26:=Tryz.isAgg3
 z26:=Tryz.sizeOf3
 v26:=Tryz.zeroValue3
 t27:=Tryz.underlying109
 a27:=Tryz.isAgg109
 z27:=Tryz.sizeOf109
 v27:=Tryz.zeroValue109
 t28:=Tryz.underlying110
 a28:=Tryz.isAgg110
 z28:=Tryz.sizeOf110
 v28:=Tryz.zeroValue110
 t33:=Tryz.underlying93
 a33:=Tryz.isAgg93
 z33:=Tryz.sizeOf93
 v33:=Tryz.zeroValue93
set_option maxRecDepth 100000 in
set_option maxHeartbeats 1000000 in
theorem riseX_raw (b nn:Nat)(D0:DataW Value)(w:World)(hown:w.ownsMap Tryz.prog 3 hr b nn D0)(hmax:Maps.size D0≤maxLen)(hbytes:Maps.size D0*8≤140737488355328) :
  Calls Tryz.prog 34 #[.map (some b)] w fun e w'=>∃(v:Value) (ss:List Int),e=.returned v∧ss.Perm (intKeys D0) ∧
   w'.ownsRow w.heap.size 3 1 v ss.length ((ss.mergeSort leI).map encZ)∧(v=.slice none 0 0↔ss=[])∧Below w.heap.size w w':=by
 refine (callsIn_wide (n:=6)).1 ?_
 have hbl:=hown.lt
 have hseq:SeqGives Fence.wide 2 Tryz.prog 84 #[.pointer (some ⟨w.heap.size,0,none⟩)] encZ (fun ss=>ss.Perm (intKeys D0)) (Maps.size D0) (w.alloc (.cells #[.map (some b)] 59)) :=
  AnyZI.keys_gives (ρ:=keysX_ren) { keysX with } Fence.wide _ trivial rfl (by omega) w.heap.size b nn D0 _ (by simp) (by simp) (by
   obtain⟨es,clock,hb,Ft,hs,hD⟩:=hown
   exact⟨es,clock,(Below.heap_alloc _ _ b hbl).trans hb,Ft,hs,hD⟩)
 have cK:∀mb W,CallsIn Fence.wide 5 Tryz.prog 62 #[.map mb] W fun e w'=>e=.returned (.func (.func 84) #[] #[.pointer (some ⟨W.heap.size,0,none⟩)])∧w'=W.alloc (.cells #[.map mb] 59):=fun mb W=>AnyZI.keys_in keysX Fence.wide 5 trivial rfl mb W
 have cS:=AnyZI.sorted_in sortedA Fence.wide 5 trivial trivial trivial trivial rfl (by omega) (sortsA _) (enters_of Tryz.func82 (by kernel_rfl) rfl) 84 #[.pointer (some ⟨w.heap.size,0,none⟩)] trivial (enters_of Tryz.func84 (by kernel_rfl) rfl) _ _ hmax hbytes _ hseq
 change CallsIn _ _ Tryz.prog 60 _ _ _ at cS
 have hfK:Fence.wide.fn 62:=trivial
 have hfS:Fence.wide.fn 60:=trivial
 clear hseq hown
 refine callsIn_of_wp Tryz.func34 rfl trivial ?_ rfl
 simp only [Tryz.ntmps34,List.size_toArray,List.length_cons,List.length_nil,Nat.reduceAdd,Nat.reduceSub,Array.replicate_succ,Array.replicate_zero,List.push_toArray,List.append_toArray,List.nil_append,List.cons_append]
 gi_wp2_with (first
  | (gi_at_call 62;refine (cK _ _).mono ?_;rintro e w' ⟨rfl,rfl⟩)
  | (gi_at_call 60;refine cS.mono ?_;rintro e w' ⟨v,ss,rfl,hS,hrow,hnil,hb⟩))
 go_ret
 exact⟨v,ss,rfl,hS,own_mono hrow (by simp),hnil,((Below.refl _ w).alloc (Nat.le_refl _) _).trans (hb.mono (by simp))⟩
theorem riseX_any {b:Nat}{L:List (Int×Value)}{w:World}(k:Mo w b L)(hr:Ris L)(hn:L.length≤1024) :
  Calls Tryz.prog 34 #[.map (some b)] w fun e w'=>∃a cap,e=.returned (.slice a L.length cap)∧Own w' w.heap.size 3 a L.length cap (ints (L.map Prod.fst))∧Below w.heap.size w w':=by
 refine (riseX_raw b L.length (mapV L) w k (by rw [size_mapV];unfold maxLen;omega) (by rw [size_mapV];omega)).mono ?_
 rintro e w' ⟨v,ss,rfl,hS,hrow,hnil,hb⟩
 rw [keys_mapV] at hS
 have hl:ss.length=L.length:=by rw [hS.length_eq];simp
 have hsort:ss.mergeSort leI=L.map Prod.fst:=by
  rw [mergeSort_of_perm_i hS]
  refine sorted_keys ?_
  rw [List.pairwise_map]
  exact hr
 rw [hsort,hl] at hrow
 obtain⟨a,cap,rfl⟩:∃a cap,v=.slice a L.length cap:=by
  rcases hrow.2 with ⟨h1,h2⟩|⟨g',cap',_,h1,_⟩
  ·exact⟨none,0,by rw [h1,h2]⟩
  ·exact⟨_,cap',h1⟩
 exact⟨a,cap,rfl,⟨hrow,ints_one _⟩,hb⟩
end Go.Proofs.YtffmodpgddecnaaGreat.V.E
namespace Go.Proofs.YtffmodpgddecnaaGreat.V.E
open Go.RowKit Go.Maps
open Go.Proofs.YtffmodpgddecnaaGreat.H (B64 Cp)
def kE (ty k:Nat):Kd Ev:=⟨Ev.c,fun w b o=>Ow w b ty k o.a o.len o.cap o.vs,fun o j=>Blk o.a j⟩
theorem kE_ok (ty k:Nat):KdOk (kE ty k) 2 where
 len:=fun x=>rfl
 one:=fun x u hu=>by
  simp only [kE,Ev.c,List.mem_cons,List.not_mem_nil,or_false] at hu
  rcases hu with h|h<;>(rw [h];rfl)
 but:=fun h hb hn=>Ow.but h hb hn
 mono:=fun h hb=>Ow.mono h hb
 rng:=fun h j hj=>Ow.blk h j hj
section
variable {w w' U U':World}{base E ty k:Nat}{a:Option Addr}{n cap:Nat}{Q:List Ev}
theorem two_bag (h:Two w base E ty k a n cap Q):Bag (kE ty k) w base E 2 a n cap Q:=⟨h.row,h.len,h.each,h.ap,h.top⟩
theorem Bag.two (h:Bag (kE ty k) w base E 2 a n cap Q):Two w base E ty k a n cap Q:=⟨h.row,h.len,h.each,h.ap,h.top⟩
end
structure Sg (w U:World)(b:Nat)(p:Ps)(a1:Option Addr)(c1:Nat)(Q1:List Ev)(a2:Option Addr)(c2:Nat)(a3:Option Addr)(c3:Nat)(Q3:List Ev):Prop where
 bx:R.Bx U b (stM a1 p.O.length c1 a2 p.T.length c2 a3 p.P.length c3 p.nx p.px p.t)
 tl:Tells U w.heap.size p a1 c1 Q1 a2 c2 a3 c3 Q3
 nb:∀j,(Two.B a1 Q1 j∨Blk a2 j∨Two.B a3 Q3 j)→j≠b
 bel:But (·=b) w U
section
variable {w U U1 U2:World}{b:Nat}{p:Ps}{a1:Option Addr}{c1:Nat}{Q1:List Ev}{a2:Option Addr}{c2:Nat}{a3:Option Addr}{c3:Nat}{Q3:List Ev}
theorem Sg.later (k:Sg w U b p a1 c1 Q1 a2 c2 a3 c3 Q3)(hb:Below U.heap.size U U1):Sg w U1 b p a1 c1 Q1 a2 c2 a3 c3 Q3 :=
 ⟨R.Bx.later hb k.bx,k.tl.later hb,k.nb,k.bel.call hb⟩
theorem Sg.c0 (k:Sg w U b p a1 c1 Q1 a2 c2 a3 c3 Q3):U.cell? ⟨b,0,none⟩=some (.slice a1 p.O.length c1):=k.bx.cell 0 rfl
theorem Sg.c1_ (k:Sg w U b p a1 c1 Q1 a2 c2 a3 c3 Q3):U.cell? ⟨b,1,none⟩=some (.slice a2 p.T.length c2):=k.bx.cell 1 rfl
theorem Sg.c2_ (k:Sg w U b p a1 c1 Q1 a2 c2 a3 c3 Q3):U.cell? ⟨b,2,none⟩=some (.slice a3 p.P.length c3):=k.bx.cell 2 rfl
theorem Sg.fz (k:Sg w U b p a1 c1 Q1 a2 c2 a3 c3 Q3)(j:Nat)(hj:j<6):U.frozen? ⟨b,j,none⟩=false:=Bx.fz k.bx j (by simpa [stM] using hj)
theorem Sg.blt (k:Sg w U b p a1 c1 Q1 a2 c2 a3 c3 Q3):b<U.heap.size:=World.block_lt_of_cell? _ _ k.c0
theorem Sg.addO (k:Sg w U b p a1 c1 Q1 a2 c2 a3 c3 Q3)(hb:Below U.heap.size U U1){id:Int}{B:List Nat}{ab:Option Addr}{cb:Nat}(ho:Ow U1 U.heap.size 5 1 ab B.length cb (S.u8s B))(hn:p.O.length≤2048) :
  ∃a' c' w3,(Builtin.append_ #[49,49] 49 #[.slice a1 p.O.length c1,.slice (some ⟨U1.heap.size,0,none⟩) 1 1]).run Tryz.prog (U1.alloc (Obj.cells #[.int .i64 id,.slice ab B.length cb] 80))=.ok (.slice a' (p.O.length+1) c') w3∧w3.frozen? ⟨b,0,none⟩=false∧w3.cell? ⟨b,0,none⟩=some (.slice a1 p.O.length c1)∧But (Blk a1) U1 w3 ∧
   Sg w (w3.setCell ⟨b,0,none⟩ (.slice a' (p.O.length+1) c')) b { p with O:=p.O++[(id,B)] } a' c' (Q1++[⟨id,S.u8s B,B.length,ab,cb⟩]) a2 c2 a3 c3 Q3:=by
 have k1:=k.later hb
 have hU:w.heap.size≤U.heap.size:=k.bel.size
 have hs:=Bag.snoc (kE_ok 5 1) 49 _ 32 Tryz.underlying49 info63 rfl (by omega) (by omega) (two_bag k1.tl.os) (Nat.le_trans hU hb.size) (⟨id,S.u8s B,B.length,ab,cb⟩:Ev) (Ow.mono ho hU) (fun j hj hj2=>by
  have h1:=(Ow.blk ho j hj).1
  have h2:=((two_bag k.tl.os).rng (kE_ok 5 1) j hj2).2
  omega) (by omega)
 obtain⟨a',c',w3,hrun,hbag,hB3,hon⟩:=hs
 have hx3:R.Bx w3 b _:=R.Bx.but hB3 k1.bx (fun e=>k1.nb b (.inl (.inl e)) rfl)
 have hrng:∀j,Two.B a1 Q1 j∨Blk a2 j∨Two.B a3 Q3 j→j<U.heap.size:=fun j hj=>by
  rcases hj with hj|hj|hj
  ·exact (k.tl.os.blk j hj).2
  ·exact (k.tl.ts.blk j hj).2
  ·exact (k.tl.ps.blk j hj).2
 have hnew:∀j,Two.B a' (Q1++[⟨id,S.u8s B,B.length,ab,cb⟩]) j→Two.B a1 Q1 j∨U.heap.size≤j:=fun j hj=>by
  rcases hj with hj|⟨o,ho2,hj⟩
  ·rcases hon j hj with h1|h1
   ·exact .inl (.inl h1)
   ·exact .inr (Nat.le_trans hb.size h1)
  ·rcases List.mem_append.1 ho2 with h1|h1
   ·exact .inl (.inr ⟨o,h1,hj⟩)
   ·rw [List.mem_singleton.1 h1] at hj
    exact .inr (Ow.blk ho j hj).1
 have hbb:b<U.heap.size:=k.blt
 have hbs:But (·=b) w3 (w3.setCell ⟨b,0,none⟩ (.slice a' (p.O.length+1) c')):=(But.refl (fun x=>x=b) w3).setCell (p:=⟨b,0,none⟩) rfl _
 have hnb2:∀j,(Two.B a' (Q1++[⟨id,S.u8s B,B.length,ab,cb⟩]) j∨Blk a2 j∨Two.B a3 Q3 j)→j≠b:=fun j hj=>by
  rcases hj with hj|hj
  ·rcases hnew j hj with h1|h1
   ·exact k.nb j (.inl h1)
   ·omega
  ·exact k.nb j (.inr hj)
 refine⟨a',c',w3,hrun,Bx.fz hx3 0 (by simp [stM]),hx3.cell 0 rfl,hB3,?_,⟨hbag.two.but hbs (fun j hj e=>hnb2 j (.inl hj) e) |> fun t=>(by simpa using t),by simp [k.tl.ok,Ev.key,obK],?_,?_,k.tl.pk,?_,?_,k.tl.s23⟩,hnb2,?_⟩
 ·have:=Bx.put hx3 0 (by simp [stM]) (.slice a' (p.O.length+1) c')
  simpa [stM] using this
 ·exact (k1.tl.ts.but hB3 (fun j hj e=>k.tl.s12 j (.inl e) hj)).but hbs (fun j hj e=>k.nb j (.inr (.inl hj)) e)
 ·exact (k1.tl.ps.but hB3 (fun j hj e=>k.tl.s13 j (.inl e) hj)).but hbs (fun j hj e=>k.nb j (.inr (.inr hj)) e)
 ·intro j hj hj2
  rcases hnew j hj with h1|h1
  ·exact k.tl.s12 j h1 hj2
  ·have:=hrng j (.inr (.inl hj2));omega
 ·intro j hj hj2
  rcases hnew j hj with h1|h1
  ·exact k.tl.s13 j h1 hj2
  ·have:=hrng j (.inr (.inr hj2));omega
 ·exact (k1.bel.comp hB3 (fun j hj=>.inr (k.tl.os.blk j (.inl hj)).1)).comp hbs (fun j e=>.inl e)
theorem Sg.addT (k:Sg w U b p a1 c1 Q1 a2 c2 a3 c3 Q3){L:List Tok}{a':Option Addr}{c':Nat}(hO:Ow U2 w.heap.size 57 5 a' L.length c' (toks L))(hG:Gr a2 a' U U2) :
  U2.frozen? ⟨b,1,none⟩=false∧U2.cell? ⟨b,1,none⟩=some (.slice a2 p.T.length c2)∧Sg w (U2.setCell ⟨b,1,none⟩ (.slice a' L.length c')) b { p with T:=L } a1 c1 Q1 a' c' a3 c3 Q3:=by
 have hx3:R.Bx U2 b _:=R.Bx.but hG.but k.bx (fun e=>k.nb b (.inr (.inl e)) rfl)
 have hrng:∀j,Two.B a1 Q1 j∨Blk a2 j∨Two.B a3 Q3 j→j<U.heap.size:=fun j hj=>by
  rcases hj with hj|hj|hj
  ·exact (k.tl.os.blk j hj).2
  ·exact (k.tl.ts.blk j hj).2
  ·exact (k.tl.ps.blk j hj).2
 have hbb:b<U.heap.size:=k.blt
 have hbs:But (·=b) U2 (U2.setCell ⟨b,1,none⟩ (.slice a' L.length c')):=(But.refl (fun x=>x=b) U2).setCell (p:=⟨b,1,none⟩) rfl _
 have hnb2:∀j,(Two.B a1 Q1 j∨Blk a' j∨Two.B a3 Q3 j)→j≠b:=fun j hj=>by
  rcases hj with hj|hj|hj
  ·exact k.nb j (.inl hj)
  ·rcases hG.on j hj with h1|h1
   ·exact k.nb j (.inr (.inl h1))
   ·omega
  ·exact k.nb j (.inr (.inr hj))
 refine⟨Bx.fz hx3 1 (by simp [stM]),hx3.cell 1 rfl,?_,⟨(k.tl.os.but hG.but (fun j hj e=>k.tl.s12 j hj e)).but hbs (fun j hj e=>hnb2 j (.inl hj) e),k.tl.ok,hO.but hbs (fun j hj e=>hnb2 j (.inr (.inl hj)) e),(k.tl.ps.but hG.but (fun j hj e=>k.tl.s23 j e hj)).but hbs (fun j hj e=>hnb2 j (.inr (.inr hj)) e),k.tl.pk,?_,k.tl.s13,?_⟩,hnb2,?_⟩
 ·have:=Bx.put hx3 1 (by simp [stM]) (.slice a' L.length c')
  simpa [stM] using this
 ·intro j hj hj2
  rcases hG.on j hj2 with h1|h1
  ·exact k.tl.s12 j hj h1
  ·have:=hrng j (.inl hj);omega
 ·intro j hj hj2
  rcases hG.on j hj with h1|h1
  ·exact k.tl.s23 j h1 hj2
  ·have:=hrng j (.inr (.inr hj2));omega
 ·exact (k.bel.comp hG.but (fun j hj=>.inr (k.tl.ts.blk j hj).1)).comp hbs (fun j e=>.inl e)
theorem Sg.addP (k:Sg w U b p a1 c1 Q1 a2 c2 a3 c3 Q3)(hb:Below U.heap.size U U1){id:Int}{B:List Cp}{ab:Option Addr}{cb:Nat}(ho:Ow U1 U.heap.size 38 3 ab B.length cb (caps B))(hn:p.P.length≤2048) :
  ∃a' c' w3,(Builtin.append_ #[51,51] 51 #[.slice a3 p.P.length c3,.slice (some ⟨U1.heap.size,0,none⟩) 1 1]).run Tryz.prog (U1.alloc (Obj.cells #[.int .i64 id,.slice ab B.length cb] 65))=.ok (.slice a' (p.P.length+1) c') w3∧w3.frozen? ⟨b,2,none⟩=false∧w3.cell? ⟨b,2,none⟩=some (.slice a3 p.P.length c3)∧But (Blk a3) U1 w3 ∧
   Sg w (w3.setCell ⟨b,2,none⟩ (.slice a' (p.P.length+1) c')) b { p with P:=p.P++[(id,B)] } a1 c1 Q1 a2 c2 a' c' (Q3++[⟨id,caps B,B.length,ab,cb⟩])∧(∀j,Two.B a' (Q3++[⟨id,caps B,B.length,ab,cb⟩]) j→Two.B a3 Q3 j∨U.heap.size≤j):=by
 have k1:=k.later hb
 have hU:w.heap.size≤U.heap.size:=k.bel.size
 have hs:=Bag.snoc (kE_ok 38 3) 51 _ 32 Tryz.underlying51 info59 rfl (by omega) (by omega) (two_bag k1.tl.ps) (Nat.le_trans hU hb.size) (⟨id,caps B,B.length,ab,cb⟩:Ev) (Ow.mono ho hU) (fun j hj hj2=>by
  have h1:=(Ow.blk ho j hj).1
  have h2:=((two_bag k.tl.ps).rng (kE_ok 38 3) j hj2).2
  omega) (by omega)
 obtain⟨a',c',w3,hrun,hbag,hB3,hon⟩:=hs
 have hx3:R.Bx w3 b _:=R.Bx.but hB3 k1.bx (fun e=>k1.nb b (.inr (.inr (.inl e))) rfl)
 have hrng:∀j,Two.B a1 Q1 j∨Blk a2 j∨Two.B a3 Q3 j→j<U.heap.size:=fun j hj=>by
  rcases hj with hj|hj|hj
  ·exact (k.tl.os.blk j hj).2
  ·exact (k.tl.ts.blk j hj).2
  ·exact (k.tl.ps.blk j hj).2
 have hnew:∀j,Two.B a' (Q3++[⟨id,caps B,B.length,ab,cb⟩]) j→Two.B a3 Q3 j∨U.heap.size≤j:=fun j hj=>by
  rcases hj with hj|⟨o,ho2,hj⟩
  ·rcases hon j hj with h1|h1
   ·exact .inl (.inl h1)
   ·exact .inr (Nat.le_trans hb.size h1)
  ·rcases List.mem_append.1 ho2 with h1|h1
   ·exact .inl (.inr ⟨o,h1,hj⟩)
   ·rw [List.mem_singleton.1 h1] at hj
    exact .inr (Ow.blk ho j hj).1
 have hbb:b<U.heap.size:=k.blt
 have hbs:But (·=b) w3 (w3.setCell ⟨b,2,none⟩ (.slice a' (p.P.length+1) c')):=(But.refl (fun x=>x=b) w3).setCell (p:=⟨b,2,none⟩) rfl _
 have hnb2:∀j,(Two.B a1 Q1 j∨Blk a2 j∨Two.B a' (Q3++[⟨id,caps B,B.length,ab,cb⟩]) j)→j≠b:=fun j hj=>by
  rcases hj with hj|hj|hj
  ·exact k.nb j (.inl hj)
  ·exact k.nb j (.inr (.inl hj))
  ·rcases hnew j hj with h1|h1
   ·exact k.nb j (.inr (.inr h1))
   ·omega
 refine⟨a',c',w3,hrun,Bx.fz hx3 2 (by simp [stM]),hx3.cell 2 rfl,hB3,⟨?_,⟨(k1.tl.os.but hB3 (fun j hj e=>k.tl.s13 j hj (.inl e))).but hbs (fun j hj e=>k.nb j (.inl hj) e),k.tl.ok,(k1.tl.ts.but hB3 (fun j hj e=>k.tl.s23 j hj (.inl e))).but hbs (fun j hj e=>k.nb j (.inr (.inl hj)) e),hbag.two.but hbs (fun j hj e=>hnb2 j (.inr (.inr hj)) e) |> fun t=>(by simpa using t),by simp [k.tl.pk,Ev.key,plK],k.tl.s12,?_,?_⟩,hnb2,?_⟩,hnew⟩
 ·have:=Bx.put hx3 2 (by simp [stM]) (.slice a' (p.P.length+1) c')
  simpa [stM] using this
 ·intro j hj hj2
  rcases hnew j hj2 with h1|h1
  ·exact k.tl.s13 j hj h1
  ·have:=hrng j (.inl hj);omega
 ·intro j hj hj2
  rcases hnew j hj2 with h1|h1
  ·exact k.tl.s23 j hj h1
  ·have:=hrng j (.inr (.inl hj));omega
 ·exact (k1.bel.comp hB3 (fun j hj=>.inr (k.tl.ps.blk j (.inl hj)).1)).comp hbs (fun j e=>.inl e)
theorem ldSt {n1 n2 n3:Nat}{x y z:Int}{b:Nat}(h:R.Bx U b (stM a1 n1 c1 a2 n2 c2 a3 n3 c3 x y z)):(Instr.loadAt 53 (.pointer (some ⟨b,0,none⟩))).run Tryz.prog U=.ok (stV a1 n1 c1 a2 n2 c2 a3 n3 c3 x y z) U:=by
 have:=run_loadVar_mid (P:=Tryz.prog) U b 0 53 (stM a1 n1 c1 a2 n2 c2 a3 n3 c3 x y z) _ h.range Tryz.underlying53 rfl (by rw [info53];rfl)
 simp [Instr.loadAt,Instr.sureAddr,this,stM]
end
end Go.Proofs.YtffmodpgddecnaaGreat.V.E
