import Derived.Test.YtfmhdimaijimlaaGreatDoorZ06
set_option linter.all false
set_option maxRecDepth 1000000
set_option maxHeartbeats 8000000
open Go.Proofs.Tryz
variable {w w' w1 w2:Go.World}{n m k i j b g base kn:Nat}{a:Option Go.Addr}
namespace Go.Proofs.YtfmhdimaijimlaaGreatDoor
open Go.RowKit Go.Shelf H
attribute [local go_sem] Oper.semAt_some
def Hm (X:List Tk)(l:Fo)(s:List Int×List Tok)(x:Int):List Int×List Tok :=
 (s.1.set x.toNat (s.2.length:Int),s.2++[((tk X x).1,rg X x,if par l x=-1 then -1 else (s.1[(par l x).toNat]?).getD 0)])
def kB (X:List Tk)(l:Fo)(mo:Nat)(A:List Int):List Int×List Tok:=A.foldl (Hm X l) (List.replicate mo 0,[])
theorem gj (X:List Tk)(l:Fo)(mo:Nat)(A:List Int)(a:Int):kB X l mo (A++[a])=Hm X l (kB X l mo A) a:=by unfold kB;rw [List.foldl_append];rfl
theorem rT (X:List Tk)(l:Fo)(mo:Nat):∀A,(kB X l mo A).1.length=mo :=
 ju (P:=λA=>(kB X l mo A).1.length=mo) (by simp [kB]) (λA a ih=>by rw [gj];simp [Hm,ih])
theorem e_ (X:List Tk)(l:Fo)(mo:Nat):∀A,(kB X l mo A).2.length=A.length :=
 ju (P:=λA=>(kB X l mo A).2.length=A.length) (by simp [kB]) (λA a ih=>by rw [gj];simp [Hm,ih])
theorem xk (w:World)(n:Nat)(hn:n<=1024) :
  ∃w',(Instr.makeSlice 43 (.int .i64 (n:Int)) (.int .i64 (n:Int))).run prog w=.ok (.slice (some ⟨w.heap.size,0,none⟩) n n) w'/\Own w' w.heap.size 3 (some ⟨w.heap.size,0,none⟩) n n (ints (List.replicate n 0))/\Below w.heap.size w w':=by
 obtain⟨i,hi,hz0,hz1,hz2⟩:=info_parts sj
 obtain⟨w',hr,ho,hg⟩:=run_make_full (P:=prog) w w.heap.size 43 3 i _ 1 underlying43 hi hz0 hz1 .i64 .i64 n (by rw [hz2];omega) (by unfold maxLen;omega) (Nat.le_refl _)
 refine⟨w',hr,⟨?_,eC _⟩,(Below.refl _ _).grown hg (Nat.le_refl _) (λk hk=>by cases hk)⟩
 have e:ints (List.replicate n 0)=(madeCells (Value.int .i64 0).cells (n*1)).toList:=by
  apply List.ext_getElem?
  intro j
  rw [Array.getElem?_toList]
  simp only [madeCells,Value.cells,ints,Nat.mul_one]
  by_cases hj:j<n
  ·simp [hj,Nat.mod_one]
  ·simp [hj]
 rw [e]
 exact ho
theorem DJ (t e:TypeId)(z:Value)(k au:Nat)(ht:prog.underlying t=some (.slice e))(hinf:(prog.info? e).map (λi=>(i.zero,i.size,i.bytes))=some (some z,k,au))(hzs:z.cells.size=k)(hk:0<k)(hby:0<au)(hby2:au<=1024)
  {B:Nat} {W:World} {n:Nat} {L:List Value} {a:Option Addr} {c:Nat} (hl:aq W ⟨B,0,none⟩ (.slice a n c)) {C:Nat} (hBC:B<C) (hCW:C<=W.heap.size) (hO:Ow W C e k a n c L) (M:List Value) (hM:M.length=k) (hM1:∀u∈M,u.oneCell'=true) (hn:n<=2048) :
  ∃a' c' w3,(Builtin.append_ #[t,t] t #[.slice a n c,.slice (some ⟨W.heap.size,0,none⟩) 1 1]).run prog (W.alloc (Obj.cells M.toArray e))=.ok (.slice a' (n+1) c') w3 /\
   aq w3 ⟨B,0,none⟩ (.slice a n c)/\∀w4,w4=w3.setCell ⟨B,0,none⟩ (.slice a' (n+1) c')->w4.cell? ⟨B,0,none⟩=some (.slice a' (n+1) c')/\(aq w4 ⟨B,0,none⟩ (.slice a' (n+1) c')/\Ow w4 C e k a' (n+1) c' (L++M))/\ae (bZ B W) W w4/\(∀j,bZ B w4 j->bZ B W j\/W.heap.size<=j)/\(∀j,bZ B W j->(j=B\/C<=j)/\∃cs t z,W.heap[j]?=some (.cells cs t z)):=by
 have hBl:B<W.heap.size:=World.block_lt_of_cell? _ _ hl.1
 have hcr:=Cr.lit W e M hM1
 rw [hM] at hcr
 obtain⟨a',c',w3,hrun,hO3,hG0⟩:=eY t e z k au ht hinf hzs hk hby (hO.later (ab W (Obj.cells M.toArray e))) hcr (by simp;omega) (by
  have:(n+1)*au<=2049*1024:=Nat.mul_le_mul (by omega) hby2
  omega)
 have hG:=hG0.pre (ab W (Obj.cells M.toArray e))
 have hO3:Ow w3 C e k a' (n+1) c' (L++M):=hO3
 have hl3:aq w3 ⟨B,0,none⟩ (.slice a n c):=hl.but hG.but (λhb=>by have:=(hO.bD B hb).1;omega)
 have hfp:∀j,bZ B W j->j=B\/aD a j:=λj hj=>by
  rcases hj with rfl|⟨a2,n2,c2,h2,hj⟩
  ·exact .inl rfl
  ·rw [hl.1] at h2
   cases h2
   exact .inr hj
 refine⟨a',c',w3,hrun,hl3,?_⟩
 rintro w4 rfl
 have hb4:ae (bZ B W) W (w3.setCell ⟨B,0,none⟩ (.slice a' (n+1) c')) :=
  (hG.but.mono (λj hj=>.inr ⟨a,_,c,hl.1,hj⟩)).setCell (p:=⟨B,0,none⟩) (.inl rfl) _
 have hl4:=hl3.put (u:=.slice a' (n+1) c')
 have hO4:Ow (w3.setCell ⟨B,0,none⟩ (.slice a' (n+1) c')) C e k a' (n+1) c' (L++M) :=
  hO3.but (S:=(·=B)) ((ae.refl (·=B) _).setCell (p:=⟨B,0,none⟩) (show B=B from rfl) _) (λj hj e=>by have:=(hO3.bD j hj).1;omega)
 refine⟨hl4.1,⟨hl4,hO4⟩,hb4,λj hj=>?_,λj hj=>?_⟩
 ·rcases hj with rfl|⟨a2,n2,c2,h2,hj⟩
  ·exact .inl (.inl rfl)
  ·rw [hl4.1] at h2
   cases h2
   rcases hG.on j hj with h3|h3
   ·exact .inl (.inr ⟨a,_,c,hl.1,h3⟩)
   ·exact .inr h3
 ·rcases hfp j hj with rfl|h3
  ·refine⟨.inl rfl,?_⟩
   have:=hl.1
   unfold World.cell? at this
   cases ho:W.heap[j]? with
   | none=>rw [ho] at this;cases this
   | some o =>
    rw [ho] at this
    cases o with
    | cells cs t z=>exact⟨cs,t,z,rfl⟩
    | _=>simp at this
  ·exact⟨.inr (hO.bD j h3).1,hO.cells h3⟩
structure Jz (w:World)(A:Ad)(mo:Nat)(X:List Tk)(l:Fo)(C B0 B7 B8 pb:Nat)(n:Int)(pre:List (Mem l n))(W:World):Prop where
 box:∃a c,aq W ⟨B7,0,none⟩ (.slice a pre.length c)/\Ow W C 61 5 a pre.length c (eF (kB X l mo (bJ pre)).2)
 c:aq W ⟨B0,0,none⟩ (.pointer (some ⟨A.g,0,none⟩))
 p:aq W ⟨B8,0,none⟩ (.slice (some ⟨pb,0,none⟩) mo mo)
 row:Own W pb 3 (some ⟨pb,0,none⟩) mo mo (ints (kB X l mo (bJ pre)).1)
 Fk:Below w.heap.size w W
 sz:C<=W.heap.size
def Aw (B7 pb:Nat)(W:World)(k:Nat):Prop:=k=pb\/bZ B7 W k
theorem Own.FE {C:Nat}{e:TypeId}{cap:Nat}{L:List Value}{W W':World}{row:Option Nat}(h:Own W base e a n cap L)(hg:W.grownBy W' row)(hr:∀r,row=some r->C<=r/\∃o,W.heap[r]?=some o/\o.isCells=false):Own W' base e a n cap L :=
 h.but (bo hg) (λj hj e=>by
  obtain⟨_,o,ho,hc⟩:=hr j e
  obtain⟨cs,t,z,hh⟩:=fk h hj
  rw [ho] at hh
  cases hh
  cases hc)
theorem A4 {A:Ad}{mo:Nat}{X:List Tk}{l:Fo}{B0 B7 B8 pb:Nat}{n:Int}{C:Nat}(hw:w.heap.size<=C)(h0:B0<C)(h8:B8<C)(h7:B7<C):OwnFrom C (Jz w A mo X l C B0 B7 B8 pb n):=λs W W' row hs hg hr =>
 ⟨by
  obtain⟨a,c,hl,hO⟩:=hs.box
  exact⟨a,c,hl.but (bo hg) (λe=>by have:=(hr _ e).1;simp at this;omega),hO.but (bo hg) (λj hj e=>by
   obtain⟨_,o,ho,hc⟩:=hr j e
   obtain⟨cs,t,z,hh⟩:=hO.cells hj
   rw [ho] at hh
   cases hh
   cases hc)⟩,hs.c.but (bo hg) (λe=>by have:=(hr _ e).1;simp at this;omega),hs.p.but (bo hg) (λe=>by have:=(hr _ e).1;simp at this;omega),hs.row.FE hg hr,ae.below hs.Fk (bo hg) (λk e=>by have:=(hr _ e).1;omega),Nat.le_trans hs.sz hg.size⟩
theorem Ir {n:Int}{A:Ad}{mo:Nat}{T:List (Cp×Int)}{X:List Tk}{l:Fo}(h:Cm w A kn mo T X l)(o:Int)(hr:∀(W:World),Below w.heap.size w W->Calls prog 120 #[.pointer (some ⟨A.g,0,none⟩),.int .i64 o] W λe w'=>e=.returned (.tuple #[.int .i64 n,.bool true])/\Below W.heap.size W w') :
  Calls prog 71 #[.pointer (some ⟨A.g,0,none⟩),.int .i64 o] w λe w'=>∃a c,e=.returned (.slice a (G true l n).length c)/\Ow w' w.heap.size 61 5 a (G true l n).length c (eF (kB X l mo (G true l n)).2)/\Below w.heap.size w w':=by
 have mX:=h.small
 have hok:=aa h.nB.ok
 have hGl:=mL hok.out true n
 have HH:=aa h
 have hAll:=aa h.lt
 obtain⟨w0,hw0⟩:∃w0,w0=w.alloc (Obj.cells #[.pointer (some ⟨A.g,0,none⟩)] 82):=⟨_,rfl⟩
 have hB0:Below w.heap.size w w0:=by rw [hw0];exact ab _ _
 have hL0:aq w0 ⟨w.heap.size,0,none⟩ (.pointer (some ⟨A.g,0,none⟩)):=by rw [hw0];exact aE _ _ _
 have z0:=hL0.1
 have hlt0:w.heap.size<w0.heap.size:=by rw [hw0];simp
 have hrt:=aa (hr w0 hB0)
 have hdn:=aa (λW (hW:Below w.heap.size w W)=>qN (h.later hW) n)
 clear h hr
 refine (callsIn_wide (n:=3)).1 ?_
 refine callsIn_of_wp_marks func71 rfl trivial ?_ rfl
 simp only [ntmps71,List.size_toArray,List.length_cons,List.length_nil,Nat.reduceAdd,Nat.reduceSub,Array.replicate_succ,Array.replicate_zero,List.push_toArray,List.append_toArray,List.nil_append,List.cons_append]
 gi_upto_region 1 with fail
 rw [<-hw0]
 clear hw0
 gi_upto_region 4 with (first|(refine⟨trivial,?_⟩;gi_at_call 120;refine (callsIn_wide.2 hrt.out).mono ?_;rintro e w1 ⟨rfl,hb1⟩;have HB1:=aa hb1;clear hb1))
 obtain⟨w2,hw2⟩:∃w2,w2=w1.alloc (Obj.cells #[.slice none 0 0] 50):=⟨_,rfl⟩
 have hB2:Below w1.heap.size w1 w2:=by rw [hw2];exact ab _ _
 have hL7:aq w2 ⟨w1.heap.size,0,none⟩ (.slice none 0 0):=by rw [hw2];exact aE _ _ _
 have hB02:=al HB1.o hB2
 have hL02:=hL0.later hB02
 have zz2:=hL02.1
 have x12:=(HH.o.later (al hB0 hB02)).c1
 gi_upto_region 5 with fail
 rw [<-hw2]
 clear hw2
 obtain⟨w3,hr3,hO3,hB3⟩:=xk w2 mo (by omega)
 obtain⟨w4,hw4⟩:∃w4,w4=w3.alloc (Obj.cells #[.slice (some ⟨w2.heap.size,0,none⟩) mo mo] 43):=⟨_,rfl⟩
 have hB4:Below w3.heap.size w3 w4:=by rw [hw4];exact ab _ _
 have hL8:aq w4 ⟨w3.heap.size,0,none⟩ (.slice (some ⟨w2.heap.size,0,none⟩) mo mo):=by rw [hw4];exact aE _ _ _
 have hB24:=al hB3 hB4
 have zz4:=(hL02.later hB24).1
 gi_upto_region 6 with fail
 rw [<-hw4]
 clear hw4 zz2 x12 hr3
 have hBw4:=al (al hB0 hB02) hB24
 have HD:=aa (hdn.out w4 hBw4)
 gi_wp2_with (refine⟨trivial,?_⟩;gi_at_call 121;refine (callsIn_wide.2 HD.o).mono ?_;rintro e w5 ⟨b0,rfl,hS,hB⟩;have HS:=aa hS;have HB5:=aa hB;clear hS hB)
 have l7:w1.heap.size<w2.heap.size:=World.block_lt_of_cell? _ _ hL7.1
 have lp:w2.heap.size<w3.heap.size:=hO3.lt _ ⟨_,rfl,rfl⟩
 have l8:w3.heap.size<w4.heap.size:=World.block_lt_of_cell? _ _ hL8.1
 have l5:=HB5.o.size
 have l01:=HB1.o.size
 have hBw5:=al hBw4 HB5.o
 have hB25:=al hB24 HB5.o
 have hM5:=HH.o.later hBw5
 have hL05:=hL02.later hB25
 have hL75:=hL7.later hB25
 have hL85:=hL8.later HB5.o
 have hO5:=(hO3.later hB4).later HB5.o
 have hrng:Hid (∀x∈G true l n,x∈ah l/\0<=x/\x<(mo:Int)):=λx hx=>by
  have h1:=dK hok.out hx
  have:=hok.out.range x h1
  exact⟨h1,this.1,this.2⟩
 refine ot 9 (by omega) rfl HS.o hM5.nB (Aw w1.heap.size w2.heap.size) (λW hW k hk=>?_) (λW L o o' hL hLo ho k hk=>hk.imp id (λhk=>nw (C:=w5.heap.size) (by omega) W L o o' hL hLo ho k hk))
  (Jz w A mo X l w5.heap.size w.heap.size w1.heap.size w3.heap.size w2.heap.size n) (A4 hBw5.size (by omega) (by omega) (by omega)) ⟨⟨none,0,hL75,Ow.nil _ _ _ _⟩,hL05,hL85,hO5,hBw5,Nat.le_refl _⟩ ?assign ?body ?done
 ·rcases hk with hk|hk
  ·omega
  ·exact kd hL75.1 W hW k hk
 case assign =>
  intro L x W K hK
  gi_wp2
  exact hK
 case body =>
  rintro L pre x W hI hlt
  simp only [yM,List.setIfInBounds_toArray,List.set]
  obtain⟨x,hx⟩:=x
  obtain⟨hxl,hx0,hxm⟩:=hrng.out x hx
  obtain⟨k,rfl⟩:∃k:Nat,x=(k:Int):=⟨x.toNat,by omega⟩
  have hkm:k<mo:=by omega
  obtain⟨p,hp⟩:=cE.1 hxl
  have hpar:=fu hok.out hp
  obtain⟨a,c,hl,hO⟩:=hI.box
  have hpl:pre.length<=2048:=by unfold dP at hlt;omega
  have hpl2:pre.length<512:=by unfold dP at hlt;omega
  have hat:=aa (lQ (HH.o.later hI.Fk) (k:Int) p hp)
  obtain⟨q,hq⟩:∃q,q=(if p=-1 then -1 else ((kB X l mo (bJ pre)).1[p.toNat]?).getD 0:Int):=⟨_,rfl⟩
  have hWs:=hI.sz
  have hPl:(kB X l mo (bJ pre)).1.length=mo:=rT X l mo _
  have hOl:(kB X l mo (bJ pre)).2.length=pre.length:=by rw [e_,BO]
  obtain⟨u,hu⟩:=get_some (L:=(kB X l mo (bJ pre)).1) (i:=k) (by omega)
  have HPO:Hid (∀Wt,Below W.heap.size W Wt->∀w8,w8=Wt.setCell ⟨w2.heap.size,k,none⟩ (.int .i64 (pre.length:Int))->aq Wt ⟨w3.heap.size,0,none⟩ (.slice (some ⟨w2.heap.size,0,none⟩) mo mo)/\aq Wt ⟨w2.heap.size,k,none⟩ (.int .i64 u)/\aq Wt ⟨w1.heap.size,0,none⟩ (.slice a pre.length c)/\aq w8 ⟨w1.heap.size,0,none⟩ (.slice a pre.length c) /\
    ∃a' c' w9,(Builtin.append_ #[50,50] 50 #[.slice a pre.length c,.slice (some ⟨w8.heap.size,0,none⟩) 1 1]).run prog (w8.alloc (Obj.cells #[.int .i64 (tk X (k:Int)).1.1,.int .u64 ((tk X (k:Int)).1.2.1:Int),.int .u64 ((tk X (k:Int)).1.2.2:Int),.int .i64 (rg X (k:Int)),.int .i64 q] 61))=.ok (.slice a' (pre.length+1) c') w9/\aq w9 ⟨w1.heap.size,0,none⟩ (.slice a pre.length c) /\
     (KeepsFrom w5.heap.size W (w9.setCell ⟨w1.heap.size,0,none⟩ (.slice a' (pre.length+1) c'))/\Kq (Aw w1.heap.size w2.heap.size) W (w9.setCell ⟨w1.heap.size,0,none⟩ (.slice a' (pre.length+1) c'))/\Jz w A mo X l w5.heap.size w.heap.size w1.heap.size w3.heap.size w2.heap.size n (pre++[⟨(k:Int),hx⟩]) (w9.setCell ⟨w1.heap.size,0,none⟩ (.slice a' (pre.length+1) c')))):=by
   intro Wt hbt w8 hw8
   have hO0:=hI.row
   have hOt:=hO0.later hbt
   have hb8:ae (·=w2.heap.size) Wt w8:=by rw [hw8];exact (ae.refl (·=w2.heap.size) Wt).setCell (p:=⟨w2.heap.size,k,none⟩) rfl _
   have hBW:ae (·=w2.heap.size) W w8:=(ae.of hbt).trans hb8
   have hl8:=hl.but hBW (by show ¬w1.heap.size=w2.heap.size;omega)
   have hpb:¬aD a w2.heap.size:=λhb=>by have:=(hO.bD _ hb).1;omega
   have hO8:=hO.but hBW (λj hj e=>hpb (e ▸ hj))
   obtain⟨_,e1,hL1⟩:=hOt.oR rfl (j:=k) (u:=.int .i64 u) (by rw [ints,List.getElem?_map,hu];rfl)
   cases e1
   obtain⟨a',c',w9,hrun,hl9,hr9⟩:=DJ 50 61 _ 5 40 underlying50 zu rfl (by omega) (by omega) (by omega) hl8 (C:=w5.heap.size) (by omega) (Nat.le_trans hWs hBW.size) hO8 (fe ((tk X (k:Int)).1,rg X (k:Int),q)) rfl (BB _) hpl
   obtain⟨hc4,hbx4,hb4,hf4,hg4⟩:=hr9 _ rfl
   have hfpW:∀j,bZ w1.heap.size w8 j->bZ w1.heap.size W j:=λj hj=>by
    rcases hj with rfl|⟨a2,n2,c2,h2,hj⟩
    ·exact .inl rfl
    ·rw [hl8.1] at h2
     cases h2
     exact .inr ⟨a,_,c,hl.1,hj⟩
   have hn2:¬bZ w1.heap.size w8 w2.heap.size:=λhf=>by
    rcases hf with hf|⟨a2,n2,c2,h2,hj⟩
    ·omega
    ·rw [hl8.1] at h2
     cases h2
     exact hpb hj
   have hbw4:ae (Aw w1.heap.size w2.heap.size W) W (w9.setCell ⟨w1.heap.size,0,none⟩ (.slice a' (pre.length+1) c')) :=
    (hBW.mono (λj hj=>.inl hj)).trans (hb4.mono (λj hj=>.inr (hfpW j hj)))
   have hcl:∀j,Aw w1.heap.size w2.heap.size W j->∃cs t z,W.heap[j]?=some (.cells cs t z):=λj hj=>by
    rcases hj with rfl|rfl|⟨a2,n2,c2,h2,hj⟩
    ·exact fk hO0 ⟨_,rfl,rfl⟩
    ·have h3:=hl.1
     unfold World.cell? at h3
     cases ho:W.heap[w1.heap.size]? with
     | none=>rw [ho] at h3;cases h3
     | some o =>
      rw [ho] at h3
      cases o with
      | cells cs t z=>exact⟨cs,t,z,rfl⟩
      | _=>simp at h3
    ·rw [hl.1] at h2
     cases h2
     exact hO.cells hj
   have hge:∀j,Aw w1.heap.size w2.heap.size W j->w1.heap.size<=j:=λj hj=>by
    rcases hj with rfl|rfl|⟨a2,n2,c2,h2,hj⟩
    ·omega
    ·exact Nat.le_refl _
    ·rw [hl.1] at h2
     cases h2
     have:=(hO.bD j hj).1
     omega
   refine⟨hI.p.later hbt,hL1,hl.later hbt,hl8,a',c',w9,hrun,hl9,oh hbw4 (λj o hj ho _ hs=>?_),zn hbw4 (λj hj=>hj) (λj hj=>?_),⟨?_,?_,?_,?_,?_,Nat.le_trans hWs hbw4.size⟩⟩
   ·obtain⟨cs,t,z,hh⟩:=hcl j hs
    rw [hj] at hh
    cases hh
    cases ho
   ·rcases hj with hj|hj
    ·exact .inl (.inl hj)
    ·rcases hf4 j hj with h5|h5
     ·exact .inl (.inr (hfpW j h5))
     ·exact .inr (Nat.le_trans hBW.size h5)
   ·rw [ia,gj,List.length_append]
    unfold Hm
    simp only
    rw [jO,hpar,<-hq]
    exact⟨a',c',hbx4.1,hbx4.2⟩
   ·exact hI.c.but hbw4 (λe=>by have:=hge _ e;simp at this;omega)
   ·refine hI.p.but hbw4 (λe=>?_)
    rcases e with e|e|⟨a2,n2,c2,h2,hj⟩
    ·simp at e;omega
    ·simp at e;omega
    ·rw [hl.1] at h2
     cases h2
     have:=(hO.bD _ hj).1
     simp at this
     omega
   ·rw [ia,gj]
    unfold Hm
    simp only
    rw [hOl]
    have e1:((k:Int)).toNat=k:=by simp
    rw [e1]
    have h8:Own w8 w2.heap.size 3 (some ⟨w2.heap.size,0,none⟩) mo mo (ints ((kB X l mo (bJ pre)).1.set k (pre.length:Int))):=by rw [hw8];exact hOt.set
    exact h8.but hb4 (λj hj e=>hn2 (by obtain⟨x1,e2,e3⟩:=hj;cases e2;rw [<-e3] at e;exact e))
   ·exact ae.below hI.Fk hbw4 (λj hj=>by have:=hge j hj;omega)
  have y2:=hI.c.1
  obtain⟨⟨ox,hx_,lx⟩,rx0,hxx⟩:∃c r,tk X (k:Int)=(c,r):=⟨_,_,rfl⟩
  obtain⟨rx,hrx⟩:∃r,r=rg X (k:Int):=⟨_,rfl⟩
  have hprow:Hid (∀Wt,Below W.heap.size W Wt->∀pk:Nat,p=(pk:Int)->aq Wt ⟨w2.heap.size,pk,none⟩ (.int .i64 q)/\aq Wt ⟨w3.heap.size,0,none⟩ (.slice (some ⟨w2.heap.size,0,none⟩) mo mo)):=λWt hbt pk e=>by
   subst e
   have hpn:((pk:Nat):Int)∈ah l:=(hok.out.up hp).resolve_left (by omega)
   have hpr:=hok.out.range _ hpn
   obtain⟨u2,hu2⟩:=get_some (L:=(kB X l mo (bJ pre)).1) (i:=pk) (by omega)
   have hq2:q=u2:=by rw [hq,if_neg (by omega)];simp [hu2]
   obtain⟨_,e1,hL1⟩:=(hI.row.later hbt).oR rfl (j:=pk) (u:=.int .i64 u2) (by rw [ints,List.getElem?_map,hu2];rfl)
   cases e1
   rw [hq2]
   exact⟨hL1,hI.p.later hbt⟩
  rw [hxx,<-hrx] at HPO hat
  have hpm:p=-1\/∃pk:Nat,p=(pk:Int)/\pk<mo:=by
   rcases hok.out.up hp with h1|h1
   ·exact .inl h1
   ·have:=hok.out.range _ h1
    exact .inr ⟨p.toNat,by omega,by omega⟩
  clear hI hl hO hxl hu hp hpar hxx hrx
  simp only at HPO hat
  rcases hpm with rfl|⟨pk,rfl,hpk⟩
  ·have hq1:q=-1:=by rw [hq,if_pos rfl]
   subst hq1
   clear hq
   gi_upto_region 9 with (first|(refine⟨trivial,?_⟩;gi_at_call 122;refine (CallsIn.inRound L (callsIn_wide.2 hat.out)).mono ?_;rintro e w6 ⟨rfl,hb6⟩;have HB6:=aa hb6;clear hb6))
   obtain⟨w7,hw7⟩:∃w7,w7=w6.alloc (Obj.cells #[.int .i64 ox,.int .u64 (hx_:Int),.int .u64 (lx:Int),.int .i64 rx,.int .i64 (-1)] 61):=⟨_,rfl⟩
   have hB7:Below W.heap.size W w7:=al HB6.o (by rw [hw7];exact ab _ _)
   have t0:aq w7 ⟨w6.heap.size,0,none⟩ (.int .i64 ox):=by rw [hw7];exact⟨by simp [go_sem],by simp [go_sem]⟩
   have t1:aq w7 ⟨w6.heap.size,1,none⟩ (.int .u64 (hx_:Int)):=by rw [hw7];exact⟨by simp [go_sem],by simp [go_sem]⟩
   have t2:aq w7 ⟨w6.heap.size,2,none⟩ (.int .u64 (lx:Int)):=by rw [hw7];exact⟨by simp [go_sem],by simp [go_sem]⟩
   have t3:aq w7 ⟨w6.heap.size,3,none⟩ (.int .i64 rx):=by rw [hw7];exact⟨by simp [go_sem],by simp [go_sem]⟩
   have t4:aq w7 ⟨w6.heap.size,4,none⟩ (.int .i64 (-1)):=by rw [hw7];exact⟨by simp [go_sem],by simp [go_sem]⟩
   have hs6:W.heap.size<=w6.heap.size:=HB6.o.size
   have u4:=t4.1
   rw [<-hw7]
   clear hw7
   obtain⟨w8,hw8⟩:∃w8,w8=w7.setCell ⟨w2.heap.size,k,none⟩ (.int .i64 (pre.length:Int)):=⟨_,rfl⟩
   obtain⟨f1,f2,f3,f4,a',c',w9,hrun,f9,hfin⟩:=HPO.o w7 hB7 w8 hw8
   have g1:=f1.1
   have g2:=f2.1
   have g2':=f2.2
   have g3:=f3.1
   have g4:=f4.1
   have g9:=f9.1
   have g9':=f9.2
   have HRUN:=aa hrun
   have HFIN:=aa hfin
   have hnb:w6.heap.size≠w2.heap.size:=by omega
   have v0:w8.cell? ⟨w6.heap.size,0,none⟩=some (.int .i64 ox):=by rw [hw8];exact bA t0.1 hnb
   have v1:w8.cell? ⟨w6.heap.size,1,none⟩=some (.int .u64 (hx_:Int)):=by rw [hw8];exact bA t1.1 hnb
   have v2:w8.cell? ⟨w6.heap.size,2,none⟩=some (.int .u64 (lx:Int)):=by rw [hw8];exact bA t2.1 hnb
   have v3:w8.cell? ⟨w6.heap.size,3,none⟩=some (.int .i64 rx):=by rw [hw8];exact bA t3.1 hnb
   have v4:w8.cell? ⟨w6.heap.size,4,none⟩=some (.int .i64 (-1)):=by rw [hw8];exact bA t4.1 hnb
   clear hrun hfin f1 f2 f3 f4 f9 t0 t1 t2 t3 t4
   gi_upto_region 12 with fail
   rw [<-hw8]
   clear hw8
   gi_wp2_with (gi_at_builtin;refine de rfl _ _ 50 rfl _ _ rfl rfl _ w9 HRUN.o ?_)
   exact HFIN.o
  ·have hbn:(((pk:Nat):Int)==(-1:Int))=false:=by simp
   clear hq
   gi_upto_region 9 with (first|(refine⟨trivial,?_⟩;gi_at_call 122;refine (CallsIn.inRound L (callsIn_wide.2 hat.out)).mono ?_;rintro e w6 ⟨rfl,hb6⟩;have HB6:=aa hb6;clear hb6))
   obtain⟨w7,hw7⟩:∃w7,w7=w6.alloc (Obj.cells #[.int .i64 ox,.int .u64 (hx_:Int),.int .u64 (lx:Int),.int .i64 rx,.int .i64 (pk:Int)] 61):=⟨_,rfl⟩
   have hB7:Below W.heap.size W w7:=al HB6.o (by rw [hw7];exact ab _ _)
   have t0:aq w7 ⟨w6.heap.size,0,none⟩ (.int .i64 ox):=by rw [hw7];exact⟨by simp [go_sem],by simp [go_sem]⟩
   have t1:aq w7 ⟨w6.heap.size,1,none⟩ (.int .u64 (hx_:Int)):=by rw [hw7];exact⟨by simp [go_sem],by simp [go_sem]⟩
   have t2:aq w7 ⟨w6.heap.size,2,none⟩ (.int .u64 (lx:Int)):=by rw [hw7];exact⟨by simp [go_sem],by simp [go_sem]⟩
   have t3:aq w7 ⟨w6.heap.size,3,none⟩ (.int .i64 rx):=by rw [hw7];exact⟨by simp [go_sem],by simp [go_sem]⟩
   have t4:aq w7 ⟨w6.heap.size,4,none⟩ (.int .i64 (pk:Int)):=by rw [hw7];exact⟨by simp [go_sem],by simp [go_sem]⟩
   have hs6:W.heap.size<=w6.heap.size:=HB6.o.size
   have u4:=t4.1
   rw [<-hw7]
   clear hw7
   obtain⟨⟨s1,s1'⟩,s2,s2'⟩:=hprow.out w7 hB7 pk rfl
   gi_upto_region 10 with fail
   obtain⟨wt,hwt⟩:∃wt,wt=w7.setCell ⟨w6.heap.size,4,none⟩ (.int .i64 q):=⟨_,rfl⟩
   have hBt:Below W.heap.size W wt:=by rw [hwt];exact hB7.setCell (p:=⟨w6.heap.size,4,none⟩) hs6 _
   have k0:aq wt ⟨w6.heap.size,0,none⟩ (.int .i64 ox):=by rw [hwt];exact t0.other (by simp)
   have k1:aq wt ⟨w6.heap.size,1,none⟩ (.int .u64 (hx_:Int)):=by rw [hwt];exact t1.other (by simp)
   have k2:aq wt ⟨w6.heap.size,2,none⟩ (.int .u64 (lx:Int)):=by rw [hwt];exact t2.other (by simp)
   have k3:aq wt ⟨w6.heap.size,3,none⟩ (.int .i64 rx):=by rw [hwt];exact t3.other (by simp)
   have k4:aq wt ⟨w6.heap.size,4,none⟩ (.int .i64 q):=by rw [hwt];exact t4.put
   have u4':=t4.2
   gi_upto_region 11 with fail
   rw [<-hwt]
   clear hwt u4 u4' s1 s1' s2 s2'
   obtain⟨w8,hw8⟩:∃w8,w8=wt.setCell ⟨w2.heap.size,k,none⟩ (.int .i64 (pre.length:Int)):=⟨_,rfl⟩
   obtain⟨f1,f2,f3,f4,a',c',w9,hrun,f9,hfin⟩:=HPO.o wt hBt w8 hw8
   have g1:=f1.1
   have g2:=f2.1
   have g2':=f2.2
   have g3:=f3.1
   have g4:=f4.1
   have g9:=f9.1
   have g9':=f9.2
   have HRUN:=aa hrun
   have HFIN:=aa hfin
   have hnb:w6.heap.size≠w2.heap.size:=by omega
   have v0:w8.cell? ⟨w6.heap.size,0,none⟩=some (.int .i64 ox):=by rw [hw8];exact bA k0.1 hnb
   have v1:w8.cell? ⟨w6.heap.size,1,none⟩=some (.int .u64 (hx_:Int)):=by rw [hw8];exact bA k1.1 hnb
   have v2:w8.cell? ⟨w6.heap.size,2,none⟩=some (.int .u64 (lx:Int)):=by rw [hw8];exact bA k2.1 hnb
   have v3:w8.cell? ⟨w6.heap.size,3,none⟩=some (.int .i64 rx):=by rw [hw8];exact bA k3.1 hnb
   have v4:w8.cell? ⟨w6.heap.size,4,none⟩=some (.int .i64 q):=by rw [hw8];exact bA k4.1 hnb
   clear hrun hfin f1 f2 f3 f4 f9 t0 t1 t2 t3 t4
   gi_upto_region 12 with fail
   rw [<-hw8]
   clear hw8
   gi_wp2_with (gi_at_builtin;refine de rfl _ _ 50 rfl _ _ rfl rfl _ w9 HRUN.o ?_)
   exact HFIN.o
 case done =>
  intro D W hD hI hK
  have hla:(dP true l n).attach.length=(G true l n).length:=by rw [List.length_attach];rfl
  obtain⟨hbox,hcc,hpp,hrow,hbel,hsz⟩:=hI
  rw [q8,hla] at hbox
  obtain⟨a,c,hl,hO⟩:=hbox
  have y7:=hl.1
  have HF:=aa (show Ow (W.putObj D (.deferred none)) w.heap.size 61 5 a (G true l n).length c (eF (kB X l mo (G true l n)).2)/\Below w.heap.size w (W.putObj D (.deferred none)) from ⟨(hO.put hK).mono (by omega),lj hbel (by omega) hK⟩)
  clear hbel hrow hpp hcc hl hO
  gi_wp2
  refine⟨by simp,.inl ⟨_,_,rfl,run_takeDeferred hK,?_⟩⟩
  refine⟨.slice a (G true l n).length c,?_,a,c,rfl,HF.o⟩
  simp [results,Tryz.f71,go_sem]
structure wm (w:World)(b o:Nat)(c:Cp):Prop where
 c0:w.cell? ⟨b,o,none⟩=some (.int .i64 c.1)
 c1:w.cell? ⟨b,o+1,none⟩=some (.int .u64 (c.2.1:Int))
 c2:w.cell? ⟨b,o+2,none⟩=some (.int .u64 (c.2.2:Int))
theorem wm.but {S:Nat->Prop}{o:Nat}{c:Cp}(hb:ae S w w')(h:wm w b o c)(hn:¬S b):wm w' b o c:=⟨aC hb h.c0 hn,aC hb h.c1 hn,aC hb h.c2 hn⟩
theorem wm.later {o:Nat}{c:Cp}(h:wm w b o c)(hb:Below w.heap.size w w'):wm w' b o c:=h.but (S:=λ_=>False) (ae.of hb) (λh=>h)
structure BV (w:World)(b o:Nat)(c:Tok):Prop where
 c0:w.cell? ⟨b,o,none⟩=some (.int .i64 c.1.1)
 c1:w.cell? ⟨b,o+1,none⟩=some (.int .u64 (c.1.2.1:Int))
 c2:w.cell? ⟨b,o+2,none⟩=some (.int .u64 (c.1.2.2:Int))
 c3:w.cell? ⟨b,o+3,none⟩=some (.int .i64 c.2.1)
 c4:w.cell? ⟨b,o+4,none⟩=some (.int .i64 c.2.2)
theorem BV.but {S:Nat->Prop}{o:Nat}{c:Tok}(hb:ae S w w')(h:BV w b o c)(hn:¬S b):BV w' b o c:=⟨aC hb h.c0 hn,aC hb h.c1 hn,aC hb h.c2 hn,aC hb h.c3 hn,aC hb h.c4 hn⟩
theorem BV.later {o:Nat}{c:Tok}(h:BV w b o c)(hb:Below w.heap.size w w'):BV w' b o c:=h.but (S:=λ_=>False) (ae.of hb) (λh=>h)
structure Rd (w:World)(a:Option Addr)(n:Nat)(K:List Cp):Prop where
 len:K.length=n
 at_:0<n->∃b o,a=some ⟨b,o,none⟩/\∀(i:Nat) (c:Cp),K[i]?=some c->wm w b (o+i*3) c
theorem Rd.but {S:Nat->Prop}{K:List Cp}(h:Rd w a n K)(hb:ae S w w')(hn:∀k,aD a k->¬S k):Rd w' a n K :=
 ⟨h.len,λh0=>by
  obtain⟨b,o,e,hc⟩:=h.at_ h0
  exact⟨b,o,e,λi c hi=>(hc i c hi).but hb (hn b ⟨_,e,rfl⟩)⟩⟩
theorem Rd.later {K:List Cp}(h:Rd w a n K)(hb:Below w.heap.size w w'):Rd w' a n K:=h.but (S:=λ_=>False) (ae.of hb) (λ_ _ h=>h)
theorem Ow.at_ {e:TypeId}{cap:Nat}{L:List Value}(h:Ow w base e k a n cap L)(hn:0<n):∃b,a=some ⟨b,0,none⟩/\∀j u,L[j]?=some u->w.cell? ⟨b,j,none⟩=some u:=by
 rcases h.2 with ⟨_,h1⟩|⟨g,c,cur,hv,_⟩
 ·omega
 ·simp only [Value.slice.injEq] at hv
  refine⟨g,hv.1,λj u hu=>?_⟩
  have h':=h
  rw [Ow,hv.1] at h'
  have:=World.ownsRow.cells (g:=g) h' rfl j u hu
  rwa [nj] at this
def rootOf (X:List Tk)(l:Fo)(o:Int):Option Int:=(ah l).find? (λn=>decide ((n,-1)∈l/\ob X n=o))
theorem gu {X:List Tk}{l:Fo}(h:Inv m X l){r:Int}(hr:(r,-1)∈l):rootOf X l (ob X r)=some r:=by
 unfold rootOf
 cases hf:(ah l).find? (λn=>decide ((n,-1)∈l/\ob X n=ob X r)) with
 | none=>have:=List.find?_eq_none.1 hf r (cE.2 ⟨_,hr⟩);simp [hr] at this
 | some k =>
  have h0:=List.find?_some hf
  simp only [decide_eq_true_eq] at h0
  rw [h.root k r h0.1 hr h0.2]
theorem qf {X:List Tk}{l:Fo}{o:Int}(h:∀r,(r,-1)∈l->ob X r≠o):rootOf X l o=none:=by
 unfold rootOf
 refine List.find?_eq_none.2 (λn _ hd=>?_)
 have:=of_decide_eq_true hd
 exact h n this.1 this.2
def pN (mo:Nat)(X:List Tk)(l:Fo)(o:Int):List Tok:=match rootOf X l o with
 | some r=>(kB X l mo (G true l r)).2
 | none=>[]
theorem DX {A:Ad}{mo:Nat}{T:List (Cp×Int)}{X:List Tk}{l:Fo}(h:Cm w A kn mo T X l)(o:Int)(hr:∀(W:World),Below w.heap.size w W->Calls prog 120 #[.pointer (some ⟨A.g,0,none⟩),.int .i64 o] W λe w'=>e=.returned (.tuple #[.int .i64 0,.bool false])/\Below W.heap.size W w') :
  Calls prog 71 #[.pointer (some ⟨A.g,0,none⟩),.int .i64 o] w λe w'=>e=.returned (.slice none 0 0)/\Below w.heap.size w w':=by
 obtain⟨w0,hw0⟩:∃w0,w0=w.alloc (Obj.cells #[.pointer (some ⟨A.g,0,none⟩)] 82):=⟨_,rfl⟩
 have hB0:Below w.heap.size w w0:=by rw [hw0];exact ab _ _
 have z0:w0.cell? ⟨w.heap.size,0,none⟩=some (.pointer (some ⟨A.g,0,none⟩)):=by rw [hw0];simp [go_sem]
 have hh:=aa (hr w0 hB0)
 have HB0:=aa hB0
 clear h hB0 hr
 go_enter func71,ntmps71
 go_upto_region 1 with fail
 rw [<-hw0]
 clear hw0
 go_wp2_with (first|(go_at_call 120;refine hh.out.mono ?_;rintro e w9 ⟨rfl,hb⟩;have HB:=aa (al HB0.o hb);clear hb))
 go_ret
 exact⟨rfl,HB.o⟩
theorem EM {A:Ad}{mo:Nat}{X:List Tk}{l:Fo}(h:ie w A kn mo X l)(o:Int) :
  Calls prog 71 #[.pointer (some ⟨A.g,0,none⟩),.int .i64 o] w λe w'=>∃a c,e=.returned (.slice a (pN mo X l o).length c)/\Ow w' w.heap.size 61 5 a (pN mo X l o).length c (eF (pN mo X l o))/\Below w.heap.size w w':=by
 have hcr:=λ(W:World) (hW:Below w.heap.size w W)=>jQ (h.cm.later hW) o
 by_cases hr:∃r,(r,-1)∈l/\ob X r=o
 ·obtain⟨r,h1,h2⟩:=hr
  have e1:pN mo X l o=(kB X l mo (G true l r)).2:=by unfold pN;rw [<-h2,gu h.inv h1]
  have e2:(pN mo X l o).length=(G true l r).length:=by rw [e1,e_]
  rw [e2,e1]
  refine Ir h.cm o (λW hW=>(hcr W hW).mono ?_)
  rintro e w' ⟨⟨s,h3,h4,he⟩|⟨h3,he⟩,hb⟩
  ·rw [h.inv.root r s h1 h3 (by rw [h2,h4])]
   exact⟨he,hb⟩
  ·exact absurd h2 (h3 r h1)
 ·have hn:∀r,(r,-1)∈l->ob X r≠o:=λr h1 h2=>hr ⟨r,h1,h2⟩
  have e1:pN mo X l o=[]:=by unfold pN;rw [qf hn]
  rw [e1]
  refine (DX h.cm o (λW hW=>(hcr W hW).mono ?_)).mono (λe w' he=>⟨none,0,he.1,Ow.nil _ _ _ _,he.2⟩)
  rintro e w' ⟨⟨s,h3,h4,he⟩|⟨h3,he⟩,hb⟩
  ·exact absurd h4 (hn s h3)
  ·exact⟨he,hb⟩
theorem qM {X:List Tk}{l:Fo}(h:Ok m l){r:Int}(hr:(r,-1)∈l):∀i,i<=(G true l r).length ->
  (∀(j:Nat) (x:Int),j<i->(G true l r)[j]?=some x->(kB X l m ((G true l r).take i)).1[x.toNat]?=some (j:Int)) /\
  (∀(j:Nat) (x:Int),j<i->(G true l r)[j]?=some x->∃q:Int,(kB X l m ((G true l r).take i)).2[j]?=some ((tk X x).1,rg X x,q)/\((j=0/\q=-1/\par l x=-1)\/(0<j/\∃p:Nat,p<j/\q=(p:Int)/\(G true l r)[p]?=some (par l x)))):=by
 have hnd:=fG h true r
 have hnn:∀x∈G true l r,0<=x/\x<(m:Int):=λx hx=>h.range x (dK h hx)
 intro i
 induction i with
 | zero=>exact λ_=>⟨λj x hj=>by omega,λj x hj=>by omega⟩
 | succ i ih =>
  intro hi
  obtain⟨ih1,ih2⟩:=ih (by omega)
  have hs:(G true l r).take (i+1)=(G true l r).take i++[(G true l r)[i]]:=dj _ i (by omega)
  obtain⟨y,hy⟩:∃y,y=(G true l r)[i]:=⟨_,rfl⟩
  have hyi:(G true l r)[i]?=some y:=by rw [hy];exact gE (by omega)
  have hym:y∈G true l r:=List.mem_of_getElem? hyi
  rw [hs,<-hy,gj]
  have hl1:=rT X l m ((G true l r).take i)
  have hl2:=e_ X l m ((G true l r).take i)
  rw [List.length_take_of_le (by omega)] at hl2
  refine⟨λj x hj hx=>?_,λj x hj hx=>?_⟩
  ·show ((kB X l m ((G true l r).take i)).1.set y.toNat _)[x.toNat]?=_
   by_cases e:j=i
   ·subst e
    rw [hyi] at hx
    cases hx
    have:=hnn y hym
    rw [hl2,List.getElem?_set_self (by omega)]
   ·have hxm:=List.mem_of_getElem? hx
    have hne:y.toNat≠x.toNat:=λe2=>by
     have h1:=hnn y hym
     have h2:=hnn x hxm
     have e3:y=x:=by omega
     rw [e3] at hyi
     exact e (gl hnd hx hyi)
    rw [List.getElem?_set_ne hne]
    exact ih1 j x (by omega) hx
  ·show ∃q:Int,((kB X l m ((G true l r).take i)).2++[_])[j]?=_/\_
   by_cases e:j=i
   ·subst e
    rw [hyi] at hx
    cases hx
    refine⟨_,by rw [List.getElem?_append_right (by omega),hl2,Nat.sub_self];rfl,?_⟩
    by_cases h0:j=0
    ·subst h0
     have hG:=kD h (e:=true) (cE.2 ⟨_,hr⟩)
     have:y=r:=by rw [hG] at hyi;simpa using hyi.symm
     subst this
     have hp:=fu h hr
     exact .inl ⟨rfl,by rw [if_pos hp],hp⟩
    ·have hb:=Aq h (by omega) hyi
     obtain⟨p,hp⟩:=List.getElem?_of_mem hb
     have hpl:p<j:=by
      have:=(gS.1 hp).1
      rw [List.length_take] at this
      omega
     rw [List.getElem?_take_of_lt hpl] at hp
     have hpn:=hnn _ (List.mem_of_getElem? hp)
     refine .inr ⟨by omega,p,hpl,?_,hp⟩
     rw [if_neg (by omega),ih1 p _ hpl hp]
     rfl
   ·obtain⟨q,h1,h2⟩:=ih2 j x (by omega) hx
    exact⟨q,by rw [List.getElem?_append_left (by omega)];exact h1,h2⟩
structure St where
 X:List Tk
 l:Fo
def vu (w:World)(b o:Nat)(c:Tok):World :=
 ((((w.setCell ⟨b,o,none⟩ (.int .i64 c.1.1)).setCell ⟨b,o+1,none⟩ (.int .u64 (c.1.2.1:Int))).setCell ⟨b,o+2,none⟩ (.int .u64 (c.1.2.2:Int))).setCell ⟨b,o+3,none⟩ (.int .i64 c.2.1)).setCell ⟨b,o+4,none⟩ (.int .i64 c.2.2)
theorem BV.set {w:World}{b o:Nat}{y:Tok}(h:BV w b o y)(x:Tok):BV (vu w b o x) b o x:=by
 unfold vu
 refine⟨?_,?_,?_,?_,?_⟩
 ·exact ag (ag (ag (ag (World.cell?_setCell_same _ _ _ h.c0) (by omega)) (by omega)) (by omega)) (by omega)
 ·exact ag (ag (ag (World.cell?_setCell_same _ _ _ (ag h.c1 (by omega))) (by omega)) (by omega)) (by omega)
 ·exact ag (ag (World.cell?_setCell_same _ _ _ (ag (ag h.c2 (by omega)) (by omega))) (by omega)) (by omega)
 ·exact ag (World.cell?_setCell_same _ _ _ (ag (ag (ag h.c3 (by omega)) (by omega)) (by omega))) (by omega)
 ·exact World.cell?_setCell_same _ _ _ (ag (ag (ag (ag h.c4 (by omega)) (by omega)) (by omega)) (by omega))
theorem Ow.form {e:TypeId}{cap:Nat}{L:List Value}(h:Ow w base e k a n cap L):(a=none/\n=0/\cap=0)\/∃g,a=some ⟨g,0,none⟩/\(∀j,w.frozen? ⟨g,j,none⟩=false)/\n<=cap:=by
 rcases h.2 with ⟨h1,h2⟩|⟨g,c,cur,hv,_,hh,hc,_⟩
 ·simp only [Value.slice.injEq] at h1
  exact .inl ⟨h1.1,h2,h1.2.2⟩
 ·simp only [Value.slice.injEq] at hv
  obtain⟨rfl,_,rfl⟩:=hv
  exact .inr ⟨g,rfl,λj=>by simp [World.frozen?,hh],hc⟩
theorem Ow.Jt {e:TypeId}{cap:Nat}{L:List Value}(h:Ow w base e k (some ⟨g,0,none⟩) n cap L)(j:Nat)(u:Value):Ow (w.setCell ⟨g,j,none⟩ u) base e k (some ⟨g,0,none⟩) n cap (L.set j u):=(World.ownsRow.stored h j u).1
def Rv (w:World)(a:Option Addr)(L:List Value):Prop:=∀g,a=some ⟨g,0,none⟩->∀j u,L[j]?=some u->w.cell? ⟨g,j,none⟩=some u
theorem Ow.rv {e:TypeId}{cap:Nat}{L:List Value}(h:Ow w base e k a n cap L):Rv w a L:=λg e j u hu=>by
 by_cases hn:0<n
 ·obtain⟨b,hb,hc⟩:=h.at_ hn
  rw [hb] at e
  cases e
  exact hc j u hu
 ·have hl:=h.1
  have h0:n=0:=by omega
  rw [h0,Nat.zero_mul] at hl
  rw [List.eq_nil_of_length_eq_zero hl] at hu
  cases hu
end Go.Proofs.YtfmhdimaijimlaaGreatDoor
