import Derived.Maps.RangeWalk
import Derived.Sort.KeysCollected
import Derived.Test.YtffmodpgddecnaaGreatDoorZ07
set_option linter.unusedVariables false
set_option linter.unusedSimpArgs false
set_option maxRecDepth 100000
set_option maxHeartbeats 4000000
namespace Go.Proofs.YtffmodpgddecnaaGreatDoor
open Go.RowKit Go.Shelf H
attribute [local go_sem] Oper.semAt_some
def Ht (X:List Tk)(l:Fo)(s:List Int×List Tok)(x:Int):List Int×List Tok :=
 (s.1.set x.toNat (s.2.length:Int),s.2++[((tk X x).1,rg X x,if par l x=-1 then -1 else (s.1[(par l x).toNat]?).getD 0)])
def kv (X:List Tk)(l:Fo)(mo:Nat)(A:List Int):List Int×List Tok:=A.foldl (Ht X l) (List.replicate mo 0,[])
theorem gP (X:List Tk)(l:Fo)(mo:Nat)(A:List Int)(a:Int):kv X l mo (A++[a])=Ht X l (kv X l mo A) a:=by unfold kv;rw [List.foldl_append];rfl
theorem rk (X:List Tk)(l:Fo)(mo:Nat):∀A,(kv X l mo A).1.length=mo :=
 ji (P:=λA=>(kv X l mo A).1.length=mo) (by simp [kv]) (λA a ih=>by rw [gP];simp [Ht,ih])
theorem eV (X:List Tk)(l:Fo)(mo:Nat):∀A,(kv X l mo A).2.length=A.length :=
 ji (P:=λA=>(kv X l mo A).2.length=A.length) (by simp [kv]) (λA a ih=>by rw [gP];simp [Ht,ih])
theorem wU (w:World)(n:Nat)(hn:n<=1024) :
  ∃w',(Instr.makeSlice 42 (.int .i64 (n:Int)) (.int .i64 (n:Int))).run Tryz.prog w=.ok (.slice (some ⟨w.heap.size,0,none⟩) n n) w'/\Own w' w.heap.size 3 (some ⟨w.heap.size,0,none⟩) n n (ints (List.replicate n 0))/\Below w.heap.size w w':=by
 obtain⟨i,hi,hz0,hz1,hz2⟩:=info_parts qR
 obtain⟨w',hr,ho,hg⟩:=run_make_full (P:=Tryz.prog) w w.heap.size 42 3 i _ 1 Tryz.underlying42 hi hz0 hz1 .i64 .i64 n (by rw [hz2];omega) (by unfold maxLen;omega) (Nat.le_refl _)
 refine⟨w',hr,⟨?_,ep _⟩,(Below.refl _ _).grown hg (Nat.le_refl _) (λk hk=>by cases hk)⟩
 have e:ints (List.replicate n 0)=(madeCells (Value.int .i64 0).cells (n*1)).toList:=by
  apply List.ext_getElem?
  intro j;rw [Array.getElem?_toList];simp only [madeCells,Value.cells,ints,Nat.mul_one];by_cases hj:j<n
  ·simp [hj,Nat.mod_one]
  ·simp [hj]
 rw [e];exact ho
theorem Dz (t e:TypeId)(z:Value)(k aB:Nat)(ht:Tryz.prog.underlying t=some (.slice e))(hinf:(Tryz.prog.info? e).map (λi=>(i.zero,i.size,i.bytes))=some (some z,k,aB))(hzs:z.cells.size=k)(hk:0<k)(hby:0<aB)(hby2:aB<=1024)
  {B:Nat} {W:World} {n:Nat} {L:List Value} {a:Option Addr} {c:Nat} (hl:az W ⟨B,0,none⟩ (.slice a n c)) {C:Nat} (hBC:B<C) (hCW:C<=W.heap.size) (hO:Ow W C e k a n c L) (M:List Value) (hM:M.length=k) (hM1:∀u∈M,u.oneCell'=true) (hn:n<=2048) :
  ∃a' c' w3,(Builtin.append_ #[t,t] t #[.slice a n c,.slice (some ⟨W.heap.size,0,none⟩) 1 1]).run Tryz.prog (W.alloc (Obj.cells M.toArray e))=.ok (.slice a' (n+1) c') w3 /\
   az w3 ⟨B,0,none⟩ (.slice a n c)/\∀w4,w4=w3.setCell ⟨B,0,none⟩ (.slice a' (n+1) c')->w4.cell? ⟨B,0,none⟩=some (.slice a' (n+1) c')/\(az w4 ⟨B,0,none⟩ (.slice a' (n+1) c')/\Ow w4 C e k a' (n+1) c' (L++M))/\ah (cF B W) W w4/\(∀j,cF B w4 j->cF B W j\/W.heap.size<=j)/\(∀j,cF B W j->(j=B\/C<=j)/\∃cs t z,W.heap[j]?=some (.cells cs t z)):=by
 have hBl:B<W.heap.size:=World.block_lt_of_cell? _ _ hl.1
 have hcr:=Cr.lit W e M hM1
 rw [hM] at hcr;obtain⟨a',c',w3,hrun,hO3,hG0⟩:=er t e z k aB ht hinf hzs hk hby (hO.later (ae W (Obj.cells M.toArray e))) hcr (by simp;omega) (by
  have:(n+1)*aB<=2049*1024:=Nat.mul_le_mul (by omega) hby2
  omega)
 have hG:=hG0.pre (ae W (Obj.cells M.toArray e))
 have hO3:Ow w3 C e k a' (n+1) c' (L++M):=hO3
 have hl3:az w3 ⟨B,0,none⟩ (.slice a n c):=hl.but hG.but (λhb=>by have:=(hO.bT B hb).1;omega)
 have hfp:∀j,cF B W j->j=B\/aJ a j:=λj hj=>by
  rcases hj with rfl|⟨a2,n2,c2,h2,hj⟩
  ·exact .inl rfl
  ·rw [hl.1] at h2
   cases h2
   exact .inr hj
 refine⟨a',c',w3,hrun,hl3,?_⟩
 rintro w4 rfl
 have hb4:ah (cF B W) W (w3.setCell ⟨B,0,none⟩ (.slice a' (n+1) c')) :=
  (hG.but.mono (λj hj=>.inr ⟨a,_,c,hl.1,hj⟩)).setCell (p:=⟨B,0,none⟩) (.inl rfl) _
 have hl4:=hl3.put (u:=.slice a' (n+1) c')
 have hO4:Ow (w3.setCell ⟨B,0,none⟩ (.slice a' (n+1) c')) C e k a' (n+1) c' (L++M) :=
  hO3.but (S:=(·=B)) ((ah.refl (·=B) _).setCell (p:=⟨B,0,none⟩) (show B=B from rfl) _) (λj hj e=>by have:=(hO3.bT j hj).1;omega)
 refine⟨hl4.1,⟨hl4,hO4⟩,hb4,λj hj=>?_,λj hj=>?_⟩
 ·rcases hj with rfl|⟨a2,n2,c2,h2,hj⟩
  ·exact .inl (.inl rfl)
  ·rw [hl4.1] at h2
   cases h2
   rcases hG.on j hj with h3|h3
   ·exact .inl (.inr ⟨a,_,c,hl.1,h3⟩)
   ·exact .inr h3
 ·rcases hfp j hj with rfl|h3
  ·refine⟨.inl rfl,?_⟩
   have:=hl.1
   unfold World.cell? at this
   cases ho:W.heap[j]? with
   | none=>rw [ho] at this;cases this
   | some o =>
    rw [ho] at this;cases o with
    | cells cs t z=>exact⟨cs,t,z,rfl⟩
    | _=>simp at this
  ·exact⟨.inr (hO.bT j h3).1,hO.cells h3⟩
structure JZ (w:World)(A:Ad)(mo:Nat)(X:List Tk)(l:Fo)(C B0 B7 B8 pb:Nat)(n:Int)(pre:List (Mem l n))(W:World):Prop where
 box:∃a c,az W ⟨B7,0,none⟩ (.slice a pre.length c)/\Ow W C 74 5 a pre.length c (dJ (kv X l mo (bY pre)).2)
 c:az W ⟨B0,0,none⟩ (.pointer (some ⟨A.g,0,none⟩))
 p:az W ⟨B8,0,none⟩ (.slice (some ⟨pb,0,none⟩) mo mo)
 row:Own W pb 3 (some ⟨pb,0,none⟩) mo mo (ints (kv X l mo (bY pre)).1)
 EI:Below w.heap.size w W
 sz:C<=W.heap.size
def AD (B7 pb:Nat)(W:World)(k:Nat):Prop:=k=pb\/cF B7 W k
theorem Own.Gy {C:Nat}{e:TypeId}{base:Nat}{a:Option Addr}{n cap:Nat}{L:List Value}{W W':World}{row:Option Nat}(h:Own W base e a n cap L)(hg:W.grownBy W' row)(hr:∀r,row=some r->C<=r/\∃o,W.heap[r]?=some o/\o.isCells=false):Own W' base e a n cap L :=
 h.but (bI hg) (λj hj e=>by
  obtain⟨_,o,ho,hc⟩:=hr j e
  obtain⟨cs,t,z,hh⟩:=eW h hj
  rw [ho] at hh;cases hh
  cases hc)
theorem yn {w:World}{A:Ad}{mo:Nat}{X:List Tk}{l:Fo}{B0 B7 B8 pb:Nat}{n:Int}{C:Nat}(hw:w.heap.size<=C)(h0:B0<C)(h8:B8<C)(h7:B7<C):OwnFrom C (JZ w A mo X l C B0 B7 B8 pb n):=λs W W' row hs hg hr =>
 ⟨by
  obtain⟨a,c,hl,hO⟩:=hs.box
  exact⟨a,c,hl.but (bI hg) (λe=>by have:=(hr _ e).1;simp at this;omega),hO.but (bI hg) (λj hj e=>by
   obtain⟨_,o,ho,hc⟩:=hr j e
   obtain⟨cs,t,z,hh⟩:=hO.cells hj
   rw [ho] at hh;cases hh
   cases hc)⟩,hs.c.but (bI hg) (λe=>by have:=(hr _ e).1;simp at this;omega),hs.p.but (bI hg) (λe=>by have:=(hr _ e).1;simp at this;omega),hs.row.Gy hg hr,ah.below hs.EI (bI hg) (λk e=>by have:=(hr _ e).1;omega),Nat.le_trans hs.sz hg.size⟩
theorem Jk {n:Int}{w:World}{A:Ad}{kn mo:Nat}{T:List (Cp×Int)}{X:List Tk}{l:Fo}(h:Cm w A kn mo T X l)(o:Int)(hr:∀(W:World),Below w.heap.size w W->Calls Tryz.prog 195 #[.pointer (some ⟨A.g,0,none⟩),.int .i64 o] W λe w'=>e=.returned (.tuple #[.int .i64 n,.bool true])/\Below W.heap.size W w') :
  Calls Tryz.prog 113 #[.pointer (some ⟨A.g,0,none⟩),.int .i64 o] w λe w'=>∃a c,e=.returned (.slice a (G true l n).length c)/\Ow w' w.heap.size 74 5 a (G true l n).length c (dJ (kv X l mo (G true l n)).2)/\Below w.heap.size w w':=by
 have mM:=h.small
 have hok:=ab h.nY.ok
 have hGl:=l9 hok.out true n
 have HH:=ab h
 have hAll:=ab h.lt
 obtain⟨w0,hw0⟩:∃w0,w0=w.alloc (Obj.cells #[.pointer (some ⟨A.g,0,none⟩)] 94):=⟨_,rfl⟩
 have hB0:Below w.heap.size w w0:=by rw [hw0];exact ae _ _
 have hL0:az w0 ⟨w.heap.size,0,none⟩ (.pointer (some ⟨A.g,0,none⟩)):=by rw [hw0];exact aH _ _ _
 have z0:=hL0.1
 have hlt0:w.heap.size<w0.heap.size:=by rw [hw0];simp
 have hrt:=ab (hr w0 hB0)
 have hdn:=ab (λW (hW:Below w.heap.size w W)=>qt (h.later hW) n)
 clear h hr;refine (callsIn_wide (n:=3)).1 ?_
 refine callsIn_of_wp_marks Tryz.func113 rfl trivial ?_ rfl
 simp only [Tryz.ntmps113,List.size_toArray,List.length_cons,List.length_nil,Nat.reduceAdd,Nat.reduceSub,Array.replicate_succ,Array.replicate_zero,List.push_toArray,List.append_toArray,List.nil_append,List.cons_append];gi_upto_region 1 with fail
 rw [<-hw0];clear hw0;gi_upto_region 4 with (first|(refine⟨trivial,?_⟩;gi_at_call 195;refine (callsIn_wide.2 hrt.out).mono ?_;rintro e w1 ⟨rfl,hb1⟩;have PC:=ab hb1;clear hb1))
 obtain⟨w2,hw2⟩:∃w2,w2=w1.alloc (Obj.cells #[.slice none 0 0] 49):=⟨_,rfl⟩
 have hB2:Below w1.heap.size w1 w2:=by rw [hw2];exact ae _ _
 have hL7:az w2 ⟨w1.heap.size,0,none⟩ (.slice none 0 0):=by rw [hw2];exact aH _ _ _
 have hB02:=aa PC.out hB2
 have hL02:=hL0.later hB02
 have zz2:=hL02.1
 have x12:=(HH.out.later (aa hB0 hB02)).c1
 gi_upto_region 5 with fail
 rw [<-hw2];clear hw2;obtain⟨w3,hr3,hO3,hB3⟩:=wU w2 mo (by omega)
 obtain⟨w4,hw4⟩:∃w4,w4=w3.alloc (Obj.cells #[.slice (some ⟨w2.heap.size,0,none⟩) mo mo] 42):=⟨_,rfl⟩
 have hB4:Below w3.heap.size w3 w4:=by rw [hw4];exact ae _ _
 have hL8:az w4 ⟨w3.heap.size,0,none⟩ (.slice (some ⟨w2.heap.size,0,none⟩) mo mo):=by rw [hw4];exact aH _ _ _
 have hB24:=aa hB3 hB4
 have zz4:=(hL02.later hB24).1
 gi_upto_region 6 with fail
 rw [<-hw4];clear hw4 zz2 x12 hr3;have hBw4:=aa (aa hB0 hB02) hB24
 have HD:=ab (hdn.out w4 hBw4)
 gi_wp2_with (refine⟨trivial,?_⟩;gi_at_call 196;refine (callsIn_wide.2 HD.out).mono ?_;rintro e w5 ⟨b0,rfl,hS,hB⟩;have HS:=ab hS;have PI:=ab hB;clear hS hB)
 have l7:w1.heap.size<w2.heap.size:=World.block_lt_of_cell? _ _ hL7.1
 have lp:w2.heap.size<w3.heap.size:=hO3.lt _ ⟨_,rfl,rfl⟩
 have l8:w3.heap.size<w4.heap.size:=World.block_lt_of_cell? _ _ hL8.1
 have l5:=PI.out.size
 have l01:=PC.out.size
 have hBw5:=aa hBw4 PI.out
 have hB25:=aa hB24 PI.out
 have hM5:=HH.out.later hBw5
 have hL05:=hL02.later hB25
 have hL75:=hL7.later hB25
 have hL85:=hL8.later PI.out
 have hO5:=(hO3.later hB4).later PI.out
 have hrng:Hid (∀x∈G true l n,x∈aj l/\0<=x/\x<(mo:Int)):=λx hx=>by
  have h1:=dp hok.out hx
  have:=hok.out.range x h1
  exact⟨h1,this.1,this.2⟩
 refine nQ 9 (by omega) rfl HS.out hM5.nY (AD w1.heap.size w2.heap.size) (λW hW k hk=>?_) (λW L o o' hL hLo ho k hk=>hk.imp id (λhk=>nk (C:=w5.heap.size) (by omega) W L o o' hL hLo ho k hk))
  (JZ w A mo X l w5.heap.size w.heap.size w1.heap.size w3.heap.size w2.heap.size n) (yn hBw5.size (by omega) (by omega) (by omega)) ⟨⟨none,0,hL75,Ow.nil _ _ _ _⟩,hL05,hL85,hO5,hBw5,Nat.le_refl _⟩ ?assign ?body ?done
 ·rcases hk with hk|hk
  ·omega
  ·exact kp hL75.1 W hW k hk
 case assign =>
  intro L x W K hK;gi_wp2
  exact hK
 case body =>
  rintro L pre x W hI hlt
  simp only [zI,List.setIfInBounds_toArray,List.set];obtain⟨x,hx⟩:=x
  obtain⟨hxl,hx0,hxm⟩:=hrng.out x hx
  obtain⟨k,rfl⟩:∃k:Nat,x=(k:Int):=⟨x.toNat,by omega⟩
  have hkm:k<mo:=by omega
  obtain⟨p,hp⟩:=av.1 hxl
  have hpar:=fB hok.out hp
  obtain⟨a,c,hl,hO⟩:=hI.box
  have hpl:pre.length<=2048:=by unfold dO at hlt;omega
  have hpl2:pre.length<512:=by unfold dO at hlt;omega
  have hat:=ab (lF (HH.out.later hI.EI) (k:Int) p hp)
  obtain⟨q,hq⟩:∃q,q=(if p=-1 then -1 else ((kv X l mo (bY pre)).1[p.toNat]?).getD 0:Int):=⟨_,rfl⟩
  have hWs:=hI.sz
  have hPl:(kv X l mo (bY pre)).1.length=mo:=rk X l mo _
  have hOl:(kv X l mo (bY pre)).2.length=pre.length:=by rw [eV,zM]
  obtain⟨u,hu⟩:=get_some (L:=(kv X l mo (bY pre)).1) (i:=k) (by omega)
  have P8:Hid (∀Wt,Below W.heap.size W Wt->∀w8,w8=Wt.setCell ⟨w2.heap.size,k,none⟩ (.int .i64 (pre.length:Int))->az Wt ⟨w3.heap.size,0,none⟩ (.slice (some ⟨w2.heap.size,0,none⟩) mo mo)/\az Wt ⟨w2.heap.size,k,none⟩ (.int .i64 u)/\az Wt ⟨w1.heap.size,0,none⟩ (.slice a pre.length c)/\az w8 ⟨w1.heap.size,0,none⟩ (.slice a pre.length c) /\
    ∃a' c' w9,(Builtin.append_ #[49,49] 49 #[.slice a pre.length c,.slice (some ⟨w8.heap.size,0,none⟩) 1 1]).run Tryz.prog (w8.alloc (Obj.cells #[.int .i64 (tk X (k:Int)).1.1,.int .u64 ((tk X (k:Int)).1.2.1:Int),.int .u64 ((tk X (k:Int)).1.2.2:Int),.int .i64 (rg X (k:Int)),.int .i64 q] 74))=.ok (.slice a' (pre.length+1) c') w9/\az w9 ⟨w1.heap.size,0,none⟩ (.slice a pre.length c) /\
     (KeepsFrom w5.heap.size W (w9.setCell ⟨w1.heap.size,0,none⟩ (.slice a' (pre.length+1) c'))/\Kq (AD w1.heap.size w2.heap.size) W (w9.setCell ⟨w1.heap.size,0,none⟩ (.slice a' (pre.length+1) c'))/\JZ w A mo X l w5.heap.size w.heap.size w1.heap.size w3.heap.size w2.heap.size n (pre++[⟨(k:Int),hx⟩]) (w9.setCell ⟨w1.heap.size,0,none⟩ (.slice a' (pre.length+1) c')))):=by
   intro Wt hbt w8 hw8;have hO0:=hI.row
   have hOt:=hO0.later hbt
   have hb8:ah (·=w2.heap.size) Wt w8:=by rw [hw8];exact (ah.refl (·=w2.heap.size) Wt).setCell (p:=⟨w2.heap.size,k,none⟩) rfl _
   have hBW:ah (·=w2.heap.size) W w8:=(ah.of hbt).trans hb8
   have hl8:=hl.but hBW (by show ¬w1.heap.size=w2.heap.size;omega)
   have hpb:¬aJ a w2.heap.size:=λhb=>by have:=(hO.bT _ hb).1;omega
   have hO8:=hO.but hBW (λj hj e=>hpb (e ▸ hj))
   obtain⟨_,e1,hL1⟩:=hOt.rI rfl (j:=k) (u:=.int .i64 u) (by rw [ints,List.getElem?_map,hu];rfl)
   cases e1
   obtain⟨a',c',w9,hrun,hl9,hr9⟩:=Dz 49 74 _ 5 40 Tryz.underlying49 zL rfl (by omega) (by omega) (by omega) hl8 (C:=w5.heap.size) (by omega) (Nat.le_trans hWs hBW.size) hO8 (fj ((tk X (k:Int)).1,rg X (k:Int),q)) rfl (yp _) hpl
   obtain⟨hc4,hbx4,hb4,hf4,hg4⟩:=hr9 _ rfl
   have hfpW:∀j,cF w1.heap.size w8 j->cF w1.heap.size W j:=λj hj=>by
    rcases hj with rfl|⟨a2,n2,c2,h2,hj⟩
    ·exact .inl rfl
    ·rw [hl8.1] at h2
     cases h2
     exact .inr ⟨a,_,c,hl.1,hj⟩
   have hn2:¬cF w1.heap.size w8 w2.heap.size:=λhf=>by
    rcases hf with hf|⟨a2,n2,c2,h2,hj⟩
    ·omega
    ·rw [hl8.1] at h2
     cases h2
     exact hpb hj
   have hbw4:ah (AD w1.heap.size w2.heap.size W) W (w9.setCell ⟨w1.heap.size,0,none⟩ (.slice a' (pre.length+1) c')) :=
    (hBW.mono (λj hj=>.inl hj)).trans (hb4.mono (λj hj=>.inr (hfpW j hj)))
   have hcl:∀j,AD w1.heap.size w2.heap.size W j->∃cs t z,W.heap[j]?=some (.cells cs t z):=λj hj=>by
    rcases hj with rfl|rfl|⟨a2,n2,c2,h2,hj⟩
    ·exact eW hO0 ⟨_,rfl,rfl⟩
    ·have h3:=hl.1
     unfold World.cell? at h3
     cases ho:W.heap[w1.heap.size]? with
     | none=>rw [ho] at h3;cases h3
     | some o =>
      rw [ho] at h3;cases o with
      | cells cs t z=>exact⟨cs,t,z,rfl⟩
      | _=>simp at h3
    ·rw [hl.1] at h2
     cases h2
     exact hO.cells hj
   have hge:∀j,AD w1.heap.size w2.heap.size W j->w1.heap.size<=j:=λj hj=>by
    rcases hj with rfl|rfl|⟨a2,n2,c2,h2,hj⟩
    ·omega
    ·exact Nat.le_refl _
    ·rw [hl.1] at h2
     cases h2
     have:=(hO.bT j hj).1
     omega
   refine⟨hI.p.later hbt,hL1,hl.later hbt,hl8,a',c',w9,hrun,hl9,nC hbw4 (λj o hj ho _ hs=>?_),yb hbw4 (λj hj=>hj) (λj hj=>?_),⟨?_,?_,?_,?_,?_,Nat.le_trans hWs hbw4.size⟩⟩
   ·obtain⟨cs,t,z,hh⟩:=hcl j hs
    rw [hj] at hh;cases hh
    cases ho
   ·rcases hj with hj|hj
    ·exact .inl (.inl hj)
    ·rcases hf4 j hj with h5|h5
     ·exact .inl (.inr (hfpW j h5))
     ·exact .inr (Nat.le_trans hBW.size h5)
   ·rw [ib,gP,List.length_append]
    unfold Ht;simp only
    rw [j1,hpar,<-hq];exact⟨a',c',hbx4.1,hbx4.2⟩
   ·exact hI.c.but hbw4 (λe=>by have:=hge _ e;simp at this;omega)
   ·refine hI.p.but hbw4 (λe=>?_)
    rcases e with e|e|⟨a2,n2,c2,h2,hj⟩
    ·simp at e;omega
    ·simp at e;omega
    ·rw [hl.1] at h2
     cases h2
     have:=(hO.bT _ hj).1
     simp at this
     omega
   ·rw [ib,gP]
    unfold Ht;simp only
    rw [hOl];have e1:((k:Int)).toNat=k:=by simp
    rw [e1];have h8:Own w8 w2.heap.size 3 (some ⟨w2.heap.size,0,none⟩) mo mo (ints ((kv X l mo (bY pre)).1.set k (pre.length:Int))):=by rw [hw8];exact hOt.set
    exact h8.but hb4 (λj hj e=>hn2 (by obtain⟨x1,e2,e3⟩:=hj;cases e2;rw [<-e3] at e;exact e))
   ·exact ah.below hI.EI hbw4 (λj hj=>by have:=hge j hj;omega)
  have y2:=hI.c.1
  obtain⟨⟨ox,hx_,lx⟩,rx0,hxx⟩:∃c r,tk X (k:Int)=(c,r):=⟨_,_,rfl⟩
  obtain⟨rx,hrx⟩:∃r,r=rg X (k:Int):=⟨_,rfl⟩
  have hprow:Hid (∀Wt,Below W.heap.size W Wt->∀pk:Nat,p=(pk:Int)->az Wt ⟨w2.heap.size,pk,none⟩ (.int .i64 q)/\az Wt ⟨w3.heap.size,0,none⟩ (.slice (some ⟨w2.heap.size,0,none⟩) mo mo)):=λWt hbt pk e=>by
   subst e;have hpn:((pk:Nat):Int)∈aj l:=(hok.out.up hp).resolve_left (by omega)
   have hpr:=hok.out.range _ hpn
   obtain⟨u2,hu2⟩:=get_some (L:=(kv X l mo (bY pre)).1) (i:=pk) (by omega)
   have hq2:q=u2:=by rw [hq,if_neg (by omega)];simp [hu2]
   obtain⟨_,e1,hL1⟩:=(hI.row.later hbt).rI rfl (j:=pk) (u:=.int .i64 u2) (by rw [ints,List.getElem?_map,hu2];rfl)
   cases e1
   rw [hq2];exact⟨hL1,hI.p.later hbt⟩
  rw [hxx,<-hrx] at P8 hat;have hpm:p=-1\/∃pk:Nat,p=(pk:Int)/\pk<mo:=by
   rcases hok.out.up hp with h1|h1
   ·exact .inl h1
   ·have:=hok.out.range _ h1
    exact .inr ⟨p.toNat,by omega,by omega⟩
  clear hI hl hO hxl hu hp hpar hxx hrx;simp only at P8 hat;rcases hpm with rfl|⟨pk,rfl,hpk⟩
  ·have hq1:q=-1:=by rw [hq,if_pos rfl]
   subst hq1;clear hq;gi_upto_region 9 with (first|(refine⟨trivial,?_⟩;gi_at_call 197;refine (CallsIn.inRound L (callsIn_wide.2 hat.out)).mono ?_;rintro e w6 ⟨rfl,hb6⟩;have P7:=ab hb6;clear hb6))
   obtain⟨w7,hw7⟩:∃w7,w7=w6.alloc (Obj.cells #[.int .i64 ox,.int .u64 (hx_:Int),.int .u64 (lx:Int),.int .i64 rx,.int .i64 (-1)] 74):=⟨_,rfl⟩
   have hB7:Below W.heap.size W w7:=aa P7.out (by rw [hw7];exact ae _ _)
   have t0:az w7 ⟨w6.heap.size,0,none⟩ (.int .i64 ox):=by rw [hw7];exact⟨by simp [go_sem],by simp [go_sem]⟩
   have t1:az w7 ⟨w6.heap.size,1,none⟩ (.int .u64 (hx_:Int)):=by rw [hw7];exact⟨by simp [go_sem],by simp [go_sem]⟩
   have t2:az w7 ⟨w6.heap.size,2,none⟩ (.int .u64 (lx:Int)):=by rw [hw7];exact⟨by simp [go_sem],by simp [go_sem]⟩
   have t3:az w7 ⟨w6.heap.size,3,none⟩ (.int .i64 rx):=by rw [hw7];exact⟨by simp [go_sem],by simp [go_sem]⟩
   have t4:az w7 ⟨w6.heap.size,4,none⟩ (.int .i64 (-1)):=by rw [hw7];exact⟨by simp [go_sem],by simp [go_sem]⟩
   have hs6:W.heap.size<=w6.heap.size:=P7.out.size
   have u4:=t4.1
   rw [<-hw7];clear hw7;obtain⟨w8,hw8⟩:∃w8,w8=w7.setCell ⟨w2.heap.size,k,none⟩ (.int .i64 (pre.length:Int)):=⟨_,rfl⟩
   obtain⟨f1,f2,f3,f4,a',c',w9,hrun,f9,hfin⟩:=P8.out w7 hB7 w8 hw8
   have g1:=f1.1
   have g2:=f2.1
   have g2':=f2.2
   have g3:=f3.1
   have g4:=f4.1
   have g9:=f9.1
   have g9':=f9.2
   have PD:=ab hrun
   have PX:=ab hfin
   have hnb:w6.heap.size≠w2.heap.size:=by omega
   have v0:w8.cell? ⟨w6.heap.size,0,none⟩=some (.int .i64 ox):=by rw [hw8];exact bO t0.1 hnb
   have v1:w8.cell? ⟨w6.heap.size,1,none⟩=some (.int .u64 (hx_:Int)):=by rw [hw8];exact bO t1.1 hnb
   have v2:w8.cell? ⟨w6.heap.size,2,none⟩=some (.int .u64 (lx:Int)):=by rw [hw8];exact bO t2.1 hnb
   have v3:w8.cell? ⟨w6.heap.size,3,none⟩=some (.int .i64 rx):=by rw [hw8];exact bO t3.1 hnb
   have v4:w8.cell? ⟨w6.heap.size,4,none⟩=some (.int .i64 (-1)):=by rw [hw8];exact bO t4.1 hnb
   clear hrun hfin f1 f2 f3 f4 f9 t0 t1 t2 t3 t4;gi_upto_region 12 with fail
   rw [<-hw8];clear hw8;gi_wp2_with (gi_at_builtin;refine dj rfl _ _ 49 rfl _ _ rfl rfl _ w9 PD.out ?_)
   exact PX.out
  ·have hbn:(((pk:Nat):Int)==(-1:Int))=false:=by simp
   clear hq;gi_upto_region 9 with (first|(refine⟨trivial,?_⟩;gi_at_call 197;refine (CallsIn.inRound L (callsIn_wide.2 hat.out)).mono ?_;rintro e w6 ⟨rfl,hb6⟩;have P7:=ab hb6;clear hb6))
   obtain⟨w7,hw7⟩:∃w7,w7=w6.alloc (Obj.cells #[.int .i64 ox,.int .u64 (hx_:Int),.int .u64 (lx:Int),.int .i64 rx,.int .i64 (pk:Int)] 74):=⟨_,rfl⟩
   have hB7:Below W.heap.size W w7:=aa P7.out (by rw [hw7];exact ae _ _)
   have t0:az w7 ⟨w6.heap.size,0,none⟩ (.int .i64 ox):=by rw [hw7];exact⟨by simp [go_sem],by simp [go_sem]⟩
   have t1:az w7 ⟨w6.heap.size,1,none⟩ (.int .u64 (hx_:Int)):=by rw [hw7];exact⟨by simp [go_sem],by simp [go_sem]⟩
   have t2:az w7 ⟨w6.heap.size,2,none⟩ (.int .u64 (lx:Int)):=by rw [hw7];exact⟨by simp [go_sem],by simp [go_sem]⟩
   have t3:az w7 ⟨w6.heap.size,3,none⟩ (.int .i64 rx):=by rw [hw7];exact⟨by simp [go_sem],by simp [go_sem]⟩
   have t4:az w7 ⟨w6.heap.size,4,none⟩ (.int .i64 (pk:Int)):=by rw [hw7];exact⟨by simp [go_sem],by simp [go_sem]⟩
   have hs6:W.heap.size<=w6.heap.size:=P7.out.size
   have u4:=t4.1
   rw [<-hw7];clear hw7;obtain⟨⟨s1,s1'⟩,s2,s2'⟩:=hprow.out w7 hB7 pk rfl
   gi_upto_region 10 with fail
   obtain⟨wt,hwt⟩:∃wt,wt=w7.setCell ⟨w6.heap.size,4,none⟩ (.int .i64 q):=⟨_,rfl⟩
   have hBt:Below W.heap.size W wt:=by rw [hwt];exact hB7.setCell (p:=⟨w6.heap.size,4,none⟩) hs6 _
   have k0:az wt ⟨w6.heap.size,0,none⟩ (.int .i64 ox):=by rw [hwt];exact t0.other (by simp)
   have k1:az wt ⟨w6.heap.size,1,none⟩ (.int .u64 (hx_:Int)):=by rw [hwt];exact t1.other (by simp)
   have k2:az wt ⟨w6.heap.size,2,none⟩ (.int .u64 (lx:Int)):=by rw [hwt];exact t2.other (by simp)
   have k3:az wt ⟨w6.heap.size,3,none⟩ (.int .i64 rx):=by rw [hwt];exact t3.other (by simp)
   have k4:az wt ⟨w6.heap.size,4,none⟩ (.int .i64 q):=by rw [hwt];exact t4.put
   have u4':=t4.2
   gi_upto_region 11 with fail
   rw [<-hwt];clear hwt u4 u4' s1 s1' s2 s2';obtain⟨w8,hw8⟩:∃w8,w8=wt.setCell ⟨w2.heap.size,k,none⟩ (.int .i64 (pre.length:Int)):=⟨_,rfl⟩
   obtain⟨f1,f2,f3,f4,a',c',w9,hrun,f9,hfin⟩:=P8.out wt hBt w8 hw8
   have g1:=f1.1
   have g2:=f2.1
   have g2':=f2.2
   have g3:=f3.1
   have g4:=f4.1
   have g9:=f9.1
   have g9':=f9.2
   have PD:=ab hrun
   have PX:=ab hfin
   have hnb:w6.heap.size≠w2.heap.size:=by omega
   have v0:w8.cell? ⟨w6.heap.size,0,none⟩=some (.int .i64 ox):=by rw [hw8];exact bO k0.1 hnb
   have v1:w8.cell? ⟨w6.heap.size,1,none⟩=some (.int .u64 (hx_:Int)):=by rw [hw8];exact bO k1.1 hnb
   have v2:w8.cell? ⟨w6.heap.size,2,none⟩=some (.int .u64 (lx:Int)):=by rw [hw8];exact bO k2.1 hnb
   have v3:w8.cell? ⟨w6.heap.size,3,none⟩=some (.int .i64 rx):=by rw [hw8];exact bO k3.1 hnb
   have v4:w8.cell? ⟨w6.heap.size,4,none⟩=some (.int .i64 q):=by rw [hw8];exact bO k4.1 hnb
   clear hrun hfin f1 f2 f3 f4 f9 t0 t1 t2 t3 t4;gi_upto_region 12 with fail
   rw [<-hw8];clear hw8;gi_wp2_with (gi_at_builtin;refine dj rfl _ _ 49 rfl _ _ rfl rfl _ w9 PD.out ?_)
   exact PX.out
 case done =>
  intro D W hD hI hK;have hla:(dO true l n).attach.length=(G true l n).length:=by rw [List.length_attach];rfl
  obtain⟨hbox,hcc,hpp,hrow,hbel,hsz⟩:=hI
  rw [pP,hla] at hbox;obtain⟨a,c,hl,hO⟩:=hbox
  have y7:=hl.1
  have HF:=ab (show Ow (W.putObj D (.deferred none)) w.heap.size 74 5 a (G true l n).length c (dJ (kv X l mo (G true l n)).2)/\Below w.heap.size w (W.putObj D (.deferred none)) from ⟨(hO.put hK).mono (by omega),mD hbel (by omega) hK⟩)
  clear hbel hrow hpp hcc hl hO;gi_wp2
  refine⟨by simp,.inl ⟨_,_,rfl,run_takeDeferred hK,?_⟩⟩
  refine⟨.slice a (G true l n).length c,?_,a,c,rfl,HF.out⟩
  simp [results,Tryz.f113,go_sem]
structure wL (w:World)(b o:Nat)(c:Cp):Prop where
 c0:w.cell? ⟨b,o,none⟩=some (.int .i64 c.1)
 c1:w.cell? ⟨b,o+1,none⟩=some (.int .u64 (c.2.1:Int))
 c2:w.cell? ⟨b,o+2,none⟩=some (.int .u64 (c.2.2:Int))
theorem wL.but {S:Nat->Prop}{w w':World}{b o:Nat}{c:Cp}(hb:ah S w w')(h:wL w b o c)(hn:¬S b):wL w' b o c:=⟨ag hb h.c0 hn,ag hb h.c1 hn,ag hb h.c2 hn⟩
theorem wL.later {w w':World}{b o:Nat}{c:Cp}(h:wL w b o c)(hb:Below w.heap.size w w'):wL w' b o c:=h.but (S:=λ_=>False) (ah.of hb) (λh=>h)
structure BL (w:World)(b o:Nat)(c:Tok):Prop where
 c0:w.cell? ⟨b,o,none⟩=some (.int .i64 c.1.1)
 c1:w.cell? ⟨b,o+1,none⟩=some (.int .u64 (c.1.2.1:Int))
 c2:w.cell? ⟨b,o+2,none⟩=some (.int .u64 (c.1.2.2:Int))
 c3:w.cell? ⟨b,o+3,none⟩=some (.int .i64 c.2.1)
 c4:w.cell? ⟨b,o+4,none⟩=some (.int .i64 c.2.2)
theorem BL.but {S:Nat->Prop}{w w':World}{b o:Nat}{c:Tok}(hb:ah S w w')(h:BL w b o c)(hn:¬S b):BL w' b o c:=⟨ag hb h.c0 hn,ag hb h.c1 hn,ag hb h.c2 hn,ag hb h.c3 hn,ag hb h.c4 hn⟩
theorem BL.later {w w':World}{b o:Nat}{c:Tok}(h:BL w b o c)(hb:Below w.heap.size w w'):BL w' b o c:=h.but (S:=λ_=>False) (ah.of hb) (λh=>h)
structure Rd (w:World)(a:Option Addr)(n:Nat)(K:List Cp):Prop where
 len:K.length=n
 at_:0<n->∃b o,a=some ⟨b,o,none⟩/\∀(i:Nat) (c:Cp),K[i]?=some c->wL w b (o+i*3) c
theorem Rd.but {S:Nat->Prop}{w w':World}{a:Option Addr}{n:Nat}{K:List Cp}(h:Rd w a n K)(hb:ah S w w')(hn:∀k,aJ a k->¬S k):Rd w' a n K :=
 ⟨h.len,λh0=>by
  obtain⟨b,o,e,hc⟩:=h.at_ h0
  exact⟨b,o,e,λi c hi=>(hc i c hi).but hb (hn b ⟨_,e,rfl⟩)⟩⟩
theorem Rd.later {w w':World}{a:Option Addr}{n:Nat}{K:List Cp}(h:Rd w a n K)(hb:Below w.heap.size w w'):Rd w' a n K:=h.but (S:=λ_=>False) (ah.of hb) (λ_ _ h=>h)
theorem Ow.at_ {w:World}{base:Nat}{e:TypeId}{k:Nat}{a:Option Addr}{n cap:Nat}{L:List Value}(h:Ow w base e k a n cap L)(hn:0<n):∃b,a=some ⟨b,0,none⟩/\∀j u,L[j]?=some u->w.cell? ⟨b,j,none⟩=some u:=by
 rcases h.2 with ⟨_,h1⟩|⟨g,c,cur,hv,_⟩
 ·omega
 ·simp only [Value.slice.injEq] at hv
  refine⟨g,hv.1,λj u hu=>?_⟩
  have h':=h
  rw [Ow,hv.1] at h';have:=World.ownsRow.cells (g:=g) h' rfl j u hu
  rwa [aQ] at this
def rootOf (X:List Tk)(l:Fo)(o:Int):Option Int:=(aj l).find? (λn=>decide ((n,-1)∈l/\ob X n=o))
theorem fY {m:Nat}{X:List Tk}{l:Fo}(h:Inv m X l){r:Int}(hr:(r,-1)∈l):rootOf X l (ob X r)=some r:=by
 unfold rootOf;cases hf:(aj l).find? (λn=>decide ((n,-1)∈l/\ob X n=ob X r)) with
 | none=>have:=List.find?_eq_none.1 hf r (av.2 ⟨_,hr⟩);simp [hr] at this
 | some k =>
  have h0:=List.find?_some hf
  simp only [decide_eq_true_eq] at h0;rw [h.root k r h0.1 hr h0.2]
theorem qT {X:List Tk}{l:Fo}{o:Int}(h:∀r,(r,-1)∈l->ob X r≠o):rootOf X l o=none:=by
 unfold rootOf;refine List.find?_eq_none.2 (λn _ hd=>?_)
 have:=of_decide_eq_true hd
 exact h n this.1 this.2
def ov (mo:Nat)(X:List Tk)(l:Fo)(o:Int):List Tok:=match rootOf X l o with
 | some r=>(kv X l mo (G true l r)).2
 | none=>[]
theorem De {w:World}{A:Ad}{kn mo:Nat}{T:List (Cp×Int)}{X:List Tk}{l:Fo}(h:Cm w A kn mo T X l)(o:Int)(hr:∀(W:World),Below w.heap.size w W->Calls Tryz.prog 195 #[.pointer (some ⟨A.g,0,none⟩),.int .i64 o] W λe w'=>e=.returned (.tuple #[.int .i64 0,.bool false])/\Below W.heap.size W w') :
  Calls Tryz.prog 113 #[.pointer (some ⟨A.g,0,none⟩),.int .i64 o] w λe w'=>e=.returned (.slice none 0 0)/\Below w.heap.size w w':=by
 obtain⟨w0,hw0⟩:∃w0,w0=w.alloc (Obj.cells #[.pointer (some ⟨A.g,0,none⟩)] 94):=⟨_,rfl⟩
 have hB0:Below w.heap.size w w0:=by rw [hw0];exact ae _ _
 have z0:w0.cell? ⟨w.heap.size,0,none⟩=some (.pointer (some ⟨A.g,0,none⟩)):=by rw [hw0];simp [go_sem]
 have hh:=ab (hr w0 hB0)
 have PL:=ab hB0
 clear h hB0 hr;go_enter Tryz.func113,Tryz.ntmps113
 go_upto_region 1 with fail
 rw [<-hw0];clear hw0;go_wp2_with (first|(go_at_call 195;refine hh.out.mono ?_;rintro e w9 ⟨rfl,hb⟩;have HB:=ab (aa PL.out hb);clear hb))
 go_ret;exact⟨rfl,HB.out⟩
theorem DL {w:World}{A:Ad}{kn mo:Nat}{X:List Tk}{l:Fo}(h:ie w A kn mo X l)(o:Int) :
  Calls Tryz.prog 113 #[.pointer (some ⟨A.g,0,none⟩),.int .i64 o] w λe w'=>∃a c,e=.returned (.slice a (ov mo X l o).length c)/\Ow w' w.heap.size 74 5 a (ov mo X l o).length c (dJ (ov mo X l o))/\Below w.heap.size w w':=by
 have hcr:=λ(W:World) (hW:Below w.heap.size w W)=>j3 (h.cm.later hW) o
 by_cases hr:∃r,(r,-1)∈l/\ob X r=o
 ·obtain⟨r,h1,h2⟩:=hr
  have e1:ov mo X l o=(kv X l mo (G true l r)).2:=by unfold ov;rw [<-h2,fY h.inv h1]
  have e2:(ov mo X l o).length=(G true l r).length:=by rw [e1,eV]
  rw [e2,e1];refine Jk h.cm o (λW hW=>(hcr W hW).mono ?_)
  rintro e w' ⟨⟨s,h3,h4,he⟩|⟨h3,he⟩,hb⟩
  ·rw [h.inv.root r s h1 h3 (by rw [h2,h4])]
   exact⟨he,hb⟩
  ·exact absurd h2 (h3 r h1)
 ·have hn:∀r,(r,-1)∈l->ob X r≠o:=λr h1 h2=>hr ⟨r,h1,h2⟩
  have e1:ov mo X l o=[]:=by unfold ov;rw [qT hn]
  rw [e1];refine (De h.cm o (λW hW=>(hcr W hW).mono ?_)).mono (λe w' he=>⟨none,0,he.1,Ow.nil _ _ _ _,he.2⟩)
  rintro e w' ⟨⟨s,h3,h4,he⟩|⟨h3,he⟩,hb⟩
  ·exact absurd h4 (hn s h3)
  ·exact⟨he,hb⟩
theorem qJ {m:Nat}{X:List Tk}{l:Fo}(h:Ok m l){r:Int}(hr:(r,-1)∈l):∀i,i<=(G true l r).length ->
  (∀(j:Nat) (x:Int),j<i->(G true l r)[j]?=some x->(kv X l m ((G true l r).take i)).1[x.toNat]?=some (j:Int)) /\
  (∀(j:Nat) (x:Int),j<i->(G true l r)[j]?=some x->∃q:Int,(kv X l m ((G true l r).take i)).2[j]?=some ((tk X x).1,rg X x,q)/\((j=0/\q=-1/\par l x=-1)\/(0<j/\∃p:Nat,p<j/\q=(p:Int)/\(G true l r)[p]?=some (par l x)))):=by
 have hnd:=fG h true r
 have hnn:∀x∈G true l r,0<=x/\x<(m:Int):=λx hx=>h.range x (dp h hx)
 intro i;induction i with
 | zero=>exact λ_=>⟨λj x hj=>by omega,λj x hj=>by omega⟩
 | succ i ih =>
  intro hi;obtain⟨ih1,ih2⟩:=ih (by omega)
  have hs:(G true l r).take (i+1)=(G true l r).take i++[(G true l r)[i]]:=dq _ i (by omega)
  obtain⟨y,hy⟩:∃y,y=(G true l r)[i]:=⟨_,rfl⟩
  have hyi:(G true l r)[i]?=some y:=by rw [hy];exact List.getElem?_eq_getElem (by omega)
  have hym:y∈G true l r:=List.mem_of_getElem? hyi
  rw [hs,<-hy,gP];have hl1:=rk X l m ((G true l r).take i)
  have hl2:=eV X l m ((G true l r).take i)
  rw [List.length_take_of_le (by omega)] at hl2;refine⟨λj x hj hx=>?_,λj x hj hx=>?_⟩
  ·show ((kv X l m ((G true l r).take i)).1.set y.toNat _)[x.toNat]?=_
   by_cases e:j=i
   ·subst e
    rw [hyi] at hx;cases hx
    have:=hnn y hym
    rw [hl2,List.getElem?_set_self (by omega)]
   ·have hxm:=List.mem_of_getElem? hx
    have hne:y.toNat≠x.toNat:=λe2=>by
     have h1:=hnn y hym
     have h2:=hnn x hxm
     have e3:y=x:=by omega
     rw [e3] at hyi;exact e (gi hnd hx hyi)
    rw [List.getElem?_set_ne hne];exact ih1 j x (by omega) hx
  ·show ∃q:Int,((kv X l m ((G true l r).take i)).2++[_])[j]?=_/\_
   by_cases e:j=i
   ·subst e
    rw [hyi] at hx;cases hx
    refine⟨_,by rw [List.getElem?_append_right (by omega),hl2,Nat.sub_self];rfl,?_⟩
    by_cases h0:j=0
    ·subst h0
     have hG:=kt h (e:=true) (av.2 ⟨_,hr⟩)
     have:y=r:=by rw [hG] at hyi;simpa using hyi.symm
     subst this;have hp:=fB h hr
     exact .inl ⟨rfl,by rw [if_pos hp],hp⟩
    ·have hb:=BA h (by omega) hyi
     obtain⟨p,hp⟩:=List.getElem?_of_mem hb
     have hpl:p<j:=by
      have:=(List.getElem?_eq_some_iff.1 hp).1
      rw [List.length_take] at this;omega
     rw [List.getElem?_take_of_lt hpl] at hp;have hpn:=hnn _ (List.mem_of_getElem? hp)
     refine .inr ⟨by omega,p,hpl,?_,hp⟩
     rw [if_neg (by omega),ih1 p _ hpl hp];rfl
   ·obtain⟨q,h1,h2⟩:=ih2 j x (by omega) hx
    exact⟨q,by rw [List.getElem?_append_left (by omega)];exact h1,h2⟩
def uX (w:World)(b o:Nat)(c:Tok):World :=
 ((((w.setCell ⟨b,o,none⟩ (.int .i64 c.1.1)).setCell ⟨b,o+1,none⟩ (.int .u64 (c.1.2.1:Int))).setCell ⟨b,o+2,none⟩ (.int .u64 (c.1.2.2:Int))).setCell ⟨b,o+3,none⟩ (.int .i64 c.2.1)).setCell ⟨b,o+4,none⟩ (.int .i64 c.2.2)
theorem BL.set {w:World}{b o:Nat}{y:Tok}(h:BL w b o y)(x:Tok):BL (uX w b o x) b o x:=by
 unfold uX;refine⟨?_,?_,?_,?_,?_⟩
 ·exact ak (ak (ak (ak (World.cell?_setCell_same _ _ _ h.c0) (by omega)) (by omega)) (by omega)) (by omega)
 ·exact ak (ak (ak (World.cell?_setCell_same _ _ _ (ak h.c1 (by omega))) (by omega)) (by omega)) (by omega)
 ·exact ak (ak (World.cell?_setCell_same _ _ _ (ak (ak h.c2 (by omega)) (by omega))) (by omega)) (by omega)
 ·exact ak (World.cell?_setCell_same _ _ _ (ak (ak (ak h.c3 (by omega)) (by omega)) (by omega))) (by omega)
 ·exact World.cell?_setCell_same _ _ _ (ak (ak (ak (ak h.c4 (by omega)) (by omega)) (by omega)) (by omega))
end Go.Proofs.YtffmodpgddecnaaGreatDoor
namespace Go.Proofs.YtffmodpgddecnaaGreatDoor.Q
open Go.RowKit Go.Maps
theorem rD:∀{l m:List Int},l.Nodup->(∀x∈l,x∈m)->l.length<=m.length
 | [],_,_,_=>Nat.zero_le _
 | x::l,m,hn,hs=>by
  obtain⟨h1,h2⟩:=List.nodup_cons.1 hn
  have h3:=rD (m:=m.erase x) h2 (λy hy=>(List.mem_erase_of_ne (λ(e:y=x)=>h1 (e ▸ hy))).2 (hs y (by simp [hy])))
  have hx:=hs x (by simp)
  rw [List.length_erase_of_mem hx] at h3;have:=List.length_pos_of_mem hx
  simp
  omega
def ij (L zs:List Int):Nat:=(zs.map λx=>L.count x).sum
theorem n_ (L:List Int)(x:Int)(zs:List Int):ij L (x::zs)=L.count x+ij L zs:=by simp [ij]
theorem xu (L zs:List Int)(x:Int):ij L (zs++[x])=ij L zs+L.count x:=by simp [ij]
theorem p9 (L:List Int)(x:Int)(zs:List Int)(h:x∉zs):ij (L.filter (λy=>y != x)) zs=ij L zs:=by
 unfold ij;congr 1
 apply List.map_congr_left
 intro y hy;exact List.count_filter (by simp;exact λe=>h (e ▸ hy))
theorem lA (L:List Int)(x:Int):L.length=L.count x+(L.filter (λy=>y != x)).length:=by
 induction L with
 | nil=>rfl
 | cons a L ih =>
  by_cases h:a=x
  ·subst h;simp;omega
  ·simp [h];omega
theorem oP:∀{zs L:List Int},zs.Nodup->ij L zs<=L.length
 | [],L,_=>by simp [ij]
 | x::zs,L,hn=>by
  obtain⟨h1,h2⟩:=List.nodup_cons.1 hn
  have h3:=oP (L:=L.filter (λy=>y != x)) h2
  rw [p9 L x zs h1] at h3;rw [n_,lA L x];omega
theorem qp:∀{zs L:List Int},zs.Nodup->(∀x∈L,x∈zs)->ij L zs=L.length
 | [],L,_,h=>by
  cases L with
  | nil=>rfl
  | cons a L=>exact absurd (h a (by simp)) (by simp)
 | x::zs,L,hn,h=>by
  obtain⟨h1,h2⟩:=List.nodup_cons.1 hn
  have h3:=qp (L:=L.filter (λy=>y != x)) h2 (λy hy=>by
   simp at hy
   have:=h y hy.1
   simp at this
   rcases this with e|e
   ·exact absurd e hy.2
   ·exact e)
  rw [p9 L x zs h1] at h3;rw [n_,lA L x,h3]
def fS (x:Int):Nat->List Int->List Int
 | _,[]=>[]
 | 0,y::l=>y::l
 | n+1,y::l=>if y=x then fS x n l else y::fS x (n+1) l
theorem ee:∀(x:Int) (n:Nat) (l:List Int),(fS x n l).count x=l.count x - n
 | x,n,[]=>by cases n<;>simp [fS]
 | x,0,y::l=>by simp [fS]
 | x,n+1,y::l=>by
  unfold fS;split
  ·rename_i h
   subst h;rw [ee];simp
  ·rename_i h
   rw [List.count_cons_of_ne h,List.count_cons_of_ne h,ee]
theorem dZ:∀(x:Int) (n:Nat) (l:List Int) (y:Int),y≠x->(fS x n l).count y=l.count y
 | x,n,[],y,h=>by cases n<;>simp [fS]
 | x,0,z::l,y,h=>by simp [fS]
 | x,n+1,z::l,y,h=>by
  unfold fS;split
  ·rename_i e
   subst e;rw [dZ _ n l y h,List.count_cons_of_ne (λe=>h e.symm)]
  ·rw [List.count_cons,List.count_cons,dZ x (n+1) l y h]
theorem jx:∀(x:Int) (n:Nat) (l:List Int),n<=l.count x->(fS x n l).length+n=l.length
 | x,n,[],h=>by simp at h;subst h;rfl
 | x,0,y::l,h=>by simp [fS]
 | x,n+1,y::l,h=>by
  unfold fS;split
  ·rename_i e
   subst e;simp at h
   have:=jx y n l h
   simp
   omega
  ·rename_i e
   rw [List.count_cons_of_ne e] at h;have:=jx x (n+1) l h
   simp
   omega
def may (e a:Int)(L:List Int)(x:Int):Int:=if e<=(L.count x:Int) then 9 else if a<=(L.length:Int) then 10 else 0
def oF (e a:Int)(L:List Int)(x:Int):List Int:=if may e a L x=0 then L++[x] else L
def rL (L:List Int)(x n:Int):Int:=if n<0\/(L.count x:Int)<n then 20 else 0
def jc (L:List Int)(x n:Int):List Int:=if n<0\/(L.count x:Int)<n then L else fS x n.toNat L
structure Sz (e a:Int)(L:List Int):Prop where
 e1:1<=e
 e2:e<=256
 a1:1<=a
 a2:a<=256
 len:(L.length:Int)<=a
 mO:∀x,(L.count x:Int)<=e
theorem mq {e a:Int}{L:List Int}{x:Int}(h:may e a L x=0):(L.count x:Int)<e/\(L.length:Int)<a:=by
 unfold may at h;split at h
 ·cases h
 ·split at h
  ·cases h
  ·omega
theorem Sz.add {e a:Int}{L:List Int}(h:Sz e a L)(x:Int):Sz e a (oF e a L x):=by
 unfold oF;split
 ·rename_i hm
  obtain⟨h1,h2⟩:=mq hm
  refine⟨h.e1,h.e2,h.a1,h.a2,by simp;omega,λy=>?_⟩
  by_cases e:y=x
  ·subst e;simp;omega
  ·have:=h.mO y
   have e2:(L++[x]).count y=L.count y:=by simp [List.count_append,Ne.symm e]
   rw [e2];exact this
 ·exact h
theorem Sz.sub {e a:Int}{L:List Int}(h:Sz e a L)(x n:Int):Sz e a (jc L x n):=by
 unfold jc;split
 ·exact h
 ·rename_i hn
  have hl:=jx x n.toNat L (by omega)
  refine⟨h.e1,h.e2,h.a1,h.a2,by have:=h.len;omega,λy=>?_⟩
  by_cases e:y=x
  ·subst e;rw [ee];have:=h.mO y;omega
  ·rw [dZ _ _ _ _ e];exact h.mO y
theorem law:Keyed Tryz.prog 3:=int_keyed Tryz.underlying3
theorem EY (w:World):(zeroValue 3).run Tryz.prog w=.ok (.int .i64 0) w:=by kernel_rfl
abbrev ky (x:Int):Lit:=.int .i64 x
abbrev nu (x:Int):DataW Unit:=.lit (.int .i64 x)
theorem uT {x y:Int}(h:x≠y):ky x≠ky y:=λe=>h (by simpa [ky] using e)
theorem AW {x:Int}(h:(Lit.int .i64 x).wf=true):WideAt.IsKeyLit (ky x):=law.key (keyOf_int_mk Tryz.underlying3 h)
structure Cn (D:DataW Unit)(L:List Int):Prop where
 at_:∀x,D.atKey (ky x) (nu 0)=nu (L.count x:Int)
 has:∀x,Maps.has D (ky x)=decide (x∈L)
 map:IsMap D
theorem Cn.start:Cn (.map []) []:=⟨λx=>rfl,λx=>by simp [Maps.has],isMap_empty⟩
theorem Cn.put {D:DataW Unit}{L M:List Int}(h:Cn D L){x c:Int}(hx:(Lit.int .i64 x).wf=true)(ho:∀y,y≠x->M.count y=L.count y)(hc:(M.count x:Int)=c)(h0:0<c):Cn (D.put (ky x) (nu c)) M:=by
 refine⟨λy=>?_,λy=>?_,h.map.put _ _⟩
 ·by_cases e:y=x
  ·subst e;rw [atKey_put_same h.map (AW hx),hc]
  ·rw [atKey_put_other (uT e),h.at_ y,ho y e]
 ·by_cases e:y=x
  ·subst e
   rw [has_put_same h.map (AW hx)];exact (decide_eq_true (List.count_pos_iff.1 (by omega))).symm
  ·rw [has_put_other (uT e),h.has y]
   have h1:=ho y e
   congr 1
   rw [<-List.count_pos_iff,<-List.count_pos_iff,h1]
theorem Cn.del {D:DataW Unit}{L M:List Int}(h:Cn D L){x:Int}(ho:∀y,y≠x->M.count y=L.count y)(hc:M.count x=0):Cn (D.del (ky x)) M:=by
 refine⟨λy=>?_,λy=>?_,h.map.del _⟩
 ·by_cases e:y=x
  ·subst e;rw [atKey_del_same,hc];rfl
  ·rw [atKey_del_other (uT e),h.at_ y,ho y e]
 ·by_cases e:y=x
  ·subst e
   rw [has_del_same];exact (decide_eq_false (λhm=>by have:=List.count_pos_iff.2 hm;omega)).symm
  ·rw [has_del_other (uT e),h.has y]
   have h1:=ho y e
   congr 1
   rw [<-List.count_pos_iff,<-List.count_pos_iff,h1]
def Gp:Lit->Int
 | .int _ x=>x
 | _=>0
abbrev owns (w:World)(b n:Nat)(D:DataW Unit):Prop:=w.ownsMap Tryz.prog 3 (plainElem Tryz.prog 3) b n D
theorem C4 {w:World}{b n:Nat}{D:DataW Unit}{L:List Int}(h:owns w b n D)(hc:Cn D L):Maps.size D<=L.length:=by
 obtain⟨es,hD,hpw,_⟩:=h.entries law
 obtain⟨es',hD',hko⟩:=h.keysOf
 obtain rfl:es=es':=by rw [hD] at hD';simpa using hD'
 subst hD;have hk:∀p∈es,∃x,p.1=ky x:=λp hp=>by
  obtain⟨v,hv⟩:=hko p hp
  obtain⟨x,_,hx,_⟩:=Maps.keyOf_int_inv Tryz.underlying3 hv
  exact⟨x,hx⟩
 have h1:(es.map λp=>Gp p.1).Nodup:=List.pairwise_map.2 (hpw.imp_of_mem λ{p q} hp hq hne e=>hne (by
  obtain⟨a,ha⟩:=hk p hp
  obtain⟨b,hb⟩:=hk q hq
  rw [ha,hb] at e ⊢
  exact congrArg _ e))
 have h2:=rD (m:=L) h1 (λx hx=>by
  obtain⟨p,hp,rfl⟩:=List.mem_map.1 hx
  obtain⟨a,ha⟩:=hk p hp
  rw [ha];have h3:=hc.has a
  have h4:Maps.has (DataW.map es) (ky a)=true:=by
   rw [has_eq,List.any_eq_true];exact⟨p,hp,by rw [ha];simp [Lit.sameKey]⟩
  rw [h4] at h3;exact of_decide_eq_true h3.symm)
 rw [List.length_map] at h2;exact h2
theorem tight {w:World}{b n:Nat}{D:DataW Unit}{L:List Int}(h:owns w b n D)(hc:Cn D L):owns w b L.length D:=by
 have hs:=C4 h hc
 obtain⟨es,clock,hb,F,_,rfl⟩:=h
 refine⟨es,clock,hb,F,?_,rfl⟩
 simpa [Maps.size,length_sorted] using hs
def Mp (w:World)(b:Nat)(L:List Int):Prop:=∃D,owns w b L.length D/\Cn D L
theorem bC {S:Nat->Prop}{w w':World}{b n:Nat}{D:DataW Unit}(hb:ah S w w')(h:owns w b n D)(hn:¬S b):owns w' b n D:=by
 have hlt:=h.lt
 obtain⟨es,clock,hh,r⟩:=h
 exact⟨es,clock,(hb.block b hlt hn).trans hh,r⟩
theorem Mp.but {S:Nat->Prop}{w w':World}{b:Nat}{L:List Int}(h:Mp w b L)(hb:ah S w w')(hn:¬S b):Mp w' b L:=by
 obtain⟨D,h1,h2⟩:=h
 exact⟨D,bC hb h1 hn,h2⟩
theorem Mp.lt {w:World}{b:Nat}{L:List Int}(h:Mp w b L):b<w.heap.size:=by
 obtain⟨D,h1,_⟩:=h
 exact h1.lt
structure Qu (w:World)(g b:Nat)(e a:Int)(L:List Int):Prop where
 c0:w.cell? ⟨g,0,none⟩=some (.int .i64 e)
 c1:w.cell? ⟨g,1,none⟩=some (.int .i64 a)
 c2:w.cell? ⟨g,2,none⟩=some (.map (some b))
 mp:Mp w b L
 sz:Sz e a L
theorem Qu.but {S:Nat->Prop}{w w':World}{g b:Nat}{e a:Int}{L:List Int}(h:Qu w g b e a L)(hb:ah S w w')(hg:¬S g)(hn:¬S b):Qu w' g b e a L :=
 ⟨ag hb h.c0 hg,ag hb h.c1 hg,ag hb h.c2 hg,h.mp.but hb hn,h.sz⟩
theorem Qu.later {w w':World}{g b:Nat}{e a:Int}{L:List Int}(h:Qu w g b e a L)(hb:Below w.heap.size w w'):Qu w' g b e a L:=h.but (S:=λ_=>False) (ah.of hb) (λh=>h) (λh=>h)
theorem Qu.gb {w:World}{g b:Nat}{e a:Int}{L:List Int}(h:Qu w g b e a L):g≠b:=λeq=>by
 obtain⟨D,⟨es,clock,hh,_⟩,_⟩:=h.mp
 have:=h.c0
 rw [eq] at this;simp [World.cell?,hh] at this
theorem Qu.B9 {w:World}{g b:Nat}{e a:Int}{L:List Int}(h:Qu w g b e a L):g<w.heap.size:=World.block_lt_of_cell? _ _ h.c0
theorem Qu.blt {w:World}{g b:Nat}{e a:Int}{L:List Int}(h:Qu w g b e a L):b<w.heap.size:=h.mp.lt
theorem Qu.turn {w w':World}{g b:Nat}{e a:Int}{L M:List Int}{n:Nat}{D:DataW Unit}(h:Qu w g b e a L)(hg:w.grownBy w' (some b))(ho:owns w' b n D)(hc:Cn D M)(hs:Sz e a M):Qu w' g b e a M/\ah (λk=>k=b) w w':=by
 have hB:ah (λk=>k=b) w w':=⟨hg.os,hg.tape,hg.output,hg.size,λk hk hn=>hg.block k hk (λe=>hn (by simpa using e))⟩
 exact⟨⟨ag hB h.c0 h.gb,ag hB h.c1 h.gb,ag hB h.c2 h.gb,⟨D,tight ho hc,hc⟩,hs⟩,hB⟩
def oO (D:DataW Unit)(left:Lit->Bool)(zs:List Int):Prop:=zs.Nodup/\∀x,x∈zs↔(Maps.has D (ky x)=true/\left (ky x)=false)
theorem oO.start (D:DataW Unit):oO D (Maps.has D) []:=⟨List.nodup_nil,λx=>by cases Maps.has D (ky x)<;>simp⟩
theorem oO.step {D:DataW Unit}{left:Lit->Bool}{zs:List Int}(h:oO D left zs){x:Int}{y:DataW Unit}(hlk:left (ky x)=true)(hat:∀zd,D.atKey (ky x) zd=y):oO D (λz=>left z&&!z.sameKey (ky x)) (zs++[x]):=by
 have hhas:Maps.has D (ky x)=true:=has_true_of_atKey hat
 have hnew:x∉zs:=λhx=>by have:=((h.2 x).1 hx).2;rw [hlk] at this;cases this
 refine⟨List.nodup_append.2 ⟨h.1,by simp,λa ha b hb=>by simp at hb;subst hb;exact λe=>hnew (e ▸ ha)⟩,λy=>?_⟩
 by_cases hy:y=x
 ·subst hy;simp [hhas,Lit.sameKey]
 ·simp [h.2 y,hy,Lit.sameKey]
theorem oO.all {D:DataW Unit}{left:Lit->Bool}{zs L:List Int}(h:oO D left zs)(hc:Cn D L)(hl:∀kl,left kl=false)(x:Int):x∈zs↔x∈L:=by
 rw [h.2 x,hc.has x,hl];simp
theorem zO {x:Int}(h1:-9223372036854775808<=x)(h2:x<=9223372036854775807):(Lit.int .i64 x).wf=true:=WalkArith.wf_i64 (by omega)
theorem uc {x y:Int}(h:nu x=nu y):x=y:=by simpa [nu] using h
theorem AL {w:World}{g b:Nat}{e a:Int}{L:List Int}(h:Qu w g b e a L)(x:Int)(hx:(Lit.int .i64 x).wf=true) :
  Calls Tryz.prog 336 #[.pointer (some ⟨g,0,none⟩),.int .i64 x] w λr w'=>r=.returned (.int .i64 (L.count x:Int))/\w'=w:=by
 obtain⟨c0,c1,c2,⟨D,hown,hcn⟩,hsz⟩:=h
 have HC:=ab hcn
 clear hcn hsz;go_enter Tryz.func336,Tryz.ntmps336
 go_wp2_with (first|(at_lookup;refine wpList_lookup_own_int _ rfl _ _ 235 rfl 3 3 .i64 law Tryz.underlying235 Tryz.underlying3 (EY _) b _ _ rfl hown _ _ rfl (keyOf_int_mk Tryz.underlying3 hx) ?_;intro c hat hwc;have HA:=ab hat;clear hat))
 go_ret;refine⟨aT ?_,rfl⟩
 have h1:=HA.out
 rw [HC.out.at_ x] at h1;exact (uc h1).symm
def ye (w:World)(b:Nat)(L:List Int)(D:DataW Unit)(s:Value)(w':World):Prop :=
 ∃left mO zs,s=.int .i64 (ij L zs:Int)/\w'.ranges Tryz.prog 3 (plainElem Tryz.prog 3) b w.heap.size L.length D left mO/\oO D left zs/\Below w.heap.size w w'
theorem gW {w:World}{g b:Nat}{e a:Int}{L:List Int}(h:Qu w g b e a L) :
  Calls Tryz.prog 337 #[.pointer (some ⟨g,0,none⟩)] w λr w'=>r=.returned (.int .i64 (L.length:Int))/\Below w.heap.size w w':=by
 obtain⟨c0,c1,c2,⟨D,hown,hcn⟩,hsz⟩:=h
 have HC:=ab hcn
 have hll:=hsz.len
 have ha2:=hsz.a2
 clear hcn hsz;go_enter Tryz.func337,Tryz.ntmps337
 go_upto_region 3 with (first|(at_range;refine wpList_range_own _ rfl _ 235 rfl 3 3 law Tryz.underlying235 _ b _ _ rfl hown ?_;intro w0 hrg0 hg0 hs0;clear hs0))
 go_frame
 go_loopw [3] (ye w b L D) (λ_ wr=>wr.rangeLeft b w.heap.size)
 case atStart=>exact⟨_,_,[],rfl,hrg0,oO.start D,qV (Below.refl _ _) hg0 (λk hk=>by cases hk)⟩
 case round =>
  clear hrg0 hg0;obtain⟨left,mO,zs,rfl,hrg,hcoll,hbel⟩:=hrel
  have HO:=ab hcoll
  have HB:=ab hbel
  have HS:=ab (oP (L:=L) hcoll.1)
  clear hcoll hbel;go_wp2_with (first|(at_next;refine wpList_next_ranges_ii _ rfl _ rfl 3 3 .i64 .i64 law Tryz.underlying3 Tryz.underlying3 b w.heap.size _ _ _ _ rfl hrg ?_ ?_))
  ·intro _ hl0
   have HL:=ab hl0
   clear hl0;go_wp2;go_ret;refine⟨aT ?_,HB.out⟩
   have h1:=qp (L:=L) HO.out.1 (λx hx=>(HO.out.all HC.out HL.out x).2 hx)
   rw [h1]
  ·intro x c w1 cnt1 hwx hwc hlx hat hrg1 hlt hg1 hs1 hen
   have hcx:c=(L.count x:Int):=by
    have h1:=hat (nu 0)
    rw [HC.out.at_ x] at h1;exact (uc h1).symm
   have hO1:=HO.out.step hlx hat
   have P_:=ab (oP (L:=L) hO1.1)
   have hsn:=xu L zs x
   have hm:w1.rangeLeft b w.heap.size<wr.rangeLeft b w.heap.size:=by rw [hrg1.left_eq,hrg.left_eq];exact hlt
   have HN:Hid (ye w b L D (.int .i64 ((ij L zs:Int)+c)) w1):=⟨_,_,zs++[x],by rw [hsn,hcx];rfl,hrg1,hO1,HB.out.grown hg1 HB.out.size (λk hk=>by cases hk;exact Nat.le_refl _)⟩
   have hw:wrap64 ((ij L zs:Int)+c)=(ij L zs:Int)+c:=by
    have:=P_.out
    rw [hsn] at this;unfold wrap64;omega
   clear hs1 hat hO1 hrg hrg1 hg1 hlt hlx hsn hcx;go_wp2;refine⟨?_,hm⟩
   rw [hw];exact HN.out
end Go.Proofs.YtffmodpgddecnaaGreatDoor.Q
