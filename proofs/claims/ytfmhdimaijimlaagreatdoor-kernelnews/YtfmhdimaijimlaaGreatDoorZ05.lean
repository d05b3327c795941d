import Derived.Test.YtfmhdimaijimlaaGreatDoorZ04
import Derived.RangeFuncNested
import Derived.RangeFuncBound
import Derived.RangeFuncCalls
import Derived.RangeFuncLeaves
import Derived.Shelf.Abstract
import Derived.Shelf.RegionOpen
import Derived.OwnWalkIn
import Derived.TacticsInMore
import Derived.LoopNIn
import Derived.LoopIn
set_option linter.all false
set_option maxRecDepth 1000000
set_option maxHeartbeats 8000000
open Go.Proofs.Tryz
variable {w w' w1 w2:Go.World}{n m k i j b g base kn:Nat}{a:Option Go.Addr}
namespace Go.Proofs.YtfmhdimaijimlaaGreatDoor
open Go.RowKit Go.Shelf
attribute [local go_sem] Oper.semAt_some
structure Kq (Fp:World->Nat->Prop)(W W':World):Prop where
 size:W.heap.size<=W'.heap.size
 same:∀k o,W.heap[k]?=some o->o.isCells=true->¬Fp W k->W'.heap[k]?=some o
 fp:∀k,Fp W' k->Fp W k\/W.heap.size<=k
theorem Kq.trans {Fp:World->Nat->Prop}{A B C:World}(h:Kq Fp A B)(k:Kq Fp B C):Kq Fp A C:=by
 refine⟨Nat.le_trans h.size k.size,λi o hi ho hn=>k.same i o (h.same i o hi ho hn) ho (λhf=>?_),λi hi=>?_⟩
 ·have hlt:i<A.heap.size:=(Array.getElem?_eq_some_iff.1 hi).1
  rcases h.fp i hf with h1|h1
  ·exact hn h1
  ·omega
 ·rcases k.fp i hi with h1|h1
  ·exact h.fp i h1
  ·exact .inr (Nat.le_trans h.size h1)
theorem Own.kq {Fp:World->Nat->Prop}{W W':World}{e:TypeId}{cap:Nat}{L:List Value}(h:Own W base e a n cap L)(hk:Kq Fp W W')(hn:∀k,aD a k->¬Fp W k):Own W' base e a n cap L/\∀k,aD a k->¬Fp W' k:=by
 refine⟨⟨⟨h.row.1,?_⟩,h.one⟩,λk hb hf=>?_⟩
 ·rcases h.row.2 with h1|⟨g,c,cur,hv,hg,hh,r⟩
  ·exact .inl h1
  ·refine .inr ⟨g,c,cur,hv,hg,hk.same g _ hh rfl (hn g ?_),r⟩
   rw [<-aD.of (n:=n) (cap:=cap),hv]
   simp [Value.ownBlock]
 ·rcases hk.fp k hf with h1|h1
  ·exact hn k hb h1
  ·have:=h.lt k hb
   omega
theorem lW {W W':World}(h:Below W.heap.size W W'):W.grownBy W' none:=⟨h.os,h.tape,h.output,h.size,λk hk _=>h.block k hk⟩
theorem Gm {Fp:World->Nat->Prop}{B:Nat}(hFc:∀(W:World) (L:Nat) (o o':Obj),B<=L->W.heap[L]?=some o->o.isCells=false->∀k,Fp (W.putObj L o') k->Fp W k)(W:World)(L:Nat)(o o':Obj)(hL:B<=L)(h:W.heap[L]?=some o)(ho:o.isCells=false):Kq Fp W (W.putObj L o'):=by
 refine⟨(grownBy_putObj' W L o').size,λk c hk hc _=>?_,λk hk=>.inl (hFc W L o o' hL h ho k hk)⟩
 have hne:k≠L:=λe=>by
  subst e
  rw [h] at hk
  cases hk
  rw [ho] at hc
  cases hc
 exact ((grownBy_putObj' W L o').block k (Array.getElem?_eq_some_iff.1 hk).1 (λe=>hne (by cases e;rfl))).trans hk
attribute [local go_sem] Oper.semAt_some
theorem aE (w:World)(v:Value)(t:TypeId):aq (w.alloc (Obj.cells #[v] t)) ⟨w.heap.size,0,none⟩ v:=⟨by simp [go_sem],by simp [go_sem]⟩
theorem lj {W:World}{D:Nat}(hB:Below w.heap.size w W)(hD:w.heap.size<=D)(hK:W.heap[D]?=some (.deferred (some []))):Below w.heap.size w (W.putObj D (.deferred none)) :=
 hB.trans (belowK_b (w:=w) (Nat.le_refl _) W D _ _ hD hK rfl rfl)
theorem zm {gb:Nat}{l:Fo}(h:Ki w g gb m l)(n:Int) :
  Calls prog 261 #[.pointer (some ⟨g,0,none⟩),.int .i64 n] w λe w'=>∃a k cap,e=.returned (.slice a k cap)/\Own w' w.heap.size 3 a k cap (ints (Fl l n))/\Below w.heap.size w w':=by
 have hc:=aa (km h n false)
 have hl:=Nat.le_trans (mL h.ok false n) h.eK
 unfold Fl
 generalize G false l n=X at hc hl ⊢
 clear h
 go_enter func261,ntmps261
 go_wp2_with (first|(go_at_call 215;refine hc.out.mono ?_;rintro e w1 ⟨a,k,cap,rfl,hO,hB⟩;have hlk:=hO.len;rw [qt] at hlk;have HO:=aa hO;have HB:=aa hB;clear hO hB)|(go_at_call 251;refine (uY HO.o (by omega)).mono ?_;rintro e w2 ⟨⟨v,rfl⟩,hO2,hB2⟩;have HO2:=aa hO2;have HB2:=aa (ae.below HB.o hB2 HO.o.bD);clear hO2 hB2))
 go_ret
 exact⟨a,k,cap,rfl,HO2.o,HB2.o⟩
open Go.RowKit H
theorem yJ {A:Ad}{mo:Nat}{X:List Tk}{l:Fo}(h:ie w A kn mo X l)(p:Int)(c:Cp)(r:Int)(hw:c.2.1<ak/\c.2.2<ak) :
  Calls prog 126 #[.pointer (some ⟨A.g,0,none⟩),.int .i64 p,ir c,.int .i64 r] w (fZ w A kn mo (gD mo X l p c r)):=by
 obtain⟨o,hi,lo⟩:=c
 obtain⟨w1,hw1⟩:∃w1,w1=w.alloc (Obj.cells #[.int .i64 o,.int .u64 (hi:Int),.int .u64 (lo:Int)] 38):=⟨_,rfl⟩
 have hB1:Below w.heap.size w w1:=by rw [hw1];exact ab _ _
 have HZ:Hid (∀U,Below w1.heap.size w1 U->U.cell? ⟨w.heap.size,0,none⟩=some (.int .i64 o)/\U.cell? ⟨w.heap.size,1,none⟩=some (.int .u64 (hi:Int))/\U.cell? ⟨w.heap.size,2,none⟩=some (.int .u64 (lo:Int))):=λU hU =>
  ⟨cell_later hU (by rw [hw1];simp [go_sem]),cell_later hU (by rw [hw1];simp [go_sem]),cell_later hU (by rw [hw1];simp [go_sem])⟩
 have HB1:=aa hB1
 have HH:=aa h
 have H1:=aa (h.later hB1)
 unfold gD
 clear h hB1
 by_cases hp:p∈ah l
 ·rw [if_neg (λhn=>hn hp)]
  obtain⟨q,hq⟩:=cE.1 hp
  obtain⟨cc,rr,hxx⟩:∃cc rr,tk X p=(cc,rr):=⟨_,_,rfl⟩
  have hob:ob X p=cc.1:=by unfold ob;rw [hxx]
  have hrg:rg X p=rr:=by unfold rg;rw [hxx]
  have hA:=lQ H1.o.cm p q hq
  rw [hrg,hxx] at hA
  have HAT:=aa hA
  have HADD:Hid (ob X p=o->aA r (rg X p)=true->∀(U:World),Below w.heap.size w U->Calls prog 179 #[.pointer (some ⟨A.g,0,none⟩),.int .i64 p,.agg #[.int .i64 o,.int .u64 (hi:Int),.int .u64 (lo:Int)],.int .i64 r] U (fZ U A kn mo (gF mo X l p (o,hi,lo) r))) :=
   λho hpt U hU=>jo (HH.o.later hU) p (o,hi,lo) r hw (j9 hpt) (.inr ⟨hp,ho,hpt⟩)
  rw [hob,hrg] at *
  obtain⟨oo,hh,ll⟩:=cc
  clear hq hp hA hxx hob hrg
  simp only at *
  by_cases ho:oo=o
  ·subst ho
   rw [if_neg (λhn=>hn rfl)]
   by_cases hpt:aA r rr=true
   ·rw [if_neg (by rw [hpt];decide)]
    have HA2:=aa (HADD.o rfl hpt)
    generalize gF mo X l p (oo,hi,lo) r=R at *
    go_enter func126,ntmps126
    go_upto_region 1 with fail
    rw [<-hw1]
    clear hw1
    go_upto_region 4 with (first|(go_at_call 122;refine HAT.o.mono ?_;rintro e w2 ⟨rfl,hb2⟩;have HB2:=aa hb2;have hz:=(HZ.o _ (hb2)).1;clear hb2))
    obtain⟨w3,hw3⟩:∃w3,w3=w2.alloc (Obj.cells #[.int .i64 oo,.int .u64 (hh:Int),.int .u64 (ll:Int),.int .i64 rr,.int .i64 q] 61):=⟨_,rfl⟩
    have hB3:Below w2.heap.size w2 w3:=by rw [hw3];exact ab _ _
    have t0:w3.cell? ⟨w2.heap.size,0,none⟩=some (.int .i64 oo):=by rw [hw3];simp [go_sem]
    have t3:w3.cell? ⟨w2.heap.size,3,none⟩=some (.int .i64 rr):=by rw [hw3];simp [go_sem]
    obtain⟨y0,y1,y2⟩:=HZ.o _ (al HB2.o hB3)
    have HB3:=aa (al (al HB1.o HB2.o) hB3)
    rw [<-hw3]
    clear hw3 hB3 hz
    go_wp2_with (first|(go_at_call 179;refine (HA2.o _ HB3.o).mono ?_;rintro e w4 hd;have hd1:=hd.1;subst hd1;have HD:=aa hd;clear hd)|(go_at_call 178;refine (fb _ _ _).mono ?_;rintro e w9 ⟨rfl,hw9⟩;obtain rfl:=hw9.symm;clear hw9;rw [hpt]))
    exact bodyPost_ret (v:=.tuple #[.int .i64 R.num,.int .i64 R.code]) (by simp [results,results126,go_sem]) rfl (HD.o.pre HB3.o)
   ·have hpt':aA r rr=false:=by simpa using hpt
    rw [if_pos hpt']
    go_enter func126,ntmps126
    go_upto_region 1 with fail
    rw [<-hw1]
    clear hw1
    go_upto_region 4 with (first|(go_at_call 122;refine HAT.o.mono ?_;rintro e w2 ⟨rfl,hb2⟩;have HB2:=aa hb2;have hz:=(HZ.o _ (hb2)).1;clear hb2))
    obtain⟨w3,hw3⟩:∃w3,w3=w2.alloc (Obj.cells #[.int .i64 oo,.int .u64 (hh:Int),.int .u64 (ll:Int),.int .i64 rr,.int .i64 q] 61):=⟨_,rfl⟩
    have hB3:Below w2.heap.size w2 w3:=by rw [hw3];exact ab _ _
    have t0:w3.cell? ⟨w2.heap.size,0,none⟩=some (.int .i64 oo):=by rw [hw3];simp [go_sem]
    have t3:w3.cell? ⟨w2.heap.size,3,none⟩=some (.int .i64 rr):=by rw [hw3];simp [go_sem]
    obtain⟨y0,y1,y2⟩:=HZ.o _ (al HB2.o hB3)
    have HB3:=aa (al (al HB1.o HB2.o) hB3)
    rw [<-hw3]
    clear hw3 hB3 hz
    go_wp2_with (first|(go_at_call 178;refine (fb _ _ _).mono ?_;rintro e w9 ⟨rfl,hw9⟩;obtain rfl:=hw9.symm;clear hw9;rw [hpt']))
    exact bodyPost_ret (v:=.tuple #[.int .i64 0,.int .i64 4]) (by simp [results,results126,go_sem]) rfl (fZ.same HH.o HB3.o)
  ·rw [if_pos ho]
   have hbn:(oo==o)=false:=by simp [ho]
   go_enter func126,ntmps126
   go_upto_region 1 with fail
   rw [<-hw1]
   clear hw1
   go_upto_region 4 with (first|(go_at_call 122;refine HAT.o.mono ?_;rintro e w2 ⟨rfl,hb2⟩;have HB2:=aa hb2;have hz:=(HZ.o _ (hb2)).1;clear hb2))
   obtain⟨w3,hw3⟩:∃w3,w3=w2.alloc (Obj.cells #[.int .i64 oo,.int .u64 (hh:Int),.int .u64 (ll:Int),.int .i64 rr,.int .i64 q] 61):=⟨_,rfl⟩
   have hB3:Below w2.heap.size w2 w3:=by rw [hw3];exact ab _ _
   have t0:w3.cell? ⟨w2.heap.size,0,none⟩=some (.int .i64 oo):=by rw [hw3];simp [go_sem]
   obtain⟨y0,y1,y2⟩:=HZ.o _ (al HB2.o hB3)
   have HB3:=aa (al (al HB1.o HB2.o) hB3)
   rw [<-hw3]
   clear hw3 hB3 hz
   go_wp2
   exact bodyPost_ret (v:=.tuple #[.int .i64 0,.int .i64 3]) (by simp [results,results126,go_sem]) rfl (fZ.same HH.o HB3.o)
 ·rw [if_pos hp]
  have HAT:=aa (FB H1.o.cm p hp)
  go_enter func126,ntmps126
  go_upto_region 1 with fail
  rw [<-hw1]
  clear hw1
  go_wp2_with (first|(go_at_call 122;refine HAT.o.mono ?_;rintro e w2 ⟨rfl,hb2⟩;have HB2:=aa hb2;clear hb2))
  exact bodyPost_ret (v:=.tuple #[.int .i64 0,.int .i64 20]) (by simp [results,results126,go_sem]) rfl (fZ.same HH.o ((al HB1.o HB2.o).alloc (al HB1.o HB2.o).size _))
theorem DU:(prog.info? 271).map (λi=>(i.zero,i.size,i.bytes))=some (some (.agg #[.int .i64 0,.int .u64 0,.int .u64 0,.int .i64 0]),4,32):=by kernel_rfl
theorem vQ (w:World)(n:Nat)(hn:n<=1024) :
  ∃w',(Instr.makeSlice 154 (.int .i64 (n:Int)) (.int .i64 (n:Int))).run prog w=.ok (.slice (some ⟨w.heap.size,0,none⟩) n n) w'/\(∀(i:Nat) (p:Tk),(List.replicate n tz)[i]?=some p->Pe w' w.heap.size (i*4) p)/\(∀j,w'.frozen? ⟨w.heap.size,j,none⟩=false)/\w.heap.size<w'.heap.size/\Below w.heap.size w w':=by
 obtain⟨i,hi,hz0,hz1,hz2⟩:=info_parts DU
 obtain⟨w',hr,ho,hg⟩:=run_make_full (P:=prog) w w.heap.size 154 271 i _ 4 underlying154 hi hz0 hz1 .i64 .i64 n (by rw [hz2];omega) (by unfold maxLen;omega) (Nat.le_refl _)
 have hcell:∀j c u,j<n->c<4->(#[.int .i64 0,.int .u64 0,.int .u64 0,.int .i64 0]:Array Value)[c]! = u->w'.cell? ⟨w.heap.size,j*4+c,none⟩=some u:=by
  intro j c u hj hc hu
  have hm:(j*4+c)%4=c:=by omega
  have:=ho.cells (g:=w.heap.size) rfl (j*4+c) u (by
   rw [Array.getElem?_toList]
   simp only [madeCells,Value.cells,Array.getElem?_map,Array.getElem?_range]
   rw [if_pos (by omega)]
   simp only [Option.map_some,Option.some.injEq,Array.size,List.length,hm]
   exact hu)
  rw [nj] at this
  exact this
 refine⟨w',hr,λj p hp=>?_,λj=>?_,?_,(Below.refl _ _).grown hg (Nat.le_refl _) (λk hk=>by cases hk)⟩
 ·rw [List.getElem?_replicate] at hp
  split at hp
  ·next hj =>
   have:=(Option.some.inj hp).symm
   subst this
   exact⟨hcell j 0 _ hj (by omega) rfl,hcell j 1 _ hj (by omega) rfl,hcell j 2 _ hj (by omega) rfl,hcell j 3 _ hj (by omega) rfl⟩
  ·cases hp
 ·rcases ho.2 with ⟨h0,_⟩|⟨g,c,cur,hv,_,hh,hc,_⟩
  ·simp at h0
  ·simp only [Value.slice.injEq,Option.some.injEq,Addr.mk.injEq] at hv
   obtain⟨⟨rfl,_⟩,_,rfl⟩:=hv
   simp [World.frozen?,hh]
 ·exact (aZ ho _ rfl).2
def JQ (w:World)(kn mo:Nat)(e:Ending)(w':World):Prop :=
 ∃A:Ad,e=.returned (.tuple #[.pointer (some ⟨A.g,0,none⟩),.int .i64 0])/\ie w' A kn mo (List.replicate mo tz) []/\(∀k,A.jC k->w.heap.size<=k)/\Below w.heap.size w w'
theorem DD (w:World)(mo kn:Nat)(h1:1<=mo)(h2:mo<=256)(h3:kn<=64):Calls prog 50 #[.int .i64 (mo:Int),.int .i64 (kn:Int)] w (JQ w kn mo):=by
 go_enter func50,ntmps50
 go_upto_region 7 with (first
  | (go_at_call 86;refine (bE _ mo (by omega)).mono ?_;rintro e w2 ⟨kg,kb,rfl,hk,hk1,hk2,hb2⟩;have HB2:=aa (al HB1.o hb2);have HT2:=aa (HT1.o.later hb2);have HK2:=aa hk;have HBK:=aa hb2;have HS2:=aa (And.intro hk1 hk2);clear hk hk1 hk2 hb2)
  | (go_at_call 85;refine (I.bE _ mo kn h1 h2 h3).mono ?_;rintro e w1 ⟨tg,tb,N,rfl,ht,ht1,ht2,hb1⟩;have HB1:=aa hb1;have HT1:=aa ht;have HS1:=aa (And.intro ht1 ht2);clear ht ht1 ht2 hb1))
 obtain⟨w3,hr,hE,hF,hsz,hb3⟩:=vQ w2 mo (by omega)
 have HE:=aa hE
 have HFr:=aa hF
 have HB3:=aa hb3
 clear hE hF hb3
 go_wp2
 have hb4:Below w3.heap.size w3 (w3.alloc (Obj.cells #[.pointer (some ⟨tg,0,none⟩),.slice (some ⟨w2.heap.size,0,none⟩) mo mo,.pointer (some ⟨kg,0,none⟩)] 160)):=ab _ _
 have ht3:=(HT2.o.later HB3.o).later hb4
 have hk3:=(HK2.o.later HB3.o).later hb4
 have l1:=HT1.o.lt
 have l2:=HT1.o.oN
 have l3:=HK2.o.Jb
 have l4:=HBK.o.size
 have l5:=HB1.o.size
 have l6:=HS1.o
 have l7:=HS2.o
 have l8:=HB3.o.size
 refine bodyPost_ret (v:=.tuple #[.pointer (some ⟨w3.heap.size,0,none⟩),.int .i64 0]) (by simp [results,results50,go_sem]) rfl ⟨⟨w3.heap.size,tg,tb,w2.heap.size,kg,kb,N⟩,rfl,⟨⟨by simp [go_sem],by simp [go_sem],by simp [go_sem],ht3,hk3,λi x hx=>(HE.o i x hx).later hb4,λj=>?_,?_,by simp,?_⟩,Inv.init mo⟩,?_,al (al HB2.o HB3.o) hb4⟩
 ·show World.frozen? _ ⟨w2.heap.size,j,none⟩=false
  rw [World.frozen?_of_block (w:=w3) (hb4.block w2.heap.size hsz)]
  exact HFr.o j
 ·have:=hb4.size
  show w2.heap.size<_
  omega
 ·constructor<;>simp only [ne_eq]<;>omega
 ·rintro k (rfl|rfl|rfl|rfl|rfl|rfl)<;>(try simp only)<;>omega
attribute [local go_sem] Oper.semAt_some
theorem de {F:Fence}{P:Program}{ops:Array Oper}{rest:List Oper}{o:Oper}{a:Act}{Q:Exit->Act->World->Prop}(hgd:o.guard=none)(s x:Operand)(t:TypeId)
  (ho:o.op=.call { callee:=.builtin .append,args:=#[s,x],argTypes:=#[t,t] }) (vs vx:Value) (hs:a.eval s=vs) (hx:a.eval x=vx) (v':Value) (w':World)
  (hr:(Builtin.append_ #[t,t] o.type #[vs,vx]).run P w=.ok v' w') (h:wpListIn F n P ops Q rest (a.put o.dst v') w'):wpListIn F n P ops Q (o::rest) a w:=by
 refine wpListIn_plain hgd λK hK=>?_
 unfold Oper.wpIn
 refine⟨by simp [Oper.about,ho,resolve,Target.leads,Sem.run_pure],?_⟩
 rw [Oper.semAt_plain F _ _ (by rw [ho];intro c hc;cases hc)]
 simp [execOp,ho,resolve,invoke,builtin,hs,hx,hr,Result.andThen]
 exact hK _ _ h
theorem fk {W:World}{e:TypeId}{cap:Nat}{L:List Value}(h:Own W base e a n cap L)(hk:aD a k):∃cs t z,W.heap[k]?=some (.cells cs t z):=by
 rcases h.row.2 with ⟨h1,_⟩|⟨g,c,cur,hv,hg,hh,r⟩
 ·simp only [Value.slice.injEq] at h1
  obtain⟨x,hx,_⟩:=hk
  rw [h1.1] at hx
  cases hx
 ·simp only [Value.slice.injEq] at hv
  obtain⟨x,hx,rfl⟩:=hk
  rw [hv.1] at hx
  cases hx
  exact⟨_,_,_,hh⟩
theorem oh {S:Nat->Prop}{B:Nat}{W W':World}(h:ae S W W')(hS:∀k o,W.heap[k]?=some o->o.isCells=false->B<=k->¬S k):KeepsFrom B W W' :=
 ⟨h.size,λk o hB hk ho=>(h.block k (Array.getElem?_eq_some_iff.1 hk).1 (hS k o hk ho hB)).trans hk⟩
theorem zn {S:Nat->Prop}{Fp:World->Nat->Prop}{W W':World}(h:ae S W W')(hS:∀k,S k->Fp W k)(hf:∀k,Fp W' k->Fp W k\/W.heap.size<=k):Kq Fp W W' :=
 ⟨h.size,λk o hk _ hn=>(h.block k (Array.getElem?_eq_some_iff.1 hk).1 (λhs=>hn (hS k hs))).trans hk,hf⟩
attribute [local go_sem] Oper.semAt_some
abbrev yM (a:Act)(p d:Nat)(x:Int):Act:={ tmps:=(a.tmps.setIfInBounds p (.int .i64 x)).setIfInBounds d (.int .i64 x),defers:=[] }
theorem bo {W W':World}{row:Option Nat}(h:W.grownBy W' row):ae (λk=>row=some k) W W':=⟨h.os,h.tape,h.output,h.size,λk hk hn=>h.block k hk (λe=>hn e.symm)⟩
attribute [local go_sem] Oper.semAt_some
abbrev Mem (l:Fo)(n:Int):={ x:Int // x∈dP true l n }
def Ds (xs:List Int)(J:List { x:Int // x∈xs }->World->Prop)(Fp:World->Nat->Prop)(base:Nat)(a:Option Addr)(c:Nat)(t:Value)(wr:World):Prop :=
 ∃i:Nat,t=.int .i64 (i:Int)/\i<=xs.length/\J (xs.attach.take i) wr/\Own wr base 3 a xs.length c (ints xs)/\∀k,aD a k->¬Fp wr k
theorem ql (xs:List Int)(i:Nat)(h:i<xs.length):xs.attach.take (i+1)=xs.attach.take i++[⟨xs[i],List.getElem_mem h⟩]:=by
 rw [List.take_succ_eq_append_getElem (by simpa using h)]
 simp
theorem EF {gb:Nat}{l:Fo}{b0:Nat}{n:Int}(hq:Sq w true base b0 g n)(hk:Ki w g gb m l)(Fp:World->Nat->Prop)(hF:∀W,Below w.heap.size w W->∀k,Fp W k->k<w.heap.size)(N:Nat) :
  SeqStopsK Fence.wide N prog 249 #[.pointer (some ⟨b0,0,none⟩)] (λx:Mem l n=>#[Value.int .i64 x.1]) (Kq Fp) (λys=>ys=(dP true l n).attach) (λpre=>pre <+: (dP true l n).attach) (dP true l n).length w:=by
 intro L J Jx W hW hJ hJx hY h0
 replace hq:=hq.later hW
 replace hk:=hk.later hW
 obtain⟨b1,b2,h1,h2,h3,_,_,_⟩:=hq
 have hT:=aa (A7 hk true n b1 b2 h2 h3)
 have htl:=Nat.le_trans (wP hk.ok true n) hk.eK
 have HH:=aa (λ(W2:World) (hb:Below W.heap.size W W2)=>(show J [] W2/\∀k,Fp W2 k->k<W.heap.size from ⟨hJ [] W W2 none h0 (lW hb) (λr e=>(by cases e)),λk hk2=>Nat.lt_of_lt_of_le (hF W2 (hW.trans (hb.mono hW.size)) k hk2) hW.size⟩))
 unfold Mem at *
 generalize dP true l n=xs at *
 clear hk hJ hJx h2 h3 h0
 have HY:=aa hY
 clear hY
 refine callsIn_of_wp func249 rfl trivial ?_ rfl
 simp only [ntmps249,List.size_toArray,List.length_cons,List.length_nil,Nat.reduceAdd,Nat.reduceSub,Array.replicate_succ,Array.replicate_zero,List.push_toArray,List.append_toArray,List.nil_append,List.cons_append]
 change W.cell? _=some (.func (.func 214) _ _) at h1
 change Hid (Calls prog 214 _ _ _) at hT
 gi_wp2_with (refine⟨trivial,λh=>(by cases h),?_⟩;gi_at_call 214;refine (callsIn_wide.2 hT.out).mono ?_;rintro e w1 ⟨a,k,c,rfl,hO,hB⟩;have hlk:=hO.len;rw [qt] at hlk;subst hlk;have HO:=aa hO;have HB:=aa hB;clear hO hB)
 gi_loopw [8] (Ds xs J Fp W.heap.size a c) (λt _=>xs.length - (intOf t).toNat)
 case atStart=>exact⟨0,rfl,Nat.zero_le _,(HH.o _ HB.o).1,HO.o,λk hb hf=>by have:=(HH.o _ HB.o).2 k hf;have:=HO.o.bD k hb;omega⟩
 case round =>
  obtain⟨i,rfl,hi,hJs,hO,hN⟩:=hrel
  by_cases hlt:i<xs.length
  ·obtain⟨ga,rfl⟩:=hO.form (by omega)
   obtain⟨_,e1,hL1⟩:=hO.oR rfl (ep xs i hlt)
   cases e1
   have y1:=hL1.1
   obtain⟨fn,tmps,assign,body,hy,hR⟩:=HY.o (xs.attach.take i) ⟨xs[i],List.getElem_mem hlt⟩ wr hJs (by rw [List.length_take,List.length_attach];omega)
   rw [<-ql xs i hlt] at hR
   have HPF:=aa (show xs.attach.take (i+1) <+: xs.attach from List.take_prefix _ _)
   simp only at hR hy
   generalize xs[i]=x at *
   have HOr:=aa hO
   have HNr:=aa hN
   clear hO hN hL1
   gi_wp2
   refine⟨λh=>(by cases h),hR.mono ?_⟩
   rintro e W3 (⟨rfl,hJ3,hk3⟩|⟨rfl,hJx3⟩)
   ·obtain⟨hO3,hN3⟩:=HOr.o.kq hk3 HNr.o
    have HO3:=aa hO3
    have HN3:=aa hN3
    clear hO3 hN3 hk3
    gi_wp2
    go_roundw
    case rel=>exact⟨i+1,by go_num,by omega,hJ3,HO3.o,HN3.o⟩
    case measure=>simp [intOf];omega
   ·gi_wp2
    refine bodyPost_ret (results_none rfl _ _ _) rfl ?_
    exact⟨⟨_,rfl⟩,.inr ⟨_,HPF.o,hJx3⟩⟩
  ·obtain rfl:i=xs.length:=by omega
   rw [List.take_of_length_le (by simp)] at hJs
   clear hO hN
   gi_wp2
   go_end0
   exact⟨⟨_,rfl⟩,.inl ⟨_,rfl,hJs⟩⟩
theorem ot {N:Nat}{gop:Operand}{p:Tmp}{assign body:Code}{Q:Exit->Act->World->Prop}{a:Act}{gb:Nat}{l:Fo}{b0:Nat}{n:Int}(d:Nat)
  (h1:1<=N) (hg:a.eval gop=.func (.func 249) #[] #[.pointer (some ⟨b0,0,none⟩)]) (hq:Sq w true base b0 g n) (hk:Ki w g gb m l) (Fp:World->Nat->Prop) (hF:∀W,Below w.heap.size w W->∀k,Fp W k->k<w.heap.size)
  (hFc:∀(W:World) (L:Nat) (o o':Obj),w.heap.size<=L->W.heap[L]?=some o->o.isCells=false->∀k,Fp (W.putObj L o') k->Fp W k)
  (I:List (Mem l n)->World->Prop) (hI:OwnFrom w.heap.size I) (h0:I [] w)
  (hassign:∀(L:Nat) (x:Mem l n) (W:World) (K:Act->World->Prop),K (yM a p d x.1) W ->
   assign.wpIn (Fence.wide.inRound L) (N - 1 - 1) prog (Exit.then K (λ_ _ _=>False)) { tmps:=a.tmps.setIfInBounds p (.int .i64 x.1),defers:=[] } W)
  (hbody:∀(L:Nat) (pre:List (Mem l n)) (x:Mem l n) (W:World),I pre W->pre.length<(dP true l n).length->body.wpIn (Fence.wide.inRound L) (N - 1 - 1) prog (ownPostG w.heap.size (Kq Fp) I (λ_ _ _=>False) (pre++[x]) W) (yM a p d x.1) W)
  (hdone:∀(D:Nat) (W:World),w.heap.size<=D->I (dP true l n).attach W->W.heap[D]?=some (.deferred (some []))->Q .normal { a with defers:={ target:=.collected D,args:=#[] }::a.defers } W) :
  (Code.rangeFunc gop #[p] assign body).wpIn Fence.wide N prog Q a w :=
 wpIn_rangeFunc_ownG rfl h1 (gf:=249) (lb:=#[.pointer (some ⟨b0,0,none⟩)]) hg trivial (enters_of func249 (by kernel_rfl) rfl) (EF hq hk Fp hF (N - 1)) Kq.trans
  (λW L o o' hL h ho _=>Gm hFc W L o o' hL h ho) (Below.refl _ _) (λ_=>rfl) I (λ_ _ _=>False) hI (λc=>ownFrom_pure _ _) h0 (λx=>yM a p d x.1) (λL x W K hK=>by rw [show (#[p].zip #[Value.int .i64 x.1]).foldl (λt (p,v)=>t.setIfInBounds p v) a.tmps=a.tmps.setIfInBounds p (.int .i64 x.1) by simp];exact hassign L x W K hK) hbody (λD xs W hD e=>by subst e;exact hdone D W hD) (λD c pre W hD hp hf hK=>hf.elim)
end Go.Proofs.YtfmhdimaijimlaaGreatDoor
