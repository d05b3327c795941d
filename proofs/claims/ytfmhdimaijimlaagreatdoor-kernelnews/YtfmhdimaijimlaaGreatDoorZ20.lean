import Derived.Test.YtfmhdimaijimlaaGreatDoorZ19
set_option linter.all false
set_option maxRecDepth 1000000
set_option maxHeartbeats 8000000
open Go.Proofs.Tryz
variable {w w' w1 w2:Go.World}{n m k i j b g base kn:Nat}{a:Option Go.Addr}
namespace Go.Proofs.YtfmhdimaijimlaaGreatDoor.S
open Go.RowKit
theorem kr (Os:List Ob)(o:Ob):dX (Os++[o])=dX Os++o.aj:=by simp [dX]
theorem eD.create {s pb room:Nat}{nx:Int}{t:Nat->Bool}{B:Nat->Nat->Nat}{Os:List Ob}(h:eD w s g pb m n room nx t B Os)(hk:k<=4096)(hf:aO k<=(fx n t false).length)(hroom:Os.length<room)(hnx:nx<=4611686018427387904)
  (hA:cZ w' g pb n (tk t ((fx n t false).take (aO k))) B) (hrow:Row w' a (aO k) (aO k) (ints (cX ((fx n t false).take (aO k))))) (hblk:∀j,aD a j->w.heap.size<=j/\j<w'.heap.size)
  (x0:aq w' ⟨s,0,none⟩ (.pointer (some ⟨g,0,none⟩))) (x1:aq w' ⟨s,1,none⟩ (.map (some m))) (x2:aq w' ⟨s,2,none⟩ (.int .i64 (room:Int))) (x3:aq w' ⟨s,3,none⟩ (.int .i64 (nx+1)))
  (hmap:w'.ownsMap prog 3 hr m (Os.length+1) (dZ (Os++[⟨nx,List.replicate k 0,(fx n t false).take (aO k),a⟩]))) (hb:ae (Sb s g pb m) w w') :
  eD w' s g pb m n room (nx+1) (tk t ((fx n t false).take (aO k))) B (Os++[⟨nx,List.replicate k 0,(fx n t false).take (aO k),a⟩]):=by
 generalize hP:(fx n t false).take (aO k)=P at *
 have hPl:P.length=aO k:=by rw [<-hP,List.length_take];omega
 have hPm:∀i∈P,t i=false:=λi hi=>(oU.1 (List.mem_of_mem_take (hP ▸ hi))).2
 have hPn:P.Nodup:=by rw [<-hP];exact (List.take_sublist _ _).nodup (nI _ _ _)
 have hsl:=World.block_lt_of_cell? _ _ h.c0.1
 have hgl:=h.ph.CH
 have hpl:=h.ph.lt
 have hml:=h.map.lt
 have hmem:∀p,p∈Os++[⟨nx,List.replicate k 0,P,a⟩]->p∈Os\/p=⟨nx,List.replicate k 0,P,a⟩:=λp hp=>by
  rcases List.mem_append.1 hp with h1|h1
  ·exact .inl h1
  ·exact .inr (by simpa using h1)
 refine⟨hA,x0,x1,x2,x3,by rw [List.length_append];exact hmap,h.sg,h.sp,h.sm,h.gm,h.pm,λp hp=>?_,λp hp j hj=>?_,λp hp=>?_,?_,λi=>?_,λp hp j hj=>?_,?_,λp hp=>?_,⟨by have:=h.Hn;omega,by omega⟩,⟨by rw [List.length_append];simp;omega,h.rm.2⟩,λp hp=>?_⟩
 ·rcases hmem p hp with h1|rfl
  ·refine (h.rows p h1).but hb (λj hj=>?_)
   obtain⟨a1,a2,a3,a4,a5⟩:=h.off p h1 j hj
   rintro (e|e|e|e)
   ·exact a1 e
   ·exact a2 e
   ·exact a3 e
   ·exact a4 e
  ·simp only [hPl]
   exact hrow
 ·rcases hmem p hp with h1|rfl
  ·obtain⟨a1,a2,a3,a4,a5⟩:=h.off p h1 j hj
   exact⟨a1,a2,a3,a4,Nat.lt_of_lt_of_le a5 hb.size⟩
  ·have:=hblk j hj
   simp only at hsl
   exact⟨by omega,by omega,by omega,by omega,this.2⟩
 ·rcases hmem p hp with h1|rfl
  ·exact h.len p h1
  ·simp [hPl]
 ·rw [kr,List.nodup_append]
  refine⟨h.nd,hPn,λi hi j hj e=>?_⟩
  subst e
  have h1:=hPm i hj
  rw [h.FU i] at h1
  exact absurd hi (by simpa using h1)
 ·rw [kr]
  simp only [tk,h.FU i,List.mem_append,Bool.decide_or]
 ·rcases hmem p hp with h1|rfl
  ·exact h.bytes p h1 j hj
  ·simp only [List.length_replicate] at hj
   have hq:j / 64<P.length:=by rw [hPl];unfold aO;omega
   simp only
   rw [h.ph.zero _ _ (hPm _ (f_ hq))]
   simp [List.getD_eq_getElem?_getD,hj]
 ·rw [List.pairwise_append]
  refine⟨h.iD,by simp,λp hp q hq=>?_⟩
  simp only [List.mem_singleton] at hq
  subst hq
  exact (h.ids p hp).2
 ·rcases hmem p hp with h1|rfl
  ·have:=h.ids p h1
   omega
  ·have:=h.Hn
   simp only
   omega
 ·rcases hmem p hp with h1|rfl
  ·exact h.eK p h1
  ·simpa using hk
theorem xI {room:Nat}{nx:Int}{Os:List Ob}{size:Int}(h:jV room n nx Os size=0):0<=size/\size<=4096/\Os.length<room/\nx<=4611686018427387904/\aO size.toNat<=n - fL Os:=by
 unfold jV at h
 repeat' split at h
 ·omega
 ·omega
 ·omega
 ·omega
theorem jY (s g pb m n room:Nat)(nx:Int)(t:Nat->Bool)(B:Nat->Nat->Nat)(Os:List Ob)(k:Nat)(w:World)(h:eD w s g pb m n room nx t B Os)(hE:jV room n nx Os (k:Int)=0) :
  Calls prog 105 #[.pointer (some ⟨s,0,none⟩),.int .i64 (k:Int)] w λe w'=>∃a t',e=.returned (.tuple #[.int .i64 nx,.int .i64 0])/\(∀j,aD a j->w.heap.size<=j/\j<w'.heap.size)/\eD w' s g pb m n room (nx+1) t' B (Os++[⟨nx,List.replicate k 0,(fx n t false).take (aO k),a⟩])/\ae (Sb s g pb m) w w':=by
 obtain⟨_,hk,hroom,hnx,hneed⟩:=xI hE
 rw [Int.toNat_natCast] at hneed
 have hk2:k<=4096:=by omega
 have hf:aO k<=(fx n t false).length:=by have:=h.count;omega
 have H:=aa h
 have HE:=aa hE
 have HR:=aa hroom
 have HF:=aa hf
 have hsg:=h.sg
 have hsm:=h.sm
 have hgm:=h.gm
 have hnx1:=h.Hn.1
 clear h hE hroom hf hneed hk
 go_enter func105,ntmps105
 go_upto_region 4 with (first|(go_at_call 103;refine (g8 s g pb m n room nx t B Os (k:Int) _ H.o).mono ?_;rintro e w1 ⟨rfl,hb⟩;rw [HE.o];have HB:=aa hb;clear hb))
 have H1:=aa (H.o.later HB.o)
 have HS:Hid (∀W,ae (·=g) w1 W->(W.cell? ⟨s,0,none⟩=some (.pointer (some ⟨g,0,none⟩)))/\ae (·=g) w1 W):=aa (λW hW=>⟨aC hW H1.o.c0.1 hsg,hW⟩)
 go_region_held3 (λW=>(W.cell? ⟨s,0,none⟩=some (.pointer (some ⟨g,0,none⟩)))/\ae (·=g) w1 W) (first|exact HS.o _ (ae.of (Below.refl _ _).drew)|exact HS.o _ hb2.out) (first
  | (go_at_call 151;refine (mj k _ hk2).mono ?_;rintro e w2 ⟨rfl,hw⟩;obtain rfl:=hw.symm)
  | (go_at_call 154;refine (Ec g pb n t B (aO k) _ (H1.o.ph.later (Below.refl _ _).drew) HF.o).mono ?_;rintro e w2 ⟨a,rfl,R2,A2,b2⟩;have hb2:=aa ((ae.of (S:=(·=g)) (Below.refl w1.heap.size w1).drew).trans b2)))
 have HA2:=aa A2
 have HR2:=aa R2
 have y0:=H1.o.c0.but hb2.out hsg
 have y1:=H1.o.c1.but hb2.out hsg
 have y2:=H1.o.c2.but hb2.out hsg
 have y3:=H1.o.c3.but hb2.out hsg
 have hm2:=bd hb2.out H1.o.map (λe=>hgm e.symm)
 obtain⟨P,hP⟩:∃P,P=(fx n t false).take (aO k):=⟨_,rfl⟩
 obtain⟨K,hK⟩:∃K,K=aO k:=⟨_,rfl⟩
 have hPl:P.length=K:=by rw [hP,hK,List.length_take];have:=HF.o;omega
 obtain⟨w3,hrun,hm3,htn⟩:=hm2.store tY underlying137 (by have:=HR.o;have:=H.o.rm.2;unfold maxLen;omega) (key:=.int .i64 nx) (kl:=.int .i64 nx) (sR (by omega)) (val:=.agg #[.int .i64 (k:Int),.slice a K K]) (d:=.held (.agg #[.int .i64 (k:Int),.slice a K K])) (ps:=[]) rfl
 have hb3:=fC htn
 have hsmn:¬s=m:=hsm
 have z0:=y0.but hb3 hsmn
 have z1:=y1.but hb3 hsmn
 have z2:=y2.but hb3 hsmn
 have z3:=y3.but hb3 hsmn
 have HM3:Hid (w3.ownsMap prog 3 hr m (Os.length+1) (dZ (Os++[⟨nx,List.replicate k 0,P,a⟩]))):=aa (by
  have e:=zZ Os ⟨nx,List.replicate k 0,P,a⟩ (λp hp=>(H.o.ids p hp).2)
  simp only [Ob.val,List.length_replicate,hPl] at e
  rw [<-e]
  exact hm3)
 have HZ0:=aa z0
 have HZ1:=aa z1
 have HZ2:=aa z2
 have HZ3:=aa z3
 have HB3:=aa hb3
 have e1:=y1.1
 have e3:=y3.1
 have f3:=z3.1
 have g3:=z3.2
 have hwr:IntKind.i64.wrap (nx+1)=nx+1:=by rw [IntKind.wrap_i64];omega
 rw [<-hK]
 have HP:=aa hP
 have HK:=aa hK
 have HPL:=aa hPl
 clear A2 R2 b2 y0 y1 y2 y3 hm2 hm3 htn hb3 z0 z1 z2 z3 hP hK hPl hw
 go_wp2
 have hP:=HP.o
 have hK:=HK.o
 subst hK
 have hsz:=HB.o.size
 have hml:=H1.o.map.lt
 have hsl:s<w1.heap.size:=World.block_lt_of_cell? _ _ H1.o.c0.1
 have b4:ae (·=s) w3 (w3.setCell ⟨s,3,none⟩ (.int .i64 (nx+1))):=ae.setCell (S:=(·=s)) (ae.refl _ _) (p:=⟨s,3,none⟩) (show s=s from rfl) _
 have hge:=HR2.o.ge
 have hlt:=HR2.o.lt
 have hdw:w1.drew.heap.size=w1.heap.size:=rfl
 rw [hdw] at hge
 have hall:ae (Sb s g pb m) w (w3.setCell ⟨s,3,none⟩ (.int .i64 (nx+1))):=(((ae.of HB.o).trans (hb2.out.mono (λ_ h=>.inr (.inl h)))).trans (HB3.o.mono (λ_ h=>.inr (.inr (.inr h))))).trans (b4.mono (λ_ h=>.inl h))
 refine bodyPost_ret (v:=.tuple #[.int .i64 nx,.int .i64 0]) (by simp [results,results105,go_sem]) rfl ⟨a,tk t ((fx n t false).take (aO k)),rfl,λj hj=>⟨by have:=hge j hj;omega,Nat.lt_of_lt_of_le (hlt j hj) (Nat.le_trans HB3.o.size b4.size)⟩,?_,hall⟩
 rw [hP] at HM3
 refine H.o.create hk2 HF.o HR.o hnx ((HA2.o.but HB3.o hgm H.o.pm).but b4 (Ne.symm hsg) (Ne.symm H.o.sp)) ((HR2.o.row.but HB3.o (λj hj e=>?_)).but b4 (λj hj e=>?_)) (λj hj=>⟨by have:=hge j hj;omega,Nat.lt_of_lt_of_le (hlt j hj) (Nat.le_trans HB3.o.size b4.size)⟩) (HZ0.o.other (by simp)) (HZ1.o.other (by simp)) (HZ2.o.other (by simp)) HZ3.o.put (HM3.o.setCell (a:=⟨s,3,none⟩) (Ne.symm hsm) _) hall
 ·have:=hge j hj
  omega
 ·have:=hge j hj
  omega
theorem a8 {id:Int}{Os:List Ob}{p:Ob}:p∈bH id Os↔p∈Os/\p.id≠id:=by simp [bH]
theorem py {Os:List Ob}{id:Int}{o:Ob}(hr:Os.Pairwise (λa b=>a.id<b.id))(hn:(dX Os).Nodup)(ho:fj Os id=some o)(i:Nat):i∈dX (bH id Os)↔i∈dX Os/\¬i∈o.aj:=by
 have hm:=at_mem ho
 simp only [dX,List.mem_flatMap,a8]
 constructor
 ·rintro ⟨p,⟨hp,hne⟩,hi⟩
  exact⟨⟨p,hp,hi⟩,(di hn).2 p hp o hm.1 (by rw [hm.2];exact hne) i hi⟩
 ·rintro ⟨⟨p,hp,hi⟩,hno⟩
  exact⟨p,⟨hp,λe=>hno (by rw [<-oP hr ho hp e];exact hi)⟩,hi⟩
theorem iq (id:Int):∀(Os:List Ob),(dX Os).Nodup->(dX (bH id Os)).Nodup
 | [],h=>h
 | a::r,h=>by
  have h2:(a.aj++dX r).Nodup:=by simpa [dX] using h
  rw [List.nodup_append] at h2
  have ih:=iq id r h2.2.1
  unfold bH at ih ⊢
  rw [List.filter_cons]
  split
  ·show (a.aj++dX _).Nodup
   rw [List.nodup_append]
   refine⟨h2.1,ih,λx hx y hy=>h2.2.2 x hx y ?_⟩
   obtain⟨p,hp,hy⟩:=List.mem_flatMap.1 hy
   exact List.mem_flatMap.2 ⟨p,(List.mem_filter.1 hp).1,hy⟩
  ·exact ih
theorem se {l:List Nat}:((i:Int)∈cX l)↔i∈l:=by
 simp only [cX,List.mem_map]
 constructor
 ·rintro ⟨x,hx,e⟩
  have:x=i:=by omega
  exact this ▸ hx
 ·intro h
  exact⟨i,h,rfl⟩
theorem eD.C1 {s pb room:Nat}{nx:Int}{t:Nat->Bool}{B:Nat->Nat->Nat}{Os:List Ob}{id:Int}{o:Ob}(h:eD w s g pb m n room nx t B Os)(ho:fj Os id=some o)
  (hA:cZ w' g pb n (gT t (cX o.aj)) (gB B (cX o.aj))) (x0:aq w' ⟨s,0,none⟩ (.pointer (some ⟨g,0,none⟩))) (x1:aq w' ⟨s,1,none⟩ (.map (some m))) (x2:aq w' ⟨s,2,none⟩ (.int .i64 (room:Int))) (x3:aq w' ⟨s,3,none⟩ (.int .i64 nx))
  (hmap:w'.ownsMap prog 3 hr m Os.length (dZ (bH id Os))) (hb:ae (Sb s g pb m) w w'):eD w' s g pb m n room nx (gT t (cX o.aj)) (gB B (cX o.aj)) (bH id Os):=by
 have hm:=at_mem ho
 have hnf:=di h.nd
 refine⟨hA,x0,x1,x2,x3,tD hmap,h.sg,h.sp,h.sm,h.gm,h.pm,λp hp=>?_,λp hp j hj=>?_,λp hp=>h.len p (a8.1 hp).1,iq id Os h.nd,λi=>?_,λp hp j hj=>?_,?_,λp hp=>h.ids p (a8.1 hp).1,h.Hn,⟨Nat.le_trans (List.length_filter_le _ _) h.rm.1,h.rm.2⟩,λp hp=>h.eK p (a8.1 hp).1⟩
 ·refine (h.rows p (a8.1 hp).1).but hb (λj hj=>?_)
  obtain⟨a1,a2,a3,a4,a5⟩:=h.off p (a8.1 hp).1 j hj
  rintro (e|e|e|e)
  ·exact a1 e
  ·exact a2 e
  ·exact a3 e
  ·exact a4 e
 ·obtain⟨a1,a2,a3,a4,a5⟩:=h.off p (a8.1 hp).1 j hj
  exact⟨a1,a2,a3,a4,Nat.lt_of_lt_of_le a5 hb.size⟩
 ·have e:=py h.iD h.nd ho i
  simp only [gT,h.FU i,se,e,Bool.decide_and,decide_not]
 ·obtain⟨hp1,hp2⟩:=a8.1 hp
  have hlp:=h.len p hp1
  have hq:j / 64<p.aj.length:=by unfold aO at hlp;omega
  have hno:=hnf.2 p hp1 o hm.1 (by rw [hm.2];exact hp2) _ (f_ hq)
  rw [gB,if_neg (λe=>hno (se.1 e))]
  exact h.bytes p hp1 j hj
 ·exact List.Pairwise.filter _ h.iD
theorem oZ (s g pb m n room:Nat)(nx:Int)(t:Nat->Bool)(B:Nat->Nat->Nat)(Os:List Ob)(id:Int)(w:World)(h:eD w s g pb m n room nx t B Os)(hi:-9223372036854775808<=id/\id<9223372036854775808)(ho:fj Os id=none) :
  Calls prog 200 #[.pointer (some ⟨s,0,none⟩),.int .i64 id] w λe w'=>e=.returned (.int .i64 20)/\Below w.heap.size w w':=by
 have x:=h.c1.1
 have hl:=fc h hi ho
 have hz:=aG bI
 clear h
 go_enter func200,ntmps200
 go_wp2
 go_ret
 exact⟨rfl,ab _ _⟩
theorem EI (g pb n:Nat)(t:Nat->Bool)(B:Nat->Nat->Nat)(a:Option Addr)(m cap:Nat)(l:List Int)(w:World)(h:cZ w g pb n t B)(hR:Row w a m cap (ints l))(hm63:m<9223372036854775807)(hap:∀k,aD a k->k≠pb)(hok:ED n t l) :
  Calls prog 231 #[.pointer (some ⟨g,0,none⟩),.slice a m cap] w λe w'=>e=.returned (.int .i64 0)/\cZ w' g pb n (gT t l) (gB B l)/\ae (λk=>k=g\/k=pb) w w':=by
 refine (yX g pb n t B a m cap l w h hR hm63 hap).mono ?_
 rintro e w' (⟨_,h1,h2,h3⟩|⟨h1,_⟩)
 ·exact⟨h1,h2,h3⟩
 ·exact absurd hok h1
theorem sO (s g pb m n room:Nat)(nx:Int)(t:Nat->Bool)(B:Nat->Nat->Nat)(Os:List Ob)(id:Int)(o:Ob)(w:World)(h:eD w s g pb m n room nx t B Os)(hi:-9223372036854775808<=id/\id<9223372036854775808)(ho:fj Os id=some o) :
  Calls prog 200 #[.pointer (some ⟨s,0,none⟩),.int .i64 id] w λe w'=>∃t' B',e=.returned (.int .i64 0)/\eD w' s g pb m n room nx t' B' (bH id Os)/\ae (Sb s g pb m) w w':=by
 have x:=h.c1.1
 have hl:=gR h hi ho
 have hz:=aG bI
 have hmem:=(at_mem ho).1
 have H:=aa h
 have hsg:=h.sg
 have hsp:=h.sp
 have hsm:=h.sm
 have hgm:=h.gm
 have hpm:=h.pm
 obtain⟨w1,hw1⟩:∃w1,w1=w.alloc (Obj.cells #[Value.int .i64 (o.data.length:Int),Value.slice o.jU o.aj.length o.aj.length] 214):=⟨_,rfl⟩
 have HB1:Hid (Below w.heap.size w w1):=aa (by rw [hw1];exact ab _ _)
 have HC1:Hid (w1.cell? ⟨w.heap.size,1,none⟩=some (.slice o.jU o.aj.length o.aj.length)):=aa (by rw [hw1];exact (aE _ _ _ 1 _ rfl).1)
 have H1:=aa (h.later HB1.o)
 obtain⟨w2,hdel,hm2,htn⟩:=H1.o.map.drop tY underlying137 (key:=.int .i64 id) (kl:=.int .i64 id) (sR hi) 0
 have hb2:=fC htn
 rw [Co] at hm2
 have HM2:=aa hm2
 have HB2:=aa hb2
 have y1:=H1.o.c1.1
 clear h hm2 htn hb2
 rw [hw1] at hdel y1
 go_enter func200,ntmps200
 go_upto_region 5 with fail
 clear hz hl x y1 hdel hw1
 have HGP:Hid (∀W,ae (λk=>k=g\/k=pb) w2 W->(W.cell? ⟨s,0,none⟩=some (.pointer (some ⟨g,0,none⟩))/\W.cell? ⟨w.heap.size,1,none⟩=some (.slice o.jU o.aj.length o.aj.length))/\ae (λk=>k=g\/k=pb) w2 W):=aa (by
  intro W hW
  have h1:=H.o.ph.CH
  have h2:=H.o.ph.lt
  have h3:=H.o.map.lt
  refine⟨⟨aC hW (aC HB2.o H1.o.c0.1 hsm) (λe=>e.elim hsg hsp),aC hW (aC HB2.o HC1.o ?_) ?_⟩,hW⟩
  ·show ¬w.heap.size=m
   omega
  ·show ¬(w.heap.size=g\/w.heap.size=pb)
   omega)
 have HA2:=aa (H1.o.ph.but HB2.o hgm hpm)
 have HR2:=aa ((H1.o.rows o hmem).but HB2.o (λj hj=>(H.o.off o hmem j hj).2.2.2.1))
 have HAP:=aa (λj hj=>(H.o.off o hmem j hj).2.2.1)
 have HPL:Hid (o.aj.length<9223372036854775807):=aa (by have:=H.o.len o hmem;have:=H.o.eK o hmem;unfold aO at *;omega)
 have HOK:Hid (ED n t (cX o.aj)):=aa (by
  refine⟨λz hz=>?_,?_⟩
  ·simp only [cX,List.mem_map] at hz
   obtain⟨p,hp,rfl⟩:=hz
   obtain⟨h1,h2⟩:=H.o.mem hmem hp
   exact⟨dT (by omega),by simpa using h1⟩
  ·have hn:=(di H.o.nd).1 o hmem
   unfold cX List.Nodup
   rw [List.pairwise_map]
   unfold List.Nodup at hn
   rw [List.pairwise_iff_getElem] at hn ⊢
   intro i j hi hj hij e
   exact hn i j hi hj hij (by omega))
 go_region_held3 (λW=>(W.cell? ⟨s,0,none⟩=some (.pointer (some ⟨g,0,none⟩))/\W.cell? ⟨w.heap.size,1,none⟩=some (.slice o.jU o.aj.length o.aj.length))/\ae (λk=>k=g\/k=pb) w2 W) (first|exact HGP.o _ (ae.of (Below.refl _ _).drew)|exact HGP.o _ hb3.out) (first
  | (go_at_call 231;refine (EI g pb n t B _ _ _ (cX o.aj) _ (HA2.o.later (Below.refl _ _).drew) (HR2.o.later (Below.refl _ _).drew) HPL.o HAP.o HOK.o).mono ?_;rintro e w3 ⟨rfl,A3,b3⟩;have hb3:=aa ((ae.of (S:=λk=>k=g\/k=pb) (Below.refl w2.heap.size w2).drew).trans b3)))
 have HA3:=aa A3
 clear A3 b3
 go_wp2
 go_ret
 have hn2:¬(s=g\/s=pb):=λe=>e.elim hsg hsp
 have hall:ae (Sb s g pb m) w w3:=((ae.of HB1.o).trans (HB2.o.mono (λ_ h=>.inr (.inr (.inr h))))).trans (hb3.out.mono (λ_ h=>h.elim (λe=>.inr (.inl e)) (λe=>.inr (.inr (.inl e)))))
 refine⟨_,_,rfl,H.o.C1 ho HA3.o ((H1.o.c0.but HB2.o hsm).but hb3.out hn2) ((H1.o.c1.but HB2.o hsm).but hb3.out hn2) ((H1.o.c2.but HB2.o hsm).but hb3.out hn2) ((H1.o.c3.but HB2.o hsm).but hb3.out hn2) (bd hb3.out HM2.o (λe=>e.elim (λe=>hgm e.symm) (λe=>hpm e.symm))) hall,hall⟩
end Go.Proofs.YtfmhdimaijimlaaGreatDoor.S
