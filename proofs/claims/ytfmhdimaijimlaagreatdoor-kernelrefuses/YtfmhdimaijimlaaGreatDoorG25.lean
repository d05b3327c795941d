import Derived.Test.YtfmhdimaijimlaaGreatDoorG24
import Derived.Shelf.SlIterI.Nil
import Derived.Shelf.SortM.Plain
import Derived.Shelf.SortM.SortNone
set_option linter.unusedVariables false
set_option linter.unusedSimpArgs false
set_option maxRecDepth 1000000
set_option maxHeartbeats 8000000
namespace Go.Proofs.YtfmhdimaijimlaaGreatDoor.S
open Go.RowKit
theorem allP_append (Os:List Ob)(o:Ob):allP (Os++[o])=allP Os++o.pages:=by simp [allP]
theorem Sto.create {w w':World}{s g pb m n room:Nat}{nx:Int}{t:Nat→Bool}{B:Nat→Nat→Nat}{Os:List Ob}{k:Nat}{a:Option Addr}(h:Sto w s g pb m n room nx t B Os)(hk:k≤4096)(hf:needN k≤(lst n t false).length)(hroom:Os.length<room)(hnx:nx≤4611686018427387904)
  (hA:Arn w' g pb n (tk t ((lst n t false).take (needN k))) B) (hrow:Row w' a (needN k) (needN k) (ints (nats ((lst n t false).take (needN k))))) (hblk:∀j,Blk a j→w.heap.size≤j∧j<w'.heap.size)
  (x0:Lies w' ⟨s,0,none⟩ (.pointer (some ⟨g,0,none⟩))) (x1:Lies w' ⟨s,1,none⟩ (.map (some m))) (x2:Lies w' ⟨s,2,none⟩ (.int .i64 (room:Int))) (x3:Lies w' ⟨s,3,none⟩ (.int .i64 (nx+1)))
  (hmap:w'.ownsMap Tryz.prog 3 hr m (Os.length+1) (mapD (Os++[⟨nx,List.replicate k 0,(lst n t false).take (needN k),a⟩]))) (hb:But (Sb s g pb m) w w') :
  Sto w' s g pb m n room (nx+1) (tk t ((lst n t false).take (needN k))) B (Os++[⟨nx,List.replicate k 0,(lst n t false).take (needN k),a⟩]):=by
 generalize hP:(lst n t false).take (needN k)=P at *
 have hPl:P.length=needN k:=by rw [←hP,List.length_take];omega
 have hPm:∀i∈P,t i=false:=fun i hi=>(mem_lst.1 (List.mem_of_mem_take (hP ▸ hi))).2
 have hPn:P.Nodup:=by rw [←hP];exact (List.take_sublist _ _).nodup (lst_nodup _ _ _)
 have hsl:=World.block_lt_of_cell? _ _ h.c0.1
 have hgl:=h.arn.glt
 have hpl:=h.arn.lt
 have hml:=h.map.lt
 have hmem:∀p,p∈Os++[⟨nx,List.replicate k 0,P,a⟩]→p∈Os∨p=⟨nx,List.replicate k 0,P,a⟩:=fun p hp=>by
  rcases List.mem_append.1 hp with h1|h1
  ·exact .inl h1
  ·exact .inr (by simpa using h1)
 refine⟨hA,x0,x1,x2,x3,by rw [List.length_append];exact hmap,h.sg,h.sp,h.sm,h.gm,h.pm,fun p hp=>?_,fun p hp j hj=>?_,fun p hp=>?_,?_,fun i=>?_,fun p hp j hj=>?_,?_,fun p hp=>?_,⟨by have:=h.nx1;omega,by omega⟩,⟨by rw [List.length_append];simp;omega,h.rm.2⟩,fun p hp=>?_⟩
 ·rcases hmem p hp with h1|rfl
  ·refine (h.rows p h1).but hb (fun j hj=>?_)
   obtain⟨a1,a2,a3,a4,a5⟩:=h.off p h1 j hj
   rintro (e|e|e|e)
   ·exact a1 e
   ·exact a2 e
   ·exact a3 e
   ·exact a4 e
  ·simp only [hPl]
   exact hrow
 ·rcases hmem p hp with h1|rfl
  ·obtain⟨a1,a2,a3,a4,a5⟩:=h.off p h1 j hj
   exact⟨a1,a2,a3,a4,Nat.lt_of_lt_of_le a5 hb.size⟩
  ·have:=hblk j hj
   simp only at hsl
   exact⟨by omega,by omega,by omega,by omega,this.2⟩
 ·rcases hmem p hp with h1|rfl
  ·exact h.len p h1
  ·simp [hPl]
 ·rw [allP_append,List.nodup_append]
  refine⟨h.nd,hPn,fun i hi j hj e=>?_⟩
  subst e
  have h1:=hPm i hj
  rw [h.tks i] at h1
  exact absurd hi (by simpa using h1)
 ·rw [allP_append]
  simp only [tk,h.tks i,List.mem_append,Bool.decide_or]
 ·rcases hmem p hp with h1|rfl
  ·exact h.bytes p h1 j hj
  ·simp only [List.length_replicate] at hj
   have hq:j / 64<P.length:=by rw [hPl];unfold needN;omega
   simp only
   rw [h.arn.zero _ _ (hPm _ (getD_mem hq))]
   simp [List.getD_eq_getElem?_getD,hj]
 ·rw [List.pairwise_append]
  refine⟨h.rise,by simp,fun p hp q hq=>?_⟩
  simp only [List.mem_singleton] at hq
  subst hq
  exact (h.ids p hp).2
 ·rcases hmem p hp with h1|rfl
  ·have:=h.ids p h1
   omega
  ·have:=h.nx1
   simp only
   omega
 ·rcases hmem p hp with h1|rfl
  ·exact h.big p h1
  ·simpa using hk
theorem mayE_zero {room n:Nat}{nx:Int}{Os:List Ob}{size:Int}(h:mayE room n nx Os size=0):0≤size∧size≤4096∧Os.length<room∧nx≤4611686018427387904∧needN size.toNat≤n - usedN Os:=by
 unfold mayE at h
 repeat' split at h
 ·omega
 ·omega
 ·omega
 ·omega
theorem create_ok (s g pb m n room:Nat)(nx:Int)(t:Nat→Bool)(B:Nat→Nat→Nat)(Os:List Ob)(k:Nat)(w:World)(h:Sto w s g pb m n room nx t B Os)(hE:mayE room n nx Os (k:Int)=0) :
  Calls Tryz.prog 105 #[.pointer (some ⟨s,0,none⟩),.int .i64 (k:Int)] w fun e w'=>∃a t',e=.returned (.tuple #[.int .i64 nx,.int .i64 0])∧(∀j,Blk a j→w.heap.size≤j∧j<w'.heap.size)∧Sto w' s g pb m n room (nx+1) t' B (Os++[⟨nx,List.replicate k 0,(lst n t false).take (needN k),a⟩])∧But (Sb s g pb m) w w':=by
 obtain⟨_,hk,hroom,hnx,hneed⟩:=mayE_zero hE
 rw [Int.toNat_natCast] at hneed
 have hk2:k≤4096:=by omega
 have hf:needN k≤(lst n t false).length:=by have:=h.count;omega
 have H:=hid h
 have HE:=hid hE
 have HR:=hid hroom
 have HF:=hid hf
 have hsg:=h.sg
 have hsm:=h.sm
 have hgm:=h.gm
 have hnx1:=h.nx1.1
 clear h hE hroom hf hneed hk
 go_enter Tryz.func105,Tryz.ntmps105
 go_upto_region 4 with (first|(go_at_call 103;refine (may_any s g pb m n room nx t B Os (k:Int) _ H.out).mono ?_;rintro e w1 ⟨rfl,hb⟩;rw [HE.out];have HB:=hid hb;clear hb))
 have H1:=hid (H.out.later HB.out)
 have HS:Hid (∀W,But (·=g) w1 W→(W.cell? ⟨s,0,none⟩=some (.pointer (some ⟨g,0,none⟩)))∧But (·=g) w1 W):=hid (fun W hW=>⟨cb_ hW H1.out.c0.1 hsg,hW⟩)
 go_region_held3 (fun W=>(W.cell? ⟨s,0,none⟩=some (.pointer (some ⟨g,0,none⟩)))∧But (·=g) w1 W) (first|exact HS.out _ (But.of (Below.refl _ _).drew)|exact HS.out _ hb2.out) (first
  | (go_at_call 151;refine (need_any k _ hk2).mono ?_;rintro e w2 ⟨rfl,hw⟩;obtain rfl:=hw.symm)
  | (go_at_call 154;refine (take_ok g pb n t B (needN k) _ (H1.out.arn.later (Below.refl _ _).drew) HF.out).mono ?_;rintro e w2 ⟨a,rfl,R2,A2,b2⟩;have hb2:=hid ((But.of (S:=(·=g)) (Below.refl w1.heap.size w1).drew).trans b2)))
 have HA2:=hid A2
 have HR2:=hid R2
 have y0:=H1.out.c0.but hb2.out hsg
 have y1:=H1.out.c1.but hb2.out hsg
 have y2:=H1.out.c2.but hb2.out hsg
 have y3:=H1.out.c3.but hb2.out hsg
 have hm2:=owns_but hb2.out H1.out.map (fun e=>hgm e.symm)
 obtain⟨P,hP⟩:∃P,P=(lst n t false).take (needN k):=⟨_,rfl⟩
 obtain⟨K,hK⟩:∃K,K=needN k:=⟨_,rfl⟩
 have hPl:P.length=K:=by rw [hP,hK,List.length_take];have:=HF.out;omega
 obtain⟨w3,hrun,hm3,htn⟩:=hm2.store law3 Tryz.underlying137 (by have:=HR.out;have:=H.out.rm.2;unfold maxLen;omega) (key:=.int .i64 nx) (kl:=.int .i64 nx) (key3 (by omega)) (val:=.agg #[.int .i64 (k:Int),.slice a K K]) (d:=.held (.agg #[.int .i64 (k:Int),.slice a K K])) (ps:=[]) rfl
 have hb3:=turned_but htn
 have hsmn:¬s=m:=hsm
 have z0:=y0.but hb3 hsmn
 have z1:=y1.but hb3 hsmn
 have z2:=y2.but hb3 hsmn
 have z3:=y3.but hb3 hsmn
 have HM3:Hid (w3.ownsMap Tryz.prog 3 hr m (Os.length+1) (mapD (Os++[⟨nx,List.replicate k 0,P,a⟩]))):=hid (by
  have e:=put_mapD Os ⟨nx,List.replicate k 0,P,a⟩ (fun p hp=>(H.out.ids p hp).2)
  simp only [Ob.val,List.length_replicate,hPl] at e
  rw [←e]
  exact hm3)
 have HZ0:=hid z0
 have HZ1:=hid z1
 have HZ2:=hid z2
 have HZ3:=hid z3
 have HB3:=hid hb3
 have e1:=y1.1
 have e3:=y3.1
 have f3:=z3.1
 have g3:=z3.2
 have hwr:IntKind.i64.wrap (nx+1)=nx+1:=by rw [IntKind.wrap_i64];omega
 rw [←hK]
 have HP:=hid hP
 have HK:=hid hK
 have HPL:=hid hPl
 clear A2 R2 b2 y0 y1 y2 y3 hm2 hm3 htn hb3 z0 z1 z2 z3 hP hK hPl hw
 go_wp2
 have hP:=HP.out
 have hK:=HK.out
 subst hK
 have hsz:=HB.out.size
 have hml:=H1.out.map.lt
 have hsl:s<w1.heap.size:=World.block_lt_of_cell? _ _ H1.out.c0.1
 have b4:But (·=s) w3 (w3.setCell ⟨s,3,none⟩ (.int .i64 (nx+1))):=But.setCell (S:=(·=s)) (But.refl _ _) (p:=⟨s,3,none⟩) (show s=s from rfl) _
 have hge:=HR2.out.ge
 have hlt:=HR2.out.lt
 have hdw:w1.drew.heap.size=w1.heap.size:=rfl
 rw [hdw] at hge
 have hall:But (Sb s g pb m) w (w3.setCell ⟨s,3,none⟩ (.int .i64 (nx+1))):=(((But.of HB.out).trans (hb2.out.mono (fun _ h=>.inr (.inl h)))).trans (HB3.out.mono (fun _ h=>.inr (.inr (.inr h))))).trans (b4.mono (fun _ h=>.inl h))
 refine bodyPost_ret (v:=.tuple #[.int .i64 nx,.int .i64 0]) (by simp [results,Tryz.results105,go_sem]) rfl ⟨a,tk t ((lst n t false).take (needN k)),rfl,fun j hj=>⟨by have:=hge j hj;omega,Nat.lt_of_lt_of_le (hlt j hj) (Nat.le_trans HB3.out.size b4.size)⟩,?_,hall⟩
 rw [hP] at HM3
 refine H.out.create hk2 HF.out HR.out hnx ((HA2.out.but HB3.out hgm H.out.pm).but b4 (Ne.symm hsg) (Ne.symm H.out.sp)) ((HR2.out.row.but HB3.out (fun j hj e=>?_)).but b4 (fun j hj e=>?_)) (fun j hj=>⟨by have:=hge j hj;omega,Nat.lt_of_lt_of_le (hlt j hj) (Nat.le_trans HB3.out.size b4.size)⟩) (HZ0.out.other (by simp)) (HZ1.out.other (by simp)) (HZ2.out.other (by simp)) HZ3.out.put (HM3.out.setCell (a:=⟨s,3,none⟩) (Ne.symm hsm) _) hall
 ·have:=hge j hj
  omega
 ·have:=hge j hj
  omega
theorem mem_without {id:Int}{Os:List Ob}{p:Ob}:p∈without id Os↔p∈Os∧p.id≠id:=by simp [without]
theorem allP_without {Os:List Ob}{id:Int}{o:Ob}(hr:Os.Pairwise (fun a b=>a.id<b.id))(hn:(allP Os).Nodup)(ho:at? Os id=some o)(i:Nat):i∈allP (without id Os)↔i∈allP Os∧¬i∈o.pages:=by
 have hm:=at_mem ho
 simp only [allP,List.mem_flatMap,mem_without]
 constructor
 ·rintro ⟨p,⟨hp,hne⟩,hi⟩
  exact⟨⟨p,hp,hi⟩,(nodup_flat hn).2 p hp o hm.1 (by rw [hm.2];exact hne) i hi⟩
 ·rintro ⟨⟨p,hp,hi⟩,hno⟩
  exact⟨p,⟨hp,fun e=>hno (by rw [←at_uniq hr ho hp e];exact hi)⟩,hi⟩
theorem nodup_without (id:Int):∀(Os:List Ob),(allP Os).Nodup→(allP (without id Os)).Nodup
 | [],h=>h
 | a::r,h=>by
  have h2:(a.pages++allP r).Nodup:=by simpa [allP] using h
  rw [List.nodup_append] at h2
  have ih:=nodup_without id r h2.2.1
  unfold without at ih ⊢
  rw [List.filter_cons]
  split
  ·show (a.pages++allP _).Nodup
   rw [List.nodup_append]
   refine⟨h2.1,ih,fun x hx y hy=>h2.2.2 x hx y ?_⟩
   obtain⟨p,hp,hy⟩:=List.mem_flatMap.1 hy
   exact List.mem_flatMap.2 ⟨p,(List.mem_filter.1 hp).1,hy⟩
  ·exact ih
theorem mem_nats {l:List Nat}{i:Nat}:((i:Int)∈nats l)↔i∈l:=by
 simp only [nats,List.mem_map]
 constructor
 ·rintro ⟨x,hx,e⟩
  have:x=i:=by omega
  exact this ▸ hx
 ·intro h
  exact⟨i,h,rfl⟩
theorem Sto.destroy {w w':World}{s g pb m n room:Nat}{nx:Int}{t:Nat→Bool}{B:Nat→Nat→Nat}{Os:List Ob}{id:Int}{o:Ob}(h:Sto w s g pb m n room nx t B Os)(ho:at? Os id=some o)
  (hA:Arn w' g pb n (gT t (nats o.pages)) (gB B (nats o.pages))) (x0:Lies w' ⟨s,0,none⟩ (.pointer (some ⟨g,0,none⟩))) (x1:Lies w' ⟨s,1,none⟩ (.map (some m))) (x2:Lies w' ⟨s,2,none⟩ (.int .i64 (room:Int))) (x3:Lies w' ⟨s,3,none⟩ (.int .i64 nx))
  (hmap:w'.ownsMap Tryz.prog 3 hr m Os.length (mapD (without id Os))) (hb:But (Sb s g pb m) w w'):Sto w' s g pb m n room nx (gT t (nats o.pages)) (gB B (nats o.pages)) (without id Os):=by
 have hm:=at_mem ho
 have hnf:=nodup_flat h.nd
 refine⟨hA,x0,x1,x2,x3,owns_tight hmap,h.sg,h.sp,h.sm,h.gm,h.pm,fun p hp=>?_,fun p hp j hj=>?_,fun p hp=>h.len p (mem_without.1 hp).1,nodup_without id Os h.nd,fun i=>?_,fun p hp j hj=>?_,?_,fun p hp=>h.ids p (mem_without.1 hp).1,h.nx1,⟨Nat.le_trans (List.length_filter_le _ _) h.rm.1,h.rm.2⟩,fun p hp=>h.big p (mem_without.1 hp).1⟩
 ·refine (h.rows p (mem_without.1 hp).1).but hb (fun j hj=>?_)
  obtain⟨a1,a2,a3,a4,a5⟩:=h.off p (mem_without.1 hp).1 j hj
  rintro (e|e|e|e)
  ·exact a1 e
  ·exact a2 e
  ·exact a3 e
  ·exact a4 e
 ·obtain⟨a1,a2,a3,a4,a5⟩:=h.off p (mem_without.1 hp).1 j hj
  exact⟨a1,a2,a3,a4,Nat.lt_of_lt_of_le a5 hb.size⟩
 ·have e:=allP_without h.rise h.nd ho i
  simp only [gT,h.tks i,mem_nats,e,Bool.decide_and,decide_not]
 ·obtain⟨hp1,hp2⟩:=mem_without.1 hp
  have hlp:=h.len p hp1
  have hq:j / 64<p.pages.length:=by unfold needN at hlp;omega
  have hno:=hnf.2 p hp1 o hm.1 (by rw [hm.2];exact hp2) _ (getD_mem hq)
  rw [gB,if_neg (fun e=>hno (mem_nats.1 e))]
  exact h.bytes p hp1 j hj
 ·exact List.Pairwise.filter _ h.rise
theorem destroy_none (s g pb m n room:Nat)(nx:Int)(t:Nat→Bool)(B:Nat→Nat→Nat)(Os:List Ob)(id:Int)(w:World)(h:Sto w s g pb m n room nx t B Os)(hi:-9223372036854775808≤id∧id<9223372036854775808)(ho:at? Os id=none) :
  Calls Tryz.prog 200 #[.pointer (some ⟨s,0,none⟩),.int .i64 id] w fun e w'=>e=.returned (.int .i64 20)∧Below w.heap.size w w':=by
 have x:=h.c1.1
 have hl:=look_none h hi ho
 have hz:=zero_of info214
 clear h
 go_enter Tryz.func200,Tryz.ntmps200
 go_wp2
 go_ret
 exact⟨rfl,below1 _ _⟩
theorem give_ok (g pb n:Nat)(t:Nat→Bool)(B:Nat→Nat→Nat)(a:Option Addr)(m cap:Nat)(l:List Int)(w:World)(h:Arn w g pb n t B)(hR:Row w a m cap (ints l))(hm63:m<9223372036854775807)(hap:∀k,Blk a k→k≠pb)(hok:gOk n t l) :
  Calls Tryz.prog 231 #[.pointer (some ⟨g,0,none⟩),.slice a m cap] w fun e w'=>e=.returned (.int .i64 0)∧Arn w' g pb n (gT t l) (gB B l)∧But (fun k=>k=g∨k=pb) w w':=by
 refine (give_any g pb n t B a m cap l w h hR hm63 hap).mono ?_
 rintro e w' (⟨_,h1,h2,h3⟩|⟨h1,_⟩)
 ·exact⟨h1,h2,h3⟩
 ·exact absurd hok h1
theorem destroy_ok (s g pb m n room:Nat)(nx:Int)(t:Nat→Bool)(B:Nat→Nat→Nat)(Os:List Ob)(id:Int)(o:Ob)(w:World)(h:Sto w s g pb m n room nx t B Os)(hi:-9223372036854775808≤id∧id<9223372036854775808)(ho:at? Os id=some o) :
  Calls Tryz.prog 200 #[.pointer (some ⟨s,0,none⟩),.int .i64 id] w fun e w'=>∃t' B',e=.returned (.int .i64 0)∧Sto w' s g pb m n room nx t' B' (without id Os)∧But (Sb s g pb m) w w':=by
 have x:=h.c1.1
 have hl:=look_some h hi ho
 have hz:=zero_of info214
 have hmem:=(at_mem ho).1
 have H:=hid h
 have hsg:=h.sg
 have hsp:=h.sp
 have hsm:=h.sm
 have hgm:=h.gm
 have hpm:=h.pm
 obtain⟨w1,hw1⟩:∃w1,w1=w.alloc (Obj.cells #[Value.int .i64 (o.data.length:Int),Value.slice o.adr o.pages.length o.pages.length] 214):=⟨_,rfl⟩
 have HB1:Hid (Below w.heap.size w w1):=hid (by rw [hw1];exact below1 _ _)
 have HC1:Hid (w1.cell? ⟨w.heap.size,1,none⟩=some (.slice o.adr o.pages.length o.pages.length)):=hid (by rw [hw1];exact (lies_new _ _ _ 1 _ rfl).1)
 have H1:=hid (h.later HB1.out)
 obtain⟨w2,hdel,hm2,htn⟩:=H1.out.map.drop law3 Tryz.underlying137 (key:=.int .i64 id) (kl:=.int .i64 id) (key3 hi) 0
 have hb2:=turned_but htn
 rw [del_mapD] at hm2
 have HM2:=hid hm2
 have HB2:=hid hb2
 have y1:=H1.out.c1.1
 clear h hm2 htn hb2
 rw [hw1] at hdel y1
 go_enter Tryz.func200,Tryz.ntmps200
 go_upto_region 5 with fail
 clear hz hl x y1 hdel hw1
 have HGP:Hid (∀W,But (fun k=>k=g∨k=pb) w2 W→(W.cell? ⟨s,0,none⟩=some (.pointer (some ⟨g,0,none⟩))∧W.cell? ⟨w.heap.size,1,none⟩=some (.slice o.adr o.pages.length o.pages.length))∧But (fun k=>k=g∨k=pb) w2 W):=hid (by
  intro W hW
  have h1:=H.out.arn.glt
  have h2:=H.out.arn.lt
  have h3:=H.out.map.lt
  refine⟨⟨cb_ hW (cb_ HB2.out H1.out.c0.1 hsm) (fun e=>e.elim hsg hsp),cb_ hW (cb_ HB2.out HC1.out ?_) ?_⟩,hW⟩
  ·show ¬w.heap.size=m
   omega
  ·show ¬(w.heap.size=g∨w.heap.size=pb)
   omega)
 have HA2:=hid (H1.out.arn.but HB2.out hgm hpm)
 have HR2:=hid ((H1.out.rows o hmem).but HB2.out (fun j hj=>(H.out.off o hmem j hj).2.2.2.1))
 have HAP:=hid (fun j hj=>(H.out.off o hmem j hj).2.2.1)
 have HPL:Hid (o.pages.length<9223372036854775807):=hid (by have:=H.out.len o hmem;have:=H.out.big o hmem;unfold needN at *;omega)
 have HOK:Hid (gOk n t (nats o.pages)):=hid (by
  refine⟨fun z hz=>?_,?_⟩
  ·simp only [nats,List.mem_map] at hz
   obtain⟨p,hp,rfl⟩:=hz
   obtain⟨h1,h2⟩:=H.out.mem hmem hp
   exact⟨decide_eq_true (by omega),by simpa using h1⟩
  ·have hn:=(nodup_flat H.out.nd).1 o hmem
   unfold nats List.Nodup
   rw [List.pairwise_map]
   unfold List.Nodup at hn
   rw [List.pairwise_iff_getElem] at hn ⊢
   intro i j hi hj hij e
   exact hn i j hi hj hij (by omega))
 go_region_held3 (fun W=>(W.cell? ⟨s,0,none⟩=some (.pointer (some ⟨g,0,none⟩))∧W.cell? ⟨w.heap.size,1,none⟩=some (.slice o.adr o.pages.length o.pages.length))∧But (fun k=>k=g∨k=pb) w2 W) (first|exact HGP.out _ (But.of (Below.refl _ _).drew)|exact HGP.out _ hb3.out) (first
  | (go_at_call 231;refine (give_ok g pb n t B _ _ _ (nats o.pages) _ (HA2.out.later (Below.refl _ _).drew) (HR2.out.later (Below.refl _ _).drew) HPL.out HAP.out HOK.out).mono ?_;rintro e w3 ⟨rfl,A3,b3⟩;have hb3:=hid ((But.of (S:=fun k=>k=g∨k=pb) (Below.refl w2.heap.size w2).drew).trans b3)))
 have HA3:=hid A3
 clear A3 b3
 go_wp2
 go_ret
 have hn2:¬(s=g∨s=pb):=fun e=>e.elim hsg hsp
 have hall:But (Sb s g pb m) w w3:=((But.of HB1.out).trans (HB2.out.mono (fun _ h=>.inr (.inr (.inr h))))).trans (hb3.out.mono (fun _ h=>h.elim (fun e=>.inr (.inl e)) (fun e=>.inr (.inr (.inl e)))))
 refine⟨_,_,rfl,H.out.destroy ho HA3.out ((H1.out.c0.but HB2.out hsm).but hb3.out hn2) ((H1.out.c1.but HB2.out hsm).but hb3.out hn2) ((H1.out.c2.but HB2.out hsm).but hb3.out hn2) ((H1.out.c3.but HB2.out hsm).but hb3.out hn2) (owns_but hb3.out HM2.out (fun e=>e.elim (fun e=>hgm e.symm) (fun e=>hpm e.symm))) hall,hall⟩
open Go.RowKit Go.Maps Go.Sort Go.Shelf
def keysA_ren:Go.Shelf.Ren:=⟨fun|7=>118|10=>172|n=>n,fun|23=>137|26=>3|3=>214|28=>211|0=>0|27=>210|33=>89|4=>4|n=>n,fun|n=>n⟩
theorem keysA:SlLaysZI.n7 Tryz.prog keysA_ren where
 mixed:=by kernel_rfl
 f7:=⟨ "maps.Keys[map[int]sesame/store.object,int,sesame/store.object]",by decide,Tryz.func118.trans (congrArg some (by kernel_rfl))⟩
 f10:=⟨ "maps.Keys[map[int]sesame/store.object,int,sesame/store.object]$1",by decide,Tryz.func172.trans (congrArg some (by kernel_rfl))⟩
 t0:=Tryz.underlying0
 a0:=Tryz.isAgg0
 z0:=Tryz.sizeOf0
 v0:=Tryz.zeroValue0
 t4:=Tryz.underlying4
 a4:=Tryz.isAgg4
 z4:=Tryz.sizeOf4
 v4:=Tryz.zeroValue4
 t23:=Tryz.underlying137
 a23:=Tryz.isAgg137
 z23:=Tryz.sizeOf137
 v23:=Tryz.zeroValue137
 t26:=Tryz.underlying3
 a26:=Tryz.isAgg3
 z26:=Tryz.sizeOf3
 v26:=Tryz.zeroValue3
 t27:=Tryz.underlying210
 a27:=Tryz.isAgg210
 z27:=Tryz.sizeOf210
 v27:=Tryz.zeroValue210
 t28:=Tryz.underlying211
 a28:=Tryz.isAgg211
 z28:=Tryz.sizeOf211
 v28:=Tryz.zeroValue211
 t33:=Tryz.underlying89
 a33:=Tryz.isAgg89
 z33:=Tryz.sizeOf89
 v33:=Tryz.zeroValue89
def sortedA_ren:Go.Shelf.Ren:=⟨fun|6=>117|8=>170|9=>171|11=>208|13=>210|12=>209|23=>246|24=>247|14=>238|15=>239|16=>240|17=>241|18=>242|19=>243|20=>148|21=>244|22=>245|25=>264|26=>265|27=>266|28=>267|29=>268|30=>188|31=>278|n=>n,fun|26=>3|28=>211|24=>43|0=>0|3=>3|37=>245|48=>278|50=>29|4=>4|40=>326|39=>325|45=>193|5=>5|9=>9|51=>356|55=>360|57=>371|58=>372|33=>89|n=>n,fun|n=>n⟩
theorem sortedA:SlLaysZI.n6 Tryz.prog sortedA_ren where
 mixed:=by kernel_rfl
 f6:=⟨ "slices.Sorted[int]",by decide,Tryz.func117.trans (congrArg some (by kernel_rfl))⟩
 f8:=⟨ "slices.Collect[int]",by decide,Tryz.func170.trans (congrArg some (by kernel_rfl))⟩
 f11:=⟨ "slices.AppendSeq[[]int,int]",by decide,Tryz.func208.trans (congrArg some (by kernel_rfl))⟩
 t0:=Tryz.underlying0
 a0:=Tryz.isAgg0
 z0:=Tryz.sizeOf0
 v0:=Tryz.zeroValue0
 t24:=Tryz.underlying43
 a24:=Tryz.isAgg43
 z24:=Tryz.sizeOf43
 v24:=Tryz.zeroValue43
 t26:=Tryz.underlying3
 a26:=Tryz.isAgg3
 z26:=Tryz.sizeOf3
 v26:=Tryz.zeroValue3
 t28:=Tryz.underlying211
 a28:=Tryz.isAgg211
 z28:=Tryz.sizeOf211
 v28:=Tryz.zeroValue211
 i26:=by kernel_rfl
def sortA_ren:Go.Shelf.Ren:=⟨fun|5=>171|8=>210|7=>209|19=>246|20=>247|10=>238|11=>239|12=>240|13=>241|14=>242|15=>243|16=>148|17=>244|18=>245|30=>264|31=>265|32=>266|33=>267|34=>268|35=>188|40=>278|n=>n,fun|23=>43|25=>3|3=>3|32=>245|22=>43|0=>0|44=>278|46=>29|4=>4|36=>326|35=>325|41=>193|5=>5|9=>9|53=>356|57=>360|63=>371|64=>372|n=>n,fun|n=>n⟩
theorem sortA:SlLaysM.n5 Tryz.prog sortA_ren where
 mixed:=by kernel_rfl
 f5:=⟨ "slices.Sort[[]int,int]",by decide,Tryz.func171.trans (congrArg some (by kernel_rfl))⟩
 f7:=⟨ "slices.pdqsortOrdered[int]",by decide,Tryz.func209.trans (congrArg some (by kernel_rfl))⟩
 f8:=Tryz.func210.trans (congrArg some (by kernel_rfl))
 f10:=⟨ "slices.insertionSortOrdered[int]",by decide,Tryz.func238.trans (congrArg some (by kernel_rfl))⟩
 f11:=⟨ "slices.heapSortOrdered[int]",by decide,Tryz.func239.trans (congrArg some (by kernel_rfl))⟩
 f12:=⟨ "slices.breakPatternsOrdered[int]",by decide,Tryz.func240.trans (congrArg some (by kernel_rfl))⟩
 f13:=⟨ "slices.choosePivotOrdered[int]",by decide,Tryz.func241.trans (congrArg some (by kernel_rfl))⟩
 f14:=⟨ "slices.reverseRangeOrdered[int]",by decide,Tryz.func242.trans (congrArg some (by kernel_rfl))⟩
 f15:=⟨ "slices.partialInsertionSortOrdered[int]",by decide,Tryz.func243.trans (congrArg some (by kernel_rfl))⟩
 f16:=⟨ "cmp.Less[int]",by decide,Tryz.func148.trans (congrArg some (by kernel_rfl))⟩
 f17:=⟨ "slices.partitionEqualOrdered[int]",by decide,Tryz.func244.trans (congrArg some (by kernel_rfl))⟩
 f18:=⟨ "slices.partitionOrdered[int]",by decide,Tryz.func245.trans (congrArg some (by kernel_rfl))⟩
 f19:=Tryz.func246.trans (congrArg some (by kernel_rfl))
 f20:=Tryz.func247.trans (congrArg some (by kernel_rfl))
 f30:=⟨ "slices.siftDownOrdered[int]",by decide,Tryz.func264.trans (congrArg some (by kernel_rfl))⟩
 f31:=Tryz.func265.trans (congrArg some (by kernel_rfl))
 f32:=Tryz.func266.trans (congrArg some (by kernel_rfl))
 f33:=⟨ "slices.medianAdjacentOrdered[int]",by decide,Tryz.func267.trans (congrArg some (by kernel_rfl))⟩
 f34:=⟨ "slices.medianOrdered[int]",by decide,Tryz.func268.trans (congrArg some (by kernel_rfl))⟩
 f35:=⟨ "cmp.isNaN[int]",by decide,Tryz.func188.trans (congrArg some (by kernel_rfl))⟩
 f40:=⟨ "slices.order2Ordered[int]",by decide,Tryz.func278.trans (congrArg some (by kernel_rfl))⟩
 t0:=Tryz.underlying0
 a0:=Tryz.isAgg0
 z0:=Tryz.sizeOf0
 v0:=Tryz.zeroValue0
 t3:=Tryz.underlying3
 a3:=Tryz.isAgg3
 z3:=Tryz.sizeOf3
 v3:=Tryz.zeroValue3
 t4:=Tryz.underlying4
 a4:=Tryz.isAgg4
 z4:=Tryz.sizeOf4
 v4:=Tryz.zeroValue4
 t5:=Tryz.underlying5
 a5:=Tryz.isAgg5
 z5:=Tryz.sizeOf5
 v5:=Tryz.zeroValue5
 t9:=Tryz.underlying9
 a9:=Tryz.isAgg9
 z9:=Tryz.sizeOf9
 v9:=Tryz.zeroValue9
 t22:=Tryz.underlying43
 a22:=Tryz.isAgg43
 z22:=Tryz.sizeOf43
 v22:=Tryz.zeroValue43
 t23:=Tryz.underlying43
 a23:=Tryz.isAgg43
 z23:=Tryz.sizeOf43
 v23:=Tryz.zeroValue43
 t25:=Tryz.underlying3
 a25:=Tryz.isAgg3
 z25:=Tryz.sizeOf3
 v25:=Tryz.zeroValue3
 t32:=Tryz.underlying245
 a32:=Tryz.isAgg245
 z32:=Tryz.sizeOf245
 v32:=Tryz.zeroValue245
 t35:=Tryz.underlying325
 a35:=Tryz.isAgg325
 z35:=Tryz.sizeOf325
 v35:=Tryz.zeroValue325
 t36:=Tryz.underlying326
 a36:=Tryz.isAgg326
 z36:=Tryz.sizeOf326
 v36:=Tryz.zeroValue326
 t41:=Tryz.underlying193
 a41:=Tryz.isAgg193
 z41:=Tryz.sizeOf193
 v41:=Tryz.zeroValue193
 t44:=Tryz.underlying278
 a44:=Tryz.isAgg278
 z44:=Tryz.sizeOf278
 v44:=Tryz.zeroValue278
 t46:=Tryz.underlying29
 a46:=Tryz.isAgg29
 z46:=Tryz.sizeOf29
 v46:=Tryz.zeroValue29
 t53:=Tryz.underlying356
 a53:=Tryz.isAgg356
 z53:=Tryz.sizeOf356
 v53:=Tryz.zeroValue356
 t57:=Tryz.underlying360
 a57:=Tryz.isAgg360
 z57:=Tryz.sizeOf360
 v57:=Tryz.zeroValue360
 t63:=Tryz.underlying371
 a63:=Tryz.isAgg371
 z63:=Tryz.sizeOf371
 v63:=Tryz.zeroValue371
 t64:=Tryz.underlying372
 a64:=Tryz.isAgg372
 z64:=Tryz.sizeOf372
 v64:=Tryz.zeroValue372
theorem sortsA (m:Nat):AnyZI.SortsIn Tryz.prog sortedA_ren Fence.wide m :=
 ⟨fun blk off cap ss W hH hblk hsz=>callsIn_wide.2 (AnyM.slices_Sort_int sortA blk off cap ss W hH hblk hsz),
 fun p cap W=>callsIn_wide.2 (AnyM.slices_Sort_int_none sortA p cap W)⟩
theorem ids_raw (s b nn:Nat)(D0:DataW Value)(w:World)(x:w.cell? ⟨s,1,none⟩=some (.map (some b)))(hown:w.ownsMap Tryz.prog 3 hr b nn D0)(hmax:Maps.size D0≤maxLen)(hbytes:Maps.size D0*8≤140737488355328) :
  Calls Tryz.prog 69 #[.pointer (some ⟨s,0,none⟩)] w fun e w'=>∃(v:Value) (ss:List Int),e=.returned v∧ss.Perm (intKeys D0) ∧
   w'.ownsRow w.heap.size 3 1 v ss.length ((ss.mergeSort leI).map encZ)∧(v=.slice none 0 0↔ss=[])∧Below w.heap.size w w':=by
 refine (callsIn_wide (n:=6)).1 ?_
 have hbl:=hown.lt
 have hseq:SeqGives Fence.wide 2 Tryz.prog 172 #[.pointer (some ⟨w.heap.size,0,none⟩)] encZ (fun ss=>ss.Perm (intKeys D0)) (Maps.size D0) (w.alloc (.cells #[.map (some b)] 137)) :=
  AnyZI.keys_gives (ρ:=keysA_ren) { keysA with } Fence.wide _ trivial rfl (by omega) w.heap.size b nn D0 _ (by simp) (by simp) (by
   obtain⟨es,clock,hb,Ft,hs,hD⟩:=hown
   exact⟨es,clock,(Below.heap_alloc _ _ b hbl).trans hb,Ft,hs,hD⟩)
 have cK:∀mb W,CallsIn Fence.wide 5 Tryz.prog 118 #[.map mb] W fun e w'=>e=.returned (.func (.func 172) #[] #[.pointer (some ⟨W.heap.size,0,none⟩)])∧w'=W.alloc (.cells #[.map mb] 137):=fun mb W=>AnyZI.keys_in keysA Fence.wide 5 trivial rfl mb W
 have cS:=AnyZI.sorted_in sortedA Fence.wide 5 trivial trivial trivial trivial rfl (by omega) (sortsA _) (enters_of Tryz.func171 (by kernel_rfl) rfl) 172 #[.pointer (some ⟨w.heap.size,0,none⟩)] trivial (enters_of Tryz.func172 (by kernel_rfl) rfl) _ _ hmax hbytes _ hseq
 change CallsIn _ _ Tryz.prog 117 _ _ _ at cS
 have hfK:Fence.wide.fn 118:=trivial
 have hfS:Fence.wide.fn 117:=trivial
 clear hseq hown
 refine callsIn_of_wp Tryz.func69 rfl trivial ?_ rfl
 simp only [Tryz.ntmps69,List.size_toArray,List.length_cons,List.length_nil,Nat.reduceAdd,Nat.reduceSub,Array.replicate_succ,Array.replicate_zero,List.push_toArray,List.append_toArray,List.nil_append,List.cons_append]
 gi_wp2_with (first
  | (gi_at_call 118;refine (cK _ _).mono ?_;rintro e w' ⟨rfl,rfl⟩)
  | (gi_at_call 117;refine cS.mono ?_;rintro e w' ⟨v,ss,rfl,hS,hrow,hnil,hb⟩))
 go_ret
 exact⟨v,ss,rfl,hS,own_mono hrow (by simp),hnil,((Below.refl _ w).alloc (Nat.le_refl _) _).trans (hb.mono (by simp))⟩
theorem ids_any (s g pb m n room:Nat)(nx:Int)(t:Nat→Bool)(B:Nat→Nat→Nat)(Os:List Ob)(w:World)(h:Sto w s g pb m n room nx t B Os) :
  Calls Tryz.prog 69 #[.pointer (some ⟨s,0,none⟩)] w fun e w'=>∃a cap,e=.returned (.slice a Os.length cap)∧Own w' w.heap.size 3 a Os.length cap (ints (Os.map Ob.id))∧Below w.heap.size w w':=by
 have hrm:=h.rm
 refine (ids_raw s m Os.length (mapD Os) w h.c1.1 h.map (by rw [size_mapD];unfold maxLen;omega) (by rw [size_mapD];omega)).mono ?_
 rintro e w' ⟨v,ss,rfl,hS,hrow,hnil,hb⟩
 rw [keys_mapD] at hS
 have hl:ss.length=Os.length:=by rw [hS.length_eq];simp
 have hsort:ss.mergeSort leI=Os.map Ob.id:=by
  rw [mergeSort_of_perm_i hS]
  refine sorted_keys ?_
  rw [List.pairwise_map]
  exact h.rise
 rw [hsort,hl] at hrow
 obtain⟨a,cap,rfl⟩:∃a cap,v=.slice a Os.length cap:=by
  rcases hrow.2 with ⟨h1,h2⟩|⟨g',cap',_,h1,_⟩
  ·exact⟨none,0,by rw [h1,h2]⟩
  ·exact⟨_,cap',h1⟩
 exact⟨a,cap,rfl,⟨hrow,ints_one _⟩,hb⟩
structure Sid where
 s:Nat
 g:Nat
 pb:Nat
 m:Nat
 n:Nat
 room:Nat
def St (w:World)(z:Sid)(nx:Int)(Os:List Ob):Prop:=∃t B,Sto w z.s z.g z.pb z.m z.n z.room nx t B Os
def Zb (z:Sid)(k:Nat):Prop:=Sb z.s z.g z.pb z.m k
def i64ok (x:Int):Prop:=-9223372036854775808≤x∧x<9223372036854775808
theorem St.but {S:Nat→Prop}{w w':World}{z:Sid}{nx:Int}{Os:List Ob}(hb:But S w w')(h:St w z nx Os)(h1:∀k,Zb z k→¬S k)(h2:∀k,Rb Os k→¬S k):St w' z nx Os:=by
 obtain⟨t,B,h⟩:=h
 exact⟨t,B,h.but hb h1 h2⟩
theorem St.later {w w':World}{z:Sid}{nx:Int}{Os:List Ob}(hb:Below w.heap.size w w')(h:St w z nx Os):St w' z nx Os:=by
 obtain⟨t,B,h⟩:=h
 exact⟨t,B,h.later hb⟩
theorem St.used {w:World}{z:Sid}{nx:Int}{Os:List Ob}(h:St w z nx Os):usedN Os≤z.n∧z.n≤256:=by
 obtain⟨t,B,h⟩:=h
 have:=h.count
 have:=h.arn.le
 omega
theorem st_new (room n:Nat)(w:World)(h1:1≤room∧room≤64)(h2:1≤n∧n≤256) :
  Calls Tryz.prog 49 #[.int .i64 (room:Int),.int .i64 (n:Int)] w fun e w'=>∃z:Sid,z.n=n∧z.room=room∧e=.returned (.tuple #[.pointer (some ⟨z.s,0,none⟩),.int .i64 0])∧St w' z 1 []∧(∀k,Zb z k→w.heap.size≤k∧k<w'.heap.size)∧Below w.heap.size w w':=by
 refine (snew_ok room n w h1 h2).mono ?_
 rintro e w' ⟨s,g,pb,m,rfl,hS,hk,hb⟩
 exact⟨⟨s,g,pb,m,n,room⟩,rfl,rfl,rfl,⟨_,_,hS⟩,hk,hb⟩
theorem st_next (z:Sid)(nx:Int)(Os:List Ob)(w:World)(h:St w z nx Os) :
  Calls Tryz.prog 38 #[.pointer (some ⟨z.s,0,none⟩)] w fun e w'=>e=.returned (.int .i64 nx)∧w'=w:=by
 obtain⟨t,B,h⟩:=h
 exact snext_any _ _ _ _ _ _ _ _ _ _ _ h
theorem st_may (z:Sid)(nx:Int)(Os:List Ob)(size:Int)(w:World)(h:St w z nx Os) :
  Calls Tryz.prog 103 #[.pointer (some ⟨z.s,0,none⟩),.int .i64 size] w fun e w'=>e=.returned (.int .i64 (mayE z.room z.n nx Os size))∧Below w.heap.size w w':=by
 obtain⟨t,B,h⟩:=h
 exact may_any _ _ _ _ _ _ _ _ _ _ _ _ h
theorem st_ids (z:Sid)(nx:Int)(Os:List Ob)(w:World)(h:St w z nx Os) :
  Calls Tryz.prog 69 #[.pointer (some ⟨z.s,0,none⟩)] w fun e w'=>∃a cap,e=.returned (.slice a Os.length cap)∧Own w' w.heap.size 3 a Os.length cap (ints (Os.map Ob.id))∧Below w.heap.size w w':=by
 obtain⟨t,B,h⟩:=h
 exact ids_any _ _ _ _ _ _ _ _ _ _ _ h
theorem st_size (z:Sid)(nx:Int)(Os:List Ob)(id:Int)(w:World)(h:St w z nx Os)(hi:i64ok id) :
  Calls Tryz.prog 119 #[.pointer (some ⟨z.s,0,none⟩),.int .i64 id] w fun e w'=>e=.returned (match at? Os id with|some o=>.tuple #[.int .i64 (o.data.length:Int),.bool true]|none=>.tuple #[.int .i64 0,.bool false])∧Below w.heap.size w w':=by
 obtain⟨t,B,h⟩:=h
 cases ho:at? Os id with
 | none=>exact size_none _ _ _ _ _ _ _ _ _ _ _ _ h hi ho
 | some o=>exact size_some _ _ _ _ _ _ _ _ _ _ _ _ _ h hi ho
theorem st_create_ok (z:Sid)(nx:Int)(Os:List Ob)(k:Nat)(w:World)(h:St w z nx Os)(hE:mayE z.room z.n nx Os (k:Int)=0) :
  Calls Tryz.prog 105 #[.pointer (some ⟨z.s,0,none⟩),.int .i64 (k:Int)] w fun e w'=>∃P a,e=.returned (.tuple #[.int .i64 nx,.int .i64 0])∧(∀j,Blk a j→w.heap.size≤j∧j<w'.heap.size)∧St w' z (nx+1) (Os++[⟨nx,List.replicate k 0,P,a⟩])∧But (Zb z) w w':=by
 obtain⟨t,B,h⟩:=h
 refine (create_ok _ _ _ _ _ _ _ _ _ _ k w h hE).mono ?_
 rintro e w' ⟨a,t',rfl,hb,hS,hB⟩
 exact⟨_,a,rfl,hb,⟨t',B,hS⟩,hB⟩
theorem st_destroy_ok (z:Sid)(nx:Int)(Os:List Ob)(id:Int)(o:Ob)(w:World)(h:St w z nx Os)(hi:i64ok id)(ho:at? Os id=some o) :
  Calls Tryz.prog 200 #[.pointer (some ⟨z.s,0,none⟩),.int .i64 id] w fun e w'=>e=.returned (.int .i64 0)∧St w' z nx (without id Os)∧But (Zb z) w w':=by
 obtain⟨t,B,h⟩:=h
 refine (destroy_ok _ _ _ _ _ _ _ _ _ _ id o w h hi ho).mono ?_
 rintro e w' ⟨t',B',rfl,hS,hB⟩
 exact⟨rfl,⟨t',B',hS⟩,hB⟩
theorem st_destroy_none (z:Sid)(nx:Int)(Os:List Ob)(id:Int)(w:World)(h:St w z nx Os)(hi:i64ok id)(ho:at? Os id=none) :
  Calls Tryz.prog 200 #[.pointer (some ⟨z.s,0,none⟩),.int .i64 id] w fun e w'=>e=.returned (.int .i64 20)∧Below w.heap.size w w':=by
 obtain⟨t,B,h⟩:=h
 exact destroy_none _ _ _ _ _ _ _ _ _ _ id w h hi ho
def rdE (Os:List Ob)(id off k:Int):Int:=match at? Os id with
 | none=>20
 | some o=>if 0≤off∧0≤k∧k≤1024∧off+k≤(o.data.length:Int) then 0 else 5
def rdL (Os:List Ob)(id off k:Int):List Nat:=match at? Os id with
 | none=>[]
 | some o=>if 0≤off∧0≤k∧k≤1024∧off+k≤(o.data.length:Int) then (o.data.drop off.toNat).take k.toNat else []
theorem st_read (z:Sid)(nx:Int)(Os:List Ob)(id off k:Int)(w:World)(h:St w z nx Os)(hi:i64ok id) :
  Calls Tryz.prog 111 #[.pointer (some ⟨z.s,0,none⟩),.int .i64 id,.int .i64 off,.int .i64 k] w fun e w'=>∃a cap,e=.returned (.tuple #[.slice a (rdL Os id off k).length cap,.int .i64 (rdE Os id off k)])∧Own w' w.heap.size 5 a (rdL Os id off k).length cap (u8s (rdL Os id off k))∧Below w.heap.size w w':=by
 obtain⟨t,B,h⟩:=h
 cases ho:at? Os id with
 | none =>
  have e1:rdL Os id off k=[]:=by simp [rdL,ho]
  have e2:rdE Os id off k=20:=by simp [rdE,ho]
  rw [e1,e2]
  refine (sread_none _ _ _ _ _ _ _ _ _ _ id off k w h hi ho).mono ?_
  rintro e w' ⟨rfl,hb⟩
  exact⟨none,0,rfl,Own.nil _ _ _,hb⟩
 | some o =>
  by_cases hr:rdOk o off k
  ·have hr2:0≤off∧0≤k∧k≤1024∧off+k≤(o.data.length:Int):=hr
   have e1:rdL Os id off k=(o.data.drop off.toNat).take k.toNat:=by simp [rdL,ho,hr2]
   have e2:rdE Os id off k=0:=by simp [rdE,ho,hr2]
   obtain⟨off',rfl⟩:∃q:Nat,off=(q:Int):=⟨off.toNat,by omega⟩
   obtain⟨k',rfl⟩:∃q:Nat,k=(q:Int):=⟨k.toNat,by omega⟩
   have e3:((o.data.drop off').take k').length=k':=by rw [List.length_take,List.length_drop];omega
   rw [e1,e2,Int.toNat_natCast,Int.toNat_natCast,e3]
   refine (sread_ok _ _ _ _ _ _ _ _ _ _ id off' k' o w h hi ho (by omega) (by omega)).mono ?_
   rintro e w' ⟨a,cap,rfl,hO,hb⟩
   exact⟨a,cap,rfl,hO,hb⟩
  ·have hr2:¬(0≤off∧0≤k∧k≤1024∧off+k≤(o.data.length:Int)):=hr
   have e1:rdL Os id off k=[]:=by simp only [rdL,ho,if_neg hr2]
   have e2:rdE Os id off k=5:=by simp only [rdE,ho,if_neg hr2]
   rw [e1,e2]
   refine (sread_bad _ _ _ _ _ _ _ _ _ _ id off k o w h hi ho hr).mono ?_
   rintro e w' ⟨rfl,hb⟩
   exact⟨none,0,rfl,Own.nil _ _ _,hb⟩
def wrO (Os:List Ob)(id off:Int)(D:List Nat):List Ob:=if rdE Os id off (D.length:Int)=0 then Os.map (setO id off.toNat D) else Os
theorem rb_setO {Os:List Ob}{id:Int}{off:Nat}{D:List Nat}{k:Nat}(h:Rb (Os.map (setO id off D)) k):Rb Os k:=by
 obtain⟨o,ho,hk⟩:=h
 obtain⟨p,hp,rfl⟩:=List.mem_map.1 ho
 rw [setO_adr] at hk
 exact⟨p,hp,hk⟩
theorem rb_wrO {Os:List Ob}{id off:Int}{D:List Nat}{k:Nat}(h:Rb (wrO Os id off D) k):Rb Os k:=by
 unfold wrO at h
 split at h
 ·exact rb_setO h
 ·exact h
theorem rb_without {Os:List Ob}{id:Int}{k:Nat}(h:Rb (without id Os) k):Rb Os k:=by
 obtain⟨o,ho,hk⟩:=h
 exact⟨o,(mem_without.1 ho).1,hk⟩
theorem st_write (z:Sid)(nx:Int)(Os:List Ob)(id off:Int)(da:Option Addr)(k cd:Nat)(D:List Nat)(w:World)(h:St w z nx Os)(hi:i64ok id)(hR:Row w da k cd (u8s D))(hD:∀x∈D,x<256)(hap:0<k→∀j,Blk da j→¬Zb z j) :
  Calls Tryz.prog 112 #[.pointer (some ⟨z.s,0,none⟩),.int .i64 id,.int .i64 off,.slice da k cd] w fun e w'=>e=.returned (.int .i64 (rdE Os id off (k:Int)))∧St w' z nx (wrO Os id off D)∧But (Zb z) w w':=by
 obtain⟨t,B,h⟩:=h
 have hk:D.length=k:=by have:=hR.len;rwa [u8s_length] at this
 unfold wrO
 rw [hk]
 cases ho:at? Os id with
 | none =>
  have e2:rdE Os id off (k:Int)=20:=by simp [rdE,ho]
  rw [e2,if_neg (by decide)]
  refine (swrite_none _ _ _ _ _ _ _ _ _ _ id off da k cd w h hi ho).mono ?_
  rintro e w' ⟨rfl,hb⟩
  exact⟨rfl,⟨t,B,h.later hb⟩,But.of hb⟩
 | some o =>
  by_cases hr:rdOk o off (k:Int)
  ·have hr2:0≤off∧0≤(k:Int)∧(k:Int)≤1024∧off+(k:Int)≤(o.data.length:Int):=hr
   have e2:rdE Os id off (k:Int)=0:=by simp only [rdE,ho,if_pos hr2]
   obtain⟨off',rfl⟩:∃q:Nat,off=(q:Int):=⟨off.toNat,by omega⟩
   rw [e2,if_pos rfl,Int.toNat_natCast]
   refine (swrite_ok _ _ _ _ _ _ _ _ _ _ id off' o da k cd D w h hi ho (by omega) (by omega) hR hD (fun h0 j hj e=>hap h0 j hj (.inr (.inr (.inl e))))).mono ?_
   rintro e w' ⟨B',rfl,hS,hb⟩
   exact⟨rfl,⟨t,B',hS⟩,hb.mono (fun _ e=>.inr (.inr (.inl e)))⟩
  ·have hr2:¬(0≤off∧0≤(k:Int)∧(k:Int)≤1024∧off+(k:Int)≤(o.data.length:Int)):=hr
   have e2:rdE Os id off (k:Int)=5:=by simp only [rdE,ho,if_neg hr2]
   rw [e2,if_neg (by decide)]
   refine (swrite_bad _ _ _ _ _ _ _ _ _ _ id off o da k cd w h hi ho hr).mono ?_
   rintro e w' ⟨rfl,hb⟩
   exact⟨rfl,⟨t,B,h.later hb⟩,But.of hb⟩
def usedV (V:List (Int×List Nat)):Nat:=(V.map fun p=>needN p.2.length).sum
def atV (V:List (Int×List Nat))(id:Int):Option (List Nat):=(V.find? fun p=>decide (p.1=id)).map Prod.snd
def mayV (room n:Nat)(nx:Int)(V:List (Int×List Nat))(size:Int):Int :=
 if size<0∨4096<size then 6 else if room≤V.length∨4611686018427387904<nx then 7 else if (n:Int) - (usedV V:Int)<(needN size.toNat:Int) then 8 else 0
def rvE (V:List (Int×List Nat))(id off k:Int):Int:=match atV V id with
 | none=>20
 | some l=>if 0≤off∧0≤k∧k≤1024∧off+k≤(l.length:Int) then 0 else 5
def rvL (V:List (Int×List Nat))(id off k:Int):List Nat:=match atV V id with
 | none=>[]
 | some l=>if 0≤off∧0≤k∧k≤1024∧off+k≤(l.length:Int) then (l.drop off.toNat).take k.toNat else []
def setV (id:Int)(off:Nat)(D:List Nat)(p:Int×List Nat):Int×List Nat:=if p.1=id then (p.1,putL p.2 D off) else p
def wrV (V:List (Int×List Nat))(id off:Int)(D:List Nat):List (Int×List Nat):=if rvE V id off (D.length:Int)=0 then V.map (setV id off.toNat D) else V
def vw (Os:List Ob):List (Int×List Nat):=Os.map fun o=>(o.id,o.data)
theorem vw_length (Os:List Ob):(vw Os).length=Os.length:=by simp [vw]
theorem vw_used (Os:List Ob):usedV (vw Os)=usedN Os:=by simp [usedV,usedN,vw,Function.comp_def]
theorem vw_at (Os:List Ob)(id:Int):atV (vw Os) id=(at? Os id).map Ob.data:=by
 unfold atV at? vw
 rw [List.find?_map]
 simp [Function.comp_def]
theorem vw_rdE (Os:List Ob)(id off k:Int):rvE (vw Os) id off k=rdE Os id off k:=by
 unfold rvE rdE
 rw [vw_at]
 cases at? Os id<;>rfl
theorem vw_rdL (Os:List Ob)(id off k:Int):rvL (vw Os) id off k=rdL Os id off k:=by
 unfold rvL rdL
 rw [vw_at]
 cases at? Os id<;>rfl
theorem vw_append (Os:List Ob)(o:Ob):vw (Os++[o])=vw Os++[(o.id,o.data)]:=by simp [vw]
theorem vw_setO (Os:List Ob)(id:Int)(off:Nat)(D:List Nat):vw (Os.map (setO id off D))=(vw Os).map (setV id off D):=by
 unfold vw
 rw [List.map_map,List.map_map]
 refine List.map_congr_left fun o _=>?_
 simp only [Function.comp,setO,setV]
 split<;>rfl
theorem vw_wrO (Os:List Ob)(id off:Int)(D:List Nat):vw (wrO Os id off D)=wrV (vw Os) id off D:=by
 unfold wrO wrV
 rw [vw_rdE]
 split
 ·exact vw_setO _ _ _ _
 ·rfl
theorem vw_may {w:World}{z:Sid}{nx:Int}{Os:List Ob}(h:St w z nx Os)(size:Int):mayV z.room z.n nx (vw Os) size=mayE z.room z.n nx Os size:=by
 have hu:=h.used
 unfold mayV mayE
 rw [vw_length,vw_used]
 by_cases h1:size<0∨4096<size
 ·rw [if_pos h1,if_pos h1]
 ·rw [if_neg h1,if_neg h1]
  by_cases h2:z.room≤Os.length∨4611686018427387904<nx
  ·rw [if_pos h2,if_pos h2]
  ·rw [if_neg h2,if_neg h2]
   by_cases h3:z.n - usedN Os<needN size.toNat
   ·rw [if_pos h3,if_pos (by omega)]
   ·rw [if_neg h3,if_neg (by omega)]
theorem vw_none {Os:List Ob}{id:Int}:(∀p∈vw Os,p.1≠id)↔at? Os id=none:=by
 unfold vw at?
 rw [List.find?_eq_none]
 simp
theorem rb_append {Os:List Ob}{o:Ob}{k:Nat}(h:Rb (Os++[o]) k):Rb Os k∨Blk o.adr k:=by
 obtain⟨p,hp,hk⟩:=h
 rcases List.mem_append.1 hp with h1|h1
 ·exact .inl ⟨p,h1,hk⟩
 ·simp only [List.mem_singleton] at h1
  subst h1
  exact .inr hk
end Go.Proofs.YtfmhdimaijimlaaGreatDoor.S
