import Derived.Maps.OwnIn
import Derived.Sort.CutIn
import Derived.Test.YtffmodpgddecnaaGreatDoorZ06
set_option linter.unusedVariables false
set_option linter.unusedSimpArgs false
set_option maxRecDepth 100000
set_option maxHeartbeats 40000000
namespace Go.Proofs.YtffmodpgddecnaaGreatDoor
open Go.RowKit Go.Shelf H
theorem zi (i:Nat){F:Fence}{n:Nat}{P:Program}{md:Region.Mode}{ops:Array Oper}{Q:Exit->Act->World->Prop}{fuel:Nat}{listed:Array Bool}{a:Act}{w:World}{o:Oper}(h:∀K':Act->World->Prop,(∀a w,wpAnyIn F n P md ops Q fuel (listed.setIfInBounds i true) a w->K' a w)->if Region.wanted o (yielded ops a.tmps)=true then Oper.wpIn F n P o a w K' Q else (∀f,o.about P w a.eval=some f->F.fn f)/\K' (a.put o.dst undef) w)(ho:ops[i]?=some o:=by exact rfl)(hr:Region.ready md ops listed=[i]:=by kernel_rfl):wpAnyIn F n P md ops Q (fuel+1) listed a w :=
 wpAnyIn_ready hr (by simp) (AllReadyIn.cons ho h AllReadyIn.nil)
attribute [local go_sem] Oper.semAt_some
def bY {l:Fo}{n:Int}(pre:List (Mem l n)):List Int:=pre.map Subtype.val
theorem ib {l:Fo}{n:Int}(pre:List (Mem l n))(x:Mem l n):bY (pre++[x])=bY pre++[x.1]:=by simp [bY]
theorem zM {l:Fo}{n:Int}(pre:List (Mem l n)):(bY pre).length=pre.length:=by simp [bY]
theorem yw {l:Fo}{n:Int}{pre:List (Mem l n)}{x:Int}(h:x∈bY pre):x∈G true l n:=by
 unfold bY at h;obtain⟨y,_,rfl⟩:=List.mem_map.1 h
 exact y.2
theorem pP {l:Fo}{n:Int}:bY (l:=l) (n:=n) (dO true l n).attach=G true l n:=by
 unfold bY;rw [List.attach_map_subtype_val];rfl
structure BD (w:World)(A:Ad)(kn mo:Nat)(X:List Tk)(l:Fo)(B0 B:Nat)(n:Int)(pre:List (Mem l n))(W:World):Prop where
 box:BP B 37 3 W pre.length (aF (sd X (bY pre)))
 c:az W ⟨B0,0,none⟩ (.pointer (some ⟨A.g,0,none⟩))
 cm:Cm W A kn mo (runT (cv X l) X (bY pre)) (fQ X (bY pre)) l
 but:ah A.Wr w W
def tX (A:Ad)(B:Nat)(W:World)(k:Nat):Prop:=A.Wr k\/cF B W k
theorem tR {w:World}{A:Ad}{kn mo:Nat}{X:List Tk}{l:Fo}{B0 B:Nat}{n:Int}{C:Nat}(hA:∀k,A.jD k->k<C)(hw:w.heap.size<=C)(h0:B0<C):OwnFrom C (BD w A kn mo X l B0 B n):=λs W W' row hs hg hr =>
 ⟨hs.box.grown hg hr,hs.c.but (bI hg) (λe=>by have:=(hr _ e).1;simp at this;omega),hs.cm.but (bI hg) (λk hk e=>by have:=(hr _ e).1;have:=hA k hk;omega),hs.but.comp (bI hg) (λi e=>.inr (by have:=(hr _ e).1;omega))⟩
theorem an {F:Fence}{n:Nat}{P:Program}{w:World}{o:Oper}{a:Act}{K:Act->World->Prop}{Q:Exit->Act->World->Prop}(s x:Operand)(t:TypeId)
  (ho:o.op=.call { callee:=.builtin .append,args:=#[s,x],argTypes:=#[t,t] }) (vs vx:Value) (hs:a.eval s=vs) (hx:a.eval x=vx) (v':Value) (w':World)
  (hr:(Builtin.append_ #[t,t] o.type #[vs,vx]).run P w=.ok v' w') (h:K (a.put o.dst v') w'):Oper.wpIn F n P o a w K Q:=by
 unfold Oper.wpIn;refine⟨by simp [Oper.about,ho,resolve,Target.leads,Sem.run_pure],?_⟩
 rw [Oper.semAt_plain F _ _ (by rw [ho];intro c hc;cases hc)]
 simp [execOp,ho,resolve,invoke,builtin,hs,hx,hr,Result.andThen];exact h
theorem pH {w:World}{A:Ad}{kn mo:Nat}{X:List Tk}{l:Fo}(h:ie w A kn mo X l)(n:Int)(hn:n∈aj l) :
  Calls Tryz.prog 324 #[.pointer (some ⟨A.g,0,none⟩),.int .i64 n] w λe w'=>∃a c,e=.returned (.tuple #[.slice a (G true l n).length c,.int .i64 0])/\Ow w' w.heap.size 37 3 a (G true l n).length c (aF ((G true l n).map (λk=>(tk X k).1)))/\ie w' A kn mo (fQ X (G true l n)) (bh l (G true l n))/\ah A.Wr w w':=by
 have mM:=h.cm.small
 have hGl:=l9 h.inv.ok true n
 have HH:=ab h
 have hAll:=ab h.lt
 obtain⟨w0,hw0⟩:∃w0,w0=w.alloc (Obj.cells #[.pointer (some ⟨A.g,0,none⟩)] 94):=⟨_,rfl⟩
 have hB0:Below w.heap.size w w0:=by rw [hw0];exact ae _ _
 have hL0:az w0 ⟨w.heap.size,0,none⟩ (.pointer (some ⟨A.g,0,none⟩)):=by rw [hw0];exact aH _ _ _
 have z0:=hL0.1
 have hlt0:w.heap.size<w0.heap.size:=by rw [hw0];simp
 obtain⟨w2,hw2⟩:∃w2,w2=w0.alloc (Obj.cells #[.slice none 0 0] 71):=⟨_,rfl⟩
 have hB2:Below w0.heap.size w0 w2:=by rw [hw2];exact ae _ _
 have hL2:az w2 ⟨w0.heap.size,0,none⟩ (.slice none 0 0):=by rw [hw2];exact aH _ _ _
 have z2:=(hL0.later hB2).1
 have hh:=ab (fh (h.cm.later hB0) n)
 rw [decide_eq_true hn] at hh;have hmk:=ab (qt (h.cm.later (aa hB0 hB2)) n)
 clear h;refine (callsIn_wide (n:=3)).1 ?_
 refine callsIn_of_wp_marks Tryz.func324 rfl trivial ?_ rfl
 simp only [Tryz.ntmps324,List.size_toArray,List.length_cons,List.length_nil,Nat.reduceAdd,Nat.reduceSub,Array.replicate_succ,Array.replicate_zero,List.push_toArray,List.append_toArray,List.nil_append,List.cons_append];gi_upto_region 1 with fail
 rw [<-hw0];clear hw0;gi_upto_region 4 with (first|(refine⟨trivial,?_⟩;gi_at_call 274;refine (callsIn_wide.2 hh.out).mono ?_;rintro e w9 ⟨rfl,hw9⟩;obtain rfl:=hw9.symm;clear hw9))
 rw [<-hw2];clear hw2;gi_wp2_with (refine⟨trivial,?_⟩;gi_at_call 196;refine (callsIn_wide.2 hmk.out).mono ?_;rintro e w1 ⟨b0,rfl,hS,hB⟩;have HS:=ab hS;have HB:=ab hB;clear hS hB)
 have l1:w0.heap.size<w1.heap.size:=Nat.lt_of_lt_of_le (World.block_lt_of_cell? _ _ hL2.1) HB.out.size
 have hBw1:=aa (aa hB0 hB2) HB.out
 have hM1:=HH.out.cm.later hBw1
 have hL01:=(hL0.later hB2).later HB.out
 have hL21:=hL2.later HB.out
 have hwr:Hid (∀k,A.Wr k->k<w.heap.size):=λk hk=>hAll.out k (.inr (.inr hk))
 have hmx:Tryz.prog.follows .mixedOrders=true:=by kernel_rfl
 have hrng:Hid (∀x∈G true l n,x∈aj l/\0<=x/\x<(mo:Int)):=λx hx=>by
  have h1:=dp HH.out.inv.ok hx
  have:=HH.out.inv.ok.range x h1
  exact⟨h1,this.1,this.2⟩
 refine nQ 7 (by omega) rfl HS.out hM1.nY (tX A w0.heap.size) (λW hW k hk=>?_) (λW L o o' hL hLo ho k hk=>hk.imp id (λhk=>nk l1 W L o o' hL hLo ho k hk))
  (BD w A kn mo X l w.heap.size w0.heap.size n) (tR (λk hk=>by have:=hAll.out k hk;have:=hBw1.size;omega) hBw1.size (by omega)) ⟨⟨none,0,hL21,Ow.nil _ _ _ _⟩,hL01,hM1,ah.of hBw1⟩ ?assign ?body ?done
 ·rcases hk with hk|hk
  ·have:=hwr.out k hk;have:=hBw1.size;omega
  ·exact kp hL21.1 W hW k hk
 case assign =>
  intro L x W K hK;gi_wp2
  exact hK
 case body =>
  rintro L pre x W hI hlt
  simp only [zI,List.setIfInBounds_toArray,List.set];obtain⟨x,hx⟩:=x
  obtain⟨hxl,hx0,hxm⟩:=hrng.out x hx
  obtain⟨k,rfl⟩:∃k:Nat,x=(k:Int):=⟨x.toNat,by omega⟩
  have hkm:k<mo:=by omega
  obtain⟨a,c,hl,hO⟩:=hI.box
  have hpl:pre.length<=2048:=by unfold dO at hlt;omega
  have hwide:(tk (fQ X (bY pre)) (k:Int)).1.2.1<aq/\(tk (fQ X (bY pre)) (k:Int)).1.2.2<aq:=by
   rcases Ax (bY pre) X (k:Int) hx0 (λy hy=>(hrng.out y (yw hy)).2.1) with e|e
   ·rw [e];exact HH.out.inv.wide _ hxl
   ·rw [e];decide
  have hfg:=ab (t_ (hI.cm.later (Below.refl _ _).drew) k hkm hwide)
  have P8:Hid (∀W2,Cm W2 A kn mo (fc (runT (cv X l) X (bY pre)) (tk (fQ X (bY pre)) (k:Int)).1) ((fQ X (bY pre)).set k tz) l->ah A.Wr W.drew W2 ->
    ∃a' c' w3,(Builtin.append_ #[71,71] 71 #[.slice a pre.length c,.slice (some ⟨W2.heap.size,0,none⟩) 1 1]).run Tryz.prog (W2.alloc (Obj.cells #[.int .i64 (tk (fQ X (bY pre)) (k:Int)).1.1,.int .u64 ((tk (fQ X (bY pre)) (k:Int)).1.2.1:Int),.int .u64 ((tk (fQ X (bY pre)) (k:Int)).1.2.2:Int)] 37))=.ok (.slice a' (pre.length+1) c') w3/\az W2 ⟨w0.heap.size,0,none⟩ (.slice a pre.length c)/\az w3 ⟨w0.heap.size,0,none⟩ (.slice a pre.length c) /\
     (KeepsFrom w1.heap.size W (w3.setCell ⟨w0.heap.size,0,none⟩ (.slice a' (pre.length+1) c'))/\Kq (tX A w0.heap.size) W (w3.setCell ⟨w0.heap.size,0,none⟩ (.slice a' (pre.length+1) c'))/\BD w A kn mo X l w.heap.size w0.heap.size n (pre++[⟨(k:Int),hx⟩]) (w3.setCell ⟨w0.heap.size,0,none⟩ (.slice a' (pre.length+1) c')))):=by
   intro W2 hM2 hB2;have hBW:ah A.Wr W W2:=(ah.of (Below.refl _ _).drew).trans hB2
   have hl2:=hl.but hBW (λe=>by have:=hwr.out _ e;simp at this;omega)
   have hO2:=hO.but hBW (λj hj e=>by have:=hwr.out _ e;have:=(hO.bT j hj).1;omega)
   obtain⟨a',c',w3,hrun,hl3,hr⟩:=tj 71 37 _ 3 24 Tryz.underlying71 iz rfl (by omega) (by omega) (by omega) hl2 hO2 (cH (tk (fQ X (bY pre)) (k:Int)).1) rfl (gM _) hpl
   obtain⟨hc4,hbx4,hb4,hf4,hg4⟩:=hr _ rfl
   have hfpW:∀j,cF w0.heap.size W2 j->cF w0.heap.size W j:=λj hj=>by
    rcases hj with rfl|⟨a2,n2,c2,h2,hj⟩
    ·exact .inl rfl
    ·rw [hl2.1] at h2
     cases h2
     exact .inr ⟨a,_,c,hl.1,hj⟩
   have hbw4:ah (tX A w0.heap.size W) W (w3.setCell ⟨w0.heap.size,0,none⟩ (.slice a' (pre.length+1) c')) :=
    (hBW.mono (λj hj=>.inl hj)).trans (hb4.mono (λj hj=>.inr (hfpW j hj)))
   refine⟨a',c',w3,hrun,hl2,hl3,nC hbw4 (λj o hj ho hge hs=>?_),yb hbw4 (λj hj=>hj) (λj hj=>?_),⟨?_,?_,?_,?_⟩⟩
   ·rcases hs with hs|hs
    ·have:=hwr.out j hs;have:=hBw1.size;omega
    ·have:∃cs t z,W.heap[j]?=some (.cells cs t z):=by
      rcases hs with rfl|⟨a2,n2,c2,h2,hj2⟩
      ·have h3:=hl.1
       unfold World.cell? at h3
       rw [hj] at h3;cases o with
       | cells cs t z=>exact⟨cs,t,z,hj⟩
       | _=>simp at h3
      ·rw [hl.1] at h2
       cases h2
       exact hO.cells hj2
     obtain⟨cs,t,z,hh⟩:=this
     rw [hj] at hh;cases hh
     cases ho
   ·rcases hj with hj|hj
    ·exact .inl (.inl hj)
    ·rcases hf4 j hj with h5|h5
     ·exact .inl (.inr (hfpW j h5))
     ·exact .inr (Nat.le_trans hBW.size h5)
   ·rw [ib,jT,jG,List.length_append]
    exact hbx4
   ·exact (hI.c.but hBW (λe=>by have:=hwr.out _ e;simp at this)).but hb4 (λe=>by have:=(hg4 _ e).1;simp at this;omega)
   ·have e1:((⟨(k:Int),hx⟩:Mem l n)).1.toNat=k:=by simp
    rw [ib,jJ,qF,e1];exact hM2.but hb4 (λj hj e=>by have:=(hg4 _ e).1;have:=hAll.out j hj;omega)
   ·exact (hI.but.trans hBW).comp hb4 (λj e=>.inr (by have:=(hg4 _ e).1;omega))
  have y6:=hl.1
  have y2:=hI.c.1
  generalize tk (fQ X (bY pre)) (k:Int)=tt at *
  obtain⟨⟨o,hi,lo⟩,r⟩:=tt
  clear hI hl hO hwide hxl;gi_wp2
  refine wpIn_region_any hmx ?_
  change wpAnyIn _ _ _ _ _ _ _ _ _ (World.drew _)
  refine wpAnyIn_ready (rs:=[0,1,4]) (by kernel_rfl) (by simp) ?_
  refine AllReadyIn.cons rfl (λK hK=>?_) (AllReadyIn.cons rfl (λK hK=>?_) (AllReadyIn.cons rfl (λK hK=>?_) AllReadyIn.nil))
  ·go_simp
   refine hK _ _ ?_
   clear hK K;refine wpAnyIn_ready (rs:=[1,4]) (by kernel_rfl) (by simp) ?_
   refine AllReadyIn.cons rfl (λK hK=>?_) (AllReadyIn.cons rfl (λK hK=>?_) AllReadyIn.nil)
   ·go_simp
    refine hK _ _ ?_
    clear hK K;refine wpAnyIn_ready (rs:=[2,4]) (by kernel_rfl) (by simp) ?_
    refine AllReadyIn.cons rfl (λK hK=>?_) (AllReadyIn.cons rfl (λK hK=>?_) AllReadyIn.nil)
    ·go_simp
     refine hK _ _ ?_
     clear hK K;refine wpAnyIn_ready (rs:=[3,4]) (by kernel_rfl) (by simp) ?_
     refine AllReadyIn.cons rfl (λK hK=>?_) (AllReadyIn.cons rfl (λK hK=>?_) AllReadyIn.nil)
     ·go_simp
      refine hK _ _ ?_
      clear hK K;refine zi 4 λK hK=>?_
      go_simp
      refine hK _ _ ?_
      clear hK K;refine zi 5 λK hK=>?_
      go_simp
      gi_wp2_with (refine⟨trivial,?_⟩;gi_at_call 367;refine (CallsIn.inRound L (callsIn_wide.2 hfg.out)).mono ?_;rintro e w5 ⟨rfl,hM5,hB5⟩;obtain⟨a',c',w3,hrun,hq2,hq3,hq⟩:=P8.out w5 hM5 hB5;have PD:=ab hrun;have HQ:=ab hq;have yq:=hq2.1;have yqa:=(hq2.alloc (Obj.cells #[.int .i64 o,.int .u64 (hi:Int),.int .u64 (lo:Int)] 37)).1;have yq3:=hq3.1;have zq3:=hq3.2;clear hM5 hB5 hrun hq hq2 hq3)
      refine zi 6 λK hK=>?_
      go_simp
      refine hK _ _ ?_
      clear hK K;refine zi 7 λK hK=>?_
      rw [if_pos (by kernel_rfl)];refine an _ _ 71 rfl _ _ rfl rfl _ w3 PD.out ?_
      refine hK _ _ ?_
      clear hK K;simp only [Act.put,List.setIfInBounds_toArray];refine zi 8 λK hK=>?_
      go_simp
      refine hK _ _ ?_
      clear hK K;refine wpAnyIn_done (by kernel_rfl) ?_ _
      exact HQ.out
     ·go_simp
      refine hK _ _ ?_
      clear hK K;refine zi 3 λK hK=>?_
      go_simp
      refine hK _ _ ?_
      clear hK K;refine zi 5 λK hK=>?_
      go_simp
      gi_wp2_with (refine⟨trivial,?_⟩;gi_at_call 367;refine (CallsIn.inRound L (callsIn_wide.2 hfg.out)).mono ?_;rintro e w5 ⟨rfl,hM5,hB5⟩;obtain⟨a',c',w3,hrun,hq2,hq3,hq⟩:=P8.out w5 hM5 hB5;have PD:=ab hrun;have HQ:=ab hq;have yq:=hq2.1;have yqa:=(hq2.alloc (Obj.cells #[.int .i64 o,.int .u64 (hi:Int),.int .u64 (lo:Int)] 37)).1;have yq3:=hq3.1;have zq3:=hq3.2;clear hM5 hB5 hrun hq hq2 hq3)
      refine zi 6 λK hK=>?_
      go_simp
      refine hK _ _ ?_
      clear hK K;refine zi 7 λK hK=>?_
      rw [if_pos (by kernel_rfl)];refine an _ _ 71 rfl _ _ rfl rfl _ w3 PD.out ?_
      refine hK _ _ ?_
      clear hK K;simp only [Act.put,List.setIfInBounds_toArray];refine zi 8 λK hK=>?_
      go_simp
      refine hK _ _ ?_
      clear hK K;refine wpAnyIn_done (by kernel_rfl) ?_ _
      exact HQ.out
    ·go_simp
     refine hK _ _ ?_
     clear hK K;refine zi 2 λK hK=>?_
     go_simp
     refine hK _ _ ?_
     clear hK K;refine zi 3 λK hK=>?_
     go_simp
     refine hK _ _ ?_
     clear hK K;refine zi 5 λK hK=>?_
     go_simp
     gi_wp2_with (refine⟨trivial,?_⟩;gi_at_call 367;refine (CallsIn.inRound L (callsIn_wide.2 hfg.out)).mono ?_;rintro e w5 ⟨rfl,hM5,hB5⟩;obtain⟨a',c',w3,hrun,hq2,hq3,hq⟩:=P8.out w5 hM5 hB5;have PD:=ab hrun;have HQ:=ab hq;have yq:=hq2.1;have yqa:=(hq2.alloc (Obj.cells #[.int .i64 o,.int .u64 (hi:Int),.int .u64 (lo:Int)] 37)).1;have yq3:=hq3.1;have zq3:=hq3.2;clear hM5 hB5 hrun hq hq2 hq3)
     refine zi 6 λK hK=>?_
     go_simp
     refine hK _ _ ?_
     clear hK K;refine zi 7 λK hK=>?_
     rw [if_pos (by kernel_rfl)];refine an _ _ 71 rfl _ _ rfl rfl _ w3 PD.out ?_
     refine hK _ _ ?_
     clear hK K;simp only [Act.put,List.setIfInBounds_toArray];refine zi 8 λK hK=>?_
     go_simp
     refine hK _ _ ?_
     clear hK K;refine wpAnyIn_done (by kernel_rfl) ?_ _
     exact HQ.out
   ·go_simp
    refine hK _ _ ?_
    clear hK K;refine zi 1 λK hK=>?_
    go_simp
    refine hK _ _ ?_
    clear hK K;refine zi 2 λK hK=>?_
    go_simp
    refine hK _ _ ?_
    clear hK K;refine zi 3 λK hK=>?_
    go_simp
    refine hK _ _ ?_
    clear hK K;refine zi 5 λK hK=>?_
    go_simp
    gi_wp2_with (refine⟨trivial,?_⟩;gi_at_call 367;refine (CallsIn.inRound L (callsIn_wide.2 hfg.out)).mono ?_;rintro e w5 ⟨rfl,hM5,hB5⟩;obtain⟨a',c',w3,hrun,hq2,hq3,hq⟩:=P8.out w5 hM5 hB5;have PD:=ab hrun;have HQ:=ab hq;have yq:=hq2.1;have yqa:=(hq2.alloc (Obj.cells #[.int .i64 o,.int .u64 (hi:Int),.int .u64 (lo:Int)] 37)).1;have yq3:=hq3.1;have zq3:=hq3.2;clear hM5 hB5 hrun hq hq2 hq3)
    refine zi 6 λK hK=>?_
    go_simp
    refine hK _ _ ?_
    clear hK K;refine zi 7 λK hK=>?_
    rw [if_pos (by kernel_rfl)];refine an _ _ 71 rfl _ _ rfl rfl _ w3 PD.out ?_
    refine hK _ _ ?_
    clear hK K;simp only [Act.put,List.setIfInBounds_toArray];refine zi 8 λK hK=>?_
    go_simp
    refine hK _ _ ?_
    clear hK K;refine wpAnyIn_done (by kernel_rfl) ?_ _
    exact HQ.out
  ·go_simp
   refine hK _ _ ?_
   clear hK K;refine wpAnyIn_ready (rs:=[0,2,4]) (by kernel_rfl) (by simp) ?_
   refine AllReadyIn.cons rfl (λK hK=>?_) (AllReadyIn.cons rfl (λK hK=>?_) (AllReadyIn.cons rfl (λK hK=>?_) AllReadyIn.nil))
   ·go_simp
    refine hK _ _ ?_
    clear hK K;refine wpAnyIn_ready (rs:=[2,4]) (by kernel_rfl) (by simp) ?_
    refine AllReadyIn.cons rfl (λK hK=>?_) (AllReadyIn.cons rfl (λK hK=>?_) AllReadyIn.nil)
    ·go_simp
     refine hK _ _ ?_
     clear hK K;refine wpAnyIn_ready (rs:=[3,4]) (by kernel_rfl) (by simp) ?_
     refine AllReadyIn.cons rfl (λK hK=>?_) (AllReadyIn.cons rfl (λK hK=>?_) AllReadyIn.nil)
     ·go_simp
      refine hK _ _ ?_
      clear hK K;refine zi 4 λK hK=>?_
      go_simp
      refine hK _ _ ?_
      clear hK K;refine zi 5 λK hK=>?_
      go_simp
      gi_wp2_with (refine⟨trivial,?_⟩;gi_at_call 367;refine (CallsIn.inRound L (callsIn_wide.2 hfg.out)).mono ?_;rintro e w5 ⟨rfl,hM5,hB5⟩;obtain⟨a',c',w3,hrun,hq2,hq3,hq⟩:=P8.out w5 hM5 hB5;have PD:=ab hrun;have HQ:=ab hq;have yq:=hq2.1;have yqa:=(hq2.alloc (Obj.cells #[.int .i64 o,.int .u64 (hi:Int),.int .u64 (lo:Int)] 37)).1;have yq3:=hq3.1;have zq3:=hq3.2;clear hM5 hB5 hrun hq hq2 hq3)
      refine zi 6 λK hK=>?_
      go_simp
      refine hK _ _ ?_
      clear hK K;refine zi 7 λK hK=>?_
      rw [if_pos (by kernel_rfl)];refine an _ _ 71 rfl _ _ rfl rfl _ w3 PD.out ?_
      refine hK _ _ ?_
      clear hK K;simp only [Act.put,List.setIfInBounds_toArray];refine zi 8 λK hK=>?_
      go_simp
      refine hK _ _ ?_
      clear hK K;refine wpAnyIn_done (by kernel_rfl) ?_ _
      exact HQ.out
     ·go_simp
      refine hK _ _ ?_
      clear hK K;refine zi 3 λK hK=>?_
      go_simp
      refine hK _ _ ?_
      clear hK K;refine zi 5 λK hK=>?_
      go_simp
      gi_wp2_with (refine⟨trivial,?_⟩;gi_at_call 367;refine (CallsIn.inRound L (callsIn_wide.2 hfg.out)).mono ?_;rintro e w5 ⟨rfl,hM5,hB5⟩;obtain⟨a',c',w3,hrun,hq2,hq3,hq⟩:=P8.out w5 hM5 hB5;have PD:=ab hrun;have HQ:=ab hq;have yq:=hq2.1;have yqa:=(hq2.alloc (Obj.cells #[.int .i64 o,.int .u64 (hi:Int),.int .u64 (lo:Int)] 37)).1;have yq3:=hq3.1;have zq3:=hq3.2;clear hM5 hB5 hrun hq hq2 hq3)
      refine zi 6 λK hK=>?_
      go_simp
      refine hK _ _ ?_
      clear hK K;refine zi 7 λK hK=>?_
      rw [if_pos (by kernel_rfl)];refine an _ _ 71 rfl _ _ rfl rfl _ w3 PD.out ?_
      refine hK _ _ ?_
      clear hK K;simp only [Act.put,List.setIfInBounds_toArray];refine zi 8 λK hK=>?_
      go_simp
      refine hK _ _ ?_
      clear hK K;refine wpAnyIn_done (by kernel_rfl) ?_ _
      exact HQ.out
    ·go_simp
     refine hK _ _ ?_
     clear hK K;refine zi 2 λK hK=>?_
     go_simp
     refine hK _ _ ?_
     clear hK K;refine zi 3 λK hK=>?_
     go_simp
     refine hK _ _ ?_
     clear hK K;refine zi 5 λK hK=>?_
     go_simp
     gi_wp2_with (refine⟨trivial,?_⟩;gi_at_call 367;refine (CallsIn.inRound L (callsIn_wide.2 hfg.out)).mono ?_;rintro e w5 ⟨rfl,hM5,hB5⟩;obtain⟨a',c',w3,hrun,hq2,hq3,hq⟩:=P8.out w5 hM5 hB5;have PD:=ab hrun;have HQ:=ab hq;have yq:=hq2.1;have yqa:=(hq2.alloc (Obj.cells #[.int .i64 o,.int .u64 (hi:Int),.int .u64 (lo:Int)] 37)).1;have yq3:=hq3.1;have zq3:=hq3.2;clear hM5 hB5 hrun hq hq2 hq3)
     refine zi 6 λK hK=>?_
     go_simp
     refine hK _ _ ?_
     clear hK K;refine zi 7 λK hK=>?_
     rw [if_pos (by kernel_rfl)];refine an _ _ 71 rfl _ _ rfl rfl _ w3 PD.out ?_
     refine hK _ _ ?_
     clear hK K;simp only [Act.put,List.setIfInBounds_toArray];refine zi 8 λK hK=>?_
     go_simp
     refine hK _ _ ?_
     clear hK K;refine wpAnyIn_done (by kernel_rfl) ?_ _
     exact HQ.out
   ·go_simp
    refine hK _ _ ?_
    clear hK K;refine wpAnyIn_ready (rs:=[0,3,4]) (by kernel_rfl) (by simp) ?_
    refine AllReadyIn.cons rfl (λK hK=>?_) (AllReadyIn.cons rfl (λK hK=>?_) (AllReadyIn.cons rfl (λK hK=>?_) AllReadyIn.nil))
    ·go_simp
     refine hK _ _ ?_
     clear hK K;refine wpAnyIn_ready (rs:=[3,4]) (by kernel_rfl) (by simp) ?_
     refine AllReadyIn.cons rfl (λK hK=>?_) (AllReadyIn.cons rfl (λK hK=>?_) AllReadyIn.nil)
     ·go_simp
      refine hK _ _ ?_
      clear hK K;refine zi 4 λK hK=>?_
      go_simp
      refine hK _ _ ?_
      clear hK K;refine zi 5 λK hK=>?_
      go_simp
      gi_wp2_with (refine⟨trivial,?_⟩;gi_at_call 367;refine (CallsIn.inRound L (callsIn_wide.2 hfg.out)).mono ?_;rintro e w5 ⟨rfl,hM5,hB5⟩;obtain⟨a',c',w3,hrun,hq2,hq3,hq⟩:=P8.out w5 hM5 hB5;have PD:=ab hrun;have HQ:=ab hq;have yq:=hq2.1;have yqa:=(hq2.alloc (Obj.cells #[.int .i64 o,.int .u64 (hi:Int),.int .u64 (lo:Int)] 37)).1;have yq3:=hq3.1;have zq3:=hq3.2;clear hM5 hB5 hrun hq hq2 hq3)
      refine zi 6 λK hK=>?_
      go_simp
      refine hK _ _ ?_
      clear hK K;refine zi 7 λK hK=>?_
      rw [if_pos (by kernel_rfl)];refine an _ _ 71 rfl _ _ rfl rfl _ w3 PD.out ?_
      refine hK _ _ ?_
      clear hK K;simp only [Act.put,List.setIfInBounds_toArray];refine zi 8 λK hK=>?_
      go_simp
      refine hK _ _ ?_
      clear hK K;refine wpAnyIn_done (by kernel_rfl) ?_ _
      exact HQ.out
     ·go_simp
      refine hK _ _ ?_
      clear hK K;refine zi 3 λK hK=>?_
      go_simp
      refine hK _ _ ?_
      clear hK K;refine zi 5 λK hK=>?_
      go_simp
      gi_wp2_with (refine⟨trivial,?_⟩;gi_at_call 367;refine (CallsIn.inRound L (callsIn_wide.2 hfg.out)).mono ?_;rintro e w5 ⟨rfl,hM5,hB5⟩;obtain⟨a',c',w3,hrun,hq2,hq3,hq⟩:=P8.out w5 hM5 hB5;have PD:=ab hrun;have HQ:=ab hq;have yq:=hq2.1;have yqa:=(hq2.alloc (Obj.cells #[.int .i64 o,.int .u64 (hi:Int),.int .u64 (lo:Int)] 37)).1;have yq3:=hq3.1;have zq3:=hq3.2;clear hM5 hB5 hrun hq hq2 hq3)
      refine zi 6 λK hK=>?_
      go_simp
      refine hK _ _ ?_
      clear hK K;refine zi 7 λK hK=>?_
      rw [if_pos (by kernel_rfl)];refine an _ _ 71 rfl _ _ rfl rfl _ w3 PD.out ?_
      refine hK _ _ ?_
      clear hK K;simp only [Act.put,List.setIfInBounds_toArray];refine zi 8 λK hK=>?_
      go_simp
      refine hK _ _ ?_
      clear hK K;refine wpAnyIn_done (by kernel_rfl) ?_ _
      exact HQ.out
    ·go_simp
     refine hK _ _ ?_
     clear hK K;refine wpAnyIn_ready (rs:=[0,4]) (by kernel_rfl) (by simp) ?_
     refine AllReadyIn.cons rfl (λK hK=>?_) (AllReadyIn.cons rfl (λK hK=>?_) AllReadyIn.nil)
     ·go_simp
      refine hK _ _ ?_
      clear hK K;refine zi 4 λK hK=>?_
      go_simp
      refine hK _ _ ?_
      clear hK K;refine zi 5 λK hK=>?_
      go_simp
      gi_wp2_with (refine⟨trivial,?_⟩;gi_at_call 367;refine (CallsIn.inRound L (callsIn_wide.2 hfg.out)).mono ?_;rintro e w5 ⟨rfl,hM5,hB5⟩;obtain⟨a',c',w3,hrun,hq2,hq3,hq⟩:=P8.out w5 hM5 hB5;have PD:=ab hrun;have HQ:=ab hq;have yq:=hq2.1;have yqa:=(hq2.alloc (Obj.cells #[.int .i64 o,.int .u64 (hi:Int),.int .u64 (lo:Int)] 37)).1;have yq3:=hq3.1;have zq3:=hq3.2;clear hM5 hB5 hrun hq hq2 hq3)
      refine zi 6 λK hK=>?_
      go_simp
      refine hK _ _ ?_
      clear hK K;refine zi 7 λK hK=>?_
      rw [if_pos (by kernel_rfl)];refine an _ _ 71 rfl _ _ rfl rfl _ w3 PD.out ?_
      refine hK _ _ ?_
      clear hK K;simp only [Act.put,List.setIfInBounds_toArray];refine zi 8 λK hK=>?_
      go_simp
      refine hK _ _ ?_
      clear hK K;refine wpAnyIn_done (by kernel_rfl) ?_ _
      exact HQ.out
     ·go_simp
      refine hK _ _ ?_
      clear hK K;refine wpAnyIn_ready (rs:=[0,5]) (by kernel_rfl) (by simp) ?_
      refine AllReadyIn.cons rfl (λK hK=>?_) (AllReadyIn.cons rfl (λK hK=>?_) AllReadyIn.nil)
      ·go_simp
       refine hK _ _ ?_
       clear hK K;refine zi 5 λK hK=>?_
       go_simp
       gi_wp2_with (refine⟨trivial,?_⟩;gi_at_call 367;refine (CallsIn.inRound L (callsIn_wide.2 hfg.out)).mono ?_;rintro e w5 ⟨rfl,hM5,hB5⟩;obtain⟨a',c',w3,hrun,hq2,hq3,hq⟩:=P8.out w5 hM5 hB5;have PD:=ab hrun;have HQ:=ab hq;have yq:=hq2.1;have yqa:=(hq2.alloc (Obj.cells #[.int .i64 o,.int .u64 (hi:Int),.int .u64 (lo:Int)] 37)).1;have yq3:=hq3.1;have zq3:=hq3.2;clear hM5 hB5 hrun hq hq2 hq3)
       refine zi 6 λK hK=>?_
       go_simp
       refine hK _ _ ?_
       clear hK K;refine zi 7 λK hK=>?_
       rw [if_pos (by kernel_rfl)];refine an _ _ 71 rfl _ _ rfl rfl _ w3 PD.out ?_
       refine hK _ _ ?_
       clear hK K;simp only [Act.put,List.setIfInBounds_toArray];refine zi 8 λK hK=>?_
       go_simp
       refine hK _ _ ?_
       clear hK K;refine wpAnyIn_done (by kernel_rfl) ?_ _
       exact HQ.out
      ·go_simp
       gi_wp2_with (refine⟨trivial,?_⟩;gi_at_call 367;refine (CallsIn.inRound L (callsIn_wide.2 hfg.out)).mono ?_;rintro e w5 ⟨rfl,hM5,hB5⟩;obtain⟨a',c',w3,hrun,hq2,hq3,hq⟩:=P8.out w5 hM5 hB5;have PD:=ab hrun;have HQ:=ab hq;have yq:=hq2.1;have yqa:=(hq2.alloc (Obj.cells #[.int .i64 o,.int .u64 (hi:Int),.int .u64 (lo:Int)] 37)).1;have yq3:=hq3.1;have zq3:=hq3.2;clear hM5 hB5 hrun hq hq2 hq3)
       refine wpAnyIn_ready (rs:=[0,6]) (by kernel_rfl) (by simp) ?_
       refine AllReadyIn.cons rfl (λK hK=>?_) (AllReadyIn.cons rfl (λK hK=>?_) AllReadyIn.nil)
       ·go_simp
        refine hK _ _ ?_
        clear hK K;refine zi 6 λK hK=>?_
        go_simp
        refine hK _ _ ?_
        clear hK K;refine zi 7 λK hK=>?_
        rw [if_pos (by kernel_rfl)];refine an _ _ 71 rfl _ _ rfl rfl _ w3 PD.out ?_
        refine hK _ _ ?_
        clear hK K;simp only [Act.put,List.setIfInBounds_toArray];refine zi 8 λK hK=>?_
        go_simp
        refine hK _ _ ?_
        clear hK K;refine wpAnyIn_done (by kernel_rfl) ?_ _
        exact HQ.out
       ·go_simp
        refine hK _ _ ?_
        clear hK K;refine zi 0 λK hK=>?_
        go_simp
        refine hK _ _ ?_
        clear hK K;refine zi 7 λK hK=>?_
        rw [if_pos (by kernel_rfl)];refine an _ _ 71 rfl _ _ rfl rfl _ w3 PD.out ?_
        refine hK _ _ ?_
        clear hK K;simp only [Act.put,List.setIfInBounds_toArray];refine zi 8 λK hK=>?_
        go_simp
        refine hK _ _ ?_
        clear hK K;refine wpAnyIn_done (by kernel_rfl) ?_ _
        exact HQ.out
    ·go_simp
     refine hK _ _ ?_
     clear hK K;refine wpAnyIn_ready (rs:=[0,3]) (by kernel_rfl) (by simp) ?_
     refine AllReadyIn.cons rfl (λK hK=>?_) (AllReadyIn.cons rfl (λK hK=>?_) AllReadyIn.nil)
     ·go_simp
      refine hK _ _ ?_
      clear hK K;refine zi 3 λK hK=>?_
      go_simp
      refine hK _ _ ?_
      clear hK K;refine zi 5 λK hK=>?_
      go_simp
      gi_wp2_with (refine⟨trivial,?_⟩;gi_at_call 367;refine (CallsIn.inRound L (callsIn_wide.2 hfg.out)).mono ?_;rintro e w5 ⟨rfl,hM5,hB5⟩;obtain⟨a',c',w3,hrun,hq2,hq3,hq⟩:=P8.out w5 hM5 hB5;have PD:=ab hrun;have HQ:=ab hq;have yq:=hq2.1;have yqa:=(hq2.alloc (Obj.cells #[.int .i64 o,.int .u64 (hi:Int),.int .u64 (lo:Int)] 37)).1;have yq3:=hq3.1;have zq3:=hq3.2;clear hM5 hB5 hrun hq hq2 hq3)
      refine zi 6 λK hK=>?_
      go_simp
      refine hK _ _ ?_
      clear hK K;refine zi 7 λK hK=>?_
      rw [if_pos (by kernel_rfl)];refine an _ _ 71 rfl _ _ rfl rfl _ w3 PD.out ?_
      refine hK _ _ ?_
      clear hK K;simp only [Act.put,List.setIfInBounds_toArray];refine zi 8 λK hK=>?_
      go_simp
      refine hK _ _ ?_
      clear hK K;refine wpAnyIn_done (by kernel_rfl) ?_ _
      exact HQ.out
     ·go_simp
      refine hK _ _ ?_
      clear hK K;refine wpAnyIn_ready (rs:=[0,5]) (by kernel_rfl) (by simp) ?_
      refine AllReadyIn.cons rfl (λK hK=>?_) (AllReadyIn.cons rfl (λK hK=>?_) AllReadyIn.nil)
      ·go_simp
       refine hK _ _ ?_
       clear hK K;refine zi 5 λK hK=>?_
       go_simp
       gi_wp2_with (refine⟨trivial,?_⟩;gi_at_call 367;refine (CallsIn.inRound L (callsIn_wide.2 hfg.out)).mono ?_;rintro e w5 ⟨rfl,hM5,hB5⟩;obtain⟨a',c',w3,hrun,hq2,hq3,hq⟩:=P8.out w5 hM5 hB5;have PD:=ab hrun;have HQ:=ab hq;have yq:=hq2.1;have yqa:=(hq2.alloc (Obj.cells #[.int .i64 o,.int .u64 (hi:Int),.int .u64 (lo:Int)] 37)).1;have yq3:=hq3.1;have zq3:=hq3.2;clear hM5 hB5 hrun hq hq2 hq3)
       refine zi 6 λK hK=>?_
       go_simp
       refine hK _ _ ?_
       clear hK K;refine zi 7 λK hK=>?_
       rw [if_pos (by kernel_rfl)];refine an _ _ 71 rfl _ _ rfl rfl _ w3 PD.out ?_
       refine hK _ _ ?_
       clear hK K;simp only [Act.put,List.setIfInBounds_toArray];refine zi 8 λK hK=>?_
       go_simp
       refine hK _ _ ?_
       clear hK K;refine wpAnyIn_done (by kernel_rfl) ?_ _
       exact HQ.out
      ·go_simp
       gi_wp2_with (refine⟨trivial,?_⟩;gi_at_call 367;refine (CallsIn.inRound L (callsIn_wide.2 hfg.out)).mono ?_;rintro e w5 ⟨rfl,hM5,hB5⟩;obtain⟨a',c',w3,hrun,hq2,hq3,hq⟩:=P8.out w5 hM5 hB5;have PD:=ab hrun;have HQ:=ab hq;have yq:=hq2.1;have yqa:=(hq2.alloc (Obj.cells #[.int .i64 o,.int .u64 (hi:Int),.int .u64 (lo:Int)] 37)).1;have yq3:=hq3.1;have zq3:=hq3.2;clear hM5 hB5 hrun hq hq2 hq3)
       refine wpAnyIn_ready (rs:=[0,6]) (by kernel_rfl) (by simp) ?_
       refine AllReadyIn.cons rfl (λK hK=>?_) (AllReadyIn.cons rfl (λK hK=>?_) AllReadyIn.nil)
       ·go_simp
        refine hK _ _ ?_
        clear hK K;refine zi 6 λK hK=>?_
        go_simp
        refine hK _ _ ?_
        clear hK K;refine zi 7 λK hK=>?_
        rw [if_pos (by kernel_rfl)];refine an _ _ 71 rfl _ _ rfl rfl _ w3 PD.out ?_
        refine hK _ _ ?_
        clear hK K;simp only [Act.put,List.setIfInBounds_toArray];refine zi 8 λK hK=>?_
        go_simp
        refine hK _ _ ?_
        clear hK K;refine wpAnyIn_done (by kernel_rfl) ?_ _
        exact HQ.out
       ·go_simp
        refine hK _ _ ?_
        clear hK K;refine zi 0 λK hK=>?_
        go_simp
        refine hK _ _ ?_
        clear hK K;refine zi 7 λK hK=>?_
        rw [if_pos (by kernel_rfl)];refine an _ _ 71 rfl _ _ rfl rfl _ w3 PD.out ?_
        refine hK _ _ ?_
        clear hK K;simp only [Act.put,List.setIfInBounds_toArray];refine zi 8 λK hK=>?_
        go_simp
        refine hK _ _ ?_
        clear hK K;refine wpAnyIn_done (by kernel_rfl) ?_ _
        exact HQ.out
   ·go_simp
    refine hK _ _ ?_
    clear hK K;refine wpAnyIn_ready (rs:=[0,2]) (by kernel_rfl) (by simp) ?_
    refine AllReadyIn.cons rfl (λK hK=>?_) (AllReadyIn.cons rfl (λK hK=>?_) AllReadyIn.nil)
    ·go_simp
     refine hK _ _ ?_
     clear hK K;refine zi 2 λK hK=>?_
     go_simp
     refine hK _ _ ?_
     clear hK K;refine zi 3 λK hK=>?_
     go_simp
     refine hK _ _ ?_
     clear hK K;refine zi 5 λK hK=>?_
     go_simp
     gi_wp2_with (refine⟨trivial,?_⟩;gi_at_call 367;refine (CallsIn.inRound L (callsIn_wide.2 hfg.out)).mono ?_;rintro e w5 ⟨rfl,hM5,hB5⟩;obtain⟨a',c',w3,hrun,hq2,hq3,hq⟩:=P8.out w5 hM5 hB5;have PD:=ab hrun;have HQ:=ab hq;have yq:=hq2.1;have yqa:=(hq2.alloc (Obj.cells #[.int .i64 o,.int .u64 (hi:Int),.int .u64 (lo:Int)] 37)).1;have yq3:=hq3.1;have zq3:=hq3.2;clear hM5 hB5 hrun hq hq2 hq3)
     refine zi 6 λK hK=>?_
     go_simp
     refine hK _ _ ?_
     clear hK K;refine zi 7 λK hK=>?_
     rw [if_pos (by kernel_rfl)];refine an _ _ 71 rfl _ _ rfl rfl _ w3 PD.out ?_
     refine hK _ _ ?_
     clear hK K;simp only [Act.put,List.setIfInBounds_toArray];refine zi 8 λK hK=>?_
     go_simp
     refine hK _ _ ?_
     clear hK K;refine wpAnyIn_done (by kernel_rfl) ?_ _
     exact HQ.out
    ·go_simp
     refine hK _ _ ?_
     clear hK K;refine wpAnyIn_ready (rs:=[0,3]) (by kernel_rfl) (by simp) ?_
     refine AllReadyIn.cons rfl (λK hK=>?_) (AllReadyIn.cons rfl (λK hK=>?_) AllReadyIn.nil)
     ·go_simp
      refine hK _ _ ?_
      clear hK K;refine zi 3 λK hK=>?_
      go_simp
      refine hK _ _ ?_
      clear hK K;refine zi 5 λK hK=>?_
      go_simp
      gi_wp2_with (refine⟨trivial,?_⟩;gi_at_call 367;refine (CallsIn.inRound L (callsIn_wide.2 hfg.out)).mono ?_;rintro e w5 ⟨rfl,hM5,hB5⟩;obtain⟨a',c',w3,hrun,hq2,hq3,hq⟩:=P8.out w5 hM5 hB5;have PD:=ab hrun;have HQ:=ab hq;have yq:=hq2.1;have yqa:=(hq2.alloc (Obj.cells #[.int .i64 o,.int .u64 (hi:Int),.int .u64 (lo:Int)] 37)).1;have yq3:=hq3.1;have zq3:=hq3.2;clear hM5 hB5 hrun hq hq2 hq3)
      refine zi 6 λK hK=>?_
      go_simp
      refine hK _ _ ?_
      clear hK K;refine zi 7 λK hK=>?_
      rw [if_pos (by kernel_rfl)];refine an _ _ 71 rfl _ _ rfl rfl _ w3 PD.out ?_
      refine hK _ _ ?_
      clear hK K;simp only [Act.put,List.setIfInBounds_toArray];refine zi 8 λK hK=>?_
      go_simp
      refine hK _ _ ?_
      clear hK K;refine wpAnyIn_done (by kernel_rfl) ?_ _
      exact HQ.out
     ·go_simp
      refine hK _ _ ?_
      clear hK K;refine wpAnyIn_ready (rs:=[0,5]) (by kernel_rfl) (by simp) ?_
      refine AllReadyIn.cons rfl (λK hK=>?_) (AllReadyIn.cons rfl (λK hK=>?_) AllReadyIn.nil)
      ·go_simp
       refine hK _ _ ?_
       clear hK K;refine zi 5 λK hK=>?_
       go_simp
       gi_wp2_with (refine⟨trivial,?_⟩;gi_at_call 367;refine (CallsIn.inRound L (callsIn_wide.2 hfg.out)).mono ?_;rintro e w5 ⟨rfl,hM5,hB5⟩;obtain⟨a',c',w3,hrun,hq2,hq3,hq⟩:=P8.out w5 hM5 hB5;have PD:=ab hrun;have HQ:=ab hq;have yq:=hq2.1;have yqa:=(hq2.alloc (Obj.cells #[.int .i64 o,.int .u64 (hi:Int),.int .u64 (lo:Int)] 37)).1;have yq3:=hq3.1;have zq3:=hq3.2;clear hM5 hB5 hrun hq hq2 hq3)
       refine zi 6 λK hK=>?_
       go_simp
       refine hK _ _ ?_
       clear hK K;refine zi 7 λK hK=>?_
       rw [if_pos (by kernel_rfl)];refine an _ _ 71 rfl _ _ rfl rfl _ w3 PD.out ?_
       refine hK _ _ ?_
       clear hK K;simp only [Act.put,List.setIfInBounds_toArray];refine zi 8 λK hK=>?_
       go_simp
       refine hK _ _ ?_
       clear hK K;refine wpAnyIn_done (by kernel_rfl) ?_ _
       exact HQ.out
      ·go_simp
       gi_wp2_with (refine⟨trivial,?_⟩;gi_at_call 367;refine (CallsIn.inRound L (callsIn_wide.2 hfg.out)).mono ?_;rintro e w5 ⟨rfl,hM5,hB5⟩;obtain⟨a',c',w3,hrun,hq2,hq3,hq⟩:=P8.out w5 hM5 hB5;have PD:=ab hrun;have HQ:=ab hq;have yq:=hq2.1;have yqa:=(hq2.alloc (Obj.cells #[.int .i64 o,.int .u64 (hi:Int),.int .u64 (lo:Int)] 37)).1;have yq3:=hq3.1;have zq3:=hq3.2;clear hM5 hB5 hrun hq hq2 hq3)
       refine wpAnyIn_ready (rs:=[0,6]) (by kernel_rfl) (by simp) ?_
       refine AllReadyIn.cons rfl (λK hK=>?_) (AllReadyIn.cons rfl (λK hK=>?_) AllReadyIn.nil)
       ·go_simp
        refine hK _ _ ?_
        clear hK K;refine zi 6 λK hK=>?_
        go_simp
        refine hK _ _ ?_
        clear hK K;refine zi 7 λK hK=>?_
        rw [if_pos (by kernel_rfl)];refine an _ _ 71 rfl _ _ rfl rfl _ w3 PD.out ?_
        refine hK _ _ ?_
        clear hK K;simp only [Act.put,List.setIfInBounds_toArray];refine zi 8 λK hK=>?_
        go_simp
        refine hK _ _ ?_
        clear hK K;refine wpAnyIn_done (by kernel_rfl) ?_ _
        exact HQ.out
       ·go_simp
        refine hK _ _ ?_
        clear hK K;refine zi 0 λK hK=>?_
        go_simp
        refine hK _ _ ?_
        clear hK K;refine zi 7 λK hK=>?_
        rw [if_pos (by kernel_rfl)];refine an _ _ 71 rfl _ _ rfl rfl _ w3 PD.out ?_
        refine hK _ _ ?_
        clear hK K;simp only [Act.put,List.setIfInBounds_toArray];refine zi 8 λK hK=>?_
        go_simp
        refine hK _ _ ?_
        clear hK K;refine wpAnyIn_done (by kernel_rfl) ?_ _
        exact HQ.out
  ·go_simp
   refine hK _ _ ?_
   clear hK K;refine wpAnyIn_ready (rs:=[0,1]) (by kernel_rfl) (by simp) ?_
   refine AllReadyIn.cons rfl (λK hK=>?_) (AllReadyIn.cons rfl (λK hK=>?_) AllReadyIn.nil)
   ·go_simp
    refine hK _ _ ?_
    clear hK K;refine zi 1 λK hK=>?_
    go_simp
    refine hK _ _ ?_
    clear hK K;refine zi 2 λK hK=>?_
    go_simp
    refine hK _ _ ?_
    clear hK K;refine zi 3 λK hK=>?_
    go_simp
    refine hK _ _ ?_
    clear hK K;refine zi 5 λK hK=>?_
    go_simp
    gi_wp2_with (refine⟨trivial,?_⟩;gi_at_call 367;refine (CallsIn.inRound L (callsIn_wide.2 hfg.out)).mono ?_;rintro e w5 ⟨rfl,hM5,hB5⟩;obtain⟨a',c',w3,hrun,hq2,hq3,hq⟩:=P8.out w5 hM5 hB5;have PD:=ab hrun;have HQ:=ab hq;have yq:=hq2.1;have yqa:=(hq2.alloc (Obj.cells #[.int .i64 o,.int .u64 (hi:Int),.int .u64 (lo:Int)] 37)).1;have yq3:=hq3.1;have zq3:=hq3.2;clear hM5 hB5 hrun hq hq2 hq3)
    refine zi 6 λK hK=>?_
    go_simp
    refine hK _ _ ?_
    clear hK K;refine zi 7 λK hK=>?_
    rw [if_pos (by kernel_rfl)];refine an _ _ 71 rfl _ _ rfl rfl _ w3 PD.out ?_
    refine hK _ _ ?_
    clear hK K;simp only [Act.put,List.setIfInBounds_toArray];refine zi 8 λK hK=>?_
    go_simp
    refine hK _ _ ?_
    clear hK K;refine wpAnyIn_done (by kernel_rfl) ?_ _
    exact HQ.out
   ·go_simp
    refine hK _ _ ?_
    clear hK K;refine wpAnyIn_ready (rs:=[0,2]) (by kernel_rfl) (by simp) ?_
    refine AllReadyIn.cons rfl (λK hK=>?_) (AllReadyIn.cons rfl (λK hK=>?_) AllReadyIn.nil)
    ·go_simp
     refine hK _ _ ?_
     clear hK K;refine zi 2 λK hK=>?_
     go_simp
     refine hK _ _ ?_
     clear hK K;refine zi 3 λK hK=>?_
     go_simp
     refine hK _ _ ?_
     clear hK K;refine zi 5 λK hK=>?_
     go_simp
     gi_wp2_with (refine⟨trivial,?_⟩;gi_at_call 367;refine (CallsIn.inRound L (callsIn_wide.2 hfg.out)).mono ?_;rintro e w5 ⟨rfl,hM5,hB5⟩;obtain⟨a',c',w3,hrun,hq2,hq3,hq⟩:=P8.out w5 hM5 hB5;have PD:=ab hrun;have HQ:=ab hq;have yq:=hq2.1;have yqa:=(hq2.alloc (Obj.cells #[.int .i64 o,.int .u64 (hi:Int),.int .u64 (lo:Int)] 37)).1;have yq3:=hq3.1;have zq3:=hq3.2;clear hM5 hB5 hrun hq hq2 hq3)
     refine zi 6 λK hK=>?_
     go_simp
     refine hK _ _ ?_
     clear hK K;refine zi 7 λK hK=>?_
     rw [if_pos (by kernel_rfl)];refine an _ _ 71 rfl _ _ rfl rfl _ w3 PD.out ?_
     refine hK _ _ ?_
     clear hK K;simp only [Act.put,List.setIfInBounds_toArray];refine zi 8 λK hK=>?_
     go_simp
     refine hK _ _ ?_
     clear hK K;refine wpAnyIn_done (by kernel_rfl) ?_ _
     exact HQ.out
    ·go_simp
     refine hK _ _ ?_
     clear hK K;refine wpAnyIn_ready (rs:=[0,3]) (by kernel_rfl) (by simp) ?_
     refine AllReadyIn.cons rfl (λK hK=>?_) (AllReadyIn.cons rfl (λK hK=>?_) AllReadyIn.nil)
     ·go_simp
      refine hK _ _ ?_
      clear hK K;refine zi 3 λK hK=>?_
      go_simp
      refine hK _ _ ?_
      clear hK K;refine zi 5 λK hK=>?_
      go_simp
      gi_wp2_with (refine⟨trivial,?_⟩;gi_at_call 367;refine (CallsIn.inRound L (callsIn_wide.2 hfg.out)).mono ?_;rintro e w5 ⟨rfl,hM5,hB5⟩;obtain⟨a',c',w3,hrun,hq2,hq3,hq⟩:=P8.out w5 hM5 hB5;have PD:=ab hrun;have HQ:=ab hq;have yq:=hq2.1;have yqa:=(hq2.alloc (Obj.cells #[.int .i64 o,.int .u64 (hi:Int),.int .u64 (lo:Int)] 37)).1;have yq3:=hq3.1;have zq3:=hq3.2;clear hM5 hB5 hrun hq hq2 hq3)
      refine zi 6 λK hK=>?_
      go_simp
      refine hK _ _ ?_
      clear hK K;refine zi 7 λK hK=>?_
      rw [if_pos (by kernel_rfl)];refine an _ _ 71 rfl _ _ rfl rfl _ w3 PD.out ?_
      refine hK _ _ ?_
      clear hK K;simp only [Act.put,List.setIfInBounds_toArray];refine zi 8 λK hK=>?_
      go_simp
      refine hK _ _ ?_
      clear hK K;refine wpAnyIn_done (by kernel_rfl) ?_ _
      exact HQ.out
     ·go_simp
      refine hK _ _ ?_
      clear hK K;refine wpAnyIn_ready (rs:=[0,5]) (by kernel_rfl) (by simp) ?_
      refine AllReadyIn.cons rfl (λK hK=>?_) (AllReadyIn.cons rfl (λK hK=>?_) AllReadyIn.nil)
      ·go_simp
       refine hK _ _ ?_
       clear hK K;refine zi 5 λK hK=>?_
       go_simp
       gi_wp2_with (refine⟨trivial,?_⟩;gi_at_call 367;refine (CallsIn.inRound L (callsIn_wide.2 hfg.out)).mono ?_;rintro e w5 ⟨rfl,hM5,hB5⟩;obtain⟨a',c',w3,hrun,hq2,hq3,hq⟩:=P8.out w5 hM5 hB5;have PD:=ab hrun;have HQ:=ab hq;have yq:=hq2.1;have yqa:=(hq2.alloc (Obj.cells #[.int .i64 o,.int .u64 (hi:Int),.int .u64 (lo:Int)] 37)).1;have yq3:=hq3.1;have zq3:=hq3.2;clear hM5 hB5 hrun hq hq2 hq3)
       refine zi 6 λK hK=>?_
       go_simp
       refine hK _ _ ?_
       clear hK K;refine zi 7 λK hK=>?_
       rw [if_pos (by kernel_rfl)];refine an _ _ 71 rfl _ _ rfl rfl _ w3 PD.out ?_
       refine hK _ _ ?_
       clear hK K;simp only [Act.put,List.setIfInBounds_toArray];refine zi 8 λK hK=>?_
       go_simp
       refine hK _ _ ?_
       clear hK K;refine wpAnyIn_done (by kernel_rfl) ?_ _
       exact HQ.out
      ·go_simp
       gi_wp2_with (refine⟨trivial,?_⟩;gi_at_call 367;refine (CallsIn.inRound L (callsIn_wide.2 hfg.out)).mono ?_;rintro e w5 ⟨rfl,hM5,hB5⟩;obtain⟨a',c',w3,hrun,hq2,hq3,hq⟩:=P8.out w5 hM5 hB5;have PD:=ab hrun;have HQ:=ab hq;have yq:=hq2.1;have yqa:=(hq2.alloc (Obj.cells #[.int .i64 o,.int .u64 (hi:Int),.int .u64 (lo:Int)] 37)).1;have yq3:=hq3.1;have zq3:=hq3.2;clear hM5 hB5 hrun hq hq2 hq3)
       refine wpAnyIn_ready (rs:=[0,6]) (by kernel_rfl) (by simp) ?_
       refine AllReadyIn.cons rfl (λK hK=>?_) (AllReadyIn.cons rfl (λK hK=>?_) AllReadyIn.nil)
       ·go_simp
        refine hK _ _ ?_
        clear hK K;refine zi 6 λK hK=>?_
        go_simp
        refine hK _ _ ?_
        clear hK K;refine zi 7 λK hK=>?_
        rw [if_pos (by kernel_rfl)];refine an _ _ 71 rfl _ _ rfl rfl _ w3 PD.out ?_
        refine hK _ _ ?_
        clear hK K;simp only [Act.put,List.setIfInBounds_toArray];refine zi 8 λK hK=>?_
        go_simp
        refine hK _ _ ?_
        clear hK K;refine wpAnyIn_done (by kernel_rfl) ?_ _
        exact HQ.out
       ·go_simp
        refine hK _ _ ?_
        clear hK K;refine zi 0 λK hK=>?_
        go_simp
        refine hK _ _ ?_
        clear hK K;refine zi 7 λK hK=>?_
        rw [if_pos (by kernel_rfl)];refine an _ _ 71 rfl _ _ rfl rfl _ w3 PD.out ?_
        refine hK _ _ ?_
        clear hK K;simp only [Act.put,List.setIfInBounds_toArray];refine zi 8 λK hK=>?_
        go_simp
        refine hK _ _ ?_
        clear hK K;refine wpAnyIn_done (by kernel_rfl) ?_ _
        exact HQ.out
 case done =>
  intro D W hD hI hK;have hla:(dO true l n).attach.length=(G true l n).length:=by rw [List.length_attach];rfl
  have hok:=HH.out.inv.ok
  have hGn:∀x∈G true l n,x∈aj l:=λx hx=>dp hok hx
  have hnd:=fG hok true n
  obtain⟨hbox,hcc,hcm,hbut⟩:=hI
  rw [pP] at hbox hcm;rw [hla,C0 _ (λx hx=>bd hok (hGn x hx)) hnd] at hbox;rw [runT_eq HH.out.inv _ hGn hnd] at hcm;obtain⟨a,c,hl,hO⟩:=hbox
  have hfe:=ab (jv hcm n)
  have y2:=hcc.1
  have PX:Hid (∀w4,Cm w4 A kn mo (cv X (bh l (G true l n))) (fQ X (G true l n)) (bh l (G true l n))->ah (·=A.kb) W w4->az w4 ⟨w0.heap.size,0,none⟩ (.slice a (G true l n).length c)/\w4.heap[D]?=some (.deferred (some []))/\(Ow (w4.putObj D (.deferred none)) w.heap.size 37 3 a (G true l n).length c (aF ((G true l n).map (λk=>(tk X k).1)))/\ie (w4.putObj D (.deferred none)) A kn mo (fQ X (G true l n)) (bh l (G true l n))/\ah A.Wr w (w4.putObj D (.deferred none)))):=by
   intro w4 hM4 hB4;have hkb:A.kb<w.heap.size:=hAll.out _ (.inr (.inr (.inr (.inr (.inr rfl)))))
   have hDl:D<W.heap.size:=(Array.getElem?_eq_some_iff.1 hK).1
   have hK4:w4.heap[D]?=some (.deferred (some [])):=(hB4.block D hDl (by show ¬D=A.kb;omega)).trans hK
   have hbp:=bI (grownBy_putObj' w4 D (.deferred none))
   have hAd:∀k,A.jD k->¬(some D=some k):=λk hk e=>by have:=hAll.out k hk;cases e;omega
   have htk:∀x∈aj (bh l (G true l n)),tk (fQ X (G true l n)) x=tk X x:=λx hx=>by
    obtain⟨h1,h2⟩:=bz.1 hx
    exact iA _ X x (bd hok h1) (λy hy=>bd hok (hGn y hy)) h2
   refine⟨hl.but hB4 (by show ¬w0.heap.size=A.kb;omega),hK4,((hO.but hB4 (λj hj e=>by have:=(hO.bT j hj).1;omega)).put hK4).mono (by omega),⟨?_,(HH.out.inv.bh _ hM4.nY.ok).ext (by rw [vl];exact HH.out.inv.len) htk⟩,?_⟩
   ·rw [ni htk]
    exact hM4.but hbp hAd
   ·exact ((hbut.trans (hB4.mono (λk e=>.inr (.inr (.inr e))))).comp hbp (λk e=>.inr (by cases e;omega)))
  clear hbut hcm hl hO hcc hK;gi_wp2_with (refine⟨trivial,?_⟩;gi_at_call 368;refine (callsIn_wide.2 hfe.out).mono ?_;rintro e w4 ⟨rfl,hM4,hB4⟩;obtain⟨hl4,hK4,hfin⟩:=PX.out w4 hM4 hB4;have y4:=hl4.1;have HF:=ab hfin;have Ue:=ab hK4;clear hM4 hB4 hl4 hfin hK4)
  refine⟨by simp,.inl ⟨_,_,rfl,run_takeDeferred Ue.out,?_⟩⟩
  refine⟨.tuple #[.slice a (G true l n).length c,.int .i64 0],?_,a,c,rfl,HF.out⟩
  simp [results,Tryz.f324,go_sem]
end Go.Proofs.YtffmodpgddecnaaGreatDoor
