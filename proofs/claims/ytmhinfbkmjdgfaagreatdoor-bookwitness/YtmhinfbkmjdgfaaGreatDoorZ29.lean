import Derived.Test.YtmhinfbkmjdgfaaGreatDoorZ28
set_option linter.unusedVariables false
set_option linter.unusedSimpArgs false
set_option maxRecDepth 100000
set_option maxHeartbeats 2000000
namespace Go.Proofs.YtmhinfbkmjdgfaaGreatDoor.S
open Go.RowKit
variable {nx:Int}{Os:List Ob}{n room:Nat}
theorem qa (s g pb m n room:Nat)(nx:Int)(t:Nat->Bool)(B:Nat->Nat->Nat)(Os:List Ob)(id off:Int)(da:Option Addr)(k cd:Nat)(w:World)(h:fO w s g pb m n room nx t B Os)(hi:-9223372036854775808<=id/\id<9223372036854775808)(ho:jQ Os id=none) :
  Calls Tryz.prog 231 #[aq s,ab id,ab off,.slice da k cd] w λe w'=>e=.returned (ab 20)/\Below w.heap.size w w':=by
 have hz:=bg dD
 have H:=ae h
 clear h;go_enter Tryz.func231,Tryz.ntmps231
 go_wp2_with (first|(go_at_call 301;refine (mg s g pb m n room nx t B Os id off (k:Int) _ H.out hi ho).mono ?_;rintro e w1 ⟨rfl,hb⟩;have HB:=ae hb;clear hb))
 go_ret;exact⟨rfl,aa HB.out (ag _ _)⟩
theorem sU (s g pb m n room:Nat)(nx:Int)(t:Nat->Bool)(B:Nat->Nat->Nat)(Os:List Ob)(id off:Int)(o:Ob)(da:Option Addr)(k cd:Nat)(w:World)(h:fO w s g pb m n room nx t B Os)(hi:-9223372036854775808<=id/\id<9223372036854775808)(ho:jQ Os id=some o)(hb:¬j8 o off (k:Int)) :
  Calls Tryz.prog 231 #[aq s,ab id,ab off,.slice da k cd] w λe w'=>e=.returned (ab 5)/\Below w.heap.size w w':=by
 have hz:=bg dD
 have H:=ae h
 clear h;go_enter Tryz.func231,Tryz.ntmps231
 go_wp2_with (first|(go_at_call 301;refine (ng s g pb m n room nx t B Os id off (k:Int) o _ H.out hi ho hb).mono ?_;rintro e w1 ⟨rfl,hb⟩;have HB:=ae hb;clear hb))
 go_ret;exact⟨rfl,aa HB.out (ag _ _)⟩
def Az (w4:World)(g pb n:Nat)(t:Nat->Bool)(B:Nat->Nat->Nat)(aC:List Nat)(off k:Nat)(da:Option Addr)(D:List Nat)(v3 v31:Value)(w':World):Prop :=
 ∃(i r cd:Nat) (ad:Option Addr) (B':Nat->Nat->Nat),v3=.slice ad r cd/\v31=ab (i:Int)/\r=off+k - pos off k i/\i<=oP off k/\Row w' ad r cd (aN (D.drop (pos off k i - off)))/\(∀j,aI ad j->aI da j)/\fo w' g pb n t B'/\qk aC B B' off (pos off k i) D/\aj (·=pb) w4 w'
theorem vQ (s g pb m n room:Nat)(nx:Int)(t:Nat->Bool)(B:Nat->Nat->Nat)(Os:List Ob)(id:Int)(off:Nat)(o:Ob)(da:Option Addr)(k cd:Nat)(D:List Nat)(w:World)(h:fO w s g pb m n room nx t B Os)(hi:-9223372036854775808<=id/\id<9223372036854775808)(ho:jQ Os id=some o)(hle:off+k<=o.data.length)(hk:k<=1024)(hR:Row w da k cd (aN D))(hD:∀x∈D,x<256)(hap:0<k->∀j,aI da j->j≠pb) :
  Calls Tryz.prog 231 #[aq s,ab id,ab (off:Int),.slice da k cd] w λe w'=>∃B',e=.returned (ab 0)/\fO w' s g pb m n room nx t B' (Os.map (ec id off D))/\aj (·=pb) w w':=by
 have hz:=bg dD
 have hz75:=bg oH
 have hmem:=(at_mem ho).1
 have hbig:=h.gJ o hmem
 have O5:=ae (h.rows o hmem)
 have QC:=ae (h.len o hmem)
 have UO:Hid (∀p∈o.aC,t p=true):=ae (λp hp=>(h.mem hmem hp).1)
 have Xi:=ae ((iu h.nd).1 o hmem)
 have H:=ae h
 have VJ:Hid (j8 o (off:Int) (k:Int)):=ae (by unfold j8;omega)
 have hsl:=World.block_lt_of_cell? _ _ h.c0.1
 have hgl:=h.rQ.DU
 have hpl:=h.rQ.lt
 have hsp:=h.sp
 have hDl:D.length=k:=by have:=hR.len;rwa [ao] at this
 have SR:=ae hDl
 have hP64:off+k<=64*o.aC.length:=by have:=QC.out;unfold bp at this;omega
 have Q6:=ae hP64
 have RJ:=ae hle
 have HR:=ae hR
 have HD:=ae hD
 have Tj:=ae hap
 have hb4:off+k<=4096:=by omega
 clear h hP64 hle hR hD hap hDl;go_enter Tryz.func231,Tryz.ntmps231
 go_upto_region 4 with (first|(go_at_call 301;refine (qS s g pb m n room nx t B Os id (off:Int) (k:Int) o _ H.out hi ho VJ.out).mono ?_;rintro e w1 ⟨rfl,hb⟩;have HB:=ae hb;clear hb))
 obtain⟨w3,hw3⟩:∃w3,w3=w1.alloc (Obj.cells #[Value.int .i64 (o.data.length:Int),Value.slice o.kL o.aC.length o.aC.length] 364):=⟨_,rfl⟩
 have OJ:Hid (Below w.heap.size w w3):=ae (by rw [hw3];exact aa HB.out (ag _ _))
 have x10a:w3.cell? ⟨w1.heap.size,0,none⟩=some (ab (o.data.length:Int)):=by rw [hw3];exact (bf _ _ _ 0 _ rfl).1
 have x10b:w3.cell? ⟨w1.heap.size,1,none⟩=some (.slice o.kL o.aC.length o.aC.length):=by rw [hw3];exact (bf _ _ _ 1 _ rfl).1
 rw [<-hw3];clear hw3 hz;go_upto_region 5 with (first|(go_at_call 302;refine (k_ (o.data.length:Int) o.kL o.aC off k _ (O5.out.later OJ.out) Q6.out hb4).mono ?_;rintro e w4 ⟨ap,capp,rfl,OP,hb⟩;have SK:=ae OP;have OM:=ae hb;clear OP hb))
 clear x10a x10b;have U8:=ae ((H.out.later OJ.out).later OM.out)
 have UM:=ae ((HR.out.later OJ.out).later OM.out)
 obtain⟨c,hc⟩:∃c,c=oP off k:=⟨_,rfl⟩
 rw [<-hc] at SK;rw [<-hc];have Rl:=ae hc
 have hc64:c<=4096:=by rw [hc];unfold oP;split<;>omega
 have hs3:=OJ.out.size
 clear hc;go_loopw [3,31] (Az w4 g pb n t B o.aC off k da D) (λ_ v _=>c - jv v)
 case atStart =>
  exact⟨0,k,cd,da,B,rfl,rfl,by rw [gB];omega,Nat.zero_le _,by rw [gB,Nat.sub_self];exact UM.out,λ_ h=>h,U8.out.rQ,by rw [gB];exact rG _ _ _ _,aj.refl _ _⟩
 case round =>
  obtain⟨i,r,cq,ad,B1,rfl,rfl,hr,hin,hRr,hBl,hA,hW,hBt⟩:=hrel
  have Ur:=ae hr
  have Ry:=ae hRr
  have QA:=ae hBl
  have HA:=ae hA
  have HW:=ae hW
  have OQ:=ae hBt
  have Sp:=ae hin
  clear hr hRr hBl hA hW hBt hin;have xs:=an OQ.out U8.out.c0.1 hsp
  by_cases hlt:i<c
  ·have hd:decide ((i:Int)<(c:Int))=true:=decide_eq_true (by omega)
   have hpi:pos off k i<off+k:=(iB off k i).1 (by have:=Rl.out;omega)
   obtain⟨gp,rfl,hg1,hg2,y0,y1,y2⟩:=qK SK.out hlt
   have hgb:gp≠pb:=by omega
   replace y0:=an OQ.out y0 hgb
   replace y1:=an OQ.out y1 hgb
   replace y2:=an OQ.out y2 hgb
   have hql:=DL QC.out RJ.out hpi
   have QU:=ae (si Xi.out SR.out Q6.out hpi HW.out)
   have hnx:=fS hpi
   have hpl2:=ij off k i
   obtain⟨pg,hpg⟩:∃pg,pg=o.aC.getD (off / 64+i) 0:=⟨_,rfl⟩
   obtain⟨st,hst⟩:∃st,st=pos off k i%64:=⟨_,rfl⟩
   obtain⟨f,hf⟩:∃f,f=pos off k (i+1) - pos off k i:=⟨_,rfl⟩
   have HT:Hid (t pg=true):=ae (UO.out pg (by rw [hpg];exact iP hql))
   have hsf:st+f<=64:=by omega
   have hfr:f<=r:=by have:=Ur.out;omega
   rw [<-hpg,<-hst,<-hf] at QU;rw [<-hpg] at y0;rw [<-hst] at y1;rw [<-hf] at y2;have Ss:Hid (off+k - pos off k (i+1)=r - f/\pos off k (i+1) - off=pos off k i - off+f):=ae (by have:=Ur.out;omega)
   have hr4:r<=4096:=by have:=Ur.out;omega
   have hcq:=Ry.out.cap_
   obtain⟨a2,hcut,ha2⟩:=rW 38 5 Hy vA ad r cq f hfr
   obtain⟨hR2,hBl2⟩:=Ry.out.from hfr ha2
   have Pp:=ae hR2
   have TD:=ae hBl2
   have hc0:(0:Int)<=(f:Int):=by omega
   have hc1:(f:Int)<=(cq:Int):=by omega
   have Xu:Hid (Row wr ad f cq (aN ((D.drop (pos off k i - off)).take f))):=ae (by
    have:=Ry.out.sub (m:=f) (c:=cq) hfr (by omega) (λe=>(Ry.out.none_ e).2)
    rwa [yT] at this)
   have W5:Hid (∀x∈(D.drop (pos off k i - off)).take f,x<256):=ae (λx hx=>HD.out x (List.mem_of_mem_drop (List.mem_of_mem_take hx)))
   have VH:Hid (0<k):=ae (by omega)
   clear hpg hst hf hnx hpl2 hpi hql hR2 hBl2 ha2;go_upto_region 7 with fail
   obtain⟨w5,hw5⟩:∃w5,w5=wr.alloc (Obj.cells #[Value.int .i64 (pg:Int),Value.int .i64 (st:Int),Value.int .i64 (f:Int)] 436):=⟨_,rfl⟩
   have OS:Hid (Below wr.heap.size wr w5):=ae (by rw [hw5];exact ag _ _)
   have hwp:wr.heap.size≠pb:=by have:=OQ.out.size;omega
   have HS:Hid (∀W,aj (·=pb) w5 W->(W.cell? ⟨s,0,none⟩=some (aq g)/\W.cell? ⟨wr.heap.size,0,none⟩=some (ab (pg:Int))/\W.cell? ⟨wr.heap.size,1,none⟩=some (ab (st:Int))/\W.cell? ⟨wr.heap.size,2,none⟩=some (ab (f:Int)))/\aj (·=pb) w5 W):=ae (by
    intro W hW;refine⟨⟨an hW (cell_later OS.out xs) hsp,?_,?_,?_⟩,hW⟩<;>refine an hW ?_ hwp<;>rw [hw5]
    ·exact (bf _ _ _ 0 _ rfl).1
    ·exact (bf _ _ _ 1 _ rfl).1
    ·exact (bf _ _ _ 2 _ rfl).1)
   rw [<-hw5];have SI:=ae (HA.out.later OS.out)
   have Uj:=ae (Xu.out.later OS.out)
   clear hw5 y0 y1 y2 xs;have UU:=ae hcut
   clear hcut;go_region_held3 (λW=>(W.cell? ⟨s,0,none⟩=some (aq g)/\W.cell? ⟨wr.heap.size,0,none⟩=some (ab (pg:Int))/\W.cell? ⟨wr.heap.size,1,none⟩=some (ab (st:Int))/\W.cell? ⟨wr.heap.size,2,none⟩=some (ab (f:Int)))/\aj (·=pb) w5 W) (first|exact HS.out _ (aj.of (Below.refl _ _).drew)|exact HS.out _ hb2.out) (first|(go_at_call 304;refine (mb g pb n t B1 pg st _ f cq _ _ (SI.out.later (Below.refl _ _).drew) HT.out hsf W5.out (Uj.out.later (Below.refl _ _).drew)).mono ?_;rintro e w6 ⟨rfl,A6,hb6⟩;have hb2:=ae ((aj.of (S:=(·=pb)) (Below.refl w5.heap.size w5).drew).trans hb6)))
   have z2:=(HS.out _ hb2.out).1.2.2.2
   have hcut:=UU.out w6
   have XN:=ae A6
   have Pq:=ae (((OQ.out.call OS.out).trans hb2.out))
   clear A6 hb6;go_wp2;refine⟨⟨i+1,r - f,cq - f,a2,_,rfl,rfl,Ss.out.1.symm,by have:=Rl.out;omega,?_,λj hj=>QA.out j (TD.out j hj),XN.out,QU.out,Pq.out⟩,by simp [jv];omega⟩
   have e:aN (D.drop (pos off k (i+1) - off))=(aN (D.drop (pos off k i - off))).drop f:=by rw [zm,List.drop_drop,Ss.out.2]
   rw [e];exact (Pp.out.later OS.out).but hb2.out (λj hj=>Tj.out VH.out j (QA.out j (TD.out j hj)))
  ·obtain rfl:i=c:=by have:=Sp.out;have:=Rl.out;omega
   have hd:decide ((i:Int)<(i:Int))=false:=by simp
   have XD:Hid (pos off k i=off+k):=ae (by rw [Rl.out];exact uz off k)
   clear xs;go_wp2;go_ret;have hW:=HW.out
   rw [XD.out,<-SR.out] at hW;refine⟨B1,rfl,U8.out.write ho (by rw [SR.out];exact RJ.out) HA.out hW OQ.out,?_⟩
   exact (aj.of (aa OJ.out OM.out)).trans OQ.out
theorem jZ (Os:List Ob)(o:Ob):g7 (Os++[o])=g7 Os++o.aC:=by simp [g7]
theorem fO.create {w w':World}{s g pb m:Nat}{t:Nat->Bool}{B:Nat->Nat->Nat}{k:Nat}{a:Option Addr}(h:fO w s g pb m n room nx t B Os)(hk:k<=4096)(hf:bp k<=(fA n t false).length)(hroom:Os.length<room)(hnx:nx<=4611686018427387904)
  (hA:fo w' g pb n (tk t ((fA n t false).take (bp k))) B) (hrow:Row w' a (bp k) (bp k) (ints (fN ((fA n t false).take (bp k))))) (hblk:∀j,aI a j->w.heap.size<=j/\j<w'.heap.size)
  (x0:aM w' ⟨s,0,none⟩ (.pointer (some ⟨g,0,none⟩))) (x1:aM w' ⟨s,1,none⟩ (.map (some m))) (x2:aM w' ⟨s,2,none⟩ (.int .i64 (room:Int))) (x3:aM w' ⟨s,3,none⟩ (.int .i64 (nx+1)))
  (hmap:w'.ownsMap Tryz.prog 3 hr m (Os.length+1) (ib (Os++[⟨nx,List.replicate k 0,(fA n t false).take (bp k),a⟩]))) (hb:aj (Sb s g pb m) w w') :
  fO w' s g pb m n room (nx+1) (tk t ((fA n t false).take (bp k))) B (Os++[⟨nx,List.replicate k 0,(fA n t false).take (bp k),a⟩]):=by
 generalize hP:(fA n t false).take (bp k)=P at *
 have hPl:P.length=bp k:=by rw [<-hP,List.length_take];omega
 have hPm:∀i∈P,t i=false:=λi hi=>(pj.1 (List.mem_of_mem_take (hP ▸ hi))).2
 have hPn:P.Nodup:=by rw [<-hP];exact (List.take_sublist _ _).nodup (nO _ _ _)
 have hsl:=World.block_lt_of_cell? _ _ h.c0.1
 have hgl:=h.rQ.DU
 have hpl:=h.rQ.lt
 have hml:=h.map.lt
 have hmem:∀p,p∈Os++[⟨nx,List.replicate k 0,P,a⟩]->p∈Os\/p=⟨nx,List.replicate k 0,P,a⟩:=λp hp=>by
  rcases List.mem_append.1 hp with h1|h1
  ·exact .inl h1
  ·exact .inr (by simpa using h1)
 refine⟨hA,x0,x1,x2,x3,by rw [List.length_append];exact hmap,h.sg,h.sp,h.sm,h.gm,h.pm,λp hp=>?_,λp hp j hj=>?_,λp hp=>?_,?_,λi=>?_,λp hp j hj=>?_,?_,λp hp=>?_,⟨by have:=h.H_;omega,by omega⟩,⟨by rw [List.length_append];simp;omega,h.rm.2⟩,λp hp=>?_⟩
 ·rcases hmem p hp with h1|rfl
  ·refine (h.rows p h1).but hb (λj hj=>?_)
   obtain⟨a1,a2,a3,a4,a5⟩:=h.off p h1 j hj
   rintro (e|e|e|e)
   ·exact a1 e
   ·exact a2 e
   ·exact a3 e
   ·exact a4 e
  ·simp only [hPl]
   exact hrow
 ·rcases hmem p hp with h1|rfl
  ·obtain⟨a1,a2,a3,a4,a5⟩:=h.off p h1 j hj
   exact⟨a1,a2,a3,a4,Nat.lt_of_lt_of_le a5 hb.size⟩
  ·have:=hblk j hj
   simp only at hsl;exact⟨by omega,by omega,by omega,by omega,this.2⟩
 ·rcases hmem p hp with h1|rfl
  ·exact h.len p h1
  ·simp [hPl]
 ·rw [jZ,List.nodup_append]
  refine⟨h.nd,hPn,λi hi j hj e=>?_⟩
  subst e;have h1:=hPm i hj
  rw [h.Gi i] at h1;exact absurd hi (by simpa using h1)
 ·rw [jZ]
  simp only [tk,h.Gi i,List.mem_append,Bool.decide_or]
 ·rcases hmem p hp with h1|rfl
  ·exact h.bytes p h1 j hj
  ·simp only [List.length_replicate] at hj
   have hq:j / 64<P.length:=by rw [hPl];unfold bp;omega
   simp only
   rw [h.rQ.zero _ _ (hPm _ (iP hq))];simp [List.getD_eq_getElem?_getD,hj]
 ·rw [List.pairwise_append]
  refine⟨h.qL,by simp,λp hp q hq=>?_⟩
  simp only [List.mem_singleton] at hq;subst hq;exact (h.ids p hp).2
 ·rcases hmem p hp with h1|rfl
  ·have:=h.ids p h1
   omega
  ·have:=h.H_
   simp only
   omega
 ·rcases hmem p hp with h1|rfl
  ·exact h.gJ p h1
  ·simpa using hk
theorem wS {size:Int}(h:jm room n nx Os size=0):0<=size/\size<=4096/\Os.length<room/\nx<=4611686018427387904/\bp size.toNat<=n - fJ Os:=by
 unfold jm at h;repeat' split at h
 ·omega
 ·omega
 ·omega
 ·omega
theorem ju (s g pb m n room:Nat)(nx:Int)(t:Nat->Bool)(B:Nat->Nat->Nat)(Os:List Ob)(k:Nat)(w:World)(h:fO w s g pb m n room nx t B Os)(hE:jm room n nx Os (k:Int)=0) :
  Calls Tryz.prog 224 #[.pointer (some ⟨s,0,none⟩),.int .i64 (k:Int)] w λe w'=>∃a t',e=.returned (.tuple #[.int .i64 nx,.int .i64 0])/\(∀j,aI a j->w.heap.size<=j/\j<w'.heap.size)/\fO w' s g pb m n room (nx+1) t' B (Os++[⟨nx,List.replicate k 0,(fA n t false).take (bp k),a⟩])/\aj (Sb s g pb m) w w':=by
 obtain⟨_,hk,hroom,hnx,hneed⟩:=wS hE
 rw [Int.toNat_natCast] at hneed;have hk2:k<=4096:=by omega
 have hf:bp k<=(fA n t false).length:=by have:=h.count;omega
 have H:=ae h
 have HE:=ae hE
 have HR:=ae hroom
 have HF:=ae hf
 have hsg:=h.sg
 have hsm:=h.sm
 have hgm:=h.gm
 have hnx1:=h.H_.1
 clear h hE hroom hf hneed hk;go_enter Tryz.func224,Tryz.ntmps224
 go_upto_region 4 with (first|(go_at_call 222;refine (gL s g pb m n room nx t B Os (k:Int) _ H.out).mono ?_;rintro e w1 ⟨rfl,hb⟩;rw [HE.out];have HB:=ae hb;clear hb))
 have H1:=ae (H.out.later HB.out)
 have HS:Hid (∀W,aj (·=g) w1 W->(W.cell? ⟨s,0,none⟩=some (.pointer (some ⟨g,0,none⟩)))/\aj (·=g) w1 W):=ae (λW hW=>⟨an hW H1.out.c0.1 hsg,hW⟩)
 go_region_held3 (λW=>(W.cell? ⟨s,0,none⟩=some (.pointer (some ⟨g,0,none⟩)))/\aj (·=g) w1 W) (first|exact HS.out _ (aj.of (Below.refl _ _).drew)|exact HS.out _ hb2.out) (first
  | (go_at_call 290;refine (kO k _ hk2).mono ?_;rintro e w2 ⟨rfl,hw⟩;obtain rfl:=hw.symm)
  | (go_at_call 293;refine (BW g pb n t B (bp k) _ (H1.out.rQ.later (Below.refl _ _).drew) HF.out).mono ?_;rintro e w2 ⟨a,rfl,R2,A2,b2⟩;have hb2:=ae ((aj.of (S:=(·=g)) (Below.refl w1.heap.size w1).drew).trans b2)))
 have Qa:=ae A2
 have Pp:=ae R2
 have y0:=H1.out.c0.but hb2.out hsg
 have y1:=H1.out.c1.but hb2.out hsg
 have y2:=H1.out.c2.but hb2.out hsg
 have y3:=H1.out.c3.but hb2.out hsg
 have hm2:=bS hb2.out H1.out.map (λe=>hgm e.symm)
 obtain⟨P,hP⟩:∃P,P=(fA n t false).take (bp k):=⟨_,rfl⟩
 obtain⟨K,hK⟩:∃K,K=bp k:=⟨_,rfl⟩
 have hPl:P.length=K:=by rw [hP,hK,List.length_take];have:=HF.out;omega
 obtain⟨w3,hrun,hm3,htn⟩:=hm2.store sl Tryz.underlying233 (by have:=HR.out;have:=H.out.rm.2;unfold maxLen;omega) (key:=.int .i64 nx) (kl:=.int .i64 nx) (yE (by omega)) (val:=.agg #[.int .i64 (k:Int),.slice a K K]) (d:=.held (.agg #[.int .i64 (k:Int),.slice a K K])) (ps:=[]) rfl
 have hb3:=lz htn
 have hsmn:¬s=m:=hsm
 have z0:=y0.but hb3 hsmn
 have z1:=y1.but hb3 hsmn
 have z2:=y2.but hb3 hsmn
 have z3:=y3.but hb3 hsmn
 have SJ:Hid (w3.ownsMap Tryz.prog 3 hr m (Os.length+1) (ib (Os++[⟨nx,List.replicate k 0,P,a⟩]))):=ae (by
  have e:=zf Os ⟨nx,List.replicate k 0,P,a⟩ (λp hp=>(H.out.ids p hp).2)
  simp only [Ob.val,List.length_replicate,hPl] at e;rw [<-e];exact hm3)
 have U9:=ae z0
 have PI:=ae z1
 have PU:=ae z2
 have Sx:=ae z3
 have OJ:=ae hb3
 have e1:=y1.1
 have e3:=y3.1
 have f3:=z3.1
 have g3:=z3.2
 have hwr:IntKind.i64.wrap (nx+1)=nx+1:=by rw [IntKind.wrap_i64];omega
 rw [<-hK];have HP:=ae hP
 have HK:=ae hK
 have WV:=ae hPl
 clear A2 R2 b2 y0 y1 y2 y3 hm2 hm3 htn hb3 z0 z1 z2 z3 hP hK hPl hw;go_wp2;have hP:=HP.out
 have hK:=HK.out
 subst hK;have hsz:=HB.out.size
 have hml:=H1.out.map.lt
 have hsl:s<w1.heap.size:=World.block_lt_of_cell? _ _ H1.out.c0.1
 have b4:aj (·=s) w3 (w3.setCell ⟨s,3,none⟩ (.int .i64 (nx+1))):=aj.setCell (S:=(·=s)) (aj.refl _ _) (p:=⟨s,3,none⟩) (show s=s from rfl) _
 have hge:=Pp.out.ge
 have hlt:=Pp.out.lt
 have hdw:w1.drew.heap.size=w1.heap.size:=rfl
 rw [hdw] at hge;have hall:aj (Sb s g pb m) w (w3.setCell ⟨s,3,none⟩ (.int .i64 (nx+1))):=(((aj.of HB.out).trans (hb2.out.mono (λ_ h=>.inr (.inl h)))).trans (OJ.out.mono (λ_ h=>.inr (.inr (.inr h))))).trans (b4.mono (λ_ h=>.inl h))
 refine bodyPost_ret (v:=.tuple #[.int .i64 nx,.int .i64 0]) (by simp [results,Tryz.results224,go_sem]) rfl ⟨a,tk t ((fA n t false).take (bp k)),rfl,λj hj=>⟨by have:=hge j hj;omega,Nat.lt_of_lt_of_le (hlt j hj) (Nat.le_trans OJ.out.size b4.size)⟩,?_,hall⟩
 rw [hP] at SJ;refine H.out.create hk2 HF.out HR.out hnx ((Qa.out.but OJ.out hgm H.out.pm).but b4 (Ne.symm hsg) (Ne.symm H.out.sp)) ((Pp.out.row.but OJ.out (λj hj e=>?_)).but b4 (λj hj e=>?_)) (λj hj=>⟨by have:=hge j hj;omega,Nat.lt_of_lt_of_le (hlt j hj) (Nat.le_trans OJ.out.size b4.size)⟩) (U9.out.other (by simp)) (PI.out.other (by simp)) (PU.out.other (by simp)) Sx.out.put (SJ.out.setCell (a:=⟨s,3,none⟩) (Ne.symm hsm) _) hall
 ·have:=hge j hj
  omega
 ·have:=hge j hj
  omega
end Go.Proofs.YtmhinfbkmjdgfaaGreatDoor.S
