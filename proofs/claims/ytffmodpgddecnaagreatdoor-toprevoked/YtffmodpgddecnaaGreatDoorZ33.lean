import Derived.Test.YtffmodpgddecnaaGreatDoorZ32
set_option linter.unusedVariables false
set_option linter.unusedSimpArgs false
set_option maxRecDepth 100000
set_option maxHeartbeats 4000000
namespace Go.Proofs.YtffmodpgddecnaaGreatDoor.V
open Go.RowKit
open Go.Proofs.YtffmodpgddecnaaGreatDoor.H (aq Cp)
section
variable {w w':World}
def Cf.pm (c:Cf)(n:Nat)(f:Nat->Nat):Pm:=⟨c.m.toNat,c.q,n,f,c.o.toNat,c.p.toNat,c.r,c.l,c.W⟩
theorem Cf.enter (c:Cf)(w:World):Below w.heap.size w (w.alloc (Obj.cells c.L.toArray 23))/\R.Bx (w.alloc (Obj.cells c.L.toArray 23)) w.heap.size c.L:=⟨ae _ _,R.Bx.new w c.L 23⟩
theorem KH {p:Pm}(hm:1<=p.mo/\p.mo<=256)(hp:1<=p.pm/\p.pm<=32)(hl:1<=p.lm/\p.lm<=32)(hc:∀i,i<p.n->p.c i<aq*aq)(hi:Inv p.mo (List.replicate p.mo tz) []):KF p (sa p.mo [0]) :=
 {fit:={ inv:=hi,mO:=λo=>by simp [sa,jF,aj],len:=rfl,obj:=λo=>by simp [sa,dR,aj],ids:=λp hp=>(by cases hp) }
  le:=Nat.zero_le _
  cs:=hc
  iv:=P.Iv.start hp.1 hp.2
  ln:=λi _=>by show ((0:Nat):Int)<=_;omega
  wd:=λi _ c hc=>(by cases hc)
  lm:=hl
  ks:=rfl
  nx:=by show (1:Int)<=1/\(1:Int)<=_;decide }
theorem bU (c:Cf)(hc:c.may=true)(a:Option Addr)(n cap:Nat)(f:Nat->Nat)(w:World)(hw:D.Ws w a n cap f)(hn:n<=4096)(hl:D.Laid w)(h0:0<w.heap.size) :
  Calls Tryz.prog 11 #[c.v,.slice a n cap] w λe w'=>∃H N,e=.returned (.tuple #[.pointer (some ⟨H.kb,0,none⟩),.int .i64 0])/\Kn w' H (sa c.m.toNat [0]) N/\H.p=c.pm n (λj=>D.aY (f j) c.W)/\H.cf=c.L/\(∀k,N k->w.heap.size<=k)/\Below w.heap.size w w':=by
 obtain⟨W,hW⟩:∃W,W=w.alloc (Obj.cells c.L.toArray 23):=⟨_,rfl⟩
 have he:=c.enter w
 rw [<-hW] at he;have hb:=Cf.oD.1 hc
 have HB:=ab he.1
 have P5:=ab (λU (hU:Below W.heap.size W U)=>Ia (R.Bx.later hU he.2))
 have HX:=ab he.2
 have HM:=ab (Aj c W)
 rw [hc] at HM;have HN:=ab (λU (hU:Below W.heap.size W U)=>D.bU a n cap f c.W U ((hw.later he.1).later hU) hb.1.1 hb.1.2 hn)
 have hcf:c=⟨c.W,(c.o.toNat:Int),(c.p.toNat:Int),(c.m.toNat:Int),c.q,c.r,c.l,(c.s.toNat:Int),(c.y.toNat:Int),(c.k.toNat:Int)⟩:=by
  rw [Int.toNat_of_nonneg (by omega),Int.toNat_of_nonneg (by omega),Int.toNat_of_nonneg (by omega),Int.toNat_of_nonneg (by omega),Int.toNat_of_nonneg (by omega),Int.toNat_of_nonneg (by omega)]
 have Wx:Hid (∀(w1 w2:World) (g gb:Nat),Below W.heap.size W w1->Below w1.heap.size w1 w2->D.Dr w2 g gb n (λj=>D.aY (f j) c.W) 0->w1.heap.size<=g->w1.heap.size<=gb->Calls Tryz.prog 45 #[c.v,.pointer (some ⟨g,0,none⟩)] w2 λe' w'=>∃H N,e'=.returned (.pointer (some ⟨H.kb,0,none⟩))/\aI w' H (sa c.m.toNat [0]) K.T0 N/\H.p=c.pm n (λj=>D.aY (f j) c.W)/\H.cf=c.L/\(∀k,N k->w.heap.size<=k)/\ah (λk=>w.heap.size<=k) w2 w'):=λw1 w2 g gb h1 h2 hd hg hgb=>by
  have s1:=he.1.size
  have s2:=h1.size
  have s3:=h2.size
  have:=xB g gb n (λj=>D.aY (f j) c.W) c.W c.o.toNat c.p.toNat c.m.toNat c.q c.r c.l c.s.toNat c.y.toNat c.k.toNat w2 w.heap.size w.heap.size hd ⟨by omega,λ_=>by omega⟩ ⟨h0,Nat.le_refl _,by omega⟩ (cell_later h2 (cell_later h1 (cell_later he.1 hl))) (by omega) (by omega) (by omega) (by omega) (by omega) (by omega) (by omega) (by omega) (by omega)
  rw [<-hcf] at this;exact this
 have R9:Hid (∀i,i<n->D.aY (f i) c.W<aq*aq):=λi _=>Nat.lt_of_le_of_lt (Nat.mod_le _ _) (hw.small i)
 have S5:=ab hb
 have HW:=ab hW
 clear he hW hc hb hn hl h0 hcf hw;go_enter Tryz.func11,Tryz.ntmps11
 go_upto_region 1 with fail
 rw [<-HW.out];go_upto_region 3 with (first|((with_reducible refine R.aV (P5.out W (Below.refl _ _)) ?_ ?_);(· rfl))|(go_at_call 43;refine HM.out.mono ?_;rintro e w1 ⟨rfl,hb1⟩;have PC:=ab hb1;clear hb1))
 have x0:=(R.Bx.later PC.out HX.out).cell 0 rfl
 go_upto_region 6 with (first|(go_at_call 44;refine (HN.out w1 PC.out).mono ?_;rintro e w2 ⟨g,gb,rfl,hdr,hg,hgb,-,hb2⟩;have QQ:=ab hdr;have HG:=ab (And.intro hg hgb);have PB:=ab hb2;clear hdr hg hgb hb2))
 clear x0;have Wf:=ab (Wx.out w1 w2 g gb PC.out PB.out QQ.out HG.out.1 HG.out.2)
 go_wp2_with (first|((with_reducible refine R.aV (P5.out w2 (aa PC.out PB.out)) ?_ ?_);(· rfl))|(go_at_call 45;refine Wf.out.mono ?_;rintro e w3 ⟨H,N,rfl,hd,hp,hcf,hN,hb⟩;have HD:=ab hd;have SS:=ab hp;have Uk:=ab hcf;have UL:=ab hN;have PE:=ab hb;clear hd hp hcf hN hb))
 have hbd:=S5.out
 refine bodyPost_ret (v:=.tuple #[.pointer (some ⟨H.kb,0,none⟩),.int .i64 0]) (by simp [results,Tryz.results11,go_sem]) rfl ⟨H,N,rfl,⟨_,HD.out,L.Tr.zero _ _,?_,?_⟩,SS.out,Uk.out,UL.out,ah.below (aa HB.out (aa PC.out PB.out)) PE.out (λk e=>e)⟩
 ·have hk:=SS.out
  rw [hk];have hi:Inv (c.pm n (λj=>D.aY (f j) c.W)).mo (List.replicate (c.pm n (λj=>D.aY (f j) c.W)).mo tz) []:=by
   have h1:=HD.out.inv
   have h2:H.mo=c.m.toNat:=by have:H.p.mo=_:=congrArg Pm.mo hk;exact this
   rw [h2] at h1;exact h1
  exact KH ⟨by show 1<=c.m.toNat;omega,by show c.m.toNat<=256;omega⟩ ⟨by show 1<=c.r;omega,by show c.r<=32;omega⟩ ⟨by show 1<=c.l;omega,by show c.l<=32;omega⟩ R9.out hi
 ·have:H.p.W=_:=congrArg Pm.W SS.out
  show 1<=H.p.W
  rw [this];show 1<=c.W
  omega
end
section
variable {w w':World}
theorem FA:(Tryz.prog.info? 30).map (λi=>(i.zero,i.size,i.bytes))=some (some (.agg #[.int .u64 0,.int .u64 0]),2,16):=by kernel_rfl
theorem BF (w:World)(e:TypeId)(k:Nat):Ow (w.alloc (Obj.cells #[] e)) w.heap.size e k (some ⟨w.heap.size,0,none⟩) 0 0 [] :=
 World.ownsRow_made (base:=w.heap.size) (size:=k) (e:=e) w #[] 0 (by simp) (by unfold maxLen;omega) (by simp)
theorem xV (f:Nat->Nat)(n m:Nat)(h:m<=n):(D.oT f n).take (m*2)=D.oT f m:=by
 have e:D.oT f n=D.oT f m++(D.oT (λi=>f (m+i)) (n - m)):=by
  unfold D.oT;rw [show n=m+(n - m) by omega,List.range_add,List.flatMap_append,List.flatMap_map];simp
 rw [e,List.take_left' (D.ca f m)]
theorem Ws.cr {a:Option Addr}{n cap:Nat}{f:Nat->Nat}(h:D.Ws w a n cap f):Cr w 2 a n cap (D.oT f n) :=
 ⟨D.ca f n,h.none_,h.cells,λu hu=>by
  unfold D.oT at hu;obtain⟨i,_,hi⟩:=List.mem_flatMap.1 hu
  simp only [D.xN,List.mem_cons,List.not_mem_nil,or_false] at hi;rcases hi with rfl|rfl<;>rfl⟩
theorem jK {a:Option Addr}{n cap:Nat}{f:Nat->Nat}(h:D.Ws w a n cap f)(hn:n<=1048576) :
  ∃a' c' w3,(Builtin.append_ #[24,24] 24 #[.slice (some ⟨w.heap.size,0,none⟩) 0 0,.slice a n cap]).run Tryz.prog (w.alloc (Obj.cells #[] 30))=.ok (.slice a' n c') w3/\D.Ws w3 a' n c' f/\(∀j,aJ a' j->w.heap.size<=j/\j<w3.heap.size)/\Below w.heap.size w w3:=by
 have hB:=ae w (Obj.cells #[] 30)
 have hO:=BF w 30 2
 obtain⟨a',c',w3,hrun,hO3,hG⟩:=er 24 30 _ 2 16 Tryz.underlying24 FA rfl (by omega) (by omega) hO (Ws.cr (h.later hB)) hB.size (by omega)
 rw [Nat.zero_add] at hrun hO3;rw [List.nil_append] at hO3;have hO3:Ow w3 w.heap.size 30 2 a' n c' (D.oT f n):=hO3
 refine⟨a',c',w3,hrun,⟨?_,?_,?_,h.small⟩,λj hj=>hO3.bT j hj,ah.below hB hG.but (λk hk=>(hO.bT k hk).1)⟩
 ·rcases hO3.form with ⟨_,h1,h2⟩|⟨g,_,_,h3⟩
  ·omega
  ·exact h3
 ·intro e
  rcases hO3.form with ⟨_,h1,h2⟩|⟨g,h1,_⟩
  ·exact⟨h1,h2⟩
  ·rw [h1] at e;cases e
 ·intro x hx j u hu
  by_cases h0:0<n
  ·obtain⟨b,h1,h2⟩:=Ow.at_ hO3 h0
   rw [h1] at hx;cases hx
   rw [aQ];exact h2 j u hu
  ·have:n=0:=by omega
   subst this;simp [D.oT] at hu
theorem wj {a:Option Addr}{n cap:Nat}{f:Nat->Nat}(h:D.Ws w a n cap f):Calls Tryz.prog 10 #[.slice a n cap] w λe w'=>∃a' m c',e=.returned (.slice a' m c')/\m<=4096/\D.Ws w' a' m c' f/\(∀j,aJ a' j->w.heap.size<=j/\j<w'.heap.size)/\Below w.heap.size w w':=by
 by_cases hn:n<=4096
 ·have hd:decide ((n:Int)>4096)=false:=decide_eq_false (by omega)
  have hd2:decide ((4096:Int)<(n:Int))=false:=decide_eq_false (by omega)
  obtain⟨a',c',w3,hrun,hW,hb,hB⟩:=jK h (by omega)
  have HR:=ab hrun
  have HP:=ab (And.intro hn (And.intro hW (And.intro hb hB)))
  clear h hrun hW hb hB hn;go_enter Tryz.func10,Tryz.ntmps10
  go_wp2_with (first|(at_builtin;refine al rfl _ _ 24 rfl _ _ rfl rfl _ w3 HR.out ?_))
  exact bodyPost_ret (v:=.slice a' n c') (by simp [results,Tryz.results10,go_sem]) rfl ⟨a',n,c',rfl,HP.out⟩
 ·have hd:decide ((n:Int)>4096)=true:=decide_eq_true (by omega)
  have hd2:decide ((4096:Int)<(n:Int))=true:=decide_eq_true (by omega)
  have hc:=h.cap_
  cases a with
  | none=>have:=h.none_ rfl;omega
  | some x =>
   have h2:D.Ws w (some x) 4096 cap f:=⟨by omega,λe=>(by cases e),λy hy j u hu=>h.cells y hy j u (by rw [<-xV f n 4096 (by omega)] at hu;rw [List.getElem?_take] at hu;split at hu;exact hu;cases hu),h.small⟩
   obtain⟨a',c',w3,hrun,hW,hb,hB⟩:=jK h2 (by omega)
   have HR:=ab hrun
   have HP:=ab (And.intro hW (And.intro hb hB))
   clear h h2 hrun hW hb hB;go_enter Tryz.func10,Tryz.ntmps10
   go_upto_region 3 with fail
   go_wp2_with (first|(at_builtin;refine al rfl _ _ 24 rfl _ _ rfl rfl _ w3 HR.out ?_))
   exact bodyPost_ret (v:=.slice a' 4096 c') (by simp [results,Tryz.results10,go_sem]) rfl ⟨a',4096,c',rfl,Nat.le_refl _,HP.out⟩
end
end Go.Proofs.YtffmodpgddecnaaGreatDoor.V
namespace Go.Proofs.YtffmodpgddecnaaGreatDoor.V
open Go.RowKit
open Go.Proofs.YtffmodpgddecnaaGreatDoor.H (aq Cp)
open Go.Proofs.YtffmodpgddecnaaGreatDoor.D (il im aY cD cB)
open Go.Proofs.YtffmodpgddecnaaGreatDoor.M (ba)
section
variable {w w':World}
theorem Bl (a b N:Nat)(width:Int)(h:im a b N)(h0:1<=width/\width<=128)(w:World) :
  Calls Tryz.prog 82 #[.agg #[.int .u64 (a:Int),.int .u64 (b:Int)],.int .i64 width] w λe w'=>∃c d:Int,e=.returned (.agg #[.int .u64 c,.int .u64 d])/\il c d (aY N width)/\Below w.heap.size w w':=by
 by_cases h2:128<=width
 ·have hz:=il.of (D.uB h h2)
  have hd:decide (width<128)=false:=decide_eq_false (by omega)
  have hd2:decide (width<64)=false:=decide_eq_false (by omega)
  clear h;go_enter Tryz.func82,Tryz.ntmps82
  go_wp2;exact bodyPost_ret (v:=.agg #[.int .u64 a,.int .u64 b]) (by simp [results,Tryz.results82,go_sem]) rfl ⟨a,b,rfl,hz,aC _ _ _⟩
 ·have hd:decide (width<128)=true:=decide_eq_true (by omega)
  by_cases h3:64<=width
  ·have hz:=il.of (D.Ay h h3 (by omega))
   have hh:=h.ha
   have hd2:decide (width<64)=false:=decide_eq_false (by omega)
   have hw:IntKind.i64.wrap (width - 64)=width - 64:=by rw [IntKind.wrap_i64];omega
   obtain⟨m,hm⟩:∃m:Nat,width=(m:Int)+64:=⟨(width - 64).toNat,by omega⟩
   subst hm;have hm1:m<=63:=by omega
   have hl:=D.fu a m hh hm1
   have e:((m:Int)+64 - 64).toNat=m:=by omega
   rw [e] at hz;clear h e;go_enter Tryz.func82,Tryz.ntmps82
   go_wp2;exact bodyPost_ret (v:=.agg #[.int .u64 ((a%2 ^ m:Nat):Int),.int .u64 b]) (by simp [results,Tryz.results82,go_sem]) rfl ⟨_,b,rfl,hz,aC _ _ _⟩
  ·have hz:=il.of (D.zQ (width:=width) h (by omega) (by omega))
   have hh:=h.hb
   have hd2:decide (width<64)=true:=decide_eq_true (by omega)
   obtain⟨m,hm⟩:∃m:Nat,width=(m:Int):=⟨width.toNat,by omega⟩
   subst hm;have hm1:m<=63:=by omega
   have hl:=D.fu b m hh hm1
   rw [Int.toNat_natCast] at hz;clear h;go_enter Tryz.func82,Tryz.ntmps82
   go_wp2;exact bodyPost_ret (v:=.agg #[.int .u64 0,.int .u64 ((b%2 ^ m:Nat):Int)]) (by simp [results,Tryz.results82,go_sem]) rfl ⟨0,_,rfl,hz,aC _ _ _⟩
theorem Jg (N:Nat)(hN:N<aq*aq)(width:Int)(h0:1<=width/\width<=128)(w:World) :
  Calls Tryz.prog 82 #[.agg #[.int .u64 (cD N),.int .u64 (cB N)],.int .i64 width] w λe w'=>e=.returned (.agg #[.int .u64 (cD (aY N width)),.int .u64 (cB (aY N width))])/\Below w.heap.size w w':=by
 obtain⟨x,y,e1,e2,hi⟩:=(D.DN hN).ex
 rw [e1,e2];refine (Bl x y N width hi h0 w).mono ?_
 rintro e w' ⟨c,d,rfl,hv,hb⟩
 exact⟨by rw [hv.hi,hv.lo],hb⟩
def JI (f:Nat->Nat)(n:Nat)(width:Int):Bool:=decide (∀x,x<n->∀y,y<x->aY (f x) width≠aY (f y) width)
def K4 (w:World)(n:Nat)(f:Nat->Nat)(width:Int)(v:Value)(U:World):Prop:=∃i:Nat,v=.int .i64 (i:Int)/\i<=n/\Hid (∀x y,x<i->y<x->aY (f x) width≠aY (f y) width)/\Hid (Below w.heap.size w U)
def KN (w:World)(f:Nat->Nat)(i:Nat)(width:Int)(v:Value)(U:World):Prop:=∃j:Nat,v=.int .i64 (j:Int)/\j<=i/\Hid (∀y,y<j->aY (f i) width≠aY (f y) width)/\Hid (Below w.heap.size w U)
theorem tc {a:Option Addr}{n cap:Nat}{f:Nat->Nat}(h:D.Ws w a n cap f)(hn:n<=4096)(width:Int)(h0:1<=width/\width<=128) :
  Calls Tryz.prog 33 #[.slice a n cap,.int .i64 width] w λe w'=>e=.returned (.bool (JI f n width))/\Below w.heap.size w w':=by
 have HH:=ab h
 have HC:Hid (∀(i:Nat) (U:World),Calls Tryz.prog 82 #[.agg #[.int .u64 (cD (f i)),.int .u64 (cB (f i))],.int .i64 width] U λe w'=>e=.returned (.agg #[.int .u64 (cD (aY (f i) width)),.int .u64 (cB (aY (f i) width))])/\Below U.heap.size U w'):=λi U=>Jg (f i) (h.small i) width h0 U
 have HV:Hid (∀i,il (cD (aY (f i) width)) (cB (aY (f i) width)) (aY (f i) width)):=λi=>by
  obtain⟨x,y,e1,e2,hi⟩:=(D.DN (h.small i)).ex
  exact D.DN (Nat.lt_of_le_of_lt (Nat.mod_le _ _) (h.small i))
 clear h h0;go_enter Tryz.func33,Tryz.ntmps33
 go_upto_region 2 with fail
 go_loopw [5] (K4 w n f width) (λv _=>n - S.fe v)
 case atStart=>exact⟨0,rfl,Nat.zero_le _,ab (λx y h=>by omega),ab (Below.refl _ _)⟩
 case round =>
  obtain⟨i,rfl,hi,HN,HB⟩:=hrel
  by_cases hlt:i<n
  ·have hd:decide ((i:Int)<(n:Int))=true:=decide_eq_true (by omega)
   go_upto_region 5 with fail
   go_loopw [6] (KN w f i width) (λv _=>i - S.fe v)
   case atStart=>exact⟨0,rfl,Nat.zero_le _,ab (λy h=>by omega),HB⟩
   case round =>
    obtain⟨j,rfl,hj,HM,PB⟩:=hrel
    by_cases hjl:j<i
    ·have hdj:decide ((j:Int)<(i:Int))=true:=decide_eq_true (by omega)
     obtain⟨b,o,rfl,hw⟩:=(HH.out.later PB.out).plain (by omega)
     obtain⟨x0,x1⟩:=hw i hlt
     obtain⟨y0,y1⟩:=hw j (by omega)
     have hji:j<n:=by omega
     have HS:Hid (∀U,Below wr.heap.size wr U->U.cell? ⟨b,o+i*2,none⟩=some (.int .u64 (cD (f i)))/\U.cell? ⟨b,o+i*2+1,none⟩=some (.int .u64 (cB (f i)))/\U.cell? ⟨b,o+j*2,none⟩=some (.int .u64 (cD (f j)))/\U.cell? ⟨b,o+j*2+1,none⟩=some (.int .u64 (cB (f j)))):=λU hU=>⟨cell_later hU x0,cell_later hU x1,cell_later hU y0,cell_later hU y1⟩
     obtain⟨e,he⟩:∃e,e=decide (aY (f i) width=aY (f j) width):=⟨_,rfl⟩
     have heq:∀U:World,(binOp .eql 30 (.agg #[.int .u64 (cD (aY (f i) width)),.int .u64 (cB (aY (f i) width))]) (.agg #[.int .u64 (cD (aY (f j) width)),.int .u64 (cB (aY (f j) width))])).run Tryz.prog U=.ok (.bool e) U:=λU=>by
      rw [R.G6,he,<-D.su (HV.out i) (HV.out j)];unfold R.vu D.vu;rw [Bool.decide_and]
     have HE:=ab he
     clear hw x0 x1 y0 y1 he;go_upto_region 7 with fail
     refine wp_region_held_drew (S:=(λU:World=>U.cell? ⟨b,o+i*2,none⟩=some (.int .u64 (cD (f i)))/\U.cell? ⟨b,o+i*2+1,none⟩=some (.int .u64 (cB (f i)))/\U.cell? ⟨b,o+j*2,none⟩=some (.int .u64 (cD (f j)))/\U.cell? ⟨b,o+j*2+1,none⟩=some (.int .u64 (cB (f j))))) (by kernel_rfl) (HS.out _ (Below.refl _ _).drew) (λhHeld=>?_)
     refine nm 13 0 13 ?_
     refine tn 0 13 1 12 ?_
     simp only [zz];refine tn 1 13 3 11 ?_
     simp only [zz];refine tn 2 13 7 10 ?_
     simp only [zz];refine tn 3 13 15 9 ?_
     simp only [zz];refine tn 4 13 31 8 ?_
     simp only [zz];refine tn 6 13 95 7 ?_
     simp only [zz];refine tn 7 13 223 6 ?_
     simp only [zz];refine tn 8 13 479 5 ?_
     simp only [zz];refine tn 9 13 991 4 ?_
     simp only [zz];refine tn 10 13 2015 3 ?_
     simp only [zz];refine zr 5 λK hK=>?_
     go_simp
     go_wp2_with (first|(go_at_call 82;refine (HC.out i _).mono ?_;rintro e1 u1 ⟨rfl,hb1⟩;have Qh:=ab (aa (Below.refl _ _).drew hb1);clear hb1))
     refine zk hK 13 2047 2 (HS.out _ Qh.out) λhHeld=>?_
     clear hK K;try simp only [zz]
     refine zr 11 λK hK=>?_
     go_simp
     go_wp2_with (first|(go_at_call 82;refine (HC.out j _).mono ?_;rintro e2 u2 ⟨rfl,hb2⟩;have QO:=ab (aa Qh.out hb2);clear hb2))
     refine zk hK 13 4095 1 (HS.out _ QO.out) λhHeld=>?_
     clear hK K;try simp only [zz]
     refine tn 12 13 8191 0 ?_
     simp only [zz];refine zn ?_ _
     cases e with
     | true =>
      go_wp2;go_ret;exact⟨by rw [show JI f n width=false from decide_eq_false (λh9=>h9 i hlt j hjl (of_decide_eq_true HE.out.symm))];exact au rfl,aa PB.out QO.out⟩
     | false =>
      go_wp2;have hne:aY (f i) width≠aY (f j) width:=of_decide_eq_false HE.out.symm
      refine⟨⟨j+1,rfl,by omega,ab (λy hy=>?_),ab (aa PB.out QO.out)⟩,by simp [S.fe];omega⟩
      by_cases h9:y=j
      ·rw [h9];exact hne
      ·exact HM.out y (by omega)
    ·have hdj:decide ((j:Int)<(i:Int))=false:=decide_eq_false (by omega)
     have hjj:j=i:=by omega
     go_wp2;refine⟨⟨i+1,rfl,by omega,ab (λx y hx hy=>?_),PB⟩,by simp [S.fe];omega⟩
     by_cases h9:x=i
     ·rw [h9];exact HM.out y (by omega)
     ·exact HN.out x y (by omega) hy
  ·have hd:decide ((i:Int)<(n:Int))=false:=decide_eq_false (by omega)
   go_wp2;go_ret;exact⟨by rw [show JI f n width=true from decide_eq_true (λx hx y hy=>HN.out x y (by omega) hy)];exact au rfl,HB.out⟩
end
end Go.Proofs.YtffmodpgddecnaaGreatDoor.V
namespace Go.Proofs.YtffmodpgddecnaaGreatDoor.V
open Go.RowKit
open Go.Proofs.YtffmodpgddecnaaGreatDoor.H (aq Cp)
section
variable {w w':World}
def Fl (w:World)(a:Option Addr)(L:List Value):Prop:=0<L.length->∃g,a=some ⟨g,0,none⟩/\∀j v,L[j]?=some v->w.cell? ⟨g,j,none⟩=some v
theorem Fl.later {a:Option Addr}{L:List Value}(h:Fl w a L)(hb:Below w.heap.size w w'):Fl w' a L:=λh0=>by
 obtain⟨g,e,hc⟩:=h h0
 exact⟨g,e,λj v hv=>cell_later hb (hc j v hv)⟩
theorem Fl.of {base:Nat}{e:TypeId}{k:Nat}{a:Option Addr}{n cap:Nat}{L:List Value}(h:Ow w base e k a n cap L)(hk:L.length=n*k):Fl w a L:=λh0=>by
 have hn:0<n:=Nat.pos_of_ne_zero (λe=>by rw [e,Nat.zero_mul] at hk;omega)
 obtain⟨b,h1,h2⟩:=Ow.at_ h hn
 exact⟨b,h1,h2⟩
theorem jV (M:List Cp):(aF M).length=M.length*3:=by
 induction M with
 | nil=>rfl
 | cons x M ih=>simp only [aF,List.flatMap_cons,List.length_append,List.length_cons] at ih ⊢;rw [ih];simp [cH];omega
end
section
variable {w w':World}
theorem oG (M:List Ev):(xR M).length=M.length*2:=by
 induction M with
 | nil=>rfl
 | cons x M ih=>simp only [xR,List.flatMap_cons,List.length_append,List.length_cons] at ih ⊢;rw [ih];simp [Ev.c];omega
theorem nc (M:List Tok):(dJ M).length=M.length*5:=by
 induction M with
 | nil=>rfl
 | cons x M ih=>simp only [dJ,List.flatMap_cons,List.length_append,List.length_cons] at ih ⊢;rw [ih];simp [fj];omega
structure yS (w:World)(p:Ps)(a1:Option Addr)(Q1:List Ev)(a2 a3:Option Addr)(Q3:List Ev):Prop where
 o:Fl w a1 (xR Q1)
 ok:Q1.map Ev.key=p.O.map FG
 oe:∀x∈Q1,Fl w x.a x.vs
 t:Fl w a2 (dJ p.T)
 q:Fl w a3 (xR Q3)
 pk:Q3.map Ev.key=p.P.map Hu
 pe:∀x∈Q3,Fl w x.a x.vs
theorem yS.later {p:Ps}{a1 a2 a3:Option Addr}{Q1 Q3:List Ev}(h:yS w p a1 Q1 a2 a3 Q3)(hb:Below w.heap.size w w'):yS w' p a1 Q1 a2 a3 Q3:=⟨h.o.later hb,h.ok,λx hx=>(h.oe x hx).later hb,h.t.later hb,h.q.later hb,h.pk,λx hx=>(h.pe x hx).later hb⟩
theorem dL.look {base:Nat}{p:Ps}{a1 c1 Q1 a2 c2 a3 c3 Q3}(h:dL w base p a1 c1 Q1 a2 c2 a3 c3 Q3):yS w p a1 Q1 a2 a3 Q3:=by
 refine⟨Fl.of h.os.row (by rw [oG,h.os.len]),h.ok,λx hx=>?_,Fl.of h.ts (by rw [nc]),Fl.of h.ps.row (by rw [oG,h.ps.len]),h.pk,λx hx=>?_⟩
 ·refine Fl.of (h.os.each x hx) ?_
  have hm:x.key∈p.O.map FG:=by rw [<-h.ok];exact List.mem_map_of_mem hx
  obtain⟨v,_,hv⟩:=List.mem_map.1 hm
  simp only [FG,Ev.key,Prod.mk.injEq] at hv;rw [<-hv.2.1,<-hv.2.2,S.aM,Nat.mul_one]
 ·refine Fl.of (h.ps.each x hx) ?_
  have hm:x.key∈p.P.map Hu:=by rw [<-h.pk];exact List.mem_map_of_mem hx
  obtain⟨v,_,hv⟩:=List.mem_map.1 hm
  simp only [Hu,Ev.key,Prod.mk.injEq] at hv;rw [<-hv.2.1,<-hv.2.2,jV]
structure Ps.Small (p:Ps):Prop where
 o:p.O.length<=1048576
 t:p.T.length<=1048576
 q:p.P.length<=1048576
 oe:∀v∈p.O,v.2.length<=1048576
 pe:∀v∈p.P,v.2.length<=1048576
end
section
variable {w w':World}{m:Nat}{X:List Tk}{l:Fo}
theorem g5 {a:Option Addr}{T:List Tok}(h:Fl w a (dJ T)){j:Nat}{t:Tok}(ht:T[j]?=some t):∃g,a=some ⟨g,0,none⟩/\w.cell? ⟨g,j*5,none⟩=some (.int .i64 t.1.1)/\w.cell? ⟨g,j*5+1,none⟩=some (.int .u64 (t.1.2.1:Int))/\w.cell? ⟨g,j*5+2,none⟩=some (.int .u64 (t.1.2.2:Int))/\w.cell? ⟨g,j*5+3,none⟩=some (.int .i64 t.2.1)/\w.cell? ⟨g,j*5+4,none⟩=some (.int .i64 t.2.2):=by
 have hj:=(List.getElem?_eq_some_iff.1 ht).1
 obtain⟨g,rfl,hc⟩:=h (by rw [nc];omega)
 exact⟨g,rfl,hc _ _ (fC T j t ht 0 (by omega)),hc _ _ (fC T j t ht 1 (by omega)),hc _ _ (fC T j t ht 2 (by omega)),hc _ _ (fC T j t ht 3 (by omega)),hc _ _ (fC T j t ht 4 (by omega))⟩
end
section
variable {w w':World}
theorem uR {T:List Tok}{c:Cp}{i:Nat}{t:Tok}(h:T[i]?=some t)(hn:jd (T.take i) c=false)(e:decide (t.1=c)=false):jd (T.take (i+1)) c=false:=by
 obtain⟨hi,e2⟩:=List.getElem?_eq_some_iff.1 h
 unfold jd at hn ⊢
 rw [List.take_succ_eq_append_getElem hi,List.any_append,hn,e2];simp [e]
theorem GW {T:List Tok}{c:Cp}{i:Nat}{t:Tok}(h:T[i]?=some t)(e:decide (t.1=c)=true):jd T c=true:=by
 unfold jd;rw [List.any_eq_true];exact⟨t,List.mem_of_getElem? h,e⟩
theorem GI {T:List Tok}{c:Cp}{i:Nat}{t:Tok}(h:T[i]?=some t)(hn:jd (T.take i) c=false)(e:decide (t.1=c)=true):r_ T c=t.2.1:=by
 obtain⟨hi,e2⟩:=List.getElem?_eq_some_iff.1 h
 have e3:T=T.take i++t::T.drop (i+1):=by rw [<-e2,<-List.drop_eq_getElem_cons hi,List.take_append_drop]
 unfold r_;rw [e3,List.find?_append,List.find?_eq_none.2 (λx hx=>?_)]
 ·rw [List.find?_cons_of_pos (by simpa using e)]
  rfl
 ·have:=List.any_eq_false.1 (show (T.take i).any _=false from hn) x hx
  simpa using this
theorem IY {T:List Tok}{c:Cp}(hn:jd T c=false):r_ T c=0:=by
 unfold r_;rw [List.find?_eq_none.2 (λx hx=>?_)]
 ·rfl
 ·have:=List.any_eq_false.1 (show T.any _=false from hn) x hx
  simpa using this
theorem D5 {G:List Cp}{c t:Cp}{i:Nat}(h:G[i]?=some t)(hn:sL (G.take i) c=false)(e:decide (t=c)=false):sL (G.take (i+1)) c=false:=by
 obtain⟨hi,e2⟩:=List.getElem?_eq_some_iff.1 h
 unfold sL at hn ⊢
 rw [List.take_succ_eq_append_getElem hi,List.any_append,hn,e2];simp [e]
theorem E_ {G:List Cp}{c t:Cp}{i:Nat}(h:G[i]?=some t)(e:decide (t=c)=true):sL G c=true:=by
 unfold sL;rw [List.any_eq_true];exact⟨t,List.mem_of_getElem? h,e⟩
theorem kE:∀(M:List Cp) (j:Nat) (t:Cp),M[j]?=some t->∀k,k<3->(aF M)[j*3+k]?=(cH t)[k]?
 | [],j,t,h,k,hk=>by simp at h
 | x::M,0,t,h,k,hk=>by
  simp only [List.getElem?_cons_zero,Option.some.injEq] at h;subst h;simp only [aF,List.flatMap_cons];rw [List.getElem?_append_left (by simp [cH];omega)]
  simp
 | x::M,j+1,t,h,k,hk=>by
  rw [List.getElem?_cons_succ] at h;have:=kE M j t h k hk
  simp only [aF,List.flatMap_cons] at this ⊢
  rw [List.getElem?_append_right (by simp [cH];omega),<-this]
  congr 1
  simp [cH];omega
theorem nG {a:Option Addr}{K:List Cp}(h:Fl w a (aF K)){j:Nat}{t:Cp}(ht:K[j]?=some t):∃g,a=some ⟨g,0,none⟩/\w.cell? ⟨g,j*3,none⟩=some (.int .i64 t.1)/\w.cell? ⟨g,j*3+1,none⟩=some (.int .u64 (t.2.1:Int))/\w.cell? ⟨g,j*3+2,none⟩=some (.int .u64 (t.2.2:Int)):=by
 have hj:=(List.getElem?_eq_some_iff.1 ht).1
 obtain⟨g,rfl,hc⟩:=h (by rw [jV];omega)
 exact⟨g,rfl,hc _ _ (kE K j t ht 0 (by omega)),hc _ _ (kE K j t ht 1 (by omega)),hc _ _ (kE K j t ht 2 (by omega))⟩
def Kw (W:World)(T:List Tok)(c:Cp)(v:Value)(U:World):Prop:=∃i:Nat,v=.int .i64 (i:Int)/\i<=T.length/\Hid (jd (T.take i) c=false)/\Hid (Below W.heap.size W U)
def KX (W:World)(G:List Cp)(c:Cp)(v:Value)(U:World):Prop:=∃i:Nat,v=.int .i64 (i:Int)/\i<=G.length/\Hid (sL (G.take i) c=false)/\Hid (Below W.heap.size W U)
theorem bo {T:List Tok}{a:Option Addr}{cap:Nat}(hF:Fl w a (dJ T))(hn:T.length<=1099511627776)(c:Cp) :
  Calls Tryz.prog 34 #[.slice a T.length cap,.agg #[.int .i64 c.1,.int .u64 (c.2.1:Int),.int .u64 (c.2.2:Int)]] w λe w'=>e=.returned (.bool (jd T c))/\Below w.heap.size w w':=by
 obtain⟨W,hW⟩:∃W,W=w.alloc (Obj.cells #[.int .i64 c.1,.int .u64 (c.2.1:Int),.int .u64 (c.2.2:Int)] 37):=⟨_,rfl⟩
 have HB:Hid (Below w.heap.size w W):=by rw [hW];exact ae _ _
 have HX:Hid (R.Bx W w.heap.size [.int .i64 c.1,.int .u64 (c.2.1:Int),.int .u64 (c.2.2:Int)]):=by rw [hW];exact R.Bx.new w [.int .i64 c.1,.int .u64 (c.2.1:Int),.int .u64 (c.2.2:Int)] 37
 have HF:=ab (hF.later HB.out)
 have HW:=ab hW
 obtain⟨n,hnn⟩:∃n,n=T.length:=⟨_,rfl⟩
 have HL:=ab hnn
 rw [<-hnn] at hn ⊢
 clear hF hW hnn;go_enter Tryz.func34,Tryz.ntmps34
 go_upto_region 1 with fail
 have hW:=HW.out
 rw [<-hW];clear hW HW;go_upto_region 2 with fail
 go_loopw [5] (Kw W T c) (λv _=>n - S.fe v)
 case atStart=>exact⟨0,rfl,Nat.zero_le _,ab rfl,ab (Below.refl _ _)⟩
 case round =>
  obtain⟨i,rfl,hi,HN,PY⟩:=hrel
  rw [<-HL.out] at hi;by_cases hlt:i<n
  ·have hd:decide ((i:Int)<(n:Int))=true:=decide_eq_true (by omega)
   obtain⟨t,ht⟩:∃t,T[i]?=some t:=⟨_,List.getElem?_eq_getElem (by have:=HL.out;omega)⟩
   have HT:=ab ht
   obtain⟨g,rfl,c0,c1,c2,c3,c4⟩:=g5 (HF.out.later PY.out) ht
   try simp only at c0 c1 c2 c3 c4
   have x0:=(R.Bx.later PY.out HX.out).cell 0 rfl
   have x1:=(R.Bx.later PY.out HX.out).cell 1 rfl
   have x2:=(R.Bx.later PY.out HX.out).cell 2 rfl
   obtain⟨⟨tb,th,tl⟩,htk⟩:∃x,x=t.1:=⟨_,rfl⟩
   rw [<-htk] at c0 c1 c2;simp only at c0 c1 c2;obtain⟨e,he⟩:∃e,e=decide (t.1=c):=⟨_,rfl⟩
   have HE:=ab he
   have heq:∀U:World,(binOp .eql 37 (.agg #[.int .i64 tb,.int .u64 (th:Int),.int .u64 (tl:Int)]) (.agg #[.int .i64 c.1,.int .u64 (c.2.1:Int),.int .u64 (c.2.2:Int)])).run Tryz.prog U=.ok (.bool e) U:=λU=>by rw [he,<-htk];exact K.vA (tb,th,tl) c U
   clear ht htk he;cases e with
   | true =>
    go_upto_region 4 with fail
    go_quiet (fail)
    go_wp2;go_ret;exact⟨by rw [GW HT.out HE.out.symm];exact au rfl,below_drewN (aa HB.out PY.out) _⟩
   | false =>
    have HS:=ab (uR HT.out HN.out HE.out.symm)
    go_upto_region 4 with fail
    go_quiet (fail)
    go_wp2;exact⟨⟨i+1,rfl,by have:=HL.out;omega,HS,ab (below_drewN PY.out _)⟩,by simp [S.fe];omega⟩
  ·have hjj:i=T.length:=by have:=HL.out;omega
   have hd:decide ((i:Int)<(n:Int))=false:=decide_eq_false (by omega)
   have HY:Hid (jd T c=false):=by have h9:=HN.out;rw [hjj,List.take_length] at h9;exact h9
   clear hjj hi;go_wp2;go_ret;exact⟨by rw [HY.out];exact au rfl,aa HB.out PY.out⟩
theorem rz {T:List Cp}{a:Option Addr}{cap:Nat}(hF:Fl w a (aF T))(hn:T.length<=1099511627776)(c:Cp) :
  Calls Tryz.prog 35 #[.slice a T.length cap,.agg #[.int .i64 c.1,.int .u64 (c.2.1:Int),.int .u64 (c.2.2:Int)]] w λe w'=>e=.returned (.bool (sL T c))/\Below w.heap.size w w':=by
 obtain⟨W,hW⟩:∃W,W=w.alloc (Obj.cells #[.int .i64 c.1,.int .u64 (c.2.1:Int),.int .u64 (c.2.2:Int)] 37):=⟨_,rfl⟩
 have HB:Hid (Below w.heap.size w W):=by rw [hW];exact ae _ _
 have HX:Hid (R.Bx W w.heap.size [.int .i64 c.1,.int .u64 (c.2.1:Int),.int .u64 (c.2.2:Int)]):=by rw [hW];exact R.Bx.new w [.int .i64 c.1,.int .u64 (c.2.1:Int),.int .u64 (c.2.2:Int)] 37
 have HF:=ab (hF.later HB.out)
 have HW:=ab hW
 obtain⟨n,hnn⟩:∃n,n=T.length:=⟨_,rfl⟩
 have HL:=ab hnn
 rw [<-hnn] at hn ⊢
 clear hF hW hnn;go_enter Tryz.func35,Tryz.ntmps35
 go_upto_region 1 with fail
 have hW:=HW.out
 rw [<-hW];clear hW HW;go_upto_region 2 with fail
 go_loopw [5] (KX W T c) (λv _=>n - S.fe v)
 case atStart=>exact⟨0,rfl,Nat.zero_le _,ab rfl,ab (Below.refl _ _)⟩
 case round =>
  obtain⟨i,rfl,hi,HN,PY⟩:=hrel
  rw [<-HL.out] at hi;by_cases hlt:i<n
  ·have hd:decide ((i:Int)<(n:Int))=true:=decide_eq_true (by omega)
   obtain⟨t,ht⟩:∃t,T[i]?=some t:=⟨_,List.getElem?_eq_getElem (by have:=HL.out;omega)⟩
   have HT:=ab ht
   obtain⟨g,rfl,c0,c1,c2⟩:=nG (HF.out.later PY.out) ht
   try simp only at c0 c1 c2
   have x0:=(R.Bx.later PY.out HX.out).cell 0 rfl
   have x1:=(R.Bx.later PY.out HX.out).cell 1 rfl
   have x2:=(R.Bx.later PY.out HX.out).cell 2 rfl
   obtain⟨⟨tb,th,tl⟩,htk⟩:∃x,x=t:=⟨_,rfl⟩
   rw [<-htk] at c0 c1 c2;simp only at c0 c1 c2;obtain⟨e,he⟩:∃e,e=decide (t=c):=⟨_,rfl⟩
   have HE:=ab he
   have heq:∀U:World,(binOp .eql 37 (.agg #[.int .i64 tb,.int .u64 (th:Int),.int .u64 (tl:Int)]) (.agg #[.int .i64 c.1,.int .u64 (c.2.1:Int),.int .u64 (c.2.2:Int)])).run Tryz.prog U=.ok (.bool e) U:=λU=>by rw [he,<-htk];exact K.vA (tb,th,tl) c U
   clear ht htk he;cases e with
   | true =>
    go_upto_region 4 with fail
    go_quiet (fail)
    go_wp2;go_ret;exact⟨by rw [E_ HT.out HE.out.symm];exact au rfl,below_drewN (aa HB.out PY.out) _⟩
   | false =>
    have HS:=ab (D5 HT.out HN.out HE.out.symm)
    go_upto_region 4 with fail
    go_quiet (fail)
    go_wp2;exact⟨⟨i+1,rfl,by have:=HL.out;omega,HS,ab (below_drewN PY.out _)⟩,by simp [S.fe];omega⟩
  ·have hjj:i=T.length:=by have:=HL.out;omega
   have hd:decide ((i:Int)<(n:Int))=false:=decide_eq_false (by omega)
   have HY:Hid (sL T c=false):=by have h9:=HN.out;rw [hjj,List.take_length] at h9;exact h9
   clear hjj hi;go_wp2;go_ret;exact⟨by rw [HY.out];exact au rfl,aa HB.out PY.out⟩
theorem fD {T:List Tok}{a:Option Addr}{cap:Nat}(hF:Fl w a (dJ T))(hn:T.length<=1099511627776)(c:Cp) :
  Calls Tryz.prog 36 #[.slice a T.length cap,.agg #[.int .i64 c.1,.int .u64 (c.2.1:Int),.int .u64 (c.2.2:Int)]] w λe w'=>e=.returned (.int .i64 (r_ T c))/\Below w.heap.size w w':=by
 obtain⟨W,hW⟩:∃W,W=w.alloc (Obj.cells #[.int .i64 c.1,.int .u64 (c.2.1:Int),.int .u64 (c.2.2:Int)] 37):=⟨_,rfl⟩
 have HB:Hid (Below w.heap.size w W):=by rw [hW];exact ae _ _
 have HX:Hid (R.Bx W w.heap.size [.int .i64 c.1,.int .u64 (c.2.1:Int),.int .u64 (c.2.2:Int)]):=by rw [hW];exact R.Bx.new w [.int .i64 c.1,.int .u64 (c.2.1:Int),.int .u64 (c.2.2:Int)] 37
 have HF:=ab (hF.later HB.out)
 have HW:=ab hW
 obtain⟨n,hnn⟩:∃n,n=T.length:=⟨_,rfl⟩
 have HL:=ab hnn
 rw [<-hnn] at hn ⊢
 clear hF hW hnn;go_enter Tryz.func36,Tryz.ntmps36
 go_upto_region 1 with fail
 have hW:=HW.out
 rw [<-hW];clear hW HW;go_upto_region 2 with fail
 go_loopw [5] (Kw W T c) (λv _=>n - S.fe v)
 case atStart=>exact⟨0,rfl,Nat.zero_le _,ab rfl,ab (Below.refl _ _)⟩
 case round =>
  obtain⟨i,rfl,hi,HN,PY⟩:=hrel
  rw [<-HL.out] at hi;by_cases hlt:i<n
  ·have hd:decide ((i:Int)<(n:Int))=true:=decide_eq_true (by omega)
   obtain⟨t,ht⟩:∃t,T[i]?=some t:=⟨_,List.getElem?_eq_getElem (by have:=HL.out;omega)⟩
   have HT:=ab ht
   obtain⟨g,rfl,c0,c1,c2,c3,c4⟩:=g5 (HF.out.later PY.out) ht
   try simp only at c0 c1 c2 c3 c4
   have x0:=(R.Bx.later PY.out HX.out).cell 0 rfl
   have x1:=(R.Bx.later PY.out HX.out).cell 1 rfl
   have x2:=(R.Bx.later PY.out HX.out).cell 2 rfl
   obtain⟨⟨tb,th,tl⟩,htk⟩:∃x,x=t.1:=⟨_,rfl⟩
   rw [<-htk] at c0 c1 c2;simp only at c0 c1 c2;obtain⟨e,he⟩:∃e,e=decide (t.1=c):=⟨_,rfl⟩
   have HE:=ab he
   have heq:∀U:World,(binOp .eql 37 (.agg #[.int .i64 tb,.int .u64 (th:Int),.int .u64 (tl:Int)]) (.agg #[.int .i64 c.1,.int .u64 (c.2.1:Int),.int .u64 (c.2.2:Int)])).run Tryz.prog U=.ok (.bool e) U:=λU=>by rw [he,<-htk];exact K.vA (tb,th,tl) c U
   clear ht htk he;cases e with
   | true =>
    go_upto_region 4 with fail
    go_quiet (fail)
    go_wp2;go_ret;exact⟨by rw [GI HT.out HN.out HE.out.symm];exact aT rfl,below_drewN (aa HB.out PY.out) _⟩
   | false =>
    have HS:=ab (uR HT.out HN.out HE.out.symm)
    go_upto_region 4 with fail
    go_quiet (fail)
    go_wp2;exact⟨⟨i+1,rfl,by have:=HL.out;omega,HS,ab (below_drewN PY.out _)⟩,by simp [S.fe];omega⟩
  ·have hjj:i=T.length:=by have:=HL.out;omega
   have hd:decide ((i:Int)<(n:Int))=false:=decide_eq_false (by omega)
   have HY:Hid (r_ T c=0):=by have h9:=HN.out;rw [hjj,List.take_length] at h9;exact IY h9
   clear hjj hi;go_wp2;go_ret;exact⟨by rw [HY.out];exact aT rfl,aa HB.out PY.out⟩
end
section
variable {w w':World}
theorem GN {α:Type}{K:α->Int×List Value×Nat}{P:List α}{Q:List Ev}(h:Q.map Ev.key=P.map K){i:Nat}{v:α}(hv:P[i]?=some v):∃x,Q[i]?=some x/\x∈Q/\x.id=(K v).1/\x.vs=(K v).2.1/\x.len=(K v).2.2:=by
 have h1:(Q.map Ev.key)[i]?=some (K v):=by rw [h,List.getElem?_map,hv];rfl
 rw [List.getElem?_map] at h1;cases hx:Q[i]? with
 | none=>rw [hx] at h1;cases h1
 | some x =>
  rw [hx] at h1;simp only [Option.map_some,Option.some.injEq,Ev.key] at h1;exact⟨x,rfl,List.mem_of_getElem? hx,by rw [<-h1],by rw [<-h1],by rw [<-h1]⟩
theorem sK:∀(M:List Ev) (j:Nat) (t:Ev),M[j]?=some t->∀k,k<2->(xR M)[j*2+k]?=t.c[k]?
 | [],j,t,h,k,hk=>by simp at h
 | x::M,0,t,h,k,hk=>by
  simp only [List.getElem?_cons_zero,Option.some.injEq] at h;subst h;simp only [xR,List.flatMap_cons];rw [List.getElem?_append_left (by simp [Ev.c];omega)]
  simp
 | x::M,j+1,t,h,k,hk=>by
  rw [List.getElem?_cons_succ] at h;have:=sK M j t h k hk
  simp only [xR,List.flatMap_cons] at this ⊢
  rw [List.getElem?_append_right (by simp [Ev.c];omega),<-this]
  congr 1
  simp [Ev.c];omega
def z3:List Value:=[.int .i64 0,.int .u64 0,.int .u64 0]
theorem Bx.J8 {b:Nat}{L:List Value}(h:R.Bx w b L)(hl:L.length=3)(x y z:Int):(Instr.storeAt 37 (.pointer (some ⟨b,0,none⟩)) (.agg #[.int .i64 x,.int .u64 y,.int .u64 z])).run Tryz.prog w=.ok () (w.setCells b 0 [.int .i64 x,.int .u64 y,.int .u64 z]):=by
 have:=R.xP (L:=[.int .i64 x,.int .u64 y,.int .u64 z]) (show w.there b 0 3 by rw [<-hl];exact h.there) rfl (by simp [Value.oneCell'])
 simp [Instr.storeAt,storeVar,Instr.sureAddr,Value.cells,this,Result.andThen]
theorem qv {T:List Tok}{o nd:Int}{K:List Cp}{i:Nat}{c:Cp}(h:K[i]?=some c)(hn:EK T o nd (K.take i)=false)(e:(decide (c.1=o)&&(bits .and .i64 (r_ T c) nd != 0))=false):EK T o nd (K.take (i+1))=false:=by
 obtain⟨hi,e2⟩:=List.getElem?_eq_some_iff.1 h
 unfold EK at hn ⊢
 rw [List.take_succ_eq_append_getElem hi,List.any_append,hn,e2];simpa using e
theorem rV {T:List Tok}{P:List (Int×List Cp)}{b o nd:Int}{j:Nat}{q:Int×List Cp}(h:P[j]?=some q)(hn:sM T (P.take j) b o nd=false)(e:(decide (q.1=b)&&EK T o nd q.2)=false):sM T (P.take (j+1)) b o nd=false:=by
 obtain⟨hi,e2⟩:=List.getElem?_eq_some_iff.1 h
 unfold sM at hn ⊢
 rw [List.take_succ_eq_append_getElem hi,List.any_append,hn,e2];simpa using e
theorem Dd {T:List Tok}{P:List (Int×List Cp)}{b o nd:Int}{j i:Nat}{q:Int×List Cp}{c:Cp}(h:P[j]?=some q)(hb:q.1=b)(h2:q.2[i]?=some c)(hc:c.1=o)(e:(bits .and .i64 (r_ T c) nd != 0)=true):sM T P b o nd=true:=by
 unfold sM EK;rw [List.any_eq_true];refine⟨q,List.mem_of_getElem? h,?_⟩
 rw [Bool.and_eq_true];refine⟨decide_eq_true hb,?_⟩
 rw [List.any_eq_true];exact⟨c,List.mem_of_getElem? h2,by rw [e,decide_eq_true hc];rfl⟩
def K2 (W:World)(T:List Tok)(P:List (Int×List Cp))(b o nd:Int)(v:Value)(U:World):Prop:=∃j:Nat,v=.int .i64 (j:Int)/\j<=P.length/\Hid (sM T (P.take j) b o nd=false)/\Hid (Below W.heap.size W U)
def KY (W:World)(T:List Tok)(K:List Cp)(o nd:Int)(v:Value)(U:World):Prop:=∃i:Nat,v=.int .i64 (i:Int)/\i<=K.length/\Hid (EK T o nd (K.take i)=false)/\Hid (Below W.heap.size W U)
theorem lO {p:Ps}{a1 a2 a3:Option Addr}{e1 e2 e3:Nat}{Q1 Q3:List Ev}(hL:yS w p a1 Q1 a2 a3 Q3)(hs:p.Small)(cl:R.Cl)(dd gg:R.Sl) :
  Calls Tryz.prog 37 #[Ih a1 p.O.length e1 a2 p.T.length e2 a3 p.P.length e3 p.nx p.px p.t,.agg (R.cC cl dd gg).toArray] w λe w'=>e=.returned (.bool (sM p.T p.P cl.aB cl.obj (iD cl.op)))/\Below w.heap.size w w':=by
 obtain⟨W1,hW1⟩:∃W1,W1=w.alloc (Obj.cells (stM a1 p.O.length e1 a2 p.T.length e2 a3 p.P.length e3 p.nx p.px p.t).toArray 52):=⟨_,rfl⟩
 obtain⟨W,hW⟩:∃W,W=W1.alloc (Obj.cells (R.cC cl dd gg).toArray 44):=⟨_,rfl⟩
 have hB1:Below w.heap.size w W1:=by rw [hW1];exact ae _ _
 have hB2:Below W1.heap.size W1 W:=by rw [hW];exact ae _ _
 have HB:Hid (Below w.heap.size w W):=aa hB1 hB2
 have HX:Hid (R.Bx W w.heap.size (stM a1 p.O.length e1 a2 p.T.length e2 a3 p.P.length e3 p.nx p.px p.t)):=by
  have:R.Bx W1 w.heap.size (stM a1 p.O.length e1 a2 p.T.length e2 a3 p.P.length e3 p.nx p.px p.t):=by rw [hW1];exact R.Bx.new w _ 52
  exact R.Bx.later hB2 this
 have hz:W1.heap.size=w.heap.size+1:=by rw [hW1];simp
 have HY:Hid (R.Bx W (w.heap.size+1) (R.cC cl dd gg)):=by rw [hW,<-hz];exact R.Bx.new W1 _ 44
 have HL:=ab (hL.later HB.out)
 have Ro:=ab hs
 have SW:=ab hW1
 have HW:=ab hW
 obtain⟨nd,hnd⟩:∃nd,nd=iD cl.op:=⟨_,rfl⟩
 rw [<-hnd];have T5:=ab hnd
 clear hL hs hW1 hW hB1 hB2 hnd hz;go_enter Tryz.func37,Tryz.ntmps37
 go_upto_region 1 with fail
 have hW1:=SW.out
 have hW:=HW.out
 simp only [stM] at hW1;rw [<-hW1,<-hW];clear hW1 hW SW HW;have x0:=HY.out.cell 0 rfl
 go_upto_if 11 with fail
 go_cut [5] (λs w'=>s=.int .i64 nd/\W=w')
 case first =>
  by_cases ho:cl.op=6
  ·have heb:(cl.op==6)=true:=by simpa using ho
   have hn:nd=2:=by rw [T5.out];unfold iD;rw [if_pos ho]
   subst hn;clear ho;go_wp2;go_meet
   case rel=>exact⟨rfl,rfl⟩
  ·have heb:(cl.op==6)=false:=by simpa using ho
   have hn:nd=1:=by rw [T5.out];unfold iD;rw [if_neg ho]
   subst hn;clear ho;go_wp2;go_meet
   case rel=>exact⟨rfl,rfl⟩
 case rest =>
 obtain⟨rfl,rfl⟩:=hcut
 clear x0;go_upto_region 5 with fail
 go_loopw [6] (K2 W p.T p.P cl.aB cl.obj nd) (λv _=>p.P.length - S.fe v)
 case atStart=>exact⟨0,rfl,Nat.zero_le _,ab rfl,ab (Below.refl _ _)⟩
 case round =>
  obtain⟨j,rfl,hj,HN,PY⟩:=hrel
  have hpl:=Ro.out.q
  by_cases hlt:j<p.P.length
  ·have hd:decide ((j:Int)<(p.P.length:Int))=true:=decide_eq_true (by omega)
   have w2:=(R.Bx.later PY.out HX.out).cell 2 rfl
   obtain⟨q,hq⟩:∃q,p.P[j]?=some q:=⟨_,List.getElem?_eq_getElem hlt⟩
   have HQ:=ab hq
   obtain⟨ev,hev,hem,hid0,hvs,hln⟩:=GN HL.out.pk hq
   have UK:Hid (Fl W ev.a ev.vs):=ab (HL.out.pe ev hem)
   have hlen0:0<(xR Q3).length:=by rw [oG];have:=(List.getElem?_eq_some_iff.1 hev).1;omega
   obtain⟨gq,rfl,hqc⟩:=HL.out.q hlen0
   have q0:W.cell? ⟨gq,j*2,none⟩=some (.int .i64 ev.id):=hqc _ _ (sK Q3 j ev hev 0 (by omega))
   have q1:W.cell? ⟨gq,j*2+1,none⟩=some (.slice ev.a ev.len ev.cap):=hqc _ _ (sK Q3 j ev hev 1 (by omega))
   obtain⟨ei,evv,el,ea,ec⟩:=ev
   have hK:=Ro.out.pe q (List.mem_of_getElem? hq)
   simp only [Hu] at hid0 hvs hln UK;subst hid0 hvs hln
   obtain⟨qn,qk⟩:=q
   simp only at q0 q1 UK hK;have Wm:=ab q0
   have PZ:=ab q1
   clear hev hem hqc hlen0 hq q0 q1;go_upto_region 8 with fail
   go_loopw [7] (KY W p.T qk cl.obj nd) (λv _=>qk.length - S.fe v)
   case atStart=>exact⟨0,rfl,Nat.zero_le _,ab rfl,PY⟩
   case round =>
    clear w2;obtain⟨i,rfl,hi,HM,PB⟩:=hrel
    have w2:=(R.Bx.later PB.out HX.out).cell 2 rfl
    have x1:=(R.Bx.later PB.out HY.out).cell 1 rfl
    have q0:=cell_later PB.out Wm.out
    have q1:=cell_later PB.out PZ.out
    by_cases he:qn=cl.aB
    ·have heb:(qn==cl.aB)=true:=by simpa using he
     have HE:=ab he
     clear he;by_cases hil:i<qk.length
     ·have hdi:decide ((i:Int)<(qk.length:Int))=true:=decide_eq_true (by omega)
      obtain⟨c,hc⟩:∃c,qk[i]?=some c:=⟨_,List.getElem?_eq_getElem hil⟩
      have HC:=ab hc
      obtain⟨gk,rfl,c0,c1,c2⟩:=nG (UK.out.later PB.out) hc
      obtain⟨cb,ch,cq⟩:=c
      simp only at c0 c1 c2;clear hc;go_upto_region 8 with fail
      go_quiet (fail)
      have Q5:=ab (λ(U:World)=>Bx.J8 (R.Bx.new U z3 37) rfl cb (ch:Int) (cq:Int))
      go_upto_region 11 with (first|((with_reducible refine bm (Q5.out _) ?_ ?_ ?_);(· rfl);(· rfl)))
      obtain⟨y2,hy2⟩:∃y2,y2=((wr.drewN nq).alloc (Obj.cells z3.toArray 37)).setCells (wr.drewN nq).heap.size 0 [.int .i64 cb,.int .u64 (ch:Int),.int .u64 (cq:Int)]:=⟨_,rfl⟩
      have hC2:R.Bx y2 (wr.drewN nq).heap.size [.int .i64 cb,.int .u64 (ch:Int),.int .u64 (cq:Int)]:=by rw [hy2];exact R.Bx.set (R.Bx.new _ z3 37) rfl
      have hY2:Below (wr.drewN nq).heap.size (wr.drewN nq) y2:=by rw [hy2];exact ah.below (ae _ _) (R.ay (S:=(·=(wr.drewN nq).heap.size)) rfl _ 0 (ah.refl _ _)) (λk e=>by omega)
      have QY:Hid (Below W.heap.size W y2):=aa (below_drewN PB.out nq) hY2
      rw [<-hy2];have b0:y2.cell? ⟨wr.heap.size,0,none⟩=some (.int .i64 cb):=hC2.cell 0 rfl
      have b1:y2.cell? ⟨wr.heap.size,1,none⟩=some (.int .u64 (ch:Int)):=hC2.cell 1 rfl
      have b2:y2.cell? ⟨wr.heap.size,2,none⟩=some (.int .u64 (cq:Int)):=hC2.cell 2 rfl
      have x3:=(R.Bx.later QY.out HY.out).cell 3 rfl
      have w1:=(R.Bx.later QY.out HX.out).cell 1 rfl
      obtain⟨rv,hrv⟩:∃rv,rv=r_ p.T (cb,ch,cq):=⟨_,rfl⟩
      have VY:=ab hrv
      have QA:=ab (fD (cap:=e2) (HL.out.t.later QY.out) (Nat.le_trans Ro.out.t (by decide)) (cb,ch,cq))
      rw [<-hrv] at QA;clear hy2 hC2 hY2 hrv Q5 c0 c1 c2 q0 q1 w2 x1 PB;by_cases ho:cb=cl.obj
      ·have heb2:(cb==cl.obj)=true:=by simpa using ho
       cases hbt:(bits .and .i64 rv nd != 0) with
       | true =>
        have HO:Hid (sM p.T p.P cl.aB cl.obj nd=true):=Dd HQ.out HE.out HC.out ho (by rw [<-VY.out];exact hbt)
        clear ho;go_wp2_with (first|(go_at_call 36;refine QA.out.mono ?_;rintro e u1 ⟨rfl,hb⟩;have Qh:=ab hb;clear hb))
        go_ret;exact⟨by rw [HO.out];exact au rfl,aa HB.out (aa QY.out Qh.out)⟩
       | false =>
        have HO:=ab (qv (o:=cl.obj) (nd:=nd) HC.out HM.out (by simp only;rw [<-VY.out,hbt,Bool.and_false]))
        clear ho;go_wp2_with (first|(go_at_call 36;refine QA.out.mono ?_;rintro e u1 ⟨rfl,hb⟩;have Qh:=ab hb;clear hb))
        exact⟨⟨i+1,rfl,by omega,HO,ab (aa QY.out Qh.out)⟩,by simp [S.fe];omega⟩
      ·have heb2:(cb==cl.obj)=false:=by simpa using ho
       have HO:=ab (qv (T:=p.T) (o:=cl.obj) (nd:=nd) HC.out HM.out (by simp only;rw [decide_eq_false ho,Bool.false_and]))
       clear ho;go_wp2;exact⟨⟨i+1,rfl,by omega,HO,ab QY.out⟩,by simp [S.fe];omega⟩
     ·have hdi:decide ((i:Int)<(qk.length:Int))=false:=decide_eq_false (by omega)
      have hii:i=qk.length:=by omega
      have HO:Hid (sM p.T (p.P.take (j+1)) cl.aB cl.obj nd=false):=by
       have h9:=HM.out
       rw [hii,List.take_length] at h9;exact rV HQ.out HN.out (by simp only;rw [h9,Bool.and_false])
      clear hii;go_upto_region 8 with fail
      go_quiet (fail)
      go_wp2;exact⟨⟨j+1,rfl,by omega,HO,ab (below_drewN PB.out _)⟩,by simp [S.fe];omega⟩
    ·have heb:(qn==cl.aB)=false:=by simpa using he
     have HO:Hid (sM p.T (p.P.take (j+1)) cl.aB cl.obj nd=false):=rV HQ.out HN.out (by simp only;rw [decide_eq_false he,Bool.false_and])
     clear he;go_upto_region 8 with fail
     go_quiet (fail)
     go_wp2;exact⟨⟨j+1,rfl,by omega,HO,ab (below_drewN PB.out _)⟩,by simp [S.fe];omega⟩
  ·have hd:decide ((j:Int)<(p.P.length:Int))=false:=decide_eq_false (by omega)
   have w2:=(R.Bx.later PY.out HX.out).cell 2 rfl
   have hjj:j=p.P.length:=by omega
   have HO:Hid (sM p.T p.P cl.aB cl.obj nd=false):=by have h9:=HN.out;rw [hjj,List.take_length] at h9;exact h9
   clear hjj hj;go_wp2;go_ret;exact⟨by rw [HO.out];exact au rfl,aa HB.out PY.out⟩
end
section
variable {w w':World}{H:Hd}{s s':aP}{d d':Nat->List K.Pu}{N N':Nat->Prop}
theorem Kn.small (h:Kn w H s N):(eh H.mo s).Small:=by
 obtain⟨d,hd,ht,hf,hW⟩:=h
 obtain⟨v1,v2,v3⟩:=JY hd
 have hm:=hd.mM
 refine⟨by show s.V.length<=_;omega,?_,?_,λv hv=>?_,λv hv=>?_⟩
 ·have h1:=uw (m:=H.mo) hf.fit.inv (s.V.map Prod.fst)
  rw [List.length_map] at h1;have h2:s.V.length*H.mo<=64*256:=Nat.mul_le_mul v1 hm.2
  show (qY H.mo s.X s.l (s.V.map Prod.fst)).length<=_
  omega
 ·show (s.P.map _).length<=_
  rw [List.length_map];have:=hf.iv.dK
  omega
 ·have:=Jv hd (v2 v hv).2.2.2
  omega
 ·obtain⟨i,hi,rfl⟩:=List.mem_map.1 hv
  have:=hf.dK hi
  show (s.D i).length<=_
  omega
structure Cz (w:World)(a:Option Addr)(n:Nat)(C:List R.Cl)(D G:Nat->R.Sl):Prop where
 len:C.length=n
 at_:0<n->∃b o,a=some ⟨b,o,none⟩/\∀i c,C[i]?=some c->w.rangeAt b (o+i*13) (R.cC c (D i) (G i))
 is:∀i c,C[i]?=some c->R.Is w c (D i) (G i)/\(D i).n<=140737488355328/\(G i).n*8<=140737488355328
theorem BU {b o:Nat}{c:R.Cl}{dd gg:R.Sl}(h:w.rangeAt b o (R.cC c dd gg)):(Instr.loadAt 44 (.pointer (some ⟨b,o,none⟩))).run Tryz.prog w=.ok (.agg (R.cC c dd gg).toArray) w:=by
 have:=R.CU h (by rfl)
 simp [Instr.loadAt,Instr.sureAddr,this]
end
end Go.Proofs.YtffmodpgddecnaaGreatDoor.V
