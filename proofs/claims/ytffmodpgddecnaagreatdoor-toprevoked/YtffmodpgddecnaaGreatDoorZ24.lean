import Derived.Test.YtffmodpgddecnaaGreatDoorZ23
set_option linter.unusedVariables false
set_option linter.unusedSimpArgs false
set_option maxRecDepth 100000
set_option maxHeartbeats 2000000
namespace Go.Proofs.YtffmodpgddecnaaGreatDoor.S
open Go.RowKit
theorem sw (t e:TypeId)(hu:Tryz.prog.underlying t=some (.slice (Tryz.prog.elem t)))(hs:∀W:World,(sizeOf (Tryz.prog.elem t)).run Tryz.prog W=.ok 1 W)(a:Option Addr)(r cap f:Nat)(hf:f<=r) :
  ∃a',(∀W:World,(Instr.sliceAt t (.slice a r cap) (some (.int .i64 (f:Int))) none none).run Tryz.prog W=.ok (.slice a' (r - f) (cap - f)) W)/\(cap=f/\a'=a\/a'=a.map (·.add f)):=by
 have h:∀W:World,(Instr.sliceAt t (.slice a r cap) (some (.int .i64 (f:Int))) none none).run Tryz.prog W=.ok (sliced a f r cap 1) W:=λW=>by
  rw [run_sliceAt_slice W t _ _ _ _ hu,run_slice_l W t a r cap hu .i64 (f:Int) (by omega) (by omega),hs];simp
 by_cases hc:cap=f
 ·exact⟨a,λW=>by rw [h W];simp [sliced,hc],.inl ⟨hc,rfl⟩⟩
 ·exact⟨a.map (·.add f),λW=>by rw [h W];simp [sliced,hc],.inr rfl⟩
theorem add_add (x:Addr)(i j:Nat):(x.add i).add j=x.add (i+j):=by
 unfold Addr.add;by_cases hi:i=0
 ·subst hi
  simp
 ·by_cases hj:j=0
  ·subst hj
   simp
  ·rw [if_neg hi,if_neg hj,if_neg (by omega)]
   simp [Nat.add_assoc]
theorem _root_.Go.Proofs.YtffmodpgddecnaaGreatDoor.Row.from {w:World}{a a':Option Addr}{r cap f:Nat}{L:List Value}(h:Row w a r cap L)(hf:f<=r)(ha:cap=f/\a'=a\/a'=a.map (·.add f)):Row w a' (r - f) (cap - f) (L.drop f)/\∀k,aJ a' k->aJ a k:=by
 have hc:=h.cap_
 rcases ha with ⟨e,rfl⟩|rfl
 ·have hrf:r=f:=by omega
  refine⟨⟨by rw [List.length_drop,h.len],by omega,λ_=>by omega,λx hx j u hu=>?_,λu hu=>h.one u (List.mem_of_mem_drop hu)⟩,λ_ h=>h⟩
  rw [List.drop_of_length_le (by rw [h.len];omega)] at hu
  cases hu
 ·refine⟨⟨by rw [List.length_drop,h.len],by omega,λe=>?_,λx hx j u hu=>?_,λu hu=>h.one u (List.mem_of_mem_drop hu)⟩,λk hk=>?_⟩
  ·cases a with
   | none=>have:=h.none_ rfl;omega
   | some x=>cases e
  ·cases a with
   | none=>cases hx
   | some y =>
    simp only [Option.map_some,Option.some.injEq] at hx;subst hx;rw [add_add];exact h.cells y rfl (f+j) u (by rw [<-List.getElem?_drop];exact hu)
  ·obtain⟨x,hx,rfl⟩:=hk
   cases a with
   | none=>cases hx
   | some y =>
    simp only [Option.map_some,Option.some.injEq] at hx;subst hx;exact⟨y,rfl,(nS y f).symm⟩
theorem Ak (L:List Nat)(k:Nat):(bG L).drop k=bG (L.drop k):=by simp [bG,List.map_drop]
theorem ya (L:List Nat)(k:Nat):(bG L).take k=bG (L.take k):=by simp [bG,List.map_take]
theorem Ik:Tryz.prog.underlying 38=some (.slice (Tryz.prog.elem 38)):=by kernel_rfl
theorem xI (W:World):(sizeOf (Tryz.prog.elem 38)).run Tryz.prog W=.ok 1 W:=by
 have e:Tryz.prog.elem 38=5:=by kernel_rfl
 obtain⟨i,hi,hz0,hz1,hz2⟩:=info_parts jr
 rw [e];simp [sizeOf,typeInfo,hi,hz1]
def pT (ao:List Nat)(B B':Nat->Nat->Nat)(off p:Nat)(D:List Nat):Prop :=
 (∀j,j<64*ao.length->B' (ao.getD (j / 64) 0) (j%64)=if off<=j/\j<p then D.getD (j - off) 0 else B (ao.getD (j / 64) 0) (j%64))/\∀q x,¬q∈ao->B' q x=B q x
theorem qB (ao:List Nat)(B:Nat->Nat->Nat)(off:Nat)(D:List Nat):pT ao B B off off D :=
 ⟨λj hj=>by rw [if_neg (by omega)],λ_ _ _=>rfl⟩
theorem gF {l:List Nat}{i:Nat}(h:i<l.length):l.getD i 0∈l:=by
 rw [List.getD_eq_getElem?_getD,List.getElem?_eq_getElem h];exact List.getElem_mem _
theorem getD_inj {l:List Nat}(hn:l.Nodup){i j:Nat}(hi:i<l.length)(hj:j<l.length)(h:l.getD i 0=l.getD j 0):i=j:=by
 rw [List.getD_eq_getElem?_getD,List.getD_eq_getElem?_getD,List.getElem?_eq_getElem hi,List.getElem?_eq_getElem hj] at h;simp only [Option.getD_some] at h;unfold List.Nodup at hn;rw [List.pairwise_iff_getElem] at hn;rcases Nat.lt_trichotomy i j with h1|h1|h1
 ·exact absurd h (hn i j hi hj h1)
 ·exact h1
 ·exact absurd h.symm (hn j i hj hi h1)
theorem sA {ao:List Nat}{B B':Nat->Nat->Nat}{off k i:Nat}{D:List Nat}(hn:ao.Nodup)(hk:D.length=k)(hp:off+k<=64*ao.length)(h:pos off k i<off+k)(hw:pT ao B B' off (pos off k i) D) :
  pT ao B (BB B' (ao.getD (off / 64+i) 0) (pos off k i%64) ((D.drop (pos off k i - off)).take (pos off k (i+1) - pos off k i))) off (pos off k (i+1)) D:=by
 have h1:=iQ h
 have h2:=gK h
 have h3:=iM off k i
 have hl:((D.drop (pos off k i - off)).take (pos off k (i+1) - pos off k i)).length=pos off k (i+1) - pos off k i:=by
  rw [List.length_take,List.length_drop];omega
 generalize pos off k i=p at *
 generalize pos off k (i+1)=p2 at *
 rw [<-h1];refine⟨λj hj=>?_,λq x hq=>?_⟩
 ·unfold BB
  rw [hl];by_cases e:j / 64=p / 64
  ·rw [e]
   by_cases e2:p<=j/\j<p2
   ·rw [if_pos ⟨rfl,by omega,by omega⟩,if_pos (by omega)]
    rw [List.getD_eq_getElem?_getD,List.getElem?_take,if_pos (by omega),List.getElem?_drop,List.getD_eq_getElem?_getD];congr 2
    omega
   ·rw [if_neg (by omega)]
    have:=hw.1 j hj
    rw [e] at this;rw [this];by_cases e3:off<=j/\j<p
    ·rw [if_pos e3,if_pos (by omega)]
    ·rw [if_neg e3,if_neg (by omega)]
  ·rw [if_neg (λe2=>e (getD_inj hn (by omega) (by omega) e2.1)),hw.1 j hj]
   by_cases e3:off<=j/\j<p
   ·rw [if_pos e3,if_pos (by omega)]
   ·rw [if_neg e3,if_neg (by omega)]
 ·unfold BB
  rw [if_neg (λe=>hq (by rw [e.1];exact gF (by omega)))]
  exact hw.2 q x hq
def gJ (L D:List Nat)(off:Nat):List Nat:=L.take off++D++L.drop (off+D.length)
theorem j7 {L D:List Nat}{off:Nat}(h:off+D.length<=L.length):(gJ L D off).length=L.length:=by
 simp [gJ];omega
theorem B4 {L D:List Nat}{off:Nat}(h:off+D.length<=L.length)(j:Nat):(gJ L D off).getD j 0=if off<=j/\j<off+D.length then D.getD (j - off) 0 else L.getD j 0:=by
 unfold gJ;simp only [List.getD_eq_getElem?_getD];have hl:(L.take off).length=off:=by rw [List.length_take];omega
 by_cases h1:j<off
 ·rw [if_neg (by omega),List.append_assoc,List.getElem?_append_left (by omega),List.getElem?_take,if_pos h1]
 ·by_cases h2:j<off+D.length
  ·rw [if_pos (by omega),List.append_assoc,List.getElem?_append_right (by omega),List.getElem?_append_left (by omega),hl]
  ·rw [if_neg (by omega),List.getElem?_append_right (by rw [List.length_append,hl];omega),List.getElem?_drop,List.length_append,hl]
   congr 2
   omega
def dX (id:Int)(off:Nat)(D:List Nat)(o:Ob):Ob:=if o.id=id then { o with data:=gJ o.data D off } else o
theorem oJ (id:Int)(off:Nat)(D:List Nat)(o:Ob):(dX id off D o).id=o.id:=by unfold dX;split<;>rfl
theorem ej (id:Int)(off:Nat)(D:List Nat)(o:Ob):(dX id off D o).ao=o.ao:=by unfold dX;split<;>rfl
theorem jB (id:Int)(off:Nat)(D:List Nat)(o:Ob):(dX id off D o).jU=o.jU:=by unfold dX;split<;>rfl
theorem nB (id:Int)(off:Nat)(D:List Nat)(Os:List Ob):dW (Os.map (dX id off D))=dW Os:=by
 unfold dW;rw [List.flatMap_map];congr 1
 funext o
 exact ej id off D o
theorem oC {Os:List Ob}{id:Int}{o p:Ob}(hr:Os.Pairwise (λa b=>a.id<b.id))(ho:fq Os id=some o)(hp:p∈Os)(e:p.id=id):p=o:=by
 have hom:=at_mem ho
 obtain⟨i,hi,rfl⟩:=List.getElem_of_mem hp
 obtain⟨j,hj,rfl⟩:=List.getElem_of_mem hom.1
 rw [List.pairwise_iff_getElem] at hr;have hij:i=j:=by
  rcases Nat.lt_trichotomy i j with h|h|h
  ·have:=hr i j hi hj h;have:=hom.2;omega
  ·exact h
  ·have:=hr j i hj hi h;have:=hom.2;omega
 subst hij;rfl
theorem dv:∀{Os:List Ob},(dW Os).Nodup->(∀o∈Os,o.ao.Nodup)/\∀o∈Os,∀p∈Os,o.id≠p.id->∀x,x∈o.ao->¬x∈p.ao
 | [],_=>⟨λ_ h=>(by cases h),λ_ h=>(by cases h)⟩
 | a::r,h=>by
  have h2:(a.ao++dW r).Nodup:=by simpa [dW] using h
  rw [List.nodup_append] at h2;obtain⟨n1,n2,n3⟩:=h2
  obtain⟨i1,i2⟩:=dv n2
  refine⟨λo ho=>?_,λo ho p hp hne x hx hy=>?_⟩
  ·rcases List.mem_cons.1 ho with rfl|h
   ·exact n1
   ·exact i1 o h
  ·rcases List.mem_cons.1 ho with rfl|h1
   ·rcases List.mem_cons.1 hp with rfl|h2
    ·exact hne rfl
    ·exact n3 x hx x (List.mem_flatMap.2 ⟨p,h2,hy⟩) rfl
   ·rcases List.mem_cons.1 hp with rfl|h2
    ·exact n3 x hy x (List.mem_flatMap.2 ⟨o,h1,hx⟩) rfl
    ·exact i2 o h1 p h2 hne x hx hy
theorem xp {Os:List Ob}{id:Int}{off:Nat}{D:List Nat}(h:∀o∈Os,o.id=id->off+D.length<=o.data.length):dV (Os.map (dX id off D))=dV Os:=by
 unfold dV;rw [List.map_map];congr 1
 refine List.map_congr_left λo ho=>?_
 simp only [Function.comp,eN,oJ];congr 2
 unfold Ob.val;rw [ej,jB];have e:(dX id off D o).data.length=o.data.length:=by
  unfold dX;split
  ·exact j7 (h o ho (by assumption))
  ·rfl
 rw [e]
theorem wZ (id:Int)(off:Nat)(D:List Nat){Os:List Ob}(h:Os.Pairwise (λa b=>a.id<b.id)):Os.Pairwise (λa b=>(dX id off D a).id<(dX id off D b).id):=by
 simp only [oJ];exact h
theorem eD.write {w w':World}{s g pb m n room:Nat}{nx:Int}{t:Nat->Bool}{B B':Nat->Nat->Nat}{Os:List Ob}{id:Int}{o:Ob}{off:Nat}{D:List Nat}(h:eD w s g pb m n room nx t B Os)(ho:fq Os id=some o)(hle:off+D.length<=o.data.length)
  (hA:di w' g pb n t B') (hW:pT o.ao B B' off (off+D.length) D) (hb:ah (·=pb) w w'):eD w' s g pb m n room nx t B' (Os.map (dX id off D)):=by
 have hm:=at_mem ho
 have hall:∀p∈Os,p.id=id->off+D.length<=p.data.length:=λp hp e=>by rw [oC h.iE ho hp e];exact hle
 obtain⟨n1,n2⟩:=dv h.nd
 have hmem:∀q∈Os.map (dX id off D),∃p∈Os,q=dX id off D p:=λq hq=>by
  obtain⟨p,hp,e⟩:=List.mem_map.1 hq
  exact⟨p,hp,e.symm⟩
 have hdl:∀p∈Os,(dX id off D p).data.length=p.data.length:=λp hp=>by
  unfold dX;split
  ·exact j7 (hall p hp (by assumption))
  ·rfl
 refine⟨hA,h.c0.but hb h.sp,h.c1.but hb h.sp,h.c2.but hb h.sp,h.c3.but hb h.sp,?_,h.sg,h.sp,h.sm,h.gm,h.pm,λq hq=>?_,λq hq k hk=>?_,λq hq=>?_,by rw [nB];exact h.nd,λi=>by rw [nB];exact h.Hh i,λq hq j hj=>?_,?_,λq hq=>?_,h.Hq,by rw [List.length_map];exact h.rm,λq hq=>?_⟩
 ·rw [List.length_map,xp hall]
  exact bC hb h.map (λe=>h.pm e.symm)
 ·obtain⟨p,hp,rfl⟩:=hmem q hq
  rw [jB,ej];exact (h.rows p hp).but hb (λk hk=>(h.off p hp k hk).2.2.1)
 ·obtain⟨p,hp,rfl⟩:=hmem q hq
  rw [jB] at hk;obtain⟨a1,a2,a3,a4,a5⟩:=h.off p hp k hk
  exact⟨a1,a2,a3,a4,Nat.lt_of_lt_of_le a5 hb.size⟩
 ·obtain⟨p,hp,rfl⟩:=hmem q hq
  rw [ej,hdl p hp];exact h.len p hp
 ·obtain⟨p,hp,rfl⟩:=hmem q hq
  rw [hdl p hp] at hj;rw [ej];have hlp:=h.len p hp
  have hq:j / 64<p.ao.length:=by unfold aU at hlp;omega
  by_cases e:p.id=id
  ·obtain rfl:=oC h.iE ho hp e
   unfold dX;rw [if_pos e,hW.1 j (by omega),B4 hle j,h.bytes p hp j hj]
  ·rw [hW.2 _ _ (n2 p hp o hm.1 (by rw [hm.2];exact e) _ (gF hq)),h.bytes p hp j hj]
   unfold dX;rw [if_neg e]
 ·rw [List.pairwise_map]
  exact wZ id off D h.iE
 ·obtain⟨p,hp,rfl⟩:=hmem q hq
  rw [oJ];exact h.ids p hp
 ·obtain⟨p,hp,rfl⟩:=hmem q hq
  rw [hdl p hp];exact h.eI p hp
theorem rl (s g pb m n room:Nat)(nx:Int)(t:Nat->Bool)(B:Nat->Nat->Nat)(Os:List Ob)(id off:Int)(da:Option Addr)(k cd:Nat)(w:World)(h:eD w s g pb m n room nx t B Os)(hi:-9223372036854775808<=id/\id<9223372036854775808)(ho:fq Os id=none) :
  Calls Tryz.prog 188 #[.pointer (some ⟨s,0,none⟩),.int .i64 id,.int .i64 off,.slice da k cd] w λe w'=>e=.returned (.int .i64 20)/\Below w.heap.size w w':=by
 have hz:=aO bW
 have H:=ab h
 clear h;go_enter Tryz.func188,Tryz.ntmps188
 go_wp2_with (first|(go_at_call 266;refine (mr s g pb m n room nx t B Os id off (k:Int) _ H.out hi ho).mono ?_;rintro e w1 ⟨rfl,hb⟩;have HB:=ab hb;clear hb))
 go_ret;exact⟨rfl,aa HB.out (ae _ _)⟩
theorem ti (s g pb m n room:Nat)(nx:Int)(t:Nat->Bool)(B:Nat->Nat->Nat)(Os:List Ob)(id off:Int)(o:Ob)(da:Option Addr)(k cd:Nat)(w:World)(h:eD w s g pb m n room nx t B Os)(hi:-9223372036854775808<=id/\id<9223372036854775808)(ho:fq Os id=some o)(hb:¬kA o off (k:Int)) :
  Calls Tryz.prog 188 #[.pointer (some ⟨s,0,none⟩),.int .i64 id,.int .i64 off,.slice da k cd] w λe w'=>e=.returned (.int .i64 5)/\Below w.heap.size w w':=by
 have hz:=aO bW
 have H:=ab h
 clear h;go_enter Tryz.func188,Tryz.ntmps188
 go_wp2_with (first|(go_at_call 266;refine (ny s g pb m n room nx t B Os id off (k:Int) o _ H.out hi ho hb).mono ?_;rintro e w1 ⟨rfl,hb⟩;have HB:=ab hb;clear hb))
 go_ret;exact⟨rfl,aa HB.out (ae _ _)⟩
def Hz (w4:World)(g pb n:Nat)(t:Nat->Bool)(B:Nat->Nat->Nat)(ao:List Nat)(off k:Nat)(da:Option Addr)(D:List Nat)(v3 v31:Value)(w':World):Prop :=
 ∃(i r cd:Nat) (ad:Option Addr) (B':Nat->Nat->Nat),v3=.slice ad r cd/\v31=.int .i64 (i:Int)/\r=off+k - pos off k i/\i<=pG off k/\Row w' ad r cd (bG (D.drop (pos off k i - off)))/\(∀j,aJ ad j->aJ da j)/\di w' g pb n t B'/\pT ao B B' off (pos off k i) D/\ah (·=pb) w4 w'
theorem xi (s g pb m n room:Nat)(nx:Int)(t:Nat->Bool)(B:Nat->Nat->Nat)(Os:List Ob)(id:Int)(off:Nat)(o:Ob)(da:Option Addr)(k cd:Nat)(D:List Nat)(w:World)(h:eD w s g pb m n room nx t B Os)(hi:-9223372036854775808<=id/\id<9223372036854775808)(ho:fq Os id=some o)(hle:off+k<=o.data.length)(hk:k<=1024)(hR:Row w da k cd (bG D))(hD:∀x∈D,x<256)(hap:0<k->∀j,aJ da j->j≠pb) :
  Calls Tryz.prog 188 #[.pointer (some ⟨s,0,none⟩),.int .i64 id,.int .i64 (off:Int),.slice da k cd] w λe w'=>∃B',e=.returned (.int .i64 0)/\eD w' s g pb m n room nx t B' (Os.map (dX id off D))/\ah (·=pb) w w':=by
 have hz:=aO bW
 have hz75:=aO oz
 have hmem:=(at_mem ho).1
 have hbig:=h.eI o hmem
 have Qi:=ab (h.rows o hmem)
 have Rj:=ab (h.len o hmem)
 have Uq:Hid (∀p∈o.ao,t p=true):=ab (λp hp=>(h.mem hmem hp).1)
 have T5:=ab ((dv h.nd).1 o hmem)
 have H:=ab h
 have Uz:Hid (kA o (off:Int) (k:Int)):=ab (by unfold kA;omega)
 have hsl:=World.block_lt_of_cell? _ _ h.c0.1
 have hgl:=h.pD.B9
 have hpl:=h.pD.lt
 have hsp:=h.sp
 have hDl:D.length=k:=by have:=hR.len;rwa [aM] at this
 have Ve:=ab hDl
 have hP64:off+k<=64*o.ao.length:=by have:=Rj.out;unfold aU at this;omega
 have RL:=ab hP64
 have Sf:=ab hle
 have HR:=ab hR
 have HD:=ab hD
 have RX:=ab hap
 have hb4:off+k<=4096:=by omega
 clear h hP64 hle hR hD hap hDl;go_enter Tryz.func188,Tryz.ntmps188
 go_upto_region 4 with (first|(go_at_call 266;refine (pW s g pb m n room nx t B Os id (off:Int) (k:Int) o _ H.out hi ho Uz.out).mono ?_;rintro e w1 ⟨rfl,hb⟩;have HB:=ab hb;clear hb))
 obtain⟨w3,hw3⟩:∃w3,w3=w1.alloc (Obj.cells #[Value.int .i64 (o.data.length:Int),Value.slice o.jU o.ao.length o.ao.length] 276):=⟨_,rfl⟩
 have PE:Hid (Below w.heap.size w w3):=ab (by rw [hw3];exact aa HB.out (ae _ _))
 have x10a:w3.cell? ⟨w1.heap.size,0,none⟩=some (.int .i64 (o.data.length:Int)):=by rw [hw3];exact (aH _ _ _ 0 _ rfl).1
 have x10b:w3.cell? ⟨w1.heap.size,1,none⟩=some (.slice o.jU o.ao.length o.ao.length):=by rw [hw3];exact (aH _ _ _ 1 _ rfl).1
 rw [<-hw3];clear hw3 hz;go_upto_region 5 with (first|(go_at_call 267;refine (lN (o.data.length:Int) o.jU o.ao off k _ (Qi.out.later PE.out) RL.out hb4).mono ?_;rintro e w4 ⟨ap,capp,rfl,OP,hb⟩;have Th:=ab OP;have PM:=ab hb;clear OP hb))
 clear x10a x10b;have UI:=ab ((H.out.later PE.out).later PM.out)
 have Vc:=ab ((HR.out.later PE.out).later PM.out)
 obtain⟨c,hc⟩:∃c,c=pG off k:=⟨_,rfl⟩
 rw [<-hc] at Th;rw [<-hc];have RF:=ab hc
 have hc64:c<=4096:=by rw [hc];unfold pG;split<;>omega
 have hs3:=PE.out.size
 clear hc;go_loopw [3,31] (Hz w4 g pb n t B o.ao off k da D) (λ_ v _=>c - fe v)
 case atStart =>
  exact⟨0,k,cd,da,B,rfl,rfl,by rw [gC];omega,Nat.zero_le _,by rw [gC,Nat.sub_self];exact Vc.out,λ_ h=>h,UI.out.pD,by rw [gC];exact qB _ _ _ _,ah.refl _ _⟩
 case round =>
  obtain⟨i,r,cq,ad,B1,rfl,rfl,hr,hin,hRr,hBl,hA,hW,hBt⟩:=hrel
  have Uu:=ab hr
  have Se:=ab hRr
  have P3:=ab hBl
  have HA:=ab hA
  have HW:=ab hW
  have PH:=ab hBt
  have S4:=ab hin
  clear hr hRr hBl hA hW hBt hin;have xs:=ag PH.out UI.out.c0.1 hsp
  by_cases hlt:i<c
  ·have hd:decide ((i:Int)<(c:Int))=true:=decide_eq_true (by omega)
   have hpi:pos off k i<off+k:=(iY off k i).1 (by have:=RF.out;omega)
   obtain⟨gp,rfl,hg1,hg2,y0,y1,y2⟩:=rO Th.out hlt
   have hgb:gp≠pb:=by omega
   replace y0:=ag PH.out y0 hgb
   replace y1:=ag PH.out y1 hgb
   replace y2:=ag PH.out y2 hgb
   have hql:=EB Rj.out Sf.out hpi
   have RO:=ab (sA T5.out Ve.out RL.out hpi HW.out)
   have hnx:=gK hpi
   have hpl2:=iM off k i
   obtain⟨pg,hpg⟩:∃pg,pg=o.ao.getD (off / 64+i) 0:=⟨_,rfl⟩
   obtain⟨st,hst⟩:∃st,st=pos off k i%64:=⟨_,rfl⟩
   obtain⟨f,hf⟩:∃f,f=pos off k (i+1) - pos off k i:=⟨_,rfl⟩
   have HT:Hid (t pg=true):=ab (Uq.out pg (by rw [hpg];exact gF hql))
   have hsf:st+f<=64:=by omega
   have hfr:f<=r:=by have:=Uu.out;omega
   rw [<-hpg,<-hst,<-hf] at RO;rw [<-hpg] at y0;rw [<-hst] at y1;rw [<-hf] at y2;have SX:Hid (off+k - pos off k (i+1)=r - f/\pos off k (i+1) - off=pos off k i - off+f):=ab (by have:=Uu.out;omega)
   have hr4:r<=4096:=by have:=Uu.out;omega
   have hcq:=Se.out.cap_
   obtain⟨a2,hcut,ha2⟩:=sw 38 5 Ik xI ad r cq f hfr
   obtain⟨hR2,hBl2⟩:=Se.out.from hfr ha2
   have QL:=ab hR2
   have Te:=ab hBl2
   have hc0:(0:Int)<=(f:Int):=by omega
   have hc1:(f:Int)<=(cq:Int):=by omega
   have WE:Hid (Row wr ad f cq (bG ((D.drop (pos off k i - off)).take f))):=ab (by
    have:=Se.out.sub (m:=f) (c:=cq) hfr (by omega) (λe=>(Se.out.none_ e).2)
    rwa [ya] at this)
   have SZ:Hid (∀x∈(D.drop (pos off k i - off)).take f,x<256):=ab (λx hx=>HD.out x (List.mem_of_mem_drop (List.mem_of_mem_take hx)))
   have SI:Hid (0<k):=ab (by omega)
   clear hpg hst hf hnx hpl2 hpi hql hR2 hBl2 ha2;go_upto_region 7 with fail
   obtain⟨w5,hw5⟩:∃w5,w5=wr.alloc (Obj.cells #[Value.int .i64 (pg:Int),Value.int .i64 (st:Int),Value.int .i64 (f:Int)] 343):=⟨_,rfl⟩
   have PI:Hid (Below wr.heap.size wr w5):=ab (by rw [hw5];exact ae _ _)
   have hwp:wr.heap.size≠pb:=by have:=PH.out.size;omega
   have HS:Hid (∀W,ah (·=pb) w5 W->(W.cell? ⟨s,0,none⟩=some (.pointer (some ⟨g,0,none⟩))/\W.cell? ⟨wr.heap.size,0,none⟩=some (.int .i64 (pg:Int))/\W.cell? ⟨wr.heap.size,1,none⟩=some (.int .i64 (st:Int))/\W.cell? ⟨wr.heap.size,2,none⟩=some (.int .i64 (f:Int)))/\ah (·=pb) w5 W):=ab (by
    intro W hW;refine⟨⟨ag hW (cell_later PI.out xs) hsp,?_,?_,?_⟩,hW⟩<;>refine ag hW ?_ hwp<;>rw [hw5]
    ·exact (aH _ _ _ 0 _ rfl).1
    ·exact (aH _ _ _ 1 _ rfl).1
    ·exact (aH _ _ _ 2 _ rfl).1)
   rw [<-hw5];have Uj:=ab (HA.out.later PI.out)
   have T7:=ab (WE.out.later PI.out)
   clear hw5 y0 y1 y2 xs;have Sy:=ab hcut
   clear hcut;go_region_held3 (λW=>(W.cell? ⟨s,0,none⟩=some (.pointer (some ⟨g,0,none⟩))/\W.cell? ⟨wr.heap.size,0,none⟩=some (.int .i64 (pg:Int))/\W.cell? ⟨wr.heap.size,1,none⟩=some (.int .i64 (st:Int))/\W.cell? ⟨wr.heap.size,2,none⟩=some (.int .i64 (f:Int)))/\ah (·=pb) w5 W) (first|exact HS.out _ (ah.of (Below.refl _ _).drew)|exact HS.out _ hb2.out) (first|(go_at_call 269;refine (mf g pb n t B1 pg st _ f cq _ _ (Uj.out.later (Below.refl _ _).drew) HT.out hsf SZ.out (T7.out.later (Below.refl _ _).drew)).mono ?_;rintro e w6 ⟨rfl,A6,hb6⟩;have hb2:=ab ((ah.of (S:=(·=pb)) (Below.refl w5.heap.size w5).drew).trans hb6)))
   have z2:=(HS.out _ hb2.out).1.2.2.2
   have hcut:=Sy.out w6
   have WM:=ab A6
   have Ut:=ab (((PH.out.call PI.out).trans hb2.out))
   clear A6 hb6;go_wp2;refine⟨⟨i+1,r - f,cq - f,a2,_,rfl,rfl,SX.out.1.symm,by have:=RF.out;omega,?_,λj hj=>P3.out j (Te.out j hj),WM.out,RO.out,Ut.out⟩,by simp [fe];omega⟩
   have e:bG (D.drop (pos off k (i+1) - off))=(bG (D.drop (pos off k i - off))).drop f:=by rw [Ak,List.drop_drop,SX.out.2]
   rw [e];exact (QL.out.later PI.out).but hb2.out (λj hj=>RX.out SI.out j (P3.out j (Te.out j hj)))
  ·obtain rfl:i=c:=by have:=S4.out;have:=RF.out;omega
   have hd:decide ((i:Int)<(i:Int))=false:=by simp
   have Xc:Hid (pos off k i=off+k):=ab (by rw [RF.out];exact uS off k)
   clear xs;go_wp2;go_ret;have hW:=HW.out
   rw [Xc.out,<-Ve.out] at hW;refine⟨B1,rfl,UI.out.write ho (by rw [Ve.out];exact Sf.out) HA.out hW PH.out,?_⟩
   exact (ah.of (aa PE.out PM.out)).trans PH.out
theorem km (Os:List Ob)(o:Ob):dW (Os++[o])=dW Os++o.ao:=by simp [dW]
theorem eD.create {w w':World}{s g pb m n room:Nat}{nx:Int}{t:Nat->Bool}{B:Nat->Nat->Nat}{Os:List Ob}{k:Nat}{a:Option Addr}(h:eD w s g pb m n room nx t B Os)(hk:k<=4096)(hf:aU k<=(fx n t false).length)(hroom:Os.length<room)(hnx:nx<=4611686018427387904)
  (hA:di w' g pb n (tk t ((fx n t false).take (aU k))) B) (hrow:Row w' a (aU k) (aU k) (ints (de ((fx n t false).take (aU k))))) (hblk:∀j,aJ a j->w.heap.size<=j/\j<w'.heap.size)
  (x0:az w' ⟨s,0,none⟩ (.pointer (some ⟨g,0,none⟩))) (x1:az w' ⟨s,1,none⟩ (.map (some m))) (x2:az w' ⟨s,2,none⟩ (.int .i64 (room:Int))) (x3:az w' ⟨s,3,none⟩ (.int .i64 (nx+1)))
  (hmap:w'.ownsMap Tryz.prog 3 hr m (Os.length+1) (dV (Os++[⟨nx,List.replicate k 0,(fx n t false).take (aU k),a⟩]))) (hb:ah (Sb s g pb m) w w') :
  eD w' s g pb m n room (nx+1) (tk t ((fx n t false).take (aU k))) B (Os++[⟨nx,List.replicate k 0,(fx n t false).take (aU k),a⟩]):=by
 generalize hP:(fx n t false).take (aU k)=P at *
 have hPl:P.length=aU k:=by rw [<-hP,List.length_take];omega
 have hPm:∀i∈P,t i=false:=λi hi=>(oE.1 (List.mem_of_mem_take (hP ▸ hi))).2
 have hPn:P.Nodup:=by rw [<-hP];exact (List.take_sublist _ _).nodup (nU _ _ _)
 have hsl:=World.block_lt_of_cell? _ _ h.c0.1
 have hgl:=h.pD.B9
 have hpl:=h.pD.lt
 have hml:=h.map.lt
 have hmem:∀p,p∈Os++[⟨nx,List.replicate k 0,P,a⟩]->p∈Os\/p=⟨nx,List.replicate k 0,P,a⟩:=λp hp=>by
  rcases List.mem_append.1 hp with h1|h1
  ·exact .inl h1
  ·exact .inr (by simpa using h1)
 refine⟨hA,x0,x1,x2,x3,by rw [List.length_append];exact hmap,h.sg,h.sp,h.sm,h.gm,h.pm,λp hp=>?_,λp hp j hj=>?_,λp hp=>?_,?_,λi=>?_,λp hp j hj=>?_,?_,λp hp=>?_,⟨by have:=h.Hq;omega,by omega⟩,⟨by rw [List.length_append];simp;omega,h.rm.2⟩,λp hp=>?_⟩
 ·rcases hmem p hp with h1|rfl
  ·refine (h.rows p h1).but hb (λj hj=>?_)
   obtain⟨a1,a2,a3,a4,a5⟩:=h.off p h1 j hj
   rintro (e|e|e|e)
   ·exact a1 e
   ·exact a2 e
   ·exact a3 e
   ·exact a4 e
  ·simp only [hPl]
   exact hrow
 ·rcases hmem p hp with h1|rfl
  ·obtain⟨a1,a2,a3,a4,a5⟩:=h.off p h1 j hj
   exact⟨a1,a2,a3,a4,Nat.lt_of_lt_of_le a5 hb.size⟩
  ·have:=hblk j hj
   simp only at hsl;exact⟨by omega,by omega,by omega,by omega,this.2⟩
 ·rcases hmem p hp with h1|rfl
  ·exact h.len p h1
  ·simp [hPl]
 ·rw [km,List.nodup_append]
  refine⟨h.nd,hPn,λi hi j hj e=>?_⟩
  subst e;have h1:=hPm i hj
  rw [h.Hh i] at h1;exact absurd hi (by simpa using h1)
 ·rw [km]
  simp only [tk,h.Hh i,List.mem_append,Bool.decide_or]
 ·rcases hmem p hp with h1|rfl
  ·exact h.bytes p h1 j hj
  ·simp only [List.length_replicate] at hj
   have hq:j / 64<P.length:=by rw [hPl];unfold aU;omega
   simp only
   rw [h.pD.zero _ _ (hPm _ (gF hq))];simp [List.getD_eq_getElem?_getD,hj]
 ·rw [List.pairwise_append]
  refine⟨h.iE,by simp,λp hp q hq=>?_⟩
  simp only [List.mem_singleton] at hq;subst hq;exact (h.ids p hp).2
 ·rcases hmem p hp with h1|rfl
  ·have:=h.ids p h1
   omega
  ·have:=h.Hq
   simp only
   omega
 ·rcases hmem p hp with h1|rfl
  ·exact h.eI p h1
  ·simpa using hk
theorem wC {room n:Nat}{nx:Int}{Os:List Ob}{size:Int}(h:jL room n nx Os size=0):0<=size/\size<=4096/\Os.length<room/\nx<=4611686018427387904/\aU size.toNat<=n - fN Os:=by
 unfold jL at h;repeat' split at h
 ·omega
 ·omega
 ·omega
 ·omega
theorem jR (s g pb m n room:Nat)(nx:Int)(t:Nat->Bool)(B:Nat->Nat->Nat)(Os:List Ob)(k:Nat)(w:World)(h:eD w s g pb m n room nx t B Os)(hE:jL room n nx Os (k:Int)=0) :
  Calls Tryz.prog 181 #[.pointer (some ⟨s,0,none⟩),.int .i64 (k:Int)] w λe w'=>∃a t',e=.returned (.tuple #[.int .i64 nx,.int .i64 0])/\(∀j,aJ a j->w.heap.size<=j/\j<w'.heap.size)/\eD w' s g pb m n room (nx+1) t' B (Os++[⟨nx,List.replicate k 0,(fx n t false).take (aU k),a⟩])/\ah (Sb s g pb m) w w':=by
 obtain⟨_,hk,hroom,hnx,hneed⟩:=wC hE
 rw [Int.toNat_natCast] at hneed;have hk2:k<=4096:=by omega
 have hf:aU k<=(fx n t false).length:=by have:=h.count;omega
 have H:=ab h
 have HE:=ab hE
 have HR:=ab hroom
 have HF:=ab hf
 have hsg:=h.sg
 have hsm:=h.sm
 have hgm:=h.gm
 have hnx1:=h.Hq.1
 clear h hE hroom hf hneed hk;go_enter Tryz.func181,Tryz.ntmps181
 go_upto_region 4 with (first|(go_at_call 179;refine (g_ s g pb m n room nx t B Os (k:Int) _ H.out).mono ?_;rintro e w1 ⟨rfl,hb⟩;rw [HE.out];have HB:=ab hb;clear hb))
 have H1:=ab (H.out.later HB.out)
 have HS:Hid (∀W,ah (·=g) w1 W->(W.cell? ⟨s,0,none⟩=some (.pointer (some ⟨g,0,none⟩)))/\ah (·=g) w1 W):=ab (λW hW=>⟨ag hW H1.out.c0.1 hsg,hW⟩)
 go_region_held3 (λW=>(W.cell? ⟨s,0,none⟩=some (.pointer (some ⟨g,0,none⟩)))/\ah (·=g) w1 W) (first|exact HS.out _ (ah.of (Below.refl _ _).drew)|exact HS.out _ hb2.out) (first
  | (go_at_call 255;refine (lR k _ hk2).mono ?_;rintro e w2 ⟨rfl,hw⟩;obtain rfl:=hw.symm)
  | (go_at_call 258;refine (Ei g pb n t B (aU k) _ (H1.out.pD.later (Below.refl _ _).drew) HF.out).mono ?_;rintro e w2 ⟨a,rfl,R2,A2,b2⟩;have hb2:=ab ((ah.of (S:=(·=g)) (Below.refl w1.heap.size w1).drew).trans b2)))
 have QZ:=ab A2
 have QL:=ab R2
 have y0:=H1.out.c0.but hb2.out hsg
 have y1:=H1.out.c1.but hb2.out hsg
 have y2:=H1.out.c2.but hb2.out hsg
 have y3:=H1.out.c3.but hb2.out hsg
 have hm2:=bC hb2.out H1.out.map (λe=>hgm e.symm)
 obtain⟨P,hP⟩:∃P,P=(fx n t false).take (aU k):=⟨_,rfl⟩
 obtain⟨K,hK⟩:∃K,K=aU k:=⟨_,rfl⟩
 have hPl:P.length=K:=by rw [hP,hK,List.length_take];have:=HF.out;omega
 obtain⟨w3,hrun,hm3,htn⟩:=hm2.store sC Tryz.underlying180 (by have:=HR.out;have:=H.out.rm.2;unfold maxLen;omega) (key:=.int .i64 nx) (kl:=.int .i64 nx) (tJ (by omega)) (val:=.agg #[.int .i64 (k:Int),.slice a K K]) (d:=.held (.agg #[.int .i64 (k:Int),.slice a K K])) (ps:=[]) rfl
 have hb3:=fw htn
 have hsmn:¬s=m:=hsm
 have z0:=y0.but hb3 hsmn
 have z1:=y1.but hb3 hsmn
 have z2:=y2.but hb3 hsmn
 have z3:=y3.but hb3 hsmn
 have Vq:Hid (w3.ownsMap Tryz.prog 3 hr m (Os.length+1) (dV (Os++[⟨nx,List.replicate k 0,P,a⟩]))):=ab (by
  have e:=zo Os ⟨nx,List.replicate k 0,P,a⟩ (λp hp=>(H.out.ids p hp).2)
  simp only [Ob.val,List.length_replicate,hPl] at e;rw [<-e];exact hm3)
 have Xo:=ab z0
 have Qo:=ab z1
 have SQ:=ab z2
 have T2:=ab z3
 have PE:=ab hb3
 have e1:=y1.1
 have e3:=y3.1
 have f3:=z3.1
 have g3:=z3.2
 have hwr:IntKind.i64.wrap (nx+1)=nx+1:=by rw [IntKind.wrap_i64];omega
 rw [<-hK];have HP:=ab hP
 have HK:=ab hK
 have T_:=ab hPl
 clear A2 R2 b2 y0 y1 y2 y3 hm2 hm3 htn hb3 z0 z1 z2 z3 hP hK hPl hw;go_wp2;have hP:=HP.out
 have hK:=HK.out
 subst hK;have hsz:=HB.out.size
 have hml:=H1.out.map.lt
 have hsl:s<w1.heap.size:=World.block_lt_of_cell? _ _ H1.out.c0.1
 have b4:ah (·=s) w3 (w3.setCell ⟨s,3,none⟩ (.int .i64 (nx+1))):=ah.setCell (S:=(·=s)) (ah.refl _ _) (p:=⟨s,3,none⟩) (show s=s from rfl) _
 have hge:=QL.out.ge
 have hlt:=QL.out.lt
 have hdw:w1.drew.heap.size=w1.heap.size:=rfl
 rw [hdw] at hge;have hall:ah (Sb s g pb m) w (w3.setCell ⟨s,3,none⟩ (.int .i64 (nx+1))):=(((ah.of HB.out).trans (hb2.out.mono (λ_ h=>.inr (.inl h)))).trans (PE.out.mono (λ_ h=>.inr (.inr (.inr h))))).trans (b4.mono (λ_ h=>.inl h))
 refine bodyPost_ret (v:=.tuple #[.int .i64 nx,.int .i64 0]) (by simp [results,Tryz.results181,go_sem]) rfl ⟨a,tk t ((fx n t false).take (aU k)),rfl,λj hj=>⟨by have:=hge j hj;omega,Nat.lt_of_lt_of_le (hlt j hj) (Nat.le_trans PE.out.size b4.size)⟩,?_,hall⟩
 rw [hP] at Vq;refine H.out.create hk2 HF.out HR.out hnx ((QZ.out.but PE.out hgm H.out.pm).but b4 (Ne.symm hsg) (Ne.symm H.out.sp)) ((QL.out.row.but PE.out (λj hj e=>?_)).but b4 (λj hj e=>?_)) (λj hj=>⟨by have:=hge j hj;omega,Nat.lt_of_lt_of_le (hlt j hj) (Nat.le_trans PE.out.size b4.size)⟩) (Xo.out.other (by simp)) (Qo.out.other (by simp)) (SQ.out.other (by simp)) T2.out.put (Vq.out.setCell (a:=⟨s,3,none⟩) (Ne.symm hsm) _) hall
 ·have:=hge j hj
  omega
 ·have:=hge j hj
  omega
theorem bF {id:Int}{Os:List Ob}{p:Ob}:p∈bX id Os↔p∈Os/\p.id≠id:=by simp [bX]
theorem oY {Os:List Ob}{id:Int}{o:Ob}(hr:Os.Pairwise (λa b=>a.id<b.id))(hn:(dW Os).Nodup)(ho:fq Os id=some o)(i:Nat):i∈dW (bX id Os)↔i∈dW Os/\¬i∈o.ao:=by
 have hm:=at_mem ho
 simp only [dW,List.mem_flatMap,bF];constructor
 ·rintro ⟨p,⟨hp,hne⟩,hi⟩
  exact⟨⟨p,hp,hi⟩,(dv hn).2 p hp o hm.1 (by rw [hm.2];exact hne) i hi⟩
 ·rintro ⟨⟨p,hp,hi⟩,hno⟩
  exact⟨p,⟨hp,λe=>hno (by rw [<-oC hr ho hp e];exact hi)⟩,hi⟩
theorem iq (id:Int):∀(Os:List Ob),(dW Os).Nodup->(dW (bX id Os)).Nodup
 | [],h=>h
 | a::r,h=>by
  have h2:(a.ao++dW r).Nodup:=by simpa [dW] using h
  rw [List.nodup_append] at h2;have ih:=iq id r h2.2.1
  unfold bX at ih ⊢
  rw [List.filter_cons];split
  ·show (a.ao++dW _).Nodup
   rw [List.nodup_append];refine⟨h2.1,ih,λx hx y hy=>h2.2.2 x hx y ?_⟩
   obtain⟨p,hp,hy⟩:=List.mem_flatMap.1 hy
   exact List.mem_flatMap.2 ⟨p,(List.mem_filter.1 hp).1,hy⟩
  ·exact ih
theorem rB {l:List Nat}{i:Nat}:((i:Int)∈de l)↔i∈l:=by
 simp only [de,List.mem_map];constructor
 ·rintro ⟨x,hx,e⟩
  have:x=i:=by omega
  exact this ▸ hx
 ·intro h
  exact⟨i,h,rfl⟩
theorem eD.Dl {w w':World}{s g pb m n room:Nat}{nx:Int}{t:Nat->Bool}{B:Nat->Nat->Nat}{Os:List Ob}{id:Int}{o:Ob}(h:eD w s g pb m n room nx t B Os)(ho:fq Os id=some o)
  (hA:di w' g pb n (gT t (de o.ao)) (gB B (de o.ao))) (x0:az w' ⟨s,0,none⟩ (.pointer (some ⟨g,0,none⟩))) (x1:az w' ⟨s,1,none⟩ (.map (some m))) (x2:az w' ⟨s,2,none⟩ (.int .i64 (room:Int))) (x3:az w' ⟨s,3,none⟩ (.int .i64 nx))
  (hmap:w'.ownsMap Tryz.prog 3 hr m Os.length (dV (bX id Os))) (hb:ah (Sb s g pb m) w w'):eD w' s g pb m n room nx (gT t (de o.ao)) (gB B (de o.ao)) (bX id Os):=by
 have hm:=at_mem ho
 have hnf:=dv h.nd
 refine⟨hA,x0,x1,x2,x3,sl hmap,h.sg,h.sp,h.sm,h.gm,h.pm,λp hp=>?_,λp hp j hj=>?_,λp hp=>h.len p (bF.1 hp).1,iq id Os h.nd,λi=>?_,λp hp j hj=>?_,?_,λp hp=>h.ids p (bF.1 hp).1,h.Hq,⟨Nat.le_trans (List.length_filter_le _ _) h.rm.1,h.rm.2⟩,λp hp=>h.eI p (bF.1 hp).1⟩
 ·refine (h.rows p (bF.1 hp).1).but hb (λj hj=>?_)
  obtain⟨a1,a2,a3,a4,a5⟩:=h.off p (bF.1 hp).1 j hj
  rintro (e|e|e|e)
  ·exact a1 e
  ·exact a2 e
  ·exact a3 e
  ·exact a4 e
 ·obtain⟨a1,a2,a3,a4,a5⟩:=h.off p (bF.1 hp).1 j hj
  exact⟨a1,a2,a3,a4,Nat.lt_of_lt_of_le a5 hb.size⟩
 ·have e:=oY h.iE h.nd ho i
  simp only [gT,h.Hh i,rB,e,Bool.decide_and,decide_not]
 ·obtain⟨hp1,hp2⟩:=bF.1 hp
  have hlp:=h.len p hp1
  have hq:j / 64<p.ao.length:=by unfold aU at hlp;omega
  have hno:=hnf.2 p hp1 o hm.1 (by rw [hm.2];exact hp2) _ (gF hq)
  rw [gB,if_neg (λe=>hno (rB.1 e))];exact h.bytes p hp1 j hj
 ·exact List.Pairwise.filter _ h.iE
theorem pE (s g pb m n room:Nat)(nx:Int)(t:Nat->Bool)(B:Nat->Nat->Nat)(Os:List Ob)(id:Int)(w:World)(h:eD w s g pb m n room nx t B Os)(hi:-9223372036854775808<=id/\id<9223372036854775808)(ho:fq Os id=none) :
  Calls Tryz.prog 323 #[.pointer (some ⟨s,0,none⟩),.int .i64 id] w λe w'=>e=.returned (.int .i64 20)/\Below w.heap.size w w':=by
 have x:=h.c1.1
 have hl:=fs h hi ho
 have hz:=aO bW
 clear h;go_enter Tryz.func323,Tryz.ntmps323
 go_wp2;go_ret;exact⟨rfl,ae _ _⟩
theorem Es (g pb n:Nat)(t:Nat->Bool)(B:Nat->Nat->Nat)(a:Option Addr)(m cap:Nat)(l:List Int)(w:World)(h:di w g pb n t B)(hR:Row w a m cap (ints l))(hm63:m<9223372036854775807)(hap:∀k,aJ a k->k≠pb)(hok:DH n t l) :
  Calls Tryz.prog 366 #[.pointer (some ⟨g,0,none⟩),.slice a m cap] w λe w'=>e=.returned (.int .i64 0)/\di w' g pb n (gT t l) (gB B l)/\ah (λk=>k=g\/k=pb) w w':=by
 refine (AN g pb n t B a m cap l w h hR hm63 hap).mono ?_
 rintro e w' (⟨_,h1,h2,h3⟩|⟨h1,_⟩)
 ·exact⟨h1,h2,h3⟩
 ·exact absurd hok h1
theorem tL (s g pb m n room:Nat)(nx:Int)(t:Nat->Bool)(B:Nat->Nat->Nat)(Os:List Ob)(id:Int)(o:Ob)(w:World)(h:eD w s g pb m n room nx t B Os)(hi:-9223372036854775808<=id/\id<9223372036854775808)(ho:fq Os id=some o) :
  Calls Tryz.prog 323 #[.pointer (some ⟨s,0,none⟩),.int .i64 id] w λe w'=>∃t' B',e=.returned (.int .i64 0)/\eD w' s g pb m n room nx t' B' (bX id Os)/\ah (Sb s g pb m) w w':=by
 have x:=h.c1.1
 have hl:=gY h hi ho
 have hz:=aO bW
 have hmem:=(at_mem ho).1
 have H:=ab h
 have hsg:=h.sg
 have hsp:=h.sp
 have hsm:=h.sm
 have hgm:=h.gm
 have hpm:=h.pm
 obtain⟨w1,hw1⟩:∃w1,w1=w.alloc (Obj.cells #[Value.int .i64 (o.data.length:Int),Value.slice o.jU o.ao.length o.ao.length] 276):=⟨_,rfl⟩
 have PC:Hid (Below w.heap.size w w1):=ab (by rw [hw1];exact ae _ _)
 have Qb:Hid (w1.cell? ⟨w.heap.size,1,none⟩=some (.slice o.jU o.ao.length o.ao.length)):=ab (by rw [hw1];exact (aH _ _ _ 1 _ rfl).1)
 have H1:=ab (h.later PC.out)
 obtain⟨w2,hdel,hm2,htn⟩:=H1.out.map.drop sC Tryz.underlying180 (key:=.int .i64 id) (kl:=.int .i64 id) (tJ hi) 0
 have hb2:=fw htn
 rw [yX] at hm2;have WN:=ab hm2
 have PB:=ab hb2
 have y1:=H1.out.c1.1
 clear h hm2 htn hb2;rw [hw1] at hdel y1;go_enter Tryz.func323,Tryz.ntmps323
 go_upto_region 5 with fail
 clear hz hl x y1 hdel hw1;have VQ:Hid (∀W,ah (λk=>k=g\/k=pb) w2 W->(W.cell? ⟨s,0,none⟩=some (.pointer (some ⟨g,0,none⟩))/\W.cell? ⟨w.heap.size,1,none⟩=some (.slice o.jU o.ao.length o.ao.length))/\ah (λk=>k=g\/k=pb) w2 W):=ab (by
  intro W hW;have h1:=H.out.pD.B9
  have h2:=H.out.pD.lt
  have h3:=H.out.map.lt
  refine⟨⟨ag hW (ag PB.out H1.out.c0.1 hsm) (λe=>e.elim hsg hsp),ag hW (ag PB.out Qb.out ?_) ?_⟩,hW⟩
  ·show ¬w.heap.size=m
   omega
  ·show ¬(w.heap.size=g\/w.heap.size=pb)
   omega)
 have QZ:=ab (H1.out.pD.but PB.out hgm hpm)
 have QL:=ab ((H1.out.rows o hmem).but PB.out (λj hj=>(H.out.off o hmem j hj).2.2.2.1))
 have RX:=ab (λj hj=>(H.out.off o hmem j hj).2.2.1)
 have T_:Hid (o.ao.length<9223372036854775807):=ab (by have:=H.out.len o hmem;have:=H.out.eI o hmem;unfold aU at *;omega)
 have RQ:Hid (DH n t (de o.ao)):=ab (by
  refine⟨λz hz=>?_,?_⟩
  ·simp only [de,List.mem_map] at hz
   obtain⟨p,hp,rfl⟩:=hz
   obtain⟨h1,h2⟩:=H.out.mem hmem hp
   exact⟨decide_eq_true (by omega),by simpa using h1⟩
  ·have hn:=(dv H.out.nd).1 o hmem
   unfold de List.Nodup;rw [List.pairwise_map];unfold List.Nodup at hn;rw [List.pairwise_iff_getElem] at hn ⊢
   intro i j hi hj hij e;exact hn i j hi hj hij (by omega))
 go_region_held3 (λW=>(W.cell? ⟨s,0,none⟩=some (.pointer (some ⟨g,0,none⟩))/\W.cell? ⟨w.heap.size,1,none⟩=some (.slice o.jU o.ao.length o.ao.length))/\ah (λk=>k=g\/k=pb) w2 W) (first|exact VQ.out _ (ah.of (Below.refl _ _).drew)|exact VQ.out _ hb3.out) (first
  | (go_at_call 366;refine (Es g pb n t B _ _ _ (de o.ao) _ (QZ.out.later (Below.refl _ _).drew) (QL.out.later (Below.refl _ _).drew) T_.out RX.out RQ.out).mono ?_;rintro e w3 ⟨rfl,A3,b3⟩;have hb3:=ab ((ah.of (S:=λk=>k=g\/k=pb) (Below.refl w2.heap.size w2).drew).trans b3)))
 have WC:=ab A3
 clear A3 b3;go_wp2;go_ret;have hn2:¬(s=g\/s=pb):=λe=>e.elim hsg hsp
 have hall:ah (Sb s g pb m) w w3:=((ah.of PC.out).trans (PB.out.mono (λ_ h=>.inr (.inr (.inr h))))).trans (hb3.out.mono (λ_ h=>h.elim (λe=>.inr (.inl e)) (λe=>.inr (.inr (.inl e)))))
 refine⟨_,_,rfl,H.out.Dl ho WC.out ((H1.out.c0.but PB.out hsm).but hb3.out hn2) ((H1.out.c1.but PB.out hsm).but hb3.out hn2) ((H1.out.c2.but PB.out hsm).but hb3.out hn2) ((H1.out.c3.but PB.out hsm).but hb3.out hn2) (bC hb3.out WN.out (λe=>e.elim (λe=>hgm e.symm) (λe=>hpm e.symm))) hall,hall⟩
end Go.Proofs.YtffmodpgddecnaaGreatDoor.S
