import Derived.Test.YtffmodpgddecnaaGreatDoorZ30
set_option linter.unusedVariables false
set_option linter.unusedSimpArgs false
set_option maxRecDepth 100000
set_option maxHeartbeats 4000000
namespace Go.Proofs.YtffmodpgddecnaaGreatDoor.V
open Go.RowKit
open Go.Proofs.YtffmodpgddecnaaGreatDoor.H (aq Cp)
section
variable {w w':World}{H:Hd}{s s':aP}{d d':Nat->List K.Pu}{N:Nat->Prop}
structure Ev where
 id:Int
 vs:List Value
 len:Nat
 a:Option Addr
 cap:Nat
def Ev.c (o:Ev):List Value:=[.int .i64 o.id,.slice o.a o.len o.cap]
def xR (Q:List Ev):List Value:=Q.flatMap Ev.c
structure eU (w:World)(base:Nat)(E ty k:Nat)(a:Option Addr)(n cap:Nat)(Q:List Ev):Prop where
 row:Ow w base E 2 a n cap (xR Q)
 len:Q.length=n
 each:∀o∈Q,Ow w base ty k o.a o.len o.cap o.vs
 ap:Q.Pairwise (λo p=>∀j,aJ o.a j->¬aJ p.a j)
 top:∀o∈Q,∀j,aJ o.a j->¬aJ a j
variable {base E ty k:Nat}{a:Option Addr}{n cap:Nat}{Q:List Ev}
def eU.B (a:Option Addr)(Q:List Ev)(j:Nat):Prop:=aJ a j\/∃o∈Q,aJ o.a j
theorem eU.nil (w:World)(base E ty k:Nat):eU w base E ty k none 0 0 []:=⟨Ow.nil _ _ _ _,rfl,λo h=>(by cases h),List.Pairwise.nil,λo h=>(by cases h)⟩
theorem eU.but {S:Nat->Prop}(h:eU w base E ty k a n cap Q)(hb:ah S w w')(hn:∀j,eU.B a Q j->¬S j):eU w' base E ty k a n cap Q :=
 ⟨h.row.but hb (λj hj=>hn j (.inl hj)),h.len,λo ho=>(h.each o ho).but hb (λj hj=>hn j (.inr ⟨o,ho,hj⟩)),h.ap,h.top⟩
theorem eU.later (h:eU w base E ty k a n cap Q)(hb:Below w.heap.size w w'):eU w' base E ty k a n cap Q:=h.but (S:=λ_=>False) (ah.of hb) (λ_ _ h=>h)
theorem eU.mono (h:eU w base E ty k a n cap Q){b:Nat}(hb:b<=base):eU w b E ty k a n cap Q:=⟨h.row.mono hb,h.len,λo ho=>(h.each o ho).mono hb,h.ap,h.top⟩
theorem eU.bT (h:eU w base E ty k a n cap Q):∀j,eU.B a Q j->base<=j/\j<w.heap.size:=λj hj=>by
 rcases hj with hj|⟨o,ho,hj⟩
 ·exact h.row.bT j hj
 ·exact (h.each o ho).bT j hj
theorem eU.snoc (t:TypeId)(z:Value)(aB:Nat)(ht:Tryz.prog.underlying t=some (.slice E))(hinf:(Tryz.prog.info? E).map (λi=>(i.zero,i.size,i.bytes))=some (some z,2,aB))(hzs:z.cells.size=2)(hby:0<aB)(hby2:aB<=1024)
  {U U':World} (h:eU U base E ty k a n cap Q) (hb:base<=U.heap.size) (hU:Below U.heap.size U U') (o:Ev) (ho:Ow U' U.heap.size ty k o.a o.len o.cap o.vs) (hn:n<=2048) :
  ∃a' c' w3,(Builtin.append_ #[t,t] t #[.slice a n cap,.slice (some ⟨U'.heap.size,0,none⟩) 1 1]).run Tryz.prog (U'.alloc (Obj.cells o.c.toArray E))=.ok (.slice a' (n+1) c') w3/\eU w3 base E ty k a' (n+1) c' (Q++[o])/\ah (aJ a) U w3:=by
 have h':=h.later hU
 have hcr:=Cr.lit U' E o.c (λu hu=>by simp only [Ev.c,List.mem_cons,List.not_mem_nil,or_false] at hu;rcases hu with rfl|rfl<;>rfl)
 obtain⟨a',c',w3,hrun,hO3,hG0⟩:=er t E z 2 aB ht hinf hzs (by omega) hby (h'.row.later (ae U' (Obj.cells o.c.toArray E))) hcr (by have:=hU.size;simp;omega) (by
  have:(n+1)*aB<=2049*1024:=Nat.mul_le_mul (by omega) hby2
  omega)
 have hG:=hG0.pre (ae U' (Obj.cells o.c.toArray E))
 have hob:=λj hj=>ho.bT j hj
 have hna:∀j,aJ a j->¬aJ o.a j:=λj h1 h2=>by have:=(h.row.bT j h1).2;have:=(hob j h2).1;omega
 refine⟨a',c',w3,hrun,⟨?_,by simp [h.len],?_,?_,?_⟩,(ah.of hU).trans hG.but⟩
 ·have e:xR (Q++[o])=xR Q++o.c:=by simp [xR]
  rw [e];exact hO3
 ·intro p hp
  rcases List.mem_append.1 hp with hp|hp
  ·exact (h'.each p hp).but hG.but (λj hj hj2=>h.top p hp j hj hj2)
  ·rw [List.mem_singleton.1 hp]
   exact (ho.mono hb).but hG.but (λj hj hj2=>hna j hj2 hj)
 ·rw [List.pairwise_append]
  refine⟨h.ap,List.pairwise_singleton _ _,λp hp q hq j h1 h2=>?_⟩
  rw [List.mem_singleton.1 hq] at h2;have:=((h.each p hp).bT j h1).2
  have:=(hob j h2).1
  omega
 ·intro p hp j h1 h2
  rcases hG.on j h2 with h3|h3
  ·rcases List.mem_append.1 hp with hp|hp
   ·exact h.top p hp j h1 h3
   ·rw [List.mem_singleton.1 hp] at h1
    exact hna j h3 h1
  ·rcases List.mem_append.1 hp with hp|hp
   ·have:=((h.each p hp).bT j h1).2
    have:=hU.size
    omega
   ·rw [List.mem_singleton.1 hp] at h1
    have:=(hob j h1).2
    omega
theorem Hc:(Tryz.prog.info? 111).map (λi=>(i.zero,i.size,i.bytes))=some (some (.agg #[.int .i64 0,.slice none 0 0]),2,32):=by kernel_rfl
theorem Hj:(Tryz.prog.info? 113).map (λi=>(i.zero,i.size,i.bytes))=some (some (.agg #[.int .i64 0,.slice none 0 0]),2,32):=by kernel_rfl
end
section
variable {w w':World}{H:Hd}{s s':aP}{d d':Nat->List K.Pu}{N:Nat->Prop}
def Ev.key (o:Ev):Int×List Value×Nat:=(o.id,o.vs,o.len)
def FG (v:Int×List Nat):Int×List Value×Nat:=(v.1,S.bG v.2,v.2.length)
theorem JY (h:aI w H s d N):s.V.length<=64/\(∀v∈s.V,1<=v.1/\v.1<s.nx/\S.bp v.1/\S.xS s.V v.1=some v.2)/\s.V.Pairwise (λa b=>a.1<b.1):=by
 obtain⟨Os,⟨t,B,hs⟩,hv⟩:=h.st
 have hr:s.V.Pairwise (λa b=>a.1<b.1):=by
  rw [<-hv];unfold S.vw;rw [List.pairwise_map];exact hs.iE
 refine⟨by rw [<-hv,S.j4];exact Nat.le_trans hs.rm.1 hs.rm.2,λv hm=>?_,hr⟩
 have hm':=hm
 rw [<-hv] at hm';obtain⟨o,ho,rfl⟩:=List.mem_map.1 hm'
 have:=hs.ids o ho
 have:=hs.Hq
 refine⟨by simp only [];omega,by simp only [];omega,by unfold S.bp;simp only [];omega,?_⟩
 simp only [] at hm ⊢
 unfold S.xS;obtain⟨i,hi,he⟩:=List.getElem_of_mem hm
 have key:s.V.find? (λp=>decide (p.1=o.id))=some (o.id,o.data):=by
  rw [List.find?_eq_some_iff_getElem];refine⟨by simp,i,hi,he,λj hj=>?_⟩
  have:=List.pairwise_iff_getElem.1 hr j i (by omega) hi hj
  rw [he] at this;simp only [] at this;simp
  omega
 rw [key];rfl
def I4 (w1:World)(V:List (Int×List Nat))(v3 v12:Value)(w':World):Prop :=
 ∃(i c:Nat) (a:Option Addr) (Q:List Ev),v3=.slice a i c/\v12=.int .i64 (i:Int)/\i<=V.length/\eU w' w1.heap.size 111 5 1 a i c Q/\Q.map Ev.key=(V.take i).map FG/\Below w1.heap.size w1 w'
theorem qZ (h:aI w H s d N) :
  Calls Tryz.prog 50 #[.pointer (some ⟨H.kb,0,none⟩)] w λe w'=>∃a c Q,e=.returned (.slice a s.V.length c)/\eU w' w.heap.size 111 5 1 a s.V.length c Q/\Q.map Ev.key=s.V.map FG/\Below w.heap.size w w':=by
 obtain⟨hV1,hV2,hV3⟩:=JY h
 have HI:=ab (ID h)
 have x11:=h.kb 11 _ rfl
 have QY:Hid (∀U,Below w.heap.size w U->∀v∈s.V,Calls Tryz.prog 112 #[.pointer (some ⟨H.kb,0,none⟩),.int .i64 v.1] U λe w'=>∃a cap,e=.returned (.slice a v.2.length cap)/\Own w' U.heap.size 5 a v.2.length cap (S.bG v.2)/\Below U.heap.size U w'):=λU hU v hv=>jS (h.later hU) (hV2 v hv).2.2.2 (hV2 v hv).2.2.1
 generalize s.V=V at *
 obtain⟨n,hn⟩:∃n,n=V.length:=⟨_,rfl⟩
 have HL:=ab hn
 rw [<-hn] at HI hV1;rw [<-hn];clear h hV2 hV3 hn;go_enter Tryz.func50,Tryz.ntmps50
 go_upto_region 3 with (first|(go_at_call 111;refine HI.out.mono ?_;rintro e w1 ⟨ai,ci,rfl,hoi,hb1⟩;have PC:=ab hb1;have Sa:=ab hoi;clear hb1 hoi))
 clear x11;go_loopw [3,12] (I4 w1 V) (λ_ v _=>n - S.fe v)
 case atStart=>exact⟨0,0,none,[],rfl,rfl,Nat.zero_le _,eU.nil _ _ _ _ _,rfl,Below.refl _ _⟩
 case round =>
  obtain⟨i,c,a,Q,rfl,rfl,hi,hT,hQ,hB⟩:=hrel
  rw [<-HL.out] at hi;have TH:=ab hi
  have HT:=ab hT
  have HQ:=ab hQ
  have HB:=ab hB
  clear hT hQ hB hi;by_cases hlt:i<n
  ·have hd:decide ((i:Int)<(n:Int))=true:=decide_eq_true (by omega)
   obtain⟨v,hv⟩:∃v,V[i]?=some v:=⟨_,List.getElem?_eq_getElem (by have:=HL.out;omega)⟩
   obtain⟨g,rfl⟩:=Sa.out.form (by omega)
   have y:=(Sa.out.later HB.out).read.cells _ rfl i (.int .i64 v.1) (by simp [ints,hv])
   rw [aQ] at y;have HV:=ab hv
   clear hv;go_upto_region 5 with fail
   have Qc:=ab (QY.out wr (aa PC.out HB.out) v (List.mem_of_getElem? HV.out))
   go_wp2_with (first|(go_at_call 112;refine Qc.out.mono ?_;rintro e w6 ⟨a6,c6,rfl,ho6,hb6⟩;have hsn:=eU.snoc 48 _ 32 Tryz.underlying48 Hc rfl (by decide) (by decide) HT.out HB.out.size hb6 ⟨v.1,S.bG v.2,v.2.length,a6,c6⟩ ho6.row (by omega);obtain⟨a',c',w7,hrun,hT7,hB7⟩:=hsn;simp only [Ev.c] at hrun;have PD:=ab hrun;have UZ:=ab hT7;have RW:=ab hB7;clear hrun hT7 hB7 ho6 hb6)|(at_builtin;refine al rfl _ _ 48 rfl _ _ rfl rfl _ w7 PD.out ?_))
   refine⟨⟨i+1,c',a',_,rfl,rfl,by have:=HL.out;omega,UZ.out,?_,ah.below HB.out RW.out (λj hj=>(HT.out.row.bT j hj).1)⟩,by simp [S.fe];omega⟩
   rw [List.map_append,HQ.out,List.take_add_one,HV.out];simp [FG,Ev.key]
  ·obtain rfl:i=n:=by have:=TH.out;omega
   have hd:decide ((i:Int)<(i:Int))=false:=by simp
   go_wp2;have hq:=HQ.out
   rw [HL.out,List.take_length] at hq;exact bodyPost_ret (v:=.slice a i c) (by simp [results,Tryz.results50,go_sem]) rfl ⟨a,c,Q,rfl,HT.out.mono PC.out.size,hq,aa PC.out HB.out⟩
end
section
variable {w w':World}{H:Hd}{s s':aP}{d d':Nat->List K.Pu}{N:Nat->Prop}
def JG (D:Int->List Cp)(i:Int):Int×List Value×Nat:=(i,aF (D i),(D i).length)
def IU (w1:World)(P:List Int)(D:Int->List Cp)(v3 v12:Value)(w':World):Prop :=
 ∃(i c:Nat) (a:Option Addr) (Q:List Ev),v3=.slice a i c/\v12=.int .i64 (i:Int)/\i<=P.length/\eU w' w1.heap.size 113 37 3 a i c Q/\Q.map Ev.key=(P.take i).map (JG D)/\Below w1.heap.size w1 w'
theorem mW (h:aI w H s d N)(hf:KF H.p s) :
  Calls Tryz.prog 52 #[.pointer (some ⟨H.kb,0,none⟩)] w λe w'=>∃a c Q,e=.returned (.slice a s.P.length c)/\eU w' w.heap.size 113 37 3 a s.P.length c Q/\Q.map Ev.key=s.P.map (JG s.D)/\Below w.heap.size w w':=by
 have hP1:s.P.length<=32:=by have:=hf.iv.len;have:=hf.iv.m2;omega
 have HI:=ab (AX h hf.iv)
 have x14:=h.kb 14 _ rfl
 obtain⟨G,pa,cap,df,hli,-⟩:=h.li
 have HX:Hid (∀U,Below w.heap.size w U->U.cell? ⟨H.kb,15,none⟩=some (.map (some H.lg))/\∀i∈s.P,(Instr.lookup 97 (.map (some H.lg)) (.int .i64 i) false).run Tryz.prog U=.ok (.pointer (some ⟨G i,0,none⟩)) U):=λU hU=>by
  refine⟨(h.later hU).kb 15 _ rfl,λi hi=>?_⟩
  exact hli.mw (ah.of (S:=λ_=>False) hU) (λh=>h) (by rw [hf.ks];exact hi) (hf.pA hi)
 have Qg:Hid (∀U,Below w.heap.size w U->∀i∈s.P,Calls Tryz.prog 115 #[.pointer (some ⟨G i,0,none⟩)] U λe w'=>∃p c,e=.returned (.slice p (s.D i).length c)/\Ow w' U.heap.size 37 3 p (s.D i).length c (aF (s.D i))/\Below U.heap.size U w'):=λU hU i hi=>M.gW ((hli.each i (by rw [hf.ks];exact hi)).later hU) (hf.dK hi)
 generalize s.P=P at *
 generalize s.D=D at *
 obtain⟨n,hn⟩:∃n,n=P.length:=⟨_,rfl⟩
 have HL:=ab hn
 rw [<-hn] at HI hP1;rw [<-hn];clear h hf hn hli;go_enter Tryz.func52,Tryz.ntmps52
 go_upto_region 3 with (first|(go_at_call 114;refine HI.out.mono ?_;rintro e w1 ⟨ai,ci,rfl,hoi,hb1⟩;have PC:=ab hb1;have Sa:=ab hoi;clear hb1 hoi))
 clear x14;go_loopw [3,12] (IU w1 P D) (λ_ v _=>n - S.fe v)
 case atStart=>exact⟨0,0,none,[],rfl,rfl,Nat.zero_le _,eU.nil _ _ _ _ _,rfl,Below.refl _ _⟩
 case round =>
  obtain⟨i,c,a,Q,rfl,rfl,hi,hT,hQ,hB⟩:=hrel
  rw [<-HL.out] at hi;have TH:=ab hi
  have HT:=ab hT
  have HQ:=ab hQ
  have HB:=ab hB
  clear hT hQ hB hi;by_cases hlt:i<n
  ·have hd:decide ((i:Int)<(n:Int))=true:=decide_eq_true (by omega)
   obtain⟨v,hv⟩:∃v,P[i]?=some v:=⟨_,List.getElem?_eq_getElem (by have:=HL.out;omega)⟩
   obtain⟨g,rfl⟩:=Sa.out.form (by omega)
   have y:=(Sa.out.later HB.out).read.cells _ rfl i (.int .i64 v) (by simp [ints,hv])
   rw [aQ] at y;have HV:=ab hv
   clear hv;go_upto_region 5 with fail
   have Qc:=ab (Qg.out wr (aa PC.out HB.out) v (List.mem_of_getElem? HV.out))
   have hx:=HX.out wr (aa PC.out HB.out)
   have x15:=hx.1
   have xl:=hx.2 v (List.mem_of_getElem? HV.out)
   clear hx;go_wp2_with (first|(go_at_call 115;refine Qc.out.mono ?_;rintro e w6 ⟨a6,c6,rfl,ho6,hb6⟩;have hsn:=eU.snoc 50 _ 32 Tryz.underlying50 Hj rfl (by decide) (by decide) HT.out HB.out.size hb6 ⟨v,aF (D v),(D v).length,a6,c6⟩ ho6 (by omega);obtain⟨a',c',w7,hrun,hT7,hB7⟩:=hsn;simp only [Ev.c] at hrun;have PD:=ab hrun;have UZ:=ab hT7;have RW:=ab hB7;clear hrun hT7 hB7 ho6 hb6)|(at_builtin;refine al rfl _ _ 50 rfl _ _ rfl rfl _ w7 PD.out ?_))
   refine⟨⟨i+1,c',a',_,rfl,rfl,by have:=HL.out;omega,UZ.out,?_,ah.below HB.out RW.out (λj hj=>(HT.out.row.bT j hj).1)⟩,by simp [S.fe];omega⟩
   rw [List.map_append,HQ.out,List.take_add_one,HV.out];simp [JG,Ev.key]
  ·obtain rfl:i=n:=by have:=TH.out;omega
   have hd:decide ((i:Int)<(i:Int))=false:=by simp
   go_wp2;have hq:=HQ.out
   rw [HL.out,List.take_length] at hq;exact bodyPost_ret (v:=.slice a i c) (by simp [results,Tryz.results52,go_sem]) rfl ⟨a,c,Q,rfl,HT.out.mono PC.out.size,hq,aa PC.out HB.out⟩
end
section
variable {w w':World}{H:Hd}{s s':aP}{d d':Nat->List K.Pu}{N:Nat->Prop}
theorem fC:∀(M:List Tok) (j:Nat) (t:Tok),M[j]?=some t->∀k,k<5->(dJ M)[j*5+k]?=(fj t)[k]?
 | [],j,t,h,k,hk=>by simp at h
 | x::M,0,t,h,k,hk=>by
  simp only [List.getElem?_cons_zero,Option.some.injEq] at h;subst h;simp only [dJ,List.flatMap_cons];rw [List.getElem?_append_left (by simp [fj];omega)]
  simp
 | x::M,j+1,t,h,k,hk=>by
  rw [List.getElem?_cons_succ] at h;have:=fC M j t h k hk
  simp only [dJ,List.flatMap_cons] at this ⊢
  rw [List.getElem?_append_right (by simp [fj];omega),<-this]
  congr 1
  simp [fj];omega
def uM (b:Nat)(t:Tok):Tok:=(t.1,t.2.1,if t.2.2=-1 then -1 else t.2.2+(b:Int))
def jH (mo:Nat)(X:List Tk)(l:Fo)(acc:List Tok)(id:Int):List Tok:=acc++(ov mo X l id).map (uM acc.length)
def qY (mo:Nat)(X:List Tk)(l:Fo)(ids:List Int):List Tok:=ids.foldl (jH mo X l) []
theorem Ac (mo:Nat)(X:List Tk)(l:Fo)(ids:List Int)(i:Int):qY mo X l (ids++[i])=jH mo X l (qY mo X l ids) i:=by unfold qY;rw [List.foldl_append];rfl
theorem vq {m:Nat}{X:List Tk}{l:Fo}(h:Inv m X l)(o:Int):(ov m X l o).length<=m:=by
 unfold ov;split
 ·rw [eV];exact l9 h.ok _ _
 ·simp
theorem uw {m:Nat}{X:List Tk}{l:Fo}(h:Inv m X l):∀ids:List Int,(qY m X l ids).length<=ids.length*m:=by
 intro ids;unfold qY;suffices ∀(ids:List Int) (acc:List Tok),(ids.foldl (jH m X l) acc).length<=acc.length+ids.length*m by simpa using this ids []
 intro ids;induction ids with
 | nil=>simp
 | cons i ids ih =>
  intro acc;rw [List.foldl_cons];refine Nat.le_trans (ih _) ?_
  have:=vq h i
  simp only [jH,List.length_append,List.length_map,List.length_cons,Nat.add_mul,Nat.one_mul];omega
theorem Cj {m:Nat}{X:List Tk}{l:Fo}(h:Inv m X l)(o:Int){j:Nat}{t:Tok}(ht:(ov m X l o)[j]?=some t):t.2.2=-1\/(0<=t.2.2/\t.2.2<(j:Int)):=by
 unfold ov at ht;split at ht
 ·rename_i r hr
  unfold rootOf at hr;have hm:=List.find?_some hr
  simp only [decide_eq_true_eq] at hm;have hl:=eV X l m (G true l r)
  have hj:=(List.getElem?_eq_some_iff.1 ht).1
  have sp:=(qJ (X:=X) h.ok hm.1 _ (Nat.le_refl _)).2 j ((G true l r)[j]'(by omega)) (by omega) (List.getElem?_eq_getElem (by omega))
  rw [List.take_length] at sp;obtain⟨q,h1,h2⟩:=sp
  rw [ht] at h1;cases h1
  rcases h2 with ⟨_,h2,_⟩|⟨_,p,h3,h4,_⟩
  ·exact .inl h2
  ·exact .inr ⟨by simp only [];omega,by simp only [];omega⟩
 ·simp at ht
theorem Ii {U U':World}{base:Nat}{a:Option Addr}{n c:Nat}{L:List Value}(hO:Ow U base 74 5 a n c L)(hb:base<=U.heap.size)(hU:Below U.heap.size U U')(x:Tok)(hn:n<=1048576) :
  ∃a' c' w3,(Builtin.append_ #[49,49] 49 #[.slice a n c,.slice (some ⟨U'.heap.size,0,none⟩) 1 1]).run Tryz.prog (U'.alloc (Obj.cells (fj x).toArray 74))=.ok (.slice a' (n+1) c') w3/\Ow w3 base 74 5 a' (n+1) c' (L++fj x)/\ah (aJ a) U w3/\(∀j,aJ a' j->aJ a j\/U.heap.size<=j):=by
 have hcr:=Cr.lit U' 74 (fj x) (λu hu=>by simp only [fj,List.mem_cons,List.not_mem_nil,or_false] at hu;rcases hu with rfl|rfl|rfl|rfl|rfl<;>rfl)
 obtain⟨a',c',w3,hrun,hO3,hG0⟩:=er 49 74 _ 5 40 Tryz.underlying49 zL rfl (by omega) (by omega) ((hO.later hU).later (ae U' (Obj.cells (fj x).toArray 74))) hcr (by have:=hU.size;simp;omega) (by omega)
 have hG:=hG0.pre (ae U' (Obj.cells (fj x).toArray 74))
 refine⟨a',c',w3,hrun,hO3,(ah.of hU).trans hG.but,λj hj=>?_⟩
 rcases hG.on j hj with h1|h1
 ·exact .inl h1
 ·exact .inr (Nat.le_trans hU.size h1)
theorem KW (h:aI w H s d N)(o:Int):Calls Tryz.prog 113 #[.pointer (some ⟨H.A.g,0,none⟩),.int .i64 o] w λe w'=>∃a c,e=.returned (.slice a (ov H.mo s.X s.l o).length c)/\Ow w' w.heap.size 74 5 a (ov H.mo s.X s.l o).length c (dJ (ov H.mo s.X s.l o))/\Below w.heap.size w w':=DL h.cat o
def H4 (w1:World)(mo:Nat)(X:List Tk)(l:Fo)(ids:List Int)(v3 v15:Value)(w':World):Prop :=
 ∃(i c:Nat) (a:Option Addr) (L:List Tok),v3=.slice a L.length c/\v15=.int .i64 (i:Int)/\i<=ids.length/\L=qY mo X l (ids.take i)/\Ow w' w1.heap.size 74 5 a L.length c (dJ L)/\Below w1.heap.size w1 w'
def Ir (w1 w5 w6:World)(L M:List Tok)(v3 v28:Value)(w':World):Prop :=
 ∃(j c:Nat) (a:Option Addr),v3=.slice a (L.length+j) c/\v28=.int .i64 (j:Int)/\j<=M.length/\Ow w' w1.heap.size 74 5 a (L.length+j) c (dJ (L++(M.take j).map (uM L.length)))/\(∀k,aJ a k->k<w5.heap.size\/w6.heap.size<=k)/\ah (λk=>w1.heap.size<=k/\k<w5.heap.size) w6 w'
theorem uo (h:aI w H s d N)(hv:Inv H.mo s.X s.l) :
  Calls Tryz.prog 51 #[.pointer (some ⟨H.kb,0,none⟩)] w λe w'=>∃a c,e=.returned (.slice a (qY H.mo s.X s.l (s.V.map Prod.fst)).length c)/\Ow w' w.heap.size 74 5 a (qY H.mo s.X s.l (s.V.map Prod.fst)).length c (dJ (qY H.mo s.X s.l (s.V.map Prod.fst)))/\Below w.heap.size w w':=by
 obtain⟨hV1,hV2,hV3⟩:=JY h
 have HI:=ab (ID h)
 have x11:=h.kb 11 _ rfl
 have HX:Hid (∀U,Below w.heap.size w U->U.cell? ⟨H.kb,12,none⟩=some (.pointer (some ⟨H.A.g,0,none⟩))):=λU hU=>(h.later hU).kb 12 _ rfl
 have W_:=ab (λ(U:World) (hU:Below w.heap.size w U) (o:Int)=>KW (h.later hU) o)
 have HM:Hid (1<=H.mo/\H.mo<=256):=h.mM
 have HV:=ab hv
 obtain⟨ids,hids⟩:∃ids,ids=s.V.map Prod.fst:=⟨_,rfl⟩
 have hil:ids.length=s.V.length:=by rw [hids];simp
 rw [<-hids] at HI ⊢
 rw [<-hil] at HI hV1;obtain⟨n,hn⟩:∃n,n=ids.length:=⟨_,rfl⟩
 have HL:=ab hn
 rw [<-hn] at HI hV1;clear h hV2 hV3 hn hv hil hids;go_enter Tryz.func51,Tryz.ntmps51
 go_upto_region 3 with (first|(go_at_call 111;refine HI.out.mono ?_;rintro e w1 ⟨ai,ci,rfl,hoi,hb1⟩;have PC:=ab hb1;have Sa:=ab hoi;clear hb1 hoi))
 clear x11;go_loopw [3,15] (H4 w1 H.mo s.X s.l ids) (λ_ v _=>n - S.fe v)
 case atStart=>exact⟨0,0,none,[],rfl,rfl,Nat.zero_le _,rfl,Ow.nil _ _ _ _,Below.refl _ _⟩
 case round =>
  obtain⟨i,c,a,L,rfl,rfl,hi,hL,hO,hB⟩:=hrel
  rw [<-HL.out] at hi;have TH:=ab hi
  have HO:=ab hO
  have UO:=ab hL
  have HB:=ab hB
  clear hO hL hB hi;by_cases hlt:i<n
  ·have hd:decide ((i:Int)<(n:Int))=true:=decide_eq_true (by omega)
   have hLb:L.length<=16384:=by
    have h1:=uw HV.out (ids.take i)
    rw [<-UO.out,List.length_take] at h1;have h2:min i ids.length*H.mo<=64*256:=Nat.mul_le_mul (by omega) HM.out.2
    omega
   obtain⟨id,hid_⟩:∃id,ids[i]?=some id:=⟨_,List.getElem?_eq_getElem (by have:=HL.out;omega)⟩
   obtain⟨g,rfl⟩:=Sa.out.form (by omega)
   have y:=(Sa.out.later HB.out).read.cells _ rfl i (.int .i64 id) (by simp [ints,hid_])
   rw [aQ] at y;have WH:=ab hid_
   clear hid_;obtain⟨w5,rfl⟩:∃w5,w5=wr:=⟨_,rfl⟩
   obtain⟨M,hM⟩:∃M,M=ov H.mo s.X s.l id:=⟨_,rfl⟩
   have hMl:M.length<=256:=by rw [hM];exact Nat.le_trans (vq HV.out id) HM.out.2
   have U4:=ab (W_.out w5 (aa PC.out HB.out) id)
   rw [<-hM] at U4;have W9:=ab hM
   have Wn:Hid (∀(j:Nat) t,M[j]?=some t->t.2.2=-1\/(0<=t.2.2/\t.2.2<(j:Int))):=λj t ht=>by rw [hM] at ht;exact Cj HV.out id ht
   obtain⟨ml,hml⟩:∃ml,ml=M.length:=⟨_,rfl⟩
   have SL:=ab hml
   obtain⟨ll,hll⟩:∃ll,ll=L.length:=⟨_,rfl⟩
   have SP:=ab hll
   rw [<-hml] at U4 hMl;rw [<-hll] at HO hLb;rw [<-hll];have x12:=HX.out w5 (aa PC.out HB.out)
   clear hM hml hll;go_upto_region 7 with (first|(go_at_call 113;refine U4.out.mono ?_;rintro e w6 ⟨am,cm,rfl,hom,hb6⟩;have VF:=ab hom;have P7:=ab hb6;clear hom hb6))
   clear x12 y;go_loopw [3,28] (Ir w1 w5 w6 L M) (λ_ v _=>ml - S.fe v)
   case atStart=>exact⟨0,c,a,by rw [SP.out];rfl,rfl,Nat.zero_le _,by rw [<-SP.out];simpa using HO.out.later P7.out,λk hk=>.inl (HO.out.bT k hk).2,ah.refl _ _⟩
   case round =>
    obtain⟨j,c2,a2,rfl,rfl,hj,hO2,hBl,hBt⟩:=hrel
    rw [<-SL.out] at hj;have Wu:=ab hj
    have PS:=ab hO2
    have P3:=ab hBl
    have PH:=ab hBt
    clear hj hO2 hBl hBt;by_cases hjt:j<ml
    ·have hd2:decide ((j:Int)<(ml:Int))=true:=decide_eq_true (by omega)
     obtain⟨t,ht⟩:∃t,M[j]?=some t:=⟨_,List.getElem?_eq_getElem (by have:=SL.out;omega)⟩
     have hpa:=Wn.out j t ht
     have hOr:=VF.out.but PH.out (λk hk e=>by have:=(VF.out.bT k hk).1;omega)
     obtain⟨gm,rfl,hat⟩:=Ow.at_ hOr (by omega)
     obtain⟨⟨tb,th,tl⟩,tr,tq⟩:=t
     have hta:=fC M j _ ht
     have x0:=hat (j*5) _ (hta 0 (by omega))
     have x1:=hat (j*5+1) _ (hta 1 (by omega))
     have x2:=hat (j*5+2) _ (hta 2 (by omega))
     have x3:=hat (j*5+3) _ (hta 3 (by omega))
     have x4:=hat (j*5+4) _ (hta 4 (by omega))
     simp only [] at x0 x1 x2 x3 x4 hpa;have Vw:=ab ht
     have Wg:=ab hpa
     clear hat hta ht hOr hpa;obtain⟨w2,hw2⟩:∃w2,w2=wr.alloc (Obj.cells #[.int .i64 tb,.int .u64 (th:Int),.int .u64 (tl:Int),.int .i64 tr,.int .i64 tq] 74):=⟨_,rfl⟩
     have PB:Hid (Below wr.heap.size wr w2):=by rw [hw2];exact ae _ _
     go_upto_region 9 with fail
     rw [<-hw2];have y0:w2.cell? ⟨wr.heap.size,0,none⟩=some (.int .i64 tb):=by rw [hw2];simp [go_sem]
     have y1:w2.cell? ⟨wr.heap.size,1,none⟩=some (.int .u64 (th:Int)):=by rw [hw2];simp [go_sem]
     have y2:w2.cell? ⟨wr.heap.size,2,none⟩=some (.int .u64 (tl:Int)):=by rw [hw2];simp [go_sem]
     have y3:w2.cell? ⟨wr.heap.size,3,none⟩=some (.int .i64 tr):=by rw [hw2];simp [go_sem]
     have y4:w2.cell? ⟨wr.heap.size,4,none⟩=some (.int .i64 tq):=by rw [hw2];simp [go_sem]
     have y5:w2.frozen? ⟨wr.heap.size,4,none⟩=false:=by rw [hw2];simp [go_sem]
     clear hw2 x0 x1 x2 x3 x4;by_cases hq:tq=-1
     ·subst hq
      obtain⟨a',c',w7,hrun,hO7,hB7,hA7⟩:=Ii PS.out (by have:=PH.out.size;have:=P7.out.size;have:=HB.out.size;omega) PB.out ((tb,th,tl),tr,-1) (by have:=SP.out;omega)
      simp only [fj] at hrun;have PD:=ab hrun
      have Rf:=ab hO7
      have RW:=ab hB7
      have Uh:=ab hA7
      clear hrun hO7 hB7 hA7;go_wp2_with (first|(at_builtin;refine al rfl _ _ 49 rfl _ _ rfl rfl _ w7 PD.out ?_))
      have hsz:=PH.out.size
      refine⟨⟨j+1,c',a',rfl,rfl,by have:=SL.out;omega,?_,λk hk=>?_,PH.out.comp RW.out (λk hk=>?_)⟩,by simp [S.fe];omega⟩
      ·have e:dJ (L++(M.take (j+1)).map (uM L.length))=dJ (L++(M.take j).map (uM L.length))++fj ((tb,th,tl),tr,-1):=by
        rw [List.take_add_one,Vw.out,List.map_append,<-List.append_assoc];simp only [Option.toList,List.map_cons,List.map_nil];rw [j1];simp [uM,SP.out]
       rw [e];exact Rf.out
      ·rcases Uh.out k hk with h1|h1
       ·exact P3.out k h1
       ·exact .inr (by omega)
      ·rcases P3.out k hk with h1|h1
       ·exact .inl ⟨(PS.out.bT k hk).1,h1⟩
       ·exact .inr h1
     ·have hq1:0<=tq/\tq<256:=by rcases Wg.out with h|h<;>omega
      obtain⟨hq2,hq3⟩:=hq1
      have hqd:decide (tq=-1)=false:=decide_eq_false hq
      go_upto_region 11 with fail
      obtain⟨w3,hw3⟩:∃w3,w3=w2.setCell ⟨wr.heap.size,4,none⟩ (.int .i64 (tq+(ll:Int))):=⟨_,rfl⟩
      have PE:Hid (Below wr.heap.size wr w3):=by
       rw [hw3];exact ah.below PB.out (ah.own (g:=wr.heap.size) (ah.refl _ _) 4 _) (λk e=>by omega)
      have z0:w3.cell? ⟨wr.heap.size,0,none⟩=some (.int .i64 tb):=by rw [hw3];simp [go_sem,y0]
      have z1:w3.cell? ⟨wr.heap.size,1,none⟩=some (.int .u64 (th:Int)):=by rw [hw3];simp [go_sem,y1]
      have z2:w3.cell? ⟨wr.heap.size,2,none⟩=some (.int .u64 (tl:Int)):=by rw [hw3];simp [go_sem,y2]
      have z3:w3.cell? ⟨wr.heap.size,3,none⟩=some (.int .i64 tr):=by rw [hw3];simp [go_sem,y3]
      have z4:w3.cell? ⟨wr.heap.size,4,none⟩=some (.int .i64 (tq+(ll:Int))):=by rw [hw3];simp [go_sem,y4,y5]
      rw [<-hw3];clear hw3 y0 y1 y2 y3 y4 y5;obtain⟨a',c',w7,hrun,hO7,hB7,hA7⟩:=Ii PS.out (by have:=PH.out.size;have:=P7.out.size;have:=HB.out.size;omega) PE.out ((tb,th,tl),tr,tq+(ll:Int)) (by have:=SP.out;omega)
      simp only [fj] at hrun;have PD:=ab hrun
      have Rf:=ab hO7
      have RW:=ab hB7
      have Uh:=ab hA7
      clear hrun hO7 hB7 hA7;go_wp2_with (first|(at_builtin;refine al rfl _ _ 49 rfl _ _ rfl rfl _ w7 PD.out ?_))
      have hsz:=PH.out.size
      refine⟨⟨j+1,c',a',rfl,rfl,by have:=SL.out;omega,?_,λk hk=>?_,PH.out.comp RW.out (λk hk=>?_)⟩,by simp [S.fe];omega⟩
      ·have e:dJ (L++(M.take (j+1)).map (uM L.length))=dJ (L++(M.take j).map (uM L.length))++fj ((tb,th,tl),tr,tq+(ll:Int)):=by
        rw [List.take_add_one,Vw.out,List.map_append,<-List.append_assoc];simp only [Option.toList,List.map_cons,List.map_nil];rw [j1];simp [uM,hq,SP.out]
       rw [e];exact Rf.out
      ·rcases Uh.out k hk with h1|h1
       ·exact P3.out k h1
       ·exact .inr (by omega)
      ·rcases P3.out k hk with h1|h1
       ·exact .inl ⟨(PS.out.bT k hk).1,h1⟩
       ·exact .inr h1
    ·obtain rfl:j=ml:=by have:=Wu.out;omega
     have hd2:decide ((j:Int)<(j:Int))=false:=by simp
     go_wp2;have hL':L++M.map (uM L.length)=qY H.mo s.X s.l (ids.take (i+1)):=by
      rw [List.take_add_one,WH.out];show _=qY _ _ _ (ids.take i++[id])
      rw [Ac,<-UO.out,jH,<-W9.out]
     have hO:=PS.out
     rw [SL.out,List.take_length] at hO;refine⟨⟨i+1,c2,a2,L++M.map (uM L.length),by simp [SL.out],rfl,by have:=HL.out;omega,hL',by simpa using hO,ah.below (aa HB.out P7.out) PH.out (λk hk=>hk.1)⟩,by simp [S.fe];omega⟩
  ·obtain rfl:i=n:=by have:=TH.out;omega
   have hd:decide ((i:Int)<(i:Int))=false:=by simp
   go_wp2;have hq:=UO.out
   rw [HL.out,List.take_length] at hq;rw [<-hq];exact bodyPost_ret (v:=.slice a L.length c) (by simp [results,Tryz.results51,go_sem]) rfl ⟨a,c,rfl,HO.out.mono PC.out.size,aa PC.out HB.out⟩
end
end Go.Proofs.YtffmodpgddecnaaGreatDoor.V
namespace Go.Proofs.YtffmodpgddecnaaGreatDoor.V
open Go.RowKit
open Go.Proofs.YtffmodpgddecnaaGreatDoor.H (aq Cp)
open Go.Proofs.YtffmodpgddecnaaGreatDoor.M (ba)
section
variable {w w':World}{H:Hd}{s s':aP}{d d':Nat->List K.Pu}{N:Nat->Prop}
structure Ps where
 O:List (Int×List Nat)
 T:List Tok
 P:List (Int×List Cp)
 nx:Int
 px:Int
 t:Int
def eh (mo:Nat)(s:aP):Ps:=⟨s.V,qY mo s.X s.l (s.V.map Prod.fst),s.P.map (λi=>(i,s.D i)),s.nx,s.px,(s.t:Int)⟩
def Hu (x:Int×List Cp):Int×List Value×Nat:=(x.1,aF x.2,x.2.length)
abbrev Ih (a1:Option Addr)(n1 c1:Nat)(a2:Option Addr)(n2 c2:Nat)(a3:Option Addr)(n3 c3:Nat)(x y z:Int):Value:=.agg #[.slice a1 n1 c1,.slice a2 n2 c2,.slice a3 n3 c3,.int .i64 x,.int .i64 y,.int .i64 z]
def stM (a1:Option Addr)(n1 c1:Nat)(a2:Option Addr)(n2 c2:Nat)(a3:Option Addr)(n3 c3:Nat)(x y z:Int):List Value:=[.slice a1 n1 c1,.slice a2 n2 c2,.slice a3 n3 c3,.int .i64 x,.int .i64 y,.int .i64 z]
structure dL (w:World)(base:Nat)(p:Ps)(a1:Option Addr)(c1:Nat)(Q1:List Ev)(a2:Option Addr)(c2:Nat)(a3:Option Addr)(c3:Nat)(Q3:List Ev):Prop where
 os:eU w base 111 5 1 a1 p.O.length c1 Q1
 ok:Q1.map Ev.key=p.O.map FG
 ts:Ow w base 74 5 a2 p.T.length c2 (dJ p.T)
 ps:eU w base 113 37 3 a3 p.P.length c3 Q3
 pk:Q3.map Ev.key=p.P.map Hu
 Kx:∀j,eU.B a1 Q1 j->¬aJ a2 j
 KA:∀j,eU.B a1 Q1 j->¬eU.B a3 Q3 j
 Kz:∀j,aJ a2 j->¬eU.B a3 Q3 j
abbrev z53:Obj:=.cells #[.slice none 0 0,.slice none 0 0,.slice none 0 0,.int .i64 0,.int .i64 0,.int .i64 0] 52
theorem Ge:(Tryz.prog.info? 52).map (·.size)=some 6:=by kernel_rfl
theorem Zr.Jn (w:World):Zr (w.alloc z53) w.heap.size:=(R.Bx.new w [.slice none 0 0,.slice none 0 0,.slice none 0 0,.int .i64 0,.int .i64 0,.int .i64 0] 52).there
theorem Zr.K5 {b:Nat}{M:List Value}(h:Zr w b)(hl:M.length=6)(h1:∀v∈M,v.oneCell'=true):(Instr.storeAt 52 (.pointer (some ⟨b,0,none⟩)) (.agg M.toArray)).run Tryz.prog w=.ok () (w.setCells b 0 M):=by
 have:=R.xP h hl h1
 simp [Instr.storeAt,storeVar,Instr.sureAddr,Value.cells,hl,this,Result.andThen]
theorem Zr.JS {b:Nat}(h:Zr w b)(a1:Option Addr)(n1 c1:Nat)(a2:Option Addr)(n2 c2:Nat)(a3:Option Addr)(n3 c3:Nat)(x y z:Int):(Instr.storeAt 52 (.pointer (some ⟨b,0,none⟩)) (Ih a1 n1 c1 a2 n2 c2 a3 n3 c3 x y z)).run Tryz.prog w=.ok () (w.setCells b 0 (stM a1 n1 c1 a2 n2 c2 a3 n3 c3 x y z)):=h.K5 (M:=stM a1 n1 c1 a2 n2 c2 a3 n3 c3 x y z) rfl (by simp [stM,Value.oneCell'])
theorem Zr.J6 {b:Nat}(h:Zr w b)(a1:Option Addr)(n1 c1:Nat)(a2:Option Addr)(n2 c2:Nat)(a3:Option Addr)(n3 c3:Nat)(x y z:Int):(loadVar 52 ⟨b,0,none⟩).run Tryz.prog (w.setCells b 0 (stM a1 n1 c1 a2 n2 c2 a3 n3 c3 x y z))=.ok (Ih a1 n1 c1 a2 n2 c2 a3 n3 c3 x y z) (w.setCells b 0 (stM a1 n1 c1 a2 n2 c2 a3 n3 c3 x y z)) :=
 run_loadVar_mid (P:=Tryz.prog) _ b 0 52 (stM a1 n1 c1 a2 n2 c2 a3 n3 c3 x y z) _ (World.rangeAt_setCells_same _ _ _ _ h) Tryz.underlying52 rfl (by rw [Ge];rfl)
theorem dL.but {S:Nat->Prop}{base:Nat}{p:Ps}{a1 c1 Q1 a2 c2 a3 c3 Q3}(h:dL w base p a1 c1 Q1 a2 c2 a3 c3 Q3)(hb:ah S w w')(hS:∀j,base<=j->j<w.heap.size->¬S j):dL w' base p a1 c1 Q1 a2 c2 a3 c3 Q3 :=
 ⟨h.os.but hb (λj hj=>hS j (h.os.bT j hj).1 (h.os.bT j hj).2),h.ok,h.ts.but hb (λj hj=>hS j (h.ts.bT j hj).1 (h.ts.bT j hj).2),h.ps.but hb (λj hj=>hS j (h.ps.bT j hj).1 (h.ps.bT j hj).2),h.pk,h.Kx,h.KA,h.Kz⟩
theorem dL.later {base:Nat}{p:Ps}{a1 c1 Q1 a2 c2 a3 c3 Q3}(h:dL w base p a1 c1 Q1 a2 c2 a3 c3 Q3)(hb:Below w.heap.size w w'):dL w' base p a1 c1 Q1 a2 c2 a3 c3 Q3:=h.but (S:=λ_=>False) (ah.of hb) (λ_ _ _ h=>h)
theorem dL.mono {base b:Nat}{p:Ps}{a1 c1 Q1 a2 c2 a3 c3 Q3}(h:dL w base p a1 c1 Q1 a2 c2 a3 c3 Q3)(hb:b<=base):dL w b p a1 c1 Q1 a2 c2 a3 c3 Q3:=⟨h.os.mono hb,h.ok,h.ts.mono hb,h.ps.mono hb,h.pk,h.Kx,h.KA,h.Kz⟩
def uf (w:World)(p:Ps)(e:Ending)(w':World):Prop :=
 ∃a1 c1 Q1 a2 c2 a3 c3 Q3,e=.returned (Ih a1 p.O.length c1 a2 p.T.length c2 a3 p.P.length c3 p.nx p.px p.t)/\dL w' w.heap.size p a1 c1 Q1 a2 c2 a3 c3 Q3/\Below w.heap.size w w'
theorem nf (h:aI w H s d N)(hf:KF H.p s):Calls Tryz.prog 17 #[.pointer (some ⟨H.kb,0,none⟩)] w (uf w (eh H.mo s)):=by
 obtain⟨W,hW⟩:∃W,W=w.alloc z53:=⟨_,rfl⟩
 have hB:Below w.heap.size w W:=by rw [hW];exact ae _ _
 have hZ:Zr W w.heap.size:=by rw [hW];exact Zr.Jn w
 have h2:=h.later hB
 have Qr:Hid (W.heap.size=w.heap.size+1):=by unfold Hid;rw [hW];simp
 have P4:Hid (∀U,ah (λk=>k=w.heap.size) W U->(U.cell? ⟨H.kb,10,none⟩=some (.pointer (some ⟨H.g,0,none⟩))/\U.cell? ⟨H.kb,11,none⟩=some (.pointer (some ⟨H.z.s,0,none⟩))/\U.cell? ⟨H.kb,14,none⟩=some (.pointer (some ⟨H.pg,0,none⟩)))):=λU hU=>by
  have h3:=h2.but hU (λk hk e=>h.new (k:=k) (by omega) hk) (λe=>by have:=h.b0;omega)
  exact⟨h3.kb 10 _ rfl,h3.kb 11 _ rfl,h3.kb 14 _ rfl⟩
 have HS:Hid (∀U,Below W.heap.size W U->(U.cell? ⟨H.kb,10,none⟩=some (.pointer (some ⟨H.g,0,none⟩))/\U.cell? ⟨H.kb,11,none⟩=some (.pointer (some ⟨H.z.s,0,none⟩))/\U.cell? ⟨H.kb,14,none⟩=some (.pointer (some ⟨H.pg,0,none⟩)))):=λU hU=>P4.out U (ah.of hU)
 have HO:=ab (λ(U:World) (hU:Below W.heap.size W U)=>qZ (h2.later hU))
 have HT:=ab (λ(U:World) (hU:Below W.heap.size W U)=>uo (h2.later hU) hf.fit.inv)
 have RN:=ab (λ(U:World) (hU:Below W.heap.size W U)=>mW (h2.later hU) hf)
 have SC:=ab (λ(U:World) (hU:Below W.heap.size W U)=>yE (h2.later hU))
 have PF:=ab (λ(U:World) (hU:Below W.heap.size W U)=>FK (h2.later hU))
 have Xi:=ab (λ(U:World) (hU:Below W.heap.size W U)=>Hm (h2.later hU))
 obtain⟨Tl,hTl⟩:∃Tl,Tl=qY H.mo s.X s.l (s.V.map Prod.fst):=⟨_,rfl⟩
 have hps:eh H.mo s=⟨s.V,Tl,s.P.map (λi=>(i,s.D i)),s.nx,s.px,(s.t:Int)⟩:=by rw [hTl];rfl
 have hpl:s.P.map (JG s.D)=(s.P.map (λi=>(i,s.D i))).map Hu:=by rw [List.map_map];rfl
 have hpn:s.P.length=(s.P.map (λi=>(i,s.D i))).length:=by simp
 rw [hps];rw [<-hTl] at HT;rw [hpl,hpn] at RN;generalize s.P.map (λi=>(i,s.D i))=Pl at *
 generalize s.V=V at *
 generalize s.nx=nx at *
 generalize s.px=px at *
 generalize s.t=ta at *
 obtain⟨vn,hvn⟩:∃vn,vn=V.length:=⟨_,rfl⟩
 obtain⟨tx9,htn⟩:∃tx9,tx9=Tl.length:=⟨_,rfl⟩
 obtain⟨pn,hpn2⟩:∃pn,pn=Pl.length:=⟨_,rfl⟩
 rw [<-hvn] at HO;rw [<-htn] at HT;rw [<-hpn2] at RN;have HW:=ab hW
 have HB:=ab hB
 have HZ:=ab hZ
 have TS:=ab hvn
 have Vo:=ab htn
 have V8:=ab hpn2
 clear h h2 hf hB hZ hTl hps hpl hpn hvn htn hpn2 hW;go_enter Tryz.func17,Tryz.ntmps17
 go_upto_region 1 with fail
 rw [<-HW.out];refine wp_region_held_drew (S:=(λU:World=>(U.cell? ⟨H.kb,10,none⟩=some (.pointer (some ⟨H.g,0,none⟩))/\U.cell? ⟨H.kb,11,none⟩=some (.pointer (some ⟨H.z.s,0,none⟩))/\U.cell? ⟨H.kb,14,none⟩=some (.pointer (some ⟨H.pg,0,none⟩))))) (by kernel_rfl) (HS.out _ (Below.refl _ _).drew) (λhHeld=>?_)
 refine nm 23 0 23 ?_
 refine tn 0 23 1 22 ?_
 simp only [zz];refine tn 2 23 5 21 ?_
 simp only [zz];refine tn 4 23 21 20 ?_
 simp only [zz];refine tn 6 23 85 19 ?_
 simp only [zz];refine tn 7 23 213 18 ?_
 simp only [zz];refine tn 8 23 469 17 ?_
 simp only [zz];refine tn 9 23 981 16 ?_
 simp only [zz];refine tn 11 23 3029 15 ?_
 simp only [zz];refine tn 12 23 7125 14 ?_
 simp only [zz];refine tn 13 23 15317 13 ?_
 simp only [zz];refine tn 14 23 31701 12 ?_
 simp only [zz];refine tn 16 23 97237 11 ?_
 simp only [zz];refine tn 17 23 228309 10 ?_
 simp only [zz];refine tn 18 23 490453 9 ?_
 simp only [zz];refine tn 19 23 1014741 8 ?_
 simp only [zz];refine zr 1 λK hK=>?_
 go_simp
 go_wp2_with (first|(go_at_call 50;refine (HO.out W.drew (Below.refl _ _).drew).mono ?_;rintro e u1 ⟨a1,c1,Q1,rfl,ho,hk,hb⟩;have Qh:Hid (Below W.heap.size W u1):=aa (Below.refl _ _).drew hb;have QP:=ab ho;have Ug:=ab hk;clear ho hk hb))
 refine zk hK 23 1014743 7 (HS.out u1 Qh.out) λhHeld=>?_
 clear hK K;try simp only [zz]
 refine zr 3 λK hK=>?_
 go_simp
 go_wp2_with (first|(go_at_call 51;refine (HT.out u1 Qh.out).mono ?_;rintro e u2 ⟨a2,c2,rfl,ho,hb⟩;have PB:=ab hb;have QO:Hid (Below W.heap.size W u2):=aa Qh.out hb;have PS:=ab ho;clear ho hb))
 refine zk hK 23 1014751 6 (HS.out u2 QO.out) λhHeld=>?_
 clear hK K;try simp only [zz]
 refine zr 5 λK hK=>?_
 go_simp
 go_wp2_with (first|(go_at_call 52;refine (RN.out u2 QO.out).mono ?_;rintro e u3 ⟨a3,c3,Q3,rfl,ho,hk,hb⟩;have PE:=ab hb;have QB:Hid (Below W.heap.size W u3):=aa QO.out hb;have Rg:=ab ho;have Qq:=ab hk;clear ho hk hb))
 refine zk hK 23 1014783 5 (HS.out u3 QB.out) λhHeld=>?_
 clear hK K;try simp only [zz]
 refine zr 10 λK hK=>?_
 go_simp
 go_wp2_with (first|(go_at_call 53;refine (SC.out u3 QB.out).mono ?_;rintro e u4 ⟨rfl,hw4⟩;obtain rfl:=hw4.symm;clear hw4))
 refine zk hK 23 1015807 4 (HS.out u3 QB.out) λhHeld=>?_
 clear hK K;try simp only [zz]
 refine zr 15 λK hK=>?_
 go_simp
 go_wp2_with (first|(go_at_call 54;refine (PF.out u3 QB.out).mono ?_;rintro e u4 ⟨rfl,hw4⟩;obtain rfl:=hw4.symm;clear hw4))
 refine zk hK 23 1048575 3 (HS.out u3 QB.out) λhHeld=>?_
 clear hK K;try simp only [zz]
 refine zr 20 λK hK=>?_
 go_simp
 go_wp2_with (first|(go_at_call 55;refine (Xi.out u3 QB.out).mono ?_;rintro e u4 ⟨rfl,hw4⟩;obtain rfl:=hw4.symm;clear hw4))
 have PO:=ab (HZ.out.later QB.out)
 have PU:=ab (PO.out.J6 a1 vn c1 a2 tx9 c2 a3 pn c3 nx px (ta:Int))
 have PT:=ab (PO.out.JS a1 vn c1 a2 tx9 c2 a3 pn c3 nx px (ta:Int))
 have PK:Hid (ah (λk=>k=w.heap.size) u3 (u3.setCells w.heap.size 0 (stM a1 vn c1 a2 tx9 c2 a3 pn c3 nx px (ta:Int)))):=R.ay (S:=(λk=>k=w.heap.size)) rfl _ 0 (ah.refl _ _)
 refine zk hK 23 2097151 2 (HS.out u3 QB.out) λhHeld=>?_
 clear hK K;try simp only [zz]
 refine tn 21 23 4194303 1 ?_
 simp only [zz];refine zr 22 λK hK=>?_
 refine cn 52 (.tmp 2) (.tmp 24) rfl _ _ rfl rfl _ PT.out ?_
 refine zk hK 23 8388607 0 (P4.out _ ((ah.of QB.out).trans PK.out)) λhHeld=>?_
 clear hK K;try simp only [zz]
 refine zn ?_ _
 go_wp2;have hws:=Qr.out
 have s1:=Qh.out.size
 have s2:=PB.out.size
 have s3:=PE.out.size
 refine bodyPost_ret (v:=Ih a1 vn c1 a2 tx9 c2 a3 pn c3 nx px (ta:Int)) (by simp [results,Tryz.results17,asAddr,PU.out]) rfl ⟨a1,c1,Q1,a2,c2,a3,c3,Q3,?_,?_,ah.below (aa HB.out QB.out) PK.out (λk e=>by omega)⟩
 ·rw [TS.out,Vo.out,V8.out]
 ·have hb1:=λj hj=>QP.out.bT j hj
  have hb2:=λj hj=>PS.out.bT j hj
  have hb3:=λj hj=>Rg.out.bT j hj
  have hT:dL u3 W.heap.size ⟨V,Tl,Pl,nx,px,(ta:Int)⟩ a1 c1 Q1 a2 c2 a3 c3 Q3:=by
   refine⟨?_,Ug.out,?_,?_,Qq.out,λj h1 h2=>?_,λj h1 h2=>?_,λj h1 h2=>?_⟩
   ·rw [<-TS.out];exact (QP.out.mono (Nat.le_refl _)).later (aa PB.out PE.out)
   ·rw [<-Vo.out];exact (PS.out.mono s1).later PE.out
   ·rw [<-V8.out];exact Rg.out.mono (Nat.le_trans s1 s2)
   ·have:=hb1 j h1;have:=hb2 j h2;omega
   ·have:=hb1 j h1;have:=hb3 j h2;omega
   ·have:=hb2 j h1;have:=hb3 j h2;omega
  exact (hT.but PK.out (λj h1 h2 e=>by omega)).mono (by omega)
end
end Go.Proofs.YtffmodpgddecnaaGreatDoor.V
namespace Go.Proofs.YtffmodpgddecnaaGreatDoor.V
open Go.RowKit
open Go.Proofs.YtffmodpgddecnaaGreatDoor.H (aq Cp)
section
variable {p:Pm}{s:aP}{m:Nat}{X:List Tk}{l:Fo}
def Hr (X:List Tk)(l:Fo)(o:Int):List Int:=match rootOf X l o with
 | some r=>G true l r
 | none=>[]
def nl (X:List Tk)(l:Fo)(ids:List Int):List Int:=ids.flatMap (Hr X l)
theorem uD {o r:Int}(h:rootOf X l o=some r):(r,-1)∈l/\ob X r=o:=by
 unfold rootOf at h;have:=List.find?_some h
 simpa using this
theorem uH (h:Inv m X l){o y:Int}:y∈Hr X l o↔y∈aj l/\ob X y=o:=by
 unfold Hr;cases hr:rootOf X l o with
 | some r =>
  obtain⟨h1,h2⟩:=uD hr
  show y∈G true l r↔_
  rw [h.pY h1,h2]
 | none =>
  refine⟨λh=>by simp at h,λ⟨h1,h2⟩=>?_⟩
  obtain⟨r,h3,h4,_⟩:=h.l_ y h1
  have h5:=fY h h3
  rw [h4,h2,hr] at h5;cases h5
structure Tl (X:List Tk)(l:Fo)(T:List Tok)(A:List Int):Prop where
 len:T.length=A.length
 at_:∀(j:Nat) (y:Int),A[j]?=some y->y∈aj l/\∃q:Int,T[j]?=some ((tk X y).1,rg X y,q)/\((q=-1/\par l y=-1)\/∃k:Nat,k<j/\q=(k:Int)/\A[k]?=some (par l y))
theorem Tl.nil (X:List Tk)(l:Fo):Tl X l [] []:=⟨rfl,λj y h=>by simp at h⟩
theorem Tl.obj (h:Inv m X l)(o:Int):Tl X l (ov m X l o) (Hr X l o):=by
 unfold ov Hr;cases hr:rootOf X l o with
 | none=>exact Tl.nil _ _
 | some r =>
  obtain⟨h1,h2⟩:=uD hr
  have sp:=(qJ (X:=X) h.ok h1 _ (Nat.le_refl _)).2
  rw [List.take_length] at sp;refine⟨eV X l m _,λj y hy=>⟨dp h.ok (List.mem_of_getElem? hy),?_⟩⟩
  obtain⟨q,h3,h4⟩:=sp j y (List.getElem?_eq_some_iff.1 hy).1 hy
  refine⟨q,h3,?_⟩
  rcases h4 with ⟨_,h5,h6⟩|⟨_,k,h5,h6,h7⟩
  ·exact .inl ⟨h5,h6⟩
  ·exact .inr ⟨k,h5,h6,h7⟩
theorem Tl.app {T O:List Tok}{A B:List Int}(h:Tl X l T A)(k:Tl X l O B):Tl X l (T++O.map (uM T.length)) (A++B):=by
 refine⟨by simp [h.len,k.len],λj y hy=>?_⟩
 by_cases hj:j<A.length
 ·rw [List.getElem?_append_left hj] at hy
  obtain⟨h1,q,h2,h3⟩:=h.at_ j y hy
  refine⟨h1,q,by rw [List.getElem?_append_left (by rw [h.len];exact hj)];exact h2,?_⟩
  rcases h3 with h3|⟨i,h4,h5,h6⟩
  ·exact .inl h3
  ·exact .inr ⟨i,h4,h5,by rw [List.getElem?_append_left (by omega)];exact h6⟩
 ·rw [List.getElem?_append_right (by omega)] at hy
  obtain⟨h1,q,h2,h3⟩:=k.at_ _ y hy
  refine⟨h1,(uM T.length ((tk X y).1,rg X y,q)).2.2,?_,?_⟩
  ·rw [List.getElem?_append_right (by rw [h.len];omega),h.len,List.getElem?_map,h2]
   rfl
  ·rcases h3 with ⟨h4,h5⟩|⟨i,h4,h5,h6⟩
   ·exact .inl ⟨by simp [uM,h4],h5⟩
   ·refine .inr ⟨A.length+i,by omega,?_,?_⟩
    ·simp only [uM,h5,h.len]
     rw [if_neg (by omega)];omega
    ·rw [List.getElem?_append_right (by omega),Nat.add_sub_cancel_left]
     exact h6
theorem Tl.all (h:Inv m X l):∀ids:List Int,Tl X l (qY m X l ids) (nl X l ids):=by
 intro ids;unfold qY nl;suffices ∀(ids:List Int) (T:List Tok) (A:List Int),Tl X l T A->Tl X l (ids.foldl (jH m X l) T) (A++ids.flatMap (Hr X l)) by
  have:=this ids [] [] (Tl.nil _ _)
  rwa [List.nil_append] at this
 intro ids;induction ids with
 | nil=>intro T A hT;simpa using hT
 | cons o ids ih =>
  intro T A hT;rw [List.foldl_cons,List.flatMap_cons,<-List.append_assoc];exact ih _ _ (hT.app (Tl.obj h o))
theorem G3 (h:Inv m X l){ids:List Int}{y:Int}:y∈nl X l ids↔y∈aj l/\ob X y∈ids:=by
 unfold nl;rw [List.mem_flatMap];constructor
 ·rintro ⟨o,ho,hy⟩
  obtain⟨h1,h2⟩:=(uH h).1 hy
  exact⟨h1,by rw [h2];exact ho⟩
 ·rintro ⟨h1,h2⟩
  exact⟨_,h2,(uH h).2 ⟨h1,rfl⟩⟩
theorem G5 (h:Fit m s){y:Int}:y∈nl s.X s.l (s.V.map Prod.fst)↔y∈aj s.l:=by
 rw [G3 h.inv];refine⟨λh=>h.1,λhy=>⟨hy,?_⟩⟩
 obtain⟨q,hq,e⟩:=(h.obj (ob s.X y)).2 (ed.2 ⟨y,hy,rfl⟩)
 exact List.mem_map.2 ⟨q,hq,e⟩
end
section
variable {p:Pm}{s:aP}{m:Nat}
theorem kX (g:Cp->Int)(o:Int):∀(K:List Cp) (e:Int),e≠0->((L.dg g o K e).2=0↔∃c∈K,c.1=o/\g c=0)
 | [],e,h=>by simp [L.dg,h]
 | c::r,e,h=>by
  unfold L.dg;by_cases h1:c.1≠o
  ·rw [if_pos h1,kX g o r e h]
   constructor
   ·rintro ⟨x,hx,h2⟩;exact⟨x,List.mem_cons_of_mem _ hx,h2⟩
   ·rintro ⟨x,hx,h2⟩
    rcases List.mem_cons.1 hx with rfl|hx
    ·exact absurd h2.1 h1
    ·exact⟨x,hx,h2⟩
  ·rw [if_neg h1]
   by_cases h2:g c=0
   ·rw [if_pos h2]
    exact⟨λ_=>⟨c,List.mem_cons_self ..,Decidable.not_not.1 h1,h2⟩,λ_=>rfl⟩
   ·have key:∀e':Int,e'≠0->((L.dg g o r e').2=0↔∃x∈c::r,x.1=o/\g x=0):=λe' h'=>by
     rw [kX g o r e' h'];constructor
     ·rintro ⟨x,hx,h3⟩;exact⟨x,List.mem_cons_of_mem _ hx,h3⟩
     ·rintro ⟨x,hx,h3⟩
      rcases List.mem_cons.1 hx with rfl|hx
      ·exact absurd h3.2 h2
      ·exact⟨x,hx,h3⟩
    rw [if_neg h2];split
    ·exact key 4 (by decide)
    ·exact key e h
theorem Bd {r need:Int}(hr:1<=r/\r<=31)(hn:need=1\/need=2):(bits .and .i64 r need != 0)=aE need r:=by
 have key:∀k:Fin 31,(bits .and .i64 ((k.1:Int)+1) 1 != 0)=aE 1 ((k.1:Int)+1)/\(bits .and .i64 ((k.1:Int)+1) 2 != 0)=aE 2 ((k.1:Int)+1):=by decide +kernel
 have e:r=(((r - 1).toNat:Nat):Int)+1:=by omega
 have:=key ⟨(r - 1).toNat,by omega⟩
 rw [e];rcases hn with rfl|rfl
 ·exact this.1
 ·exact this.2
theorem CY {c:R.Cl}(h1:(eZ p s c).1.code≠1)(h2:(eZ p s c).1.code≠2):eZ p s c=ir p s c/\c.aB∈s.P:=by
 unfold eZ at h1 h2 ⊢
 by_cases g1:R.fm c=false
 ·rw [if_pos g1] at h1;exact absurd rfl h1
 ·rw [if_neg g1] at h1 h2 ⊢
  by_cases g2:s.P.contains c.aB=false
  ·rw [if_pos g2] at h2;exact absurd rfl h2
  ·rw [if_neg g2]
   exact⟨rfl,by simpa using g2⟩
end
end Go.Proofs.YtffmodpgddecnaaGreatDoor.V
