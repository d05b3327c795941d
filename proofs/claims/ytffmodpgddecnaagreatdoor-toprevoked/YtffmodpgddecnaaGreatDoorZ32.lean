import Derived.Test.YtffmodpgddecnaaGreatDoorZ31
set_option linter.unusedVariables false
set_option linter.unusedSimpArgs false
set_option maxRecDepth 100000
set_option maxHeartbeats 4000000
namespace Go.Proofs.YtffmodpgddecnaaGreatDoor.V
open Go.RowKit
open Go.Proofs.YtffmodpgddecnaaGreatDoor.H (aq Cp)
section
variable {p:Pm}{s s':aP}{m:Nat}{X:List Tk}{l:Fo}{aw:Bool}{G:List Cp}
def jd (T:List Tok)(c:Cp):Bool:=T.any (λt=>decide (t.1=c))
def r_ (T:List Tok)(c:Cp):Int:=((T.find? (λt=>decide (t.1=c))).map (·.2.1)).getD 0
theorem jo (h:Fit m s){t:Tok}(ht:t∈(eh m s).T):∃y∈aj s.l,t.1=(tk s.X y).1/\t.2.1=rg s.X y:=by
 have hT:=Tl.all h.inv (s.V.map Prod.fst)
 obtain⟨j,hj⟩:=List.mem_iff_getElem?.1 (show t∈qY m s.X s.l (s.V.map Prod.fst) from ht)
 obtain⟨y,hy⟩:∃y,(nl s.X s.l (s.V.map Prod.fst))[j]?=some y:=⟨_,List.getElem?_eq_getElem (by rw [<-hT.len];exact (List.getElem?_eq_some_iff.1 hj).1)⟩
 obtain⟨h1,q,h2,_⟩:=hT.at_ j y hy
 rw [hj] at h2;cases h2
 exact⟨y,h1,rfl,rfl⟩
theorem vD (h:Fit m s){y:Int}(hy:y∈aj s.l):∃t∈(eh m s).T,t.1=(tk s.X y).1/\t.2.1=rg s.X y:=by
 have hT:=Tl.all h.inv (s.V.map Prod.fst)
 obtain⟨j,hj⟩:=List.mem_iff_getElem?.1 ((G5 h).2 hy)
 obtain⟨_,q,h2,_⟩:=hT.at_ j y hj
 exact⟨_,List.mem_of_getElem? h2,rfl,rfl⟩
theorem pw (h:Fit m s)(c:Cp):jd (eh m s).T c=aR s.X s.l c:=by
 rw [Bool.eq_iff_iff,bj];unfold jd;rw [List.any_eq_true];constructor
 ·rintro ⟨t,ht,e⟩
  obtain⟨y,hy,h1,_⟩:=jo h ht
  exact⟨y,hy,by rw [<-h1];exact of_decide_eq_true e⟩
 ·rintro ⟨y,hy,e⟩
  obtain⟨t,ht,h1,_⟩:=vD h hy
  exact⟨t,ht,decide_eq_true (by rw [h1,e])⟩
theorem vj (h:Fit m s){y:Int}(hy:y∈aj s.l):r_ (eh m s).T (tk s.X y).1=rg s.X y:=by
 unfold r_;cases hf:(eh m s).T.find? (λt=>decide (t.1=(tk s.X y).1)) with
 | none =>
  obtain⟨t,ht,h1,_⟩:=vD h hy
  have:=List.find?_eq_none.1 hf t ht
  simp [h1] at this
 | some t =>
  have h1:=List.find?_some hf
  obtain⟨z,hz,h2,h3⟩:=jo h (List.mem_of_find?_eq_some hf)
  have h4:t.1=(tk s.X y).1:=of_decide_eq_true h1
  have:=h.inv.one z hz y hy (by rw [<-h2,h4])
  subst this;exact h3
def JB (c:Cp):Nat:=c.2.1*aq+c.2.2
theorem Hl (o:Int)(N:Nat):JB (D.cap o N)=N:=by
 show N / aq*aq+N%aq=N
 rw [Nat.mul_comm];exact Nat.div_add_mod N aq
structure fV (p:Pm)(s s':aP)(aw:Bool):Prop where
 keep:aw=false->∀y∈aj s.l,y∈aj s'.l
 same:∀y∈aj s.l,y∈aj s'.l->tk s'.X y=tk s.X y
 new:∀y∈aj s'.l,y∈aj s.l\/∃i,s.t<=i/\i<s'.t/\JB (tk s'.X y).1=p.c i
 fresh:∀y∈aj s'.l,y∉aj s.l->aR s.X s.l (tk s'.X y).1=false
 le:s.t<=s'.t
theorem fV.of (hX:s'.X=s.X)(hl:s'.l=s.l)(ht:s.t<=s'.t):fV p s s' aw :=
 ⟨λ_ y hy=>by rw [hl];exact hy,λy _ _=>by rw [hX],λy hy=>.inl (by rw [hl] at hy;exact hy),λy hy hn=>absurd (by rw [hl] at hy;exact hy) hn,ht⟩
theorem fV.add (h:KF p s){o:Int}{N:Nat}{q r:Int}{t i:Nat}(hX:s'.X=s.X.set (low s.l) (D.cap o N,r))(hl:s'.l=s.l++[((low s.l:Int),q)])(ht:s'.t=t)(hi:s.t<=i)(hi2:i<t)(hN:N=p.c i)(hm:s.l.length<p.mo)(hc:aR s.X s.l (D.cap o N)=false):fV p s s' aw:=by
 have hlo:=oA h.fit.inv.ok hm
 have hn:∀y,y∈aj s'.l↔y∈aj s.l\/y=(low s.l:Int):=λy=>by rw [hl,cJ];simp
 have e0:tk s'.X (low s.l:Int)=(D.cap o N,r):=by rw [hX];exact dz _ (by rw [h.fit.inv.len];exact hlo)
 refine⟨λ_ y hy=>(hn y).2 (.inl hy),λy hy _=>?_,λy hy=>?_,λy hy hx=>?_,by omega⟩
 ·rw [hX]
  exact bN _ (bd h.fit.inv.ok hy) (λe=>eK s.l (e ▸ hy))
 ·rcases (hn y).1 hy with h1|h1
  ·exact .inl h1
  ·subst h1
   exact .inr ⟨i,hi,by omega,by rw [e0,<-hN];exact Hl o N⟩
 ·rcases (hn y).1 hy with h1|h1
  ·exact absurd h1 hx
  ·subst h1
   rw [e0];exact hc
theorem fV.Ka (h:Fit m s){x o:Int}(hs:s'=eR s x o):fV p s s' true:=by
 subst hs;have hn:∀y,y∈aj (eR s x o).l↔y∈aj s.l/\y∉G true s.l x:=λy=>bz
 refine⟨λe=>(by cases e),λy hy h2=>?_,λy hy=>.inl ((hn y).1 hy).1,λy hy hx=>absurd ((hn y).1 hy).1 hx,Nat.le_refl _⟩
 exact iA _ _ _ (bd h.inv.ok hy) (λa ha=>bd h.inv.ok (dp h.inv.ok ha)) ((hn y).1 h2).2
def JC (c:R.Cl)(code:Int):Bool:=(decide (c.op=4)||decide (c.op=2))&&decide (code=0)
theorem DV (h:KF p s)(c:Cp)(r:Int):fV p s (iP s (D.bs p.d s.d c r).s) aw:=by
 unfold D.bs;by_cases h1:aR s.d.X s.d.l c=false
 ·rw [if_pos h1];exact fV.of rfl rfl (Nat.le_refl _)
 ·rw [if_neg h1]
  by_cases h2:aE 4 (D.eE s.d c)=false\/aE r (D.eE s.d c)=false
  ·rw [if_pos h2];exact fV.of rfl rfl (Nat.le_refl _)
  ·rw [if_neg h2]
   obtain⟨q,g1,g2,g3,g4⟩:=D.kh h.d_ c.1
   have g1':(D.bg p.d s.d c.1).2.2=s.t+q:=g1
   have hpart:aE r (D.eE s.d c)=true:=by
    cases hp:aE r (D.eE s.d c) with
    | true=>rfl
    | false=>exact absurd (.inr hp) h2
   rcases jO h.d_ c.1 (D.bg p.d s.d c.1) (aG s.d.X s.d.l c) r (λ_ hd=>D.lH h.d_ (by simpa using h1) hpart hd) with ⟨_,_,e|e⟩|⟨e0,_,e,hy,_,hm⟩
   ·rw [e];exact fV.of rfl rfl (Nat.le_refl _)
   ·rw [e];exact fV.of rfl rfl (show s.t<=(D.bg p.d s.d c.1).2.2 by omega)
   ·rw [e]
    rcases g4 with ⟨d1,d2,d3,d4,_⟩|⟨d1,_⟩|⟨d1,_⟩
    ·exact fV.add h (i:=s.t+q - 1) (t:=(D.bg p.d s.d c.1).2.2) rfl rfl rfl (by omega) (by rw [g1'];omega) d3 hm hy.new
    ·exfalso
     unfold D.fk at e0;split at e0
     ·rename_i hne;exact hne e0
     ·rw [if_pos (by rw [d1];decide)] at e0
      rw [show (D.no { s.d with t:=(D.bg p.d s.d c.1).2.2 } (D.bg p.d s.d c.1).2.1).code=(D.bg p.d s.d c.1).2.1 from rfl,d1] at e0;exact absurd e0 (by decide)
    ·exfalso
     unfold D.fk at e0;split at e0
     ·rename_i hne;exact hne e0
     ·rw [if_pos (by rw [d1];decide)] at e0
      rw [show (D.no { s.d with t:=(D.bg p.d s.d c.1).2.2 } (D.bg p.d s.d c.1).2.1).code=(D.bg p.d s.d c.1).2.1 from rfl,d1] at e0;exact absurd e0 (by decide)
theorem CB (h:KF p s)(size:Int):fV p s (rR p s size).2 aw:=by
 unfold rR;split
 ·exact fV.of rfl rfl (Nat.le_refl _)
 ·rcases la h with ⟨h1,h2⟩|⟨h1,h2,h3,h4,h5,h6,h7⟩
  ·rw [if_pos h1,h2];exact fV.of rfl rfl (Nat.le_refl _)
  ·rw [if_neg (by simpa using h1),h4]
   exact fV.add h (i:=s.t) rfl rfl rfl (Nat.le_refl _) (Nat.lt_succ_self _) rfl h7 h5.new
theorem qw (h:KF p s)(all:Bool)(c:Cp)(ha:(cN all s c).1.code=0->aw=true):fV p s (cN all s c).2 aw:=by
 unfold cN eC at ha ⊢
 split
 ·exact fV.of rfl rfl (Nat.le_refl _)
 ·rename_i h1
  rw [if_neg h1] at ha;split
  ·exact fV.of rfl rfl (Nat.le_refl _)
  ·rename_i h2
   rw [if_neg h2] at ha;rw [ha rfl];exact fV.Ka h.fit rfl
theorem Gi (h:KF p s)(c:R.Cl):fV p s (eZ p s c).2 (JC c (eZ p s c).1.code):=by
 have key:∀a:Bool,((c.op=2\/c.op=4)->(eZ p s c).1.code=0->a=true)->fV p s (eZ p s c).2 a:=by
  intro a ha;unfold eZ at ha ⊢
  by_cases h1:R.fm c=false
  ·rw [if_pos h1];exact fV.of rfl rfl (Nat.le_refl _)
  rw [if_neg h1] at ha ⊢
  by_cases h2:s.P.contains c.aB=false
  ·rw [if_pos h2];exact fV.of rfl rfl (Nat.le_refl _)
  rw [if_neg h2] at ha ⊢
  unfold ir at ha ⊢
  by_cases o1:c.op=1
  ·rw [if_pos o1];exact CB h _
  rw [if_neg o1] at ha ⊢
  by_cases o2:c.op=2
  ·rw [if_pos o2] at ha ⊢;exact qw h _ _ (ha (.inl o2))
  rw [if_neg o2] at ha ⊢
  by_cases o3:c.op=3
  ·rw [if_pos o3];exact DV h _ _
  rw [if_neg o3] at ha ⊢
  by_cases o4:c.op=4
  ·rw [if_pos o4] at ha ⊢;exact qw h _ _ (ha (.inr o4))
  rw [if_neg o4];by_cases o5:c.op=5
  ·rw [if_pos o5];unfold qq;split<;>exact fV.of rfl rfl (Nat.le_refl _)
  rw [if_neg o5];by_cases o6:c.op=6
  ·rw [if_pos o6];unfold lq;split<;>exact fV.of rfl rfl (Nat.le_refl _)
  rw [if_neg o6];by_cases o7:c.op=7
  ·rw [if_pos o7]
   unfold zY;split
   ·exact fV.of rfl rfl (Nat.le_refl _)
   ·split<;>exact fV.of rfl rfl (Nat.le_refl _)
  rw [if_neg o7];by_cases o8:c.op=8
  ·rw [if_pos o8];unfold fU;split<;>exact fV.of rfl rfl (Nat.le_refl _)
  rw [if_neg o8];by_cases o9:c.op=9
  ·rw [if_pos o9]
   unfold AO;split
   ·exact fV.of rfl rfl (Nat.le_refl _)
   ·split<;>exact fV.of rfl rfl (Nat.le_refl _)
  rw [if_neg o9];exact fV.of rfl rfl (Nat.le_refl _)
 refine key _ (λho hc=>?_)
 unfold JC;rcases ho with e|e<;>simp [e,hc]
structure B_ (p:Pm)(s:aP)(G:List Cp):Prop where
 gone:∀x∈G,aR s.X s.l x=false
 pf:∀x∈G,∃i,i<s.t/\JB x=p.c i
 live:∀y∈aj s.l,∃i,i<s.t/\JB (tk s.X y).1=p.c i
def JM (p:Pm):Prop:=∀i j,i<p.n->j<i->p.c i≠p.c j
def wx (T T':List Tok):List Cp:=(T.filter (λt=>!jd T' t.1)).map (·.1)
theorem B_.step (hu:JM p)(h:KF p s)(h':KF p s')(st:fV p s s' aw)(hh:B_ p s G):B_ p s' (G++wx (eh p.mo s).T (eh p.mo s').T):=by
 have hg:∀x∈wx (eh p.mo s).T (eh p.mo s').T,aR s'.X s'.l x=false/\∃y∈aj s.l,x=(tk s.X y).1:=λx hx=>by
  obtain⟨t,ht,rfl⟩:=List.mem_map.1 hx
  obtain⟨h1,h2⟩:=List.mem_filter.1 ht
  obtain⟨y,hy,h3,_⟩:=jo h.fit h1
  refine⟨?_,y,hy,h3⟩
  rw [<-pw h'.fit];simpa using h2
 refine⟨λx hx=>?_,λx hx=>?_,λy hy=>?_⟩
 ·rcases List.mem_append.1 hx with hx|hx
  ·cases hc:aR s'.X s'.l x with
   | false=>rfl
   | true =>
    exfalso
    obtain⟨y,hy,e⟩:=bj.1 hc
    obtain⟨j,hj,hw⟩:=hh.pf x hx
    rcases st.new y hy with h1|⟨i,i1,i2,i3⟩
    ·have:=st.same y h1 hy
     have h2:=hh.gone x hx
     rw [bj.2 ⟨y,h1,by rw [<-this];exact e⟩] at h2
     cases h2
    ·rw [e,hw] at i3
     have h3:=h'.le
     exact hu i j (by omega) (by omega) i3.symm
  ·exact (hg x hx).1
 ·rcases List.mem_append.1 hx with hx|hx
  ·obtain⟨i,hi,e⟩:=hh.pf x hx
   exact⟨i,by have:=st.le;omega,e⟩
  ·obtain⟨_,y,hy,e⟩:=hg x hx
   obtain⟨i,hi,e2⟩:=hh.live y hy
   exact⟨i,by have:=st.le;omega,by rw [e];exact e2⟩
 ·rcases st.new y hy with h1|⟨i,i1,i2,i3⟩
  ·obtain⟨i,hi,e⟩:=hh.live y h1
   exact⟨i,by have:=st.le;omega,by rw [st.same y h1 hy];exact e⟩
  ·exact⟨i,i2,i3⟩
def sL (G:List Cp)(c:Cp):Bool:=G.any (λx=>decide (x=c))
theorem FV {c:Cp}:sL G c=true↔c∈G:=by unfold sL;simp
theorem Dx (h:KF p s)(h':KF p s')(st:fV p s s' aw){t:Tok}(ht:t∈(eh p.mo s).T)(hn:jd (eh p.mo s').T t.1=false):aw=true:=by
 cases ha:aw with
 | true=>rfl
 | false =>
  exfalso
  obtain⟨y,hy,h1,_⟩:=jo h.fit ht
  have h2:=st.keep ha y hy
  rw [pw h'.fit,h1,<-st.same y hy h2,bj.2 ⟨y,h2,rfl⟩] at hn;cases hn
theorem Gb (h:KF p s)(h':KF p s')(st:fV p s s' aw)(hh:B_ p s' G){t:Tok}(ht:t∈(eh p.mo s').T):sL G t.1=false/\(jd (eh p.mo s).T t.1=true->r_ (eh p.mo s).T t.1=t.2.1):=by
 obtain⟨y,hy,h1,h2⟩:=jo h'.fit ht
 constructor
 ·cases ha:sL G t.1 with
  | false=>rfl
  | true =>
   have:=hh.gone _ (FV.1 ha)
   rw [h1,bj.2 ⟨y,hy,rfl⟩] at this;cases this
 ·intro hw
  rw [pw h.fit] at hw;by_cases hys:y∈aj s.l
  ·rw [h1,h2,st.same y hys hy]
   rw [vj h.fit hys];unfold rg;rw [st.same y hys hy]
  ·exfalso
   have:=st.fresh y hy hys
   rw [<-h1,hw] at this;cases this
theorem zV (h:KF p s)(c:R.Cl)(ho:c.op=2\/c.op=3\/c.op=4\/((c.op=5\/c.op=6)/\c.given=true))(hn:jd (eh p.mo s).T (bZ c)=false):(eZ p s c).1.code=3\/(eZ p s c).1.code=2\/(eZ p s c).1.code=1:=by
 rw [pw h.fit] at hn;unfold eZ;by_cases h1:R.fm c=false
 ·rw [if_pos h1];exact .inr (.inr rfl)
 rw [if_neg h1];by_cases h2:s.P.contains c.aB=false
 ·rw [if_pos h2];exact .inr (.inl rfl)
 rw [if_neg h2];refine .inl ?_
 unfold ir;rcases ho with e|e|e|⟨e|e,g⟩
 ·rw [if_neg (by omega),if_pos e];unfold cN eC;rw [if_pos hn];rfl
 ·rw [if_neg (by omega),if_neg (by omega),if_pos e]
  show (D.bs p.d s.d (bZ c) c.aA).code=3
  unfold D.bs;rw [if_pos (show aR s.d.X s.d.l (bZ c)=false from hn)];rfl
 ·rw [if_neg (by omega),if_neg (by omega),if_neg (by omega),if_pos e];unfold cN eC;rw [if_pos hn];rfl
 ·rw [if_neg (by omega),if_neg (by omega),if_neg (by omega),if_neg (by omega),if_pos e,g]
  have e1:dQ s true c.aB (bZ c) 1=3:=by show L.cQ s.X s.l 1 (bZ c)=3;unfold L.cQ;rw [if_pos hn]
  unfold qq;rw [e1];rfl
 ·rw [if_neg (by omega),if_neg (by omega),if_neg (by omega),if_neg (by omega),if_neg (by omega),if_pos e,g]
  have e1:dQ s true c.aB (bZ c) 2=3:=by show L.cQ s.X s.l 2 (bZ c)=3;unfold L.cQ;rw [if_pos hn]
  unfold lq;rw [e1];rfl
def EK (T:List Tok)(obj need:Int)(K:List Cp):Bool:=K.any (λc=>decide (c.1=obj)&&(bits .and .i64 (r_ T c) need != 0))
def sM (T:List Tok)(P:List (Int×List Cp))(aB obj need:Int):Bool:=P.any (λx=>decide (x.1=aB)&&EK T obj need x.2)
def iD (op:Int):Int:=if op=6 then 2 else 1
theorem xd (h:KF p s)(c:R.Cl)(ho:c.op=5\/c.op=6)(hg:c.given=false)(hz:(eZ p s c).1.code=0):sM (eh p.mo s).T (eh p.mo s).P c.aB c.obj (iD c.op)=true:=by
 obtain⟨hd,hby⟩:=CY (p:=p) (s:=s) (c:=c) (by rw [hz];decide) (by rw [hz];decide)
 have hv:dQ s false c.aB (bZ c) (iD c.op)=0:=by
  rw [hd] at hz;unfold ir at hz;rcases ho with e|e
  ·rw [if_neg (by omega),if_neg (by omega),if_neg (by omega),if_neg (by omega),if_pos e,hg] at hz
   unfold qq at hz;unfold iD;rw [if_neg (by omega)];by_cases hne:dQ s false c.aB (bZ c) 1≠0
   ·rw [if_pos hne] at hz;exact absurd hz hne
   ·simpa using hne
  ·rw [if_neg (by omega),if_neg (by omega),if_neg (by omega),if_neg (by omega),if_neg (by omega),if_pos e,hg] at hz
   unfold lq at hz;unfold iD;rw [if_pos e];by_cases hne:dQ s false c.aB (bZ c) 2≠0
   ·rw [if_pos hne] at hz;exact absurd hz hne
   ·simpa using hne
 have hn2:iD c.op=1\/iD c.op=2:=by unfold iD;split<;>simp
 unfold dQ at hv;simp only [Bool.false_eq_true,if_false] at hv;rw [kX _ _ _ _ (by decide)] at hv;obtain⟨x,hx,h1,h2⟩:=hv
 unfold sM EK;rw [List.any_eq_true];refine⟨(c.aB,s.D c.aB),List.mem_map.2 ⟨c.aB,hby,rfl⟩,?_⟩
 simp only [decide_true,Bool.true_and];rw [List.any_eq_true];refine⟨x,hx,?_⟩
 have hc:aR s.X s.l x=true/\aE (iD c.op) (L.eE s.X s.l x)=true:=by
  rcases L.iL s.X s.l (iD c.op) x with ⟨a,b⟩|⟨a,a',b⟩|⟨a,a',b⟩
  ·rw [b] at h2;cases h2
  ·rw [b] at h2;cases h2
  ·exact⟨a,a'⟩
 obtain⟨y,hy,e⟩:=bj.1 hc.1
 have h3:=vj h.fit hy
 rw [e] at h3;have h4:L.eE s.X s.l x=rg s.X y:=by unfold L.eE;rw [<-e,eg h.fit.inv hy]
 simp only [Bool.and_eq_true,decide_eq_true_eq];refine⟨h1,?_⟩
 rw [h3,Bd (kU.1 (h.fit.inv.val y hy)) hn2,<-h4];exact hc.2
end
section
variable {w w':World}{c:R.Cl}{dd gg:R.Sl}
theorem Bx.put {b:Nat}{L:List Value}(h:R.Bx w b L)(j:Nat)(hj:j<L.length)(v:Value):R.Bx (w.setCell ⟨b,j,none⟩ v) b (L.set j v):=by
 have hl:az w ⟨b,j,none⟩ L[j]:=⟨h.cell j (List.getElem?_eq_getElem hj),by have:=(h.there j hj).2;rwa [Nat.zero_add] at this⟩
 have hc:∀i u,(L.set j v)[i]?=some u->(w.setCell ⟨b,j,none⟩ v).cell? ⟨b,i,none⟩=some u:=λi u hu=>by
  by_cases e:i=j
  ·subst e
   rw [List.getElem?_set_self hj] at hu;cases hu
   exact hl.put.1
  ·rw [List.getElem?_set_ne (by omega)] at hu
   exact D.aW (h.cell i hu) (by omega)
 refine⟨λi u hu=>by rw [Nat.zero_add];exact hc i u hu,λi hi=>?_⟩
 rw [List.length_set] at hi;refine⟨by rw [Nat.zero_add,hc i _ (List.getElem?_eq_getElem (by rw [List.length_set];exact hi))];rfl,?_⟩
 have:=R.dH b ⟨b,0+i,none⟩ [v] j w
 exact this.trans (h.there i hi).2
theorem nP (w:World)(e:TypeId):Own (w.alloc (Obj.cells #[] e)) w.heap.size e (some ⟨w.heap.size,0,none⟩) 0 0 [] :=
 ⟨World.ownsRow_made (base:=w.heap.size) (size:=1) (e:=e) w #[] 0 (by simp) (by unfold maxLen;omega) (by simp),λ_ h=>(by cases h)⟩
abbrev Gl:List Value:=[.int .i64 0,.int .i64 0,.int .i64 0,.int .i64 0,.int .u64 0,.int .u64 0,.bool false,.int .i64 0,.int .i64 0,.int .i64 0,.slice none 0 0,.int .i64 0,.slice none 0 0]
theorem Bx.IF {b:Nat}{L:List Value}(h:R.Bx w b L)(hl:L.length=13)(c:R.Cl)(dd gg:R.Sl):(Instr.storeAt 44 (.pointer (some ⟨b,0,none⟩)) (.agg (R.cC c dd gg).toArray)).run Tryz.prog w=.ok () (w.setCells b 0 (R.cC c dd gg)):=by
 have h10:(R.cC c dd gg).length=13:=rfl
 have:=R.xP (L:=R.cC c dd gg) (show w.there b 0 13 by rw [<-hl];exact h.there) h10 (by simp [R.cC,Value.oneCell'])
 simp [Instr.storeAt,storeVar,Instr.sureAddr,Value.cells,h10,this,Result.andThen]
theorem It (h:Row w dd.a dd.n dd.c (S.bG c.data))(hs:∀x∈c.data,x<256):R.Row w dd.a dd.n dd.c c.data:=⟨by have:=h.len;rwa [S.aM] at this,h.cap_,h.none_,h.cells,hs⟩
structure IA (w:World)(base:Nat)(c:R.Cl)(dd gg:R.Sl):Prop where
 is:R.Is w c dd gg
 d:∀j,aJ dd.a j->base<=j/\j<w.heap.size
 g:∀j,aJ gg.a j->base<=j/\j<w.heap.size
theorem tA (h:R.Is w c dd gg)(hb1:dd.n<=140737488355328)(hb2:gg.n*8<=140737488355328) :
  Calls Tryz.prog 14 #[.agg (R.cC c dd gg).toArray] w λe w'=>∃d' g',e=.returned (.agg (R.cC c d' g').toArray)/\IA w' w.heap.size c d' g'/\Below w.heap.size w w':=by
 obtain⟨W,hW⟩:∃W,W=(w.alloc (Obj.cells (R.cC c dd gg).toArray 44)).alloc (Obj.cells Gl.toArray 44):=⟨_,rfl⟩
 have HB:Hid (Below w.heap.size w W):=by rw [hW];exact aC _ _ _
 have Qr:Hid (W.heap.size=w.heap.size+2):=by unfold Hid;rw [hW];simp
 have hX:R.Bx W w.heap.size (R.cC c dd gg):=by rw [hW];exact R.Bx.later (ae _ _) (R.Bx.new w _ _)
 have hZ:R.Bx W (w.heap.size+1) Gl:=by
  rw [hW];have:=R.Bx.new (w.alloc (Obj.cells (R.cC c dd gg).toArray 44)) Gl 44
  rwa [World.size_alloc] at this
 have h2:=h.later HB.out
 have hr1:Row W dd.a dd.n dd.c (S.bG c.data):=⟨by rw [S.aM];exact h2.data.len,h2.data.cap_,h2.data.none_,h2.data.cells,S.fH _⟩
 have hr2:Row W gg.a gg.n gg.c (ints c.ax):=⟨by unfold ints;rw [List.length_map];exact h2.ax.len,h2.ax.cap_,h2.ax.none_,h2.ax.cells,by unfold ints;intro u hu;obtain⟨x,_,rfl⟩:=List.mem_map.1 hu;rfl⟩
 have hB1:=ae W (Obj.cells #[] 5)
 have hO1:=nP W 5
 obtain⟨a1,c1,W2,hrun1,hO2,hG1⟩:=S.fL hO1 (hr1.later hB1) hB1.size (by omega)
 rw [Nat.zero_add] at hrun1 hO2;rw [List.nil_append] at hO2;have hB2:Below W.heap.size W W2:=ah.below hB1 hG1.but (λk hk=>hO1.bT k hk)
 have hX2:=R.Bx.later hB2 hX
 have xD:W2.cell? ⟨w.heap.size,10,none⟩=some dd.v:=hX2.cell 10 rfl
 have xF:W2.frozen? ⟨w.heap.size,10,none⟩=false:=(hX2.there 10 (by simp [R.cC])).2
 have x10:(W.alloc (Obj.cells #[] 5)).cell? ⟨w.heap.size,10,none⟩=some dd.v:=(R.Bx.later hB1 hX).cell 10 rfl
 obtain⟨W3,hW3⟩:∃W3,W3=W2.setCell ⟨w.heap.size,10,none⟩ (.slice a1 dd.n c1):=⟨_,rfl⟩
 have hX3:R.Bx W3 w.heap.size (R.cC c ⟨a1,dd.n,c1⟩ gg):=by rw [hW3];exact Bx.put hX2 10 (by simp [R.cC]) (.slice a1 dd.n c1)
 have hB3:Below w.heap.size w W3:=by rw [hW3];exact ah.below (aa HB.out hB2) (ah.own (g:=w.heap.size) (ah.refl _ _) 10 _) (λk e=>by omega)
 have hS3:W3.heap.size=W2.heap.size:=by rw [hW3];simp
 have hW2s:=hB2.size
 have hO3:Own W3 W.heap.size 5 a1 dd.n c1 (S.bG c.data):=by rw [hW3];exact Own.but (S:=(·=w.heap.size)) (ah.own (ah.refl _ _) 10 _) hO2 (λk hk e=>by have:=hO2.bT k hk;have:=Qr.out;omega)
 have hB4:=ae W3 (Obj.cells #[] 3)
 have hO4:=nP W3 3
 have hr3:Row w gg.a gg.n gg.c (ints c.ax):=⟨by unfold ints;rw [List.length_map];exact h.ax.len,h.ax.cap_,h.ax.none_,h.ax.cells,by unfold ints;intro u hu;obtain⟨x,_,rfl⟩:=List.mem_map.1 hu;rfl⟩
 obtain⟨a2,c2,W5,hrun2,hO5,hG2⟩:=dA hO4 ((hr3.later hB3).later hB4) hB4.size (by omega)
 rw [Nat.zero_add] at hrun2 hO5;rw [List.nil_append] at hO5;have hB5:Below W3.heap.size W3 W5:=ah.below hB4 hG2.but (λk hk=>hO4.bT k hk)
 have hX5:=R.Bx.later hB5 hX3
 have yD:W5.cell? ⟨w.heap.size,12,none⟩=some gg.v:=hX5.cell 12 rfl
 have yF:W5.frozen? ⟨w.heap.size,12,none⟩=false:=(hX5.there 12 (by simp [R.cC])).2
 have y12:(W3.alloc (Obj.cells #[] 3)).cell? ⟨w.heap.size,12,none⟩=some gg.v:=(R.Bx.later hB4 hX3).cell 12 rfl
 obtain⟨W6,hW6⟩:∃W6,W6=W5.setCell ⟨w.heap.size,12,none⟩ (.slice a2 gg.n c2):=⟨_,rfl⟩
 have hX6:R.Bx W6 w.heap.size (R.cC c ⟨a1,dd.n,c1⟩ ⟨a2,gg.n,c2⟩):=by rw [hW6];exact Bx.put hX5 12 (by simp [R.cC]) (.slice a2 gg.n c2)
 have b6:ah (·=w.heap.size) W5 W6:=by rw [hW6];exact ah.own (ah.refl _ _) 12 _
 have b3:ah (·=w.heap.size) W2 W3:=by rw [hW3];exact ah.own (ah.refl _ _) 10 _
 have hZ6:R.Bx W6 (w.heap.size+1) Gl:=R.Bx.but b6 (R.Bx.later hB5 (R.Bx.but b3 (R.Bx.later hB2 hZ) (by omega))) (by omega)
 have P5:=ab (DG hX6)
 have PT:=ab (Bx.IF hZ6 rfl c ⟨a1,dd.n,c1⟩ ⟨a2,gg.n,c2⟩)
 obtain⟨W7,hW7⟩:∃W7,W7=W6.setCells (w.heap.size+1) 0 (R.cC c ⟨a1,dd.n,c1⟩ ⟨a2,gg.n,c2⟩):=⟨_,rfl⟩
 have b7:ah (·=w.heap.size+1) W6 W7:=by rw [hW7];exact R.ay (S:=(·=w.heap.size+1)) rfl _ 0 (ah.refl _ _)
 have hX7:R.Bx W7 (w.heap.size+1) (R.cC c ⟨a1,dd.n,c1⟩ ⟨a2,gg.n,c2⟩):=by rw [hW7];exact R.Bx.set hZ6 rfl
 have PU:Hid ((loadVar 44 ⟨w.heap.size+1,0,none⟩).run Tryz.prog W7=.ok (.agg (R.cC c ⟨a1,dd.n,c1⟩ ⟨a2,gg.n,c2⟩).toArray) W7):=R.CU hX7.range (by rfl)
 rw [<-hW7] at PT;have s5:=hB5.size
 have hO7:Own W7 W.heap.size 5 a1 dd.n c1 (S.bG c.data):=Own.but b7 (Own.but b6 (hO3.later hB5) (λk hk e=>by have:=hO2.bT k hk;have:=Qr.out;omega)) (λk hk e=>by have:=hO2.bT k hk;have:=Qr.out;omega)
 have hP7:Own W7 W3.heap.size 3 a2 gg.n c2 (ints c.ax):=Own.but b7 (Own.but b6 hO5 (λk hk e=>by have:=hO5.bT k hk;have:=Qr.out;omega)) (λk hk e=>by have:=hO5.bT k hk;have:=Qr.out;omega)
 have Rm:Hid (IA W7 w.heap.size c ⟨a1,dd.n,c1⟩ ⟨a2,gg.n,c2⟩):=by
  refine⟨⟨It (dd:=⟨a1,dd.n,c1⟩) hO7.read h.data.small,?_,h.hi,h.lo⟩,λj hj=>⟨by have:=hO7.bT j hj;have:=Qr.out;omega,hO7.lt j hj⟩,λj hj=>⟨by have:=hP7.bT j hj;have:=Qr.out;omega,hP7.lt j hj⟩⟩
  have hr:=hP7.read
  exact⟨by have:=hr.len;unfold ints at this;rwa [List.length_map] at this,hr.cap_,hr.none_,hr.cells⟩
 have RW:Hid (Below w.heap.size w W7):=ah.below (ah.below (aa hB3 hB5) b6 (λk e=>by omega)) b7 (λk e=>by omega)
 have HW:=ab hW
 have QR:=ab hW3
 have Uc:=ab hW6
 have QD:=ab hrun1
 have QL:=ab hrun2
 clear h h2 hr1 hr2 hr3 hX hZ hB1 hO1 hO2 hG1 hB2 hX2 hX3 hB3 hS3 hW2s hO3 hB4 hO4 hO5 hG2 hB5 hX5 hX6 b6 b3 hZ6 hW7 b7 hX7 s5 hO7 hP7 hW hW3 hW6 hrun1 hrun2 hb1 hb2;go_enter Tryz.func14,Tryz.ntmps14
 go_upto_region 1 with fail
 have hW:=HW.out
 rw [<-hW];clear hW;go_upto_region 2 with (first|(at_builtin;refine al rfl _ _ 38 rfl _ _ rfl rfl _ W2 QD.out ?_))
 rw [<-QR.out];clear x10 xD xF;go_upto_region 3 with (first|(at_builtin;refine al rfl _ _ 42 rfl _ _ rfl rfl _ W5 QL.out ?_))
 rw [<-Uc.out];clear y12 yD yF;go_wp2_with (first|((with_reducible refine R.aV P5.out ?_ ?_);(· rfl))|((with_reducible refine bm PT.out ?_ ?_ ?_);(· rfl);(· rfl)))
 exact bodyPost_ret (v:=.agg (R.cC c ⟨a1,dd.n,c1⟩ ⟨a2,gg.n,c2⟩).toArray) (by simp [results,Tryz.results14,asAddr,Act.put,PU.out]) rfl ⟨⟨a1,dd.n,c1⟩,⟨a2,gg.n,c2⟩,rfl,Rm.out,RW.out⟩
end
section
variable {w w':World}
structure Cf where
 W:Int
 o:Int
 p:Int
 m:Int
 q:Int
 r:Int
 l:Int
 s:Int
 y:Int
 k:Int
def Cf.L (c:Cf):List Value:=[.int .i64 c.W,.int .i64 c.o,.int .i64 c.p,.int .i64 c.m,.int .i64 c.q,.int .i64 c.r,.int .i64 c.l,.int .i64 c.s,.int .i64 c.y,.int .i64 c.k]
abbrev Cf.v (c:Cf):Value:=.agg c.L.toArray
def jP (n a b:Int):Bool:=decide (a<=n)&&decide (n<=b)
theorem Et {n a b:Int}:jP n a b=true↔a<=n/\n<=b:=by unfold jP;simp
theorem cW (n a b:Int)(w:World):Calls Tryz.prog 90 #[.int .i64 n,.int .i64 a,.int .i64 b] w λe w'=>e=.returned (.bool (jP n a b))/\w'=w:=by
 by_cases h:a<=n
 ·have hd:decide (a<=n)=true:=decide_eq_true h
  obtain⟨q,hq⟩:∃q,q=decide (n<=b):=⟨_,rfl⟩
  have e:jP n a b=q:=by unfold jP;rw [hd,hq];simp
  have HQ:=ab hq
  rw [e];clear e hq h;go_enter Tryz.func90,Tryz.ntmps90
  go_wp2;rw [<-HQ.out];go_ret;exact⟨au (by simp),rfl⟩
 ·have hd:decide (a<=n)=false:=decide_eq_false h
  have e:jP n a b=false:=by unfold jP;rw [hd];rfl
  rw [e];clear e h;go_enter Tryz.func90,Tryz.ntmps90
  go_wp2;go_ret;exact⟨au (by simp),rfl⟩
def Cf.may (c:Cf):Bool:=jP c.W 1 128&&jP c.o 1 64&&jP c.p 1 256&&jP c.m 1 256&&jP c.q 1 256&&jP c.r 1 32&&jP c.l 1 32&&jP c.s 0 16&&jP c.y 1 4&&jP c.k 0 64
theorem Cf.oD {c:Cf}:c.may=true↔(1<=c.W/\c.W<=128)/\(1<=c.o/\c.o<=64)/\(1<=c.p/\c.p<=256)/\(1<=c.m/\c.m<=256)/\(1<=c.q/\c.q<=256)/\(1<=c.r/\c.r<=32)/\(1<=c.l/\c.l<=32)/\(0<=c.s/\c.s<=16)/\(1<=c.y/\c.y<=4)/\(0<=c.k/\c.k<=64):=by
 unfold Cf.may;simp only [Bool.and_eq_true,Et];omega
theorem Aj (c:Cf)(w:World):Calls Tryz.prog 43 #[c.v] w λe w'=>e=.returned (.bool c.may)/\Below w.heap.size w w':=by
 obtain⟨W,o,p,m,q,r,l,s,y,k⟩:=c
 unfold Cf.v Cf.L;cases F0:jP W 1 128 with
 | false =>
  have E:Hid (Cf.may ⟨W,o,p,m,q,r,l,s,y,k⟩=false):=by unfold Hid Cf.may;simp only [F0,Bool.true_and,Bool.false_and,Bool.and_false,Bool.and_true]
  go_enter Tryz.func43,Tryz.ntmps43
  go_wp2_with (first|(go_at_call 90;refine (cW _ _ _ _).mono ?_;rintro e w1 ⟨rfl,rfl⟩;simp only [F0]))
  go_ret;exact⟨au E.out.symm,ae _ _⟩
 | true =>
  cases F1:jP o 1 64 with
  | false =>
   have E:Hid (Cf.may ⟨W,o,p,m,q,r,l,s,y,k⟩=false):=by unfold Hid Cf.may;simp only [F0,F1,Bool.true_and,Bool.false_and,Bool.and_false,Bool.and_true]
   go_enter Tryz.func43,Tryz.ntmps43
   go_wp2_with (first|(go_at_call 90;refine (cW _ _ _ _).mono ?_;rintro e w1 ⟨rfl,rfl⟩;simp only [F0,F1]))
   go_ret;exact⟨au E.out.symm,ae _ _⟩
  | true =>
   cases F2:jP p 1 256 with
   | false =>
    have E:Hid (Cf.may ⟨W,o,p,m,q,r,l,s,y,k⟩=false):=by unfold Hid Cf.may;simp only [F0,F1,F2,Bool.true_and,Bool.false_and,Bool.and_false,Bool.and_true]
    go_enter Tryz.func43,Tryz.ntmps43
    go_wp2_with (first|(go_at_call 90;refine (cW _ _ _ _).mono ?_;rintro e w1 ⟨rfl,rfl⟩;simp only [F0,F1,F2]))
    go_ret;exact⟨au E.out.symm,ae _ _⟩
   | true =>
    cases F3:jP m 1 256 with
    | false =>
     have E:Hid (Cf.may ⟨W,o,p,m,q,r,l,s,y,k⟩=false):=by unfold Hid Cf.may;simp only [F0,F1,F2,F3,Bool.true_and,Bool.false_and,Bool.and_false,Bool.and_true]
     go_enter Tryz.func43,Tryz.ntmps43
     go_wp2_with (first|(go_at_call 90;refine (cW _ _ _ _).mono ?_;rintro e w1 ⟨rfl,rfl⟩;simp only [F0,F1,F2,F3]))
     go_ret;exact⟨au E.out.symm,ae _ _⟩
    | true =>
     cases F4:jP q 1 256 with
     | false =>
      have E:Hid (Cf.may ⟨W,o,p,m,q,r,l,s,y,k⟩=false):=by unfold Hid Cf.may;simp only [F0,F1,F2,F3,F4,Bool.true_and,Bool.false_and,Bool.and_false,Bool.and_true]
      go_enter Tryz.func43,Tryz.ntmps43
      go_wp2_with (first|(go_at_call 90;refine (cW _ _ _ _).mono ?_;rintro e w1 ⟨rfl,rfl⟩;simp only [F0,F1,F2,F3,F4]))
      go_ret;exact⟨au E.out.symm,ae _ _⟩
     | true =>
      cases F5:jP r 1 32 with
      | false =>
       have E:Hid (Cf.may ⟨W,o,p,m,q,r,l,s,y,k⟩=false):=by unfold Hid Cf.may;simp only [F0,F1,F2,F3,F4,F5,Bool.true_and,Bool.false_and,Bool.and_false,Bool.and_true]
       go_enter Tryz.func43,Tryz.ntmps43
       go_wp2_with (first|(go_at_call 90;refine (cW _ _ _ _).mono ?_;rintro e w1 ⟨rfl,rfl⟩;simp only [F0,F1,F2,F3,F4,F5]))
       go_ret;exact⟨au E.out.symm,ae _ _⟩
      | true =>
       cases F6:jP l 1 32 with
       | false =>
        have E:Hid (Cf.may ⟨W,o,p,m,q,r,l,s,y,k⟩=false):=by unfold Hid Cf.may;simp only [F0,F1,F2,F3,F4,F5,F6,Bool.true_and,Bool.false_and,Bool.and_false,Bool.and_true]
        go_enter Tryz.func43,Tryz.ntmps43
        go_wp2_with (first|(go_at_call 90;refine (cW _ _ _ _).mono ?_;rintro e w1 ⟨rfl,rfl⟩;simp only [F0,F1,F2,F3,F4,F5,F6]))
        go_ret;exact⟨au E.out.symm,ae _ _⟩
       | true =>
        cases F7:jP s 0 16 with
        | false =>
         have E:Hid (Cf.may ⟨W,o,p,m,q,r,l,s,y,k⟩=false):=by unfold Hid Cf.may;simp only [F0,F1,F2,F3,F4,F5,F6,F7,Bool.true_and,Bool.false_and,Bool.and_false,Bool.and_true]
         go_enter Tryz.func43,Tryz.ntmps43
         go_wp2_with (first|(go_at_call 90;refine (cW _ _ _ _).mono ?_;rintro e w1 ⟨rfl,rfl⟩;simp only [F0,F1,F2,F3,F4,F5,F6,F7]))
         go_ret;exact⟨au E.out.symm,ae _ _⟩
        | true =>
         cases F8:jP y 1 4 with
         | false =>
          have E:Hid (Cf.may ⟨W,o,p,m,q,r,l,s,y,k⟩=false):=by unfold Hid Cf.may;simp only [F0,F1,F2,F3,F4,F5,F6,F7,F8,Bool.true_and,Bool.false_and,Bool.and_false,Bool.and_true]
          go_enter Tryz.func43,Tryz.ntmps43
          go_wp2_with (first|(go_at_call 90;refine (cW _ _ _ _).mono ?_;rintro e w1 ⟨rfl,rfl⟩;simp only [F0,F1,F2,F3,F4,F5,F6,F7,F8]))
          go_ret;exact⟨au E.out.symm,ae _ _⟩
         | true =>
          cases F9:jP k 0 64 with
          | false =>
           have E:Hid (Cf.may ⟨W,o,p,m,q,r,l,s,y,k⟩=false):=by unfold Hid Cf.may;simp only [F0,F1,F2,F3,F4,F5,F6,F7,F8,F9,Bool.true_and,Bool.false_and,Bool.and_false,Bool.and_true]
           go_enter Tryz.func43,Tryz.ntmps43
           go_wp2_with (first|(go_at_call 90;refine (cW _ _ _ _).mono ?_;rintro e w1 ⟨rfl,rfl⟩;simp only [F0,F1,F2,F3,F4,F5,F6,F7,F8,F9]))
           go_ret;exact⟨au E.out.symm,ae _ _⟩
          | true =>
           have E:Hid (Cf.may ⟨W,o,p,m,q,r,l,s,y,k⟩=true):=by unfold Hid Cf.may;simp only [F0,F1,F2,F3,F4,F5,F6,F7,F8,F9,Bool.true_and,Bool.false_and,Bool.and_false,Bool.and_true]
           go_enter Tryz.func43,Tryz.ntmps43
           go_wp2_with (first|(go_at_call 90;refine (cW _ _ _ _).mono ?_;rintro e w1 ⟨rfl,rfl⟩;simp only [F0,F1,F2,F3,F4,F5,F6,F7,F8,F9]))
           go_ret;exact⟨au E.out.symm,ae _ _⟩
end
end Go.Proofs.YtffmodpgddecnaaGreatDoor.V
namespace Go.Proofs.YtffmodpgddecnaaGreatDoor.V
open Go.RowKit
open Go.Proofs.YtffmodpgddecnaaGreatDoor.H (aq Cp)
open Go.Proofs.YtffmodpgddecnaaGreatDoor.M (ba)
section
variable {w w':World}
theorem Ia {b:Nat}{c:Cf}(h:R.Bx w b c.L):(Instr.loadAt 23 (.pointer (some ⟨b,0,none⟩))).run Tryz.prog w=.ok c.v w:=by
 have:=run_loadVar_mid (P:=Tryz.prog) w b 0 23 c.L _ h.range Tryz.underlying23 rfl (by rw [show (Tryz.prog.info? 23).map (·.size)=some 10 by kernel_rfl];rfl)
 simp [Instr.loadAt,Instr.sureAddr,this]
structure E0 where
 A:Ad
 qg:Nat
 qb:Nat
 z:S.pM
 g:Nat
 gb:Nat
 n:Nat
 c:Nat->Nat
 pg:Nat
 cg:Nat
 kn:Nat
 mo:Nat
 e:Int
 pm:Int
 lm:Int
 cs:Nat
 cw:Nat
 W:Int
 base:Nat
def E0.H (E:E0)(lg v kb:Nat):Hd:={ A:=E.A,kn:=E.kn,mo:=E.mo,qg:=E.qg,qb:=E.qb,e:=E.e,z:=E.z,g:=E.g,gb:=E.gb,n:=E.n,c:=E.c,pg:=E.pg,pm:=E.pm,lg:=lg,lm:=E.lm,cg:=E.cg,cs:=E.cs,cw:=E.cw,v:=v,kb:=kb,W:=E.W,base:=E.base }
def sa (mo:Nat)(ks:List Int):aP:={ X:=List.replicate mo tz,l:=[],L:=[],nx:=1,V:=[],t:=0,px:=1,P:=[0],ks:=ks,D:=λ_=>[] }
structure E5 (w:World)(E:E0)(d0 d1 t0 t1 t2 t3 t4 t5:Nat):Prop where
 dr:D.Dr w E.g E.gb E.n E.c 0
 Iq:(d0<=E.g/\E.g<d1)/\(0<E.n->d0<=E.gb/\E.gb<d1)
 st:S.St w E.z 1 []
 KD:∀k,S.Zb E.z k->t0<=k/\k<t1
 cat:ie w E.A E.kn E.mo (List.replicate E.mo tz) []
 Jr:∀k,E.A.jD k->t1<=k/\k<t2
 qu:Q.Qu w E.qg E.qb E.e (E.mo:Int) []
 JA:(t2<=E.qg/\E.qg<t3)/\t2<=E.qb/\E.qb<t3
 pr:∃pa cap,P.Ob w E.base E.pg E.pm 1 pa cap [0]/\∀k,k=E.pg\/aJ pa k->t3<=k/\k<t4
 kc:∃e hi mi,K.Kc w E.cg E.cs E.cw E.kn K.T0 e hi mi
 JR:t4<=E.cg/\E.cg<t5
 ord:0<E.base/\E.base<=d0/\d0<=d1/\d1<=t0/\t0<=t1/\t1<=t2/\t2<=t3/\t3<=t4/\t4<=t5/\t5<=w.heap.size
 mM:1<=E.mo/\E.mo<=256
 laid:D.Laid w
variable {E:E0}{d0 d1 t0 t1 t2 t3 t4 t5:Nat}
theorem E5.but (h:E5 w E d0 d1 t0 t1 t2 t3 t4 t5)(hb:ah (λk=>k=E.cg) w w')(hk:∃e hi mi,K.Kc w' E.cg E.cs E.cw E.kn K.T0 e hi mi):E5 w' E d0 d1 t0 t1 t2 t3 t4 t5:=by
 have ho:=h.ord
 have hc:=h.JR
 refine { h with dr:=h.dr.vW hb (by have:=h.Iq;omega) (λh0=>by have:=h.Iq;have:=h.Iq.2 h0;omega),st:=h.st.but hb (λk hk e=>by have:=h.KD k hk;omega) (λk hk=>by obtain⟨o,ho,_⟩:=hk;cases ho),cat:=h.cat.but hb (λk hk e=>by have:=h.Jr k hk;omega),qu:=h.qu.but hb (by have:=h.JA;omega) (by have:=h.JA;omega),pr:=?_,kc:=hk,ord:=⟨ho.1,ho.2.1,ho.2.2.1,ho.2.2.2.1,ho.2.2.2.2.1,ho.2.2.2.2.2.1,ho.2.2.2.2.2.2.1,ho.2.2.2.2.2.2.2.1,ho.2.2.2.2.2.2.2.2.1,Nat.le_trans ho.2.2.2.2.2.2.2.2.2 hb.size⟩,laid:=?_ }
 ·obtain⟨pa,cap,h1,h2⟩:=h.pr
  exact⟨pa,cap,h1.but hb (λe=>by have:=h2 _ (.inl rfl);omega) (λk hk e=>by have:=h2 k (.inr hk);omega),h2⟩
 ·exact ag hb h.laid (by simp only [];omega)
def E0.M (E:E0)(d0 d1 t0 t1 t2 t3 t4 t5 lg v kb:Nat):Nat->Nat->Prop
 | 0=>λk=>t1<=k/\k<t2
 | 1=>λk=>t2<=k/\k<t3
 | 2=>λk=>t0<=k/\k<t1
 | 3=>λk=>d0<=k/\k<d1
 | 4=>λk=>t3<=k/\k<t4
 | 5=>λk=>k=lg
 | 6=>λk=>(t4<=k/\k<t5)\/k=v
 | 7=>λk=>k=kb
 | _=>λ_=>False
theorem E5.KJ (h:E5 w E d0 d1 t0 t1 t2 t3 t4 t5){lg v kb:Nat}(hlg:t5<=lg/\lg<w.heap.size)(hv:t5<=v/\v<w.heap.size)(hkb:t5<=kb/\kb<w.heap.size)(hne:lg≠v/\lg≠kb/\v≠kb)(hmap:w.ownsMap Tryz.prog 3 S.hr lg 0 (.map []))(hva:L.Va w v E.cg E.A.g)(hK:Kb w (E.H lg v kb)) :
  aI w (E.H lg v kb) (sa E.mo []) K.T0 (λk=>(d0<=k/\k<d1)\/(t0<=k/\k<w.heap.size)):=by
 have ho:=h.ord
 obtain⟨df,hcol⟩:∃df:Nat->Nat,df=λk=>if k<d1 then 3 else if k<t1 then 2 else if k<t2 then 0 else if k<t3 then 1 else if k<t4 then 4 else if k<t5 then 6 else if k=lg then 5 else if k=v then 6 else 7:=⟨_,rfl⟩
 have key:∀i k,E.M d0 d1 t0 t1 t2 t3 t4 t5 lg v kb i k->df k=i:=by
  intro i k hk;rw [hcol];simp only [];match i,hk with
  | 0,hk=>simp only [E0.M] at hk;repeat (first|rw [if_neg (by omega)]|rw [if_pos (by omega)])
  | 1,hk=>simp only [E0.M] at hk;repeat (first|rw [if_neg (by omega)]|rw [if_pos (by omega)])
  | 2,hk=>simp only [E0.M] at hk;repeat (first|rw [if_neg (by omega)]|rw [if_pos (by omega)])
  | 3,hk=>simp only [E0.M] at hk;repeat (first|rw [if_neg (by omega)]|rw [if_pos (by omega)])
  | 4,hk=>simp only [E0.M] at hk;repeat (first|rw [if_neg (by omega)]|rw [if_pos (by omega)])
  | 5,hk=>simp only [E0.M] at hk;repeat (first|rw [if_neg (by omega)]|rw [if_pos (by omega)])
  | 6,hk =>
   simp only [E0.M] at hk;by_cases h5:k<t5
   ·repeat (first|rw [if_neg (by omega)]|rw [if_pos (by omega)])
   ·repeat (first|rw [if_neg (by omega)]|rw [if_pos (by omega)])
  | 7,hk=>simp only [E0.M] at hk;repeat (first|rw [if_neg (by omega)]|rw [if_pos (by omega)])
 refine⟨E.M d0 d1 t0 t1 t2 t3 t4 t5 lg v kb,?_,λi j k h1 h2=>by rw [<-key i k h1,key j k h2],?_,λk hk=>⟨by rcases hk with hk|hk<;>(show E.base<=k;omega),by omega⟩,h.mM,h.laid,⟨ho.1,(by show E.base<=_;omega)⟩⟩
 ·intro i
  match i with
  | 0=>exact⟨h.cat,h.Jr⟩
  | 1=>exact⟨h.qu,λk hk=>by rcases hk with rfl|rfl;exact h.JA.1;exact h.JA.2⟩
  | 2=>exact⟨[],h.st,rfl,λk hk=>by rcases hk with hk|⟨o,ho,_⟩;exact h.KD k hk;cases ho⟩
  | 3=>exact⟨h.dr,λk hk=>by rcases hk with rfl|⟨h0,rfl⟩;exact h.Iq.1;exact h.Iq.2 h0⟩
  | 4=>exact h.pr
  | 5=>exact⟨λ_=>0,λ_=>none,λ_=>0,λ_=>0,⟨hmap,λi hi=>(by cases hi),λi hi=>(by cases hi)⟩,λk hk=>by rcases hk with hk|⟨i,hi,_⟩;exact hk;cases hi⟩
  | 6=>exact⟨h.kc,hva,.inl h.JR,.inr rfl,by have:=h.JR;show v≠E.cg;omega⟩
  | 7=>exact⟨hK,rfl⟩
  | _+8=>trivial
 ·intro i k hk
  match i,hk with
  | 0,hk=>simp only [E0.M] at hk;omega
  | 1,hk=>simp only [E0.M] at hk;omega
  | 2,hk=>simp only [E0.M] at hk;omega
  | 3,hk=>simp only [E0.M] at hk;omega
  | 4,hk=>simp only [E0.M] at hk;omega
  | 5,hk=>simp only [E0.M] at hk;omega
  | 6,hk=>simp only [E0.M] at hk;omega
  | 7,hk=>simp only [E0.M] at hk;omega
end
section
variable {w w':World}
def Em (E:E0)(w5 U:World)(kb:Nat):Prop:=∃lg v,(w5.heap.size<=lg/\lg<U.heap.size)/\(w5.heap.size<=v/\v<U.heap.size)/\(w5.heap.size<=kb/\kb<U.heap.size)/\(lg≠v/\lg≠kb/\v≠kb)/\U.ownsMap Tryz.prog 3 S.hr lg 0 (.map [])/\L.Va U v E.cg E.A.g/\Kb U (E.H lg v kb)/\(∃e hi mi,K.Kc U E.cg E.cs E.cw E.kn K.T0 e hi mi)/\ah (λk=>k=E.cg) w5 U
theorem Em.first {E:E0}{w5 u1:World}(hcg:E.cg<w5.heap.size){v:Nat}(hva:L.Va u1 v E.cg E.A.g)(hkc:∃e hi mi,K.Kc u1 E.cg E.cs E.cw E.kn K.T0 e hi mi)(hv:(w5.drew.alloc (Obj.map #[] 0)).heap.size<=v)(hb:ah (λk=>k=E.cg) (w5.drew.alloc (Obj.map #[] 0)) u1) :
  Em E w5 (u1.alloc (Obj.cells (E.H w5.heap.size v u1.heap.size).kc.toArray 100)) u1.heap.size:=by
 have hs:=hb.size
 simp only [World.size_alloc] at hs hv;have hs5:w5.drew.heap.size=w5.heap.size:=rfl
 have hvl:=hva.lt
 have hm0:(w5.drew.alloc (Obj.map #[] 0)).ownsMap Tryz.prog 3 S.hr w5.heap.size 0 (.map []):=World.ownsMap_made w5.drew _ _ _
 have hB1:=ae u1 (Obj.cells (E.H w5.heap.size v u1.heap.size).kc.toArray 100)
 refine⟨w5.heap.size,v,⟨Nat.le_refl _,by simp;omega⟩,⟨by omega,by simp;omega⟩,⟨by omega,by simp⟩,⟨by omega,by omega,by omega⟩,?_,hva.later hB1,λj x hx=>?_,?_,?_⟩
 ·exact S.bC (ah.of (S:=λ_=>False) hB1) (S.bC hb hm0 (by omega)) (λh=>h)
 ·exact (S.aH u1 _ _ j x (by simpa using hx)).1
 ·obtain⟨e,hi,mi,hk⟩:=hkc
  exact⟨e,hi,mi,hk.later hB1⟩
 ·have h1:ah (λk=>k=E.cg) w5 (w5.drew.alloc (Obj.map #[] 0)):=ah.of ((Below.refl _ _).drew.alloc (Nat.le_refl _) _)
  exact (h1.trans hb).trans (ah.of hB1)
theorem Em.oc {E:E0}{w5 u1:World}(hcg:E.cg<w5.heap.size){v:Nat}(hva:L.Va u1 v E.cg E.A.g)(hkc:∃e hi mi,K.Kc u1 E.cg E.cs E.cw E.kn K.T0 e hi mi)(hv:w5.drew.heap.size<=v)(hb:ah (λk=>k=E.cg) w5.drew u1) :
  Em E w5 ((u1.alloc (Obj.map #[] 0)).alloc (Obj.cells (E.H u1.heap.size v (u1.heap.size+1)).kc.toArray 100)) (u1.heap.size+1):=by
 have hs:=hb.size
 have hs5:w5.drew.heap.size=w5.heap.size:=rfl
 have hvl:=hva.lt
 have hm0:(u1.alloc (Obj.map #[] 0)).ownsMap Tryz.prog 3 S.hr u1.heap.size 0 (.map []):=World.ownsMap_made u1 _ _ _
 have hB1:=ae (u1.alloc (Obj.map #[] 0)) (Obj.cells (E.H u1.heap.size v (u1.heap.size+1)).kc.toArray 100)
 have hB2:=aC u1 (Obj.map #[] 0) (Obj.cells (E.H u1.heap.size v (u1.heap.size+1)).kc.toArray 100)
 refine⟨u1.heap.size,v,⟨by omega,by simp;omega⟩,⟨by omega,by simp;omega⟩,⟨by omega,by simp⟩,⟨by omega,by omega,by omega⟩,?_,hva.later hB2,λj x hx=>?_,?_,?_⟩
 ·exact S.bC (ah.of (S:=λ_=>False) hB1) hm0 (λh=>h)
 ·have:=(S.aH (u1.alloc (Obj.map #[] 0)) (E.H u1.heap.size v (u1.heap.size+1)).kc.toArray 100 j x (by simpa using hx)).1
  rw [World.size_alloc] at this;exact this
 ·obtain⟨e,hi,mi,hk⟩:=hkc
  exact⟨e,hi,mi,hk.later hB2⟩
 ·have h1:ah (λk=>k=E.cg) w5 w5.drew:=ah.of (Below.refl _ _).drew
  exact (h1.trans hb).trans (ah.of hB2)
theorem xB (g gb n:Nat)(cf:Nat->Nat)(W:Int)(room rZ mo:Nat)(e pm lm:Int)(cs cw kn:Nat)(w:World)(base d0:Nat)(hdr:D.Dr w g gb n cf 0)(hdm:d0<=g/\(0<n->d0<=gb))(h0:0<base/\base<=d0/\d0<=w.heap.size)(hl:D.Laid w)
  (b1:1<=room/\room<=64) (b2:1<=rZ/\rZ<=256) (b3:1<=mo/\mo<=256) (b4:1<=e/\e<=256) (b5:1<=pm/\pm<=32) (b6:1<=lm/\lm<=32) (b7:cs<=16) (b8:1<=cw/\cw<=4) (b9:kn<=64) :
  Calls Tryz.prog 45 #[(Cf.mk W (room:Int) (rZ:Int) (mo:Int) e pm lm (cs:Int) (cw:Int) (kn:Int)).v,.pointer (some ⟨g,0,none⟩)] w λe' w'=>∃H N,e'=.returned (.pointer (some ⟨H.kb,0,none⟩))/\aI w' H (sa mo [0]) K.T0 N/\H.p=⟨mo,e,n,cf,room,rZ,pm,lm,W⟩/\H.cf=(Cf.mk W (room:Int) (rZ:Int) (mo:Int) e pm lm (cs:Int) (cw:Int) (kn:Int)).L/\(∀k,N k->d0<=k)/\ah (λk=>d0<=k) w w':=by
 obtain⟨W0,hW⟩:∃W0,W0=w.alloc (Obj.cells (Cf.mk W (room:Int) (rZ:Int) (mo:Int) e pm lm (cs:Int) (cw:Int) (kn:Int)).L.toArray 23):=⟨_,rfl⟩
 have hB:Below w.heap.size w W0:=by rw [hW];exact ae _ _
 have Qr:Hid (W0.heap.size=w.heap.size+1):=by unfold Hid;rw [hW];simp
 have HX:Hid (∀U,Below W0.heap.size W0 U->R.Bx U w.heap.size (Cf.mk W (room:Int) (rZ:Int) (mo:Int) e pm lm (cs:Int) (cw:Int) (kn:Int)).L):=λU hU=>by rw [hW] at hU;exact R.Bx.later hU (R.Bx.new w (Cf.mk W (room:Int) (rZ:Int) (mo:Int) e pm lm (cs:Int) (cw:Int) (kn:Int)).L 23)
 have QQ:=ab hdr
 have RT:=ab hdm
 have H0:=ab h0
 have P5:=ab hl
 have HG:Hid (g<w.heap.size/\(0<n->gb<w.heap.size)):=⟨hdr.lt,λh=>hdr.po h⟩
 have To:=ab (S.Fh room rZ W0 b1 b2)
 have WS:=ab (λU=>Ef U mo kn b3.1 b3.2 b9)
 have Sj:=ab (λU=>Q.bU e (mo:Int) U ⟨b4,by omega,by omega⟩)
 have UB:=ab (λU=>P.bU pm U b5.1 b5.2)
 have Wi:=ab (λU=>K.JV cs cw kn U b7 b8.1 b8.2 b9)
 have HB:=ab hB
 have HW:=ab hW
 have S5:=ab (And.intro b3 b6)
 clear hdr hdm h0 hl hB hW b1 b2 b3 b4 b5 b6 b7 b8 b9;unfold Cf.v Cf.L;go_enter Tryz.func45,Tryz.ntmps45
 go_upto_region 1 with fail
 have hW':=HW.out
 unfold Cf.L at hW';rw [<-hW'];clear hW';have x1:=(HX.out W0 (Below.refl _ _)).cell 1 rfl
 have x2:=(HX.out W0 (Below.refl _ _)).cell 2 rfl
 simp only [] at x1 x2;go_upto_region 2 with (first|(go_at_call 92;refine To.out.mono ?_;rintro e1 w1 ⟨z,rfl,rfl,rfl,hst,hzb,hb⟩;have Q5:=ab hst;have WZ:=ab hzb;have PC:=ab hb;clear hst hzb hb))
 clear x1 x2;have x3:=(HX.out w1 PC.out).cell 3 rfl
 have x9:=(HX.out w1 PC.out).cell 9 rfl
 simp only [] at x3 x9;go_upto_region 3 with (first|(go_at_call 93;refine (WS.out w1).mono ?_;rintro e1 w2 ⟨A,rfl,hca,hall,hb⟩;have TX:=ab hca;have Qg:=ab hall;have PB:=ab hb;clear hca hall hb))
 clear x3 x9;have QO:Hid (Below W0.heap.size W0 w2):=aa PC.out PB.out
 have x3:=(HX.out w2 QO.out).cell 3 rfl
 have x4:=(HX.out w2 QO.out).cell 4 rfl
 simp only [] at x3 x4;go_upto_region 4 with (first|(go_at_call 94;refine (Sj.out w2).mono ?_;rintro e1 w3 ⟨qg,qb,rfl,hqu,hq1,hq2,hb⟩;have U9:=ab hqu;have VU:=ab (And.intro hq1 hq2);have PE:=ab hb;clear hqu hq1 hq2 hb))
 clear x3 x4;have QB:Hid (Below W0.heap.size W0 w3):=aa QO.out PE.out
 have x5:=(HX.out w3 QB.out).cell 5 rfl
 simp only [] at x5;go_upto_region 5 with (first|(go_at_call 95;refine (UB.out w3).mono ?_;rintro e1 w4 ⟨pg,pa,pc,rfl,hpr,hb⟩;have RN:=ab hpr;have PM:=ab hb;clear hpr hb))
 clear x5;have SK:Hid (Below W0.heap.size W0 w4):=aa QB.out PM.out
 have x7:=(HX.out w4 SK.out).cell 7 rfl
 have x8:=(HX.out w4 SK.out).cell 8 rfl
 have x9:=(HX.out w4 SK.out).cell 9 rfl
 simp only [] at x7 x8 x9;go_upto_region 6 with (first|(go_at_call 96;refine (Wi.out w4).mono ?_;rintro e1 w5 ⟨cg,rfl,hkc,hcg,hb⟩;have TW:=ab hkc;have SE:=ab hcg;have PI:=ab hb;clear hkc hcg hb))
 clear x7 x8 x9;have QJ:Hid (Below W0.heap.size W0 w5):=aa SK.out PI.out
 obtain⟨E,hE⟩:∃E:E0,E={ A:=A,qg:=qg,qb:=qb,z:=z,g:=g,gb:=gb,n:=n,c:=cf,pg:=pg,cg:=cg,kn:=kn,mo:=mo,e:=e,pm:=pm,lm:=lm,cs:=cs,cw:=cw,W:=W,base:=base }:=⟨_,rfl⟩
 have WO:Hid (E5 w5 E d0 w.heap.size W0.heap.size w1.heap.size w2.heap.size w3.heap.size w4.heap.size w5.heap.size):=by
  have s0:=Qr.out
  have s1:=PC.out.size
  have s2:=PB.out.size
  have s3:=PE.out.size
  have s4:=PM.out.size
  have s5:=PI.out.size
  have h0:=H0.out
  have B25:Below w2.heap.size w2 w5:=aa PE.out (aa PM.out PI.out)
  rw [hE];refine⟨QQ.out.later (aa HB.out QJ.out),⟨⟨RT.out.1,HG.out.1⟩,λh=>⟨RT.out.2 h,HG.out.2 h⟩⟩,Q5.out.later (aa PB.out B25),WZ.out,TX.out.later B25,λk hk=>⟨Qg.out k hk,TX.out.lt k hk⟩,U9.out.later (aa PM.out PI.out),⟨⟨VU.out.1,U9.out.B9⟩,VU.out.2,U9.out.blt⟩,⟨pa,pc,?_,λk hk=>?_⟩,⟨_,_,_,TW.out⟩,⟨SE.out,TW.out.lt⟩,⟨h0.1,h0.2.1,h0.2.2,by omega,by omega,by omega,by omega,by omega,by omega,Nat.le_refl _⟩,S5.out.1,cell_later (aa HB.out QJ.out) P5.out⟩
  ·have:=RN.out.later PI.out
   exact⟨this.c0,this.c1,this.c2,this.own.mono (by show base<=_;omega),this.ap,by have h9:w3.heap.size<=pg:=this.lo;show base<=pg;omega⟩
  ·rcases hk with rfl|hk
   ·exact⟨RN.out.lo,RN.out.lt⟩
   ·exact⟨RN.out.own.bT k hk,RN.out.own.lt k hk⟩
 have HEq:=ab hE
 have TS:Hid (∀U,Below w5.heap.size w5 U->Calls Tryz.prog 97 #[.pointer (some ⟨A.g,0,none⟩),.pointer (some ⟨cg,0,none⟩)] U λe' w'=>∃v,e'=.returned (.pointer (some ⟨v,0,none⟩))/\L.Va w' v E.cg E.A.g/\(∃e hi mi,K.Kc w' E.cg E.cs E.cw E.kn K.T0 e hi mi)/\U.heap.size<=v/\ah (λk=>k=E.cg) U w'):=λU hU=>by
  rw [hE];exact L.zG (TW.out.later hU)
 have Q4:Hid (E.cg<w5.heap.size):=by rw [hE];exact TW.out.lt
 have Su:Hid (∀U,ah (λk=>k=E.cg) w5 U->(R.Bx U w.heap.size (Cf.mk W (z.room:Int) (z.n:Int) (mo:Int) e pm lm (cs:Int) (cw:Int) (kn:Int)).L)):=λU hU=>R.Bx.but hU (HX.out w5 QJ.out) (λe=>by
  have h1:=SE.out
  have h2:=Qr.out
  have h3:=SK.out.size
  rw [hE] at e;simp only [] at e;omega)
 have hmm:=@run_makeMap Tryz.prog
 clear hE;go_cut [15] (λs15 U=>∃kb,s15=.pointer (some ⟨kb,0,none⟩)/\Hid (Em E w5 U kb))
 case first =>
  refine wp_region_held_drew (S:=(λU:World=>(R.Bx U w.heap.size (Cf.mk W (z.room:Int) (z.n:Int) (mo:Int) e pm lm (cs:Int) (cw:Int) (kn:Int)).L))) (by kernel_rfl) (Su.out _ (ah.of (Below.refl _ _).drew)) (λhHeld=>?_)
  refine nm 13 0 13 ?_
  refine tv 0 (v:=.agg #[.int .i64 W,.int .i64 (z.room:Int),.int .i64 (z.n:Int),.int .i64 (mo:Int),.int .i64 e,.int .i64 pm,.int .i64 lm,.int .i64 (cs:Int),.int .i64 (cw:Int),.int .i64 (kn:Int)]) ?_ ?_
  ·(intro w hSw;(try dsimp only at hSw);exact K.fK rfl rfl (Ia hSw))
  simp only [zz];refine nm 13 1 12 ?_
  refine tn 1 13 3 11 ?_
  simp only [zz];refine tn 2 13 7 10 ?_
  simp only [zz];refine tn 3 13 15 9 ?_
  simp only [zz];refine tn 4 13 31 8 ?_
  simp only [zz];refine tn 5 13 63 7 ?_
  simp only [zz];refine tn 7 13 191 6 ?_
  simp only [zz];refine tn 8 13 447 5 ?_
  simp only [zz];refine wpAnyH_ready (rs:=[6,9]) (by kernel_rfl) (by simp) ?_
  refine AllReadyH.cons rfl (λK hK=>?_) ?_
  ·go_simp
   refine zk hK 13 511 4 (Su.out _ (ah.of ((Below.refl _ _).drew.alloc (Nat.le_refl _) _))) λhHeld=>?_
   clear hK K;try simp only [zz]
   refine zr 9 λK hK=>?_
   go_simp
   go_wp2_with (first|(go_at_call 97;refine (TS.out (w5.drew.alloc (Obj.map #[] 0)) ((Below.refl _ _).drew.alloc (Nat.le_refl _) _)).mono ?_;rintro e1 u1 ⟨v,rfl,hva,hkc,hv,hb⟩;have TQ:=ab hva;have Tu:=ab hkc;have Tc:=ab hv;have Qc:=ab hb;have RZ:Hid (ah (λk=>k=E.cg) w5 u1):=(ah.of ((Below.refl _ _).drew.alloc (Nat.le_refl _) _)).trans hb;clear hva hkc hv hb))
   refine zk hK 13 1023 3 (Su.out u1 RZ.out) λhHeld=>?_
   clear hK K;try simp only [zz]
   refine tn 10 13 2047 2 ?_
   simp only [zz];refine zr 11 λK hK=>?_
   go_simp
   refine zk hK 13 4095 1 (Su.out _ (RZ.out.trans (ah.of (ae _ _)))) λhHeld=>?_
   clear hK K;try simp only [zz]
   refine tn 12 13 8191 0 ?_
   simp only [zz];refine zn ?_ _
   go_wp2;go_meet;first|(exact⟨_,rfl,by have h:=Em.first Q4.out TQ.out Tu.out Tc.out Qc.out;rw [HEq.out] at h ⊢;exact h⟩)|(exact⟨_,rfl,by have h:=Em.oc Q4.out TQ.out Tu.out Tc.out Qc.out;rw [HEq.out] at h ⊢;exact h⟩)
  refine AllReadyH.cons rfl (λK hK=>?_) AllReadyH.nil
  go_simp
  go_wp2_with (first|(go_at_call 97;refine (TS.out w5.drew (Below.refl _ _).drew).mono ?_;rintro e1 u1 ⟨v,rfl,hva,hkc,hv,hb⟩;have TQ:=ab hva;have Tu:=ab hkc;have Tc:=ab hv;have Qc:=ab hb;have RZ:Hid (ah (λk=>k=E.cg) w5 u1):=(ah.of (Below.refl _ _).drew).trans hb;clear hva hkc hv hb))
  refine zk hK 13 959 4 (Su.out u1 RZ.out) λhHeld=>?_
  clear hK K;try simp only [zz]
  refine zr 6 λK hK=>?_
  go_simp
  refine zk hK 13 1023 3 (Su.out _ (RZ.out.trans (ah.of (ae _ _)))) λhHeld=>?_
  clear hK K;try simp only [zz]
  refine tn 10 13 2047 2 ?_
  simp only [zz];refine zr 11 λK hK=>?_
  go_simp
  refine zk hK 13 4095 1 (Su.out _ (RZ.out.trans (ah.of (aC _ _ _)))) λhHeld=>?_
  clear hK K;try simp only [zz]
  refine tn 12 13 8191 0 ?_
  simp only [zz];refine zn ?_ _
  go_wp2;go_meet;first|(exact⟨_,rfl,by have h:=Em.first Q4.out TQ.out Tu.out Tc.out Qc.out;rw [HEq.out] at h ⊢;exact h⟩)|(exact⟨_,rfl,by have h:=Em.oc Q4.out TQ.out Tu.out Tc.out Qc.out;rw [HEq.out] at h ⊢;exact h⟩)
 case rest =>
  rename World=>u
  obtain⟨kb,rfl,hEm⟩:=hcut
  obtain⟨lg,v,hlg,hv,hkb,hne,hmap,hva,hK,hkc,hbt⟩:=hEm.out
  have hE5:=WO.out.but hbt hkc
  have hD:=hE5.KJ hlg hv hkb hne hmap hva hK
  have hlm:E.lm=lm:=by rw [HEq.out]
  have mM:E.mo=mo:=by rw [HEq.out]
  have HA:Hid (Calls Tryz.prog 98 #[.pointer (some ⟨kb,0,none⟩),.int .i64 0,.slice none 0 0] u λe w'=>e=.returned (.int .i64 0)/\∃N',aI w' (E.H lg v kb) { sa E.mo [] with ks:=[]++[0],D:=fW (λ_=>[]) 0 [] } K.T0 N'/\aK u (λk=>(d0<=k/\k<w.heap.size)\/(W0.heap.size<=k/\k<u.heap.size)) w' N') :=
   vg hD (by show E.lm<=32/\1<=E.lm;rw [hlm];exact⟨S5.out.2.2,S5.out.2.1⟩) 0 (by simp [sa]) (by omega) (by simp [sa]) (K:=[]) (Ow.rd (Ow.nil u 0 37 3) rfl) (by show ((0:Nat):Int)<=E.lm;rw [hlm];have:=S5.out.2.1;omega)
  have hst:({ sa E.mo [] with ks:=[]++[0],D:=fW (λ_=>[]) 0 [] }:aP)=sa mo [0]:=by
   have e1:fW (λ_=>([]:List Cp)) 0 []=λ_=>[]:=by funext j;simp [fW]
   rw [e1,mM];rfl
  rw [hst] at HA;have PH:=ab hbt
  clear hEm hlg hv hkb hne hmap hva hK hkc hbt hE5 hD hlm mM hst;go_wp2_with (first|(go_at_call 98;refine HA.out.mono ?_;rintro e1 u2 ⟨rfl,N2,hd2,hw2⟩;have Qn:=ab hd2;have Qd:=ab hw2;clear hd2 hw2))
  have h0:=H0.out
  have hws:=Qr.out
  have hcg:W0.heap.size<=E.cg:=by rw [HEq.out];exact Nat.le_trans SK.out.size SE.out
  have hb1:ah (λk=>d0<=k) w u:=(ah.of (aa HB.out QJ.out)).trans (PH.out.mono (λk e=>by omega))
  refine bodyPost_ret (v:=.pointer (some ⟨kb,0,none⟩)) (by simp [results,Tryz.results45,go_sem]) rfl ⟨E.H lg v kb,N2,rfl,Qn.out,by rw [HEq.out];rfl,by rw [HEq.out];rfl,λk hk=>?_,hb1.trans (Qd.out.2.mono (λk hk=>by omega))⟩
  have:=hb1.size
  rcases Qd.out.1 k hk with h1|h1<;>omega
end
end Go.Proofs.YtffmodpgddecnaaGreatDoor.V
