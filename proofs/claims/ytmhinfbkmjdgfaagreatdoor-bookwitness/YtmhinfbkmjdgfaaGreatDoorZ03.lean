import Derived.RangeFuncNested
import Derived.RangeFuncBound
import Derived.RangeFuncCalls
import Derived.RangeFuncLeaves
import Derived.Shelf.Abstract
import Derived.Shelf.RegionOpen
import Derived.OwnWalkIn
import Derived.TacticsInMore
import Derived.LoopNIn
import Derived.LoopIn
import Derived.Test.YtmhinfbkmjdgfaaGreatDoorZ02
set_option linter.unusedVariables false
set_option linter.unusedSimpArgs false
set_option maxRecDepth 100000
set_option maxHeartbeats 2000000
namespace Go.Proofs.YtmhinfbkmjdgfaaGreatDoor
open Go.RowKit H
variable {A:Ad}{c:Cp}{l:Fo}{T:List (Cp×Int)}{X:List Tk}{kn m mo:Nat}{w w':World}
theorem Ee (h:Cm w A kn mo T X l)(n:Int)(hn:n∉aF l) :
  Calls Tryz.prog 241 #[aq A.g,ab n] w λe w'=>e=.returned (.tuple #[wP (0,0,0) 0 0,.bool false])/\Below w.heap.size w w':=by
 obtain⟨w0,hw0⟩:∃w0,w0=w.alloc (Obj.cells #[ab 0,ai 0,ai 0,ab 0,ab 0] 138):=⟨_,rfl⟩
 have hB0:Below w.heap.size w w0:=by rw [hw0];exact ag _ _
 have hh:=ae (fP (h.later hB0) n)
 rw [decide_eq_false hn] at hh;obtain⟨⟨r0,f0⟩,⟨r1,f1⟩,⟨r2,f2⟩,⟨r3,f3⟩,⟨r4,f4⟩⟩:aM w0 ⟨w.heap.size,0,none⟩ (ab 0)/\aM w0 ⟨w.heap.size,1,none⟩ (ai 0)/\aM w0 ⟨w.heap.size,2,none⟩ (ai 0)/\aM w0 ⟨w.heap.size,3,none⟩ (ab 0)/\aM w0 ⟨w.heap.size,4,none⟩ (ab 0):=by
  rw [hw0];exact⟨⟨by simp [go_sem],by simp [go_sem]⟩,⟨by simp [go_sem],by simp [go_sem]⟩,⟨by simp [go_sem],by simp [go_sem]⟩,⟨by simp [go_sem],by simp [go_sem]⟩,⟨by simp [go_sem],by simp [go_sem]⟩⟩
 have HB:Hid (∀W,aj (·=w.heap.size) w0 W->Below w.heap.size w W):=λW hW=>aj.below hB0 hW (λk e=>by omega)
 clear h hB0 hn;go_enter Tryz.func241,Tryz.ntmps241
 go_upto_region 1 with fail
 rw [<-hw0];clear hw0;go_wp2_with (first|(go_at_call 311;refine hh.out.mono ?_;rintro e w9 ⟨rfl,hw9⟩;obtain rfl:=hw9.symm;clear hw9))
 exact bodyPost_ret (v:=.tuple #[wP (0,0,0) 0 0,.bool false]) (by simp [results,Tryz.results241,go_sem,r0,r1,r2,r3,r4]) rfl ⟨rfl,HB.out _ (pT (S:=(·=w.heap.size)) (aj.refl _ _) (b:=w.heap.size) rfl (0,0,0) 0 0)⟩
def Cu (w:World)(X:List Tk)(l:Fo)(o:Int)(mo:Nat)(t:Value)(w':World):Prop :=
 ∃i:Nat,t=ab (i:Int)/\i<=mo/\Hid (∀j:Nat,j<i->((j:Int),-1)∈l->ob X (j:Int)≠o)/\Below w.heap.size w w'
theorem nt (h:Cm w A kn mo T X l)(o:Int) :
  Calls Tryz.prog 239 #[aq A.g,ab o] w λe w'=>((∃r,(r,-1)∈l/\ob X r=o/\e=.returned (.tuple #[ab r,.bool true]))\/((∀r,(r,-1)∈l->ob X r≠o)/\e=.returned (.tuple #[ab 0,.bool false])))/\Below w.heap.size w w':=by
 have uA:=h.small
 have x1:=h.c1
 have HH:=ae h
 have hok:=ae h.wW.ok
 clear h;go_enter Tryz.func239,Tryz.ntmps239
 go_upto_region 2 with fail
 go_loopw [14] (Cu w X l o mo) (λk _=>mo - (intOf k).toNat)
 case atStart=>exact⟨0,rfl,Nat.zero_le _,λj hj=>by omega,Below.refl _ _⟩
 case round =>
  obtain⟨i,rfl,hi,hx,hB⟩:=hrel
  by_cases hlt:i<mo
  ·have hM:=HH.out.later hB
   obtain⟨e0,e1,e2,e3⟩:=hM.at_ hlt
   have hobx:(tk X (i:Int)).1.1=ob X (i:Int):=rfl
   rw [hobx] at e0;obtain⟨w1,hw1⟩:∃w1,w1=wr.alloc (Obj.cells #[ab (ob X (i:Int)),ai ((tk X (i:Int)).1.2.1:Int),ai ((tk X (i:Int)).1.2.2:Int),ab (tk X (i:Int)).2] 440):=⟨_,rfl⟩
   have hB1:Below wr.heap.size wr w1:=by rw [hw1];exact ag _ _
   have OI:=ae (aa hB hB1)
   have z0:w1.cell? ⟨wr.heap.size,0,none⟩=some (ab (ob X (i:Int))):=by rw [hw1];simp [go_sem]
   have hh:=ae (fP (hM.later hB1) (i:Int))
   have hp:=ae (λp (hp:((i:Int),p)∈l)=>qR (hM.later hB1) (i:Int) p hp)
   clear hM hB1 hobx hB;generalize hoo:ob X (i:Int)=oo at *
   generalize ((tk X (i:Int)).1.2.1:Int)=u1 at *
   generalize ((tk X (i:Int)).1.2.2:Int)=u2 at *
   generalize (tk X (i:Int)).2=u3 at *
   have VW:=ae hoo
   clear hoo;go_upto_region 4 with fail
   rw [<-hw1];clear hw1 e0 e1 e2 e3;by_cases hq:oo=o
   ·have hb:(oo==o)=true:=by simp [hq]
    by_cases hin:(i:Int)∈aF l
    ·rw [decide_eq_true hin] at hh
     obtain⟨p,hpl⟩:=aL.1 hin
     have hp1:=ae (hp.out p hpl)
     by_cases hp0:p=-1
     ·subst hp0
      have WV:=ae hpl
      clear hpl hin hp;go_wp2_with (first|(go_at_call 311;refine hh.out.mono ?_;rintro e w9 ⟨rfl,hw9⟩;obtain rfl:=hw9.symm;clear hw9)|(go_at_call 312;refine hp1.out.mono ?_;rintro e w9 ⟨rfl,hw9⟩;obtain rfl:=hw9.symm;clear hw9))
      exact bodyPost_ret (v:=.tuple #[ab (i:Int),.bool true]) (by simp [results,Tryz.results239,go_sem]) rfl ⟨.inl ⟨(i:Int),WV.out,by rw [VW.out];exact hq,rfl⟩,OI.out⟩
     ·have hb2:(p==(-1:Int))=false:=by simp [hp0]
      have hx1:Hid (∀j:Nat,j<i+1->((j:Int),-1)∈l->ob X (j:Int)≠o):=λj hj hjl=>by
       by_cases e:j=i
       ·subst e;exact absurd (hok.out.uniq hpl hjl) hp0
       ·exact hx.out j (by omega) hjl
      clear hpl hin hp;go_wp2_with (first|(go_at_call 311;refine hh.out.mono ?_;rintro e w9 ⟨rfl,hw9⟩;obtain rfl:=hw9.symm;clear hw9)|(go_at_call 312;refine hp1.out.mono ?_;rintro e w9 ⟨rfl,hw9⟩;obtain rfl:=hw9.symm;clear hw9))
      refine⟨⟨i+1,by go_num,by omega,hx1,OI.out⟩,by simp [intOf];omega⟩
    ·rw [decide_eq_false hin] at hh
     have hx1:Hid (∀j:Nat,j<i+1->((j:Int),-1)∈l->ob X (j:Int)≠o):=λj hj hjl=>by
      by_cases e:j=i
      ·subst e;exact absurd (aL.2 ⟨_,hjl⟩) hin
      ·exact hx.out j (by omega) hjl
     clear hin hp;go_wp2_with (first|(go_at_call 311;refine hh.out.mono ?_;rintro e w9 ⟨rfl,hw9⟩;obtain rfl:=hw9.symm;clear hw9))
     refine⟨⟨i+1,by go_num,by omega,hx1,OI.out⟩,by simp [intOf];omega⟩
   ·have hb:(oo==o)=false:=by simp [hq]
    have hx1:Hid (∀j:Nat,j<i+1->((j:Int),-1)∈l->ob X (j:Int)≠o):=λj hj hjl=>by
     by_cases e:j=i
     ·subst e;rw [VW.out];exact hq
     ·exact hx.out j (by omega) hjl
    clear hp hh;go_wp2;refine⟨⟨i+1,by go_num,by omega,hx1,OI.out⟩,by simp [intOf];omega⟩
  ·obtain rfl:i=mo:=by omega
   have HB:=ae hB
   clear hB;go_wp2;refine bodyPost_ret (v:=.tuple #[ab 0,.bool false]) (by simp [results,Tryz.results239,go_sem]) rfl ⟨.inr ⟨λr hr=>?_,rfl⟩,HB.out⟩
   have hrn:=hok.out.range r (aL.2 ⟨_,hr⟩)
   obtain⟨k,rfl⟩:∃k:Nat,r=(k:Int):=⟨r.toNat,by omega⟩
   exact hx.out k (by omega) hr
def ep (X:List Tk)(l:Fo):List (Cp×Int):=l.map (λx=>((tk X x.1).1,x.1))
theorem ow (X:List Tk)(l:Fo):(ep X l).length=l.length:=by simp [ep]
theorem gO {v:Int}:(c,v)∈ep X l↔v∈aF l/\(tk X v).1=c:=by
 unfold ep aF;simp only [List.mem_map,Prod.mk.injEq];constructor
 ·rintro ⟨x,hx,h1,h2⟩;subst h2;exact⟨⟨x,hx,rfl⟩,h1⟩
 ·rintro ⟨⟨x,hx,h1⟩,h2⟩;subst h1;exact⟨x,hx,h2,rfl⟩
theorem iY :c∈(ep X l).map Prod.fst↔bn X l c=true:=by
 rw [bW,List.mem_map];constructor
 ·rintro ⟨⟨a,v⟩,h,rfl⟩;exact⟨v,(gO.1 h).1,(gO.1 h).2⟩
 ·rintro ⟨n,hn,h⟩;exact⟨(c,n),gO.2 ⟨hn,h⟩,rfl⟩
theorem xd {Y:List Tk}(h:∀a∈aF l,tk Y a=tk X a):ep Y l=ep X l:=by
 unfold ep;refine List.map_congr_left (λx hx=>?_)
 rw [h x.1 (aL.2 ⟨x.2,hx⟩)]
structure jb (w:World)(A:Ad)(kn mo:Nat)(X:List Tk)(l:Fo):Prop where
 cm:Cm w A kn mo (ep X l) X l
 inv:Inv mo X l
theorem jb.but {S:Nat->Prop}(h:jb w A kn mo X l)(hb:aj S w w')(hS:∀k,A.jP k->¬S k):jb w' A kn mo X l:=⟨h.cm.but hb hS,h.inv⟩
theorem jb.later (h:jb w A kn mo X l)(hb:Below w.heap.size w w'):jb w' A kn mo X l:=⟨h.cm.later hb,h.inv⟩
theorem jb.lt (h:jb w A kn mo X l):∀k,A.jP k->k<w.heap.size:=h.cm.lt
theorem jb.JD (h:jb w A kn mo X l):∀k,A.Wr k->k<w.heap.size:=λk hk=>h.cm.lt k (.inr (.inr hk))
def aX (X:List Tk)(l:Fo)(c:Cp):Int:=((aF l).find? (λn=>decide ((tk X n).1=c))).getD 0
theorem gC (h:Inv m X l){n:Int}(hn:n∈aF l):aX X l (tk X n).1=n:=by
 unfold aX;cases hf:(aF l).find? (λk=>decide ((tk X k).1=(tk X n).1)) with
 | none=>have:=List.find?_eq_none.1 hf n hn;simp at this
 | some k =>
  have h1:=List.find?_some hf
  have h2:=List.mem_of_find?_eq_some hf
  simp only [decide_eq_true_eq] at h1;exact h.one k h2 n hn h1
theorem xi (h:bn X l c=false):aX X l c=0:=by
 unfold aX;rw [List.find?_eq_none.2 (λn hn hd=>?_)]
 ·rfl
 ·have:=bW.2 ⟨n,hn,of_decide_eq_true hd⟩
  rw [h] at this;cases this
theorem jG (h:jb w A kn mo X l)(c:Cp)(hw:c.2.1<az/\c.2.2<az) :
  Calls Tryz.prog 342 #[aq A.g,j5 c] w λe w'=>e=.returned (.tuple #[ab (aX X l c),.bool (bn X l c)])/\Below w.heap.size w w':=by
 by_cases hc:bn X l c=true
 ·obtain⟨n,hn,rfl⟩:=bW.1 hc
  rw [hc,gC h.inv hn];exact uO h.cm _ _ _ n true (λW hW=>I.EZ (h.cm.AK.later hW) _ _ _ hw.1 hw.2 n (gO.2 ⟨hn,rfl⟩))
 ·have hc':bn X l c=false:=by simpa using hc
  rw [hc',xi hc'];exact uO h.cm _ _ _ 0 false (λW hW=>I.get_none (h.cm.AK.later hW) _ _ _ hw.1 hw.2 (λhk=>hc (iY.1 hk)))
def mY (X:List Tk)(l:Fo)(o:Int):Nat:=((aF l).filter (λn=>decide (ob X n=o))).length
theorem rJ (k:Nat):eB (k+1)=eB k++[(k:Int)]:=by unfold eB;rw [List.range_succ,List.map_append];rfl
def B8 (X:List Tk)(l:Fo)(o:Int)(k:Nat):Nat:=((eB k).filter (λn=>decide (n∈aF l/\ob X n=o))).length
theorem Es (X:List Tk)(l:Fo)(o:Int)(k:Nat):B8 X l o k<=k:=by
 have:=List.length_filter_le (λn=>decide (n∈aF l/\ob X n=o)) (eB k)
 rw [me] at this;exact this
theorem zv (X:List Tk)(l:Fo)(o:Int)(k:Nat):B8 X l o (k+1)=B8 X l o k+(if (k:Int)∈aF l/\ob X (k:Int)=o then 1 else 0):=by
 unfold B8;rw [rJ,List.filter_append,List.length_append];congr 1
 by_cases h:(k:Int)∈aF l/\ob X (k:Int)=o
 ·rw [if_pos h];simp [h]
 ·rw [if_neg h,List.filter_eq_nil_iff.2 (λa ha=>by rw [List.mem_singleton] at ha;subst ha;simpa using h)];rfl
theorem yV {A B:List Int}(hA:A.Nodup)(hB:B.Nodup)(h:∀x,x∈A↔x∈B):A.length=B.length :=
 Nat.le_antisymm (o_ hA (λx hx=>(h x).1 hx)) (o_ hB (λx hx=>(h x).2 hx))
theorem B6 (h:Ok m l)(o:Int):B8 X l o m=mY X l o:=by
 refine yV (List.Nodup.sublist List.filter_sublist (jd m)) (List.Nodup.sublist List.filter_sublist h.nodup) (λx=>?_)
 rw [List.mem_filter,List.mem_filter,lR,decide_eq_true_eq,decide_eq_true_eq];exact⟨λhx=>hx.2,λhx=>⟨h.range x hx.1,hx⟩⟩
def GL (w:World)(X:List Tk)(l:Fo)(o:Int)(mo:Nat)(v t:Value)(w':World):Prop :=
 ∃i:Nat,t=ab (i:Int)/\v=ab (B8 X l o i:Int)/\i<=mo/\Below w.heap.size w w'
theorem C0 (h:Cm w A kn mo T X l)(o:Int) :
  Calls Tryz.prog 247 #[aq A.g,ab o] w λe w'=>e=.returned (ab (mY X l o:Int))/\Below w.heap.size w w':=by
 have uA:=h.small
 have x1:=h.c1
 have HH:=ae h
 have hok:=ae h.wW.ok
 clear h;go_enter Tryz.func247,Tryz.ntmps247
 go_upto_region 3 with fail
 go_loopw [5,14] (GL w X l o mo) (λ_ k _=>mo - (intOf k).toNat)
 case atStart=>exact⟨0,rfl,rfl,Nat.zero_le _,Below.refl _ _⟩
 case round =>
  obtain⟨i,rfl,rfl,hi,hB⟩:=hrel
  by_cases hlt:i<mo
  ·have hM:=HH.out.later hB
   obtain⟨e0,e1,e2,e3⟩:=hM.at_ hlt
   have hobx:(tk X (i:Int)).1.1=ob X (i:Int):=rfl
   rw [hobx] at e0;obtain⟨w1,hw1⟩:∃w1,w1=wr.alloc (Obj.cells #[ab (ob X (i:Int)),ai ((tk X (i:Int)).1.2.1:Int),ai ((tk X (i:Int)).1.2.2:Int),ab (tk X (i:Int)).2] 440):=⟨_,rfl⟩
   have hB1:Below wr.heap.size wr w1:=by rw [hw1];exact ag _ _
   have OI:=ae (aa hB hB1)
   have z0:w1.cell? ⟨wr.heap.size,0,none⟩=some (ab (ob X (i:Int))):=by rw [hw1];simp [go_sem]
   have hh:=ae (fP (hM.later hB1) (i:Int))
   have hsu:=zv X l o i
   have hle:=Es X l o i
   clear hM hB1 hobx hB;by_cases hq:ob X (i:Int)=o
   ·by_cases hin:(i:Int)∈aF l
    ·rw [decide_eq_true hin] at hh
     rw [if_pos ⟨hin,hq⟩] at hsu;have Ta:=ae hsu
     have hb:(ob X (i:Int)==o)=true:=by simp [hq]
     clear hsu hin hq;generalize ob X (i:Int)=oo at *
     generalize ((tk X (i:Int)).1.2.1:Int)=u1 at *
     generalize ((tk X (i:Int)).1.2.2:Int)=u2 at *
     generalize (tk X (i:Int)).2=u3 at *
     generalize hff:B8 X l o i=f at *
     clear hff;go_upto_region 5 with fail
     rw [<-hw1];clear hw1 e0 e1 e2 e3;go_wp2_with (first|(go_at_call 311;refine hh.out.mono ?_;rintro e w9 ⟨rfl,hw9⟩;obtain rfl:=hw9.symm;clear hw9))
     refine⟨⟨i+1,by go_num,by rw [Ta.out];go_num,by omega,OI.out⟩,by simp [intOf];omega⟩
    ·rw [decide_eq_false hin] at hh
     rw [if_neg (λhc=>hin hc.1)] at hsu;have Ta:=ae hsu
     have hb:(ob X (i:Int)==o)=true:=by simp [hq]
     clear hsu hin hq;generalize ob X (i:Int)=oo at *
     generalize ((tk X (i:Int)).1.2.1:Int)=u1 at *
     generalize ((tk X (i:Int)).1.2.2:Int)=u2 at *
     generalize (tk X (i:Int)).2=u3 at *
     generalize hff:B8 X l o i=f at *
     clear hff;go_upto_region 5 with fail
     rw [<-hw1];clear hw1 e0 e1 e2 e3;go_wp2_with (first|(go_at_call 311;refine hh.out.mono ?_;rintro e w9 ⟨rfl,hw9⟩;obtain rfl:=hw9.symm;clear hw9))
     refine⟨⟨i+1,by go_num,by rw [Ta.out];rfl,by omega,OI.out⟩,by simp [intOf];omega⟩
   ·rw [if_neg (λhc=>hq hc.2)] at hsu
    have Ta:=ae hsu
    have hb:(ob X (i:Int)==o)=false:=by simp [hq]
    clear hsu hq hh;generalize ob X (i:Int)=oo at *
    generalize ((tk X (i:Int)).1.2.1:Int)=u1 at *
    generalize ((tk X (i:Int)).1.2.2:Int)=u2 at *
    generalize (tk X (i:Int)).2=u3 at *
    generalize hff:B8 X l o i=f at *
    clear hff;go_upto_region 5 with fail
    rw [<-hw1];clear hw1 e0 e1 e2 e3;go_wp2;refine⟨⟨i+1,by go_num,by rw [Ta.out];rfl,by omega,OI.out⟩,by simp [intOf];omega⟩
  ·obtain rfl:i=mo:=by omega
   have HB:=ae hB
   rw [B6 hok.out];clear hB;go_wp2;go_ret;exact⟨rfl,HB.out⟩
structure DI where
 num:Int
 code:Int
 X:List Tk
 l:Fo
def gz (mo:Nat)(X:List Tk)(l:Fo)(p:Int)(c:Cp)(r:Int):DI :=
 if bn X l c=true then ⟨0,19,X,l⟩ else if l.length=mo then ⟨0,10,X,l⟩ else ⟨(low l:Int),0,X.set (low l) (c,r),l++[((low l:Int),p)]⟩
def j1 (mo:Nat)(X:List Tk)(l:Fo)(c:Cp)(r:Int):DI :=
 if bK r=false then ⟨0,4,X,l⟩ else if eG X l c.1=true then ⟨0,19,X,l⟩ else gz mo X l (-1) c r
def gw (mo:Nat)(X:List Tk)(l:Fo)(p:Int)(c:Cp)(r:Int):DI :=
 if p∉aF l then ⟨0,20,X,l⟩ else if ob X p≠c.1 then ⟨0,3,X,l⟩ else if aS r (rg X p)=false then ⟨0,4,X,l⟩ else gz mo X l p c r
def fX (w:World)(A:Ad)(kn mo:Nat)(R:DI)(e:Ending)(w':World):Prop :=
 e=.returned (.tuple #[ab R.num,ab R.code])/\jb w' A kn mo R.X R.l/\aj A.Wr w w'
theorem fX.same {c:Int}(h:jb w A kn mo X l)(hb:Below w.heap.size w w'):fX w A kn mo ⟨0,c,X,l⟩ (.returned (.tuple #[ab 0,ab c])) w':=⟨rfl,h.later hb,aj.of hb⟩
theorem fX.pre {W:World}{R:DI}{e:Ending}(hb:Below w.heap.size w W)(h:fX W A kn mo R e w'):fX w A kn mo R e w':=⟨h.1,h.2.1,(aj.of hb).trans h.2.2⟩
theorem oM (h:jb w A kn mo X l)(p o:Int)(hi lo:Nat)(r code:Int)(hc:code≠0)
  (hG:∀W,Below w.heap.size w W->Calls Tryz.prog 364 #[aq A.g,ab (low l:Int),.agg #[ab o,ai (hi:Int),ai (lo:Int),ab r]] W (λe w'=>e=.returned (ab code)/\Below W.heap.size W w')) :
  Calls Tryz.prog 317 #[aq A.g,ab p,.agg #[ab o,ai (hi:Int),ai (lo:Int)],ab r] w (fX w A kn mo ⟨0,code,X,l⟩):=by
 obtain⟨w1,hw1⟩:∃w1,w1=w.alloc (Obj.cells #[ab o,ai (hi:Int),ai (lo:Int)] 37):=⟨_,rfl⟩
 have hB1:Below w.heap.size w w1:=by rw [hw1];exact ag _ _
 have hC:Hid (∀U:World,Below w1.heap.size w1 U->(U.cell? ⟨w.heap.size,0,none⟩=some (ab o)/\U.cell? ⟨w.heap.size,1,none⟩=some (ai (hi:Int))/\U.cell? ⟨w.heap.size,2,none⟩=some (ai (lo:Int)))/\Below w1.heap.size w1 U):=λU hU =>
  ⟨⟨cell_later hU (by rw [hw1];simp [go_sem]),cell_later hU (by rw [hw1];simp [go_sem]),cell_later hU (by rw [hw1];simp [go_sem])⟩,hU⟩
 have HG:=ae (λ(U:World) (hU:Below w1.heap.size w1 U)=>hG U (aa hB1 hU))
 have hl:=ae (dz (h.cm.later hB1))
 have OI:=ae hB1
 have HH:=ae h
 have hbn:(code==0)=false:=by simp [hc]
 clear hG hB1 h;go_enter Tryz.func317,Tryz.ntmps317
 go_upto_region 1 with fail
 rw [<-hw1];clear hw1;go_upto_region 2 with (first|(go_at_call 363;refine hl.out.mono ?_;rintro e w9 ⟨rfl,hw9⟩;obtain rfl:=hw9.symm;clear hw9))
 go_region_held3 (λU=>(U.cell? ⟨w.heap.size,0,none⟩=some (ab o)/\U.cell? ⟨w.heap.size,1,none⟩=some (ai (hi:Int))/\U.cell? ⟨w.heap.size,2,none⟩=some (ai (lo:Int)))/\Below w1.heap.size w1 U) (first|exact hC.out _ OH.out|exact hC.out _ (Below.refl _ _).drew) (first
  | (go_at_call 364;refine (HG.out _ (Below.refl _ _).drew).mono ?_;rintro e w2 ⟨rfl,hb2⟩;have OH:=ae (aa (Below.refl w1.heap.size w1).drew hb2);clear hb2))
 go_wp2;exact bodyPost_ret (v:=.tuple #[ab 0,ab code]) (by simp [results,Tryz.results317,go_sem]) rfl (fX.same HH.out (aa OI.out OH.out))
theorem sB (h:jb w A kn mo X l)(p o:Int)(hi lo:Nat)(r:Int)(h1:hi<az)(h2:lo<az)(hc:bn X l (o,hi,lo)=false)(hl:l.length<mo)(hv:bK r=true)
  (hp:(p=-1/\eG X l o=false)\/(p∈aF l/\ob X p=o/\aS r (rg X p)=true)) :
  Calls Tryz.prog 317 #[aq A.g,ab p,.agg #[ab o,ai (hi:Int),ai (lo:Int)],ab r] w (fX w A kn mo ⟨(low l:Int),0,X.set (low l) ((o,hi,lo),r),l++[((low l:Int),p)]⟩):=by
 have hlow:=tI h.inv.ok hl
 obtain⟨w1,hw1⟩:∃w1,w1=w.alloc (Obj.cells #[ab o,ai (hi:Int),ai (lo:Int)] 37):=⟨_,rfl⟩
 have hB1:Below w.heap.size w w1:=by rw [hw1];exact ag _ _
 have hni:∀k,A.Wr k->k<w.heap.size:=h.JD
 have hC:Hid (∀U:World,aj A.Wr w1 U->(U.cell? ⟨w.heap.size,0,none⟩=some (ab o)/\U.cell? ⟨w.heap.size,1,none⟩=some (ai (hi:Int))/\U.cell? ⟨w.heap.size,2,none⟩=some (ai (lo:Int)))/\aj A.Wr w1 U):=λU hU =>
  ⟨⟨an hU (by rw [hw1];simp [go_sem]) (λhs=>by have:=hni _ hs;simp at this),an hU (by rw [hw1];simp [go_sem]) (λhs=>by have:=hni _ hs;simp at this),an hU (by rw [hw1];simp [go_sem]) (λhs=>by have:=hni _ hs;simp at this)⟩,hU⟩
 have hpl:p=-1\/p∈aF l:=hp.imp (·.1) (·.1)
 have hG:=λ(U:World) (hU:Below w1.heap.size w1 U)=>B9 (h.cm.later (aa hB1 hU)) (low l) hlow o hi lo r (λW hW=>I.sQ ((h.cm.later (aa hB1 hU)).AK.later hW) o hi lo (low l:Int) h1 h2 (λhk=>by rw [iY.1 hk] at hc;cases hc) (by rw [ow];exact hl))
 have HE:Hid (ep X l++[((o,hi,lo),(low l:Int))]=ep (X.set (low l) ((o,hi,lo),r)) (l++[((low l:Int),p)])):=by
  unfold Hid;have e1:ep (X.set (low l) ((o,hi,lo),r)) (l++[((low l:Int),p)])=ep (X.set (low l) ((o,hi,lo),r)) l++[((tk (X.set (low l) ((o,hi,lo),r)) (low l:Int)).1,(low l:Int))]:=by simp [ep]
  rw [e1,fY _ (by rw [h.inv.len];exact hlow),xd (λa ha=>dY _ (gH h.inv.ok ha) (λe=>fx l (e ▸ ha)))]
 have HI:=ae (h.inv.add (c:=(o,hi,lo)) hlow (fx l) hc ⟨h1,h2⟩ hv hp)
 have HJ:=ae (λ(U:World) T (hU:Cm U A kn mo T (X.set (low l) ((o,hi,lo),r)) l)=>gh hU p (low l) hlow (fx l) hpl)
 have HG:=ae hG
 have hlo:=ae (dz (h.cm.later hB1))
 have OI:=ae hB1
 clear hG hB1 h hp hpl hni hc hl;go_enter Tryz.func317,Tryz.ntmps317
 go_upto_region 1 with fail
 rw [<-hw1];clear hw1;go_upto_region 2 with (first|(go_at_call 363;refine hlo.out.mono ?_;rintro e w9 ⟨rfl,hw9⟩;obtain rfl:=hw9.symm;clear hw9))
 go_region_held3 (λU=>(U.cell? ⟨w.heap.size,0,none⟩=some (ab o)/\U.cell? ⟨w.heap.size,1,none⟩=some (ai (hi:Int))/\U.cell? ⟨w.heap.size,2,none⟩=some (ai (lo:Int)))/\aj A.Wr w1 U) (first|exact hC.out _ OH.out|exact hC.out _ (aj.of (Below.refl _ _).drew)) (first
  | (go_at_call 364;refine (HG.out _ (Below.refl _ _).drew).mono ?_;rintro e w2 ⟨rfl,hc2,hb2⟩;have OH:=ae ((aj.of (S:=A.Wr) (Below.refl w1.heap.size w1).drew).trans hb2);have Pj:=ae hc2;clear hb2 hc2))
 go_wp2_with (first|(go_at_call 365;refine (HJ.out _ _ Pj.out).mono ?_;rintro e w3 ⟨rfl,hc3,hb3⟩;have RB:=ae hc3;have OJ:=ae hb3;clear hc3 hb3))
 refine bodyPost_ret (v:=.tuple #[ab (low l:Int),ab 0]) (by simp [results,Tryz.results317,go_sem]) rfl ⟨rfl,⟨?_,HI.out⟩,(aj.of OI.out).trans (OH.out.trans OJ.out)⟩
 have:=RB.out
 rw [HE.out] at this;exact this
theorem iI (h:jb w A kn mo X l)(p:Int)(c:Cp)(r:Int)(hw:c.2.1<az/\c.2.2<az)(hv:bK r=true)
  (hp:(p=-1/\eG X l c.1=false)\/(p∈aF l/\ob X p=c.1/\aS r (rg X p)=true)) :
  Calls Tryz.prog 317 #[aq A.g,ab p,j5 c,ab r] w (fX w A kn mo (gz mo X l p c r)):=by
 obtain⟨o,hi,lo⟩:=c
 unfold gz;by_cases hc:bn X l (o,hi,lo)=true
 ·rw [if_pos hc]
  exact oM h p o hi lo r 19 (by decide) (λW hW=>tW (h.cm.later hW) _ o hi lo r 19 (by decide) (λU hU=>I.vg ((h.cm.later hW).AK.later hU) o hi lo _ hw.1 hw.2 (iY.2 hc)))
 ·rw [if_neg hc]
  have hk:(o,hi,lo)∉(ep X l).map Prod.fst:=λhk=>hc (iY.1 hk)
  by_cases hl:l.length=mo
  ·rw [if_pos hl]
   exact oM h p o hi lo r 10 (by decide) (λW hW=>tW (h.cm.later hW) _ o hi lo r 10 (by decide) (λU hU=>I.AP ((h.cm.later hW).AK.later hU) o hi lo _ hw.1 hw.2 hk (by rw [ow];exact hl)))
  ·rw [if_neg hl]
   have hle:=h.inv.ok.len
   exact sB h p o hi lo r hw.1 hw.2 (by simpa using hc) (by omega) hv hp
theorem Inv.D8 (h:Inv m X l){o:Int}:eG X l o=true↔∃r,(r,-1)∈l/\ob X r=o:=by
 rw [fR];constructor
 ·rintro ⟨n,hn,rfl⟩
  obtain⟨r,h1,h2,_⟩:=h.Ec n hn
  exact⟨r,h1,h2⟩
 ·rintro ⟨r,h1,h2⟩
  exact⟨r,aL.2 ⟨_,h1⟩,h2⟩
theorem xR (h:jb w A kn mo X l)(c:Cp)(r:Int)(hw:c.2.1<az/\c.2.2<az) :
  Calls Tryz.prog 246 #[aq A.g,j5 c,ab r] w (fX w A kn mo (j1 mo X l c r)):=by
 obtain⟨o,hi,lo⟩:=c
 obtain⟨w1,hw1⟩:∃w1,w1=w.alloc (Obj.cells #[ab o,ai (hi:Int),ai (lo:Int)] 37):=⟨_,rfl⟩
 have hB1:Below w.heap.size w w1:=by rw [hw1];exact ag _ _
 have z0:w1.cell? ⟨w.heap.size,0,none⟩=some (ab o):=by rw [hw1];simp [go_sem]
 have HZ:Hid (∀U,Below w1.heap.size w1 U->U.cell? ⟨w.heap.size,0,none⟩=some (ab o)/\U.cell? ⟨w.heap.size,1,none⟩=some (ai (hi:Int))/\U.cell? ⟨w.heap.size,2,none⟩=some (ai (lo:Int))):=λU hU =>
  ⟨cell_later hU (by rw [hw1];simp [go_sem]),cell_later hU (by rw [hw1];simp [go_sem]),cell_later hU (by rw [hw1];simp [go_sem])⟩
 have OI:=ae hB1
 have HH:=ae h
 have H1:=ae (h.later hB1)
 unfold j1;clear h hB1;by_cases hv:bK r=true
 ·rw [if_neg (by rw [hv];decide)]
  by_cases ho:eG X l o=true
  ·rw [if_pos ho]
   go_enter Tryz.func246,Tryz.ntmps246
   go_upto_region 1 with fail
   rw [<-hw1];clear hw1;go_upto_region 4 with (first|(go_at_call 239;refine (nt H1.out.cm o).mono ?_;rintro e w2 ⟨⟨rt,hr1,hr2,rfl⟩|⟨hr1,rfl⟩,hb2⟩<;>have OH:=ae hb2<;>clear hb2)|(go_at_call 318;refine (bU _ _).mono ?_;rintro e w9 ⟨rfl,hw9⟩;obtain rfl:=hw9.symm;clear hw9;rw [hv]))
   ·go_wp2
    exact bodyPost_ret (v:=.tuple #[ab 0,ab 19]) (by simp [results,Tryz.results246,go_sem]) rfl (fX.same HH.out (aa OI.out OH.out))
   ·exfalso
    obtain⟨r',h1,h2⟩:=HH.out.inv.D8.1 ho
    exact hr1 r' h1 h2
  ·rw [if_neg ho]
   have HA:=ae (λ(U:World) (hU:Below w.heap.size w U)=>iI (HH.out.later hU) (-1) (o,hi,lo) r hw hv (.inl ⟨rfl,by simpa using ho⟩))
   go_enter Tryz.func246,Tryz.ntmps246
   go_upto_region 1 with fail
   rw [<-hw1];clear hw1;go_upto_region 4 with (first|(go_at_call 239;refine (nt H1.out.cm o).mono ?_;rintro e w2 ⟨⟨rt,hr1,hr2,rfl⟩|⟨hr1,rfl⟩,hb2⟩<;>have OH:=ae hb2<;>clear hb2)|(go_at_call 318;refine (bU _ _).mono ?_;rintro e w9 ⟨rfl,hw9⟩;obtain rfl:=hw9.symm;clear hw9;rw [hv]))
   ·exfalso
    exact ho (HH.out.inv.D8.2 ⟨rt,hr1,hr2⟩)
   ·obtain⟨y0,y1,y2⟩:=HZ.out _ OH.out
    generalize gz mo X l (-1) (o,hi,lo) r=R at *
    go_wp2_with (first|(go_at_call 317;refine (HA.out _ (aa OI.out OH.out)).mono ?_;rintro e w3 hd;have hd1:=hd.1;subst hd1;have HD:=ae hd;clear hd))
    exact bodyPost_ret (v:=.tuple #[ab R.num,ab R.code]) (by simp [results,Tryz.results246,go_sem]) rfl (HD.out.pre (aa OI.out OH.out))
 ·have hv':bK r=false:=by simpa using hv
  rw [if_pos hv'];go_enter Tryz.func246,Tryz.ntmps246
  go_upto_region 1 with fail
  rw [<-hw1];clear hw1;go_wp2_with (first|(go_at_call 318;refine (bU _ _).mono ?_;rintro e w9 ⟨rfl,hw9⟩;obtain rfl:=hw9.symm;clear hw9;rw [hv']))
  exact bodyPost_ret (v:=.tuple #[ab 0,ab 4]) (by simp [results,Tryz.results246,go_sem]) rfl (fX.same HH.out OI.out)
end Go.Proofs.YtmhinfbkmjdgfaaGreatDoor
namespace Go.Proofs.YtmhinfbkmjdgfaaGreatDoor
open Go.RowKit
def J8 (w:World)(base:Nat)(a:Option Addr)(n cap:Nat)(L:List Value):Prop:=Own w base 3 a n cap L\/(n=cap/\∃p,a=some p/\Row w a n cap L)
theorem tu {w:World}{base:Nat}{a:Option Addr}{n cap:Nat}{L:List Int}(x:Int)(h:J8 w base a n cap (ints L))(hb:base<=w.heap.size)(hr:(n+1)*8<=140737488355328) :
  ∃a' cap' w',(Builtin.append_ #[42,42] 42 #[.slice a n cap,.slice (some ⟨w.heap.size,0,none⟩) 1 1]).run Tryz.prog (w.alloc (Obj.cells #[ab x] 3))=.ok (.slice a' (n+1) cap') w'/\Own w' base 3 a' (n+1) cap' (ints (L++[x]))/\Gr a a' w w':=by
 rcases h with h|⟨rfl,p,rfl,h⟩
 ·obtain⟨a',cap',w',hrun,hO,hG⟩:=j0 (h.alloc (Obj.cells #[ab x] 3)) (Row.single w 3 (ab x) rfl) (by simp;omega) hr
  exact⟨a',cap',w',hrun,by rw [fZ];exact hO,hG.pre (ag _ _)⟩
 ·obtain⟨g',cap',w',hrun,hO,hB⟩:=j9 42 3 _ 8 Tryz.underlying42 DF rfl (h.alloc (Obj.cells #[ab x] 3)) (Row.single w 3 (ab x) rfl) (by omega) hr (by omega)
  refine⟨_,cap',w',hrun,by rw [fZ];exact hO.mono (by simp;omega),aj.of (aa (ag _ _) hB),λk hk=>.inr ?_⟩
  have:=hO.dB k hk
  simp at this
  omega
end Go.Proofs.YtmhinfbkmjdgfaaGreatDoor
namespace Go.Proofs.YtmhinfbkmjdgfaaGreatDoor
open Go.RowKit Go.Shelf
attribute [local go_sem] Oper.semAt_some
theorem bf (w:World)(v:Value)(t:TypeId):aM (w.alloc (Obj.cells #[v] t)) ⟨w.heap.size,0,none⟩ v:=⟨by simp [go_sem],by simp [go_sem]⟩
end Go.Proofs.YtmhinfbkmjdgfaaGreatDoor
namespace Go.Proofs.YtmhinfbkmjdgfaaGreatDoor
open Go.RowKit H
theorem zX {w:World}{A:Ad}{kn mo:Nat}{X:List Tk}{l:Fo}(h:jb w A kn mo X l)(p:Int)(c:Cp)(r:Int)(hw:c.2.1<az/\c.2.2<az) :
  Calls Tryz.prog 245 #[aq A.g,ab p,j5 c,ab r] w (fX w A kn mo (gw mo X l p c r)):=by
 obtain⟨o,hi,lo⟩:=c
 obtain⟨w1,hw1⟩:∃w1,w1=w.alloc (Obj.cells #[ab o,ai (hi:Int),ai (lo:Int)] 37):=⟨_,rfl⟩
 have hB1:Below w.heap.size w w1:=by rw [hw1];exact ag _ _
 have HZ:Hid (∀U,Below w1.heap.size w1 U->U.cell? ⟨w.heap.size,0,none⟩=some (ab o)/\U.cell? ⟨w.heap.size,1,none⟩=some (ai (hi:Int))/\U.cell? ⟨w.heap.size,2,none⟩=some (ai (lo:Int))):=λU hU =>
  ⟨cell_later hU (by rw [hw1];simp [go_sem]),cell_later hU (by rw [hw1];simp [go_sem]),cell_later hU (by rw [hw1];simp [go_sem])⟩
 have OI:=ae hB1
 have HH:=ae h
 have H1:=ae (h.later hB1)
 unfold gw;clear h hB1;by_cases hp:p∈aF l
 ·rw [if_neg (λhn=>hn hp)]
  obtain⟨q,hq⟩:=aL.1 hp
  obtain⟨cc,rr,hxx⟩:∃cc rr,tk X p=(cc,rr):=⟨_,_,rfl⟩
  have hob:ob X p=cc.1:=by unfold ob;rw [hxx]
  have fa:rg X p=rr:=by unfold rg;rw [hxx]
  have hA:=AH H1.out.cm p q hq
  rw [fa,hxx] at hA;have TO:=ae hA
  have UQ:Hid (ob X p=o->aS r (rg X p)=true->∀(U:World),Below w.heap.size w U->Calls Tryz.prog 317 #[aq A.g,ab p,.agg #[ab o,ai (hi:Int),ai (lo:Int)],ab r] U (fX U A kn mo (gz mo X l p (o,hi,lo) r))) :=
   λho hpt U hU=>iI (HH.out.later hU) p (o,hi,lo) r hw (jX hpt) (.inr ⟨hp,ho,hpt⟩)
  rw [hob,fa] at *
  obtain⟨oo,hh,ll⟩:=cc
  clear hq hp hA hxx hob fa;simp only at *
  by_cases ho:oo=o
  ·subst ho
   rw [if_neg (λhn=>hn rfl)];by_cases hpt:aS r rr=true
   ·rw [if_neg (by rw [hpt];decide)]
    have Qa:=ae (UQ.out rfl hpt)
    generalize gz mo X l p (oo,hi,lo) r=R at *
    go_enter Tryz.func245,Tryz.ntmps245
    go_upto_region 1 with fail
    rw [<-hw1];clear hw1;go_upto_region 4 with (first|(go_at_call 241;refine TO.out.mono ?_;rintro e w2 ⟨rfl,hb2⟩;have OH:=ae hb2;have hz:=(HZ.out _ (hb2)).1;clear hb2))
    obtain⟨w3,hw3⟩:∃w3,w3=w2.alloc (Obj.cells #[ab oo,ai (hh:Int),ai (ll:Int),ab rr,ab q] 138):=⟨_,rfl⟩
    have hB3:Below w2.heap.size w2 w3:=by rw [hw3];exact ag _ _
    have t0:w3.cell? ⟨w2.heap.size,0,none⟩=some (ab oo):=by rw [hw3];simp [go_sem]
    have t3:w3.cell? ⟨w2.heap.size,3,none⟩=some (ab rr):=by rw [hw3];simp [go_sem]
    obtain⟨y0,y1,y2⟩:=HZ.out _ (aa OH.out hB3)
    have OJ:=ae (aa (aa OI.out OH.out) hB3)
    rw [<-hw3];clear hw3 hB3 hz;go_wp2_with (first|(go_at_call 317;refine (Qa.out _ OJ.out).mono ?_;rintro e w4 hd;have hd1:=hd.1;subst hd1;have HD:=ae hd;clear hd)|(go_at_call 316;refine (gA _ _ _).mono ?_;rintro e w9 ⟨rfl,hw9⟩;obtain rfl:=hw9.symm;clear hw9;rw [hpt]))
    exact bodyPost_ret (v:=.tuple #[ab R.num,ab R.code]) (by simp [results,Tryz.results245,go_sem]) rfl (HD.out.pre OJ.out)
   ·have hpt':aS r rr=false:=by simpa using hpt
    rw [if_pos hpt'];go_enter Tryz.func245,Tryz.ntmps245
    go_upto_region 1 with fail
    rw [<-hw1];clear hw1;go_upto_region 4 with (first|(go_at_call 241;refine TO.out.mono ?_;rintro e w2 ⟨rfl,hb2⟩;have OH:=ae hb2;have hz:=(HZ.out _ (hb2)).1;clear hb2))
    obtain⟨w3,hw3⟩:∃w3,w3=w2.alloc (Obj.cells #[ab oo,ai (hh:Int),ai (ll:Int),ab rr,ab q] 138):=⟨_,rfl⟩
    have hB3:Below w2.heap.size w2 w3:=by rw [hw3];exact ag _ _
    have t0:w3.cell? ⟨w2.heap.size,0,none⟩=some (ab oo):=by rw [hw3];simp [go_sem]
    have t3:w3.cell? ⟨w2.heap.size,3,none⟩=some (ab rr):=by rw [hw3];simp [go_sem]
    obtain⟨y0,y1,y2⟩:=HZ.out _ (aa OH.out hB3)
    have OJ:=ae (aa (aa OI.out OH.out) hB3)
    rw [<-hw3];clear hw3 hB3 hz;go_wp2_with (first|(go_at_call 316;refine (gA _ _ _).mono ?_;rintro e w9 ⟨rfl,hw9⟩;obtain rfl:=hw9.symm;clear hw9;rw [hpt']))
    exact bodyPost_ret (v:=.tuple #[ab 0,ab 4]) (by simp [results,Tryz.results245,go_sem]) rfl (fX.same HH.out OJ.out)
  ·rw [if_pos ho]
   have hbn:(oo==o)=false:=by simp [ho]
   go_enter Tryz.func245,Tryz.ntmps245
   go_upto_region 1 with fail
   rw [<-hw1];clear hw1;go_upto_region 4 with (first|(go_at_call 241;refine TO.out.mono ?_;rintro e w2 ⟨rfl,hb2⟩;have OH:=ae hb2;have hz:=(HZ.out _ (hb2)).1;clear hb2))
   obtain⟨w3,hw3⟩:∃w3,w3=w2.alloc (Obj.cells #[ab oo,ai (hh:Int),ai (ll:Int),ab rr,ab q] 138):=⟨_,rfl⟩
   have hB3:Below w2.heap.size w2 w3:=by rw [hw3];exact ag _ _
   have t0:w3.cell? ⟨w2.heap.size,0,none⟩=some (ab oo):=by rw [hw3];simp [go_sem]
   obtain⟨y0,y1,y2⟩:=HZ.out _ (aa OH.out hB3)
   have OJ:=ae (aa (aa OI.out OH.out) hB3)
   rw [<-hw3];clear hw3 hB3 hz;go_wp2;exact bodyPost_ret (v:=.tuple #[ab 0,ab 3]) (by simp [results,Tryz.results245,go_sem]) rfl (fX.same HH.out OJ.out)
 ·rw [if_pos hp]
  have TO:=ae (Ee H1.out.cm p hp)
  go_enter Tryz.func245,Tryz.ntmps245
  go_upto_region 1 with fail
  rw [<-hw1];clear hw1;go_wp2_with (first|(go_at_call 241;refine TO.out.mono ?_;rintro e w2 ⟨rfl,hb2⟩;have OH:=ae hb2;clear hb2))
  exact bodyPost_ret (v:=.tuple #[ab 0,ab 20]) (by simp [results,Tryz.results245,go_sem]) rfl (fX.same HH.out ((aa OI.out OH.out).alloc (aa OI.out OH.out).size _))
theorem BZ:(Tryz.prog.info? 440).map (λi=>(i.zero,i.size,i.bytes))=some (some (.agg #[ab 0,ai 0,ai 0,ab 0]),4,32):=by kernel_rfl
theorem vD (w:World)(n:Nat)(hn:n<=1024) :
  ∃w',(Instr.makeSlice 307 (ab (n:Int)) (ab (n:Int))).run Tryz.prog w=.ok (.slice (some ⟨w.heap.size,0,none⟩) n n) w'/\(∀(i:Nat) (p:Tk),(List.replicate n tz)[i]?=some p->Pe w' w.heap.size (i*4) p)/\(∀j,w'.frozen? ⟨w.heap.size,j,none⟩=false)/\w.heap.size<w'.heap.size/\Below w.heap.size w w':=by
 obtain⟨i,hi,hz0,hz1,hz2⟩:=info_parts BZ
 obtain⟨w',hr,ho,hg⟩:=run_make_full (P:=Tryz.prog) w w.heap.size 307 440 i _ 4 Tryz.underlying307 hi hz0 hz1 .i64 .i64 n (by rw [hz2];omega) (by unfold maxLen;omega) (Nat.le_refl _)
 have hcell:∀j c u,j<n->c<4->(#[ab 0,ai 0,ai 0,ab 0]:Array Value)[c]! = u->w'.cell? ⟨w.heap.size,j*4+c,none⟩=some u:=by
  intro j c u hj hc hu;have hm:(j*4+c)%4=c:=by omega
  have:=ho.cells (g:=w.heap.size) rfl (j*4+c) u (by
   rw [Array.getElem?_toList];simp only [madeCells,Value.cells,Array.getElem?_map,Array.getElem?_range];rw [if_pos (by omega)];simp only [Option.map_some,Option.some.injEq,Array.size,List.length,hm];exact hu)
  rw [aY] at this;exact this
 refine⟨w',hr,λj p hp=>?_,λj=>?_,?_,(Below.refl _ _).grown hg (Nat.le_refl _) (λk hk=>by cases hk)⟩
 ·rw [List.getElem?_replicate] at hp
  split at hp
  ·next hj =>
   have:=(Option.some.inj hp).symm
   subst this;exact⟨hcell j 0 _ hj (by omega) rfl,hcell j 1 _ hj (by omega) rfl,hcell j 2 _ hj (by omega) rfl,hcell j 3 _ hj (by omega) rfl⟩
  ·cases hp
 ·rcases ho.2 with ⟨h0,_⟩|⟨g,c,cur,hv,_,hh,hc,_⟩
  ·simp at h0
  ·simp only [Value.slice.injEq,Option.some.injEq,Addr.mk.injEq] at hv
   obtain⟨⟨rfl,_⟩,_,rfl⟩:=hv
   simp [World.frozen?,hh]
 ·exact (bD ho _ rfl).2
def IU (w:World)(kn mo:Nat)(e:Ending)(w':World):Prop :=
 ∃A:Ad,e=.returned (.tuple #[aq A.g,ab 0])/\jb w' A kn mo (List.replicate mo tz) []/\(∀k,A.jP k->w.heap.size<=k)/\Below w.heap.size w w'
theorem Dj (w:World)(mo kn:Nat)(h1:1<=mo)(h2:mo<=256)(h3:kn<=64):Calls Tryz.prog 126 #[ab (mo:Int),ab (kn:Int)] w (IU w kn mo):=by
 go_enter Tryz.func126,Tryz.ntmps126
 go_upto_region 7 with (first
  | (go_at_call 205;refine (cu _ mo (by omega)).mono ?_;rintro e w2 ⟨kg,kb,rfl,hk,hk1,hk2,hb2⟩;have OH:=ae (aa OI.out hb2);have OO:=ae (OV.out.later hb2);have PG:=ae hk;have XP:=ae hb2;have OW:=ae (And.intro hk1 hk2);clear hk hk1 hk2 hb2)
  | (go_at_call 204;refine (I.cu _ mo kn h1 h2 h3).mono ?_;rintro e w1 ⟨tg,tb,N,rfl,ht,ht1,ht2,hb1⟩;have OI:=ae hb1;have OV:=ae ht;have O2:=ae (And.intro ht1 ht2);clear ht ht1 ht2 hb1))
 obtain⟨w3,hr,hE,hF,hsz,hb3⟩:=vD w2 mo (by omega)
 have HE:=ae hE
 have QR:=ae hF
 have OJ:=ae hb3
 clear hE hF hb3;go_wp2;have hb4:Below w3.heap.size w3 (w3.alloc (Obj.cells #[aq tg,.slice (some ⟨w2.heap.size,0,none⟩) mo mo,aq kg] 313)):=ag _ _
 have ht3:=(OO.out.later OJ.out).later hb4
 have hk3:=(PG.out.later OJ.out).later hb4
 have l1:=OV.out.lt
 have l2:=OV.out.pB
 have l3:=PG.out.GZ
 have l4:=XP.out.size
 have l5:=OI.out.size
 have l6:=O2.out
 have l7:=OW.out
 have l8:=OJ.out.size
 refine bodyPost_ret (v:=.tuple #[aq w3.heap.size,ab 0]) (by simp [results,Tryz.results126,go_sem]) rfl ⟨⟨w3.heap.size,tg,tb,w2.heap.size,kg,kb,N⟩,rfl,⟨⟨by simp [go_sem],by simp [go_sem],by simp [go_sem],ht3,hk3,λi x hx=>(HE.out i x hx).later hb4,λj=>?_,?_,by simp,?_⟩,Inv.init mo⟩,?_,aa (aa OH.out OJ.out) hb4⟩
 ·show World.frozen? _ ⟨w2.heap.size,j,none⟩=false
  rw [World.frozen?_of_block (w:=w3) (hb4.block w2.heap.size hsz)];exact QR.out j
 ·have:=hb4.size
  show w2.heap.size<_
  omega
 ·constructor<;>simp only [ne_eq]<;>omega
 ·rintro k (rfl|rfl|rfl|rfl|rfl|rfl)<;>(try simp only)<;>omega
end Go.Proofs.YtmhinfbkmjdgfaaGreatDoor
namespace Go.Proofs.YtmhinfbkmjdgfaaGreatDoor
open Go.RowKit Go.Shelf
attribute [local go_sem] Oper.semAt_some
theorem nS {W:World}{base:Nat}{e:TypeId}{a:Option Addr}{n cap:Nat}{L:List Value}(h:Own W base e a n cap L){k:Nat}(hk:aI a k):∃cs t z,W.heap[k]?=some (.cells cs t z):=by
 rcases h.row.2 with ⟨h1,_⟩|⟨g,c,cur,hv,hg,hh,r⟩
 ·simp only [Value.slice.injEq] at h1
  obtain⟨x,hx,_⟩:=hk
  rw [h1.1] at hx;cases hx
 ·simp only [Value.slice.injEq] at hv
  obtain⟨x,hx,rfl⟩:=hk
  rw [hv.1] at hx;cases hx
  exact⟨_,_,_,hh⟩
end Go.Proofs.YtmhinfbkmjdgfaaGreatDoor
namespace Go.Proofs.YtmhinfbkmjdgfaaGreatDoor
open Go.RowKit Go.Shelf H
variable {L:List Value}{base cap k n:Nat}{a:Option Addr}{e:TypeId}{w w':World}
structure Cr (w:World)(k:Nat)(b:Option Addr)(m c:Nat)(M:List Value):Prop where
 len:M.length=m*k
 none_:b=none->m=0/\c=0
 cells:∀x,b=some x->∀j u,M[j]?=some u->w.cell? (x.add j)=some u
 one:∀u∈M,u.oneCell'=true
theorem An (t e:TypeId)(z:Value)(k aE:Nat)(ht:Tryz.prog.underlying t=some (.slice e))(hinf:(Tryz.prog.info? e).map (λi=>(i.zero,i.size,i.bytes))=some (some z,k,aE))(hzs:z.cells.size=k)(hk:0<k)(hby:0<aE)
       {b:Option Addr} {m c:Nat} {M:List Value} (h:w.ownsRow base e k (.slice a n cap) n L) (r:Cr w k b m c M) (hb:base<=w.heap.size) (hr:(n+m)*aE<=140737488355328) :
  ∃a' cap' w',(Builtin.append_ #[t,t] t #[.slice a n cap,.slice b m c]).run Tryz.prog w=.ok (.slice a' (n+m) cap') w'/\w'.ownsRow base e k (.slice a' (n+m) cap') (n+m) (L++M)/\Gr a a' w w':=by
 obtain⟨i,hi,hz0,hz1,hz2⟩:=info_parts hinf
 have hnm:n+m<=140737488355328:=Nat.le_trans (Nat.le_mul_of_pos_right _ hby) hr
 cases b with
 | none =>
  obtain⟨rfl,rfl⟩:=r.none_ rfl
  have hM:M=[]:=List.eq_nil_of_length_eq_zero (by have:=r.len;omega)
  subst hM;have hr:=run_append_owned_none (P:=Tryz.prog) (w:=w) base t t e i k ht hi _ n _ h
  exact⟨a,cap,w,hr,by simpa using h,Gr.refl _ _⟩
 | some x =>
  obtain⟨v',w',hr,h2,h3,_,h5⟩:=run_append_own_at (P:=Tryz.prog) w base t t e i _ k aE ht hi hz0 hz1 hz2 hzs hk _ n _ h x m c M r.len (r.cells x rfl) r.one (by unfold maxLen;omega) hr hb
  obtain⟨a',cap',rfl⟩:∃a' cap',v'=.slice a' (n+m) cap':=by
   rcases h2.2 with ⟨h,h'⟩|⟨g',cap',_,h,_⟩
   ·exact⟨.none,0,by rw [h,h']⟩
   ·exact⟨_,cap',h⟩
  refine⟨a',cap',w',hr,h2,⟨h3.os,h3.tape,h3.output,h3.size,λj hj hn=>h3.block j hj (λe=>hn (aI.of.1 e.symm))⟩,λj hj=>?_⟩
  rcases h5 with h5|h5
  ·rw [aI.of.2 hj] at h5
   exact .inl (aI.of.1 h5.symm)
  ·rw [aI.of.2 hj] at h5
   right
   simp at h5
   omega
theorem Cr.lit (w:World)(e:TypeId)(M:List Value)(h1:∀u∈M,u.oneCell'=true):Cr (w.alloc (Obj.cells M.toArray e)) M.length (some ⟨w.heap.size,0,none⟩) 1 1 M :=
 ⟨by simp,λh=>(by cases h),λx hx j u hu=>by
  cases hx
  rw [aY];simp only [World.cell?,World.alloc,Array.getElem?_push_size];simpa using hu,h1⟩
def Ow (w:World)(base:Nat)(e:TypeId)(k:Nat)(a:Option Addr)(n cap:Nat)(L:List Value):Prop:=w.ownsRow base e k (.slice a n cap) n L
theorem Ow.but {S:Nat->Prop}(h:Ow w base e k a n cap L)(hb:aj S w w')(hn:∀j,aI a j->¬S j):Ow w' base e k a n cap L:=jf hb h (λj hj=>hn j (aI.of.1 hj))
theorem Ow.later (h:Ow w base e k a n cap L)(hb:Below w.heap.size w w'):Ow w' base e k a n cap L:=h.but (S:=λ_=>False) (aj.of hb) (λ_ _ h=>h)
theorem Ow.mono {b:Nat}(h:Ow w base e k a n cap L)(hb:b<=base):Ow w b e k a n cap L:=fc h hb
theorem Ow.dB (h:Ow w base e k a n cap L):∀j,aI a j->base<=j/\j<w.heap.size:=λj hj=>bD h j (aI.of.2 hj)
theorem Ow.nil (w:World)(base:Nat)(e:TypeId)(k:Nat):Ow w base e k none 0 0 []:=⟨by simp,.inl ⟨rfl,rfl⟩⟩
theorem Ow.cells (h:Ow w base e k a n cap L){j:Nat}(hj:aI a j):∃cs t z,w.heap[j]?=some (.cells cs t z):=by
 rcases h.2 with ⟨h1,_⟩|⟨g,c,cur,hv,hg,hh,r⟩
 ·simp only [Value.slice.injEq] at h1
  obtain⟨x,hx,_⟩:=hj
  rw [h1.1] at hx;cases hx
 ·simp only [Value.slice.injEq] at hv
  obtain⟨x,hx,rfl⟩:=hj
  rw [hv.1] at hx;cases hx
  exact⟨_,_,_,hh⟩
def dP (x:Cp):List Value:=[ab x.1,ai (x.2.1:Int),ai (x.2.2:Int)]
def br (K:List Cp):List Value:=K.flatMap dP
theorem p7 (x:Cp):∀v∈dP x,v.oneCell'=true:=by
 intro v hv;simp only [dP,List.mem_cons,List.not_mem_nil,or_false] at hv;rcases hv with rfl|rfl|rfl<;>rfl
theorem vE (K:List Cp)(x:Cp):br (K++[x])=br K++dP x:=by simp [br]
theorem sZ:(Tryz.prog.info? 37).map (λi=>(i.zero,i.size,i.bytes))=some (some (.agg #[ab 0,ai 0,ai 0]),3,24):=by kernel_rfl
end Go.Proofs.YtmhinfbkmjdgfaaGreatDoor
