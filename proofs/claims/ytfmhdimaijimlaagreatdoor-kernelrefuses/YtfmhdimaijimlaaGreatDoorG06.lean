import Derived.Test.YtfmhdimaijimlaaGreatDoorG05
import Derived.RangeFuncNested
import Derived.RangeFuncBound
import Derived.RangeFuncCalls
import Derived.RangeFuncLeaves
import Derived.Shelf.Abstract
import Derived.Shelf.RegionOpen
import Derived.OwnWalkIn
import Derived.TacticsInMore
import Derived.LoopNIn
import Derived.LoopIn
set_option linter.unusedVariables false
set_option linter.unusedSimpArgs false
set_option maxRecDepth 1000000
set_option maxHeartbeats 8000000
namespace Go.Proofs.YtfmhdimaijimlaaGreatDoor
open Go.RowKit H
theorem at_out {w:World}{A:Ad}{kn mo:Nat}{T:List (Cp×Int)}{X:List Tk}{l:Fo}(h:Cm w A kn mo T X l)(n:Int)(hn:n∉nums l) :
  Calls Tryz.prog 122 #[.pointer (some ⟨A.g,0,none⟩),.int .i64 n] w fun e w'=>e=.returned (.tuple #[tokA (0,0,0) 0 0,.bool false])∧Below w.heap.size w w':=by
 obtain⟨w0,hw0⟩:∃w0,w0=w.alloc (Obj.cells #[.int .i64 0,.int .u64 0,.int .u64 0,.int .i64 0,.int .i64 0] 61):=⟨_,rfl⟩
 have hB0:Below w.heap.size w w0:=by rw [hw0];exact below1 _ _
 have hh:=hid (chas_any (h.later hB0) n)
 rw [decide_eq_false hn] at hh
 obtain⟨⟨r0,f0⟩,⟨r1,f1⟩,⟨r2,f2⟩,⟨r3,f3⟩,⟨r4,f4⟩⟩:Lies w0 ⟨w.heap.size,0,none⟩ (.int .i64 0)∧Lies w0 ⟨w.heap.size,1,none⟩ (.int .u64 0)∧Lies w0 ⟨w.heap.size,2,none⟩ (.int .u64 0)∧Lies w0 ⟨w.heap.size,3,none⟩ (.int .i64 0)∧Lies w0 ⟨w.heap.size,4,none⟩ (.int .i64 0):=by
  rw [hw0];exact⟨⟨by simp [go_sem],by simp [go_sem]⟩,⟨by simp [go_sem],by simp [go_sem]⟩,⟨by simp [go_sem],by simp [go_sem]⟩,⟨by simp [go_sem],by simp [go_sem]⟩,⟨by simp [go_sem],by simp [go_sem]⟩⟩
 have HB:Hid (∀W,But (·=w.heap.size) w0 W→Below w.heap.size w W):=fun W hW=>But.below hB0 hW (fun k e=>by omega)
 clear h hB0 hn
 go_enter Tryz.func122,Tryz.ntmps122
 go_upto_region 1 with fail
 rw [←hw0]
 clear hw0
 go_wp2_with (first|(go_at_call 173;refine hh.out.mono ?_;rintro e w9 ⟨rfl,hw9⟩;obtain rfl:=hw9.symm;clear hw9))
 exact bodyPost_ret (v:=.tuple #[tokA (0,0,0) 0 0,.bool false]) (by simp [results,Tryz.results122,go_sem,r0,r1,r2,r3,r4]) rfl ⟨rfl,HB.out _ (set5_but (S:=(·=w.heap.size)) (But.refl _ _) (b:=w.heap.size) rfl (0,0,0) 0 0)⟩
def RootRel (w:World)(X:List Tk)(l:Fo)(o:Int)(mo:Nat)(t:Value)(w':World):Prop :=
 ∃i:Nat,t=.int .i64 (i:Int)∧i≤mo∧Hid (∀j:Nat,j<i→((j:Int),-1)∈l→ob X (j:Int)≠o)∧Below w.heap.size w w'
theorem croot_any {w:World}{A:Ad}{kn mo:Nat}{T:List (Cp×Int)}{X:List Tk}{l:Fo}(h:Cm w A kn mo T X l)(o:Int) :
  Calls Tryz.prog 120 #[.pointer (some ⟨A.g,0,none⟩),.int .i64 o] w fun e w'=>((∃r,(r,-1)∈l∧ob X r=o∧e=.returned (.tuple #[.int .i64 r,.bool true]))∨((∀r,(r,-1)∈l→ob X r≠o)∧e=.returned (.tuple #[.int .i64 0,.bool false])))∧Below w.heap.size w w':=by
 have hmo:=h.small
 have x1:=h.c1
 have HH:=hid h
 have hok:=hid h.kin.ok
 clear h
 go_enter Tryz.func120,Tryz.ntmps120
 go_upto_region 2 with fail
 go_loopw [14] (RootRel w X l o mo) (fun k _=>mo - (intOf k).toNat)
 case atStart=>exact⟨0,rfl,Nat.zero_le _,fun j hj=>by omega,Below.refl _ _⟩
 case round =>
  obtain⟨i,rfl,hi,hx,hB⟩:=hrel
  by_cases hlt:i<mo
  ·have hM:=HH.out.later hB
   obtain⟨e0,e1,e2,e3⟩:=hM.at_ hlt
   have hobx:(tk X (i:Int)).1.1=ob X (i:Int):=rfl
   rw [hobx] at e0
   obtain⟨w1,hw1⟩:∃w1,w1=wr.alloc (Obj.cells #[.int .i64 (ob X (i:Int)),.int .u64 ((tk X (i:Int)).1.2.1:Int),.int .u64 ((tk X (i:Int)).1.2.2:Int),.int .i64 (tk X (i:Int)).2] 271):=⟨_,rfl⟩
   have hB1:Below wr.heap.size wr w1:=by rw [hw1];exact below1 _ _
   have HB1:=hid (bc hB hB1)
   have z0:w1.cell? ⟨wr.heap.size,0,none⟩=some (.int .i64 (ob X (i:Int))):=by rw [hw1];simp [go_sem]
   have hh:=hid (chas_any (hM.later hB1) (i:Int))
   have hp:=hid (fun p (hp:((i:Int),p)∈l)=>cpar_any (hM.later hB1) (i:Int) p hp)
   clear hM hB1 hobx hB
   generalize hoo:ob X (i:Int)=oo at *
   generalize ((tk X (i:Int)).1.2.1:Int)=u1 at *
   generalize ((tk X (i:Int)).1.2.2:Int)=u2 at *
   generalize (tk X (i:Int)).2=u3 at *
   have HOO:=hid hoo
   clear hoo
   go_upto_region 4 with fail
   rw [←hw1]
   clear hw1 e0 e1 e2 e3
   by_cases hq:oo=o
   ·have hb:(oo==o)=true:=by simp [hq]
    by_cases hin:(i:Int)∈nums l
    ·rw [decide_eq_true hin] at hh
     obtain⟨p,hpl⟩:=mn_.1 hin
     have hp1:=hid (hp.out p hpl)
     by_cases hp0:p=-1
     ·subst hp0
      have HPL:=hid hpl
      clear hpl hin hp
      go_wp2_with (first|(go_at_call 173;refine hh.out.mono ?_;rintro e w9 ⟨rfl,hw9⟩;obtain rfl:=hw9.symm;clear hw9)|(go_at_call 174;refine hp1.out.mono ?_;rintro e w9 ⟨rfl,hw9⟩;obtain rfl:=hw9.symm;clear hw9))
      exact bodyPost_ret (v:=.tuple #[.int .i64 (i:Int),.bool true]) (by simp [results,Tryz.results120,go_sem]) rfl ⟨.inl ⟨(i:Int),HPL.out,by rw [HOO.out];exact hq,rfl⟩,HB1.out⟩
     ·have hb2:(p==(-1:Int))=false:=by simp [hp0]
      have hx1:Hid (∀j:Nat,j<i+1→((j:Int),-1)∈l→ob X (j:Int)≠o):=fun j hj hjl=>by
       by_cases e:j=i
       ·subst e;exact absurd (hok.out.uniq hpl hjl) hp0
       ·exact hx.out j (by omega) hjl
      clear hpl hin hp
      go_wp2_with (first|(go_at_call 173;refine hh.out.mono ?_;rintro e w9 ⟨rfl,hw9⟩;obtain rfl:=hw9.symm;clear hw9)|(go_at_call 174;refine hp1.out.mono ?_;rintro e w9 ⟨rfl,hw9⟩;obtain rfl:=hw9.symm;clear hw9))
      refine⟨⟨i+1,by go_num,by omega,hx1,HB1.out⟩,by simp [intOf];omega⟩
    ·rw [decide_eq_false hin] at hh
     have hx1:Hid (∀j:Nat,j<i+1→((j:Int),-1)∈l→ob X (j:Int)≠o):=fun j hj hjl=>by
      by_cases e:j=i
      ·subst e;exact absurd (mn_.2 ⟨_,hjl⟩) hin
      ·exact hx.out j (by omega) hjl
     clear hin hp
     go_wp2_with (first|(go_at_call 173;refine hh.out.mono ?_;rintro e w9 ⟨rfl,hw9⟩;obtain rfl:=hw9.symm;clear hw9))
     refine⟨⟨i+1,by go_num,by omega,hx1,HB1.out⟩,by simp [intOf];omega⟩
   ·have hb:(oo==o)=false:=by simp [hq]
    have hx1:Hid (∀j:Nat,j<i+1→((j:Int),-1)∈l→ob X (j:Int)≠o):=fun j hj hjl=>by
     by_cases e:j=i
     ·subst e;rw [HOO.out];exact hq
     ·exact hx.out j (by omega) hjl
    clear hp hh
    go_wp2
    refine⟨⟨i+1,by go_num,by omega,hx1,HB1.out⟩,by simp [intOf];omega⟩
  ·obtain rfl:i=mo:=by omega
   have HB:=hid hB
   clear hB
   go_wp2
   refine bodyPost_ret (v:=.tuple #[.int .i64 0,.bool false]) (by simp [results,Tryz.results120,go_sem]) rfl ⟨.inr ⟨fun r hr=>?_,rfl⟩,HB.out⟩
   have hrn:=hok.out.range r (mn_.2 ⟨_,hr⟩)
   obtain⟨k,rfl⟩:∃k:Nat,r=(k:Int):=⟨r.toNat,by omega⟩
   exact hx.out k (by omega) hr
def pairs (X:List Tk)(l:Fo):List (Cp×Int):=l.map (fun x=>((tk X x.1).1,x.1))
theorem pairs_len (X:List Tk)(l:Fo):(pairs X l).length=l.length:=by simp [pairs]
theorem mem_pairs {X:List Tk}{l:Fo}{c:Cp}{v:Int}:(c,v)∈pairs X l↔v∈nums l∧(tk X v).1=c:=by
 unfold pairs nums
 simp only [List.mem_map,Prod.mk.injEq]
 constructor
 ·rintro ⟨x,hx,h1,h2⟩;subst h2;exact⟨⟨x,hx,rfl⟩,h1⟩
 ·rintro ⟨⟨x,hx,h1⟩,h2⟩;subst h1;exact⟨x,hx,h2,rfl⟩
theorem keys_iff {X:List Tk}{l:Fo}{c:Cp}:c∈(pairs X l).map Prod.fst↔hasC X l c=true:=by
 rw [hasC_iff,List.mem_map]
 constructor
 ·rintro ⟨⟨a,v⟩,h,rfl⟩;exact⟨v,(mem_pairs.1 h).1,(mem_pairs.1 h).2⟩
 ·rintro ⟨n,hn,h⟩;exact⟨(c,n),mem_pairs.2 ⟨hn,h⟩,rfl⟩
theorem pairs_ext {X Y:List Tk}{l:Fo}(h:∀a∈nums l,tk Y a=tk X a):pairs Y l=pairs X l:=by
 unfold pairs
 refine List.map_congr_left (fun x hx=>?_)
 rw [h x.1 (mn_.2 ⟨x.2,hx⟩)]
structure Cat (w:World)(A:Ad)(kn mo:Nat)(X:List Tk)(l:Fo):Prop where
 cm:Cm w A kn mo (pairs X l) X l
 inv:Inv mo X l
theorem Cat.but {S:Nat→Prop}{w w':World}{A:Ad}{kn mo:Nat}{X:List Tk}{l:Fo}(h:Cat w A kn mo X l)(hb:But S w w')(hS:∀k,A.All k→¬S k):Cat w' A kn mo X l:=⟨h.cm.but hb hS,h.inv⟩
theorem Cat.later {w w':World}{A:Ad}{kn mo:Nat}{X:List Tk}{l:Fo}(h:Cat w A kn mo X l)(hb:Below w.heap.size w w'):Cat w' A kn mo X l:=⟨h.cm.later hb,h.inv⟩
theorem Cat.lt {w:World}{A:Ad}{kn mo:Nat}{X:List Tk}{l:Fo}(h:Cat w A kn mo X l):∀k,A.All k→k<w.heap.size:=h.cm.lt
theorem Cat.lt' {w:World}{A:Ad}{kn mo:Nat}{X:List Tk}{l:Fo}(h:Cat w A kn mo X l):∀k,A.Wr k→k<w.heap.size:=fun k hk=>h.cm.lt k (.inr (.inr hk))
def findN (X:List Tk)(l:Fo)(c:Cp):Int:=((nums l).find? (fun n=>decide ((tk X n).1=c))).getD 0
theorem findN_in {m:Nat}{X:List Tk}{l:Fo}(h:Inv m X l){n:Int}(hn:n∈nums l):findN X l (tk X n).1=n:=by
 unfold findN
 cases hf:(nums l).find? (fun k=>decide ((tk X k).1=(tk X n).1)) with
 | none=>have:=List.find?_eq_none.1 hf n hn;simp at this
 | some k =>
  have h1:=List.find?_some hf
  have h2:=List.mem_of_find?_eq_some hf
  simp only [decide_eq_true_eq] at h1
  exact h.one k h2 n hn h1
theorem findN_out {X:List Tk}{l:Fo}{c:Cp}(h:hasC X l c=false):findN X l c=0:=by
 unfold findN
 rw [List.find?_eq_none.2 (fun n hn hd=>?_)]
 ·rfl
 ·have:=hasC_iff.2 ⟨n,hn,of_decide_eq_true hd⟩
  rw [h] at this;cases this
theorem cfind_any {w:World}{A:Ad}{kn mo:Nat}{X:List Tk}{l:Fo}(h:Cat w A kn mo X l)(c:Cp)(hw:c.2.1<B64∧c.2.2<B64) :
  Calls Tryz.prog 196 #[.pointer (some ⟨A.g,0,none⟩),cpV c] w fun e w'=>e=.returned (.tuple #[.int .i64 (findN X l c),.bool (hasC X l c)])∧Below w.heap.size w w':=by
 by_cases hc:hasC X l c=true
 ·obtain⟨n,hn,rfl⟩:=hasC_iff.1 hc
  rw [hc,findN_in h.inv hn]
  exact find_of h.cm _ _ _ n true (fun W hW=>I.get_ok (h.cm.tab.later hW) _ _ _ hw.1 hw.2 n (mem_pairs.2 ⟨hn,rfl⟩))
 ·have hc':hasC X l c=false:=by simpa using hc
  rw [hc',findN_out hc']
  exact find_of h.cm _ _ _ 0 false (fun W hW=>I.get_none (h.cm.tab.later hW) _ _ _ hw.1 hw.2 (fun hk=>hc (keys_iff.1 hk)))
def inN (X:List Tk)(l:Fo)(o:Int):Nat:=((nums l).filter (fun n=>decide (ob X n=o))).length
theorem firsts_succ (k:Nat):firsts (k+1)=firsts k++[(k:Int)]:=by unfold firsts;rw [List.range_succ,List.map_append];rfl
def inF (X:List Tk)(l:Fo)(o:Int)(k:Nat):Nat:=((firsts k).filter (fun n=>decide (n∈nums l∧ob X n=o))).length
theorem inF_le (X:List Tk)(l:Fo)(o:Int)(k:Nat):inF X l o k≤k:=by
 have:=List.length_filter_le (fun n=>decide (n∈nums l∧ob X n=o)) (firsts k)
 rw [firsts_len] at this
 exact this
theorem inF_succ (X:List Tk)(l:Fo)(o:Int)(k:Nat):inF X l o (k+1)=inF X l o k+(if (k:Int)∈nums l∧ob X (k:Int)=o then 1 else 0):=by
 unfold inF
 rw [firsts_succ,List.filter_append,List.length_append]
 congr 1
 by_cases h:(k:Int)∈nums l∧ob X (k:Int)=o
 ·rw [if_pos h];simp [h]
 ·rw [if_neg h,List.filter_eq_nil_iff.2 (fun a ha=>by rw [List.mem_singleton] at ha;subst ha;simpa using h)];rfl
theorem same_len {A B:List Int}(hA:A.Nodup)(hB:B.Nodup)(h:∀x,x∈A↔x∈B):A.length=B.length :=
 Nat.le_antisymm (nd_sub hA (fun x hx=>(h x).1 hx)) (nd_sub hB (fun x hx=>(h x).2 hx))
theorem inF_all {m:Nat}{X:List Tk}{l:Fo}(h:Ok m l)(o:Int):inF X l o m=inN X l o:=by
 refine same_len (List.Nodup.sublist List.filter_sublist (firsts_nodup m)) (List.Nodup.sublist List.filter_sublist h.nodup) (fun x=>?_)
 rw [List.mem_filter,List.mem_filter,mem_firsts,decide_eq_true_eq,decide_eq_true_eq]
 exact⟨fun hx=>hx.2,fun hx=>⟨h.range x hx.1,hx⟩⟩
def InRel (w:World)(X:List Tk)(l:Fo)(o:Int)(mo:Nat)(v t:Value)(w':World):Prop :=
 ∃i:Nat,t=.int .i64 (i:Int)∧v=.int .i64 (inF X l o i:Int)∧i≤mo∧Below w.heap.size w w'
theorem cin_any {w:World}{A:Ad}{kn mo:Nat}{T:List (Cp×Int)}{X:List Tk}{l:Fo}(h:Cm w A kn mo T X l)(o:Int) :
  Calls Tryz.prog 128 #[.pointer (some ⟨A.g,0,none⟩),.int .i64 o] w fun e w'=>e=.returned (.int .i64 (inN X l o:Int))∧Below w.heap.size w w':=by
 have hmo:=h.small
 have x1:=h.c1
 have HH:=hid h
 have hok:=hid h.kin.ok
 clear h
 go_enter Tryz.func128,Tryz.ntmps128
 go_upto_region 3 with fail
 go_loopw [5,14] (InRel w X l o mo) (fun _ k _=>mo - (intOf k).toNat)
 case atStart=>exact⟨0,rfl,rfl,Nat.zero_le _,Below.refl _ _⟩
 case round =>
  obtain⟨i,rfl,rfl,hi,hB⟩:=hrel
  by_cases hlt:i<mo
  ·have hM:=HH.out.later hB
   obtain⟨e0,e1,e2,e3⟩:=hM.at_ hlt
   have hobx:(tk X (i:Int)).1.1=ob X (i:Int):=rfl
   rw [hobx] at e0
   obtain⟨w1,hw1⟩:∃w1,w1=wr.alloc (Obj.cells #[.int .i64 (ob X (i:Int)),.int .u64 ((tk X (i:Int)).1.2.1:Int),.int .u64 ((tk X (i:Int)).1.2.2:Int),.int .i64 (tk X (i:Int)).2] 271):=⟨_,rfl⟩
   have hB1:Below wr.heap.size wr w1:=by rw [hw1];exact below1 _ _
   have HB1:=hid (bc hB hB1)
   have z0:w1.cell? ⟨wr.heap.size,0,none⟩=some (.int .i64 (ob X (i:Int))):=by rw [hw1];simp [go_sem]
   have hh:=hid (chas_any (hM.later hB1) (i:Int))
   have hsu:=inF_succ X l o i
   have hle:=inF_le X l o i
   clear hM hB1 hobx hB
   by_cases hq:ob X (i:Int)=o
   ·by_cases hin:(i:Int)∈nums l
    ·rw [decide_eq_true hin] at hh
     rw [if_pos ⟨hin,hq⟩] at hsu
     have HSU:=hid hsu
     have hb:(ob X (i:Int)==o)=true:=by simp [hq]
     clear hsu hin hq
     generalize ob X (i:Int)=oo at *
     generalize ((tk X (i:Int)).1.2.1:Int)=u1 at *
     generalize ((tk X (i:Int)).1.2.2:Int)=u2 at *
     generalize (tk X (i:Int)).2=u3 at *
     generalize hff:inF X l o i=f at *
     clear hff
     go_upto_region 5 with fail
     rw [←hw1]
     clear hw1 e0 e1 e2 e3
     go_wp2_with (first|(go_at_call 173;refine hh.out.mono ?_;rintro e w9 ⟨rfl,hw9⟩;obtain rfl:=hw9.symm;clear hw9))
     refine⟨⟨i+1,by go_num,by rw [HSU.out];go_num,by omega,HB1.out⟩,by simp [intOf];omega⟩
    ·rw [decide_eq_false hin] at hh
     rw [if_neg (fun hc=>hin hc.1)] at hsu
     have HSU:=hid hsu
     have hb:(ob X (i:Int)==o)=true:=by simp [hq]
     clear hsu hin hq
     generalize ob X (i:Int)=oo at *
     generalize ((tk X (i:Int)).1.2.1:Int)=u1 at *
     generalize ((tk X (i:Int)).1.2.2:Int)=u2 at *
     generalize (tk X (i:Int)).2=u3 at *
     generalize hff:inF X l o i=f at *
     clear hff
     go_upto_region 5 with fail
     rw [←hw1]
     clear hw1 e0 e1 e2 e3
     go_wp2_with (first|(go_at_call 173;refine hh.out.mono ?_;rintro e w9 ⟨rfl,hw9⟩;obtain rfl:=hw9.symm;clear hw9))
     refine⟨⟨i+1,by go_num,by rw [HSU.out];rfl,by omega,HB1.out⟩,by simp [intOf];omega⟩
   ·rw [if_neg (fun hc=>hq hc.2)] at hsu
    have HSU:=hid hsu
    have hb:(ob X (i:Int)==o)=false:=by simp [hq]
    clear hsu hq hh
    generalize ob X (i:Int)=oo at *
    generalize ((tk X (i:Int)).1.2.1:Int)=u1 at *
    generalize ((tk X (i:Int)).1.2.2:Int)=u2 at *
    generalize (tk X (i:Int)).2=u3 at *
    generalize hff:inF X l o i=f at *
    clear hff
    go_upto_region 5 with fail
    rw [←hw1]
    clear hw1 e0 e1 e2 e3
    go_wp2
    refine⟨⟨i+1,by go_num,by rw [HSU.out];rfl,by omega,HB1.out⟩,by simp [intOf];omega⟩
  ·obtain rfl:i=mo:=by omega
   have HB:=hid hB
   rw [inF_all hok.out]
   clear hB
   go_wp2
   go_ret
   exact⟨rfl,HB.out⟩
structure Res where
 num:Int
 code:Int
 X:List Tk
 l:Fo
def addR (mo:Nat)(X:List Tk)(l:Fo)(p:Int)(c:Cp)(r:Int):Res :=
 if hasC X l c=true then ⟨0,19,X,l⟩ else if l.length=mo then ⟨0,10,X,l⟩ else ⟨(low l:Int),0,X.set (low l) (c,r),l++[((low l:Int),p)]⟩
def rootR (mo:Nat)(X:List Tk)(l:Fo)(c:Cp)(r:Int):Res :=
 if validB r=false then ⟨0,4,X,l⟩ else if hasO X l c.1=true then ⟨0,19,X,l⟩ else addR mo X l (-1) c r
def childR (mo:Nat)(X:List Tk)(l:Fo)(p:Int)(c:Cp)(r:Int):Res :=
 if p∉nums l then ⟨0,20,X,l⟩ else if ob X p≠c.1 then ⟨0,3,X,l⟩ else if partB r (rg X p)=false then ⟨0,4,X,l⟩ else addR mo X l p c r
def Done (w:World)(A:Ad)(kn mo:Nat)(R:Res)(e:Ending)(w':World):Prop :=
 e=.returned (.tuple #[.int .i64 R.num,.int .i64 R.code])∧Cat w' A kn mo R.X R.l∧But A.Wr w w'
theorem Done.same {w w':World}{A:Ad}{kn mo:Nat}{X:List Tk}{l:Fo}{c:Int}(h:Cat w A kn mo X l)(hb:Below w.heap.size w w'):Done w A kn mo ⟨0,c,X,l⟩ (.returned (.tuple #[.int .i64 0,.int .i64 c])) w':=⟨rfl,h.later hb,But.of hb⟩
theorem Done.pre {w W w':World}{A:Ad}{kn mo:Nat}{R:Res}{e:Ending}(hb:Below w.heap.size w W)(h:Done W A kn mo R e w'):Done w A kn mo R e w':=⟨h.1,h.2.1,(But.of hb).trans h.2.2⟩
theorem add_no {w:World}{A:Ad}{kn mo:Nat}{X:List Tk}{l:Fo}(h:Cat w A kn mo X l)(p o:Int)(hi lo:Nat)(r code:Int)(hc:code≠0)
  (hG:∀W,Below w.heap.size w W→Calls Tryz.prog 219 #[.pointer (some ⟨A.g,0,none⟩),.int .i64 (low l:Int),.agg #[.int .i64 o,.int .u64 (hi:Int),.int .u64 (lo:Int),.int .i64 r]] W (fun e w'=>e=.returned (.int .i64 code)∧Below W.heap.size W w')) :
  Calls Tryz.prog 179 #[.pointer (some ⟨A.g,0,none⟩),.int .i64 p,.agg #[.int .i64 o,.int .u64 (hi:Int),.int .u64 (lo:Int)],.int .i64 r] w (Done w A kn mo ⟨0,code,X,l⟩):=by
 obtain⟨w1,hw1⟩:∃w1,w1=w.alloc (Obj.cells #[.int .i64 o,.int .u64 (hi:Int),.int .u64 (lo:Int)] 38):=⟨_,rfl⟩
 have hB1:Below w.heap.size w w1:=by rw [hw1];exact below1 _ _
 have hC:Hid (∀U:World,Below w1.heap.size w1 U→(U.cell? ⟨w.heap.size,0,none⟩=some (.int .i64 o)∧U.cell? ⟨w.heap.size,1,none⟩=some (.int .u64 (hi:Int))∧U.cell? ⟨w.heap.size,2,none⟩=some (.int .u64 (lo:Int)))∧Below w1.heap.size w1 U):=fun U hU =>
  ⟨⟨cell_later hU (by rw [hw1];simp [go_sem]),cell_later hU (by rw [hw1];simp [go_sem]),cell_later hU (by rw [hw1];simp [go_sem])⟩,hU⟩
 have HG:=hid (fun (U:World) (hU:Below w1.heap.size w1 U)=>hG U (bc hB1 hU))
 have hl:=hid (lowest_any (h.cm.later hB1))
 have HB1:=hid hB1
 have HH:=hid h
 have hbn:(code==0)=false:=by simp [hc]
 clear hG hB1 h
 go_enter Tryz.func179,Tryz.ntmps179
 go_upto_region 1 with fail
 rw [←hw1]
 clear hw1
 go_upto_region 2 with (first|(go_at_call 218;refine hl.out.mono ?_;rintro e w9 ⟨rfl,hw9⟩;obtain rfl:=hw9.symm;clear hw9))
 go_region_held3 (fun U=>(U.cell? ⟨w.heap.size,0,none⟩=some (.int .i64 o)∧U.cell? ⟨w.heap.size,1,none⟩=some (.int .u64 (hi:Int))∧U.cell? ⟨w.heap.size,2,none⟩=some (.int .u64 (lo:Int)))∧Below w1.heap.size w1 U) (first|exact hC.out _ HB2.out|exact hC.out _ (Below.refl _ _).drew) (first
  | (go_at_call 219;refine (HG.out _ (Below.refl _ _).drew).mono ?_;rintro e w2 ⟨rfl,hb2⟩;have HB2:=hid (bc (Below.refl w1.heap.size w1).drew hb2);clear hb2))
 go_wp2
 exact bodyPost_ret (v:=.tuple #[.int .i64 0,.int .i64 code]) (by simp [results,Tryz.results179,go_sem]) rfl (Done.same HH.out (bc HB1.out HB2.out))
theorem add_ok {w:World}{A:Ad}{kn mo:Nat}{X:List Tk}{l:Fo}(h:Cat w A kn mo X l)(p o:Int)(hi lo:Nat)(r:Int)(h1:hi<B64)(h2:lo<B64)(hc:hasC X l (o,hi,lo)=false)(hl:l.length<mo)(hv:validB r=true)
  (hp:(p=-1∧hasO X l o=false)∨(p∈nums l∧ob X p=o∧partB r (rg X p)=true)) :
  Calls Tryz.prog 179 #[.pointer (some ⟨A.g,0,none⟩),.int .i64 p,.agg #[.int .i64 o,.int .u64 (hi:Int),.int .u64 (lo:Int)],.int .i64 r] w (Done w A kn mo ⟨(low l:Int),0,X.set (low l) ((o,hi,lo),r),l++[((low l:Int),p)]⟩):=by
 have hlow:=low_lt h.inv.ok hl
 obtain⟨w1,hw1⟩:∃w1,w1=w.alloc (Obj.cells #[.int .i64 o,.int .u64 (hi:Int),.int .u64 (lo:Int)] 38):=⟨_,rfl⟩
 have hB1:Below w.heap.size w w1:=by rw [hw1];exact below1 _ _
 have hni:∀k,A.Wr k→k<w.heap.size:=h.lt'
 have hC:Hid (∀U:World,But A.Wr w1 U→(U.cell? ⟨w.heap.size,0,none⟩=some (.int .i64 o)∧U.cell? ⟨w.heap.size,1,none⟩=some (.int .u64 (hi:Int))∧U.cell? ⟨w.heap.size,2,none⟩=some (.int .u64 (lo:Int)))∧But A.Wr w1 U):=fun U hU =>
  ⟨⟨cb_ hU (by rw [hw1];simp [go_sem]) (fun hs=>by have:=hni _ hs;simp at this),cb_ hU (by rw [hw1];simp [go_sem]) (fun hs=>by have:=hni _ hs;simp at this),cb_ hU (by rw [hw1];simp [go_sem]) (fun hs=>by have:=hni _ hs;simp at this)⟩,hU⟩
 have hpl:p=-1∨p∈nums l:=hp.imp (·.1) (·.1)
 have hG:=fun (U:World) (hU:Below w1.heap.size w1 U)=>note_ok (h.cm.later (bc hB1 hU)) (low l) hlow o hi lo r (fun W hW=>I.put_ok ((h.cm.later (bc hB1 hU)).tab.later hW) o hi lo (low l:Int) h1 h2 (fun hk=>by rw [keys_iff.1 hk] at hc;cases hc) (by rw [pairs_len];exact hl))
 have HE:Hid (pairs X l++[((o,hi,lo),(low l:Int))]=pairs (X.set (low l) ((o,hi,lo),r)) (l++[((low l:Int),p)])):=by
  unfold Hid
  have e1:pairs (X.set (low l) ((o,hi,lo),r)) (l++[((low l:Int),p)])=pairs (X.set (low l) ((o,hi,lo),r)) l++[((tk (X.set (low l) ((o,hi,lo),r)) (low l:Int)).1,(low l:Int))]:=by simp [pairs]
  rw [e1,tk_set_same _ (by rw [h.inv.len];exact hlow),pairs_ext (fun a ha=>tk_set_other _ (nums_nn h.inv.ok ha) (fun e=>low_not l (e ▸ ha)))]
 have HI:=hid (h.inv.add (c:=(o,hi,lo)) hlow (low_not l) hc ⟨h1,h2⟩ hv hp)
 have HJ:=hid (fun (U:World) T (hU:Cm U A kn mo T (X.set (low l) ((o,hi,lo),r)) l)=>join_any hU p (low l) hlow (low_not l) hpl)
 have HG:=hid hG
 have hlo:=hid (lowest_any (h.cm.later hB1))
 have HB1:=hid hB1
 clear hG hB1 h hp hpl hni hc hl
 go_enter Tryz.func179,Tryz.ntmps179
 go_upto_region 1 with fail
 rw [←hw1]
 clear hw1
 go_upto_region 2 with (first|(go_at_call 218;refine hlo.out.mono ?_;rintro e w9 ⟨rfl,hw9⟩;obtain rfl:=hw9.symm;clear hw9))
 go_region_held3 (fun U=>(U.cell? ⟨w.heap.size,0,none⟩=some (.int .i64 o)∧U.cell? ⟨w.heap.size,1,none⟩=some (.int .u64 (hi:Int))∧U.cell? ⟨w.heap.size,2,none⟩=some (.int .u64 (lo:Int)))∧But A.Wr w1 U) (first|exact hC.out _ HB2.out|exact hC.out _ (But.of (Below.refl _ _).drew)) (first
  | (go_at_call 219;refine (HG.out _ (Below.refl _ _).drew).mono ?_;rintro e w2 ⟨rfl,hc2,hb2⟩;have HB2:=hid ((But.of (S:=A.Wr) (Below.refl w1.heap.size w1).drew).trans hb2);have HC2:=hid hc2;clear hb2 hc2))
 go_wp2_with (first|(go_at_call 220;refine (HJ.out _ _ HC2.out).mono ?_;rintro e w3 ⟨rfl,hc3,hb3⟩;have HC3:=hid hc3;have HB3:=hid hb3;clear hc3 hb3))
 refine bodyPost_ret (v:=.tuple #[.int .i64 (low l:Int),.int .i64 0]) (by simp [results,Tryz.results179,go_sem]) rfl ⟨rfl,⟨?_,HI.out⟩,(But.of HB1.out).trans (HB2.out.trans HB3.out)⟩
 have:=HC3.out
 rw [HE.out] at this
 exact this
theorem add_any {w:World}{A:Ad}{kn mo:Nat}{X:List Tk}{l:Fo}(h:Cat w A kn mo X l)(p:Int)(c:Cp)(r:Int)(hw:c.2.1<B64∧c.2.2<B64)(hv:validB r=true)
  (hp:(p=-1∧hasO X l c.1=false)∨(p∈nums l∧ob X p=c.1∧partB r (rg X p)=true)) :
  Calls Tryz.prog 179 #[.pointer (some ⟨A.g,0,none⟩),.int .i64 p,cpV c,.int .i64 r] w (Done w A kn mo (addR mo X l p c r)):=by
 obtain⟨o,hi,lo⟩:=c
 unfold addR
 by_cases hc:hasC X l (o,hi,lo)=true
 ·rw [if_pos hc]
  exact add_no h p o hi lo r 19 (by decide) (fun W hW=>note_no (h.cm.later hW) _ o hi lo r 19 (by decide) (fun U hU=>I.put_there ((h.cm.later hW).tab.later hU) o hi lo _ hw.1 hw.2 (keys_iff.2 hc)))
 ·rw [if_neg hc]
  have hk:(o,hi,lo)∉(pairs X l).map Prod.fst:=fun hk=>hc (keys_iff.1 hk)
  by_cases hl:l.length=mo
  ·rw [if_pos hl]
   exact add_no h p o hi lo r 10 (by decide) (fun W hW=>note_no (h.cm.later hW) _ o hi lo r 10 (by decide) (fun U hU=>I.put_full ((h.cm.later hW).tab.later hU) o hi lo _ hw.1 hw.2 hk (by rw [pairs_len];exact hl)))
  ·rw [if_neg hl]
   have hle:=h.inv.ok.len
   exact add_ok h p o hi lo r hw.1 hw.2 (by simpa using hc) (by omega) hv hp
theorem Inv.rootO {m:Nat}{X:List Tk}{l:Fo}(h:Inv m X l){o:Int}:hasO X l o=true↔∃r,(r,-1)∈l∧ob X r=o:=by
 rw [hasO_iff]
 constructor
 ·rintro ⟨n,hn,rfl⟩
  obtain⟨r,h1,h2,_⟩:=h.toRoot n hn
  exact⟨r,h1,h2⟩
 ·rintro ⟨r,h1,h2⟩
  exact⟨r,mn_.2 ⟨_,h1⟩,h2⟩
theorem croot_of {w:World}{A:Ad}{kn mo:Nat}{X:List Tk}{l:Fo}(h:Cat w A kn mo X l)(c:Cp)(r:Int)(hw:c.2.1<B64∧c.2.2<B64) :
  Calls Tryz.prog 127 #[.pointer (some ⟨A.g,0,none⟩),cpV c,.int .i64 r] w (Done w A kn mo (rootR mo X l c r)):=by
 obtain⟨o,hi,lo⟩:=c
 obtain⟨w1,hw1⟩:∃w1,w1=w.alloc (Obj.cells #[.int .i64 o,.int .u64 (hi:Int),.int .u64 (lo:Int)] 38):=⟨_,rfl⟩
 have hB1:Below w.heap.size w w1:=by rw [hw1];exact below1 _ _
 have z0:w1.cell? ⟨w.heap.size,0,none⟩=some (.int .i64 o):=by rw [hw1];simp [go_sem]
 have HZ:Hid (∀U,Below w1.heap.size w1 U→U.cell? ⟨w.heap.size,0,none⟩=some (.int .i64 o)∧U.cell? ⟨w.heap.size,1,none⟩=some (.int .u64 (hi:Int))∧U.cell? ⟨w.heap.size,2,none⟩=some (.int .u64 (lo:Int))):=fun U hU =>
  ⟨cell_later hU (by rw [hw1];simp [go_sem]),cell_later hU (by rw [hw1];simp [go_sem]),cell_later hU (by rw [hw1];simp [go_sem])⟩
 have HB1:=hid hB1
 have HH:=hid h
 have H1:=hid (h.later hB1)
 unfold rootR
 clear h hB1
 by_cases hv:validB r=true
 ·rw [if_neg (by rw [hv];decide)]
  by_cases ho:hasO X l o=true
  ·rw [if_pos ho]
   go_enter Tryz.func127,Tryz.ntmps127
   go_upto_region 1 with fail
   rw [←hw1]
   clear hw1
   go_upto_region 4 with (first|(go_at_call 120;refine (croot_any H1.out.cm o).mono ?_;rintro e w2 ⟨⟨rt,hr1,hr2,rfl⟩|⟨hr1,rfl⟩,hb2⟩<;>have HB2:=hid hb2<;>clear hb2)|(go_at_call 180;refine (valid_any _ _).mono ?_;rintro e w9 ⟨rfl,hw9⟩;obtain rfl:=hw9.symm;clear hw9;rw [hv]))
   ·go_wp2
    exact bodyPost_ret (v:=.tuple #[.int .i64 0,.int .i64 19]) (by simp [results,Tryz.results127,go_sem]) rfl (Done.same HH.out (bc HB1.out HB2.out))
   ·exfalso
    obtain⟨r',h1,h2⟩:=HH.out.inv.rootO.1 ho
    exact hr1 r' h1 h2
  ·rw [if_neg ho]
   have HA:=hid (fun (U:World) (hU:Below w.heap.size w U)=>add_any (HH.out.later hU) (-1) (o,hi,lo) r hw hv (.inl ⟨rfl,by simpa using ho⟩))
   go_enter Tryz.func127,Tryz.ntmps127
   go_upto_region 1 with fail
   rw [←hw1]
   clear hw1
   go_upto_region 4 with (first|(go_at_call 120;refine (croot_any H1.out.cm o).mono ?_;rintro e w2 ⟨⟨rt,hr1,hr2,rfl⟩|⟨hr1,rfl⟩,hb2⟩<;>have HB2:=hid hb2<;>clear hb2)|(go_at_call 180;refine (valid_any _ _).mono ?_;rintro e w9 ⟨rfl,hw9⟩;obtain rfl:=hw9.symm;clear hw9;rw [hv]))
   ·exfalso
    exact ho (HH.out.inv.rootO.2 ⟨rt,hr1,hr2⟩)
   ·obtain⟨y0,y1,y2⟩:=HZ.out _ HB2.out
    generalize addR mo X l (-1) (o,hi,lo) r=R at *
    go_wp2_with (first|(go_at_call 179;refine (HA.out _ (bc HB1.out HB2.out)).mono ?_;rintro e w3 hd;have hd1:=hd.1;subst hd1;have HD:=hid hd;clear hd))
    exact bodyPost_ret (v:=.tuple #[.int .i64 R.num,.int .i64 R.code]) (by simp [results,Tryz.results127,go_sem]) rfl (HD.out.pre (bc HB1.out HB2.out))
 ·have hv':validB r=false:=by simpa using hv
  rw [if_pos hv']
  go_enter Tryz.func127,Tryz.ntmps127
  go_upto_region 1 with fail
  rw [←hw1]
  clear hw1
  go_wp2_with (first|(go_at_call 180;refine (valid_any _ _).mono ?_;rintro e w9 ⟨rfl,hw9⟩;obtain rfl:=hw9.symm;clear hw9;rw [hv']))
  exact bodyPost_ret (v:=.tuple #[.int .i64 0,.int .i64 4]) (by simp [results,Tryz.results127,go_sem]) rfl (Done.same HH.out HB1.out)
open Go.RowKit
theorem ints_set (L:List Int)(j:Nat)(v:Int):(ints L).set j (.int .i64 v)=ints (L.set j v):=by simp [ints,List.map_set]
theorem Own.set {w:World}{base g n c j:Nat}{L:List Int}{v:Int}(h:Own w base 3 (some ⟨g,0,none⟩) n c (ints L)):Own (w.setCell ⟨g,j,none⟩ (.int .i64 v)) base 3 (some ⟨g,0,none⟩) n c (ints (L.set j v)) :=
 ⟨by rw [←ints_set];exact (h.row.stored j _).1,ints_one _⟩
theorem Own.form {w:World}{base:Nat}{e:TypeId}{a:Option Addr}{n cap:Nat}{L:List Value}(h:Own w base e a n cap L)(hn:0<n):∃g,a=some ⟨g,0,none⟩:=by
 rcases h.row.2 with ⟨_,h1⟩|⟨g,c,cur,hv,_⟩
 ·omega
 ·simp only [Value.slice.injEq] at hv
  exact⟨g,hv.1⟩
def Gro (w:World)(base:Nat)(a:Option Addr)(n cap:Nat)(L:List Value):Prop:=Own w base 3 a n cap L∨(n=cap∧∃p,a=some p∧Row w a n cap L)
theorem append_one {w:World}{base:Nat}{a:Option Addr}{n cap:Nat}{L:List Int}(x:Int)(h:Gro w base a n cap (ints L))(hb:base≤w.heap.size)(hr:(n+1)*8≤140737488355328) :
  ∃a' cap' w',(Builtin.append_ #[43,43] 43 #[.slice a n cap,.slice (some ⟨w.heap.size,0,none⟩) 1 1]).run Tryz.prog (w.alloc (Obj.cells #[.int .i64 x] 3))=.ok (.slice a' (n+1) cap') w'∧Own w' base 3 a' (n+1) cap' (ints (L++[x]))∧Gr a a' w w':=by
 rcases h with h|⟨rfl,p,rfl,h⟩
 ·obtain⟨a',cap',w',hrun,hO,hG⟩:=append_ints (h.alloc (Obj.cells #[.int .i64 x] 3)) (Row.single w 3 (.int .i64 x) rfl) (by simp;omega) hr
  exact⟨a',cap',w',hrun,by rw [ints_append];exact hO,hG.pre (below1 _ _)⟩
 ·obtain⟨g',cap',w',hrun,hO,hB⟩:=append_full_gen 43 3 _ 8 Tryz.underlying43 info3 rfl (h.alloc (Obj.cells #[.int .i64 x] 3)) (Row.single w 3 (.int .i64 x) rfl) (by omega) hr (by omega)
  refine⟨_,cap',w',hrun,by rw [ints_append];exact hO.mono (by simp;omega),But.of (bc (below1 _ _) hB),fun k hk=>.inr ?_⟩
  have:=hO.blk k hk
  simp at this
  omega
theorem Own.sub {w:World}{base:Nat}{e:TypeId}{a:Option Addr}{n cap:Nat}{L:List Value}(h:Own w base e a n cap L){m:Nat}(hm:m≤n):Own w base e a m cap (L.take m):=by
 refine⟨?_,fun u hu=>h.one u (List.mem_of_mem_take hu)⟩
 have hl:=h.len
 refine⟨by rw [List.length_take];omega,?_⟩
 rcases h.row.2 with ⟨h1,h2⟩|⟨g,c,cur,hv,hg,hh,hc,hc2,hs,ht⟩
 ·subst h2
  obtain rfl:m=0:=by omega
  exact .inl ⟨h1,rfl⟩
 ·simp only [Value.slice.injEq] at hv
  obtain⟨rfl,_,rfl⟩:=hv
  refine .inr ⟨g,cap,cur,rfl,hg,hh,Nat.le_trans hm hc,hc2,hs,?_⟩
  rw [←ht,List.take_take]
  congr 1
  omega
def RevAt (L M:List Int)(i:Nat):Prop:=M.length=L.length∧∀k,k<L.length→M[k]?=if k<i∨L.length≤k+i then L[L.length - 1 - k]? else L[k]?
theorem RevAt.step {L M:List Int}{i j:Nat}{x y:Int}(h:RevAt L M i)(hj:i+j+1=L.length)(hij:i<j)(hx:M[i]?=some x)(hy:M[j]?=some y):RevAt L ((M.set i y).set j x) (i+1):=by
 obtain⟨h1,h2⟩:=h
 refine⟨by simp [h1],fun k hk=>?_⟩
 have hi2:=h2 i (by omega)
 rw [if_neg (by omega),hx] at hi2
 have hj2:=h2 j (by omega)
 rw [if_neg (by omega),hy] at hj2
 rw [List.getElem?_set]
 split
 ·next e =>
  subst e
  rw [if_pos (by simp;omega),if_pos (by omega),show L.length - 1 - j=i by omega]
  exact hi2
 ·rw [List.getElem?_set]
  split
  ·next e =>
   subst e
   rw [if_pos (by omega),if_pos (by omega),show L.length - 1 - i=j by omega]
   exact hj2
  ·rw [h2 k hk]
   by_cases hc:k<i∨L.length≤k+i
   ·rw [if_pos hc,if_pos (by omega)]
   ·rw [if_neg hc,if_neg (by omega)]
theorem RevAt.end_ {L M:List Int}{i:Nat}(h:RevAt L M i)(hi:L.length≤2*i+1):M=L.reverse:=by
 obtain⟨h1,h2⟩:=h
 apply List.ext_getElem?
 intro k
 by_cases hk:k<L.length
 ·rw [h2 k hk,List.getElem?_reverse hk]
  split
  ·rfl
  ·rw [show L.length - 1 - k=k by omega]
 ·rw [List.getElem?_eq_none (by omega),List.getElem?_eq_none (by simp;omega)]
def RevRel (w:World)(base:Nat)(a:Option Addr)(n cap:Nat)(L:List Int)(t u:Value)(w':World):Prop :=
 ∃(i:Nat) (M:List Int),t=.int .i64 (i:Int)∧u=.int .i64 ((n:Int) - 1 - i)∧RevAt L M i∧Own w' base 3 a n cap (ints M)∧But (Blk a) w w'
theorem rev_any {w:World}{base:Nat}{a:Option Addr}{n cap:Nat}{L:List Int}(h:Own w base 3 a n cap (ints L))(hn:n≤2048) :
  Calls Tryz.prog 251 #[.slice a n cap] w fun e w'=>(∃v,e=.returned v)∧Own w' base 3 a n cap (ints L.reverse)∧But (Blk a) w w':=by
 have hl:=h.len
 rw [il_] at hl
 have HO:=hid h
 clear h
 go_enter Tryz.func251,Tryz.ntmps251
 go_upto_region 1 with fail
 go_loopw [2,3] (RevRel w base a n cap L) (fun t _ _=>n - (intOf t).toNat)
 case atStart=>exact⟨0,L,rfl,by go_num,⟨rfl,fun k hk=>by rw [if_neg (by omega)]⟩,HO.out,But.refl _ _⟩
 case round =>
  obtain⟨i,M,rfl,rfl,hR,hO,hB⟩:=hrel
  by_cases hlt:2*i+1<n
  ·obtain⟨g,rfl⟩:=hO.form (by omega)
   obtain⟨j,hj⟩:∃j:Nat,i+j+1=n:=⟨n - 1 - i,by omega⟩
   have hje:((n:Int) - 1 - i)=(j:Int):=by omega
   rw [hje]
   have hlM:M.length=n:=by rw [hR.1];exact hl
   obtain⟨x,hx⟩:=get_some (L:=M) (i:=i) (by omega)
   obtain⟨y,hy⟩:=get_some (L:=M) (i:=j) (by omega)
   obtain⟨_,e1,hL1⟩:=hO.lies rfl (j:=i) (u:=.int .i64 x) (by simp [ints,hx])
   cases e1
   obtain⟨_,e2,hL2⟩:=hO.lies rfl (j:=j) (u:=.int .i64 y) (by simp [ints,hy])
   cases e2
   have y1:=hL1.1
   have z1:=hL1.2
   have y2:=hL2.1
   have z2:=hL2.2
   have hij:i<j:=by omega
   have hjn:j<n:=by omega
   have HO2:=hid ((hO.set (j:=i) (v:=y)).set (j:=j) (v:=x))
   have HB2:=hid ((hB.setCell (p:=⟨g,i,none⟩) ⟨_,rfl,rfl⟩ (.int .i64 y)).setCell (p:=⟨g,j,none⟩) ⟨_,rfl,rfl⟩ (.int .i64 x))
   have HR2:=hid (hR.step (by omega) hij hx hy)
   clear hO hB hR hL1 hL2 HO
   have y3:(wr.setCell ⟨g,i,none⟩ (.int .i64 y)).cell? ⟨g,j,none⟩=some (.int .i64 y):=cell_ne y2 (by omega)
   have hne:((i:Int)==(j:Int))=false:=by simp;omega
   clear hx hy hje hlM hlt
   go_wp2
   go_region
   go_wp2
   go_roundw
   case rel=>exact⟨i+1,_,by go_num,by go_num,HR2.out,HO2.out.later ((Below.refl _ _).drew),HB2.out.call ((Below.refl _ _).drew)⟩
   case measure=>simp [intOf];omega
  ·have hge:¬((i:Int)<(n:Int) - 1 - i):=by omega
   have HO2:=hid hO
   have HB2:=hid hB
   have HE:=hid (hR.end_ (by omega))
   clear hO hB hR HO hlt
   go_wp2
   go_end0
   exact⟨⟨_,rfl⟩,by have:=HO2.out;rwa [HE.out] at this,HB2.out⟩
theorem Ki.big {w:World}{g gb m:Nat}{l:Fo}(h:Ki w g gb m l):m≤1024:=by
 obtain⟨N,h1,_⟩:=h
 exact h1.big
theorem Own.one_new (w:World)(x:Int):Own (w.alloc (Obj.cells #[.int .i64 x] 3)) w.heap.size 3 (some ⟨w.heap.size,0,none⟩) 1 1 (ints [x]) :=
 ⟨⟨rfl,.inr ⟨w.heap.size,1,#[.int .i64 x],rfl,Nat.le_refl _,heap_alloc_new w _,Nat.le_refl _,by unfold maxLen;omega,rfl,rfl⟩⟩,ints_one _⟩
theorem fm_ge {m:Nat}{l:Fo}(h:Ok m l){e:Bool}:∀{S:List Int},(∀x∈S,x∈nums l)→S.length≤(S.flatMap (G e l)).length
 | [],_=>Nat.zero_le _
 | x::S,hs=>by
  have h1:=fm_ge h (e:=e) (S:=S) (fun y hy=>hs y (by simp [hy]))
  rw [List.flatMap_cons,List.length_append,List.length_cons,G_eq h (hs x (by simp)),List.length_cons]
  omega
structure Sub (l:Fo)(e:Bool)(n:Int)(O S:List Int):Prop where
 sum:O++S.reverse.flatMap (G e l)=G e l n
 inn:∀x∈S,x∈nums l
theorem Sub.start {l:Fo}{e:Bool}{n:Int}(hn:n∈nums l):Sub l e n [] [n]:=⟨by simp,fun x hx=>by rw [List.mem_singleton] at hx;rw [hx];exact hn⟩
theorem Sub.step {m:Nat}{l:Fo}(h:Ok m l){e:Bool}{n x:Int}{O S:List Int}(hs:Sub l e n O (S++[x])):Sub l e n (O++[x]) (S++(ord e (ch l x)).reverse):=by
 have hx:=hs.inn x (by simp)
 refine⟨?_,fun y hy=>?_⟩
 ·rw [←hs.sum]
  simp [G_eq h hx]
 ·rw [List.mem_append,List.mem_reverse,mem_ord] at hy
  rcases hy with hy|hy
  ·exact hs.inn y (by simp [hy])
  ·exact ch_mem hy
theorem Sub.len {m:Nat}{l:Fo}(h:Ok m l){e:Bool}{n:Int}{O S:List Int}(hs:Sub l e n O S):O.length+S.length≤(G e l n).length:=by
 have h1:=fm_ge h (e:=e) (S:=S.reverse) (fun x hx=>hs.inn x (List.mem_reverse.1 hx))
 rw [←hs.sum,List.length_append]
 rw [List.length_reverse] at h1
 omega
theorem Sub.end_ {l:Fo}{e:Bool}{n:Int}{O:List Int}(hs:Sub l e n O []):O=G e l n:=by have:=hs.sum;simpa using this
structure Two (w w':World)(a b:Option Addr)(i c j d:Nat)(O S:List Int):Prop where
 o:Own w' w.heap.size 3 a i c (ints O)
 s:Own w' w.heap.size 3 b j d (ints S)
 ap:∀k,Blk a k→¬Blk b k
 lt:Below w.heap.size w w'
def SubRel (w:World)(l:Fo)(e:Bool)(n:Int)(k:Nat)(v t:Value)(w':World):Prop :=
 ∃(O S:List Int) (a b:Option Addr) (i c j d:Nat),v=.slice a i c∧t=.slice b j d∧i+k=(G e l n).length∧Sub l e n O S∧Two w w' a b i c j d O S
theorem Two.out1 {w wr:World}{a b:Option Addr}{i c j d:Nat}{O S:List Int}(h:Two w wr a b i c j d O S)(x:Int)(hi:i≤2048) :
  ∃a' c' w2,(Builtin.append_ #[43,43] 43 #[.slice a i c,.slice (some ⟨wr.heap.size,0,none⟩) 1 1]).run Tryz.prog (wr.alloc (Obj.cells #[.int .i64 x] 3))=.ok (.slice a' (i+1) c') w2∧Two w w2 a' b (i+1) c' j d (O++[x]) S:=by
 obtain⟨a',c',w2,hrun,hO,hG⟩:=append_one x (.inl h.o) h.lt.size (by omega)
 refine⟨a',c',w2,hrun,hO,h.s.but hG.but (fun k hk ha=>h.ap k ha hk),fun k hk hb=>?_,h.lt.trans (hG.below h.o h.lt.size)⟩
 rcases hG.on k hk with h1|h1
 ·exact h.ap k h1 hb
 ·have:=h.s.lt k hb
  omega
theorem Two.out2 {w w2 w3 w4:World}{a b r:Option Addr}{i c j d p q:Nat}{O S R:List Int}{x:Int}(h:Two w w2 a b i c (j+1) d O (S++[x]))(hb:Below w2.heap.size w2 w3)(hr:But (Blk r) w3 w4)(hR3:∀k,Blk r k→w2.heap.size≤k)(hR:Own w4 w2.heap.size 3 r p q (ints R))(hi:j+p≤4096) :
  ∃b' d' w5,(Builtin.append_ #[43,43] 43 #[.slice b j d,.slice r p q]).run Tryz.prog w4=.ok (.slice b' (j+p) d') w5∧Two w w5 a b' i c (j+p) d' O (S++R):=by
 have hlS:S.length=j:=by
  have:=h.s.len
  rw [il_,List.length_append,List.length_singleton] at this
  omega
 have hb4:But (Blk r) w2 w4:=(But.of hb).trans hr
 have ho4:Own w4 w.heap.size 3 a i c (ints O):=h.o.but hb4 (fun k hk hk2=>by have:=hR3 k hk2;have:=h.o.lt k hk;omega)
 have hs4:Own w4 w.heap.size 3 b (j+1) d (ints (S++[x])):=h.s.but hb4 (fun k hk hk2=>by have:=hR3 k hk2;have:=h.s.lt k hk;omega)
 have hs5:=hs4.sub (m:=j) (by omega)
 rw [show (ints (S++[x])).take j=ints S by rw [ints_append,List.take_left' (by rw [il_];exact hlS)]] at hs5
 have hB4:Below w.heap.size w w4:=(But.below (h.lt.trans (hb.mono h.lt.size)) hr (fun k hk=>by have:=hR3 k hk;have:=h.lt.size;omega))
 obtain⟨b',d',w5,hrun,hO,hG⟩:=append_ints hs5 hR.read hB4.size (by omega)
 refine⟨b',d',w5,hrun,ho4.but hG.but (fun k hk ha=>h.ap k hk ha),by rw [ints_append];exact hO,fun k hk hb2=>?_,hB4.trans (hG.below hs5 hB4.size)⟩
 rcases hG.on k hb2 with h1|h1
 ·exact h.ap k hk h1
 ·have:=ho4.lt k hk
  omega
theorem snoc_of {S:List Int}(h:S≠[]):∃S' x,S=S'++[x]:=⟨S.dropLast,S.getLast h,(List.dropLast_concat_getLast h).symm⟩
theorem subtree_any {w:World}{g gb m:Nat}{l:Fo}(h:Ki w g gb m l)(n:Int)(e:Bool) :
  Calls Tryz.prog 215 #[.pointer (some ⟨g,0,none⟩),.int .i64 n,.bool e] w fun r w'=>∃a k cap,r=.returned (.slice a k cap)∧Own w' w.heap.size 3 a k cap (ints (G e l n))∧Below w.heap.size w w':=by
 have hh:=has_any h n
 have hbig:=h.big
 have hok:=hid h.ok
 by_cases hn:n∈nums l
 ·rw [decide_eq_true hn] at hh
  have hgl:=Nat.le_trans (G_len hok.out e n) hbig
  have HK:=hid h
  have HN:=hid hn
  clear h hn
  go_enter Tryz.func215,Tryz.ntmps215
  go_upto_region 5 with (first|(go_at_call 211;refine hh.mono ?_;rintro e w1 ⟨rfl,rfl⟩))
  clear hh
  go_loopg [7,8] (G e l n).length (SubRel w1 l e n)
  case atStart=>exact⟨[],[n],none,some ⟨w1.heap.size,0,none⟩,0,0,1,1,rfl,rfl,by omega,Sub.start HN.out,Own.nil _ _ _,Own.one_new w1 n,fun k hk=>(by obtain⟨_,h,_⟩:=hk;cases h),below1 _ _⟩
  case round =>
   obtain⟨O,S,a,b,i,c,j,d,rfl,rfl,hik,hS,hT⟩:=hrel
   have hlO:=hT.o.len
   have hlS:=hT.s.len
   rw [il_] at hlO hlS
   have hsl:=hS.len hok.out
   by_cases hj:j=0
   ·subst hj
    have hS0:S=[]:=List.eq_nil_of_length_eq_zero hlS
    subst hS0
    have HE:=hid hS.end_
    have HT:=hid hT
    clear hT hS
    go_wp2
    go_ret
    exact⟨a,i,c,rfl,by rw [←HE.out];exact HT.out.o,HT.out.lt⟩
   ·obtain⟨S',x,rfl⟩:=snoc_of (S:=S) (fun hz=>by rw [hz] at hlS;simp at hlS;omega)
    obtain⟨j,rfl⟩:∃j',j=j'+1:=⟨j - 1,by omega⟩
    rw [List.length_append,List.length_singleton] at hlS hsl
    obtain⟨a',c',w2,hrun,hT2⟩:=hT.out1 x (by omega)
    obtain⟨b0,rfl⟩:=hT.s.form (by omega)
    obtain⟨_,e1,hL1⟩:=hT.s.lies rfl (j:=j) (u:=.int .i64 x) (by rw [ints_append,List.getElem?_append_right (by rw [il_];omega)];simp [show S'.length=j by omega,ints])
    cases e1
    obtain⟨_,e2,hL2⟩:=hT2.s.lies rfl (j:=j) (u:=.int .i64 x) (by rw [ints_append,List.getElem?_append_right (by rw [il_];omega)];simp [show S'.length=j by omega,ints])
    cases e2
    have y1:=hL1.1
    have y2:=hL2.1
    have hcap:j≤d:=by have:=hT.s.read.cap_;omega
    have HRUN:=hid hrun
    have HT2:=hid hT2
    have HC:=hid (children_any (HK.out.later hT2.lt) x)
    have hkl:=kids_len hok.out x
    have hki:=kids_in hok.out (hS.inn x (by simp))
    have HST:=hid (hS.step hok.out)
    rw [←hki] at HST
    generalize kids l x=R at HC HST hkl
    clear hrun hT2 hT hL1 hL2 hki
    have hjR:j+R.length≤4096:=by omega
    cases e
    ·go_wp2_with (first|(have hq_:=HT5;clear hq_;at_builtin;refine wk_ rfl _ _ 43 rfl _ _ rfl rfl _ w5 HRUN2.out ?_)|(at_builtin;refine wk_ rfl _ _ 43 rfl _ _ rfl rfl _ w2 HRUN.out ?_)|(go_at_call 250;refine HC.out.mono ?_;rintro e w3 ⟨r,p,q,rfl,hO3,hB3⟩;have hlp:=hO3.len;rw [il_] at hlp;obtain⟨b',d',w5,hrun2,hT5⟩:=Two.out2 HT2.out hB3 (But.refl _ _) hO3.blk hO3 (by omega);have HRUN2:=hid hrun2;have HT5:=hid hT5;clear hrun2 hT5 hO3 hB3))
     go_roundg (gk - 1)
     case measure=>omega
     case rel=>exact⟨O++[x],S'++R,a',b',i+1,c',j+p,d',rfl,rfl,by omega,by have:=HST.out;simpa [ord] using this,HT5.out⟩
    ·go_wp2_with (first|(have hq_:=HT5;clear hq_;at_builtin;refine wk_ rfl _ _ 43 rfl _ _ rfl rfl _ w5 HRUN2.out ?_)|(at_builtin;refine wk_ rfl _ _ 43 rfl _ _ rfl rfl _ w2 HRUN.out ?_)|(go_at_call 250;refine HC.out.mono ?_;rintro e w3 ⟨r,p,q,rfl,hO3,hB3⟩;have hlp:=hO3.len;rw [il_] at hlp;have HO3:=hid hO3;have HB3:=hid hB3;clear hO3 hB3)|(go_at_call 251;refine (rev_any HO3.out (by omega)).mono ?_;rintro e w4 ⟨⟨v4,rfl⟩,hO4,hb4⟩;obtain⟨b',d',w5,hrun2,hT5⟩:=Two.out2 HT2.out HB3.out hb4 HO3.out.blk hO4 (by omega);have HRUN2:=hid hrun2;have HT5:=hid hT5;clear hrun2 hT5 hO4 hb4))
     go_roundg (gk - 1)
     case measure=>omega
     case rel=>exact⟨O++[x],S'++R.reverse,a',b',i+1,c',j+p,d',rfl,rfl,by omega,by have:=HST.out;simpa [ord] using this,HT5.out⟩
 ·rw [decide_eq_false hn] at hh
  rw [G_out hn]
  clear h hn
  go_enter Tryz.func215,Tryz.ntmps215
  go_wp2_with (first|(go_at_call 211;refine hh.mono ?_;rintro e w1 ⟨rfl,rfl⟩))
  go_ret
  exact⟨none,0,0,rfl,Own.nil _ _ _,Below.refl _ _⟩
def tells (d:Bool)(l:Fo)(n:Int):List Int:=G true l n
theorem tells_len {m:Nat}{l:Fo}(h:Ok m l)(d:Bool)(n:Int):(tells d l n).length≤m:=by
 exact G_len h _ _
def takeF (d:Bool):Nat:=214
theorem take_any {w:World}{g gb m:Nat}{l:Fo}(h:Ki w g gb m l)(d:Bool)(n:Int)(b1 b2:Nat)(h1:w.cell? ⟨b1,0,none⟩=some (.pointer (some ⟨g,0,none⟩)))(h2:w.cell? ⟨b2,0,none⟩=some (.int .i64 n)) :
  Calls Tryz.prog (takeF d) #[.pointer (some ⟨b1,0,none⟩),.pointer (some ⟨b2,0,none⟩)] w fun r w'=>∃a k cap,r=.returned (.slice a k cap)∧Own w' w.heap.size 3 a k cap (ints (tells d l n))∧Below w.heap.size w w':=by
 have hc:=hid (subtree_any h n true)
 show Calls Tryz.prog 214 _ _ _
 unfold tells
 generalize G true l n=X at hc ⊢
 clear h
 go_enter Tryz.func214,Tryz.ntmps214
 go_wp2_with (first|(go_at_call 215;refine hc.out.mono ?_;rintro e w1 ⟨a,k,cap,rfl,hO,hB⟩;have HO:=hid hO;have HB:=hid hB;clear hO hB))
 go_ret
 exact⟨a,k,cap,rfl,HO.out,HB.out⟩
theorem fixed_any (w:World)(f:Fn)(a b:Array Value):Calls Tryz.prog 213 #[.func f a b] w fun e w'=>e=.returned (.func (.func 249) #[] #[.pointer (some ⟨w.heap.size,0,none⟩)])∧w'=w.alloc (Obj.cells #[.func f a b] 131):=by
 go_enter Tryz.func213,Tryz.ntmps213
 go_wp2
 go_ret
 exact⟨rfl,rfl⟩
def Sq (w:World)(d:Bool)(base b0 g:Nat)(n:Int):Prop :=
 ∃b1 b2,w.cell? ⟨b0,0,none⟩=some (.func (.func (takeF d)) #[] #[.pointer (some ⟨b1,0,none⟩),.pointer (some ⟨b2,0,none⟩)])∧w.cell? ⟨b1,0,none⟩=some (.pointer (some ⟨g,0,none⟩))∧w.cell? ⟨b2,0,none⟩=some (.int .i64 n)∧base≤b0∧base≤b1∧base≤b2
theorem Sq.but {S:Nat→Prop}{w w':World}{d:Bool}{base b0 g:Nat}{n:Int}(hb:But S w w')(h:Sq w d base b0 g n)(hS:∀k,S k→k<base):Sq w' d base b0 g n:=by
 obtain⟨b1,b2,h0,h1,h2,h3,h4,h5⟩:=h
 exact⟨b1,b2,cb_ hb h0 (fun hs=>by have:=hS _ hs;simp at this;omega),cb_ hb h1 (fun hs=>by have:=hS _ hs;simp at this;omega),cb_ hb h2 (fun hs=>by have:=hS _ hs;simp at this;omega),h3,h4,h5⟩
theorem Sq.later {w w':World}{d:Bool}{base b0 g:Nat}{n:Int}(hb:Below w.heap.size w w')(h:Sq w d base b0 g n):Sq w' d base b0 g n:=h.but (S:=fun _=>False) (But.of hb) (fun _ h=>h.elim)
def makeF (d:Bool):Nat:=175
theorem make_any (d:Bool)(g:Nat)(n:Int)(w:World):Calls Tryz.prog (makeF d) #[.pointer (some ⟨g,0,none⟩),.int .i64 n] w fun e w'=>∃b0,e=.returned (.func (.func 249) #[] #[.pointer (some ⟨b0,0,none⟩)])∧Sq w' d w.heap.size b0 g n∧Below w.heap.size w w':=by
 show Calls Tryz.prog 175 _ _ _
 go_enter Tryz.func175,Tryz.ntmps175
 go_wp2_with (first|(go_at_call 213;refine (fixed_any _ _ _ _).mono ?_;rintro e w1 ⟨rfl,rfl⟩))
 go_ret
 refine⟨_,rfl,⟨w.heap.size,w.heap.size+1,?_,?_,?_,?_,?_,?_⟩,(below2 _ _ _).alloc (by simp;omega) _⟩
 all_goals try simp [go_sem,takeF]
 all_goals omega
open Go.RowKit Go.Shelf
attribute [local go_sem] Oper.semAt_some
structure Kq (Fp:World→Nat→Prop)(W W':World):Prop where
 size:W.heap.size≤W'.heap.size
 same:∀k o,W.heap[k]?=some o→o.isCells=true→¬Fp W k→W'.heap[k]?=some o
 fp:∀k,Fp W' k→Fp W k∨W.heap.size≤k
theorem Kq.trans {Fp:World→Nat→Prop}{A B C:World}(h:Kq Fp A B)(k:Kq Fp B C):Kq Fp A C:=by
 refine⟨Nat.le_trans h.size k.size,fun i o hi ho hn=>k.same i o (h.same i o hi ho hn) ho (fun hf=>?_),fun i hi=>?_⟩
 ·have hlt:i<A.heap.size:=(Array.getElem?_eq_some_iff.1 hi).1
  rcases h.fp i hf with h1|h1
  ·exact hn h1
  ·omega
 ·rcases k.fp i hi with h1|h1
  ·exact h.fp i h1
  ·exact .inr (Nat.le_trans h.size h1)
theorem Own.kq {Fp:World→Nat→Prop}{W W':World}{base:Nat}{e:TypeId}{a:Option Addr}{n cap:Nat}{L:List Value}(h:Own W base e a n cap L)(hk:Kq Fp W W')(hn:∀k,Blk a k→¬Fp W k):Own W' base e a n cap L∧∀k,Blk a k→¬Fp W' k:=by
 refine⟨⟨⟨h.row.1,?_⟩,h.one⟩,fun k hb hf=>?_⟩
 ·rcases h.row.2 with h1|⟨g,c,cur,hv,hg,hh,r⟩
  ·exact .inl h1
  ·refine .inr ⟨g,c,cur,hv,hg,hk.same g _ hh rfl (hn g ?_),r⟩
   rw [←Blk.of (n:=n) (cap:=cap),hv]
   simp [Value.ownBlock]
 ·rcases hk.fp k hf with h1|h1
  ·exact hn k hb h1
  ·have:=h.lt k hb
   omega
theorem grown_of_below {W W':World}(h:Below W.heap.size W W'):W.grownBy W' none:=⟨h.os,h.tape,h.output,h.size,fun k hk _=>h.block k hk⟩
theorem kq_put {Fp:World→Nat→Prop}{B:Nat}(hFc:∀(W:World) (L:Nat) (o o':Obj),B≤L→W.heap[L]?=some o→o.isCells=false→∀k,Fp (W.putObj L o') k→Fp W k)(W:World)(L:Nat)(o o':Obj)(hL:B≤L)(h:W.heap[L]?=some o)(ho:o.isCells=false):Kq Fp W (W.putObj L o'):=by
 refine⟨(grownBy_putObj' W L o').size,fun k c hk hc _=>?_,fun k hk=>.inl (hFc W L o o' hL h ho k hk)⟩
 have hne:k≠L:=fun e=>by
  subst e
  rw [h] at hk
  cases hk
  rw [ho] at hc
  cases hc
 exact ((grownBy_putObj' W L o').block k (Array.getElem?_eq_some_iff.1 hk).1 (fun e=>hne (by cases e;rfl))).trans hk
attribute [local go_sem] Oper.semAt_some
theorem lies_new (w:World)(v:Value)(t:TypeId):Lies (w.alloc (Obj.cells #[v] t)) ⟨w.heap.size,0,none⟩ v:=⟨by simp [go_sem],by simp [go_sem]⟩
theorem below_deferred {w W:World}{D:Nat}(hB:Below w.heap.size w W)(hD:w.heap.size≤D)(hK:W.heap[D]?=some (.deferred (some []))):Below w.heap.size w (W.putObj D (.deferred none)) :=
 hB.trans (belowK_b (w:=w) (Nat.le_refl _) W D _ _ hD hK rfl rfl)
theorem fall_any {w:World}{g gb m:Nat}{l:Fo}(h:Ki w g gb m l)(n:Int) :
  Calls Tryz.prog 261 #[.pointer (some ⟨g,0,none⟩),.int .i64 n] w fun e w'=>∃a k cap,e=.returned (.slice a k cap)∧Own w' w.heap.size 3 a k cap (ints (Fl l n))∧Below w.heap.size w w':=by
 have hc:=hid (subtree_any h n false)
 have hl:=Nat.le_trans (G_len h.ok false n) h.big
 unfold Fl
 generalize G false l n=X at hc hl ⊢
 clear h
 go_enter Tryz.func261,Tryz.ntmps261
 go_wp2_with (first|(go_at_call 215;refine hc.out.mono ?_;rintro e w1 ⟨a,k,cap,rfl,hO,hB⟩;have hlk:=hO.len;rw [il_] at hlk;have HO:=hid hO;have HB:=hid hB;clear hO hB)|(go_at_call 251;refine (rev_any HO.out (by omega)).mono ?_;rintro e w2 ⟨⟨v,rfl⟩,hO2,hB2⟩;have HO2:=hid hO2;have HB2:=hid (But.below HB.out hB2 HO.out.blk);clear hO2 hB2))
 go_ret
 exact⟨a,k,cap,rfl,HO2.out,HB2.out⟩
theorem child_of {w:World}{A:Ad}{kn mo:Nat}{X:List Tk}{l:Fo}(h:Cat w A kn mo X l)(p:Int)(c:Cp)(r:Int)(hw:c.2.1<B64∧c.2.2<B64) :
  Calls Tryz.prog 126 #[.pointer (some ⟨A.g,0,none⟩),.int .i64 p,cpV c,.int .i64 r] w (Done w A kn mo (childR mo X l p c r)):=by
 obtain⟨o,hi,lo⟩:=c
 obtain⟨w1,hw1⟩:∃w1,w1=w.alloc (Obj.cells #[.int .i64 o,.int .u64 (hi:Int),.int .u64 (lo:Int)] 38):=⟨_,rfl⟩
 have hB1:Below w.heap.size w w1:=by rw [hw1];exact below1 _ _
 have HZ:Hid (∀U,Below w1.heap.size w1 U→U.cell? ⟨w.heap.size,0,none⟩=some (.int .i64 o)∧U.cell? ⟨w.heap.size,1,none⟩=some (.int .u64 (hi:Int))∧U.cell? ⟨w.heap.size,2,none⟩=some (.int .u64 (lo:Int))):=fun U hU =>
  ⟨cell_later hU (by rw [hw1];simp [go_sem]),cell_later hU (by rw [hw1];simp [go_sem]),cell_later hU (by rw [hw1];simp [go_sem])⟩
 have HB1:=hid hB1
 have HH:=hid h
 have H1:=hid (h.later hB1)
 unfold childR
 clear h hB1
 by_cases hp:p∈nums l
 ·rw [if_neg (fun hn=>hn hp)]
  obtain⟨q,hq⟩:=mn_.1 hp
  obtain⟨cc,rr,hxx⟩:∃cc rr,tk X p=(cc,rr):=⟨_,_,rfl⟩
  have hob:ob X p=cc.1:=by unfold ob;rw [hxx]
  have hrg:rg X p=rr:=by unfold rg;rw [hxx]
  have hA:=at_in H1.out.cm p q hq
  rw [hrg,hxx] at hA
  have HAT:=hid hA
  have HADD:Hid (ob X p=o→partB r (rg X p)=true→∀(U:World),Below w.heap.size w U→Calls Tryz.prog 179 #[.pointer (some ⟨A.g,0,none⟩),.int .i64 p,.agg #[.int .i64 o,.int .u64 (hi:Int),.int .u64 (lo:Int)],.int .i64 r] U (Done U A kn mo (addR mo X l p (o,hi,lo) r))) :=
   fun ho hpt U hU=>add_any (HH.out.later hU) p (o,hi,lo) r hw (partB_valid hpt) (.inr ⟨hp,ho,hpt⟩)
  rw [hob,hrg] at *
  obtain⟨oo,hh,ll⟩:=cc
  clear hq hp hA hxx hob hrg
  simp only at *
  by_cases ho:oo=o
  ·subst ho
   rw [if_neg (fun hn=>hn rfl)]
   by_cases hpt:partB r rr=true
   ·rw [if_neg (by rw [hpt];decide)]
    have HA2:=hid (HADD.out rfl hpt)
    generalize addR mo X l p (oo,hi,lo) r=R at *
    go_enter Tryz.func126,Tryz.ntmps126
    go_upto_region 1 with fail
    rw [←hw1]
    clear hw1
    go_upto_region 4 with (first|(go_at_call 122;refine HAT.out.mono ?_;rintro e w2 ⟨rfl,hb2⟩;have HB2:=hid hb2;have hz:=(HZ.out _ (hb2)).1;clear hb2))
    obtain⟨w3,hw3⟩:∃w3,w3=w2.alloc (Obj.cells #[.int .i64 oo,.int .u64 (hh:Int),.int .u64 (ll:Int),.int .i64 rr,.int .i64 q] 61):=⟨_,rfl⟩
    have hB3:Below w2.heap.size w2 w3:=by rw [hw3];exact below1 _ _
    have t0:w3.cell? ⟨w2.heap.size,0,none⟩=some (.int .i64 oo):=by rw [hw3];simp [go_sem]
    have t3:w3.cell? ⟨w2.heap.size,3,none⟩=some (.int .i64 rr):=by rw [hw3];simp [go_sem]
    obtain⟨y0,y1,y2⟩:=HZ.out _ (bc HB2.out hB3)
    have HB3:=hid (bc (bc HB1.out HB2.out) hB3)
    rw [←hw3]
    clear hw3 hB3 hz
    go_wp2_with (first|(go_at_call 179;refine (HA2.out _ HB3.out).mono ?_;rintro e w4 hd;have hd1:=hd.1;subst hd1;have HD:=hid hd;clear hd)|(go_at_call 178;refine (part_any _ _ _).mono ?_;rintro e w9 ⟨rfl,hw9⟩;obtain rfl:=hw9.symm;clear hw9;rw [hpt]))
    exact bodyPost_ret (v:=.tuple #[.int .i64 R.num,.int .i64 R.code]) (by simp [results,Tryz.results126,go_sem]) rfl (HD.out.pre HB3.out)
   ·have hpt':partB r rr=false:=by simpa using hpt
    rw [if_pos hpt']
    go_enter Tryz.func126,Tryz.ntmps126
    go_upto_region 1 with fail
    rw [←hw1]
    clear hw1
    go_upto_region 4 with (first|(go_at_call 122;refine HAT.out.mono ?_;rintro e w2 ⟨rfl,hb2⟩;have HB2:=hid hb2;have hz:=(HZ.out _ (hb2)).1;clear hb2))
    obtain⟨w3,hw3⟩:∃w3,w3=w2.alloc (Obj.cells #[.int .i64 oo,.int .u64 (hh:Int),.int .u64 (ll:Int),.int .i64 rr,.int .i64 q] 61):=⟨_,rfl⟩
    have hB3:Below w2.heap.size w2 w3:=by rw [hw3];exact below1 _ _
    have t0:w3.cell? ⟨w2.heap.size,0,none⟩=some (.int .i64 oo):=by rw [hw3];simp [go_sem]
    have t3:w3.cell? ⟨w2.heap.size,3,none⟩=some (.int .i64 rr):=by rw [hw3];simp [go_sem]
    obtain⟨y0,y1,y2⟩:=HZ.out _ (bc HB2.out hB3)
    have HB3:=hid (bc (bc HB1.out HB2.out) hB3)
    rw [←hw3]
    clear hw3 hB3 hz
    go_wp2_with (first|(go_at_call 178;refine (part_any _ _ _).mono ?_;rintro e w9 ⟨rfl,hw9⟩;obtain rfl:=hw9.symm;clear hw9;rw [hpt']))
    exact bodyPost_ret (v:=.tuple #[.int .i64 0,.int .i64 4]) (by simp [results,Tryz.results126,go_sem]) rfl (Done.same HH.out HB3.out)
  ·rw [if_pos ho]
   have hbn:(oo==o)=false:=by simp [ho]
   go_enter Tryz.func126,Tryz.ntmps126
   go_upto_region 1 with fail
   rw [←hw1]
   clear hw1
   go_upto_region 4 with (first|(go_at_call 122;refine HAT.out.mono ?_;rintro e w2 ⟨rfl,hb2⟩;have HB2:=hid hb2;have hz:=(HZ.out _ (hb2)).1;clear hb2))
   obtain⟨w3,hw3⟩:∃w3,w3=w2.alloc (Obj.cells #[.int .i64 oo,.int .u64 (hh:Int),.int .u64 (ll:Int),.int .i64 rr,.int .i64 q] 61):=⟨_,rfl⟩
   have hB3:Below w2.heap.size w2 w3:=by rw [hw3];exact below1 _ _
   have t0:w3.cell? ⟨w2.heap.size,0,none⟩=some (.int .i64 oo):=by rw [hw3];simp [go_sem]
   obtain⟨y0,y1,y2⟩:=HZ.out _ (bc HB2.out hB3)
   have HB3:=hid (bc (bc HB1.out HB2.out) hB3)
   rw [←hw3]
   clear hw3 hB3 hz
   go_wp2
   exact bodyPost_ret (v:=.tuple #[.int .i64 0,.int .i64 3]) (by simp [results,Tryz.results126,go_sem]) rfl (Done.same HH.out HB3.out)
 ·rw [if_pos hp]
  have HAT:=hid (at_out H1.out.cm p hp)
  go_enter Tryz.func126,Tryz.ntmps126
  go_upto_region 1 with fail
  rw [←hw1]
  clear hw1
  go_wp2_with (first|(go_at_call 122;refine HAT.out.mono ?_;rintro e w2 ⟨rfl,hb2⟩;have HB2:=hid hb2;clear hb2))
  exact bodyPost_ret (v:=.tuple #[.int .i64 0,.int .i64 20]) (by simp [results,Tryz.results126,go_sem]) rfl (Done.same HH.out ((bc HB1.out HB2.out).alloc (bc HB1.out HB2.out).size _))
theorem info271:(Tryz.prog.info? 271).map (fun i=>(i.zero,i.size,i.bytes))=some (some (.agg #[.int .i64 0,.int .u64 0,.int .u64 0,.int .i64 0]),4,32):=by kernel_rfl
theorem make_ents (w:World)(n:Nat)(hn:n≤1024) :
  ∃w',(Instr.makeSlice 154 (.int .i64 (n:Int)) (.int .i64 (n:Int))).run Tryz.prog w=.ok (.slice (some ⟨w.heap.size,0,none⟩) n n) w'∧(∀(i:Nat) (p:Tk),(List.replicate n tz)[i]?=some p→Pe w' w.heap.size (i*4) p)∧(∀j,w'.frozen? ⟨w.heap.size,j,none⟩=false)∧w.heap.size<w'.heap.size∧Below w.heap.size w w':=by
 obtain⟨i,hi,hz0,hz1,hz2⟩:=info_parts info271
 obtain⟨w',hr,ho,hg⟩:=run_make_full (P:=Tryz.prog) w w.heap.size 154 271 i _ 4 Tryz.underlying154 hi hz0 hz1 .i64 .i64 n (by rw [hz2];omega) (by unfold maxLen;omega) (Nat.le_refl _)
 have hcell:∀j c u,j<n→c<4→(#[.int .i64 0,.int .u64 0,.int .u64 0,.int .i64 0]:Array Value)[c]! = u→w'.cell? ⟨w.heap.size,j*4+c,none⟩=some u:=by
  intro j c u hj hc hu
  have hm:(j*4+c)%4=c:=by omega
  have:=ho.cells (g:=w.heap.size) rfl (j*4+c) u (by
   rw [Array.getElem?_toList]
   simp only [madeCells,Value.cells,Array.getElem?_map,Array.getElem?_range]
   rw [if_pos (by omega)]
   simp only [Option.map_some,Option.some.injEq,Array.size,List.length,hm]
   exact hu)
  rw [aa_] at this
  exact this
 refine⟨w',hr,fun j p hp=>?_,fun j=>?_,?_,(Below.refl _ _).grown hg (Nat.le_refl _) (fun k hk=>by cases hk)⟩
 ·rw [List.getElem?_replicate] at hp
  split at hp
  ·next hj =>
   have:=(Option.some.inj hp).symm
   subst this
   exact⟨hcell j 0 _ hj (by omega) rfl,hcell j 1 _ hj (by omega) rfl,hcell j 2 _ hj (by omega) rfl,hcell j 3 _ hj (by omega) rfl⟩
  ·cases hp
 ·rcases ho.2 with ⟨h0,_⟩|⟨g,c,cur,hv,_,hh,hc,_⟩
  ·simp at h0
  ·simp only [Value.slice.injEq,Option.some.injEq,Addr.mk.injEq] at hv
   obtain⟨⟨rfl,_⟩,_,rfl⟩:=hv
   simp [World.frozen?,hh]
 ·exact (own_block ho _ rfl).2
def NewC (w:World)(kn mo:Nat)(e:Ending)(w':World):Prop :=
 ∃A:Ad,e=.returned (.tuple #[.pointer (some ⟨A.g,0,none⟩),.int .i64 0])∧Cat w' A kn mo (List.replicate mo tz) []∧(∀k,A.All k→w.heap.size≤k)∧Below w.heap.size w w'
theorem cnew_ok (w:World)(mo kn:Nat)(h1:1≤mo)(h2:mo≤256)(h3:kn≤64):Calls Tryz.prog 50 #[.int .i64 (mo:Int),.int .i64 (kn:Int)] w (NewC w kn mo):=by
 go_enter Tryz.func50,Tryz.ntmps50
 go_upto_region 7 with (first
  | (go_at_call 86;refine (new_ok _ mo (by omega)).mono ?_;rintro e w2 ⟨kg,kb,rfl,hk,hk1,hk2,hb2⟩;have HB2:=hid (bc HB1.out hb2);have HT2:=hid (HT1.out.later hb2);have HK2:=hid hk;have HBK:=hid hb2;have HS2:=hid (And.intro hk1 hk2);clear hk hk1 hk2 hb2)
  | (go_at_call 85;refine (I.new_ok _ mo kn h1 h2 h3).mono ?_;rintro e w1 ⟨tg,tb,N,rfl,ht,ht1,ht2,hb1⟩;have HB1:=hid hb1;have HT1:=hid ht;have HS1:=hid (And.intro ht1 ht2);clear ht ht1 ht2 hb1))
 obtain⟨w3,hr,hE,hF,hsz,hb3⟩:=make_ents w2 mo (by omega)
 have HE:=hid hE
 have HFr:=hid hF
 have HB3:=hid hb3
 clear hE hF hb3
 go_wp2
 have hb4:Below w3.heap.size w3 (w3.alloc (Obj.cells #[.pointer (some ⟨tg,0,none⟩),.slice (some ⟨w2.heap.size,0,none⟩) mo mo,.pointer (some ⟨kg,0,none⟩)] 160)):=below1 _ _
 have ht3:=(HT2.out.later HB3.out).later hb4
 have hk3:=(HK2.out.later HB3.out).later hb4
 have l1:=HT1.out.lt
 have l2:=HT1.out.lt2
 have l3:=HK2.out.lt1
 have l4:=HBK.out.size
 have l5:=HB1.out.size
 have l6:=HS1.out
 have l7:=HS2.out
 have l8:=HB3.out.size
 refine bodyPost_ret (v:=.tuple #[.pointer (some ⟨w3.heap.size,0,none⟩),.int .i64 0]) (by simp [results,Tryz.results50,go_sem]) rfl ⟨⟨w3.heap.size,tg,tb,w2.heap.size,kg,kb,N⟩,rfl,⟨⟨by simp [go_sem],by simp [go_sem],by simp [go_sem],ht3,hk3,fun i x hx=>(HE.out i x hx).later hb4,fun j=>?_,?_,by simp,?_⟩,Inv.init mo⟩,?_,bc (bc HB2.out HB3.out) hb4⟩
 ·show World.frozen? _ ⟨w2.heap.size,j,none⟩=false
  rw [World.frozen?_of_block (w:=w3) (hb4.block w2.heap.size hsz)]
  exact HFr.out j
 ·have:=hb4.size
  show w2.heap.size<_
  omega
 ·constructor<;>simp only [ne_eq]<;>omega
 ·rintro k (rfl|rfl|rfl|rfl|rfl|rfl)<;>(try simp only)<;>omega
attribute [local go_sem] Oper.semAt_some
theorem wpListIn_append_known {F:Fence}{n:Nat}{P:Program}{w:World}{ops:Array Oper}{rest:List Oper}{o:Oper}{a:Act}{Q:Exit→Act→World→Prop}(hgd:o.guard=none)(s x:Operand)(t:TypeId)
  (ho:o.op=.call { callee:=.builtin .append,args:=#[s,x],argTypes:=#[t,t] }) (vs vx:Value) (hs:a.eval s=vs) (hx:a.eval x=vx) (v':Value) (w':World)
  (hr:(Builtin.append_ #[t,t] o.type #[vs,vx]).run P w=.ok v' w') (h:wpListIn F n P ops Q rest (a.put o.dst v') w'):wpListIn F n P ops Q (o::rest) a w:=by
 refine wpListIn_plain hgd fun K hK=>?_
 unfold Oper.wpIn
 refine⟨by simp [Oper.about,ho,resolve,Target.leads,Sem.run_pure],?_⟩
 rw [Oper.semAt_plain F _ _ (by rw [ho];intro c hc;cases hc)]
 simp [execOp,ho,resolve,invoke,builtin,hs,hx,hr,Result.andThen]
 exact hK _ _ h
theorem own_cells {W:World}{base:Nat}{e:TypeId}{a:Option Addr}{n cap:Nat}{L:List Value}(h:Own W base e a n cap L){k:Nat}(hk:Blk a k):∃cs t z,W.heap[k]?=some (.cells cs t z):=by
 rcases h.row.2 with ⟨h1,_⟩|⟨g,c,cur,hv,hg,hh,r⟩
 ·simp only [Value.slice.injEq] at h1
  obtain⟨x,hx,_⟩:=hk
  rw [h1.1] at hx
  cases hx
 ·simp only [Value.slice.injEq] at hv
  obtain⟨x,hx,rfl⟩:=hk
  rw [hv.1] at hx
  cases hx
  exact⟨_,_,_,hh⟩
theorem keeps_but {S:Nat→Prop}{B:Nat}{W W':World}(h:But S W W')(hS:∀k o,W.heap[k]?=some o→o.isCells=false→B≤k→¬S k):KeepsFrom B W W' :=
 ⟨h.size,fun k o hB hk ho=>(h.block k (Array.getElem?_eq_some_iff.1 hk).1 (hS k o hk ho hB)).trans hk⟩
theorem kq_but {S:Nat→Prop}{Fp:World→Nat→Prop}{W W':World}(h:But S W W')(hS:∀k,S k→Fp W k)(hf:∀k,Fp W' k→Fp W k∨W.heap.size≤k):Kq Fp W W' :=
 ⟨h.size,fun k o hk _ hn=>(h.block k (Array.getElem?_eq_some_iff.1 hk).1 (fun hs=>hn (hS k hs))).trans hk,hf⟩
attribute [local go_sem] Oper.semAt_some
abbrev actX (a:Act)(p d:Nat)(x:Int):Act:={ tmps:=(a.tmps.setIfInBounds p (.int .i64 x)).setIfInBounds d (.int .i64 x),defers:=[] }
end Go.Proofs.YtfmhdimaijimlaaGreatDoor
