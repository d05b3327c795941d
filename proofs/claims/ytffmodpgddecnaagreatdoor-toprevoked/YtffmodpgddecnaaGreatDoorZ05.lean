import Derived.RangeFuncNested
import Derived.RangeFuncBound
import Derived.RangeFuncCalls
import Derived.RangeFuncLeaves
import Derived.Shelf.Abstract
import Derived.Shelf.RegionOpen
import Derived.OwnWalkIn
import Derived.TacticsInMore
import Derived.LoopNIn
import Derived.LoopIn
import Derived.Test.YtffmodpgddecnaaGreatDoorZ04
set_option linter.unusedVariables false
set_option linter.unusedSimpArgs false
set_option maxRecDepth 100000
set_option maxHeartbeats 2000000
namespace Go.Proofs.YtffmodpgddecnaaGreatDoor
open Go.RowKit H
structure EJ where
 num:Int
 code:Int
 X:List Tk
 l:Fo
def gw (mo:Nat)(X:List Tk)(l:Fo)(p:Int)(c:Cp)(r:Int):EJ :=
 if aR X l c=true then ⟨0,19,X,l⟩ else if l.length=mo then ⟨0,10,X,l⟩ else ⟨(low l:Int),0,X.set (low l) (c,r),l++[((low l:Int),p)]⟩
def kf (mo:Nat)(X:List Tk)(l:Fo)(c:Cp)(r:Int):EJ :=
 if bq r=false then ⟨0,4,X,l⟩ else if dR X l c.1=true then ⟨0,19,X,l⟩ else gw mo X l (-1) c r
def gy (mo:Nat)(X:List Tk)(l:Fo)(p:Int)(c:Cp)(r:Int):EJ :=
 if p∉aj l then ⟨0,20,X,l⟩ else if ob X p≠c.1 then ⟨0,3,X,l⟩ else if aE r (rg X p)=false then ⟨0,4,X,l⟩ else gw mo X l p c r
def gu (w:World)(A:Ad)(kn mo:Nat)(R:EJ)(e:Ending)(w':World):Prop :=
 e=.returned (.tuple #[.int .i64 R.num,.int .i64 R.code])/\ie w' A kn mo R.X R.l/\ah A.Wr w w'
theorem gu.same {w w':World}{A:Ad}{kn mo:Nat}{X:List Tk}{l:Fo}{c:Int}(h:ie w A kn mo X l)(hb:Below w.heap.size w w'):gu w A kn mo ⟨0,c,X,l⟩ (.returned (.tuple #[.int .i64 0,.int .i64 c])) w':=⟨rfl,h.later hb,ah.of hb⟩
theorem gu.pre {w W w':World}{A:Ad}{kn mo:Nat}{R:EJ}{e:Ending}(hb:Below w.heap.size w W)(h:gu W A kn mo R e w'):gu w A kn mo R e w':=⟨h.1,h.2.1,(ah.of hb).trans h.2.2⟩
theorem oB {w:World}{A:Ad}{kn mo:Nat}{X:List Tk}{l:Fo}(h:ie w A kn mo X l)(p o:Int)(hi lo:Nat)(r code:Int)(hc:code≠0)
  (hG:∀W,Below w.heap.size w W->Calls Tryz.prog 339 #[.pointer (some ⟨A.g,0,none⟩),.int .i64 (low l:Int),.agg #[.int .i64 o,.int .u64 (hi:Int),.int .u64 (lo:Int),.int .i64 r]] W (λe w'=>e=.returned (.int .i64 code)/\Below W.heap.size W w')) :
  Calls Tryz.prog 280 #[.pointer (some ⟨A.g,0,none⟩),.int .i64 p,.agg #[.int .i64 o,.int .u64 (hi:Int),.int .u64 (lo:Int)],.int .i64 r] w (gu w A kn mo ⟨0,code,X,l⟩):=by
 obtain⟨w1,hw1⟩:∃w1,w1=w.alloc (Obj.cells #[.int .i64 o,.int .u64 (hi:Int),.int .u64 (lo:Int)] 37):=⟨_,rfl⟩
 have hB1:Below w.heap.size w w1:=by rw [hw1];exact ae _ _
 have hC:Hid (∀U:World,Below w1.heap.size w1 U->(U.cell? ⟨w.heap.size,0,none⟩=some (.int .i64 o)/\U.cell? ⟨w.heap.size,1,none⟩=some (.int .u64 (hi:Int))/\U.cell? ⟨w.heap.size,2,none⟩=some (.int .u64 (lo:Int)))/\Below w1.heap.size w1 U):=λU hU =>
  ⟨⟨cell_later hU (by rw [hw1];simp [go_sem]),cell_later hU (by rw [hw1];simp [go_sem]),cell_later hU (by rw [hw1];simp [go_sem])⟩,hU⟩
 have HG:=ab (λ(U:World) (hU:Below w1.heap.size w1 U)=>hG U (aa hB1 hU))
 have hl:=ab (du (h.cm.later hB1))
 have PC:=ab hB1
 have HH:=ab h
 have hbn:(code==0)=false:=by simp [hc]
 clear hG hB1 h;go_enter Tryz.func280,Tryz.ntmps280
 go_upto_region 1 with fail
 rw [<-hw1];clear hw1;go_upto_region 2 with (first|(go_at_call 338;refine hl.out.mono ?_;rintro e w9 ⟨rfl,hw9⟩;obtain rfl:=hw9.symm;clear hw9))
 go_region_held3 (λU=>(U.cell? ⟨w.heap.size,0,none⟩=some (.int .i64 o)/\U.cell? ⟨w.heap.size,1,none⟩=some (.int .u64 (hi:Int))/\U.cell? ⟨w.heap.size,2,none⟩=some (.int .u64 (lo:Int)))/\Below w1.heap.size w1 U) (first|exact hC.out _ PB.out|exact hC.out _ (Below.refl _ _).drew) (first
  | (go_at_call 339;refine (HG.out _ (Below.refl _ _).drew).mono ?_;rintro e w2 ⟨rfl,hb2⟩;have PB:=ab (aa (Below.refl w1.heap.size w1).drew hb2);clear hb2))
 go_wp2;exact bodyPost_ret (v:=.tuple #[.int .i64 0,.int .i64 code]) (by simp [results,Tryz.results280,go_sem]) rfl (gu.same HH.out (aa PC.out PB.out))
theorem sQ {w:World}{A:Ad}{kn mo:Nat}{X:List Tk}{l:Fo}(h:ie w A kn mo X l)(p o:Int)(hi lo:Nat)(r:Int)(h1:hi<aq)(h2:lo<aq)(hc:aR X l (o,hi,lo)=false)(hl:l.length<mo)(hv:bq r=true)
  (hp:(p=-1/\dR X l o=false)\/(p∈aj l/\ob X p=o/\aE r (rg X p)=true)) :
  Calls Tryz.prog 280 #[.pointer (some ⟨A.g,0,none⟩),.int .i64 p,.agg #[.int .i64 o,.int .u64 (hi:Int),.int .u64 (lo:Int)],.int .i64 r] w (gu w A kn mo ⟨(low l:Int),0,X.set (low l) ((o,hi,lo),r),l++[((low l:Int),p)]⟩):=by
 have hlow:=oA h.inv.ok hl
 obtain⟨w1,hw1⟩:∃w1,w1=w.alloc (Obj.cells #[.int .i64 o,.int .u64 (hi:Int),.int .u64 (lo:Int)] 37):=⟨_,rfl⟩
 have hB1:Below w.heap.size w w1:=by rw [hw1];exact ae _ _
 have hni:∀k,A.Wr k->k<w.heap.size:=h.KI
 have hC:Hid (∀U:World,ah A.Wr w1 U->(U.cell? ⟨w.heap.size,0,none⟩=some (.int .i64 o)/\U.cell? ⟨w.heap.size,1,none⟩=some (.int .u64 (hi:Int))/\U.cell? ⟨w.heap.size,2,none⟩=some (.int .u64 (lo:Int)))/\ah A.Wr w1 U):=λU hU =>
  ⟨⟨ag hU (by rw [hw1];simp [go_sem]) (λhs=>by have:=hni _ hs;simp at this),ag hU (by rw [hw1];simp [go_sem]) (λhs=>by have:=hni _ hs;simp at this),ag hU (by rw [hw1];simp [go_sem]) (λhs=>by have:=hni _ hs;simp at this)⟩,hU⟩
 have hpl:p=-1\/p∈aj l:=hp.imp (·.1) (·.1)
 have hG:=λ(U:World) (hU:Below w1.heap.size w1 U)=>Ea (h.cm.later (aa hB1 hU)) (low l) hlow o hi lo r (λW hW=>I.sY ((h.cm.later (aa hB1 hU)).um.later hW) o hi lo (low l:Int) h1 h2 (λhk=>by rw [iS.1 hk] at hc;cases hc) (by rw [nV];exact hl))
 have HE:Hid (cv X l++[((o,hi,lo),(low l:Int))]=cv (X.set (low l) ((o,hi,lo),r)) (l++[((low l:Int),p)])):=by
  unfold Hid;have e1:cv (X.set (low l) ((o,hi,lo),r)) (l++[((low l:Int),p)])=cv (X.set (low l) ((o,hi,lo),r)) l++[((tk (X.set (low l) ((o,hi,lo),r)) (low l:Int)).1,(low l:Int))]:=by simp [cv]
  rw [e1,dz _ (by rw [h.inv.len];exact hlow),ni (λa ha=>bN _ (bd h.inv.ok ha) (λe=>eK l (e ▸ ha)))]
 have HI:=ab (h.inv.add (c:=(o,hi,lo)) hlow (eK l) hc ⟨h1,h2⟩ hv hp)
 have HJ:=ab (λ(U:World) T (hU:Cm U A kn mo T (X.set (low l) ((o,hi,lo),r)) l)=>lj hU p (low l) hlow (eK l) hpl)
 have HG:=ab hG
 have hlo:=ab (du (h.cm.later hB1))
 have PC:=ab hB1
 clear hG hB1 h hp hpl hni hc hl;go_enter Tryz.func280,Tryz.ntmps280
 go_upto_region 1 with fail
 rw [<-hw1];clear hw1;go_upto_region 2 with (first|(go_at_call 338;refine hlo.out.mono ?_;rintro e w9 ⟨rfl,hw9⟩;obtain rfl:=hw9.symm;clear hw9))
 go_region_held3 (λU=>(U.cell? ⟨w.heap.size,0,none⟩=some (.int .i64 o)/\U.cell? ⟨w.heap.size,1,none⟩=some (.int .u64 (hi:Int))/\U.cell? ⟨w.heap.size,2,none⟩=some (.int .u64 (lo:Int)))/\ah A.Wr w1 U) (first|exact hC.out _ PB.out|exact hC.out _ (ah.of (Below.refl _ _).drew)) (first
  | (go_at_call 339;refine (HG.out _ (Below.refl _ _).drew).mono ?_;rintro e w2 ⟨rfl,hc2,hb2⟩;have PB:=ab ((ah.of (S:=A.Wr) (Below.refl w1.heap.size w1).drew).trans hb2);have P1:=ab hc2;clear hb2 hc2))
 go_wp2_with (first|(go_at_call 340;refine (HJ.out _ _ P1.out).mono ?_;rintro e w3 ⟨rfl,hc3,hb3⟩;have Rs:=ab hc3;have PE:=ab hb3;clear hc3 hb3))
 refine bodyPost_ret (v:=.tuple #[.int .i64 (low l:Int),.int .i64 0]) (by simp [results,Tryz.results280,go_sem]) rfl ⟨rfl,⟨?_,HI.out⟩,(ah.of PC.out).trans (PB.out.trans PE.out)⟩
 have:=Rs.out
 rw [HE.out] at this;exact this
theorem jh {w:World}{A:Ad}{kn mo:Nat}{X:List Tk}{l:Fo}(h:ie w A kn mo X l)(p:Int)(c:Cp)(r:Int)(hw:c.2.1<aq/\c.2.2<aq)(hv:bq r=true)
  (hp:(p=-1/\dR X l c.1=false)\/(p∈aj l/\ob X p=c.1/\aE r (rg X p)=true)) :
  Calls Tryz.prog 280 #[.pointer (some ⟨A.g,0,none⟩),.int .i64 p,iu c,.int .i64 r] w (gu w A kn mo (gw mo X l p c r)):=by
 obtain⟨o,hi,lo⟩:=c
 unfold gw;by_cases hc:aR X l (o,hi,lo)=true
 ·rw [if_pos hc]
  exact oB h p o hi lo r 19 (by decide) (λW hW=>vr (h.cm.later hW) _ o hi lo r 19 (by decide) (λU hU=>I.wH ((h.cm.later hW).um.later hU) o hi lo _ hw.1 hw.2 (iS.2 hc)))
 ·rw [if_neg hc]
  have hk:(o,hi,lo)∉(cv X l).map Prod.fst:=λhk=>hc (iS.1 hk)
  by_cases hl:l.length=mo
  ·rw [if_pos hl]
   exact oB h p o hi lo r 10 (by decide) (λW hW=>vr (h.cm.later hW) _ o hi lo r 10 (by decide) (λU hU=>I.BG ((h.cm.later hW).um.later hU) o hi lo _ hw.1 hw.2 hk (by rw [nV];exact hl)))
  ·rw [if_neg hl]
   have hle:=h.inv.ok.len
   exact sQ h p o hi lo r hw.1 hw.2 (by simpa using hc) (by omega) hv hp
theorem Inv.EU {m:Nat}{X:List Tk}{l:Fo}(h:Inv m X l){o:Int}:dR X l o=true↔∃r,(r,-1)∈l/\ob X r=o:=by
 rw [ed];constructor
 ·rintro ⟨n,hn,rfl⟩
  obtain⟨r,h1,h2,_⟩:=h.l_ n hn
  exact⟨r,h1,h2⟩
 ·rintro ⟨r,h1,h2⟩
  exact⟨r,av.2 ⟨_,h1⟩,h2⟩
theorem ze {w:World}{A:Ad}{kn mo:Nat}{X:List Tk}{l:Fo}(h:ie w A kn mo X l)(c:Cp)(r:Int)(hw:c.2.1<aq/\c.2.2<aq) :
  Calls Tryz.prog 202 #[.pointer (some ⟨A.g,0,none⟩),iu c,.int .i64 r] w (gu w A kn mo (kf mo X l c r)):=by
 obtain⟨o,hi,lo⟩:=c
 obtain⟨w1,hw1⟩:∃w1,w1=w.alloc (Obj.cells #[.int .i64 o,.int .u64 (hi:Int),.int .u64 (lo:Int)] 37):=⟨_,rfl⟩
 have hB1:Below w.heap.size w w1:=by rw [hw1];exact ae _ _
 have z0:w1.cell? ⟨w.heap.size,0,none⟩=some (.int .i64 o):=by rw [hw1];simp [go_sem]
 have HZ:Hid (∀U,Below w1.heap.size w1 U->U.cell? ⟨w.heap.size,0,none⟩=some (.int .i64 o)/\U.cell? ⟨w.heap.size,1,none⟩=some (.int .u64 (hi:Int))/\U.cell? ⟨w.heap.size,2,none⟩=some (.int .u64 (lo:Int))):=λU hU =>
  ⟨cell_later hU (by rw [hw1];simp [go_sem]),cell_later hU (by rw [hw1];simp [go_sem]),cell_later hU (by rw [hw1];simp [go_sem])⟩
 have PC:=ab hB1
 have HH:=ab h
 have H1:=ab (h.later hB1)
 unfold kf;clear h hB1;by_cases hv:bq r=true
 ·rw [if_neg (by rw [hv];decide)]
  by_cases ho:dR X l o=true
  ·rw [if_pos ho]
   go_enter Tryz.func202,Tryz.ntmps202
   go_upto_region 1 with fail
   rw [<-hw1];clear hw1;go_upto_region 4 with (first|(go_at_call 195;refine (j3 H1.out.cm o).mono ?_;rintro e w2 ⟨⟨rt,hr1,hr2,rfl⟩|⟨hr1,rfl⟩,hb2⟩<;>have PB:=ab hb2<;>clear hb2)|(go_at_call 281;refine (bK _ _).mono ?_;rintro e w9 ⟨rfl,hw9⟩;obtain rfl:=hw9.symm;clear hw9;rw [hv]))
   ·go_wp2
    exact bodyPost_ret (v:=.tuple #[.int .i64 0,.int .i64 19]) (by simp [results,Tryz.results202,go_sem]) rfl (gu.same HH.out (aa PC.out PB.out))
   ·exfalso
    obtain⟨r',h1,h2⟩:=HH.out.inv.EU.1 ho
    exact hr1 r' h1 h2
  ·rw [if_neg ho]
   have HA:=ab (λ(U:World) (hU:Below w.heap.size w U)=>jh (HH.out.later hU) (-1) (o,hi,lo) r hw hv (.inl ⟨rfl,by simpa using ho⟩))
   go_enter Tryz.func202,Tryz.ntmps202
   go_upto_region 1 with fail
   rw [<-hw1];clear hw1;go_upto_region 4 with (first|(go_at_call 195;refine (j3 H1.out.cm o).mono ?_;rintro e w2 ⟨⟨rt,hr1,hr2,rfl⟩|⟨hr1,rfl⟩,hb2⟩<;>have PB:=ab hb2<;>clear hb2)|(go_at_call 281;refine (bK _ _).mono ?_;rintro e w9 ⟨rfl,hw9⟩;obtain rfl:=hw9.symm;clear hw9;rw [hv]))
   ·exfalso
    exact ho (HH.out.inv.EU.2 ⟨rt,hr1,hr2⟩)
   ·obtain⟨y0,y1,y2⟩:=HZ.out _ PB.out
    generalize gw mo X l (-1) (o,hi,lo) r=R at *
    go_wp2_with (first|(go_at_call 280;refine (HA.out _ (aa PC.out PB.out)).mono ?_;rintro e w3 hd;have hd1:=hd.1;subst hd1;have HD:=ab hd;clear hd))
    exact bodyPost_ret (v:=.tuple #[.int .i64 R.num,.int .i64 R.code]) (by simp [results,Tryz.results202,go_sem]) rfl (HD.out.pre (aa PC.out PB.out))
 ·have hv':bq r=false:=by simpa using hv
  rw [if_pos hv'];go_enter Tryz.func202,Tryz.ntmps202
  go_upto_region 1 with fail
  rw [<-hw1];clear hw1;go_wp2_with (first|(go_at_call 281;refine (bK _ _).mono ?_;rintro e w9 ⟨rfl,hw9⟩;obtain rfl:=hw9.symm;clear hw9;rw [hv']))
  exact bodyPost_ret (v:=.tuple #[.int .i64 0,.int .i64 4]) (by simp [results,Tryz.results202,go_sem]) rfl (gu.same HH.out PC.out)
end Go.Proofs.YtffmodpgddecnaaGreatDoor
namespace Go.Proofs.YtffmodpgddecnaaGreatDoor
open Go.RowKit
theorem ints_set (L:List Int)(j:Nat)(v:Int):(ints L).set j (.int .i64 v)=ints (L.set j v):=by simp [ints,List.map_set]
theorem Own.set {w:World}{base g n c j:Nat}{L:List Int}{v:Int}(h:Own w base 3 (some ⟨g,0,none⟩) n c (ints L)):Own (w.setCell ⟨g,j,none⟩ (.int .i64 v)) base 3 (some ⟨g,0,none⟩) n c (ints (L.set j v)) :=
 ⟨by rw [<-ints_set];exact (h.row.stored j _).1,ep _⟩
theorem Own.form {w:World}{base:Nat}{e:TypeId}{a:Option Addr}{n cap:Nat}{L:List Value}(h:Own w base e a n cap L)(hn:0<n):∃g,a=some ⟨g,0,none⟩:=by
 rcases h.row.2 with ⟨_,h1⟩|⟨g,c,cur,hv,_⟩
 ·omega
 ·simp only [Value.slice.injEq] at hv
  exact⟨g,hv.1⟩
def KM (w:World)(base:Nat)(a:Option Addr)(n cap:Nat)(L:List Value):Prop:=Own w base 3 a n cap L\/(n=cap/\∃p,a=some p/\Row w a n cap L)
theorem lB {w:World}{base:Nat}{a:Option Addr}{n cap:Nat}{L:List Int}(x:Int)(h:KM w base a n cap (ints L))(hb:base<=w.heap.size)(hr:(n+1)*8<=140737488355328) :
  ∃a' cap' w',(Builtin.append_ #[42,42] 42 #[.slice a n cap,.slice (some ⟨w.heap.size,0,none⟩) 1 1]).run Tryz.prog (w.alloc (Obj.cells #[.int .i64 x] 3))=.ok (.slice a' (n+1) cap') w'/\Own w' base 3 a' (n+1) cap' (ints (L++[x]))/\Gr a a' w w':=by
 rcases h with h|⟨rfl,p,rfl,h⟩
 ·obtain⟨a',cap',w',hrun,hO,hG⟩:=dA (h.alloc (Obj.cells #[.int .i64 x] 3)) (Row.single w 3 (.int .i64 x) rfl) (by simp;omega) hr
  exact⟨a',cap',w',hrun,by rw [bA];exact hO,hG.pre (ae _ _)⟩
 ·obtain⟨g',cap',w',hrun,hO,hB⟩:=kz 42 3 _ 8 Tryz.underlying42 qR rfl (h.alloc (Obj.cells #[.int .i64 x] 3)) (Row.single w 3 (.int .i64 x) rfl) (by omega) hr (by omega)
  refine⟨_,cap',w',hrun,by rw [bA];exact hO.mono (by simp;omega),ah.of (aa (ae _ _) hB),λk hk=>.inr ?_⟩
  have:=hO.bT k hk
  simp at this
  omega
theorem Own.sub {w:World}{base:Nat}{e:TypeId}{a:Option Addr}{n cap:Nat}{L:List Value}(h:Own w base e a n cap L){m:Nat}(hm:m<=n):Own w base e a m cap (L.take m):=by
 refine⟨?_,λu hu=>h.one u (List.mem_of_mem_take hu)⟩
 have hl:=h.len
 refine⟨by rw [List.length_take];omega,?_⟩
 rcases h.row.2 with ⟨h1,h2⟩|⟨g,c,cur,hv,hg,hh,hc,hc2,hs,ht⟩
 ·subst h2
  obtain rfl:m=0:=by omega
  exact .inl ⟨h1,rfl⟩
 ·simp only [Value.slice.injEq] at hv
  obtain⟨rfl,_,rfl⟩:=hv
  refine .inr ⟨g,cap,cur,rfl,hg,hh,Nat.le_trans hm hc,hc2,hs,?_⟩
  rw [<-ht,List.take_take];congr 1
  omega
def om (L M:List Int)(i:Nat):Prop:=M.length=L.length/\∀k,k<L.length->M[k]?=if k<i\/L.length<=k+i then L[L.length - 1 - k]? else L[k]?
theorem om.step {L M:List Int}{i j:Nat}{x y:Int}(h:om L M i)(hj:i+j+1=L.length)(hij:i<j)(hx:M[i]?=some x)(hy:M[j]?=some y):om L ((M.set i y).set j x) (i+1):=by
 obtain⟨h1,h2⟩:=h
 refine⟨by simp [h1],λk hk=>?_⟩
 have hi2:=h2 i (by omega)
 rw [if_neg (by omega),hx] at hi2;have hj2:=h2 j (by omega)
 rw [if_neg (by omega),hy] at hj2;rw [List.getElem?_set];split
 ·next e =>
  subst e;rw [if_pos (by simp;omega),if_pos (by omega),show L.length - 1 - j=i by omega];exact hi2
 ·rw [List.getElem?_set]
  split
  ·next e =>
   subst e;rw [if_pos (by omega),if_pos (by omega),show L.length - 1 - i=j by omega];exact hj2
  ·rw [h2 k hk]
   by_cases hc:k<i\/L.length<=k+i
   ·rw [if_pos hc,if_pos (by omega)]
   ·rw [if_neg hc,if_neg (by omega)]
theorem om.end_ {L M:List Int}{i:Nat}(h:om L M i)(hi:L.length<=2*i+1):M=L.reverse:=by
 obtain⟨h1,h2⟩:=h
 apply List.ext_getElem?
 intro k;by_cases hk:k<L.length
 ·rw [h2 k hk,List.getElem?_reverse hk]
  split
  ·rfl
  ·rw [show L.length - 1 - k=k by omega]
 ·rw [List.getElem?_eq_none (by omega),List.getElem?_eq_none (by simp;omega)]
def Gv (w:World)(base:Nat)(a:Option Addr)(n cap:Nat)(L:List Int)(t u:Value)(w':World):Prop :=
 ∃(i:Nat) (M:List Int),t=.int .i64 (i:Int)/\u=.int .i64 ((n:Int) - 1 - i)/\om L M i/\Own w' base 3 a n cap (ints M)/\ah (aJ a) w w'
theorem vc {w:World}{base:Nat}{a:Option Addr}{n cap:Nat}{L:List Int}(h:Own w base 3 a n cap (ints L))(hn:n<=2048) :
  Calls Tryz.prog 376 #[.slice a n cap] w λe w'=>(∃v,e=.returned v)/\Own w' base 3 a n cap (ints L.reverse)/\ah (aJ a) w w':=by
 have hl:=h.len
 rw [aL] at hl;have HO:=ab h
 clear h;go_enter Tryz.func376,Tryz.ntmps376
 go_upto_region 1 with fail
 go_loopw [2,3] (Gv w base a n cap L) (λt _ _=>n - (intOf t).toNat)
 case atStart=>exact⟨0,L,rfl,by go_num,⟨rfl,λk hk=>by rw [if_neg (by omega)]⟩,HO.out,ah.refl _ _⟩
 case round =>
  obtain⟨i,M,rfl,rfl,hR,hO,hB⟩:=hrel
  by_cases hlt:2*i+1<n
  ·obtain⟨g,rfl⟩:=hO.form (by omega)
   obtain⟨j,hj⟩:∃j:Nat,i+j+1=n:=⟨n - 1 - i,by omega⟩
   have hje:((n:Int) - 1 - i)=(j:Int):=by omega
   rw [hje];have hlM:M.length=n:=by rw [hR.1];exact hl
   obtain⟨x,hx⟩:=get_some (L:=M) (i:=i) (by omega)
   obtain⟨y,hy⟩:=get_some (L:=M) (i:=j) (by omega)
   obtain⟨_,e1,hL1⟩:=hO.rI rfl (j:=i) (u:=.int .i64 x) (by simp [ints,hx])
   cases e1
   obtain⟨_,e2,hL2⟩:=hO.rI rfl (j:=j) (u:=.int .i64 y) (by simp [ints,hy])
   cases e2
   have y1:=hL1.1
   have z1:=hL1.2
   have y2:=hL2.1
   have z2:=hL2.2
   have hij:i<j:=by omega
   have hjn:j<n:=by omega
   have PS:=ab ((hO.set (j:=i) (v:=y)).set (j:=j) (v:=x))
   have PB:=ab ((hB.setCell (p:=⟨g,i,none⟩) ⟨_,rfl,rfl⟩ (.int .i64 y)).setCell (p:=⟨g,j,none⟩) ⟨_,rfl,rfl⟩ (.int .i64 x))
   have QL:=ab (hR.step (by omega) hij hx hy)
   clear hO hB hR hL1 hL2 HO;have y3:(wr.setCell ⟨g,i,none⟩ (.int .i64 y)).cell? ⟨g,j,none⟩=some (.int .i64 y):=ak y2 (by omega)
   have hne:((i:Int)==(j:Int))=false:=by simp;omega
   clear hx hy hje hlM hlt;go_wp2;go_region
   go_wp2;go_roundw
   case rel=>exact⟨i+1,_,by go_num,by go_num,QL.out,PS.out.later ((Below.refl _ _).drew),PB.out.call ((Below.refl _ _).drew)⟩
   case measure=>simp [intOf];omega
  ·have hge:¬((i:Int)<(n:Int) - 1 - i):=by omega
   have PS:=ab hO
   have PB:=ab hB
   have HE:=ab (hR.end_ (by omega))
   clear hO hB hR HO hlt;go_wp2;go_end0
   exact⟨⟨_,rfl⟩,by have:=PS.out;rwa [HE.out] at this,PB.out⟩
theorem Ki.eI {w:World}{g gb m:Nat}{l:Fo}(h:Ki w g gb m l):m<=1024:=by
 obtain⟨N,h1,_⟩:=h
 exact h1.eI
theorem Own.DM (w:World)(x:Int):Own (w.alloc (Obj.cells #[.int .i64 x] 3)) w.heap.size 3 (some ⟨w.heap.size,0,none⟩) 1 1 (ints [x]) :=
 ⟨⟨rfl,.inr ⟨w.heap.size,1,#[.int .i64 x],rfl,Nat.le_refl _,heap_alloc_new w _,Nat.le_refl _,by unfold maxLen;omega,rfl,rfl⟩⟩,ep _⟩
theorem EL {m:Nat}{l:Fo}(h:Ok m l){e:Bool}:∀{S:List Int},(∀x∈S,x∈aj l)->S.length<=(S.flatMap (G e l)).length
 | [],_=>Nat.zero_le _
 | x::S,hs=>by
  have h1:=EL h (e:=e) (S:=S) (λy hy=>hs y (by simp [hy]))
  rw [List.flatMap_cons,List.length_append,List.length_cons,kt h (hs x (by simp)),List.length_cons];omega
structure Sub (l:Fo)(e:Bool)(n:Int)(O S:List Int):Prop where
 sum:O++S.reverse.flatMap (G e l)=G e l n
 vT:∀x∈S,x∈aj l
theorem Sub.start {l:Fo}{e:Bool}{n:Int}(hn:n∈aj l):Sub l e n [] [n]:=⟨by simp,λx hx=>by rw [List.mem_singleton] at hx;rw [hx];exact hn⟩
theorem Sub.step {m:Nat}{l:Fo}(h:Ok m l){e:Bool}{n x:Int}{O S:List Int}(hs:Sub l e n O (S++[x])):Sub l e n (O++[x]) (S++(ord e (ch l x)).reverse):=by
 have hx:=hs.vT x (by simp)
 refine⟨?_,λy hy=>?_⟩
 ·rw [<-hs.sum]
  simp [kt h hx]
 ·rw [List.mem_append,List.mem_reverse,bP] at hy
  rcases hy with hy|hy
  ·exact hs.vT y (by simp [hy])
  ·exact cG hy
theorem Sub.len {m:Nat}{l:Fo}(h:Ok m l){e:Bool}{n:Int}{O S:List Int}(hs:Sub l e n O S):O.length+S.length<=(G e l n).length:=by
 have h1:=EL h (e:=e) (S:=S.reverse) (λx hx=>hs.vT x (List.mem_reverse.1 hx))
 rw [<-hs.sum,List.length_append];rw [List.length_reverse] at h1;omega
theorem Sub.end_ {l:Fo}{e:Bool}{n:Int}{O:List Int}(hs:Sub l e n O []):O=G e l n:=by have:=hs.sum;simpa using this
structure eU (w w':World)(a b:Option Addr)(i c j d:Nat)(O S:List Int):Prop where
 o:Own w' w.heap.size 3 a i c (ints O)
 s:Own w' w.heap.size 3 b j d (ints S)
 ap:∀k,aJ a k->¬aJ b k
 lt:Below w.heap.size w w'
def GQ (w:World)(l:Fo)(e:Bool)(n:Int)(k:Nat)(v t:Value)(w':World):Prop :=
 ∃(O S:List Int) (a b:Option Addr) (i c j d:Nat),v=.slice a i c/\t=.slice b j d/\i+k=(G e l n).length/\Sub l e n O S/\eU w w' a b i c j d O S
theorem eU.JJ {w wr:World}{a b:Option Addr}{i c j d:Nat}{O S:List Int}(h:eU w wr a b i c j d O S)(x:Int)(hi:i<=2048) :
  ∃a' c' w2,(Builtin.append_ #[42,42] 42 #[.slice a i c,.slice (some ⟨wr.heap.size,0,none⟩) 1 1]).run Tryz.prog (wr.alloc (Obj.cells #[.int .i64 x] 3))=.ok (.slice a' (i+1) c') w2/\eU w w2 a' b (i+1) c' j d (O++[x]) S:=by
 obtain⟨a',c',w2,hrun,hO,hG⟩:=lB x (.inl h.o) h.lt.size (by omega)
 refine⟨a',c',w2,hrun,hO,h.s.but hG.but (λk hk ha=>h.ap k ha hk),λk hk hb=>?_,h.lt.trans (hG.below h.o h.lt.size)⟩
 rcases hG.on k hk with h1|h1
 ·exact h.ap k h1 hb
 ·have:=h.s.lt k hb
  omega
theorem eU.H7 {w w2 w3 w4:World}{a b r:Option Addr}{i c j d p q:Nat}{O S R:List Int}{x:Int}(h:eU w w2 a b i c (j+1) d O (S++[x]))(hb:Below w2.heap.size w2 w3)(hr:ah (aJ r) w3 w4)(hR3:∀k,aJ r k->w2.heap.size<=k)(hR:Own w4 w2.heap.size 3 r p q (ints R))(hi:j+p<=4096) :
  ∃b' d' w5,(Builtin.append_ #[42,42] 42 #[.slice b j d,.slice r p q]).run Tryz.prog w4=.ok (.slice b' (j+p) d') w5/\eU w w5 a b' i c (j+p) d' O (S++R):=by
 have hlS:S.length=j:=by
  have:=h.s.len
  rw [aL,List.length_append,List.length_singleton] at this;omega
 have hb4:ah (aJ r) w2 w4:=(ah.of hb).trans hr
 have ho4:Own w4 w.heap.size 3 a i c (ints O):=h.o.but hb4 (λk hk hk2=>by have:=hR3 k hk2;have:=h.o.lt k hk;omega)
 have hs4:Own w4 w.heap.size 3 b (j+1) d (ints (S++[x])):=h.s.but hb4 (λk hk hk2=>by have:=hR3 k hk2;have:=h.s.lt k hk;omega)
 have hs5:=hs4.sub (m:=j) (by omega)
 rw [show (ints (S++[x])).take j=ints S by rw [bA,List.take_left' (by rw [aL];exact hlS)]] at hs5
 have hB4:Below w.heap.size w w4:=(ah.below (h.lt.trans (hb.mono h.lt.size)) hr (λk hk=>by have:=hR3 k hk;have:=h.lt.size;omega))
 obtain⟨b',d',w5,hrun,hO,hG⟩:=dA hs5 hR.read hB4.size (by omega)
 refine⟨b',d',w5,hrun,ho4.but hG.but (λk hk ha=>h.ap k hk ha),by rw [bA];exact hO,λk hk hb2=>?_,hB4.trans (hG.below hs5 hB4.size)⟩
 rcases hG.on k hb2 with h1|h1
 ·exact h.ap k hk h1
 ·have:=ho4.lt k hk
  omega
theorem Ck {S:List Int}(h:S≠[]):∃S' x,S=S'++[x]:=⟨S.dropLast,S.getLast h,(List.dropLast_concat_getLast h).symm⟩
theorem ka {w:World}{g gb m:Nat}{l:Fo}(h:Ki w g gb m l)(n:Int)(e:Bool) :
  Calls Tryz.prog 335 #[.pointer (some ⟨g,0,none⟩),.int .i64 n,.bool e] w λr w'=>∃a k cap,r=.returned (.slice a k cap)/\Own w' w.heap.size 3 a k cap (ints (G e l n))/\Below w.heap.size w w':=by
 have hh:=aX h n
 have hbig:=h.eI
 have hok:=ab h.ok
 by_cases hn:n∈aj l
 ·rw [decide_eq_true hn] at hh
  have hgl:=Nat.le_trans (l9 hok.out e n) hbig
  have HK:=ab h
  have HN:=ab hn
  clear h hn;go_enter Tryz.func335,Tryz.ntmps335
  go_upto_region 5 with (first|(go_at_call 331;refine hh.mono ?_;rintro e w1 ⟨rfl,rfl⟩))
  clear hh;go_loopg [7,8] (G e l n).length (GQ w1 l e n)
  case atStart=>exact⟨[],[n],none,some ⟨w1.heap.size,0,none⟩,0,0,1,1,rfl,rfl,by omega,Sub.start HN.out,Own.nil _ _ _,Own.DM w1 n,λk hk=>(by obtain⟨_,h,_⟩:=hk;cases h),ae _ _⟩
  case round =>
   obtain⟨O,S,a,b,i,c,j,d,rfl,rfl,hik,hS,hT⟩:=hrel
   have hlO:=hT.o.len
   have hlS:=hT.s.len
   rw [aL] at hlO hlS;have hsl:=hS.len hok.out
   by_cases hj:j=0
   ·subst hj
    have hS0:S=[]:=List.eq_nil_of_length_eq_zero hlS
    subst hS0;have HE:=ab hS.end_
    have HT:=ab hT
    clear hT hS;go_wp2;go_ret;exact⟨a,i,c,rfl,by rw [<-HE.out];exact HT.out.o,HT.out.lt⟩
   ·obtain⟨S',x,rfl⟩:=Ck (S:=S) (λhz=>by rw [hz] at hlS;simp at hlS;omega)
    obtain⟨j,rfl⟩:∃j',j=j'+1:=⟨j - 1,by omega⟩
    rw [List.length_append,List.length_singleton] at hlS hsl;obtain⟨a',c',w2,hrun,hT2⟩:=hT.JJ x (by omega)
    obtain⟨b0,rfl⟩:=hT.s.form (by omega)
    obtain⟨_,e1,hL1⟩:=hT.s.rI rfl (j:=j) (u:=.int .i64 x) (by rw [bA,List.getElem?_append_right (by rw [aL];omega)];simp [show S'.length=j by omega,ints])
    cases e1
    obtain⟨_,e2,hL2⟩:=hT2.s.rI rfl (j:=j) (u:=.int .i64 x) (by rw [bA,List.getElem?_append_right (by rw [aL];omega)];simp [show S'.length=j by omega,ints])
    cases e2
    have y1:=hL1.1
    have y2:=hL2.1
    have hcap:j<=d:=by have:=hT.s.read.cap_;omega
    have PD:=ab hrun
    have PQ:=ab hT2
    have HC:=ab (oN (HK.out.later hT2.lt) x)
    have hkl:=zJ hok.out x
    have hki:=vt hok.out (hS.vT x (by simp))
    have Qz:=ab (hS.step hok.out)
    rw [<-hki] at Qz;generalize kids l x=R at HC Qz hkl
    clear hrun hT2 hT hL1 hL2 hki;have hjR:j+R.length<=4096:=by omega
    cases e
    ·go_wp2_with (first|(have hq_:=QM;clear hq_;at_builtin;refine al rfl _ _ 42 rfl _ _ rfl rfl _ w5 Rr.out ?_)|(at_builtin;refine al rfl _ _ 42 rfl _ _ rfl rfl _ w2 PD.out ?_)|(go_at_call 375;refine HC.out.mono ?_;rintro e w3 ⟨r,p,q,rfl,hO3,hB3⟩;have hlp:=hO3.len;rw [aL] at hlp;obtain⟨b',d',w5,hrun2,hT5⟩:=eU.H7 PQ.out hB3 (ah.refl _ _) hO3.bT hO3 (by omega);have Rr:=ab hrun2;have QM:=ab hT5;clear hrun2 hT5 hO3 hB3))
     go_roundg (gk - 1)
     case measure=>omega
     case rel=>exact⟨O++[x],S'++R,a',b',i+1,c',j+p,d',rfl,rfl,by omega,by have:=Qz.out;simpa [ord] using this,QM.out⟩
    ·go_wp2_with (first|(have hq_:=QM;clear hq_;at_builtin;refine al rfl _ _ 42 rfl _ _ rfl rfl _ w5 Rr.out ?_)|(at_builtin;refine al rfl _ _ 42 rfl _ _ rfl rfl _ w2 PD.out ?_)|(go_at_call 375;refine HC.out.mono ?_;rintro e w3 ⟨r,p,q,rfl,hO3,hB3⟩;have hlp:=hO3.len;rw [aL] at hlp;have Rg:=ab hO3;have PE:=ab hB3;clear hO3 hB3)|(go_at_call 376;refine (vc Rg.out (by omega)).mono ?_;rintro e w4 ⟨⟨v4,rfl⟩,hO4,hb4⟩;obtain⟨b',d',w5,hrun2,hT5⟩:=eU.H7 PQ.out PE.out hb4 Rg.out.bT hO4 (by omega);have Rr:=ab hrun2;have QM:=ab hT5;clear hrun2 hT5 hO4 hb4))
     go_roundg (gk - 1)
     case measure=>omega
     case rel=>exact⟨O++[x],S'++R.reverse,a',b',i+1,c',j+p,d',rfl,rfl,by omega,by have:=Qz.out;simpa [ord] using this,QM.out⟩
 ·rw [decide_eq_false hn] at hh
  rw [kr hn];clear h hn;go_enter Tryz.func335,Tryz.ntmps335
  go_wp2_with (first|(go_at_call 331;refine hh.mono ?_;rintro e w1 ⟨rfl,rfl⟩))
  go_ret;exact⟨none,0,0,rfl,Own.nil _ _ _,Below.refl _ _⟩
def dO (d:Bool)(l:Fo)(n:Int):List Int:=G true l n
theorem wu {m:Nat}{l:Fo}(h:Ok m l)(d:Bool)(n:Int):(dO d l n).length<=m:=by
 exact l9 h _ _
def Bg (d:Bool):Nat:=334
theorem yR {w:World}{g gb m:Nat}{l:Fo}(h:Ki w g gb m l)(d:Bool)(n:Int)(b1 b2:Nat)(h1:w.cell? ⟨b1,0,none⟩=some (.pointer (some ⟨g,0,none⟩)))(h2:w.cell? ⟨b2,0,none⟩=some (.int .i64 n)) :
  Calls Tryz.prog (Bg d) #[.pointer (some ⟨b1,0,none⟩),.pointer (some ⟨b2,0,none⟩)] w λr w'=>∃a k cap,r=.returned (.slice a k cap)/\Own w' w.heap.size 3 a k cap (ints (dO d l n))/\Below w.heap.size w w':=by
 have hc:=ab (ka h n true)
 show Calls Tryz.prog 334 _ _ _
 unfold dO;generalize G true l n=X at hc ⊢
 clear h;go_enter Tryz.func334,Tryz.ntmps334
 go_wp2_with (first|(go_at_call 335;refine hc.out.mono ?_;rintro e w1 ⟨a,k,cap,rfl,hO,hB⟩;have HO:=ab hO;have HB:=ab hB;clear hO hB))
 go_ret;exact⟨a,k,cap,rfl,HO.out,HB.out⟩
theorem xv (w:World)(f:Fn)(a b:Array Value):Calls Tryz.prog 333 #[.func f a b] w λe w'=>e=.returned (.func (.func 374) #[] #[.pointer (some ⟨w.heap.size,0,none⟩)])/\w'=w.alloc (Obj.cells #[.func f a b] 174):=by
 go_enter Tryz.func333,Tryz.ntmps333
 go_wp2;go_ret;exact⟨rfl,rfl⟩
def Sq (w:World)(d:Bool)(base b0 g:Nat)(n:Int):Prop :=
 ∃b1 b2,w.cell? ⟨b0,0,none⟩=some (.func (.func (Bg d)) #[] #[.pointer (some ⟨b1,0,none⟩),.pointer (some ⟨b2,0,none⟩)])/\w.cell? ⟨b1,0,none⟩=some (.pointer (some ⟨g,0,none⟩))/\w.cell? ⟨b2,0,none⟩=some (.int .i64 n)/\base<=b0/\base<=b1/\base<=b2
theorem Sq.but {S:Nat->Prop}{w w':World}{d:Bool}{base b0 g:Nat}{n:Int}(hb:ah S w w')(h:Sq w d base b0 g n)(hS:∀k,S k->k<base):Sq w' d base b0 g n:=by
 obtain⟨b1,b2,h0,h1,h2,h3,h4,h5⟩:=h
 exact⟨b1,b2,ag hb h0 (λhs=>by have:=hS _ hs;simp at this;omega),ag hb h1 (λhs=>by have:=hS _ hs;simp at this;omega),ag hb h2 (λhs=>by have:=hS _ hs;simp at this;omega),h3,h4,h5⟩
theorem Sq.later {w w':World}{d:Bool}{base b0 g:Nat}{n:Int}(hb:Below w.heap.size w w')(h:Sq w d base b0 g n):Sq w' d base b0 g n:=h.but (S:=λ_=>False) (ah.of hb) (λ_ h=>h.elim)
def Ic (d:Bool):Nat:=276
theorem yc (d:Bool)(g:Nat)(n:Int)(w:World):Calls Tryz.prog (Ic d) #[.pointer (some ⟨g,0,none⟩),.int .i64 n] w λe w'=>∃b0,e=.returned (.func (.func 374) #[] #[.pointer (some ⟨b0,0,none⟩)])/\Sq w' d w.heap.size b0 g n/\Below w.heap.size w w':=by
 show Calls Tryz.prog 276 _ _ _
 go_enter Tryz.func276,Tryz.ntmps276
 go_wp2_with (first|(go_at_call 333;refine (xv _ _ _ _).mono ?_;rintro e w1 ⟨rfl,rfl⟩))
 go_ret;refine⟨_,rfl,⟨w.heap.size,w.heap.size+1,?_,?_,?_,?_,?_,?_⟩,(aC _ _ _).alloc (by simp;omega) _⟩
 all_goals try simp [go_sem,Bg]
 all_goals omega
end Go.Proofs.YtffmodpgddecnaaGreatDoor
namespace Go.Proofs.YtffmodpgddecnaaGreatDoor
open Go.RowKit Go.Shelf
attribute [local go_sem] Oper.semAt_some
structure Kq (Fp:World->Nat->Prop)(W W':World):Prop where
 size:W.heap.size<=W'.heap.size
 same:∀k o,W.heap[k]?=some o->o.isCells=true->¬Fp W k->W'.heap[k]?=some o
 fp:∀k,Fp W' k->Fp W k\/W.heap.size<=k
theorem Kq.trans {Fp:World->Nat->Prop}{A B C:World}(h:Kq Fp A B)(k:Kq Fp B C):Kq Fp A C:=by
 refine⟨Nat.le_trans h.size k.size,λi o hi ho hn=>k.same i o (h.same i o hi ho hn) ho (λhf=>?_),λi hi=>?_⟩
 ·have hlt:i<A.heap.size:=(Array.getElem?_eq_some_iff.1 hi).1
  rcases h.fp i hf with h1|h1
  ·exact hn h1
  ·omega
 ·rcases k.fp i hi with h1|h1
  ·exact h.fp i h1
  ·exact .inr (Nat.le_trans h.size h1)
theorem Own.kq {Fp:World->Nat->Prop}{W W':World}{base:Nat}{e:TypeId}{a:Option Addr}{n cap:Nat}{L:List Value}(h:Own W base e a n cap L)(hk:Kq Fp W W')(hn:∀k,aJ a k->¬Fp W k):Own W' base e a n cap L/\∀k,aJ a k->¬Fp W' k:=by
 refine⟨⟨⟨h.row.1,?_⟩,h.one⟩,λk hb hf=>?_⟩
 ·rcases h.row.2 with h1|⟨g,c,cur,hv,hg,hh,r⟩
  ·exact .inl h1
  ·refine .inr ⟨g,c,cur,hv,hg,hk.same g _ hh rfl (hn g ?_),r⟩
   rw [<-aJ.of (n:=n) (cap:=cap),hv];simp [Value.ownBlock]
 ·rcases hk.fp k hf with h1|h1
  ·exact hn k hb h1
  ·have:=h.lt k hb
   omega
theorem lQ {W W':World}(h:Below W.heap.size W W'):W.grownBy W' none:=⟨h.os,h.tape,h.output,h.size,λk hk _=>h.block k hk⟩
theorem Fk {Fp:World->Nat->Prop}{B:Nat}(hFc:∀(W:World) (L:Nat) (o o':Obj),B<=L->W.heap[L]?=some o->o.isCells=false->∀k,Fp (W.putObj L o') k->Fp W k)(W:World)(L:Nat)(o o':Obj)(hL:B<=L)(h:W.heap[L]?=some o)(ho:o.isCells=false):Kq Fp W (W.putObj L o'):=by
 refine⟨(grownBy_putObj' W L o').size,λk c hk hc _=>?_,λk hk=>.inl (hFc W L o o' hL h ho k hk)⟩
 have hne:k≠L:=λe=>by
  subst e;rw [h] at hk;cases hk
  rw [ho] at hc;cases hc
 exact ((grownBy_putObj' W L o').block k (Array.getElem?_eq_some_iff.1 hk).1 (λe=>hne (by cases e;rfl))).trans hk
attribute [local go_sem] Oper.semAt_some
theorem aH (w:World)(v:Value)(t:TypeId):az (w.alloc (Obj.cells #[v] t)) ⟨w.heap.size,0,none⟩ v:=⟨by simp [go_sem],by simp [go_sem]⟩
theorem mD {w W:World}{D:Nat}(hB:Below w.heap.size w W)(hD:w.heap.size<=D)(hK:W.heap[D]?=some (.deferred (some []))):Below w.heap.size w (W.putObj D (.deferred none)) :=
 hB.trans (belowK_b (w:=w) (Nat.le_refl _) W D _ _ hD hK rfl rfl)
theorem yU {w:World}{g gb m:Nat}{l:Fo}(h:Ki w g gb m l)(n:Int) :
  Calls Tryz.prog 391 #[.pointer (some ⟨g,0,none⟩),.int .i64 n] w λe w'=>∃a k cap,e=.returned (.slice a k cap)/\Own w' w.heap.size 3 a k cap (ints (Fl l n))/\Below w.heap.size w w':=by
 have hc:=ab (ka h n false)
 have hl:=Nat.le_trans (l9 h.ok false n) h.eI
 unfold Fl;generalize G false l n=X at hc hl ⊢
 clear h;go_enter Tryz.func391,Tryz.ntmps391
 go_wp2_with (first|(go_at_call 335;refine hc.out.mono ?_;rintro e w1 ⟨a,k,cap,rfl,hO,hB⟩;have hlk:=hO.len;rw [aL] at hlk;have HO:=ab hO;have HB:=ab hB;clear hO hB)|(go_at_call 376;refine (vc HO.out (by omega)).mono ?_;rintro e w2 ⟨⟨v,rfl⟩,hO2,hB2⟩;have PS:=ab hO2;have PB:=ab (ah.below HB.out hB2 HO.out.bT);clear hO2 hB2))
 go_ret;exact⟨a,k,cap,rfl,PS.out,PB.out⟩
end Go.Proofs.YtffmodpgddecnaaGreatDoor
namespace Go.Proofs.YtffmodpgddecnaaGreatDoor
open Go.RowKit H
theorem AM {w:World}{A:Ad}{kn mo:Nat}{X:List Tk}{l:Fo}(h:ie w A kn mo X l)(p:Int)(c:Cp)(r:Int)(hw:c.2.1<aq/\c.2.2<aq) :
  Calls Tryz.prog 201 #[.pointer (some ⟨A.g,0,none⟩),.int .i64 p,iu c,.int .i64 r] w (gu w A kn mo (gy mo X l p c r)):=by
 obtain⟨o,hi,lo⟩:=c
 obtain⟨w1,hw1⟩:∃w1,w1=w.alloc (Obj.cells #[.int .i64 o,.int .u64 (hi:Int),.int .u64 (lo:Int)] 37):=⟨_,rfl⟩
 have hB1:Below w.heap.size w w1:=by rw [hw1];exact ae _ _
 have HZ:Hid (∀U,Below w1.heap.size w1 U->U.cell? ⟨w.heap.size,0,none⟩=some (.int .i64 o)/\U.cell? ⟨w.heap.size,1,none⟩=some (.int .u64 (hi:Int))/\U.cell? ⟨w.heap.size,2,none⟩=some (.int .u64 (lo:Int))):=λU hU =>
  ⟨cell_later hU (by rw [hw1];simp [go_sem]),cell_later hU (by rw [hw1];simp [go_sem]),cell_later hU (by rw [hw1];simp [go_sem])⟩
 have PC:=ab hB1
 have HH:=ab h
 have H1:=ab (h.later hB1)
 unfold gy;clear h hB1;by_cases hp:p∈aj l
 ·rw [if_neg (λhn=>hn hp)]
  obtain⟨q,hq⟩:=av.1 hp
  obtain⟨cc,rr,hxx⟩:∃cc rr,tk X p=(cc,rr):=⟨_,_,rfl⟩
  have hob:ob X p=cc.1:=by unfold ob;rw [hxx]
  have hrg:rg X p=rr:=by unfold rg;rw [hxx]
  have hA:=lF H1.out.cm p q hq
  rw [hrg,hxx] at hA;have Tq:=ab hA
  have UC:Hid (ob X p=o->aE r (rg X p)=true->∀(U:World),Below w.heap.size w U->Calls Tryz.prog 280 #[.pointer (some ⟨A.g,0,none⟩),.int .i64 p,.agg #[.int .i64 o,.int .u64 (hi:Int),.int .u64 (lo:Int)],.int .i64 r] U (gu U A kn mo (gw mo X l p (o,hi,lo) r))) :=
   λho hpt U hU=>jh (HH.out.later hU) p (o,hi,lo) r hw (kd hpt) (.inr ⟨hp,ho,hpt⟩)
  rw [hob,hrg] at *
  obtain⟨oo,hh,ll⟩:=cc
  clear hq hp hA hxx hob hrg;simp only at *
  by_cases ho:oo=o
  ·subst ho
   rw [if_neg (λhn=>hn rfl)];by_cases hpt:aE r rr=true
   ·rw [if_neg (by rw [hpt];decide)]
    have QZ:=ab (UC.out rfl hpt)
    generalize gw mo X l p (oo,hi,lo) r=R at *
    go_enter Tryz.func201,Tryz.ntmps201
    go_upto_region 1 with fail
    rw [<-hw1];clear hw1;go_upto_region 4 with (first|(go_at_call 197;refine Tq.out.mono ?_;rintro e w2 ⟨rfl,hb2⟩;have PB:=ab hb2;have hz:=(HZ.out _ (hb2)).1;clear hb2))
    obtain⟨w3,hw3⟩:∃w3,w3=w2.alloc (Obj.cells #[.int .i64 oo,.int .u64 (hh:Int),.int .u64 (ll:Int),.int .i64 rr,.int .i64 q] 74):=⟨_,rfl⟩
    have hB3:Below w2.heap.size w2 w3:=by rw [hw3];exact ae _ _
    have t0:w3.cell? ⟨w2.heap.size,0,none⟩=some (.int .i64 oo):=by rw [hw3];simp [go_sem]
    have t3:w3.cell? ⟨w2.heap.size,3,none⟩=some (.int .i64 rr):=by rw [hw3];simp [go_sem]
    obtain⟨y0,y1,y2⟩:=HZ.out _ (aa PB.out hB3)
    have PE:=ab (aa (aa PC.out PB.out) hB3)
    rw [<-hw3];clear hw3 hB3 hz;go_wp2_with (first|(go_at_call 280;refine (QZ.out _ PE.out).mono ?_;rintro e w4 hd;have hd1:=hd.1;subst hd1;have HD:=ab hd;clear hd)|(go_at_call 279;refine (eY _ _ _).mono ?_;rintro e w9 ⟨rfl,hw9⟩;obtain rfl:=hw9.symm;clear hw9;rw [hpt]))
    exact bodyPost_ret (v:=.tuple #[.int .i64 R.num,.int .i64 R.code]) (by simp [results,Tryz.results201,go_sem]) rfl (HD.out.pre PE.out)
   ·have hpt':aE r rr=false:=by simpa using hpt
    rw [if_pos hpt'];go_enter Tryz.func201,Tryz.ntmps201
    go_upto_region 1 with fail
    rw [<-hw1];clear hw1;go_upto_region 4 with (first|(go_at_call 197;refine Tq.out.mono ?_;rintro e w2 ⟨rfl,hb2⟩;have PB:=ab hb2;have hz:=(HZ.out _ (hb2)).1;clear hb2))
    obtain⟨w3,hw3⟩:∃w3,w3=w2.alloc (Obj.cells #[.int .i64 oo,.int .u64 (hh:Int),.int .u64 (ll:Int),.int .i64 rr,.int .i64 q] 74):=⟨_,rfl⟩
    have hB3:Below w2.heap.size w2 w3:=by rw [hw3];exact ae _ _
    have t0:w3.cell? ⟨w2.heap.size,0,none⟩=some (.int .i64 oo):=by rw [hw3];simp [go_sem]
    have t3:w3.cell? ⟨w2.heap.size,3,none⟩=some (.int .i64 rr):=by rw [hw3];simp [go_sem]
    obtain⟨y0,y1,y2⟩:=HZ.out _ (aa PB.out hB3)
    have PE:=ab (aa (aa PC.out PB.out) hB3)
    rw [<-hw3];clear hw3 hB3 hz;go_wp2_with (first|(go_at_call 279;refine (eY _ _ _).mono ?_;rintro e w9 ⟨rfl,hw9⟩;obtain rfl:=hw9.symm;clear hw9;rw [hpt']))
    exact bodyPost_ret (v:=.tuple #[.int .i64 0,.int .i64 4]) (by simp [results,Tryz.results201,go_sem]) rfl (gu.same HH.out PE.out)
  ·rw [if_pos ho]
   have hbn:(oo==o)=false:=by simp [ho]
   go_enter Tryz.func201,Tryz.ntmps201
   go_upto_region 1 with fail
   rw [<-hw1];clear hw1;go_upto_region 4 with (first|(go_at_call 197;refine Tq.out.mono ?_;rintro e w2 ⟨rfl,hb2⟩;have PB:=ab hb2;have hz:=(HZ.out _ (hb2)).1;clear hb2))
   obtain⟨w3,hw3⟩:∃w3,w3=w2.alloc (Obj.cells #[.int .i64 oo,.int .u64 (hh:Int),.int .u64 (ll:Int),.int .i64 rr,.int .i64 q] 74):=⟨_,rfl⟩
   have hB3:Below w2.heap.size w2 w3:=by rw [hw3];exact ae _ _
   have t0:w3.cell? ⟨w2.heap.size,0,none⟩=some (.int .i64 oo):=by rw [hw3];simp [go_sem]
   obtain⟨y0,y1,y2⟩:=HZ.out _ (aa PB.out hB3)
   have PE:=ab (aa (aa PC.out PB.out) hB3)
   rw [<-hw3];clear hw3 hB3 hz;go_wp2;exact bodyPost_ret (v:=.tuple #[.int .i64 0,.int .i64 3]) (by simp [results,Tryz.results201,go_sem]) rfl (gu.same HH.out PE.out)
 ·rw [if_pos hp]
  have Tq:=ab (Fe H1.out.cm p hp)
  go_enter Tryz.func201,Tryz.ntmps201
  go_upto_region 1 with fail
  rw [<-hw1];clear hw1;go_wp2_with (first|(go_at_call 197;refine Tq.out.mono ?_;rintro e w2 ⟨rfl,hb2⟩;have PB:=ab hb2;clear hb2))
  exact bodyPost_ret (v:=.tuple #[.int .i64 0,.int .i64 20]) (by simp [results,Tryz.results201,go_sem]) rfl (gu.same HH.out ((aa PC.out PB.out).alloc (aa PC.out PB.out).size _))
theorem CL:(Tryz.prog.info? 346).map (λi=>(i.zero,i.size,i.bytes))=some (some (.agg #[.int .i64 0,.int .u64 0,.int .u64 0,.int .i64 0]),4,32):=by kernel_rfl
theorem xc (w:World)(n:Nat)(hn:n<=1024) :
  ∃w',(Instr.makeSlice 227 (.int .i64 (n:Int)) (.int .i64 (n:Int))).run Tryz.prog w=.ok (.slice (some ⟨w.heap.size,0,none⟩) n n) w'/\(∀(i:Nat) (p:Tk),(List.replicate n tz)[i]?=some p->Pe w' w.heap.size (i*4) p)/\(∀j,w'.frozen? ⟨w.heap.size,j,none⟩=false)/\w.heap.size<w'.heap.size/\Below w.heap.size w w':=by
 obtain⟨i,hi,hz0,hz1,hz2⟩:=info_parts CL
 obtain⟨w',hr,ho,hg⟩:=run_make_full (P:=Tryz.prog) w w.heap.size 227 346 i _ 4 Tryz.underlying227 hi hz0 hz1 .i64 .i64 n (by rw [hz2];omega) (by unfold maxLen;omega) (Nat.le_refl _)
 have hcell:∀j c u,j<n->c<4->(#[.int .i64 0,.int .u64 0,.int .u64 0,.int .i64 0]:Array Value)[c]! = u->w'.cell? ⟨w.heap.size,j*4+c,none⟩=some u:=by
  intro j c u hj hc hu;have hm:(j*4+c)%4=c:=by omega
  have:=ho.cells (g:=w.heap.size) rfl (j*4+c) u (by
   rw [Array.getElem?_toList];simp only [madeCells,Value.cells,Array.getElem?_map,Array.getElem?_range];rw [if_pos (by omega)];simp only [Option.map_some,Option.some.injEq,Array.size,List.length,hm];exact hu)
  rw [aQ] at this;exact this
 refine⟨w',hr,λj p hp=>?_,λj=>?_,?_,(Below.refl _ _).grown hg (Nat.le_refl _) (λk hk=>by cases hk)⟩
 ·rw [List.getElem?_replicate] at hp
  split at hp
  ·next hj =>
   have:=(Option.some.inj hp).symm
   subst this;exact⟨hcell j 0 _ hj (by omega) rfl,hcell j 1 _ hj (by omega) rfl,hcell j 2 _ hj (by omega) rfl,hcell j 3 _ hj (by omega) rfl⟩
  ·cases hp
 ·rcases ho.2 with ⟨h0,_⟩|⟨g,c,cur,hv,_,hh,hc,_⟩
  ·simp at h0
  ·simp only [Value.slice.injEq,Option.some.injEq,Addr.mk.injEq] at hv
   obtain⟨⟨rfl,_⟩,_,rfl⟩:=hv
   simp [World.frozen?,hh]
 ·exact (bu ho _ rfl).2
def JT (w:World)(kn mo:Nat)(e:Ending)(w':World):Prop :=
 ∃A:Ad,e=.returned (.tuple #[.pointer (some ⟨A.g,0,none⟩),.int .i64 0])/\ie w' A kn mo (List.replicate mo tz) []/\(∀k,A.jD k->w.heap.size<=k)/\Below w.heap.size w w'
theorem Ef (w:World)(mo kn:Nat)(h1:1<=mo)(h2:mo<=256)(h3:kn<=64):Calls Tryz.prog 93 #[.int .i64 (mo:Int),.int .i64 (kn:Int)] w (JT w kn mo):=by
 go_enter Tryz.func93,Tryz.ntmps93
 go_upto_region 7 with (first
  | (go_at_call 170;refine (bU _ mo (by omega)).mono ?_;rintro e w2 ⟨kg,kb,rfl,hk,hk1,hk2,hb2⟩;have PB:=ab (aa PC.out hb2);have PQ:=ab (Rq.out.later hb2);have Qf:=ab hk;have Xa:=ab hb2;have PV:=ab (And.intro hk1 hk2);clear hk hk1 hk2 hb2)
  | (go_at_call 169;refine (I.bU _ mo kn h1 h2 h3).mono ?_;rintro e w1 ⟨tg,tb,N,rfl,ht,ht1,ht2,hb1⟩;have PC:=ab hb1;have Rq:=ab ht;have P_:=ab (And.intro ht1 ht2);clear ht ht1 ht2 hb1))
 obtain⟨w3,hr,hE,hF,hsz,hb3⟩:=xc w2 mo (by omega)
 have HE:=ab hE
 have TT:=ab hF
 have PE:=ab hb3
 clear hE hF hb3;go_wp2;have hb4:Below w3.heap.size w3 (w3.alloc (Obj.cells #[.pointer (some ⟨tg,0,none⟩),.slice (some ⟨w2.heap.size,0,none⟩) mo mo,.pointer (some ⟨kg,0,none⟩)] 233)):=ae _ _
 have ht3:=(PQ.out.later PE.out).later hb4
 have hk3:=(Qf.out.later PE.out).later hb4
 have l1:=Rq.out.lt
 have l2:=Rq.out.po
 have l3:=Qf.out.I3
 have l4:=Xa.out.size
 have l5:=PC.out.size
 have l6:=P_.out
 have l7:=PV.out
 have l8:=PE.out.size
 refine bodyPost_ret (v:=.tuple #[.pointer (some ⟨w3.heap.size,0,none⟩),.int .i64 0]) (by simp [results,Tryz.results93,go_sem]) rfl ⟨⟨w3.heap.size,tg,tb,w2.heap.size,kg,kb,N⟩,rfl,⟨⟨by simp [go_sem],by simp [go_sem],by simp [go_sem],ht3,hk3,λi x hx=>(HE.out i x hx).later hb4,λj=>?_,?_,by simp,?_⟩,Inv.init mo⟩,?_,aa (aa PB.out PE.out) hb4⟩
 ·show World.frozen? _ ⟨w2.heap.size,j,none⟩=false
  rw [World.frozen?_of_block (w:=w3) (hb4.block w2.heap.size hsz)];exact TT.out j
 ·have:=hb4.size
  show w2.heap.size<_
  omega
 ·constructor<;>simp only [ne_eq]<;>omega
 ·rintro k (rfl|rfl|rfl|rfl|rfl|rfl)<;>(try simp only)<;>omega
end Go.Proofs.YtffmodpgddecnaaGreatDoor
namespace Go.Proofs.YtffmodpgddecnaaGreatDoor
open Go.RowKit Go.Shelf
attribute [local go_sem] Oper.semAt_some
theorem dj {F:Fence}{n:Nat}{P:Program}{w:World}{ops:Array Oper}{rest:List Oper}{o:Oper}{a:Act}{Q:Exit->Act->World->Prop}(hgd:o.guard=none)(s x:Operand)(t:TypeId)
  (ho:o.op=.call { callee:=.builtin .append,args:=#[s,x],argTypes:=#[t,t] }) (vs vx:Value) (hs:a.eval s=vs) (hx:a.eval x=vx) (v':Value) (w':World)
  (hr:(Builtin.append_ #[t,t] o.type #[vs,vx]).run P w=.ok v' w') (h:wpListIn F n P ops Q rest (a.put o.dst v') w'):wpListIn F n P ops Q (o::rest) a w:=by
 refine wpListIn_plain hgd λK hK=>?_
 unfold Oper.wpIn;refine⟨by simp [Oper.about,ho,resolve,Target.leads,Sem.run_pure],?_⟩
 rw [Oper.semAt_plain F _ _ (by rw [ho];intro c hc;cases hc)]
 simp [execOp,ho,resolve,invoke,builtin,hs,hx,hr,Result.andThen];exact hK _ _ h
theorem eW {W:World}{base:Nat}{e:TypeId}{a:Option Addr}{n cap:Nat}{L:List Value}(h:Own W base e a n cap L){k:Nat}(hk:aJ a k):∃cs t z,W.heap[k]?=some (.cells cs t z):=by
 rcases h.row.2 with ⟨h1,_⟩|⟨g,c,cur,hv,hg,hh,r⟩
 ·simp only [Value.slice.injEq] at h1
  obtain⟨x,hx,_⟩:=hk
  rw [h1.1] at hx;cases hx
 ·simp only [Value.slice.injEq] at hv
  obtain⟨x,hx,rfl⟩:=hk
  rw [hv.1] at hx;cases hx
  exact⟨_,_,_,hh⟩
theorem nC {S:Nat->Prop}{B:Nat}{W W':World}(h:ah S W W')(hS:∀k o,W.heap[k]?=some o->o.isCells=false->B<=k->¬S k):KeepsFrom B W W' :=
 ⟨h.size,λk o hB hk ho=>(h.block k (Array.getElem?_eq_some_iff.1 hk).1 (hS k o hk ho hB)).trans hk⟩
theorem yb {S:Nat->Prop}{Fp:World->Nat->Prop}{W W':World}(h:ah S W W')(hS:∀k,S k->Fp W k)(hf:∀k,Fp W' k->Fp W k\/W.heap.size<=k):Kq Fp W W' :=
 ⟨h.size,λk o hk _ hn=>(h.block k (Array.getElem?_eq_some_iff.1 hk).1 (λhs=>hn (hS k hs))).trans hk,hf⟩
attribute [local go_sem] Oper.semAt_some
abbrev zI (a:Act)(p d:Nat)(x:Int):Act:={ tmps:=(a.tmps.setIfInBounds p (.int .i64 x)).setIfInBounds d (.int .i64 x),defers:=[] }
theorem bI {W W':World}{row:Option Nat}(h:W.grownBy W' row):ah (λk=>row=some k) W W':=⟨h.os,h.tape,h.output,h.size,λk hk hn=>h.block k hk (λe=>hn e.symm)⟩
end Go.Proofs.YtffmodpgddecnaaGreatDoor
