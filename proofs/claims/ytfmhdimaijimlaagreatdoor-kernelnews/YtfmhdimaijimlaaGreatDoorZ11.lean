import Derived.Test.YtfmhdimaijimlaaGreatDoorZ10
import Derived.Test.YtfmhdimaijimlaaGreatDoorZ07
import Derived.LaidEql
import Derived.Stop.Asserts
import Derived.RowKitTokens
set_option linter.all false
set_option maxRecDepth 1000000
set_option maxHeartbeats 8000000
open Go.Proofs.Tryz
variable {w w' w1 w2:Go.World}{n m k i j b g base kn:Nat}{a:Option Go.Addr}
namespace Go.Proofs.YtfmhdimaijimlaaGreatDoor.D
open Go.RowKit
open Go.Proofs.YtfmhdimaijimlaaGreatDoor.H (ak)
theorem Dr.xg {S:Nat->Prop}{gb:Nat}{c:Nat->Nat}{t:Nat}(hb:ae S w w')(h:Dr w g gb n c t)(h1:¬S g)(h2:0<n->¬S gb):Dr w' g gb n c t :=
 ⟨aC hb h.all h1,h.tk.but hb h1,λi hi=>(h.ar i hi).but hb (h2 (by omega)),h.ne,h.le,h.eK⟩
theorem Dr.gO {w:World}{g gb n:Nat}{c:Nat->Nat}{t:Nat}(h:Dr w g gb n c t){b:Nat}(h1:g≠b)(h2:0<n->gb≠b)(o:Nat)(u:Value):Dr (w.setCell ⟨b,o,none⟩ u) g gb n c t :=
 h.xg (S:=(·=b)) ((ae.refl (·=b) _).own _ _) h1 h2
theorem Dr.oN {gb:Nat}{c:Nat->Nat}{t:Nat}(h:Dr w g gb n c t)(h0:0<n):gb<w.heap.size:=World.block_lt_of_cell? _ _ (h.ar 0 h0).1
theorem iY {v0 v1:Value}(h0:w.cell? ⟨b,0,none⟩=some v0)(h1:w.cell? ⟨b,1,none⟩=some v1)(x y:Value):(w.setCell ⟨b,0,none⟩ x).cell? ⟨b,0,none⟩=some x/\((w.setCell ⟨b,0,none⟩ x).setCell ⟨b,1,none⟩ y).cell? ⟨b,1,none⟩=some y :=
 ⟨World.cell?_setCell_same _ _ _ h0,World.cell?_setCell_same _ _ _ (aQ h1 (by omega))⟩
def fP (w:World)(g gb n:Nat)(c:Nat->Nat)(t:Nat)(P:Nat->Bool)(e:Ending)(w':World):Prop :=
 e=.returned (.tuple #[.agg #[.int .u64 (cR (bs P c n 9 t).1),.int .u64 (cT (bs P c n 9 t).1)],.int .i64 (bs P c n 9 t).2.1])/\Dr w' g gb n c (bs P c n 9 t).2.2/\ae (·=g) w w'
def I2 (w w1:World)(g gb n:Nat)(c:Nat->Nat)(t:Nat)(P:Nat->Bool)(v:Value)(w':World):Prop :=
 ∃i:Nat,i<=9/\v=.int .i64 (i:Int)/\Hid (bs P c n 9 t=bs P c n (9 - i) (t+i))/\Hid (Dr w' g gb n c (t+i))/\Hid (ae (·=g) w w')/\(aq w' ⟨w.heap.size,0,none⟩ (.int .u64 0)/\aq w' ⟨w.heap.size,1,none⟩ (.int .u64 0))/\w1.heap.size<=w'.heap.size
theorem Dz {gb:Nat}{c:Nat->Nat}{t:Nat}(h:Dr w g gb n c t)(hcs:∀i,i<n->c i<ak*ak)(P:Nat->Bool)(k1 k2:Nat)
  (hcl:∀W,ae (·=g) w W->∀N,N<ak*ak->Calls prog 235 #[.agg #[.int .u64 (cR N),.int .u64 (cT N)],.pointer (some ⟨k1,0,none⟩),.pointer (some ⟨k2,0,none⟩)] W λe w'=>e=.returned (.bool (P N))/\Below W.heap.size W w') :
  Calls prog 234 #[.pointer (some ⟨g,0,none⟩),.func (.func 235) #[] #[.pointer (some ⟨k1,0,none⟩),.pointer (some ⟨k2,0,none⟩)]] w (fP w g gb n c t P):=by
 obtain⟨w1,hw1⟩:∃w1,w1=w.alloc (Obj.cells #[.int .u64 0,.int .u64 0] 31):=⟨_,rfl⟩
 have hB1:Below w.heap.size w w1:=by rw [hw1];exact ab _ _
 have l0:aq w1 ⟨w.heap.size,0,none⟩ (.int .u64 0):=by rw [hw1];exact⟨by simp [go_sem],by simp [go_sem]⟩
 have l1:aq w1 ⟨w.heap.size,1,none⟩ (.int .u64 0):=by rw [hw1];exact⟨by simp [go_sem],by simp [go_sem]⟩
 have hg:=h.lt
 have HG:=aa h.oN
 have hlt1:w.heap.size<w1.heap.size:=World.block_lt_of_cell? _ _ l0.1
 have h1:=aa (h.later hB1)
 have HB1:Hid (ae (·=g) w w1):=ae.of hB1
 have HL:=aa (And.intro l0 l1)
 have HC:=aa hcl
 have HS:=aa hcs
 clear h hB1 l0 l1 hcl hcs
 go_enter func234,ntmps234
 go_upto_region 1 with fail
 rw [<-hw1]
 clear hw1
 go_upto_region 2 with fail
 go_loopw [8] (I2 w w1 g gb n c t P) (λv _=>9 - (intOf v).toNat)
 case atStart=>exact⟨0,Nat.zero_le _,rfl,rfl,h1,HB1,HL.o,Nat.le_refl _⟩
 case round =>
  obtain⟨i,hi,rfl,hE,hD,hB,⟨l0,l1⟩,hsz⟩:=hrel
  by_cases h9:i<9
  ·by_cases ht:t+i<n
   ·have hdr:=aa (nE g gb n c (t+i) wr hD.out ht)
    have hN:=HS.o (t+i) ht
    have hek:9 - i=(9 - (i+1))+1:=by omega
    generalize hNN:c (t+i)=N at *
    obtain⟨HL',-⟩:=And.intro (aa (And.intro l0 l1)) trivial
    clear l0 l1
    go_upto_region 4 with (first|(go_at_call 192;refine hdr.out.mono ?_;rintro e w2 ⟨rfl,hD2,hB2⟩;have HD2:=aa hD2;have HB2:=aa (hB.out.trans hB2);have HL2:Hid (aq w2 ⟨w.heap.size,0,none⟩ (.int .u64 0)/\aq w2 ⟨w.heap.size,1,none⟩ (.int .u64 0)):=⟨HL'.o.1.but hB2 (by show ¬(w.heap.size=g);omega),HL'.o.2.but hB2 (by show ¬(w.heap.size=g);omega)⟩;have hsz2:=hB2.size;clear hD2 hB2))
    obtain⟨w3,hw3⟩:∃w3,w3=w2.alloc (Obj.cells #[.int .u64 (cR N),.int .u64 (cT N)] 31):=⟨_,rfl⟩
    rw [<-hw3]
    have hB3:Below w2.heap.size w2 w3:=by rw [hw3];exact ab _ _
    have z0:w3.cell? ⟨w2.heap.size,0,none⟩=some (.int .u64 (cR N)):=by rw [hw3];simp [go_sem]
    have z1:w3.cell? ⟨w2.heap.size,1,none⟩=some (.int .u64 (cT N)):=by rw [hw3];simp [go_sem]
    have hcl:=aa (HC.o w3 (HB2.o.call hB3) N hN)
    have HD3:=aa (HD2.o.later hB3)
    have HB3:=aa (HB2.o.call hB3)
    have HL3:Hid (aq w3 ⟨w.heap.size,0,none⟩ (.int .u64 0)/\aq w3 ⟨w.heap.size,1,none⟩ (.int .u64 0)):=⟨HL2.o.1.later hB3,HL2.o.2.later hB3⟩
    have HZ:Hid (w3.cell? ⟨w2.heap.size,0,none⟩=some (.int .u64 (cR N))/\w3.cell? ⟨w2.heap.size,1,none⟩=some (.int .u64 (cT N))):=⟨z0,z1⟩
    have hsz3:=hB3.size
    clear hw3 hdr hD hB HL' HD2 HB2 HL2 hB3
    cases hp:P N with
    | true =>
     rw [hp] at hcl
     go_wp2_with (first|(go_at_call 235;refine hcl.out.mono ?_;rintro e w4 ⟨rfl,hB4⟩;have HB4:=aa hB4;clear hB4))
     refine⟨⟨i+1,by omega,by go_num,?_,?_,HB3.o.call HB4.o,⟨HL3.o.1.later HB4.o,HL3.o.2.later HB4.o⟩,?_⟩,by simp [intOf];omega⟩
     ·show _=_
      rw [hE.out,hek,nt ht (by rw [hNN];exact hp)];rfl
     ·exact HD3.o.later HB4.o
     ·have:=HB4.o.size;omega
    | false =>
     rw [hp] at hcl
     have hR:bs P c n 9 t=(N,0,t+i+1):=by rw [hE.out,hek,oa ht (by rw [hNN];exact hp),hNN]
     have HR:=aa hR
     clear hE hp hek hR
     go_upto_region 7 with (first|(go_at_call 235;refine hcl.out.mono ?_;rintro e w4 ⟨rfl,hB4⟩;have HB4:=aa hB4;clear hB4))
     have y0:=cell_later HB4.o HZ.o.1
     have y1:=cell_later HB4.o HZ.o.2
     have l0:=(HL3.o.1.later HB4.o).1
     have l1:=(HL3.o.2.later HB4.o).1
     have f0:=(HL3.o.1.later HB4.o).2
     have f1:=(HL3.o.2.later HB4.o).2
     have hB5:ae (·=g) w ((w4.setCell ⟨w.heap.size,0,none⟩ (.int .u64 (cR N))).setCell ⟨w.heap.size,1,none⟩ (.int .u64 (cT N))):=((HB3.o.call HB4.o).put (p:=⟨w.heap.size,0,none⟩) (Nat.le_refl _) _).put (p:=⟨w.heap.size,1,none⟩) (Nat.le_refl _) _
     have HB5:=aa hB5
     have HD5:=aa (((HD3.o.later HB4.o).gO (b:=w.heap.size) (by omega) (λh0=>by have:=HG.o h0;omega) 0 (.int .u64 (cR N))).gO (b:=w.heap.size) (by omega) (λh0=>by have:=HG.o h0;omega) 1 (.int .u64 (cT N)))
     have HQ:=aa (iY l0 l1 (.int .u64 (cR N)) (.int .u64 (cT N)))
     clear hB5
     go_wp2
     refine bodyPost_ret (v:=.tuple #[.agg #[.int .u64 (cR N),.int .u64 (cT N)],.int .i64 0]) (by simp [results,results234,go_sem,HQ.o.1,HQ.o.2]) rfl ?_
     show fP _ _ _ _ _ _ _ _ _
     unfold fP
     rw [HR.o]
     exact⟨rfl,HD5.o,HB5.o⟩
   ·have hle:=hD.out.le
    have hdr:Hid (Calls prog 192 #[.pointer (some ⟨g,0,none⟩)] wr λe w'=>e=.returned (.tuple #[.agg #[.int .u64 0,.int .u64 0],.int .i64 11])/\Below wr.heap.size wr w'):=by
     have e1:t+i=n:=by omega
     have hq:=hD.out
     rw [e1] at hq
     exact rq g gb n c wr hq
    have hek:9 - i=(9 - (i+1))+1:=by omega
    have HR:Hid (bs P c n 9 t=(0,11,t+i)):=by
     show _=_
     rw [hE.out,hek,nC ht]
    obtain⟨HL',-⟩:=And.intro (aa (And.intro l0 l1)) trivial
    clear l0 l1 hE hek hle
    go_upto_region 5 with (first|(go_at_call 192;refine hdr.out.mono ?_;rintro e w2 ⟨rfl,hB2⟩;have HB2:=aa hB2;clear hB2))
    have hB3:Below wr.heap.size wr (w2.alloc (Obj.cells #[.int .u64 0,.int .u64 0] 31)):=HB2.o.alloc HB2.o.size _
    have x0:=(HL'.o.1.later hB3).1
    have x1:=(HL'.o.2.later hB3).1
    have f0:=(HL'.o.1.later hB3).2
    have f1:=(HL'.o.2.later hB3).2
    have HB3:=aa hB3
    have HB5:Hid (ae (·=g) w (((w2.alloc (Obj.cells #[.int .u64 0,.int .u64 0] 31)).setCell ⟨w.heap.size,0,none⟩ (.int .u64 0)).setCell ⟨w.heap.size,1,none⟩ (.int .u64 0))):=((hB.out.call hB3).put (p:=⟨w.heap.size,0,none⟩) (Nat.le_refl _) _).put (p:=⟨w.heap.size,1,none⟩) (Nat.le_refl _) _
    have HD5:=aa (((hD.out.later hB3).gO (b:=w.heap.size) (by omega) (λh0=>by have:=HG.o h0;omega) 0 (.int .u64 0)).gO (b:=w.heap.size) (by omega) (λh0=>by have:=HG.o h0;omega) 1 (.int .u64 0))
    have HQ:=aa (iY x0 x1 (.int .u64 0) (.int .u64 0))
    clear hB3
    go_wp2
    refine bodyPost_ret (v:=.tuple #[.agg #[.int .u64 0,.int .u64 0],.int .i64 11]) (by simp [results,results234,go_sem,HQ.o.1,HQ.o.2]) rfl ?_
    show fP _ _ _ _ _ _ _ _ _
    unfold fP
    rw [HR.o]
    exact⟨by simp only [jj,iQ],HD5.o,HB5.o⟩
  ·obtain rfl:i=9:=by omega
   have HR:Hid (bs P c n 9 t=(0,12,t+9)):=by
    show _=_
    rw [hE.out];rfl
   have x0:=l0.1
   have x1:=l1.1
   have f0:=l0.2
   have f1:=l1.2
   have HB5:Hid (ae (·=g) w ((wr.setCell ⟨w.heap.size,0,none⟩ (.int .u64 0)).setCell ⟨w.heap.size,1,none⟩ (.int .u64 0))):=(hB.out.put (p:=⟨w.heap.size,0,none⟩) (Nat.le_refl _) _).put (p:=⟨w.heap.size,1,none⟩) (Nat.le_refl _) _
   have HD5:=aa ((hD.out.gO (b:=w.heap.size) (by omega) (λh0=>by have:=HG.o h0;omega) 0 (.int .u64 0)).gO (b:=w.heap.size) (by omega) (λh0=>by have:=HG.o h0;omega) 1 (.int .u64 0))
   have HQ:=aa (iY x0 x1 (.int .u64 0) (.int .u64 0))
   clear l0 l1 hE
   go_wp2
   refine bodyPost_ret (v:=.tuple #[.agg #[.int .u64 0,.int .u64 0],.int .i64 12]) (by simp [results,results234,go_sem,HQ.o.1,HQ.o.2]) rfl ?_
   show fP _ _ _ _ _ _ _ _ _
   unfold fP
   rw [HR.o]
   exact⟨by simp only [jj,iQ],HD5.o,HB5.o⟩
def Spec (P:Nat->Bool)(c:Nat->Nat)(n k t:Nat)(R:Nat×Int×Nat):Prop :=
 ∃q:Nat,R.2.2=t+q/\q<=k/\t+q<=n /\
  ((R.2.1=0/\0<q/\R.1=c (t+q - 1)/\P R.1=false/\∀j,j<q - 1->P (c (t+j))=true) \/
  (R.2.1=11/\R.1=0/\t+q=n/\q<k/\∀j,j<q->P (c (t+j))=true) \/
  (R.2.1=12/\R.1=0/\q=k/\∀j,j<q->P (c (t+j))=true))
theorem mz {P:Nat->Bool}{c:Nat->Nat}{n:Nat}:∀{k t:Nat},t<=n->Spec P c n k t (bs P c n k t)
 | 0,t,h=>⟨0,rfl,Nat.le_refl _,h,.inr (.inr ⟨rfl,rfl,rfl,λj hj=>by omega⟩)⟩
 | k+1,t,h=>by
  by_cases ht:t<n
  ·cases hp:P (c t) with
   | false =>
    rw [oa ht hp]
    exact⟨1,rfl,by omega,by omega,.inl ⟨rfl,by omega,rfl,hp,λj hj=>by omega⟩⟩
   | true =>
    rw [nt ht hp]
    obtain⟨q,h1,h2,h3,hc⟩:=mz (P:=P) (c:=c) (n:=n) (k:=k) (t:=t+1) (by omega)
    have hall:∀s,(∀j,j<s->P (c (t+1+j))=true)->∀j,j<s+1->P (c (t+j))=true:=λs hs j hj=>by
     cases j with
     | zero=>exact hp
     | succ j =>
      have:=hs j (by omega)
      rwa [show t+1+j=t+(j+1) by omega] at this
    refine⟨q+1,by rw [h1];omega,by omega,by omega,?_⟩
    rcases hc with ⟨e1,e2,e3,e4,e5⟩|⟨e1,e2,e3,e4,e5⟩|⟨e1,e2,e3,e5⟩
    ·refine .inl ⟨e1,by omega,by rw [e3];congr 1;omega,e4,?_⟩
     have:=hall (q - 1) e5
     rwa [show q - 1+1=q+1 - 1 by omega] at this
    ·exact .inr (.inl ⟨e1,e2,by omega,by omega,hall q e5⟩)
    ·exact .inr (.inr ⟨e1,e2,by omega,hall q e5⟩)
  ·rw [nC ht]
   exact⟨0,rfl,by omega,by omega,.inr (.inl ⟨rfl,rfl,by omega,by omega,λj hj=>by omega⟩)⟩
def C5 (X:List Tk)(l:Fo)(o:Int)(N:Nat):Bool:=aK X l (o,N / ak,N%ak)
theorem ja {N:Nat}(h:N<ak*ak):N / ak<ak/\N%ak<ak:=⟨Nat.div_lt_of_lt_mul h,Nat.mod_lt _ (by decide)⟩
theorem CE {k1 k2:Nat}{A:Ad}{mo:Nat}{X:List Tk}{l:Fo}{o:Int}(h1:w.cell? ⟨k1,0,none⟩=some (.pointer (some ⟨A.g,0,none⟩)))(h2:w.cell? ⟨k2,0,none⟩=some (.int .i64 o))(h:ie w A kn mo X l){N:Nat}(hN:N<ak*ak) :
  Calls prog 235 #[.agg #[.int .u64 (cR N),.int .u64 (cT N)],.pointer (some ⟨k1,0,none⟩),.pointer (some ⟨k2,0,none⟩)] w λe w'=>e=.returned (.bool (C5 X l o N))/\Below w.heap.size w w':=by
 have hb:=ab w (Obj.cells #[.int .u64 (cR N),.int .u64 (cT N)] 31)
 have hc:Hid (Calls prog 196 #[.pointer (some ⟨A.g,0,none⟩),.agg #[.int .i64 o,.int .u64 (cR N),.int .u64 (cT N)]] (w.alloc (Obj.cells #[.int .u64 (cR N),.int .u64 (cT N)] 31)) λe w'=>e=.returned (.tuple #[.int .i64 (aB X l (o,N / ak,N%ak)),.bool (C5 X l o N)])/\Below (w.alloc (Obj.cells #[.int .u64 (cR N),.int .u64 (cT N)] 31)).heap.size (w.alloc (Obj.cells #[.int .u64 (cR N),.int .u64 (cT N)] 31)) w'):=gQ (h.later hb) (o,N / ak,N%ak) (ja hN)
 have y1:=cell_later hb h1
 have y2:=cell_later hb h2
 generalize aB X l (o,N / ak,N%ak)=q at *
 generalize C5 X l o N=P at *
 clear h h1 h2 hb
 go_enter func235,ntmps235
 go_wp2_with (first|(go_at_call 196;refine hc.out.mono ?_;rintro e w1 ⟨rfl,hB⟩;have HB:=aa hB;clear hB))
 go_ret
 exact⟨rfl,al (ab _ _) HB.o⟩
theorem Dx {gb:Nat}{c:Nat->Nat}{t:Nat}(h:Dr w g gb n c t)(hcs:∀i,i<n->c i<ak*ak){A:Ad}{mo:Nat}{X:List Tk}{l:Fo}(hc:ie w A kn mo X l)(hn:∀k,A.jC k->k≠g)(o:Int) :
  Calls prog 204 #[.pointer (some ⟨g,0,none⟩),.pointer (some ⟨A.g,0,none⟩),.int .i64 o] w (fP w g gb n c t (C5 X l o)):=by
 obtain⟨w1,hw1⟩:∃w1,w1=((w.alloc (Obj.cells #[.pointer (some ⟨A.g,0,none⟩)] 82)).alloc (Obj.cells #[.int .i64 o] 3)).alloc (Obj.cells #[.int .u64 0,.int .u64 0] 31):=⟨_,rfl⟩
 have hB1:Below w.heap.size w w1:=by rw [hw1];exact (aw _ _ _).alloc (by simp;omega) _
 have x0:w1.cell? ⟨w.heap.size,0,none⟩=some (.pointer (some ⟨A.g,0,none⟩)):=by rw [hw1];simp [go_sem]
 have x1:w1.cell? ⟨w.heap.size+1,0,none⟩=some (.int .i64 o):=by rw [hw1];simp [go_sem]
 have l0:aq w1 ⟨w.heap.size+1+1,0,none⟩ (.int .u64 0):=by rw [hw1];exact⟨by simp [go_sem],by simp [go_sem]⟩
 have l1:aq w1 ⟨w.heap.size+1+1,1,none⟩ (.int .u64 0):=by rw [hw1];exact⟨by simp [go_sem],by simp [go_sem]⟩
 have hg:=h.lt
 have HG:=aa h.oN
 have hcc:=aa (Dz (h.later hB1) hcs (C5 X l o) w.heap.size (w.heap.size+1) (λW hW N hN=>CE (aC hW x0 (by show ¬(w.heap.size=g);omega)) (aC hW x1 (by show ¬(w.heap.size+1=g);omega)) ((hc.later hB1).but hW (λk hk=>hn k hk)) hN))
 have HB1:Hid (ae (·=g) w w1):=ae.of hB1
 have HL:=aa (And.intro l0 l1)
 clear h hc hB1 x0 x1 l0 l1 hn
 go_enter func204,ntmps204
 go_upto_region 1 with fail
 rw [<-hw1]
 clear hw1
 obtain⟨R,hR⟩:∃R,R=bs (C5 X l o) c n 9 t:=⟨_,rfl⟩
 unfold fP at hcc
 rw [<-hR] at hcc
 have HR:=aa hR
 clear hR
 go_upto_region 2 with (first|(go_at_call 234;refine hcc.out.mono ?_;rintro e w2 ⟨rfl,hD,hB⟩;have HD:=aa hD;have HB:=aa (HB1.o.trans hB);have HL2:Hid (aq w2 ⟨w.heap.size+1+1,0,none⟩ (.int .u64 0)/\aq w2 ⟨w.heap.size+1+1,1,none⟩ (.int .u64 0)):=⟨HL.o.1.but hB (by show ¬(w.heap.size+1+1=g);omega),HL.o.2.but hB (by show ¬(w.heap.size+1+1=g);omega)⟩;clear hD hB;have x0:=HL2.o.1.1;have x1:=HL2.o.2.1;have f0:=HL2.o.1.2;have f1:=HL2.o.2.2))
 have HQ:=aa (iY x0 x1 (.int .u64 (cR R.1)) (.int .u64 (cT R.1)))
 refine bodyPost_ret (v:=.tuple #[.agg #[.int .u64 (cR R.1),.int .u64 (cT R.1)],.int .i64 R.2.1]) (by simp [results,results204,go_sem,HQ.o.1,HQ.o.2]) rfl ?_
 show fP _ _ _ _ _ _ _ _ _
 unfold fP
 rw [<-HR.o]
 refine⟨rfl,?_,?_⟩
 ·exact (HD.o.gO (b:=w.heap.size+1+1) (by omega) (λh0=>by have:=HG.o h0;omega) 0 _).gO (b:=w.heap.size+1+1) (by omega) (λh0=>by have:=HG.o h0;omega) 1 _
 ·exact (HB.o.put (p:=⟨w.heap.size+1+1,0,none⟩) (by show _<=w.heap.size+1+1;omega) _).put (p:=⟨w.heap.size+1+1,1,none⟩) (by show _<=w.heap.size+1+1;omega) _
open Go.Proofs.YtfmhdimaijimlaaGreatDoor.H (ak Cp)
structure aI where
 X:List Tk
 l:Fo
 L:List Int
 t:Nat
structure Par where
 mo:Nat
 e:Int
 a:Int
 n:Nat
 c:Nat->Nat
structure Fit (P:Par)(s:aI):Prop where
 inv:Inv P.mo s.X s.l
 mW:∀o,s.L.count o=jE s.X s.l o
 len:s.L.length=s.l.length
 top:P.a<=(P.mo:Int)
 le:s.t<=P.n
 cs:∀i,i<P.n->P.c i<ak*ak
theorem vA {X:List Tk}{l:Fo}(h:Inv m X l){k:Nat}(p:Int)(c:Cp)(r:Int)(hk:k<m)(hn:(k:Int)∉ah l)(o:Int) :
  jE (X.set k (c,r)) (l++[((k:Int),p)]) o=jE X l o+if c.1=o then 1 else 0:=by
 unfold jE
 rw [cQ,List.filter_append,List.length_append]
 congr 1
 ·congr 1
  refine List.filter_congr (λx hx=>?_)
  unfold ob
  rw [bX _ (bj h.ok hx) (λe=>hn (e ▸ hx))]
 ·have hs:ob (X.set k (c,r)) (k:Int)=c.1:=by unfold ob;rw [eJ _ (by rw [h.len];exact hk)]
  by_cases e:c.1=o
  ·rw [if_pos e,List.filter_cons_of_pos (by simp [hs,e])];rfl
  ·rw [if_neg e,List.filter_cons_of_neg (by simp [hs,e])];rfl
theorem dx {X:List Tk}{l:Fo}{o:Int}:dB X l o=true↔0<jE X l o:=by
 rw [eh]
 unfold jE
 rw [List.length_pos_iff_exists_mem]
 constructor
 ·rintro ⟨n,hn,e⟩;exact⟨n,List.mem_filter.2 ⟨hn,dT e⟩⟩
 ·rintro ⟨n,hn⟩;exact⟨n,(List.mem_filter.1 hn).1,of_decide_eq_true (List.mem_filter.1 hn).2⟩
theorem Fit.room {P:Par}{s:aI}(h:Fit P s){o:Int}(hm:Q.may P.e P.a s.L o=0):s.l.length<P.mo:=by
 have:=(Q.lO hm).2
 have:=h.len
 have:=h.top
 omega
def cap (o:Int)(N:Nat):Cp:=(o,N / ak,N%ak)
structure su where
 c:Cp
 code:Int
 s:aI
def no (s:aI)(c:Int):su:=⟨(0,0,0),c,s⟩
def qF (s:aI)(o:Int)(N:Nat)(p r:Int)(t:Nat):aI:=⟨s.X.set (low s.l) (cap o N,r),s.l++[((low s.l:Int),p)],s.L++[o],t⟩
def fR (P:Par)(s:aI)(o:Int)(D:Nat×Int×Nat)(p r:Int):su :=
 if Q.may P.e P.a s.L o≠0 then no s (Q.may P.e P.a s.L o) else if D.2.1≠0 then no { s with t:=D.2.2 } D.2.1 else ⟨cap o D.1,0,qF s o D.1 p r D.2.2⟩
def cL (P:Par)(t:Nat):Nat×Int×Nat:=if t<P.n then (P.c t,0,t+1) else (0,11,t)
def cB (P:Par)(s:aI)(o:Int):Nat×Int×Nat:=bs (C5 s.X s.l o) P.c P.n 9 s.t
def bg (P:Par)(s:aI)(o:Int):su:=if 0<jE s.X s.l o then no s 19 else fR P s o (cL P s.t) (-1) 31
def eV (s:aI)(c:Cp):Int:=rg s.X (aB s.X s.l c)
def bF (P:Par)(s:aI)(c:Cp)(r:Int):su :=
 if aK s.X s.l c=false then no s 3 else if aA 4 (eV s c)=false\/aA r (eV s c)=false then no s 4 else fR P s c.1 (cB P s c.1) (aB s.X s.l c) r
structure EY (P:Par)(s:aI)(c:Cp)(p r:Int):Prop where
 new:aK s.X s.l c=false
 wide:c.2.1<ak/\c.2.2<ak
 val:aX r=true
 at_:(p=-1/\dB s.X s.l c.1=false)\/(p∈ah s.l/\ob s.X p=c.1/\aA r (rg s.X p)=true)
theorem pQ {P:Par}{s:aI}(h:Fit P s){o:Int}{N:Nat}{p r:Int}(hm:Q.may P.e P.a s.L o=0)(hc:aK s.X s.l (cap o N)=false) :
  gF P.mo s.X s.l p (cap o N) r=⟨(low s.l:Int),0,s.X.set (low s.l) (cap o N,r),s.l++[((low s.l:Int),p)]⟩:=by
 have:=h.room hm
 unfold gF
 rw [if_neg (by rw [hc];decide),if_neg (by omega)]
theorem yO {P:Par}{s:aI}(h:Fit P s){o:Int}{N:Nat}(hm:Q.may P.e P.a s.L o=0)(ho:¬0<jE s.X s.l o) :
  kj P.mo s.X s.l (cap o N) 31=⟨(low s.l:Int),0,s.X.set (low s.l) (cap o N,31),s.l++[((low s.l:Int),-1)]⟩:=by
 have hO:¬dB s.X s.l o=true:=λe=>ho (dx.1 e)
 have hC:aK s.X s.l (cap o N)=false:=by
  cases hc:aK s.X s.l (cap o N) with
  | false=>rfl
  | true=>exact absurd (cM hc) hO
 unfold kj
 rw [if_neg (by decide),if_neg (show ¬dB s.X s.l (cap o N).1=true from hO)]
 exact pQ h hm hC
theorem wE {P:Par}{s:aI}(h:Fit P s){o:Int}{N:Nat}{p r:Int}(hm:Q.may P.e P.a s.L o=0)(hc:aK s.X s.l (cap o N)=false)(hp:p∈ah s.l)(ho:ob s.X p=o)(hr:aA r (rg s.X p)=true) :
  gD P.mo s.X s.l p (cap o N) r=⟨(low s.l:Int),0,s.X.set (low s.l) (cap o N,r),s.l++[((low s.l:Int),p)]⟩:=by
 unfold gD
 rw [if_neg (by simp [hp]),if_neg (by simp [ho,cap]),if_neg (by rw [hr];decide)]
 exact pQ h hm hc
theorem Fit.add {P:Par}{s:aI}(h:Fit P s){o:Int}{N:Nat}{p r:Int}{t:Nat}(hm:Q.may P.e P.a s.L o=0)(hy:EY P s (cap o N) p r)(ht:t<=P.n):Fit P (qF s o N p r t):=by
 have hr:=h.room hm
 have hlo:=te h.inv.ok hr
 refine⟨h.inv.add hlo (fz s.l) hy.new hy.wide hy.val hy.at_,λx=>?_,by simp [qF,h.len],h.top,ht,h.cs⟩
 show (s.L++[o]).count x=jE (s.X.set (low s.l) (cap o N,r)) (s.l++[((low s.l:Int),p)]) x
 rw [vA h.inv p (cap o N) r hlo (fz s.l) x,List.count_append,h.mW x]
 congr 1
 rw [List.count_singleton]
 by_cases e:o=x
 ·simp [cap,e]
 ·simp [cap,e]
theorem Fit.JY {P:Par}{s:aI}(h:Fit P s){t:Nat}(ht:t<=P.n):Fit P { s with t:=t }:=⟨h.inv,h.mW,h.len,h.top,ht,h.cs⟩
theorem Fit.tok {P:Par}{s:aI}(h:Fit P s){o:Int}{D:Nat×Int×Nat}{p r:Int}(ht:D.2.2<=P.n)(hy:Q.may P.e P.a s.L o=0->D.2.1=0->EY P s (cap o D.1) p r):Fit P (fR P s o D p r).s:=by
 unfold fR
 by_cases hm:Q.may P.e P.a s.L o=0
 ·rw [if_neg (by simp [hm])]
  by_cases hd:D.2.1=0
  ·rw [if_neg (by simp [hd])]
   exact h.add hm (hy hm hd) ht
  ·rw [if_pos hd]
   exact h.JY ht
 ·rw [if_pos hm]
  exact h
theorem Ai {P:Par}{t:Nat}(h:t<=P.n):(cL P t).2.2<=P.n:=by unfold cL;split<;>simp<;>omega
theorem gI {P:Par}{s:aI}(h:Fit P s)(t:Nat):(cL P t).1<ak*ak:=by
 unfold cL
 split
 ·next ht=>exact h.cs t ht
 ·show (0:Nat)<ak*ak;decide
theorem vC {P:Par}{s:aI}(h:Fit P s){o:Int}(ho:¬0<jE s.X s.l o){N:Nat}(hN:N<ak*ak):EY P s (cap o N) (-1) 31:=by
 have hO:dB s.X s.l o=false:=by
  cases hc:dB s.X s.l o with
  | false=>rfl
  | true=>exact absurd (dx.1 hc) ho
 refine⟨?_,ja hN,by decide,.inl ⟨rfl,hO⟩⟩
 cases hc:aK s.X s.l (cap o N) with
 | false=>rfl
 | true=>exact absurd (cM hc) (by show ¬dB s.X s.l o=true;rw [hO];decide)
theorem Fit.root {P:Par}{s:aI}(h:Fit P s)(o:Int):Fit P (bg P s o).s:=by
 unfold bg
 by_cases ho:0<jE s.X s.l o
 ·rw [if_pos ho];exact h
 ·rw [if_neg ho]
  exact h.tok (Ai h.le) (λ_ _=>vC h ho (gI h s.t))
theorem qY {P:Par}{s:aI}(h:Fit P s)(o:Int):Spec (C5 s.X s.l o) P.c P.n 9 s.t (cB P s o):=mz h.le
theorem lD {P:Par}{s:aI}(h:Fit P s){o:Int}(hd:(cB P s o).2.1=0):aK s.X s.l (cap o (cB P s o).1)=false:=by
 obtain⟨q,h1,h2,h3,hc⟩:=qY h o
 rcases hc with ⟨e1,e2,e3,e4,e5⟩|⟨e1,_⟩|⟨e1,_⟩
 ·exact e4
 ·rw [hd] at e1;cases e1
 ·rw [hd] at e1;cases e1
theorem found {X:List Tk}{l:Fo}(h:Inv m X l){c:Cp}(hc:aK X l c=true):aB X l c∈ah l/\(tk X (aB X l c)).1=c:=by
 obtain⟨n,hn,rfl⟩:=bB.1 hc
 rw [dC h hn]
 exact⟨hn,rfl⟩
theorem rX {P:Par}{s:aI}(h:Fit P s){c:Cp}{r:Int}(hc:aK s.X s.l c=true)(hp:aA r (eV s c)=true)(hd:(cB P s c.1).2.1=0):EY P s (cap c.1 (cB P s c.1).1) (aB s.X s.l c) r:=by
 obtain⟨h1,h2⟩:=found h.inv hc
 exact⟨lD h hd,ja (gJ h.cs),j9 hp,.inr ⟨h1,by unfold ob;rw [h2];rfl,hp⟩⟩
theorem Fit.child {P:Par}{s:aI}(h:Fit P s)(c:Cp)(r:Int):Fit P (bF P s c r).s:=by
 unfold bF
 by_cases hc:aK s.X s.l c=true
 ·rw [if_neg (by rw [hc];decide)]
  by_cases hp:aA 4 (eV s c)=false\/aA r (eV s c)=false
  ·rw [if_pos hp];exact h
  ·rw [if_neg hp]
   have hp2:aA r (eV s c)=true:=by
    cases hq:aA r (eV s c) with
    | true=>rfl
    | false=>exact absurd (.inr hq) hp
   exact h.tok (qD h.le) (λ_ hd=>rX h hc hp2 hd)
 ·rw [if_pos (by simpa using hc)];exact h
end Go.Proofs.YtfmhdimaijimlaaGreatDoor.D
namespace Go.Proofs.YtfmhdimaijimlaaGreatDoor.V
open Go.RowKit
open Go.Proofs.YtfmhdimaijimlaaGreatDoor.H (ak Cp)
structure aI where
 X:List Tk
 l:Fo
 L:List Int
 nx:Int
 V:List (Int×List Nat)
 t:Nat
 px:Int
 P:List Int
 ks:List Int
 D:Int->List Cp
structure Fit (mo:Nat)(s:aI):Prop where
 inv:Inv mo s.X s.l
 mW:∀o,s.L.count o=jE s.X s.l o
 len:s.L.length=s.l.length
 obj:∀o,(∃p∈s.V,p.1=o)↔dB s.X s.l o=true
 ids:∀p∈s.V,1<=p.1/\p.1<s.nx
open Go.Proofs.YtfmhdimaijimlaaGreatDoor.D (dx)
theorem Bs {A B:List Int}(hA:A.Nodup)(hB:B.Nodup)(h:∀x∈A,x∉B):(A++B).Nodup:=List.nodup_append.2 ⟨hA,hB,λa ha b hb e=>h a ha (e ▸ hb)⟩
theorem jm {l:Fo}(h:Ok m l)(A:List Int):(ah (aT l A)).Nodup:=by
 have h1:(ah (aT l A)).Sublist (ah l):=by
  unfold ah aT
  exact List.Sublist.map _ List.filter_sublist
 exact h1.nodup h.nodup
theorem E4 {X:List Tk}{l:Fo}(h:Inv m X l){n k:Int}(hk:k∈G true l n):ob X k=ob X n:=by
 have h1:=(bW h.ok).1 hk
 exact (h.same k (fM h1) n h1).symm
theorem Br {X:List Tk}{l:Fo}(h:Inv m X l)(n o:Int):jE (fJ X (G true l n)) (aT l (G true l n)) o+(if ob X n=o then (G true l n).length else 0)=jE X l o:=by
 have hob:∀k∈ah (aT l (G true l n)),ob (fJ X (G true l n)) k=ob X k:=λk hk=>by
  unfold ob
  rw [jI _ _ _ (bj h.ok (bn.1 hk).1) (λa ha=>bj h.ok (dK h.ok ha)) (bn.1 hk).2]
 have hmem:∀k,k∈(ah (aT l (G true l n))).filter (λk=>decide (ob (fJ X (G true l n)) k=o))↔k∈ah l/\k∉G true l n/\ob X k=o:=λk=>by
  rw [List.mem_filter,decide_eq_true_eq]
  constructor
  ·rintro ⟨h1,h2⟩
   rw [hob k h1] at h2
   exact⟨(bn.1 h1).1,(bn.1 h1).2,h2⟩
  ·rintro ⟨h1,h2,h3⟩
   have h4:=bn.2 ⟨h1,h2⟩
   exact⟨h4,by rw [hob k h4];exact h3⟩
 have hnd:((ah (aT l (G true l n))).filter (λk=>decide (ob (fJ X (G true l n)) k=o))).Nodup:=List.Nodup.sublist List.filter_sublist (jm h.ok _)
 have hnd2:((ah l).filter (λk=>decide (ob X k=o))).Nodup:=List.Nodup.sublist List.filter_sublist h.ok.nodup
 unfold jE
 by_cases e:ob X n=o
 ·rw [if_pos e,<-List.length_append]
  refine gh (Bs hnd (fG h.ok true n) (λx hx=>((hmem x).1 hx).2.1)) hnd2 (λx=>?_)
  rw [List.mem_append,hmem,List.mem_filter,decide_eq_true_eq]
  constructor
  ·rintro (⟨h1,_,h3⟩|h1)
   ·exact⟨h1,h3⟩
   ·exact⟨dK h.ok h1,by rw [E4 h h1];exact e⟩
  ·rintro ⟨h1,h2⟩
   by_cases hg:x∈G true l n
   ·exact .inr hg
   ·exact .inl ⟨h1,hg,h2⟩
 ·rw [if_neg e,Nat.add_zero]
  refine gh hnd hnd2 (λx=>?_)
  rw [hmem,List.mem_filter,decide_eq_true_eq]
  constructor
  ·rintro ⟨h1,_,h3⟩
   exact⟨h1,h3⟩
  ·rintro ⟨h1,h2⟩
   exact⟨h1,λhg=>e (by rw [<-E4 h hg];exact h2),h2⟩
theorem Aa {X:List Tk}{l:Fo}(h:Inv m X l)(n:Int):(aT l (G true l n)).length+(G true l n).length=l.length:=by
 rw [<-ma,<-ma l,<-List.length_append]
 refine gh (Bs (jm h.ok _) (fG h.ok true n) (λx hx=>(bn.1 hx).2)) h.ok.nodup (λx=>?_)
 rw [List.mem_append,bn]
 constructor
 ·rintro (⟨h1,_⟩|h1)
  ·exact h1
  ·exact dK h.ok h1
 ·intro h1
  by_cases hg:x∈G true l n
  ·exact .inr hg
  ·exact .inl ⟨h1,hg⟩
def tC (V:List (Int×List Nat))(o:Int):List (Int×List Nat):=V.filter (λp=>decide (p.1≠o))
theorem k5 {V:List (Int×List Nat)}{o:Int}{p:Int×List Nat}:p∈tC V o↔p∈V/\p.1≠o:=by unfold tC;simp
def gK (s:aI)(m o:Int):aI:={ s with X:=fJ s.X (G true s.l m),l:=aT s.l (G true s.l m),L:=Q.i_ s.L o ((G true s.l m).length:Int),V:=if par s.l m=-1 then tC s.V o else s.V }
def fN (X:List Tk)(l:Fo)(o:Int):Int:=(rootOf X l o).getD 0
structure su where
 K:List Cp
 code:Int
 s:aI
def pH (all:Bool)(s:aI)(c:Cp):Int:=if all then fN s.X s.l c.1 else aB s.X s.l c
def uU (all:Bool):Int:=if all then 16 else 8
def fa (all:Bool)(s:aI)(c:Cp):su :=
 if aK s.X s.l c=false then ⟨[],3,s⟩ else if aA (uU all) (rg s.X (aB s.X s.l c))=false then ⟨[],4,s⟩ else
  ⟨(G true s.l (pH all s c)).map (λk=>(tk s.X k).1),0,gK s (pH all s c) c.1⟩
theorem jw {X:List Tk}{l:Fo}(h:Inv m X l){c:Cp}(hc:aK X l c=true):aB X l c∈ah l/\(tk X (aB X l c)).1=c:=by
 obtain⟨n,hn,e⟩:=bB.1 hc
 have:=dC h hn
 rw [e] at this
 rw [this]
 exact⟨hn,e⟩
theorem q_ {X:List Tk}{l:Fo}(h:Inv m X l){r:Int}(hr:(r,-1)∈l):fN X l (ob X r)=r:=by unfold fN;rw [gu h hr];rfl
theorem uD {s:aI}(h:Inv m s.X s.l){c:Cp}(hc:aK s.X s.l c=true)(all:Bool):pH all s c∈ah s.l/\ob s.X (pH all s c)=c.1/\(all=true->(pH all s c,-1)∈s.l):=by
 obtain⟨h1,h2⟩:=jw h hc
 have h3:ob s.X (aB s.X s.l c)=c.1:=by unfold ob;rw [h2]
 cases all with
 | false=>exact⟨h1,h3,λe=>by cases e⟩
 | true =>
  obtain⟨r,hr,ho,_⟩:=h.mH _ h1
  have e:pH true s c=r:=by
   show fN s.X s.l c.1=r
   rw [<-h3,<-ho,q_ h hr]
  rw [e]
  exact⟨cE.2 ⟨_,hr⟩,by rw [ho,h3],λ_=>hr⟩
theorem sX {X:List Tk}{l:Fo}(h:Inv m X l){r:Int}(hr:(r,-1)∈l):(G true l r).length=jE X l (ob X r):=by
 unfold jE
 refine gh (fG h.ok true r) (List.Nodup.sublist List.filter_sublist h.ok.nodup) (λx=>?_)
 rw [h.qd hr,List.mem_filter,decide_eq_true_eq]
theorem BN {X:List Tk}{l:Fo}(h:Inv m X l){n r:Int}(hr:(r,-1)∈l)(hne:n≠r):r∉G true l n:=λe=>by
 have h1:=(bW h.ok).1 e
 rw [qO h.ok hr] at h1
 rcases List.mem_cons.1 h1 with h2|h2
 ·exact hne h2
 ·rw [E6 (λh3=>by have:=bj h.ok h3;omega)] at h2
  cases h2
theorem ug {mo:Nat}{s:aI}(h:Fit mo s){n x:Int}(hn:n∈ah s.l)(hx:ob s.X n=x)(hi:Inv mo (fJ s.X (G true s.l n)) (aT s.l (G true s.l n))):Fit mo (gK s n x)/\Q.qi s.L x ((G true s.l n).length:Int)=0:=by
 have hin:=Br h.inv n
 have hxx:=hin x
 rw [if_pos hx,<-h.mW x] at hxx
 have hno:¬(((G true s.l n).length:Int)<0\/(s.L.count x:Int)<((G true s.l n).length:Int)):=by omega
 have hL:Q.i_ s.L x ((G true s.l n).length:Int)=Q.fQ x (G true s.l n).length s.L:=by
  unfold Q.i_
  rw [if_neg hno];simp
 refine⟨⟨hi,λo=>?_,?_,λo=>?_,λp hp=>?_⟩,by unfold Q.qi;rw [if_neg hno]⟩
 ·show (Q.i_ s.L x _).count o=jE (fJ s.X _) (aT s.l _) o
  have:=hin o
  rw [<-h.mW o] at this
  rw [hL]
  by_cases e:o=x
  ·subst e
   rw [Q.eu]
   rw [if_pos hx] at this
   omega
  ·rw [Q.ey _ _ _ _ e]
   rw [if_neg (λh=>e (by rw [<-h];exact hx))] at this
   omega
 ·show (Q.i_ s.L x _).length=(aT s.l _).length
  rw [hL]
  have h1:=Q.jl x (G true s.l n).length s.L (by omega)
  have h2:=Aa h.inv n
  have h3:=h.len
  omega
 ·show (∃p∈(if par s.l n=-1 then tC s.V x else s.V),p.1=o)↔dB (fJ s.X _) (aT s.l _) o=true
  have h0:=h.obj o
  rw [dx] at h0 ⊢
  have:=hin o
  obtain⟨p,hp⟩:=cE.1 hn
  have hpar:=fu h.inv.ok hp
  by_cases e:o=x
  ·subst e
   rw [if_pos hx] at this
   by_cases hroot:par s.l n=-1
   ·rw [if_pos hroot]
    rw [hpar] at hroot
    subst hroot
    have h1:=sX h.inv hp
    rw [hx] at h1
    constructor
    ·rintro ⟨q,hq,e⟩;exact absurd e (k5.1 hq).2
    ·intro h2;omega
   ·rw [if_neg hroot,h0]
    obtain⟨r,hr,ho,_⟩:=h.inv.mH n hn
    have hne:n≠r:=λe=>hroot (by rw [e];exact fu h.inv.ok hr)
    have h1:=BN h.inv hr hne
    have h2:(r:Int)∈ah (aT s.l (G true s.l n)):=bn.2 ⟨cE.2 ⟨_,hr⟩,h1⟩
    have h3:dB (fJ s.X (G true s.l n)) (aT s.l (G true s.l n)) o=true:=eh.2 ⟨r,h2,by
     unfold ob
     rw [jI _ _ _ (bj h.inv.ok (cE.2 ⟨_,hr⟩)) (λa ha=>bj h.inv.ok (dK h.inv.ok ha)) h1]
     exact ho.trans hx⟩
    have h4:=dx.1 h3
    omega
  ·rw [if_neg (λh=>e (by rw [<-h];exact hx))] at this
   rw [Nat.add_zero] at this
   rw [this,<-h0]
   split
   ·constructor
    ·rintro ⟨q,hq,e⟩;exact⟨q,(k5.1 hq).1,e⟩
    ·rintro ⟨q,hq,e2⟩;exact⟨q,k5.2 ⟨hq,by rw [e2];exact e⟩,e2⟩
   ·exact Iff.rfl
 ·have hp':p∈(if par s.l n=-1 then tC s.V x else s.V):=hp
  split at hp'
  ·exact h.ids p (k5.1 hp').1
  ·exact h.ids p hp'
structure Tp (w:World)(b:Nat)(x y z:Nat):Prop where
 c0:w.cell? ⟨b,0,none⟩=some (.pointer (some ⟨x,0,none⟩))
 c1:w.cell? ⟨b,1,none⟩=some (.pointer (some ⟨y,0,none⟩))
 c2:w.cell? ⟨b,2,none⟩=some (.pointer (some ⟨z,0,none⟩))
theorem Tp.but {S:Nat->Prop}{x y z:Nat}(h:Tp w b x y z)(hb:ae S w w')(hn:¬S b):Tp w' b x y z:=⟨aC hb h.c0 hn,aC hb h.c1 hn,aC hb h.c2 hn⟩
theorem Tp.later {x y z:Nat}(h:Tp w b x y z)(hb:Below w.heap.size w w'):Tp w' b x y z:=h.but (S:=λ_=>False) (ae.of hb) (λh=>h)
end Go.Proofs.YtfmhdimaijimlaaGreatDoor.V
namespace Go.Proofs.YtfmhdimaijimlaaGreatDoor.D
open Go.RowKit Go.Extern.Stop Go.Stop Go.Extern
theorem FD (t:Value)(w:World) :
  Calls prog 194 #[.nilIface,t] w λe w'=>e=.returned (.bool false)/\w'=w:=by
 go_enter func194,ntmps194
 go_wp2
 go_ret
 exact⟨rfl,rfl⟩
theorem uy (t:Addr)(w:World):(ReflectliteValue.unpack (.iface 287 (.pointer (some t)))).run prog w
  = .ok (.agg #[.pointer (some ⟨1,287,none⟩),.pointer (some ⟨w.heap.size,0,none⟩),.int .u64 150]) (w.alloc (.cells #[.pointer (some t)] 287)):=by kernel_rfl
theorem type141 (a:Addr)(w:World):(ReflectliteValue.methodAny (ReflectliteValue.valueError "reflectlite.Value.Type" 0) (λt _ _ _=>ReflectliteType.toType t) #[.agg #[.pointer (some ⟨1,287,none⟩),.pointer (some a),.int .u64 150]]).run prog w
  = .ok (.iface 340 (.agg #[.pointer (some ⟨1,287,none⟩)])) w:=by kernel_rfl
theorem tB (h:Value)(w:World):(Go.method 505 340 (.agg #[h]) "Kind").run prog w=.ok (300,h) w:=by kernel_rfl
theorem uw (h:Value)(w:World):(Go.method 505 340 (.agg #[h]) "Elem").run prog w=.ok (320,.agg #[h]) w:=by kernel_rfl
theorem j0 (h:Value)(w:World):(Go.method 505 340 (.agg #[h]) "Implements").run prog w=.ok (321,.agg #[h]) w:=by kernel_rfl
theorem iy (h:Value)(w:World):(Go.method 505 340 (.agg #[h]) "AssignableTo").run prog w=.ok (318,.agg #[h]) w:=by kernel_rfl
theorem oX (v:Value)(w:World):(Go.method 505 307 v "Unwrap").run prog w=.ok (312,v) w:=by kernel_rfl
theorem D7 (w:World):((ReflectliteType.abiMethod λt=>(λa:Nat=>Value.int IntKind.u8 (a:Int)) <$> Rtype.kind t) #[.pointer (some ⟨1,287,none⟩)]).run prog w=.ok (.int .u8 22) w:=by kernel_rfl
theorem EK (w:World):((ReflectliteType.abiMethod λt=>(λa:Nat=>Value.int IntKind.u8 (a:Int)) <$> Rtype.kind t) #[.pointer (some ⟨1,285,none⟩)]).run prog w=.ok (.int .u8 25) w:=by kernel_rfl
theorem J4 (z:Sem Value)(f:TypeId->Addr->Nat->Nat->Sem Value)(v:Value) :
  ReflectliteValue.method z f #[v]=(do match <-ReflectliteValue.parts v with|none=>z|some (t,a,fl)=>f t a fl (fl%32)):=rfl
theorem rh (a:Addr)(w:World):(ReflectliteValue.parts (.agg #[.pointer (some ⟨1,287,none⟩),.pointer (some a),.int .u64 150])).run prog w=.ok (some (287,a,150)) w:=by kernel_rfl
theorem AE (a p:Addr)(W:World)(ha:W.cell? a=some (.pointer (some p))) :
  (ReflectliteValue.method (ReflectliteValue.valueError "reflectlite.Value.IsNil" 0) ReflectliteValue.isNil #[.agg #[.pointer (some ⟨1,287,none⟩),.pointer (some a),.int .u64 150]]).run prog W=.ok (.bool false) W:=by
 rw [J4]
 simp only [Sem.run_bind,rh,Result.andThen]
 simp [ReflectliteValue.isNil,loadVar,isAgg,underlying,underlying287,ha,Result.andThen]
theorem C6 (w:World):(ReflectliteType.method ReflectliteType.elem #[.agg #[.pointer (some ⟨1,287,none⟩)]]).run prog w=.ok (.iface 340 (.agg #[.pointer (some ⟨1,285,none⟩)])) w:=by kernel_rfl
theorem mY (w:World):(ReflectliteType.relation "Implements" ReflectliteType.implements_ #[.agg #[.pointer (some ⟨1,285,none⟩)],.iface 340 (.agg #[.pointer (some ⟨1,247,none⟩)])]).run prog w=.ok (.bool true) w:=by kernel_rfl
theorem xY (v:Value)(w:World):(ReflectliteType.typeOf #[.iface 307 v]).run prog w=.ok (.iface 340 (.agg #[.pointer (some ⟨1,307,none⟩)])) w:=by kernel_rfl
theorem xp (v:Value)(w:World):(ReflectliteType.typeOf #[.iface 285 v]).run prog w=.ok (.iface 340 (.agg #[.pointer (some ⟨1,285,none⟩)])) w:=by kernel_rfl
theorem m_ (w:World):(ReflectliteType.relation "AssignableTo" ReflectliteType.assignableTo #[.agg #[.pointer (some ⟨1,307,none⟩)],.iface 340 (.agg #[.pointer (some ⟨1,285,none⟩)])]).run prog w=.ok (.bool false) w:=by kernel_rfl
theorem m7 (w:World):(ReflectliteType.relation "AssignableTo" ReflectliteType.assignableTo #[.agg #[.pointer (some ⟨1,285,none⟩)],.iface 340 (.agg #[.pointer (some ⟨1,285,none⟩)])]).run prog w=.ok (.bool true) w:=by kernel_rfl
theorem Dk (v:Value)(xT:TypeId)(w:World):(Instr.typeAssert (.iface 307 v) xT 345 true).run prog w=.ok (.tuple #[.nilIface,.bool false]) w:=run_typeAssert_lacksB underlying345 (by kernel_rfl) (by kernel_rfl) v xT w
theorem oH (v:Value)(xT:TypeId)(w:World):(Instr.typeAssert (.iface 307 v) xT 348 true).run prog w=.ok (.tuple #[.iface 307 v,.bool true]) w:=run_typeAssert_hasB underlying348 (by kernel_rfl) v xT w
theorem s_ (c:Int)(w:World):(ReflectliteValue.unpack (.iface 285 (.agg #[.int .i64 c]))).run prog w
  = .ok (.agg #[.pointer (some ⟨1,285,none⟩),.pointer (some ⟨w.heap.size,0,none⟩),.int .u64 153]) (w.alloc (.cells #[.int .i64 c] 285)):=by kernel_rfl
theorem wy (w:World):(Rtype.elem? 287).run prog w=.ok (some 285) w:=by kernel_rfl
theorem Hp (p:Addr)(w:World):(ReflectliteValue.mk 285 p ReflectliteValue.flagAddr).run prog w=.ok (.agg #[.pointer (some ⟨1,285,none⟩),.pointer (some p),.int .u64 409]) w:=by kernel_rfl
theorem zg (a p:Addr)(W:World)(ha:W.cell? a=some (.pointer (some p))) :
  (ReflectliteValue.method (ReflectliteValue.valueError "reflectlite.Value.Elem" 0) ReflectliteValue.elem #[.agg #[.pointer (some ⟨1,287,none⟩),.pointer (some a),.int .u64 150]]).run prog W
   = .ok (.agg #[.pointer (some ⟨1,285,none⟩),.pointer (some p),.int .u64 409]) W:=by
 rw [J4]
 simp only [Sem.run_bind,rh,Result.andThen]
 simp [ReflectliteValue.elem,loadVar,isAgg,underlying,underlying287,ha,Result.andThen,wy,Hp]
theorem Ky (v x:Value):ReflectliteValue.set #[v,x]=(do
  let (some (dst,a,fl),some (src,b,_)):=(<-ReflectliteValue.parts v,<-ReflectliteValue.parts x)
   | unsupported (.noEntry "extern/(internal/reflectlite.Value).Set.zeroValue")
  if fl / ReflectliteValue.flagAddr%2==0 then unsupported (.noEntry "extern/(internal/reflectlite.Value).Set.unaddressable")
  let val <-loadVar src b
  if <-Rtype.directlyAssignable dst src then storeVar dst a val
  else if <-Rtype.implements dst src then
   if (<-Rtype.kind src)==20 then
    match val with
    | .nilIface=>unsupported (.noEntry "extern/reflectlite: a nil value of one interface type handed on as a value of another")
    | _=>storeVar dst a val
   else storeVar dst a (.iface src val)
  else panicString ("reflectlite.Set: value of type "++(<-Rtype.spelt src)++ " is not assignable to type "++(<-Rtype.spelt dst))
  pure (.tuple #[])):=rfl
theorem xx (a:Addr)(w:World):(ReflectliteValue.parts (.agg #[.pointer (some ⟨1,285,none⟩),.pointer (some a),.int .u64 409])).run prog w=.ok (some (285,a,409)) w:=by kernel_rfl
theorem Bk (a:Addr)(w:World):(ReflectliteValue.parts (.agg #[.pointer (some ⟨1,285,none⟩),.pointer (some a),.int .u64 153])).run prog w=.ok (some (285,a,153)) w:=by kernel_rfl
theorem xu (w:World):(Rtype.directlyAssignable 285 285).run prog w=.ok true w:=by kernel_rfl
theorem Gv (tb bb:Nat)(c:Int)(uh:Value)(W:World)(hb:W.cell? ⟨bb,0,none⟩=some (.int .i64 c))(ht:W.cell? ⟨tb,0,none⟩=some uh)(hf:W.frozen? ⟨tb,0,none⟩=false) :
  (ReflectliteValue.set #[.agg #[.pointer (some ⟨1,285,none⟩),.pointer (some ⟨tb,0,none⟩),.int .u64 409],.agg #[.pointer (some ⟨1,285,none⟩),.pointer (some ⟨bb,0,none⟩),.int .u64 153]]).run prog W
   = .ok (.tuple #[]) (W.setCell ⟨tb,0,none⟩ (.int .i64 c)):=by
 rw [Ky]
 simp only [Sem.run_bind,xx,Bk,Result.andThen]
 have hl:(loadVar 285 ⟨bb,0,none⟩).run prog W=.ok (.agg #[.int .i64 c]) W:=by
  simp [loadVar,isAgg,underlying,underlying285,hb,Result.andThen,go_sem]
 simp [ReflectliteValue.flagAddr,hl,Result.andThen,xu,storeVar,Value.cells,storeCells,Addr.add]
 rw [run_store prog W ⟨tb,0,none⟩ _ _ (by rfl)]
 simp [ht,hf]
def Laid (w:World):Prop:=w.cell? ⟨0,0,none⟩=some (.iface 340 (.agg #[.pointer (some ⟨1,247,none⟩)]))
def dN (s:ByteArray)(c:Int):Value:=.iface 307 (.agg #[.string s,.iface 285 (.agg #[.int .i64 c])])
theorem GO (s:ByteArray)(c:Int)(tb:Nat)(uh:Value)(w:World)(hg:Laid w)(ht0:w.cell? ⟨tb,0,none⟩=some uh)(hf0:w.frozen? ⟨tb,0,none⟩=false) :
  Calls prog 194 #[dN s c,.iface 287 (.pointer (some ⟨tb,0,none⟩))] w λev w'=>ev=.returned (.bool true)/\w'=(((((w.alloc (.cells #[.pointer (some ⟨tb,0,none⟩)] 287)).alloc (.cells #[.pointer (some ⟨1,287,none⟩),.pointer (some ⟨w.heap.size,0,none⟩),.int .u64 150] 311)).alloc (.cells #[.pointer (some ⟨1,287,none⟩),.pointer (some ⟨w.heap.size,0,none⟩),.int .u64 150] 311)).alloc (.cells #[.string s,.iface 285 (.agg #[.int .i64 c])] 307)).alloc (.cells #[.int .i64 c] 285)).setCell ⟨tb,0,none⟩ (.int .i64 c):=by
 have h6:=@run_callFunc_extern prog 226 _ (λargs=>ReflectliteValue.unpack (args.getD 0 (.tuple #[]))) func226 (by kernel_rfl) (by kernel_rfl) (by kernel_rfl) (by kernel_rfl)
 have h7:=@run_callFunc_extern prog 227 _ (ReflectliteValue.methodAny (ReflectliteValue.valueError "reflectlite.Value.Type" 0) (λt _ _ _=>ReflectliteType.toType t)) func227 (by kernel_rfl) (by kernel_rfl) (by kernel_rfl) (by kernel_rfl)
 have h8:=@run_callFunc_extern prog 228 _ (ReflectliteValue.method (ReflectliteValue.valueError "reflectlite.Value.IsNil" 0) ReflectliteValue.isNil) func228 (by kernel_rfl) (by kernel_rfl) (by kernel_rfl) (by kernel_rfl)
 have h27:=@run_callFunc_extern prog 300 _ (ReflectliteType.abiMethod λt=>do pure (.int .u8 (<-Rtype.kind t))) func300 (by kernel_rfl) (by kernel_rfl) (by kernel_rfl) (by kernel_rfl)
 have h37:=@run_callFunc_extern prog 320 _ (ReflectliteType.method ReflectliteType.elem) func320 (by kernel_rfl) (by kernel_rfl) (by kernel_rfl) (by kernel_rfl)
 have h38:=@run_callFunc_extern prog 321 _ (ReflectliteType.relation "Implements" ReflectliteType.implements_) func321 (by kernel_rfl) (by kernel_rfl) (by kernel_rfl) (by kernel_rfl)
 have h10:=@run_callFunc_extern prog 255 _ ReflectliteType.typeOf func255 (by kernel_rfl) (by kernel_rfl) (by kernel_rfl) (by kernel_rfl)
 have h35:=@run_callFunc_extern prog 318 _ (ReflectliteType.relation "AssignableTo" ReflectliteType.assignableTo) func318 (by kernel_rfl) (by kernel_rfl) (by kernel_rfl) (by kernel_rfl)
 have h11:=@run_callFunc_extern prog 256 _ (ReflectliteValue.method (ReflectliteValue.valueError "reflectlite.Value.Elem" 0) ReflectliteValue.elem) func256 (by kernel_rfl) (by kernel_rfl) (by kernel_rfl) (by kernel_rfl)
 have h12:=@run_callFunc_extern prog 257 _ ReflectliteValue.set func257 (by kernel_rfl) (by kernel_rfl) (by kernel_rfl) (by kernel_rfl)
 have tO:=xY
 have tP:=xp
 have mA:=iy
 have a1:=m_
 have a2:=m7
 have v25:=s_
 have f6:=uy
 have f7:=type141
 have mK:=tB
 have mE:=uw
 have mI:=j0
 have mU:=oX
 have k27:=D7
 have k25:=EK
 have e27:=C6
 have i25:=mY
 have nA:=Dk
 have hU:=oH
 have n8:=AE ⟨w.heap.size,0,none⟩ ⟨tb,0,none⟩ ((w.alloc (.cells #[.pointer (some ⟨tb,0,none⟩)] 287)).alloc (.cells #[.pointer (some ⟨1,287,none⟩),.pointer (some ⟨w.heap.size,0,none⟩),.int .u64 150] 311)) (by simp)
 have hlt:0<w.heap.size:=by
  rcases Nat.eq_zero_or_pos w.heap.size with h0|h
  ·unfold Laid at hg;simp [World.cell?,h0] at hg
  ·exact h
 have hg2:((w.alloc (.cells #[.pointer (some ⟨tb,0,none⟩)] 287)).alloc (.cells #[.pointer (some ⟨1,287,none⟩),.pointer (some ⟨w.heap.size,0,none⟩),.int .u64 150] 311)).cell? ⟨0,0,none⟩=some (.iface 340 (.agg #[.pointer (some ⟨1,247,none⟩)])):=by
  rw [World.cell?_alloc_lt _ _ ⟨0,0,none⟩ (by simp),World.cell?_alloc_lt _ _ ⟨0,0,none⟩ hlt];exact hg
 have htl:tb<w.heap.size:=World.block_lt_of_cell? _ _ ht0
 have el:=zg ⟨w.heap.size,0,none⟩ ⟨tb,0,none⟩ ((((w.alloc (.cells #[.pointer (some ⟨tb,0,none⟩)] 287)).alloc (.cells #[.pointer (some ⟨1,287,none⟩),.pointer (some ⟨w.heap.size,0,none⟩),.int .u64 150] 311)).alloc (.cells #[.pointer (some ⟨1,287,none⟩),.pointer (some ⟨w.heap.size,0,none⟩),.int .u64 150] 311)).alloc (.cells #[.string s,.iface 285 (.agg #[.int .i64 c])] 307)) (by rw [World.cell?_alloc_lt _ _ ⟨w.heap.size,0,none⟩ (by simp;omega),World.cell?_alloc_lt _ _ ⟨w.heap.size,0,none⟩ (by simp;omega)];simp)
 have st:=Gv tb (w.heap.size+1+1+1+1) c uh (((((w.alloc (.cells #[.pointer (some ⟨tb,0,none⟩)] 287)).alloc (.cells #[.pointer (some ⟨1,287,none⟩),.pointer (some ⟨w.heap.size,0,none⟩),.int .u64 150] 311)).alloc (.cells #[.pointer (some ⟨1,287,none⟩),.pointer (some ⟨w.heap.size,0,none⟩),.int .u64 150] 311)).alloc (.cells #[.string s,.iface 285 (.agg #[.int .i64 c])] 307)).alloc (.cells #[.int .i64 c] 285))
  (by rw [World.cell?_alloc_at _ _ _ _ (by simp)];rfl)
  (by rw [World.cell?_alloc_lt _ _ ⟨tb,0,none⟩ (by simp;omega),World.cell?_alloc_lt _ _ ⟨tb,0,none⟩ (by simp;omega),World.cell?_alloc_lt _ _ ⟨tb,0,none⟩ (by simp;omega),World.cell?_alloc_lt _ _ ⟨tb,0,none⟩ (by simp;omega),World.cell?_alloc_lt _ _ ⟨tb,0,none⟩ htl];exact ht0)
  (by rw [World.frozen?_alloc_old _ _ ⟨tb,0,none⟩ (by simp;omega),World.frozen?_alloc_old _ _ ⟨tb,0,none⟩ (by simp;omega),World.frozen?_alloc_old _ _ ⟨tb,0,none⟩ (by simp;omega),World.frozen?_alloc_old _ _ ⟨tb,0,none⟩ (by simp;omega),World.frozen?_alloc_old _ _ ⟨tb,0,none⟩ (Nat.ne_of_lt htl)];exact hf0)
 unfold dN
 go_enter func194,ntmps194
 go_wp2
 refine wp_loop_rounds 2 ?_
 rw [rounds_succ]
 go_wp2
 rw [rounds_succ]
 go_wp2
 go_ret
 exact⟨rfl,rfl⟩
open Go.RowKit
def nk (s:ByteArray)(c:Int):Value:=if c=0 then .nilIface else dN s c
theorem ka (s:ByteArray)(c:Int)(w:World):Calls prog 190 #[.string s,.int .i64 c] w λe w'=>e=.returned (nk s c)/\w'=w:=by
 unfold nk
 by_cases hc:c=0
 ·subst hc
  rw [if_pos rfl]
  go_enter func190,ntmps190
  go_wp2
  go_ret
  exact⟨rfl,rfl⟩
 ·rw [if_neg hc]
  unfold dN
  have hb:(c==0)=false:=by simpa using hc
  go_enter func190,ntmps190
  go_wp2
  go_ret
  exact⟨rfl,rfl⟩
theorem Laid.but {S:Nat->Prop}(h:Laid w)(hb:ae S w w')(h0:¬S 0):Laid w':=aC hb h h0
theorem Laid.later (h:Laid w)(hb:Below w.heap.size w w'):Laid w':=h.but (S:=λ_=>False) (ae.of hb) (λh=>h)
theorem cz {s:ByteArray}{c:Int}(hc:c≠0):nk s c=dN s c:=if_neg hc
theorem lN (s:ByteArray)(c:Int)(w:World)(hg:Laid w):Calls prog 153 #[nk s c] w λe w'=>e=.returned (.int .i64 c)/\Below w.heap.size w w':=by
 by_cases hc:c=0
 ·subst hc
  unfold nk
  rw [if_pos rfl]
  go_enter func153,ntmps153
  go_wp2_with (first|(go_at_call 194;refine (FD _ _).mono ?_;rintro e w9 ⟨rfl,hw9⟩;subst hw9))
  go_ret
  exact⟨rfl,ab _ _⟩
 ·rw [cz hc]
  have ha:=aa (GO s c w.heap.size (.int .i64 0) (w.alloc (.cells #[.int .i64 0] 285)) (hg.later (ab _ _)) (by simp) (by simp [go_sem]))
  generalize hv:dN s c=v at *
  clear hv
  have hb:Hid (∀W,W=((((((w.alloc (.cells #[.int .i64 0] 285)).alloc (.cells #[.pointer (some ⟨w.heap.size,0,none⟩)] 287)).alloc (.cells #[.pointer (some ⟨1,287,none⟩),.pointer (some ⟨(w.alloc (.cells #[.int .i64 0] 285)).heap.size,0,none⟩),.int .u64 150] 311)).alloc (.cells #[.pointer (some ⟨1,287,none⟩),.pointer (some ⟨(w.alloc (.cells #[.int .i64 0] 285)).heap.size,0,none⟩),.int .u64 150] 311)).alloc (.cells #[.string s,.iface 285 (.agg #[.int .i64 c])] 307)).alloc (.cells #[.int .i64 c] 285)).setCell ⟨w.heap.size,0,none⟩ (.int .i64 c)->W.cell? ⟨w.heap.size,0,none⟩=some (.int .i64 c)/\Below w.heap.size w W):=by
   intro W hW
   subst hW
   refine⟨?_,?_⟩
   ·refine World.cell?_setCell_same _ _ _ (?_:_=some (Value.int .i64 0))
    rw [World.cell?_alloc_lt _ _ _ (by simp;omega),World.cell?_alloc_lt _ _ _ (by simp;omega),World.cell?_alloc_lt _ _ _ (by simp;omega),World.cell?_alloc_lt _ _ _ (by simp;omega),World.cell?_alloc_lt _ _ _ (by simp)]
    simp
   ·have hp:=((((((ae.refl (λk=>k=w.heap.size) w).alloc (.cells #[.int .i64 0] 285)).alloc (.cells #[.pointer (some ⟨w.heap.size,0,none⟩)] 287)).alloc (.cells #[.pointer (some ⟨1,287,none⟩),.pointer (some ⟨(w.alloc (.cells #[.int .i64 0] 285)).heap.size,0,none⟩),.int .u64 150] 311)).alloc (.cells #[.pointer (some ⟨1,287,none⟩),.pointer (some ⟨(w.alloc (.cells #[.int .i64 0] 285)).heap.size,0,none⟩),.int .u64 150] 311)).alloc (.cells #[.string s,.iface 285 (.agg #[.int .i64 c])] 307)).alloc (.cells #[.int .i64 c] 285)
    exact ae.below (Below.refl _ _) (hp.setCell (p:=⟨w.heap.size,0,none⟩) rfl (.int .i64 c)) (λk hk=>by rw [hk];exact Nat.le_refl _)
  go_enter func153,ntmps153
  go_upto_region 3 with (first|(go_at_call 194;refine ha.out.mono ?_;rintro e w9 ⟨rfl,hw9⟩;obtain⟨x0,hB⟩:=hb.out w9 hw9;clear hw9;have HB:=aa hB;clear hB))
  go_wp2
  go_ret
  exact⟨rfl,HB.o⟩
open Go.Proofs.YtfmhdimaijimlaaGreatDoor.H (ak Cp)
structure Hd extends Par where
 g:Nat
 gb:Nat
 A:Ad
 kn:Nat
 qg:Nat
 qb:Nat
def Hd.Wr (H:Hd)(k:Nat):Prop:=k=H.g\/k=H.qb\/H.A.Wr k
structure Hd.Ap (H:Hd):Prop where
 cg:∀k,H.A.jC k->k≠H.g
 cq:∀k,H.A.jC k->k≠H.qb
 b:0<H.n->H.gb≠H.qb/\¬H.A.Wr H.gb
 gq:H.g≠H.qb
 q:H.qg≠H.g/\¬H.A.Wr H.qg
 z:∀k,H.Wr k->k≠0
structure eQ (w:World)(H:Hd)(s:aI):Prop where
 d:Dr w H.g H.gb H.n H.c s.t
 cat:ie w H.A H.kn H.mo s.X s.l
 qu:Q.Qu w H.qg H.qb H.e H.a s.L
 laid:Laid w
 ap:H.Ap
theorem eQ.later {H:Hd}{s:aI}(h:eQ w H s)(hb:Below w.heap.size w w'):eQ w' H s :=
 ⟨h.d.later hb,h.cat.later hb,h.qu.later hb,h.laid.later hb,h.ap⟩
theorem dk {A:Ad}(h:A.Wr k):A.jC k:=.inr (.inr h)
def Hd.jC (H:Hd)(k:Nat):Prop:=k=0\/k=H.g\/(0<H.n/\k=H.gb)\/k=H.qg\/k=H.qb\/H.A.jC k
theorem eQ.uh {H:Hd}{s:aI}(h:eQ w H s):∀k,H.jC k->k<w.heap.size:=λk hk=>by
 rcases hk with rfl|rfl|⟨h0,rfl⟩|rfl|rfl|hk
 ·exact World.block_lt_of_cell? _ _ h.laid
 ·exact h.d.lt
 ·exact h.d.oN h0
 ·exact h.qu.CH
 ·exact h.qu.blt
 ·exact h.cat.lt k hk
theorem eQ.but {S:Nat->Prop}{H:Hd}{s:aI}(h:eQ w H s)(hb:ae S w w')(hS:∀k,H.jC k->¬S k):eQ w' H s :=
 ⟨h.d.xg hb (hS _ (.inr (.inl rfl))) (λh0=>hS _ (.inr (.inr (.inl ⟨h0,rfl⟩)))),h.cat.but hb (λk hk=>hS k (.inr (.inr (.inr (.inr (.inr hk)))))),h.qu.but hb (hS _ (.inr (.inr (.inr (.inl rfl))))) (hS _ (.inr (.inr (.inr (.inr (.inl rfl)))))),h.laid.but hb (hS 0 (.inl rfl)),h.ap⟩
theorem eQ.own {w:World}{H:Hd}{s:aI}{b:Nat}(h:eQ w H s)(hb:∀k,H.jC k->k<b)(o:Nat)(u:Value):eQ (w.setCell ⟨b,o,none⟩ u) H s :=
 h.but (S:=(·=b)) ((ae.refl (·=b) _).own o u) (λk hk e=>by have:=hb k hk;omega)
theorem Hd.dk {H:Hd}(h:H.Wr k):H.jC k:=by
 rcases h with rfl|rfl|hk
 ·exact .inr (.inl rfl)
 ·exact .inr (.inr (.inr (.inr (.inl rfl))))
 ·exact .inr (.inr (.inr (.inr (.inr (.inr (.inr hk))))))
theorem eQ.draw {H:Hd}{s:aI}{t:Nat}(h:eQ w H s)(hb:ae (·=H.g) w w')(hd:Dr w' H.g H.gb H.n H.c t):eQ w' H { s with t:=t } :=
 ⟨hd,h.cat.but hb h.ap.cg,h.qu.but hb h.ap.q.1 h.ap.gq.symm,h.laid.but hb (λe=>h.ap.z _ (.inl rfl) e.symm),h.ap⟩
theorem eQ.enter {H:Hd}{s:aI}{X:List Tk}{l:Fo}(h:eQ w H s)(hb:ae H.A.Wr w w')(hc:ie w' H.A H.kn H.mo X l):eQ w' H { s with X:=X,l:=l } :=
 ⟨h.d.xg hb (λe=>h.ap.cg _ (dk e) rfl) (λh0=>(h.ap.b h0).2),hc,h.qu.but hb h.ap.q.2 (λe=>h.ap.cq _ (dk e) rfl),h.laid.but hb (λe=>h.ap.z 0 (.inr (.inr e)) rfl),h.ap⟩
theorem eQ.count {H:Hd}{s:aI}{L:List Int}(h:eQ w H s)(hb:ae (λk=>k=H.qb) w w')(hq:Q.Qu w' H.qg H.qb H.e H.a L):eQ w' H { s with L:=L } :=
 ⟨h.d.xg hb h.ap.gq (λh0=>(h.ap.b h0).1),h.cat.but hb h.ap.cq,hq,h.laid.but hb (λe=>h.ap.z _ (.inr (.inl rfl)) e.symm),h.ap⟩
theorem ae.Jp {H:Hd}(h:ae (·=H.g) w w'):ae H.Wr w w':=h.mono (λk hk=>.inl hk)
theorem ae.Jl {H:Hd}(h:ae H.A.Wr w w'):ae H.Wr w w':=h.mono (λk hk=>.inr (.inr hk))
theorem ae.Ji {H:Hd}(h:ae (λk=>k=H.qb) w w'):ae H.Wr w w':=h.mono (λk hk=>.inr (.inl hk))
def p5 (U:World)(H:Hd)(s:aI)(D:Nat×Int×Nat)(e:Ending)(w':World):Prop :=
 e=.returned (.tuple #[.agg #[.int .u64 (cR D.1),.int .u64 (cT D.1)],.int .i64 D.2.1])/\eQ w' H { s with t:=D.2.2 }/\ae (·=H.g) U w'
def gU (U:World)(H:Hd)(s:aI)(R:EW)(e:Ending)(w':World):Prop :=
 e=.returned (.tuple #[.int .i64 R.num,.int .i64 R.code])/\eQ w' H { s with X:=R.X,l:=R.l }/\ae H.A.Wr U w'
def il (H:Hd):Value:=.agg #[.pointer (some ⟨H.g,0,none⟩),.pointer (some ⟨H.A.g,0,none⟩),.pointer (some ⟨H.qg,0,none⟩)]
structure Mk (w:World)(b:Nat)(H:Hd):Prop where
 c0:w.cell? ⟨b,0,none⟩=some (.pointer (some ⟨H.g,0,none⟩))
 c1:w.cell? ⟨b,1,none⟩=some (.pointer (some ⟨H.A.g,0,none⟩))
 c2:w.cell? ⟨b,2,none⟩=some (.pointer (some ⟨H.qg,0,none⟩))
theorem Mk.but {S:Nat->Prop}{H:Hd}(h:Mk w b H)(hb:ae S w w')(hn:¬S b):Mk w' b H:=⟨aC hb h.c0 hn,aC hb h.c1 hn,aC hb h.c2 hn⟩
theorem Mk.later {H:Hd}(h:Mk w b H)(hb:Below w.heap.size w w'):Mk w' b H:=h.but (S:=λ_=>False) (ae.of hb) (λh=>h)
theorem Cu {H:Hd}{s:aI}(h:eQ w H s):Calls prog 192 #[.pointer (some ⟨H.g,0,none⟩)] w (p5 w H s (cL H.toPar s.t)):=by
 unfold cL
 by_cases ht:s.t<H.n
 ·rw [if_pos ht]
  refine (nE H.g H.gb H.n H.c s.t w h.d ht).mono ?_
  rintro e w' ⟨rfl,hd,hb⟩
  exact⟨rfl,h.draw hb hd,hb⟩
 ·rw [if_neg ht]
  have hle:=h.d.le
  have he:s.t=H.n:=by omega
  have hd:=h.d
  rw [he] at hd
  refine (rq H.g H.gb H.n H.c w hd).mono ?_
  rintro e w' ⟨rfl,hb⟩
  have z1:cR 0=0:=by simp [cR]
  have z2:cT 0=0:=by simp [cT]
  exact⟨by simp only [z1,z2],h.draw (ae.of hb) (h.d.later hb),ae.of hb⟩
theorem DF {H:Hd}{s:aI}(h:eQ w H s){mk:Nat}(hm:Mk w mk H)(c:Cp)(hw:c.2.1<ak/\c.2.2<ak) :
  Calls prog 193 #[ir c,.pointer (some ⟨mk,0,none⟩)] w (gU w H s (kj H.mo s.X s.l c 31)):=by
 obtain⟨o,hi,lo⟩:=c
 have hB:=ab w (Obj.cells #[.int .i64 o,.int .u64 (hi:Int),.int .u64 (lo:Int)] 38)
 have y1:=(hm.later hB).c1
 have HC:=aa (BD (h.later hB).cat (o,hi,lo) 31 hw)
 have HT:=aa (h.later hB)
 have HB:=aa hB
 clear h hm hB
 go_enter func193,ntmps193
 go_upto_region 2 with (first|(go_at_call 127;refine HC.o.mono ?_;rintro e w2 ⟨rfl,hc2,hb2⟩;have HC2:=aa hc2;have HB2:=aa hb2;clear hc2 hb2))
 exact bodyPost_ret (v:=.tuple #[.int .i64 (kj H.mo s.X s.l (o,hi,lo) 31).num,.int .i64 (kj H.mo s.X s.l (o,hi,lo) 31).code]) (by simp [results,results193,go_sem]) rfl ⟨rfl,HT.o.enter HB2.o HC2.o,(ae.of HB.o).trans HB2.o⟩
theorem Hb {H:Hd}{s:aI}(h:eQ w H s)(hcs:∀i,i<H.n->H.c i<ak*ak){mk pc:Nat}(hm:Mk w mk H)(o:Int)(hp:w.cell? ⟨pc,0,none⟩=some (.int .i64 o)) :
  Calls prog 203 #[.pointer (some ⟨mk,0,none⟩),.pointer (some ⟨pc,0,none⟩)] w (p5 w H s (cB H.toPar s o)):=by
 have hB:=ab w (Obj.cells #[.int .u64 0,.int .u64 0] 31)
 have y0:=(hm.later hB).c0
 have y1:=(hm.later hB).c1
 have y2:=cell_later hB hp
 have hg:=h.d.lt
 have HO:=aa h.uh
 have HC:=aa (Dx (h.later hB).d hcs (h.later hB).cat h.ap.cg o)
 have HT:=aa (h.later hB)
 have HB:=aa hB
 have HL:Hid (aq (w.alloc (Obj.cells #[.int .u64 0,.int .u64 0] 31)) ⟨w.heap.size,0,none⟩ (.int .u64 0)/\aq (w.alloc (Obj.cells #[.int .u64 0,.int .u64 0] 31)) ⟨w.heap.size,1,none⟩ (.int .u64 0)):=⟨⟨by simp [go_sem],by simp [go_sem]⟩,⟨by simp [go_sem],by simp [go_sem]⟩⟩
 clear h hm hB hp
 unfold p5 cB
 go_enter func203,ntmps203
 obtain⟨R,hR⟩:∃R,R=bs (C5 s.X s.l o) H.c H.n 9 s.t:=⟨_,rfl⟩
 unfold fP at HC
 rw [<-hR] at HC
 rw [<-hR]
 clear hR
 go_upto_region 2 with (first|(go_at_call 204;refine HC.o.mono ?_;rintro e w2 ⟨rfl,hD,hB⟩;have HD:=aa hD;have HB2:=aa hB;have HL2:Hid (aq w2 ⟨w.heap.size,0,none⟩ (.int .u64 0)/\aq w2 ⟨w.heap.size,1,none⟩ (.int .u64 0)):=⟨HL.o.1.but hB (by show ¬(w.heap.size=H.g);omega),HL.o.2.but hB (by show ¬(w.heap.size=H.g);omega)⟩;clear hD hB;have x0:=HL2.o.1.1;have x1:=HL2.o.2.1;have f0:=HL2.o.1.2;have f1:=HL2.o.2.2))
 have HQ:=aa (iY x0 x1 (.int .u64 (cR R.1)) (.int .u64 (cT R.1)))
 have hbb:=((((ae.of HB.o).trans HB2.o).put (p:=⟨w.heap.size,0,none⟩) (Nat.le_refl _) (.int .u64 (cR R.1))).put (p:=⟨w.heap.size,1,none⟩) (Nat.le_refl _) (.int .u64 (cT R.1)))
 have hfin:eQ ((w2.setCell ⟨w.heap.size,0,none⟩ (.int .u64 (cR R.1))).setCell ⟨w.heap.size,1,none⟩ (.int .u64 (cT R.1))) H { s with t:=R.2.2 }:=((HT.o.draw HB2.o HD.o).own HO.o 0 _).own HO.o 1 _
 exact bodyPost_ret (v:=.tuple #[.agg #[.int .u64 (cR R.1),.int .u64 (cT R.1)],.int .i64 R.2.1]) (by simp [results,results203,go_sem,HQ.o.1,HQ.o.2]) rfl ⟨rfl,hfin,hbb⟩
theorem En {H:Hd}{s:aI}(h:eQ w H s){mk nb rb:Nat}(hm:Mk w mk H)(n r:Int)(hn:w.cell? ⟨nb,0,none⟩=some (.int .i64 n))(hr:w.cell? ⟨rb,0,none⟩=some (.int .i64 r))(c:Cp)(hw:c.2.1<ak/\c.2.2<ak) :
  Calls prog 205 #[ir c,.pointer (some ⟨mk,0,none⟩),.pointer (some ⟨nb,0,none⟩),.pointer (some ⟨rb,0,none⟩)] w (gU w H s (gD H.mo s.X s.l n c r)):=by
 obtain⟨o,hi,lo⟩:=c
 have hB:=ab w (Obj.cells #[.int .i64 o,.int .u64 (hi:Int),.int .u64 (lo:Int)] 38)
 have y1:=(hm.later hB).c1
 have y2:=cell_later hB hn
 have y3:=cell_later hB hr
 have HC:=aa (yJ (h.later hB).cat n (o,hi,lo) r hw)
 have HT:=aa (h.later hB)
 have HB:=aa hB
 clear h hm hB hn hr
 go_enter func205,ntmps205
 go_upto_region 2 with (first|(go_at_call 126;refine HC.o.mono ?_;rintro e w2 ⟨rfl,hc2,hb2⟩;have HC2:=aa hc2;have HB2:=aa hb2;clear hc2 hb2))
 exact bodyPost_ret (v:=.tuple #[.int .i64 (gD H.mo s.X s.l n (o,hi,lo) r).num,.int .i64 (gD H.mo s.X s.l n (o,hi,lo) r).code]) (by simp [results,results205,go_sem]) rfl ⟨rfl,HT.o.enter HB2.o HC2.o,(ae.of HB.o).trans HB2.o⟩
end Go.Proofs.YtfmhdimaijimlaaGreatDoor.D
