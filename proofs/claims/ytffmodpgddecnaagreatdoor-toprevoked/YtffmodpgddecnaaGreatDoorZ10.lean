import Derived.LaidEql
import Derived.Stop.Asserts
import Derived.RowKitTokens
import Derived.Test.YtffmodpgddecnaaGreatDoorZ09
set_option linter.unusedVariables false
set_option linter.unusedSimpArgs false
set_option maxRecDepth 100000
set_option maxHeartbeats 4000000
namespace Go.Proofs.YtffmodpgddecnaaGreatDoor.D
open Go.RowKit
open Go.Proofs.YtffmodpgddecnaaGreatDoor.H (aq)
def Dc (X:List Tk)(l:Fo)(o:Int)(N:Nat):Bool:=aR X l (o,N / aq,N%aq)
theorem jm {N:Nat}(h:N<aq*aq):N / aq<aq/\N%aq<aq:=⟨Nat.div_lt_of_lt_mul h,Nat.mod_lt _ (by decide)⟩
theorem zZ {w:World}{k1 k2:Nat}{A:Ad}{kn mo:Nat}{X:List Tk}{l:Fo}{o:Int}(h1:w.cell? ⟨k1,0,none⟩=some (.pointer (some ⟨A.g,0,none⟩)))(h2:w.cell? ⟨k2,0,none⟩=some (.int .i64 o))(h:ie w A kn mo X l){N:Nat}(hN:N<aq*aq) :
  Calls Tryz.prog 370 #[.agg #[.int .u64 (cD N),.int .u64 (cB N)],.pointer (some ⟨k1,0,none⟩),.pointer (some ⟨k2,0,none⟩)] w λe w'=>e=.returned (.bool (Dc X l o N))/\Below w.heap.size w w':=by
 have hb:=ae w (Obj.cells #[.int .u64 (cD N),.int .u64 (cB N)] 30)
 have hc:Hid (Calls Tryz.prog 320 #[.pointer (some ⟨A.g,0,none⟩),.agg #[.int .i64 o,.int .u64 (cD N),.int .u64 (cB N)]] (w.alloc (Obj.cells #[.int .u64 (cD N),.int .u64 (cB N)] 30)) λe w'=>e=.returned (.tuple #[.int .i64 (aG X l (o,N / aq,N%aq)),.bool (Dc X l o N)])/\Below (w.alloc (Obj.cells #[.int .u64 (cD N),.int .u64 (cB N)] 30)).heap.size (w.alloc (Obj.cells #[.int .u64 (cD N),.int .u64 (cB N)] 30)) w'):=gV (h.later hb) (o,N / aq,N%aq) (jm hN)
 have y1:=cell_later hb h1
 have y2:=cell_later hb h2
 generalize aG X l (o,N / aq,N%aq)=q at *
 generalize Dc X l o N=P at *
 clear h h1 h2 hb;go_enter Tryz.func370,Tryz.ntmps370
 go_wp2_with (first|(go_at_call 320;refine hc.out.mono ?_;rintro e w1 ⟨rfl,hB⟩;have HB:=ab hB;clear hB))
 go_ret;exact⟨rfl,aa (ae _ _) HB.out⟩
theorem C6 {w:World}{g gb n:Nat}{c:Nat->Nat}{t:Nat}(h:Dr w g gb n c t)(hcs:∀i,i<n->c i<aq*aq){A:Ad}{kn mo:Nat}{X:List Tk}{l:Fo}(hc:ie w A kn mo X l)(hn:∀k,A.jD k->k≠g)(o:Int) :
  Calls Tryz.prog 327 #[.pointer (some ⟨g,0,none⟩),.pointer (some ⟨A.g,0,none⟩),.int .i64 o] w (fP w g gb n c t (Dc X l o)):=by
 obtain⟨w1,hw1⟩:∃w1,w1=((w.alloc (Obj.cells #[.pointer (some ⟨A.g,0,none⟩)] 94)).alloc (Obj.cells #[.int .i64 o] 3)).alloc (Obj.cells #[.int .u64 0,.int .u64 0] 30):=⟨_,rfl⟩
 have hB1:Below w.heap.size w w1:=by rw [hw1];exact (aC _ _ _).alloc (by simp;omega) _
 have x0:w1.cell? ⟨w.heap.size,0,none⟩=some (.pointer (some ⟨A.g,0,none⟩)):=by rw [hw1];simp [go_sem]
 have x1:w1.cell? ⟨w.heap.size+1,0,none⟩=some (.int .i64 o):=by rw [hw1];simp [go_sem]
 have l0:az w1 ⟨w.heap.size+1+1,0,none⟩ (.int .u64 0):=by rw [hw1];exact⟨by simp [go_sem],by simp [go_sem]⟩
 have l1:az w1 ⟨w.heap.size+1+1,1,none⟩ (.int .u64 0):=by rw [hw1];exact⟨by simp [go_sem],by simp [go_sem]⟩
 have hg:=h.lt
 have HG:=ab h.po
 have hcc:=ab (Dk (h.later hB1) hcs (Dc X l o) w.heap.size (w.heap.size+1) (λW hW N hN=>zZ (ag hW x0 (by show ¬(w.heap.size=g);omega)) (ag hW x1 (by show ¬(w.heap.size+1=g);omega)) ((hc.later hB1).but hW (λk hk=>hn k hk)) hN))
 have PC:Hid (ah (·=g) w w1):=ah.of hB1
 have HL:=ab (And.intro l0 l1)
 clear h hc hB1 x0 x1 l0 l1 hn;go_enter Tryz.func327,Tryz.ntmps327
 go_upto_region 1 with fail
 rw [<-hw1];clear hw1;obtain⟨R,hR⟩:∃R,R=bM (Dc X l o) c n 9 t:=⟨_,rfl⟩
 unfold fP at hcc;rw [<-hR] at hcc;have HR:=ab hR
 clear hR;go_upto_region 2 with (first|(go_at_call 369;refine hcc.out.mono ?_;rintro e w2 ⟨rfl,hD,hB⟩;have HD:=ab hD;have HB:=ab (PC.out.trans hB);have QX:Hid (az w2 ⟨w.heap.size+1+1,0,none⟩ (.int .u64 0)/\az w2 ⟨w.heap.size+1+1,1,none⟩ (.int .u64 0)):=⟨HL.out.1.but hB (by show ¬(w.heap.size+1+1=g);omega),HL.out.2.but hB (by show ¬(w.heap.size+1+1=g);omega)⟩;clear hD hB;have x0:=QX.out.1.1;have x1:=QX.out.2.1;have f0:=QX.out.1.2;have f1:=QX.out.2.2))
 have HQ:=ab (iU x0 x1 (.int .u64 (cD R.1)) (.int .u64 (cB R.1)))
 refine bodyPost_ret (v:=.tuple #[.agg #[.int .u64 (cD R.1),.int .u64 (cB R.1)],.int .i64 R.2.1]) (by simp [results,Tryz.results327,go_sem,HQ.out.1,HQ.out.2]) rfl ?_
 show fP _ _ _ _ _ _ _ _ _
 unfold fP;rw [<-HR.out];refine⟨rfl,?_,?_⟩
 ·exact (HD.out.gO (b:=w.heap.size+1+1) (by omega) (λh0=>by have:=HG.out h0;omega) 0 _).gO (b:=w.heap.size+1+1) (by omega) (λh0=>by have:=HG.out h0;omega) 1 _
 ·exact (HB.out.put (p:=⟨w.heap.size+1+1,0,none⟩) (by show _<=w.heap.size+1+1;omega) _).put (p:=⟨w.heap.size+1+1,1,none⟩) (by show _<=w.heap.size+1+1;omega) _
end Go.Proofs.YtffmodpgddecnaaGreatDoor.D
namespace Go.Proofs.YtffmodpgddecnaaGreatDoor.D
open Go.RowKit
open Go.Proofs.YtffmodpgddecnaaGreatDoor.H (aq Cp)
structure aP where
 X:List Tk
 l:Fo
 L:List Int
 t:Nat
structure Par where
 mo:Nat
 e:Int
 a:Int
 n:Nat
 c:Nat->Nat
structure Fit (P:Par)(s:aP):Prop where
 inv:Inv P.mo s.X s.l
 mO:∀o,s.L.count o=jF s.X s.l o
 len:s.L.length=s.l.length
 top:P.a<=(P.mo:Int)
 le:s.t<=P.n
 cs:∀i,i<P.n->P.c i<aq*aq
theorem vp {m:Nat}{X:List Tk}{l:Fo}(h:Inv m X l){k:Nat}(p:Int)(c:Cp)(r:Int)(hk:k<m)(hn:(k:Int)∉aj l)(o:Int) :
  jF (X.set k (c,r)) (l++[((k:Int),p)]) o=jF X l o+if c.1=o then 1 else 0:=by
 unfold jF;rw [cJ,List.filter_append,List.length_append];congr 1
 ·congr 1
  refine List.filter_congr (λx hx=>?_)
  unfold ob;rw [bN _ (bd h.ok hx) (λe=>hn (e ▸ hx))]
 ·have hs:ob (X.set k (c,r)) (k:Int)=c.1:=by unfold ob;rw [dz _ (by rw [h.len];exact hk)]
  by_cases e:c.1=o
  ·rw [if_pos e,List.filter_cons_of_pos (by simp [hs,e])];rfl
  ·rw [if_neg e,List.filter_cons_of_neg (by simp [hs,e])];rfl
theorem dD {X:List Tk}{l:Fo}{o:Int}:dR X l o=true↔0<jF X l o:=by
 rw [ed];unfold jF;rw [List.length_pos_iff_exists_mem];constructor
 ·rintro ⟨n,hn,e⟩;exact⟨n,List.mem_filter.2 ⟨hn,decide_eq_true e⟩⟩
 ·rintro ⟨n,hn⟩;exact⟨n,(List.mem_filter.1 hn).1,of_decide_eq_true (List.mem_filter.1 hn).2⟩
theorem Fit.room {P:Par}{s:aP}(h:Fit P s){o:Int}(hm:Q.may P.e P.a s.L o=0):s.l.length<P.mo:=by
 have:=(Q.mq hm).2
 have:=h.len
 have:=h.top
 omega
def cap (o:Int)(N:Nat):Cp:=(o,N / aq,N%aq)
structure rY where
 c:Cp
 code:Int
 s:aP
def no (s:aP)(c:Int):rY:=⟨(0,0,0),c,s⟩
def ru (s:aP)(o:Int)(N:Nat)(p r:Int)(t:Nat):aP:=⟨s.X.set (low s.l) (cap o N,r),s.l++[((low s.l:Int),p)],s.L++[o],t⟩
def fk (P:Par)(s:aP)(o:Int)(D:Nat×Int×Nat)(p r:Int):rY :=
 if Q.may P.e P.a s.L o≠0 then no s (Q.may P.e P.a s.L o) else if D.2.1≠0 then no { s with t:=D.2.2 } D.2.1 else ⟨cap o D.1,0,ru s o D.1 p r D.2.2⟩
def cX (P:Par)(t:Nat):Nat×Int×Nat:=if t<P.n then (P.c t,0,t+1) else (0,11,t)
def bg (P:Par)(s:aP)(o:Int):Nat×Int×Nat:=bM (Dc s.X s.l o) P.c P.n 9 s.t
def bD (P:Par)(s:aP)(o:Int):rY:=if 0<jF s.X s.l o then no s 19 else fk P s o (cX P s.t) (-1) 31
def eE (s:aP)(c:Cp):Int:=rg s.X (aG s.X s.l c)
def bs (P:Par)(s:aP)(c:Cp)(r:Int):rY :=
 if aR s.X s.l c=false then no s 3 else if aE 4 (eE s c)=false\/aE r (eE s c)=false then no s 4 else fk P s c.1 (bg P s c.1) (aG s.X s.l c) r
structure EG (P:Par)(s:aP)(c:Cp)(p r:Int):Prop where
 new:aR s.X s.l c=false
 wide:c.2.1<aq/\c.2.2<aq
 val:bq r=true
 at_:(p=-1/\dR s.X s.l c.1=false)\/(p∈aj s.l/\ob s.X p=c.1/\aE r (rg s.X p)=true)
theorem ph {P:Par}{s:aP}(h:Fit P s){o:Int}{N:Nat}{p r:Int}(hm:Q.may P.e P.a s.L o=0)(hc:aR s.X s.l (cap o N)=false) :
  gw P.mo s.X s.l p (cap o N) r=⟨(low s.l:Int),0,s.X.set (low s.l) (cap o N,r),s.l++[((low s.l:Int),p)]⟩:=by
 have:=h.room hm
 unfold gw;rw [if_neg (by rw [hc];decide),if_neg (by omega)]
theorem Bt {P:Par}{s:aP}(h:Fit P s){o:Int}{N:Nat}(hm:Q.may P.e P.a s.L o=0)(ho:¬0<jF s.X s.l o) :
  kf P.mo s.X s.l (cap o N) 31=⟨(low s.l:Int),0,s.X.set (low s.l) (cap o N,31),s.l++[((low s.l:Int),-1)]⟩:=by
 have hO:¬dR s.X s.l o=true:=λe=>ho (dD.1 e)
 have hC:aR s.X s.l (cap o N)=false:=by
  cases hc:aR s.X s.l (cap o N) with
  | false=>rfl
  | true=>exact absurd (fI hc) hO
 unfold kf;rw [if_neg (by decide),if_neg (show ¬dR s.X s.l (cap o N).1=true from hO)];exact ph h hm hC
theorem xt {P:Par}{s:aP}(h:Fit P s){o:Int}{N:Nat}{p r:Int}(hm:Q.may P.e P.a s.L o=0)(hc:aR s.X s.l (cap o N)=false)(hp:p∈aj s.l)(ho:ob s.X p=o)(hr:aE r (rg s.X p)=true) :
  gy P.mo s.X s.l p (cap o N) r=⟨(low s.l:Int),0,s.X.set (low s.l) (cap o N,r),s.l++[((low s.l:Int),p)]⟩:=by
 unfold gy;rw [if_neg (by simp [hp]),if_neg (by simp [ho,cap]),if_neg (by rw [hr];decide)]
 exact ph h hm hc
theorem Fit.add {P:Par}{s:aP}(h:Fit P s){o:Int}{N:Nat}{p r:Int}{t:Nat}(hm:Q.may P.e P.a s.L o=0)(hy:EG P s (cap o N) p r)(ht:t<=P.n):Fit P (ru s o N p r t):=by
 have hr:=h.room hm
 have hlo:=oA h.inv.ok hr
 refine⟨h.inv.add hlo (eK s.l) hy.new hy.wide hy.val hy.at_,λx=>?_,by simp [ru,h.len],h.top,ht,h.cs⟩
 show (s.L++[o]).count x=jF (s.X.set (low s.l) (cap o N,r)) (s.l++[((low s.l:Int),p)]) x
 rw [vp h.inv p (cap o N) r hlo (eK s.l) x,List.count_append,h.mO x];congr 1
 rw [List.count_singleton];by_cases e:o=x
 ·simp [cap,e]
 ·simp [cap,e]
theorem Fit.JK {P:Par}{s:aP}(h:Fit P s){t:Nat}(ht:t<=P.n):Fit P { s with t:=t }:=⟨h.inv,h.mO,h.len,h.top,ht,h.cs⟩
theorem Fit.tok {P:Par}{s:aP}(h:Fit P s){o:Int}{D:Nat×Int×Nat}{p r:Int}(ht:D.2.2<=P.n)(hy:Q.may P.e P.a s.L o=0->D.2.1=0->EG P s (cap o D.1) p r):Fit P (fk P s o D p r).s:=by
 unfold fk;by_cases hm:Q.may P.e P.a s.L o=0
 ·rw [if_neg (by simp [hm])]
  by_cases hd:D.2.1=0
  ·rw [if_neg (by simp [hd])]
   exact h.add hm (hy hm hd) ht
  ·rw [if_pos hd]
   exact h.JK ht
 ·rw [if_pos hm]
  exact h
theorem Aq {P:Par}{t:Nat}(h:t<=P.n):(cX P t).2.2<=P.n:=by unfold cX;split<;>simp<;>omega
theorem gA {P:Par}{s:aP}(h:Fit P s)(t:Nat):(cX P t).1<aq*aq:=by
 unfold cX;split
 ·next ht=>exact h.cs t ht
 ·show (0:Nat)<aq*aq;decide
theorem uC {P:Par}{s:aP}(h:Fit P s){o:Int}(ho:¬0<jF s.X s.l o){N:Nat}(hN:N<aq*aq):EG P s (cap o N) (-1) 31:=by
 have hO:dR s.X s.l o=false:=by
  cases hc:dR s.X s.l o with
  | false=>rfl
  | true=>exact absurd (dD.1 hc) ho
 refine⟨?_,jm hN,by decide,.inl ⟨rfl,hO⟩⟩
 cases hc:aR s.X s.l (cap o N) with
 | false=>rfl
 | true=>exact absurd (fI hc) (by show ¬dR s.X s.l o=true;rw [hO];decide)
theorem Fit.root {P:Par}{s:aP}(h:Fit P s)(o:Int):Fit P (bD P s o).s:=by
 unfold bD;by_cases ho:0<jF s.X s.l o
 ·rw [if_pos ho];exact h
 ·rw [if_neg ho]
  exact h.tok (Aq h.le) (λ_ _=>uC h ho (gA h s.t))
theorem kh {P:Par}{s:aP}(h:Fit P s)(o:Int):Spec (Dc s.X s.l o) P.c P.n 9 s.t (bg P s o):=lW h.le
theorem mj {P:Par}{s:aP}(h:Fit P s){o:Int}(hd:(bg P s o).2.1=0):aR s.X s.l (cap o (bg P s o).1)=false:=by
 obtain⟨q,h1,h2,h3,hc⟩:=kh h o
 rcases hc with ⟨e1,e2,e3,e4,e5⟩|⟨e1,_⟩|⟨e1,_⟩
 ·exact e4
 ·rw [hd] at e1;cases e1
 ·rw [hd] at e1;cases e1
theorem found {m:Nat}{X:List Tk}{l:Fo}(h:Inv m X l){c:Cp}(hc:aR X l c=true):aG X l c∈aj l/\(tk X (aG X l c)).1=c:=by
 obtain⟨n,hn,rfl⟩:=bj.1 hc
 rw [eg h hn];exact⟨hn,rfl⟩
theorem lH {P:Par}{s:aP}(h:Fit P s){c:Cp}{r:Int}(hc:aR s.X s.l c=true)(hp:aE r (eE s c)=true)(hd:(bg P s c.1).2.1=0):EG P s (cap c.1 (bg P s c.1).1) (aG s.X s.l c) r:=by
 obtain⟨h1,h2⟩:=found h.inv hc
 exact⟨mj h hd,jm (gH h.cs),kd hp,.inr ⟨h1,by unfold ob;rw [h2];rfl,hp⟩⟩
theorem Fit.child {P:Par}{s:aP}(h:Fit P s)(c:Cp)(r:Int):Fit P (bs P s c r).s:=by
 unfold bs;by_cases hc:aR s.X s.l c=true
 ·rw [if_neg (by rw [hc];decide)]
  by_cases hp:aE 4 (eE s c)=false\/aE r (eE s c)=false
  ·rw [if_pos hp];exact h
  ·rw [if_neg hp]
   have hp2:aE r (eE s c)=true:=by
    cases hq:aE r (eE s c) with
    | true=>rfl
    | false=>exact absurd (.inr hq) hp
   exact h.tok (q5 h.le) (λ_ hd=>lH h hc hp2 hd)
 ·rw [if_pos (by simpa using hc)];exact h
end Go.Proofs.YtffmodpgddecnaaGreatDoor.D
namespace Go.Proofs.YtffmodpgddecnaaGreatDoor.V
open Go.RowKit
open Go.Proofs.YtffmodpgddecnaaGreatDoor.H (aq Cp)
structure aP where
 X:List Tk
 l:Fo
 L:List Int
 nx:Int
 V:List (Int×List Nat)
 t:Nat
 px:Int
 P:List Int
 ks:List Int
 D:Int->List Cp
structure Fit (mo:Nat)(s:aP):Prop where
 inv:Inv mo s.X s.l
 mO:∀o,s.L.count o=jF s.X s.l o
 len:s.L.length=s.l.length
 obj:∀o,(∃p∈s.V,p.1=o)↔dR s.X s.l o=true
 ids:∀p∈s.V,1<=p.1/\p.1<s.nx
open Go.Proofs.YtffmodpgddecnaaGreatDoor.D (dD)
theorem Bu {A B:List Int}(hA:A.Nodup)(hB:B.Nodup)(h:∀x∈A,x∉B):(A++B).Nodup:=List.nodup_append.2 ⟨hA,hB,λa ha b hb e=>h a ha (e ▸ hb)⟩
theorem jf {m:Nat}{l:Fo}(h:Ok m l)(A:List Int):(aj (bh l A)).Nodup:=by
 have h1:(aj (bh l A)).Sublist (aj l):=by
  unfold aj bh;exact List.Sublist.map _ List.filter_sublist
 exact h1.nodup h.nodup
theorem EW {m:Nat}{X:List Tk}{l:Fo}(h:Inv m X l){n k:Int}(hk:k∈G true l n):ob X k=ob X n:=by
 have h1:=(cE h.ok).1 hk
 exact (h.same k (fO h1) n h1).symm
theorem Bn {m:Nat}{X:List Tk}{l:Fo}(h:Inv m X l)(n o:Int):jF (fQ X (G true l n)) (bh l (G true l n)) o+(if ob X n=o then (G true l n).length else 0)=jF X l o:=by
 have hob:∀k∈aj (bh l (G true l n)),ob (fQ X (G true l n)) k=ob X k:=λk hk=>by
  unfold ob;rw [iA _ _ _ (bd h.ok (bz.1 hk).1) (λa ha=>bd h.ok (dp h.ok ha)) (bz.1 hk).2]
 have hmem:∀k,k∈(aj (bh l (G true l n))).filter (λk=>decide (ob (fQ X (G true l n)) k=o))↔k∈aj l/\k∉G true l n/\ob X k=o:=λk=>by
  rw [List.mem_filter,decide_eq_true_eq];constructor
  ·rintro ⟨h1,h2⟩
   rw [hob k h1] at h2;exact⟨(bz.1 h1).1,(bz.1 h1).2,h2⟩
  ·rintro ⟨h1,h2,h3⟩
   have h4:=bz.2 ⟨h1,h2⟩
   exact⟨h4,by rw [hob k h4];exact h3⟩
 have hnd:((aj (bh l (G true l n))).filter (λk=>decide (ob (fQ X (G true l n)) k=o))).Nodup:=List.Nodup.sublist List.filter_sublist (jf h.ok _)
 have hnd2:((aj l).filter (λk=>decide (ob X k=o))).Nodup:=List.Nodup.sublist List.filter_sublist h.ok.nodup
 unfold jF;by_cases e:ob X n=o
 ·rw [if_pos e,<-List.length_append]
  refine f_ (Bu hnd (fG h.ok true n) (λx hx=>((hmem x).1 hx).2.1)) hnd2 (λx=>?_)
  rw [List.mem_append,hmem,List.mem_filter,decide_eq_true_eq];constructor
  ·rintro (⟨h1,_,h3⟩|h1)
   ·exact⟨h1,h3⟩
   ·exact⟨dp h.ok h1,by rw [EW h h1];exact e⟩
  ·rintro ⟨h1,h2⟩
   by_cases hg:x∈G true l n
   ·exact .inr hg
   ·exact .inl ⟨h1,hg,h2⟩
 ·rw [if_neg e,Nat.add_zero]
  refine f_ hnd hnd2 (λx=>?_)
  rw [hmem,List.mem_filter,decide_eq_true_eq];constructor
  ·rintro ⟨h1,_,h3⟩
   exact⟨h1,h3⟩
  ·rintro ⟨h1,h2⟩
   exact⟨h1,λhg=>e (by rw [<-EW h hg];exact h2),h2⟩
theorem zH {m:Nat}{X:List Tk}{l:Fo}(h:Inv m X l)(n:Int):(bh l (G true l n)).length+(G true l n).length=l.length:=by
 rw [<-mL,<-mL l,<-List.length_append];refine f_ (Bu (jf h.ok _) (fG h.ok true n) (λx hx=>(bz.1 hx).2)) h.ok.nodup (λx=>?_)
 rw [List.mem_append,bz];constructor
 ·rintro (⟨h1,_⟩|h1)
  ·exact h1
  ·exact dp h.ok h1
 ·intro h1
  by_cases hg:x∈G true l n
  ·exact .inr hg
  ·exact .inl ⟨h1,hg⟩
def sF (V:List (Int×List Nat))(o:Int):List (Int×List Nat):=V.filter (λp=>decide (p.1≠o))
theorem kR {V:List (Int×List Nat)}{o:Int}{p:Int×List Nat}:p∈sF V o↔p∈V/\p.1≠o:=by unfold sF;simp
def eR (s:aP)(m o:Int):aP:={ s with X:=fQ s.X (G true s.l m),l:=bh s.l (G true s.l m),L:=Q.jc s.L o ((G true s.l m).length:Int),V:=if par s.l m=-1 then sF s.V o else s.V }
def fR (X:List Tk)(l:Fo)(o:Int):Int:=(rootOf X l o).getD 0
structure rY where
 K:List Cp
 code:Int
 s:aP
def pK (all:Bool)(s:aP)(c:Cp):Int:=if all then fR s.X s.l c.1 else aG s.X s.l c
def vi (all:Bool):Int:=if all then 16 else 8
def eC (all:Bool)(s:aP)(c:Cp):rY :=
 if aR s.X s.l c=false then ⟨[],3,s⟩ else if aE (vi all) (rg s.X (aG s.X s.l c))=false then ⟨[],4,s⟩ else
  ⟨(G true s.l (pK all s c)).map (λk=>(tk s.X k).1),0,eR s (pK all s c) c.1⟩
theorem jy {m:Nat}{X:List Tk}{l:Fo}(h:Inv m X l){c:Cp}(hc:aR X l c=true):aG X l c∈aj l/\(tk X (aG X l c)).1=c:=by
 obtain⟨n,hn,e⟩:=bj.1 hc
 have:=eg h hn
 rw [e] at this;rw [this];exact⟨hn,e⟩
theorem qA {m:Nat}{X:List Tk}{l:Fo}(h:Inv m X l){r:Int}(hr:(r,-1)∈l):fR X l (ob X r)=r:=by unfold fR;rw [fY h hr];rfl
theorem uy {m:Nat}{s:aP}(h:Inv m s.X s.l){c:Cp}(hc:aR s.X s.l c=true)(all:Bool):pK all s c∈aj s.l/\ob s.X (pK all s c)=c.1/\(all=true->(pK all s c,-1)∈s.l):=by
 obtain⟨h1,h2⟩:=jy h hc
 have h3:ob s.X (aG s.X s.l c)=c.1:=by unfold ob;rw [h2]
 cases all with
 | false=>exact⟨h1,h3,λe=>by cases e⟩
 | true =>
  obtain⟨r,hr,ho,_⟩:=h.l_ _ h1
  have e:pK true s c=r:=by
   show fR s.X s.l c.1=r
   rw [<-h3,<-ho,qA h hr]
  rw [e];exact⟨av.2 ⟨_,hr⟩,by rw [ho,h3],λ_=>hr⟩
theorem tV {m:Nat}{X:List Tk}{l:Fo}(h:Inv m X l){r:Int}(hr:(r,-1)∈l):(G true l r).length=jF X l (ob X r):=by
 unfold jF;refine f_ (fG h.ok true r) (List.Nodup.sublist List.filter_sublist h.ok.nodup) (λx=>?_)
 rw [h.pY hr,List.mem_filter,decide_eq_true_eq]
theorem Bk {m:Nat}{X:List Tk}{l:Fo}(h:Inv m X l){n r:Int}(hr:(r,-1)∈l)(hne:n≠r):r∉G true l n:=λe=>by
 have h1:=(cE h.ok).1 e
 rw [ri h.ok hr] at h1;rcases List.mem_cons.1 h1 with h2|h2
 ·exact hne h2
 ·rw [EE (λh3=>by have:=bd h.ok h3;omega)] at h2
  cases h2
theorem uh {mo:Nat}{s:aP}(h:Fit mo s){n x:Int}(hn:n∈aj s.l)(hx:ob s.X n=x)(hi:Inv mo (fQ s.X (G true s.l n)) (bh s.l (G true s.l n))):Fit mo (eR s n x)/\Q.rL s.L x ((G true s.l n).length:Int)=0:=by
 have hin:=Bn h.inv n
 have hxx:=hin x
 rw [if_pos hx,<-h.mO x] at hxx;have hno:¬(((G true s.l n).length:Int)<0\/(s.L.count x:Int)<((G true s.l n).length:Int)):=by omega
 have hL:Q.jc s.L x ((G true s.l n).length:Int)=Q.fS x (G true s.l n).length s.L:=by
  unfold Q.jc;rw [if_neg hno];simp
 refine⟨⟨hi,λo=>?_,?_,λo=>?_,λp hp=>?_⟩,by unfold Q.rL;rw [if_neg hno]⟩
 ·show (Q.jc s.L x _).count o=jF (fQ s.X _) (bh s.l _) o
  have:=hin o
  rw [<-h.mO o] at this;rw [hL];by_cases e:o=x
  ·subst e
   rw [Q.ee];rw [if_pos hx] at this;omega
  ·rw [Q.dZ _ _ _ _ e]
   rw [if_neg (λh=>e (by rw [<-h];exact hx))] at this
   omega
 ·show (Q.jc s.L x _).length=(bh s.l _).length
  rw [hL];have h1:=Q.jx x (G true s.l n).length s.L (by omega)
  have h2:=zH h.inv n
  have h3:=h.len
  omega
 ·show (∃p∈(if par s.l n=-1 then sF s.V x else s.V),p.1=o)↔dR (fQ s.X _) (bh s.l _) o=true
  have h0:=h.obj o
  rw [dD] at h0 ⊢
  have:=hin o
  obtain⟨p,hp⟩:=av.1 hn
  have hpar:=fB h.inv.ok hp
  by_cases e:o=x
  ·subst e
   rw [if_pos hx] at this;by_cases hroot:par s.l n=-1
   ·rw [if_pos hroot]
    rw [hpar] at hroot;subst hroot;have h1:=tV h.inv hp
    rw [hx] at h1;constructor
    ·rintro ⟨q,hq,e⟩;exact absurd e (kR.1 hq).2
    ·intro h2;omega
   ·rw [if_neg hroot,h0]
    obtain⟨r,hr,ho,_⟩:=h.inv.l_ n hn
    have hne:n≠r:=λe=>hroot (by rw [e];exact fB h.inv.ok hr)
    have h1:=Bk h.inv hr hne
    have h2:(r:Int)∈aj (bh s.l (G true s.l n)):=bz.2 ⟨av.2 ⟨_,hr⟩,h1⟩
    have h3:dR (fQ s.X (G true s.l n)) (bh s.l (G true s.l n)) o=true:=ed.2 ⟨r,h2,by
     unfold ob;rw [iA _ _ _ (bd h.inv.ok (av.2 ⟨_,hr⟩)) (λa ha=>bd h.inv.ok (dp h.inv.ok ha)) h1];exact ho.trans hx⟩
    have h4:=dD.1 h3
    omega
  ·rw [if_neg (λh=>e (by rw [<-h];exact hx))] at this
   rw [Nat.add_zero] at this;rw [this,<-h0];split
   ·constructor
    ·rintro ⟨q,hq,e⟩;exact⟨q,(kR.1 hq).1,e⟩
    ·rintro ⟨q,hq,e2⟩;exact⟨q,kR.2 ⟨hq,by rw [e2];exact e⟩,e2⟩
   ·exact Iff.rfl
 ·have hp':p∈(if par s.l n=-1 then sF s.V x else s.V):=hp
  split at hp'
  ·exact h.ids p (kR.1 hp').1
  ·exact h.ids p hp'
structure Tp (w:World)(b:Nat)(x y z:Nat):Prop where
 c0:w.cell? ⟨b,0,none⟩=some (.pointer (some ⟨x,0,none⟩))
 c1:w.cell? ⟨b,1,none⟩=some (.pointer (some ⟨y,0,none⟩))
 c2:w.cell? ⟨b,2,none⟩=some (.pointer (some ⟨z,0,none⟩))
theorem Tp.but {S:Nat->Prop}{w w':World}{b x y z:Nat}(h:Tp w b x y z)(hb:ah S w w')(hn:¬S b):Tp w' b x y z:=⟨ag hb h.c0 hn,ag hb h.c1 hn,ag hb h.c2 hn⟩
theorem Tp.later {w w':World}{b x y z:Nat}(h:Tp w b x y z)(hb:Below w.heap.size w w'):Tp w' b x y z:=h.but (S:=λ_=>False) (ah.of hb) (λh=>h)
end Go.Proofs.YtffmodpgddecnaaGreatDoor.V
namespace Go.Proofs.YtffmodpgddecnaaGreatDoor.D
open Go.RowKit Go.Extern.Stop Go.Stop Go.Extern
theorem Fb (t:Value)(w:World) :
  Calls Tryz.prog 318 #[.nilIface,t] w λe w'=>e=.returned (.bool false)/\w'=w:=by
 go_enter Tryz.func318,Tryz.ntmps318
 go_wp2;go_ret;exact⟨rfl,rfl⟩
theorem si (t:Addr)(w:World):(ReflectliteValue.unpack (.iface 378 (.pointer (some t)))).run Tryz.prog w
  = .ok (.agg #[.pointer (some ⟨1,378,none⟩),.pointer (some ⟨w.heap.size,0,none⟩),.int .u64 150]) (w.alloc (.cells #[.pointer (some t)] 378)):=by kernel_rfl
theorem type141 (a:Addr)(w:World):(ReflectliteValue.methodAny (ReflectliteValue.valueError "reflectlite.Value.Type" 0) (λt _ _ _=>ReflectliteType.toType t) #[.agg #[.pointer (some ⟨1,378,none⟩),.pointer (some a),.int .u64 150]]).run Tryz.prog w
  = .ok (.iface 440 (.agg #[.pointer (some ⟨1,378,none⟩)])) w:=by kernel_rfl
theorem ua (h:Value)(w:World):(Go.method 598 440 (.agg #[h]) "Kind").run Tryz.prog w=.ok (425,h) w:=by kernel_rfl
theorem tW (h:Value)(w:World):(Go.method 598 440 (.agg #[h]) "Elem").run Tryz.prog w=.ok (444,.agg #[h]) w:=by kernel_rfl
theorem j5 (h:Value)(w:World):(Go.method 598 440 (.agg #[h]) "Implements").run Tryz.prog w=.ok (445,.agg #[h]) w:=by kernel_rfl
theorem iC (h:Value)(w:World):(Go.method 598 440 (.agg #[h]) "AssignableTo").run Tryz.prog w=.ok (442,.agg #[h]) w:=by kernel_rfl
theorem ow (v:Value)(w:World):(Go.method 598 410 v "Unwrap").run Tryz.prog w=.ok (436,v) w:=by kernel_rfl
theorem DW (w:World):((ReflectliteType.abiMethod λt=>(λa:Nat=>Value.int IntKind.u8 (a:Int)) <$> Rtype.kind t) #[.pointer (some ⟨1,378,none⟩)]).run Tryz.prog w=.ok (.int .u8 22) w:=by kernel_rfl
theorem CM (w:World):((ReflectliteType.abiMethod λt=>(λa:Nat=>Value.int IntKind.u8 (a:Int)) <$> Rtype.kind t) #[.pointer (some ⟨1,376,none⟩)]).run Tryz.prog w=.ok (.int .u8 25) w:=by kernel_rfl
theorem KG (z:Sem Value)(f:TypeId->Addr->Nat->Nat->Sem Value)(v:Value) :
  ReflectliteValue.method z f #[v]=(do match <-ReflectliteValue.parts v with|none=>z|some (t,a,fl)=>f t a fl (fl%32)):=rfl
theorem p7 (a:Addr)(w:World):(ReflectliteValue.parts (.agg #[.pointer (some ⟨1,378,none⟩),.pointer (some a),.int .u64 150])).run Tryz.prog w=.ok (some (378,a,150)) w:=by kernel_rfl
theorem yj (a p:Addr)(W:World)(ha:W.cell? a=some (.pointer (some p))) :
  (ReflectliteValue.method (ReflectliteValue.valueError "reflectlite.Value.IsNil" 0) ReflectliteValue.isNil #[.agg #[.pointer (some ⟨1,378,none⟩),.pointer (some a),.int .u64 150]]).run Tryz.prog W=.ok (.bool false) W:=by
 rw [KG];simp only [Sem.run_bind,p7,Result.andThen];simp [ReflectliteValue.isNil,loadVar,isAgg,underlying,Tryz.underlying378,ha,Result.andThen]
theorem Eh (w:World):(ReflectliteType.method ReflectliteType.elem #[.agg #[.pointer (some ⟨1,378,none⟩)]]).run Tryz.prog w=.ok (.iface 440 (.agg #[.pointer (some ⟨1,376,none⟩)])) w:=by kernel_rfl
theorem mX (w:World):(ReflectliteType.relation "Implements" ReflectliteType.implements_ #[.agg #[.pointer (some ⟨1,376,none⟩)],.iface 440 (.agg #[.pointer (some ⟨1,324,none⟩)])]).run Tryz.prog w=.ok (.bool true) w:=by kernel_rfl
theorem xJ (v:Value)(w:World):(ReflectliteType.typeOf #[.iface 410 v]).run Tryz.prog w=.ok (.iface 440 (.agg #[.pointer (some ⟨1,410,none⟩)])) w:=by kernel_rfl
theorem wz (v:Value)(w:World):(ReflectliteType.typeOf #[.iface 376 v]).run Tryz.prog w=.ok (.iface 440 (.agg #[.pointer (some ⟨1,376,none⟩)])) w:=by kernel_rfl
theorem mQ (w:World):(ReflectliteType.relation "AssignableTo" ReflectliteType.assignableTo #[.agg #[.pointer (some ⟨1,410,none⟩)],.iface 440 (.agg #[.pointer (some ⟨1,376,none⟩)])]).run Tryz.prog w=.ok (.bool false) w:=by kernel_rfl
theorem mP (w:World):(ReflectliteType.relation "AssignableTo" ReflectliteType.assignableTo #[.agg #[.pointer (some ⟨1,376,none⟩)],.iface 440 (.agg #[.pointer (some ⟨1,376,none⟩)])]).run Tryz.prog w=.ok (.bool true) w:=by kernel_rfl
theorem El (v:Value)(xT:TypeId)(w:World):(Instr.typeAssert (.iface 410 v) xT 445 true).run Tryz.prog w=.ok (.tuple #[.nilIface,.bool false]) w:=run_typeAssert_lacksB Tryz.underlying445 (by kernel_rfl) (by kernel_rfl) v xT w
theorem oS (v:Value)(xT:TypeId)(w:World):(Instr.typeAssert (.iface 410 v) xT 448 true).run Tryz.prog w=.ok (.tuple #[.iface 410 v,.bool true]) w:=run_typeAssert_hasB Tryz.underlying448 (by kernel_rfl) v xT w
theorem sI (c:Int)(w:World):(ReflectliteValue.unpack (.iface 376 (.agg #[.int .i64 c]))).run Tryz.prog w
  = .ok (.agg #[.pointer (some ⟨1,376,none⟩),.pointer (some ⟨w.heap.size,0,none⟩),.int .u64 153]) (w.alloc (.cells #[.int .i64 c] 376)):=by kernel_rfl
theorem xE (w:World):(Rtype.elem? 378).run Tryz.prog w=.ok (some 376) w:=by kernel_rfl
theorem I8 (p:Addr)(w:World):(ReflectliteValue.mk 376 p ReflectliteValue.flagAddr).run Tryz.prog w=.ok (.agg #[.pointer (some ⟨1,376,none⟩),.pointer (some p),.int .u64 409]) w:=by kernel_rfl
theorem yx (a p:Addr)(W:World)(ha:W.cell? a=some (.pointer (some p))) :
  (ReflectliteValue.method (ReflectliteValue.valueError "reflectlite.Value.Elem" 0) ReflectliteValue.elem #[.agg #[.pointer (some ⟨1,378,none⟩),.pointer (some a),.int .u64 150]]).run Tryz.prog W
   = .ok (.agg #[.pointer (some ⟨1,376,none⟩),.pointer (some p),.int .u64 409]) W:=by
 rw [KG];simp only [Sem.run_bind,p7,Result.andThen];simp [ReflectliteValue.elem,loadVar,isAgg,underlying,Tryz.underlying378,ha,Result.andThen,xE,I8]
theorem KP (v x:Value):ReflectliteValue.set #[v,x]=(do
  let (some (dst,a,fl),some (src,b,_)):=(<-ReflectliteValue.parts v,<-ReflectliteValue.parts x)
   | unsupported (.noEntry "extern/(internal/reflectlite.Value).Set.zeroValue")
  if fl / ReflectliteValue.flagAddr%2==0 then unsupported (.noEntry "extern/(internal/reflectlite.Value).Set.unaddressable")
  let val <-loadVar src b
  if <-Rtype.directlyAssignable dst src then storeVar dst a val
  else if <-Rtype.implements dst src then
   if (<-Rtype.kind src)==20 then
    match val with
    | .nilIface=>unsupported (.noEntry "extern/reflectlite: a nil value of one interface type handed on as a value of another")
    | _=>storeVar dst a val
   else storeVar dst a (.iface src val)
  else panicString ("reflectlite.Set: value of type "++(<-Rtype.spelt src)++ " is not assignable to type "++(<-Rtype.spelt dst))
  pure (.tuple #[])):=rfl
theorem wJ (a:Addr)(w:World):(ReflectliteValue.parts (.agg #[.pointer (some ⟨1,376,none⟩),.pointer (some a),.int .u64 409])).run Tryz.prog w=.ok (some (376,a,409)) w:=by kernel_rfl
theorem yl (a:Addr)(w:World):(ReflectliteValue.parts (.agg #[.pointer (some ⟨1,376,none⟩),.pointer (some a),.int .u64 153])).run Tryz.prog w=.ok (some (376,a,153)) w:=by kernel_rfl
theorem wO (w:World):(Rtype.directlyAssignable 376 376).run Tryz.prog w=.ok true w:=by kernel_rfl
theorem E6 (tb bb:Nat)(c:Int)(sj:Value)(W:World)(hb:W.cell? ⟨bb,0,none⟩=some (.int .i64 c))(ht:W.cell? ⟨tb,0,none⟩=some sj)(hf:W.frozen? ⟨tb,0,none⟩=false) :
  (ReflectliteValue.set #[.agg #[.pointer (some ⟨1,376,none⟩),.pointer (some ⟨tb,0,none⟩),.int .u64 409],.agg #[.pointer (some ⟨1,376,none⟩),.pointer (some ⟨bb,0,none⟩),.int .u64 153]]).run Tryz.prog W
   = .ok (.tuple #[]) (W.setCell ⟨tb,0,none⟩ (.int .i64 c)):=by
 rw [KP];simp only [Sem.run_bind,wJ,yl,Result.andThen];have hl:(loadVar 376 ⟨bb,0,none⟩).run Tryz.prog W=.ok (.agg #[.int .i64 c]) W:=by
  simp [loadVar,isAgg,underlying,Tryz.underlying376,hb,Result.andThen,go_sem]
 simp [ReflectliteValue.flagAddr,hl,Result.andThen,wO,storeVar,Value.cells,storeCells,Addr.add];rw [run_store Tryz.prog W ⟨tb,0,none⟩ _ _ (by rfl)];simp [ht,hf]
def Laid (w:World):Prop:=w.cell? ⟨0,0,none⟩=some (.iface 440 (.agg #[.pointer (some ⟨1,324,none⟩)]))
def dI (s:ByteArray)(c:Int):Value:=.iface 410 (.agg #[.string s,.iface 376 (.agg #[.int .i64 c])])
theorem Fs (s:ByteArray)(c:Int)(tb:Nat)(sj:Value)(w:World)(hg:Laid w)(ht0:w.cell? ⟨tb,0,none⟩=some sj)(hf0:w.frozen? ⟨tb,0,none⟩=false) :
  Calls Tryz.prog 318 #[dI s c,.iface 378 (.pointer (some ⟨tb,0,none⟩))] w λev w'=>ev=.returned (.bool true)/\w'=(((((w.alloc (.cells #[.pointer (some ⟨tb,0,none⟩)] 378)).alloc (.cells #[.pointer (some ⟨1,378,none⟩),.pointer (some ⟨w.heap.size,0,none⟩),.int .u64 150] 414)).alloc (.cells #[.pointer (some ⟨1,378,none⟩),.pointer (some ⟨w.heap.size,0,none⟩),.int .u64 150] 414)).alloc (.cells #[.string s,.iface 376 (.agg #[.int .i64 c])] 410)).alloc (.cells #[.int .i64 c] 376)).setCell ⟨tb,0,none⟩ (.int .i64 c):=by
 have h6:=@run_callFunc_extern Tryz.prog 361 _ (λargs=>ReflectliteValue.unpack (args.getD 0 (.tuple #[]))) Tryz.func361 (by kernel_rfl) (by kernel_rfl) (by kernel_rfl) (by kernel_rfl)
 have h7:=@run_callFunc_extern Tryz.prog 362 _ (ReflectliteValue.methodAny (ReflectliteValue.valueError "reflectlite.Value.Type" 0) (λt _ _ _=>ReflectliteType.toType t)) Tryz.func362 (by kernel_rfl) (by kernel_rfl) (by kernel_rfl) (by kernel_rfl)
 have h8:=@run_callFunc_extern Tryz.prog 363 _ (ReflectliteValue.method (ReflectliteValue.valueError "reflectlite.Value.IsNil" 0) ReflectliteValue.isNil) Tryz.func363 (by kernel_rfl) (by kernel_rfl) (by kernel_rfl) (by kernel_rfl)
 have h27:=@run_callFunc_extern Tryz.prog 425 _ (ReflectliteType.abiMethod λt=>do pure (.int .u8 (<-Rtype.kind t))) Tryz.func425 (by kernel_rfl) (by kernel_rfl) (by kernel_rfl) (by kernel_rfl)
 have h37:=@run_callFunc_extern Tryz.prog 444 _ (ReflectliteType.method ReflectliteType.elem) Tryz.func444 (by kernel_rfl) (by kernel_rfl) (by kernel_rfl) (by kernel_rfl)
 have h38:=@run_callFunc_extern Tryz.prog 445 _ (ReflectliteType.relation "Implements" ReflectliteType.implements_) Tryz.func445 (by kernel_rfl) (by kernel_rfl) (by kernel_rfl) (by kernel_rfl)
 have h10:=@run_callFunc_extern Tryz.prog 385 _ ReflectliteType.typeOf Tryz.func385 (by kernel_rfl) (by kernel_rfl) (by kernel_rfl) (by kernel_rfl)
 have h35:=@run_callFunc_extern Tryz.prog 442 _ (ReflectliteType.relation "AssignableTo" ReflectliteType.assignableTo) Tryz.func442 (by kernel_rfl) (by kernel_rfl) (by kernel_rfl) (by kernel_rfl)
 have h11:=@run_callFunc_extern Tryz.prog 386 _ (ReflectliteValue.method (ReflectliteValue.valueError "reflectlite.Value.Elem" 0) ReflectliteValue.elem) Tryz.func386 (by kernel_rfl) (by kernel_rfl) (by kernel_rfl) (by kernel_rfl)
 have h12:=@run_callFunc_extern Tryz.prog 387 _ ReflectliteValue.set Tryz.func387 (by kernel_rfl) (by kernel_rfl) (by kernel_rfl) (by kernel_rfl)
 have tO:=xJ
 have tP:=wz
 have mA:=iC
 have a1:=mQ
 have a2:=mP
 have v25:=sI
 have f6:=si
 have f7:=type141
 have mK:=ua
 have mE:=tW
 have mI:=j5
 have mU:=ow
 have k27:=DW
 have k25:=CM
 have e27:=Eh
 have i25:=mX
 have nA:=El
 have hU:=oS
 have n8:=yj ⟨w.heap.size,0,none⟩ ⟨tb,0,none⟩ ((w.alloc (.cells #[.pointer (some ⟨tb,0,none⟩)] 378)).alloc (.cells #[.pointer (some ⟨1,378,none⟩),.pointer (some ⟨w.heap.size,0,none⟩),.int .u64 150] 414)) (by simp)
 have hlt:0<w.heap.size:=by
  rcases Nat.eq_zero_or_pos w.heap.size with h0|h
  ·unfold Laid at hg;simp [World.cell?,h0] at hg
  ·exact h
 have hg2:((w.alloc (.cells #[.pointer (some ⟨tb,0,none⟩)] 378)).alloc (.cells #[.pointer (some ⟨1,378,none⟩),.pointer (some ⟨w.heap.size,0,none⟩),.int .u64 150] 414)).cell? ⟨0,0,none⟩=some (.iface 440 (.agg #[.pointer (some ⟨1,324,none⟩)])):=by
  rw [World.cell?_alloc_lt _ _ ⟨0,0,none⟩ (by simp),World.cell?_alloc_lt _ _ ⟨0,0,none⟩ hlt];exact hg
 have htl:tb<w.heap.size:=World.block_lt_of_cell? _ _ ht0
 have el:=yx ⟨w.heap.size,0,none⟩ ⟨tb,0,none⟩ ((((w.alloc (.cells #[.pointer (some ⟨tb,0,none⟩)] 378)).alloc (.cells #[.pointer (some ⟨1,378,none⟩),.pointer (some ⟨w.heap.size,0,none⟩),.int .u64 150] 414)).alloc (.cells #[.pointer (some ⟨1,378,none⟩),.pointer (some ⟨w.heap.size,0,none⟩),.int .u64 150] 414)).alloc (.cells #[.string s,.iface 376 (.agg #[.int .i64 c])] 410)) (by rw [World.cell?_alloc_lt _ _ ⟨w.heap.size,0,none⟩ (by simp;omega),World.cell?_alloc_lt _ _ ⟨w.heap.size,0,none⟩ (by simp;omega)];simp)
 have st:=E6 tb (w.heap.size+1+1+1+1) c sj (((((w.alloc (.cells #[.pointer (some ⟨tb,0,none⟩)] 378)).alloc (.cells #[.pointer (some ⟨1,378,none⟩),.pointer (some ⟨w.heap.size,0,none⟩),.int .u64 150] 414)).alloc (.cells #[.pointer (some ⟨1,378,none⟩),.pointer (some ⟨w.heap.size,0,none⟩),.int .u64 150] 414)).alloc (.cells #[.string s,.iface 376 (.agg #[.int .i64 c])] 410)).alloc (.cells #[.int .i64 c] 376))
  (by rw [World.cell?_alloc_at _ _ _ _ (by simp)];rfl)
  (by rw [World.cell?_alloc_lt _ _ ⟨tb,0,none⟩ (by simp;omega),World.cell?_alloc_lt _ _ ⟨tb,0,none⟩ (by simp;omega),World.cell?_alloc_lt _ _ ⟨tb,0,none⟩ (by simp;omega),World.cell?_alloc_lt _ _ ⟨tb,0,none⟩ (by simp;omega),World.cell?_alloc_lt _ _ ⟨tb,0,none⟩ htl];exact ht0)
  (by rw [World.frozen?_alloc_old _ _ ⟨tb,0,none⟩ (by simp;omega),World.frozen?_alloc_old _ _ ⟨tb,0,none⟩ (by simp;omega),World.frozen?_alloc_old _ _ ⟨tb,0,none⟩ (by simp;omega),World.frozen?_alloc_old _ _ ⟨tb,0,none⟩ (by simp;omega),World.frozen?_alloc_old _ _ ⟨tb,0,none⟩ (Nat.ne_of_lt htl)];exact hf0)
 unfold dI;go_enter Tryz.func318,Tryz.ntmps318
 go_wp2;refine wp_loop_rounds 2 ?_
 rw [rounds_succ];go_wp2;rw [rounds_succ];go_wp2;go_ret;exact⟨rfl,rfl⟩
end Go.Proofs.YtffmodpgddecnaaGreatDoor.D
namespace Go.Proofs.YtffmodpgddecnaaGreatDoor.D
open Go.RowKit
def mV (s:ByteArray)(c:Int):Value:=if c=0 then .nilIface else dI s c
theorem j9 (s:ByteArray)(c:Int)(w:World):Calls Tryz.prog 314 #[.string s,.int .i64 c] w λe w'=>e=.returned (mV s c)/\w'=w:=by
 unfold mV;by_cases hc:c=0
 ·subst hc
  rw [if_pos rfl];go_enter Tryz.func314,Tryz.ntmps314
  go_wp2;go_ret;exact⟨rfl,rfl⟩
 ·rw [if_neg hc]
  unfold dI;have hb:(c==0)=false:=by simpa using hc
  go_enter Tryz.func314,Tryz.ntmps314
  go_wp2;go_ret;exact⟨rfl,rfl⟩
theorem Laid.but {S:Nat->Prop}{w w':World}(h:Laid w)(hb:ah S w w')(h0:¬S 0):Laid w':=ag hb h h0
theorem Laid.later {w w':World}(h:Laid w)(hb:Below w.heap.size w w'):Laid w':=h.but (S:=λ_=>False) (ah.of hb) (λh=>h)
theorem cP {s:ByteArray}{c:Int}(hc:c≠0):mV s c=dI s c:=if_neg hc
theorem my (s:ByteArray)(c:Int)(w:World)(hg:Laid w):Calls Tryz.prog 257 #[mV s c] w λe w'=>e=.returned (.int .i64 c)/\Below w.heap.size w w':=by
 by_cases hc:c=0
 ·subst hc
  unfold mV;rw [if_pos rfl];go_enter Tryz.func257,Tryz.ntmps257
  go_wp2_with (first|(go_at_call 318;refine (Fb _ _).mono ?_;rintro e w9 ⟨rfl,hw9⟩;subst hw9))
  go_ret;exact⟨rfl,ae _ _⟩
 ·rw [cP hc]
  have ha:=ab (Fs s c w.heap.size (.int .i64 0) (w.alloc (.cells #[.int .i64 0] 376)) (hg.later (ae _ _)) (by simp) (by simp [go_sem]))
  generalize hv:dI s c=v at *
  clear hv;have hb:Hid (∀W,W=((((((w.alloc (.cells #[.int .i64 0] 376)).alloc (.cells #[.pointer (some ⟨w.heap.size,0,none⟩)] 378)).alloc (.cells #[.pointer (some ⟨1,378,none⟩),.pointer (some ⟨(w.alloc (.cells #[.int .i64 0] 376)).heap.size,0,none⟩),.int .u64 150] 414)).alloc (.cells #[.pointer (some ⟨1,378,none⟩),.pointer (some ⟨(w.alloc (.cells #[.int .i64 0] 376)).heap.size,0,none⟩),.int .u64 150] 414)).alloc (.cells #[.string s,.iface 376 (.agg #[.int .i64 c])] 410)).alloc (.cells #[.int .i64 c] 376)).setCell ⟨w.heap.size,0,none⟩ (.int .i64 c)->W.cell? ⟨w.heap.size,0,none⟩=some (.int .i64 c)/\Below w.heap.size w W):=by
   intro W hW;subst hW;refine⟨?_,?_⟩
   ·refine World.cell?_setCell_same _ _ _ (?_:_=some (Value.int .i64 0))
    rw [World.cell?_alloc_lt _ _ _ (by simp;omega),World.cell?_alloc_lt _ _ _ (by simp;omega),World.cell?_alloc_lt _ _ _ (by simp;omega),World.cell?_alloc_lt _ _ _ (by simp;omega),World.cell?_alloc_lt _ _ _ (by simp)];simp
   ·have hp:=((((((ah.refl (λk=>k=w.heap.size) w).alloc (.cells #[.int .i64 0] 376)).alloc (.cells #[.pointer (some ⟨w.heap.size,0,none⟩)] 378)).alloc (.cells #[.pointer (some ⟨1,378,none⟩),.pointer (some ⟨(w.alloc (.cells #[.int .i64 0] 376)).heap.size,0,none⟩),.int .u64 150] 414)).alloc (.cells #[.pointer (some ⟨1,378,none⟩),.pointer (some ⟨(w.alloc (.cells #[.int .i64 0] 376)).heap.size,0,none⟩),.int .u64 150] 414)).alloc (.cells #[.string s,.iface 376 (.agg #[.int .i64 c])] 410)).alloc (.cells #[.int .i64 c] 376)
    exact ah.below (Below.refl _ _) (hp.setCell (p:=⟨w.heap.size,0,none⟩) rfl (.int .i64 c)) (λk hk=>by rw [hk];exact Nat.le_refl _)
  go_enter Tryz.func257,Tryz.ntmps257
  go_upto_region 3 with (first|(go_at_call 318;refine ha.out.mono ?_;rintro e w9 ⟨rfl,hw9⟩;obtain⟨x0,hB⟩:=hb.out w9 hw9;clear hw9;have HB:=ab hB;clear hB))
  go_wp2;go_ret;exact⟨rfl,HB.out⟩
end Go.Proofs.YtffmodpgddecnaaGreatDoor.D
namespace Go.Proofs.YtffmodpgddecnaaGreatDoor.D
open Go.RowKit
open Go.Proofs.YtffmodpgddecnaaGreatDoor.H (aq Cp)
structure Hd extends Par where
 g:Nat
 gb:Nat
 A:Ad
 kn:Nat
 qg:Nat
 qb:Nat
def Hd.Wr (H:Hd)(k:Nat):Prop:=k=H.g\/k=H.qb\/H.A.Wr k
structure Hd.Ap (H:Hd):Prop where
 cg:∀k,H.A.jD k->k≠H.g
 cq:∀k,H.A.jD k->k≠H.qb
 b:0<H.n->H.gb≠H.qb/\¬H.A.Wr H.gb
 gq:H.g≠H.qb
 q:H.qg≠H.g/\¬H.A.Wr H.qg
 z:∀k,H.Wr k->k≠0
structure eM (w:World)(H:Hd)(s:aP):Prop where
 d:Dr w H.g H.gb H.n H.c s.t
 cat:ie w H.A H.kn H.mo s.X s.l
 qu:Q.Qu w H.qg H.qb H.e H.a s.L
 laid:Laid w
 ap:H.Ap
theorem eM.later {w w':World}{H:Hd}{s:aP}(h:eM w H s)(hb:Below w.heap.size w w'):eM w' H s :=
 ⟨h.d.later hb,h.cat.later hb,h.qu.later hb,h.laid.later hb,h.ap⟩
theorem dm {A:Ad}{k:Nat}(h:A.Wr k):A.jD k:=.inr (.inr h)
def Hd.jD (H:Hd)(k:Nat):Prop:=k=0\/k=H.g\/(0<H.n/\k=H.gb)\/k=H.qg\/k=H.qb\/H.A.jD k
theorem eM.sj {w:World}{H:Hd}{s:aP}(h:eM w H s):∀k,H.jD k->k<w.heap.size:=λk hk=>by
 rcases hk with rfl|rfl|⟨h0,rfl⟩|rfl|rfl|hk
 ·exact World.block_lt_of_cell? _ _ h.laid
 ·exact h.d.lt
 ·exact h.d.po h0
 ·exact h.qu.B9
 ·exact h.qu.blt
 ·exact h.cat.lt k hk
theorem eM.but {S:Nat->Prop}{w w':World}{H:Hd}{s:aP}(h:eM w H s)(hb:ah S w w')(hS:∀k,H.jD k->¬S k):eM w' H s :=
 ⟨h.d.vW hb (hS _ (.inr (.inl rfl))) (λh0=>hS _ (.inr (.inr (.inl ⟨h0,rfl⟩)))),h.cat.but hb (λk hk=>hS k (.inr (.inr (.inr (.inr (.inr hk)))))),h.qu.but hb (hS _ (.inr (.inr (.inr (.inl rfl))))) (hS _ (.inr (.inr (.inr (.inr (.inl rfl)))))),h.laid.but hb (hS 0 (.inl rfl)),h.ap⟩
theorem eM.own {w:World}{H:Hd}{s:aP}{b:Nat}(h:eM w H s)(hb:∀k,H.jD k->k<b)(o:Nat)(u:Value):eM (w.setCell ⟨b,o,none⟩ u) H s :=
 h.but (S:=(·=b)) ((ah.refl (·=b) _).own o u) (λk hk e=>by have:=hb k hk;omega)
theorem Hd.dm {H:Hd}{k:Nat}(h:H.Wr k):H.jD k:=by
 rcases h with rfl|rfl|hk
 ·exact .inr (.inl rfl)
 ·exact .inr (.inr (.inr (.inr (.inl rfl))))
 ·exact .inr (.inr (.inr (.inr (.inr (.inr (.inr hk))))))
theorem eM.draw {w w':World}{H:Hd}{s:aP}{t:Nat}(h:eM w H s)(hb:ah (·=H.g) w w')(hd:Dr w' H.g H.gb H.n H.c t):eM w' H { s with t:=t } :=
 ⟨hd,h.cat.but hb h.ap.cg,h.qu.but hb h.ap.q.1 h.ap.gq.symm,h.laid.but hb (λe=>h.ap.z _ (.inl rfl) e.symm),h.ap⟩
theorem eM.enter {w w':World}{H:Hd}{s:aP}{X:List Tk}{l:Fo}(h:eM w H s)(hb:ah H.A.Wr w w')(hc:ie w' H.A H.kn H.mo X l):eM w' H { s with X:=X,l:=l } :=
 ⟨h.d.vW hb (λe=>h.ap.cg _ (dm e) rfl) (λh0=>(h.ap.b h0).2),hc,h.qu.but hb h.ap.q.2 (λe=>h.ap.cq _ (dm e) rfl),h.laid.but hb (λe=>h.ap.z 0 (.inr (.inr e)) rfl),h.ap⟩
theorem eM.count {w w':World}{H:Hd}{s:aP}{L:List Int}(h:eM w H s)(hb:ah (λk=>k=H.qb) w w')(hq:Q.Qu w' H.qg H.qb H.e H.a L):eM w' H { s with L:=L } :=
 ⟨h.d.vW hb h.ap.gq (λh0=>(h.ap.b h0).1),h.cat.but hb h.ap.cq,hq,h.laid.but hb (λe=>h.ap.z _ (.inr (.inl rfl)) e.symm),h.ap⟩
theorem ah.JH {w w':World}{H:Hd}(h:ah (·=H.g) w w'):ah H.Wr w w':=h.mono (λk hk=>.inl hk)
theorem ah.JE {w w':World}{H:Hd}(h:ah H.A.Wr w w'):ah H.Wr w w':=h.mono (λk hk=>.inr (.inr hk))
theorem ah.JF {w w':World}{H:Hd}(h:ah (λk=>k=H.qb) w w'):ah H.Wr w w':=h.mono (λk hk=>.inr (.inl hk))
def pB (U:World)(H:Hd)(s:aP)(D:Nat×Int×Nat)(e:Ending)(w':World):Prop :=
 e=.returned (.tuple #[.agg #[.int .u64 (cD D.1),.int .u64 (cB D.1)],.int .i64 D.2.1])/\eM w' H { s with t:=D.2.2 }/\ah (·=H.g) U w'
def gX (U:World)(H:Hd)(s:aP)(R:EJ)(e:Ending)(w':World):Prop :=
 e=.returned (.tuple #[.int .i64 R.num,.int .i64 R.code])/\eM w' H { s with X:=R.X,l:=R.l }/\ah H.A.Wr U w'
def ik (H:Hd):Value:=.agg #[.pointer (some ⟨H.g,0,none⟩),.pointer (some ⟨H.A.g,0,none⟩),.pointer (some ⟨H.qg,0,none⟩)]
structure Mk (w:World)(b:Nat)(H:Hd):Prop where
 c0:w.cell? ⟨b,0,none⟩=some (.pointer (some ⟨H.g,0,none⟩))
 c1:w.cell? ⟨b,1,none⟩=some (.pointer (some ⟨H.A.g,0,none⟩))
 c2:w.cell? ⟨b,2,none⟩=some (.pointer (some ⟨H.qg,0,none⟩))
theorem Mk.but {S:Nat->Prop}{w w':World}{b:Nat}{H:Hd}(h:Mk w b H)(hb:ah S w w')(hn:¬S b):Mk w' b H:=⟨ag hb h.c0 hn,ag hb h.c1 hn,ag hb h.c2 hn⟩
theorem Mk.later {w w':World}{b:Nat}{H:Hd}(h:Mk w b H)(hb:Below w.heap.size w w'):Mk w' b H:=h.but (S:=λ_=>False) (ah.of hb) (λh=>h)
theorem yC {w:World}{H:Hd}{s:aP}(h:eM w H s):Calls Tryz.prog 316 #[.pointer (some ⟨H.g,0,none⟩)] w (pB w H s (cX H.toPar s.t)):=by
 unfold cX;by_cases ht:s.t<H.n
 ·rw [if_pos ht]
  refine (nR H.g H.gb H.n H.c s.t w h.d ht).mono ?_
  rintro e w' ⟨rfl,hd,hb⟩
  exact⟨rfl,h.draw hb hd,hb⟩
 ·rw [if_neg ht]
  have hle:=h.d.le
  have he:s.t=H.n:=by omega
  have hd:=h.d
  rw [he] at hd;refine (q9 H.g H.gb H.n H.c w hd).mono ?_
  rintro e w' ⟨rfl,hb⟩
  have z1:cD 0=0:=by simp [cD]
  have z2:cB 0=0:=by simp [cB]
  exact⟨by simp only [z1,z2],h.draw (ah.of hb) (h.d.later hb),ah.of hb⟩
theorem DU {w:World}{H:Hd}{s:aP}(h:eM w H s){mk:Nat}(hm:Mk w mk H)(c:Cp)(hw:c.2.1<aq/\c.2.2<aq) :
  Calls Tryz.prog 317 #[iu c,.pointer (some ⟨mk,0,none⟩)] w (gX w H s (kf H.mo s.X s.l c 31)):=by
 obtain⟨o,hi,lo⟩:=c
 have hB:=ae w (Obj.cells #[.int .i64 o,.int .u64 (hi:Int),.int .u64 (lo:Int)] 37)
 have y1:=(hm.later hB).c1
 have HC:=ab (ze (h.later hB).cat (o,hi,lo) 31 hw)
 have HT:=ab (h.later hB)
 have HB:=ab hB
 clear h hm hB;go_enter Tryz.func317,Tryz.ntmps317
 go_upto_region 2 with (first|(go_at_call 202;refine HC.out.mono ?_;rintro e w2 ⟨rfl,hc2,hb2⟩;have P1:=ab hc2;have PB:=ab hb2;clear hc2 hb2))
 exact bodyPost_ret (v:=.tuple #[.int .i64 (kf H.mo s.X s.l (o,hi,lo) 31).num,.int .i64 (kf H.mo s.X s.l (o,hi,lo) 31).code]) (by simp [results,Tryz.results317,go_sem]) rfl ⟨rfl,HT.out.enter PB.out P1.out,(ah.of HB.out).trans PB.out⟩
theorem E8 {w:World}{H:Hd}{s:aP}(h:eM w H s)(hcs:∀i,i<H.n->H.c i<aq*aq){mk pc:Nat}(hm:Mk w mk H)(o:Int)(hp:w.cell? ⟨pc,0,none⟩=some (.int .i64 o)) :
  Calls Tryz.prog 326 #[.pointer (some ⟨mk,0,none⟩),.pointer (some ⟨pc,0,none⟩)] w (pB w H s (bg H.toPar s o)):=by
 have hB:=ae w (Obj.cells #[.int .u64 0,.int .u64 0] 30)
 have y0:=(hm.later hB).c0
 have y1:=(hm.later hB).c1
 have y2:=cell_later hB hp
 have hg:=h.d.lt
 have HO:=ab h.sj
 have HC:=ab (C6 (h.later hB).d hcs (h.later hB).cat h.ap.cg o)
 have HT:=ab (h.later hB)
 have HB:=ab hB
 have HL:Hid (az (w.alloc (Obj.cells #[.int .u64 0,.int .u64 0] 30)) ⟨w.heap.size,0,none⟩ (.int .u64 0)/\az (w.alloc (Obj.cells #[.int .u64 0,.int .u64 0] 30)) ⟨w.heap.size,1,none⟩ (.int .u64 0)):=⟨⟨by simp [go_sem],by simp [go_sem]⟩,⟨by simp [go_sem],by simp [go_sem]⟩⟩
 clear h hm hB hp;unfold pB bg;go_enter Tryz.func326,Tryz.ntmps326
 obtain⟨R,hR⟩:∃R,R=bM (Dc s.X s.l o) H.c H.n 9 s.t:=⟨_,rfl⟩
 unfold fP at HC;rw [<-hR] at HC;rw [<-hR];clear hR;go_upto_region 2 with (first|(go_at_call 327;refine HC.out.mono ?_;rintro e w2 ⟨rfl,hD,hB⟩;have HD:=ab hD;have PB:=ab hB;have QX:Hid (az w2 ⟨w.heap.size,0,none⟩ (.int .u64 0)/\az w2 ⟨w.heap.size,1,none⟩ (.int .u64 0)):=⟨HL.out.1.but hB (by show ¬(w.heap.size=H.g);omega),HL.out.2.but hB (by show ¬(w.heap.size=H.g);omega)⟩;clear hD hB;have x0:=QX.out.1.1;have x1:=QX.out.2.1;have f0:=QX.out.1.2;have f1:=QX.out.2.2))
 have HQ:=ab (iU x0 x1 (.int .u64 (cD R.1)) (.int .u64 (cB R.1)))
 have hbb:=((((ah.of HB.out).trans PB.out).put (p:=⟨w.heap.size,0,none⟩) (Nat.le_refl _) (.int .u64 (cD R.1))).put (p:=⟨w.heap.size,1,none⟩) (Nat.le_refl _) (.int .u64 (cB R.1)))
 have hfin:eM ((w2.setCell ⟨w.heap.size,0,none⟩ (.int .u64 (cD R.1))).setCell ⟨w.heap.size,1,none⟩ (.int .u64 (cB R.1))) H { s with t:=R.2.2 }:=((HT.out.draw PB.out HD.out).own HO.out 0 _).own HO.out 1 _
 exact bodyPost_ret (v:=.tuple #[.agg #[.int .u64 (cD R.1),.int .u64 (cB R.1)],.int .i64 R.2.1]) (by simp [results,Tryz.results326,go_sem,HQ.out.1,HQ.out.2]) rfl ⟨rfl,hfin,hbb⟩
theorem C8 {w:World}{H:Hd}{s:aP}(h:eM w H s){mk nb rb:Nat}(hm:Mk w mk H)(n r:Int)(hn:w.cell? ⟨nb,0,none⟩=some (.int .i64 n))(hr:w.cell? ⟨rb,0,none⟩=some (.int .i64 r))(c:Cp)(hw:c.2.1<aq/\c.2.2<aq) :
  Calls Tryz.prog 328 #[iu c,.pointer (some ⟨mk,0,none⟩),.pointer (some ⟨nb,0,none⟩),.pointer (some ⟨rb,0,none⟩)] w (gX w H s (gy H.mo s.X s.l n c r)):=by
 obtain⟨o,hi,lo⟩:=c
 have hB:=ae w (Obj.cells #[.int .i64 o,.int .u64 (hi:Int),.int .u64 (lo:Int)] 37)
 have y1:=(hm.later hB).c1
 have y2:=cell_later hB hn
 have y3:=cell_later hB hr
 have HC:=ab (AM (h.later hB).cat n (o,hi,lo) r hw)
 have HT:=ab (h.later hB)
 have HB:=ab hB
 clear h hm hB hn hr;go_enter Tryz.func328,Tryz.ntmps328
 go_upto_region 2 with (first|(go_at_call 201;refine HC.out.mono ?_;rintro e w2 ⟨rfl,hc2,hb2⟩;have P1:=ab hc2;have PB:=ab hb2;clear hc2 hb2))
 exact bodyPost_ret (v:=.tuple #[.int .i64 (gy H.mo s.X s.l n (o,hi,lo) r).num,.int .i64 (gy H.mo s.X s.l n (o,hi,lo) r).code]) (by simp [results,Tryz.results328,go_sem]) rfl ⟨rfl,HT.out.enter PB.out P1.out,(ah.of HB.out).trans PB.out⟩
end Go.Proofs.YtffmodpgddecnaaGreatDoor.D
