import Derived.Test.YtffmodpgddecnaaGreatDoorZ09
set_option linter.unusedVariables false
set_option linter.unusedSimpArgs false
namespace Go.Proofs.YtffmodpgddecnaaGreatDoor.R
def aq:Nat:=18446744073709551616
def cI (v k:Nat):List Nat:=(List.range k).map λi=>v / 256 ^ i%256
theorem iT (v:Nat):cI v 0=[]:=rfl
theorem iR (v k:Nat):cI v (k+1)=cI v k++[v / 256 ^ k%256]:=by simp [cI,List.range_succ]
theorem cT (v k:Nat):(cI v k).length=k:=by simp [cI]
theorem oq (v k:Nat):∀x∈cI v k,x<256:=by
 intro x hx;simp only [cI,List.mem_map] at hx;obtain⟨i,_,rfl⟩:=hx
 omega
theorem uY (v k j:Nat)(h:k<=j):cI (v%256 ^ j) k=cI v k:=by
 unfold cI;apply List.map_congr_left
 intro i hi;have hi:i<k:=List.mem_range.1 hi
 have e:(256:Nat) ^ j=256 ^ i*(256*256 ^ (j - i - 1)):=by rw [<-Nat.mul_assoc,<-Nat.pow_succ,<-Nat.pow_add];congr 1;omega
 rw [e,Nat.mod_mul_right_div_self,Nat.mod_mul_right_mod]
end Go.Proofs.YtffmodpgddecnaaGreatDoor.R
namespace Go.Proofs.YtffmodpgddecnaaGreatDoor.R
structure Cl where
 op:Int
 aB:Int
 size:Int
 obj:Int
 hi:Nat
 lo:Nat
 given:Bool
 aA:Int
 off:Int
 n:Int
 data:List Nat
 index:Int
 ax:List Int
def clz (op aB:Int):Cl:=⟨op,aB,0,0,0,0,false,0,0,0,[],0,[]⟩
def wi (n a b:Int):Bool:=decide (a<=n)&&decide (n<=b)
theorem gE {n a b:Int}:wi n a b=true↔a<=n/\n<=b:=by simp [wi]
def zu (n:Int):Bool:=wi n (-2147483648) 2147483647
def uQ (l:List Int):Bool:=decide (l.length<=255)&&l.all (λg=>wi g 0 65535)
def dM (c:Cl):Bool:=wi c.aB 0 65535&&zu c.size&&zu c.off&&zu c.n&&wi c.obj 0 4611686018427387904&&wi c.aA 0 255&&wi c.index 0 65535&&decide (c.data.length<=1025)&&uQ c.ax
def Ew (c:Cl):Bool:=if c.op=5\/c.op=6 then c.given||decide (c.hi=0/\c.lo=0) else true
def bH (op:Int):List Nat :=
 if op=1 then [0] else if op=2\/op=4\/op=7 then [1,2] else if op=3 then [1,2,4] else if op=5 then [1,3,2,5,6] else if op=6 then [1,3,2,5,7] else if op=8 then [8] else if op=9 then [9] else []
def mv (p:Nat)(c d:Cl):Cl :=
 if p=0 then { c with size:=d.size } else if p=1 then { c with obj:=d.obj } else if p=2 then { c with hi:=d.hi,lo:=d.lo } else if p=3 then { c with given:=d.given } else if p=4 then { c with aA:=d.aA }
 else if p=5 then { c with off:=d.off } else if p=6 then { c with n:=d.n } else if p=7 then { c with data:=d.data } else if p=8 then { c with index:=d.index } else if p=9 then { c with ax:=d.ax } else c
def wo (c:Cl)(p:Nat):Cl:=mv p c (clz 0 0)
def JD (c:Cl):Cl:=(bH c.op).foldl wo c
def FN (c:Cl):Bool:=decide (c.size=0)&&decide (c.obj=0/\c.hi=0/\c.lo=0)&&!c.given&&decide (c.aA=0)&&decide (c.off=0)&&decide (c.n=0)&&decide (c.data.length=0)&&decide (c.index=0)&&decide (c.ax.length=0)
def fm (c:Cl):Bool:=wi c.op 1 10&&dM c&&Ew c&&FN (JD c)
def sg (n:Int):Nat:=(n%4294967296).toNat
theorem I_ (n:Int):sg n<4294967296:=by unfold sg;omega
def g2 (l:List Int):List Nat:=(l.map (λg=>cI g.toNat 2)).flatten
def jC (c:Cl)(p:Nat):List Nat :=
 if p=0 then cI (sg c.size) 4 else if p=1 then cI c.obj.toNat 8 else if p=2 then cI c.lo 8++cI c.hi 8 else if p=3 then cI (if c.given then 1 else 0) 1 else if p=4 then cI c.aA.toNat 1
 else if p=5 then cI (sg c.off) 4 else if p=6 then cI (sg c.n) 4 else if p=7 then c.data else if p=8 then cI c.index.toNat 2 else if p=9 then cI c.ax.length 1++g2 c.ax else []
def dG (c:Cl):List Nat->List Nat
 | []=>[]
 | p::ps=>jC c p++dG c ps
theorem pX (c:Cl)(l m:List Nat):dG c (l++m)=dG c l++dG c m:=by
 induction l with
 | nil=>rfl
 | cons p l ih=>simp [dG,ih]
def ly (c:Cl):List Nat:=cI c.op.toNat 1++cI c.aB.toNat 2++dG c (bH c.op)
theorem nZ (l m:List Int):g2 (l++m)=g2 l++g2 m:=by simp [g2]
theorem yv (g:Int):g2 [g]=cI g.toNat 2:=by simp [g2]
theorem nj (l:List Int):(g2 l).length=2*l.length:=by
 induction l with
 | nil=>rfl
 | cons g l ih=>rw [show g::l=[g]++l from rfl,nZ,List.length_append,yv,ih,cT];simp;omega
def KS (c:Cl)(p:Nat):Prop :=
 (p=0->zu c.size=true)/\(p=1->wi c.obj 0 4611686018427387904=true)/\(p=2->c.hi<18446744073709551616/\c.lo<18446744073709551616)/\(p=4->wi c.aA 0 255=true)/\(p=5->zu c.off=true)/\(p=6->zu c.n=true) /\
 (p=7->c.data.length<=1025)/\(p=8->wi c.index 0 65535=true)/\(p=9->uQ c.ax=true)
end Go.Proofs.YtffmodpgddecnaaGreatDoor.R
namespace Go.Proofs.YtffmodpgddecnaaGreatDoor.R
theorem qz (op:Int):(∀q∈bH op,q<10)/\(bH op).Nodup:=by
 unfold bH;repeat' split
 all_goals decide
theorem dx {c:Cl}(h:dM c=true)(h1:c.hi<18446744073709551616)(h2:c.lo<18446744073709551616)(p:Nat):KS c p:=by
 simp only [dM,Bool.and_eq_true,decide_eq_true_eq] at h;obtain⟨⟨⟨⟨⟨⟨⟨⟨a,b⟩,c⟩,d⟩,e⟩,f⟩,g⟩,i⟩,j⟩:=h
 exact⟨λ_=>b,λ_=>e,λ_=>⟨h1,h2⟩,λ_=>f,λ_=>c,λ_=>d,λ_=>i,λ_=>g,λ_=>j⟩
theorem D4 {c:Cl}:FN c=true↔c.size=0/\c.obj=0/\c.hi=0/\c.lo=0/\c.given=false/\c.aA=0/\c.off=0/\c.n=0/\c.data=[]/\c.index=0/\c.ax=[]:=by
 simp only [FN,Bool.and_eq_true,decide_eq_true_eq,Bool.not_eq_true',List.length_eq_zero_iff];constructor
 ·rintro ⟨⟨⟨⟨⟨⟨⟨⟨a,b⟩,c⟩,d⟩,e⟩,f⟩,g⟩,h⟩,i⟩
  exact⟨a,b.1,b.2.1,b.2.2,c,d,e,f,g,h,i⟩
 ·rintro ⟨a,b1,b2,b3,c,d,e,f,g,h,i⟩
  exact⟨⟨⟨⟨⟨⟨⟨⟨a,b1,b2,b3⟩,c⟩,d⟩,e⟩,f⟩,g⟩,h⟩,i⟩
end Go.Proofs.YtffmodpgddecnaaGreatDoor.R
namespace Go.Proofs.YtffmodpgddecnaaGreatDoor.R
open Go.RowKit
theorem jr:(Tryz.prog.info? 5).map (λi=>(i.zero,i.size,i.bytes))=some (some (.int .u8 0),1,1):=by kernel_rfl
def bG (l:List Nat):List Value:=l.map λ(n:Nat)=>Value.int .u8 (n:Int)
theorem aM (l:List Nat):(bG l).length=l.length:=by simp [bG]
theorem fE (l m:List Nat):bG (l++m)=bG l++bG m:=by simp [bG]
theorem oR (l:List Nat)(i:Nat)(h:i<l.length):(bG l)[i]?=some (.int .u8 ((l[i]:Nat):Int)):=by simp [bG,h]
theorem fH (l:List Nat):∀u∈bG l,u.oneCell'=true:=by
 intro u hu;simp only [bG,List.mem_map] at hu;obtain⟨n,_,rfl⟩:=hu
 rfl
structure Row (w:World)(a:Option Addr)(n cap:Nat)(L:List Nat):Prop where
 len:L.length=n
 cap_:n<=cap
 none_:a=none->n=0/\cap=0
 cells:∀x,a=some x->∀j u,(bG L)[j]?=some u->w.cell? (x.add j)=some u
 small:∀x∈L,x<256
theorem Row.later {W w1:World}{a:Option Addr}{n cap:Nat}{L:List Nat}(hb:Below W.heap.size W w1)(h:Row W a n cap L):Row w1 a n cap L :=
 ⟨h.len,h.cap_,h.none_,λx hx j u hu=>cell_later hb (h.cells x hx j u hu),h.small⟩
theorem dS (w:World):Row w none 0 0 []:=⟨rfl,Nat.le_refl _,λ_=>⟨rfl,rfl⟩,λ_ h=>(by cases h),λ_ h=>(by cases h)⟩
theorem Row.at {w:World}{b o n cap:Nat}{L:List Nat}(hl:L.length=n)(hc:n<=cap)(hs:∀x∈L,x<256)(h:∀i (hi:i<L.length),w.cell? ⟨b,o+i,none⟩=some (.int .u8 ((L[i]:Nat):Int))):Row w (some ⟨b,o,none⟩) n cap L:=by
 refine⟨hl,hc,λh=>(by cases h),λx hx j u hu=>?_,hs⟩
 cases hx
 rw [bB];have hj:j<L.length:=by have:=(List.getElem?_eq_some_iff.1 hu).1;rwa [aM] at this
 rw [oR L j hj] at hu;cases hu
 exact h j hj
structure Own (w:World)(base:Nat)(a:Option Addr)(n cap:Nat)(L:List Nat):Prop where
 row:w.ownsRow base 5 1 (.slice a n cap) n (bG L)
 small:∀x∈L,x<256
theorem Own.len {w:World}{base:Nat}{a:Option Addr}{n cap:Nat}{L:List Nat}(h:Own w base a n cap L):L.length=n:=by
 have:=h.row.1
 rw [aM,Nat.mul_one] at this;exact this
theorem Own.read {w:World}{base:Nat}{a:Option Addr}{n cap:Nat}{L:List Nat}(h:Own w base a n cap L):Row w a n cap L:=by
 refine⟨h.len,?_,?_,?_,h.small⟩
 ·rcases h.row.2 with ⟨h,hn⟩|⟨g,c,cur,hv,_,_,hc,_⟩
  ·omega
  ·simp only [Value.slice.injEq] at hv;omega
 ·intro ha
  rcases h.row.2 with ⟨h,hn⟩|⟨g,c,cur,hv,_,_,hc,_⟩
  ·simp only [Value.slice.injEq] at h;omega
  ·subst ha;simp at hv
 ·intro x hx j u hu
  rcases h.row.2 with ⟨h,hn⟩|⟨g,c,cur,hv,_,_,hc,_⟩
  ·subst hx;simp at h
  ·subst hx
   simp only [Value.slice.injEq,Option.some.injEq] at hv;obtain⟨rfl,_,rfl⟩:=hv
   exact h.row.cells (g:=g) rfl j u hu
theorem nM {W w1:World}{base:Nat}{e:TypeId}{size:Nat}{v:Value}{n:Nat}{xs:List Value}(hb:Below W.heap.size W w1)(h:W.ownsRow base e size v n xs):w1.ownsRow base e size v n xs:=by
 refine⟨h.1,?_⟩
 rcases h.2 with h|⟨g,cap,cur,hv,hg,hh,r⟩
 ·exact .inl h
 ·have hlt:g<W.heap.size:=by
   rcases Nat.lt_or_ge g W.heap.size with h1|h1
   ·exact h1
   ·rw [Array.getElem?_eq_none h1] at hh;cases hh
  exact .inr ⟨g,cap,cur,hv,hg,by rw [hb.block g hlt];exact hh,r⟩
theorem bu {w:World}{base:Nat}{e:TypeId}{size:Nat}{v:Value}{n:Nat}{xs:List Value}(h:w.ownsRow base e size v n xs):∀k,v.ownBlock=some k->base<=k:=by
 intro k hk;rcases h.2 with ⟨rfl,_⟩|⟨g,cap,cur,rfl,hg,_⟩
 ·cases hk
 ·simp [Value.ownBlock] at hk;omega
theorem Own.later {W w1:World}{base:Nat}{a:Option Addr}{n cap:Nat}{L:List Nat}(hb:Below W.heap.size W w1)(h:Own W base a n cap L):Own w1 base a n cap L:=⟨nM hb h.row,h.small⟩
theorem Own.alloc {w:World}{base:Nat}{a:Option Addr}{n cap:Nat}{L:List Nat}(h:Own w base a n cap L)(o:Obj):Own (w.alloc o) base a n cap L:=h.later (ae _ _)
theorem Own.mono {w:World}{base b:Nat}{a:Option Addr}{n cap:Nat}{L:List Nat}(h:Own w base a n cap L)(hb:b<=base):Own w b a n cap L:=⟨gr h.row hb,h.small⟩
theorem Own.bT {w:World}{base:Nat}{a:Option Addr}{n cap:Nat}{L:List Nat}(h:Own w base a n cap L):∀k,aJ a k->base<=k:=λk hk=>bu h.row k (aJ.of.2 hk)
theorem Gr.below {w w':World}{base:Nat}{a a':Option Addr}{n cap:Nat}{L:List Nat}(h:Own w base a n cap L)(g:Gr a a' w w')(hb:base<=w.heap.size):Below base w w' :=
 ⟨g.but.os,g.but.tape,g.but.output,g.but.size,λk hk=>g.but.block k (by omega) (λhs=>by have:=h.bT k hs;omega)⟩
theorem kT {w:World}{base:Nat}{a:Option Addr}{n cap:Nat}{L:List Nat}{b:Option Addr}{m c:Nat}{M:List Nat}(h:Own w base a n cap L)(k:Row w b m c M)(hb:base<=w.heap.size)(hr:n+m<=140737488355328) :
  ∃a' cap' w',(Builtin.append_ #[38,38] 38 #[.slice a n cap,.slice b m c]).run Tryz.prog w=.ok (.slice a' (n+m) cap') w'/\Own w' base a' (n+m) cap' (L++M)/\Gr a a' w w':=by
 obtain⟨i,hi,hz0,hz1,hz2⟩:=info_parts jr
 have hsm:∀x∈L++M,x<256:=λx hx=>by
  rcases List.mem_append.1 hx with h1|h1
  ·exact h.small x h1
  ·exact k.small x h1
 cases b with
 | none =>
  obtain⟨rfl,rfl⟩:=k.none_ rfl
  have hM:M=[]:=List.eq_nil_of_length_eq_zero k.len
  subst hM;have hr:=run_append_owned_none (P:=Tryz.prog) (w:=w) base 38 38 5 i 1 Tryz.underlying38 hi _ n _ h.row
  exact⟨a,cap,w,hr,⟨by simpa using h.row,hsm⟩,Gr.refl _ _⟩
 | some x =>
  obtain⟨v',w',hr,h2,h3,_,h5⟩:=run_append_own_at (P:=Tryz.prog) w base 38 38 5 i _ 1 1 Tryz.underlying38 hi hz0 hz1 hz2 rfl (by decide) _ n _ h.row x m c (bG M) (by rw [aM,k.len,Nat.mul_one]) (k.cells x rfl) (fH M) (by unfold maxLen;omega) (by omega) hb
  obtain⟨a',cap',rfl⟩:∃a' cap',v'=.slice a' (n+m) cap':=by
   rcases h2.2 with ⟨h,h'⟩|⟨g',cap',_,h,_⟩
   ·exact⟨.none,0,by rw [h,h']⟩
   ·exact⟨_,cap',h⟩
  refine⟨a',cap',w',hr,⟨by rw [fE];exact h2,hsm⟩,⟨h3.os,h3.tape,h3.output,h3.size,λj hj hn=>h3.block j hj (λe=>hn (aJ.of.1 e.symm))⟩,λj hj=>?_⟩
  rcases h5 with h5|h5
  ·rw [aJ.of.2 hj] at h5
   exact .inl (aJ.of.1 h5.symm)
  ·rw [aJ.of.2 hj] at h5
   right
   simp at h5
   omega
theorem Row.one (w:World)(b:Nat)(hb:b<256):Row (w.alloc (Obj.cells #[Value.int .u8 (b:Int)] 5)) (some ⟨w.heap.size,0,.none⟩) 1 1 [b] :=
 Row.at (L:=[b]) rfl (Nat.le_refl _) (λx hx=>by simp at hx;omega) (λi hi=>by
  have:i=0:=by simp at hi;omega
  subst this;simp [go_sem])
end Go.Proofs.YtffmodpgddecnaaGreatDoor.R
