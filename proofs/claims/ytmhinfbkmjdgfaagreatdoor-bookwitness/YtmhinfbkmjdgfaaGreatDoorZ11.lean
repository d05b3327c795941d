import Derived.Test.YtmhinfbkmjdgfaaGreatDoorZ10
set_option linter.unusedVariables false
set_option linter.unusedSimpArgs false
set_option maxRecDepth 100000
set_option maxHeartbeats 4000000
namespace Go.Proofs.YtmhinfbkmjdgfaaGreatDoor.R
structure Cl where
 op:Int
 aE:Int
 size:Int
 obj:Int
 hi:Nat
 lo:Nat
 given:Bool
 aD:Int
 off:Int
 n:Int
 data:List Nat
 index:Int
 aH:List Int
def clz (op aE:Int):Cl:=⟨op,aE,0,0,0,0,false,0,0,0,[],0,[]⟩
def wi (n a b:Int):Bool:=decide (a<=n)&&decide (n<=b)
theorem cU {n a b:Int}:wi n a b=true↔a<=n/\n<=b:=by simp [wi]
def xn (n:Int):Bool:=wi n (-2147483648) 2147483647
def ux (l:List Int):Bool:=decide (l.length<=255)&&l.all (λg=>wi g 0 65535)
def dQ (c:Cl):Bool:=wi c.aE 0 65535&&xn c.size&&xn c.off&&xn c.n&&wi c.obj 0 4611686018427387904&&wi c.aD 0 255&&wi c.index 0 65535&&decide (c.data.length<=1025)&&ux c.aH
def Dy (c:Cl):Bool:=if c.op=5\/c.op=6 then c.given||decide (c.hi=0/\c.lo=0) else true
def bT (op:Int):List Nat :=
 if op=1 then [0] else if op=2\/op=4\/op=7 then [1,2] else if op=3 then [1,2,4] else if op=5 then [1,3,2,5,6] else if op=6 then [1,3,2,5,7] else if op=8 then [8] else if op=9 then [9] else []
def mv (p:Nat)(c d:Cl):Cl :=
 if p=0 then { c with size:=d.size } else if p=1 then { c with obj:=d.obj } else if p=2 then { c with hi:=d.hi,lo:=d.lo } else if p=3 then { c with given:=d.given } else if p=4 then { c with aD:=d.aD }
 else if p=5 then { c with off:=d.off } else if p=6 then { c with n:=d.n } else if p=7 then { c with data:=d.data } else if p=8 then { c with index:=d.index } else if p=9 then { c with aH:=d.aH } else c
def wo (c:Cl)(p:Nat):Cl:=mv p c (clz 0 0)
def Ia (c:Cl):Cl:=(bT c.op).foldl wo c
def ET (c:Cl):Bool:=decide (c.size=0)&&decide (c.obj=0/\c.hi=0/\c.lo=0)&&!c.given&&decide (c.aD=0)&&decide (c.off=0)&&decide (c.n=0)&&decide (c.data.length=0)&&decide (c.index=0)&&decide (c.aH.length=0)
def fm (c:Cl):Bool:=wi c.op 1 10&&dQ c&&Dy c&&ET (Ia c)
def sg (n:Int):Nat:=(n%4294967296).toNat
theorem Hz (n:Int):sg n<4294967296:=by unfold sg;omega
def g2 (l:List Int):List Nat:=(l.map (λg=>bj g.toNat 2)).flatten
def iT (c:Cl)(p:Nat):List Nat :=
 if p=0 then bj (sg c.size) 4 else if p=1 then bj c.obj.toNat 8 else if p=2 then bj c.lo 8++bj c.hi 8 else if p=3 then bj (if c.given then 1 else 0) 1 else if p=4 then bj c.aD.toNat 1
 else if p=5 then bj (sg c.off) 4 else if p=6 then bj (sg c.n) 4 else if p=7 then c.data else if p=8 then bj c.index.toNat 2 else if p=9 then bj c.aH.length 1++g2 c.aH else []
def dO (c:Cl):List Nat->List Nat
 | []=>[]
 | p::ps=>iT c p++dO c ps
theorem qB (c:Cl)(l m:List Nat):dO c (l++m)=dO c l++dO c m:=by
 induction l with
 | nil=>rfl
 | cons p l ih=>simp [dO,ih]
def ly (c:Cl):List Nat:=bj c.op.toNat 1++bj c.aE.toNat 2++dO c (bT c.op)
theorem om (l m:List Int):g2 (l++m)=g2 l++g2 m:=by simp [g2]
theorem Af (g:Int):g2 [g]=bj g.toNat 2:=by simp [g2]
theorem nZ (l:List Int):(g2 l).length=2*l.length:=by
 induction l with
 | nil=>rfl
 | cons g l ih=>rw [show g::l=[g]++l from rfl,om,List.length_append,Af,ih,aW];simp;omega
def JV (c:Cl)(p:Nat):Prop :=
 (p=0->xn c.size=true)/\(p=1->wi c.obj 0 4611686018427387904=true)/\(p=2->c.hi<18446744073709551616/\c.lo<18446744073709551616)/\(p=4->wi c.aD 0 255=true)/\(p=5->xn c.off=true)/\(p=6->xn c.n=true) /\
 (p=7->c.data.length<=1025)/\(p=8->wi c.index 0 65535=true)/\(p=9->ux c.aH=true)
end Go.Proofs.YtmhinfbkmjdgfaaGreatDoor.R
namespace Go.Proofs.YtmhinfbkmjdgfaaGreatDoor.R
theorem qy (op:Int):(∀q∈bT op,q<10)/\(bT op).Nodup:=by
 unfold bT;repeat' split
 all_goals decide
theorem dC {c:Cl}(h:dQ c=true)(h1:c.hi<18446744073709551616)(h2:c.lo<18446744073709551616)(p:Nat):JV c p:=by
 simp only [dQ,Bool.and_eq_true,decide_eq_true_eq] at h;obtain⟨⟨⟨⟨⟨⟨⟨⟨a,b⟩,c⟩,d⟩,e⟩,f⟩,g⟩,i⟩,j⟩:=h
 exact⟨λ_=>b,λ_=>e,λ_=>⟨h1,h2⟩,λ_=>f,λ_=>c,λ_=>d,λ_=>i,λ_=>g,λ_=>j⟩
theorem CO {c:Cl}:ET c=true↔c.size=0/\c.obj=0/\c.hi=0/\c.lo=0/\c.given=false/\c.aD=0/\c.off=0/\c.n=0/\c.data=[]/\c.index=0/\c.aH=[]:=by
 simp only [ET,Bool.and_eq_true,decide_eq_true_eq,Bool.not_eq_true',List.length_eq_zero_iff];constructor
 ·rintro ⟨⟨⟨⟨⟨⟨⟨⟨a,b⟩,c⟩,d⟩,e⟩,f⟩,g⟩,h⟩,i⟩
  exact⟨a,b.1,b.2.1,b.2.2,c,d,e,f,g,h,i⟩
 ·rintro ⟨a,b1,b2,b3,c,d,e,f,g,h,i⟩
  exact⟨⟨⟨⟨⟨⟨⟨⟨a,b1,b2,b3⟩,c⟩,d⟩,e⟩,f⟩,g⟩,h⟩,i⟩
end Go.Proofs.YtmhinfbkmjdgfaaGreatDoor.R
namespace Go.Proofs.YtmhinfbkmjdgfaaGreatDoor.R
open Go.RowKit
variable {L:List Nat}{xs:List Value}{b base cap n size:Nat}{a:Option Addr}{e:TypeId}{v:Value}{W w w1:World}
theorem gX:(Tryz.prog.info? 5).map (λi=>(i.zero,i.size,i.bytes))=some (some (.int .u8 0),1,1):=by kernel_rfl
def aN (l:List Nat):List Value:=l.map λ(n:Nat)=>Value.int .u8 (n:Int)
theorem ao (l:List Nat):(aN l).length=l.length:=by simp [aN]
theorem ey (l m:List Nat):aN (l++m)=aN l++aN m:=by simp [aN]
theorem dV (l:List Nat)(i:Nat)(h:i<l.length):(aN l)[i]?=some (.int .u8 ((l[i]:Nat):Int)):=by simp [aN,h]
theorem bJ (l:List Nat):∀u∈aN l,u.oneCell'=true:=by
 intro u hu;simp only [aN,List.mem_map] at hu;obtain⟨n,_,rfl⟩:=hu
 rfl
structure Row (w:World)(a:Option Addr)(n cap:Nat)(L:List Nat):Prop where
 len:L.length=n
 cap_:n<=cap
 none_:a=none->n=0/\cap=0
 cells:∀x,a=some x->∀j u,(aN L)[j]?=some u->w.cell? (x.add j)=some u
 small:∀x∈L,x<256
theorem Row.later (hb:Below W.heap.size W w1)(h:Row W a n cap L):Row w1 a n cap L :=
 ⟨h.len,h.cap_,h.none_,λx hx j u hu=>cell_later hb (h.cells x hx j u hu),h.small⟩
theorem bh (w:World):Row w none 0 0 []:=⟨rfl,Nat.le_refl _,λ_=>⟨rfl,rfl⟩,λ_ h=>(by cases h),λ_ h=>(by cases h)⟩
theorem Row.at {o:Nat}(hl:L.length=n)(hc:n<=cap)(hs:∀x∈L,x<256)(h:∀i (hi:i<L.length),w.cell? ⟨b,o+i,none⟩=some (.int .u8 ((L[i]:Nat):Int))):Row w (some ⟨b,o,none⟩) n cap L:=by
 refine⟨hl,hc,λh=>(by cases h),λx hx j u hu=>?_,hs⟩
 cases hx
 rw [bq];have hj:j<L.length:=by have:=(List.getElem?_eq_some_iff.1 hu).1;rwa [ao] at this
 rw [dV L j hj] at hu;cases hu
 exact h j hj
structure Own (w:World)(base:Nat)(a:Option Addr)(n cap:Nat)(L:List Nat):Prop where
 row:w.ownsRow base 5 1 (.slice a n cap) n (aN L)
 small:∀x∈L,x<256
theorem Own.len (h:Own w base a n cap L):L.length=n:=by
 have:=h.row.1
 rw [ao,Nat.mul_one] at this;exact this
theorem Own.read (h:Own w base a n cap L):Row w a n cap L:=by
 refine⟨h.len,?_,?_,?_,h.small⟩
 ·rcases h.row.2 with ⟨h,hn⟩|⟨g,c,cur,hv,_,_,hc,_⟩
  ·omega
  ·simp only [Value.slice.injEq] at hv;omega
 ·intro ha
  rcases h.row.2 with ⟨h,hn⟩|⟨g,c,cur,hv,_,_,hc,_⟩
  ·simp only [Value.slice.injEq] at h;omega
  ·subst ha;simp at hv
 ·intro x hx j u hu
  rcases h.row.2 with ⟨h,hn⟩|⟨g,c,cur,hv,_,_,hc,_⟩
  ·subst hx;simp at h
  ·subst hx
   simp only [Value.slice.injEq,Option.some.injEq] at hv;obtain⟨rfl,_,rfl⟩:=hv
   exact h.row.cells (g:=g) rfl j u hu
theorem gN (hb:Below W.heap.size W w1)(h:W.ownsRow base e size v n xs):w1.ownsRow base e size v n xs:=by
 refine⟨h.1,?_⟩
 rcases h.2 with h|⟨g,cap,cur,hv,hg,hh,r⟩
 ·exact .inl h
 ·have hlt:g<W.heap.size:=by
   rcases Nat.lt_or_ge g W.heap.size with h1|h1
   ·exact h1
   ·rw [Array.getElem?_eq_none h1] at hh;cases hh
  exact .inr ⟨g,cap,cur,hv,hg,by rw [hb.block g hlt];exact hh,r⟩
theorem bD (h:w.ownsRow base e size v n xs):∀k,v.ownBlock=some k->base<=k:=by
 intro k hk;rcases h.2 with ⟨rfl,_⟩|⟨g,cap,cur,rfl,hg,_⟩
 ·cases hk
 ·simp [Value.ownBlock] at hk;omega
theorem Own.later (hb:Below W.heap.size W w1)(h:Own W base a n cap L):Own w1 base a n cap L:=⟨gN hb h.row,h.small⟩
theorem Own.alloc (h:Own w base a n cap L)(o:Obj):Own (w.alloc o) base a n cap L:=h.later (ag _ _)
theorem Own.mono (h:Own w base a n cap L)(hb:b<=base):Own w b a n cap L:=⟨fc h.row hb,h.small⟩
theorem Own.dB (h:Own w base a n cap L):∀k,aI a k->base<=k:=λk hk=>bD h.row k (aI.of.2 hk)
theorem Gr.below {w':World}{a':Option Addr}(h:Own w base a n cap L)(g:Gr a a' w w')(hb:base<=w.heap.size):Below base w w' :=
 ⟨g.but.os,g.but.tape,g.but.output,g.but.size,λk hk=>g.but.block k (by omega) (λhs=>by have:=h.dB k hs;omega)⟩
theorem dv {b:Option Addr}{m c:Nat}{M:List Nat}(h:Own w base a n cap L)(k:Row w b m c M)(hb:base<=w.heap.size)(hr:n+m<=140737488355328) :
  ∃a' cap' w',(Builtin.append_ #[38,38] 38 #[.slice a n cap,.slice b m c]).run Tryz.prog w=.ok (.slice a' (n+m) cap') w'/\Own w' base a' (n+m) cap' (L++M)/\Gr a a' w w':=by
 obtain⟨i,hi,hz0,hz1,hz2⟩:=info_parts gX
 have hsm:∀x∈L++M,x<256:=λx hx=>by
  rcases List.mem_append.1 hx with h1|h1
  ·exact h.small x h1
  ·exact k.small x h1
 cases b with
 | none =>
  obtain⟨rfl,rfl⟩:=k.none_ rfl
  have hM:M=[]:=List.eq_nil_of_length_eq_zero k.len
  subst hM;have hr:=run_append_owned_none (P:=Tryz.prog) (w:=w) base 38 38 5 i 1 Tryz.underlying38 hi _ n _ h.row
  exact⟨a,cap,w,hr,⟨by simpa using h.row,hsm⟩,Gr.refl _ _⟩
 | some x =>
  obtain⟨v',w',hr,h2,h3,_,h5⟩:=run_append_own_at (P:=Tryz.prog) w base 38 38 5 i _ 1 1 Tryz.underlying38 hi hz0 hz1 hz2 rfl (by decide) _ n _ h.row x m c (aN M) (by rw [ao,k.len,Nat.mul_one]) (k.cells x rfl) (bJ M) (by unfold maxLen;omega) (by omega) hb
  obtain⟨a',cap',rfl⟩:∃a' cap',v'=.slice a' (n+m) cap':=by
   rcases h2.2 with ⟨h,h'⟩|⟨g',cap',_,h,_⟩
   ·exact⟨.none,0,by rw [h,h']⟩
   ·exact⟨_,cap',h⟩
  refine⟨a',cap',w',hr,⟨by rw [ey];exact h2,hsm⟩,⟨h3.os,h3.tape,h3.output,h3.size,λj hj hn=>h3.block j hj (λe=>hn (aI.of.1 e.symm))⟩,λj hj=>?_⟩
  rcases h5 with h5|h5
  ·rw [aI.of.2 hj] at h5
   exact .inl (aI.of.1 h5.symm)
  ·rw [aI.of.2 hj] at h5
   right
   simp at h5
   omega
theorem Row.one (w:World)(b:Nat)(hb:b<256):Row (w.alloc (Obj.cells #[Value.int .u8 (b:Int)] 5)) (some ⟨w.heap.size,0,.none⟩) 1 1 [b] :=
 Row.at (L:=[b]) rfl (Nat.le_refl _) (λx hx=>by simp at hx;omega) (λi hi=>by
  have:i=0:=by simp at hi;omega
  subst this;simp [go_sem])
end Go.Proofs.YtmhinfbkmjdgfaaGreatDoor.R
namespace Go.Proofs.YtmhinfbkmjdgfaaGreatDoor.R
open Go.RowKit
theorem iN (w:World):Calls Tryz.prog 282 #[] w λe w'=>e=.returned (ab 2)/\w'=w:=by
 go_enter Tryz.func282,Tryz.ntmps282
 go_wp2;go_loop [1,2] (λn r=>∃k:Nat,k<=2/\n=ab k/\r=ai ((65535 / 256 ^ k:Nat):Int)) (λn _=>2 - (intOf n).toNat)
 case atStart=>exact⟨0,by omega,rfl,rfl⟩
 case round =>
  obtain⟨k,hk,rfl,rfl⟩:=hrel
  rcases (by omega:k=0\/k=1\/k=2) with rfl|rfl|rfl
  ·go_wp2
   exact⟨⟨1,by omega,by go_num,by go_num⟩,by simp [intOf]⟩
  ·go_wp2
   exact⟨⟨2,by omega,by go_num,by go_num⟩,by simp [intOf]⟩
  ·go_wp2
   go_ret;exact⟨rfl,rfl⟩
theorem cW (n more:Nat)(hr:n+more<=140737488355328)(u:World):(Instr.makeSlice 38 (ab (n:Int)) (ab ((n:Int)+(more:Int)))).run Tryz.prog u =
  .ok (.slice (some ⟨u.heap.size,0,none⟩) n (n+more)) (u.alloc (.cells (madeCells #[.int .u8 0] (n+more)) 5)):=by
 obtain⟨i0,hi,hz0,hz1,hz2⟩:=info_parts gX
 have h:=run_make (P:=Tryz.prog) u 38 5 i0 (.int .u8 0) Tryz.underlying38 hi hz0 .i64 .i64 (n:Int) ((n:Int)+(more:Int)) (by omega) (by omega) (by rw [hz2];omega) (by omega)
 have e:((n:Int)+(more:Int)).toNat=n+more:=by omega
 rw [e] at h;simpa [hz1,Value.cells] using h
theorem lr (w:World)(a:Option Addr)(n cap more:Nat)(L:List Nat)(h:Row w a n cap L)(hr:n+more<=140737488355328) :
  ∃v' w',(Builtin.copy_ #[38,38] 3 #[.slice (some ⟨w.heap.size,0,none⟩) n (n+more),.slice a n cap]).run Tryz.prog (w.alloc (.cells (madeCells #[.int .u8 0] (n+more)) 5))=.ok v' w' /\
   Own w' w.heap.size (some ⟨w.heap.size,0,none⟩) n (n+more) L/\Below w.heap.size w w':=by
 have hh:=heap_alloc_new w (.cells (madeCells #[.int .u8 0] (n+more)) 5)
 have hsz:(madeCells #[Value.int .u8 0] (n+more)).size=n+more:=by simp [madeCells]
 have hbase:Below w.heap.size w (w.alloc (.cells (madeCells #[.int .u8 0] (n+more)) 5)):=ag _ _
 cases a with
 | none =>
  obtain⟨rfl,rfl⟩:=h.none_ rfl
  have hL:L=[]:=List.eq_nil_of_length_eq_zero h.len
  subst hL;refine⟨_,_,run_copy_nil (P:=Tryz.prog) _ 38 38 3 5 _ _ _ Tryz.underlying38 (by kernel_rfl),⟨⟨rfl,.inr ⟨_,_,_,rfl,Nat.le_refl _,hh,by omega,by unfold maxLen;omega,by rw [hsz,Nat.mul_one],by simp [aN]⟩⟩,h.small⟩,hbase⟩
 | some x =>
  have hl:(aN L).length=n:=by rw [ao,h.len]
  have hr:=run_copy_row (P:=Tryz.prog) (w.alloc (.cells (madeCells #[.int .u8 0] (n+more)) 5)) 38 38 3 5 w.heap.size 0 n (n+more) x n cap _ 5 (aN L) Tryz.underlying38 (by kernel_rfl) hh (by rw [hl];simp) (λj v hj=>cell_later (ag _ _) (h.cells x rfl j v hj)) (by rw [hl,hsz];omega) (bJ L)
  refine⟨_,_,hr,⟨⟨by rw [hl,Nat.mul_one],.inr ⟨_,_,_,rfl,Nat.le_refl _,setRow_heap _ _ _ _ _ _ hh,by omega,by unfold maxLen;omega,?_,?_⟩⟩,h.small⟩,?_⟩
  ·simp [hl,hsz]
  ·simp only [Nat.mul_one,List.take_zero,List.nil_append,Nat.zero_add]
   rw [List.take_left' hl]
  ·refine hbase.trans ⟨rfl,rfl,rfl,by simp,λk hk=>?_⟩
   exact setRow_other _ _ _ _ (by omega)
theorem de (a:Option Addr)(n cap:Nat)(more:Nat)(L:List Nat)(w:World)(h:Row w a n cap L)(hr:n+more<=140737488355328) :
  Calls Tryz.prog 279 #[.slice a n cap,ab (more:Int)] w λe w'=>∃g,e=.returned (.slice (some ⟨g,0,none⟩) n (n+more))/\Own w' w.heap.size (some ⟨g,0,none⟩) n (n+more) L/\Below w.heap.size w w':=by
 have hmk:=cW n more hr
 have ew:IntKind.i64.wrap ((n:Int)+(more:Int))=(n:Int)+(more:Int):=by rw [IntKind.wrap_i64];omega
 obtain⟨v',w2,hrun,hown,hb⟩:=lr w a n cap more L h hr
 clear h hr;go_enter Tryz.func279,Tryz.ntmps279
 go_wp2;go_ret;exact⟨_,rfl,hown,hb⟩
end Go.Proofs.YtmhinfbkmjdgfaaGreatDoor.R
namespace Go.Proofs.YtmhinfbkmjdgfaaGreatDoor.R
open Go.RowKit
theorem zG (w:World):Calls Tryz.prog 280 #[] w λe w'=>e=.returned (ab 1)/\w'=w:=by
 go_enter Tryz.func280,Tryz.ntmps280
 go_wp2;go_loop [1,2] (λn r=>∃k:Nat,k<=1/\n=ab k/\r=ai ((255 / 256 ^ k:Nat):Int)) (λn _=>1 - (intOf n).toNat)
 case atStart=>exact⟨0,by omega,rfl,rfl⟩
 case round =>
  obtain⟨k,hk,rfl,rfl⟩:=hrel
  rcases (by omega:k=0\/k=1) with rfl|rfl
  ·go_wp2
   exact⟨⟨1,by omega,by go_num,by go_num⟩,by simp [intOf]⟩
  ·go_wp2
   go_ret;exact⟨rfl,rfl⟩
theorem uK (w:World):Calls Tryz.prog 382 #[] w λe w'=>e=.returned (ab 4)/\w'=w:=by
 go_enter Tryz.func382,Tryz.ntmps382
 go_wp2;go_loop [1,2] (λn r=>∃k:Nat,k<=4/\n=ab k/\r=ai ((4294967295 / 256 ^ k:Nat):Int)) (λn _=>4 - (intOf n).toNat)
 case atStart=>exact⟨0,by omega,rfl,rfl⟩
 case round =>
  obtain⟨k,hk,rfl,rfl⟩:=hrel
  rcases (by omega:k=0\/k=1\/k=2\/k=3\/k=4) with rfl|rfl|rfl|rfl|rfl
  ·go_wp2
   exact⟨⟨1,by omega,by go_num,by go_num⟩,by simp [intOf]⟩
  ·go_wp2
   exact⟨⟨2,by omega,by go_num,by go_num⟩,by simp [intOf]⟩
  ·go_wp2
   exact⟨⟨3,by omega,by go_num,by go_num⟩,by simp [intOf]⟩
  ·go_wp2
   exact⟨⟨4,by omega,by go_num,by go_num⟩,by simp [intOf]⟩
  ·go_wp2
   go_ret;exact⟨rfl,rfl⟩
theorem ku (w:World):Calls Tryz.prog 334 #[] w λe w'=>e=.returned (ab 8)/\w'=w:=by
 go_enter Tryz.func334,Tryz.ntmps334
 go_wp2;go_loop [1,2] (λn r=>∃k:Nat,k<=8/\n=ab k/\r=ai ((18446744073709551615 / 256 ^ k:Nat):Int)) (λn _=>8 - (intOf n).toNat)
 case atStart=>exact⟨0,by omega,rfl,rfl⟩
 case round =>
  obtain⟨k,hk,rfl,rfl⟩:=hrel
  rcases (by omega:k=0\/k=1\/k=2\/k=3\/k=4\/k=5\/k=6\/k=7\/k=8) with rfl|rfl|rfl|rfl|rfl|rfl|rfl|rfl|rfl
  ·go_wp2
   exact⟨⟨1,by omega,by go_num,by go_num⟩,by simp [intOf]⟩
  ·go_wp2
   exact⟨⟨2,by omega,by go_num,by go_num⟩,by simp [intOf]⟩
  ·go_wp2
   exact⟨⟨3,by omega,by go_num,by go_num⟩,by simp [intOf]⟩
  ·go_wp2
   exact⟨⟨4,by omega,by go_num,by go_num⟩,by simp [intOf]⟩
  ·go_wp2
   exact⟨⟨5,by omega,by go_num,by go_num⟩,by simp [intOf]⟩
  ·go_wp2
   exact⟨⟨6,by omega,by go_num,by go_num⟩,by simp [intOf]⟩
  ·go_wp2
   exact⟨⟨7,by omega,by go_num,by go_num⟩,by simp [intOf]⟩
  ·go_wp2
   exact⟨⟨8,by omega,by go_num,by go_num⟩,by simp [intOf]⟩
  ·go_wp2
   go_ret;exact⟨rfl,rfl⟩
def dx (w:World)(a:Option Addr)(base n:Nat)(L:List Nat)(v k:Nat)(o r t:Value)(w':World):Prop :=
 ∃(i:Nat) (a':Option Addr) (cap':Nat),i<=k/\t=ab (i:Int)/\r=ai ((v / 256 ^ i:Nat):Int)/\o=.slice a' (n+i) cap'/\Own w' base a' (n+i) cap' (L++bj v i)/\Gr a a' w w'
theorem eM (v i:Nat):IntKind.u8.wrap ((v / 256 ^ i:Nat):Int)=((v / 256 ^ i%256:Nat):Int):=by rw [IntKind.wrap_u8];omega
theorem eJ (v i:Nat):(((v / 256 ^ i:Nat):Int) / 256)=((v / 256 ^ (i+1):Nat):Int):=by
 rw [Nat.pow_succ,<-Nat.div_div_eq_div_mul];omega
theorem bY {w:World}{base n cap:Nat}{a:Option Addr}{L:List Nat}{b:Nat}(h:Own w base a n cap L)(hb:base<=w.heap.size)(hr:n+1<=140737488355328)(hb8:b<256) :
  ∃a' cap' w',(Builtin.append_ #[38,38] 38 #[.slice a n cap,.slice (some ⟨w.heap.size,0,none⟩) 1 1]).run Tryz.prog (w.alloc (Obj.cells #[Value.int .u8 (b:Int)] 5))=.ok (.slice a' (n+1) cap') w'/\Own w' base a' (n+1) cap' (L++[b])/\Gr a a' w w':=by
 obtain⟨a',cap',w',h1,h2,h4⟩:=dv (h.alloc (Obj.cells #[Value.int .u8 (b:Int)] 5)) (Row.one w b hb8) (by simp;omega) hr
 exact⟨a',cap',w',h1,h2,h4.pre (ag _ _)⟩
theorem gV (a:Option Addr)(n cap:Nat)(L:List Nat)(v:Nat)(w:World)(base:Nat)(hv:v<256)(h:Own w base a n cap L)(hb:base<=w.heap.size)(hr:n+1<=140737488355328) :
  Calls Tryz.prog 278 #[.slice a n cap,.int .u8 (v:Int)] w λe w'=>∃a' cap',e=.returned (.slice a' (n+1) cap')/\Own w' base a' (n+1) cap' (L++bj v 1)/\Gr a a' w w':=by
 have HR:Hid (n+1<=140737488355328):=hr
 have HV:Hid (dx w a base n L v 1 (.slice a n cap) (ai (v:Int)) (ab 0) w):=⟨0,a,cap,by omega,rfl,by simp,rfl,by simpa [cN] using h,Gr.refl _ _⟩
 clear h hr;go_enter Tryz.func278,Tryz.ntmps278
 go_wp2_with (first|(go_at_call 280;refine (zG _).mono ?_;rintro e w1 ⟨rfl,rfl⟩))
 rename World=>w
 go_loopw [0,5,9] (dx w a base n L v 1) (λ_ _ t _=>1 - (intOf t).toNat)
 case atStart=>exact HV.out
 case round =>
  clear HV;obtain⟨i,a',cap',hi,rfl,rfl,rfl,hown,hB⟩:=hrel
  have hbw:base<=wr.heap.size:=Nat.le_trans hb hB.but.size
  by_cases hlt:i<1
  ·have hd:decide ((i:Int)<1)=true:=by simp;omega
   have e1:=eM v i
   have e2:=eJ v i
   obtain⟨a2,c2,w2,hrun,hown2,hB2⟩:=bY (b:=v / 256 ^ i%256) hown hbw (by have:=HR.out;omega) (by omega)
   have ON:Hid _:=hrun
   have HO:Hid (Own w2 base a2 (n+(i+1)) c2 (L++bj v (i+1))):=by rw [cY,<-List.append_assoc];exact hown2
   have HB:Hid (Gr a a2 w w2):=hB.trans hB2
   clear hrun hown hown2 hB hB2;go_wp2_with (first|(at_builtin;refine aw rfl _ _ 38 rfl _ _ rfl rfl _ w2 ON.out ?_))
   go_roundw
   case rel=>exact⟨i+1,a2,c2,by omega,by go_num,by rw [<-e2];simp,rfl,HO.out,HB.out⟩
   case measure=>simp [intOf];omega
  ·obtain rfl:i=1:=by omega
   go_wp2;go_ret;exact⟨a',cap',rfl,hown,hB⟩
theorem zQ (a:Option Addr)(n cap:Nat)(L:List Nat)(v:Nat)(w:World)(base:Nat)(hv:v<65536)(h:Own w base a n cap L)(hb:base<=w.heap.size)(hr:n+2<=140737488355328) :
  Calls Tryz.prog 281 #[.slice a n cap,.int .u16 (v:Int)] w λe w'=>∃a' cap',e=.returned (.slice a' (n+2) cap')/\Own w' base a' (n+2) cap' (L++bj v 2)/\Gr a a' w w':=by
 have HR:Hid (n+2<=140737488355328):=hr
 have HV:Hid (dx w a base n L v 2 (.slice a n cap) (ai (v:Int)) (ab 0) w):=⟨0,a,cap,by omega,rfl,by simp,rfl,by simpa [cN] using h,Gr.refl _ _⟩
 clear h hr;go_enter Tryz.func281,Tryz.ntmps281
 go_wp2_with (first|(go_at_call 282;refine (iN _).mono ?_;rintro e w1 ⟨rfl,rfl⟩))
 rename World=>w
 go_loopw [0,5,9] (dx w a base n L v 2) (λ_ _ t _=>2 - (intOf t).toNat)
 case atStart=>exact HV.out
 case round =>
  clear HV;obtain⟨i,a',cap',hi,rfl,rfl,rfl,hown,hB⟩:=hrel
  have hbw:base<=wr.heap.size:=Nat.le_trans hb hB.but.size
  by_cases hlt:i<2
  ·have hd:decide ((i:Int)<2)=true:=by simp;omega
   have e1:=eM v i
   have e2:=eJ v i
   obtain⟨a2,c2,w2,hrun,hown2,hB2⟩:=bY (b:=v / 256 ^ i%256) hown hbw (by have:=HR.out;omega) (by omega)
   have ON:Hid _:=hrun
   have HO:Hid (Own w2 base a2 (n+(i+1)) c2 (L++bj v (i+1))):=by rw [cY,<-List.append_assoc];exact hown2
   have HB:Hid (Gr a a2 w w2):=hB.trans hB2
   clear hrun hown hown2 hB hB2;go_wp2_with (first|(at_builtin;refine aw rfl _ _ 38 rfl _ _ rfl rfl _ w2 ON.out ?_))
   go_roundw
   case rel=>exact⟨i+1,a2,c2,by omega,by go_num,by rw [<-e2];simp,rfl,HO.out,HB.out⟩
   case measure=>simp [intOf];omega
  ·obtain rfl:i=2:=by omega
   go_wp2;go_ret;exact⟨a',cap',rfl,hown,hB⟩
theorem GR (a:Option Addr)(n cap:Nat)(L:List Nat)(v:Nat)(w:World)(base:Nat)(hv:v<4294967296)(h:Own w base a n cap L)(hb:base<=w.heap.size)(hr:n+4<=140737488355328) :
  Calls Tryz.prog 381 #[.slice a n cap,.int .u32 (v:Int)] w λe w'=>∃a' cap',e=.returned (.slice a' (n+4) cap')/\Own w' base a' (n+4) cap' (L++bj v 4)/\Gr a a' w w':=by
 have HR:Hid (n+4<=140737488355328):=hr
 have HV:Hid (dx w a base n L v 4 (.slice a n cap) (ai (v:Int)) (ab 0) w):=⟨0,a,cap,by omega,rfl,by simp,rfl,by simpa [cN] using h,Gr.refl _ _⟩
 clear h hr;go_enter Tryz.func381,Tryz.ntmps381
 go_wp2_with (first|(go_at_call 382;refine (uK _).mono ?_;rintro e w1 ⟨rfl,rfl⟩))
 rename World=>w
 go_loopw [0,5,9] (dx w a base n L v 4) (λ_ _ t _=>4 - (intOf t).toNat)
 case atStart=>exact HV.out
 case round =>
  clear HV;obtain⟨i,a',cap',hi,rfl,rfl,rfl,hown,hB⟩:=hrel
  have hbw:base<=wr.heap.size:=Nat.le_trans hb hB.but.size
  by_cases hlt:i<4
  ·have hd:decide ((i:Int)<4)=true:=by simp;omega
   have e1:=eM v i
   have e2:=eJ v i
   obtain⟨a2,c2,w2,hrun,hown2,hB2⟩:=bY (b:=v / 256 ^ i%256) hown hbw (by have:=HR.out;omega) (by omega)
   have ON:Hid _:=hrun
   have HO:Hid (Own w2 base a2 (n+(i+1)) c2 (L++bj v (i+1))):=by rw [cY,<-List.append_assoc];exact hown2
   have HB:Hid (Gr a a2 w w2):=hB.trans hB2
   clear hrun hown hown2 hB hB2;go_wp2_with (first|(at_builtin;refine aw rfl _ _ 38 rfl _ _ rfl rfl _ w2 ON.out ?_))
   go_roundw
   case rel=>exact⟨i+1,a2,c2,by omega,by go_num,by rw [<-e2];simp,rfl,HO.out,HB.out⟩
   case measure=>simp [intOf];omega
  ·obtain rfl:i=4:=by omega
   go_wp2;go_ret;exact⟨a',cap',rfl,hown,hB⟩
theorem rn (a:Option Addr)(n cap:Nat)(L:List Nat)(v:Nat)(w:World)(base:Nat)(hv:v<18446744073709551616)(h:Own w base a n cap L)(hb:base<=w.heap.size)(hr:n+8<=140737488355328) :
  Calls Tryz.prog 333 #[.slice a n cap,ai (v:Int)] w λe w'=>∃a' cap',e=.returned (.slice a' (n+8) cap')/\Own w' base a' (n+8) cap' (L++bj v 8)/\Gr a a' w w':=by
 have HR:Hid (n+8<=140737488355328):=hr
 have HV:Hid (dx w a base n L v 8 (.slice a n cap) (ai (v:Int)) (ab 0) w):=⟨0,a,cap,by omega,rfl,by simp,rfl,by simpa [cN] using h,Gr.refl _ _⟩
 clear h hr;go_enter Tryz.func333,Tryz.ntmps333
 go_wp2_with (first|(go_at_call 334;refine (ku _).mono ?_;rintro e w1 ⟨rfl,rfl⟩))
 rename World=>w
 go_loopw [0,5,8] (dx w a base n L v 8) (λ_ _ t _=>8 - (intOf t).toNat)
 case atStart=>exact HV.out
 case round =>
  clear HV;obtain⟨i,a',cap',hi,rfl,rfl,rfl,hown,hB⟩:=hrel
  have hbw:base<=wr.heap.size:=Nat.le_trans hb hB.but.size
  by_cases hlt:i<8
  ·have hd:decide ((i:Int)<8)=true:=by simp;omega
   have e1:=eM v i
   have e2:=eJ v i
   obtain⟨a2,c2,w2,hrun,hown2,hB2⟩:=bY (b:=v / 256 ^ i%256) hown hbw (by have:=HR.out;omega) (by omega)
   have ON:Hid _:=hrun
   have HO:Hid (Own w2 base a2 (n+(i+1)) c2 (L++bj v (i+1))):=by rw [cY,<-List.append_assoc];exact hown2
   have HB:Hid (Gr a a2 w w2):=hB.trans hB2
   clear hrun hown hown2 hB hB2;go_wp2_with (first|(at_builtin;refine aw rfl _ _ 38 rfl _ _ rfl rfl _ w2 ON.out ?_))
   go_roundw
   case rel=>exact⟨i+1,a2,c2,by omega,by go_num,by rw [<-e2];simp,rfl,HO.out,HB.out⟩
   case measure=>simp [intOf];omega
  ·obtain rfl:i=8:=by omega
   go_wp2;go_ret;exact⟨a',cap',rfl,hown,hB⟩
theorem I3 (a:Option Addr)(n cap:Nat)(L:List Nat)(v:Nat)(w:World)(hv:v<256)(h:Row w a n cap L)(hr:n+1<=140737488355328) :
  Calls Tryz.prog 216 #[.slice a n cap,.int .u8 (v:Int)] w λe w'=>∃a' cap',e=.returned (.slice a' (n+1) cap')/\Own w' w.heap.size a' (n+1) cap' (L++bj v 1)/\Below w.heap.size w w':=by
 have HR:Hid (n+1<=140737488355328):=hr
 clear hr;go_enter Tryz.func216,Tryz.ntmps216
 go_wp2_with (first|(go_at_call 280;refine (zG _).mono ?_;rintro e w1 ⟨rfl,rfl⟩)|(go_at_call 279;refine (de a n cap 1 L _ h HR.out).mono ?_;rintro e w2 ⟨g,rfl,hown,hb⟩)|(go_at_call 278;refine (gV _ _ _ L v _ _ hv hown hb.size HR.out).mono ?_;rintro e w3 ⟨a3,c3,rfl,hown3,hb3⟩))
 go_ret;exact⟨a3,c3,rfl,hown3,hb.trans (Gr.below hown hb3 hb.size)⟩
theorem AJ (a:Option Addr)(n cap:Nat)(L:List Nat)(v:Nat)(w:World)(hv:v<65536)(h:Row w a n cap L)(hr:n+2<=140737488355328) :
  Calls Tryz.prog 217 #[.slice a n cap,.int .u16 (v:Int)] w λe w'=>∃a' cap',e=.returned (.slice a' (n+2) cap')/\Own w' w.heap.size a' (n+2) cap' (L++bj v 2)/\Below w.heap.size w w':=by
 have HR:Hid (n+2<=140737488355328):=hr
 clear hr;go_enter Tryz.func217,Tryz.ntmps217
 go_wp2_with (first|(go_at_call 282;refine (iN _).mono ?_;rintro e w1 ⟨rfl,rfl⟩)|(go_at_call 279;refine (de a n cap 2 L _ h HR.out).mono ?_;rintro e w2 ⟨g,rfl,hown,hb⟩)|(go_at_call 281;refine (zQ _ _ _ L v _ _ hv hown hb.size HR.out).mono ?_;rintro e w3 ⟨a3,c3,rfl,hown3,hb3⟩))
 go_ret;exact⟨a3,c3,rfl,hown3,hb.trans (Gr.below hown hb3 hb.size)⟩
theorem Hg (a:Option Addr)(n cap:Nat)(L:List Nat)(v:Nat)(w:World)(hv:v<4294967296)(h:Row w a n cap L)(hr:n+4<=140737488355328) :
  Calls Tryz.prog 332 #[.slice a n cap,.int .u32 (v:Int)] w λe w'=>∃a' cap',e=.returned (.slice a' (n+4) cap')/\Own w' w.heap.size a' (n+4) cap' (L++bj v 4)/\Below w.heap.size w w':=by
 have HR:Hid (n+4<=140737488355328):=hr
 clear hr;go_enter Tryz.func332,Tryz.ntmps332
 go_wp2_with (first|(go_at_call 382;refine (uK _).mono ?_;rintro e w1 ⟨rfl,rfl⟩)|(go_at_call 279;refine (de a n cap 4 L _ h HR.out).mono ?_;rintro e w2 ⟨g,rfl,hown,hb⟩)|(go_at_call 381;refine (GR _ _ _ L v _ _ hv hown hb.size HR.out).mono ?_;rintro e w3 ⟨a3,c3,rfl,hown3,hb3⟩))
 go_ret;exact⟨a3,c3,rfl,hown3,hb.trans (Gr.below hown hb3 hb.size)⟩
theorem GB (a:Option Addr)(n cap:Nat)(L:List Nat)(v:Nat)(w:World)(hv:v<18446744073709551616)(h:Row w a n cap L)(hr:n+8<=140737488355328) :
  Calls Tryz.prog 284 #[.slice a n cap,ai (v:Int)] w λe w'=>∃a' cap',e=.returned (.slice a' (n+8) cap')/\Own w' w.heap.size a' (n+8) cap' (L++bj v 8)/\Below w.heap.size w w':=by
 have HR:Hid (n+8<=140737488355328):=hr
 clear hr;go_enter Tryz.func284,Tryz.ntmps284
 go_wp2_with (first|(go_at_call 334;refine (ku _).mono ?_;rintro e w1 ⟨rfl,rfl⟩)|(go_at_call 279;refine (de a n cap 8 L _ h HR.out).mono ?_;rintro e w2 ⟨g,rfl,hown,hb⟩)|(go_at_call 333;refine (rn _ _ _ L v _ _ hv hown hb.size HR.out).mono ?_;rintro e w3 ⟨a3,c3,rfl,hown3,hb3⟩))
 go_ret;exact⟨a3,c3,rfl,hown3,hb.trans (Gr.below hown hb3 hb.size)⟩
end Go.Proofs.YtmhinfbkmjdgfaaGreatDoor.R
namespace Go.Proofs.YtmhinfbkmjdgfaaGreatDoor.R
open Go.RowKit
end Go.Proofs.YtmhinfbkmjdgfaaGreatDoor.R
namespace Go.Proofs.YtmhinfbkmjdgfaaGreatDoor.R
open Go.RowKit
end Go.Proofs.YtmhinfbkmjdgfaaGreatDoor.R
namespace Go.Proofs.YtmhinfbkmjdgfaaGreatDoor.R
open Go.RowKit
end Go.Proofs.YtmhinfbkmjdgfaaGreatDoor.R
namespace Go.Proofs.YtmhinfbkmjdgfaaGreatDoor.R
open Go.RowKit
end Go.Proofs.YtmhinfbkmjdgfaaGreatDoor.R
namespace Go.Proofs.YtmhinfbkmjdgfaaGreatDoor.R
open Go.RowKit
abbrev R4:=Option Addr×Nat×Nat×List Nat
def iE (r:R4):Value:=.slice r.1 r.2.1 r.2.2.1
def aV:List R4->List Nat
 | []=>[]
 | r::rs=>r.2.2.2++aV rs
theorem cF (rs qs:List R4):aV (rs++qs)=aV rs++aV qs:=by
 induction rs with
 | nil=>rfl
 | cons r rs ih=>simp [aV,ih]
theorem eZ (rs:List R4)(i:Nat)(h:i<rs.length):aV (rs.take (i+1))=aV (rs.take i)++rs[i].2.2.2:=by
 rw [List.take_succ_eq_append_getElem h,cF];simp [aV]
theorem dg (rs:List R4)(i:Nat):(aV (rs.take i)).length<=(aV rs).length:=by
 have:aV rs=aV (rs.take i)++aV (rs.drop i):=by rw [<-cF,List.take_append_drop]
 rw [this,List.length_append];omega
def sW (rs:List R4)(z t:Value):Prop:=∃i:Nat,i<=rs.length/\t=ab (i:Int)/\z=ab ((aV (rs.take i)).length:Int)
def rZ (w:World)(rs:List R4)(o t:Value)(w':World):Prop:=∃(i:Nat) (a:Option Addr) (n cap:Nat),i<=rs.length/\t=ab (i:Int)/\o=.slice a n cap/\Own w' w.heap.size a n cap (aV (rs.take i))/\Below w.heap.size w w'
theorem gh (b cap k:Nat)(rs:List R4)(w:World)(hk:k=rs.length)(hrl:rs.length<1000)(hc:∀j (hj:j<rs.length),w.cell? ⟨b,j,none⟩=some (iE rs[j]))(hrow:∀r∈rs,Row w r.1 r.2.1 r.2.2.1 r.2.2.2)(hr:(aV rs).length<=140737488355328) :
  Calls Tryz.prog 220 #[.slice (some ⟨b,0,none⟩) k cap] w λe w'=>∃a' n' cap',e=.returned (.slice a' n' cap')/\Own w' w.heap.size a' n' cap' (aV rs)/\Below w.heap.size w w':=by
 subst hk;have HC:Hid (∀j (hj:j<rs.length),w.cell? ⟨b,j,none⟩=some (iE rs[j])):=hc
 have O5:Hid (∀r∈rs,Row w r.1 r.2.1 r.2.2.1 r.2.2.2):=hrow
 have HR:Hid ((aV rs).length<=140737488355328):=hr
 clear hc hrow hr;go_enter Tryz.func220,Tryz.ntmps220
 go_wp2;go_loop [3,11] (sW rs) (λ_ t=>rs.length - (intOf t).toNat)
 case atStart=>exact⟨0,by omega,rfl,rfl⟩
 case round =>
  obtain⟨i,hi,rfl,rfl⟩:=hrel
  have ei:IntKind.i64.wrap ((i:Int)+1)=(i:Int)+1:=by rw [IntKind.wrap_i64];omega
  by_cases hlt:i<rs.length
  ·have hd:decide ((i:Int)<(rs.length:Int))=true:=by simp;omega
   have hcell:=HC.out i hlt
   obtain⟨a1,n1,c1,L1,iL⟩:∃a1 n1 c1 L1,rs[i]=(a1,n1,c1,L1):=⟨_,_,_,_,rfl⟩
   have hR:=O5.out _ (List.getElem_mem hlt)
   have hct:=eZ rs i hlt
   have hle:=dg rs (i+1)
   rw [iL] at hcell hR hct;simp only [iE] at hcell;have hlen:=hR.len
   simp only at hlen hct;have HT:Hid ((aV (rs.take (i+1))).length=(aV (rs.take i)).length+n1):=by unfold Hid;rw [hct,List.length_append,hlen]
   have ew:IntKind.i64.wrap (((aV (rs.take i)).length:Int)+(n1:Int))=((aV (rs.take i)).length:Int)+(n1:Int):=by
    have:=HR.out
    have:=HT.out
    rw [IntKind.wrap_i64];omega
   clear hR hct hle iL;go_wp2;exact⟨⟨i+1,by omega,by simp,by rw [HT.out];simp⟩,by simp [intOf];omega⟩
  ·obtain rfl:i=rs.length:=by omega
   rename World=>w
   rw [List.take_length];obtain⟨z,hz⟩:∃z,z=(aV rs).length:=⟨_,rfl⟩
   have HZ:Hid (0+z<=140737488355328):=by have:=HR.out;unfold Hid;omega
   rw [<-hz];clear hz ei;go_wp2_with (first|(go_at_call 279;refine (de none 0 0 z [] _ (bh _) HZ.out).mono ?_;rintro e w2 ⟨g,rfl,hown,hb⟩))
   go_loopw [6,24] (rZ w rs) (λ_ t _=>rs.length - (intOf t).toNat)
   case atStart=>exact⟨0,_,_,_,by omega,rfl,rfl,by simpa [aV] using hown,hb⟩
   case round =>
    clear hown hb hlt hi;obtain⟨i,a',n',cap',hi,rfl,rfl,hown,hB⟩:=hrel
    have ei:IntKind.i64.wrap ((i:Int)+1)=(i:Int)+1:=by rw [IntKind.wrap_i64];omega
    by_cases hlt:i<rs.length
    ·have hd:decide ((i:Int)<(rs.length:Int))=true:=by simp;omega
     have hcell:=cell_later hB (HC.out i hlt)
     obtain⟨a1,n1,c1,L1,iL⟩:∃a1 n1 c1 L1,rs[i]=(a1,n1,c1,L1):=⟨_,_,_,_,rfl⟩
     have hR:=(O5.out _ (List.getElem_mem hlt)).later hB
     have hct:=eZ rs i hlt
     have hle:=dg rs (i+1)
     rw [iL] at hcell hR hct;simp only [iE] at hcell;simp only at hR hct;have hl1:=hR.len
     have hl2:=hown.len
     have hl3:(aV (rs.take (i+1))).length=(aV (rs.take i)).length+L1.length:=by rw [hct,List.length_append]
     obtain⟨a2,c2,w3,hrun,hown2,hg2⟩:=dv hown hR hB.size (by have:=HR.out;omega)
     rw [<-hct] at hown2;have ON:Hid _:=hrun
     have HB:Hid (Below w.heap.size w w3):=hB.trans (Gr.below hown hg2 hB.size)
     clear hrun hown hB hg2 hR hct hle iL hl1 hl2 hl3;go_wp2_with (first|(at_builtin;refine aw rfl _ _ 38 rfl _ _ rfl rfl _ w3 ON.out ?_))
     go_roundw
     case rel=>exact⟨i+1,a2,_,c2,by omega,by simp,rfl,hown2,HB.out⟩
     case measure=>simp [intOf];omega
    ·obtain rfl:i=rs.length:=by omega
     rw [List.take_length] at hown;go_wp2;go_ret;exact⟨_,_,_,rfl,hown,hB⟩
end Go.Proofs.YtmhinfbkmjdgfaaGreatDoor.R
namespace Go.Proofs.YtmhinfbkmjdgfaaGreatDoor.R
open Go.RowKit
variable {L:List Int}{cap n:Nat}{a:Option Addr}{W w w1:World}
def iW (l:List Int):List Value:=l.map λn=>Value.int .i64 n
theorem eQ (l:List Int):(iW l).length=l.length:=by simp [iW]
theorem dH (l:List Int)(i:Nat)(h:i<l.length):(iW l)[i]?=some (ab l[i]):=by simp [iW,h]
structure RI (w:World)(a:Option Addr)(n cap:Nat)(L:List Int):Prop where
 len:L.length=n
 cap_:n<=cap
 none_:a=none->n=0/\cap=0
 cells:∀x,a=some x->∀j u,(iW L)[j]?=some u->w.cell? (x.add j)=some u
theorem RI.later (hb:Below W.heap.size W w1)(h:RI W a n cap L):RI w1 a n cap L :=
 ⟨h.len,h.cap_,h.none_,λx hx j u hu=>cell_later hb (h.cells x hx j u hu)⟩
theorem RI.nil (w:World):RI w none 0 0 []:=⟨rfl,Nat.le_refl _,λ_=>⟨rfl,rfl⟩,λ_ h=>(by cases h)⟩
theorem RI.plain (h:RI w a n cap L)(hl:0<n):∃b o,a=some ⟨b,o,none⟩/\∀i (hi:i<L.length),w.cell? ⟨b,o+i,none⟩=some (ab L[i]):=by
 cases a with
 | none=>have:=h.none_ rfl;omega
 | some x =>
  obtain⟨b,o,spot⟩:=x
  have hlen:=h.len
  have h0:=h.cells _ rfl 0 _ (dH L 0 (by omega))
  have hs:spot=none:=by simpa [Addr.add] using World.cell?_spot h0
  subst hs;refine⟨b,o,rfl,λi hi=>?_⟩
  have:=h.cells _ rfl i _ (dH L i hi)
  rw [bq] at this;exact this
theorem RI.at {b o:Nat}(hl:L.length=n)(hc:n<=cap)(h:∀i (hi:i<L.length),w.cell? ⟨b,o+i,none⟩=some (ab L[i])):RI w (some ⟨b,o,none⟩) n cap L:=by
 refine⟨hl,hc,λh=>(by cases h),λx hx j u hu=>?_⟩
 cases hx
 rw [bq];have hj:j<L.length:=by have:=(List.getElem?_eq_some_iff.1 hu).1;rwa [eQ] at this
 rw [dH L j hj] at hu;cases hu
 exact h j hj
structure Sl where
 a:Option Addr
 n:Nat
 c:Nat
abbrev Sl.v (s:Sl):Value:=.slice s.a s.n s.c
abbrev Sl.nil:Sl:=⟨none,0,0⟩
def cC (c:Cl)(d g:Sl):List Value:=[ab c.op,ab c.aE,ab c.size,ab c.obj,ai (c.hi:Int),ai (c.lo:Int),.bool c.given,ab c.aD,ab c.off,ab c.n,d.v,ab c.index,g.v]
abbrev cV (c:Cl)(d g:Sl):Value:=.agg #[ab c.op,ab c.aE,ab c.size,ab c.obj,ai (c.hi:Int),ai (c.lo:Int),.bool c.given,ab c.aD,ab c.off,ab c.n,d.v,ab c.index,g.v]
structure Is (w:World)(c:Cl)(d g:Sl):Prop where
 data:Row w d.a d.n d.c c.data
 aH:RI w g.a g.n g.c c.aH
 hi:c.hi<18446744073709551616
 lo:c.lo<18446744073709551616
theorem Is.later {c:Cl}{d g:Sl}(hb:Below W.heap.size W w1)(h:Is W c d g):Is w1 c d g:=⟨h.data.later hb,h.aH.later hb,h.hi,h.lo⟩
end Go.Proofs.YtmhinfbkmjdgfaaGreatDoor.R
namespace Go.Proofs.YtmhinfbkmjdgfaaGreatDoor.R
open Go.RowKit
variable {L:List Nat}{base n:Nat}{a:Option Addr}{W w1:World}
def Hh (l:List Nat):List Value:=l.map λ(n:Nat)=>Value.int .i64 (n:Int)
structure RP (w:World)(base:Nat)(a:Option Addr)(n:Nat)(L:List Nat):Prop where
 len:L.length=n
 cells:∀j (hj:j<L.length),∃b,a=some ⟨b,0,none⟩/\base<=b/\w.cell? ⟨b,j,none⟩=some (ab ((L[j]:Nat):Int))
theorem RP.but {S:Nat->Prop}(hb:aj S W w1)(h:RP W base a n L)(hS:∀k,base<=k->¬S k):RP w1 base a n L :=
 ⟨h.len,λj hj=>by
  obtain⟨b,hb1,hb2,hc⟩:=h.cells j hj
  exact⟨b,hb1,hb2,by rw [World.cell?_of_block (w:=W) (hb.block b (World.block_lt_of_cell? _ _ hc) (hS b hb2))];exact hc⟩⟩
theorem RP.later (hb:Below W.heap.size W w1)(h:RP W base a n L):RP w1 base a n L:=h.but (S:=λ_=>False) (aj.of hb) (λ_ _ h=>h)
theorem RP.new (w:World)(t:TypeId)(A:Array Value)(L:List Nat)(hA:A=(Hh L).toArray):RP (w.alloc (.cells A t)) w.heap.size (some ⟨w.heap.size,0,none⟩) L.length L:=by
 subst hA;exact⟨rfl,λj hj=>⟨_,rfl,Nat.le_refl _,by simp [go_sem,Hh,hj]⟩⟩
theorem jT (op:Int)(w:World):Calls Tryz.prog 218 #[ab op] w λe w'=>∃a n c,e=.returned (.slice a n c)/\RP w' w.heap.size a n (bT op)/\n<=5/\Below w.heap.size w w'/\∀k,aI a k->w.heap.size<=k:=by
 by_cases h:op=1
 ·subst h
  go_enter Tryz.func218,Tryz.ntmps218
  go_wp2;go_ret;exact⟨_,_,_,rfl,RP.new w 341 _ [0] rfl,by decide,ag _ _,λk ⟨x,hx,hk⟩=>by cases hx;exact Nat.le_of_eq hk⟩
 have b1:(op==1)=false:=by simpa using h
 have n1:Hid (¬op=1):=h
 clear h;by_cases h:op=2
 ·subst h
  go_enter Tryz.func218,Tryz.ntmps218
  go_wp2;go_ret;exact⟨_,_,_,rfl,RP.new w 341 _ [1,2] rfl,by decide,ag _ _,λk ⟨x,hx,hk⟩=>by cases hx;exact Nat.le_of_eq hk⟩
 have b2:(op==2)=false:=by simpa using h
 have n2:Hid (¬op=2):=h
 clear h;by_cases h:op=4
 ·subst h
  go_enter Tryz.func218,Tryz.ntmps218
  go_wp2;go_ret;exact⟨_,_,_,rfl,RP.new w 341 _ [1,2] rfl,by decide,ag _ _,λk ⟨x,hx,hk⟩=>by cases hx;exact Nat.le_of_eq hk⟩
 have b4:(op==4)=false:=by simpa using h
 have n4:Hid (¬op=4):=h
 clear h;by_cases h:op=7
 ·subst h
  go_enter Tryz.func218,Tryz.ntmps218
  go_wp2;go_ret;exact⟨_,_,_,rfl,RP.new w 341 _ [1,2] rfl,by decide,ag _ _,λk ⟨x,hx,hk⟩=>by cases hx;exact Nat.le_of_eq hk⟩
 have b7:(op==7)=false:=by simpa using h
 have n7:Hid (¬op=7):=h
 clear h;by_cases h:op=3
 ·subst h
  go_enter Tryz.func218,Tryz.ntmps218
  go_wp2;go_ret;exact⟨_,_,_,rfl,RP.new w 341 _ [1,2,4] rfl,by decide,ag _ _,λk ⟨x,hx,hk⟩=>by cases hx;exact Nat.le_of_eq hk⟩
 have b3:(op==3)=false:=by simpa using h
 have n3:Hid (¬op=3):=h
 clear h;by_cases h:op=5
 ·subst h
  go_enter Tryz.func218,Tryz.ntmps218
  go_wp2;go_ret;exact⟨_,_,_,rfl,RP.new w 341 _ [1,3,2,5,6] rfl,by decide,ag _ _,λk ⟨x,hx,hk⟩=>by cases hx;exact Nat.le_of_eq hk⟩
 have b5:(op==5)=false:=by simpa using h
 have n5:Hid (¬op=5):=h
 clear h;by_cases h:op=6
 ·subst h
  go_enter Tryz.func218,Tryz.ntmps218
  go_wp2;go_ret;exact⟨_,_,_,rfl,RP.new w 341 _ [1,3,2,5,7] rfl,by decide,ag _ _,λk ⟨x,hx,hk⟩=>by cases hx;exact Nat.le_of_eq hk⟩
 have b6:(op==6)=false:=by simpa using h
 have n6:Hid (¬op=6):=h
 clear h;by_cases h:op=8
 ·subst h
  go_enter Tryz.func218,Tryz.ntmps218
  go_wp2;go_ret;exact⟨_,_,_,rfl,RP.new w 341 _ [8] rfl,by decide,ag _ _,λk ⟨x,hx,hk⟩=>by cases hx;exact Nat.le_of_eq hk⟩
 have b8:(op==8)=false:=by simpa using h
 have n8:Hid (¬op=8):=h
 clear h;by_cases h:op=9
 ·subst h
  go_enter Tryz.func218,Tryz.ntmps218
  go_wp2;go_ret;exact⟨_,_,_,rfl,RP.new w 341 _ [9] rfl,by decide,ag _ _,λk ⟨x,hx,hk⟩=>by cases hx;exact Nat.le_of_eq hk⟩
 have b9:(op==9)=false:=by simpa using h
 have n9:Hid (¬op=9):=h
 clear h;have E:Hid (bT op=[]):=by
  have:=n1.out;have:=n2.out;have:=n3.out;have:=n4.out;have:=n5.out;have:=n6.out;have:=n7.out;have:=n8.out;have:=n9.out
  unfold Hid bT;rw [if_neg (by omega),if_neg (by omega),if_neg (by omega),if_neg (by omega),if_neg (by omega),if_neg (by omega),if_neg (by omega)]
 go_enter Tryz.func218,Tryz.ntmps218
 go_wp2;go_ret;exact⟨none,0,0,rfl,by rw [E.out];exact⟨rfl,λj hj=>absurd hj (by simp)⟩,by omega,Below.refl _ _,λk ⟨x,hx,hk⟩=>by cases hx⟩
end Go.Proofs.YtmhinfbkmjdgfaaGreatDoor.R
namespace Go.Proofs.YtmhinfbkmjdgfaaGreatDoor.R
open Go.RowKit
theorem bA (W:World)(cs:List Value)(t:TypeId):(W.alloc (.cells cs.toArray t)).rangeAt W.heap.size 0 cs:=by
 intro j v hv;have hj:=(List.getElem?_eq_some_iff.1 hv)
 simp [go_sem,hv]
theorem eR (W:World)(b:Nat)(cs:List Value)(hb:b=W.heap.size)(hl:cs.length=13):(loadVar 44 ⟨b,0,none⟩).run Tryz.prog (W.alloc (.cells cs.toArray 44))=.ok (.agg cs.toArray) (W.alloc (.cells cs.toArray 44)):=by
 subst hb;exact run_loadVar_mid (P:=Tryz.prog) _ _ 0 44 cs _ (bA W cs 44) Tryz.underlying44 rfl (by rw [hl];kernel_rfl)
def wd (p:Nat)(d:Sl):Sl:=if p=7 then Sl.nil else d
def wg (p:Nat)(g:Sl):Sl:=if p=9 then Sl.nil else g
theorem Is.wo {w:World}{c:Cl}{d g:Sl}(h:Is w c d g)(p:Nat):Is w (wo c p) (wd p d) (wg p g):=by
 obtain⟨op,aE,size,obj,hi,lo,given,aD,off,n,data,index,aH⟩:=c
 unfold R.wo wd wg mv;repeat' split
 all_goals first
  | omega
  | exact⟨h.1,h.2,h.3,h.4⟩
  | exact⟨h.1,h.2,(by show (0:Nat)<18446744073709551616;omega),(by show (0:Nat)<18446744073709551616;omega)⟩
  | exact⟨bh _,h.2,h.3,h.4⟩
  | exact⟨h.1,RI.nil _,h.3,h.4⟩
theorem xy (c:Cl)(d g:Sl)(w:World):Calls Tryz.prog 277 #[cV c d g,ab 0] w λe w'=>e=.returned (cV (wo c 0) (wd 0 d) (wg 0 g))/\Below w.heap.size w w':=by
 obtain⟨op,aE,size,obj,hi,lo,given,aD,off,n,data,index,aH⟩:=c
 obtain⟨da,dn,dc⟩:=d
 obtain⟨ga,gn,gc⟩:=g
 unfold cV;show Calls _ _ _ _ λe w'=>e=.returned (.agg #[ab op,ab aE,ab 0,ab obj,ai (hi:Int),ai (lo:Int),.bool given,ab aD,ab off,ab n,.slice da dn dc,ab index,.slice ga gn gc])/\Below w.heap.size w w'
 go_enter Tryz.func277,Tryz.ntmps277
 go_wp2;exact bodyPost_ret (by simp [results,Tryz.results277,asAddr,eR]) rfl ⟨rfl,aB _ _ _⟩
theorem yc (c:Cl)(d g:Sl)(w:World):Calls Tryz.prog 277 #[cV c d g,ab 1] w λe w'=>e=.returned (cV (wo c 1) (wd 1 d) (wg 1 g))/\Below w.heap.size w w':=by
 obtain⟨op,aE,size,obj,hi,lo,given,aD,off,n,data,index,aH⟩:=c
 obtain⟨da,dn,dc⟩:=d
 obtain⟨ga,gn,gc⟩:=g
 unfold cV;show Calls _ _ _ _ λe w'=>e=.returned (.agg #[ab op,ab aE,ab size,ab 0,ai (hi:Int),ai (lo:Int),.bool given,ab aD,ab off,ab n,.slice da dn dc,ab index,.slice ga gn gc])/\Below w.heap.size w w'
 go_enter Tryz.func277,Tryz.ntmps277
 go_wp2;exact bodyPost_ret (by simp [results,Tryz.results277,asAddr,eR]) rfl ⟨rfl,aB _ _ _⟩
theorem Ai (c:Cl)(d g:Sl)(w:World):Calls Tryz.prog 277 #[cV c d g,ab 2] w λe w'=>e=.returned (cV (wo c 2) (wd 2 d) (wg 2 g))/\Below w.heap.size w w':=by
 obtain⟨op,aE,size,obj,hi,lo,given,aD,off,n,data,index,aH⟩:=c
 obtain⟨da,dn,dc⟩:=d
 obtain⟨ga,gn,gc⟩:=g
 unfold cV;show Calls _ _ _ _ λe w'=>e=.returned (.agg #[ab op,ab aE,ab size,ab obj,ai 0,ai 0,.bool given,ab aD,ab off,ab n,.slice da dn dc,ab index,.slice ga gn gc])/\Below w.heap.size w w'
 go_enter Tryz.func277,Tryz.ntmps277
 go_wp2;exact bodyPost_ret (by simp [results,Tryz.results277,asAddr,eR]) rfl ⟨rfl,aB _ _ _⟩
theorem yb (c:Cl)(d g:Sl)(w:World):Calls Tryz.prog 277 #[cV c d g,ab 3] w λe w'=>e=.returned (cV (wo c 3) (wd 3 d) (wg 3 g))/\Below w.heap.size w w':=by
 obtain⟨op,aE,size,obj,hi,lo,given,aD,off,n,data,index,aH⟩:=c
 obtain⟨da,dn,dc⟩:=d
 obtain⟨ga,gn,gc⟩:=g
 unfold cV;show Calls _ _ _ _ λe w'=>e=.returned (.agg #[ab op,ab aE,ab size,ab obj,ai (hi:Int),ai (lo:Int),.bool false,ab aD,ab off,ab n,.slice da dn dc,ab index,.slice ga gn gc])/\Below w.heap.size w w'
 go_enter Tryz.func277,Tryz.ntmps277
 go_wp2;exact bodyPost_ret (by simp [results,Tryz.results277,asAddr,eR]) rfl ⟨rfl,aB _ _ _⟩
theorem xN (c:Cl)(d g:Sl)(w:World):Calls Tryz.prog 277 #[cV c d g,ab 4] w λe w'=>e=.returned (cV (wo c 4) (wd 4 d) (wg 4 g))/\Below w.heap.size w w':=by
 obtain⟨op,aE,size,obj,hi,lo,given,aD,off,n,data,index,aH⟩:=c
 obtain⟨da,dn,dc⟩:=d
 obtain⟨ga,gn,gc⟩:=g
 unfold cV;show Calls _ _ _ _ λe w'=>e=.returned (.agg #[ab op,ab aE,ab size,ab obj,ai (hi:Int),ai (lo:Int),.bool given,ab 0,ab off,ab n,.slice da dn dc,ab index,.slice ga gn gc])/\Below w.heap.size w w'
 go_enter Tryz.func277,Tryz.ntmps277
 go_wp2;exact bodyPost_ret (by simp [results,Tryz.results277,asAddr,eR]) rfl ⟨rfl,aB _ _ _⟩
theorem zR (c:Cl)(d g:Sl)(w:World):Calls Tryz.prog 277 #[cV c d g,ab 5] w λe w'=>e=.returned (cV (wo c 5) (wd 5 d) (wg 5 g))/\Below w.heap.size w w':=by
 obtain⟨op,aE,size,obj,hi,lo,given,aD,off,n,data,index,aH⟩:=c
 obtain⟨da,dn,dc⟩:=d
 obtain⟨ga,gn,gc⟩:=g
 unfold cV;show Calls _ _ _ _ λe w'=>e=.returned (.agg #[ab op,ab aE,ab size,ab obj,ai (hi:Int),ai (lo:Int),.bool given,ab aD,ab 0,ab n,.slice da dn dc,ab index,.slice ga gn gc])/\Below w.heap.size w w'
 go_enter Tryz.func277,Tryz.ntmps277
 go_wp2;exact bodyPost_ret (by simp [results,Tryz.results277,asAddr,eR]) rfl ⟨rfl,aB _ _ _⟩
theorem yM (c:Cl)(d g:Sl)(w:World):Calls Tryz.prog 277 #[cV c d g,ab 6] w λe w'=>e=.returned (cV (wo c 6) (wd 6 d) (wg 6 g))/\Below w.heap.size w w':=by
 obtain⟨op,aE,size,obj,hi,lo,given,aD,off,n,data,index,aH⟩:=c
 obtain⟨da,dn,dc⟩:=d
 obtain⟨ga,gn,gc⟩:=g
 unfold cV;show Calls _ _ _ _ λe w'=>e=.returned (.agg #[ab op,ab aE,ab size,ab obj,ai (hi:Int),ai (lo:Int),.bool given,ab aD,ab off,ab 0,.slice da dn dc,ab index,.slice ga gn gc])/\Below w.heap.size w w'
 go_enter Tryz.func277,Tryz.ntmps277
 go_wp2;exact bodyPost_ret (by simp [results,Tryz.results277,asAddr,eR]) rfl ⟨rfl,aB _ _ _⟩
theorem yD (c:Cl)(d g:Sl)(w:World):Calls Tryz.prog 277 #[cV c d g,ab 7] w λe w'=>e=.returned (cV (wo c 7) (wd 7 d) (wg 7 g))/\Below w.heap.size w w':=by
 obtain⟨op,aE,size,obj,hi,lo,given,aD,off,n,data,index,aH⟩:=c
 obtain⟨da,dn,dc⟩:=d
 obtain⟨ga,gn,gc⟩:=g
 unfold cV;show Calls _ _ _ _ λe w'=>e=.returned (.agg #[ab op,ab aE,ab size,ab obj,ai (hi:Int),ai (lo:Int),.bool given,ab aD,ab off,ab n,.slice none 0 0,ab index,.slice ga gn gc])/\Below w.heap.size w w'
 go_enter Tryz.func277,Tryz.ntmps277
 go_wp2;exact bodyPost_ret (by simp [results,Tryz.results277,asAddr,eR]) rfl ⟨rfl,aB _ _ _⟩
theorem xA (c:Cl)(d g:Sl)(w:World):Calls Tryz.prog 277 #[cV c d g,ab 8] w λe w'=>e=.returned (cV (wo c 8) (wd 8 d) (wg 8 g))/\Below w.heap.size w w':=by
 obtain⟨op,aE,size,obj,hi,lo,given,aD,off,n,data,index,aH⟩:=c
 obtain⟨da,dn,dc⟩:=d
 obtain⟨ga,gn,gc⟩:=g
 unfold cV;show Calls _ _ _ _ λe w'=>e=.returned (.agg #[ab op,ab aE,ab size,ab obj,ai (hi:Int),ai (lo:Int),.bool given,ab aD,ab off,ab n,.slice da dn dc,ab 0,.slice ga gn gc])/\Below w.heap.size w w'
 go_enter Tryz.func277,Tryz.ntmps277
 go_wp2;exact bodyPost_ret (by simp [results,Tryz.results277,asAddr,eR]) rfl ⟨rfl,aB _ _ _⟩
theorem z7 (c:Cl)(d g:Sl)(w:World):Calls Tryz.prog 277 #[cV c d g,ab 9] w λe w'=>e=.returned (cV (wo c 9) (wd 9 d) (wg 9 g))/\Below w.heap.size w w':=by
 obtain⟨op,aE,size,obj,hi,lo,given,aD,off,n,data,index,aH⟩:=c
 obtain⟨da,dn,dc⟩:=d
 obtain⟨ga,gn,gc⟩:=g
 unfold cV;show Calls _ _ _ _ λe w'=>e=.returned (.agg #[ab op,ab aE,ab size,ab obj,ai (hi:Int),ai (lo:Int),.bool given,ab aD,ab off,ab n,.slice da dn dc,ab index,.slice none 0 0])/\Below w.heap.size w w'
 go_enter Tryz.func277,Tryz.ntmps277
 go_wp2;exact bodyPost_ret (by simp [results,Tryz.results277,asAddr,eR]) rfl ⟨rfl,aB _ _ _⟩
theorem pH (p:Nat)(hp:p<10)(c:Cl)(d g:Sl)(w:World):Calls Tryz.prog 277 #[cV c d g,ab (p:Int)] w λe w'=>e=.returned (cV (wo c p) (wd p d) (wg p g))/\Below w.heap.size w w':=by
 rcases (by omega:p=0\/p=1\/p=2\/p=3\/p=4\/p=5\/p=6\/p=7\/p=8\/p=9) with rfl|rfl|rfl|rfl|rfl|rfl|rfl|rfl|rfl|rfl
 ·exact xy c d g w
 ·exact yc c d g w
 ·exact Ai c d g w
 ·exact yb c d g w
 ·exact xN c d g w
 ·exact zR c d g w
 ·exact yM c d g w
 ·exact yD c d g w
 ·exact xA c d g w
 ·exact z7 c d g w
end Go.Proofs.YtmhinfbkmjdgfaaGreatDoor.R
namespace Go.Proofs.YtmhinfbkmjdgfaaGreatDoor.R
open Go.RowKit
variable {a:Act}{ops:Array Oper}{Q:Exit->Act->World->Prop}{rest:List Oper}{L:List Value}{b o:Nat}{S:Nat->Prop}{P:Program}{ps:String}{tt ty:TypeId}{p v:Value}{w w':World}
theorem aJ {d:Option Tmp}{af}{x:Operand}
  (hr:(Instr.loadAt ty p).run P w=.ok v w) (hx:a.eval x=p) (h:wpList P ops Q rest (a.put d v) w) :
  wpList P ops Q ({ dst:=d,op:=.load ty x,type:=tt,pos:=ps,after:=af,guard:=none }::rest) a w:=by
 refine wpList_plain rfl λK hK=>?_
 unfold Oper.wp execOp;simp only [hx,hr,Sem.run_bind,Sem.run_pure,Result.andThen_ok];exact hK _ _ h
theorem eP {d:Option Tmp}{af}{gd}{x:Operand}
  (hr:(Instr.loadAt ty p).run P w=.ok v w) (hx:a.eval x=p) (hw:Region.wanted { dst:=d,op:=.load ty x,type:=tt,pos:=ps,after:=af,guard:=gd } (yielded ops a.tmps)=true) (h:wpList P ops Q rest (a.put d v) w) :
  wpList P ops Q ({ dst:=d,op:=.load ty x,type:=tt,pos:=ps,after:=af,guard:=gd }::rest) a w:=by
 refine wpList_step λK hK=>?_
 rw [if_pos hw];unfold Oper.wp execOp;simp only [hx,hr,Sem.run_bind,Sem.run_pure,Result.andThen_ok];exact hK _ _ h
theorem yp:(Tryz.prog.info? 44).map (·.size)=some 13:=by kernel_rfl
theorem mD (h:w.rangeAt b o L)(hl:L.length=13):(Instr.loadAt 44 (.pointer (some ⟨b,o,none⟩))).run Tryz.prog w=.ok (.agg L.toArray) w :=
 run_loadAt_mid w b o 44 L _ h Tryz.underlying44 rfl (by rw [yp,hl])
theorem Ho (h:w.rangeAt b o L)(hl:L.length=13):(loadVar 44 ⟨b,o,none⟩).run Tryz.prog w=.ok (.agg L.toArray) w :=
 run_loadVar_mid w b o 44 L _ h Tryz.underlying44 rfl (by rw [yp,hl])
theorem yL (c:Cl)(d g:Sl):∀v∈cC c d g,v.oneCell'=true:=by
 intro v hv;simp only [cC,List.mem_cons,List.mem_nil_iff,or_false] at hv;rcases hv with rfl|rfl|rfl|rfl|rfl|rfl|rfl|rfl|rfl|rfl|rfl|rfl|rfl<;>rfl
structure Bx (w:World)(b:Nat)(L:List Value):Prop where
 range:w.rangeAt b 0 L
 there:w.there b 0 L.length
theorem Bx.but (hb:aj S w w')(h:Bx w b L)(hn:¬S b):Bx w' b L:=by
 refine⟨λj v hv=>?_,λj hj=>?_⟩
 ·have hc:=h.range j v hv
  have hk:=hb.block b (World.block_lt_of_cell? _ _ hc) hn
  rw [World.cell?_of_block (w:=w) hk];exact hc
 ·obtain⟨h1,h2⟩:=h.there j hj
  obtain⟨v,hv⟩:=Option.isSome_iff_exists.1 h1
  have hk:=hb.block b (World.block_lt_of_cell? _ _ hv) hn
  exact⟨by rw [World.cell?_of_block (w:=w) hk];exact h1,by rw [World.frozen?_of_block hk];exact h2⟩
theorem Bx.later (hb:Below w.heap.size w w')(h:Bx w b L):Bx w' b L:=h.but (S:=λ_=>False) (aj.of hb) (λh=>h)
theorem Bx.new (w:World)(L:List Value)(t:TypeId):Bx (w.alloc (.cells L.toArray t)) w.heap.size L:=by
 refine⟨bA w L t,λj hj=>⟨?_,?_⟩⟩
 ·rw [bA w L t j L[j] (by simp [hj])];rfl
 ·simp [go_sem]
theorem au (hb:S b):∀(vs:List Value) (o:Nat) {a w:World},aj S a w->aj S a (w.setCells b o vs)
 | [],_,_,_,h=>h
 | v::r,o,a,w,h=>by rw [World.setCells];exact au hb r (o+1) (h.setCell hb _)
theorem cj (b:Nat)(x:Addr):∀(vs:List Value) (o:Nat) (w:World),(w.setCells b o vs).frozen? x=w.frozen? x
 | [],_,_=>rfl
 | v::r,o,w=>by rw [World.setCells,cj b x r];simp
theorem Bx.set {M:List Value}(h:Bx w b L)(hl:M.length=L.length):Bx (w.setCells b 0 M) b M:=by
 refine⟨World.rangeAt_setCells_same _ _ _ _ (hl ▸ h.there),λj hj=>?_⟩
 obtain⟨h1,h2⟩:=h.there j (by omega)
 exact⟨World.isSome_setCells _ _ _ _ _ h1,by rw [cj];exact h2⟩
theorem Bx.lt (h:Bx w b L)(hl:0<L.length):b<w.heap.size:=by
 obtain⟨h1,_⟩:=h.there 0 hl
 obtain⟨v,hv⟩:=Option.isSome_iff_exists.1 h1
 exact World.block_lt_of_cell? _ _ hv
theorem Bx.cell (h:Bx w b L)(j:Nat)(hv:L[j]?=some v):w.cell? ⟨b,j,none⟩=some v:=by
 have:=h.range j v hv
 rwa [Nat.zero_add] at this
theorem DG {n:Nat}(h:w.there b o n)(hl:L.length=n)(h1:∀v∈L,v.oneCell'=true):(storeCells ⟨b,o,none⟩ L).run Tryz.prog w=.ok () (w.setCells b o L) :=
 run_storeCells_cells (P:=Tryz.prog) b o L 0 w (λj hj=>by rw [Nat.add_zero];exact (h j (by omega)).1) (λj hj=>by rw [Nat.add_zero];exact (h j (by omega)).2) h1
def z41:List Value:=cC (clz 0 0) Sl.nil Sl.nil
theorem E_:∃Z:List Value,Z.length=13/\(∀v∈Z,v.oneCell'=true)/\Z=z41/\∀w:World,(zeroValue 44).run Tryz.prog w=.ok (.agg Z.toArray) w:=by
 refine⟨z41,rfl,yL _ _ _,rfl,λw=>?_⟩
 obtain⟨i,hi,hz⟩:∃i,Tryz.prog.info? 44=some i/\i.zero=some (.agg z41.toArray):=by
  have h:(Tryz.prog.info? 44).map (·.zero)=some (some (.agg z41.toArray)):=by kernel_rfl
  cases hq:Tryz.prog.info? 44 with
  | none=>simp [hq] at h
  | some i=>simp [hq] at h;exact⟨i,rfl,h⟩
 simp [zeroValue,typeInfo,hi,hz]
end Go.Proofs.YtmhinfbkmjdgfaaGreatDoor.R
