import Derived.Test.YtfmhdimaijimlaaGreatDoorZ07
set_option linter.all false
set_option maxRecDepth 1000000
set_option maxHeartbeats 8000000
open Go.Proofs.Tryz
variable {w w' w1 w2:Go.World}{n m k i j b g base kn:Nat}{a:Option Go.Addr}
namespace Go.Proofs.YtfmhdimaijimlaaGreatDoor.R
open Go.RowKit
theorem jb:(prog.info? 5).map (λi=>(i.zero,i.size,i.bytes))=some (some (.int .u8 0),1,1):=by kernel_rfl
def aM (l:List Nat):List Value:=l.map λ(n:Nat)=>Value.int .u8 (n:Int)
theorem ax (l:List Nat):(aM l).length=l.length:=by simp [aM]
theorem fv (l m:List Nat):aM (l++m)=aM l++aM m:=by simp [aM]
theorem js (l:List Nat)(i:Nat)(h:i<l.length):(aM l)[i]?=some (.int .u8 ((l[i]:Nat):Int)):=by simp [aM,h]
theorem fB (l:List Nat):∀u∈aM l,u.oneCell'=true:=by
 intro u hu
 simp only [aM,List.mem_map] at hu
 obtain⟨n,_,rfl⟩:=hu
 rfl
structure Row (w:World)(a:Option Addr)(n cap:Nat)(L:List Nat):Prop where
 len:L.length=n
 cap_:n<=cap
 none_:a=none->n=0/\cap=0
 cells:∀x,a=some x->∀j u,(aM L)[j]?=some u->w.cell? (x.add j)=some u
 small:∀x∈L,x<256
theorem Row.later {W:World}{cap:Nat}{L:List Nat}(hb:Below W.heap.size W w1)(h:Row W a n cap L):Row w1 a n cap L :=
 ⟨h.len,h.cap_,h.none_,λx hx j u hu=>cell_later hb (h.cells x hx j u hu),h.small⟩
theorem dY (w:World):Row w none 0 0 []:=⟨rfl,Nat.le_refl _,λ_=>⟨rfl,rfl⟩,λ_ h=>(by cases h),λ_ h=>(by cases h)⟩
theorem Row.plain {cap:Nat}{L:List Nat}(h:Row w a n cap L)(hl:0<n):∃b o,a=some ⟨b,o,none⟩/\∀i (hi:i<L.length),w.cell? ⟨b,o+i,none⟩=some (.int .u8 ((L[i]:Nat):Int)):=by
 cases a with
 | none=>have:=h.none_ rfl;omega
 | some x =>
  obtain⟨b,o,spot⟩:=x
  have hlen:=h.len
  have h0:=h.cells _ rfl 0 _ (js L 0 (by omega))
  have hs:spot=none:=by simpa [Addr.add] using World.cell?_spot h0
  subst hs
  refine⟨b,o,rfl,λi hi=>?_⟩
  have:=h.cells _ rfl i _ (js L i hi)
  rw [aV] at this
  exact this
theorem Row.at {o cap:Nat}{L:List Nat}(hl:L.length=n)(hc:n<=cap)(hs:∀x∈L,x<256)(h:∀i (hi:i<L.length),w.cell? ⟨b,o+i,none⟩=some (.int .u8 ((L[i]:Nat):Int))):Row w (some ⟨b,o,none⟩) n cap L:=by
 refine⟨hl,hc,λh=>(by cases h),λx hx j u hu=>?_,hs⟩
 cases hx
 rw [aV]
 have hj:j<L.length:=by have:=(gS.1 hu).1;rwa [ax] at this
 rw [js L j hj] at hu
 cases hu
 exact h j hj
structure Own (w:World)(base:Nat)(a:Option Addr)(n cap:Nat)(L:List Nat):Prop where
 row:w.ownsRow base 5 1 (.slice a n cap) n (aM L)
 small:∀x∈L,x<256
theorem Own.len {cap:Nat}{L:List Nat}(h:Own w base a n cap L):L.length=n:=by
 have:=h.row.1
 rw [ax,Nat.mul_one] at this
 exact this
theorem Own.read {cap:Nat}{L:List Nat}(h:Own w base a n cap L):Row w a n cap L:=by
 refine⟨h.len,?_,?_,?_,h.small⟩
 ·rcases h.row.2 with ⟨h,hn⟩|⟨g,c,cur,hv,_,_,hc,_⟩
  ·omega
  ·simp only [Value.slice.injEq] at hv;omega
 ·intro ha
  rcases h.row.2 with ⟨h,hn⟩|⟨g,c,cur,hv,_,_,hc,_⟩
  ·simp only [Value.slice.injEq] at h;omega
  ·subst ha;simp at hv
 ·intro x hx j u hu
  rcases h.row.2 with ⟨h,hn⟩|⟨g,c,cur,hv,_,_,hc,_⟩
  ·subst hx;simp at h
  ·subst hx
   simp only [Value.slice.injEq,Option.some.injEq] at hv
   obtain⟨rfl,_,rfl⟩:=hv
   exact h.row.cells (g:=g) rfl j u hu
theorem nP {W:World}{e:TypeId}{size:Nat}{v:Value}{xs:List Value}(hb:Below W.heap.size W w1)(h:W.ownsRow base e size v n xs):w1.ownsRow base e size v n xs:=by
 refine⟨h.1,?_⟩
 rcases h.2 with h|⟨g,cap,cur,hv,hg,hh,r⟩
 ·exact .inl h
 ·have hlt:g<W.heap.size:=by
   rcases Nat.lt_or_ge g W.heap.size with h1|h1
   ·exact h1
   ·rw [Array.getElem?_eq_none h1] at hh;cases hh
  exact .inr ⟨g,cap,cur,hv,hg,by rw [hb.block g hlt];exact hh,r⟩
theorem aZ {e:TypeId}{size:Nat}{v:Value}{xs:List Value}(h:w.ownsRow base e size v n xs):∀k,v.ownBlock=some k->base<=k:=by
 intro k hk
 rcases h.2 with ⟨rfl,_⟩|⟨g,cap,cur,rfl,hg,_⟩
 ·cases hk
 ·simp [Value.ownBlock] at hk;omega
theorem Own.later {W:World}{cap:Nat}{L:List Nat}(hb:Below W.heap.size W w1)(h:Own W base a n cap L):Own w1 base a n cap L:=⟨nP hb h.row,h.small⟩
theorem Own.alloc {cap:Nat}{L:List Nat}(h:Own w base a n cap L)(o:Obj):Own (w.alloc o) base a n cap L:=h.later (ab _ _)
theorem Own.mono {cap:Nat}{L:List Nat}(h:Own w base a n cap L)(hb:b<=base):Own w b a n cap L:=⟨gw h.row hb,h.small⟩
theorem Own.bD {cap:Nat}{L:List Nat}(h:Own w base a n cap L):∀k,aD a k->base<=k:=λk hk=>aZ h.row k (aD.of.2 hk)
theorem Gr.below {a':Option Addr}{cap:Nat}{L:List Nat}(h:Own w base a n cap L)(g:Gr a a' w w')(hb:base<=w.heap.size):Below base w w' :=
 ⟨g.but.os,g.but.tape,g.but.output,g.but.size,λk hk=>g.but.block k (by omega) (λhs=>by have:=h.bD k hs;omega)⟩
theorem lY {cap:Nat}{L:List Nat}{b:Option Addr}{c:Nat}{M:List Nat}(h:Own w base a n cap L)(k:Row w b m c M)(hb:base<=w.heap.size)(hr:n+m<=140737488355328) :
  ∃a' cap' w',(Builtin.append_ #[39,39] 39 #[.slice a n cap,.slice b m c]).run prog w=.ok (.slice a' (n+m) cap') w'/\Own w' base a' (n+m) cap' (L++M)/\Gr a a' w w':=by
 obtain⟨i,hi,hz0,hz1,hz2⟩:=info_parts jb
 have hsm:∀x∈L++M,x<256:=λx hx=>by
  rcases List.mem_append.1 hx with h1|h1
  ·exact h.small x h1
  ·exact k.small x h1
 cases b with
 | none =>
  obtain⟨rfl,rfl⟩:=k.none_ rfl
  have hM:M=[]:=List.eq_nil_of_length_eq_zero k.len
  subst hM
  have hr:=run_append_owned_none (P:=prog) (w:=w) base 39 39 5 i 1 underlying39 hi _ n _ h.row
  exact⟨a,cap,w,hr,⟨by simpa using h.row,hsm⟩,Gr.refl _ _⟩
 | some x =>
  obtain⟨v',w',hr,h2,h3,_,h5⟩:=run_append_own_at (P:=prog) w base 39 39 5 i _ 1 1 underlying39 hi hz0 hz1 hz2 rfl (by decide) _ n _ h.row x m c (aM M) (by rw [ax,k.len,Nat.mul_one]) (k.cells x rfl) (fB M) (by unfold maxLen;omega) (by omega) hb
  obtain⟨a',cap',rfl⟩:∃a' cap',v'=.slice a' (n+m) cap':=by
   rcases h2.2 with ⟨h,h'⟩|⟨g',cap',_,h,_⟩
   ·exact⟨.none,0,by rw [h,h']⟩
   ·exact⟨_,cap',h⟩
  refine⟨a',cap',w',hr,⟨by rw [fv];exact h2,hsm⟩,⟨h3.os,h3.tape,h3.output,h3.size,λj hj hn=>h3.block j hj (λe=>hn (aD.of.1 e.symm))⟩,λj hj=>?_⟩
  rcases h5 with h5|h5
  ·rw [aD.of.2 hj] at h5
   exact .inl (aD.of.1 h5.symm)
  ·rw [aD.of.2 hj] at h5
   right
   simp at h5
   omega
theorem Row.one (w:World)(b:Nat)(hb:b<256):Row (w.alloc (Obj.cells #[Value.int .u8 (b:Int)] 5)) (some ⟨w.heap.size,0,.none⟩) 1 1 [b] :=
 Row.at (L:=[b]) rfl (Nat.le_refl _) (λx hx=>by simp at hx;omega) (λi hi=>by
  have:i=0:=by simp at hi;omega
  subst this
  simp [go_sem])
def ak:Nat:=18446744073709551616
def cj (v k:Nat):List Nat:=(List.range k).map λi=>v / 256 ^ i%256
theorem jc (v:Nat):cj v 0=[]:=rfl
theorem iU (v k:Nat):cj v (k+1)=cj v k++[v / 256 ^ k%256]:=by simp [cj,List.range_succ]
theorem cA (v k:Nat):(cj v k).length=k:=by simp [cj]
theorem oz (v k:Nat):∀x∈cj v k,x<256:=by
 intro x hx
 simp only [cj,List.mem_map] at hx
 obtain⟨i,_,rfl⟩:=hx
 omega
theorem uK (v k j:Nat)(h:k<=j):cj (v%256 ^ j) k=cj v k:=by
 unfold cj
 apply List.map_congr_left
 intro i hi
 have hi:i<k:=List.mem_range.1 hi
 have e:(256:Nat) ^ j=256 ^ i*(256*256 ^ (j - i - 1)):=by rw [<-Nat.mul_assoc,<-Nat.pow_succ,<-Nat.pow_add];congr 1;omega
 rw [e,Nat.mod_mul_right_div_self,Nat.mod_mul_right_mod]
theorem vh (w:World):Calls prog 142 #[] w λe w'=>e=.returned (.int .i64 2)/\w'=w:=by
 go_enter func142,ntmps142
 go_wp2
 go_loop [1,2] (λn r=>∃k:Nat,k<=2/\n=.int .i64 k/\r=.int .u64 ((65535 / 256 ^ k:Nat):Int)) (λn _=>2 - (intOf n).toNat)
 case atStart=>exact⟨0,by omega,rfl,rfl⟩
 case round =>
  obtain⟨k,hk,rfl,rfl⟩:=hrel
  rcases (by omega:k=0\/k=1\/k=2) with rfl|rfl|rfl
  ·go_wp2
   exact⟨⟨1,by omega,by go_num,by go_num⟩,by simp [intOf]⟩
  ·go_wp2
   exact⟨⟨2,by omega,by go_num,by go_num⟩,by simp [intOf]⟩
  ·go_wp2
   go_ret
   exact⟨rfl,rfl⟩
theorem eg (n more:Nat)(hr:n+more<=140737488355328)(u:World):(Instr.makeSlice 39 (.int .i64 (n:Int)) (.int .i64 ((n:Int)+(more:Int)))).run prog u =
  .ok (.slice (some ⟨u.heap.size,0,none⟩) n (n+more)) (u.alloc (.cells (madeCells #[.int .u8 0] (n+more)) 5)):=by
 obtain⟨i0,hi,hz0,hz1,hz2⟩:=info_parts jb
 have h:=run_make (P:=prog) u 39 5 i0 (.int .u8 0) underlying39 hi hz0 .i64 .i64 (n:Int) ((n:Int)+(more:Int)) (by omega) (by omega) (by rw [hz2];omega) (by omega)
 have e:((n:Int)+(more:Int)).toNat=n+more:=by omega
 rw [e] at h
 simpa [hz1,Value.cells] using h
theorem z8 (w:World)(a:Option Addr)(n cap more:Nat)(L:List Nat)(h:Row w a n cap L)(hr:n+more<=140737488355328) :
  ∃v' w',(Builtin.copy_ #[39,39] 3 #[.slice (some ⟨w.heap.size,0,none⟩) n (n+more),.slice a n cap]).run prog (w.alloc (.cells (madeCells #[.int .u8 0] (n+more)) 5))=.ok v' w' /\
   Own w' w.heap.size (some ⟨w.heap.size,0,none⟩) n (n+more) L/\Below w.heap.size w w':=by
 have hh:=heap_alloc_new w (.cells (madeCells #[.int .u8 0] (n+more)) 5)
 have hsz:(madeCells #[Value.int .u8 0] (n+more)).size=n+more:=by simp [madeCells]
 have hbase:Below w.heap.size w (w.alloc (.cells (madeCells #[.int .u8 0] (n+more)) 5)):=ab _ _
 cases a with
 | none =>
  obtain⟨rfl,rfl⟩:=h.none_ rfl
  have hL:L=[]:=List.eq_nil_of_length_eq_zero h.len
  subst hL
  refine⟨_,_,run_copy_nil (P:=prog) _ 39 39 3 5 _ _ _ underlying39 (by kernel_rfl),⟨⟨rfl,.inr ⟨_,_,_,rfl,Nat.le_refl _,hh,by omega,by unfold maxLen;omega,by rw [hsz,Nat.mul_one],by simp [aM]⟩⟩,h.small⟩,hbase⟩
 | some x =>
  have hl:(aM L).length=n:=by rw [ax,h.len]
  have hr:=run_copy_row (P:=prog) (w.alloc (.cells (madeCells #[.int .u8 0] (n+more)) 5)) 39 39 3 5 w.heap.size 0 n (n+more) x n cap _ 5 (aM L) underlying39 (by kernel_rfl) hh (by rw [hl];simp) (λj v hj=>cell_later (ab _ _) (h.cells x rfl j v hj)) (by rw [hl,hsz];omega) (fB L)
  refine⟨_,_,hr,⟨⟨by rw [hl,Nat.mul_one],.inr ⟨_,_,_,rfl,Nat.le_refl _,setRow_heap _ _ _ _ _ _ hh,by omega,by unfold maxLen;omega,?_,?_⟩⟩,h.small⟩,?_⟩
  ·simp [hl,hsz]
  ·simp only [Nat.mul_one,List.take_zero,List.nil_append,Nat.zero_add]
   rw [List.take_left' hl]
  ·refine hbase.trans ⟨rfl,rfl,rfl,by simp,λk hk=>?_⟩
   exact setRow_other _ _ _ _ (by omega)
theorem gH (a:Option Addr)(n cap:Nat)(more:Nat)(L:List Nat)(w:World)(h:Row w a n cap L)(hr:n+more<=140737488355328) :
  Calls prog 139 #[.slice a n cap,.int .i64 (more:Int)] w λe w'=>∃g,e=.returned (.slice (some ⟨g,0,none⟩) n (n+more))/\Own w' w.heap.size (some ⟨g,0,none⟩) n (n+more) L/\Below w.heap.size w w':=by
 have hmk:=eg n more hr
 have ew:IntKind.i64.wrap ((n:Int)+(more:Int))=(n:Int)+(more:Int):=by rw [IntKind.wrap_i64];omega
 obtain⟨v',w2,hrun,hown,hb⟩:=z8 w a n cap more L h hr
 clear h hr
 go_enter func139,ntmps139
 go_wp2
 go_ret
 exact⟨_,rfl,hown,hb⟩
end Go.Proofs.YtfmhdimaijimlaaGreatDoor.R
namespace Go.Proofs.YtfmhdimaijimlaaGreatDoor.R
open Go.RowKit
theorem zE (w:World):Calls prog 140 #[] w λe w'=>e=.returned (.int .i64 1)/\w'=w:=by
 go_enter func140,ntmps140
 go_wp2
 go_loop [1,2] (λn r=>∃k:Nat,k<=1/\n=.int .i64 k/\r=.int .u64 ((255 / 256 ^ k:Nat):Int)) (λn _=>1 - (intOf n).toNat)
 case atStart=>exact⟨0,by omega,rfl,rfl⟩
 case round =>
  obtain⟨k,hk,rfl,rfl⟩:=hrel
  rcases (by omega:k=0\/k=1) with rfl|rfl
  ·go_wp2
   exact⟨⟨1,by omega,by go_num,by go_num⟩,by simp [intOf]⟩
  ·go_wp2
   go_ret
   exact⟨rfl,rfl⟩
theorem vN (w:World):Calls prog 224 #[] w λe w'=>e=.returned (.int .i64 4)/\w'=w:=by
 go_enter func224,ntmps224
 go_wp2
 go_loop [1,2] (λn r=>∃k:Nat,k<=4/\n=.int .i64 k/\r=.int .u64 ((4294967295 / 256 ^ k:Nat):Int)) (λn _=>4 - (intOf n).toNat)
 case atStart=>exact⟨0,by omega,rfl,rfl⟩
 case round =>
  obtain⟨k,hk,rfl,rfl⟩:=hrel
  rcases (by omega:k=0\/k=1\/k=2\/k=3\/k=4) with rfl|rfl|rfl|rfl|rfl
  ·go_wp2
   exact⟨⟨1,by omega,by go_num,by go_num⟩,by simp [intOf]⟩
  ·go_wp2
   exact⟨⟨2,by omega,by go_num,by go_num⟩,by simp [intOf]⟩
  ·go_wp2
   exact⟨⟨3,by omega,by go_num,by go_num⟩,by simp [intOf]⟩
  ·go_wp2
   exact⟨⟨4,by omega,by go_num,by go_num⟩,by simp [intOf]⟩
  ·go_wp2
   go_ret
   exact⟨rfl,rfl⟩
theorem uJ (w:World):Calls prog 186 #[] w λe w'=>e=.returned (.int .i64 8)/\w'=w:=by
 go_enter func186,ntmps186
 go_wp2
 go_loop [1,2] (λn r=>∃k:Nat,k<=8/\n=.int .i64 k/\r=.int .u64 ((18446744073709551615 / 256 ^ k:Nat):Int)) (λn _=>8 - (intOf n).toNat)
 case atStart=>exact⟨0,by omega,rfl,rfl⟩
 case round =>
  obtain⟨k,hk,rfl,rfl⟩:=hrel
  rcases (by omega:k=0\/k=1\/k=2\/k=3\/k=4\/k=5\/k=6\/k=7\/k=8) with rfl|rfl|rfl|rfl|rfl|rfl|rfl|rfl|rfl
  ·go_wp2
   exact⟨⟨1,by omega,by go_num,by go_num⟩,by simp [intOf]⟩
  ·go_wp2
   exact⟨⟨2,by omega,by go_num,by go_num⟩,by simp [intOf]⟩
  ·go_wp2
   exact⟨⟨3,by omega,by go_num,by go_num⟩,by simp [intOf]⟩
  ·go_wp2
   exact⟨⟨4,by omega,by go_num,by go_num⟩,by simp [intOf]⟩
  ·go_wp2
   exact⟨⟨5,by omega,by go_num,by go_num⟩,by simp [intOf]⟩
  ·go_wp2
   exact⟨⟨6,by omega,by go_num,by go_num⟩,by simp [intOf]⟩
  ·go_wp2
   exact⟨⟨7,by omega,by go_num,by go_num⟩,by simp [intOf]⟩
  ·go_wp2
   exact⟨⟨8,by omega,by go_num,by go_num⟩,by simp [intOf]⟩
  ·go_wp2
   go_ret
   exact⟨rfl,rfl⟩
def fW (w:World)(a:Option Addr)(base n:Nat)(L:List Nat)(v k:Nat)(o r t:Value)(w':World):Prop :=
 ∃(i:Nat) (a':Option Addr) (cap':Nat),i<=k/\t=.int .i64 (i:Int)/\r=.int .u64 ((v / 256 ^ i:Nat):Int)/\o=.slice a' (n+i) cap'/\Own w' base a' (n+i) cap' (L++cj v i)/\Gr a a' w w'
theorem kZ (v i:Nat):IntKind.u8.wrap ((v / 256 ^ i:Nat):Int)=((v / 256 ^ i%256:Nat):Int):=by rw [IntKind.wrap_u8];omega
theorem kS (v i:Nat):(((v / 256 ^ i:Nat):Int) / 256)=((v / 256 ^ (i+1):Nat):Int):=by
 rw [Nat.pow_succ,<-Nat.div_div_eq_div_mul]
 omega
theorem eS {w:World}{base n cap:Nat}{a:Option Addr}{L:List Nat}{b:Nat}(h:Own w base a n cap L)(hb:base<=w.heap.size)(hr:n+1<=140737488355328)(hb8:b<256) :
  ∃a' cap' w',(Builtin.append_ #[39,39] 39 #[.slice a n cap,.slice (some ⟨w.heap.size,0,none⟩) 1 1]).run prog (w.alloc (Obj.cells #[Value.int .u8 (b:Int)] 5))=.ok (.slice a' (n+1) cap') w'/\Own w' base a' (n+1) cap' (L++[b])/\Gr a a' w w':=by
 obtain⟨a',cap',w',h1,h2,h4⟩:=lY (h.alloc (Obj.cells #[Value.int .u8 (b:Int)] 5)) (Row.one w b hb8) (by simp;omega) hr
 exact⟨a',cap',w',h1,h2,h4.pre (ab _ _)⟩
theorem ig (a:Option Addr)(n cap:Nat)(L:List Nat)(v:Nat)(w:World)(base:Nat)(hv:v<256)(h:Own w base a n cap L)(hb:base<=w.heap.size)(hr:n+1<=140737488355328) :
  Calls prog 138 #[.slice a n cap,.int .u8 (v:Int)] w λe w'=>∃a' cap',e=.returned (.slice a' (n+1) cap')/\Own w' base a' (n+1) cap' (L++cj v 1)/\Gr a a' w w':=by
 have HR:Hid (n+1<=140737488355328):=hr
 have HV:Hid (fW w a base n L v 1 (.slice a n cap) (.int .u64 (v:Int)) (.int .i64 0) w):=⟨0,a,cap,by omega,rfl,by simp,rfl,by simpa [jc] using h,Gr.refl _ _⟩
 clear h hr
 go_enter func138,ntmps138
 go_wp2_with (first|(go_at_call 140;refine (zE _).mono ?_;rintro e w1 ⟨rfl,rfl⟩))
 rename World=>w
 go_loopw [0,5,9] (fW w a base n L v 1) (λ_ _ t _=>1 - (intOf t).toNat)
 case atStart=>exact HV.o
 case round =>
  clear HV
  obtain⟨i,a',cap',hi,rfl,rfl,rfl,hown,hB⟩:=hrel
  have hbw:base<=wr.heap.size:=Nat.le_trans hb hB.but.size
  by_cases hlt:i<1
  ·have hd:decide ((i:Int)<1)=true:=by simp;omega
   have e1:=kZ v i
   have e2:=kS v i
   obtain⟨a2,c2,w2,hrun,hown2,hB2⟩:=eS (b:=v / 256 ^ i%256) hown hbw (by have:=HR.o;omega) (by omega)
   have HRUN:Hid _:=hrun
   have HO:Hid (Own w2 base a2 (n+(i+1)) c2 (L++cj v (i+1))):=by rw [iU,<-List.append_assoc];exact hown2
   have HB:Hid (Gr a a2 w w2):=hB.trans hB2
   clear hrun hown hown2 hB hB2
   go_wp2_with (first|(at_builtin;refine kt rfl _ _ 39 rfl _ _ rfl rfl _ w2 HRUN.o ?_))
   go_roundw
   case rel=>exact⟨i+1,a2,c2,by omega,by go_num,by rw [<-e2];simp,rfl,HO.o,HB.o⟩
   case measure=>simp [intOf];omega
  ·obtain rfl:i=1:=by omega
   go_wp2
   go_ret
   exact⟨a',cap',rfl,hown,hB⟩
theorem I3 (a:Option Addr)(n cap:Nat)(L:List Nat)(v:Nat)(w:World)(base:Nat)(hv:v<65536)(h:Own w base a n cap L)(hb:base<=w.heap.size)(hr:n+2<=140737488355328) :
  Calls prog 141 #[.slice a n cap,.int .u16 (v:Int)] w λe w'=>∃a' cap',e=.returned (.slice a' (n+2) cap')/\Own w' base a' (n+2) cap' (L++cj v 2)/\Gr a a' w w':=by
 have HR:Hid (n+2<=140737488355328):=hr
 have HV:Hid (fW w a base n L v 2 (.slice a n cap) (.int .u64 (v:Int)) (.int .i64 0) w):=⟨0,a,cap,by omega,rfl,by simp,rfl,by simpa [jc] using h,Gr.refl _ _⟩
 clear h hr
 go_enter func141,ntmps141
 go_wp2_with (first|(go_at_call 142;refine (vh _).mono ?_;rintro e w1 ⟨rfl,rfl⟩))
 rename World=>w
 go_loopw [0,5,9] (fW w a base n L v 2) (λ_ _ t _=>2 - (intOf t).toNat)
 case atStart=>exact HV.o
 case round =>
  clear HV
  obtain⟨i,a',cap',hi,rfl,rfl,rfl,hown,hB⟩:=hrel
  have hbw:base<=wr.heap.size:=Nat.le_trans hb hB.but.size
  by_cases hlt:i<2
  ·have hd:decide ((i:Int)<2)=true:=by simp;omega
   have e1:=kZ v i
   have e2:=kS v i
   obtain⟨a2,c2,w2,hrun,hown2,hB2⟩:=eS (b:=v / 256 ^ i%256) hown hbw (by have:=HR.o;omega) (by omega)
   have HRUN:Hid _:=hrun
   have HO:Hid (Own w2 base a2 (n+(i+1)) c2 (L++cj v (i+1))):=by rw [iU,<-List.append_assoc];exact hown2
   have HB:Hid (Gr a a2 w w2):=hB.trans hB2
   clear hrun hown hown2 hB hB2
   go_wp2_with (first|(at_builtin;refine kt rfl _ _ 39 rfl _ _ rfl rfl _ w2 HRUN.o ?_))
   go_roundw
   case rel=>exact⟨i+1,a2,c2,by omega,by go_num,by rw [<-e2];simp,rfl,HO.o,HB.o⟩
   case measure=>simp [intOf];omega
  ·obtain rfl:i=2:=by omega
   go_wp2
   go_ret
   exact⟨a',cap',rfl,hown,hB⟩
theorem H3 (a:Option Addr)(n cap:Nat)(L:List Nat)(v:Nat)(w:World)(base:Nat)(hv:v<4294967296)(h:Own w base a n cap L)(hb:base<=w.heap.size)(hr:n+4<=140737488355328) :
  Calls prog 223 #[.slice a n cap,.int .u32 (v:Int)] w λe w'=>∃a' cap',e=.returned (.slice a' (n+4) cap')/\Own w' base a' (n+4) cap' (L++cj v 4)/\Gr a a' w w':=by
 have HR:Hid (n+4<=140737488355328):=hr
 have HV:Hid (fW w a base n L v 4 (.slice a n cap) (.int .u64 (v:Int)) (.int .i64 0) w):=⟨0,a,cap,by omega,rfl,by simp,rfl,by simpa [jc] using h,Gr.refl _ _⟩
 clear h hr
 go_enter func223,ntmps223
 go_wp2_with (first|(go_at_call 224;refine (vN _).mono ?_;rintro e w1 ⟨rfl,rfl⟩))
 rename World=>w
 go_loopw [0,5,9] (fW w a base n L v 4) (λ_ _ t _=>4 - (intOf t).toNat)
 case atStart=>exact HV.o
 case round =>
  clear HV
  obtain⟨i,a',cap',hi,rfl,rfl,rfl,hown,hB⟩:=hrel
  have hbw:base<=wr.heap.size:=Nat.le_trans hb hB.but.size
  by_cases hlt:i<4
  ·have hd:decide ((i:Int)<4)=true:=by simp;omega
   have e1:=kZ v i
   have e2:=kS v i
   obtain⟨a2,c2,w2,hrun,hown2,hB2⟩:=eS (b:=v / 256 ^ i%256) hown hbw (by have:=HR.o;omega) (by omega)
   have HRUN:Hid _:=hrun
   have HO:Hid (Own w2 base a2 (n+(i+1)) c2 (L++cj v (i+1))):=by rw [iU,<-List.append_assoc];exact hown2
   have HB:Hid (Gr a a2 w w2):=hB.trans hB2
   clear hrun hown hown2 hB hB2
   go_wp2_with (first|(at_builtin;refine kt rfl _ _ 39 rfl _ _ rfl rfl _ w2 HRUN.o ?_))
   go_roundw
   case rel=>exact⟨i+1,a2,c2,by omega,by go_num,by rw [<-e2];simp,rfl,HO.o,HB.o⟩
   case measure=>simp [intOf];omega
  ·obtain rfl:i=4:=by omega
   go_wp2
   go_ret
   exact⟨a',cap',rfl,hown,hB⟩
theorem Ih (a:Option Addr)(n cap:Nat)(L:List Nat)(v:Nat)(w:World)(base:Nat)(hv:v<18446744073709551616)(h:Own w base a n cap L)(hb:base<=w.heap.size)(hr:n+8<=140737488355328) :
  Calls prog 185 #[.slice a n cap,.int .u64 (v:Int)] w λe w'=>∃a' cap',e=.returned (.slice a' (n+8) cap')/\Own w' base a' (n+8) cap' (L++cj v 8)/\Gr a a' w w':=by
 have HR:Hid (n+8<=140737488355328):=hr
 have HV:Hid (fW w a base n L v 8 (.slice a n cap) (.int .u64 (v:Int)) (.int .i64 0) w):=⟨0,a,cap,by omega,rfl,by simp,rfl,by simpa [jc] using h,Gr.refl _ _⟩
 clear h hr
 go_enter func185,ntmps185
 go_wp2_with (first|(go_at_call 186;refine (uJ _).mono ?_;rintro e w1 ⟨rfl,rfl⟩))
 rename World=>w
 go_loopw [0,5,8] (fW w a base n L v 8) (λ_ _ t _=>8 - (intOf t).toNat)
 case atStart=>exact HV.o
 case round =>
  clear HV
  obtain⟨i,a',cap',hi,rfl,rfl,rfl,hown,hB⟩:=hrel
  have hbw:base<=wr.heap.size:=Nat.le_trans hb hB.but.size
  by_cases hlt:i<8
  ·have hd:decide ((i:Int)<8)=true:=by simp;omega
   have e1:=kZ v i
   have e2:=kS v i
   obtain⟨a2,c2,w2,hrun,hown2,hB2⟩:=eS (b:=v / 256 ^ i%256) hown hbw (by have:=HR.o;omega) (by omega)
   have HRUN:Hid _:=hrun
   have HO:Hid (Own w2 base a2 (n+(i+1)) c2 (L++cj v (i+1))):=by rw [iU,<-List.append_assoc];exact hown2
   have HB:Hid (Gr a a2 w w2):=hB.trans hB2
   clear hrun hown hown2 hB hB2
   go_wp2_with (first|(at_builtin;refine kt rfl _ _ 39 rfl _ _ rfl rfl _ w2 HRUN.o ?_))
   go_roundw
   case rel=>exact⟨i+1,a2,c2,by omega,by go_num,by rw [<-e2];simp,rfl,HO.o,HB.o⟩
   case measure=>simp [intOf];omega
  ·obtain rfl:i=8:=by omega
   go_wp2
   go_ret
   exact⟨a',cap',rfl,hown,hB⟩
theorem JK (a:Option Addr)(n cap:Nat)(L:List Nat)(v:Nat)(w:World)(hv:v<256)(h:Row w a n cap L)(hr:n+1<=140737488355328) :
  Calls prog 97 #[.slice a n cap,.int .u8 (v:Int)] w λe w'=>∃a' cap',e=.returned (.slice a' (n+1) cap')/\Own w' w.heap.size a' (n+1) cap' (L++cj v 1)/\Below w.heap.size w w':=by
 have HR:Hid (n+1<=140737488355328):=hr
 clear hr
 go_enter func97,ntmps97
 go_wp2_with (first|(go_at_call 140;refine (zE _).mono ?_;rintro e w1 ⟨rfl,rfl⟩)|(go_at_call 139;refine (gH a n cap 1 L _ h HR.o).mono ?_;rintro e w2 ⟨g,rfl,hown,hb⟩)|(go_at_call 138;refine (ig _ _ _ L v _ _ hv hown hb.size HR.o).mono ?_;rintro e w3 ⟨a3,c3,rfl,hown3,hb3⟩))
 go_ret
 exact⟨a3,c3,rfl,hown3,hb.trans (Gr.below hown hb3 hb.size)⟩
theorem Hr (a:Option Addr)(n cap:Nat)(L:List Nat)(v:Nat)(w:World)(hv:v<65536)(h:Row w a n cap L)(hr:n+2<=140737488355328) :
  Calls prog 98 #[.slice a n cap,.int .u16 (v:Int)] w λe w'=>∃a' cap',e=.returned (.slice a' (n+2) cap')/\Own w' w.heap.size a' (n+2) cap' (L++cj v 2)/\Below w.heap.size w w':=by
 have HR:Hid (n+2<=140737488355328):=hr
 clear hr
 go_enter func98,ntmps98
 go_wp2_with (first|(go_at_call 142;refine (vh _).mono ?_;rintro e w1 ⟨rfl,rfl⟩)|(go_at_call 139;refine (gH a n cap 2 L _ h HR.o).mono ?_;rintro e w2 ⟨g,rfl,hown,hb⟩)|(go_at_call 141;refine (I3 _ _ _ L v _ _ hv hown hb.size HR.o).mono ?_;rintro e w3 ⟨a3,c3,rfl,hown3,hb3⟩))
 go_ret
 exact⟨a3,c3,rfl,hown3,hb.trans (Gr.below hown hb3 hb.size)⟩
theorem IA (a:Option Addr)(n cap:Nat)(L:List Nat)(v:Nat)(w:World)(hv:v<4294967296)(h:Row w a n cap L)(hr:n+4<=140737488355328) :
  Calls prog 184 #[.slice a n cap,.int .u32 (v:Int)] w λe w'=>∃a' cap',e=.returned (.slice a' (n+4) cap')/\Own w' w.heap.size a' (n+4) cap' (L++cj v 4)/\Below w.heap.size w w':=by
 have HR:Hid (n+4<=140737488355328):=hr
 clear hr
 go_enter func184,ntmps184
 go_wp2_with (first|(go_at_call 224;refine (vN _).mono ?_;rintro e w1 ⟨rfl,rfl⟩)|(go_at_call 139;refine (gH a n cap 4 L _ h HR.o).mono ?_;rintro e w2 ⟨g,rfl,hown,hb⟩)|(go_at_call 223;refine (H3 _ _ _ L v _ _ hv hown hb.size HR.o).mono ?_;rintro e w3 ⟨a3,c3,rfl,hown3,hb3⟩))
 go_ret
 exact⟨a3,c3,rfl,hown3,hb.trans (Gr.below hown hb3 hb.size)⟩
theorem I8 (a:Option Addr)(n cap:Nat)(L:List Nat)(v:Nat)(w:World)(hv:v<18446744073709551616)(h:Row w a n cap L)(hr:n+8<=140737488355328) :
  Calls prog 144 #[.slice a n cap,.int .u64 (v:Int)] w λe w'=>∃a' cap',e=.returned (.slice a' (n+8) cap')/\Own w' w.heap.size a' (n+8) cap' (L++cj v 8)/\Below w.heap.size w w':=by
 have HR:Hid (n+8<=140737488355328):=hr
 clear hr
 go_enter func144,ntmps144
 go_wp2_with (first|(go_at_call 186;refine (uJ _).mono ?_;rintro e w1 ⟨rfl,rfl⟩)|(go_at_call 139;refine (gH a n cap 8 L _ h HR.o).mono ?_;rintro e w2 ⟨g,rfl,hown,hb⟩)|(go_at_call 185;refine (Ih _ _ _ L v _ _ hv hown hb.size HR.o).mono ?_;rintro e w3 ⟨a3,c3,rfl,hown3,hb3⟩))
 go_ret
 exact⟨a3,c3,rfl,hown3,hb.trans (Gr.below hown hb3 hb.size)⟩
abbrev R4:=Option Addr×Nat×Nat×List Nat
def sA (r:R4):Value:=.slice r.1 r.2.1 r.2.2.1
def bC:List R4->List Nat
 | []=>[]
 | r::rs=>r.2.2.2++bC rs
theorem eL (rs qs:List R4):bC (rs++qs)=bC rs++bC qs:=by
 induction rs with
 | nil=>rfl
 | cons r rs ih=>simp [bC,ih]
theorem oG (rs:List R4)(i:Nat)(h:i<rs.length):bC (rs.take (i+1))=bC (rs.take i)++rs[i].2.2.2:=by
 rw [List.take_succ_eq_append_getElem h,eL]
 simp [bC]
theorem iR (rs:List R4)(i:Nat):(bC (rs.take i)).length<=(bC rs).length:=by
 have:bC rs=bC (rs.take i)++bC (rs.drop i):=by rw [<-eL,List.take_append_drop]
 rw [this,List.length_append]
 omega
def Gt (rs:List R4)(z t:Value):Prop:=∃i:Nat,i<=rs.length/\t=.int .i64 (i:Int)/\z=.int .i64 ((bC (rs.take i)).length:Int)
def Gc (w:World)(rs:List R4)(o t:Value)(w':World):Prop:=∃(i:Nat) (a:Option Addr) (n cap:Nat),i<=rs.length/\t=.int .i64 (i:Int)/\o=.slice a n cap/\Own w' w.heap.size a n cap (bC (rs.take i))/\Below w.heap.size w w'
theorem lZ (b cap k:Nat)(rs:List R4)(w:World)(hk:k=rs.length)(hrl:rs.length<1000)(hc:∀j (hj:j<rs.length),w.cell? ⟨b,j,none⟩=some (sA rs[j]))(hrow:∀r∈rs,Row w r.1 r.2.1 r.2.2.1 r.2.2.2)(hr:(bC rs).length<=140737488355328) :
  Calls prog 101 #[.slice (some ⟨b,0,none⟩) k cap] w λe w'=>∃a' n' cap',e=.returned (.slice a' n' cap')/\Own w' w.heap.size a' n' cap' (bC rs)/\Below w.heap.size w w':=by
 subst hk
 have HC:Hid (∀j (hj:j<rs.length),w.cell? ⟨b,j,none⟩=some (sA rs[j])):=hc
 have HRow:Hid (∀r∈rs,Row w r.1 r.2.1 r.2.2.1 r.2.2.2):=hrow
 have HR:Hid ((bC rs).length<=140737488355328):=hr
 clear hc hrow hr
 go_enter func101,ntmps101
 go_wp2
 go_loop [3,11] (Gt rs) (λ_ t=>rs.length - (intOf t).toNat)
 case atStart=>exact⟨0,by omega,rfl,rfl⟩
 case round =>
  obtain⟨i,hi,rfl,rfl⟩:=hrel
  have ei:IntKind.i64.wrap ((i:Int)+1)=(i:Int)+1:=by rw [IntKind.wrap_i64];omega
  by_cases hlt:i<rs.length
  ·have hd:decide ((i:Int)<(rs.length:Int))=true:=by simp;omega
   have hcell:=HC.o i hlt
   obtain⟨a1,n1,c1,L1,hri⟩:∃a1 n1 c1 L1,rs[i]=(a1,n1,c1,L1):=⟨_,_,_,_,rfl⟩
   have hR:=HRow.o _ (List.getElem_mem hlt)
   have hct:=oG rs i hlt
   have hle:=iR rs (i+1)
   rw [hri] at hcell hR hct
   simp only [sA] at hcell
   have hlen:=hR.len
   simp only at hlen hct
   have HT:Hid ((bC (rs.take (i+1))).length=(bC (rs.take i)).length+n1):=by unfold Hid;rw [hct,List.length_append,hlen]
   have ew:IntKind.i64.wrap (((bC (rs.take i)).length:Int)+(n1:Int))=((bC (rs.take i)).length:Int)+(n1:Int):=by
    have:=HR.o
    have:=HT.o
    rw [IntKind.wrap_i64];omega
   clear hR hct hle hri
   go_wp2
   exact⟨⟨i+1,by omega,by simp,by rw [HT.o];simp⟩,by simp [intOf];omega⟩
  ·obtain rfl:i=rs.length:=by omega
   rename World=>w
   rw [List.take_length]
   obtain⟨z,hz⟩:∃z,z=(bC rs).length:=⟨_,rfl⟩
   have HZ:Hid (0+z<=140737488355328):=by have:=HR.o;unfold Hid;omega
   rw [<-hz]
   clear hz ei
   go_wp2_with (first|(go_at_call 139;refine (gH none 0 0 z [] _ (dY _) HZ.o).mono ?_;rintro e w2 ⟨g,rfl,hown,hb⟩))
   go_loopw [6,24] (Gc w rs) (λ_ t _=>rs.length - (intOf t).toNat)
   case atStart=>exact⟨0,_,_,_,by omega,rfl,rfl,by simpa [bC] using hown,hb⟩
   case round =>
    clear hown hb hlt hi
    obtain⟨i,a',n',cap',hi,rfl,rfl,hown,hB⟩:=hrel
    have ei:IntKind.i64.wrap ((i:Int)+1)=(i:Int)+1:=by rw [IntKind.wrap_i64];omega
    by_cases hlt:i<rs.length
    ·have hd:decide ((i:Int)<(rs.length:Int))=true:=by simp;omega
     have hcell:=cell_later hB (HC.o i hlt)
     obtain⟨a1,n1,c1,L1,hri⟩:∃a1 n1 c1 L1,rs[i]=(a1,n1,c1,L1):=⟨_,_,_,_,rfl⟩
     have hR:=(HRow.o _ (List.getElem_mem hlt)).later hB
     have hct:=oG rs i hlt
     have hle:=iR rs (i+1)
     rw [hri] at hcell hR hct
     simp only [sA] at hcell
     simp only at hR hct
     have hl1:=hR.len
     have hl2:=hown.len
     have hl3:(bC (rs.take (i+1))).length=(bC (rs.take i)).length+L1.length:=by rw [hct,List.length_append]
     obtain⟨a2,c2,w3,hrun,hown2,hg2⟩:=lY hown hR hB.size (by have:=HR.o;omega)
     rw [<-hct] at hown2
     have HRUN:Hid _:=hrun
     have HB:Hid (Below w.heap.size w w3):=hB.trans (Gr.below hown hg2 hB.size)
     clear hrun hown hB hg2 hR hct hle hri hl1 hl2 hl3
     go_wp2_with (first|(at_builtin;refine kt rfl _ _ 39 rfl _ _ rfl rfl _ w3 HRUN.o ?_))
     go_roundw
     case rel=>exact⟨i+1,a2,_,c2,by omega,by simp,rfl,hown2,HB.o⟩
     case measure=>simp [intOf];omega
    ·obtain rfl:i=rs.length:=by omega
     rw [List.take_length] at hown
     go_wp2
     go_ret
     exact⟨_,_,_,rfl,hown,hB⟩
structure Cl where
 op:Int
 au:Int
 size:Int
 obj:Int
 hi:Nat
 lo:Nat
 given:Bool
 av:Int
 off:Int
 n:Int
 data:List Nat
 index:Int
 an:List Int
def clz (op au:Int):Cl:=⟨op,au,0,0,0,0,false,0,0,0,[],0,[]⟩
def wi (n a b:Int):Bool:=decide (a<=n)&&decide (n<=b)
theorem fD {n a b:Int}:wi n a b=true↔a<=n/\n<=b:=by simp [wi]
def yp (n:Int):Bool:=wi n (-2147483648) 2147483647
def vk (l:List Int):Bool:=decide (l.length<=255)&&l.all (λg=>wi g 0 65535)
def dI (c:Cl):Bool:=wi c.au 0 65535&&yp c.size&&yp c.off&&yp c.n&&wi c.obj 0 4611686018427387904&&wi c.av 0 255&&wi c.index 0 65535&&decide (c.data.length<=1025)&&vk c.an
def E1 (c:Cl):Bool:=if c.op=5\/c.op=6 then c.given||decide (c.hi=0/\c.lo=0) else true
def bq (op:Int):List Nat :=
 if op=1 then [0] else if op=2\/op=4\/op=7 then [1,2] else if op=3 then [1,2,4] else if op=5 then [1,3,2,5,6] else if op=6 then [1,3,2,5,7] else if op=8 then [8] else if op=9 then [9] else []
def mv (p:Nat)(c d:Cl):Cl :=
 if p=0 then { c with size:=d.size } else if p=1 then { c with obj:=d.obj } else if p=2 then { c with hi:=d.hi,lo:=d.lo } else if p=3 then { c with given:=d.given } else if p=4 then { c with av:=d.av }
 else if p=5 then { c with off:=d.off } else if p=6 then { c with n:=d.n } else if p=7 then { c with data:=d.data } else if p=8 then { c with index:=d.index } else if p=9 then { c with an:=d.an } else c
def wo (c:Cl)(p:Nat):Cl:=mv p c (clz 0 0)
def Jq (c:Cl):Cl:=(bq c.op).foldl wo c
def Gk (c:Cl):Bool:=decide (c.size=0)&&decide (c.obj=0/\c.hi=0/\c.lo=0)&&!c.given&&decide (c.av=0)&&decide (c.off=0)&&decide (c.n=0)&&decide (c.data.length=0)&&decide (c.index=0)&&decide (c.an.length=0)
def fm (c:Cl):Bool:=wi c.op 1 10&&dI c&&E1 c&&Gk (Jq c)
def sg (n:Int):Nat:=(n%4294967296).toNat
theorem Jd (n:Int):sg n<4294967296:=by unfold sg;omega
def g2 (l:List Int):List Nat:=(l.map (λg=>cj g.toNat 2)).flatten
def jh (c:Cl)(p:Nat):List Nat :=
 if p=0 then cj (sg c.size) 4 else if p=1 then cj c.obj.toNat 8 else if p=2 then cj c.lo 8++cj c.hi 8 else if p=3 then cj (if c.given then 1 else 0) 1 else if p=4 then cj c.av.toNat 1
 else if p=5 then cj (sg c.off) 4 else if p=6 then cj (sg c.n) 4 else if p=7 then c.data else if p=8 then cj c.index.toNat 2 else if p=9 then cj c.an.length 1++g2 c.an else []
def dM (c:Cl):List Nat->List Nat
 | []=>[]
 | p::ps=>jh c p++dM c ps
theorem rB (c:Cl)(l m:List Nat):dM c (l++m)=dM c l++dM c m:=by
 induction l with
 | nil=>rfl
 | cons p l ih=>simp [dM,ih]
def ly (c:Cl):List Nat:=cj c.op.toNat 1++cj c.au.toNat 2++dM c (bq c.op)
theorem nJ (l m:List Int):g2 (l++m)=g2 l++g2 m:=by simp [g2]
theorem Ab (g:Int):g2 [g]=cj g.toNat 2:=by simp [g2]
theorem oF (l:List Int):(g2 l).length=2*l.length:=by
 induction l with
 | nil=>rfl
 | cons g l ih=>rw [show g::l=[g]++l from rfl,nJ,List.length_append,Ab,ih,cA];simp;omega
def Ks (c:Cl)(p:Nat):Prop :=
 (p=0->yp c.size=true)/\(p=1->wi c.obj 0 4611686018427387904=true)/\(p=2->c.hi<18446744073709551616/\c.lo<18446744073709551616)/\(p=4->wi c.av 0 255=true)/\(p=5->yp c.off=true)/\(p=6->yp c.n=true) /\
 (p=7->c.data.length<=1025)/\(p=8->wi c.index 0 65535=true)/\(p=9->vk c.an=true)
end Go.Proofs.YtfmhdimaijimlaaGreatDoor.R
namespace Go.Proofs.YtfmhdimaijimlaaGreatDoor.R
theorem rI (op:Int):(∀q∈bq op,q<10)/\(bq op).Nodup:=by
 unfold bq
 repeat' split
 all_goals decide
theorem du {c:Cl}(h:dI c=true)(h1:c.hi<18446744073709551616)(h2:c.lo<18446744073709551616)(p:Nat):Ks c p:=by
 simp only [dI,Bool.and_eq_true,decide_eq_true_eq] at h
 obtain⟨⟨⟨⟨⟨⟨⟨⟨a,b⟩,c⟩,d⟩,e⟩,f⟩,g⟩,i⟩,j⟩:=h
 exact⟨λ_=>b,λ_=>e,λ_=>⟨h1,h2⟩,λ_=>f,λ_=>c,λ_=>d,λ_=>i,λ_=>g,λ_=>j⟩
theorem D4 {c:Cl}:Gk c=true↔c.size=0/\c.obj=0/\c.hi=0/\c.lo=0/\c.given=false/\c.av=0/\c.off=0/\c.n=0/\c.data=[]/\c.index=0/\c.an=[]:=by
 simp only [Gk,Bool.and_eq_true,decide_eq_true_eq,Bool.not_eq_true',List.length_eq_zero_iff]
 constructor
 ·rintro ⟨⟨⟨⟨⟨⟨⟨⟨a,b⟩,c⟩,d⟩,e⟩,f⟩,g⟩,h⟩,i⟩
  exact⟨a,b.1,b.2.1,b.2.2,c,d,e,f,g,h,i⟩
 ·rintro ⟨a,b1,b2,b3,c,d,e,f,g,h,i⟩
  exact⟨⟨⟨⟨⟨⟨⟨⟨a,b1,b2,b3⟩,c⟩,d⟩,e⟩,f⟩,g⟩,h⟩,i⟩
open Go.RowKit
def ue (l:List Int):List Value:=l.map λn=>Value.int .i64 n
theorem sh (l:List Int):(ue l).length=l.length:=by simp [ue]
theorem lK (l:List Int)(i:Nat)(h:i<l.length):(ue l)[i]?=some (.int .i64 l[i]):=by simp [ue,h]
structure RI (w:World)(a:Option Addr)(n cap:Nat)(L:List Int):Prop where
 len:L.length=n
 cap_:n<=cap
 none_:a=none->n=0/\cap=0
 cells:∀x,a=some x->∀j u,(ue L)[j]?=some u->w.cell? (x.add j)=some u
theorem RI.later {W:World}{cap:Nat}{L:List Int}(hb:Below W.heap.size W w1)(h:RI W a n cap L):RI w1 a n cap L :=
 ⟨h.len,h.cap_,h.none_,λx hx j u hu=>cell_later hb (h.cells x hx j u hu)⟩
theorem RI.nil (w:World):RI w none 0 0 []:=⟨rfl,Nat.le_refl _,λ_=>⟨rfl,rfl⟩,λ_ h=>(by cases h)⟩
theorem RI.plain {cap:Nat}{L:List Int}(h:RI w a n cap L)(hl:0<n):∃b o,a=some ⟨b,o,none⟩/\∀i (hi:i<L.length),w.cell? ⟨b,o+i,none⟩=some (.int .i64 L[i]):=by
 cases a with
 | none=>have:=h.none_ rfl;omega
 | some x =>
  obtain⟨b,o,spot⟩:=x
  have hlen:=h.len
  have h0:=h.cells _ rfl 0 _ (lK L 0 (by omega))
  have hs:spot=none:=by simpa [Addr.add] using World.cell?_spot h0
  subst hs
  refine⟨b,o,rfl,λi hi=>?_⟩
  have:=h.cells _ rfl i _ (lK L i hi)
  rw [aV] at this
  exact this
theorem RI.at {o cap:Nat}{L:List Int}(hl:L.length=n)(hc:n<=cap)(h:∀i (hi:i<L.length),w.cell? ⟨b,o+i,none⟩=some (.int .i64 L[i])):RI w (some ⟨b,o,none⟩) n cap L:=by
 refine⟨hl,hc,λh=>(by cases h),λx hx j u hu=>?_⟩
 cases hx
 rw [aV]
 have hj:j<L.length:=by have:=(gS.1 hu).1;rwa [sh] at this
 rw [lK L j hj] at hu
 cases hu
 exact h j hj
structure Sl where
 a:Option Addr
 n:Nat
 c:Nat
abbrev Sl.v (s:Sl):Value:=.slice s.a s.n s.c
abbrev Sl.nil:Sl:=⟨none,0,0⟩
def cC (c:Cl)(d g:Sl):List Value:=[.int .i64 c.op,.int .i64 c.au,.int .i64 c.size,.int .i64 c.obj,.int .u64 (c.hi:Int),.int .u64 (c.lo:Int),.bool c.given,.int .i64 c.av,.int .i64 c.off,.int .i64 c.n,d.v,.int .i64 c.index,g.v]
abbrev cV (c:Cl)(d g:Sl):Value:=.agg #[.int .i64 c.op,.int .i64 c.au,.int .i64 c.size,.int .i64 c.obj,.int .u64 (c.hi:Int),.int .u64 (c.lo:Int),.bool c.given,.int .i64 c.av,.int .i64 c.off,.int .i64 c.n,d.v,.int .i64 c.index,g.v]
structure Is (w:World)(c:Cl)(d g:Sl):Prop where
 data:Row w d.a d.n d.c c.data
 an:RI w g.a g.n g.c c.an
 hi:c.hi<18446744073709551616
 lo:c.lo<18446744073709551616
theorem Is.later {W:World}{c:Cl}{d g:Sl}(hb:Below W.heap.size W w1)(h:Is W c d g):Is w1 c d g:=⟨h.data.later hb,h.an.later hb,h.hi,h.lo⟩
theorem aJ (n a b:Int)(w:World):Calls prog 92 #[.int .i64 n,.int .i64 a,.int .i64 b] w λe w'=>e=.returned (.bool (wi n a b))/\w'=w:=by
 by_cases h1:a<=n
 ·have d1:decide (a<=n)=true:=dT h1
  have e1:wi n a b=decide (n<=b):=by unfold wi;rw [d1,Bool.true_and]
  rw [e1]
  clear e1
  go_enter func92,ntmps92
  go_wp2
  go_ret
  exact⟨rfl,rfl⟩
 ·have d1:decide (a<=n)=false:=dF h1
  have e1:wi n a b=false:=by unfold wi;rw [d1,Bool.false_and]
  rw [e1]
  clear e1
  go_enter func92,ntmps92
  go_wp2
  go_ret
  exact⟨rfl,rfl⟩
theorem bz (n:Int)(w:World):Calls prog 135 #[.int .i64 n] w λe w'=>e=.returned (.bool (yp n))/\w'=w:=by
 unfold yp
 go_enter func135,ntmps135
 go_wp2_with (first|(go_at_call 92;refine (aJ n (-2147483648) 2147483647 _).mono ?_;rintro e w1 ⟨rfl,rfl⟩))
 go_ret
 exact⟨rfl,rfl⟩
theorem BE (G:List Int)(i:Nat)(h:i<G.length)(f:Int->Bool):(G.take (i+1)).all f=((G.take i).all f&&f G[i]):=by
 rw [List.take_succ_eq_append_getElem h,List.all_append]
 simp
theorem aU (a:Option Addr)(n cap:Nat)(G:List Int)(w:World)(h:RI w a n cap G):Calls prog 136 #[.slice a n cap] w λe w'=>e=.returned (.bool (vk G))/\w'=w:=by
 have hlen:=h.len
 by_cases hl:n<=255
 ·have hd:decide ((n:Int)>255)=false:=by simp;omega
  have hd2:decide ((255:Int)<(n:Int))=false:=by simp;omega
  have E:Hid (vk G=G.all (λg=>wi g 0 65535)):=by unfold Hid vk;rw [dT (by omega),Bool.true_and]
  have H:Hid (RI w a n cap G):=h
  have HL:Hid (G.length=n):=hlen
  clear h hlen
  go_enter func136,ntmps136
  go_wp2
  go_loop [10] (λt=>∃i:Nat,i<=n/\t=.int .i64 (i:Int)/\(G.take i).all (λg=>wi g 0 65535)=true) (λt=>n - (intOf t).toNat)
  case atStart=>exact⟨0,by omega,rfl,by simp⟩
  case round =>
   obtain⟨i,hi,rfl,ht⟩:=hrel
   have HT:Hid ((G.take i).all (λg=>wi g 0 65535)=true):=ht
   clear ht
   have ei:IntKind.i64.wrap ((i:Int)+1)=(i:Int)+1:=by rw [IntKind.wrap_i64];omega
   by_cases hlt:i<n
   ·have hdi:decide ((i:Int)<(n:Int))=true:=by simp;omega
    obtain⟨b,o,rfl,hc⟩:=H.o.plain (by omega)
    have hiG:i<G.length:=by have:=HL.o;omega
    have hcell:=hc i hiG
    have HA:Hid _:=BE G i hiG (λg=>wi g 0 65535)
    have HG:Hid (G[i]∈G):=List.getElem_mem hiG
    generalize G[i]=x at hcell HA HG
    clear hc
    by_cases hx:wi x 0 65535=true
    ·have HA2:Hid ((G.take (i+1)).all (λg=>wi g 0 65535)=true):=by have:=HA.o;unfold Hid;rw [this,HT.o];simpa using hx
     clear HA HG
     go_wp2_with (first|(go_at_call 92;refine (aJ x 0 65535 _).mono ?_;rintro e w1 ⟨rfl,rfl⟩;rw [hx]))
     exact⟨⟨i+1,by omega,by go_num,HA2.o⟩,by simp [intOf];omega⟩
    ·have hx':wi x 0 65535=false:=by simpa using hx
     have E2:Hid (vk G=false):=by
      unfold Hid
      rw [E.out,List.all_eq_false]
      exact⟨x,HG.o,by rw [hx'];simp⟩
     clear HA HG hx
     go_wp2_with (first|(go_at_call 92;refine (aJ x 0 65535 _).mono ?_;rintro e w1 ⟨rfl,rfl⟩;rw [hx']))
     go_ret
     exact⟨cW E2.out.symm,rfl⟩
   ·obtain rfl:i=n:=by omega
    have E2:Hid (vk G=true):=by
     have:=HT.o
     rw [List.take_of_length_le (by have:=HL.o;omega)] at this
     unfold Hid
     rw [E.out,this]
    go_wp2
    go_ret
    exact⟨cW E2.out.symm,rfl⟩
 ·have hd:decide ((n:Int)>255)=true:=by simp;omega
  have hd2:decide ((255:Int)<(n:Int))=true:=by simp;omega
  have E:Hid (vk G=false):=by unfold Hid vk;rw [dF (by omega),Bool.false_and]
  clear h hlen
  go_enter func136,ntmps136
  go_wp2
  go_ret
  exact⟨cW E.out.symm,rfl⟩
end Go.Proofs.YtfmhdimaijimlaaGreatDoor.R
namespace Go.Proofs.YtfmhdimaijimlaaGreatDoor.R
open Go.RowKit
theorem pU (c:Cl)(d g:Sl)(w:World)(h:Is w c d g):Calls prog 93 #[cV c d g] w λe w'=>e=.returned (.bool (dI c))/\Below w.heap.size w w':=by
 obtain⟨op,au,size,obj,hi,lo,given,av,off,n,data,index,an⟩:=c
 obtain⟨da,dn,dc⟩:=d
 obtain⟨ga,gn,gc⟩:=g
 have hdl:data.length=dn:=h.data.len
 have HG:Hid (∀o,RI (w.alloc o) ga gn gc an):=λo=>h.an.later (ab _ _)
 have HD:Hid (decide (data.length<=1025)=decide ((dn:Int)<=1025)):=by unfold Hid;rw [hdl,Bool.eq_iff_iff];simp only [decide_eq_true_eq];omega
 clear h hdl
 unfold cV
 cases F1:wi au 0 65535 with
 | false =>
  have E:Hid (dI ⟨op,au,size,obj,hi,lo,given,av,off,n,data,index,an⟩=false):=by unfold Hid dI;simp only [HD.o,F1,Bool.true_and,Bool.false_and,Bool.and_false,Bool.and_true]
  go_enter func93,ntmps93
  go_wp2_with (first|(go_at_call 92;refine (aJ _ _ _ _).mono ?_;rintro e w1 ⟨rfl,rfl⟩;simp only [F1])|(go_at_call 135;refine (bz _ _).mono ?_;rintro e w1 ⟨rfl,rfl⟩;simp only [F1])|(go_at_call 136;refine (aU _ _ _ an _ (HG.o _)).mono ?_;rintro e w1 ⟨rfl,rfl⟩))
  go_ret
  exact⟨cW E.out.symm,ab _ _⟩
 | true =>
  cases F2:yp size with
  | false =>
   have E:Hid (dI ⟨op,au,size,obj,hi,lo,given,av,off,n,data,index,an⟩=false):=by unfold Hid dI;simp only [HD.o,F1,F2,Bool.true_and,Bool.false_and,Bool.and_false,Bool.and_true]
   go_enter func93,ntmps93
   go_wp2_with (first|(go_at_call 92;refine (aJ _ _ _ _).mono ?_;rintro e w1 ⟨rfl,rfl⟩;simp only [F1,F2])|(go_at_call 135;refine (bz _ _).mono ?_;rintro e w1 ⟨rfl,rfl⟩;simp only [F1,F2])|(go_at_call 136;refine (aU _ _ _ an _ (HG.o _)).mono ?_;rintro e w1 ⟨rfl,rfl⟩))
   go_ret
   exact⟨cW E.out.symm,ab _ _⟩
  | true =>
   cases F3:yp off with
   | false =>
    have E:Hid (dI ⟨op,au,size,obj,hi,lo,given,av,off,n,data,index,an⟩=false):=by unfold Hid dI;simp only [HD.o,F1,F2,F3,Bool.true_and,Bool.false_and,Bool.and_false,Bool.and_true]
    go_enter func93,ntmps93
    go_wp2_with (first|(go_at_call 92;refine (aJ _ _ _ _).mono ?_;rintro e w1 ⟨rfl,rfl⟩;simp only [F1,F2,F3])|(go_at_call 135;refine (bz _ _).mono ?_;rintro e w1 ⟨rfl,rfl⟩;simp only [F1,F2,F3])|(go_at_call 136;refine (aU _ _ _ an _ (HG.o _)).mono ?_;rintro e w1 ⟨rfl,rfl⟩))
    go_ret
    exact⟨cW E.out.symm,ab _ _⟩
   | true =>
    cases F4:yp n with
    | false =>
     have E:Hid (dI ⟨op,au,size,obj,hi,lo,given,av,off,n,data,index,an⟩=false):=by unfold Hid dI;simp only [HD.o,F1,F2,F3,F4,Bool.true_and,Bool.false_and,Bool.and_false,Bool.and_true]
     go_enter func93,ntmps93
     go_wp2_with (first|(go_at_call 92;refine (aJ _ _ _ _).mono ?_;rintro e w1 ⟨rfl,rfl⟩;simp only [F1,F2,F3,F4])|(go_at_call 135;refine (bz _ _).mono ?_;rintro e w1 ⟨rfl,rfl⟩;simp only [F1,F2,F3,F4])|(go_at_call 136;refine (aU _ _ _ an _ (HG.o _)).mono ?_;rintro e w1 ⟨rfl,rfl⟩))
     go_ret
     exact⟨cW E.out.symm,ab _ _⟩
    | true =>
     cases F5:wi obj 0 4611686018427387904 with
     | false =>
      have E:Hid (dI ⟨op,au,size,obj,hi,lo,given,av,off,n,data,index,an⟩=false):=by unfold Hid dI;simp only [HD.o,F1,F2,F3,F4,F5,Bool.true_and,Bool.false_and,Bool.and_false,Bool.and_true]
      go_enter func93,ntmps93
      go_wp2_with (first|(go_at_call 92;refine (aJ _ _ _ _).mono ?_;rintro e w1 ⟨rfl,rfl⟩;simp only [F1,F2,F3,F4,F5])|(go_at_call 135;refine (bz _ _).mono ?_;rintro e w1 ⟨rfl,rfl⟩;simp only [F1,F2,F3,F4,F5])|(go_at_call 136;refine (aU _ _ _ an _ (HG.o _)).mono ?_;rintro e w1 ⟨rfl,rfl⟩))
      go_ret
      exact⟨cW E.out.symm,ab _ _⟩
     | true =>
      cases F6:wi av 0 255 with
      | false =>
       have E:Hid (dI ⟨op,au,size,obj,hi,lo,given,av,off,n,data,index,an⟩=false):=by unfold Hid dI;simp only [HD.o,F1,F2,F3,F4,F5,F6,Bool.true_and,Bool.false_and,Bool.and_false,Bool.and_true]
       go_enter func93,ntmps93
       go_wp2_with (first|(go_at_call 92;refine (aJ _ _ _ _).mono ?_;rintro e w1 ⟨rfl,rfl⟩;simp only [F1,F2,F3,F4,F5,F6])|(go_at_call 135;refine (bz _ _).mono ?_;rintro e w1 ⟨rfl,rfl⟩;simp only [F1,F2,F3,F4,F5,F6])|(go_at_call 136;refine (aU _ _ _ an _ (HG.o _)).mono ?_;rintro e w1 ⟨rfl,rfl⟩))
       go_ret
       exact⟨cW E.out.symm,ab _ _⟩
      | true =>
       cases F7:wi index 0 65535 with
       | false =>
        have E:Hid (dI ⟨op,au,size,obj,hi,lo,given,av,off,n,data,index,an⟩=false):=by unfold Hid dI;simp only [HD.o,F1,F2,F3,F4,F5,F6,F7,Bool.true_and,Bool.false_and,Bool.and_false,Bool.and_true]
        go_enter func93,ntmps93
        go_wp2_with (first|(go_at_call 92;refine (aJ _ _ _ _).mono ?_;rintro e w1 ⟨rfl,rfl⟩;simp only [F1,F2,F3,F4,F5,F6,F7])|(go_at_call 135;refine (bz _ _).mono ?_;rintro e w1 ⟨rfl,rfl⟩;simp only [F1,F2,F3,F4,F5,F6,F7])|(go_at_call 136;refine (aU _ _ _ an _ (HG.o _)).mono ?_;rintro e w1 ⟨rfl,rfl⟩))
        go_ret
        exact⟨cW E.out.symm,ab _ _⟩
       | true =>
        cases F8:decide ((dn:Int)<=1025) with
        | false =>
         have E:Hid (dI ⟨op,au,size,obj,hi,lo,given,av,off,n,data,index,an⟩=false):=by unfold Hid dI;simp only [HD.o,F1,F2,F3,F4,F5,F6,F7,F8,Bool.true_and,Bool.false_and,Bool.and_false,Bool.and_true]
         go_enter func93,ntmps93
         go_wp2_with (first|(go_at_call 92;refine (aJ _ _ _ _).mono ?_;rintro e w1 ⟨rfl,rfl⟩;simp only [F1,F2,F3,F4,F5,F6,F7,F8])|(go_at_call 135;refine (bz _ _).mono ?_;rintro e w1 ⟨rfl,rfl⟩;simp only [F1,F2,F3,F4,F5,F6,F7,F8])|(go_at_call 136;refine (aU _ _ _ an _ (HG.o _)).mono ?_;rintro e w1 ⟨rfl,rfl⟩))
         go_ret
         exact⟨cW E.out.symm,ab _ _⟩
        | true =>
         have E:Hid (dI ⟨op,au,size,obj,hi,lo,given,av,off,n,data,index,an⟩=vk an):=by unfold Hid dI;simp only [HD.o,F1,F2,F3,F4,F5,F6,F7,F8,Bool.true_and,Bool.and_true]
         go_enter func93,ntmps93
         go_wp2_with (first|(go_at_call 92;refine (aJ _ _ _ _).mono ?_;rintro e w1 ⟨rfl,rfl⟩;simp only [F1,F2,F3,F4,F5,F6,F7,F8])|(go_at_call 135;refine (bz _ _).mono ?_;rintro e w1 ⟨rfl,rfl⟩;simp only [F1,F2,F3,F4,F5,F6,F7,F8])|(go_at_call 136;refine (aU _ _ _ an _ (HG.o _)).mono ?_;rintro e w1 ⟨rfl,rfl⟩))
         go_ret
         exact⟨cW E.out.symm,ab _ _⟩
end Go.Proofs.YtfmhdimaijimlaaGreatDoor.R
namespace Go.Proofs.YtfmhdimaijimlaaGreatDoor.R
open Go.RowKit
def sr (a b c d e f:Int):Bool:=decide (a=d/\b=e/\c=f)
theorem xd (a b c d e f:Int)(w:World):(binOp .eql 38 (.agg #[.int .i64 a,.int .u64 b,.int .u64 c]) (.agg #[.int .i64 d,.int .u64 e,.int .u64 f])).run prog w=.ok (.bool (sr a b c d e f)) w:=by
 unfold sr
 by_cases h1:a=d
 ·subst h1
  by_cases h2:b=e
  ·subst h2
   by_cases h3:c=f
   ·subst h3;simp [go_sem]
   ·simp [go_sem,h3]
  ·simp [go_sem,h2]
 ·simp [go_sem,h1]
def yl (b c e f:Int):Bool:=decide (b=e/\c=f)
theorem Ix (b c e f:Int)(w:World):(binOp .eql 31 (.agg #[.int .u64 b,.int .u64 c]) (.agg #[.int .u64 e,.int .u64 f])).run prog w=.ok (.bool (yl b c e f)) w:=by
 unfold yl
 by_cases h2:b=e
 ·subst h2
  by_cases h3:c=f
  ·subst h3;simp [go_sem]
  ·simp [go_sem,h3]
 ·simp [go_sem,h2]
theorem qC (c:Cl)(d g:Sl)(w:World):Calls prog 94 #[cV c d g] w λe w'=>e=.returned (.bool (E1 c))/\Below w.heap.size w w':=by
 obtain⟨op,au,size,obj,hi,lo,given,av,off,n,data,index,an⟩:=c
 obtain⟨da,dn,dc⟩:=d
 obtain⟨ga,gn,gc⟩:=g
 unfold cV
 have HE:Hid (yl hi lo 0 0=decide (hi=0/\lo=0)):=by unfold Hid yl;rw [Bool.eq_iff_iff];simp only [decide_eq_true_eq];omega
 have heq:=Ix hi lo 0 0
 have tail:∀(h56:op=5\/op=6),E1 ⟨op,au,size,obj,hi,lo,given,av,off,n,data,index,an⟩=(given||decide (hi=0/\lo=0)):=λh=>by unfold E1;simp only;rw [if_pos h]
 have HT:Hid _:=tail
 clear tail
 by_cases h5:op=5
 ·have HT2:=HT.o (.inl h5)
  have HT3:Hid _:=HT2
  clear HT HT2
  have b5:(op != 5)=false:=by simp [h5]
  clear h5
  cases given with
  | true =>
   go_enter func94,ntmps94
   go_wp2
   go_ret
   exact⟨cW (by rw [HT3.o];rfl),ab _ _⟩
  | false =>
   go_enter func94,ntmps94
   go_wp2
   go_ret
   exact⟨cW (by rw [HT3.o,HE.o];rfl),ab _ _⟩
 ·have b5:(op != 5)=true:=by simp [h5]
  by_cases h6:op=6
  ·have HT2:=HT.o (.inr h6)
   have HT3:Hid _:=HT2
   clear HT HT2
   have b6:(op != 6)=false:=by simp [h6]
   clear h6 h5
   cases given with
   | true =>
    go_enter func94,ntmps94
    go_wp2
    go_ret
    exact⟨cW (by rw [HT3.o];rfl),ab _ _⟩
   | false =>
    go_enter func94,ntmps94
    go_wp2
    go_ret
    exact⟨cW (by rw [HT3.o,HE.o];rfl),ab _ _⟩
  ·have b6:(op != 6)=true:=by simp [h6]
   have HN:Hid (E1 ⟨op,au,size,obj,hi,lo,given,av,off,n,data,index,an⟩=true):=by unfold Hid E1;simp only;rw [if_neg (by omega)]
   clear HT h5 h6
   go_enter func94,ntmps94
   go_wp2
   go_ret
   exact⟨cW HN.o.symm,ab _ _⟩
theorem qL (c:Cl)(d g:Sl)(w:World)(h:Is w c d g):Calls prog 95 #[cV c d g] w λe w'=>e=.returned (.bool (Gk c))/\Below w.heap.size w w':=by
 obtain⟨op,au,size,obj,hi,lo,given,av,off,n,data,index,an⟩:=c
 obtain⟨da,dn,dc⟩:=d
 obtain⟨ga,gn,gc⟩:=g
 have hdl:data.length=dn:=h.data.len
 have hgl:an.length=gn:=h.an.len
 have heq:=xd obj hi lo 0 0 0
 have hnot:∀(x:Bool) (w:World),(Op.unary .not (.bool x)).run prog w=.ok (.bool (!x)) w:=λ_ _=>rfl
 have HB:Hid (Gk ⟨op,au,size,obj,hi,lo,given,av,off,n,data,index,an⟩=((size==0)&&sr obj hi lo 0 0 0&&!given&&(av==0)&&(off==0)&&(n==0)&&((dn:Int)==0)&&(index==0)&&((gn:Int)==0))):=by
  unfold Hid
  rw [Bool.eq_iff_iff,D4]
  simp only [Bool.and_eq_true,beq_iff_eq,sr,decide_eq_true_eq,Bool.not_eq_true']
  constructor
  ·rintro ⟨a,b1,b2,b3,c,d,e,f,g,q,i⟩
   subst g i
   exact⟨⟨⟨⟨⟨⟨⟨⟨a,b1,by omega,by omega⟩,c⟩,d⟩,e⟩,f⟩,by simp at hdl;omega⟩,q⟩,by simp at hgl;omega⟩
  ·rintro ⟨⟨⟨⟨⟨⟨⟨⟨a,b1,b2,b3⟩,c⟩,d⟩,e⟩,f⟩,g⟩,q⟩,i⟩
   exact⟨a,b1,by omega,by omega,c,d,e,f,List.eq_nil_of_length_eq_zero (by omega),q,List.eq_nil_of_length_eq_zero (by omega)⟩
 clear h hdl hgl
 unfold cV
 cases F1:(size==0) with
 | false =>
  have E:Hid (_=false):=HB.o.trans (by simp only [F1,Bool.true_and,Bool.false_and,Bool.and_false,Bool.not_true,Bool.not_false,Bool.and_true])
  clear HB
  go_enter func95,ntmps95
  go_wp2
  go_ret
  exact⟨cW E.out.symm,ab _ _⟩
 | true =>
  cases F2:sr obj hi lo 0 0 0 with
  | false =>
   have E:Hid (_=false):=HB.o.trans (by simp only [F1,F2,Bool.true_and,Bool.false_and,Bool.and_false,Bool.not_true,Bool.not_false,Bool.and_true])
   clear HB
   go_enter func95,ntmps95
   go_wp2
   go_ret
   exact⟨cW E.out.symm,ab _ _⟩
  | true =>
   cases given with
   | true =>
    have E:Hid (_=false):=HB.o.trans (by simp only [F1,F2,Bool.true_and,Bool.false_and,Bool.and_false,Bool.not_true,Bool.not_false,Bool.and_true])
    clear HB
    go_enter func95,ntmps95
    go_wp2
    go_ret
    exact⟨cW E.out.symm,ab _ _⟩
   | false =>
    cases F4:(av==0) with
    | false =>
     have E:Hid (_=false):=HB.o.trans (by simp only [F1,F2,F4,Bool.true_and,Bool.false_and,Bool.and_false,Bool.not_true,Bool.not_false,Bool.and_true])
     clear HB
     go_enter func95,ntmps95
     go_wp2
     go_ret
     exact⟨cW E.out.symm,ab _ _⟩
    | true =>
     cases F5:(off==0) with
     | false =>
      have E:Hid (_=false):=HB.o.trans (by simp only [F1,F2,F4,F5,Bool.true_and,Bool.false_and,Bool.and_false,Bool.not_true,Bool.not_false,Bool.and_true])
      clear HB
      go_enter func95,ntmps95
      go_wp2
      go_ret
      exact⟨cW E.out.symm,ab _ _⟩
     | true =>
      cases F6:(n==0) with
      | false =>
       have E:Hid (_=false):=HB.o.trans (by simp only [F1,F2,F4,F5,F6,Bool.true_and,Bool.false_and,Bool.and_false,Bool.not_true,Bool.not_false,Bool.and_true])
       clear HB
       go_enter func95,ntmps95
       go_wp2
       go_ret
       exact⟨cW E.out.symm,ab _ _⟩
      | true =>
       cases F7:((dn:Int)==0) with
       | false =>
        have E:Hid (_=false):=HB.o.trans (by simp only [F1,F2,F4,F5,F6,F7,Bool.true_and,Bool.false_and,Bool.and_false,Bool.not_true,Bool.not_false,Bool.and_true])
        clear HB
        go_enter func95,ntmps95
        go_wp2
        go_ret
        exact⟨cW E.out.symm,ab _ _⟩
       | true =>
        cases F8:(index==0) with
        | false =>
         have E:Hid (_=false):=HB.o.trans (by simp only [F1,F2,F4,F5,F6,F7,F8,Bool.true_and,Bool.false_and,Bool.and_false,Bool.not_true,Bool.not_false,Bool.and_true])
         clear HB
         go_enter func95,ntmps95
         go_wp2
         go_ret
         exact⟨cW E.out.symm,ab _ _⟩
        | true =>
         have E:Hid (_=((gn:Int)==0)):=HB.o.trans (by simp only [F1,F2,F4,F5,F6,F7,F8,Bool.true_and,Bool.not_false,Bool.and_true])
         clear HB
         go_enter func95,ntmps95
         go_wp2
         go_ret
         exact⟨cW E.out.symm,ab _ _⟩
end Go.Proofs.YtfmhdimaijimlaaGreatDoor.R
