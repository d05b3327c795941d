import Derived.Test.YtfmhdimaijimlaaGreatDoorZ01
import Derived.Deep.LoopGhost
set_option linter.all false
set_option maxRecDepth 1000000
set_option maxHeartbeats 8000000
open Go.Proofs.Tryz
variable {w w' w1 w2:Go.World}{n m k i j b g base kn:Nat}{a:Option Go.Addr}
namespace Go.Proofs.YtfmhdimaijimlaaGreatDoor
theorem eO {a b:List Int}(h:i<a.length):nx (a++b) i=nx a i:=by unfold nx;rw [List.getElem?_append_left h]
theorem dV {a b:List Int}(h:a.length<=i):nx (a++b) i=nx b (i - a.length):=by
 unfold nx;rw [List.getElem?_append_right h]
theorem vB (a:Int)(b:List Int)(i:Nat):nx (a::b) (i+1)=nx b i:=by simp [nx]
theorem IE {m:Nat}{l:Fo}{N:List Nd}(h:cU m l N){p:Nat}{i:Nat}(hi:0<i)(hil:i<=(ch l p).length):(ch l p)[i - 1]?=some ((kh p (ch l p) i:Nat):Int):=by
 cases i with
 | zero=>omega
 | succ j =>
  have hr:=h.ok.range _ (b_ (List.getElem_mem (l:=ch l p) (n:=j) (by omega)))
  rw [show j+1 - 1=j by omega,gE (by omega)]
  show _=some (((nx (ch l p) j).toNat:Nat):Int)
  rw [eM (by omega)]
  congr 1
  omega
theorem cU.EO {l:Fo}{N:List Nd}(h:cU m l N){n:Nat}(hn:((n:Int),-1)∈l)(hc:ch l n=[]):cU m (cut l n) (N.set n yr):=by
 have hch:∀q:Int,0<=q->ch (cut l n) q=ch l q:=λq hq=>by
  rw [tR]
  apply fE
  intro hk
  have:=h.ok.uniq (bl.1 hk) hn
  omega
 refine⟨by rw [List.length_set];exact h.len,h.ok.cut n hc,λk x hx hk=>?_,λk x p hx hp=>?_,λk x hx hk=>?_,λp hp i k x hi hx=>?_⟩
 ·rcases ay hx with ⟨_,rfl⟩|⟨hne,hx⟩
  ·rfl
  ·exact h.out k x hx (λhk2=>hk (dD.2 ⟨hk2,by omega⟩))
 ·obtain⟨hp1,hp2⟩:=kN.1 hp
  simp only at hp2
  rcases ay hx with ⟨rfl,rfl⟩|⟨hne,hx⟩
  ·exact absurd rfl hp2
  ·exact h.yg k x p hx hp1
 ·obtain⟨hk1,hk2⟩:=dD.1 hk
  rcases ay hx with ⟨rfl,rfl⟩|⟨hne,hx⟩
  ·exact absurd rfl hk2
  ·rw [hch _ (by omega)]
   exact h.fi k x hx hk1
 ·have hk:=(dD.1 (b_ (List.mem_of_getElem? hi))).2
  rw [hch _ hp] at hi ⊢
  rcases ay hx with ⟨rfl,rfl⟩|⟨hne,hx⟩
  ·exact absurd rfl hk
  ·exact h.be p hp i k x hi hx
theorem cU.cut {m:Nat}{l:Fo}{N:List Nd}(h:cU m l N){n p i:Nat}(hi:(ch l p)[i]?=some (n:Int))(hp0:(p:Int)∈ah l)(hc:ch l n=[]) :
  cU m (cut l n) ((bR N p (ch l p) i (nx (ch l p) (i+1))).set n yr):=by
 have hn:=bl.1 (List.mem_of_getElem? hi)
 have hcn:=h.ok.kQ (p:Int)
 have hlk:=@IE _ _ _ h p i
 obtain⟨c,hcc⟩:∃c,c=ch l p:=⟨_,rfl⟩
 rw [<-hcc] at hi hcn hlk ⊢
 have hil:=(gS.1 hi).1
 obtain⟨c1,c2,hsp,hl1⟩:∃c1 c2,c=c1++(n:Int)::c2/\c1.length=i:=by
  refine⟨c.take i,c.drop (i+1),?_,by rw [List.length_take];omega⟩
  have h1:=gS.1 hi
  obtain⟨h2,h3⟩:=h1
  rw [<-h3,List.getElem_cons_drop,List.take_append_drop]
 have hpn:p≠n:=by
  intro e
  subst e
  rw [<-hcc] at hc
  rw [hc] at hil
  exact absurd hil (Nat.not_lt_zero _)
 have hch:∀q:Int,q≠p->ch (Go.Proofs.YtfmhdimaijimlaaGreatDoor.cut l n) q=ch l q:=λq hq=>by
  rw [tR]
  apply fE
  intro hk
  exact hq (h.ok.uniq (bl.1 hk) hn)
 have hchp:ch (Go.Proofs.YtfmhdimaijimlaaGreatDoor.cut l n) p=c1++c2:=by
  rw [tR,<-hcc,hsp]
  rw [hsp] at hcn
  exact xU hcn
 refine⟨by rw [List.length_set,rl];exact h.len,h.ok.cut n hc,λk x hx hk=>?_,λk x q hx hq=>?_,λk x hx hk=>?_,λq hq j k x hj hx=>?_⟩
 ·rcases ay hx with ⟨_,rfl⟩|⟨hne,hx⟩
  ·rfl
  ·have hkl:(k:Int)∉ah l:=λhk2=>hk (dD.2 ⟨hk2,by omega⟩)
   obtain⟨y,hy,h1,h2,h3,h4⟩:=eN hx
   rw [if_neg (λe=>hkl (by rw [e.2];exact hp0))] at h3
   rw [if_neg (λe=>hkl (by rw [e.2];have:=List.mem_of_getElem? (hlk e.1 (by omega));rw [hcc] at this;rw [hcc];exact b_ this))] at h4
   have:=h.out k y hy hkl
   subst this
   obtain⟨a,b,c,d⟩:=x
   simp only at h1 h2 h3 h4
   subst h1 h2 h3 h4
   rfl
 ·obtain⟨hp1,hp2⟩:=kN.1 hq
  simp only at hp2
  rcases ay hx with ⟨rfl,rfl⟩|⟨hne,hx⟩
  ·exact absurd rfl hp2
  ·obtain⟨y,hy,h1,h2,_,_⟩:=eN hx
   rw [h1,h2]
   exact h.yg k y q hy hp1
 ·obtain⟨hk1,hk2⟩:=dD.1 hk
  rcases ay hx with ⟨rfl,rfl⟩|⟨hne,hx⟩
  ·exact absurd rfl hk2
  ·obtain⟨y,hy,_,_,h3,_⟩:=eN hx
   rw [h3]
   by_cases hkp:k=p
   ·subst hkp
    rw [hchp]
    by_cases hi0:i=0
    ·have hc1:c1=[]:=List.eq_nil_of_length_eq_zero (by omega)
     rw [if_pos ⟨hi0,rfl⟩,hi0,hsp,hc1]
     rfl
    ·rw [if_neg (λe=>hi0 e.1),h.fi k y hy hp0,<-hcc,hsp,eO (by omega),eO (by omega)]
   ·rw [if_neg (λe=>hkp e.2),hch _ (by omega)]
    exact h.fi k y hy hk1
 ·have hkn:=(dD.1 (b_ (List.mem_of_getElem? hj))).2
  rcases ay hx with ⟨rfl,rfl⟩|⟨hne,hx⟩
  ·exact absurd rfl hkn
  ·obtain⟨y,hy,_,_,_,h4⟩:=eN hx
   rw [h4]
   by_cases hqp:q=p
   ·subst hqp
    rw [hchp] at hj ⊢
    by_cases hj1:j<c1.length
    ·rw [List.getElem?_append_left hj1] at hj
     have hjc:c[j]?=some (k:Int):=by rw [hsp,List.getElem?_append_left hj1];exact hj
     by_cases hj2:j+1=i
     ·have hk3:=hlk (by omega) (by omega)
      rw [<-hj2] at hk3
      rw [show j+1 - 1=j by omega,hjc] at hk3
      have hk4:=Option.some.inj hk3
      rw [if_pos ⟨by omega,by rw [<-hj2];omega⟩,dV (by omega),hsp,dV (by omega),show i+1 - c1.length=0+1 by omega,vB,show j+1 - c1.length=0 by omega]
     ·rw [if_neg,h.be p (by omega) j k y (hcc ▸ hjc) hy,<-hcc,hsp,eO (by omega),eO (by omega)]
      rintro ⟨h5,h6⟩
      have:=hlk h5 (by omega)
      rw [<-h6] at this
      have:=gl hcn hjc this
      omega
    ·rw [List.getElem?_append_right (by omega)] at hj
     have hjc:c[j+1]?=some (k:Int):=by
      rw [hsp,List.getElem?_append_right (by omega),show j+1 - c1.length=(j - c1.length)+1 by omega]
      exact hj
     rw [if_neg,h.be p (by omega) (j+1) k y (hcc ▸ hjc) hy,<-hcc,hsp,dV (by omega),dV (by omega),show j+1+1 - c1.length=(j+1 - c1.length)+1 by omega,vB]
     rintro ⟨h5,h6⟩
     have:=hlk h5 (by omega)
     rw [<-h6] at this
     have:=gl hcn hjc this
     omega
   ·rw [hch q hqp] at hj ⊢
    rw [if_neg]
    ·exact h.be q hq j k y hj hy
    ·rintro ⟨h5,h6⟩
     have:=List.mem_of_getElem? (hlk h5 (by omega))
     rw [<-h6,hcc] at this
     exact hqp (h.ok.uniq (bl.1 (List.mem_of_getElem? hj)) (bl.1 this))
open Go.RowKit
structure Pn (w:World)(b o:Nat)(x:Nd):Prop where
 c0:w.cell? ⟨b,o,none⟩=some (.bool x.th)
 c1:w.cell? ⟨b,o+1,none⟩=some (.int .i64 x.pa)
 c2:w.cell? ⟨b,o+2,none⟩=some (.int .i64 x.fi)
 c3:w.cell? ⟨b,o+3,none⟩=some (.int .i64 x.be)
theorem Pn.but {S:Nat->Prop}{o:Nat}{x:Nd}(hb:ae S w w')(h:Pn w b o x)(hn:¬S b):Pn w' b o x :=
 ⟨aC hb h.c0 hn,aC hb h.c1 hn,aC hb h.c2 hn,aC hb h.c3 hn⟩
structure Tm (w:World)(g gb m:Nat)(N:List Nd):Prop where
 a0:w.cell? ⟨g,0,none⟩=some (.slice (some ⟨gb,0,none⟩) m m)
 fr:∀j,w.frozen? ⟨gb,j,none⟩=false
 at_:∀(i:Nat) (x:Nd),N[i]?=some x->Pn w gb (i*4) x
 ne:g≠gb
 oN:gb<w.heap.size
 len:N.length=m
 eK:m<=1024
theorem Tm.lt {gb:Nat}{N:List Nd}(h:Tm w g gb m N):g<w.heap.size:=World.block_lt_of_cell? _ _ h.a0
theorem Tm.but {S:Nat->Prop}{gb:Nat}{N:List Nd}(hb:ae S w w')(h:Tm w g gb m N)(h1:¬S g)(h2:¬S gb):Tm w' g gb m N :=
 ⟨aC hb h.a0 h1,λj=>by rw [World.frozen?_of_block (w:=w) (hb.block gb h.oN h2)];exact h.fr j,λi p hp=>(h.at_ i p hp).but hb h2,h.ne,Nat.lt_of_lt_of_le h.oN hb.size,h.len,h.eK⟩
theorem Tm.later {gb:Nat}{N:List Nd}(hb:Below w.heap.size w w')(h:Tm w g gb m N):Tm w' g gb m N:=h.but (S:=λ_=>False) (ae.of hb) (λh=>h) (λh=>h)
theorem ag {o o':Nat}{u v:Value}(h:w.cell? ⟨b,o,none⟩=some v)(hne:o≠o'):(w.setCell ⟨b,o',none⟩ u).cell? ⟨b,o,none⟩=some v:=by
 rw [World.cell?_setCell_other _ _ _ _ (λe=>hne (by cases e;rfl))];exact h
theorem bA {b' o o':Nat}{u v:Value}(h:w.cell? ⟨b,o,none⟩=some v)(hne:b≠b'):(w.setCell ⟨b',o',none⟩ u).cell? ⟨b,o,none⟩=some v:=by
 rw [World.cell?_setCell_other _ _ _ _ (λe=>hne (by cases e;rfl))];exact h
theorem eP {gb:Nat}{N:List Nd}(h:Tm w g gb m N)(n:Nat)(hn:n<m) :
  Calls prog 248 #[.pointer (some ⟨g,0,none⟩),.int .i64 (n:Int)] w λe w'=>e=.returned (.pointer (some ⟨gb,n*4,none⟩))/\w'=w:=by
 have x:=h.a0
 have hb:=h.eK
 clear h
 have h1:¬(n:Int)<0:=by omega
 have h2:¬(m:Int)<=(n:Int):=by omega
 go_enter func248,ntmps248
 go_wp2
 go_ret
 exact⟨by simp,rfl⟩
theorem po {gb m:Nat}{N:List Nd}(h:Tm w g gb m N)(n:Int)(hn:n<0\/(m:Int)<=n) :
  Calls prog 248 #[.pointer (some ⟨g,0,none⟩),.int .i64 n] w λe w'=>e=.returned (.pointer none)/\w'=w:=by
 have x:=h.a0
 have hb:=h.eK
 clear h
 by_cases h1:n<0
 ·clear hn
  go_enter func248,ntmps248
  go_wp2
  go_ret
  exact⟨rfl,rfl⟩
 ·have h2:(m:Int)<=n:=by omega
  clear hn
  go_enter func248,ntmps248
  go_wp2
  go_ret
  exact⟨rfl,rfl⟩
def Ki (w:World)(g gb m:Nat)(l:Fo):Prop:=∃N,Tm w g gb m N/\cU m l N
theorem Ki.later {gb:Nat}{l:Fo}(hb:Below w.heap.size w w')(h:Ki w g gb m l):Ki w' g gb m l:=by
 obtain⟨N,h1,h2⟩:=h
 exact⟨N,h1.later hb,h2⟩
theorem Ki.but {S:Nat->Prop}{gb:Nat}{l:Fo}(hb:ae S w w')(h:Ki w g gb m l)(hg:¬S g)(hgb:¬S gb):Ki w' g gb m l:=by
 obtain⟨N,h1,h2⟩:=h
 exact⟨N,h1.but hb hg hgb,h2⟩
theorem Ki.ok {gb:Nat}{l:Fo}(h:Ki w g gb m l):Ok m l:=by
 obtain⟨N,h1,h2⟩:=h
 exact h2.ok
theorem aR {gb:Nat}{l:Fo}(h:Ki w g gb m l)(n:Int) :
  Calls prog 211 #[.pointer (some ⟨g,0,none⟩),.int .i64 n] w λe w'=>e=.returned (.bool (decide (n∈ah l)))/\w'=w:=by
 obtain⟨N,hT,hR⟩:=h
 by_cases hn:n<0\/(m:Int)<=n
 ·have hf:decide (n∈ah l)=false:=dF (λhk=>by have:=hR.ok.range n hk;omega)
  rw [hf]
  have hc:=po hT n hn
  clear hT hR hn
  go_enter func211,ntmps211
  go_wp2_with (go_at_call 248;refine hc.mono ?_;rintro e w1 ⟨rfl,rfl⟩)
  go_ret
  exact⟨rfl,rfl⟩
 ·obtain⟨k,rfl⟩:∃k:Nat,n=(k:Int):=⟨n.toNat,by omega⟩
  obtain⟨x,hx⟩:=get_some (L:=N) (i:=k) (by rw [hT.len];omega)
  rw [<-hR.there hx]
  have hc:=eP hT k (by omega)
  have c0:=(hT.at_ k x hx).c0
  clear hT hR hn
  go_enter func211,ntmps211
  go_wp2_with (go_at_call 248;refine hc.mono ?_;rintro e w1 ⟨rfl,rfl⟩)
  go_ret
  exact⟨rfl,rfl⟩
abbrev kO (g:Nat):Value:=.func (.func 248) #[.pointer (some ⟨g,0,none⟩)] #[]
theorem xQ {gb:Nat}{l:Fo}(h:Ki w g gb m l)(n p:Int)(hn:(n,p)∈l) :
  Calls prog 212 #[.pointer (some ⟨g,0,none⟩),.int .i64 n] w λe w'=>e=.returned (.tuple #[.int .i64 p,.bool true])/\w'=w:=by
 have hm:=cE.2 ⟨p,hn⟩
 have hh:=aR h n
 rw [dT hm] at hh
 obtain⟨N,hT,hR⟩:=h
 obtain⟨k,x,rfl,hk,hx⟩:=hR.get hm
 have hc:=eP hT k hk
 have c1:=(hT.at_ k x hx).c1
 rw [(hR.yg k x p hx hn).2] at c1
 clear hT hR hn hm
 go_enter func212,ntmps212
 go_wp2_with (first|(go_at_call 211;refine hh.mono ?_;rintro e w1 ⟨rfl,rfl⟩)|(go_at_call 248;refine hc.mono ?_;rintro e w1 ⟨rfl,rfl⟩))
 exact bodyPost_ret (v:=.tuple #[.int .i64 p,.bool true]) (by simp [results,results212,go_sem]) rfl ⟨rfl,rfl⟩
def E3 (gb p:Nat)(c:List Int)(i:Nat):Value:=.pointer (some ⟨gb,kh p c i*4+mV i,none⟩)
def Eu (gb p:Nat)(c:List Int)(s:Nat)(w:World)(k:Nat)(t:Value)(w':World):Prop:=∃i,i+k=s/\t=E3 gb p c i/\w'=w
theorem dH.cell {gb:Nat}{N:List Nd}(h:Tm w g gb m N){p:Nat}{c:List Int}(hc:dH N p c)(hi:i<=c.length) :
  kh p c i<m/\w.cell? ⟨gb,kh p c i*4+mV i,none⟩=some (.int .i64 (nx c i)):=by
 cases i with
 | zero =>
  obtain⟨x,hx,hx2⟩:=hc.top
  have:=(gS.1 hx).1
  rw [<-hx2]
  exact⟨by rw [<-h.len];exact this,(h.at_ p x hx).c2⟩
 | succ j =>
  obtain⟨k,x,hk,hx,hx2⟩:=hc.J2 j _ (gE (by omega))
  have:=(gS.1 hx).1
  have e:kh p c (j+1)=k:=by
   show (nx c j).toNat=k
   rw [eM (by omega)];omega
  rw [e,<-hx2]
  exact⟨by rw [<-h.len];exact this,(h.at_ k x hx).c3⟩
theorem dH.num {N:List Nd}{p:Nat}{c:List Int}(hc:dH N p c)(hm:N.length=m)(hi:i<c.length):∃k:Nat,nx c i=(k:Int)/\k<m/\kh p c (i+1)=k:=by
 obtain⟨k,x,hk,hx,hx2⟩:=hc.J2 i _ (gE hi)
 have:=(gS.1 hx).1
 refine⟨k,by rw [eM hi];exact hk,by omega,?_⟩
 show (nx c i).toNat=k
 rw [eM hi];omega
theorem mF {gb:Nat}{N:List Nd}(h:Tm w g gb m N){p:Nat}{c:List Int}(hc:dH N p c)(v:Int)(s:Nat)(hs:s<=c.length)(hv:nx c s=v)(hn:∀i,i<s->nx c i≠v) :
  Calls prog 274 #[kO g,.int .i64 (p:Int),.int .i64 v] w λe w'=>e=.returned (E3 gb p c s)/\w'=w:=by
 have HT:=aa h
 have HC:=aa hc
 have HN:=aa hn
 have HV:=aa hv
 have hp:=(dH.cell h hc (Nat.zero_le _)).1
 have HM:=aa h.len
 clear h hc hn hv
 go_enter func274,ntmps274
 go_upto_region 2 with (first|(go_at_call 248;refine (eP HT.o p hp).mono ?_;rintro e w1 ⟨rfl,rfl⟩))
 go_loopg [7] s (Eu gb p c s w1)
 case atStart=>exact⟨0,by omega,by simp [E3,kh,mV],rfl⟩
 case round =>
  obtain⟨i,hi,rfl,rfl⟩:=hrel
  obtain⟨h1,h2⟩:=dH.cell HT.o HC.o (i:=i) (by omega)
  by_cases hlt:i<s
  ·have hne:=HN.o i hlt
   obtain⟨k,hk,hk2,hk3⟩:=HC.o.num HM.o (i:=i) (by omega)
   have hK3:=aa hk3
   rw [hk] at h2 hne
   clear h1 hk hk3
   unfold E3
   have hne2:((k:Int)==v)=false:=by simpa using hne
   go_wp2_with (first|(go_at_call 248;refine (eP HT.o k hk2).mono ?_;rintro e w1 ⟨rfl,rfl⟩))
   go_roundg (gk - 1)
   case measure=>omega
   case rel=>exact⟨i+1,by omega,by simp [E3,mV,hK3.out],rfl⟩
  ·obtain rfl:i=s:=by omega
   rw [HV.o] at h2
   unfold E3
   go_wp2
   go_ret
   exact⟨rfl,rfl⟩
theorem dE {cap:Nat}{L:List Value}{b:Option Addr}{c:Nat}{M:List Value}(h:Own w base 3 a n cap L)(k:Row w b m c M)(hb:base<=w.heap.size)(hr:(n+m)*8<=140737488355328) :
  ∃a' cap' w',(Builtin.append_ #[43,43] 43 #[.slice a n cap,.slice b m c]).run prog w=.ok (.slice a' (n+m) cap') w'/\Own w' base 3 a' (n+m) cap' (L++M)/\Gr a a' w w' :=
 lr 43 3 _ 8 underlying43 sj rfl h k hb hr (by omega)
theorem dj (A:List Int)(i:Nat)(h:i<A.length):A.take (i+1)=A.take i++[A[i]]:=by
 rw [List.take_succ_eq_append_getElem h]
def Gs (w:World)(c:List Int)(k:Nat)(v t:Value)(w':World):Prop :=
 ∃(i:Nat) (a:Option Addr) (cap:Nat),i+k=c.length/\v=.slice a i cap/\t=.int .i64 (nx c i)/\Own w' w.heap.size 3 a i cap (ints (c.take i))/\Below w.heap.size w w'
theorem kM {gb:Nat}{N:List Nd}(h:Tm w g gb m N){p:Nat}{c:List Int}(hc:dH N p c)(hl:c.length<=1024)(hpos:∀x∈c,0<=x) :
  Calls prog 269 #[kO g,.int .i64 (p:Int)] w λe w'=>∃a n cap,e=.returned (.slice a n cap)/\Own w' w.heap.size 3 a n cap (ints c)/\Below w.heap.size w w':=by
 have HT:=aa h
 have HC:=aa hc
 obtain⟨hp,hp0⟩:=dH.cell h hc (Nat.zero_le _)
 have hp1:w.cell? ⟨gb,p*4+2,none⟩=some (.int .i64 (nx c 0)):=hp0
 have HM:=aa h.len
 have HP:=aa hpos
 clear h hc hp0 hpos
 go_enter func269,ntmps269
 go_upto_region 3 with (first|(go_at_call 248;refine (eP HT.o p hp).mono ?_;rintro e w1 ⟨rfl,rfl⟩))
 go_loopg [5,6] c.length (Gs w1 c)
 case atStart=>exact⟨0,none,0,by omega,rfl,rfl,Own.nil _ _ _,Below.refl _ _⟩
 case round =>
  obtain⟨i,a,cap,hi,rfl,rfl,hO,hB⟩:=hrel
  have HO:=aa hO
  have HB:=aa hB
  clear hO hB
  by_cases hlt:i<c.length
  ·obtain⟨k,hk,hk2,hk3⟩:=HC.o.num HM.o hlt
   have hne2:((k:Int)==-1)=false:=by simp
   obtain⟨a',cap',w2,hrun,hO2,hG⟩:=dE (HO.o.alloc (Obj.cells #[Value.int .i64 (k:Int)] 3)) (Row.single wr 3 (.int .i64 (k:Int)) rfl) (by have:=HB.o.size;simp;omega) (by omega)
   have hB2:Below w1.heap.size w1 w2:=(HB.o.alloc HB.o.size _).trans (Gr.below (HO.o.alloc _) hG (by have:=HB.o.size;simp;omega))
   have hT2:=HT.o.later hB2
   obtain⟨_,h2⟩:=dH.cell hT2 HC.o (i:=i+1) (by omega)
   have h3:w2.cell? ⟨gb,k*4+3,none⟩=some (.int .i64 (nx c (i+1))):=by rw [<-hk3];exact h2
   have HRUN:=aa hrun
   have HO2:Hid (Own w2 w1.heap.size 3 a' (i+1) cap' (ints (c.take (i+1)))):=by
    rw [dj c i hlt,bf,<-eM hlt,hk]
    exact hO2
   have HB2:=aa hB2
   have HT2:=aa hT2
   rw [hk]
   clear hrun hO2 hG hB2 hT2 h2 hk hk3 hp1
   go_wp2_with (first|(at_builtin;refine kt rfl _ _ 43 rfl _ _ rfl rfl _ w2 HRUN.o ?_)|(go_at_call 248;refine (eP HT2.o k hk2).mono ?_;rintro e w1 ⟨rfl,rfl⟩))
   go_roundg (gk - 1)
   case measure=>omega
   case rel=>exact⟨i+1,a',cap',by omega,rfl,rfl,HO2.o,HB2.o⟩
  ·obtain rfl:i=c.length:=by omega
   have hk:nx c c.length=-1:=z_ (Nat.le_refl _)
   rw [hk]
   clear hk hp1
   go_wp2
   go_ret
   exact⟨a,_,cap,rfl,by have:=HO.o;rwa [List.take_length] at this,HB.o⟩
theorem Bn (l:Fo)(p:Int):(ch l p).length<=l.length:=by
 have:=(tT l p).length_le
 simpa [ah] using this
theorem AT {l:Fo}(h:Ok m l){n:Int}(hn:n∉ah l):kids l n=[]:=by
 unfold kids
 split
 ·next h0=>exact h.none h0 hn
 ·rfl
theorem vG {l:Fo}(h:Ok m l){n:Int}(hn:n∈ah l):kids l n=ch l n:=by
 unfold kids
 rw [if_pos (h.range n hn).1]
theorem B6 {l:Fo}(h:Ok m l)(n:Int):(kids l n).length<=m:=by
 unfold kids
 split
 ·exact Nat.le_trans (Bn l n) h.len
 ·simp
theorem pD {gb:Nat}{l:Fo}(h:Ki w g gb m l)(n:Int) :
  Calls prog 250 #[.pointer (some ⟨g,0,none⟩),.int .i64 n] w λe w'=>∃a k cap,e=.returned (.slice a k cap)/\Own w' w.heap.size 3 a k cap (ints (kids l n))/\Below w.heap.size w w':=by
 have hh:=aR h n
 by_cases hn:n∈ah l
 ·rw [dT hn] at hh
  rw [vG h.ok hn]
  obtain⟨N,hT,hR⟩:=h
  obtain⟨k,x,rfl,hk,hx⟩:=hR.get hn
  have hr:=kM hT (hR.chain hn) (Nat.le_trans (Bn l k) (Nat.le_trans hR.ok.len hT.eK)) (λx hx=>(hR.ok.range x (b_ hx)).1)
  have HR:=aa hr
  clear hT hR hn hr
  go_enter func250,ntmps250
  go_wp2_with (first|(go_at_call 211;refine hh.mono ?_;rintro e w1 ⟨rfl,rfl⟩)|(go_at_call 269;refine HR.o.mono ?_;rintro e w2 ⟨a,n,cap,rfl,O,hb⟩;have HO:=aa O;have HB:=aa hb;clear O hb))
  go_ret
  exact⟨a,n,cap,rfl,HO.o,HB.o⟩
 ·rw [dF hn] at hh
  rw [AT h.ok hn]
  clear h hn
  go_enter func250,ntmps250
  go_wp2_with (first|(go_at_call 211;refine hh.mono ?_;rintro e w1 ⟨rfl,rfl⟩))
  go_ret
  exact⟨none,0,0,rfl,Own.nil _ _ _,Below.refl _ _⟩
theorem Tm.cell {gb:Nat}{N N':List Nd}{o:Nat}{u:Value}(h:Tm w g gb m N)(hl:N'.length=m)
  (hat:∀(i:Nat) (x:Nd),N'[i]?=some x->Pn (w.setCell ⟨gb,o,none⟩ u) gb (i*4) x):Tm (w.setCell ⟨gb,o,none⟩ u) g gb m N' :=
 ⟨bA h.a0 h.ne,λj=>by simpa using h.fr j,hat,h.ne,by simpa [World.setCell] using h.oN,hl,h.eK⟩
theorem Pn.off {o o':Nat}{x:Nd}{u:Value}(h:Pn w b o x)(hne:o'<o\/o+4<=o'):Pn (w.setCell ⟨b,o',none⟩ u) b o x :=
 ⟨ag h.c0 (by omega),ag h.c1 (by omega),ag h.c2 (by omega),ag h.c3 (by omega)⟩
theorem Tm.II {gb:Nat}{N:List Nd}{x:Nd}(h:Tm w g gb m N)(hx:N[i]?=some x)(v:Int):Tm (w.setCell ⟨gb,i*4+1,none⟩ (.int .i64 v)) g gb m (N.set i ⟨x.th,v,x.fi,x.be⟩):=by
 refine h.cell (by rw [List.length_set];exact h.len) (λj q hq=>?_)
 rcases ay hq with ⟨rfl,rfl⟩|⟨hne,h3⟩
 ·have hP:=h.at_ _ _ hx
  exact⟨ag hP.c0 (by omega),World.cell?_setCell_same _ _ _ hP.c1,ag hP.c2 (by omega),ag hP.c3 (by omega)⟩
 ·exact (h.at_ _ _ h3).off (by omega)
theorem Tm.Fx {gb:Nat}{N:List Nd}(h:Tm w g gb m N){p:Nat}{c:List Int}(hc:dH N p c)(hi:i<=c.length)(v:Int) :
  Tm (w.setCell ⟨gb,kh p c i*4+mV i,none⟩ (.int .i64 v)) g gb m (bR N p c i v):=by
 obtain⟨h1,h2⟩:=dH.cell h hc hi
 obtain⟨x,hx⟩:=get_some (L:=N) (i:=kh p c i) (by rw [h.len];exact h1)
 unfold bR
 rw [hx]
 generalize kh p c i=k at *
 refine h.cell (by rw [List.length_set];exact h.len) (λj q hq=>?_)
 rcases ay hq with ⟨rfl,rfl⟩|⟨hne,h3⟩
 ·have hP:=h.at_ _ _ hx
  cases i with
  | zero=>exact⟨ag hP.c0 (by simp [mV]),ag hP.c1 (by simp [mV]),World.cell?_setCell_same _ _ _ hP.c2,ag hP.c3 (by simp [mV])⟩
  | succ i=>exact⟨ag hP.c0 (by simp [mV]),ag hP.c1 (by simp [mV]),ag hP.c2 (by simp [mV]),World.cell?_setCell_same _ _ _ hP.c3⟩
 ·have:mV i<4:=by cases i<;>simp [mV]
  exact (h.at_ _ _ h3).off (by omega)
def iN (w:World)(b o:Nat)(x:Nd):World :=
 (((w.setCell ⟨b,o,none⟩ (.bool x.th)).setCell ⟨b,o+1,none⟩ (.int .i64 x.pa)).setCell ⟨b,o+2,none⟩ (.int .i64 x.fi)).setCell ⟨b,o+3,none⟩ (.int .i64 x.be)
theorem jz {S:Nat->Prop}{a:World}(h:ae S a w)(hb:S b)(o:Nat)(x:Nd):ae S a (iN w b o x) :=
 (((h.setCell (p:=⟨b,o,none⟩) hb _).setCell (p:=⟨b,o+1,none⟩) hb _).setCell (p:=⟨b,o+2,none⟩) hb _).setCell (p:=⟨b,o+3,none⟩) hb _
theorem Pn.set {w:World}{b o:Nat}{y:Nd}(h:Pn w b o y)(x:Nd):Pn (iN w b o x) b o x:=by
 have s0:=World.cell?_setCell_same w ⟨b,o,none⟩ (.bool x.th) h.c0
 have s1:=World.cell?_setCell_same (w.setCell ⟨b,o,none⟩ (.bool x.th)) ⟨b,o+1,none⟩ (.int .i64 x.pa) (ag h.c1 (by omega))
 have s2:=World.cell?_setCell_same ((w.setCell ⟨b,o,none⟩ (.bool x.th)).setCell ⟨b,o+1,none⟩ (.int .i64 x.pa)) ⟨b,o+2,none⟩ (.int .i64 x.fi) (ag (ag h.c2 (by omega)) (by omega))
 unfold iN
 exact⟨ag (ag (ag s0 (by omega)) (by omega)) (by omega),ag (ag s1 (by omega)) (by omega),ag s2 (by omega),World.cell?_setCell_same _ _ _ (ag (ag (ag h.c3 (by omega)) (by omega)) (by omega))⟩
theorem Pn.lJ {o o':Nat}{y:Nd}(h:Pn w b o y)(x:Nd)(hne:o'+4<=o\/o+4<=o'):Pn (iN w b o' x) b o y:=by
 unfold iN
 exact (((h.off (by omega)).off (by omega)).off (by omega)).off (by omega)
theorem Tm.set {w:World}{g gb m:Nat}{N:List Nd}{i:Nat}{y:Nd}(h:Tm w g gb m N)(hy:N[i]?=some y)(x:Nd):Tm (iN w gb (i*4) x) g gb m (N.set i x):=by
 have hb:ae (·=gb) w (iN w gb (i*4) x):=jz (S:=(·=gb)) (ae.refl _ _) (b:=gb) (by rfl) _ _
 refine⟨aC hb h.a0 h.ne,λj=>by have:=h.fr j;unfold iN;simpa using this,λj q hq=>?_,h.ne,Nat.lt_of_lt_of_le h.oN hb.size,by rw [List.length_set];exact h.len,h.eK⟩
 rcases ay hq with ⟨rfl,rfl⟩|⟨hne,h3⟩
 ·exact (h.at_ _ _ hy).set _
 ·exact (h.at_ _ _ h3).lJ _ (by omega)
def fg (m:Nat)(l:Fo)(n:Int):Int:=if 0<=n/\n<m then (if n∈ah l then 19 else 0) else 20
def rU (m:Nat)(l:Fo)(n:Int):Fo:=if (0<=n/\n<m)/\n∉ah l then l++[(n,-1)] else l
theorem qA {gb:Nat}{N:List Nd}{l:Fo}(hT:Tm w g gb m N)(hR:cU m l N)(k:Nat)(hk:k<m)(hn:(k:Int)∉ah l) :
  Calls prog 253 #[.pointer (some ⟨g,0,none⟩),.int .i64 (k:Int)] w λe w'=>e=.returned (.int .i64 0)/\Tm w' g gb m (N.set k ⟨true,-1,-1,-1⟩)/\ae (·=gb) w w':=by
 obtain⟨x,hx⟩:=get_some (L:=N) (i:=k) (by rw [hT.len];exact hk)
 have hc:=eP hT k hk
 have hP:=hT.at_ k x hx
 have c0:=hP.c0
 have c1:=hP.c1
 have c2:=hP.c2
 have c3:=hP.c3
 rw [hR.there hx,dF hn] at c0
 have f0:=hT.fr (k*4)
 have f1:=hT.fr (k*4+1)
 have f2:=hT.fr (k*4+2)
 have f3:=hT.fr (k*4+3)
 have HT:=aa (hT.set hx ⟨true,-1,-1,-1⟩)
 have HB:Hid (ae (·=gb) w (iN w gb (k*4) ⟨true,-1,-1,-1⟩)):=jz (S:=(·=gb)) (ae.refl _ _) (b:=gb) (by rfl) _ _
 unfold iN at HT HB
 clear hT hR hn hP hx
 go_enter func253,ntmps253
 go_wp2_with (first|(go_at_call 248;refine hc.mono ?_;rintro e w1 ⟨rfl,rfl⟩))
 go_ret
 exact⟨rfl,HT.o,HB.o⟩
theorem vo {gb m:Nat}{l:Fo}(h:Ki w g gb m l)(n:Int)(hn:(n<0\/(m:Int)<=n)\/n∈ah l) :
  Calls prog 253 #[.pointer (some ⟨g,0,none⟩),.int .i64 n] w λe w'=>e=.returned (.int .i64 (fg m l n))/\w'=w:=by
 obtain⟨N,hT,hR⟩:=h
 by_cases h1:n<0\/(m:Int)<=n
 ·rw [show fg m l n=20 by unfold fg;rw [if_neg (by omega)]]
  have hc:=po hT n h1
  clear hT hR hn h1
  go_enter func253,ntmps253
  go_wp2_with (first|(go_at_call 248;refine hc.mono ?_;rintro e w1 ⟨rfl,rfl⟩))
  go_ret
  exact⟨rfl,rfl⟩
 ·have h2:n∈ah l:=by
   rcases hn with hn|hn
   ·exact absurd hn h1
   ·exact hn
  rw [show fg m l n=19 by unfold fg;rw [if_pos (by omega),if_pos h2]]
  obtain⟨k,x,rfl,hk,hx⟩:=hR.get h2
  have hc:=eP hT k hk
  have c0:=(hT.at_ k x hx).c0
  rw [hR.there hx,dT h2] at c0
  clear hT hR hn h1 h2 hx
  go_enter func253,ntmps253
  go_wp2_with (first|(go_at_call 248;refine hc.mono ?_;rintro e w1 ⟨rfl,rfl⟩))
  go_ret
  exact⟨rfl,rfl⟩
def Hj (w:World)(g gb m:Nat)(c:Int)(l:Fo)(e:Ending)(w':World):Prop:=e=.returned (.int .i64 c)/\Ki w' g gb m l/\ae (·=gb) w w'
theorem gy {gb:Nat}{l:Fo}(h:Ki w g gb m l)(n:Int) :
  Calls prog 253 #[.pointer (some ⟨g,0,none⟩),.int .i64 n] w (Hj w g gb m (fg m l n) (rU m l n)):=by
 by_cases hn:(0<=n/\n<m)/\n∉ah l
 ·obtain⟨k,rfl⟩:∃k:Nat,n=(k:Int):=⟨n.toNat,by omega⟩
  obtain⟨N,hT,hR⟩:=h
  refine (qA hT hR k (by omega) hn.2).mono ?_
  rintro e w' ⟨rfl,h1,h2⟩
  refine⟨by unfold fg;rw [if_pos hn.1,if_neg hn.2],⟨_,h1,?_⟩,h2⟩
  unfold rU
  rw [if_pos hn]
  exact hR.root (by omega) hn.2
 ·refine (vo h n (by
   by_cases h1:n∈ah l
   ·exact .inr h1
   ·left
    have:¬(0<=n/\n<m):=λh2=>hn ⟨h2,h1⟩
    omega)).mono ?_
  rintro e w' ⟨rfl,rfl⟩
  refine⟨rfl,?_,ae.refl _ _⟩
  unfold rU
  rw [if_neg hn]
  exact h
def mw (m:Nat)(l:Fo)(p n:Int):Int:=if p∈ah l then fg m l n else 20
def l9 (m:Nat)(l:Fo)(p n:Int):Fo:=if p∈ah l/\((0<=n/\n<m)/\n∉ah l) then l++[(n,p)] else l
theorem AF {gb:Nat}{l:Fo}(h:Ki w g gb m l)(p k:Nat)(hp:(p:Int)∈ah l)(hk:k<m)(hn:(k:Int)∉ah l) :
  Calls prog 254 #[.pointer (some ⟨g,0,none⟩),.int .i64 (p:Int),.int .i64 (k:Int)] w (Hj w g gb m 0 (l++[((k:Int),(p:Int))])):=by
 have hh:=aR h (p:Int)
 rw [dT hp] at hh
 obtain⟨N,hT,hR⟩:=h
 have HR:=aa hR
 have hroot:=aa (qA hT hR k hk hn)
 obtain⟨y,hy⟩:=get_some (L:=N.set k ⟨true,-1,-1,-1⟩) (i:=k) (by rw [List.length_set,hT.len];exact hk)
 have HY:=aa hy
 have hy2:y=⟨true,-1,-1,-1⟩:=by
  rcases ay hy with ⟨_,h⟩|⟨h,_⟩
  ·exact h
  ·exact absurd rfl h
 have HY2:=aa hy2
 have HC:Hid (dH ((N.set k ⟨true,-1,-1,-1⟩).set k ⟨y.th,(p:Int),y.fi,y.be⟩) p (ch l p)):=by
  rw [hy2,List.set_set]
  exact hR.Cx hp hn _
 have HP:=aa hp
 have HN:=aa hn
 have hcl:=aa (λi (hi:i<(ch l p).length)=>show nx (ch l p) i≠-1 from by
  rw [eM hi]
  have:=hR.ok.range _ (b_ (List.getElem_mem hi))
  omega)
 have HZ:Hid (cU m (l++[((k:Int),(p:Int))]) (bR ((N.set k ⟨true,-1,-1,-1⟩).set k ⟨y.th,(p:Int),y.fi,y.be⟩) p (ch l p) (ch l p).length (k:Int))):=by
  rw [hy2,List.set_set]
  exact hR.child hk hp hn
 clear hT hR hn hy hy2 hp
 go_enter func254,ntmps254
 go_upto_region 6 with (first|(go_at_call 211;refine hh.mono ?_;rintro e wA ⟨rfl,rfl⟩)|(go_at_call 253;refine hroot.out.mono ?_;rintro e w2 ⟨rfl,hT2,hB2⟩;have HT2:=aa hT2;have HB2:=aa hB2;clear hT2 hB2))
 have hP:=HT2.o.at_ k y HY.o
 have c1:=hP.c1
 have f1:=HT2.o.fr (k*4+1)
 have HT3:=aa (HT2.o.II HY.o (p:Int))
 have hc2:=eP HT2.o k hk
 clear hP
 go_upto_region 7 with (first|(go_at_call 248;refine hc2.mono ?_;rintro e wB ⟨rfl,rfl⟩))
 obtain⟨w3,hw3⟩:∃w3:World,w3=wB.setCell ⟨gb,k*4+1,none⟩ (.int .i64 (p:Int)):=⟨_,rfl⟩
 rw [<-hw3] at HT3 ⊢
 have HB3:Hid (ae (·=gb) wA w3):=by rw [hw3];exact HB2.o.setCell (S:=(·=gb)) (p:=⟨gb,k*4+1,none⟩) (show gb=gb from rfl) _
 have hlk:=mF HT3.o HC.o (-1) (ch l p).length (Nat.le_refl _) (z_ (Nat.le_refl _)) hcl.out
 obtain⟨_,hcell⟩:=dH.cell HT3.o HC.o (i:=(ch l p).length) (Nat.le_refl _)
 have ff:=HT3.o.fr (kh p (ch l p) (ch l p).length*4+mV (ch l p).length)
 have HT4:=aa (HT3.o.Fx HC.o (Nat.le_refl _) (k:Int))
 unfold E3 at hlk
 have HB4:Hid (ae (·=gb) wA (w3.setCell ⟨gb,kh p (ch l p) (ch l p).length*4+mV (ch l p).length,none⟩ (.int .i64 (k:Int)))):=HB3.o.setCell (S:=(·=gb)) (p:=⟨gb,_,none⟩) (show gb=gb from rfl) _
 generalize kh p (ch l p) (ch l p).length*4+mV (ch l p).length=o at *
 clear hw3 f1 c1 hc2 hh
 go_wp2_with (first|(go_at_call 274;refine hlk.mono ?_;rintro e w5 ⟨rfl,rfl⟩))
 go_ret
 exact⟨rfl,⟨_,HT4.o,HZ.o⟩,HB4.o⟩
theorem zf {gb m:Nat}{l:Fo}(h:Ki w g gb m l)(p n:Int)(hn:p∉ah l\/(n<0\/(m:Int)<=n)\/n∈ah l) :
  Calls prog 254 #[.pointer (some ⟨g,0,none⟩),.int .i64 p,.int .i64 n] w λe w'=>e=.returned (.int .i64 (mw m l p n))/\w'=w:=by
 have hh:=aR h p
 by_cases hp:p∈ah l
 ·rw [dT hp] at hh
  unfold mw
  rw [if_pos hp]
  have hn2:(n<0\/(m:Int)<=n)\/n∈ah l:=by
   rcases hn with hn|hn
   ·exact absurd hp hn
   ·exact hn
  have hr:=vo h n hn2
  have hE:fg m l n=19\/fg m l n=20:=by
   unfold fg
   split
   ·split
    ·exact .inl rfl
    ·next h1 h2=>rcases hn2 with h3|h3;omega;exact absurd h3 h2
   ·exact .inr rfl
  clear h hn hp hn2
  rcases hE with hE|hE
  ·rw [hE] at hr ⊢
   go_enter func254,ntmps254
   go_wp2_with (first|(go_at_call 211;refine hh.mono ?_;rintro e w1 ⟨rfl,rfl⟩)|(go_at_call 253;refine hr.mono ?_;rintro e w1 ⟨rfl,rfl⟩))
   go_ret
   exact⟨rfl,rfl⟩
  ·rw [hE] at hr ⊢
   go_enter func254,ntmps254
   go_wp2_with (first|(go_at_call 211;refine hh.mono ?_;rintro e w1 ⟨rfl,rfl⟩)|(go_at_call 253;refine hr.mono ?_;rintro e w1 ⟨rfl,rfl⟩))
   go_ret
   exact⟨rfl,rfl⟩
 ·rw [dF hp] at hh
  unfold mw
  rw [if_neg hp]
  clear h hn hp
  go_enter func254,ntmps254
  go_wp2_with (first|(go_at_call 211;refine hh.mono ?_;rintro e w1 ⟨rfl,rfl⟩))
  go_ret
  exact⟨rfl,rfl⟩
theorem wz {gb:Nat}{l:Fo}(h:Ki w g gb m l)(p n:Int) :
  Calls prog 254 #[.pointer (some ⟨g,0,none⟩),.int .i64 p,.int .i64 n] w (Hj w g gb m (mw m l p n) (l9 m l p n)):=by
 by_cases hn:p∈ah l/\((0<=n/\n<m)/\n∉ah l)
 ·have hp2:=h.ok.range p hn.1
  obtain⟨k,rfl⟩:∃k:Nat,n=(k:Int):=⟨n.toNat,by omega⟩
  obtain⟨p,rfl⟩:∃k:Nat,p=(k:Int):=⟨p.toNat,by omega⟩
  unfold mw l9
  rw [if_pos hn,if_pos hn.1]
  rw [show fg m l (k:Int)=0 by unfold fg;rw [if_pos hn.2.1,if_neg hn.2.2]]
  exact AF h p k hn.1 (by omega) hn.2.2
 ·refine (zf h p n (by
   by_cases h0:p∈ah l
   ·right
    by_cases h1:n∈ah l
    ·exact .inr h1
    ·left
     have:¬(0<=n/\n<m):=λh2=>hn ⟨h0,h2,h1⟩
     omega
   ·exact .inl h0)).mono ?_
  rintro e w' ⟨rfl,rfl⟩
  refine⟨rfl,?_,ae.refl _ _⟩
  unfold l9
  rw [if_neg hn]
  exact h
def tK (l:Fo)(n:Int):Int:=if n∈ah l then (if ch l n=[] then 0 else 19) else 20
def Bo (l:Fo)(n:Int):Fo:=if n∈ah l/\ch l n=[] then cut l n else l
theorem Gy {gb:Nat}{l:Fo}(h:Ki w g gb m l)(n:Int)(hn:n∉ah l\/ch l n≠[]) :
  Calls prog 262 #[.pointer (some ⟨g,0,none⟩),.int .i64 n] w λe w'=>e=.returned (.int .i64 (tK l n))/\w'=w:=by
 have hh:=aR h n
 by_cases h1:n∈ah l
 ·have h2:ch l n≠[]:=by
   rcases hn with hn|hn
   ·exact absurd h1 hn
   ·exact hn
  rw [show tK l n=19 by unfold tK;rw [if_pos h1,if_neg h2]]
  rw [dT h1] at hh
  obtain⟨N,hT,hR⟩:=h
  obtain⟨k,x,rfl,hk,hx⟩:=hR.get h1
  have hc:=eP hT k hk
  have c2:=(hT.at_ k x hx).c2
  have hf:=hR.fi k x hx h1
  have hpos:0<(ch l k).length:=List.length_pos_iff.2 h2
  rw [eM hpos] at hf
  have hr:=hR.ok.range _ (b_ (List.getElem_mem hpos))
  rw [<-hf] at hr
  have hne:(x.fi==-1)=false:=by simp;omega
  clear hT hR hn h1 h2 hx hpos hf
  go_enter func262,ntmps262
  go_wp2_with (first|(go_at_call 211;refine hh.mono ?_;rintro e w1 ⟨rfl,rfl⟩)|(go_at_call 248;refine hc.mono ?_;rintro e w1 ⟨rfl,rfl⟩))
  go_ret
  exact⟨rfl,rfl⟩
 ·rw [dF h1] at hh
  rw [show tK l n=20 by unfold tK;rw [if_neg h1]]
  clear h hn h1
  go_enter func262,ntmps262
  go_wp2_with (first|(go_at_call 211;refine hh.mono ?_;rintro e w1 ⟨rfl,rfl⟩))
  go_ret
  exact⟨rfl,rfl⟩
theorem BS {gb:Nat}{l:Fo}(h:Ki w g gb m l)(k:Nat)(hn:((k:Int),-1)∈l)(hc:ch l k=[]) :
  Calls prog 262 #[.pointer (some ⟨g,0,none⟩),.int .i64 (k:Int)] w (Hj w g gb m 0 (cut l k)):=by
 have h1:=cE.2 ⟨_,hn⟩
 have hh:=aR h (k:Int)
 rw [dT h1] at hh
 obtain⟨N,hT,hR⟩:=h
 obtain⟨k',x,hk',hk,hx⟩:=hR.get h1
 obtain rfl:k=k':=by omega
 have ha:=eP hT k hk
 have hP:=hT.at_ k x hx
 have c0:=hP.c0
 have c1:=hP.c1
 have c2:=hP.c2
 have c3:=hP.c3
 rw [hR.fi k x hx h1,hc] at c2
 rw [(hR.yg k x _ hx hn).2] at c1
 have c2':w.cell? ⟨gb,k*4+2,none⟩=some (.int .i64 (-1)):=c2
 have f0:=hT.fr (k*4)
 have f1:=hT.fr (k*4+1)
 have f2:=hT.fr (k*4+2)
 have f3:=hT.fr (k*4+3)
 have HT:=aa (hT.set hx yr)
 have HB:Hid (ae (·=gb) w (iN w gb (k*4) yr)):=jz (S:=(·=gb)) (ae.refl _ _) (b:=gb) (by rfl) _ _
 unfold iN at HT HB
 simp only [yr] at HT HB
 have HR:=aa (hR.EO hn hc)
 clear hT hR hn hP hx h1 c2 hk' hc
 go_enter func262,ntmps262
 go_wp2_with (first|(go_at_call 211;refine hh.mono ?_;rintro e w1 ⟨rfl,rfl⟩)|(go_at_call 248;refine ha.mono ?_;rintro e w1 ⟨rfl,rfl⟩))
 go_ret
 exact⟨rfl,⟨_,HT.o,HR.o⟩,HB.o⟩
theorem wJ {gb:Nat}{l:Fo}(h:Ki w g gb m l)(k p:Nat)(hn:((k:Int),(p:Int))∈l)(hc:ch l k=[]) :
  Calls prog 262 #[.pointer (some ⟨g,0,none⟩),.int .i64 (k:Int)] w (Hj w g gb m 0 (cut l k)):=by
 have h1:=cE.2 ⟨_,hn⟩
 have hh:=aR h (k:Int)
 rw [dT h1] at hh
 obtain⟨N,hT,hR⟩:=h
 obtain⟨k',x,hk',hk,hx⟩:=hR.get h1
 obtain rfl:k=k':=by omega
 have hp:(p:Int)∈ah l:=by
  rcases hR.ok.up hn with h|h
  ·omega
  ·exact h
 obtain⟨i,hi⟩:=List.getElem?_of_mem (bl.2 hn)
 have hil:=(gS.1 hi).1
 have ha:=eP hT k hk
 have hP:=hT.at_ k x hx
 have c1:=hP.c1
 have c2:=hP.c2
 have c3:=hP.c3
 rw [hR.fi k x hx h1,hc] at c2
 rw [(hR.yg k x _ hx hn).2] at c1
 rw [hR.be p (by omega) i k x hi hx] at c3
 have c2':w.cell? ⟨gb,k*4+2,none⟩=some (.int .i64 (-1)):=c2
 have hC:=hR.chain hp
 have hlk:=aa (λ(W:World) (hW:Below w.heap.size w W)=>mF (hT.later hW) hC (k:Int) i (by omega) (by rw [nx,hi];rfl) (λj hj e=>by
  have:(ch l p)[j]?=some (k:Int):=by
   rw [eM (by omega)] at e
   rw [<-e]
   exact gE (by omega)
  have:=gl (hR.ok.kQ p) this hi
  omega))
 obtain⟨_,hcell⟩:=dH.cell hT hC (i:=i) (by omega)
 have ff:=hT.fr (kh p (ch l p) i*4+mV i)
 have hT2:=hT.Fx hC (Nat.le_of_lt hil) (nx (ch l p) (i+1))
 unfold E3 at hlk
 have hB2:ae (·=gb) w (w.setCell ⟨gb,kh p (ch l p) i*4+mV i,none⟩ (.int .i64 (nx (ch l p) (i+1)))):=(ae.refl (·=gb) w).setCell (p:=⟨gb,_,none⟩) (show gb=gb from rfl) _
 have HR:=aa (hR.cut hi hp hc)
 have hl2:=hT2.len
 generalize bR N p (ch l p) i (nx (ch l p) (i+1))=N2 at *
 generalize kh p (ch l p) i*4+mV i=o at *
 generalize nx (ch l p) (i+1)=v at *
 have HT2:=aa hT2
 have HB2:=aa hB2
 clear hT hR hn hP hx h1 c2 hk' hc hC hi hil hp hT2 hB2
 go_enter func262,ntmps262
 go_upto_region 7 with (first|(go_at_call 211;refine hh.mono ?_;rintro e w1 ⟨rfl,rfl⟩)|(go_at_call 248;refine ha.mono ?_;rintro e w1 ⟨rfl,rfl⟩))
 go_cut [] (λW=>Tm W g gb m N2/\ae (·=gb) w1 W)
 case first =>
  go_region_with (first|(go_at_call 274;refine (hlk.out _ (by first|exact Below.refl _ _|exact (Below.refl _ _).drew|exact below_drewN (Below.refl _ _) _)).mono ?_;rintro e w3 ⟨rfl,rfl⟩))
  all_goals (go_wp2_with fail)
  all_goals go_meet
  all_goals exact⟨HT2.o.later (Below.refl _ _).drew,HB2.o.call (Below.refl _ _).drew⟩
 case rest =>
  obtain⟨hT3,hB3⟩:=hcut
  obtain⟨y,hy⟩:=get_some (L:=N2) (i:=k) (by rw [hl2];exact hk)
  have hP:=hT3.at_ k y hy
  have d0:=hP.c0
  have d1:=hP.c1
  have d2:=hP.c2
  have d3:=hP.c3
  have f0:=hT3.fr (k*4)
  have f1:=hT3.fr (k*4+1)
  have f2:=hT3.fr (k*4+2)
  have f3:=hT3.fr (k*4+3)
  have HT:=aa (hT3.set hy yr)
  have HB:Hid (ae (·=gb) w1 (iN wc gb (k*4) yr)):=jz (S:=(·=gb)) hB3 (b:=gb) (by rfl) _ _
  unfold iN at HT HB
  simp only [yr] at HT HB
  clear hT3 hB3 hP hy
  go_wp2
  go_ret
  exact⟨rfl,⟨_,HT.o,HR.o⟩,HB.o⟩
theorem kR {gb:Nat}{l:Fo}(h:Ki w g gb m l)(n:Int) :
  Calls prog 262 #[.pointer (some ⟨g,0,none⟩),.int .i64 n] w (Hj w g gb m (tK l n) (Bo l n)):=by
 by_cases hn:n∈ah l/\ch l n=[]
 ·unfold tK Bo
  rw [if_pos hn,if_pos hn.1,if_pos hn.2]
  have hr:=h.ok.range n hn.1
  obtain⟨k,rfl⟩:∃k:Nat,n=(k:Int):=⟨n.toNat,by omega⟩
  obtain⟨p,hp⟩:=cE.1 hn.1
  rcases h.ok.up hp with rfl|h2
  ·exact BS h k hp hn.2
  ·have hr2:=h.ok.range p h2
   obtain⟨p,rfl⟩:∃k:Nat,p=(k:Int):=⟨p.toNat,by omega⟩
   exact wJ h k p hp hn.2
 ·refine (Gy h n (by
   by_cases h0:n∈ah l
   ·exact .inr (λh1=>hn ⟨h0,h1⟩)
   ·exact .inl h0)).mono ?_
  rintro e w' ⟨rfl,rfl⟩
  refine⟨rfl,?_,ae.refl _ _⟩
  unfold Bo
  rw [if_neg hn]
  exact h
theorem Dp:(prog.info? 336).map (λi=>(i.zero,i.size,i.bytes))=some (some (.agg #[.bool false,.int .i64 0,.int .i64 0,.int .i64 0]),4,32):=by kernel_rfl
theorem eg (w:World)(n:Nat)(hn:n<=1024) :
  ∃w',(Instr.makeSlice 234 (.int .i64 (n:Int)) (.int .i64 (n:Int))).run prog w=.ok (.slice (some ⟨w.heap.size,0,none⟩) n n) w'/\(∀(i:Nat) (p:Nd),(List.replicate n yr)[i]?=some p->Pn w' w.heap.size (i*4) p)/\(∀j,w'.frozen? ⟨w.heap.size,j,none⟩=false)/\w.heap.size<w'.heap.size/\Below w.heap.size w w':=by
 obtain⟨i,hi,hz0,hz1,hz2⟩:=info_parts Dp
 obtain⟨w',hr,ho,hg⟩:=run_make_full (P:=prog) w w.heap.size 234 336 i _ 4 underlying234 hi hz0 hz1 .i64 .i64 n (by rw [hz2];omega) (by unfold maxLen;omega) (Nat.le_refl _)
 have hcell:∀j c u,j<n->c<4->(#[.bool false,.int .i64 0,.int .i64 0,.int .i64 0]:Array Value)[c]! = u->w'.cell? ⟨w.heap.size,j*4+c,none⟩=some u:=by
  intro j c u hj hc hu
  have hm:(j*4+c)%4=c:=by omega
  have:=ho.cells (g:=w.heap.size) rfl (j*4+c) u (by
   rw [Array.getElem?_toList]
   simp only [madeCells,Value.cells,Array.getElem?_map,Array.getElem?_range]
   rw [if_pos (by omega)]
   simp only [Option.map_some,Option.some.injEq,Array.size,List.length,hm]
   exact hu)
  rw [nj] at this
  exact this
 refine⟨w',hr,λj p hp=>?_,λj=>?_,?_,(Below.refl _ _).grown hg (Nat.le_refl _) (λk hk=>by cases hk)⟩
 ·rw [List.getElem?_replicate] at hp
  split at hp
  ·next hj =>
   have:=(Option.some.inj hp).symm
   subst this
   exact⟨hcell j 0 _ hj (by omega) rfl,hcell j 1 _ hj (by omega) rfl,hcell j 2 _ hj (by omega) rfl,hcell j 3 _ hj (by omega) rfl⟩
  ·cases hp
 ·rcases ho.2 with ⟨h0,_⟩|⟨g,c,cur,hv,_,hh,hc,_⟩
  ·simp at h0
  ·simp only [Value.slice.injEq,Option.some.injEq,Addr.mk.injEq] at hv
   obtain⟨⟨rfl,_⟩,_,rfl⟩:=hv
   simp [World.frozen?,hh]
 ·exact (aZ ho _ rfl).2
def BH (w:World)(m:Nat)(e:Ending)(w':World):Prop :=
 ∃g gb:Nat,e=.returned (.tuple #[.pointer (some ⟨g,0,none⟩),.int .i64 0])/\Ki w' g gb m []/\w.heap.size<=g/\w.heap.size<=gb/\Below w.heap.size w w'
theorem bE (w:World)(m:Nat)(h1:m<=1024):Calls prog 86 #[.int .i64 (m:Int)] w (BH w m):=by
 have hk1:¬(m:Int)<0:=by omega
 have hk2:¬(1024:Int)<(m:Int):=by omega
 obtain⟨w2,hr,hA,hF,hsz,hb⟩:=eg w m h1
 have HA:=aa hA
 have HFr:=aa hF
 have HB:=aa hb
 clear hA hF hb
 go_enter func86,ntmps86
 go_wp2
 refine bodyPost_ret (v:=.tuple #[.pointer (some ⟨w2.heap.size,0,none⟩),.int .i64 0]) (by simp [results,results86,go_sem]) rfl ⟨w2.heap.size,w.heap.size,rfl,?_,HB.o.size,Nat.le_refl _,HB.o.alloc HB.o.size _⟩
 have hsh:ae (λ_=>False) w2 (w2.alloc (Obj.cells #[.slice (some ⟨w.heap.size,0,none⟩) m m] 236)):=ae.of (ab _ _)
 refine⟨List.replicate m yr,⟨by simp [go_sem],λj=>?_,λi p hp=>(HA.o i p hp).but hsh (λh=>h),by omega,by simp;omega,by simp,h1⟩,cU.init m⟩
 rw [World.frozen?_of_block (w:=w2) (hsh.block w.heap.size hsz (λh=>h))]
 exact HFr.o j
end Go.Proofs.YtfmhdimaijimlaaGreatDoor
namespace Go.Proofs.YtfmhdimaijimlaaGreatDoor.H
open Go.RowKit
theorem lf (h v:Nat)(hh:h<ak)(hv:v<ak) :
  bits .xor .u64 (IntKind.u64.wrap (bits .xor .u64 (h:Int) (v:Int)*11400714819323198485)) (IntKind.u64.wrap (bits .xor .u64 (h:Int) (v:Int)*11400714819323198485) / 536870912)=(ck h v:Int):=by
 have e1:IntKind.u64.wrap (bits .xor .u64 (h:Int) (v:Int)*11400714819323198485)=(jH (h ^^^ v):Int):=by
  rw [u64_xor_nat h v hh hv,IntKind.wrap_u64]
  unfold jH KF ak
  omega
 have e2:((jH (h ^^^ v):Nat):Int) / 536870912=((jH (h ^^^ v) / 2 ^ 29:Nat):Int):=by omega
 rw [e1,e2,u64_xor_nat _ _ (fy _) (Nat.lt_of_le_of_lt (Nat.div_le_self _ _) (fy _))]
 rfl
theorem lR (h v:Nat)(w:World)(hh:h<ak)(hv:v<ak) :
  Calls prog 284 #[.int .u64 (h:Int),.int .u64 (v:Int)] w λe w'=>e=.returned (.int .u64 (ck h v:Int))/\w'=w:=by
 have HS:Hid _:=lf h v hh hv
 go_enter func284,ntmps284
 go_wp2
 go_ret
 exact⟨aL HS.o,rfl⟩
theorem iP (h n:Nat)(hh:h<ak)(hn:n<=63) :
  bits .and .u64 (h:Int) (IntKind.u64.wrap (IntKind.u64.wrap (2 ^ n) - 1))=((h%2 ^ n:Nat):Int):=by
 have h2:(2:Nat) ^ n<=2 ^ 63:=Nat.pow_le_pow_right (by omega) hn
 have hp:0<(2:Nat) ^ n:=Nat.two_pow_pos n
 have e1:((2:Int) ^ n)=((2 ^ n:Nat):Int):=by simp
 have e2:IntKind.u64.wrap (IntKind.u64.wrap (2 ^ n) - 1)=((2 ^ n - 1:Nat):Int):=by
  rw [e1,IntKind.wrap_u64,IntKind.wrap_u64]
  omega
 rw [e2,u64_and_nat _ _ hh (by omega),Nat.and_two_pow_sub_one_eq_mod]
theorem jS {h:Nat}{k:Int}(h1:k<=0):cD h k=0:=by unfold cD;rw [if_pos h1]
theorem lq {h:Nat}{k:Int}(h1:64<=k):cD h k=h:=by unfold cD;rw [if_neg (by omega),if_pos h1]
theorem j2 {h:Nat}{k:Int}(h1:¬k<=0)(h2:¬64<=k):cD h k=h%2 ^ k.toNat:=by unfold cD;rw [if_neg h1,if_neg h2]
theorem dg (h:Nat)(k:Int)(w:World)(hh:h<ak) :
  Calls prog 285 #[.int .u64 (h:Int),.int .i64 k] w λe w'=>e=.returned (.int .u64 (cD h k:Int))/\w'=w:=by
 by_cases h1:k<=0
 ·rw [jS h1]
  go_enter func285,ntmps285
  go_wp2
  go_ret
  exact⟨rfl,rfl⟩
 ·by_cases h2:64<=k
  ·rw [lq h2]
   go_enter func285,ntmps285
   go_wp2
   go_ret
   exact⟨rfl,rfl⟩
  ·rw [j2 h1 h2]
   have HL:Hid _:=iP h k.toNat hh (by omega)
   go_enter func285,ntmps285
   go_wp2
   go_ret
   exact⟨aL HL.o,rfl⟩
def ez (o:Int):Nat:=(o%18446744073709551616).toNat
theorem oV (o:Int):ez o<ak:=by unfold ez ak;omega
theorem l_ (o:Int):IntKind.u64.wrap o=(ez o:Int):=by rw [IntKind.wrap_u64];unfold ez;omega
def oK (W:World)(x1 x2 x3:Nat)(s t:Value)(w':World):Prop :=
 w'=W/\((t=.int .i64 0/\s=.int .u64 5903417616801668165)\/(t=.int .i64 1/\s=.int .u64 (x1:Int))\/(t=.int .i64 2/\s=.int .u64 (x2:Int))\/(t=.int .i64 3/\s=.int .u64 (x3:Int)))
theorem fA {y x:Int}{h v:Nat}(w:World)(r:Nat)(hr:r=ck h v)(hy:y=(h:Int))(hx:x=(v:Int))(hh:h<ak)(hv:v<ak) :
  Calls prog 284 #[.int .u64 y,.int .u64 x] w λe w'=>e=.returned (.int .u64 (r:Int))/\w'=w:=by
 subst hy hx hr;exact lR h v w hh hv
theorem j7:(5903417616801668165:Int)=((5903417616801668165:Nat):Int):=rfl
theorem k7:(5903417616801668165:Nat)<ak:=by decide
theorem j3 (o:Int)(n a b x1 x2 x3:Nat)(k:Int)(w:World)(ha:a<ak)(hb:b<ak)(hn:n<ak)
  (h1:x1<ak) (h2:x2<ak) (h3:x3<ak) (ho:Hid (IntKind.u64.wrap o=(n:Int))) (e1:Hid (x1=ck 5903417616801668165 n)) (e2:Hid (x2=ck x1 a)) (e3:Hid (x3=ck x2 b)) :
  Calls prog 282 #[.int .i64 o,.agg #[.int .u64 (a:Int),.int .u64 (b:Int)],.int .i64 k] w λe w'=>e=.returned (.int .u64 (cD x3 k:Int))/\Below w.heap.size w w':=by
 go_enter func282,ntmps282
 go_wp2
 go_step3
 go_wp2
 go_step3
 go_wp2
 go_loopw [7,8] (oK (w.alloc (Obj.cells #[.int .u64 (a:Int),.int .u64 (b:Int)] 31)) x1 x2 x3) (λ_ t _=>(3 - intOf t).toNat)
 case atStart=>exact⟨rfl,.inl ⟨rfl,rfl⟩⟩
 case round =>
  obtain⟨rfl,⟨rfl,rfl⟩|⟨rfl,rfl⟩|⟨rfl,rfl⟩|⟨rfl,rfl⟩⟩:=hrel
  ·go_wp2_with (first|(go_at_call 284;refine (fA _ x1 e1.out j7 ho.out k7 hn).mono ?_;rintro e w1 ⟨rfl,rfl⟩))
   go_roundw
   case rel=>exact⟨rfl,.inr (.inl ⟨rfl,rfl⟩)⟩
   case measure=>simp [intOf]
  ·go_wp2_with (first|(go_at_call 284;refine (fA _ x2 e2.out rfl rfl h1 ha).mono ?_;rintro e w1 ⟨rfl,rfl⟩))
   go_roundw
   case rel=>exact⟨rfl,.inr (.inr (.inl ⟨rfl,rfl⟩))⟩
   case measure=>simp [intOf]
  ·go_wp2_with (first|(go_at_call 284;refine (fA _ x3 e3.out rfl rfl h2 hb).mono ?_;rintro e w1 ⟨rfl,rfl⟩))
   go_roundw
   case rel=>exact⟨rfl,.inr (.inr (.inr ⟨rfl,rfl⟩))⟩
   case measure=>simp [intOf]
  ·go_wp2_with (first|(go_at_call 285;refine (dg _ _ _ h3).mono ?_;rintro e w1 ⟨rfl,rfl⟩))
   try rw [Exit.noGoto_ret]
   go_ret
   exact⟨rfl,ab _ _⟩
theorem mQ (o:Int)(a b:Nat)(k:Int)(w:World)(ha:a<ak)(hb:b<ak) :
  Calls prog 282 #[.int .i64 o,.agg #[.int .u64 (a:Int),.int .u64 (b:Int)],.int .i64 k] w λe w'=>e=.returned (.int .u64 (cD (ek (ez o) a b) k:Int))/\Below w.heap.size w w' :=
 j3 o (ez o) a b _ _ (ek (ez o) a b) k w ha hb (oV o) (eB _ _) (eB _ _) (gP _ _ _) (l_ o) rfl rfl rfl
end Go.Proofs.YtfmhdimaijimlaaGreatDoor.H
namespace Go.Proofs.YtfmhdimaijimlaaGreatDoor.H.I
open Go.RowKit
abbrev Q:=Pl Int
structure Pa (w:World)(b o:Nat)(p:Q):Prop where
 c0:w.cell? ⟨b,o,none⟩=some (.int .i64 p.k)
 c1:w.cell? ⟨b,o+1,none⟩=some (.int .i64 p.c.1)
 c2:w.cell? ⟨b,o+2,none⟩=some (.int .u64 (p.c.2.1:Int))
 c3:w.cell? ⟨b,o+3,none⟩=some (.int .u64 (p.c.2.2:Int))
 c4:w.cell? ⟨b,o+4,none⟩=some (.int .i64 p.v)
theorem Pa.but {S:Nat->Prop}{o:Nat}{p:Q}(hb:ae S w w')(h:Pa w b o p)(hn:¬S b):Pa w' b o p :=
 ⟨aC hb h.c0 hn,aC hb h.c1 hn,aC hb h.c2 hn,aC hb h.c3 hn,aC hb h.c4 hn⟩
structure Tm (w:World)(g gb:Nat)(kn mo:Nat)(li sp:Int)(N:Nat)(L:List Q):Prop where
 a0:w.cell? ⟨g,0,none⟩=some (.slice (some ⟨gb,0,none⟩) N N)
 a1:w.cell? ⟨g,1,none⟩=some (.int .i64 (kn:Int))
 a2:w.cell? ⟨g,2,none⟩=some (.int .i64 (mo:Int))
 a3:aq w ⟨g,3,none⟩ (.int .i64 li)
 a4:aq w ⟨g,4,none⟩ (.int .i64 sp)
 fr:∀j,w.frozen? ⟨gb,j,none⟩=false
 at_:∀(i:Nat) (p:Q),L[i]?=some p->Pa w gb (i*5) p
 ne:g≠gb
 len:L.length=N
 pos:0<N
 eK:N<=1024
 ok:∀(i:Nat) (p:Q),L[i]?=some p->p.c.2.1<ak/\p.c.2.2<ak
theorem Tm.lt {gb mo:Nat}{li sp:Int}{N:Nat}{L:List Q}(h:Tm w g gb kn mo li sp N L):g<w.heap.size:=World.block_lt_of_cell? _ _ h.a1
theorem Tm.oN {gb mo:Nat}{li sp:Int}{N:Nat}{L:List Q}(h:Tm w g gb kn mo li sp N L):gb<w.heap.size:=by
 obtain⟨p,hp⟩:=get_some (L:=L) (i:=0) (by rw [h.len];exact h.pos)
 exact World.block_lt_of_cell? _ _ (h.at_ 0 p hp).c0
theorem Tm.but {S:Nat->Prop}{gb mo:Nat}{li sp:Int}{N:Nat}{L:List Q}(hb:ae S w w')(h:Tm w g gb kn mo li sp N L)(h1:¬S g)(h2:¬S gb):Tm w' g gb kn mo li sp N L :=
 ⟨aC hb h.a0 h1,aC hb h.a1 h1,aC hb h.a2 h1,h.a3.but hb h1,h.a4.but hb h1,λj=>by rw [World.frozen?_of_block (w:=w) (hb.block gb h.oN h2)];exact h.fr j,λi p hp=>(h.at_ i p hp).but hb h2,h.ne,h.len,h.pos,h.eK,h.ok⟩
theorem Tm.later {gb mo:Nat}{li sp:Int}{N:Nat}{L:List Q}(hb:Below w.heap.size w w')(h:Tm w g gb kn mo li sp N L):Tm w' g gb kn mo li sp N L:=h.but (S:=λ_=>False) (ae.of hb) (λh=>h) (λh=>h)
theorem Tm.alloc {gb mo:Nat}{li sp:Int}{N:Nat}{L:List Q}(h:Tm w g gb kn mo li sp N L)(o:Obj):Tm (w.alloc o) g gb kn mo li sp N L:=h.later (ab _ _)
def hm (kn N:Nat)(c:Cp):Nat:=cD (ek (ez c.1) c.2.1 c.2.2) (kn:Int)%N
theorem Fu {kn N:Nat}(c:Cp)(h:0<N):hm kn N c<N:=Nat.mod_lt _ h
theorem mh (x N:Nat)(hx:x<ak)(h:0<N)(hN:N<=1024):IntKind.i64.wrap ((x:Int)%(N:Int))=((x%N:Nat):Int):=by
 have h2:x%N<N:=Nat.mod_lt _ h
 rw [<-Int.natCast_emod,IntKind.wrap_i64]
 omega
theorem fs {gb mo:Nat}{li sp:Int}{N:Nat}{L:List Q}(h:Tm w g gb kn mo li sp N L)(at_:Nat)(ha:at_<N) :
  Calls prog 280 #[.pointer (some ⟨g,0,none⟩),.int .i64 (at_:Int)] w λe w'=>e=.returned (.int .i64 (((at_+1)%N:Nat):Int))/\w'=w:=by
 have x:=h.a0
 have hp:=h.pos
 have hb:=h.eK
 have HE:Hid (((at_+1)%N:Nat)=((((at_+1:Nat):Int).tmod (N:Int)))):=by unfold Hid;rw [Int.tmod_eq_emod_of_nonneg (by omega)];rfl
 clear h
 go_enter func280,ntmps280
 go_wp2
 go_ret
 exact⟨aL (by rw [HE.o];rfl),rfl⟩
theorem rW {gb mo:Nat}{li:Int}{sp:Nat}{N:Nat}{L:List Q}(h:Tm w g gb kn mo li sp N L)(hs:sp<=1024) :
  Calls prog 271 #[.pointer (some ⟨g,0,none⟩)] w λe w'=>e=.returned (.bool (decide (4*sp<N)))/\Below w.heap.size w w':=by
 have x:=h.a0
 have y:=h.a4.1
 have hb:=h.eK
 clear h
 go_enter func271,ntmps271
 go_wp2
 go_quiet (fail)
 go_wp2
 go_ret
 exact⟨cW (by simp;omega),below_drewN (Below.refl _ _) _⟩
theorem n_ {gb mo:Nat}{li sp:Int}{N:Nat}{L:List Q}(h:Tm w g gb kn mo li sp N L)(o:Int)(hi lo:Nat)(h1:hi<ak)(h2:lo<ak) :
  Calls prog 279 #[.pointer (some ⟨g,0,none⟩),.agg #[.int .i64 o,.int .u64 (hi:Int),.int .u64 (lo:Int)]] w λe w'=>e=.returned (.int .i64 (hm kn N (o,hi,lo):Int))/\Below w.heap.size w w':=by
 obtain⟨w1,hw1⟩:∃w1,w1=w.alloc (Obj.cells #[.int .i64 o,.int .u64 (hi:Int),.int .u64 (lo:Int)] 38):=⟨_,rfl⟩
 have hB1:Below w.heap.size w w1:=by rw [hw1];exact ab _ _
 have hh:=h.later hB1
 have hC:Hid (∀U:World,Below w1.heap.size w1 U->(U.cell? ⟨w.heap.size,0,none⟩=some (.int .i64 o)/\U.cell? ⟨w.heap.size,1,none⟩=some (.int .u64 (hi:Int))/\U.cell? ⟨w.heap.size,2,none⟩=some (.int .u64 (lo:Int))/\U.cell? ⟨g,0,none⟩=some (.slice (some ⟨gb,0,none⟩) N N)/\U.cell? ⟨g,1,none⟩=some (.int .i64 (kn:Int)))/\Below w1.heap.size w1 U):=λU hU =>
  ⟨⟨cell_later hU (by rw [hw1];simp [go_sem]),cell_later hU (by rw [hw1];simp [go_sem]),cell_later hU (by rw [hw1];simp [go_sem]),cell_later hU hh.a0,cell_later hU hh.a1⟩,hU⟩
 have hp:=h.pos
 have hb:=h.eK
 have HX:Hid (cD (ek (ez o) hi lo) (kn:Int)<ak):=pJ _ (gP _ _ _)
 have HM:Hid (hm kn N (o,hi,lo)=cD (ek (ez o) hi lo) (kn:Int)%N):=rfl
 have hH:=λW=>mQ o hi lo (kn:Int) W h1 h2
 generalize cD (ek (ez o) hi lo) (kn:Int)=x at HX HM hH
 have HR:=aa (mh x N HX.o hp hb)
 have hu:IntKind.u64.wrap (N:Int)=(N:Int):=by rw [IntKind.wrap_u64];omega
 have hz:¬N=0:=by omega
 clear h hh
 go_enter func279,ntmps279
 go_wp2
 rw [<-hw1]
 have HB1:=aa hB1
 clear hw1 hB1
 go_region_held3 (λU=>(U.cell? ⟨w.heap.size,0,none⟩=some (.int .i64 o)/\U.cell? ⟨w.heap.size,1,none⟩=some (.int .u64 (hi:Int))/\U.cell? ⟨w.heap.size,2,none⟩=some (.int .u64 (lo:Int))/\U.cell? ⟨g,0,none⟩=some (.slice (some ⟨gb,0,none⟩) N N)/\U.cell? ⟨g,1,none⟩=some (.int .i64 (kn:Int)))/\Below w1.heap.size w1 U) (first|exact hC.out _ (Below.refl _ _).drew|exact hC.out _ hb2.out) (first|(go_at_call 282;refine (hH _).mono ?_;rintro e w2 ⟨rfl,hb2'⟩;have hb2:=aa (al (Below.refl w1.heap.size w1).drew hb2')))
 go_wp2
 go_ret
 exact⟨aL (by rw [HM.o];exact HR.o),al HB1.o (And.right (by assumption))⟩
end Go.Proofs.YtfmhdimaijimlaaGreatDoor.H.I
namespace Go.Proofs.YtfmhdimaijimlaaGreatDoor.H
open Go.RowKit
theorem below_drewN {W:World}(h:Below k w W)(q:Nat):Below k w (W.drewN q):=⟨h.os,h.tape,h.output,h.size,h.block⟩
structure Bx (w:World)(b:Nat)(o:Int)(hi lo:Nat):Prop where
 c0:w.cell? ⟨b,0,none⟩=some (.int .i64 o)
 c1:w.cell? ⟨b,1,none⟩=some (.int .u64 (hi:Int))
 c2:w.cell? ⟨b,2,none⟩=some (.int .u64 (lo:Int))
theorem Bx.new (w:World)(o:Int)(hi lo:Nat):Bx (w.alloc (Obj.cells #[.int .i64 o,.int .u64 (hi:Int),.int .u64 (lo:Int)] 38)) w.heap.size o hi lo :=
 ⟨by simp [go_sem],by simp [go_sem],by simp [go_sem]⟩
theorem Bx.but {S:Nat->Prop}{o:Int}{hi lo:Nat}(hb:ae S w w')(h:Bx w b o hi lo)(hn:¬S b):Bx w' b o hi lo:=⟨aC hb h.c0 hn,aC hb h.c1 hn,aC hb h.c2 hn⟩
theorem Bx.later {o:Int}{hi lo:Nat}(hb:Below w.heap.size w w')(h:Bx w b o hi lo):Bx w' b o hi lo:=h.but (S:=λ_=>False) (ae.of hb) (λh=>h)
def sr (a b c d e f:Int):Bool:=decide (a=d/\b=e/\c=f)
theorem xd (a b c d e f:Int)(w:World):(binOp .eql 38 (.agg #[.int .i64 a,.int .u64 b,.int .u64 c]) (.agg #[.int .i64 d,.int .u64 e,.int .u64 f])).run prog w=.ok (.bool (sr a b c d e f)) w:=by
 unfold sr
 by_cases h1:a=d
 ·subst h1
  by_cases h2:b=e
  ·subst h2
   by_cases h3:c=f
   ·subst h3;simp [go_sem]
   ·simp [go_sem,h3]
  ·simp [go_sem,h2]
 ·simp [go_sem,h1]
end Go.Proofs.YtfmhdimaijimlaaGreatDoor.H
namespace Go.Proofs.YtfmhdimaijimlaaGreatDoor.H.I
open Go.RowKit
def EB (w:World)(h N:Nat)(L:List Q)(o:Int)(hi lo:Nat)(s t:Value)(w':World):Prop :=
 ∃d:Nat,d<=N/\s=.int .i64 (((h+d)%N:Nat):Int)/\t=.int .i64 (d:Int)/\(∀e,e<d->∀p:Q,L[(h+e)%N]?=some p->p.k=1->p.c≠(o,hi,lo))/\Below w.heap.size w w'/\Bx w' w.heap.size o hi lo
theorem q5 {gb mo:Nat}{li sp:Int}{N:Nat}{L:List Q}(h:Tm w g gb kn mo li sp N L)(hw:Way (hm kn N) (·≠0) L)(o:Int)(hi lo:Nat)(h1:hi<ak)(h2:lo<ak) :
  Calls prog 270 #[.pointer (some ⟨g,0,none⟩),.agg #[.int .i64 o,.int .u64 (hi:Int),.int .u64 (lo:Int)]] w λe w'=>((∃(i:Nat) (p:Q),L[i]?=some p/\p.k=1/\p.c=(o,hi,lo)/\e=.returned (.tuple #[.int .i64 (i:Int),.bool true]))\/((∀(i:Nat) (p:Q),L[i]?=some p->p.k=1->p.c≠(o,hi,lo))/\e=.returned (.tuple #[.int .i64 0,.bool false])))/\Below w.heap.size w w':=by
 have HH:=aa h
 have HW:=aa hw
 have hpos:=h.pos
 have hbig:=h.eK
 have hlen:=aa h.len
 have hx0:=(h.alloc (Obj.cells #[.int .i64 o,.int .u64 (hi:Int),.int .u64 (lo:Int)] 38)).a0
 have hf:=λ(W:World) (hW:Tm W g gb kn mo li sp N L)=>n_ hW o hi lo h1 h2
 have hlt:=aa (Fu (kn:=kn) (o,hi,lo) hpos)
 obtain⟨hs,hE'⟩:∃hs,hs=hm kn N (o,hi,lo):=⟨_,rfl⟩
 rw [<-hE'] at hf hlt
 have hE:=aa hE'
 clear hE'
 clear h hw
 go_enter func270,ntmps270
 go_upto_region 3 with (first|(go_at_call 279;refine (hf _ (HH.o.alloc _)).mono ?_;rintro e w2 ⟨rfl,hb2⟩;have HB2:=aa (al (ab _ _) hb2);have X0:=cell_later hb2 hx0;have HX:=aa ((Bx.new w o hi lo).later hb2);clear hb2))
 clear hx0
 go_loopw [6,16] (EB w hs N L o hi lo) (λ_ t _=>N - (intOf t).toNat)
 case atStart=>exact⟨0,Nat.zero_le _,by rw [Nat.add_zero,Nat.mod_eq_of_lt hlt.out],rfl,λe he=>absurd he (Nat.not_lt_zero _),HB2.o,HX.o⟩
 case round =>
  obtain⟨d,hd,rfl,rfl,hno,hB,X⟩:=hrel
  have HNo:=aa hno
  clear hno
  by_cases hlt2:d<N
  ·have hT:=HH.o.later hB
   have hm1:(hs+d)%N<N:=Nat.mod_lt _ hpos
   obtain⟨p,hp⟩:=get_some (L:=L) (i:=(hs+d)%N) (by rw [hlen.out];exact hm1)
   have hP:=hT.at_ _ p hp
   have y0:=hT.a0
   have hnx:=aa (ri hs d N)
   have HP:=aa hp
   clear hp
   obtain⟨c0,c1,c2,c3⟩:=(⟨hP.c0,hP.c1,hP.c2,hP.c3⟩:_/\_/\_/\_)
   obtain⟨b0,b1,b2⟩:=(⟨X.c0,X.c1,X.c2⟩:_/\_/\_)
   have HT:=aa hT
   clear hT hP
   generalize hat:(hs+d)%N=at_ at *
   have hme:p.k=0\/p.k=1\/(p.k≠0/\p.k≠1):=by omega
   rcases hme with hk|hk|⟨hk,hk'⟩
   ·rw [hk] at c0
    go_wp2
    refine bodyPost_ret (v:=.tuple #[.int .i64 0,.bool false]) (by simp [results,results270,go_sem]) rfl ⟨.inr ⟨?_,rfl⟩,hB⟩
    have hq:L[(hm kn N (o,hi,lo)+d)%L.length]?=some p:=by rw [<-hE.out,hlen.out,hat];exact HP.o
    exact HW.o.none (λe he q hq'=>HNo.o e he q (by rw [hE.out];rw [hlen.out] at hq';exact hq')) hq hk
   ·rw [hk] at c0
    by_cases hc:p.c=(o,hi,lo)
    ·have hd1:sr p.c.1 (p.c.2.1:Int) (p.c.2.2:Int) o (hi:Int) (lo:Int)=true:=by rw [hc];simp [sr]
     have heq:=λW=>xd p.c.1 (p.c.2.1:Int) (p.c.2.2:Int) o (hi:Int) (lo:Int) W
     simp only [hd1] at heq
     go_upto_region 7 with fail
     go_quiet (fail)
     go_wp2
     refine bodyPost_ret (v:=.tuple #[.int .i64 (at_:Int),.bool true]) (by simp [results,results270,go_sem]) rfl ⟨.inl ⟨at_,p,HP.o,hk,hc,rfl⟩,?_⟩
     exact below_drewN hB _
    ·have hd1:sr p.c.1 (p.c.2.1:Int) (p.c.2.2:Int) o (hi:Int) (lo:Int)=false:=by
      refine dF λhq=>hc ?_
      obtain⟨q1,q2,q3⟩:=hq
      exact Prod.ext q1 (Prod.ext (Int.ofNat.inj q2) (Int.ofNat.inj q3))
     have heq:=λW=>xd p.c.1 (p.c.2.1:Int) (p.c.2.2:Int) o (hi:Int) (lo:Int) W
     simp only [hd1] at heq
     go_upto_region 7 with fail
     go_quiet (fail)
     go_wp2_with (first|(go_at_call 280;refine (fs (HT.o.later (below_drewN (Below.refl _ _) _)) _ (by assumption)).mono ?_;rintro e w3 ⟨rfl,rfl⟩))
     refine⟨⟨d+1,by omega,by rw [<-hnx.out];simp,by go_num,?_,below_drewN hB _,X.later (below_drewN (Below.refl _ _) _)⟩,by simp [intOf];omega⟩
     intro e he q hq hqk
     rcases Nat.lt_or_ge e d with h3|h3
     ·exact HNo.o e h3 q hq hqk
     ·obtain rfl:e=d:=by omega
      rw [hat,HP.o] at hq
      cases hq
      exact hc
   ·have hn0:(p.k==0)=false:=by simpa using hk
    have hn1:(p.k==1)=false:=by simpa using hk'
    go_upto_region 7 with fail
    go_quiet (fail)
    go_wp2_with (first|(go_at_call 280;refine (fs (HT.o.later (below_drewN (Below.refl _ _) _)) _ (by assumption)).mono ?_;rintro e w3 ⟨rfl,rfl⟩))
    refine⟨⟨d+1,by omega,by rw [<-hnx.out];simp,by go_num,?_,below_drewN hB _,X.later (below_drewN (Below.refl _ _) _)⟩,by simp [intOf];omega⟩
    intro e he q hq hqk
    rcases Nat.lt_or_ge e d with h3|h3
    ·exact HNo.o e h3 q hq hqk
    ·obtain rfl:e=d:=by omega
     rw [hat,HP.o] at hq
     cases hq
     exact absurd hqk hk'
  ·obtain rfl:d=N:=by omega
   go_wp2
   refine bodyPost_ret (v:=.tuple #[.int .i64 0,.bool false]) (by simp [results,results270,go_sem]) rfl ⟨.inr ⟨?_,rfl⟩,hB⟩
   exact HW.o.Hq (λe he q hq'=>HNo.o e (by rw [<-hlen.out];exact he) q (by rw [hE.out];rw [hlen.out] at hq';exact hq'))
end Go.Proofs.YtfmhdimaijimlaaGreatDoor.H.I
