import Derived.Test.YtffmodpgddecnaaGreatDoorZ13
set_option linter.unusedVariables false
set_option linter.unusedSimpArgs false
set_option maxRecDepth 100000
set_option maxHeartbeats 2000000
namespace Go.Proofs.YtffmodpgddecnaaGreatDoor.L
open Go.RowKit H
theorem Dn (v g:Nat)(c:Cp)(m:Int)(w:World) :
  Calls Tryz.prog 371 #[.pointer (some ⟨v,0,none⟩),.iface 164 (.pointer (some ⟨g,0,none⟩)),iu c,.int .i64 m] w λe w'=>e=.returned (.tuple #[])/\Below w.heap.size w w':=by
 obtain⟨o,hi,lo⟩:=c
 have HB:=ab (ae w (Obj.cells #[.int .i64 o,.int .u64 (hi:Int),.int .u64 (lo:Int)] 37))
 have q1:=yu
 have q2:=DR
 go_enter Tryz.func371,Tryz.ntmps371
 go_wp2;exact bodyPost_end (by simp [results,Tryz.results371,go_sem]) rfl ⟨rfl,HB.out⟩
theorem Cu {w:World}{v g cg s n k E:Nat}{T:Nat->List K.Pu}{hi_ mi:Int}(hv:Va w v g cg)(hk:K.Kc w g s n k T E hi_ mi)(c:Cp)(m:Int)(hw:c.2.1<aq/\c.2.2<aq) :
  Calls Tryz.prog 371 #[.pointer (some ⟨v,0,none⟩),.iface 247 (.agg #[.pointer (some ⟨cg,0,none⟩)]),iu c,.int .i64 m] w λe w'=>e=.returned (.tuple #[])/\K.Kc w' g s n k (K.te s n k T c m) E hi_ mi/\ah (λj=>j=g) w w':=by
 obtain⟨o,hi,lo⟩:=c
 obtain⟨w0,hw0⟩:∃w0,w0=w.alloc (Obj.cells #[.int .i64 o,.int .u64 (hi:Int),.int .u64 (lo:Int)] 37):=⟨_,rfl⟩
 have hB0:Below w.heap.size w w0:=by rw [hw0];exact ae _ _
 have HC:Hid (∀U,Below w0.heap.size w0 U->U.cell? ⟨v,0,none⟩=some (.pointer (some ⟨g,0,none⟩))/\U.cell? ⟨w.heap.size,0,none⟩=some (.int .i64 o)/\U.cell? ⟨w.heap.size,1,none⟩=some (.int .u64 (hi:Int))/\U.cell? ⟨w.heap.size,2,none⟩=some (.int .u64 (lo:Int))):=λU hU =>
  ⟨(hv.later (aa hB0 hU)).c0,cell_later hU (by rw [hw0];simp [go_sem]),cell_later hU (by rw [hw0];simp [go_sem]),cell_later hU (by rw [hw0];simp [go_sem])⟩
 have HP:Hid (∀U,Below w0.heap.size w0 U->Calls Tryz.prog 393 #[.pointer (some ⟨g,0,none⟩),.agg #[.int .i64 o,.int .u64 (hi:Int),.int .u64 (lo:Int)],.int .i64 m] U λx w'=>x=.returned (.tuple #[])/\K.Kc w' g s n k (K.te s n k T (o,hi,lo) m) E hi_ mi/\ah (λk=>k=g) U w'):=λU hU=>K.JW (hk.later (aa hB0 hU)) (o,hi,lo) m hw
 have PL:=ab hB0
 have q1:=xH
 have Xy:=ab (hv.later hB0).c0
 have hne:¬v=g:=λe=>by
  have h1:=hv.c0
  rw [e] at h1;obtain⟨_,R,hc,_⟩:=hk
  have h2:=hc.c0
  rw [h1] at h2;cases h2
 have WQ:=ab hne
 have UF:Hid (¬w.heap.size=g):=λe=>by have:=hk.lt;omega
 clear hv hk hB0 hne;go_enter Tryz.func371,Tryz.ntmps371
 go_upto_region 3 with fail
 rw [<-hw0];clear hw0;go_region_held3 (λU=>U.cell? ⟨v,0,none⟩=some (.pointer (some ⟨g,0,none⟩))/\U.cell? ⟨w.heap.size,0,none⟩=some (.int .i64 o)/\U.cell? ⟨w.heap.size,1,none⟩=some (.int .u64 (hi:Int))/\U.cell? ⟨w.heap.size,2,none⟩=some (.int .u64 (lo:Int))) (first|exact P1.out|exact HC.out _ (Below.refl _ _).drew|exact HC.out _ (Below.refl _ _)) (first
  | (go_at_call 393;refine (HP.out _ (Below.refl _ _).drew).mono ?_;rintro e w2 ⟨rfl,hk2,hb2⟩;have Qf:=ab hk2;have PB:=ab ((ah.of (S:=λk=>k=g) (aa PL.out (Below.refl _ _).drew)).trans hb2);have P1:=ab (And.intro (ag hb2 (HC.out _ (Below.refl _ _).drew).1 WQ.out) (And.intro (ag hb2 (HC.out _ (Below.refl _ _).drew).2.1 UF.out) (And.intro (ag hb2 (HC.out _ (Below.refl _ _).drew).2.2.1 UF.out) (ag hb2 (HC.out _ (Below.refl _ _).drew).2.2.2 UF.out))));clear hk2 hb2))
 go_wp2;exact bodyPost_end (by simp [results,Tryz.results371,go_sem]) rfl ⟨rfl,Qf.out,PB.out⟩
structure Hv where
 A:Ad
 kn:Nat
 mo:Nat
 g:Nat
 s:Nat
 n:Nat
 k:Nat
 v:Nat
 d:Nat
 r:Nat
 b:Nat
structure Hv.Ko (H:Hv):Prop where
 g1:¬H.A.jD H.g
 v1:¬H.A.jD H.v
 v2:H.v≠H.g
 d1:¬H.A.jD H.d
 d2:H.d≠H.g
 r1:¬H.A.jD H.r
 r2:H.r≠H.g
 r3:H.r≠H.v
 r4:H.r≠H.d
 b1:¬H.A.jD H.b
 b2:H.b≠H.g
 b3:H.b≠H.v
 b4:H.b≠H.d
structure Vd (w:World)(H:Hv)(X:List Tk)(l:Fo)(T:Nat->List K.Pu):Prop where
 cat:ie w H.A H.kn H.mo X l
 ch:∃E hi mi,K.Kc w H.g H.s H.n H.k T E hi mi
 va:Va w H.v H.g H.A.g
 pO:H.Ko
variable {w w':World}{H:Hv}{X:List Tk}{l:Fo}{T:Nat->List K.Pu}
theorem Vd.but {S:Nat->Prop}(h:Vd w H X l T)(hb:ah S w w')(h1:∀k,H.A.jD k->¬S k)(h2:¬S H.g)(h3:¬S H.v):Vd w' H X l T:=by
 obtain⟨E,hi,mi,hk⟩:=h.ch
 exact⟨h.cat.but hb h1,⟨E,hi,mi,hk.but hb h2⟩,h.va.but hb h3,h.pO⟩
theorem Vd.later (h:Vd w H X l T)(hb:Below w.heap.size w w'):Vd w' H X l T:=h.but (S:=λ_=>False) (ah.of hb) (λ_ _ h=>h) (λh=>h) (λh=>h)
def Vt (w:World)(H:Hv)(X:List Tk)(l:Fo):Prop:=∃T,Vd w H X l T/\Tr X l T
theorem Vt.but {S:Nat->Prop}(h:Vt w H X l)(hb:ah S w w')(h1:∀k,H.A.jD k->¬S k)(h2:¬S H.g)(h3:¬S H.v):Vt w' H X l:=by
 obtain⟨T,h,ht⟩:=h
 exact⟨T,h.but hb h1 h2 h3,ht⟩
theorem Vt.later (h:Vt w H X l)(hb:Below w.heap.size w w'):Vt w' H X l:=h.but (S:=λ_=>False) (ah.of hb) (λ_ _ h=>h) (λh=>h) (λh=>h)
theorem Vt.cat (h:Vt w H X l):ie w H.A H.kn H.mo X l:=by obtain⟨T,h,_⟩:=h;exact h.cat
def Vg (w:World)(H:Hv)(X:List Tk)(l:Fo):Prop:=∃T,Vd w H X l T
theorem Vd.keep (h:Vd w H X l T){T':Nat->List K.Pu}(hb:ah (λk=>k=H.g) w w')(hk:∃E hi mi,K.Kc w' H.g H.s H.n H.k T' E hi mi):Vd w' H X l T' :=
 ⟨h.cat.but hb (λk hk e=>h.pO.g1 (e ▸ hk)),hk,h.va.but hb h.pO.v2,h.pO⟩
end Go.Proofs.YtffmodpgddecnaaGreatDoor.L
namespace Go.Proofs.YtffmodpgddecnaaGreatDoor.L
open Go.RowKit H
theorem Iu (a:Addr)(w:World):(method 598 164 (.pointer (some a)) "Get").run Tryz.prog w=.ok (430,.pointer (some a)) w:=by kernel_rfl
theorem Hi (a:Addr)(w:World):(method 598 247 (.agg #[.pointer (some a)]) "Get").run Tryz.prog w=.ok (433,.agg #[.pointer (some a)]) w:=by kernel_rfl
theorem Kf (a b:Value)(w:World):(Instr.index 250 (.agg #[a,b]) (.int .i64 0)).run Tryz.prog w=.ok a w:=by kernel_rfl
theorem Ku (a b:Value)(w:World):(Instr.index 250 (.agg #[a,b]) (.int .i64 1)).run Tryz.prog w=.ok b w:=by kernel_rfl
variable {w w':World}{H:Hv}{X:List Tk}{l:Fo}{T:Nat->List K.Pu}
def Kk (w:World)(H:Hv)(T:Nat->List K.Pu):Prop:=∃E hi mi,K.Kc w H.g H.s H.n H.k T E hi mi
def Ja (w1:World)(H:Hv)(T:Nat->List K.Pu)(q b:Bool)(t:Value)(w:World):Prop :=
 ∃i:Nat,t=.int .i64 (i:Int)/\i<=2/\(1<=i->q=false)/\(2<=i->b=false)/\Kk w H T/\ah (λk=>k=H.g) w1 w
theorem fD (h:Vt w H X l)(c:Cp)(hw:c.2.1<aq/\c.2.2<aq) :
  Calls Tryz.prog 329 #[.pointer (some ⟨H.v,0,none⟩),iu c] w λe w'=>e=.returned (.tuple #[.int .i64 (dE X l c),.bool (aR X l c)])/\Vt w' H X l/\ah (λk=>k=H.g) w w':=by
 obtain⟨T,h,ht⟩:=h
 obtain⟨o,hi,lo⟩:=c
 obtain⟨w1,hw1⟩:∃w1,w1=w.alloc (Obj.cells #[.int .i64 o,.int .u64 (hi:Int),.int .u64 (lo:Int)] 37):=⟨_,rfl⟩
 have hB1:Below w.heap.size w w1:=by rw [hw1];exact ae _ _
 have hgl:H.g<w.heap.size:=by obtain⟨_,_,_,hk⟩:=h.ch;exact hk.lt
 have h1:=h.later hB1
 have HV:=ab (λ(U:World) (hU:ah (λk=>k=H.g) w1 U)=>h1.va.but hU h.pO.v2)
 have HC:Hid (∀U:World,ah (λk=>k=H.g) w1 U->U.cell? ⟨w.heap.size,0,none⟩=some (.int .i64 o)/\U.cell? ⟨w.heap.size,1,none⟩=some (.int .u64 (hi:Int))/\U.cell? ⟨w.heap.size,2,none⟩=some (.int .u64 (lo:Int))):=λU hU =>
  have hne:¬w.heap.size=H.g:=by omega
  ⟨ag hU (by rw [hw1];simp [go_sem]) hne,ag hU (by rw [hw1];simp [go_sem]) hne,ag hU (by rw [hw1];simp [go_sem]) hne⟩
 have HK:=ab (λ(U:World) (hU:ah (λk=>k=H.g) w1 U) (T':Nat->List K.Pu) (ht':Tr X l T') (hk:Kk U H T')=>(show Vt U H X l from ⟨T',h1.keep hU hk,ht'⟩))
 have SO:=ab (λ(U:World) (hU:ah (λk=>k=H.g) w1 U)=>Bo (h1.cat.but hU (λk hk e=>h.pO.g1 (e ▸ hk))) (o,hi,lo) hw)
 have HT:=ab ht
 have Xm:Hid ((K.iF H.s H.k T (o,hi,lo)).2=true->(K.iF H.s H.k T (o,hi,lo)).1=dE X l (o,hi,lo)/\aR X l (o,hi,lo)=true):=λe=>by
  obtain⟨e1,e2⟩:=ht.get e
  exact⟨by unfold dE;rw [e1,e2];rfl,e1⟩
 have HG:Hid (∀U,Kk U H T->Calls Tryz.prog 430 #[.pointer (some ⟨H.g,0,none⟩),.agg #[.int .i64 o,.int .u64 (hi:Int),.int .u64 (lo:Int)]] U λx w'=>x=.returned (.tuple #[.int .i64 (K.iF H.s H.k T (o,hi,lo)).1,.bool (K.iF H.s H.k T (o,hi,lo)).2])/\Kk w' H T/\ah (λk=>k=H.g) U w'):=λU ⟨E,h1,m1,hk⟩=>(K.Kt hk (o,hi,lo) hw).mono (λx w' hx=>⟨hx.1,⟨_,_,_,hx.2.1⟩,hx.2.2⟩)
 have HL:Hid (∀U,ah (λk=>k=H.g) w1 U->Kk U H T->aR X l (o,hi,lo)=true->Calls Tryz.prog 371 #[.pointer (some ⟨H.v,0,none⟩),.iface 247 (.agg #[.pointer (some ⟨H.A.g,0,none⟩)]),.agg #[.int .i64 o,.int .u64 (hi:Int),.int .u64 (lo:Int)],.int .i64 (dE X l (o,hi,lo))] U λx w'=>x=.returned (.tuple #[])/\Vt w' H X l/\ah (λk=>k=H.g) U w'):=λU hU ⟨E,a1,m1,hk⟩ hb=>by
  have hs:dE X l (o,hi,lo)=eE X l (o,hi,lo):=by unfold dE;rw [hb];rfl
  rw [hs];refine (Cu (h1.va.but hU h.pO.v2) hk (o,hi,lo) (eE X l (o,hi,lo)) hw).mono ?_
  rintro x w' ⟨rfl,hk',hb'⟩
  exact⟨rfl,⟨_,h1.keep (hU.trans hb') ⟨_,_,_,hk'⟩,ht.put hb⟩,hb'⟩
 have Ww:Hid (aR X l (o,hi,lo)=false->dE X l (o,hi,lo)=0):=λe=>by unfold dE;rw [e];rfl
 have SI:Hid (Kk w1 H T):=h1.ch
 have v0:=(HV.out w1 (ah.refl _ _)).c0
 have v1:=(HV.out w1 (ah.refl _ _)).c1
 have v2:=(HV.out w1 (ah.refl _ _)).c2
 have PC:=ab hB1
 have m1:=Iu
 have m2:=Hi
 have i0:=λw=>Kf (.iface 164 (.pointer (some ⟨H.g,0,none⟩))) (.iface 247 (.agg #[.pointer (some ⟨H.A.g,0,none⟩)])) w
 have i1:=λw=>Ku (.iface 164 (.pointer (some ⟨H.g,0,none⟩))) (.iface 247 (.agg #[.pointer (some ⟨H.A.g,0,none⟩)])) w
 clear h h1 ht hw hB1 hgl;generalize (K.iF H.s H.k T (o,hi,lo)).1=gm at *
 generalize (K.iF H.s H.k T (o,hi,lo)).2=gq at *
 generalize dE X l (o,hi,lo)=sm at *
 generalize aR X l (o,hi,lo)=sq at *
 go_enter Tryz.func329,Tryz.ntmps329
 go_upto_region 1 with fail
 rw [<-hw1];clear hw1;go_upto_region 2 with fail
 clear v0 v1 v2;go_loopw [14] (Ja w1 H T gq sq) (λt _=>2 - (intOf t).toNat)
 case atStart=>exact⟨0,rfl,by omega,λe=>by omega,λe=>by omega,SI.out,ah.refl _ _⟩
 case round =>
  obtain⟨i,rfl,hi2,hg1,hg2,hk,hB⟩:=hrel
  have HB:=ab hB
  have TK:=ab hk
  obtain⟨c0,c1,c2⟩:=HC.out _ hB
  rcases Nat.lt_or_ge i 1 with hi0|hi1
  ·obtain rfl:i=0:=by omega
   clear hg1 hg2 hk hB hi2 hi0;simp only [Int.cast_ofNat_Int];cases gq with
   | true =>
    obtain⟨rfl,rfl⟩:=Xm.out rfl
    go_upto_region 6 with (first|(go_at_call 430;refine (HG.out _ TK.out).mono ?_;rintro e w2 ⟨rfl,hk2,hb2⟩;have Qf:=ab hk2;have PB:=ab (HB.out.trans hb2);clear hk2 hb2))
    clear c0 c1 c2;obtain⟨c0,c1,c2⟩:=HC.out _ PB.out
    go_wp2_with (first|(go_at_call 371;refine (Dn H.v H.g (o,hi,lo) gm _).mono ?_;rintro e w3 ⟨rfl,hb3⟩;have Qq:Hid (Vt w3 H X l):=(HK.out _ PB.out T HT.out Qf.out).later hb3;have PE:=ab (PB.out.call hb3);clear hb3))
    exact bodyPost_ret (v:=.tuple #[.int .i64 gm,.bool true]) (by simp [results,Tryz.results329,go_sem]) rfl ⟨rfl,Qq.out,(ah.of (S:=λk=>k=H.g) PC.out).trans PE.out⟩
   | false =>
    go_wp2_with (first|(go_at_call 430;refine (HG.out _ TK.out).mono ?_;rintro e w2 ⟨rfl,hk2,hb2⟩;have Qf:=ab hk2;have PB:=ab (HB.out.trans hb2);clear hk2 hb2))
    exact⟨⟨1,rfl,by omega,λ_=>rfl,λh=>by omega,Qf.out,PB.out⟩,by simp [intOf]⟩
  ·have hq:=hg1 hi1
   rcases Nat.lt_or_ge i 2 with hi0|hi2'
   ·obtain rfl:i=1:=by omega
    clear hg1 hg2 hk hB hi2 hi0 hi1;simp only [Int.cast_ofNat_Int];cases sq with
    | true =>
     go_upto_region 6 with (first|(go_at_call 433;refine (SO.out _ HB.out).mono ?_;rintro e w2 ⟨rfl,hb2⟩;have PB:=ab (HB.out.call hb2);have Qf:Hid (Kk w2 H T):=(by obtain⟨E,x1,x2,hk⟩:=TK.out;exact⟨E,x1,x2,hk.later hb2⟩);clear hb2))
     clear c0 c1 c2;obtain⟨c0,c1,c2⟩:=HC.out _ PB.out
     go_wp2_with (first|(go_at_call 371;refine (HL.out _ PB.out Qf.out (by simp)).mono ?_;rintro e w3 ⟨rfl,hv3,hb3⟩;have RD:=ab hv3;have PE:=ab (PB.out.trans hb3);clear hv3 hb3))
     exact bodyPost_ret (v:=.tuple #[.int .i64 sm,.bool true]) (by simp [results,Tryz.results329,go_sem]) rfl ⟨rfl,RD.out,(ah.of (S:=λk=>k=H.g) PC.out).trans PE.out⟩
    | false =>
     go_wp2_with (first|(go_at_call 433;refine (SO.out _ HB.out).mono ?_;rintro e w2 ⟨rfl,hb2⟩;have PB:=ab (HB.out.call hb2);have Qf:Hid (Kk w2 H T):=(by obtain⟨E,x1,x2,hk⟩:=TK.out;exact⟨E,x1,x2,hk.later hb2⟩);clear hb2))
     exact⟨⟨2,rfl,by omega,λ_=>hq,λ_=>rfl,Qf.out,PB.out⟩,by simp [intOf]⟩
   ·obtain rfl:i=2:=by omega
    have hs:=hg2 hi2'
    subst hs;obtain rfl:=Ww.out rfl
    clear hg1 hg2 hk hB hi2 hi1 hi2';simp only [Int.cast_ofNat_Int];go_wp2;exact bodyPost_ret (v:=.tuple #[.int .i64 0,.bool false]) (by simp [results,Tryz.results329,go_sem]) rfl ⟨rfl,HK.out _ HB.out T HT.out TK.out,(ah.of (S:=λk=>k=H.g) PC.out).trans HB.out⟩
end Go.Proofs.YtffmodpgddecnaaGreatDoor.L
namespace Go.Proofs.YtffmodpgddecnaaGreatDoor.L
open Go.RowKit H
variable {w w':World}{H:Hv}{X:List Tk}{l:Fo}{T:Nat->List K.Pu}
theorem nv (h:Vt w H X l)(c:Cp)(need:Int)(hw:c.2.1<aq/\c.2.2<aq) :
  Calls Tryz.prog 264 #[.pointer (some ⟨H.v,0,none⟩),iu c,.int .i64 need] w λe w'=>e=.returned (.int .i64 (cQ X l need c))/\Vt w' H X l/\ah (λk=>k=H.g) w w':=by
 obtain⟨o,hi,lo⟩:=c
 obtain⟨w1,hw1⟩:∃w1,w1=w.alloc (Obj.cells #[.int .i64 o,.int .u64 (hi:Int),.int .u64 (lo:Int)] 37):=⟨_,rfl⟩
 have hB1:Below w.heap.size w w1:=by rw [hw1];exact ae _ _
 have x0:w1.cell? ⟨w.heap.size,0,none⟩=some (.int .i64 o):=by rw [hw1];simp [go_sem]
 have x1:w1.cell? ⟨w.heap.size,1,none⟩=some (.int .u64 (hi:Int)):=by rw [hw1];simp [go_sem]
 have x2:w1.cell? ⟨w.heap.size,2,none⟩=some (.int .u64 (lo:Int)):=by rw [hw1];simp [go_sem]
 have HR:=ab (fD (h.later hB1) (o,hi,lo) hw)
 have PC:=ab hB1
 have QF:Hid (aR X l (o,hi,lo)=true->dE X l (o,hi,lo)=eE X l (o,hi,lo)):=λe=>by unfold dE;rw [e];rfl
 clear h hB1 hw;rcases iL X l need (o,hi,lo) with ⟨h1,h2⟩|⟨h1,h2,h3⟩|⟨h1,h2,h3⟩
 ·rw [h1] at HR
  rw [h2];clear h1 h2;go_enter Tryz.func264,Tryz.ntmps264
  go_upto_region 1 with fail
  rw [<-hw1];clear hw1;go_wp2_with (first|(go_at_call 329;refine HR.out.mono ?_;rintro e w2 ⟨rfl,hv2,hb2⟩;have Rk:=ab hv2;have PB:=ab ((ah.of (S:=λk=>k=H.g) PC.out).trans hb2);clear hv2 hb2))
  go_ret;exact⟨rfl,Rk.out,PB.out⟩
 ·have hs:=QF.out h1
  rw [h1,hs] at HR;rw [h3];have HH:=ab (EO (eE X l (o,hi,lo)) need)
  rw [h2] at HH;clear h1 h2 h3 hs;generalize eE X l (o,hi,lo)=q at *
  go_enter Tryz.func264,Tryz.ntmps264
  go_upto_region 1 with fail
  rw [<-hw1];clear hw1;go_wp2_with (first
   | (go_at_call 287;refine (HH.out _).mono ?_;rintro e w9 ⟨rfl,hw9⟩;obtain rfl:=hw9.symm;clear hw9)
   | (go_at_call 329;refine HR.out.mono ?_;rintro e w2 ⟨rfl,hv2,hb2⟩;have Rk:=ab hv2;have PB:=ab ((ah.of (S:=λk=>k=H.g) PC.out).trans hb2);clear hv2 hb2))
  go_ret;exact⟨rfl,Rk.out,PB.out⟩
 ·have hs:=QF.out h1
  rw [h1,hs] at HR;rw [h3];have HH:=ab (EO (eE X l (o,hi,lo)) need)
  rw [h2] at HH;clear h1 h2 h3 hs;generalize eE X l (o,hi,lo)=q at *
  go_enter Tryz.func264,Tryz.ntmps264
  go_upto_region 1 with fail
  rw [<-hw1];clear hw1;go_wp2_with (first
   | (go_at_call 287;refine (HH.out _).mono ?_;rintro e w9 ⟨rfl,hw9⟩;obtain rfl:=hw9.symm;clear hw9)
   | (go_at_call 329;refine HR.out.mono ?_;rintro e w2 ⟨rfl,hv2,hb2⟩;have Rk:=ab hv2;have PB:=ab ((ah.of (S:=λk=>k=H.g) PC.out).trans hb2);clear hv2 hb2))
  go_ret;exact⟨rfl,Rk.out,PB.out⟩
theorem Al (h:Vg w H X l):Calls Tryz.prog 262 #[.pointer (some ⟨H.v,0,none⟩)] w λe w'=>e=.returned (.tuple #[])/\Vt w' H X l/\ah (λk=>k=H.g) w w':=by
 obtain⟨T,h⟩:=h
 obtain⟨E,hi,mi,hk⟩:=h.ch
 have HT:=ab (K.EN hk)
 have v0:=h.va.c0
 have HH:=ab h
 clear h hk;go_enter Tryz.func262,Tryz.ntmps262
 go_wp2_with (first|(go_at_call 244;refine HT.out.mono ?_;rintro e w2 ⟨rfl,hk2,hb2⟩;have Qf:=ab hk2;have PB:=ab hb2;clear hk2 hb2))
 exact bodyPost_end (by simp [results,Tryz.results262,go_sem]) rfl ⟨rfl,⟨_,HH.out.keep PB.out ⟨_,_,_,Qf.out⟩,Tr.zero _ _⟩,PB.out⟩
def IE (w1:World)(g s n k:Nat)(t:Value)(w:World):Prop :=
 ∃i:Nat,t=.int .i64 (i:Int)/\i<=256/\(∃E T hi mi,K.Kc w g s n k T E hi mi/\(1<=i->T=K.T0))/\ah (λk=>k=g) w1 w
theorem tN {g s n k E:Nat}{hi mi:Int}(hk:K.Kc w g s n k T E hi mi) :
  Calls Tryz.prog 173 #[.pointer (some ⟨g,0,none⟩)] w λe w'=>e=.returned (.tuple #[])/\(∃E hi mi,K.Kc w' g s n k K.T0 E hi mi)/\ah (λk=>k=g) w w':=by
 have HK:=ab hk
 clear hk;go_enter Tryz.func173,Tryz.ntmps173
 go_upto_region 1 with fail
 go_loopw [2] (IE w g s n k) (λt _=>256 - (intOf t).toNat)
 case atStart=>exact⟨0,rfl,by omega,⟨_,_,_,_,HK.out,λh=>by omega⟩,ah.refl _ _⟩
 case round =>
  obtain⟨i,rfl,hi2,⟨E',T',h1,h2,hk,ht⟩,hB⟩:=hrel
  have HB:=ab hB
  by_cases hlt:i<256
  ·have hd:decide ((i:Int)<256)=true:=decide_eq_true (by omega)
   have HT:=ab (K.EN hk)
   clear hk ht hB;go_wp2_with (first|(go_at_call 244;refine HT.out.mono ?_;rintro e w2 ⟨rfl,hk2,hb2⟩;have Qf:=ab hk2;have PB:=ab (HB.out.trans hb2);clear hk2 hb2))
   exact⟨⟨i+1,by go_num,by omega,⟨_,_,_,_,Qf.out,λ_=>rfl⟩,PB.out⟩,by simp [intOf];omega⟩
  ·have hd:decide ((i:Int)<256)=false:=decide_eq_false (by omega)
   have Qq:=ab hk
   rw [ht (by omega)] at Qq;clear hk ht hB;go_wp2;exact bodyPost_end (by simp [results,Tryz.results173,go_sem]) rfl ⟨rfl,⟨_,_,_,Qq.out⟩,HB.out⟩
theorem zG {g s n k E c:Nat}{hi mi:Int}(hk:K.Kc w g s n k T E hi mi) :
  Calls Tryz.prog 97 #[.pointer (some ⟨c,0,none⟩),.pointer (some ⟨g,0,none⟩)] w λe w'=>∃v,e=.returned (.pointer (some ⟨v,0,none⟩))/\Va w' v g c/\(∃E hi mi,K.Kc w' g s n k K.T0 E hi mi)/\w.heap.size<=v/\ah (λk=>k=g) w w':=by
 have HF:=ab (tN hk)
 clear hk;go_enter Tryz.func97,Tryz.ntmps97
 go_upto_region 2 with (first|(go_at_call 173;refine HF.out.mono ?_;rintro e w2 ⟨rfl,hk2,hb2⟩;have Qf:=ab hk2;have PB:=ab hb2;clear hk2 hb2))
 go_wp2;go_ret;obtain⟨E2,h2,m2,hk2⟩:=Qf.out
 exact⟨_,rfl,⟨by simp [go_sem],by simp [go_sem],by simp [go_sem]⟩,⟨_,_,_,hk2.later (ae _ _)⟩,PB.out.size,PB.out.alloc _⟩
end Go.Proofs.YtffmodpgddecnaaGreatDoor.L
namespace Go.Proofs.YtffmodpgddecnaaGreatDoor.L
open Go.RowKit H
variable {w w':World}{H:Hv}{X:List Tk}{l:Fo}{T:Nat->List K.Pu}
theorem _root_.Go.Proofs.YtffmodpgddecnaaGreatDoor.Rd.J7 {S:Nat->Prop}{w w':World}{a:Option Addr}{n:Nat}{K:List Cp}(h:Rd w a n K)(hb:ah S w w')(hn:0<n->∀k,aJ a k->¬S k):Rd w' a n K:=by
 by_cases h0:0<n
 ·exact h.but hb (hn h0)
 ·exact⟨h.len,λh1=>absurd h1 h0⟩
def Ee (w:World)(b:Nat)(c:Cp):World:=((w.setCell ⟨b,0,none⟩ (.int .i64 c.1)).setCell ⟨b,1,none⟩ (.int .u64 (c.2.1:Int))).setCell ⟨b,2,none⟩ (.int .u64 (c.2.2:Int))
theorem cA {S:Nat->Prop}{a w:World}(h:ah S a w){b:Nat}(hb:S b)(c:Cp):ah S a (Ee w b c):=((h.setCell (p:=⟨b,0,none⟩) hb _).setCell (p:=⟨b,1,none⟩) hb _).setCell (p:=⟨b,2,none⟩) hb _
theorem Bv {S:Nat->Prop}{a w:World}(h:ah S a w){b:Nat}(hb:a.heap.size<=b)(c:Cp):ah S a (Ee w b c):=((h.put (p:=⟨b,0,none⟩) hb _).put (p:=⟨b,1,none⟩) hb _).put (p:=⟨b,2,none⟩) hb _
def I1 (w1:World)(H:Hv)(X:List Tk)(l:Fo)(K:List Cp)(o need:Int)(t s:Value)(w:World):Prop :=
 ∃(i:Nat) (e:Int),t=.int .i64 (i:Int)/\s=.int .i64 e/\i<=K.length/\dg (cQ X l need) o K 3=dg (cQ X l need) o (K.drop i) e/\Vt w H X l/\ah (λk=>k=H.g) w1 w
theorem vX (h:Vt w H X l)(o need:Int){a:Option Addr}{n:Nat}{K:List Cp}(cap:Nat)(hr:Rd w a n K)(hn:n<=9223372036854775807)(hk:∀c∈K,c.2.1<aq/\c.2.2<aq)(ha:0<n->∀k,aJ a k->k≠H.g) :
  Calls Tryz.prog 265 #[.pointer (some ⟨H.v,0,none⟩),.int .i64 o,.int .i64 need,.slice a n cap] w λe w'=>e=.returned (.tuple #[iu (dg (cQ X l need) o K 3).1,.int .i64 (dg (cQ X l need) o K 3).2])/\Vt w' H X l/\ah (λk=>k=H.g) w w':=by
 have hl:=hr.len
 subst hl;obtain⟨w1,hw1⟩:∃w1,w1=w.alloc (Obj.cells #[.int .i64 0,.int .u64 0,.int .u64 0] 37):=⟨_,rfl⟩
 have hB1:Below w.heap.size w w1:=by rw [hw1];exact ae _ _
 have hgl:H.g<w.heap.size:=by obtain⟨_,⟨_,⟨_,_,_,hk⟩,_,_⟩,_⟩:=h;exact hk.lt
 have hL1:az w1 ⟨w.heap.size,0,none⟩ (.int .i64 0)/\az w1 ⟨w.heap.size,1,none⟩ (.int .u64 0)/\az w1 ⟨w.heap.size,2,none⟩ (.int .u64 0):=by
  rw [hw1];exact⟨⟨by simp [go_sem],by simp [go_sem]⟩,⟨by simp [go_sem],by simp [go_sem]⟩,⟨by simp [go_sem],by simp [go_sem]⟩⟩
 have HL:Hid (∀U,ah (λk=>k=H.g) w1 U->az U ⟨w.heap.size,0,none⟩ (.int .i64 0)/\az U ⟨w.heap.size,1,none⟩ (.int .u64 0)/\az U ⟨w.heap.size,2,none⟩ (.int .u64 0)):=λU hU =>
  have hne:¬w.heap.size=H.g:=by omega
  ⟨hL1.1.but hU hne,hL1.2.1.but hU hne,hL1.2.2.but hU hne⟩
 have HR:=ab (λ(U:World) (hU:ah (λk=>k=H.g) w1 U)=>(hr.later hB1).J7 hU ha)
 have HW:=ab hk
 have TG:=ab (h.later hB1)
 have PC:=ab hB1
 have Sm:Hid (∀U,ah (λk=>k=H.g) w1 U->ah (λk=>k=H.g) w U):=λU hU=>(ah.of hB1).trans hU
 have R7:Hid (∀U,ah (λk=>k=H.g) w1 U->∀(x:Int) (y z:Nat),ah (λk=>k=H.g) w (Ee U w.heap.size (x,y,z))):=λU hU x y z=>Bv ((ah.of hB1).trans hU) (Nat.le_refl _) _
 have Qk:Hid (∀U,Vt U H X l->∀(x:Int) (y z:Nat),Vt (Ee U w.heap.size (x,y,z)) H X l):=λU hU x y z=>hU.but (S:=λk=>k=w.heap.size) (cA (S:=λk=>k=w.heap.size) (ah.refl _ _) (b:=w.heap.size) rfl _) (λk hk e=>by have:=h.cat.lt k hk;omega) (by omega) (λe=>by obtain⟨_,⟨_,_,hva,_⟩,_⟩:=h;have:=hva.lt;omega)
 have Si:Hid (w.heap.size<w1.heap.size):=by rw [hw1];simp [Hid]
 clear h hr hk ha hB1 hL1 hgl;go_enter Tryz.func265,Tryz.ntmps265
 go_upto_region 1 with fail
 rw [<-hw1];clear hw1;go_upto_region 3 with fail
 go_loopw [15,10] (I1 w1 H X l K o need) (λt _ _=>K.length - (intOf t).toNat)
 case atStart=>exact⟨0,3,rfl,rfl,by omega,by simp,TG.out,ah.refl _ _⟩
 case round =>
  obtain⟨i,e,rfl,rfl,hi,hna,hv,hB⟩:=hrel
  have HB:=ab hB
  have HN:=ab hna
  have HV:=ab hv
  clear hna hv hB;by_cases hlt:i<K.length
  ·have hd:decide ((i:Int)<(K.length:Int))=true:=decide_eq_true (by omega)
   obtain⟨x,hx⟩:∃x,K[i]?=some x:=⟨_,List.getElem?_eq_getElem hlt⟩
   obtain⟨b,q,rfl,hat⟩:=(HR.out _ HB.out).at_ (by omega)
   have HS:=ab (vP (g:=cQ X l need) (o:=o) hx e)
   obtain⟨x0,x1,x2⟩:=hat i x hx
   have Wo:=ab (HW.out x (List.mem_of_getElem? hx))
   clear hx hat;obtain⟨xo,xh,xl⟩:=x
   simp only at x0 x1 x2;by_cases hc:xo=o
   ·have hq:(xo != o)=false:=by simp [hc]
    obtain⟨w2,hw2⟩:∃w2,w2=wr.alloc (Obj.cells #[.int .i64 xo,.int .u64 (xh:Int),.int .u64 (xl:Int)] 37):=⟨_,rfl⟩
    have hB2:Below wr.heap.size wr w2:=by rw [hw2];exact ae _ _
    have y0:w2.cell? ⟨wr.heap.size,0,none⟩=some (.int .i64 xo):=by rw [hw2];simp [go_sem]
    have y1:w2.cell? ⟨wr.heap.size,1,none⟩=some (.int .u64 (xh:Int)):=by rw [hw2];simp [go_sem]
    have y2:w2.cell? ⟨wr.heap.size,2,none⟩=some (.int .u64 (xl:Int)):=by rw [hw2];simp [go_sem]
    have hgl:H.g<wr.heap.size:=by obtain⟨_,⟨_,⟨_,_,_,hk⟩,_,_⟩,_⟩:=HV.out;exact hk.lt
    have HY:Hid (∀U,ah (λk=>k=H.g) w2 U->U.cell? ⟨wr.heap.size,0,none⟩=some (.int .i64 xo)/\U.cell? ⟨wr.heap.size,1,none⟩=some (.int .u64 (xh:Int))/\U.cell? ⟨wr.heap.size,2,none⟩=some (.int .u64 (xl:Int))):=λU hU =>
     have hne:¬wr.heap.size=H.g:=by omega
     ⟨ag hU y0 hne,ag hU y1 hne,ag hU y2 hne⟩
    have HG:=ab (nv (HV.out.later hB2) (xo,xh,xl) need Wo.out)
    have PB:=ab (HB.out.call hB2)
    have PV:Hid (dg (cQ X l need) o K 3=if cQ X l need (xo,xh,xl)=0 then ((xo,xh,xl),0) else if cQ X l need (xo,xh,xl)=4 then dg (cQ X l need) o (K.drop (i+1)) 4 else dg (cQ X l need) o (K.drop (i+1)) e):=by unfold Hid;rw [HN.out,HS.out,if_neg (by simpa using hc)]
    have Xz:Hid (¬w.heap.size=wr.heap.size):=by have h1:=Si.out;have h2:=HB.out.size;unfold Hid;omega
    have hcx:=iL X l need (xo,xh,xl)
    clear hc hB2 hgl HS HN;rcases hcx with ⟨_,h1⟩|⟨_,_,h1⟩|⟨_,_,h1⟩
    ·rw [h1] at HG PV
     clear h1;go_upto_region 5 with fail
     rw [<-hw2];clear hw2 x0 x1 x2;go_wp2_with (first|(go_at_call 264;refine HG.out.mono ?_;rintro e3 w3 ⟨rfl,hv3,hb3⟩;have RD:=ab hv3;have PE:=ab (PB.out.trans hb3);clear hv3 hb3))
     exact⟨⟨i+1,e,by go_num,rfl,by omega,PV.out.trans (by simp),RD.out,PE.out⟩,by simp [intOf];omega⟩
    ·rw [h1] at HG PV
     clear h1;go_upto_region 5 with fail
     rw [<-hw2];clear hw2 x0 x1 x2;go_wp2_with (first|(go_at_call 264;refine HG.out.mono ?_;rintro e3 w3 ⟨rfl,hv3,hb3⟩;have RD:=ab hv3;have PE:=ab (PB.out.trans hb3);clear hv3 hb3))
     exact⟨⟨i+1,4,by go_num,rfl,by omega,PV.out.trans (by simp),RD.out,PE.out⟩,by simp [intOf];omega⟩
    ·rw [h1] at HG PV
     clear h1;go_upto_region 5 with fail
     rw [<-hw2];clear hw2 x0 x1 x2;go_upto_region 8 with (first|(go_at_call 264;refine HG.out.mono ?_;rintro e3 w3 ⟨rfl,hv3,hb3⟩;have RD:=ab hv3;have Wv:=ab (HY.out _ hb3);have PE:=ab (PB.out.trans hb3);clear hv3 hb3))
     clear y0 y1 y2;obtain⟨y0,y1,y2⟩:=Wv.out
     obtain⟨⟨r0,f0⟩,⟨r1,f1⟩,⟨r2,f2⟩⟩:=HL.out _ PE.out
     have HE:Hid (dg (cQ X l need) o K 3=((xo,xh,xl),0)):=PV.out.trans (by simp)
     go_wp2;exact bodyPost_ret (v:=.tuple #[iu (xo,xh,xl),.int .i64 0]) (by simp [results,Tryz.results265,go_sem,r0,r1,r2]) rfl ⟨by rw [HE.out],Qk.out _ RD.out xo xh xl,R7.out _ PE.out xo xh xl⟩
   ·have hq:(xo != o)=true:=by simp [hc]
    have PV:Hid (dg (cQ X l need) o (K.drop i) e=dg (cQ X l need) o (K.drop (i+1)) e):=by unfold Hid;rw [HS.out,if_pos hc]
    clear hc;go_wp2;exact⟨⟨i+1,e,by go_num,rfl,by omega,HN.out.trans PV.out,HV.out.later (ae _ _),HB.out.alloc _⟩,by simp [intOf];omega⟩
  ·have hd:decide ((i:Int)<(K.length:Int))=false:=decide_eq_false (by omega)
   have HE:Hid (dg (cQ X l need) o K 3=((0,0,0),e)):=HN.out.trans (AJ (by omega) e)
   obtain⟨⟨r0,f0⟩,⟨r1,f1⟩,⟨r2,f2⟩⟩:=HL.out _ HB.out
   go_wp2;exact bodyPost_ret (v:=.tuple #[iu (0,0,0),.int .i64 e]) (by simp [results,Tryz.results265,go_sem,r0,r1,r2]) rfl ⟨by rw [HE.out],Qk.out _ HV.out 0 0 0,R7.out _ HB.out 0 0 0⟩
end Go.Proofs.YtffmodpgddecnaaGreatDoor.L
namespace Go.Proofs.YtffmodpgddecnaaGreatDoor.M
open Go.RowKit
abbrev Cp:=Int×Nat×Nat
theorem kI {α:Type}{enc:α->List Value}{k:Nat}(hk:∀x,(enc x).length=k)(K:List α)(i c:Nat)(x:α)(hi:K[i]?=some x)(hc:c<k):(K.flatMap enc)[i*k+c]?=(enc x)[c]?:=by
 induction K generalizing i with
 | nil=>cases hi
 | cons a r ih =>
  rw [List.flatMap_cons];cases i with
  | zero =>
   simp at hi
   subst hi;rw [Nat.zero_mul,Nat.zero_add,List.getElem?_append_left (by rw [hk];exact hc)]
  | succ i =>
   rw [List.getElem?_append_right (by rw [hk,Nat.add_mul];omega),hk]
   have:(i+1)*k+c - k=i*k+c:=by rw [Nat.add_mul];omega
   rw [this];exact ih i (by simpa using hi)
theorem _root_.Go.Proofs.YtffmodpgddecnaaGreatDoor.Ow.rd {w:World}{base:Nat}{a:Option Addr}{n cap:Nat}{K:List Cp}(h:Ow w base 37 3 a n cap (aF K))(hn:K.length=n):Rd w a n K :=
 ⟨hn,λh0=>by
  obtain⟨b,e,hc⟩:=h.at_ h0
  refine⟨b,0,e,λi c hi=>?_⟩
  have hg:=λd (hd:d<3)=>kI (enc:=cH) (k:=3) (λ_=>rfl) K i d c hi hd
  rw [Nat.zero_add];exact⟨hc _ _ (hg 0 (by omega)),hc _ _ (hg 1 (by omega)),hc _ _ (hg 2 (by omega))⟩⟩
def Fw (w:World)(b o:Nat)(c:Cp):World:=((w.setCell ⟨b,o,none⟩ (.int .i64 c.1)).setCell ⟨b,o+1,none⟩ (.int .u64 (c.2.1:Int))).setCell ⟨b,o+2,none⟩ (.int .u64 (c.2.2:Int))
theorem jb {S:Nat->Prop}{a w:World}(h:ah S a w){b:Nat}(hb:S b)(o:Nat)(c:Cp):ah S a (Fw w b o c) :=
 ((h.setCell (p:=⟨b,o,none⟩) hb _).setCell (p:=⟨b,o+1,none⟩) hb _).setCell (p:=⟨b,o+2,none⟩) hb _
theorem lY (K:List Cp):∀u∈aF K,u.oneCell'=true:=λu hu=>by
 unfold aF at hu;obtain⟨x,_,hx⟩:=List.mem_flatMap.1 hu
 exact gM x u hx
theorem iN {P:Program}(w:World)(dT sT ty elem:TypeId)(k b o dLen dCap:Nat)(a:Addr)(sLen sCap:Nat)(cs:List Value)
  (hu:P.underlying dT=some (.slice elem)) (hs:(P.info? elem).map (·.size)=some k) (hn:cs.length=Nat.min sLen dLen*k)
  (hsrc:∀j v,cs[j]?=some v->w.cell? (a.add j)=some v) (hc:∀j,j<cs.length->(w.cell? ⟨b,o+j,none⟩).isSome=true) (hf:∀j,j<cs.length->w.frozen? ⟨b,o+j,none⟩=false) (h1:∀v∈cs,v.oneCell'=true) :
  (Builtin.copy_ #[dT,sT] ty #[.slice (some ⟨b,o,none⟩) dLen dCap,.slice (some a) sLen sCap]).run P w=.ok (goInt (Nat.min sLen dLen)) (w.setCells b o cs):=by
 have hl:=run_loadCells_list (P:=P) w a cs hsrc
 have hst:=run_storeCells_cells (P:=P) b o cs 0 w (by simpa using hc) (by simpa using hf) h1
 cases hq:P.info? elem with
 | none=>simp [hq] at hs
 | some i =>
  have hi:i.size=k:=by simpa [hq] using hs
  simp [Builtin.copy_,run_underlying hu,Builtin.lenOf,Builtin.firstCells,sizeOf,typeInfo,hq,hi,<-hn,hl,hst]
theorem gR {P:Program}(w:World)(dT sT ty elem:TypeId)(k:Nat)(d a:Option Addr)(dLen dCap sLen sCap:Nat)(hu:P.underlying dT=some (.slice elem))(hs:(P.info? elem).map (·.size)=some k)(hn:Nat.min sLen dLen=0) :
  (Builtin.copy_ #[dT,sT] ty #[.slice d dLen dCap,.slice a sLen sCap]).run P w=.ok (goInt 0) w:=by
 cases hq:P.info? elem with
 | none=>simp [hq] at hs
 | some i =>
  have hl:∀(x:Addr),(loadCells x 0).run P w=.ok #[] w:=λx=>by simpa using run_loadCells_list (P:=P) w x [] (by simp)
  cases d<;>cases a<;>simp [Builtin.copy_,run_underlying hu,Builtin.lenOf,Builtin.firstCells,sizeOf,typeInfo,hq,hn,storeCells,hl]
theorem k7:(Tryz.prog.info? 37).map (·.size)=some 3:=by
 obtain⟨i,hi,hz0,hz1,hz2⟩:=info_parts iz
 rw [hi];simp [hz1]
theorem mR (w:World)(ty:TypeId)(b o c:Nat)(hc:∀j,j<3->(w.cell? ⟨b,o+j,none⟩).isSome=true)(hf:∀j,j<3->w.frozen? ⟨b,o+j,none⟩=false) :
  (Builtin.clear_ #[71] ty #[.slice (some ⟨b,o,none⟩) 1 c]).run Tryz.prog w=.ok (.tuple #[]) (w.setCells b o (cH (0,0,0))):=by
 obtain⟨i,hi,hz0,hz1,hz2⟩:=info_parts iz
 have hv:(zeroValue 37).run Tryz.prog w=.ok (.agg #[.int .i64 0,.int .u64 0,.int .u64 0]) w:=by
  simp [zeroValue,typeInfo,hi,hz0]
 have hst:=run_storeCells_cells (P:=Tryz.prog) b o (cH (0,0,0)) 0 w (by simpa [cH] using hc) (by simpa [cH] using hf) (gM _)
 simp only [Nat.add_zero] at hst;have hzc:(Builtin.zeroCells (Value.agg #[.int .i64 0,.int .u64 0,.int .u64 0]).cells 1).toList=cH (0,0,0):=by
  simp [Builtin.zeroCells,Value.cells,cH,Array.range]
 simp [Builtin.clear_,run_underlying Tryz.underlying71,hv,hzc,hst]
def xe (L:List Value):Nat->List Value->List Value
 | _,[]=>L
 | o,v::r=>xe (L.set o v) (o+1) r
theorem vo:∀(vs:List Value) (L:List Value) (o:Nat),o+vs.length<=L.length->xe L o vs=L.take o++vs++L.drop (o+vs.length)
 | [],L,o,h=>by simp [xe]
 | v::r,L,o,h=>by
  rw [xe,vo r _ _ (by simp at h ⊢;omega)];simp at h
  rw [List.take_set,List.drop_set_of_lt (by omega)];have e:(L.take (o+1)).set o v=L.take o++[v]:=by
   apply List.ext_getElem?
   intro j;rw [List.getElem?_set];rcases Nat.lt_trichotomy j o with h1|h1|h1
   ·rw [if_neg (by omega),List.getElem?_take_of_lt (by omega),List.getElem?_append_left (by simp;omega),List.getElem?_take_of_lt h1]
   ·subst h1
    rw [if_pos rfl,if_pos (by simp;omega),List.getElem?_append_right (by simp;omega)];simp
    have:j - min j L.length=0:=by omega
    simp [this]
   ·rw [if_neg (by omega),List.getElem?_eq_none (by simp;omega),List.getElem?_eq_none (by simp;omega)]
  rw [e];simp
  congr 1
  omega
theorem _root_.Go.Proofs.YtffmodpgddecnaaGreatDoor.Ow.setCells {base:Nat}{e:TypeId}{k g n cap:Nat}:∀(vs:List Value) (o:Nat) (w:World) (L:List Value),Ow w base e k (some ⟨g,0,none⟩) n cap L->Ow (w.setCells g o vs) base e k (some ⟨g,0,none⟩) n cap (xe L o vs)
 | [],_,_,_,h=>h
 | v::r,o,w,L,h=>Ow.setCells r (o+1) _ _ (h.JO o v)
theorem _root_.Go.Proofs.YtffmodpgddecnaaGreatDoor.Ow.shrink {w:World}{base:Nat}{e:TypeId}{k g n cap m:Nat}{L:List Value}(h:Ow w base e k (some ⟨g,0,none⟩) n cap L)(hm:m<=n):Ow w base e k (some ⟨g,0,none⟩) m cap (L.take (m*k)):=by
 have hmk:m*k<=n*k:=Nat.mul_le_mul_right k hm
 refine⟨by rw [List.length_take,h.1];omega,?_⟩
 rcases h.2 with ⟨h1,_⟩|⟨g',c,cur,hv,hb,hh,h2,h3,h4,h5⟩
 ·simp at h1
 ·simp only [Value.slice.injEq,Option.some.injEq,Addr.mk.injEq] at hv
  obtain⟨⟨rfl,_⟩,_,rfl⟩:=hv
  refine .inr ⟨g,cap,cur,rfl,hb,hh,by omega,h3,h4,?_⟩
  rw [<-h5,List.take_take];congr 1
  omega
theorem _root_.Go.Proofs.YtffmodpgddecnaaGreatDoor.Ow.some_ {w:World}{base:Nat}{e:TypeId}{k g n cap:Nat}{L:List Value}(h:Ow w base e k (some ⟨g,0,none⟩) n cap L){j:Nat}(hj:j<n*k):(w.cell? ⟨g,j,none⟩).isSome=true:=by
 have hl:j<L.length:=by rw [h.1];exact hj
 have:=h.rv g rfl j L[j] (List.getElem?_eq_getElem hl)
 rw [this];rfl
theorem _root_.Go.Proofs.YtffmodpgddecnaaGreatDoor.Ow.fr {w:World}{base:Nat}{e:TypeId}{k g n cap:Nat}{L:List Value}(h:Ow w base e k (some ⟨g,0,none⟩) n cap L)(j:Nat):w.frozen? ⟨g,j,none⟩=false:=by
 rcases h.form with ⟨h1,_⟩|⟨g',h1,h2,_⟩
 ·cases h1
 ·cases h1;exact h2 j
theorem gD (K M:List Cp):aF (K++M)=aF K++aF M:=by simp [aF]
theorem b_ (K:List Cp):(aF K).length=K.length*3:=by
 induction K with
 | nil=>rfl
 | cons a r ih =>
  have e:aF (a::r)=cH a++aF r:=by simp [aF]
  rw [e,List.length_append,ih];simp [cH];omega
theorem j0:∀(K:List Cp) (i:Nat),(aF K).take (i*3)=aF (K.take i)
 | [],i=>by simp [aF]
 | x::K,0=>by simp [aF]
 | x::K,i+1=>by
  have ih:=j0 K i
  have e:(i+1)*3=i*3+1+1+1:=by omega
  have e1:∀(y:Cp) (M:List Cp),aF (y::M)=.int .i64 y.1::.int .u64 (y.2.1:Int)::.int .u64 (y.2.2:Int)::aF M:=λy M=>by simp [aF,cH]
  rw [List.take_succ_cons,e1,e1,e,List.take_succ_cons,List.take_succ_cons,List.take_succ_cons,ih]
theorem jW:∀(K:List Cp) (i:Nat),(aF K).drop (i*3)=aF (K.drop i)
 | [],i=>by simp [aF]
 | x::K,0=>by simp [aF]
 | x::K,i+1=>by
  have ih:=jW K i
  have e:(i+1)*3=i*3+1+1+1:=by omega
  have e1:∀(y:Cp) (M:List Cp),aF (y::M)=.int .i64 y.1::.int .u64 (y.2.1:Int)::.int .u64 (y.2.2:Int)::aF M:=λy M=>by simp [aF,cH]
  rw [List.drop_succ_cons,e1,e,List.drop_succ_cons,List.drop_succ_cons,List.drop_succ_cons,ih]
theorem g6 (K M:List Cp)(i:Nat)(h:i+M.length<=K.length):xe (aF K) (i*3) (aF M)=aF (K.take i++M++K.drop (i+M.length)):=by
 rw [vo _ _ _ (by rw [b_,b_];omega),j0,b_,show i*3+M.length*3=(i+M.length)*3 by omega,jW,gD,gD]
theorem nW (w:World)(n:Nat)(hn:n<=1024) :
  ∃w',(Instr.makeSlice 71 (.int .i64 (n:Int)) (.int .i64 (n:Int))).run Tryz.prog w=.ok (.slice (some ⟨w.heap.size,0,none⟩) n n) w'/\Ow w' w.heap.size 37 3 (some ⟨w.heap.size,0,none⟩) n n (aF (List.replicate n (0,0,0)))/\Below w.heap.size w w':=by
 obtain⟨i,hi,hz0,hz1,hz2⟩:=info_parts iz
 obtain⟨w',hr,ho,hg⟩:=run_make_full (P:=Tryz.prog) w w.heap.size 71 37 i _ 3 Tryz.underlying71 hi hz0 hz1 .i64 .i64 n (by rw [hz2];omega) (by unfold maxLen;omega) (Nat.le_refl _)
 refine⟨w',hr,?_,(Below.refl _ _).grown hg (Nat.le_refl _) (λk hk=>by cases hk)⟩
 have e:aF (List.replicate n (0,0,0))=(madeCells (Value.agg #[.int .i64 0,.int .u64 0,.int .u64 0]).cells (n*3)).toList:=by
  apply List.ext_getElem?
  intro j;rw [show (madeCells (Value.agg #[.int .i64 0,.int .u64 0,.int .u64 0]).cells (n*3)).toList[j]?=(madeCells (Value.agg #[.int .i64 0,.int .u64 0,.int .u64 0]).cells (n*3))[j]? from Array.getElem?_toList]
  simp only [madeCells,Value.cells];rw [Array.getElem?_map,Array.getElem?_range];by_cases hj:j<n*3
  ·rw [if_pos hj]
   have hg:=kI (enc:=cH) (k:=3) (λ_=>rfl) (List.replicate n (0,0,0)) (j / 3) (j%3) (0,0,0) (by rw [List.getElem?_replicate,if_pos (by omega)]) (by omega)
   rw [show j / 3*3+j%3=j by omega] at hg;rw [show (aF (List.replicate n (0,0,0)))[j]?=_ from hg]
   have hm:j%3=0\/j%3=1\/j%3=2:=by omega
   simp only [Option.map_some,Array.size,List.length];rcases hm with hm|hm|hm<;>rw [hm]<;>simp [cH]
  ·rw [if_neg hj,List.getElem?_eq_none (by rw [b_];simp;omega)]
   rfl
 unfold Ow;rw [e];exact ho
def Dq (a:Option Addr)(m l:Nat):Option Addr:=if m=l then a else a.map (·.add (l*3))
theorem IV (w:World):(sizeOf 37).run Tryz.prog w=.ok 3 w:=by
 obtain⟨i,hi,hz0,hz1,hz2⟩:=info_parts iz
 simp [sizeOf,typeInfo,hi,hz1]
theorem uG:Tryz.prog.underlying 71=some (.slice (Tryz.prog.elem 71)):=Tryz.underlying71
theorem IL:Tryz.prog.elem 71=37:=by kernel_rfl
theorem pC (w:World)(a:Option Addr)(n c i:Nat)(h:i<=n)(hn:n<=c):(Instr.sliceAt 71 (.slice a n c) (some (.int .i64 (i:Int))) none none).run Tryz.prog w=.ok (.slice (Dq a c i) (n - i) (c - i)) w:=by
 rw [run_sliceAt_slice _ _ _ _ _ _ uG,run_slice_l _ _ _ _ _ uG _ _ (by omega) (by omega),IL,IV];rfl
theorem Eo (w:World)(a:Option Addr)(n c i:Nat)(h:i<=c):(Instr.sliceAt 71 (.slice a n c) none (some (.int .i64 (i:Int))) none).run Tryz.prog w=.ok (.slice a i c) w:=by
 rw [run_sliceAt_slice _ _ _ _ _ _ uG,run_slice_h _ _ _ _ _ uG _ _ (by omega) (by omega),IL,IV];simp [sliced];cases a<;>simp [Addr.add]
theorem below_drewN {w W:World}{n:Nat}(h:Below n w W)(k:Nat):Below n w (W.drewN k):=⟨h.os,h.tape,h.output,h.size,h.block⟩
structure Dm (w:World)(base g:Nat)(m:Int)(pa:Option Addr)(cap:Nat)(K:List Cp):Prop where
 c0:w.cell? ⟨g,0,none⟩=some (.int .i64 m)
 c1:az w ⟨g,1,none⟩ (.slice pa K.length cap)
 own:Ow w base 37 3 pa K.length cap (aF K)
 ap:∀k,aJ pa k->k≠g
 lo:base<=g
variable {w w':World}{base g:Nat}{m:Int}{pa:Option Addr}{cap:Nat}{K:List Cp}
theorem Dm.lt (h:Dm w base g m pa cap K):g<w.heap.size:=World.block_lt_of_cell? _ _ h.c0
theorem Dm.but {S:Nat->Prop}(h:Dm w base g m pa cap K)(hb:ah S w w')(h1:¬S g)(h2:∀k,aJ pa k->¬S k):Dm w' base g m pa cap K :=
 ⟨ag hb h.c0 h1,h.c1.but hb h1,h.own.but hb h2,h.ap,h.lo⟩
theorem Dm.later (h:Dm w base g m pa cap K)(hb:Below w.heap.size w w'):Dm w' base g m pa cap K:=h.but (S:=λ_=>False) (ah.of hb) (λh=>h) (λ_ _ h=>h)
theorem Dm.hb (h:Dm w base g m pa cap K):base<=w.heap.size:=by have:=h.lo;have:=h.lt;omega
theorem Dm.rd (h:Dm w base g m pa cap K):Rd w pa K.length K:=h.own.rd rfl
theorem Dm.mono {b:Nat}(h:Dm w base g m pa cap K)(hb:b<=base):Dm w b g m pa cap K:=⟨h.c0,h.c1,h.own.mono hb,h.ap,Nat.le_trans hb h.lo⟩
theorem Dm.GU (h:Dm w base g m pa cap K):K.length<=cap:=by
 rcases h.own.form with ⟨_,h1,h2⟩|⟨_,_,_,h1⟩
 ·omega
 ·exact h1
structure Wr (w w':World)(g:Nat)(pa pa':Option Addr):Prop where
 but:ah (λk=>k=g\/aJ pa k) w w'
 on:∀k,aJ pa' k->aJ pa k\/w.heap.size<=k
theorem Wr.below {pa':Option Addr}{u:World}(h:Wr w w' g pa pa')(ho:Dm w base g m pa cap K)(hb:Below base u w):Below base u w' :=
 ⟨h.but.os.trans hb.os,h.but.tape.trans hb.tape,h.but.output.trans hb.output,Nat.le_trans hb.size h.but.size,λk hk=>(h.but.block k (by have:=ho.hb;omega) (λe=>by
  rcases e with e|e
  ·have:=ho.lo;omega
  ·have:=(ho.own.bT k e).1;omega)).trans (hb.block k hk)⟩
theorem Wr.pre {W:World}{pa':Option Addr}(hb:Below w.heap.size w W)(h:Wr W w' g pa pa'):Wr w w' g pa pa' :=
 ⟨(ah.of hb).trans h.but,λk hk=>by
  rcases h.on k hk with e|e
  ·exact .inl e
  ·exact .inr (Nat.le_trans hb.size e)⟩
theorem Dm.put {pb:Option Addr}{c:Nat}{M:List Cp}(h:Dm w base g m pa cap K)(hG:Gr pa pb w w')(ho:Ow w' base 37 3 pb M.length c (aF M)):Dm (w'.setCell ⟨g,1,none⟩ (.slice pb M.length c)) base g m pb c M/\Wr w (w'.setCell ⟨g,1,none⟩ (.slice pb M.length c)) g pa pb:=by
 have hn:¬aJ pa g:=λe=>h.ap g e rfl
 have hap:∀k,aJ pb k->k≠g:=λk hk=>by
  rcases hG.on k hk with e|e
  ·exact h.ap k e
  ·have:=h.lt;omega
 exact⟨⟨by rw [World.cell?_setCell_other _ _ _ _ (by simp)];exact ag hG.but h.c0 hn,(h.c1.but hG.but hn).put,ho.but ((ah.refl (λk=>k=g) w').setCell (p:=⟨g,1,none⟩) rfl _) hap,hap,h.lo⟩,
  (hG.but.mono (λk hk=>.inr hk)).setCell (.inl rfl) _,λk hk=>hG.on k hk⟩
theorem ba {P:Program}{md:Region.Mode}{ops:Array Oper}{Q:Exit->Act->World->Prop}{S:World->Prop}{fuel f2:Nat}{listed l2:Array Bool}{a:Act}{w:World}(hl:listed=l2)(hf:fuel=f2)(h:wpAnyH P md ops Q S f2 l2 a w):wpAnyH P md ops Q S fuel listed a w:=by
 subst hl hf
 exact h
theorem bR {P:Program}{w:World}{o:Oper}{a:Act}{K:Act->World->Prop}{Q:Exit->Act->World->Prop}(s x:Operand)(t:TypeId)
  (ho:o.op=.call { callee:=.builtin .append,args:=#[s,x],argTypes:=#[t,t] }) (vs vx:Value) (hs:a.eval s=vs) (hx:a.eval x=vx) (v':Value) (w':World)
  (hr:(Builtin.append_ #[t,t] o.type #[vs,vx]).run P w=.ok v' w') (h:K (a.put o.dst v') w'):o.wp P a w K Q:=by
 unfold Oper.wp execOp;simp only [ho,resolve,invoke,builtin,Sem.run_bind,Sem.run_pure,Result.andThen_ok,List.map_toArray,List.map_cons,List.map_nil,hs,hx,hr];exact h
theorem ix {P:Program}{w:World}{o:Oper}{a:Act}{K:Act->World->Prop}{Q:Exit->Act->World->Prop}(s x:Operand)(t:TypeId)
  (ho:o.op=.call { callee:=.builtin .copy,args:=#[s,x],argTypes:=#[t,t] }) (vs vx:Value) (hs:a.eval s=vs) (hx:a.eval x=vx) (v':Value) (w':World)
  (hr:(Builtin.copy_ #[t,t] o.type #[vs,vx]).run P w=.ok v' w') (h:K (a.put o.dst v') w'):o.wp P a w K Q:=by
 unfold Oper.wp execOp;simp only [ho,resolve,invoke,builtin,Sem.run_bind,Sem.run_pure,Result.andThen_ok,List.map_toArray,List.map_cons,List.map_nil,hs,hx,hr];exact h
theorem jN {P:Program}{w w':World}{ops:Array Oper}{rest:List Oper}{a:Act}{Q:Exit->Act->World->Prop}{d:Option Tmp}{tt:TypeId}{ps:String}{af}{t:TypeId}{x:Operand}{vx v:Value}
  (hr:(Builtin.clear_ #[t] tt #[vx]).run P w=.ok v w') (hx:a.eval x=vx) (h:wpList P ops Q rest (a.put d v) w') :
  wpList P ops Q ({ dst:=d,op:=.call { callee:=.builtin .clear,args:=#[x],argTypes:=#[t] },type:=tt,pos:=ps,after:=af,guard:=none }::rest) a w:=by
 refine wpList_plain rfl λK hK=>?_
 unfold Oper.wp execOp;simp only [resolve,invoke,builtin,Sem.run_bind,Sem.run_pure,Result.andThen_ok,List.map_toArray,List.map_cons,List.map_nil,hx,hr];exact hK _ _ h
def jg (K:List Cp)(i:Int):Bool:=decide (0<=i/\i<(K.length:Int))
theorem kK {i:Int}:jg K i=true↔0<=i/\i<(K.length:Int):=by unfold jg;exact decide_eq_true_iff
theorem aX (h:Dm w base g m pa cap K)(i:Int):Calls Tryz.prog 271 #[.pointer (some ⟨g,0,none⟩),.int .i64 i] w λe w'=>e=.returned (.bool (jg K i))/\w'=w:=by
 have c1:=h.c1.1
 clear h;by_cases h1:0<=i
 ·have hd1:decide (i>=0)=true:=decide_eq_true h1
  by_cases h2:i<(K.length:Int)
  ·have hd2:decide (i<(K.length:Int))=true:=decide_eq_true h2
   rw [show jg K i=true from kK.2 ⟨h1,h2⟩];go_enter Tryz.func271,Tryz.ntmps271
   go_wp2;go_ret;exact⟨rfl,rfl⟩
  ·have hd2:decide (i<(K.length:Int))=false:=decide_eq_false h2
   rw [show jg K i=false from decide_eq_false (λe=>h2 e.2)];go_enter Tryz.func271,Tryz.ntmps271
   go_wp2;go_ret;exact⟨rfl,rfl⟩
 ·have hd1:decide (i>=0)=false:=decide_eq_false h1
  rw [show jg K i=false from decide_eq_false (λe=>h1 e.1)];go_enter Tryz.func271,Tryz.ntmps271
  go_wp2;go_ret;exact⟨rfl,rfl⟩
theorem Dm.new (w:World)(m:Int)(t:TypeId):Dm (w.alloc (.cells #[.int .i64 m,.slice none 0 0] t)) w.heap.size w.heap.size m none 0 [] :=
 ⟨by simp [go_sem],⟨by simp [go_sem],by simp [go_sem]⟩,Ow.nil _ _ _ _,λk hk=>(by obtain⟨_,e,_⟩:=hk;cases e),Nat.le_refl _⟩
theorem bU (m:Int)(w:World)(h1:1<=m)(h2:m<=32) :
  Calls Tryz.prog 174 #[.int .i64 m] w λe w'=>∃g,e=.returned (.tuple #[.pointer (some ⟨g,0,none⟩),.int .i64 0])/\Dm w' w.heap.size g m none 0 []/\Below w.heap.size w w':=by
 have hd1:decide (m<1)=false:=decide_eq_false (by omega)
 have hd2:decide (m>32)=false:=decide_eq_false (by omega)
 have HO:=ab (Dm.new w m 282)
 clear h1 h2;go_enter Tryz.func174,Tryz.ntmps174
 go_wp2;exact bodyPost_ret (v:=.tuple #[.pointer (some ⟨w.heap.size,0,none⟩),.int .i64 0]) (by simp [results,Tryz.results174,go_sem]) rfl ⟨w.heap.size,rfl,HO.out,ae _ _⟩
end Go.Proofs.YtffmodpgddecnaaGreatDoor.M
